/- What is proved here: the contract of the program's ordered (index): sorted, of each key the last. Condition: lists of at most 1000 items. -/
import Derived.Test.YtihjfnlimdcmkaaDoorS8w
import Derived.Test.YtihjfnlimdcmkaaDoorP8a
import Derived.Test.YtihjfnlimdcmkaaDoorR8c
import Derived.Test.YtihjfnlimdcmkaaDoorQ8a
namespace Go.Proofs.YtihjfnlimdcmkaaDoor.Gf
open Go Go.Joins Go.ChangeShapes Go.WideShapes Go.ChangeAt Go.RowKit Go.Deep Go.Shelf Go.Lib Go.Sort Go.Proofs Go.Proofs.YtihjfnlimdcmkaaDoor.By Go.Proofs.YtihjfnlimdcmkaaDoor.Qt

set_option maxRecDepth 100000 in
theorem pcompare_any (a b : Nat) (w : World) : Calls Tryd.prog 53 #[.int .u64 (a : Int), .int .u64 (b : Int)] w fun e w' => e = .returned (.int .i64 (if a < b then -1 else if b < a then 1 else 0)) ∧ w = w' := by
  have n1 : ((a : Int) != (a : Int)) = false := by simp
  have n2 : ((b : Int) != (b : Int)) = false := by simp
  rcases Nat.lt_trichotomy a b with h | rfl | h
  · rw [if_pos h]
    have h1 : (a : Int) < (b : Int) := by omega
    go_enter Tryd.func53, Tryd.ntmps53
    go_wp2
    go_ret
    exact ⟨rfl, rfl⟩
  · rw [if_neg (Nat.lt_irrefl _), if_neg (Nat.lt_irrefl _)]
    go_enter Tryd.func53, Tryd.ntmps53
    go_wp2
    go_ret
    exact ⟨rfl, rfl⟩
  · rw [if_neg (by omega), if_pos h]
    have h1 : ¬ (a : Int) < (b : Int) := by omega
    have h2 : (b : Int) < (a : Int) := by omega
    have h3 : ¬ a < b := by omega
    go_enter Tryd.func53, Tryd.ntmps53
    go_wp2
    go_ret
    exact ⟨rfl, rfl⟩
set_option maxRecDepth 100000 in
theorem closure1 (x y : Itm) (W : World) : Calls Tryd.prog 52 #[TV x, TV y] W fun e w' => e = .returned (.int .i64 (cfK x y)) ∧ ∃ q os', w' = grow (W.drewN q) os' := by
  have hcon := pcompare_any x.key y.key
  unfold cfK TV
  generalize (if x.key < y.key then (-1 : Int) else if y.key < x.key then 1 else 0) = r at hcon ⊢
  go_enter Tryd.func52, Tryd.ntmps52
  go_wp2_with (go_at_call 53; refine (hcon _).mono ?_; rintro e w' ⟨rfl, rfl⟩)
  go_ret
  exact ⟨rfl, 0, _, by rw [alloc_eq_grow, alloc_eq_grow, grow_grow]; rfl⟩
set_option maxRecDepth 100000 in
theorem closure2 (x y : Itm) (W : World) : Calls Tryd.prog 55 #[TV x, TV y] W fun e w' => e = .returned (.bool (decide (x.key = y.key))) ∧ ∃ q os', w' = grow (W.drewN q) os' := by
  have hd : ((x.key : Int) == (y.key : Int)) = decide (x.key = y.key) := by rw [Bool.eq_iff_iff]; simp; omega
  unfold TV
  generalize x.key = a at *
  generalize y.key = b at *
  generalize decide (a = b) = r at *
  go_enter Tryd.func55, Tryd.ntmps55
  go_wp2
  go_ret
  exact ⟨rfl, 0, _, by rw [alloc_eq_grow, alloc_eq_grow, grow_grow]; rfl⟩
theorem cmpLays (blk off size : Nat) (w : World) : CmpLays Tryd.prog 52 #[] itV 4 cfK blk off size w := fun _ _ _ _ x y => closure1 x y _
theorem eqLays (blk off size : Nat) (w : World) : EqLays Tryd.prog 55 #[] 4 blk off size w := fun _ _ _ _ x y => closure2 x y _
theorem run_some_nilT (w : World) (a : Addr) (n c : Nat) : (binOp .eql 22 (.slice (some a) n c) (.slice none 0 0)).run Tryd.prog w = .ok (.bool false) w := by
  have h : ∀ d : Nat, (Op.equalIn (d + 1) 22 (.slice (some a) n c) (.slice none 0 0)).run Tryd.prog w = .ok false w := fun d => by
    simp [Op.equalIn, run_underlying Tryd.underlying22]
  simp only [binOp]
  simp [Op.equal, Op.maxDepth, h 9999]
set_option maxRecDepth 100000 in
theorem pcloneT_any (a : Addr) (c : Nat) (L : List Itm) (w : World) (s : It w (.slice (some a) L.length c) L) (hl : L.length ≤ 100000) : Calls Tryd.prog 49 #[.slice (some a) L.length c] w fun e w' => (∃ v, e = .returned v ∧ OwT w' w.heap.size v L) ∧ Below w.heap.size w w' := by
  obtain ⟨n, hn⟩ : ∃ n, n = L.length := ⟨_, rfl⟩
  have HS := Lib.hid s
  have HL : Hid (([] : List Itm).length + L.length ≤ 100000000) := by show _ ≤ _; simp; omega
  rw [← hn] at HS ⊢
  clear s hn hl
  have hq := run_some_nilT w a n c
  go_enter Tryd.func49, Tryd.ntmps49
  go_wp2_with (at_builtin; refine app_it (dst := some 7) ?_ ?_ (owT_empty w (Nat.le_refl _)) (it_below HS.out ((Below.refl w.heap.size w).alloc (Nat.le_refl _) _)) HL.out (by simp) ?_; exact rfl; exact rfl; intro v5 w5 ho5 hg5; have HO5 := Lib.hid ho5; have HG5 := Lib.hid hg5; clear ho5 hg5)
  go_ret
  exact ⟨⟨_, rfl, by simpa using HO5.out⟩, below_grownT ((Below.refl w.heap.size w).alloc (Nat.le_refl _) _) HG5.out (owT_empty w (Nat.le_refl _)) (by simp) (Nat.le_refl _)⟩
def slenT : Value → Nat
  | .slice _ n _ => n
  | _ => 0
def saddr : Value → Option Addr
  | .slice a _ _ => a
  | _ => none
/-- Items of the call's own, as a row. -/
theorem holds_of {W : World} {base g n cap : Nat} {L : List Itm} (h : OwT W base (.slice (some ⟨g, 0, none⟩) n cap) L) : HoldsK itV 4 W g 0 L.toArray ∧ base ≤ g ∧ g < W.heap.size ∧ n = L.length ∧ n ≤ cap ∧ cap ≤ maxLen := by
  obtain ⟨h0, h1, ⟨h2, -⟩ | ⟨g', cap', cur, h2, hg, hb, hn, hm, hsz, ht⟩⟩ := h
  · cases h2
  · obtain ⟨rfl, rfl, rfl⟩ : g = g' ∧ n = L.length ∧ cap = cap' := by simpa using h2
    refine ⟨fun j hj => ?_, hg, lt_of_some hb, rfl, hn, hm⟩
    have hj' : j < L.length * 4 := by simpa using hj
    refine ⟨?_, frozen_of_row W g (0 + j) _ _ hb⟩
    rw [Nat.zero_add, cell_of_row W g j _ _ _ hb, get_flatK _ _ _ _ (by simpa using hj')]
    have e := cellsT_at L (j / 4) (j % 4) (by omega) (Nat.mod_lt _ (by decide))
    rw [show j / 4 * 4 + j % 4 = j by omega, ← ht, List.getElem?_take, if_pos hj', Array.getElem?_toList] at e
    rw [e]
    have e2 : L.toArray[j / 4]! = L.getD (j / 4) z0 := by simp [List.getD, show j / 4 < L.length by omega]
    rw [e2]
    have h4 : j % 4 < (itV (L.getD (j / 4) z0)).length := Nat.mod_lt _ (by decide)
    rw [List.getElem?_eq_getElem h4]
    simp only [id_eq]
    rw [getElem!_pos (itV (L.getD (j / 4) z0)) (j % 4) h4]
/-- What a row of the sort's holds, as a slice of items. -/
theorem it_of {w0 W : World} {g q cap : Nat} {d0 d : Array Itm} (S : SWK itV 4 w0 g 0 d W) (R : RowK itV 4 w0 g 0 d0) (hs : d.size = d0.size) (hq : q ≤ d.size) (hc : q ≤ cap) (hm : cap ≤ maxLen) (hok : ∀ x ∈ d.toList.take q, ItOk x) : It W (.slice (some ⟨g, 0, none⟩) q cap) (d.toList.take q) := by
  have hl : (d.toList.take q).length = q := by rw [List.length_take, Array.length_toList]; omega
  refine ⟨hok, _, _, by rw [hl], by omega, hm, fun _ => ⟨g, 0, rfl, fun j u hu => ?_⟩⟩
  have hj : j < q * 4 := by
    have := (List.getElem?_eq_some_iff.1 hu).1
    rwa [cellsT_length, hl] at this
  have c := (HoldsK.cell (S.holds R.hblk R.hH hs) (i := j / 4) (c := j % 4) (by omega) (Nat.mod_lt _ (by decide))).1
  rw [show 0 + j / 4 * 4 + j % 4 = 0 + j by omega] at c
  rw [c]
  have e := cellsT_at (d.toList.take q) (j / 4) (j % 4) (by omega) (Nat.mod_lt _ (by decide))
  rw [show j / 4 * 4 + j % 4 = j by omega, hu] at e
  have e2 : (d.toList.take q).getD (j / 4) z0 = d[j / 4]! := by
    rw [getD_arr (by omega)]
    simp [List.getD, show j / 4 < q by omega]
  rw [e2] at e
  have h4 : j % 4 < (itV d[j / 4]!).length := Nat.mod_lt _ (by decide)
  rw [List.getElem?_eq_getElem h4] at e
  rw [getElem!_pos (itV d[j / 4]!) (j % 4) h4]
  exact e.symm
/-- What the sort leaves of the world. -/
theorem below_swk {B k g off : Nat} {w0 W : World} {d : Array Itm} (S : SWK itV k w0 g off d W) (hg : B ≤ g) (hb : g < w0.heap.size) : Below B w0 W := by
  obtain ⟨n, os, rfl⟩ := S
  refine ⟨rfl, rfl, rfl, ?_, fun i hi => ?_⟩
  · have := size_sortWorldK_c itV k w0 g off n d os
    omega
  · unfold sortWorldK
    rw [heap_grow_old _ _ (by rw [size_putRowK]; show i < w0.heap.size; omega)]
    show (w0.heap.modify g _)[i]? = _
    rw [Array.getElem?_modify, if_neg (by omega)]
theorem nasc_len {L : List Itm} (h : ¬ Asc L) : 2 ≤ L.length := by
  match L with
  | [] => exact absurd List.Pairwise.nil h
  | [x] => exact absurd (List.pairwise_singleton _ _) h
  | x :: y :: r => simp
set_option maxRecDepth 100000 in
theorem psort_any (g cap : Nat) (d0 d : Array Itm) (w0 w : World) (R : RowK itV 4 w0 g 0 d0) (hs : d0.size = d.size) (S : SWK itV 4 w0 g 0 d w) (hsz : d.size ≤ 1000000) : Calls Tryd.prog 51 #[.slice (some ⟨g, 0, none⟩) d.size cap, .func (.func 52) #[] #[]] w fun e w' => e = .returned (.tuple #[]) ∧ ∃ d' : Array Itm, d'.size = d.size ∧ Srt d'.toList ∧ Kq d'.toList d.toList ∧ SWK itV 4 w0 g 0 d' w' := by
  have hc := stable_any lgP 52 #[] g 0 cap d0 d w0 w R (enters_of Tryd.func52 (by kernel_rfl) rfl) (cmpLays _ _ _ _) hs S hsz
  have HC := Lib.hid hc
  clear hc S
  go_enter Tryd.func51, Tryd.ntmps51
  go_wp2_with (go_at_call 59; refine HC.out.mono ?_; rintro e w2 ⟨rfl, hd⟩)
  go_end0
  exact ⟨rfl, hd⟩
set_option maxRecDepth 100000 in
set_option maxHeartbeats 6400000 in
theorem porder_any (v : Value) (L : List Itm) (w : World) (s : It w v L) (hlen : L.length ≤ 1000) : Calls Tryd.prog 41 #[v] w (LI w (sortL L)) := by
  have PA := Lib.hid (pasc_any v L w s)
  by_cases hA : Asc L
  · rw [decide_eq_true hA] at PA
    have HS : Hid (It w v (sortL L)) := by show It _ _ _; rw [sort_asc hA]; exact s
    obtain ⟨a, c, rfl, -, -⟩ := it_form s
    unfold LI
    generalize L.length = n at *
    clear s hA hlen
    go_enter Tryd.func41, Tryd.ntmps41
    go_wp2_with fail
    refine PA.out.mono ?_
    rintro e w2 ⟨rfl, hb2⟩
    have B2 := Lib.hid hb2
    clear hb2
    go_wp2
    go_ret
    exact ⟨⟨_, rfl, it_below HS.out B2.out⟩, B2.out⟩
  · rw [decide_eq_false hA] at PA
    have h2 := nasc_len hA
    obtain ⟨b, o, c, rfl, -, -, -⟩ := it_cells s (by omega)
    have CL := Lib.hid (fun W (hW : Below w.heap.size w W) => pcloneT_any _ c L W (it_below s hW) (by omega))
    have OKL := Lib.hid s.1
    obtain ⟨n, hn⟩ : ∃ n, n = L.length := ⟨_, rfl⟩
    have HN := Lib.hid (And.intro hn (And.intro h2 hlen))
    rw [← hn] at CL ⊢
    rw [← hn] at PA
    clear s hA h2 hlen hn
    unfold LI
    go_enter Tryd.func41, Tryd.ntmps41
    go_wp2_with fail
    refine PA.out.mono ?_
    rintro e w2 ⟨rfl, hb2⟩
    have B2 := Lib.hid hb2
    clear hb2 PA
    go_wp2_with fail
    refine (CL.out _ B2.out).mono ?_
    rintro e w3 ⟨⟨v3, rfl, ho3⟩, hb3⟩
    have B3 := Lib.hid (bt B2.out hb3)
    obtain ⟨a3, c3, rfl, -, -⟩ := owT_form ho3
    have hl3 : 2 ≤ L.length := HN.out.2.1
    obtain ⟨b3, o3, c3', hv3, -⟩ := it_cells (owT_it ho3) (by omega)
    obtain ⟨g, rfl⟩ : ∃ g, a3 = some ⟨g, 0, none⟩ := by
      obtain ⟨-, -, ⟨h, -⟩ | ⟨g, cap', cur, h, -⟩⟩ := ho3
      · have : L.length = 0 := congrArg slenT h
        omega
      · exact ⟨g, congrArg saddr h⟩
    obtain ⟨hH, hg1, hg2, -, hc1, hc2⟩ := holds_of ho3
    have R : Aside (RowK itV 4 w3 g 0 L.toArray) := ⟨fun _ => rfl, fun x v hv => by simp [itV] at hv; rcases hv with rfl | rfl | rfl | rfl <;> rfl, hH, hg2⟩
    have S3 : Aside (SWK itV 4 w3 g 0 L.toArray w3) := SWK.start hH
    have G : Aside (w.heap.size ≤ g ∧ g < w3.heap.size ∧ L.length ≤ c3 ∧ c3 ≤ maxLen) := ⟨Nat.le_trans B2.out.size hg1, hg2, hc1, hc2⟩
    have RV := Lib.hid (rev_any lgP2 c3 L.toArray w3 R.out rfl S3.out (by simp; omega) (by have := HN.out.2.2; simp; omega))
    have SRT := Lib.hid (fun (d : Array Itm) W h1 h2 h3 => psort_any g c3 L.toArray d w3 W R.out h1 h2 h3)
    have CMP := Lib.hid (fun (d : Array Itm) W h1 h2 h3 h4 h5 => comp_any lgP2 55 #[] c3 d W R.out (enters_of Tryd.func55 (by kernel_rfl) rfl) (eqLays _ _ _ _) h1 h2 h3 h4 h5)
    rw [show L.toArray.size = L.length from rfl] at RV SRT CMP
    rw [← HN.out.1] at RV SRT CMP ⊢
    clear ho3 hb3 hl3 hv3 hH hg1 hg2 hc1 hc2 CL B2
    go_wp2_with fail
    refine RV.out.mono ?_
    rintro e w4 ⟨rfl, d4, hs4, hl4, hS4⟩
    have SR4 := Lib.hid (SRT.out d4 w4 hs4.symm hS4 (by have := HN.out; omega))
    rw [hs4] at SR4
    have D4 : Aside (d4.size = n ∧ d4.toList = L.reverse) := ⟨hs4, by rw [hl4]⟩
    clear hs4 hl4 hS4 RV SRT
    go_wp2_with fail
    refine SR4.out.mono ?_
    rintro e w5 ⟨rfl, d5, hs5, hr5, hk5, hS5⟩
    have CM5 := Lib.hid (CMP.out d5 w5 hs5.symm hS5 (by have := HN.out; omega) (by have := G.out; have := HN.out.1; omega) (by have := HN.out; omega))
    rw [hs5] at CM5
    have D5 : Aside (d5.size = n ∧ cp none d5.toList = sortL L) := ⟨hs5, ordered_eq hr5 (by rw [← D4.out.2]; exact hk5)⟩
    clear hs5 hr5 hk5 hS5 CMP SR4
    go_wp2_with fail
    refine CM5.out.mono ?_
    rintro e w6 ⟨q, d6, rfl, hq6, hs6, ht6, hS6⟩
    rw [D5.out.2] at ht6
    have I6 : Aside (It w6 (.slice (some ⟨g, 0, none⟩) q c3) (sortL L)) := by
      show It _ _ _
      rw [← ht6]
      refine it_of hS6 R.out (by rw [hs6]; exact HN.out.1) (by omega) (by have := G.out; have := HN.out.1; omega) G.out.2.2.2 fun x hx => ?_
      rw [ht6] at hx
      exact OKL.out x (mem_sortL L x hx)
    have B6 : Aside (Below w.heap.size w w6) := B3.out.trans (below_swk hS6 G.out.1 G.out.2.1)
    clear hq6 hs6 ht6 hS6 CM5
    go_wp2
    go_ret
    exact ⟨⟨_, rfl, I6.out⟩, B6.out⟩
end Go.Proofs.YtihjfnlimdcmkaaDoor.Gf
