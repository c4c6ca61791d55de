/- What is proved here: the contract of the reference's Decode of a journal (layer 14). No condition. -/
import Derived.Test.YtbkhedfhnmkodaaDoorR14a
import Derived.Test.YtbkhedfhnmkodaaDoorQ14
namespace Go.Proofs.YtbkhedfhnmkodaaDoor.Gf
open Go Go.Joins Go.ChangeShapes Go.WideShapes Go.ChangeAt Go.RowKit Go.Deep Go.Proofs.YtbkhedfhnmkodaaDoor.By Go.Proofs.YtbkhedfhnmkodaaDoor.Crc Go.Proofs.YtbkhedfhnmkodaaDoor.Qt

/-- A call that answers the keys of a journal and the number of bytes of their entries. -/
def DO14 (w : World) (l : List Nat) (e : Ending) (w' : World) : Prop := (∃ n v, e = .returned (.tuple #[v, .int .i64 ((12 * n : Nat) : Int)]) ∧ DecJ l n ∧ OwU w' w.heap.size v (keysJ l n)) ∧ Below w.heap.size w w'
theorem w64n (a b k : Nat) (h : b = a + k) (h2 : b < 100000000) : wrap64 ((a : Int) + (k : Int)) = (b : Int) ∧ IntKind.i64.wrap ((a : Int) + (k : Int)) = (b : Int) := by
  have e : (a : Int) + (k : Int) = (b : Int) := by omega
  rw [e]
  exact ⟨by unfold wrap64; omega, IntWalk.i64_in _ (by omega)⟩
theorem meas14b (n A B : Nat) (h : B = A + 12) (h2 : B ≤ n) : n + 1 - (intOf (.int .i64 (B : Int))).toNat < n + 1 - (intOf (.int .i64 (A : Int))).toNat := by
  show n + 1 - (B : Int).toNat < n + 1 - (A : Int).toNat
  omega
/-- append of one key, onto a list of the call's own. -/
theorem app_u1 {ops : Array Oper} {rest : List Oper} {dst : Option Tmp} {s x : Operand} {pos : String} {after : Array Edge} {r : TypeId} {a : Act} {W : World} {Q : Exit → Act → World → Prop} {base g k : Nat} {v : Value} {l : List Nat}
    (hs : a.eval s = v) (hx : a.eval x = .slice (some ⟨g, 0, none⟩) 1 1) (hv : OwU W base v l) (hg : W.heap[g]? = some (.cells #[.int .u64 (k : Int)] 37 (0, 0))) (hk : k < 18446744073709551616) (hne : v.ownBlock ≠ some g) (hlm : l.length + 1 ≤ 100000000) (hb : base ≤ W.heap.size)
    (h : ∀ v' w', OwU w' base v' (l ++ [k]) → W.grownBy w' v.ownBlock → wpList Tryd.prog ops Q rest (a.put dst v') w') : wpList Tryd.prog ops Q (⟨dst, .call { callee := .builtin .append, args := #[s, x], argTypes := #[22, 22] }, r, pos, after, none⟩ :: rest) a W :=
  app_g lsU hs hx hv (rd_single (cs := [.int .u64 (k : Int)]) (rd_u64 hk) hg ⟨trivial, hne⟩) (by rw [intsU_length]; exact hlm) hb fun v' w' h1 h2 _ => h v' w' (by unfold OwU; rw [intsU_app]; exact h1) h2
theorem bel_al14 (w : World) (o : Obj) : Below w.heap.size w (w.alloc o) := (Below.refl w.heap.size w).alloc (Nat.le_refl _) o
theorem owu_ne {w : World} {base g : Nat} {v : Value} {l : List Nat} (h : OwU w base v l) (hg : w.heap.size ≤ g) : v.ownBlock ≠ some g := fun e => by
  have := (og_lt h g e).2
  omega
set_option maxRecDepth 100000 in
set_option maxHeartbeats 6400000 in
theorem rdecode14_any (v : Value) (l : List Nat) (w : World) (s : Sl w v l) (hl : l.length ≤ 1000000) : Calls Tryd.prog 11 #[v] w (DO14 w l) := by
  obtain ⟨a, c, rfl, hc, hm⟩ := sl_form s
  obtain ⟨n, hn⟩ : ∃ n, n = l.length := ⟨_, rfl⟩
  have HN := Lib.hid (And.intro hn hl)
  have HC := Lib.hid (And.intro hc hm)
  have S := Lib.hid s
  rw [← hn] at S HC ⊢
  clear hn hl s hc hm
  unfold DO14
  go_enter Tryd.func11, Tryd.ntmps11
  go_wp2_with fail
  go_loopw [4, 5] (fun ks t wr => ∃ i : Nat, t = .int .i64 ((12 * i : Nat) : Int) ∧ (∀ j, j < i → okJ l j) ∧ OwU wr w.heap.size ks (keysJ l i) ∧ Below w.heap.size w wr) (fun _ t _ => n + 1 - (intOf t).toNat)
  case atStart => exact ⟨0, rfl, fun j hj => absurd hj (Nat.not_lt_zero j), owu_nil w w.heap.size, Below.refl _ _⟩
  case round =>
    obtain ⟨i, rfl, hok, hO, hB⟩ := hrel
    obtain ⟨oa, oc, rfl⟩ := owu_form hO
    rename World => wl
    obtain ⟨A, hA⟩ : ∃ A, A = 12 * i := ⟨_, rfl⟩
    obtain ⟨A8, hA8⟩ : ∃ B, B = A + 8 := ⟨_, rfl⟩
    obtain ⟨A12, hA12⟩ : ∃ B, B = A + 12 := ⟨_, rfl⟩
    have hAn : A ≤ n := by rw [hA, HN.out.1]; exact decJ_le hok
    have hn6 : n ≤ 1000000 := by rw [HN.out.1]; exact HN.out.2
    have e8 := w64n A A8 8 hA8 (by omega)
    have e12 := w64n A A12 12 hA12 (by omega)
    rw [show ((8 : Nat) : Int) = 8 from rfl] at e8
    rw [show ((12 : Nat) : Int) = 12 from rfl] at e12
    obtain ⟨f8, g8⟩ := e8
    obtain ⟨f12, g12⟩ := e12
    rw [keysJ_length] at hO ⊢
    rw [← hA]
    have HOK := Lib.hid hok
    have HO := Lib.hid hO
    have HB := Lib.hid hB
    have HAA := Lib.hid (And.intro hA (And.intro hA8 hA12))
    clear hok hO hB
    by_cases hg : A12 ≤ n
    case neg =>
      have l1 : decide ((A12 : Int) ≤ (n : Int)) = false := decide_eq_false (by omega)
      have l2 : decide (A12 ≤ n) = false := decide_eq_false hg
      have HG := Lib.hid hg
      clear hA hA8 hA12 hAn hn6 hg
      go_wp2_with fail
      go_quiet (fail)
      have hd := bt HB.out (below_drewN wl nq)
      have HO9 := Lib.hid (owu_below HO.out (below_drewN wl nq))
      clear HB HO
      generalize wl.drewN nq = W9 at *
      go_wp2
      go_ret2
      exact ⟨⟨i, _, by rw [HAA.out.1]; rfl, ⟨HOK.out, fun h => HG.out (by have := h.1; have := HAA.out; have := HN.out.1; omega)⟩, HO9.out⟩, hd⟩
    case pos =>
      have l1 : decide ((A12 : Int) ≤ (n : Int)) = true := decide_eq_true (by omega)
      have l2 : decide (A12 ≤ n) = true := decide_eq_true hg
      obtain ⟨b, o, cap, hv, hc1, hm1, hk⟩ := sl_cells S.out (by have := HN.out.1; omega)
      obtain ⟨rfl, hn', rfl⟩ : a = some ⟨b, o, none⟩ ∧ n = l.length ∧ c = cap := by simpa using hv
      have SA := Lib.hid (sl_below (sl_cut (w := w) (p := A) (c := 8) S.out.1 hn'.symm hm1 (by omega) (by rw [hn']; exact hk) (by omega)) HB.out)
      have SB := Lib.hid (sl_below (sl_cut (w := w) (p := A8) (c := 4) S.out.1 hn'.symm hm1 (by omega) (by rw [hn']; exact hk) (by omega)) HB.out)
      have HSZ : Hid (((l.drop A).take 8).length = 8) := by show _ = _; rw [List.length_take, List.length_drop]; omega
      rw [show (8 : Nat) = A8 - A by omega] at SA
      rw [show (4 : Nat) = A12 - A8 by omega] at SB
      have r0 : (0 : Int) ≤ (A : Int) := by omega
      have r1 : (A : Int) ≤ (A8 : Int) := by omega
      have r2 : (A8 : Int) ≤ (c : Int) := by omega
      have r3 : (A8 : Int) ≤ (A12 : Int) := by omega
      have r4 : (A12 : Int) ≤ (c : Int) := by omega
      have r5 : ¬ c = A := by omega
      have r6 : ¬ c = A8 := by omega
      have HG := Lib.hid hg
      clear hv hk hn' hc1 hm1 hA hA8 hA12 hAn hn6 hg
      go_wp2_with fail
      refine wp_onlyN ?_
      refine wp_region_headsS (fun w' => Below wl.heap.size wl w') [0, 1, 2, 3, 4, 5, 6, 7, 8, 9, 10, 13, 14, 15, 16, 17, 18, 19] 4 (by kernel_rfl) (fun _ _ _ _ _ h => h.elim) (by kernel_rfl) (by rfl) (by rfl) (Below.refl _ _).drew ?_
      simp only [pickOps, List.filterMap_cons, List.filterMap_nil, List.getElem?_toArray, List.getElem?_cons_zero, List.getElem?_cons_succ]
      refine wpHeads_step (fun K hK => ?_)
      go_simp
      refine ⟨_, fun _ _ => rfl, hK _ ?_⟩
      clear hK K
      refine wpHeads_step (fun K hK => ?_)
      go_simp
      refine ⟨_, fun _ _ => rfl, hK _ ?_⟩
      clear hK K
      refine wpHeads_step (fun K hK => ?_)
      go_simp
      refine ⟨_, fun _ _ => rfl, hK _ ?_⟩
      clear hK K
      refine wpHeads_step (fun K hK => ?_)
      go_simp
      refine ⟨_, fun _ _ => rfl, hK _ ?_⟩
      clear hK K
      refine wpHeads_step (fun K hK => ?_)
      go_simp
      refine ⟨_, fun _ _ => rfl, hK _ ?_⟩
      clear hK K
      refine wpHeads_step (fun K hK => ?_)
      go_simp
      refine ⟨_, fun _ _ => rfl, hK _ ?_⟩
      clear hK K
      refine wpHeads_step (fun K hK => ?_)
      go_simp
      refine ⟨_, fun _ _ => rfl, hK _ ?_⟩
      clear hK K
      refine wpHeads_step (fun K hK => ?_)
      go_simp
      refine ⟨_, fun _ _ => rfl, hK _ ?_⟩
      clear hK K
      refine wpHeads_step (fun K hK => ?_)
      go_simp
      refine ⟨_, fun _ _ => rfl, hK _ ?_⟩
      clear hK K
      refine wpHeads_step (fun K hK => ?_)
      go_simp
      refine ⟨_, fun _ _ => rfl, hK _ ?_⟩
      clear hK K
      refine wpHeads_step (fun K hK => ?_)
      go_simp
      refine ⟨_, fun _ _ => rfl, hK _ ?_⟩
      clear hK K
      refine wpHeads_step (fun K hK => ?_)
      go_simp
      refine ⟨_, fun _ _ => rfl, hK _ ?_⟩
      clear hK K
      refine wpHeads_step (fun K hK => ?_)
      go_simp
      refine ⟨_, fun _ _ => rfl, hK _ ?_⟩
      clear hK K
      refine wpHeads_step (fun K hK => ?_)
      go_simp
      refine ⟨_, fun _ _ => rfl, hK _ ?_⟩
      clear hK K
      refine wpHeads_step (fun K hK => ?_)
      go_simp
      refine ⟨_, fun _ _ => rfl, hK _ ?_⟩
      clear hK K
      refine wpHeads_step (fun K hK => ?_)
      go_simp
      refine ⟨_, fun _ _ => rfl, hK _ ?_⟩
      clear hK K
      refine wpHeads_step (fun K hK => ?_)
      go_simp
      refine ⟨_, fun _ _ => rfl, hK _ ?_⟩
      clear hK K
      refine wpHeads_step (fun K hK => ?_)
      go_simp
      refine ⟨.string (strOf ((l.drop A8).take (A12 - A8))), fun w' hw' => by rw [conv_sl (sl_below SB.out hw')]; rfl, hK _ ?_⟩
      clear hK K
      refine wpHeads_nil ?_
      refine held_gw 11 rfl (by kernel_rfl) (by kernel_rfl) fun K hK => ?_
      go_simp
      go_at_call 15
      refine (check_any _ _ _ (sl_drew SA.out)).mono ?_
      rintro e w3 ⟨⟨s3, rfl, ho3⟩, hb3⟩
      have hb4 : Below wl.heap.size wl w3 := (Below.refl wl.heap.size wl).drew.trans (hb3.mono (Nat.le_refl _))
      refine hK _ _ hb4 ?_
      clear hK K hb3
      obtain ⟨aa, na, ca, rfl, -⟩ := own_form ho3
      have u1 := conv_sl ho3.sl
      refine held_gw 12 rfl (by kernel_rfl) (by kernel_rfl) fun K hK => ?_
      go_simp
      refine hK _ _ hb4 ?_
      clear hK K
      refine held_gw 20 rfl (by kernel_rfl) (by kernel_rfl) fun K hK => ?_
      go_simp
      refine hK _ _ hb4 ?_
      clear hK K
      refine held_gw 21 rfl (by kernel_rfl) (by kernel_rfl) fun K hK => ?_
      go_simp
      refine hK _ _ hb4 ?_
      clear hK K
      refine wpAnyH_done (by kernel_rfl) ?_ _
      unfold onlyN
      dsimp only
      have hse := str_eq ho3.sl.1 SB.out.1
      have HSE := Lib.hid (str_eq ho3.sl.1 SB.out.1)
      have HB4 := Lib.hid (bt HB.out hb4)
      have HO4 := Lib.hid (owu_below HO.out hb4)
      have SA4 := Lib.hid (sl_below SA.out hb4)
      clear HB HO SA SB ho3 u1 hb4
      by_cases hk : leL (ext 0 ((l.drop A).take (A8 - A))) = (l.drop A8).take (A12 - A8)
      case neg =>
        rw [decide_eq_false hk] at hse
        rw [hse]
        clear hse
        have HK := Lib.hid hk
        clear hk
        go_wp2_with fail
        go_ret2
        exact ⟨⟨i, _, by rw [HAA.out.1]; rfl, ⟨HOK.out, fun h => HK.out (by have q := h.2; have e := HAA.out; rw [← e.1] at q; rw [show A8 - A = 8 by omega, show A12 - A8 = 4 by omega, e.2.1]; exact q)⟩, HO4.out⟩, HB4.out⟩
      case pos =>
        rw [decide_eq_true hk] at hse
        rw [hse]
        clear hse
        have HOK2 : Hid (∀ j, j < i + 1 → okJ l j) := by
          intro j hj
          rcases Nat.lt_or_ge j i with h1 | h1
          · exact HOK.out j h1
          · obtain rfl : j = i := by omega
            have e := HAA.out
            refine ⟨by have := HG.out; have := HN.out.1; omega, ?_⟩
            rw [← e.1]
            rw [show A8 - A = 8 by omega, show A12 - A8 = 4 by omega, e.2.1] at hk
            exact hk
        have HKEY : Hid (keysJ l (i + 1) = keysJ l i ++ [valL ((l.drop A).take (A8 - A))]) := by
          show _ = _
          have e := HAA.out
          rw [keysJ_succ, show A8 - A = 8 by omega, e.1]
          rfl
        have HVL : Hid (valL ((l.drop A).take (A8 - A)) < 18446744073709551616) := by
          show _ < _
          have h1 := valL_lt _ SA4.out.1
          rw [show A8 - A = 8 by have := HAA.out; omega, HSZ.out] at h1
          rw [show A8 - A = 8 by have := HAA.out; omega]
          exact h1
        have HL8 : Hid (((l.drop A).take (A8 - A)).length = 8) := by
          show _ = _
          rw [show A8 - A = 8 by have := HAA.out; omega]
          exact HSZ.out
        have HIN : Hid (i + 1 ≤ 1000000) := by show _ ≤ _; have := HAA.out; have := HG.out; have := HN.out; omega
        clear hk HSZ HOK HSE
        go_wp2_with fail
        refine (rvalue_any _ _ w3 SA4.out (by rw [HL8.out]; decide) (by rw [HL8.out]; exact Nat.le_refl _)).mono ?_
        rintro e w4 ⟨rfl, rfl⟩
        generalize valL ((l.drop A).take (A8 - A)) = K at *
        have HBa := Lib.hid (bt HB4.out (bel_al14 w3 (.cells #[.int .u64 (K : Int)] 37)))
        have HOa := Lib.hid (owu_below HO4.out (bel_al14 w3 (.cells #[.int .u64 (K : Int)] 37)))
        have HNE := Lib.hid (owu_ne HO4.out (Nat.le_refl _))
        have HKL : Hid ((keysJ l i).length + 1 ≤ 100000000) := by show _ ≤ _; rw [keysJ_length]; have := HIN.out; omega
        clear HB4 HO4 SA4
        go_wp2_with (at_builtin; refine app_u1 (dst := some 36) ?_ ?_ HOa.out (heap_alloc_new _ _) HVL.out HNE.out HKL.out HBa.out.size ?_; exact rfl; exact rfl; intro v5 w5 ho5 hg5; rw [← HKEY.out] at ho5; have HB5 := Lib.hid (below_grownG HBa.out hg5 HOa.out HBa.out.size (Nat.le_refl _)); obtain ⟨sa, sc, hv5⟩ := owu_form ho5; subst hv5; have HO5 := Lib.hid ho5; clear ho5 hg5)
        go_roundw
        case rel => exact ⟨i + 1, by rw [HAA.out.2.2, HAA.out.1]; rfl, HOK2.out, HO5.out, HB5.out⟩
        case measure => exact meas14b n A A12 HAA.out.2.2 HG.out
end Go.Proofs.YtbkhedfhnmkodaaDoor.Gf
