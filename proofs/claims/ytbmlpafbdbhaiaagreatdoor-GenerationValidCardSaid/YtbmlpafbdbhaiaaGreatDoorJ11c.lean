/- What is proved here: what layer 11 leans on, out of the older layers. -/
import Derived.Test.YtbmlpafbdbhaiaaGreatDoorJ11b
import Derived.Laws.MakeOwn
import Derived.Maps.OwnSet
namespace Go.Proofs.YtbmlpafbdbhaiaaGreatDoor.Gf
open Go Go.ChangeAt Go.ChangeShapes Go.Deep Go.Joins Go.Lib Go.Maps Go.Proofs Go.Proofs.YtbmlpafbdbhaiaaGreatDoor.By Go.Proofs.YtbmlpafbdbhaiaaGreatDoor.Qt Go.RowKit Go.Shelf Go.Sort Go.WideShapes
set_option maxRecDepth 100000
set_option maxHeartbeats 204800000
theorem psize_any (n : Int) (w : World) (_h : I64b n) : Calls Tryz.prog 96 #[.int .i64 n] w fun e w' => e = .returned (.int .i64 (szI6 n)) ∧ w = w' := by
  by_cases h1 : n < 0
  · have g1 : decide (n < 0) = true := decide_eq_true h1
    unfold szI6
    rw [if_pos (Or.inl h1)]
    go_enter Tryz.func96, Tryz.ntmps96
    go_wp2
    go_ret
    exact ⟨rfl, rfl⟩
  have g1 : decide (n < 0) = false := decide_eq_false h1
  by_cases h2 : 4096 < n
  · have g2 : decide (4096 < n) = true := decide_eq_true h2
    unfold szI6
    rw [if_pos (Or.inr h2)]
    clear _h
    go_enter Tryz.func96, Tryz.ntmps96
    go_wp2
    go_ret
    exact ⟨rfl, rfl⟩
  have g2 : decide (4096 < n) = false := decide_eq_false h2
  unfold szI6
  rw [if_neg (by omega)]
  have e1 : (20 + n + 4 + 8 - 1).tdiv 8 = (n + 31) / 8 := by rw [Int.tdiv_eq_ediv_of_nonneg (by omega)]; congr 1; omega
  obtain ⟨q, hq⟩ : ∃ q, (n + 31) / 8 = q := ⟨_, rfl⟩
  have b1 : 0 ≤ q ∧ q ≤ 600 := by omega
  have b0 : 0 ≤ n ∧ n ≤ 4096 := by omega
  rw [hq] at e1 ⊢
  clear hq _h h1 h2
  go_enter Tryz.func96, Tryz.ntmps96
  go_wp2
  go_ret
  exact ⟨rfl, rfl⟩
/-- A call that answers a list. -/
def LI (w : World) (L : List Itm) (e : Ending) (w' : World) : Prop := (∃ v, e = .returned v ∧ It w' v L) ∧ Below w.heap.size w w'
theorem pvitem_any (x : Itm) (w : World) : Calls Tryz.prog 111 #[TV x] w fun e w' => e = .returned (.bool (decide (okI x))) ∧ Below w.heap.size w w' := by
  have HB := Lh ((Below.refl w.heap.size w).alloc (Nat.le_refl _) (.cells #[.int .u64 (x.key : Int), .int .u32 (x.ck : Int), .int .i64 x.off, .int .i64 x.sz] 56))
  have hd : decide (okI x) = (decide (16 ≤ x.off) && decide (x.off ≤ 1048576) && (x.off.tmod 8 == 0) && decide (0 ≤ x.sz) && decide (x.sz ≤ 4096)) := by
    rw [Bool.eq_iff_iff, decide_eq_true_iff]
    unfold okI
    simp only [decide_eq_true_eq, Bool.and_eq_true, beq_iff_eq]
    constructor
    · rintro ⟨h1, h2, h3, h4, h5⟩; exact ⟨⟨⟨⟨h1, h2⟩, h3⟩, h4⟩, h5⟩
    · rintro ⟨⟨⟨⟨h1, h2⟩, h3⟩, h4⟩, h5⟩; exact ⟨h1, h2, h3, h4, h5⟩
  rw [hd]
  clear hd
  unfold TV
  generalize x.off = off at *
  generalize x.sz = sz at *
  obtain ⟨d1, hd1⟩ : ∃ b, decide (16 ≤ off) = b := ⟨_, rfl⟩
  obtain ⟨d2, hd2⟩ : ∃ b, decide (off ≤ 1048576) = b := ⟨_, rfl⟩
  obtain ⟨d3, hd3⟩ : ∃ b, (off.tmod 8 == 0) = b := ⟨_, rfl⟩
  obtain ⟨d4, hd4⟩ : ∃ b, decide (0 ≤ sz) = b := ⟨_, rfl⟩
  obtain ⟨d5, hd5⟩ : ∃ b, decide (sz ≤ 4096) = b := ⟨_, rfl⟩
  rw [hd1, hd2, hd3, hd4, hd5]
  cases d1
  · clear hd2 hd3 hd4 hd5
    go_enter Tryz.func111, Tryz.ntmps111
    go_wp2
    go_ret
    exact ⟨rfl, HB.out⟩
  cases d2
  · clear hd3 hd4 hd5
    go_enter Tryz.func111, Tryz.ntmps111
    go_wp2
    go_ret
    exact ⟨rfl, HB.out⟩
  cases d3
  · clear hd4 hd5
    go_enter Tryz.func111, Tryz.ntmps111
    go_wp2
    go_ret
    exact ⟨rfl, HB.out⟩
  cases d4
  · clear hd5
    go_enter Tryz.func111, Tryz.ntmps111
    go_wp2
    go_ret
    exact ⟨rfl, HB.out⟩
  cases d5
  all_goals
    go_enter Tryz.func111, Tryz.ntmps111
    go_wp2
    go_ret
    exact ⟨rfl, HB.out⟩
/-- The keys ascend up to the i-th item. -/
def ascTo (L : List Itm) (i : Nat) : Prop := ∀ j, j + 1 < i → (L.getD j z0).key < (L.getD (j + 1) z0).key
theorem asc_of {L : List Itm} {i : Nat} (hi : L.length ≤ i) (h : ascTo L i) : Asc L := by
  refine List.pairwise_iff_getElem.2 fun i j hi' hj hij => ?_
  have step : ∀ d, (hd : i + 1 + d < L.length) → L[i].key < (L[i + 1 + d]).key := by
    intro d
    induction d with
    | zero =>
      intro hd
      have := h i (by omega)
      have hd' : i + 1 < L.length := hd
      simpa [List.getD, hd', hi'] using this
    | succ d ih =>
      intro hd
      have h1 := ih (by omega)
      have h2 := h (i + 1 + d) (by omega)
      have hd1 : i + 1 + d < L.length := by omega
      have hd2 : i + 1 + d + 1 < L.length := hd
      have h3 : (L[i + 1 + d]).key < (L[i + 1 + d + 1]).key := by simpa [List.getD, hd1, hd2] using h2
      have h4 : (L[i + 1 + (d + 1)]).key = (L[i + 1 + d + 1]).key := rfl
      omega
  have := step (j - (i + 1)) (by omega)
  simpa [show i + 1 + (j - (i + 1)) = j by omega] using this
theorem asc_at {L : List Itm} (h : Asc L) {j : Nat} (hj : j + 1 < L.length) : (L.getD j z0).key < (L.getD (j + 1) z0).key := by
  have := List.pairwise_iff_getElem.1 h j (j + 1) (by omega) hj (by omega)
  simpa [List.getD, hj, show j < L.length by omega] using this
instance (L : List Itm) : Decidable (Asc L) := by unfold Asc; infer_instance
theorem pasc_any (v : Value) (L : List Itm) (w : World) (s : It w v L) : Calls Tryz.prog 112 #[v] w fun e w' => e = .returned (.bool (decide (Asc L))) ∧ Below w.heap.size w w' := by
  obtain ⟨a, c, rfl, -, hm⟩ := it_form s
  obtain ⟨n, hn⟩ : ∃ n, n = L.length := ⟨_, rfl⟩
  have hml : n ≤ maxLen := by
    obtain ⟨_, _, h, h1, h2⟩ := it_form s
    omega
  unfold maxLen at hml
  rw [← hn]
  have N := Lh hn
  have S := Lh s
  rw [← hn] at S
  clear hn s hm
  go_enter Tryz.func112, Tryz.ntmps112
  go_wp2_with fail
  go_loopw [3] (fun t wr => ∃ i : Nat, i ≤ n ∧ t = .int .i64 ((i : Int) + 1) ∧ ascTo L (i + 1) ∧ Below w.heap.size w wr) (fun t _ => n + 1 - (intOf t).toNat)
  case atStart => exact ⟨0, by omega, rfl, (fun j hj => by omega), Below.refl _ _⟩
  case round =>
    obtain ⟨i, hi, rfl, hok, hB⟩ := hrel
    by_cases hin : i + 1 < n
    · have hl4 : decide ((i : Int) + 1 < (n : Int)) = true := decide_eq_true (by omega)
      have p0 : (0 : Int) ≤ (i : Int) := by omega
      have p1 : (i : Int) < (n : Int) := by omega
      have p2 : (0 : Int) ≤ (i : Int) + 1 := by omega
      have p3 : (i : Int) + 1 < (n : Int) := by omega
      have e0 : ((i : Int) + 1).toNat = i + 1 := by omega
      have e1 : IntKind.i64.wrap (i : Int) = (i : Int) := IntWalk.i64_in _ (by omega)
      have N' := N.out
      obtain ⟨b1, o1, c1', hv1, -, -, hk1⟩ := it_cells S.out (by omega)
      obtain ⟨rfl, -, -⟩ : a = some ⟨b1, o1, none⟩ ∧ n = L.length ∧ c = c1' := by simpa using hv1
      have k1 := ((hk1 i (by omega)).below hB).c0
      have k2 := ((hk1 (i + 1) (by omega)).below hB).c0
      have HB := Lh hB
      by_cases c1 : (L.getD i z0).key < (L.getD (i + 1) z0).key
      · have d2 : decide (((L.getD (i + 1) z0).key : Int) ≤ ((L.getD i z0).key : Int)) = false := decide_eq_false (by omega)
        have d3 : ¬ (L.getD (i + 1) z0).key ≤ (L.getD i z0).key := by omega
        have HX : Hid (ascTo L (i + 1 + 1)) := fun j hj => by
          by_cases e : j = i
          · subst e; exact c1
          · exact hok j (by omega)
        clear hok hk1 hv1 N' hB c1
        generalize (L.getD (i + 1) z0).key = x at *
        generalize (L.getD i z0).key = y at *
        go_wp2_with fail
        go_quiet (fail)
        have hd := bt HB.out (below_drewN wr nq)
        clear HB k1 k2
        generalize wr.drewN nq = W9 at *
        go_wp2
        go_roundw
        case rel => exact ⟨i + 1, by omega, by go_num, HX.out, hd⟩
        case measure => simp [intOf]; omega
      · have d2 : decide (((L.getD (i + 1) z0).key : Int) ≤ ((L.getD i z0).key : Int)) = true := decide_eq_true (by omega)
        have d3 : (L.getD (i + 1) z0).key ≤ (L.getD i z0).key := by omega
        have HX : Hid (¬ Asc L) := fun h => c1 (asc_at h (by omega))
        clear hok hk1 hv1 N' hB c1
        generalize (L.getD (i + 1) z0).key = x at *
        generalize (L.getD i z0).key = y at *
        go_wp2_with fail
        go_quiet (fail)
        have hd := bt HB.out (below_drewN wr nq)
        clear HB k1 k2
        generalize wr.drewN nq = W9 at *
        go_wp2
        go_ret
        exact ⟨by rw [decide_eq_false HX.out]; rfl, hd⟩
    · have hl4 : decide ((i : Int) + 1 < (n : Int)) = false := decide_eq_false (by omega)
      have hl5 : ¬ (i : Int) + 1 < (n : Int) := by omega
      have HE : Hid (Asc L) := asc_of (by have := N.out; omega) hok
      have HB := Lh hB
      clear hok hB
      go_wp2
      go_ret
      exact ⟨by rw [decide_eq_true HE.out]; rfl, HB.out⟩
theorem pvalid8_any (v : Value) (L : List Itm) (w : World) (s : It w v L) : Calls Tryz.prog 81 #[v] w fun e w' => e = .returned (.bool (decide (okT L))) ∧ Below w.heap.size w w' := by
  have PA := Lh (fun W (hW : Below w.heap.size w W) => pasc_any v L W (it_below s hW))
  obtain ⟨a, c, rfl, -, hm⟩ := it_form s
  obtain ⟨n, hn⟩ : ∃ n, n = L.length := ⟨_, rfl⟩
  have hml : n ≤ maxLen := by
    obtain ⟨_, _, h, h1, h2⟩ := it_form s
    omega
  unfold maxLen at hml
  rw [← hn] at PA ⊢
  have N := Lh hn
  have S := Lh s
  rw [← hn] at S
  clear hn s hm
  go_enter Tryz.func81, Tryz.ntmps81
  go_wp2_with fail
  go_loopw [7] (fun t wr => ∃ i : Nat, i ≤ n ∧ t = .int .i64 (i : Int) ∧ Hid (∀ j, j < i → okI (L.getD j z0)) ∧ Below w.heap.size w wr) (fun t _ => n - (intOf t).toNat)
  case atStart => exact ⟨0, by omega, rfl, (fun j hj => by omega), Below.refl _ _⟩
  case round =>
    obtain ⟨i, hi, rfl, hok, hB⟩ := hrel
    by_cases hin : i < n
    · have hl4 : decide ((i : Int) < (n : Int)) = true := decide_eq_true (by omega)
      have p0 : (0 : Int) ≤ (i : Int) := by omega
      have p1 : (i : Int) < (n : Int) := by omega
      have N' := N.out
      obtain ⟨b1, o1, c1', hv1, -, -, hk1⟩ := it_cells S.out (by omega)
      obtain ⟨rfl, -, -⟩ : a = some ⟨b1, o1, none⟩ ∧ n = L.length ∧ c = c1' := by simpa using hv1
      obtain ⟨k0, k1, k2, k3⟩ := (hk1 i (by omega)).below hB
      have G1 := Lh (pvitem_any (L.getD i z0))
      have HX : Hid (okI (L.getD i z0) → ∀ j, j < i + 1 → okI (L.getD j z0)) := fun h j hj => by
        by_cases e : j = i
        · subst e; exact h
        · exact hok.out j (by omega)
      have HY : Hid (¬ okI (L.getD i z0) → ¬ okT L) := fun h e => h (e.1 _ (getT_mem (by omega)))
      have HB := Lh hB
      clear hok hk1 hv1 N' hB
      generalize L.getD i z0 = x at *
      have HBA := Lh (HB.out.alloc HB.out.size (.cells #[.int .u64 (x.key : Int), .int .u32 (x.ck : Int), .int .i64 x.off, .int .i64 x.sz] 56))
      by_cases c1 : okI x
      · rw [decide_eq_true c1] at G1
        have HZ := Lh (HX.out c1)
        clear HX HY c1
        unfold TV at G1
        go_wp2_with fail
        refine (G1.out _).mono ?_
        rintro e w2 ⟨rfl, hb2⟩
        have hd := bt HBA.out hb2
        clear hb2 HBA HB k0 k1 k2 k3
        go_wp2
        go_roundw
        case rel => exact ⟨i + 1, by omega, by go_num, HZ.out, hd⟩
        case measure => simp [intOf]; omega
      · rw [decide_eq_false c1] at G1
        have HZ := Lh (HY.out c1)
        clear HX HY c1
        unfold TV at G1
        go_wp2_with fail
        refine (G1.out _).mono ?_
        rintro e w2 ⟨rfl, hb2⟩
        have hd := bt HBA.out hb2
        clear hb2 HBA HB k0 k1 k2 k3
        go_wp2
        go_ret
        exact ⟨by rw [decide_eq_false HZ.out]; rfl, hd⟩
    · obtain rfl : i = n := by omega
      have hl4 : decide ((i : Int) < (i : Int)) = false := decide_eq_false (by omega)
      have HE : Hid (decide (Asc L) = decide (okT L)) := decide_eq_decide.2 ⟨fun h => ⟨fun x hx => by
        obtain ⟨j, hj, rfl⟩ := List.getElem_of_mem hx
        have := hok.out j (by have := N.out; omega)
        simpa [List.getD, hj] using this, h⟩, fun h => h.2⟩
      have HB := Lh hB
      have PA' := PA.out
      have HE' := HE.out
      clear hok hB HE PA
      generalize decide (Asc L) = D at PA' HE'
      have PA := Lh PA'
      have HE := Lh HE'
      clear PA' HE'
      go_wp2_with fail
      refine (PA.out _ HB.out).mono ?_
      rintro e w2 ⟨rfl, hb2⟩
      have hd := bt HB.out hb2
      clear hb2
      go_wp2
      go_ret
      exact ⟨by rw [← HE.out]; rfl, hd⟩
theorem pcompare_any (a b : Nat) (w : World) : Calls Tryz.prog 128 #[.int .u64 (a : Int), .int .u64 (b : Int)] w fun e w' => e = .returned (.int .i64 (if a < b then -1 else if b < a then 1 else 0)) ∧ w = w' := by
  have n1 : ((a : Int) != (a : Int)) = false := by simp
  have n2 : ((b : Int) != (b : Int)) = false := by simp
  rcases Nat.lt_trichotomy a b with h | rfl | h
  · rw [if_pos h]
    have h1 : (a : Int) < (b : Int) := by omega
    go_enter Tryz.func128, Tryz.ntmps128
    go_wp2
    go_ret
    exact ⟨rfl, rfl⟩
  · rw [if_neg (Nat.lt_irrefl _), if_neg (Nat.lt_irrefl _)]
    go_enter Tryz.func128, Tryz.ntmps128
    go_wp2
    go_ret
    exact ⟨rfl, rfl⟩
  · rw [if_neg (by omega), if_pos h]
    have h1 : ¬ (a : Int) < (b : Int) := by omega
    have h2 : (b : Int) < (a : Int) := by omega
    have h3 : ¬ a < b := by omega
    go_enter Tryz.func128, Tryz.ntmps128
    go_wp2
    go_ret
    exact ⟨rfl, rfl⟩
theorem closure1 (x y : Itm) (W : World) : Calls Tryz.prog 127 #[TV x, TV y] W fun e w' => e = .returned (.int .i64 (cfK x y)) ∧ ∃ q os', w' = grow (W.drewN q) os' := by
  have hcon := pcompare_any x.key y.key
  unfold cfK TV
  generalize (if x.key < y.key then (-1 : Int) else if y.key < x.key then 1 else 0) = r at hcon ⊢
  go_enter Tryz.func127, Tryz.ntmps127
  go_wp2_with (go_at_call 128; refine (hcon _).mono ?_; rintro e w' ⟨rfl, rfl⟩)
  go_ret
  exact ⟨rfl, 0, _, by rw [alloc_eq_grow, alloc_eq_grow, grow_grow]; rfl⟩
theorem closure2 (x y : Itm) (W : World) : Calls Tryz.prog 130 #[TV x, TV y] W fun e w' => e = .returned (.bool (decide (x.key = y.key))) ∧ ∃ q os', w' = grow (W.drewN q) os' := by
  have hd : ((x.key : Int) == (y.key : Int)) = decide (x.key = y.key) := by rw [Bool.eq_iff_iff]; simp; omega
  unfold TV
  generalize x.key = a at *
  generalize y.key = b at *
  generalize decide (a = b) = r at *
  go_enter Tryz.func130, Tryz.ntmps130
  go_wp2
  go_ret
  exact ⟨rfl, 0, _, by rw [alloc_eq_grow, alloc_eq_grow, grow_grow]; rfl⟩
theorem cmpLays (blk off size : Nat) (w : World) : CmpLays Tryz.prog 127 #[] itV 4 cfK blk off size w := fun _ _ _ _ x y => closure1 x y _
theorem eqLays (blk off size : Nat) (w : World) : EqLays Tryz.prog 130 #[] 4 blk off size w := fun _ _ _ _ x y => closure2 x y _
theorem run_some_nilT (w : World) (a : Addr) (n c : Nat) : (binOp .eql 38 (.slice (some a) n c) (.slice none 0 0)).run Tryz.prog w = .ok (.bool false) w := by
  have h : ∀ d : Nat, (Op.equalIn (d + 1) 38 (.slice (some a) n c) (.slice none 0 0)).run Tryz.prog w = .ok false w := fun d => by
    simp [Op.equalIn, run_underlying Tryz.underlying38]
  simp only [binOp]
  simp [Op.equal, Op.maxDepth, h 9999]
theorem pcloneT_any (a : Addr) (c : Nat) (L : List Itm) (w : World) (s : It w (.slice (some a) L.length c) L) (hl : L.length ≤ 100000) : Calls Tryz.prog 84 #[.slice (some a) L.length c] w fun e w' => (∃ v, e = .returned v ∧ OwT w' w.heap.size v L) ∧ Below w.heap.size w w' := by
  obtain ⟨n, hn⟩ : ∃ n, n = L.length := ⟨_, rfl⟩
  have HS := Lh s
  have HL : Hid (([] : List Itm).length + L.length ≤ 100000000) := by show _ ≤ _; simp; omega
  rw [← hn] at HS ⊢
  clear s hn hl
  have hq := run_some_nilT w a n c
  go_enter Tryz.func84, Tryz.ntmps84
  go_wp2_with (at_builtin; refine app_it (dst := some 7) ?_ ?_ (owT_empty w (Nat.le_refl _)) (it_below HS.out ((Below.refl w.heap.size w).alloc (Nat.le_refl _) _)) HL.out (by simp) ?_; exact rfl; exact rfl; intro v5 w5 ho5 hg5; have HO5 := Lh ho5; have HG5 := Lh hg5; clear ho5 hg5)
  go_ret
  exact ⟨⟨_, rfl, by simpa using HO5.out⟩, below_grownT ((Below.refl w.heap.size w).alloc (Nat.le_refl _) _) HG5.out (owT_empty w (Nat.le_refl _)) (by simp) (Nat.le_refl _)⟩
def slenT : Value → Nat
  | .slice _ n _ => n
  | _ => 0
def saddr : Value → Option Addr
  | .slice a _ _ => a
  | _ => none
/-- Items of the call's own, as a row. -/
theorem holds_of {W : World} {base g n cap : Nat} {L : List Itm} (h : OwT W base (.slice (some ⟨g, 0, none⟩) n cap) L) : HoldsK itV 4 W g 0 L.toArray ∧ base ≤ g ∧ g < W.heap.size ∧ n = L.length ∧ n ≤ cap ∧ cap ≤ maxLen := by
  obtain ⟨h0, h1, ⟨h2, -⟩ | ⟨g', cap', cur, h2, hg, hb, hn, hm, hsz, ht⟩⟩ := h
  · cases h2
  · obtain ⟨rfl, rfl, rfl⟩ : g = g' ∧ n = L.length ∧ cap = cap' := by simpa using h2
    refine ⟨fun j hj => ?_, hg, lt_of_some hb, rfl, hn, hm⟩
    have hj' : j < L.length * 4 := by simpa using hj
    refine ⟨?_, frozen_of_row W g (0 + j) _ _ hb⟩
    rw [Nat.zero_add, cell_of_row W g j _ _ _ hb, get_flatK _ _ _ _ (by simpa using hj')]
    have e := cellsT_at L (j / 4) (j % 4) (by omega) (Nat.mod_lt _ (by decide))
    rw [show j / 4 * 4 + j % 4 = j by omega, ← ht, List.getElem?_take, if_pos hj', Array.getElem?_toList] at e
    rw [e]
    have e2 : L.toArray[j / 4]! = L.getD (j / 4) z0 := by simp [List.getD, show j / 4 < L.length by omega]
    rw [e2]
    have h4 : j % 4 < (itV (L.getD (j / 4) z0)).length := Nat.mod_lt _ (by decide)
    rw [List.getElem?_eq_getElem h4]
    simp only [id_eq]
    rw [getElem!_pos (itV (L.getD (j / 4) z0)) (j % 4) h4]
/-- What a row of the sort's holds, as a slice of items. -/
theorem it_of {w0 W : World} {g q cap : Nat} {d0 d : Array Itm} (S : SWK itV 4 w0 g 0 d W) (R : RowK itV 4 w0 g 0 d0) (hs : d.size = d0.size) (hq : q ≤ d.size) (hc : q ≤ cap) (hm : cap ≤ maxLen) (hok : ∀ x ∈ d.toList.take q, ItOk x) : It W (.slice (some ⟨g, 0, none⟩) q cap) (d.toList.take q) := by
  have hl : (d.toList.take q).length = q := by rw [List.length_take, Array.length_toList]; omega
  refine ⟨hok, _, _, by rw [hl], by omega, hm, fun _ => ⟨g, 0, rfl, fun j u hu => ?_⟩⟩
  have hj : j < q * 4 := by
    have := (List.getElem?_eq_some_iff.1 hu).1
    rwa [cellsT_length, hl] at this
  have c := (HoldsK.cell (S.holds R.hblk R.hH hs) (i := j / 4) (c := j % 4) (by omega) (Nat.mod_lt _ (by decide))).1
  rw [show 0 + j / 4 * 4 + j % 4 = 0 + j by omega] at c
  rw [c]
  have e := cellsT_at (d.toList.take q) (j / 4) (j % 4) (by omega) (Nat.mod_lt _ (by decide))
  rw [show j / 4 * 4 + j % 4 = j by omega, hu] at e
  have e2 : (d.toList.take q).getD (j / 4) z0 = d[j / 4]! := by
    rw [getD_arr (by omega)]
    simp [List.getD, show j / 4 < q by omega]
  rw [e2] at e
  have h4 : j % 4 < (itV d[j / 4]!).length := Nat.mod_lt _ (by decide)
  rw [List.getElem?_eq_getElem h4] at e
  rw [getElem!_pos (itV d[j / 4]!) (j % 4) h4]
  exact e.symm
/-- What the sort leaves of the world. -/
theorem below_swk {B k g off : Nat} {w0 W : World} {d : Array Itm} (S : SWK itV k w0 g off d W) (hg : B ≤ g) (hb : g < w0.heap.size) : Below B w0 W := by
  obtain ⟨n, os, rfl⟩ := S
  refine ⟨rfl, rfl, rfl, ?_, fun i hi => ?_⟩
  · have := size_sortWorldK_c itV k w0 g off n d os
    omega
  · unfold sortWorldK
    rw [heap_grow_old _ _ (by rw [size_putRowK]; show i < w0.heap.size; omega)]
    show (w0.heap.modify g _)[i]? = _
    rw [Array.getElem?_modify, if_neg (by omega)]
theorem nasc_len {L : List Itm} (h : ¬ Asc L) : 2 ≤ L.length := by
  match L with
  | [] => exact absurd List.Pairwise.nil h
  | [x] => exact absurd (List.pairwise_singleton _ _) h
  | x :: y :: r => simp
theorem psort_any (g cap : Nat) (d0 d : Array Itm) (w0 w : World) (R : RowK itV 4 w0 g 0 d0) (hs : d0.size = d.size) (S : SWK itV 4 w0 g 0 d w) (hsz : d.size ≤ 1000000) : Calls Tryz.prog 126 #[.slice (some ⟨g, 0, none⟩) d.size cap, .func (.func 127) #[] #[]] w fun e w' => e = .returned (.tuple #[]) ∧ ∃ d' : Array Itm, d'.size = d.size ∧ Srt d'.toList ∧ Kq d'.toList d.toList ∧ SWK itV 4 w0 g 0 d' w' := by
  have hc := stable_any lgP 127 #[] g 0 cap d0 d w0 w R (enters_of Tryz.func127 (by kernel_rfl) rfl) (cmpLays _ _ _ _) hs S hsz
  have HC := Lh hc
  clear hc S
  go_enter Tryz.func126, Tryz.ntmps126
  go_wp2_with (go_at_call 155; refine HC.out.mono ?_; rintro e w2 ⟨rfl, hd⟩)
  go_end0
  exact ⟨rfl, hd⟩
theorem porder_any (v : Value) (L : List Itm) (w : World) (s : It w v L) (hlen : L.length ≤ 1000) : Calls Tryz.prog 103 #[v] w (LI w (sortL L)) := by
  have PA := Lh (pasc_any v L w s)
  by_cases hA : Asc L
  · rw [decide_eq_true hA] at PA
    have HS : Hid (It w v (sortL L)) := by show It _ _ _; rw [sort_asc hA]; exact s
    obtain ⟨a, c, rfl, -, -⟩ := it_form s
    unfold LI
    generalize L.length = n at *
    clear s hA hlen
    go_enter Tryz.func103, Tryz.ntmps103
    go_wp2_with fail
    refine PA.out.mono ?_
    rintro e w2 ⟨rfl, hb2⟩
    have B2 := Lh hb2
    clear hb2
    go_wp2
    go_ret
    exact ⟨⟨_, rfl, it_below HS.out B2.out⟩, B2.out⟩
  · rw [decide_eq_false hA] at PA
    have h2 := nasc_len hA
    obtain ⟨b, o, c, rfl, -, -, -⟩ := it_cells s (by omega)
    have CL := Lh (fun W (hW : Below w.heap.size w W) => pcloneT_any _ c L W (it_below s hW) (by omega))
    have OKL := Lh s.1
    obtain ⟨n, hn⟩ : ∃ n, n = L.length := ⟨_, rfl⟩
    have HN := Lh (And.intro hn (And.intro h2 hlen))
    rw [← hn] at CL ⊢
    rw [← hn] at PA
    clear s hA h2 hlen hn
    unfold LI
    go_enter Tryz.func103, Tryz.ntmps103
    go_wp2_with fail
    refine PA.out.mono ?_
    rintro e w2 ⟨rfl, hb2⟩
    have B2 := Lh hb2
    clear hb2 PA
    go_wp2_with fail
    refine (CL.out _ B2.out).mono ?_
    rintro e w3 ⟨⟨v3, rfl, ho3⟩, hb3⟩
    have B3 := Lh (bt B2.out hb3)
    obtain ⟨a3, c3, rfl, -, -⟩ := owT_form ho3
    have hl3 : 2 ≤ L.length := HN.out.2.1
    obtain ⟨b3, o3, c3', hv3, -⟩ := it_cells (owT_it ho3) (by omega)
    obtain ⟨g, rfl⟩ : ∃ g, a3 = some ⟨g, 0, none⟩ := by
      obtain ⟨-, -, ⟨h, -⟩ | ⟨g, cap', cur, h, -⟩⟩ := ho3
      · have : L.length = 0 := congrArg slenT h
        omega
      · exact ⟨g, congrArg saddr h⟩
    obtain ⟨hH, hg1, hg2, -, hc1, hc2⟩ := holds_of ho3
    have R : Aside (RowK itV 4 w3 g 0 L.toArray) := ⟨fun _ => rfl, fun x v hv => by simp [itV] at hv; rcases hv with rfl | rfl | rfl | rfl <;> rfl, hH, hg2⟩
    have S3 : Aside (SWK itV 4 w3 g 0 L.toArray w3) := SWK.start hH
    have G : Aside (w.heap.size ≤ g ∧ g < w3.heap.size ∧ L.length ≤ c3 ∧ c3 ≤ maxLen) := ⟨Nat.le_trans B2.out.size hg1, hg2, hc1, hc2⟩
    have RV := Lh (rev_any lgP2 c3 L.toArray w3 R.out rfl S3.out (by simp; omega) (by have := HN.out.2.2; simp; omega))
    have SRT := Lh (fun (d : Array Itm) W h1 h2 h3 => psort_any g c3 L.toArray d w3 W R.out h1 h2 h3)
    have CMP := Lh (fun (d : Array Itm) W h1 h2 h3 h4 h5 => comp_any lgP2 130 #[] c3 d W R.out (enters_of Tryz.func130 (by kernel_rfl) rfl) (eqLays _ _ _ _) h1 h2 h3 h4 h5)
    rw [show L.toArray.size = L.length from rfl] at RV SRT CMP
    rw [← HN.out.1] at RV SRT CMP ⊢
    clear ho3 hb3 hl3 hv3 hH hg1 hg2 hc1 hc2 CL B2
    go_wp2_with fail
    refine RV.out.mono ?_
    rintro e w4 ⟨rfl, d4, hs4, hl4, hS4⟩
    have SR4 := Lh (SRT.out d4 w4 hs4.symm hS4 (by have := HN.out; omega))
    rw [hs4] at SR4
    have D4 : Aside (d4.size = n ∧ d4.toList = L.reverse) := ⟨hs4, by rw [hl4]⟩
    clear hs4 hl4 hS4 RV SRT
    go_wp2_with fail
    refine SR4.out.mono ?_
    rintro e w5 ⟨rfl, d5, hs5, hr5, hk5, hS5⟩
    have CM5 := Lh (CMP.out d5 w5 hs5.symm hS5 (by have := HN.out; omega) (by have := G.out; have := HN.out.1; omega) (by have := HN.out; omega))
    rw [hs5] at CM5
    have D5 : Aside (d5.size = n ∧ cp none d5.toList = sortL L) := ⟨hs5, ordered_eq hr5 (by rw [← D4.out.2]; exact hk5)⟩
    clear hs5 hr5 hk5 hS5 CMP SR4
    go_wp2_with fail
    refine CM5.out.mono ?_
    rintro e w6 ⟨q, d6, rfl, hq6, hs6, ht6, hS6⟩
    rw [D5.out.2] at ht6
    have I6 : Aside (It w6 (.slice (some ⟨g, 0, none⟩) q c3) (sortL L)) := by
      show It _ _ _
      rw [← ht6]
      refine it_of hS6 R.out (by rw [hs6]; exact HN.out.1) (by omega) (by have := G.out; have := HN.out.1; omega) G.out.2.2.2 fun x hx => ?_
      rw [ht6] at hx
      exact OKL.out x (mem_sortL L x hx)
    have B6 : Aside (Below w.heap.size w w6) := B3.out.trans (below_swk hS6 G.out.1 G.out.2.1)
    clear hq6 hs6 ht6 hS6 CM5
    go_wp2
    go_ret
    exact ⟨⟨_, rfl, I6.out⟩, B6.out⟩
/-- What a search answers. -/
def SRQ (w : World) (n : Nat) (p : Nat → Bool) (e : Ending) (w' : World) : Prop := ∃ j : Nat, e = .returned (.int .i64 (j : Int)) ∧ j ≤ n ∧ (∀ i, i < j → p i = false) ∧ (∀ i, j ≤ i → i < n → p i = true) ∧ Below w.heap.size w w'
theorem psearch_any (g : Nat) (cb : Array Value) (n : Nat) (p : Nat → Bool) (w : World) (eg : ∀ args w, (callFunc g args).run Tryz.prog w = .ok (.enter g args) w) (hn : n ≤ 1000000)
    (hf : ∀ (i : Nat) (W : World), i < n → Below w.heap.size w W → Calls Tryz.prog g (#[.int .i64 (i : Int)] ++ cb) W fun e w' => e = .returned (.bool (p i)) ∧ Below W.heap.size W w')
    (hmono : ∀ a b, a ≤ b → b < n → p a = true → p b = true) :
    Calls Tryz.prog 123 #[.int .i64 (n : Int), .func (.func g) #[] cb] w (SRQ w n p) := by
  have HF := Lh hf
  have M := Lh hmono
  clear hf hmono
  go_enter Tryz.func123, Tryz.ntmps123
  go_wp2
  go_loopg [5, 6] n (fun kx s5 s6 wr => ∃ (lo hi : Nat), s5 = .int .i64 lo ∧ s6 = .int .i64 hi ∧ lo ≤ hi ∧ hi ≤ n ∧ hi - lo ≤ kx ∧ Hid (Below w.heap.size w wr) ∧ Hid ((∀ t, t < lo → p t = false) ∧ (∀ t, hi ≤ t → t < n → p t = true)))
  case atStart => exact ⟨0, n, rfl, rfl, Nat.zero_le _, Nat.le_refl _, by omega, Below.refl _ _, ⟨fun t ht => absurd ht (Nat.not_lt_zero _), fun t h1 h2 => by omega⟩⟩
  case round =>
    obtain ⟨lo, hi, rfl, rfl, hlh, hin, hg, B, I⟩ := hrel
    by_cases hlt : lo < hi
    · have hltz : (lo : Int) < (hi : Int) := by omega
      have hc := HF.out ((lo + hi) / 2) wr (by omega) B.out
      rw [show (((lo + hi) / 2 : Nat) : Int) = ((lo : Int) + (hi : Int)) / 2 by omega] at hc
      cases hp : p ((lo + hi) / 2) <;> rw [hp] at hc
      · have HC := Lh hc
        have I2 : Hid ((∀ t, t < (lo + hi) / 2 + 1 → p t = false) ∧ (∀ t, hi ≤ t → t < n → p t = true)) := ⟨fun t ht => (by
          cases h : p t with
          | false => rfl
          | true => have := M.out t ((lo + hi) / 2) (by omega) (by omega) h; rw [hp] at this; cases this), I.out.2⟩
        clear hp I hc
        go_wp2_with (go_at_fn g; refine HC.out.mono ?_; rintro e w2 ⟨rfl, hb2⟩)
        have B2 : Hid (Below w.heap.size w w2) := bt B.out hb2
        clear hb2 HC B
        go_wp2
        go_roundg (hi - ((lo + hi) / 2 + 1))
        case measure => omega
        case rel => exact ⟨(lo + hi) / 2 + 1, hi, by rw [show ((lo : Int) + (hi : Int)) / 2 + 1 = (((lo + hi) / 2 + 1 : Nat) : Int) by omega], rfl, by omega, hin, Nat.le_refl _, B2, I2⟩
      · have HC := Lh hc
        have I2 : Hid ((∀ t, t < lo → p t = false) ∧ (∀ t, (lo + hi) / 2 ≤ t → t < n → p t = true)) := ⟨I.out.1, fun t ht htn => M.out ((lo + hi) / 2) t ht htn hp⟩
        clear hp I hc
        go_wp2_with (go_at_fn g; refine HC.out.mono ?_; rintro e w2 ⟨rfl, hb2⟩)
        have B2 : Hid (Below w.heap.size w w2) := bt B.out hb2
        clear hb2 HC B
        go_wp2
        go_roundg ((lo + hi) / 2 - lo)
        case measure => omega
        case rel => exact ⟨lo, (lo + hi) / 2, rfl, by rw [show ((lo : Int) + (hi : Int)) / 2 = (((lo + hi) / 2 : Nat) : Int) by omega], by omega, by omega, Nat.le_refl _, B2, I2⟩
    · obtain rfl : hi = lo := by omega
      have hltz : ¬ (hi : Int) < (hi : Int) := by omega
      go_wp2
      go_ret
      exact ⟨hi, rfl, hin, I.out.1, I.out.2, B.out⟩
theorem geq_any (i : Nat) (x : Itm) (b off n c q0 q1 k : Nat) (w : World) (h0 : w.cell? ⟨q0, 0, none⟩ = some (.slice (some ⟨b, off, none⟩) n c)) (h1 : w.cell? ⟨q1, 0, none⟩ = some (.int .u64 (k : Int))) (hi : i < n) (hc : C4 w b (off + i * 4) x) :
    Calls Tryz.prog 124 #[.int .i64 (i : Int), .pointer (some ⟨q0, 0, none⟩), .pointer (some ⟨q1, 0, none⟩)] w fun e w' => e = .returned (.bool (decide (k ≤ x.key))) ∧ Below w.heap.size w w' := by
  obtain ⟨e0, -, -, -⟩ := hc
  have p0 : (0 : Int) ≤ (i : Int) := by omega
  have p1 : (i : Int) < (n : Int) := by omega
  generalize x.key = y at *
  go_enter Tryz.func124, Tryz.ntmps124
  go_wp2_with fail
  go_quiet (fail)
  go_wp2
  go_ret
  exact ⟨by simp, below_drewN w _⟩
theorem run_midT (W : World) (a : Option Addr) {n cap l h : Nat} (h1 : l ≤ h) (h2 : h ≤ cap) : (Instr.sliceAt 38 (.slice a n cap) (some (.int .i64 (l : Int))) (some (.int .i64 (h : Int))) none).run Tryz.prog W = .ok (.slice (if cap = l then a else a.map (·.add (l * 4))) (h - l) (cap - l)) W := by
  rw [run_sliceAt_slice (h := elemT)]
  simp [Instr.slice, Instr.sliceBounds, Instr.sliceBound, run_underlying Tryz.underlying38, asIntOf, h1, h2]
theorem it_to {W : World} {a : Option Addr} {n cap l : Nat} {L : List Itm} (h : It W (.slice a n cap) L) (hl : l ≤ n) : It W (.slice a l cap) (L.take l) := by
  obtain ⟨a', cap', hv, h2, h3⟩ := it_form h
  obtain ⟨rfl, rfl, rfl⟩ : a = a' ∧ n = L.length ∧ cap = cap' := by simpa using hv
  by_cases e : l = 0
  · subst e
    rw [List.take_zero]
    exact it_empty _ _ h3
  · obtain ⟨b, o, c, hv', -, -, -⟩ := it_cells h (by omega)
    obtain ⟨rfl, -⟩ : a = some ⟨b, o, none⟩ ∧ cap = c := by simpa using hv'
    have hc := it_cut h 0 l (by omega)
    simpa using hc
/-- How a key divides a list. -/
structure Spl (L : List Itm) (k j m : Nat) : Prop where
  le : j + m ≤ L.length
  lo : ∀ x ∈ L.take j, x.key < k
  mid : (m = 0 ∧ (L.drop j).take m = []) ∨ (m = 1 ∧ ∃ y, (L.drop j).take m = [y] ∧ y.key = k)
  hi : ∀ x ∈ L.drop (j + m), k < x.key
/-- What split answers. -/
def SPQ (w : World) (L : List Itm) (k : Nat) (e : Ending) (w' : World) : Prop := ∃ (va vb vc : Value) (j m : Nat), e = .returned (.tuple #[va, vb, vc]) ∧ It w' va (L.take j) ∧ It w' vb ((L.drop j).take m) ∧ It w' vc (L.drop (j + m)) ∧ Spl L k j m ∧ Below w.heap.size w w'
theorem spl_of {L : List Itm} {k j : Nat} (hA : Asc L) (hj : j ≤ L.length) (h1 : ∀ i, i < j → (L.getD i z0).key < k) (h2 : ∀ i, j ≤ i → i < L.length → k ≤ (L.getD i z0).key) : Spl L k j (if j < L.length ∧ (L.getD j z0).key = k then 1 else 0) := by
  have lo : ∀ x ∈ L.take j, x.key < k := fun x hx => by
    obtain ⟨i, hi, rfl⟩ := List.getElem_of_mem hx
    rw [List.length_take] at hi
    have := h1 i (by omega)
    simpa [List.getD, show i < L.length by omega] using this
  by_cases c : j < L.length ∧ (L.getD j z0).key = k
  · rw [if_pos c]
    refine ⟨by omega, lo, Or.inr ⟨rfl, L.getD j z0, ?_, c.2⟩, fun x hx => ?_⟩
    · rw [List.drop_eq_getElem_cons c.1, List.take_succ_cons, List.take_zero]
      simp [List.getD, c.1]
    · obtain ⟨i, hi, rfl⟩ := List.getElem_of_mem hx
      rw [List.length_drop] at hi
      have := List.pairwise_iff_getElem.1 hA j (j + 1 + i) c.1 (by omega) (by omega)
      have e : (L.getD j z0).key = L[j].key := by simp [List.getD, c.1]
      rw [List.getElem_drop]
      omega
  · rw [if_neg c]
    refine ⟨by omega, lo, Or.inl ⟨rfl, List.take_zero⟩, fun x hx => ?_⟩
    obtain ⟨i, hi, rfl⟩ := List.getElem_of_mem hx
    rw [List.length_drop] at hi
    rw [List.getElem_drop]
    have h3 := h2 (j + 0 + i) (by omega) (by omega)
    have e : L.getD (j + 0 + i) z0 = L[j + 0 + i] := by simp [List.getD, show j + i < L.length by omega]
    rw [e] at h3
    by_cases i0 : i = 0
    · subst i0
      have : ¬ (L.getD j z0).key = k := fun h => c ⟨by omega, h⟩
      have e2 : L.getD j z0 = L[j + 0 + 0] := by simp [List.getD, show j < L.length by omega]
      rw [e2] at this
      omega
    · have h4 := List.pairwise_iff_getElem.1 hA j (j + 0 + i) (by omega) (by omega) (by omega)
      have h5 := h2 j (Nat.le_refl _) (by omega)
      have e2 : (L.getD j z0).key = L[j].key := by simp [List.getD, show j < L.length by omega]
      omega
theorem psplit_any (v : Value) (L : List Itm) (k : Nat) (w : World) (s : It w v L) (hA : Asc L) (hlen : L.length ≤ 1000) : Calls Tryz.prog 102 #[v, .int .u64 (k : Int)] w (SPQ w L k) := by
  obtain ⟨a, c, rfl, hc1, hc2⟩ := it_form s
  obtain ⟨n, hn⟩ : ∃ n, n = L.length := ⟨_, rfl⟩
  have X0 : Hid (((w.alloc (.cells #[.slice a L.length c] 38)).alloc (.cells #[.int .u64 (k : Int)] 53)).heap[w.heap.size]? = some (.cells #[.slice a L.length c] 38 (0, 0))) := (heap_alloc_old _ _ (by simp)).trans (heap_alloc_new w _)
  have X1 := Lh (heap_alloc_new (w.alloc (.cells #[.slice a L.length c] 38)) (.cells #[.int .u64 (k : Int)] 53))
  have HB := Lh (((Below.refl w.heap.size w).alloc (Nat.le_refl _) (.cells #[.slice a L.length c] 38)).alloc (by simp) (.cells #[.int .u64 (k : Int)] 53))
  have S := Lh s
  rw [← hn] at S X0 X1 HB hlen hc1 ⊢
  have N := Lh hn
  have AS := Lh hA
  have hmf : ∀ (fn : Fn) (first cap : Array Value) (w : World), (Instr.makeFunc fn first cap).run Tryz.prog w = .ok (.func fn first cap) w := fun _ _ _ _ => rfl
  clear s hn hA
  go_enter Tryz.func102, Tryz.ntmps102
  go_wp2_with fail
  have X1' := X1.out
  rw [show (w.alloc (.cells #[.slice a n c] 38)).heap.size = w.heap.size + 1 by simp] at X1'
  generalize ((w.alloc (.cells #[.slice a n c] 38)).alloc (.cells #[.int .u64 (k : Int)] 53)) = W0 at *
  have KC : Hid (∀ W, Below W0.heap.size W0 W → W.cell? ⟨w.heap.size, 0, none⟩ = some (.slice a n c) ∧ W.cell? ⟨w.heap.size + 1, 0, none⟩ = some (.int .u64 (k : Int))) := fun W hW =>
    ⟨cell_of_row W _ 0 _ _ _ ((hW.block _ (lt_of_some X0.out)).trans X0.out), cell_of_row W _ 0 _ _ _ ((hW.block _ (lt_of_some X1')).trans X1')⟩
  have SR := Lh (psearch_any 124 #[.pointer (some ⟨w.heap.size, 0, none⟩), .pointer (some ⟨w.heap.size + 1, 0, none⟩)] n (fun i => decide (k ≤ (L.getD i z0).key)) W0 (enters_of Tryz.func124 (by kernel_rfl) rfl) (by omega) (fun i W hi hW => by
    have N' := N.out
    obtain ⟨b, off, c', hv, -, -, hk⟩ := it_cells S.out (by omega)
    obtain ⟨rfl, -, rfl⟩ : a = some ⟨b, off, none⟩ ∧ n = L.length ∧ c = c' := by simpa using hv
    exact geq_any i (L.getD i z0) b off n c _ _ k W (KC.out W hW).1 (KC.out W hW).2 hi ((hk i (by omega)).below (bt HB.out hW))) (fun x y hxy hy hx => by
    have N' := N.out
    have hx' : k ≤ (L.getD x z0).key := of_decide_eq_true hx
    refine decide_eq_true ?_
    rcases Nat.eq_or_lt_of_le hxy with h | h
    · rw [← h]; exact hx'
    · have := List.pairwise_iff_getElem.1 AS.out x y (by omega) (by omega) h
      have e1 : L.getD x z0 = L[x] := by simp [List.getD, show x < L.length by omega]
      have e2 : L.getD y z0 = L[y] := by simp [List.getD, show y < L.length by omega]
      rw [e1] at hx'
      rw [e2]
      omega))
  refine SR.out.mono ?_
  rintro e w2 ⟨j, rfl, hj, hlo, hhi, hb2⟩
  have B2 := Lh (bt HB.out hb2)
  have K2 := Lh (KC.out w2 hb2)
  have SP0 := spl_of AS.out (j := j) (k := k) (by have := N.out; omega) (fun i hi => Nat.lt_of_not_le (of_decide_eq_false (hlo i hi))) (fun i hi hi2 => of_decide_eq_true (hhi i hi (by have := N.out; omega)))
  rw [← N.out] at SP0
  clear hlo hhi hb2 SR KC X0 X1 X1' HB hmf
  obtain ⟨k0', ky'⟩ := K2.out
  have k0 := cells_regrown k0'
  have ky := cells_regrown ky'
  clear k0' ky'
  by_cases hjn : j < n
  · have hjz : (j : Int) < (n : Int) := by omega
    have p0 : (0 : Int) ≤ (j : Int) := by omega
    have N' := N.out
    obtain ⟨b, off, c', hv, -, -, hk⟩ := it_cells S.out (by omega)
    obtain ⟨rfl, -, rfl⟩ : a = some ⟨b, off, none⟩ ∧ n = L.length ∧ c = c' := by simpa using hv
    have kc := cells_regrown ((hk j (by omega)).below B2.out).c0
    clear hk hv N'
    by_cases hkk : (L.getD j z0).key = k
    · rw [if_pos ⟨hjn, hkk⟩] at SP0
      have SPL := Lh SP0
      have hkb : (((L.getD j z0).key : Int) == (k : Int)) = true := by rw [hkk]; simp
      clear hkk SP0
      generalize (L.getD j z0).key = y at *
      go_wp2_with fail
      refine wp_region_bl (by kernel_rfl) (by kernel_rfl) ?_
      repeat (go_big_quiet_step (fail))
      refine wpQuiet_nil ?_
      intro w9 hb9
      have B9 := Lh (bt B2.out hb9)
      have K9 := Lh (And.intro (fun d os => cells_regrown ((hb9.cell (block_lt_of_cell K2.out.1)).trans K2.out.1) d os) (fun d os => cells_regrown ((hb9.cell (block_lt_of_cell K2.out.2)).trans K2.out.2) d os))
      clear hb9 B2 K2
      have r1 : ∀ W, (Instr.sliceAt 38 (.slice (some ⟨b, off, none⟩ : Option Addr) n c) none (some (.int .i64 (j : Int))) none).run Tryz.prog W = .ok (.slice (some ⟨b, off, none⟩ : Option Addr) j c) W := fun W => run_toT W (some ⟨b, off, none⟩ : Option Addr) (by omega)
      have r2 : ∀ W, (Instr.sliceAt 38 (.slice (some ⟨b, off, none⟩ : Option Addr) n c) (some (.int .i64 (j : Int))) (some (.int .i64 ((j : Int) + 1))) none).run Tryz.prog W = .ok (.slice (if c = j then (some ⟨b, off, none⟩ : Option Addr) else (some ⟨b, off, none⟩ : Option Addr).map (·.add (j * 4))) (j + 1 - j) (c - j)) W := fun W => run_midT W (some ⟨b, off, none⟩ : Option Addr) (l := j) (h := j + 1) (by omega) (by omega)
      have r3 : ∀ W, (Instr.sliceAt 38 (.slice (some ⟨b, off, none⟩ : Option Addr) n c) (some (.int .i64 ((j : Int) + 1))) none none).run Tryz.prog W = .ok (.slice (if c = (j + 1) then (some ⟨b, off, none⟩ : Option Addr) else (some ⟨b, off, none⟩ : Option Addr).map (·.add ((j + 1) * 4))) (n - (j + 1)) (c - (j + 1))) W := fun W => run_fromT W (some ⟨b, off, none⟩ : Option Addr) (l := j + 1) (by omega)
      rw [show j + 1 - j = 1 by omega] at r2
      have i1 := it_to S.out (l := j) (by omega)
      have i2 := it_to (it_from S.out (l := j) (by omega)) (l := 1) (by omega)
      have i3 := it_from S.out (l := (j + 1)) (by omega)
      generalize (if c = j then (some ⟨b, off, none⟩ : Option Addr) else (some ⟨b, off, none⟩ : Option Addr).map (·.add (j * 4))) = a2 at r2 i2 
      generalize (if c = (j + 1) then (some ⟨b, off, none⟩ : Option Addr) else (some ⟨b, off, none⟩ : Option Addr).map (·.add ((j + 1) * 4))) = a3 at r3 i3
      generalize n - (j + 1) = n3 at r3 i3
      generalize c - j = c2 at r2 i2 
      generalize c - (j + 1) = c3 at r3 i3
      have I := Lh (And.intro i1 (And.intro i2 i3))
      clear i1 i2 i3 hj k0 ky kc
      go_wp2_with fail
      refine wp_region_bl (by kernel_rfl) (by kernel_rfl) ?_
      obtain ⟨ka, kb⟩ := K9.out
      repeat (quiet_step (fail))
      refine wpQuiet_nil ?_
      intro w10 hb10
      have B10 := Lh (bt B9.out hb10)
      clear hb10 r1 r2 r3
      go_wp2_with fail
      go_ret3
      exact ⟨_, _, _, j, 1, rfl, it_below I.out.1 B10.out, it_below I.out.2.1 B10.out, it_below I.out.2.2 B10.out, SPL.out, B10.out⟩
    · rw [if_neg (fun h => hkk h.2)] at SP0
      have SPL := Lh SP0
      have hkb : (((L.getD j z0).key : Int) == (k : Int)) = false := by rw [beq_eq_false_iff_ne]; omega
      clear hkk SP0
      generalize (L.getD j z0).key = y at *
      go_wp2_with fail
      refine wp_region_bl (by kernel_rfl) (by kernel_rfl) ?_
      repeat (go_big_quiet_step (fail))
      refine wpQuiet_nil ?_
      intro w9 hb9
      have B9 := Lh (bt B2.out hb9)
      have K9 := Lh (And.intro (fun d os => cells_regrown ((hb9.cell (block_lt_of_cell K2.out.1)).trans K2.out.1) d os) (fun d os => cells_regrown ((hb9.cell (block_lt_of_cell K2.out.2)).trans K2.out.2) d os))
      clear hb9 B2 K2
      have r1 : ∀ W, (Instr.sliceAt 38 (.slice (some ⟨b, off, none⟩ : Option Addr) n c) none (some (.int .i64 (j : Int))) none).run Tryz.prog W = .ok (.slice (some ⟨b, off, none⟩ : Option Addr) j c) W := fun W => run_toT W (some ⟨b, off, none⟩ : Option Addr) (by omega)
      have r2 : ∀ W, (Instr.sliceAt 38 (.slice (some ⟨b, off, none⟩ : Option Addr) n c) (some (.int .i64 (j : Int))) (some (.int .i64 (j : Int))) none).run Tryz.prog W = .ok (.slice (if c = j then (some ⟨b, off, none⟩ : Option Addr) else (some ⟨b, off, none⟩ : Option Addr).map (·.add (j * 4))) (j - j) (c - j)) W := fun W => run_midT W (some ⟨b, off, none⟩ : Option Addr) (by omega) (by omega)
      have r3 : ∀ W, (Instr.sliceAt 38 (.slice (some ⟨b, off, none⟩ : Option Addr) n c) (some (.int .i64 (j : Int))) none none).run Tryz.prog W = .ok (.slice (if c = j then (some ⟨b, off, none⟩ : Option Addr) else (some ⟨b, off, none⟩ : Option Addr).map (·.add (j * 4))) (n - j) (c - j)) W := fun W => run_fromT W (some ⟨b, off, none⟩ : Option Addr) (by omega)
      rw [show j - j = 0 by omega] at r2
      have i1 := it_to S.out (l := j) (by omega)
      have i2 := it_to (it_from S.out (l := j) (by omega)) (l := 0) (by omega)
      have i3 := it_from S.out (l := j) (by omega)
      generalize (if c = j then (some ⟨b, off, none⟩ : Option Addr) else (some ⟨b, off, none⟩ : Option Addr).map (·.add (j * 4))) = a2 at r2 i2 r3 i3
      generalize n - j = n3 at r3 i3
      generalize c - j = c2 at r2 i2 r3 i3
      have I := Lh (And.intro i1 (And.intro i2 i3))
      clear i1 i2 i3 hj k0 ky kc
      go_wp2_with fail
      refine wp_region_bl (by kernel_rfl) (by kernel_rfl) ?_
      obtain ⟨ka, kb⟩ := K9.out
      repeat (quiet_step (fail))
      refine wpQuiet_nil ?_
      intro w10 hb10
      have B10 := Lh (bt B9.out hb10)
      clear hb10 r1 r2 r3
      go_wp2_with fail
      go_ret3
      exact ⟨_, _, _, j, 0, rfl, it_below I.out.1 B10.out, it_below I.out.2.1 B10.out, it_below I.out.2.2 B10.out, SPL.out, B10.out⟩
  · rw [if_neg (fun h => hjn h.1)] at SP0
    have SPL := Lh SP0
    have hjz : ¬ (j : Int) < (n : Int) := by omega
    have hjb : decide ((j : Int) < (n : Int)) = false := decide_eq_false hjz
    have kc : True := trivial
    clear SP0
    go_wp2_with fail
    refine wp_region_bl (by kernel_rfl) (by kernel_rfl) ?_
    repeat (go_big_quiet_step (fail))
    refine wpQuiet_nil ?_
    intro w9 hb9
    have B9 := Lh (bt B2.out hb9)
    have K9 := Lh (And.intro (fun d os => cells_regrown ((hb9.cell (block_lt_of_cell K2.out.1)).trans K2.out.1) d os) (fun d os => cells_regrown ((hb9.cell (block_lt_of_cell K2.out.2)).trans K2.out.2) d os))
    clear hb9 B2 K2
    have r1 : ∀ W, (Instr.sliceAt 38 (.slice a n c) none (some (.int .i64 (j : Int))) none).run Tryz.prog W = .ok (.slice a j c) W := fun W => run_toT W a (by omega)
    have r2 : ∀ W, (Instr.sliceAt 38 (.slice a n c) (some (.int .i64 (j : Int))) (some (.int .i64 (j : Int))) none).run Tryz.prog W = .ok (.slice (if c = j then a else a.map (·.add (j * 4))) (j - j) (c - j)) W := fun W => run_midT W a (by omega) (by omega)
    have r3 : ∀ W, (Instr.sliceAt 38 (.slice a n c) (some (.int .i64 (j : Int))) none none).run Tryz.prog W = .ok (.slice (if c = j then a else a.map (·.add (j * 4))) (n - j) (c - j)) W := fun W => run_fromT W a (by omega)
    rw [show j - j = 0 by omega] at r2
    have i1 := it_to S.out (l := j) (by omega)
    have i2 := it_to (it_from S.out (l := j) (by omega)) (l := 0) (by omega)
    have i3 := it_from S.out (l := j) (by omega)
    generalize (if c = j then a else a.map (·.add (j * 4))) = a2 at r2 i2 r3 i3
    generalize n - j = n3 at r3 i3
    generalize c - j = c2 at r2 i2 r3 i3
    have I := Lh (And.intro i1 (And.intro i2 i3))
    clear i1 i2 i3 hj k0 ky kc
    go_wp2_with fail
    refine wp_region_bl (by kernel_rfl) (by kernel_rfl) ?_
    obtain ⟨ka, kb⟩ := K9.out
    repeat (quiet_step (fail))
    refine wpQuiet_nil ?_
    intro w10 hb10
    have B10 := Lh (bt B9.out hb10)
    clear hb10 r1 r2 r3
    go_wp2_with fail
    go_ret3
    exact ⟨_, _, _, j, 0, rfl, it_below I.out.1 B10.out, it_below I.out.2.1 B10.out, it_below I.out.2.2 B10.out, SPL.out, B10.out⟩
theorem spl_cut {L : List Itm} {k j m : Nat} (_h : Spl L k j m) : L = L.take j ++ ((L.drop j).take m ++ L.drop (j + m)) := cut3 L j m
theorem spl_lk {L : List Itm} {k j m : Nat} (h : Spl L k j m) (hA : Asc L) : (m = 0 ∧ lk L k = none) ∨ (m = 1 ∧ ∃ y, (L.drop j).take m = [y] ∧ lk L k = some y) := by
  rcases h.mid with ⟨hm, he⟩ | ⟨hm, y, hy, hk⟩
  · refine Or.inl ⟨hm, lk_none.2 fun x hx => ?_⟩
    rw [spl_cut h, he, List.nil_append] at hx
    rcases List.mem_append.1 hx with h1 | h1
    · have := h.lo x h1; omega
    · have := h.hi x h1; omega
  · refine Or.inr ⟨hm, y, hy, (asc_lk hA).2 ⟨?_, hk⟩⟩
    have : y ∈ (L.drop j).take m := by rw [hy]; simp
    exact List.mem_of_mem_drop (List.mem_of_mem_take this)
theorem pfind_end {R : Ending → World → Prop} {W : World} {g : Nat} {tmps : Array Value} {k c d s : Value} (hp : tmps.getD 4 undef = .pointer (some ⟨g, 0, none⟩)) (hg : W.heap[g]? = some (.cells #[k, c, d, s] 56 (0, 0)))
    (hR : R (.returned (.tuple #[.agg #[k, c, d, s], tmps.getD 5 undef])) W) : bodyPost Tryz.prog Tryz.f70 R .ret { tmps := tmps, defers := [] } W :=
  bodyPost_ret (results_rt rfl _ _ g #[k, c, d, s] hp hg Tryz.underlying56 rfl infoT4) rfl hR
theorem set4J {W : World} {g : Nat} {a b c d k l m n : Value} {T : TypeId} (h : W.heap[g]? = some (.cells #[a, b, c, d] T (0, 0))) : ((((W.setCell ⟨g, 0, none⟩ k).setCell ⟨g, 1, none⟩ l).setCell ⟨g, 2, none⟩ m).setCell ⟨g, 3, none⟩ n).heap[g]? = some (.cells #[k, l, m, n] T (0, 0)) := by
  have h1 := heap_setCell_same W g 0 _ _ k h
  have h2 := heap_setCell_same _ g 1 _ _ l h1
  have h3 := heap_setCell_same _ g 2 _ _ m h2
  exact heap_setCell_same _ g 3 _ _ n h3
theorem below4J {B : Nat} {w W : World} {g : Nat} {k l m n : Value} (h : Below B w W) (hg : B ≤ g) : Below B w ((((W.setCell ⟨g, 0, none⟩ k).setCell ⟨g, 1, none⟩ l).setCell ⟨g, 2, none⟩ m).setCell ⟨g, 3, none⟩ n) :=
  (((h.setCell (p := ⟨g, 0, none⟩) hg _).setCell (p := ⟨g, 1, none⟩) hg _).setCell (p := ⟨g, 2, none⟩) hg _).setCell (p := ⟨g, 3, none⟩) hg _
theorem pfind8_any (v : Value) (L : List Itm) (k : Nat) (w : World) (s : It w v L) (hlen : L.length ≤ 1000) : Calls Tryz.prog 70 #[v, .int .u64 (k : Int)] w (FD w L k) := by
  have HB0 := Lh ((Below.refl w.heap.size w).alloc (Nat.le_refl _) (.cells #[.int .u64 0, .int .u32 0, .int .i64 0, .int .i64 0] 56))
  have X0 := Lh (heap_alloc_new w (.cells #[.int .u64 0, .int .u32 0, .int .i64 0, .int .i64 0] 56))
  have PO := Lh (fun W (hW : Below w.heap.size w W) => porder_any v L W (it_below s hW) hlen)
  have PS := Lh (fun (u : Value) W (h : It W u (sortL L)) => psplit_any u (sortL L) k W h (asc_sortL L) (Nat.le_trans (length_sortL L) hlen))
  have OKL := Lh s.1
  obtain ⟨a, c, rfl, -, -⟩ := it_form s
  obtain ⟨n, hn⟩ : ∃ n, n = L.length := ⟨_, rfl⟩
  unfold FD
  rw [← hn] at PO ⊢
  clear s hlen hn
  go_enter Tryz.func70, Tryz.ntmps70
  go_wp2_with fail
  generalize w.alloc (.cells #[.int .u64 0, .int .u32 0, .int .i64 0, .int .i64 0] 56) = W0 at *
  refine (PO.out _ HB0.out).mono ?_
  rintro e w1 ⟨⟨v1, rfl, hi1⟩, hb1⟩
  have B1 := Lh (bt HB0.out hb1)
  have X1 := Lh ((hb1.block _ (lt_of_some X0.out)).trans X0.out)
  have SP1 := Lh (PS.out v1 w1 hi1)
  clear hi1 hb1 PO PS HB0 X0
  go_wp2_with fail
  refine SP1.out.mono ?_
  rintro e w2 ⟨va, vb, vc, j, m, rfl, h1, h2, h3, hsp, hb2⟩
  have B2 := Lh (bt B1.out hb2)
  have x2 := (hb2.block _ (lt_of_some X1.out)).trans X1.out
  have X2 := Lh x2
  clear hb2 SP1 B1 X1
  have LK := spl_lk hsp (asc_sortL L)
  rw [lk_sortL] at LK
  have d0 := cell_of_row w2 w.heap.size 0 _ _ _ x2
  have d1 := cell_of_row w2 w.heap.size 1 _ _ _ x2
  have d2 := cell_of_row w2 w.heap.size 2 _ _ _ x2
  have d3 := cell_of_row w2 w.heap.size 3 _ _ _ x2
  have f0 := frozen_of_row w2 w.heap.size 0 _ _ x2
  have f1 := frozen_of_row w2 w.heap.size 1 _ _ x2
  have f2 := frozen_of_row w2 w.heap.size 2 _ _ x2
  have f3 := frozen_of_row w2 w.heap.size 3 _ _ x2
  obtain ⟨a1, c1, rfl, -, -⟩ := it_form h1
  obtain ⟨a3, c3, rfl, -, -⟩ := it_form h3
  clear h1 h3 x2
  generalize (List.take j (sortL L)).length = n1
  generalize (List.drop (j + m) (sortL L)).length = n3
  rcases LK with ⟨rfl, hk⟩ | ⟨rfl, y, hy, hk⟩
  · rw [List.take_zero] at h2
    obtain ⟨a2, c2, rfl, -, -⟩ := it_form h2
    have e1 : fnL L k = z0 := by unfold fnL; rw [hk]; rfl
    have e2 : hasL L k = false := by unfold hasL; rw [hk]; rfl
    have E := Lh (And.intro e1 e2)
    rw [show ([] : List Itm).length = 0 from rfl]
    clear h2 hk e1 e2 hsp
    go_wp2_with fail
    exact pfind_end (g := w.heap.size) rfl (set4J X2.out) ⟨by rw [E.out.1, E.out.2]; rfl, below4J B2.out (Nat.le_refl _)⟩
  · rw [hy] at h2
    obtain ⟨b2, o2, c2, rfl, -, -, hk2⟩ := it_cells h2 (by simp)
    obtain ⟨k0, k1, k2, k3⟩ := hk2 0 (by simp)
    rw [show ([y] : List Itm).getD 0 z0 = y from rfl, Nat.zero_mul, Nat.add_zero] at k0 k1 k2 k3
    have e1 : fnL L k = y := by unfold fnL; rw [hk]; rfl
    have e2 : hasL L k = true := by unfold hasL; rw [hk]; rfl
    have E := Lh (And.intro e1 e2)
    rw [show ([y] : List Itm).length = 1 from rfl]
    clear h2 hk e1 e2 hsp hk2 hy
    go_wp2_with fail
    exact pfind_end (g := w.heap.size) rfl (set4J X2.out) ⟨by rw [E.out.1, E.out.2]; rfl, below4J B2.out (Nat.le_refl _)⟩
/-- make([]api.Item, 0, m). -/
theorem make0T_step {ops : Array Oper} {rest : List Oper} {dst : Option Tmp} {y : Operand} {pos : String} {after : Array Edge} {ty : TypeId} {a : Act} {W : World} {Q : Exit → Act → World → Prop} {m : Nat}
    (hx : a.eval y = .int .i64 (m : Int)) (hn : m ≤ 1000000)
    (h : wpList Tryz.prog ops Q rest (a.put dst (.slice (some ⟨W.heap.size, 0, none⟩) 0 m)) (W.alloc (.cells (madeCells (TV z0).cells (m * 4)) 56))) : wpList Tryz.prog ops Q (⟨dst, .makeSlice 38 (.const (.int .i64 0)) y, ty, pos, after, none⟩ :: rest) a W := by
  refine wpList_plain rfl fun K hK => ?_
  obtain ⟨i, hi, hz0, hz1, hz2⟩ := info_parts infoT
  have hr := run_make (P := Tryz.prog) W 38 56 i (TV z0) Tryz.underlying38 hi hz0 .i64 .i64 0 (m : Int) (Int.le_refl _) (by omega) (by rw [hz2]; omega) (by omega)
  simp only [Int.toNat_natCast, hz1, Int.toNat_zero] at hr
  have hz : a.eval (.const (.int .i64 0)) = .int .i64 0 := rfl
  unfold Oper.wp execOp
  simp only [hx, hz, Sem.run_bind, Sem.run_pure, hr, Result.andThen_ok]
  exact hK _ _ h
theorem owT_made0 (w : World) {base m : Nat} (hb : base ≤ w.heap.size) (hn : m ≤ maxLen) : OwT (w.alloc (.cells (madeCells (TV z0).cells (m * 4)) 56)) base (.slice (some ⟨w.heap.size, 0, none⟩) 0 m) [] :=
  ⟨by simp, ⟨by simp [cellsT], Or.inr ⟨w.heap.size, m, _, by simp, hb, heap_alloc_new _ _, by simp, hn, by rw [size_madeCells], by simp [cellsT]⟩⟩⟩
/-- What the loop of Merge makes: the items of F in their places between those of O, without the keys of O that F has or that are gone. -/
def mgF (G : List Nat) : List Itm → List Itm → List Itm
  | [], F => F
  | x :: r, F => F.take (cntL x.key F) ++ ((if (lk F x.key).isSome ∨ x.key ∈ G then [] else [x]) ++ mgF G r (F.drop (cntL x.key F)))
theorem spl_cnt {L : List Itm} {k j m : Nat} (h : Spl L k j m) : cntL k L = j := by
  have hle := h.le
  refine cntL_spec k L j (by omega) (fun i hi hij => ?_) (fun hj hlt => ?_)
  · exact h.lo _ (List.mem_take_iff_getElem.2 ⟨i, by omega, rfl⟩)
  · rcases h.mid with ⟨hm, he⟩ | ⟨hm, y, hy, hk⟩
    · have := h.hi L[j] (by rw [hm, Nat.add_zero, List.drop_eq_getElem_cons hj]; exact List.mem_cons_self ..)
      omega
    · rw [hm, List.drop_eq_getElem_cons hj, List.take_succ_cons, List.take_zero] at hy
      have : L[j] = y := by simpa using hy
      rw [this] at hlt
      omega
theorem cnt_lo (k : Nat) : ∀ (L : List Itm), ∀ x ∈ L.take (cntL k L), x.key < k
  | [], x, h => by simp at h
  | y :: r, x, h => by
    unfold cntL at h
    by_cases c : y.key < k
    · rw [if_pos c, List.take_succ_cons] at h
      rcases List.mem_cons.1 h with h | h
      · rw [h]; exact c
      · exact cnt_lo k r x h
    · rw [if_neg c, List.take_zero] at h; cases h
theorem cnt_hi {k : Nat} : ∀ {L : List Itm}, Asc L → ∀ x ∈ L.drop (cntL k L), k ≤ x.key
  | [], _, x, h => by simp at h
  | y :: r, hA, x, h => by
    obtain ⟨h1, h2⟩ := asc_cons.1 hA
    unfold cntL at h
    by_cases c : y.key < k
    · rw [if_pos c, List.drop_succ_cons] at h
      exact cnt_hi h2 x h
    · rw [if_neg c, List.drop_zero] at h
      rcases List.mem_cons.1 h with h | h
      · rw [h]; omega
      · have := h1 x h; omega
theorem asc_part {L : List Itm} (h : Asc L) (j : Nat) : Asc (L.take j) ∧ Asc (L.drop j) := ⟨h.sublist (List.take_sublist _ _), h.sublist (List.drop_sublist _ _)⟩
theorem mem_parts {L : List Itm} {j : Nat} {z : Itm} : z ∈ L ↔ z ∈ L.take j ∨ z ∈ L.drop j := by
  conv => lhs; rw [← List.take_append_drop j L]
  exact List.mem_append
/-- What the loop makes holds. -/
theorem mem_mgF (G : List Nat) (z : Itm) : ∀ (O F : List Itm), Asc O → Asc F → (z ∈ mgF G O F ↔ z ∈ F ∨ (z ∈ O ∧ z.key ∉ G ∧ lk F z.key = none))
  | [], F, _, _ => by simp [mgF]
  | x :: r, F, hO, hF => by
    obtain ⟨o1, o2⟩ := asc_cons.1 hO
    have hd := (asc_part hF (cntL x.key F)).2
    have ih := mem_mgF G z r (F.drop (cntL x.key F)) o2 hd
    have hlk : ∀ y ∈ r, (lk (F.drop (cntL x.key F)) y.key = none ↔ lk F y.key = none) := fun y hy => by
      have hxy := o1 y hy
      rw [lk_none, lk_none]
      constructor
      · intro h u hu
        rcases (mem_parts (j := cntL x.key F)).1 hu with m | m
        · have := cnt_lo x.key F u m; omega
        · exact h u m
      · intro h u hu
        exact h u (List.mem_of_mem_drop hu)
    unfold mgF
    rw [List.mem_append, List.mem_append, ih, mem_parts (L := F) (j := cntL x.key F)]
    constructor
    · rintro (h | h | h | ⟨h1, h2, h3⟩)
      · exact Or.inl (Or.inl h)
      · split at h
        · cases h
        · next c =>
          have e := List.mem_singleton.1 h
          rw [e]
          refine Or.inr ⟨List.mem_cons_self .., fun hg => c (Or.inr hg), ?_⟩
          cases hl : lk F x.key with
          | none => rfl
          | some y => exact absurd (Or.inl (by rw [hl]; rfl)) c
      · exact Or.inl (Or.inr h)
      · exact Or.inr ⟨List.mem_cons_of_mem _ h1, h2, (hlk z h1).1 h3⟩
    · rintro ((h | h) | ⟨h1, h2, h3⟩)
      · exact Or.inl h
      · exact Or.inr (Or.inr (Or.inl h))
      · rcases List.mem_cons.1 h1 with e | h1
        · refine Or.inr (Or.inl ?_)
          rw [if_neg ?_, e]
          · simp
          · rintro (c | c)
            · rw [← e, h3] at c; cases c
            · exact h2 (by rw [e]; exact c)
        · exact Or.inr (Or.inr (Or.inr ⟨h1, h2, (hlk z h1).2 h3⟩))
theorem asc_mgF (G : List Nat) : ∀ (O F : List Itm), Asc O → Asc F → Asc (mgF G O F)
  | [], F, _, hF => by unfold mgF; exact hF
  | x :: r, F, hO, hF => by
    obtain ⟨o1, o2⟩ := asc_cons.1 hO
    obtain ⟨h1, hd⟩ := asc_part hF (cntL x.key F)
    have ih := asc_mgF G r (F.drop (cntL x.key F)) o2 hd
    have big : ∀ z ∈ mgF G r (F.drop (cntL x.key F)), x.key ≤ z.key := fun z hz => by
      rcases (mem_mgF G z r _ o2 hd).1 hz with h | ⟨h, -⟩
      · exact cnt_hi hF z h
      · exact Nat.le_of_lt (o1 z h)
    unfold mgF
    refine List.pairwise_append.2 ⟨h1, ?_, fun a ha b hb => ?_⟩
    · split
      · exact ih
      · next c =>
        refine asc_cons.2 ⟨fun z hz => ?_, ih⟩
        have h2 := big z hz
        rcases (mem_mgF G z r _ o2 hd).1 hz with h | ⟨h, -⟩
        · have : z.key ≠ x.key := fun e => c (Or.inl (by rw [(asc_lk hF).2 ⟨List.mem_of_mem_drop h, e⟩]; rfl))
          omega
        · exact o1 z h
    · have h3 := cnt_lo x.key F a ha
      rcases List.mem_append.1 hb with h | h
      · split at h
        · cases h
        · rw [List.mem_singleton.1 h]; exact h3
      · have := big b h; omega
theorem mgF_eq (O F : List Itm) (G : List Nat) : mgF G (sortL O) (sortL F) = mergeL O F G := by
  have hA := asc_mgF G _ _ (asc_sortL O) (asc_sortL F)
  refine asc_ext hA (asc_mergeL O F G) fun k => opt_ext fun z => ?_
  rw [asc_lk hA, mem_mgF G z _ _ (asc_sortL O) (asc_sortL F), lk_mergeL]
  constructor
  · rintro ⟨h | ⟨h1, h2, h3⟩, hk⟩
    · have := (asc_lk (asc_sortL F)).2 ⟨h, hk⟩
      rw [lk_sortL] at this
      rw [this]
    · rw [lk_sortL, hk] at h3
      rw [h3]
      have := (asc_lk (asc_sortL O)).2 ⟨h1, hk⟩
      rw [lk_sortL] at this
      rw [hk] at h2
      simp [h2, this]
  · intro h
    cases hf : lk F k with
    | some y =>
      rw [hf] at h
      obtain rfl : y = z := by simpa using h
      rw [← lk_sortL] at hf
      have := (asc_lk (asc_sortL F)).1 hf
      exact ⟨Or.inl this.1, this.2⟩
    | none =>
      rw [hf] at h
      dsimp only at h
      split at h
      · cases h
      · next c =>
        rw [← lk_sortL] at h
        have := (asc_lk (asc_sortL O)).1 h
        refine ⟨Or.inr ⟨this.1, by rw [this.2]; exact c, by rw [lk_sortL, this.2]; exact hf⟩, this.2⟩
/-- The set of keys that are gone, as the map's reading. -/
def goneD (G : List Nat) : DataW Unit := G.foldl (fun D (g : Nat) => D.put (.int .u64 (g : Int)) (.lit (.bool true))) (.map [])
theorem goneD_snoc (G : List Nat) (g : Nat) : goneD (G ++ [g]) = (goneD G).put (.int .u64 (g : Int)) (.lit (.bool true)) := by simp [goneD]
theorem goneD_map : ∀ (G : List Nat), IsMap (goneD G) := by
  intro G
  rw [← List.reverse_reverse G]
  induction G.reverse with
  | nil => exact isMap_empty
  | cons g r ih => rw [List.reverse_cons, goneD_snoc]; exact ih.put _ _
theorem goneD_at (k : Nat) (G : List Nat) : (goneD G).atKey (.int .u64 (k : Int)) (.lit (.bool false)) = .lit (.bool (decide (k ∈ G))) := by
  rw [← List.reverse_reverse G]
  induction G.reverse with
  | nil => rfl
  | cons g r ih =>
    rw [List.reverse_cons, goneD_snoc]
    by_cases c : k = g
    · subst c
      rw [atKey_put_same (goneD_map _) (show WideAt.IsKeyLit (.int .u64 _) from trivial)]
      simp
    · rw [atKey_put_other (by simp; omega), ih]
      simp [c]
theorem plainElem_bool_inv {P : Program} {e : TypeId} (he : P.underlying e = some .bool) {v : Value} {z : DataW Unit × List MemPlace} (h : plainElem P e v = some z) : ∃ x, v = .bool x ∧ z = (.lit (.bool x), []) := by
  unfold plainElem at h
  rw [he] at h
  cases v <;> simp at h
  exact ⟨_, rfl, h.symm⟩
theorem lookup_bool {P : Program} {w : World} {t k e : TypeId} {b n : Nat} {D : DataW Unit} (h : w.ownsMap P k (plainElem P e) b n D) (K : Keyed P k) (ht : P.underlying t = some (.map k e)) (he : P.underlying e = some .bool) (hz : (zeroValue e).run P w = .ok (.bool false) w)
    {key : Value} {kl : Lit} (hkey : keyOf P k key = some kl) {c : Bool} (hc : D.atKey kl (.lit (.bool false)) = .lit (.bool c)) : (Instr.lookup t (.map (some b)) key false).run P w = .ok (.bool c) w := by
  obtain ⟨v, ps, hrun, hv⟩ := h.lookup K ht hz (plainElem_bool he false) hkey
  obtain ⟨x, rfl, hx⟩ := plainElem_bool_inv he hv
  simp only [Prod.mk.injEq] at hx
  rw [hx.1] at hc
  have : x = c := by simpa using hc
  rw [← this]
  exact hrun
theorem keyK : Keyed Tryz.prog 53 := int_keyed Tryz.underlying53
theorem run_makeMapN (n : Nat) (w : World) : (Instr.makeMap 157 (some (.int .i64 (n : Int)))).run Tryz.prog w = .ok (.map (some w.heap.size)) (w.alloc (.map #[] 0)) := by
  simp [Instr.makeMap, run_underlying Tryz.underlying157, asInt, asIntOf]
theorem wfK {g : Nat} (h : g < 18446744073709551616) : (Lit.int .u64 (g : Int)).wf = true := by
  simp only [Lit.wf, IntKind.min, IntKind.max, IntKind.signed, IntKind.bits, Bool.and_eq_true, decide_eq_true_eq, Bool.false_eq_true, if_false]
  omega
/-- The set of the first n keys, in block B. -/
def Gn (W : World) (B n : Nat) (G : List Nat) : Prop := W.ownsMap Tryz.prog 53 (plainElem Tryz.prog 4) B n (goneD G)
theorem Gn.later {W W' : World} {B n : Nat} {G : List Nat} (h : Gn W B n G) (hb : Below W.heap.size W W') : Gn W' B n G := by
  obtain ⟨es, clock, hg, r⟩ := h
  exact ⟨es, clock, (hb.block B (lt_of_some hg)).trans hg, r⟩
theorem Gn.grown {W W' : World} {B n : Nat} {G : List Nat} {base : Nat} {v : Value} {L : List Itm} (h : Gn W B n G) (hg : W.grownBy W' v.ownBlock) (ho : OwT W base v L) (hB : B < base) : Gn W' B n G :=
  World.ownsMap.kept h hg (fun e => by have := (owT_lt ho B e.symm).1; omega)
theorem Gn.look {W : World} {B n : Nat} {G : List Nat} (h : Gn W B n G) {k : Nat} (hk : k < 18446744073709551616) : (Instr.lookup 157 (.map (some B)) (.int .u64 (k : Int)) false).run Tryz.prog W = .ok (.bool (decide (k ∈ G))) W :=
  lookup_bool h keyK Tryz.underlying157 Tryz.underlying4 (Tryz.zeroValue4 W) (keyOf_int_mk Tryz.underlying53 (wfK hk)) (goneD_at k G)
theorem mgF_length (G : List Nat) : ∀ (O F : List Itm), (mgF G O F).length ≤ O.length + F.length
  | [], F => by unfold mgF; omega
  | x :: r, F => by
    have ih := mgF_length G r (F.drop (cntL x.key F))
    have hc := cntL_le x.key F
    unfold mgF
    rw [List.length_drop] at ih
    rw [List.length_append, List.length_append, List.length_take, List.length_cons]
    split
    · simp; omega
    · simp; omega
theorem mgF_step {G : List Nat} {SO Fi : List Itm} {i j m : Nat} (hi : i < SO.length) (hs : Spl Fi (SO.getD i z0).key j m) (hA : Asc Fi) : mgF G (SO.drop i) Fi = Fi.take j ++ ((if m = 1 ∨ (SO.getD i z0).key ∈ G then [] else [SO.getD i z0]) ++ mgF G (SO.drop (i + 1)) (Fi.drop j)) := by
  have e : SO.drop i = SO.getD i z0 :: SO.drop (i + 1) := by
    rw [List.drop_eq_getElem_cons hi]
    congr 1
    simp [List.getD, hi]
  rw [e]
  show Fi.take (cntL _ Fi) ++ _ = _
  rw [spl_cnt hs]
  congr 2
  rcases spl_lk hs hA with ⟨hm, hl⟩ | ⟨hm, y, -, hl⟩
  · rw [hl, hm]; simp
  · rw [hl, hm]; simp
theorem pmerge8_any (vo vf vg : Value) (O F : List Itm) (G : List Nat) (w : World) (so : It w vo O) (sf : It w vf F) (sg : Su w vg G) (h1 : O.length ≤ 1000) (h2 : F.length ≤ 1000) (h3 : G.length ≤ 1000) : Calls Tryz.prog 72 #[vo, vf, vg] w (LI w (mergeL O F G)) := by
  have PO := Lh (porder_any vo O w so h1)
  have PF := Lh (fun W (hW : Below w.heap.size w W) => porder_any vf F W (it_below sf hW) h2)
  have PS := Lh (fun (u : Value) (L : List Itm) (k : Nat) W (h : It W u L) (hA : Asc L) (hl : L.length ≤ 1000) => psplit_any u L k W h hA hl)
  have NO : Hid ((sortL O).length ≤ 1000) := Nat.le_trans (length_sortL O) h1
  have NF : Hid ((sortL F).length ≤ 1000) := Nat.le_trans (length_sortL F) h2
  have SG := Lh sg
  obtain ⟨ao, co, rfl, -, -⟩ := it_form so
  obtain ⟨af, cf, rfl, -, -⟩ := it_form sf
  obtain ⟨ag, cg, rfl, -, -⟩ := su_form sg
  obtain ⟨ng, hng⟩ : ∃ n, n = G.length := ⟨_, rfl⟩
  have NG := Lh (And.intro hng h3)
  unfold LI at PO PF ⊢
  rw [← hng] at SG ⊢
  rw [← mgF_eq]
  have AO := Lh (asc_sortL O)
  have AF := Lh (asc_sortL F)
  generalize sortL O = SO at *
  generalize sortL F = SF at *
  generalize O.length = no at *
  generalize F.length = nf at *
  have hng2 : ng ≤ 1000 := by omega
  clear so sf sg h1 h2 h3 hng
  have hmm := run_makeMapN ng
  go_enter Tryz.func72, Tryz.ntmps72
  go_wp2_with fail
  refine PO.out.mono ?_
  rintro e w1 ⟨⟨v1, rfl, hi1⟩, hb1⟩
  have B1 := Lh hb1
  have I1 := Lh hi1
  clear hi1 hb1 PO
  go_wp2_with fail
  refine (PF.out _ B1.out).mono ?_
  rintro e w2 ⟨⟨v2, rfl, hi2⟩, hb2⟩
  have B2 := Lh (bt B1.out hb2)
  have I2 := Lh hi2
  have I1' := Lh (it_below I1.out hb2)
  obtain ⟨a1, c1, rfl, -, -⟩ := it_form I1.out
  obtain ⟨a2, c2, rfl, -, -⟩ := it_form I2.out
  have G0 : Hid (Gn (w2.alloc (.map #[] 0)) w2.heap.size 0 (G.take 0)) := World.ownsMap_made _ _ _ _
  have B3 := Lh (bel_al w2 (.map #[] 0))
  clear hi2 hb2 PF I1
  go_wp2_with fail
  have B2e := Lh (Below.refl w2.heap.size w2)
  generalize hMB : w2.heap.size = MB at G0
  have HMB := Lh hMB
  clear hmm hMB
  go_loopw [25] (fun t wr => ∃ i : Nat, i ≤ ng ∧ t = .int .i64 (i : Int) ∧ Hid (Gn wr MB i (G.take i)) ∧ Hid (Below MB w2 wr)) (fun t _ => ng - (intOf t).toNat)
  case atStart => exact ⟨0, by omega, rfl, G0, by show Below _ _ _; rw [← HMB.out]; exact B3.out⟩
  case round =>
    clear G0 B3
    obtain ⟨i, hi, rfl, HG, HB⟩ := hrel
    have HBS : Hid (MB ≤ wr.heap.size) := by show _ ≤ _; rw [← HMB.out]; exact HB.out.size
    by_cases hin : i < ng
    · have hl4 : decide ((i : Int) < (ng : Int)) = true := decide_eq_true (by omega)
      have p0 : (0 : Int) ≤ (i : Int) := by omega
      have p1 : (i : Int) < (ng : Int) := by omega
      obtain ⟨bg, og, cg', hvg, -, -, hkg⟩ := su_cells SG.out (by have := NG.out.1; omega)
      obtain ⟨rfl, -, rfl⟩ : ag = some ⟨bg, og, none⟩ ∧ ng = G.length ∧ cg = cg' := by simpa using hvg
      have c0w := hkg i (by have := NG.out.1; omega)
      have hlt : bg < w.heap.size := block_lt_of_cell c0w
      have c0 : wr.cell? ⟨bg, og + i, none⟩ = some (.int .u64 ((G.getD i 0 : Nat) : Int)) := by
        rw [HB.out.cell (p := ⟨bg, og + i, none⟩) (by show bg < MB; rw [← HMB.out]; have := B2.out.size; omega), B2.out.cell (p := ⟨bg, og + i, none⟩) hlt]
        exact c0w
      have hgt : G.take (i + 1) = G.take i ++ [G.getD i 0] := by
        have hi' : i < G.length := by have := NG.out.1; omega
        rw [List.take_succ_eq_append_getElem hi']
        simp [List.getD, hi']
      have hgb : G.getD i 0 < 18446744073709551616 := SG.out.1 _ (by
        have hi' : i < G.length := by have := NG.out.1; omega
        simp [List.getD, hi'])
      generalize G.getD i 0 = g0 at *
      have hkey := keyOf_int_mk Tryz.underlying53 (wfK hgb)
      have HGT := Lh hgt
      have hown := HG.out
      unfold Gn at hown
      have hmx : i < maxLen := by unfold maxLen; omega
      clear c0w hkg hvg hlt hgt hgb
      go_wp2_with (at_mapUpdate; refine wpList_mapUpdate_own _ rfl _ _ _ 157 rfl 53 4 keyK Tryz.underlying157 _ MB i _ rfl hown hmx _ _ _ rfl rfl hkey _ [] (plainElem_bool Tryz.underlying4 true) ?_; intro w5 hown5 hgrow5; have G5 : Hid (Gn w5 MB (i + 1) (G.take (i + 1))) := (by show Gn _ _ _ _; unfold Gn; rw [HGT.out, goneD_snoc]; exact hown5); have B5 : Hid (Below MB w2 w5) := HB.out.grown hgrow5 HBS.out (fun q hq => by cases hq; exact Nat.le_refl _); clear hown5 hgrow5)
      go_roundw
      case rel => exact ⟨i + 1, by omega, by go_num, G5, B5⟩
      case measure => simp [intOf]; omega
    · obtain rfl : i = ng := by omega
      have hl4 : decide ((i : Int) < (i : Int)) = false := decide_eq_false (by omega)
      have GF : Hid (Gn wr MB i G) := by
        show Gn _ _ _ _
        have := HG.out
        rwa [List.take_of_length_le (by rw [← NG.out.1]; exact Nat.le_refl _)] at this
      obtain ⟨n1, hn1⟩ : ∃ n, n = SO.length := ⟨_, rfl⟩
      obtain ⟨n2, hn2⟩ : ∃ n, n = SF.length := ⟨_, rfl⟩
      have NN := Lh (And.intro hn1 hn2)
      have hn1b : n1 ≤ 1000 := by rw [hn1]; exact NO.out
      have hn2b : n2 ≤ 1000 := by rw [hn2]; exact NF.out
      obtain ⟨mq, hmq⟩ : ∃ q, q = n1 + n2 := ⟨_, rfl⟩
      have q1 : (n1 : Int) + (n2 : Int) = (mq : Int) := by omega
      have hmq1 : mq ≤ 2000 := by omega
      rw [← hn1] at I1' ⊢
      rw [← hn2] at I2 ⊢
      have hsz : MB + 1 ≤ wr.heap.size := by have := World.ownsMap.lt GF.out; omega
      have O3 := Lh (owT_made0 wr (base := MB + 1) (m := mq) hsz (by unfold maxLen; omega))
      have G3 := Lh (GF.out.later (bel_al wr (.cells (madeCells (TV z0).cells (mq * 4)) 56)))
      have B4 := Lh (HB.out.alloc HBS.out (.cells (madeCells (TV z0).cells (mq * 4)) 56))
      have S4 : Hid (MB + 1 ≤ (wr.alloc (.cells (madeCells (TV z0).cells (mq * 4)) 56)).heap.size) := by show _ ≤ _; simp; omega
      have AT0 : Hid (mgF G SO SF = [] ++ mgF G (SO.drop 0) SF) := rfl
      clear hn1 hn2 hmq HG HB GF hsz hl4 hi hin
      go_wp2_with (refine make0T_step (dst := some 37) (m := mq) ?_ (by omega) ?_; exact rfl; generalize wr.alloc (.cells (madeCells (TV z0).cells (mq * 4)) 56) = W4 at *; generalize wr.heap.size = g4 at *)
      clear q1
      go_loopw [1, 10, 40] (fun fr l t wl => ∃ (j : Nat) (Fi A : List Itm), j ≤ n1 ∧ t = .int .i64 (j : Int) ∧ Hid (It w2 fr Fi) ∧ Hid (Asc Fi ∧ Fi.length ≤ 1000) ∧ Hid (OwT wl (MB + 1) l A) ∧ Hid (mgF G SO SF = A ++ mgF G (SO.drop j) Fi) ∧ Hid (Gn wl MB i G) ∧ Hid (Below MB w2 wl ∧ MB + 1 ≤ wl.heap.size)) (fun _ _ t _ => n1 - (intOf t).toNat)
      case atStart => exact ⟨0, SF, [], by omega, rfl, I2, ⟨AF.out, NF.out⟩, O3, AT0, G3, ⟨B4.out, S4.out⟩⟩
      case round =>
        clear O3 G3 B4 S4 AT0
        obtain ⟨j, Fi, A, hj, rfl, IF, HA, OA, EQ, GG, BB⟩ := hrel
        obtain ⟨afr, cfr, rfl, -, -⟩ := it_form IF.out
        obtain ⟨al, cl, rfl, -, -⟩ := owT_form OA.out
        have HLA : Hid (A.length ≤ 2000) := by
          show _ ≤ _
          have h1 := congrArg List.length EQ.out
          have h2 := mgF_length G SO SF
          have h3 := NO.out
          have h4 := NF.out
          rw [List.length_append] at h1
          omega
        obtain ⟨nfi, hnfi⟩ : ∃ q, q = Fi.length := ⟨_, rfl⟩
        obtain ⟨na, hna⟩ : ∃ q, q = A.length := ⟨_, rfl⟩
        have HNL := Lh (And.intro hnfi hna)
        rw [← hnfi] at IF ⊢
        rw [← hna] at OA ⊢
        clear hnfi hna
        by_cases hjn : j < n1
        · have hl4 : decide ((j : Int) < (n1 : Int)) = true := decide_eq_true (by omega)
          have p0 : (0 : Int) ≤ (j : Int) := by omega
          have p1 : (j : Int) < (n1 : Int) := by omega
          obtain ⟨b1, o1, c1', hv1, -, -, hk1⟩ := it_cells I1'.out (by have := NN.out.1; omega)
          obtain ⟨rfl, -, rfl⟩ : a1 = some ⟨b1, o1, none⟩ ∧ n1 = SO.length ∧ c1 = c1' := by simpa using hv1
          have kx := hk1 j (by have := NN.out.1; omega)
          have hb1lt : b1 < w2.heap.size := block_lt_of_cell kx.c0
          have hMBb : b1 < MB := by rw [← HMB.out]; exact hb1lt
          have kx2 : C4 _ b1 (o1 + j * 4) (SO.getD j z0) := ⟨(BB.out.1.cell (p := ⟨b1, _, none⟩) hMBb).trans kx.c0, (BB.out.1.cell (p := ⟨b1, _, none⟩) hMBb).trans kx.c1, (BB.out.1.cell (p := ⟨b1, _, none⟩) hMBb).trans kx.c2, (BB.out.1.cell (p := ⟨b1, _, none⟩) hMBb).trans kx.c3⟩
          have okx := getT_ok I1'.out.1 j
          have ST := Lh (fun (jj mm : Nat) (hs : Spl Fi (SO.getD j z0).key jj mm) => mgF_step (G := G) (by have := NN.out.1; omega : j < SO.length) hs HA.out.1)
          obtain ⟨k0, k1, k2, k3⟩ := kx2
          clear hv1 hk1 kx hb1lt hMBb
          generalize SO.getD j z0 = x at *
          obtain ⟨key, ck, ofs, sz⟩ := x
          dsimp only at k0 k1 k2 k3 ST
          have OKX := Lh okx
          have hkey64 : key < 18446744073709551616 := okx.key
          have HK := Lh hkey64
          clear okx hkey64
          go_upto_region 12 with fail
          have QB := Lh (heap_alloc_new wr (.cells #[.int .u64 (key : Int), .int .u32 (ck : Int), .int .i64 ofs, .int .i64 sz] 56))
          have hal := bel_al wr (.cells #[.int .u64 (key : Int), .int .u32 (ck : Int), .int .i64 ofs, .int .i64 sz] 56)
          have OA5 := Lh (owT_below OA.out hal)
          have GG5 := Lh (GG.out.later hal)
          have BB5 : Hid (Below MB w2 (wr.alloc (.cells #[.int .u64 (key : Int), .int .u32 (ck : Int), .int .i64 ofs, .int .i64 sz] 56)) ∧ MB + 1 ≤ (wr.alloc (.cells #[.int .u64 (key : Int), .int .u32 (ck : Int), .int .i64 ofs, .int .i64 sz] 56)).heap.size) := ⟨BB.out.1.alloc (by have := BB.out.2; omega) _, by have := BB.out.2; simp; omega⟩
          have OLT : Hid (∀ r, (Value.slice al na cl).ownBlock = some r → r < wr.heap.size) := fun r hr => (owT_lt OA.out r hr).2
          have SPC := Lh (PS.out _ Fi key (wr.alloc (.cells #[.int .u64 (key : Int), .int .u32 (ck : Int), .int .i64 ofs, .int .i64 sz] 56)) (it_below IF.out (by rw [HMB.out]; exact BB5.out.1)) HA.out.1 HA.out.2)
          have e0 := cell_of_row _ wr.heap.size 0 _ _ _ QB.out
          clear OA GG BB hal k0 k1 k2 k3 hl4 p0 p1
          generalize wr.alloc (.cells #[.int .u64 (key : Int), .int .u32 (ck : Int), .int .i64 ofs, .int .i64 sz] 56) = W5 at *
          generalize wr.heap.size = q at *
          go_wp2_with fail
          refine SPC.out.mono ?_
          rintro e w6 ⟨va, vb, vc, jj, mm, rfl, s1, s2, s3, hsp, hb6⟩
          have QB6 := Lh ((hb6.block q (lt_of_some QB.out)).trans QB.out)
          have OA6 := Lh (owT_below OA5.out hb6)
          have GG6 := Lh (GG5.out.later hb6)
          have BB6 : Hid (Below MB w2 w6 ∧ MB + 1 ≤ w6.heap.size) := ⟨BB5.out.1.trans (hb6.mono (by have := BB5.out.2; omega)), Nat.le_trans BB5.out.2 hb6.size⟩
          have hjf : jj ≤ nfi := by have := hsp.le; rw [HNL.out.1]; omega
          have S1 := Lh s1
          obtain ⟨a6, c6, rfl, -, -⟩ := it_form s1
          have l6 : (Fi.take jj).length = jj := by rw [List.length_take]; have := hsp.le; omega
          rw [l6] at S1 ⊢
          have HLE : Hid (A.length + (Fi.take jj).length ≤ 100000000) := by show _ ≤ _; have := HLA.out; have := HA.out.2; rw [l6]; have := hsp.le; omega
          have NF2 : Hid (It w2 (.slice (if cfr = jj then afr else afr.map (·.add (jj * 4))) (nfi - jj) (cfr - jj)) (Fi.drop jj)) := it_from IF.out hjf
          have NA2 : Hid (Asc (Fi.drop jj) ∧ (Fi.drop jj).length ≤ 1000) := ⟨(asc_part HA.out.1 jj).2, by rw [List.length_drop]; have := HA.out.2; omega⟩
          have STQ := Lh (ST.out jj mm hsp)
          obtain ⟨a7, c7, e7, -, -⟩ := it_form s2
          obtain ⟨a8, c8, rfl, -, -⟩ := it_form s3
          generalize (List.drop (jj + mm) Fi).length = n8 at *
          rcases hsp.mid with ⟨hmm0, hm0⟩ | ⟨hmm0, y, hm0, -⟩
          · rw [hm0] at e7
            rw [show ([] : List Itm).length = 0 from rfl] at e7
            subst e7
            rw [hmm0] at STQ
            clear s1 s2 s3 hsp hm0 hmm0 l6 e0 SPC QB OA5 GG5 BB5 hb6
            by_cases hkg : key ∈ G
            · have EQ2 : Hid (mgF G SO SF = (A ++ Fi.take jj) ++ mgF G (SO.drop (j + 1)) (Fi.drop jj)) := by
                show _ = _
                rw [EQ.out, STQ.out, if_pos (Or.inr hkg)]; simp
              have hdk : decide (key ∈ G) = true := decide_eq_true hkg
              clear hkg
              go_wp2_with (first
                | (at_builtin; refine app_it (dst := some 54) ?_ ?_ OA6.out S1.out HLE.out BB6.out.2 ?_; exact rfl; exact rfl; intro v7 w7 ho7 hg7; have O7 := Lh ho7; have GG7 := Lh (GG6.out.grown hg7 OA6.out (Nat.lt_succ_self MB)); have BB7 : Hid (Below MB w2 w7 ∧ MB + 1 ≤ w7.heap.size) := ⟨below_grownT BB6.out.1 hg7 OA6.out (by have := BB6.out.2; omega) (Nat.le_succ MB), Nat.le_trans BB6.out.2 hg7.size⟩; have QB7 := Lh ((hg7.block q (lt_of_some QB6.out) (fun e => by have := OLT.out q e.symm; omega)).trans QB6.out); have e0 := cell_of_row w7 q 0 _ _ _ QB7.out; have e1 := cell_of_row w7 q 1 _ _ _ QB7.out; have e2 := cell_of_row w7 q 2 _ _ _ QB7.out; have e3 := cell_of_row w7 q 3 _ _ _ QB7.out; have hlk := GG7.out.look HK.out; rw [hdk] at hlk; clear ho7 hg7)
                | (refine from_step (dst := some 58) (l := jj) ?_ ?_ hjf ?_; exact rfl; exact rfl))
              go_roundw
              case rel => exact ⟨j + 1, Fi.drop jj, A ++ Fi.take jj, by omega, by go_num, NF2, NA2, O7, EQ2, GG7, BB7⟩
              case measure => simp [intOf]; omega
            · have EQ2 : Hid (mgF G SO SF = ((A ++ Fi.take jj) ++ [⟨key, ck, ofs, sz⟩]) ++ mgF G (SO.drop (j + 1)) (Fi.drop jj)) := by
                show _ = _
                rw [EQ.out, STQ.out, if_neg (by rintro (h | h); · cases h
                                                · exact hkg h)]; simp
              have hdk : decide (key ∈ G) = false := decide_eq_false hkg
              have HLE2 : Hid ((A ++ Fi.take jj).length + [(⟨key, ck, ofs, sz⟩ : Itm)].length ≤ 100000000) := by show _ ≤ _; have := HLE.out; have := HLA.out; have := HA.out.2; rw [List.length_append, List.length_take]; simp; omega
              clear hkg
              go_wp2_with (first
                | (at_builtin; refine app_it (dst := some 54) ?_ ?_ OA6.out S1.out HLE.out BB6.out.2 ?_; exact rfl; exact rfl; intro v7 w7 ho7 hg7; have O7 := Lh ho7; have GG7 := Lh (GG6.out.grown hg7 OA6.out (Nat.lt_succ_self MB)); have BB7 : Hid (Below MB w2 w7 ∧ MB + 1 ≤ w7.heap.size) := ⟨below_grownT BB6.out.1 hg7 OA6.out (by have := BB6.out.2; omega) (Nat.le_succ MB), Nat.le_trans BB6.out.2 hg7.size⟩; have QB7 := Lh ((hg7.block q (lt_of_some QB6.out) (fun e => by have := OLT.out q e.symm; omega)).trans QB6.out); have e0 := cell_of_row w7 q 0 _ _ _ QB7.out; have e1 := cell_of_row w7 q 1 _ _ _ QB7.out; have e2 := cell_of_row w7 q 2 _ _ _ QB7.out; have e3 := cell_of_row w7 q 3 _ _ _ QB7.out; have hlk := GG7.out.look HK.out; rw [hdk] at hlk; clear ho7 hg7)
                | (refine from_step (dst := some 58) (l := jj) ?_ ?_ hjf ?_; exact rfl; exact rfl)
                | (at_builtin; refine app_it (dst := some 72) ?_ ?_ (owT_below O7.out (bel_al w7 (.cells #[.int .u64 (key : Int), .int .u32 (ck : Int), .int .i64 ofs, .int .i64 sz] 56))) (it_one OKX.out (heap_alloc_new w7 (.cells #[.int .u64 (key : Int), .int .u32 (ck : Int), .int .i64 ofs, .int .i64 sz] 56))) HLE2.out (by have := BB7.out.2; simp; omega) ?_; exact rfl; exact rfl; intro v9 w9 ho9 hg9; have O9 := Lh ho9; have GG9 := Lh ((GG7.out.later (bel_al w7 (.cells #[.int .u64 (key : Int), .int .u32 (ck : Int), .int .i64 ofs, .int .i64 sz] 56))).grown hg9 (owT_below O7.out (bel_al w7 (.cells #[.int .u64 (key : Int), .int .u32 (ck : Int), .int .i64 ofs, .int .i64 sz] 56))) (Nat.lt_succ_self MB)); have BB9 : Hid (Below MB w2 w9 ∧ MB + 1 ≤ w9.heap.size) := ⟨below_grownT (BB7.out.1.alloc (by have := BB7.out.2; omega) (.cells #[.int .u64 (key : Int), .int .u32 (ck : Int), .int .i64 ofs, .int .i64 sz] 56)) hg9 (owT_below O7.out (bel_al w7 (.cells #[.int .u64 (key : Int), .int .u32 (ck : Int), .int .i64 ofs, .int .i64 sz] 56))) (by have := BB7.out.2; simp; omega) (Nat.le_succ MB), Nat.le_trans (by have := BB7.out.2; simp; omega) hg9.size⟩; clear ho9 hg9))
              go_roundw
              case rel => exact ⟨j + 1, Fi.drop jj, (A ++ Fi.take jj) ++ [⟨key, ck, ofs, sz⟩], by omega, by go_num, NF2, NA2, O9, EQ2, GG9, BB9⟩
              case measure => simp [intOf]; omega
          · rw [hm0] at e7
            rw [show ([y] : List Itm).length = 1 from rfl] at e7
            subst e7
            have EQ2 : Hid (mgF G SO SF = (A ++ Fi.take jj) ++ mgF G (SO.drop (j + 1)) (Fi.drop jj)) := by
              show _ = _
              rw [EQ.out, STQ.out, if_pos (Or.inl hmm0)]; simp
            clear s1 s2 s3 hsp hm0 hmm0 l6 e0 SPC QB OA5 GG5 BB5 hb6
            go_wp2_with (first
              | (at_builtin; refine app_it (dst := some 54) ?_ ?_ OA6.out S1.out HLE.out BB6.out.2 ?_; exact rfl; exact rfl; intro v7 w7 ho7 hg7; have O7 := Lh ho7; have GG7 := Lh (GG6.out.grown hg7 OA6.out (Nat.lt_succ_self MB)); have BB7 : Hid (Below MB w2 w7 ∧ MB + 1 ≤ w7.heap.size) := ⟨below_grownT BB6.out.1 hg7 OA6.out (by have := BB6.out.2; omega) (Nat.le_succ MB), Nat.le_trans BB6.out.2 hg7.size⟩; clear ho7 hg7)
              | (refine from_step (dst := some 58) (l := jj) ?_ ?_ hjf ?_; exact rfl; exact rfl))
            go_roundw
            case rel => exact ⟨j + 1, Fi.drop jj, A ++ Fi.take jj, by omega, by go_num, NF2, NA2, O7, EQ2, GG7, BB7⟩
            case measure => simp [intOf]; omega
        · obtain rfl : j = n1 := by omega
          have hl4 : decide ((j : Int) < (j : Int)) = false := decide_eq_false (by omega)
          have EQ2 : Hid (mgF G SO SF = A ++ Fi) := by
            show _ = _
            rw [EQ.out, List.drop_of_length_le (by rw [← NN.out.1]; exact Nat.le_refl _)]
            rfl
          have IFr := Lh (it_below (w' := wr) IF.out (by rw [HMB.out]; exact BB.out.1))
          have HLE : Hid (A.length + Fi.length ≤ 100000000) := by show _ ≤ _; have := HLA.out; have := HA.out.2; omega
          clear hjn
          go_wp2_with (at_builtin; refine app_it (dst := some 76) ?_ ?_ OA.out IFr.out HLE.out BB.out.2 ?_; exact rfl; exact rfl; intro v7 w7 ho7 hg7; have O7 := Lh ho7; have B7 := Lh (below_grownT BB.out.1 hg7 OA.out (by have := BB.out.2; omega) (Nat.le_succ MB)); clear ho7 hg7)
          go_ret
          exact ⟨⟨_, rfl, by rw [EQ2.out]; exact owT_it O7.out⟩, bt B2.out (by rw [HMB.out]; exact B7.out)⟩
end Go.Proofs.YtbmlpafbdbhaiaaGreatDoor.Gf
