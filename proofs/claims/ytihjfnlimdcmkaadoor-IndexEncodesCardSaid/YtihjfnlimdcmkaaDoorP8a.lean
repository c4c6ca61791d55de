/- What is proved here: the contracts of the program's validItem, ascending and Valid (index). No condition. -/
import Derived.Test.YtihjfnlimdcmkaaDoorR8a
namespace Go.Proofs.YtihjfnlimdcmkaaDoor.Gf
open Go Go.Joins Go.ChangeShapes Go.WideShapes Go.ChangeAt Go.RowKit Go.Deep Go.Sort Go.Proofs.YtihjfnlimdcmkaaDoor.By Go.Proofs.YtihjfnlimdcmkaaDoor.Qt

set_option maxRecDepth 100000 in
theorem pvitem_any (x : Itm) (w : World) : Calls Tryd.prog 30 #[TV x] w fun e w' => e = .returned (.bool (decide (okI x))) ∧ Below w.heap.size w w' := by
  have HB := Lib.hid ((Below.refl w.heap.size w).alloc (Nat.le_refl _) (.cells #[.int .u64 (x.key : Int), .int .u32 (x.ck : Int), .int .i64 x.off, .int .i64 x.sz] 41))
  have hd : decide (okI x) = (decide (16 ≤ x.off) && decide (x.off ≤ 1048576) && (x.off.tmod 8 == 0) && decide (0 ≤ x.sz) && decide (x.sz ≤ 4096)) := by
    rw [Bool.eq_iff_iff, decide_eq_true_iff]
    unfold okI
    simp only [decide_eq_true_eq, Bool.and_eq_true, beq_iff_eq]
    constructor
    · rintro ⟨h1, h2, h3, h4, h5⟩; exact ⟨⟨⟨⟨h1, h2⟩, h3⟩, h4⟩, h5⟩
    · rintro ⟨⟨⟨⟨h1, h2⟩, h3⟩, h4⟩, h5⟩; exact ⟨h1, h2, h3, h4, h5⟩
  rw [hd]
  clear hd
  unfold TV
  generalize x.off = off at *
  generalize x.sz = sz at *
  obtain ⟨d1, hd1⟩ : ∃ b, decide (16 ≤ off) = b := ⟨_, rfl⟩
  obtain ⟨d2, hd2⟩ : ∃ b, decide (off ≤ 1048576) = b := ⟨_, rfl⟩
  obtain ⟨d3, hd3⟩ : ∃ b, (off.tmod 8 == 0) = b := ⟨_, rfl⟩
  obtain ⟨d4, hd4⟩ : ∃ b, decide (0 ≤ sz) = b := ⟨_, rfl⟩
  obtain ⟨d5, hd5⟩ : ∃ b, decide (sz ≤ 4096) = b := ⟨_, rfl⟩
  rw [hd1, hd2, hd3, hd4, hd5]
  cases d1
  · clear hd2 hd3 hd4 hd5
    go_enter Tryd.func30, Tryd.ntmps30
    go_wp2
    go_ret
    exact ⟨rfl, HB.out⟩
  cases d2
  · clear hd3 hd4 hd5
    go_enter Tryd.func30, Tryd.ntmps30
    go_wp2
    go_ret
    exact ⟨rfl, HB.out⟩
  cases d3
  · clear hd4 hd5
    go_enter Tryd.func30, Tryd.ntmps30
    go_wp2
    go_ret
    exact ⟨rfl, HB.out⟩
  cases d4
  · clear hd5
    go_enter Tryd.func30, Tryd.ntmps30
    go_wp2
    go_ret
    exact ⟨rfl, HB.out⟩
  cases d5
  all_goals
    go_enter Tryd.func30, Tryd.ntmps30
    go_wp2
    go_ret
    exact ⟨rfl, HB.out⟩
/-- The keys ascend up to the i-th item. -/
def ascTo (L : List Itm) (i : Nat) : Prop := ∀ j, j + 1 < i → (L.getD j z0).key < (L.getD (j + 1) z0).key
theorem asc_of {L : List Itm} {i : Nat} (hi : L.length ≤ i) (h : ascTo L i) : Asc L := by
  refine List.pairwise_iff_getElem.2 fun i j hi' hj hij => ?_
  have step : ∀ d, (hd : i + 1 + d < L.length) → L[i].key < (L[i + 1 + d]).key := by
    intro d
    induction d with
    | zero =>
      intro hd
      have := h i (by omega)
      have hd' : i + 1 < L.length := hd
      simpa [List.getD, hd', hi'] using this
    | succ d ih =>
      intro hd
      have h1 := ih (by omega)
      have h2 := h (i + 1 + d) (by omega)
      have hd1 : i + 1 + d < L.length := by omega
      have hd2 : i + 1 + d + 1 < L.length := hd
      have h3 : (L[i + 1 + d]).key < (L[i + 1 + d + 1]).key := by simpa [List.getD, hd1, hd2] using h2
      have h4 : (L[i + 1 + (d + 1)]).key = (L[i + 1 + d + 1]).key := rfl
      omega
  have := step (j - (i + 1)) (by omega)
  simpa [show i + 1 + (j - (i + 1)) = j by omega] using this
theorem asc_at {L : List Itm} (h : Asc L) {j : Nat} (hj : j + 1 < L.length) : (L.getD j z0).key < (L.getD (j + 1) z0).key := by
  have := List.pairwise_iff_getElem.1 h j (j + 1) (by omega) hj (by omega)
  simpa [List.getD, hj, show j < L.length by omega] using this
instance (L : List Itm) : Decidable (Asc L) := by unfold Asc; infer_instance
set_option maxRecDepth 100000 in
set_option maxHeartbeats 6400000 in
theorem pasc_any (v : Value) (L : List Itm) (w : World) (s : It w v L) : Calls Tryd.prog 31 #[v] w fun e w' => e = .returned (.bool (decide (Asc L))) ∧ Below w.heap.size w w' := by
  obtain ⟨a, c, rfl, -, hm⟩ := it_form s
  obtain ⟨n, hn⟩ : ∃ n, n = L.length := ⟨_, rfl⟩
  have hml : n ≤ maxLen := by
    obtain ⟨_, _, h, h1, h2⟩ := it_form s
    omega
  unfold maxLen at hml
  rw [← hn]
  have N := Lib.hid hn
  have S := Lib.hid s
  rw [← hn] at S
  clear hn s hm
  go_enter Tryd.func31, Tryd.ntmps31
  go_wp2_with fail
  go_loopw [3] (fun t wr => ∃ i : Nat, i ≤ n ∧ t = .int .i64 ((i : Int) + 1) ∧ ascTo L (i + 1) ∧ Below w.heap.size w wr) (fun t _ => n + 1 - (intOf t).toNat)
  case atStart => exact ⟨0, by omega, rfl, (fun j hj => by omega), Below.refl _ _⟩
  case round =>
    obtain ⟨i, hi, rfl, hok, hB⟩ := hrel
    by_cases hin : i + 1 < n
    · have hl4 : decide ((i : Int) + 1 < (n : Int)) = true := decide_eq_true (by omega)
      have p0 : (0 : Int) ≤ (i : Int) := by omega
      have p1 : (i : Int) < (n : Int) := by omega
      have p2 : (0 : Int) ≤ (i : Int) + 1 := by omega
      have p3 : (i : Int) + 1 < (n : Int) := by omega
      have e0 : ((i : Int) + 1).toNat = i + 1 := by omega
      have e1 : IntKind.i64.wrap (i : Int) = (i : Int) := IntWalk.i64_in _ (by omega)
      have N' := N.out
      obtain ⟨b1, o1, c1', hv1, -, -, hk1⟩ := it_cells S.out (by omega)
      obtain ⟨rfl, -, -⟩ : a = some ⟨b1, o1, none⟩ ∧ n = L.length ∧ c = c1' := by simpa using hv1
      have k1 := ((hk1 i (by omega)).below hB).c0
      have k2 := ((hk1 (i + 1) (by omega)).below hB).c0
      have HB := Lib.hid hB
      by_cases c1 : (L.getD i z0).key < (L.getD (i + 1) z0).key
      · have d2 : decide (((L.getD (i + 1) z0).key : Int) ≤ ((L.getD i z0).key : Int)) = false := decide_eq_false (by omega)
        have d3 : ¬ (L.getD (i + 1) z0).key ≤ (L.getD i z0).key := by omega
        have HX : Hid (ascTo L (i + 1 + 1)) := fun j hj => by
          by_cases e : j = i
          · subst e; exact c1
          · exact hok j (by omega)
        clear hok hk1 hv1 N' hB c1
        generalize (L.getD (i + 1) z0).key = x at *
        generalize (L.getD i z0).key = y at *
        go_wp2_with fail
        go_quiet (fail)
        have hd := bt HB.out (below_drewN wr nq)
        clear HB k1 k2
        generalize wr.drewN nq = W9 at *
        go_wp2
        go_roundw
        case rel => exact ⟨i + 1, by omega, by go_num, HX.out, hd⟩
        case measure => simp [intOf]; omega
      · have d2 : decide (((L.getD (i + 1) z0).key : Int) ≤ ((L.getD i z0).key : Int)) = true := decide_eq_true (by omega)
        have d3 : (L.getD (i + 1) z0).key ≤ (L.getD i z0).key := by omega
        have HX : Hid (¬ Asc L) := fun h => c1 (asc_at h (by omega))
        clear hok hk1 hv1 N' hB c1
        generalize (L.getD (i + 1) z0).key = x at *
        generalize (L.getD i z0).key = y at *
        go_wp2_with fail
        go_quiet (fail)
        have hd := bt HB.out (below_drewN wr nq)
        clear HB k1 k2
        generalize wr.drewN nq = W9 at *
        go_wp2
        go_ret
        exact ⟨by rw [decide_eq_false HX.out]; rfl, hd⟩
    · have hl4 : decide ((i : Int) + 1 < (n : Int)) = false := decide_eq_false (by omega)
      have hl5 : ¬ (i : Int) + 1 < (n : Int) := by omega
      have HE : Hid (Asc L) := asc_of (by have := N.out; omega) hok
      have HB := Lib.hid hB
      clear hok hB
      go_wp2
      go_ret
      exact ⟨by rw [decide_eq_true HE.out]; rfl, HB.out⟩
theorem cells_itm (x : Itm) : (TV x).cells = #[.int .u64 (x.key : Int), .int .u32 (x.ck : Int), .int .i64 x.off, .int .i64 x.sz] := rfl
set_option maxRecDepth 100000 in
set_option maxHeartbeats 6400000 in
theorem pvalid8_any (v : Value) (L : List Itm) (w : World) (s : It w v L) : Calls Tryd.prog 12 #[v] w fun e w' => e = .returned (.bool (decide (okT L))) ∧ Below w.heap.size w w' := by
  have PA := Lib.hid (fun W (hW : Below w.heap.size w W) => pasc_any v L W (it_below s hW))
  obtain ⟨a, c, rfl, -, hm⟩ := it_form s
  obtain ⟨n, hn⟩ : ∃ n, n = L.length := ⟨_, rfl⟩
  have hml : n ≤ maxLen := by
    obtain ⟨_, _, h, h1, h2⟩ := it_form s
    omega
  unfold maxLen at hml
  rw [← hn] at PA ⊢
  have N := Lib.hid hn
  have S := Lib.hid s
  rw [← hn] at S
  clear hn s hm
  go_enter Tryd.func12, Tryd.ntmps12
  go_wp2_with fail
  go_loopw [7] (fun t wr => ∃ i : Nat, i ≤ n ∧ t = .int .i64 (i : Int) ∧ Hid (∀ j, j < i → okI (L.getD j z0)) ∧ Below w.heap.size w wr) (fun t _ => n - (intOf t).toNat)
  case atStart => exact ⟨0, by omega, rfl, (fun j hj => by omega), Below.refl _ _⟩
  case round =>
    obtain ⟨i, hi, rfl, hok, hB⟩ := hrel
    by_cases hin : i < n
    · have hl4 : decide ((i : Int) < (n : Int)) = true := decide_eq_true (by omega)
      have p0 : (0 : Int) ≤ (i : Int) := by omega
      have p1 : (i : Int) < (n : Int) := by omega
      have N' := N.out
      obtain ⟨b1, o1, c1', hv1, -, -, hk1⟩ := it_cells S.out (by omega)
      obtain ⟨rfl, -, -⟩ : a = some ⟨b1, o1, none⟩ ∧ n = L.length ∧ c = c1' := by simpa using hv1
      obtain ⟨k0, k1, k2, k3⟩ := (hk1 i (by omega)).below hB
      have G1 := Lib.hid (pvitem_any (L.getD i z0))
      have HX : Hid (okI (L.getD i z0) → ∀ j, j < i + 1 → okI (L.getD j z0)) := fun h j hj => by
        by_cases e : j = i
        · subst e; exact h
        · exact hok.out j (by omega)
      have HY : Hid (¬ okI (L.getD i z0) → ¬ okT L) := fun h e => h (e.1 _ (getT_mem (by omega)))
      have HB := Lib.hid hB
      clear hok hk1 hv1 N' hB
      generalize L.getD i z0 = x at *
      have HBA := Lib.hid (HB.out.alloc HB.out.size (.cells #[.int .u64 (x.key : Int), .int .u32 (x.ck : Int), .int .i64 x.off, .int .i64 x.sz] 41))
      by_cases c1 : okI x
      · rw [decide_eq_true c1] at G1
        have HZ := Lib.hid (HX.out c1)
        clear HX HY c1
        unfold TV at G1
        go_wp2_with fail
        refine (G1.out _).mono ?_
        rintro e w2 ⟨rfl, hb2⟩
        have hd := bt HBA.out hb2
        clear hb2 HBA HB k0 k1 k2 k3
        go_wp2
        go_roundw
        case rel => exact ⟨i + 1, by omega, by go_num, HZ.out, hd⟩
        case measure => simp [intOf]; omega
      · rw [decide_eq_false c1] at G1
        have HZ := Lib.hid (HY.out c1)
        clear HX HY c1
        unfold TV at G1
        go_wp2_with fail
        refine (G1.out _).mono ?_
        rintro e w2 ⟨rfl, hb2⟩
        have hd := bt HBA.out hb2
        clear hb2 HBA HB k0 k1 k2 k3
        go_wp2
        go_ret
        exact ⟨by rw [decide_eq_false HZ.out]; rfl, hd⟩
    · obtain rfl : i = n := by omega
      have hl4 : decide ((i : Int) < (i : Int)) = false := decide_eq_false (by omega)
      have HE : Hid (decide (Asc L) = decide (okT L)) := decide_eq_decide.2 ⟨fun h => ⟨fun x hx => by
        obtain ⟨j, hj, rfl⟩ := List.getElem_of_mem hx
        have := hok.out j (by have := N.out; omega)
        simpa [List.getD, hj] using this, h⟩, fun h => h.2⟩
      have HB := Lib.hid hB
      have PA' := PA.out
      have HE' := HE.out
      clear hok hB HE PA
      generalize decide (Asc L) = D at PA' HE'
      have PA := Lib.hid PA'
      have HE := Lib.hid HE'
      clear PA' HE'
      go_wp2_with fail
      refine (PA.out _ HB.out).mono ?_
      rintro e w2 ⟨rfl, hb2⟩
      have hd := bt HB.out hb2
      clear hb2
      go_wp2
      go_ret
      exact ⟨by rw [← HE.out]; rfl, hd⟩
end Go.Proofs.YtihjfnlimdcmkaaDoor.Gf
