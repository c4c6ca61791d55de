/- What is proved here: the contracts of the reference's Same, ValidItem, Valid and Find, and of cut (layer 8). No condition. -/
import Derived.Test.YtihjfnlimdcmkaaDoorI8
import Derived.Test.YtihjfnlimdcmkaaDoorQp
namespace Go.Proofs.YtihjfnlimdcmkaaDoor.Gf
open Go Go.Joins Go.ChangeShapes Go.WideShapes Go.ChangeAt Go.RowKit Go.Deep Go.Sort Go.Proofs.YtihjfnlimdcmkaaDoor.By Go.Proofs.YtihjfnlimdcmkaaDoor.Qt

theorem run_neqT (x y : Itm) (W : World) : (binOp .neq 41 (TV x) (TV y)).run Tryd.prog W = .ok (.bool (!(((x.key : Int) == y.key && (x.ck : Int) == y.ck) && x.off == y.off && x.sz == y.sz))) W := by
  unfold TV
  by_cases e0 : (x.key : Int) = y.key <;> by_cases e1 : (x.ck : Int) = y.ck <;> by_cases e2 : x.off = y.off <;> by_cases e3 : x.sz = y.sz
  all_goals
    go_simp
theorem itm_iff {x y : Itm} : x = y ↔ x.key = y.key ∧ x.ck = y.ck ∧ x.off = y.off ∧ x.sz = y.sz :=
  ⟨fun h => by subst h; exact ⟨rfl, rfl, rfl, rfl⟩, fun ⟨h1, h2, h3, h4⟩ => itm_ext h1 h2 h3 h4⟩
instance : DecidableEq Itm := fun _ _ => decidable_of_iff _ itm_iff.symm
theorem itm_beq (x y : Itm) : (((x.key : Int) == y.key && (x.ck : Int) == y.ck) && x.off == y.off && x.sz == y.sz) = decide (x = y) := by
  rw [Bool.eq_iff_iff]
  simp only [Bool.and_eq_true, beq_iff_eq, decide_eq_true_eq, itm_iff]
  omega
theorem neqT (x y : Itm) (W : World) : (binOp .neq 41 (TV x) (TV y)).run Tryd.prog W = .ok (.bool (!decide (x = y))) W := by
  rw [run_neqT, itm_beq]
theorem list_take_eq {L M : List Itm} {i : Nat} (hl : i < L.length) (hm : i < M.length) (h : L.take i = M.take i) (he : L.getD i z0 = M.getD i z0) : L.take (i + 1) = M.take (i + 1) := by
  rw [List.take_succ_eq_append_getElem hl, List.take_succ_eq_append_getElem hm, h]
  simp [List.getD, hl, hm] at he
  rw [he]
set_option maxRecDepth 100000 in
theorem rsame8_any (v1 v2 : Value) (L1 L2 : List Itm) (w : World) (s1 : It w v1 L1) (s2 : It w v2 L2) : Calls Tryd.prog 21 #[v1, v2] w fun e w' => e = .returned (.bool (decide (L1 = L2))) ∧ Below w.heap.size w w' := by
  obtain ⟨a1, c1, rfl, -, -⟩ := it_form s1
  obtain ⟨a2, c2, rfl, -, hm2⟩ := it_form s2
  by_cases hn : L1.length = L2.length
  case neg =>
    rw [decide_eq_false (fun h => hn (by rw [h]))]
    have hb : ((L1.length : Int) != (L2.length : Int)) = true := by rw [bne_iff_ne]; omega
    generalize L1.length = n1 at *
    generalize L2.length = n2 at *
    clear hn s1 s2 hm2
    go_enter Tryd.func21, Tryd.ntmps21
    go_wp2
    go_ret
    exact ⟨rfl, Below.refl _ _⟩
  obtain ⟨n, hn2⟩ : ∃ n, n = L2.length := ⟨_, rfl⟩
  have hn1 : n = L1.length := by omega
  have hbn : ((n : Int) != (n : Int)) = false := by simp
  have hm : n ≤ maxLen := by
    obtain ⟨_, _, h, h1, h2⟩ := it_form s2
    omega
  unfold maxLen at hm
  rw [← hn2, ← hn1]
  have N1 := Lib.hid hn1
  have N2 := Lib.hid hn2
  have S1 := Lib.hid s1
  have S2 := Lib.hid s2
  rw [← hn1] at S1
  rw [← hn2] at S2
  clear hn hn1 hn2 s1 s2 hm2
  go_enter Tryd.func21, Tryd.ntmps21
  go_wp2_with fail
  go_loopw [5] (fun t wr => ∃ i : Nat, i ≤ n ∧ t = .int .i64 (i : Int) ∧ L1.take i = L2.take i ∧ Below w.heap.size w wr) (fun t _ => n - (intOf t).toNat)
  case atStart => exact ⟨0, by omega, rfl, rfl, Below.refl _ _⟩
  case round =>
    obtain ⟨i, hi, rfl, htk, hB⟩ := hrel
    by_cases hin : i < n
    · have hl4 : decide ((i : Int) < (n : Int)) = true := decide_eq_true (by omega)
      have p0 : (0 : Int) ≤ (i : Int) := by omega
      have p1 : (i : Int) < (n : Int) := by omega
      have N1' := N1.out
      have N2' := N2.out
      obtain ⟨b1, o1, c1', hv1, -, -, hk1⟩ := it_cells S1.out (by omega)
      obtain ⟨b2, o2, c2', hv2, -, -, hk2⟩ := it_cells S2.out (by omega)
      obtain ⟨rfl, -, -⟩ : a1 = some ⟨b1, o1, none⟩ ∧ n = L1.length ∧ c1 = c1' := by simpa using hv1
      obtain ⟨rfl, -, -⟩ : a2 = some ⟨b2, o2, none⟩ ∧ n = L2.length ∧ c2 = c2' := by simpa using hv2
      have k1 := (hk1 i (by omega)).below hB
      have k2 := (hk2 i (by omega)).below hB
      have HTK := Lib.hid (fun he => list_take_eq (by omega : i < L1.length) (by omega : i < L2.length) htk he)
      have HNE : Hid (¬ L1.getD i z0 = L2.getD i z0 → ¬ L1 = L2) := fun h e => h (by rw [e])
      have hq := neqT (L1.getD i z0) (L2.getD i z0)
      generalize L1.getD i z0 = x at *
      generalize L2.getD i z0 = y at *
      obtain ⟨f0, f1, f2, f3⟩ := k1
      obtain ⟨g0, g1, g2, g3⟩ := k2
      have HB := Lib.hid hB
      clear hk1 hk2 hv1 hv2 N1' N2' htk hB
      unfold TV at hq
      by_cases hxy : x = y
      · rw [decide_eq_true hxy] at hq
        have HX := Lib.hid (HTK.out hxy)
        clear HTK HNE hxy
        go_wp2
        go_quiet (fail)
        have hd := bt HB.out (below_drewN wr nq)
        clear HB f0 f1 f2 f3 g0 g1 g2 g3
        generalize wr.drewN nq = W9 at *
        go_wp2
        go_roundw
        case rel => exact ⟨i + 1, by omega, by go_num, HX.out, hd⟩
        case measure => simp [intOf]; omega
      · rw [decide_eq_false hxy] at hq
        have HX := Lib.hid (HNE.out hxy)
        clear HTK HNE hxy
        go_wp2
        go_quiet (fail)
        have hd := bt HB.out (below_drewN wr nq)
        clear HB f0 f1 f2 f3 g0 g1 g2 g3
        generalize wr.drewN nq = W9 at *
        go_wp2
        go_ret
        exact ⟨by rw [decide_eq_false HX.out]; rfl, hd⟩
    · obtain rfl : i = n := by omega
      have hl4 : decide ((i : Int) < (i : Int)) = false := decide_eq_false (by omega)
      have HE : Hid (L1 = L2) := by
        show L1 = L2
        have h1 : L1.take i = L1 := List.take_of_length_le (by have := N1.out; omega)
        have h2 : L2.take i = L2 := List.take_of_length_le (by have := N2.out; omega)
        rw [← h1, ← h2]
        exact htk
      have HB := Lib.hid hB
      clear htk hB
      go_wp2
      go_ret
      exact ⟨by rw [decide_eq_true HE.out]; rfl, HB.out⟩
set_option maxRecDepth 100000 in
theorem rvitem_any (x : Itm) (w : World) : Calls Tryd.prog 32 #[TV x] w fun e w' => e = .returned (.bool (decide (okI x))) ∧ Below w.heap.size w w' := by
  have HB := Lib.hid ((Below.refl w.heap.size w).alloc (Nat.le_refl _) (.cells #[.int .u64 (x.key : Int), .int .u32 (x.ck : Int), .int .i64 x.off, .int .i64 x.sz] 41))
  have hd : decide (okI x) = (decide (16 ≤ x.off) && decide (x.off ≤ 1048576) && (x.off.tmod 8 == 0) && decide (0 ≤ x.sz) && decide (x.sz ≤ 4096)) := by
    rw [Bool.eq_iff_iff, decide_eq_true_iff]
    unfold okI
    simp only [decide_eq_true_eq, Bool.and_eq_true, beq_iff_eq]
    constructor
    · rintro ⟨h1, h2, h3, h4, h5⟩; exact ⟨⟨⟨⟨h1, h2⟩, h3⟩, h4⟩, h5⟩
    · rintro ⟨⟨⟨⟨h1, h2⟩, h3⟩, h4⟩, h5⟩; exact ⟨h1, h2, h3, h4, h5⟩
  rw [hd]
  clear hd
  unfold TV
  generalize x.off = off at *
  generalize x.sz = sz at *
  obtain ⟨d1, hd1⟩ : ∃ b, decide (16 ≤ off) = b := ⟨_, rfl⟩
  obtain ⟨d2, hd2⟩ : ∃ b, decide (off ≤ 1048576) = b := ⟨_, rfl⟩
  obtain ⟨d3, hd3⟩ : ∃ b, (off.tmod 8 == 0) = b := ⟨_, rfl⟩
  obtain ⟨d4, hd4⟩ : ∃ b, decide (0 ≤ sz) = b := ⟨_, rfl⟩
  obtain ⟨d5, hd5⟩ : ∃ b, decide (sz ≤ 4096) = b := ⟨_, rfl⟩
  rw [hd1, hd2, hd3, hd4, hd5]
  cases d1
  · clear hd2 hd3 hd4 hd5
    go_enter Tryd.func32, Tryd.ntmps32
    go_wp2
    go_ret
    exact ⟨rfl, HB.out⟩
  cases d2
  · clear hd3 hd4 hd5
    go_enter Tryd.func32, Tryd.ntmps32
    go_wp2
    go_ret
    exact ⟨rfl, HB.out⟩
  cases d3
  · clear hd4 hd5
    go_enter Tryd.func32, Tryd.ntmps32
    go_wp2
    go_ret
    exact ⟨rfl, HB.out⟩
  cases d4
  · clear hd5
    go_enter Tryd.func32, Tryd.ntmps32
    go_wp2
    go_ret
    exact ⟨rfl, HB.out⟩
  cases d5
  all_goals
    go_enter Tryd.func32, Tryd.ntmps32
    go_wp2
    go_ret
    exact ⟨rfl, HB.out⟩
theorem cut8_any (v : Value) (L : List Itm) (w : World) (s : It w v L) : Calls Tryd.prog 11 #[v] w fun e w' => (∃ v', e = .returned v' ∧ It w v' (L.take 40)) ∧ w = w' := by
  by_cases h : 40 < L.length
  · obtain ⟨b, o, c, rfl, hc, hm, -⟩ := it_cells s (by omega)
    have hk := it_cut s 0 40 (by omega)
    rw [Nat.zero_mul, Nat.add_zero, Nat.sub_zero, List.drop_zero] at hk
    have HK := Lib.hid hk
    have d1 : decide ((40 : Int) < (L.length : Int)) = true := decide_eq_true (by omega)
    have g1 : (40 : Int) ≤ (c : Int) := by omega
    have g2 : ¬ c = 40 := by omega
    generalize L.length = n at *
    clear hk s h hc hm
    go_enter Tryd.func11, Tryd.ntmps11
    go_wp2
    go_ret
    exact ⟨⟨_, rfl, HK.out⟩, rfl⟩
  · rw [List.take_of_length_le (by omega)]
    obtain ⟨a, c, rfl, -, -⟩ := it_form s
    have HS := Lib.hid s
    have d1 : decide ((40 : Int) < (L.length : Int)) = false := decide_eq_false (by omega)
    generalize L.length = n at *
    clear s h
    go_enter Tryd.func11, Tryd.ntmps11
    go_wp2
    go_ret
    exact ⟨⟨_, rfl, HS.out⟩, rfl⟩
theorem regrown_bel {P : Program} {f : FuncId} {args : Array Value} {w : World} {v : Value} (h : ∀ w', Below w.heap.size w w' → Calls P f args w' fun e w'' => e = .returned v ∧ Below w'.heap.size w' w'') : ∀ d os, Calls P f args (grow (redrawn w d) os) fun e w'' => e = .returned v ∧ ∃ p : Regrown, w'' = grow (redrawn w p.d) p.os := fun d os => Calls.regrown_of (h _ (below_regrown w d os))
theorem C4.re {w : World} {b o : Nat} {x : Itm} (h : C4 w b o x) : (∀ d os, (grow (redrawn w d) os).cell? ⟨b, o, none⟩ = some (.int .u64 (x.key : Int))) ∧ (∀ d os, (grow (redrawn w d) os).cell? ⟨b, o + 1, none⟩ = some (.int .u32 (x.ck : Int))) ∧ (∀ d os, (grow (redrawn w d) os).cell? ⟨b, o + 2, none⟩ = some (.int .i64 x.off)) ∧ (∀ d os, (grow (redrawn w d) os).cell? ⟨b, o + 3, none⟩ = some (.int .i64 x.sz)) :=
  ⟨cells_regrown h.c0, cells_regrown h.c1, cells_regrown h.c2, cells_regrown h.c3⟩
/-- Valid, up to the i-th item. -/
def okTo (L : List Itm) (i : Nat) : Prop := ∀ j, j < i → okI (L.getD j z0) ∧ (0 < j → (L.getD (j - 1) z0).key < (L.getD j z0).key)
theorem okTo_succ {L : List Itm} {i : Nat} (h : okTo L i) (h1 : okI (L.getD i z0)) (h2 : 0 < i → (L.getD (i - 1) z0).key < (L.getD i z0).key) : okTo L (i + 1) := fun j hj => by
  by_cases e : j = i
  · subst e; exact ⟨h1, h2⟩
  · exact h j (by omega)
set_option maxRecDepth 100000 in
set_option maxHeartbeats 6400000 in
theorem rvalid8_any (v : Value) (L : List Itm) (w : World) (s : It w v L) : Calls Tryd.prog 13 #[v] w fun e w' => e = .returned (.bool (decide (okT L))) ∧ Below w.heap.size w w' := by
  obtain ⟨a, c, rfl, -, hm⟩ := it_form s
  obtain ⟨n, hn⟩ : ∃ n, n = L.length := ⟨_, rfl⟩
  have hml : n ≤ maxLen := by
    obtain ⟨_, _, h, h1, h2⟩ := it_form s
    omega
  unfold maxLen at hml
  rw [← hn]
  have N := Lib.hid hn
  have S := Lib.hid s
  rw [← hn] at S
  clear hn s hm
  go_enter Tryd.func13, Tryd.ntmps13
  go_wp2_with fail
  go_loopw [3] (fun t wr => ∃ i : Nat, i ≤ n ∧ t = .int .i64 (i : Int) ∧ okTo L i ∧ Below w.heap.size w wr) (fun t _ => n - (intOf t).toNat)
  case atStart => exact ⟨0, by omega, rfl, (fun j hj => by omega), Below.refl _ _⟩
  case round =>
    obtain ⟨i, hi, rfl, hok, hB⟩ := hrel
    by_cases hin : i < n
    · have hl4 : decide ((i : Int) < (n : Int)) = true := decide_eq_true (by omega)
      have p0 : (0 : Int) ≤ (i : Int) := by omega
      have p1 : (i : Int) < (n : Int) := by omega
      have N' := N.out
      obtain ⟨b1, o1, c1', hv1, -, -, hk1⟩ := it_cells S.out (by omega)
      obtain ⟨rfl, -, -⟩ : a = some ⟨b1, o1, none⟩ ∧ n = L.length ∧ c = c1' := by simpa using hv1
      have k1 := (hk1 i (by omega)).below hB
      have hbad : (¬ okI (L.getD i z0) ∨ (0 < i ∧ ¬ (L.getD (i - 1) z0).key < (L.getD i z0).key)) → ¬ okT L := fun h e => by
        have h2 := (okT_iff L).1 e i (by omega)
        rcases h with h | ⟨h3, h4⟩
        · exact h h2.1
        · exact h4 (h2.2 h3)
      have HBAD := Lib.hid hbad
      have HOK := Lib.hid (okTo_succ hok)
      have HB := Lib.hid hB
      obtain ⟨f0, f1, f2, f3⟩ := k1.re
      have G1 := Lib.hid (regrown_bel (w := wr) fun w' _ => rvitem_any (L.getD i z0) w')
      by_cases c1 : okI (L.getD i z0)
      case neg =>
        have HX := Lib.hid (HBAD.out (Or.inl c1))
        rw [decide_eq_false c1] at G1
        unfold TV at G1
        clear HBAD HOK hbad hok hk1 hv1 N' k1 hB c1
        generalize L.getD i z0 = x at *
        go_wp2_with fail
        refine wp_region_bl (by kernel_rfl) (by kernel_rfl) ?_
        iterate 4 (go_big_quiet_step (fail))
        go_big_quiet_step ((go_at_call 32; exact G1.out _ _))
        repeat (go_big_quiet_step (fail))
        refine wpQuiet_nil ?_
        intro w9 hb9
        go_wp2_with fail
        go_ret
        exact ⟨by rw [decide_eq_false HX.out]; rfl, bt HB.out hb9⟩
      rw [decide_eq_true c1] at G1
      unfold TV at G1
      by_cases hi0 : 0 < i
      · have d0 : decide ((0 : Int) < (i : Int)) = true := decide_eq_true (by omega)
        have k0 := (hk1 (i - 1) (by omega)).below hB
        obtain ⟨j, hj⟩ : ∃ j, j = i - 1 := ⟨_, rfl⟩
        rw [← hj] at k0 HOK HBAD
        have e1 : IntKind.i64.wrap ((i : Int) - 1) = (j : Int) := by rw [IntWalk.i64_in _ (by omega)]; omega
        have p2 : (0 : Int) ≤ (j : Int) := by omega
        have p3 : (j : Int) < (n : Int) := by omega
        obtain ⟨e0, -, -, -⟩ := k0.re
        by_cases c2 : (L.getD j z0).key < (L.getD i z0).key
        · have d2 : decide (((L.getD i z0).key : Int) ≤ ((L.getD j z0).key : Int)) = false := decide_eq_false (by omega)
          have d3 : ¬ (L.getD i z0).key ≤ (L.getD j z0).key := by omega
          have HX := Lib.hid (HOK.out c1 fun _ => c2)
          clear HBAD HOK hbad hok hk1 hv1 N' k1 k0 hB c1 c2 hj
          generalize L.getD i z0 = x at *
          generalize L.getD j z0 = y at *
          go_wp2_with fail
          refine wp_region_bl (by kernel_rfl) (by kernel_rfl) ?_
          iterate 4 (go_big_quiet_step (fail))
          go_big_quiet_step ((go_at_call 32; exact G1.out _ _))
          repeat (go_big_quiet_step (fail))
          refine wpQuiet_nil ?_
          intro w9 hb9
          have hd := bt HB.out hb9
          clear hb9 HB
          go_wp2
          all_goals
            refine ⟨⟨i + 1, by omega, by go_num, HX.out, hd⟩, ?_⟩
            simp [intOf]
            omega
        · have d2 : decide (((L.getD i z0).key : Int) ≤ ((L.getD j z0).key : Int)) = true := decide_eq_true (by omega)
          have d3 : (L.getD i z0).key ≤ (L.getD j z0).key := by omega
          have HX := Lib.hid (HBAD.out (Or.inr ⟨hi0, c2⟩))
          clear HBAD HOK hbad hok hk1 hv1 N' k1 k0 hB c1 c2 hj
          generalize L.getD i z0 = x at *
          generalize L.getD j z0 = y at *
          go_wp2_with fail
          refine wp_region_bl (by kernel_rfl) (by kernel_rfl) ?_
          iterate 4 (go_big_quiet_step (fail))
          go_big_quiet_step ((go_at_call 32; exact G1.out _ _))
          repeat (go_big_quiet_step (fail))
          refine wpQuiet_nil ?_
          intro w9 hb9
          go_wp2_with fail
          go_ret
          exact ⟨by rw [decide_eq_false HX.out]; rfl, bt HB.out hb9⟩
      · have d0 : decide ((0 : Int) < (i : Int)) = false := decide_eq_false (by omega)
        have HX := Lib.hid (HOK.out c1 fun h => absurd h hi0)
        clear HBAD HOK hbad hok hk1 hv1 N' k1 hB c1
        generalize L.getD i z0 = x at *
        go_wp2_with fail
        refine wp_region_bl (by kernel_rfl) (by kernel_rfl) ?_
        iterate 4 (go_big_quiet_step (fail))
        go_big_quiet_step ((go_at_call 32; exact G1.out _ _))
        repeat (go_big_quiet_step (fail))
        refine wpQuiet_nil ?_
        intro w9 hb9
        have hd := bt HB.out hb9
        clear hb9 HB
        go_wp2
        all_goals
          refine ⟨⟨i + 1, by omega, by go_num, HX.out, hd⟩, ?_⟩
          simp [intOf]
          omega
    · obtain rfl : i = n := by omega
      have hl4 : decide ((i : Int) < (i : Int)) = false := decide_eq_false (by omega)
      have HE : Hid (okT L) := (okT_iff L).2 fun j hj => hok j (by have := N.out; omega)
      have HB := Lib.hid hB
      clear hok hB
      go_wp2
      go_ret
      exact ⟨by rw [decide_eq_true HE.out]; rfl, HB.out⟩
end Go.Proofs.YtihjfnlimdcmkaaDoor.Gf
