/- What is proved here: the walk of the law StripePieces, over what it asks of the program. No condition. -/
import Derived.Test.YtjpehjgcpnogiaaV5e
namespace Go.Proofs.Ytjpehjgcpnogiaa.Gf
open Go Go.Joins Go.ChangeShapes Go.WideShapes Go.ChangeAt Go.RowKit Go.Deep Go.Proofs.Ytjpehjgcpnogiaa.By

theorem sp_form {w : World} {v : Value} {ps : List (Nat × Nat × Nat)} (h : Sp w v ps) : ∃ a c, v = .slice a ps.length c := by
  obtain ⟨_, ⟨a, c, rfl, rfl⟩ | ⟨b, o, c, rfl, _⟩⟩ := h
  · exact ⟨a, c, rfl⟩
  · exact ⟨_, c, rfl⟩
theorem sp_cells {w : World} {a : Option Addr} {n c : Nat} {ps : List (Nat × Nat × Nat)} (h : Sp w (.slice a n c) ps) (hn : 0 < n) (hl : ps.length = n) : ∃ b o, a = some ⟨b, o, none⟩ ∧ ∀ k, k < n → w.cell? ⟨b, o + k * 3, none⟩ = some (.int .i64 (((ps.getD k (0, 0, 0)).1 : Nat) : Int)) ∧ w.cell? ⟨b, o + k * 3 + 1, none⟩ = some (.int .i64 (((ps.getD k (0, 0, 0)).2.1 : Nat) : Int)) ∧ w.cell? ⟨b, o + k * 3 + 2, none⟩ = some (.int .i64 (((ps.getD k (0, 0, 0)).2.2 : Nat) : Int)) := by
  subst hl
  obtain ⟨_, ⟨_, _, _, rfl⟩ | ⟨b, o, c', hv, hk⟩⟩ := h
  · simp at hn
  · injection hv with hv _ _
    exact ⟨b, o, hv, hk⟩
set_option maxRecDepth 100000 in
set_option maxHeartbeats 6400000 in
/-- The law behind its first choice: slot 1 has the length n. -/
theorem pieces_tail (P : PC5) (n0 n1 : Int) (h0 : I64b n0) (h1 : I64b n1) (w : World) : Calls Try.prog 7 #[.int .i64 n0, .int .i64 n1] w fun e w' => e = .returned (.bool true) ∧ Below w.heap.size w w' := by
  obtain ⟨N, hN⟩ : ∃ N : Int, N = if 5000 < n1 ∧ n1 ≤ 1048576 then n1 % 5000 else n1 := ⟨_, rfl⟩
  have hNb : I64b N := by rw [hN]; unfold I64b at *; split <;> omega
  have PQ := Lib.hid fun W => P.pieces n0 N W h0 hNb
  have RQ := Lib.hid fun W => rpieces_any n0 N W h0 hNb
  have AW := Lib.hid (awake5_any P)
  clear P
  generalize pcL n0 N = ps at *
  generalize pcE n0 N = err at *
  have x1 : (err != err) = false := by simp
  have HN := Lib.hid hN
  clear hN hNb h0
  by_cases g1 : 5000 < n1 ∧ n1 ≤ 1048576
  · have d1 : decide (5000 < n1) = true := decide_eq_true g1.1
    have d2 : decide (n1 ≤ 1048576) = true := decide_eq_true g1.2
    have d3 : n1.tmod 5000 = N := by rw [HN.out, if_pos g1]; exact Int.tmod_eq_emod_of_nonneg (by omega)
    clear g1 h1
    go_enter Try.func7, Try.ntmps7
    go_wp2_with fail
    refine (PQ.out w).mono ?_
    rintro e w1 ⟨⟨v1, rfl, hs1⟩, hb1⟩
    obtain ⟨a1, c1, rfl⟩ := sp_form hs1
    have S1 := Lib.hid hs1
    have B1 := Lib.hid hb1
    clear hs1 hb1
    obtain ⟨m, hm⟩ : ∃ q, q = ps.length := ⟨_, rfl⟩
    rw [← hm] at S1 ⊢
    have HM := Lib.hid hm
    go_wp2_with fail
    refine (RQ.out w1).mono ?_
    unfold EQ
    rintro e w2 ⟨⟨v2, rfl, ho2⟩, hb2⟩
    have hs2 := owns_sp ho2
    obtain ⟨a2, c2, rfl⟩ := sp_form hs2
    rw [← hm] at hs2 ⊢
    have S2 := Lib.hid hs2
    have S1' := Lib.hid (sp_below S1.out hb2)
    have HML : Hid (m ≤ maxLen) := by show m ≤ maxLen; rw [HM.out]; exact hs2.1
    have B2 := Lib.hid (bt B1.out hb2)
    have hml := HML.out
    unfold maxLen at hml
    clear hs2 ho2 hb2 hm S1 B1
    go_wp2_with fail
    go_loopw [42] (fun t wr => ∃ k : Nat, k ≤ m ∧ t = .int .i64 (k : Int) ∧ Below w2.heap.size w2 wr) (fun t _ => m - (intOf t).toNat)
    case atStart => exact ⟨0, by omega, rfl, Below.refl _ _⟩
    case round =>
      obtain ⟨k, hk, rfl, hB⟩ := hrel
      by_cases hkm : k < m
      · have hl4 : decide ((k : Int) < (m : Int)) = true := decide_eq_true (by omega)
        have p0 : (0 : Int) ≤ (k : Int) := by omega
        have p1 : (k : Int) < (m : Int) := by omega
        obtain ⟨b1, o1, rfl, hk1⟩ := sp_cells S1'.out (by omega) HM.out.symm
        obtain ⟨b2, o2, rfl, hk2⟩ := sp_cells S2.out (by omega) HM.out.symm
        obtain ⟨f1, f2, f3⟩ := hk1 k hkm
        obtain ⟨t1, t2, t3⟩ := hk2 k hkm
        have f1 := (hB.cell (block_lt_of_cell f1)).trans f1
        have f2 := (hB.cell (block_lt_of_cell f2)).trans f2
        have f3 := (hB.cell (block_lt_of_cell f3)).trans f3
        have t1 := (hB.cell (block_lt_of_cell t1)).trans t1
        have t2 := (hB.cell (block_lt_of_cell t2)).trans t2
        have t3 := (hB.cell (block_lt_of_cell t3)).trans t3
        generalize (ps.getD k (0, 0, 0)).1 = z1 at *
        generalize (ps.getD k (0, 0, 0)).2.1 = z2 at *
        generalize (ps.getD k (0, 0, 0)).2.2 = z3 at *
        have HB := Lib.hid hB
        clear hB hk1 hk2
        go_wp2
        go_quiet (fail)
        have hd := bt HB.out (below_drewN wr nq)
        clear HB f1 f2 f3 t1 t2 t3
        generalize wr.drewN nq = W9 at *
        have HD := Lib.hid hd
        clear hd
        go_wp2
        go_roundw
        case rel => exact ⟨k + 1, by omega, by go_num, HD.out⟩
        case measure => simp [intOf]; omega
      · obtain rfl : k = m := by omega
        have hl4 : decide ((k : Int) < (k : Int)) = false := decide_eq_false (by omega)
        have HB := Lib.hid (bt B2.out hB)
        clear hB
        go_wp2_with fail
        refine (AW.out wr).mono ?_
        rintro e w9 ⟨rfl, hb9⟩
        have hb := bt HB.out hb9
        go_wp2_with fail
        go_ret
        exact ⟨rfl, hb⟩
  by_cases g2 : 5000 < n1
  · have d1 : decide (5000 < n1) = true := decide_eq_true g2
    have d2 : decide (n1 ≤ 1048576) = false := decide_eq_false (by omega)
    obtain rfl : N = n1 := by rw [HN.out, if_neg g1]
    clear g1 g2 h1
    go_enter Try.func7, Try.ntmps7
    go_wp2_with fail
    refine (PQ.out w).mono ?_
    rintro e w1 ⟨⟨v1, rfl, hs1⟩, hb1⟩
    obtain ⟨a1, c1, rfl⟩ := sp_form hs1
    have S1 := Lib.hid hs1
    have B1 := Lib.hid hb1
    clear hs1 hb1
    obtain ⟨m, hm⟩ : ∃ q, q = ps.length := ⟨_, rfl⟩
    rw [← hm] at S1 ⊢
    have HM := Lib.hid hm
    go_wp2_with fail
    refine (RQ.out w1).mono ?_
    unfold EQ
    rintro e w2 ⟨⟨v2, rfl, ho2⟩, hb2⟩
    have hs2 := owns_sp ho2
    obtain ⟨a2, c2, rfl⟩ := sp_form hs2
    rw [← hm] at hs2 ⊢
    have S2 := Lib.hid hs2
    have S1' := Lib.hid (sp_below S1.out hb2)
    have HML : Hid (m ≤ maxLen) := by show m ≤ maxLen; rw [HM.out]; exact hs2.1
    have B2 := Lib.hid (bt B1.out hb2)
    have hml := HML.out
    unfold maxLen at hml
    clear hs2 ho2 hb2 hm S1 B1
    go_wp2_with fail
    go_loopw [42] (fun t wr => ∃ k : Nat, k ≤ m ∧ t = .int .i64 (k : Int) ∧ Below w2.heap.size w2 wr) (fun t _ => m - (intOf t).toNat)
    case atStart => exact ⟨0, by omega, rfl, Below.refl _ _⟩
    case round =>
      obtain ⟨k, hk, rfl, hB⟩ := hrel
      by_cases hkm : k < m
      · have hl4 : decide ((k : Int) < (m : Int)) = true := decide_eq_true (by omega)
        have p0 : (0 : Int) ≤ (k : Int) := by omega
        have p1 : (k : Int) < (m : Int) := by omega
        obtain ⟨b1, o1, rfl, hk1⟩ := sp_cells S1'.out (by omega) HM.out.symm
        obtain ⟨b2, o2, rfl, hk2⟩ := sp_cells S2.out (by omega) HM.out.symm
        obtain ⟨f1, f2, f3⟩ := hk1 k hkm
        obtain ⟨t1, t2, t3⟩ := hk2 k hkm
        have f1 := (hB.cell (block_lt_of_cell f1)).trans f1
        have f2 := (hB.cell (block_lt_of_cell f2)).trans f2
        have f3 := (hB.cell (block_lt_of_cell f3)).trans f3
        have t1 := (hB.cell (block_lt_of_cell t1)).trans t1
        have t2 := (hB.cell (block_lt_of_cell t2)).trans t2
        have t3 := (hB.cell (block_lt_of_cell t3)).trans t3
        generalize (ps.getD k (0, 0, 0)).1 = z1 at *
        generalize (ps.getD k (0, 0, 0)).2.1 = z2 at *
        generalize (ps.getD k (0, 0, 0)).2.2 = z3 at *
        have HB := Lib.hid hB
        clear hB hk1 hk2
        go_wp2
        go_quiet (fail)
        have hd := bt HB.out (below_drewN wr nq)
        clear HB f1 f2 f3 t1 t2 t3
        generalize wr.drewN nq = W9 at *
        have HD := Lib.hid hd
        clear hd
        go_wp2
        go_roundw
        case rel => exact ⟨k + 1, by omega, by go_num, HD.out⟩
        case measure => simp [intOf]; omega
      · obtain rfl : k = m := by omega
        have hl4 : decide ((k : Int) < (k : Int)) = false := decide_eq_false (by omega)
        have HB := Lib.hid (bt B2.out hB)
        clear hB
        go_wp2_with fail
        refine (AW.out wr).mono ?_
        rintro e w9 ⟨rfl, hb9⟩
        have hb := bt HB.out hb9
        go_wp2_with fail
        go_ret
        exact ⟨rfl, hb⟩
  · have d1 : decide (5000 < n1) = false := decide_eq_false g2
    obtain rfl : N = n1 := by rw [HN.out, if_neg g1]
    clear g1 g2 h1
    go_enter Try.func7, Try.ntmps7
    go_wp2_with fail
    refine (PQ.out w).mono ?_
    rintro e w1 ⟨⟨v1, rfl, hs1⟩, hb1⟩
    obtain ⟨a1, c1, rfl⟩ := sp_form hs1
    have S1 := Lib.hid hs1
    have B1 := Lib.hid hb1
    clear hs1 hb1
    obtain ⟨m, hm⟩ : ∃ q, q = ps.length := ⟨_, rfl⟩
    rw [← hm] at S1 ⊢
    have HM := Lib.hid hm
    go_wp2_with fail
    refine (RQ.out w1).mono ?_
    unfold EQ
    rintro e w2 ⟨⟨v2, rfl, ho2⟩, hb2⟩
    have hs2 := owns_sp ho2
    obtain ⟨a2, c2, rfl⟩ := sp_form hs2
    rw [← hm] at hs2 ⊢
    have S2 := Lib.hid hs2
    have S1' := Lib.hid (sp_below S1.out hb2)
    have HML : Hid (m ≤ maxLen) := by show m ≤ maxLen; rw [HM.out]; exact hs2.1
    have B2 := Lib.hid (bt B1.out hb2)
    have hml := HML.out
    unfold maxLen at hml
    clear hs2 ho2 hb2 hm S1 B1
    go_wp2_with fail
    go_loopw [42] (fun t wr => ∃ k : Nat, k ≤ m ∧ t = .int .i64 (k : Int) ∧ Below w2.heap.size w2 wr) (fun t _ => m - (intOf t).toNat)
    case atStart => exact ⟨0, by omega, rfl, Below.refl _ _⟩
    case round =>
      obtain ⟨k, hk, rfl, hB⟩ := hrel
      by_cases hkm : k < m
      · have hl4 : decide ((k : Int) < (m : Int)) = true := decide_eq_true (by omega)
        have p0 : (0 : Int) ≤ (k : Int) := by omega
        have p1 : (k : Int) < (m : Int) := by omega
        obtain ⟨b1, o1, rfl, hk1⟩ := sp_cells S1'.out (by omega) HM.out.symm
        obtain ⟨b2, o2, rfl, hk2⟩ := sp_cells S2.out (by omega) HM.out.symm
        obtain ⟨f1, f2, f3⟩ := hk1 k hkm
        obtain ⟨t1, t2, t3⟩ := hk2 k hkm
        have f1 := (hB.cell (block_lt_of_cell f1)).trans f1
        have f2 := (hB.cell (block_lt_of_cell f2)).trans f2
        have f3 := (hB.cell (block_lt_of_cell f3)).trans f3
        have t1 := (hB.cell (block_lt_of_cell t1)).trans t1
        have t2 := (hB.cell (block_lt_of_cell t2)).trans t2
        have t3 := (hB.cell (block_lt_of_cell t3)).trans t3
        generalize (ps.getD k (0, 0, 0)).1 = z1 at *
        generalize (ps.getD k (0, 0, 0)).2.1 = z2 at *
        generalize (ps.getD k (0, 0, 0)).2.2 = z3 at *
        have HB := Lib.hid hB
        clear hB hk1 hk2
        go_wp2
        go_quiet (fail)
        have hd := bt HB.out (below_drewN wr nq)
        clear HB f1 f2 f3 t1 t2 t3
        generalize wr.drewN nq = W9 at *
        have HD := Lib.hid hd
        clear hd
        go_wp2
        go_roundw
        case rel => exact ⟨k + 1, by omega, by go_num, HD.out⟩
        case measure => simp [intOf]; omega
      · obtain rfl : k = m := by omega
        have hl4 : decide ((k : Int) < (k : Int)) = false := decide_eq_false (by omega)
        have HB := Lib.hid (bt B2.out hB)
        clear hB
        go_wp2_with fail
        refine (AW.out wr).mono ?_
        rintro e w9 ⟨rfl, hb9⟩
        have hb := bt HB.out hb9
        go_wp2_with fail
        go_ret
        exact ⟨rfl, hb⟩
end Go.Proofs.Ytjpehjgcpnogiaa.Gf
