/- What is proved here: the contract of the program's firstKey of a journal (layer 14). No condition. -/
import Derived.Test.YtbkhedfhnmkodaaDoorP14a
import Derived.ChangeKeysEq
namespace Go.Proofs.YtbkhedfhnmkodaaDoor.Gf
open Go Go.Joins Go.ChangeShapes Go.WideShapes Go.ChangeAt Go.RowKit Go.Deep Go.Proofs.YtbkhedfhnmkodaaDoor.By Go.Proofs.YtbkhedfhnmkodaaDoor.Crc Go.Proofs.YtbkhedfhnmkodaaDoor.Qt

set_option maxRecDepth 100000 in
set_option maxHeartbeats 3200000 in
theorem pfirst_any (E : List Nat) (w : World) (hE : E.length = 12) (hl : ∀ b ∈ E, b < 256) : Calls Tryd.prog 17 #[.agg (cellsOf E).toArray] w fun e w' => e = .returned (.int .u64 ((valL (E.take 8) : Nat) : Int)) ∧ Below w.heap.size w w' := by
  have HSZ := Lib.hid (cells_size hE)
  have HC : Hid (∀ k, k < 8 → (w.alloc (.cells (cellsOf E).toArray 39)).cell? ⟨w.heap.size, k, none⟩ = some (.int .u8 (((E.take 8).getD k 0 : Nat) : Int))) := fun k hk => by
    rw [ar_cell (heap_alloc_new _ _) (by omega), getD_take _ _ _ hk]
  have HB := Lib.hid (bel_al14 w (.cells (cellsOf E).toArray 39))
  have HL := Lib.hid (mem_take hl 8)
  have HN : Hid ((E.take 8).length = 8) := by show _ = _; rw [List.length_take]; omega
  generalize E.take 8 = l at *
  obtain ⟨CS, hCS⟩ : ∃ c, c = (cellsOf E).toArray := ⟨_, rfl⟩
  rw [← hCS] at HC HB HSZ ⊢
  clear hCS hE hl
  go_enter Tryd.func17, Tryd.ntmps17
  go_wp2_with fail
  generalize w.alloc (.cells CS 39) = W at *
  go_loopw [3, 5, 8] (fun r _ t wr => ∃ j : Nat, j ≤ 8 ∧ t = .int .i64 (j : Int) ∧ r = .int .u64 ((valL (l.take j) : Nat) : Int) ∧ wr = W) (fun _ _ t _ => 8 - (intOf t).toNat)
  case atStart => exact ⟨0, by omega, rfl, rfl, rfl⟩
  case round =>
    obtain ⟨j, hj, rfl, rfl, rfl⟩ := hrel
    by_cases hjn : j < 8
    · have hl4 : decide ((j : Int) < 8) = true := decide_eq_true (by omega)
      have hc := HC.out j hjn
      have hb := getD_lt HL.out j
      have HS := Lib.hid (valL_take_succ (l := l) (j := j) (by have := HN.out; omega))
      have hv : valL (l.take j) < 72057594037927936 := by
        have h1 := valL_lt (l.take j) (mem_take HL.out j)
        have h2 : (l.take j).length ≤ 7 := by rw [List.length_take]; omega
        exact Nat.lt_of_lt_of_le h1 (by have := Nat.pow_le_pow_right (n := 256) (by decide) h2; simpa using this)
      have ho := or_byte hv hb
      generalize valL (l.take j) = V at *
      generalize l.getD j 0 = y at *
      have hs : (V : Int) * 256 % 18446744073709551616 = (V : Int) * 256 := by omega
      have p0 : (0 : Int) ≤ (j : Int) := by omega
      have p1 : (j : Int) < 8 := by omega
      go_wp2
      go_roundw
      case rel => exact ⟨j + 1, by omega, by go_num, by rw [HS.out]; simp, by first | rfl | trivial⟩
      case measure => simp [intOf]; omega
    · obtain rfl : j = 8 := by omega
      have hl4 : decide (((8 : Nat) : Int) < 8) = false := by decide
      rw [show ((8 : Nat) : Int) = 8 from rfl] at hl4 ⊢
      rw [show l.take 8 = l from List.take_of_length_le (by rw [HN.out]; exact Nat.le_refl _)]
      go_wp2
      go_ret
      exact ⟨rfl, HB.out⟩
/-- Comparing bytes of arrays, c of them from s on. -/
theorem run_itemsB (d : Nat) {l m : List Nat} (w : World) : ∀ c s : Nat, s + c ≤ l.length → s + c ≤ m.length →
    (Op.eqItems (d + 1) 5 (Tryd.prog.cellsOf 5) (cellsOf l).toArray (cellsOf m).toArray (List.range' s c)).run Tryd.prog w = .ok (decide ((l.drop s).take c = (m.drop s).take c)) w := by
  obtain ⟨i, hi, hz0, hz1, hz2⟩ := info_parts infoB
  have hp : ∀ (l : List Nat) (s : Nat) (W : World), s < l.length → (part 5 (cellsOf l).toArray (s * 1)).run Tryd.prog W = .ok (.int .u8 ((l.getD s 0 : Nat) : Int)) W := fun l s W hs => by
    simp [part, isAgg, run_underlying Tryd.underlying5, sizeOf, typeInfo, hi, hz1, cellsOf, hs, List.getD]
  intro c
  induction c with
  | zero => intro s _ _; simp [Op.eqItems]
  | succ c ih =>
    intro s h1 h2
    have e1 : (l.drop s).take (c + 1) = l.getD s 0 :: (l.drop (s + 1)).take c := by
      rw [List.drop_eq_getElem_cons (by omega), List.take_succ_cons]
      simp [List.getD, show s < l.length by omega]
    have e2 : (m.drop s).take (c + 1) = m.getD s 0 :: (m.drop (s + 1)).take c := by
      rw [List.drop_eq_getElem_cons (by omega), List.take_succ_cons]
      simp [List.getD, show s < m.length by omega]
    rw [e1, e2, List.range'_succ]
    have hq := ih (s + 1) (by omega) (by omega)
    have he : (Op.equalIn (d + 1) 5 (.int .u8 ((l.getD s 0 : Nat) : Int)) (.int .u8 ((m.getD s 0 : Nat) : Int))).run Tryd.prog w = .ok (((l.getD s 0 : Nat) : Int) == ((m.getD s 0 : Nat) : Int)) w := by
      simp [Op.equalIn, run_underlying Tryd.underlying5]
    simp only [Op.eqItems, Sem.run_bind, cellsB, hp l s w (by omega), hp m s w (by omega), Result.andThen_ok, he]
    generalize l.getD s 0 = x at *
    generalize m.getD s 0 = y at *
    by_cases hx : x = y
    · rw [hx]
      simp only [beq_self_eq_true, Bool.not_true, Bool.false_eq_true, if_false, List.cons.injEq, true_and]
      rw [cellsB] at hq
      exact hq
    · have hx2 : ((x : Int) == (y : Int)) = false := beq_false_of_ne (by omega)
      rw [hx2]
      simp [hx]
theorem run_eq12 {l m : List Nat} (hl : l.length = 12) (hm : m.length = 12) (w : World) : (Op.equalIn 10000 39 (.agg (cellsOf l).toArray) (.agg (cellsOf m).toArray)).run Tryd.prog w = .ok (decide (l = m)) w := by
  obtain ⟨i, hi, -⟩ := info_parts infoB
  have h := run_equalIn_array w 9999 (cellsOf l).toArray (cellsOf m).toArray Tryd.underlying39 hi
  rw [h, List.range_eq_range', run_itemsB 9998 w 12 0 (by omega) (by omega)]
  rw [List.drop_zero, List.drop_zero, List.take_of_length_le (by omega), List.take_of_length_le (by omega)]
end Go.Proofs.YtbkhedfhnmkodaaDoor.Gf
