/- What is proved here: the contract of the program's Encode of a journal (layer 14). Condition: the table nibbles holds its sixteen numbers. -/
import Derived.Test.YtbkhedfhnmkodaaDoorP14b
namespace Go.Proofs.YtbkhedfhnmkodaaDoor.Gf
open Go Go.Joins Go.ChangeShapes Go.WideShapes Go.ChangeAt Go.RowKit Go.Deep Go.Proofs.YtbkhedfhnmkodaaDoor.By Go.Proofs.YtbkhedfhnmkodaaDoor.Crc Go.Proofs.YtbkhedfhnmkodaaDoor.Qt

/-- make([]byte, 0, m). -/
theorem make0_step {ops : Array Oper} {rest : List Oper} {dst : Option Tmp} {y : Operand} {pos : String} {after : Array Edge} {ty : TypeId} {a : Act} {W : World} {Q : Exit → Act → World → Prop} {m : Nat}
    (hx : a.eval y = .int .i64 (m : Int)) (hn : m ≤ 100000000)
    (h : wpList Tryd.prog ops Q rest (a.put dst (.slice (some ⟨W.heap.size, 0, none⟩) 0 m)) (W.alloc (.cells (cellsOf (List.replicate m 0)).toArray 5))) : wpList Tryd.prog ops Q (⟨dst, .makeSlice 23 (.const (.int .i64 0)) y, ty, pos, after, none⟩ :: rest) a W := by
  refine wpList_plain rfl fun K hK => ?_
  obtain ⟨i, hi, hz0, hz1, hz2⟩ := info_parts infoB
  have hr := run_make (P := Tryd.prog) W 23 5 i (.int .u8 0) Tryd.underlying23 hi hz0 .i64 .i64 0 (m : Int) (Int.le_refl _) (by omega) (by rw [hz2]; omega) (by omega)
  simp only [Int.toNat_natCast, hz1, Nat.mul_one, Int.toNat_zero] at hr
  have hc : madeCells (Value.int .u8 0).cells m = (cellsOf (List.replicate m 0)).toArray := by
    apply Array.ext'
    rw [show (Value.int .u8 0).cells = #[Value.int .u8 0] from rfl, toList_madeCells_one]
    simp [cellsOf]
  rw [hc] at hr
  have hz : a.eval (.const (.int .i64 0)) = .int .i64 0 := rfl
  unfold Oper.wp execOp
  simp only [hx, hz, Sem.run_bind, Sem.run_pure, hr, Result.andThen_ok]
  exact hK _ _ h
theorem own_made0 (w : World) {base m : Nat} (hb : base ≤ w.heap.size) (hn : m ≤ maxLen) : Own (w.alloc (.cells (cellsOf (List.replicate m 0)).toArray 5)) base (.slice (some ⟨w.heap.size, 0, none⟩) 0 m) [] :=
  ⟨by simp, ⟨by simp [cellsOf], Or.inr ⟨w.heap.size, m, _, by simp, hb, heap_alloc_new _ _, by simp, hn, by simp [cellsOf], by simp [cellsOf]⟩⟩⟩
theorem z12_size : (#[.int .u8 0, .int .u8 0, .int .u8 0, .int .u8 0, .int .u8 0, .int .u8 0, .int .u8 0, .int .u8 0, .int .u8 0, .int .u8 0, .int .u8 0, .int .u8 0] : Array Value).size = 12 := rfl
set_option maxRecDepth 100000 in
set_option maxHeartbeats 3200000 in
theorem pencode14_any (v : Value) (l : List Nat) (w : World) (ht : Tab w) (s : UL w v l) (hl : l.length ≤ 1000) : Calls Tryd.prog 9 #[v] w (BO14 w (encJ l)) := by
  obtain ⟨a, c, rfl, -, -⟩ := ul_form s
  obtain ⟨n, hn⟩ : ∃ n, n = l.length := ⟨_, rfl⟩
  have HN := Lib.hid (And.intro hn hl)
  have S := Lib.hid s
  have HT := Lib.hid ht
  have HLT := Lib.hid (ul_lt s)
  rw [← hn] at S ⊢
  obtain ⟨m, hm⟩ : ∃ m, m = 12 * n := ⟨_, rfl⟩
  have e1 : (12 : Int) * (n : Int) = (m : Int) := by omega
  have e2 : wrap64 (m : Int) = (m : Int) := by unfold wrap64; omega
  have hm8 : m ≤ 100000000 := by omega
  have HO0 := Lib.hid (own_made0 w (base := w.heap.size) (m := m) (Nat.le_refl _) (by unfold maxLen; omega))
  have HB0 := Lib.hid (bel_al14 w (.cells (cellsOf (List.replicate m 0)).toArray 5))
  have HM := Lib.hid hm8
  have E2 := Lib.hid e2
  clear hn hl s ht hm hm8 e2
  unfold BO14
  go_enter Tryd.func9, Tryd.ntmps9
  go_wp2_with ((with_reducible refine make0_step (m := m) ?_ HM.out ?_); exact congrArg (Value.int .i64) E2.out)
  generalize w.alloc (.cells (cellsOf (List.replicate m 0)).toArray 5) = W at *
  go_loopw [3, 5, 6, 13] (fun out _ _ t wr => ∃ i : Nat, i ≤ n ∧ t = .int .i64 (i : Int) ∧ Own wr w.heap.size out (encJ (l.take i)) ∧ Below w.heap.size w wr) (fun _ _ _ t _ => n - (intOf t).toNat)
  case atStart => exact ⟨0, by omega, rfl, HO0.out, HB0.out⟩
  case round =>
    obtain ⟨i, hi, rfl, hO, hB⟩ := hrel
    clear HO0 HB0 e1
    obtain ⟨oa, on, oc, rfl, hon⟩ := own_form hO
    by_cases hin : i < n
    · have hl4 : decide ((i : Int) < (n : Int)) = true := decide_eq_true (by omega)
      have p0 : (0 : Int) ≤ (i : Int) := by omega
      have p1 : (i : Int) < (n : Int) := by omega
      obtain ⟨b1, o1, rfl, f0, hk⟩ := ul_at (ul_below S.out hB) (j := i) (by have := HN.out.1; omega)
      have HS := Lib.hid (encJ_take_succ (ks := l) (i := i) (by have := HN.out.1; omega))
      have HL : Hid ((encJ (l.take i)).length + 12 ≤ 100000000) := by show _ ≤ _; rw [encJ_length, List.length_take]; have := HN.out; omega
      generalize l.getD i 0 = k at *
      have HO := Lib.hid hO
      have HB := Lib.hid hB
      have HK := Lib.hid hk
      have HI := Lib.hid hin
      have hw := w64s i (by have := HN.out; omega)
      have HSE := Lib.hid (cells_size (entJ_length k))
      have HON := Lib.hid (cells_one (entJ k))
      have HSA := Lib.hid (fun (W2 : World) (g : Nat) (T : TypeId) (cs : Array Value) (hcs : cs = (cellsOf (entJ k)).toArray) (hg : W2.heap[g]? = some (.cells cs T (0, 0))) => sl_array (entJ_lt k) (entJ_length k) (by unfold maxLen; decide) hcs hg)
      have HE := Lib.hid (entJ_length k)
      clear hO hB hk hin hon hi
      rename World => wl
      have EN := Lib.hid (pentry_any k wl HK.out (tab_below HT.out HB.out))
      obtain ⟨CS, hCS⟩ : ∃ c, c = (cellsOf (entJ k)).toArray := ⟨_, rfl⟩
      rw [← hCS] at HSE HON EN
      have HCS := Lib.hid hCS
      clear hCS
      go_wp2_with fail
      refine EN.out.mono ?_
      rintro e w1 ⟨rfl, hb1⟩
      have HO1 := Lib.hid (own_below' HO.out hb1)
      have HB1 := Lib.hid (bt HB.out hb1)
      have HSZ1 := Lib.hid (Nat.le_trans HB.out.size hb1.size)
      clear hb1 HO HB f0 EN
      have BX := Lib.hid (below_setRow (bel_al14 w1 (.cells #[.int .u8 0, .int .u8 0, .int .u8 0, .int .u8 0, .int .u8 0, .int .u8 0, .int .u8 0, .int .u8 0, .int .u8 0, .int .u8 0, .int .u8 0, .int .u8 0] 39)) (g := w1.heap.size) (Nat.le_refl _) CS)
      have HO2 := Lib.hid (own_below' HO1.out BX.out)
      have HB2 := Lib.hid (bt HB1.out BX.out)
      have SX := Lib.hid (HSA.out ((w1.alloc (.cells #[.int .u8 0, .int .u8 0, .int .u8 0, .int .u8 0, .int .u8 0, .int .u8 0, .int .u8 0, .int .u8 0, .int .u8 0, .int .u8 0, .int .u8 0, .int .u8 0] 39)).setRow w1.heap.size CS) w1.heap.size 39 CS HCS.out (setRow_heap _ _ _ _ _ _ (heap_alloc_new w1 (.cells #[.int .u8 0, .int .u8 0, .int .u8 0, .int .u8 0, .int .u8 0, .int .u8 0, .int .u8 0, .int .u8 0, .int .u8 0, .int .u8 0, .int .u8 0, .int .u8 0] 39))))
      have HSZ2 := Lib.hid (Nat.le_trans HSZ1.out BX.out.size)
      have HLN : Hid ((encJ (l.take i)).length + (entJ k).length ≤ 100000000) := by show _ ≤ _; rw [HE.out]; exact HL.out
      clear HSZ1 HO1 HB1 HSA BX
      go_wp2_with (first | ((with_reducible refine store12 w1.heap.size _ CS ?_ ?_ (heap_alloc_new _ _) z12_size HSE.out HON.out ?_); exact rfl; exact rfl) | (at_builtin; refine app_sl (dst := some 21) ?_ ?_ HO2.out SX.out HLN.out HSZ2.out ?_; exact rfl; exact rfl; intro v7 w7 ho7 hg7; have HB7 := Lib.hid (below_grown HB2.out hg7 HO2.out HSZ2.out (Nat.le_refl _)); rw [← HS.out] at ho7; have HO7 := Lib.hid ho7; clear ho7 hg7))
      go_roundw
      case rel => exact ⟨i + 1, HI.out, by go_num, HO7.out, HB7.out⟩
      case measure => exact meas14 n i HI.out (by rw [HN.out.1]; exact HN.out.2)
    · obtain rfl : i = n := by omega
      have hl4 : decide ((i : Int) < (i : Int)) = false := decide_eq_false (by omega)
      rw [List.take_of_length_le (by have := HN.out.1; omega)] at hO
      have HO := Lib.hid hO
      have HB := Lib.hid hB
      clear hO hB hon
      go_wp2
      go_ret
      exact ⟨⟨_, rfl, HO.out⟩, HB.out⟩
end Go.Proofs.YtbkhedfhnmkodaaDoor.Gf
