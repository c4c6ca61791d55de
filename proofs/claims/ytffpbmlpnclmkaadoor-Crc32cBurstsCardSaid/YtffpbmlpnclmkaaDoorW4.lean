/- What is proved here: the contracts of apply, byteMatrix, product, shiftBytes, Combine. Condition: the table nibbles holds its sixteen numbers. -/
import Derived.Test.YtffpbmlpnclmkaaDoorW3
namespace Go.Proofs.YtffpbmlpnclmkaaDoor.Crc
open Go Go.ChangeShapes Go.WideShapes Go.ChangeAt Go.RowKit

/-- The matrix of n shifts, as cells. -/
def M (n : Nat) : Array Value := ((List.range 32).map fun i => Value.int .u32 ((sgn n (2 ^ i) : Nat) : Int)).toArray
theorem M_size (n : Nat) : (M n).size = 32 := by simp [M]
theorem M_get (n i : Nat) (h : i < 32) : (M n)[i]? = some (.int .u32 ((sgn n (2 ^ i) : Nat) : Int)) := by simp [M, h]

theorem size40 : (Tryd.prog.info? 40).map (·.size) = some 32 := by kernel_rfl
/-- A load of a whole matrix. -/
theorem load40 {ops : Array Oper} {rest : List Oper} {dst : Option Tmp} {x : Operand} {pos : String} {after : Array Edge} {ty : TypeId} {a : Act} {w : World} {Q : Exit → Act → World → Prop}
    (g : Nat) (cs : Array Value) (hx : a.eval x = .pointer (some ⟨g, 0, none⟩)) (hg : w.heap[g]? = some (.cells cs 40 (0, 0))) (hs : cs.size = 32)
    (h : wpList Tryd.prog ops Q rest (a.put dst (.agg cs)) w) : wpList Tryd.prog ops Q (⟨dst, .load 40 x, ty, pos, after, none⟩ :: rest) a w :=
  wpList_load_row rfl 40 x rfl g hx 40 cs (0, 0) _ hg Tryd.underlying40 rfl (by rw [size40, hs]) h

theorem size23 : (Tryd.prog.info? 23).map (·.size) = some 1 := by kernel_rfl
theorem run_index40 (cs : Array Value) (k z : Nat) (w : World) (hk : k < 32) (hg : cs[k]? = some (.int .u32 (z : Int))) :
    (Instr.index 40 (.agg cs) (.int .i64 (k : Int))).run Tryd.prog w = .ok (.int .u32 (z : Int)) w := by
  obtain ⟨i, hi, hs⟩ := Option.map_eq_some_iff.1 size23
  simp [Instr.index, run_underlying Tryd.underlying40, run_underlying Tryd.underlying23, part, isAgg, sizeOf, typeInfo, hi, hs, hg, asIntOf]
  intro h; omega

set_option maxHeartbeats 400000 in
theorem apply_any (n v : Nat) (w : World) (hv : v < 4294967296) :
    Calls Tryd.prog 23 #[.agg (M n), .int .u32 (v : Int)] w fun e w' => e = .returned (.int .u32 ((sgn n v : Nat) : Int)) ∧ w.alloc (.cells (M n) 40) = w' := by
  have hms := M_size n
  go_enter Tryd.func23, Tryd.ntmps23
  go_wp2_with ((with_reducible refine load40 w.heap.size (M n) ?_ ?_ hms ?_); exact rfl; exact heap_alloc_new _ _)
  go_loop [1, 5, 9] (fun v' r i => ∃ k V R : Nat, k ≤ 32 ∧ V = v / 2 ^ k ∧ R = sgn n (v % 2 ^ k) ∧ i = .int .i64 k ∧ r = .int .u32 (R : Int) ∧ v' = .int .u32 (V : Int)) (fun _ _ i => 32 - (intOf i).toNat)
  case atStart => exact ⟨0, v, 0, by omega, by simp, by simp [Nat.mod_one, sgn_zero], rfl, rfl, rfl⟩
  case round =>
    obtain ⟨k, V, R, hk, hV, hR, rfl, rfl, rfl⟩ := hrel
    have hV32 : V < 4294967296 := by rw [hV]; exact Nat.lt_of_le_of_lt (Nat.div_le_self _ _) hv
    have hR32 : R < 4294967296 := by rw [hR]; exact sgn_lt (Nat.lt_of_le_of_lt (Nat.mod_le _ _) hv)
    by_cases hlt : k < 32
    · have hg := M_get n k hlt
      have a1 := and1 V hV32
      have hG32 : sgn n (2 ^ k) < 4294967296 := sgn_lt (Nat.lt_of_lt_of_le (Nat.pow_lt_pow_right (by decide) hlt) (by decide))
      obtain ⟨G, hGe⟩ : ∃ G, G = sgn n (2 ^ k) := ⟨_, rfl⟩
      rw [← hGe] at hg hG32
      have xo : bits .xor .u32 (R : Int) (G : Int) = ((R ^^^ G : Nat) : Int) := u32_xor_nat _ _ hR32 hG32
      have HV := Lib.hid hV
      have HR := Lib.hid hR
      have HG := Lib.hid hGe
      clear hV hR hGe
      have hix := run_index40 (M n) k G (w.alloc (.cells (M n) 40)) hlt hg
      rcases Nat.mod_two_eq_zero_or_one V with h | h
      · rw [h] at a1
        have HH := Lib.hid h
        clear h
        go_wp2
        go_round
        case rel => exact ⟨k + 1, V / 2, R, by omega, by rw [HV.out, div_step], by rw [HR.out, sgn_bit0 n v k (by rw [← HV.out, HH.out])], by go_num, rfl, by go_num⟩
        case measure => simp [intOf]; omega
      · rw [h] at a1
        have HH := Lib.hid h
        clear h
        go_wp2
        go_round
        case rel => exact ⟨k + 1, V / 2, R ^^^ G, by omega, by rw [HV.out, div_step], by rw [HR.out, HG.out, sgn_bit1 n v k (by rw [← HV.out, HH.out])], by go_num, rfl, by go_num⟩
        case measure => simp [intOf]; omega
    · have HR := Lib.hid hR
      have HV := Lib.hid hV
      clear hV hR
      go_wp2
      go_ret
      exact ⟨ret_int (by rw [HR.out, show k = 32 by omega, Nat.mod_eq_of_lt hv]), rfl⟩
/-- A store of a whole matrix. -/
theorem store40 {ops : Array Oper} {rest : List Oper} {dst : Option Tmp} {x y : Operand} {pos : String} {after : Array Edge} {ty : TypeId} {a : Act} {w : World} {Q : Exit → Act → World → Prop}
    (g : Nat) (old cs : Array Value) (hx : a.eval x = .pointer (some ⟨g, 0, none⟩)) (hy : a.eval y = .agg cs) (hg : w.heap[g]? = some (.cells old 40 (0, 0))) (ho : old.size = 32) (hs : cs.size = 32) (h1 : cs.all (·.oneCell') = true)
    (h : wpList Tryd.prog ops Q rest (a.put dst undef) (w.setRow g cs)) : wpList Tryd.prog ops Q (⟨dst, .store 40 x y, ty, pos, after, none⟩ :: rest) a w :=
  wpList_store_row rfl 40 x y rfl g cs hx hy 40 old hg (by rw [size40, hs]) (by omega) h1 h
theorem M_one (n : Nat) : (M n).all (·.oneCell') = true := by
  rw [Array.all_eq_true_iff_forall_mem]
  intro v hv
  simp [M] at hv
  obtain ⟨i, _, rfl⟩ := hv
  rfl
/-- Thirty-two cells whose first k are those of the matrix. -/
def Upto (n k : Nat) (cs : Array Value) : Prop := cs.size = 32 ∧ ∀ j, j < k → cs[j]? = (M n)[j]?
theorem Upto.full {n : Nat} {cs : Array Value} (h : Upto n 32 cs) : cs = M n := by
  apply Array.ext_getElem?
  intro i
  by_cases hi : i < 32
  · exact h.2 i hi
  · rw [Array.getElem?_eq_none (by rw [h.1]; omega), Array.getElem?_eq_none (by rw [M_size]; omega)]
theorem Upto.step {n k : Nat} {cs : Array Value} (h : Upto n k cs) (hk : k < 32) : Upto n (k + 1) (cs.setIfInBounds k (.int .u32 ((sgn n (2 ^ k) : Nat) : Int))) := by
  refine ⟨by simpa using h.1, fun j hj => ?_⟩
  by_cases e : j = k
  · subst e
    rw [M_get n j hk, Array.getElem?_setIfInBounds_self_of_lt (by rw [h.1]; exact hk)]
  · rw [Array.getElem?_setIfInBounds_ne (by omega)]
    exact h.2 j (by omega)

theorem tab_below {w w' : World} (h : Tab w) (hB : Below w.heap.size w w') : Tab w' := fun i hi =>
  (hB.cell (p := ⟨0, i, none⟩) (block_lt_of_cell (h i hi))).trans (h i hi)
theorem below_setRow {B : Nat} {a w : World} (h : Below B a w) {g : Nat} (hg : B ≤ g) (cs : Array Value) : Below B a (w.setRow g cs) :=
  h.trans ⟨rfl, rfl, rfl, by simp, fun k hk => setRow_other _ _ _ _ (by omega)⟩
theorem pow_fact (k : Nat) (hk : k < 32) : ((2 : Int) ^ k % 4294967296) = ((2 ^ k : Nat) : Int) ∧ 2 ^ k < 4294967296 := by
  have h : 2 ^ k < 2 ^ 32 := Nat.pow_lt_pow_right (by decide) hk
  have e : ((2 : Int) ^ k) = ((2 ^ k : Nat) : Int) := by simp
  have h2 : 2 ^ k < 4294967296 := by simpa using h
  rw [e]
  refine ⟨?_, h2⟩
  generalize 2 ^ k = p at h2
  omega

set_option maxHeartbeats 400000 in
theorem byteMatrix_any (w : World) (ht : Tab w) :
    Calls Tryd.prog 22 #[] w fun e w' => e = .returned (.agg (M 8)) ∧ Below w.heap.size w w' := by
  have HT := Lib.hid ht
  clear ht
  go_enter Tryd.func22, Tryd.ntmps22
  go_wp2
  go_loopw [3] (fun i wr => ∃ (k : Nat) (cs c0 : Array Value), k ≤ 32 ∧ i = .int .i64 k ∧ Upto 8 k cs ∧ wr.heap[w.heap.size + 1]? = some (.cells cs 40 (0, 0)) ∧ wr.heap[w.heap.size]? = some (.cells c0 40 (0, 0)) ∧ c0.size = 32 ∧ Below w.heap.size w wr) (fun i _ => 32 - (intOf i).toNat)
  case atStart => exact ⟨0, _, _, by omega, rfl, ⟨by rfl, fun j hj => by omega⟩, heap_alloc2_new _ _ _, heap_alloc2_old _ _ _, rfl, ((Below.refl _ _).alloc (Nat.le_refl _) _).alloc (by simp) _⟩
  case round =>
    obtain ⟨k, cs, c0, hk, rfl, hU, hb1, hb0, h0, hB⟩ := hrel
    have hBs := hB.size
    have HB1 := Lib.hid hb1
    have HB0 := Lib.hid hb0
    by_cases hlt : k < 32
    · have hc := cell_of_row wr (w.heap.size + 1) k cs 40 (0, 0) hb1
      have hf := frozen_of_row wr (w.heap.size + 1) k cs 40 hb1
      have hce : cs[k]? = some (cs[k]'(by rw [hU.1]; exact hlt)) := by simp [hU.1, hlt]
      rw [hce] at hc
      obtain ⟨u, hu⟩ : ∃ u, u = cs[k]'(by rw [hU.1]; exact hlt) := ⟨_, rfl⟩
      rw [← hu] at hc
      clear hce hu hb0 hb1
      obtain ⟨hp, hp32⟩ := pow_fact k hlt
      obtain ⟨p, hpe⟩ : ∃ p, p = 2 ^ k := ⟨_, rfl⟩
      rw [← hpe] at hp hp32
      have HP := Lib.hid hpe
      clear hpe
      have hT := tab_below HT.out hB
      have HTr := Lib.hid hT
      clear hT
      go_wp2_with ((go_at_call 18; refine (shiftByte_any _ _ hp32 HTr.out).mono ?_; rintro e w' ⟨rfl, rfl⟩))
      go_roundw
      case rel =>
        refine ⟨k + 1, _, c0, by omega, by go_num, ?_, heap_setCell_same wr (w.heap.size + 1) k cs 40 _ HB1.out, (heap_setCell_other _ _ _ _ (by simp)).trans HB0.out, h0, hB.setCell (by simp) _⟩
        rw [HP.out]
        exact hU.step hlt
      case measure => simp [intOf]; omega
    · have hcs : cs = M 8 := by
        have : k = 32 := by omega
        rw [this] at hU
        exact hU.full
      subst hcs
      have hm := M_size 8
      go_wp2_with (first | ((with_reducible refine load40 (w.heap.size + 1) (M 8) ?_ HB1.out hm ?_); exact rfl) | ((with_reducible refine store40 w.heap.size c0 (M 8) ?_ ?_ HB0.out h0 hm (M_one 8) ?_); exact rfl; exact rfl))
      exact bodyPost_ret (v := .agg (M 8)) (results_cell_row Tryd.results22 _ _ w.heap.size 40 (M 8) (0, 0) _ rfl (setRow_heap _ _ _ _ _ _ HB0.out) Tryd.underlying40 rfl (by rw [size40, hm])) rfl ⟨rfl, below_setRow hB (Nat.le_refl _) _⟩
end Go.Proofs.YtffpbmlpnclmkaaDoor.Crc
