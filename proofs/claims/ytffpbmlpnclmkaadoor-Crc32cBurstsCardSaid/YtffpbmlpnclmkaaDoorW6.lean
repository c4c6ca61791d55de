/- What is proved here: the contracts of shiftBytes and Combine. Condition: the table nibbles holds its sixteen numbers. -/
import Derived.Test.YtffpbmlpnclmkaaDoorW5
import Derived.Deep.WholeRow
namespace Go.Proofs.YtffpbmlpnclmkaaDoor.Crc
open Go Go.ChangeShapes Go.WideShapes Go.ChangeAt Go.RowKit

theorem and1_i64 (n : Nat) (h : n < 9223372036854775808) : bits .and .i64 (n : Int) 1 = ((n % 2 : Nat) : Int) := by
  have e1 : (BitVec.ofInt 64 (n : Int)).toNat = n := by rw [BitVec.toNat_ofInt]; omega
  have e2 : (BitVec.ofInt 64 (1 : Int)).toNat = 1 := rfl
  have e3 : (BitVec.ofInt 64 (n : Int) &&& BitVec.ofInt 64 1).toNat = n % 2 := by rw [BitVec.toNat_and, e1, e2, nat_mask1]
  show IntKind.i64.wrap ((BitVec.ofInt 64 (n : Int) &&& BitVec.ofInt 64 1).toNat : Int) = _
  rw [e3, IntKind.wrap_i64]
  omega
/-- The squaring steps: p shifts a matrix, N of them are left. -/
theorem sq_odd {p N R : Nat} (h : N % 2 = 1) : sgn ((p + p) * (N / 2)) (sgn p R) = sgn (p * N) R := by
  rw [← sgn_add]
  congr 1
  have : N = 2 * (N / 2) + 1 := by omega
  generalize N / 2 = k at *
  subst this
  rw [Nat.mul_add, Nat.mul_one, ← Nat.mul_assoc, Nat.mul_two, Nat.add_comm]
theorem sq_even {p N R : Nat} (h : N % 2 = 0) : sgn ((p + p) * (N / 2)) R = sgn (p * N) R := by
  congr 1
  have : N = 2 * (N / 2) := by omega
  generalize N / 2 = k at *
  subst this
  rw [← Nat.mul_assoc, Nat.mul_two]

/-- A store of a whole matrix; the frame stays as it is. -/
theorem put40 {ops : Array Oper} {rest : List Oper} {x y : Operand} {pos : String} {after : Array Edge} {ty : TypeId} {a : Act} {w : World} {Q : Exit → Act → World → Prop}
    (g : Nat) (old cs : Array Value) (hx : a.eval x = .pointer (some ⟨g, 0, none⟩)) (hy : a.eval y = .agg cs) (hg : w.heap[g]? = some (.cells old 40 (0, 0))) (ho : old.size = 32) (hs : cs.size = 32) (h1 : cs.all (·.oneCell') = true)
    (h : wpList Tryd.prog ops Q rest a (w.setRow g cs)) : wpList Tryd.prog ops Q (⟨none, .store 40 x y, ty, pos, after, none⟩ :: rest) a w :=
  store40 g old cs hx hy hg ho hs h1 h
set_option maxRecDepth 100000 in
set_option maxHeartbeats 800000 in
theorem shiftBytes_any (r n : Nat) (w : World) (hr : r < 4294967296) (hn : n < 9223372036854775808) (ht : Tab w) :
    Calls Tryd.prog 20 #[.int .u32 (r : Int), .int .i64 (n : Int)] w fun e w' => e = .returned (.int .u32 ((sgn (8 * n) r : Nat) : Int)) ∧ Below w.heap.size w w' := by
  have HT := Lib.hid ht
  clear ht
  go_enter Tryd.func20, Tryd.ntmps20
  go_wp2_with (first | (go_at_call 22; refine (byteMatrix_any _ HT.out).mono ?_; rintro e w1 ⟨rfl, hB1⟩) | ((with_reducible refine put40 w1.heap.size _ (M 8) ?_ ?_ (heap_alloc_new _ _) ?_ (M_size 8) (M_one 8) ?_); exact rfl; exact rfl; exact rfl))
  rw [World.setRow_alloc_new]
  have hs1 := hB1.size
  go_loopw [0, 1] (fun x i wr => ∃ p N R : Nat, N < 9223372036854775808 ∧ R < 4294967296 ∧ sgn (p * N) R = sgn (8 * n) r ∧ i = .int .i64 N ∧ x = .int .u32 R ∧ wr.heap[w1.heap.size]? = some (.cells (M p) 40 (0, 0)) ∧ Below w.heap.size w wr) (fun _ i _ => (intOf i).toNat)
  case atStart => exact ⟨8, n, r, hn, hr, rfl, rfl, rfl, heap_alloc_new _ _, hB1.alloc hs1 _⟩
  case round =>
    obtain ⟨p, N, R, hN, hR, hS, rfl, rfl, hb, hB⟩ := hrel
    have hBs := hB.size
    have hlb : w1.heap.size < wr.heap.size := (Array.getElem?_eq_some_iff.1 hb).1
    have HB := Lib.hid hb
    have HS := Lib.hid hS
    clear hb hS
    have a1 := and1_i64 N hN
    by_cases hpos : 0 < N
    · rcases Nat.mod_two_eq_zero_or_one N with h | h
      · rw [h] at a1
        have HH := Lib.hid h
        clear h
        go_wp2_with (first | ((with_reducible refine load40 w1.heap.size (M p) ?_ HB.out (M_size p) ?_); exact rfl) | (go_at_call 24; refine (product_any p p _).mono ?_; rintro e w2 ⟨rfl, hB2⟩; have HB2 := Lib.hid ((hB2.block w1.heap.size hlb).trans HB.out); have hB3 := hB.trans (hB2.mono hBs)) | ((with_reducible refine put40 w1.heap.size (M p) (M (p + p)) ?_ ?_ HB2.out (M_size p) (M_size _) (M_one _) ?_); exact rfl; exact rfl))
        go_roundw
        case rel => exact ⟨p + p, N / 2, R, by omega, hR, by rw [← HS.out]; exact sq_even HH.out, by go_num, rfl, setRow_heap _ _ _ _ _ _ HB2.out, below_setRow hB3 hs1 _⟩
        case measure => simp [intOf]; omega
      · rw [h] at a1
        have HH := Lib.hid h
        clear h
        have HA := Lib.hid ((heap_alloc_old wr (.cells (M p) 40) hlb).trans HB.out)
        have hBa := hB.alloc hBs (.cells (M p) 40)
        go_wp2_with (first | ((with_reducible refine load40 w1.heap.size (M p) ?_ HB.out (M_size p) ?_); exact rfl) | ((with_reducible refine load40 w1.heap.size (M p) ?_ HA.out (M_size p) ?_); exact rfl) | (go_at_call 23; refine (apply_any p R _ hR).mono ?_; rintro e w' ⟨rfl, rfl⟩) | (go_at_call 24; refine (product_any p p _).mono ?_; rintro e w2 ⟨rfl, hB2⟩; have HB2 := Lib.hid ((hB2.block w1.heap.size (by simp; omega)).trans HA.out); have hB3 := hBa.trans (hB2.mono (by simp; omega))) | ((with_reducible refine put40 w1.heap.size (M p) (M (p + p)) ?_ ?_ HB2.out (M_size p) (M_size _) (M_one _) ?_); exact rfl; exact rfl))
        go_roundw
        case rel => exact ⟨p + p, N / 2, sgn p R, by omega, sgn_lt hR, by rw [← HS.out]; exact sq_odd HH.out, by go_num, rfl, setRow_heap _ _ _ _ _ _ HB2.out, below_setRow hB3 hs1 _⟩
        case measure => simp [intOf]; omega
    · go_wp2
      go_ret
      exact ⟨ret_int (by rw [← HS.out, show N = 0 by omega]; rfl), hB⟩

set_option maxRecDepth 100000 in
set_option maxHeartbeats 400000 in
/-- Combine. -/
theorem combine_any (a b n : Nat) (w : World) (ha : a < 4294967296) (hb : b < 4294967296) (hn : n < 9223372036854775808) (ht : Tab w) :
    Calls Tryd.prog 16 #[.int .u32 (a : Int), .int .u32 (b : Int), .int .i64 (n : Int)] w fun e w' => e = .returned (.int .u32 ((sgn (8 * n) a ^^^ b : Nat) : Int)) ∧ Below w.heap.size w w' := by
  have HT := Lib.hid ht
  clear ht
  have hx : bits .xor .u32 ((sgn (8 * n) a : Nat) : Int) (b : Int) = ((sgn (8 * n) a ^^^ b : Nat) : Int) := u32_xor_nat _ _ (sgn_lt ha) hb
  have hc := shiftBytes_any a n w ha hn HT.out
  obtain ⟨s, hs⟩ : ∃ s, s = sgn (8 * n) a := ⟨_, rfl⟩
  rw [← hs] at hx hc ⊢
  have HC := Lib.hid hc
  clear hs hc
  go_enter Tryd.func16, Tryd.ntmps16
  go_wp2_with (go_at_call 20; refine HC.out.mono ?_; rintro e w1 ⟨rfl, hB1⟩)
  go_ret
  exact ⟨rfl, hB1⟩
theorem combine_neg (a b n : Int) (w : World) (hn : n < 0) :
    Calls Tryd.prog 16 #[.int .u32 a, .int .u32 b, .int .i64 n] w fun e w' => e = .returned (.int .u32 0) ∧ w = w' := by
  go_enter Tryd.func16, Tryd.ntmps16
  go_wp2
  go_ret
  exact ⟨rfl, rfl⟩
end Go.Proofs.YtffpbmlpnclmkaaDoor.Crc
