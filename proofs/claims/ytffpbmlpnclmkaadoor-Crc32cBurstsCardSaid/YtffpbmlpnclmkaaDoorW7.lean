/- What is proved here: the contracts of the reference's image, zeros and Combine. -/
import Derived.Test.YtffpbmlpnclmkaaDoorW6
namespace Go.Proofs.YtffpbmlpnclmkaaDoor.Crc
open Go Go.ChangeShapes Go.WideShapes Go.ChangeAt Go.RowKit

theorem size39 : (Tryd.prog.info? 39).map (·.size) = some 32 := by kernel_rfl
theorem load39 {ops : Array Oper} {rest : List Oper} {dst : Option Tmp} {x : Operand} {pos : String} {after : Array Edge} {ty : TypeId} {a : Act} {w : World} {Q : Exit → Act → World → Prop}
    (g : Nat) (cs : Array Value) (hx : a.eval x = .pointer (some ⟨g, 0, none⟩)) (hg : w.heap[g]? = some (.cells cs 39 (0, 0))) (hs : cs.size = 32)
    (h : wpList Tryd.prog ops Q rest (a.put dst (.agg cs)) w) : wpList Tryd.prog ops Q (⟨dst, .load 39 x, ty, pos, after, none⟩ :: rest) a w :=
  wpList_load_row rfl 39 x rfl g hx 39 cs (0, 0) _ hg Tryd.underlying39 rfl (by rw [size39, hs]) h
theorem put39 {ops : Array Oper} {rest : List Oper} {x y : Operand} {pos : String} {after : Array Edge} {ty : TypeId} {a : Act} {w : World} {Q : Exit → Act → World → Prop}
    (g : Nat) (old cs : Array Value) (hx : a.eval x = .pointer (some ⟨g, 0, none⟩)) (hy : a.eval y = .agg cs) (hg : w.heap[g]? = some (.cells old 39 (0, 0))) (ho : old.size = 32) (hs : cs.size = 32) (h1 : cs.all (·.oneCell') = true)
    (h : wpList Tryd.prog ops Q rest a (w.setRow g cs)) : wpList Tryd.prog ops Q (⟨none, .store 39 x y, ty, pos, after, none⟩ :: rest) a w :=
  wpList_store_row rfl 39 x y rfl g cs hx hy 39 old hg (by rw [size39, hs]) (by omega) h1 h
theorem step_load39 {ops : Array Oper} {dst : Option Tmp} {x : Operand} {pos : String} {after : Array Edge} {ty : TypeId} {a : Act} {w : World} {K : Act → World → Prop} {Q : Exit → Act → World → Prop} {E : Prop}
    (g : Nat) (cs : Array Value) (hx : a.eval x = .pointer (some ⟨g, 0, none⟩)) (hg : w.heap[g]? = some (.cells cs 39 (0, 0))) (hs : cs.size = 32)
    (h : K (a.put dst (.agg cs)) w) : if Region.wanted ⟨dst, .load 39 x, ty, pos, after, none⟩ (yielded ops a.tmps) = true then Oper.wp Tryd.prog ⟨dst, .load 39 x, ty, pos, after, none⟩ a w K Q else E := by
  rw [if_pos (by simp [Region.wanted])]
  exact wp_load_row 39 x rfl g hx 39 cs (0, 0) _ hg Tryd.underlying39 rfl (by rw [size39, hs]) h

theorem and1_shift (v k : Nat) (hv : v < 4294967296) : bits .and .u32 ((v : Int) / 2 ^ k) 1 = ((v / 2 ^ k % 2 : Nat) : Int) := by
  have e : ((v : Int) / 2 ^ k) = ((v / 2 ^ k : Nat) : Int) := by simp
  rw [e]
  exact and1 _ (Nat.lt_of_le_of_lt (Nat.div_le_self _ _) hv)

set_option maxHeartbeats 800000 in
theorem image_any (n v : Nat) (w : World) (hv : v < 4294967296) :
    Calls Tryd.prog 25 #[.agg (M n), .int .u32 (v : Int)] w fun e w' => e = .returned (.int .u32 ((sgn n v : Nat) : Int)) ∧ w.alloc (.cells (M n) 39) = w' := by
  go_enter Tryd.func25, Tryd.ntmps25
  go_wp2
  go_loop [5, 6] (fun r i => ∃ k R : Nat, k ≤ 32 ∧ R = sgn n (v % 2 ^ k) ∧ i = .int .i64 k ∧ r = .int .u32 (R : Int)) (fun _ i => 32 - (intOf i).toNat)
  case atStart => exact ⟨0, 0, by omega, by simp [Nat.mod_one, sgn_zero], rfl, rfl⟩
  case round =>
    obtain ⟨k, R, hk, hR, rfl, rfl⟩ := hrel
    have hR32 : R < 4294967296 := by rw [hR]; exact sgn_lt (Nat.lt_of_le_of_lt (Nat.mod_le _ _) hv)
    by_cases hlt : k < 32
    · have hg : (w.alloc (.cells (M n) 39)).cell? ⟨w.heap.size, k, none⟩ = some (.int .u32 ((sgn n (2 ^ k) : Nat) : Int)) := by
        rw [cell_of_row _ _ k (M n) 39 (0, 0) (heap_alloc_new _ _), M_get n k hlt]
      have a1 := and1_shift v k hv
      have hG32 : sgn n (2 ^ k) < 4294967296 := sgn_lt (pow_fact k hlt).2
      obtain ⟨G, hGe⟩ : ∃ G, G = sgn n (2 ^ k) := ⟨_, rfl⟩
      rw [← hGe] at hg hG32
      have xo : bits .xor .u32 (R : Int) (G : Int) = ((R ^^^ G : Nat) : Int) := u32_xor_nat _ _ hR32 hG32
      have HR := Lib.hid hR
      have HG := Lib.hid hGe
      clear hR hGe
      rcases Nat.mod_two_eq_zero_or_one (v / 2 ^ k) with h | h
      · rw [h] at a1
        have HH := Lib.hid h
        clear h
        go_wp2
        go_round
        case rel => exact ⟨k + 1, R, by omega, by rw [HR.out, sgn_bit0 n v k HH.out], by go_num, rfl⟩
        case measure => simp [intOf]; omega
      · rw [h] at a1
        have HH := Lib.hid h
        clear h
        go_wp2
        go_round
        case rel => exact ⟨k + 1, R ^^^ G, by omega, by rw [HR.out, HG.out, sgn_bit1 n v k HH.out], by go_num, rfl⟩
        case measure => simp [intOf]; omega
    · have HR := Lib.hid hR
      clear hR
      go_wp2
      go_ret
      exact ⟨ret_int (by rw [HR.out, show k = 32 by omega, Nat.mod_eq_of_lt hv]), rfl⟩
end Go.Proofs.YtffpbmlpnclmkaaDoor.Crc
