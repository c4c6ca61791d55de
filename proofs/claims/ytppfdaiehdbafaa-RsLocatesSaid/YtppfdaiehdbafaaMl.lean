/- What is proved here: the contracts of the program's Add, Inv, Div, Exp, Log, Pow. No condition. -/
import Derived.Test.YtppfdaiehdbafaaTc
import Derived.BigQuiet
import Derived.IntWalk
namespace Go.Proofs.Ytppfdaiehdbafaa.Gf
open Go Go.ChangeShapes Go.WideShapes Go.ChangeAt Go.RowKit Go.Proofs.Ytppfdaiehdbafaa.By

def exi (n : Int) : Nat := ex (n % 255).toNat
def pw (a : Nat) (n : Int) : Nat := if n = 0 then 1 else if a = 0 then 0 else exi ((lg a : Int) * n)
/-- The world behind 'powers, logs := tables()'. -/
def Wt (w : World) : World := (((w.alloc (.cells (AV .u8 255 fun _ => 0) 96)).alloc (.cells (AV .u8 256 fun _ => 0) 97)).setRow w.heap.size (AV .u8 255 ex)).setRow (w.heap.size + 1) (AV .u8 256 lgz)
theorem wt_bel {w0 w : World} (h : Below w0.heap.size w0 w) : Below w0.heap.size w0 (Wt w) :=
  below_setRow (below_setRow ((h.alloc h.size _).alloc (by have := h.size; simp; omega) _) h.size _) (by have := h.size; omega) _
theorem wt_drewN {B : Nat} {a w : World} (h : Below B a w) (n : Nat) : Below B a (w.drewN n) := h.trans ⟨rfl, rfl, rfl, Nat.le_refl _, fun _ _ => rfl⟩
theorem wt_p (w : World) : (Wt w).heap[w.heap.size]? = some (.cells (AV .u8 255 ex) 96 (0, 0)) :=
  (setRow_other _ _ _ _ (by omega)).trans (setRow_heap _ _ _ _ _ _ (heap_alloc2_old _ _ _))
theorem wt_l (w : World) : (Wt w).heap[w.heap.size + 1]? = some (.cells (AV .u8 256 lgz) 97 (0, 0)) :=
  setRow_heap _ _ _ _ _ _ ((setRow_other _ _ _ _ (by omega)).trans (heap_alloc2_new _ _ _))
theorem wt_pc (w : World) (i : Nat) (h : i < 255) : (Wt w).cell? ⟨w.heap.size, i, none⟩ = some (.int .u8 ((ex i : Nat) : Int)) := (cell_of_row _ _ i _ 96 (0, 0) (wt_p w)).trans (AV_get .u8 255 ex i h)
theorem wt_lc (w : World) (i : Nat) (h : i < 256) : (Wt w).cell? ⟨w.heap.size + 1, i, none⟩ = some (.int .u8 ((lgz i : Nat) : Int)) := (cell_of_row _ _ i _ 97 (0, 0) (wt_l w)).trans (AV_get .u8 256 lgz i h)


theorem exi_rm (x : Nat) (n : Int) : exi ((x : Int) * n) = ex (x * rm n % 255) := by
  unfold exi rm
  congr 1
  have e : ((x : Int) * n) % 255 = ((x : Int) * (n % 255)) % 255 := by rw [Int.mul_emod, Int.mul_emod (x : Int) (n % 255), Int.emod_emod_of_dvd n (by decide)]
  rw [e]
  have : ((n % 255).toNat : Int) = n % 255 := by omega
  generalize (n % 255).toNat = k at this
  rw [← this]
  rw [← Int.natCast_mul]
  generalize x * k = z
  omega
set_option maxRecDepth 100000 in
set_option maxHeartbeats 1600000 in
theorem pow_any (a : Nat) (n : Int) (w : World) (ha : a < 256) (h1 : -9223372036854775808 ≤ n) (h2 : n < 9223372036854775808) : Calls Try.prog 65 #[.int .u8 (a : Int), .int .i64 n] w fun e w' => e = .returned (.int .u8 ((pw a n : Nat) : Int)) ∧ Below w.heap.size w w' := by
  have z42 := zero42
  have z43 := zero43
  unfold pw
  by_cases hn : n = 0
  · subst hn
    rw [if_pos rfl]
    go_enter Try.func65, Try.ntmps65
    go_wp2
    go_ret
    exact ⟨rfl, Below.refl _ _⟩
  · rw [if_neg hn]
    have hn0 : (n == 0) = false := beq_false_of_ne hn
    by_cases h : a = 0
    · subst h
      rw [if_pos rfl]
      go_enter Try.func65, Try.ntmps65
      go_wp2
      go_ret
      exact ⟨rfl, Below.refl _ _⟩
    · rw [if_neg h, exi_rm]
      have HB : ((a : Int) == 0) = false := beq_false_of_ne (by omega)
      have hz : lgz a = lg a := if_neg h
      have HL := fun w => wt_lc w a ha
      rw [hz] at HL
      have hx := lg_lt ha h
      have hR := fun w => rem_any n w h1 h2
      have hm := rm_lt n
      generalize rm n = m at hR hm ⊢
      generalize lg a = x at HL hx ⊢
      have hxm : x * m ≤ 254 * 254 := Nat.mul_le_mul (by omega) (by omega)
      obtain ⟨y, hy⟩ : ∃ y, y = x * m := ⟨_, rfl⟩
      have hyi : (x : Int) * (m : Int) = (y : Int) := by rw [hy]; simp
      rw [← hy] at hxm ⊢
      obtain ⟨z, hzz, hzl⟩ : ∃ z, z = y % 255 ∧ z < 255 := ⟨_, rfl, by omega⟩
      have hzi : (y : Int).tmod 255 = (z : Int) := by rw [Int.tmod_eq_emod_of_nonneg (by omega)]; omega
      rw [← hzz]
      have HP := fun w => wt_pc w z hzl
      generalize ex z = g at HP ⊢
      have HR := Lib.hid hR
      have HLL := Lib.hid HL
      have HPP := Lib.hid HP
      have hs : IntKind.i64.wrap (y : Int) = (y : Int) := IntWalk.i64_in _ (by omega)
      have hs0 : IntKind.i64.wrap (x : Int) = (x : Int) := IntWalk.i64_in _ (by omega)
      have i1 : (0 : Int) ≤ (a : Int) := by omega
      have i2 : (a : Int) < 256 := by omega
      have i5 : (0 : Int) ≤ (z : Int) := by omega
      have i6 : (z : Int) < 255 := by omega
      clear HL HP hR hz hy hzz h hn
      go_enter Try.func65, Try.ntmps65
      go_wp2_with (first | (go_at_call 69; refine (tables_any _).mono ?_; rintro e w1 ⟨rfl, hB1⟩; unfold PA LA; have E1 := Lib.hid (heap_alloc2_old w1 (.cells (AV .u8 255 fun _ => 0) 96) (.cells (AV .u8 256 fun _ => 0) 97)); have E2 := Lib.hid (heap_alloc2_new w1 (.cells (AV .u8 255 fun _ => 0) 96) (.cells (AV .u8 256 fun _ => 0) 97))) | ((with_reducible refine storeA w1.heap.size (AV .u8 255 fun _ => 0) .u8 255 ex size42 ?_ ?_ E1.out (AV_size _ _ _) ?_); exact rfl; exact rfl) | ((with_reducible refine storeA (w1.heap.size + 1) (AV .u8 256 fun _ => 0) .u8 256 lgz size43 ?_ ?_ ((setRow_other _ _ _ _ (by omega)).trans E2.out) (AV_size _ _ _) ?_); exact rfl; exact rfl; change wpList _ _ _ _ _ (Wt w1); have T1 := (HLL.out w1); have T2 := (HPP.out w1)))
      go_quiet ((go_at_call 70; exact Calls.quiet_of_same ((HR.out _).mono fun _ _ h => ⟨h.1, h.2.symm⟩)))
      go_wp2
      go_ret
      exact ⟨rfl, wt_drewN (wt_bel hB1) _⟩

theorem pw_minus {a : Nat} (ha : a < 256) (h : a ≠ 0) : pw a (-1) = iv a := by
  unfold pw iv
  rw [if_neg (by decide), if_neg h]
  unfold exi
  congr 1
  have := lg_lt ha h
  omega
set_option maxRecDepth 100000 in
set_option maxHeartbeats 800000 in
theorem inv_any (a : Nat) (w : World) (ha : a < 256) : Calls Try.prog 57 #[.int .u8 (a : Int)] w fun e w' => e = invOf a ∧ Below w.heap.size w w' := by
  unfold invOf
  by_cases h : a = 0
  · subst h
    rw [if_pos rfl]
    unfold Two
    go_enter Try.func57, Try.ntmps57
    go_wp2
    go_ret2
    exact ⟨rfl, Below.refl _ _⟩
  · rw [if_neg h]
    unfold Two
    have hp := fun w => pow_any a (-1) w ha (by decide) (by decide)
    rw [pw_minus ha h] at hp
    have HP := Lib.hid hp
    have HB : ((a : Int) == 0) = false := beq_false_of_ne (by omega)
    clear hp
    generalize iv a = x at HP ⊢
    go_enter Try.func57, Try.ntmps57
    go_wp2_with (go_at_call 65; refine (HP.out _).mono ?_; rintro e w1 ⟨rfl, hB1⟩)
    go_ret2
    exact ⟨rfl, hB1⟩
set_option maxRecDepth 100000 in
theorem add_any (a b : Nat) (w : World) (ha : a < 256) (hb : b < 256) : Calls Try.prog 66 #[.int .u8 (a : Int), .int .u8 (b : Int)] w fun e w' => e = .returned (.int .u8 ((a ^^^ b : Nat) : Int)) ∧ Below w.heap.size w w' := by
  have hx := u8_xor_nat a b ha hb
  go_enter Try.func66, Try.ntmps66
  go_wp2
  go_ret
  exact ⟨rfl, Below.refl _ _⟩
theorem mul_bel (a b : Nat) (w : World) (ha : a < 256) (hb : b < 256) : Calls Try.prog 63 #[.int .u8 (a : Int), .int .u8 (b : Int)] w fun e w' => e = .returned (.int .u8 ((gm a b : Nat) : Int)) ∧ Below w.heap.size w w' :=
  (mul_any a b w ha hb).mono fun _ _ ⟨he, hw⟩ => ⟨he, hw ▸ Below.refl _ _⟩
end Go.Proofs.Ytppfdaiehdbafaa.Gf
