/- What is proved here: the contract of the program's multiples: the array of all products with one element. No condition. -/
import Derived.Test.YtppfdaiehdbafaaMl
import Derived.StillTailTactics
namespace Go.Proofs.Ytppfdaiehdbafaa.Gf
open Go Go.ChangeShapes Go.WideShapes Go.ChangeAt Go.RowKit Go.Proofs.Ytppfdaiehdbafaa.By

def MA (c : Nat) : Array Value := AV .u8 256 (gm c)
theorem wt_old {w : World} {g : Nat} (h : g < w.heap.size) : (Wt w).heap[g]? = w.heap[g]? := by
  unfold Wt
  rw [setRow_other _ _ _ _ (by omega), setRow_other _ _ _ _ (by omega), heap_alloc_old _ _ (by simp; omega), heap_alloc_old _ _ (by omega)]
theorem mul_step {c x : Nat} {f : Nat → Nat} (hx1 : 1 ≤ x) (hf : ∀ j, j < 256 → f j = if j ≠ 0 ∧ j < x then gm c j else 0) : ∀ j, j < 256 → (if j = x then gm c x else f j) = if j ≠ 0 ∧ j < x + 1 then gm c j else 0 := by
  intro j hj
  by_cases e : j = x
  · rw [if_pos e, if_pos ⟨by omega, by omega⟩, e]
  · rw [if_neg e, hf j hj]
    by_cases h : j ≠ 0 ∧ j < x
    · rw [if_pos h, if_pos ⟨h.1, by omega⟩]
    · rw [if_neg h, if_neg (by omega)]
theorem MA_of {c : Nat} {f : Nat → Nat} (hf : ∀ j, j < 256 → f j = if j ≠ 0 ∧ j < 256 then gm c j else 0) : AV .u8 256 f = AV .u8 256 (gm c) := AV_ext fun j hj => by
  rw [hf j hj]
  by_cases e : j = 0
  · rw [if_neg (by omega), e, gm_zero_right]
  · rw [if_pos ⟨e, hj⟩]
theorem MA_zero : AV .u8 256 (fun _ => 0) = AV .u8 256 (gm 0) := AV_ext fun _ hj => (gm_zero_left hj).symm
section
variable {w wr : World} {x z : Nat} {f : Nat → Nat}
theorem mrel (h : wr.heap[w.heap.size + 1]? = some (.cells (AV .u8 256 f) 97 (0, 0))) : (wr.setCell ⟨w.heap.size + 1, x, none⟩ (.int .u8 (z : Int))).heap[w.heap.size + 1]? = some (.cells (AV .u8 256 fun i => if i = x then z else f i) 97 (0, 0)) := by
  rw [← AV_set]
  exact heap_setCell_same wr (w.heap.size + 1) x _ 97 _ h
end
set_option maxRecDepth 100000 in
set_option maxHeartbeats 1600000 in
theorem mult_any (c : Nat) (w : World) (hc : c < 256) : Calls Try.prog 71 #[.int .u8 (c : Int)] w fun e w' => e = .returned (.agg (AV .u8 256 (gm c))) ∧ Below w.heap.size w w' := by
  have z42 := zero42
  have z43 := zero43
  have hb : Below w.heap.size w ((w.alloc (.cells (AV .u8 256 fun _ => 0) 97)).alloc (.cells (AV .u8 256 fun _ => 0) 97)) := ((Below.refl _ _).alloc (Nat.le_refl _) _).alloc (by simp) _
  have E0 := Lib.hid (heap_alloc2_old w (.cells (AV .u8 256 fun _ => 0) 97) (.cells (AV .u8 256 fun _ => 0) 97))
  have E3 := Lib.hid (heap_alloc2_new w (.cells (AV .u8 256 fun _ => 0) 97) (.cells (AV .u8 256 fun _ => 0) 97))
  by_cases h : c = 0
  · subst h
    go_enter Try.func71, Try.ntmps71
    go_wp2_with (first | ((with_reducible refine loadA (w.heap.size + 1) .u8 256 (fun _ => 0) Try.underlying97 size43 ?_ E3.out ?_); exact rfl) | ((with_reducible refine storeA w.heap.size (AV .u8 256 fun _ => 0) .u8 256 (fun _ => 0) size43 ?_ ?_ E0.out (AV_size _ _ _) ?_); exact rfl; exact rfl))
    rw [← MA_zero]
    exact bodyPost_ret (results_cell_row Try.results71 _ _ w.heap.size 97 _ (0, 0) _ rfl (setRow_heap _ _ _ _ _ _ E0.out) Try.underlying97 rfl (size43.trans (congrArg some (AV_size _ _ _).symm))) rfl ⟨rfl, below_setRow hb (Nat.le_refl _) _⟩
  · have HB : ((c : Int) == 0) = false := beq_false_of_ne (by omega)
    go_enter Try.func71, Try.ntmps71
    go_wp2_with (first | (go_at_call 69; refine (tables_any _).mono ?_; rintro e w1 ⟨rfl, hB1⟩; unfold PA LA; have E1 := Lib.hid (heap_alloc2_old w1 (.cells (AV .u8 255 fun _ => 0) 96) (.cells (AV .u8 256 fun _ => 0) 97)); have E2 := Lib.hid (heap_alloc2_new w1 (.cells (AV .u8 255 fun _ => 0) 96) (.cells (AV .u8 256 fun _ => 0) 97))) | ((with_reducible refine storeA w1.heap.size (AV .u8 255 fun _ => 0) .u8 255 ex size42 ?_ ?_ E1.out (AV_size _ _ _) ?_); exact rfl; exact rfl) | ((with_reducible refine storeA (w1.heap.size + 1) (AV .u8 256 fun _ => 0) .u8 256 lgz size43 ?_ ?_ ((setRow_other _ _ _ _ (by omega)).trans E2.out) (AV_size _ _ _) ?_); exact rfl; exact rfl; change wpList _ _ _ _ _ (Wt w1); have T1 := (wt_pc w1 0 (by omega))))
    clear T1 z42 z43 E1 E2
    have hs1 := hB1.size
    have hs2 : w.heap.size + 2 ≤ w1.heap.size := by simpa using hs1
    have k0 : (Wt w1).heap[w.heap.size]? = some (.cells (AV .u8 256 fun _ => 0) 97 (0, 0)) := (wt_old (by omega)).trans ((hB1.block _ (by simp; omega)).trans E0.out)
    have k3 : (Wt w1).heap[w.heap.size + 1]? = some (.cells (AV .u8 256 fun _ => 0) 97 (0, 0)) := (wt_old (by omega)).trans ((hB1.block _ (by simp)).trans E3.out)
    have bb : Below w.heap.size w (Wt w1) := hb.trans ((wt_bel hB1).mono hb.size)
    have K0 := Lib.hid k0
    have K3 := Lib.hid k3
    have BB := Lib.hid bb
    have hz : lgz c = lg c := if_neg h
    clear k0 k3 bb hb hB1 E0 E3
    go_loopw [6] (fun i wr => ∃ (x : Nat) (f : Nat → Nat), 1 ≤ x ∧ x ≤ 256 ∧ i = .int .i64 (x : Int) ∧ (∀ j, j < 256 → f j = if j ≠ 0 ∧ j < x then gm c j else 0) ∧ wr.heap[w.heap.size + 1]? = some (.cells (AV .u8 256 f) 97 (0, 0)) ∧ wr.heap[w.heap.size]? = some (.cells (AV .u8 256 fun _ => 0) 97 (0, 0)) ∧ wr.heap[w1.heap.size]? = some (.cells (AV .u8 255 ex) 96 (0, 0)) ∧ wr.heap[w1.heap.size + 1]? = some (.cells (AV .u8 256 lgz) 97 (0, 0)) ∧ Below w.heap.size w wr) (fun i _ => 256 - (intOf i).toNat)
    case atStart => exact ⟨1, fun _ => 0, by omega, by omega, rfl, fun j hj => by rw [if_neg (by omega)], K3.out, K0.out, wt_p w1, wt_l w1, BB.out⟩
    case round =>
      obtain ⟨x, f, hx1, hx2, rfl, hf, r3, r0, rp, rl, hB⟩ := hrel
      have HF := Lib.hid hf
      have R3 := Lib.hid r3
      have R0 := Lib.hid r0
      have RP := Lib.hid rp
      have RL := Lib.hid rl
      clear hf r3 r0 rp rl
      by_cases hlt : x < 256
      · have hx0 : x ≠ 0 := by omega
        have hzx : lgz x = lg x := if_neg hx0
        have u1 := lg_lt hc h
        have u2 := lg_lt hlt hx0
        have c1 : wr.cell? ⟨w1.heap.size + 1, c, none⟩ = some (.int .u8 ((lgz c : Nat) : Int)) := (cell_of_row _ _ c _ 97 (0, 0) RL.out).trans (AV_get .u8 256 lgz c hc)
        have c2 : wr.cell? ⟨w1.heap.size + 1, x, none⟩ = some (.int .u8 ((lgz x : Nat) : Int)) := (cell_of_row _ _ x _ 97 (0, 0) RL.out).trans (AV_get .u8 256 lgz x hlt)
        rw [hz] at c1
        rw [hzx] at c2
        obtain ⟨m, hm, hml⟩ : ∃ m : Nat, (lg c + lg x) % 255 = m ∧ m < 255 := ⟨_, rfl, by omega⟩
        have hg : gm c x = ex m := by rw [gm_lg hc hlt h hx0, ← ex_mod, hm]
        have c3 : wr.cell? ⟨w1.heap.size, m, none⟩ = some (.int .u8 ((ex m : Nat) : Int)) := (cell_of_row _ _ m _ 96 (0, 0) RP.out).trans (AV_get .u8 255 ex m hml)
        have c4 : wr.cell? ⟨w.heap.size + 1, x, none⟩ = some (.int .u8 ((f x : Nat) : Int)) := (cell_of_row _ _ x _ 97 (0, 0) R3.out).trans (AV_get .u8 256 f x hlt)
        have c5 : wr.frozen? ⟨w.heap.size + 1, x, none⟩ = false := frozen_of_row _ _ x _ 97 R3.out
        have hst := mul_step hx1 HF.out
        rw [hg] at hst
        have HST := Lib.hid hst
        have hm2 : (((lg c : Nat) : Int) + ((lg x : Nat) : Int)).tmod 255 = (m : Int) := by
          rw [Int.tmod_eq_emod_of_nonneg (by omega)]
          omega
        have hs1 : IntKind.i64.wrap ((lg c : Nat) : Int) = ((lg c : Nat) : Int) := IntWalk.i64_in _ (by omega)
        have hs2' : IntKind.i64.wrap ((lg x : Nat) : Int) = ((lg x : Nat) : Int) := IntWalk.i64_in _ (by omega)
        have hs3 : IntKind.i64.wrap (((lg c : Nat) : Int) + ((lg x : Nat) : Int)) = ((lg c : Nat) : Int) + ((lg x : Nat) : Int) := IntWalk.i64_in _ (by omega)
        clear hst hg hzx hm
        generalize lg c = X at *
        generalize lg x = Y at *
        generalize ex m = g at *
        have i1 : (0 : Int) ≤ (c : Int) := by omega
        have i2 : (c : Int) < 256 := by omega
        have i3 : (0 : Int) ≤ (x : Int) := by omega
        have i4 : (x : Int) < 256 := by omega
        have i5 : (0 : Int) ≤ (m : Int) := by omega
        have i6 : (m : Int) < 255 := by omega
        go_wp2
        go_still_tail 13, (by kernel_rfl)
        go_wp2
        go_roundw
        case rel => exact ⟨x + 1, _, by omega, by omega, by go_num, HST.out, mrel R3.out, (heap_setCell_other _ _ _ _ (by simp)).trans R0.out, (heap_setCell_other _ _ _ _ (by simp; omega)).trans RP.out, (heap_setCell_other _ _ _ _ (by simp; omega)).trans RL.out, hB.drew.setCell (by simp) _⟩
        case measure => simp [intOf]; omega
      · obtain rfl : x = 256 := by omega
        have r3 := R3.out
        rw [MA_of HF.out] at r3
        have R3' := Lib.hid r3
        clear r3
        go_wp2_with (first | ((with_reducible refine loadA (w.heap.size + 1) .u8 256 (gm c) Try.underlying97 size43 ?_ R3'.out ?_); exact rfl) | ((with_reducible refine storeA w.heap.size (AV .u8 256 fun _ => 0) .u8 256 (gm c) size43 ?_ ?_ R0.out (AV_size _ _ _) ?_); exact rfl; exact rfl))
        exact bodyPost_ret (results_cell_row Try.results71 _ _ w.heap.size 97 _ (0, 0) _ rfl (setRow_heap _ _ _ _ _ _ R0.out) Try.underlying97 rfl (size43.trans (congrArg some (AV_size _ _ _).symm))) rfl ⟨rfl, below_setRow hB (Nat.le_refl _) _⟩
end Go.Proofs.Ytppfdaiehdbafaa.Gf
