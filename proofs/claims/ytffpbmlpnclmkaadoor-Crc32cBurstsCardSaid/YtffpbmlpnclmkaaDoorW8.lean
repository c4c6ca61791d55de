/- What is proved here: the contracts of the reference's zeros and Combine. -/
import Derived.Test.YtffpbmlpnclmkaaDoorW7
namespace Go.Proofs.YtffpbmlpnclmkaaDoor.Crc
open Go Go.ChangeShapes Go.WideShapes Go.ChangeAt Go.RowKit

/-- The end of a round of the inner loop. -/
theorem rel_next {w wr : World} {g H p k x : Nat} {cs : Array Value} (hlt : k < 32) (hx : sgn p x = sgn (p + p) (2 ^ k)) (hne : g ≠ H) (hwg : w.heap.size ≤ H) (hb0 : wr.heap[g]? = some (.cells (M p) 39 (0, 0)))
    (hb1 : wr.heap[H]? = some (.cells cs 39 (0, 0))) (hB : Below w.heap.size w wr) (hU : Upto (p + p) k cs) :
    ∃ (k_1 : Nat) (cs : Array Value), k_1 ≤ 32 ∧ Value.int .i64 ((k : Int) + 1) = .int .i64 (k_1 : Int) ∧ Upto (p + p) k_1 cs ∧
      ((wr.setCell ⟨H, k, none⟩ (.int .u32 ((sgn p x : Nat) : Int))).alloc (.cells (M p) 39)).drew.heap[H]? = some (.cells cs 39 (0, 0)) ∧
      ((wr.setCell ⟨H, k, none⟩ (.int .u32 ((sgn p x : Nat) : Int))).alloc (.cells (M p) 39)).drew.heap[g]? = some (.cells (M p) 39 (0, 0)) ∧
      Below w.heap.size w ((wr.setCell ⟨H, k, none⟩ (.int .u32 ((sgn p x : Nat) : Int))).alloc (.cells (M p) 39)).drew := by
  have l1 : H < wr.heap.size := (Array.getElem?_eq_some_iff.1 hb1).1
  have l0 : g < wr.heap.size := (Array.getElem?_eq_some_iff.1 hb0).1
  have hBs := hB.size
  refine ⟨k + 1, _, by omega, by simp, hU.step hlt, ?_, ?_, ((hB.setCell hwg _).alloc (by simp; omega) _).drew⟩
  · rw [heap_drew, heap_alloc_old _ _ (by simp; omega), heap_setCell_same wr H k cs 39 _ hb1, hx]
  · rw [heap_drew, heap_alloc_old _ _ (by simp; omega), heap_setCell_other _ _ _ _ (by simpa using hne)]
    exact hb0
theorem rem2 (n : Nat) : ((n : Int).tmod 2) = ((n % 2 : Nat) : Int) := by
  rw [Int.tmod_eq_emod_of_nonneg (by omega)]
  omega

set_option maxRecDepth 100000 in
set_option maxHeartbeats 1600000 in
theorem zeros_any (r n : Nat) (w : World) (hr : r < 4294967296) (hn : n < 9223372036854775808) :
    Calls Tryd.prog 21 #[.int .u32 (r : Int), .int .i64 (n : Int)] w fun e w' => e = .returned (.int .u32 ((sgn (8 * n) r : Nat) : Int)) ∧ Below w.heap.size w w' := by
  go_enter Tryd.func21, Tryd.ntmps21
  go_wp2
  go_loopw [6] (fun i wr => ∃ (k : Nat) (cs : Array Value), k ≤ 32 ∧ i = .int .i64 k ∧ Upto 8 k cs ∧ wr.heap[w.heap.size]? = some (.cells cs 39 (0, 0)) ∧ Below w.heap.size w wr) (fun i _ => 32 - (intOf i).toNat)
  case atStart => exact ⟨0, _, by omega, rfl, ⟨by rfl, fun j hj => by omega⟩, heap_alloc_new _ _, (Below.refl _ _).alloc (Nat.le_refl _) _⟩
  case round =>
    obtain ⟨k, cs, hk, rfl, hU, hb, hB⟩ := hrel
    have HB1 := Lib.hid hb
    by_cases hlt : k < 32
    · have hc := cell_of_row wr w.heap.size k cs 39 (0, 0) hb
      have hf := frozen_of_row wr w.heap.size k cs 39 hb
      have hce : cs[k]? = some (cs[k]'(by rw [hU.1]; exact hlt)) := by simp [hU.1, hlt]
      rw [hce] at hc
      obtain ⟨u, hu⟩ : ∃ u, u = cs[k]'(by rw [hU.1]; exact hlt) := ⟨_, rfl⟩
      rw [← hu] at hc
      clear hce hu hb
      obtain ⟨hp, hp32⟩ := pow_fact k hlt
      obtain ⟨p, hpe⟩ : ∃ p, p = 2 ^ k := ⟨_, rfl⟩
      rw [← hpe] at hp hp32
      have HP := Lib.hid hpe
      clear hpe
      go_wp2_with ((go_at_call 19; refine (shift_any _ _ hp32).mono ?_; rintro e w' ⟨rfl, rfl⟩))
      go_roundw
      case rel =>
        refine ⟨k + 1, _, by omega, by go_num, ?_, heap_setCell_same wr w.heap.size k cs 39 _ HB1.out, hB.setCell (by simp) _⟩
        rw [HP.out]
        exact hU.step hlt
      case measure => simp [intOf]; omega
    · have hcs : cs = M 8 := by
        have : k = 32 := by omega
        rw [this] at hU
        exact hU.full
      subst hcs
      clear hb hU
      go_wp2
      go_loopw [0, 1] (fun x i wr => ∃ p N R : Nat, N < 9223372036854775808 ∧ R < 4294967296 ∧ sgn (p * N) R = sgn (8 * n) r ∧ i = .int .i64 N ∧ x = .int .u32 R ∧ wr.heap[w.heap.size]? = some (.cells (M p) 39 (0, 0)) ∧ Below w.heap.size w wr) (fun _ i _ => (intOf i).toNat)
      case atStart => exact ⟨8, n, r, hn, hr, rfl, rfl, rfl, HB1.out, hB⟩
      case round =>
        clear HB1 hB hk hlt
        rename World => wo
        obtain ⟨p, N, R, hN, hR, hS, rfl, rfl, hb, hB⟩ := hrel
        have hBs := hB.size
        have hlb : w.heap.size < wo.heap.size := (Array.getElem?_eq_some_iff.1 hb).1
        have HB := Lib.hid hb
        have HS := Lib.hid hS
        clear hb hS
        have a1 := rem2 N
        by_cases hpos : 0 < N
        · rcases Nat.mod_two_eq_zero_or_one N with h | h
          · rw [h] at a1
            have HH := Lib.hid h
            clear h
            go_wp2
            go_loopw [8] (fun i wr => ∃ (k : Nat) (cs : Array Value), k ≤ 32 ∧ i = .int .i64 k ∧ Upto (p + p) k cs ∧ wr.heap[wo.heap.size]? = some (.cells cs 39 (0, 0)) ∧ wr.heap[w.heap.size]? = some (.cells (M p) 39 (0, 0)) ∧ Below w.heap.size w wr) (fun i _ => 32 - (intOf i).toNat)
            case atStart => exact ⟨0, _, by omega, rfl, ⟨by rfl, fun j hj => by omega⟩, heap_alloc_new _ _, (heap_alloc_old _ _ hlb).trans HB.out, hB.alloc hBs _⟩
            case round =>
              obtain ⟨k, cs, hk, rfl, hU, hb1, hb0, hBi⟩ := hrel
              have HB1 := Lib.hid hb1
              have HB0 := Lib.hid hb0
              by_cases hlt : k < 32
              · have hc0 := cell_of_row wr w.heap.size k (M p) 39 (0, 0) hb0
                have hc1 := cell_of_row wr wo.heap.size k cs 39 (0, 0) hb1
                have hf := frozen_of_row wr wo.heap.size k cs 39 hb1
                have hce : cs[k]? = some (cs[k]'(by rw [hU.1]; exact hlt)) := by simp [hU.1, hlt]
                rw [hce] at hc1
                obtain ⟨u, hu⟩ : ∃ u, u = cs[k]'(by rw [hU.1]; exact hlt) := ⟨_, rfl⟩
                rw [← hu] at hc1
                rw [M_get p k hlt] at hc0
                clear hce hu hb0 hb1
                have hx32 : sgn p (2 ^ k) < 4294967296 := sgn_lt (pow_fact k hlt).2
                have hxm : sgn p (sgn p (2 ^ k)) = sgn (p + p) (2 ^ k) := (sgn_add p p _).symm
                obtain ⟨x, hx⟩ : ∃ x, x = sgn p (2 ^ k) := ⟨_, rfl⟩
                rw [← hx] at hc0 hx32 hxm
                have HX := Lib.hid hxm
                clear hx hxm
                have hl1 : wo.heap.size < wr.heap.size := block_lt_of_cell hc1
                have hlt0 : (0 : Int) ≤ (k : Int) := by omega
                have hlt32 : (k : Int) < 32 := by omega
                go_wp2
                refine wp_region_any (by kernel_rfl) ?_
                refine wpAny_take (i := 0) (v := .int .i64 (k : Int)) rfl (by kernel_rfl) (by kernel_rfl) (by kernel_rfl) (fun _ _ _ h => h) (Or.inl ⟨by rfl, fun w => by rfl⟩) ?_
                refine wpAny_take (i := 2) (v := .int .i64 (k : Int)) rfl (by kernel_rfl) (by kernel_rfl) (by kernel_rfl) (fun _ _ _ h => h) (Or.inl ⟨by rfl, fun w => by rfl⟩) ?_
                refine wpAny_take (i := 3) (v := .pointer (some ⟨w.heap.size, k, none⟩)) rfl (by kernel_rfl) (by kernel_rfl) (by kernel_rfl) (fun _ _ _ h => h) (Or.inl ⟨by rfl, fun w => by go_simp⟩) ?_
                refine wpAny_ready (rs := [1, 4]) (by kernel_rfl) (by simp) ?_
                refine AllReady.cons rfl (fun K hK => ?_) (AllReady.cons rfl (fun K hK => ?_) AllReady.nil)
                · refine step_load39 w.heap.size (M p) rfl HB0.out (M_size p) ?_
                  refine hK _ _ ?_
                  clear hK K
                  refine any_tail 4 (by kernel_rfl) ?_
                  simp only [List.drop_succ_cons, List.drop_zero]
                  change wpList _ _ _ _ _ wr.drew
                  go_wp2_with ((go_at_call 25; refine (image_any p x _ hx32).mono ?_; rintro e w' ⟨rfl, rfl⟩))
                  go_roundw
                  case rel => exact rel_next hlt HX.out (by omega) (by omega) HB0.out HB1.out hBi hU
                  case measure => simp [intOf]; omega
                · go_simp
                  refine hK _ _ ?_
                  clear hK K
                  refine wpAny_ready (rs := [1]) (by kernel_rfl) (by simp) ?_
                  refine AllReady.cons rfl (fun K hK => ?_) AllReady.nil
                  refine step_load39 w.heap.size (M p) rfl HB0.out (M_size p) ?_
                  refine hK _ _ ?_
                  clear hK K
                  refine any_tail 5 (by kernel_rfl) ?_
                  simp only [List.drop_succ_cons, List.drop_zero]
                  change wpList _ _ _ _ _ wr.drew
                  go_wp2_with ((go_at_call 25; refine (image_any p x _ hx32).mono ?_; rintro e w' ⟨rfl, rfl⟩))
                  go_roundw
                  case rel => exact rel_next hlt HX.out (by omega) (by omega) HB0.out HB1.out hBi hU
                  case measure => simp [intOf]; omega
              · have hcs : cs = M (p + p) := by
                  have : k = 32 := by omega
                  rw [this] at hU
                  exact hU.full
                subst hcs
                clear hb0 hb1 hU
                go_wp2_with (first | ((with_reducible refine load39 wo.heap.size (M (p + p)) ?_ HB1.out (M_size _) ?_); exact rfl) | ((with_reducible refine put39 w.heap.size (M p) (M (p + p)) ?_ ?_ HB0.out (M_size p) (M_size _) (M_one _) ?_); exact rfl; exact rfl))
                go_roundw
                case rel => exact ⟨p + p, N / 2, R, by omega, hR, by rw [← HS.out]; exact sq_even HH.out, by go_num, rfl, setRow_heap _ _ _ _ _ _ HB0.out, below_setRow hBi (Nat.le_refl _) _⟩
                case measure => simp [intOf]; omega
          · rw [h] at a1
            have HH := Lib.hid h
            clear h
            go_wp2_with (first | ((with_reducible refine load39 w.heap.size (M p) ?_ HB.out (M_size p) ?_); exact rfl) | (go_at_call 25; refine (image_any p R _ hR).mono ?_; rintro e w' ⟨rfl, rfl⟩))
            go_loopw [8] (fun i wr => ∃ (k : Nat) (cs : Array Value), k ≤ 32 ∧ i = .int .i64 k ∧ Upto (p + p) k cs ∧ wr.heap[(wo.heap.size + 1)]? = some (.cells cs 39 (0, 0)) ∧ wr.heap[w.heap.size]? = some (.cells (M p) 39 (0, 0)) ∧ Below w.heap.size w wr) (fun i _ => 32 - (intOf i).toNat)
            case atStart => exact ⟨0, _, by omega, rfl, ⟨by rfl, fun j hj => by omega⟩, heap_alloc2_new _ _ _, (heap_alloc_old _ _ (by simp; omega)).trans ((heap_alloc_old _ _ hlb).trans HB.out), (hB.alloc hBs _).alloc (by simp; omega) _⟩
            case round =>
              obtain ⟨k, cs, hk, rfl, hU, hb1, hb0, hBi⟩ := hrel
              have HB1 := Lib.hid hb1
              have HB0 := Lib.hid hb0
              by_cases hlt : k < 32
              · have hc0 := cell_of_row wr w.heap.size k (M p) 39 (0, 0) hb0
                have hc1 := cell_of_row wr (wo.heap.size + 1) k cs 39 (0, 0) hb1
                have hf := frozen_of_row wr (wo.heap.size + 1) k cs 39 hb1
                have hce : cs[k]? = some (cs[k]'(by rw [hU.1]; exact hlt)) := by simp [hU.1, hlt]
                rw [hce] at hc1
                obtain ⟨u, hu⟩ : ∃ u, u = cs[k]'(by rw [hU.1]; exact hlt) := ⟨_, rfl⟩
                rw [← hu] at hc1
                rw [M_get p k hlt] at hc0
                clear hce hu hb0 hb1
                have hx32 : sgn p (2 ^ k) < 4294967296 := sgn_lt (pow_fact k hlt).2
                have hxm : sgn p (sgn p (2 ^ k)) = sgn (p + p) (2 ^ k) := (sgn_add p p _).symm
                obtain ⟨x, hx⟩ : ∃ x, x = sgn p (2 ^ k) := ⟨_, rfl⟩
                rw [← hx] at hc0 hx32 hxm
                have HX := Lib.hid hxm
                clear hx hxm
                have hl1 : (wo.heap.size + 1) < wr.heap.size := block_lt_of_cell hc1
                have hlt0 : (0 : Int) ≤ (k : Int) := by omega
                have hlt32 : (k : Int) < 32 := by omega
                go_wp2
                refine wp_region_any (by kernel_rfl) ?_
                refine wpAny_take (i := 0) (v := .int .i64 (k : Int)) rfl (by kernel_rfl) (by kernel_rfl) (by kernel_rfl) (fun _ _ _ h => h) (Or.inl ⟨by rfl, fun w => by rfl⟩) ?_
                refine wpAny_take (i := 2) (v := .int .i64 (k : Int)) rfl (by kernel_rfl) (by kernel_rfl) (by kernel_rfl) (fun _ _ _ h => h) (Or.inl ⟨by rfl, fun w => by rfl⟩) ?_
                refine wpAny_take (i := 3) (v := .pointer (some ⟨w.heap.size, k, none⟩)) rfl (by kernel_rfl) (by kernel_rfl) (by kernel_rfl) (fun _ _ _ h => h) (Or.inl ⟨by rfl, fun w => by go_simp⟩) ?_
                refine wpAny_ready (rs := [1, 4]) (by kernel_rfl) (by simp) ?_
                refine AllReady.cons rfl (fun K hK => ?_) (AllReady.cons rfl (fun K hK => ?_) AllReady.nil)
                · refine step_load39 w.heap.size (M p) rfl HB0.out (M_size p) ?_
                  refine hK _ _ ?_
                  clear hK K
                  refine any_tail 4 (by kernel_rfl) ?_
                  simp only [List.drop_succ_cons, List.drop_zero]
                  change wpList _ _ _ _ _ wr.drew
                  go_wp2_with ((go_at_call 25; refine (image_any p x _ hx32).mono ?_; rintro e w' ⟨rfl, rfl⟩))
                  go_roundw
                  case rel => exact rel_next hlt HX.out (by omega) (by omega) HB0.out HB1.out hBi hU
                  case measure => simp [intOf]; omega
                · go_simp
                  refine hK _ _ ?_
                  clear hK K
                  refine wpAny_ready (rs := [1]) (by kernel_rfl) (by simp) ?_
                  refine AllReady.cons rfl (fun K hK => ?_) AllReady.nil
                  refine step_load39 w.heap.size (M p) rfl HB0.out (M_size p) ?_
                  refine hK _ _ ?_
                  clear hK K
                  refine any_tail 5 (by kernel_rfl) ?_
                  simp only [List.drop_succ_cons, List.drop_zero]
                  change wpList _ _ _ _ _ wr.drew
                  go_wp2_with ((go_at_call 25; refine (image_any p x _ hx32).mono ?_; rintro e w' ⟨rfl, rfl⟩))
                  go_roundw
                  case rel => exact rel_next hlt HX.out (by omega) (by omega) HB0.out HB1.out hBi hU
                  case measure => simp [intOf]; omega
              · have hcs : cs = M (p + p) := by
                  have : k = 32 := by omega
                  rw [this] at hU
                  exact hU.full
                subst hcs
                clear hb0 hb1 hU
                go_wp2_with (first | ((with_reducible refine load39 (wo.heap.size + 1) (M (p + p)) ?_ HB1.out (M_size _) ?_); exact rfl) | ((with_reducible refine put39 w.heap.size (M p) (M (p + p)) ?_ ?_ HB0.out (M_size p) (M_size _) (M_one _) ?_); exact rfl; exact rfl))
                go_roundw
                case rel => exact ⟨p + p, N / 2, (sgn p R), by omega, sgn_lt hR, by rw [← HS.out]; exact sq_odd HH.out, by go_num, rfl, setRow_heap _ _ _ _ _ _ HB0.out, below_setRow hBi (Nat.le_refl _) _⟩
                case measure => simp [intOf]; omega
        · go_wp2
          go_ret
          exact ⟨ret_int (by rw [← HS.out, show N = 0 by omega]; rfl), hB⟩
end Go.Proofs.YtffpbmlpnclmkaaDoor.Crc
