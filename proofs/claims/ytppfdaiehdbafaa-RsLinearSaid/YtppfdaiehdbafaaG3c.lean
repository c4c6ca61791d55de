/- What is proved here: the contract of the program's Vandermonde. No condition. -/
import Derived.Test.YtppfdaiehdbafaaG3b
namespace Go.Proofs.Ytppfdaiehdbafaa.Gf
open Go Go.ChangeShapes Go.WideShapes Go.ChangeAt Go.RowKit Go.Proofs.Ytppfdaiehdbafaa.By Go.Proofs.Ytppfdaiehdbafaa.Qt

set_option maxRecDepth 100000 in
theorem vander_bad (r c : Int) (w : World) (h : ¬ Sized r c) : Calls Try.prog 49 #[.int .i64 r, .int .i64 c] w (MO w 0 0 [] 1) := by
  have hs1 := fun w => vsize_any r w
  have hs2 := fun w => vsize_any c w
  unfold MO mv
  by_cases h1 : In16 r
  · have h2 : ¬ In16 c := fun x => h ((sized_iff _ _).2 ⟨h1, x⟩)
    rw [decide_eq_true h1] at hs1
    rw [decide_eq_false h2] at hs2
    have HS1 := Lib.hid hs1
    have HS2 := Lib.hid hs2
    clear hs1 hs2 h h1 h2
    go_enter Try.func49, Try.ntmps49
    go_wp2_with (go_at_call 34; first | ((with_reducible refine (HS1.out _).mono ?_); rintro e w' ⟨rfl, rfl⟩) | ((with_reducible refine (HS2.out _).mono ?_); rintro e w' ⟨rfl, rfl⟩))
    exact bodyPost_ret (results_px rfl _ _ w.heap.size _ _ _ (0, 0) rfl (heap_alloc_new _ _)) rfl ⟨⟨_, rfl, own_nil _ _⟩, (Below.refl _ _).alloc (Nat.le_refl _) _⟩
  · rw [decide_eq_false h1] at hs1
    have HS1 := Lib.hid hs1
    clear hs1 hs2 h h1
    go_enter Try.func49, Try.ntmps49
    go_wp2_with (go_at_call 34; (with_reducible refine (HS1.out _).mono ?_); rintro e w' ⟨rfl, rfl⟩)
    exact bodyPost_ret (results_px rfl _ _ w.heap.size _ _ _ (0, 0) rfl (heap_alloc_new _ _)) rfl ⟨⟨_, rfl, own_nil _ _⟩, (Below.refl _ _).alloc (Nat.le_refl _) _⟩
/-- What is filled up to row k, column j. -/
def upto (f : Nat → Nat → Nat) (k j : Nat) (a b : Nat) : Nat := if a < k ∨ (a = k ∧ b < j) then f a b else 0
theorem upto_none (f : Nat → Nat → Nat) (r c : Nat) : List.replicate (r * c) 0 = flat r c (upto f 0 0) := by
  rw [flat_zero]
  refine flat_ext fun a _ b _ => ?_
  unfold upto
  rw [if_neg (by omega)]
theorem upto_full (f : Nat → Nat → Nat) (r c : Nat) : flat r c (upto f r 0) = flat r c f := flat_ext fun a ha b _ => by
  unfold upto
  rw [if_pos (Or.inl ha)]
theorem upto_row (f : Nat → Nat → Nat) (r c k : Nat) : flat r c (upto f k c) = flat r c (upto f (k + 1) 0) := flat_ext fun a _ b hb => by
  unfold upto
  by_cases h : a < k ∨ (a = k ∧ b < c)
  · rw [if_pos h, if_pos (by omega)]
  · rw [if_neg h, if_neg (by omega)]
theorem upto_set (f : Nat → Nat → Nat) {r c k j : Nat} (hj : j < c) : (flat r c (upto f k j)).set (k * c + j) (f k j) = flat r c (upto f k (j + 1)) := by
  rw [flat_set _ hj]
  refine flat_ext fun a _ b _ => ?_
  unfold upto
  by_cases e : a = k ∧ b = j
  · rw [if_pos e, if_pos (by omega), e.1, e.2]
  · rw [if_neg e]
    by_cases h : a < k ∨ (a = k ∧ b < j)
    · rw [if_pos h, if_pos (by omega)]
    · rw [if_neg h, if_neg (by omega)]
set_option maxRecDepth 100000 in
set_option maxHeartbeats 1600000 in
theorem vander_good (r c : Nat) (w : World) (h : Sized r c) : Calls Try.prog 49 #[.int .i64 (r : Int), .int .i64 (c : Int)] w (MO w r c (flat r c pn) 0) := by
  have hs1 := fun w => vsize_any r w
  have hs2 := fun w => vsize_any c w
  have h12 := (sized_iff _ _).1 h
  rw [decide_eq_true h12.1] at hs1
  rw [decide_eq_true h12.2] at hs2
  have hz := fun w => zeros_any r c w h
  have hn : 1 ≤ r ∧ r ≤ 16 ∧ 1 ≤ c ∧ c ≤ 16 := by unfold Sized at h; omega
  obtain ⟨q, hq⟩ : ∃ q : Nat, q = r * c := ⟨_, rfl⟩
  have hq1 : q ≤ 256 := (wrap_rc h hq).2
  rw [← hq] at hz
  have HS1 := Lib.hid hs1
  have HS2 := Lib.hid hs2
  have HZ := Lib.hid hz
  have HQ := Lib.hid hq
  clear hs1 hs2 h12 h hz hq
  unfold MO mv at *
  go_enter Try.func49, Try.ntmps49
  go_wp2_with (go_at_call 34; first | ((with_reducible refine (HS1.out _).mono ?_); rintro e w' ⟨rfl, rfl⟩) | ((with_reducible refine (HS2.out _).mono ?_); rintro e w' ⟨rfl, rfl⟩))
  generalize hw0 : w.alloc (.cells #[.int .i64 0, .int .i64 0, .slice none 0 0] 24) = w0
  refine (HZ.out _).mono ?_
  rintro e w1 ⟨⟨g, rfl, ho⟩, hb1⟩
  have hp := PF.start (r := r) (c := c) hw0.symm hb1 ho
  have HP := Lib.hid hp
  have HW0 := Lib.hid hw0
  clear hp ho hb1 hw0
  go_wp2_with fail
  go_loopw [23] (fun i wr => ∃ k : Nat, k ≤ r ∧ i = .int .i64 (k : Int) ∧ PF w wr w.heap.size w1.heap.size g r c q (flat r c (upto pn k 0))) (fun i _ => r - (intOf i).toNat)
  case atStart =>
    refine ⟨0, by omega, rfl, ?_⟩
    rw [← upto_none, ← HQ.out]
    exact HP.out
  case round =>
    obtain ⟨k, hk, rfl, hp⟩ := hrel
    clear HP
    have HP := Lib.hid hp
    clear hp
    by_cases hlt : k < r
    · go_wp2
      rename World => wo
      go_loopw [8, 27] (fun x i wr => ∃ j : Nat, j ≤ c ∧ i = .int .i64 (j : Int) ∧ x = .int .u8 ((pn k j : Nat) : Int) ∧ PF w wr w.heap.size w1.heap.size g r c q (flat r c (upto pn k j))) (fun _ i _ => c - (intOf i).toNat)
      case atStart => exact ⟨0, by omega, rfl, rfl, HP.out⟩
      case round =>
        clear HP
        obtain ⟨j, hj, rfl, rfl, hp⟩ := hrel
        have HP := Lib.hid hp
        clear hp
        by_cases hjt : j < c
        · have hmul := fun w => mul_any (pn k j) k w (pn_lt j) (by omega)
          have hnx : gm (pn k j) k = pn k (j + 1) := rfl
          rw [hnx] at hmul
          have hst := upto_set pn (r := r) (k := k) hjt
          have hpx := pn_lt (a := k) j
          obtain ⟨p, hp⟩ : ∃ p : Nat, p = k * c := ⟨_, rfl⟩
          have hpk : p + j < q := by rw [hp, HQ.out]; exact at_lt hlt hjt
          have hw2 : Hid ((k : Int) * (c : Int) = (p : Int)) := show (k : Int) * (c : Int) = (p : Int) by rw [hp]; simp
          rw [← hp] at hst
          have hl : (flat r c (upto pn k j)).length = q := by rw [flat_length, HQ.out]
          have HL := Lib.hid hl
          generalize flat r c (upto pn k j) = L at HP hst HL
          obtain ⟨y, hy⟩ : ∃ y, y = pn k (j + 1) := ⟨_, rfl⟩
          rw [← hy] at hmul
          have HY := Lib.hid hy
          clear hy hnx hl hp
          generalize pn k j = x at hmul hpx hst
          have HM := Lib.hid hmul
          have HT := Lib.hid hst
          have hw := u8_wrap k (by omega)
          clear hmul hst
          obtain ⟨c0, c1, c2⟩ := HP.out.cells
          obtain ⟨q1, q2, _⟩ := own_cell HP.out.own HL.out hpk
          have hw2 := hw2.out
          go_wp2_with (go_at_call 63; refine (HM.out _).mono ?_; rintro e w' ⟨rfl, rfl⟩)
          go_roundw
          case rel => exact ⟨j + 1, by omega, by go_num, by rw [HY.out], by rw [← HT.out]; exact HP.out.set HL.out hpk hpx⟩
          case measure => simp [intOf]; omega
        · obtain rfl : j = c := by omega
          rw [upto_row] at HP
          go_wp2
          go_roundw
          case rel => exact ⟨k + 1, by omega, by go_num, HP.out⟩
          case measure => simp [intOf]; omega
    · obtain rfl : k = r := by omega
      rw [upto_full] at HP
      go_wp2_with (first | ((with_reducible refine loadP w1.heap.size ?_ HP.out.row ?_); exact rfl) | ((with_reducible refine storeP w.heap.size (.int .i64 k) (.int .i64 c) (.slice (some ⟨g, 0, none⟩) q q) ?_ ?_ HP.out.zero ?_ ?_ ?_ ?_); exact rfl; exact rfl; exact rfl; exact rfl; exact rfl))
      obtain ⟨d1, d2⟩ := HP.out.done (.int .i64 k) (.int .i64 c)
      exact bodyPost_ret (results_px rfl _ _ w.heap.size _ _ _ (0, 0) rfl (setRow_heap _ _ _ _ _ _ HP.out.zero)) rfl ⟨⟨_, rfl, d1⟩, d2⟩
theorem vander_any (r c : Int) (w : World) : Calls Try.prog 49 #[.int .i64 r, .int .i64 c] w (vanderPostS r c w) := by
  unfold vanderPostS
  by_cases h : Sized r c
  · obtain ⟨m, rfl⟩ := Int.eq_ofNat_of_zero_le (show 0 ≤ r by unfold Sized at h; omega)
    obtain ⟨n, rfl⟩ := Int.eq_ofNat_of_zero_le (show 0 ≤ c by unfold Sized at h; omega)
    rw [if_pos h]
    exact (vander_good m n w h).mono fun _ _ h => h.ms
  · rw [if_neg h]
    exact (vander_bad r c w h).mono fun _ _ h => h.ms
end Go.Proofs.Ytppfdaiehdbafaa.Gf
