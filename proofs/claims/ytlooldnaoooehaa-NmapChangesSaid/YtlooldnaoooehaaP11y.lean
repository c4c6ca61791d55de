/- What is proved here: small facts for the laws NmapReads and NmapChanges: maps in a row, light maps, masks. -/
import Derived.Test.YtlooldnaoooehaaP11x
import Derived.Test.YtlooldnaoooehaaP11s
import Derived.Test.YtlooldnaoooehaaP11l
namespace Go.Proofs.Ytlooldnaoooehaa.Gf
open Go Go.Joins Go.ChangeShapes Go.WideShapes Go.ChangeAt Go.RowKit Go.Deep Go.Proofs.Ytlooldnaoooehaa.By Go.Proofs.Ytlooldnaoooehaa.Qt

/-- A map of few items, valid or not. -/
structure Bd (m : Mp) : Prop where
  few : Few m
  flat : m.st.flatten.length ≤ 900
theorem flat_lenF {m : Mp} {n : Nat} (h : FewN m n) (hl : m.st.length = 8) : ∀ s, s ≤ 8 → (m.st.take s).flatten.length ≤ n * s
  | 0, _ => by simp
  | s + 1, hs => by
    have ih := flat_lenF h hl s (by omega)
    have := h s (by omega)
    rw [List.take_succ_eq_append_getElem (by omega), List.flatten_append, List.length_append, ← ms_of (by omega), show [ms m s].flatten = ms m s by simp, Nat.mul_succ]
    omega
theorem bd_raw {m : Mp} (h : FewN m 10) (hl : m.st.length = 8) : Bd m := ⟨fun k hk => Nat.le_trans (h k hk) (by decide), by
  have h1 := flat_lenF h hl 8 (Nat.le_refl _)
  rw [List.take_of_length_le (by omega)] at h1
  omega⟩
theorem bd_gd {m : Mp} {n : Nat} (h : Gd m n) (hn : n ≤ 900) : Bd m := ⟨h.few (by omega), Nat.le_trans h.flat hn⟩
theorem and_low64 (r : Nat) (hr : r < 18446744073709551616) (k : Nat) (hk : k ≤ 32) : bits .and .u64 (r : Int) ((2 : Int) ^ k - 1) = ((r % 2 ^ k : Nat) : Int) := by
  have hp : (2 : Nat) ^ k ≤ 2 ^ 32 := Nat.pow_le_pow_right (by decide) hk
  have hp1 : 1 ≤ (2 : Nat) ^ k := Nat.one_le_two_pow
  have e0 : ((2 : Int) ^ k - 1) = ((2 ^ k - 1 : Nat) : Int) := by rw [Int.natCast_sub hp1]; simp
  have e1 : (BitVec.ofInt 64 (r : Int)).toNat = r := by rw [BitVec.toNat_ofInt]; omega
  have e2 : (BitVec.ofInt 64 ((2 : Int) ^ k - 1)).toNat = 2 ^ k - 1 := by
    rw [e0, BitVec.toNat_ofInt]
    omega
  have e3 : (BitVec.ofInt 64 (r : Int) &&& BitVec.ofInt 64 ((2 : Int) ^ k - 1)).toNat = r % 2 ^ k := by rw [BitVec.toNat_and, e1, e2]; exact Nat.and_two_pow_sub_one_eq_mod _ k
  show IntKind.u64.wrap ((BitVec.ofInt 64 (r : Int) &&& BitVec.ofInt 64 ((2 : Int) ^ k - 1)).toNat : Int) = _
  rw [e3]
  have hb : r % 2 ^ k ≤ r := Nat.mod_le _ _
  generalize r % 2 ^ k = z at *
  show (z : Int) % 18446744073709551616 = _
  omega
/-- A map that lies at a place. -/
def MAt (W : World) (b o : Nat) (m : Mp) : Prop := ∃ c0 c1 c2 c3 c4 c5 c6 c7, (W.cell? ⟨b, o, none⟩ = some c0 ∧ W.cell? ⟨b, o + 1, none⟩ = some c1 ∧ W.cell? ⟨b, o + 2, none⟩ = some c2 ∧ W.cell? ⟨b, o + 3, none⟩ = some c3 ∧ W.cell? ⟨b, o + 4, none⟩ = some c4 ∧ W.cell? ⟨b, o + 5, none⟩ = some c5 ∧ W.cell? ⟨b, o + 6, none⟩ = some c6 ∧ W.cell? ⟨b, o + 7, none⟩ = some c7 ∧ W.cell? ⟨b, o + 8, none⟩ = some (.int .i64 m.live) ∧ W.cell? ⟨b, o + 9, none⟩ = some (.int .i64 m.garb)) ∧ Ms W [c0, c1, c2, c3, c4, c5, c6, c7] m
theorem MAt.below {W W' : World} {b o : Nat} {m : Mp} (h : MAt W b o m) (hB : Below W.heap.size W W') : MAt W' b o m := by
  obtain ⟨c0, c1, c2, c3, c4, c5, c6, c7, ⟨h0, h1, h2, h3, h4, h5, h6, h7, h8, h9⟩, hm⟩ := h
  exact ⟨c0, c1, c2, c3, c4, c5, c6, c7, ⟨(hB.cell (block_lt_of_cell h0)).trans h0, (hB.cell (block_lt_of_cell h1)).trans h1, (hB.cell (block_lt_of_cell h2)).trans h2, (hB.cell (block_lt_of_cell h3)).trans h3, (hB.cell (block_lt_of_cell h4)).trans h4, (hB.cell (block_lt_of_cell h5)).trans h5, (hB.cell (block_lt_of_cell h6)).trans h6, (hB.cell (block_lt_of_cell h7)).trans h7, (hB.cell (block_lt_of_cell h8)).trans h8, (hB.cell (block_lt_of_cell h9)).trans h9⟩, ms_below hm hB⟩
/-- n small maps in a row. -/
def MArr (W : World) (b n : Nat) : Prop := ∀ j, j < n → ∃ m, MAt W b (j * 10) m ∧ Bd m
theorem MArr.below {W W' : World} {b n : Nat} (h : MArr W b n) (hB : Below W.heap.size W W') : MArr W' b n := fun j hj => by
  obtain ⟨m, h1, h2⟩ := h j hj
  exact ⟨m, h1.below hB, h2⟩
theorem marr2 {W : World} {b : Nat} {T : TypeId} {s0 s1 s2 s3 s4 s5 s6 s7 t0 t1 t2 t3 t4 t5 t6 t7 : Value} {m0 m1 : Mp} (h : W.heap[b]? = some (.cells #[s0, s1, s2, s3, s4, s5, s6, s7, .int .i64 m0.live, .int .i64 m0.garb, t0, t1, t2, t3, t4, t5, t6, t7, .int .i64 m1.live, .int .i64 m1.garb] T (0, 0))) (h0 : Ms W [s0, s1, s2, s3, s4, s5, s6, s7] m0) (h1 : Ms W [t0, t1, t2, t3, t4, t5, t6, t7] m1) (b0 : Bd m0) (b1 : Bd m1) : MArr W b 2 := fun j hj => by
  obtain rfl | rfl : j = 0 ∨ j = 1 := by omega
  · exact ⟨m0, ⟨s0, s1, s2, s3, s4, s5, s6, s7, ⟨cell_of_row W b 0 _ _ _ h, cell_of_row W b 1 _ _ _ h, cell_of_row W b 2 _ _ _ h, cell_of_row W b 3 _ _ _ h, cell_of_row W b 4 _ _ _ h, cell_of_row W b 5 _ _ _ h, cell_of_row W b 6 _ _ _ h, cell_of_row W b 7 _ _ _ h, cell_of_row W b 8 _ _ _ h, cell_of_row W b 9 _ _ _ h⟩, h0⟩, b0⟩
  · exact ⟨m1, ⟨t0, t1, t2, t3, t4, t5, t6, t7, ⟨cell_of_row W b 10 _ _ _ h, cell_of_row W b 11 _ _ _ h, cell_of_row W b 12 _ _ _ h, cell_of_row W b 13 _ _ _ h, cell_of_row W b 14 _ _ _ h, cell_of_row W b 15 _ _ _ h, cell_of_row W b 16 _ _ _ h, cell_of_row W b 17 _ _ _ h, cell_of_row W b 18 _ _ _ h, cell_of_row W b 19 _ _ _ h⟩, h1⟩, b1⟩
theorem marr3 {W : World} {b : Nat} {T : TypeId} {s0 s1 s2 s3 s4 s5 s6 s7 t0 t1 t2 t3 t4 t5 t6 t7 u0 u1 u2 u3 u4 u5 u6 u7 : Value} {m0 m1 m2 : Mp} (h : W.heap[b]? = some (.cells #[s0, s1, s2, s3, s4, s5, s6, s7, .int .i64 m0.live, .int .i64 m0.garb, t0, t1, t2, t3, t4, t5, t6, t7, .int .i64 m1.live, .int .i64 m1.garb, u0, u1, u2, u3, u4, u5, u6, u7, .int .i64 m2.live, .int .i64 m2.garb] T (0, 0))) (h0 : Ms W [s0, s1, s2, s3, s4, s5, s6, s7] m0) (h1 : Ms W [t0, t1, t2, t3, t4, t5, t6, t7] m1) (h2 : Ms W [u0, u1, u2, u3, u4, u5, u6, u7] m2) (b0 : Bd m0) (b1 : Bd m1) (b2 : Bd m2) : MArr W b 3 := fun j hj => by
  obtain rfl | rfl | rfl : j = 0 ∨ j = 1 ∨ j = 2 := by omega
  · exact ⟨m0, ⟨s0, s1, s2, s3, s4, s5, s6, s7, ⟨cell_of_row W b 0 _ _ _ h, cell_of_row W b 1 _ _ _ h, cell_of_row W b 2 _ _ _ h, cell_of_row W b 3 _ _ _ h, cell_of_row W b 4 _ _ _ h, cell_of_row W b 5 _ _ _ h, cell_of_row W b 6 _ _ _ h, cell_of_row W b 7 _ _ _ h, cell_of_row W b 8 _ _ _ h, cell_of_row W b 9 _ _ _ h⟩, h0⟩, b0⟩
  · exact ⟨m1, ⟨t0, t1, t2, t3, t4, t5, t6, t7, ⟨cell_of_row W b 10 _ _ _ h, cell_of_row W b 11 _ _ _ h, cell_of_row W b 12 _ _ _ h, cell_of_row W b 13 _ _ _ h, cell_of_row W b 14 _ _ _ h, cell_of_row W b 15 _ _ _ h, cell_of_row W b 16 _ _ _ h, cell_of_row W b 17 _ _ _ h, cell_of_row W b 18 _ _ _ h, cell_of_row W b 19 _ _ _ h⟩, h1⟩, b1⟩
  · exact ⟨m2, ⟨u0, u1, u2, u3, u4, u5, u6, u7, ⟨cell_of_row W b 20 _ _ _ h, cell_of_row W b 21 _ _ _ h, cell_of_row W b 22 _ _ _ h, cell_of_row W b 23 _ _ _ h, cell_of_row W b 24 _ _ _ h, cell_of_row W b 25 _ _ _ h, cell_of_row W b 26 _ _ _ h, cell_of_row W b 27 _ _ _ h, cell_of_row W b 28 _ _ _ h, cell_of_row W b 29 _ _ _ h⟩, h2⟩, b2⟩
/-- Two keys in a row. -/
def KArr (W : World) (b : Nat) : Prop := ∀ j, j < 2 → ∃ k : Nat, W.cell? ⟨b, j, none⟩ = some (.int .u64 (k : Int))
theorem karr_mk {W : World} {b : Nat} {T : TypeId} {k0 k1 : Nat} (h : W.heap[b]? = some (.cells #[.int .u64 (k0 : Int), .int .u64 (k1 : Int)] T (0, 0))) : KArr W b := fun j hj => by
  obtain rfl | rfl : j = 0 ∨ j = 1 := by omega
  · exact ⟨k0, cell_of_row W b 0 _ _ _ h⟩
  · exact ⟨k1, cell_of_row W b 1 _ _ _ h⟩
theorem KArr.below {W W' : World} {b : Nat} (h : KArr W b) (hB : Below W.heap.size W W') : KArr W' b := fun j hj => by
  obtain ⟨k, hk⟩ := h j hj
  exact ⟨k, (hB.cell (block_lt_of_cell hk)).trans hk⟩
/-- What both Gets find is the same. -/
theorem get_same {m : Mp} (hl : m.st.length = 8) (k : Nat) : fnL (itemsL m) k = fnL (gL m k) k ∧ hasL (itemsL m) k = hasL (gL m k) k := by
  have h : lk (itemsL m) k = lk (gL m k) k := by
    unfold itemsL gL
    by_cases hok : okM m
    · rw [if_pos hok, if_pos hok, lk_iL hok hl]
    · rw [if_neg hok, if_neg hok]
  unfold fnL hasL
  rw [h]
  exact ⟨rfl, rfl⟩
theorem len_same {m : Mp} (hl : m.st.length = 8) : lenM m = (itemsL m).length := by
  unfold lenM itemsL
  by_cases hok : okM m
  · rw [if_pos hok, if_pos hok]
    exact ((⟨hok, hl, Nat.le_refl _⟩ : Gd m m.st.flatten.length).lenI).symm
  · rw [if_neg hok, if_neg hok]
    rfl
end Go.Proofs.Ytlooldnaoooehaa.Gf
