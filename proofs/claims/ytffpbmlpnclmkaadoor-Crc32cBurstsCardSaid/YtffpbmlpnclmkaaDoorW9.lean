/- What is proved here: the contracts of the reference's Combine and of the law's sanity check. Condition: the table nibbles holds its sixteen numbers. -/
import Derived.Test.YtffpbmlpnclmkaaDoorW8
import Derived.Lib.SlBytesConst
namespace Go.Proofs.YtffpbmlpnclmkaaDoor.Crc
open Go Go.ChangeShapes Go.WideShapes Go.ChangeAt Go.RowKit

theorem zeros_cancel (n a b : Nat) : (sgn n (4294967295 ^^^ a) ^^^ sgn n 4294967295) ^^^ b = sgn n a ^^^ b := by
  rw [sgn_xor, Nat.xor_comm (sgn n 4294967295) (sgn n a), Nat.xor_assoc (sgn n a), Nat.xor_self, Nat.xor_zero]
set_option maxRecDepth 100000 in
set_option maxHeartbeats 400000 in
theorem rcombine_any (a b n : Nat) (w : World) (ha : a < 4294967296) (hb : b < 4294967296) (hn : n < 9223372036854775808) :
    Calls Tryd.prog 17 #[.int .u32 (a : Int), .int .u32 (b : Int), .int .i64 (n : Int)] w fun e w' => e = .returned (.int .u32 ((sgn (8 * n) a ^^^ b : Nat) : Int)) ∧ Below w.heap.size w w' := by
  have n0 := not32 a ha
  have hr0 := not32_lt ha
  have hF : (4294967295 : Nat) < 4294967296 := by decide
  have s1 : sgn (8 * n) (4294967295 ^^^ a) < 4294967296 := sgn_lt hr0
  have s2 : sgn (8 * n) 4294967295 < 4294967296 := sgn_lt hF
  have x1 := u32_xor_nat _ _ s1 s2
  have x2 := u32_xor_nat (sgn (8 * n) (4294967295 ^^^ a) ^^^ sgn (8 * n) 4294967295) b (Nat.xor_lt_two_pow (n := 32) s1 s2) hb
  rw [zeros_cancel] at x2
  have z1 := fun w => zeros_any (4294967295 ^^^ a) n w hr0 hn
  have z2 : ∀ w, Calls Tryd.prog 21 #[.int .u32 4294967295, .int .i64 (n : Int)] w fun e w' => e = .returned (.int .u32 ((sgn (8 * n) 4294967295 : Nat) : Int)) ∧ Below w.heap.size w w' := fun w => zeros_any 4294967295 n w hF hn
  generalize 4294967295 ^^^ a = A at n0 z1 x1 x2 s1
  generalize sgn (8 * n) A = B at z1 x1 x2
  generalize sgn (8 * n) 4294967295 = C at z2 x1 x2
  generalize B ^^^ C = D at x1 x2
  generalize sgn (8 * n) a ^^^ b = E at x2 ⊢
  have Z1 := Lib.hid z1
  have Z2 := Lib.hid z2
  clear z1 z2 s1 s2 hr0 hF
  go_enter Tryd.func17, Tryd.ntmps17
  go_wp2_with fail
  refine (Z1.out _).mono ?_
  rintro e w1 ⟨rfl, hB1⟩
  go_wp2_with fail
  refine (Z2.out _).mono ?_
  rintro e w2 ⟨rfl, hB2⟩
  go_wp2_with fail
  go_ret
  exact ⟨rfl, hB1.trans (hB2.mono hB1.size)⟩
theorem rcombine_neg (a b n : Int) (w : World) (hn : n < 0) :
    Calls Tryd.prog 17 #[.int .u32 a, .int .u32 b, .int .i64 n] w fun e w' => e = .returned (.int .u32 0) ∧ w = w' := by
  go_enter Tryd.func17, Tryd.ntmps17
  go_wp2
  go_ret
  exact ⟨rfl, rfl⟩

/-- A block of bytes, as a slice. -/
theorem sl_block {w : World} {g n : Nat} {fr : Nat × Nat} {l : List Nat} {cs : Array Value} (hl : ∀ b ∈ l, b < 256) (hn : l.length = n) (hm : n ≤ maxLen) (hcs : cs = (l.map fun (b : Nat) => Value.int .u8 (b : Int)).toArray) (hg : w.heap[g]? = some (.cells cs 5 fr)) :
    Sl w (.slice (some ⟨g, 0, none⟩) n n) l := by
  subst hn
  refine ⟨hl, hm, Or.inr ⟨g, 0, l.length, rfl, Nat.le_refl _, hm, fun k hk => ?_⟩⟩
  rw [Nat.zero_add, cell_of_row w g k cs 5 fr hg, hcs]
  simp [List.getD, hk]
theorem sl_below {w w' : World} {v : Value} {l : List Nat} (h : Sl w v l) (hB : Below w.heap.size w w') : Sl w' v l := by
  obtain ⟨h1, h2, h3⟩ := h
  refine ⟨h1, h2, ?_⟩
  rcases h3 with h3 | ⟨b, off, cap, hv, hc1, hc2, hcell⟩
  · exact Or.inl h3
  · exact Or.inr ⟨b, off, cap, hv, hc1, hc2, fun k hk => (hB.cell (p := ⟨b, off + k, none⟩) (block_lt_of_cell (hcell k hk))).trans (hcell k hk)⟩
theorem e9 : ext 0 [49, 50, 51, 52, 53, 54, 55, 56, 57] = 3808858755 := by decide +kernel
theorem e0 : ext 0 [] = 0 := by decide

/-- Sum of a block of bytes with a known checksum. -/
theorem sum_block {w : World} {g n : Nat} {fr : Nat × Nat} {l : List Nat} {cs : Array Value} {s : Nat} {z : Int} (hl : ∀ b ∈ l, b < 256) (hn : l.length = n) (hm : n ≤ maxLen) (hcs : cs = (l.map fun (b : Nat) => Value.int .u8 (b : Int)).toArray) (hs : ext 0 l = s) (hz : (s : Int) = z)
    (hg : w.heap[g]? = some (.cells cs 5 fr)) (ht : Tab w) : Calls Tryd.prog 11 #[.slice (some ⟨g, 0, none⟩) n n] w fun e w' => e = .returned (.int .u32 z) ∧ w = w' := by
  have := sum_any _ l w (sl_block hl hn hm hcs hg) ht
  rw [hs, hz] at this
  exact this
theorem sum_none (w : World) (ht : Tab w) : Calls Tryd.prog 11 #[.slice none 0 0] w fun e w' => e = .returned (.int .u32 0) ∧ w = w' :=
  sum_any _ [] w ⟨by simp, by simp, Or.inl ⟨_, _, rfl, rfl, by simp⟩⟩ ht
theorem conv_at (W : World) (H : Nat) (hH : W.heap.size = H) (C : Array Value) (n c : Nat) : (convert 22 22 (.slice (some ⟨H, 0, none⟩) n c)).run Tryd.prog (W.alloc (.cells C 5)) = .ok (.slice (some ⟨H, 0, none⟩) n c) (W.alloc (.cells C 5 (C.size, C.size + 1))) := by
  subst hH
  exact Lib.run_convert_bytes_const (P := Tryd.prog) W 22 5 C n c Tryd.underlying22 Tryd.underlying5
theorem heap3_2' (w : World) (a b c : Obj) : (((w.alloc a).alloc b).alloc c).heap[w.heap.size + 1 + 1]? = some c := heap3_2 w a b c
theorem combine_of {a b n c : Nat} {x y z : Int} (w : World) (hx : (a : Int) = x) (hy : (b : Int) = y) (hz : (c : Int) = z) (h : sgn (8 * n) a ^^^ b = c) (ha : a < 4294967296) (hb : b < 4294967296) (hn : n < 9223372036854775808) (ht : Tab w) :
    Calls Tryd.prog 16 #[.int .u32 x, .int .u32 y, .int .i64 (n : Int)] w fun e w' => e = .returned (.int .u32 z) ∧ Below w.heap.size w w' := by
  subst hx hy hz h
  exact combine_any a b n w ha hb hn ht
theorem e4 : ext 0 [49, 50, 51, 52] = 4131058926 := by decide +kernel
theorem e5 : ext 0 [53, 54, 55, 56, 57] = 2209703384 := by decide +kernel
theorem e45' : sgn (8 * 5) 4131058926 ^^^ 2209703384 = 3808858755 := by decide +kernel
theorem tab_alloc {w : World} (h : Tab w) (o : Obj) : Tab (w.alloc o) := fun i hi => by
  rw [World.cell?_alloc_past _ _ _ (block_lt_of_cell (h i hi))]
  exact h i hi
set_option maxRecDepth 100000 in
set_option maxHeartbeats 800000 in
theorem awake_any (w : World) (ht : Tab w) : Calls Tryd.prog 15 #[] w fun e w' => e = .returned (.bool true) ∧ Below w.heap.size w w' := by
  have HT := Lib.hid ht
  clear ht
  have kc := conv_at w w.heap.size rfl
  have kc1 := fun o1 => conv_at (w.alloc o1) (w.heap.size + 1) (by simp)
  have kc2 := fun o1 o2 => conv_at ((w.alloc o1).alloc o2) (w.heap.size + 1 + 1) (by simp)
  go_enter Tryd.func15, Tryd.ntmps15
  go_wp2_with fail
  refine (sum_block (l := [49, 50, 51, 52, 53, 54, 55, 56, 57]) (by decide) rfl (by unfold maxLen; decide) rfl e9 (z := 3808858755) rfl (heap_alloc_new _ _) (tab_alloc HT.out _)).mono ?_
  rintro e w' ⟨rfl, rfl⟩
  go_wp2_with fail
  refine (sum_none _ (tab_alloc HT.out _)).mono ?_
  rintro e w' ⟨rfl, rfl⟩
  go_wp2_with fail
  refine (sum_block (l := [49, 50, 51, 52]) (by decide) rfl (by unfold maxLen; decide) rfl e4 (z := 4131058926) rfl (heap_alloc2_new _ _ _) (tab_alloc (tab_alloc HT.out _) _)).mono ?_
  rintro e w' ⟨rfl, rfl⟩
  go_wp2_with fail
  refine (sum_block (l := [53, 54, 55, 56, 57]) (by decide) rfl (by unfold maxLen; decide) rfl e5 (z := 2209703384) rfl (heap3_2' _ _ _ _) (tab_alloc (tab_alloc (tab_alloc HT.out _) _) _)).mono ?_
  rintro e w' ⟨rfl, rfl⟩
  go_wp2_with fail
  refine (combine_of (n := 5) (z := 3808858755) _ rfl rfl rfl e45' (by decide) (by decide) (by decide) (tab_alloc (tab_alloc (tab_alloc HT.out _) _) _)).mono ?_
  rintro e w4 ⟨rfl, hB4⟩
  go_wp2_with fail
  go_ret
  exact ⟨rfl, ((((Below.refl _ _).alloc (Nat.le_refl _) _).alloc (by simp) _).alloc (by simp; omega) _).trans (hB4.mono (by simp; omega))⟩
end Go.Proofs.YtffpbmlpnclmkaaDoor.Crc
