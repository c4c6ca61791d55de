/- What is proved here: the laws' light and small, as far as they are wanted: a light slot has few items; small answers a short list of needles. -/
import Derived.Test.YtgbnclepgjcakaaGreatGs21
namespace Go.Proofs.YtgbnclepgjcakaaGreat.Gf
open Go Go.Joins Go.ChangeShapes Go.WideShapes Go.ChangeAt Go.RowKit Go.Deep Go.Proofs.YtgbnclepgjcakaaGreat.By Go.Proofs.YtgbnclepgjcakaaGreat.Qt
set_option maxRecDepth 100000
set_option maxHeartbeats 204800000

theorem and_low64 (r : Nat) (hr : r < 18446744073709551616) (k : Nat) (hk : k ≤ 32) : bits .and .u64 (r : Int) ((2 : Int) ^ k - 1) = ((r % 2 ^ k : Nat) : Int) := by
 have hp : (2 : Nat) ^ k ≤ 2 ^ 32 := Nat.pow_le_pow_right (by decide) hk
 have hp1 : 1 ≤ (2 : Nat) ^ k := Nat.one_le_two_pow
 have e0 : ((2 : Int) ^ k - 1) = ((2 ^ k - 1 : Nat) : Int) := by rw [Int.natCast_sub hp1]; simp
 have e1 : (BitVec.ofInt 64 (r : Int)).toNat = r := by rw [BitVec.toNat_ofInt]; omega
 have e2 : (BitVec.ofInt 64 ((2 : Int) ^ k - 1)).toNat = 2 ^ k - 1 := by
  rw [e0, BitVec.toNat_ofInt]
  omega
 have e3 : (BitVec.ofInt 64 (r : Int) &&& BitVec.ofInt 64 ((2 : Int) ^ k - 1)).toNat = r % 2 ^ k := by rw [BitVec.toNat_and, e1, e2]; exact Nat.and_two_pow_sub_one_eq_mod _ k
 show IntKind.u64.wrap ((BitVec.ofInt 64 (r : Int) &&& BitVec.ofInt 64 ((2 : Int) ^ k - 1)).toNat : Int) = _
 rw [e3]
 have hb : r % 2 ^ k ≤ r := Nat.mod_le _ _
 generalize r % 2 ^ k = z at *
 show (z : Int) % 18446744073709551616 = _
 omega
theorem w64s9 (i : Nat) (h : i < 9223372036854775807) : wrap64 ((i : Int) + 1) = (i : Int) + 1 := by unfold wrap64; omega
theorem meas9 (n i : Nat) (h : i < n) (hn : n ≤ 9223372036854775807) : n - (intOf (.int .i64 (wrap64 ((i : Int) + 1)))).toNat < n - (intOf (.int .i64 (i : Int))).toNat := by
 rw [w64s9 i (by omega)]
 simp [intOf]
 omega
theorem bxk14 {w : World} {g : Nat} {c0 c1 c2 c3 s0 s1 s2 s3 s4 s5 s6 s7 s8 s9 : Value} {T : TypeId} {fr : Nat × Nat} (h : w.heap[g]? = some (.cells #[c0, c1, c2, c3, s0, s1, s2, s3, s4, s5, s6, s7, s8, s9] T fr)) {k : Nat} (hk : k < 8) {v : Value} (hv : [s0, s1, s2, s3, s4, s5, s6, s7][k]? = some v) : w.cell? ⟨g, 4 + k, none⟩ = some v := by
 rw [cell_of_row w g (4 + k) _ _ _ h, ← hv]
 obtain rfl | rfl | rfl | rfl | rfl | rfl | rfl | rfl : k = 0 ∨ k = 1 ∨ k = 2 ∨ k = 3 ∨ k = 4 ∨ k = 5 ∨ k = 6 ∨ k = 7 := by omega
 all_goals rfl
theorem lsl_of {s : Slt} (h : ∀ j, j < s.gens.length → (s.gens.getD j g0).m.st.length = 8 ∧ FewN (s.gens.getD j g0).m 8) (h12 : s.gens.length ≤ 12) : LSl s := by
 refine ⟨by omega, fun g hg => ?_⟩
 obtain ⟨j, hj, hjg⟩ := List.getElem_of_mem hg
 have q := h j hj
 rw [List.getD_eq_getElem?_getD, List.getElem?_eq_getElem hj, hjg] at q
 simp only [Option.getD_some] at q
 have f := flat_lenF q.2 q.1 8 (Nat.le_refl 8)
 rw [List.take_of_length_le (by rw [q.1]; exact Nat.le_refl 8)] at f
 exact ⟨fun k hk => Nat.le_trans (q.2 k hk) (by decide), by omega⟩
theorem l64_of {s : Slt} (h : ∀ j, j < s.gens.length → (s.gens.getD j g0).m.st.length = 8 ∧ FewN (s.gens.getD j g0).m 8) : ∀ g ∈ s.gens, g.m.st.flatten.length ≤ 64 := fun g hg => by
 obtain ⟨j, hj, hjg⟩ := List.getElem_of_mem hg
 have q := h j hj
 rw [List.getD_eq_getElem?_getD, List.getElem?_eq_getElem hj, hjg] at q
 simp only [Option.getD_some] at q
 have f := flat_lenF q.2 q.1 8 (Nat.le_refl 8)
 rw [List.take_of_length_le (by rw [q.1]; exact Nat.le_refl 8)] at f
 exact f
/-- A light slot has few items. -/
def LgS (s : Slt) (e : Ending) : Prop := ∃ q : Bool, e = .returned (.bool q) ∧ (q = true → LSl s ∧ s.gens.length ≤ 12 ∧ ∀ g ∈ s.gens, g.m.st.flatten.length ≤ 64)
theorem light13_any (v : Value) (s : Slt) (w : World) (hv : Sv w v s) : Calls Tryz.prog 6 #[v] w fun e w' => LgS s e ∧ Below w.heap.size w w' := by
 obtain ⟨id, lim, ro, L⟩ := s
 obtain ⟨gv, rfl, hg, -⟩ := hv
 simp only at hg
 obtain ⟨a, c, rfl, hnc, hcm⟩ := gl_form hg
 obtain ⟨n, hn⟩ : ∃ n, n = L.length := ⟨_, rfl⟩
 rw [← hn] at hg hnc ⊢
 have q0 := bel_al w (.cells #[.int .i64 id, .int .i64 lim, .bool ro, .slice a n c] 24)
 have HS := Lh (heap_alloc_new w (.cells #[.int .i64 id, .int .i64 lim, .bool ro, .slice a n c] 24))
 have B0 := Lh q0
 have HLN := Lh (show n ≤ 9223372036854775807 by unfold maxLen at hcm; omega)
 have GL := Lh (gl_below hg q0)
 have HN := Lh hn
 clear q0 hg hnc hcm hn
 go_enter Tryz.func6, Tryz.ntmps6
 go_upto_region 1 with fail
 generalize w.alloc (.cells #[.int .i64 id, .int .i64 lim, .bool ro, .slice a n c] 24) = W0 at *
 obtain ⟨⟨y0, y1, y2, y3⟩, -⟩ := bx4 HS.out
 go_wp2_with fail
 clear y0 y1 y2 y3
 go_loopw [4, 5, 9, 13] (fun _ _ t9 _ wr => ∃ i : Nat, i ≤ n ∧ t9 = .int .i64 (i : Int) ∧ Below W0.heap.size W0 wr ∧ Hid (∀ j, j < i → (L.getD j g0).m.st.length = 8 ∧ FewN (L.getD j g0).m 8)) (fun _ _ t _ _ => n - (intOf t).toNat)
 case atStart => exact ⟨0, Nat.zero_le _, rfl, Below.refl _ _, Lh (fun j hj => absurd hj (Nat.not_lt_zero j))⟩
 case round =>
  obtain ⟨i, hi, rfl, hB, HP⟩ := hrel
  rename World => wl
  have BB := Lh hB
  clear hB
  by_cases hlt : i < n
  case neg =>
   obtain rfl : n = i := by omega
   have d1 : decide ((n : Int) < (n : Int)) = false := decide_eq_false (by omega)
   obtain ⟨⟨y0, y1, y2, y3⟩, -⟩ := bx4 ((BB.out.block _ (lt_of_some HS.out)).trans HS.out)
   have B9 := Lh (B0.out.trans (BB.out.mono B0.out.size))
   clear hi hlt
   rcases Classical.em (n ≤ 12) with h1 | h1
   ·have d2 : decide ((n : Int) ≤ 12) = true := decide_eq_true (by omega)
    have d3 : decide (n ≤ 12) = true := decide_eq_true h1
    have HF := Lh (lsl_of (s := ⟨id, lim, ro, L⟩) (fun j hj => HP.out j (by have := HN.out; simp only at hj; omega)) (by have := HN.out; simp only; omega))
    have H12 := Lh h1
    have HF4 := Lh (l64_of (s := ⟨id, lim, ro, L⟩) (fun j hj => HP.out j (by have := HN.out; simp only at hj; omega)))
    clear h1
    go_wp2_with fail
    go_ret
    exact ⟨⟨true, rfl, fun _ => ⟨HF.out, by have := HN.out; have := H12.out; simp only; omega, HF4.out⟩⟩, B9.out⟩
   ·have d2 : decide ((n : Int) ≤ 12) = false := decide_eq_false (by omega)
    have d3 : decide (n ≤ 12) = false := decide_eq_false h1
    clear h1
    go_wp2_with fail
    go_ret
    exact ⟨⟨false, rfl, fun h => by cases h⟩, B9.out⟩
  have d1 : decide ((i : Int) < (n : Int)) = true := decide_eq_true (by omega)
  have d2 : decide (i < n) = true := decide_eq_true hlt
  have HI := Lh hlt
  obtain ⟨b1, o1, hab, s0, s1, s2, s3, s4, s5, s6, s7, g1⟩ := gl_at (gl_below GL.out BB.out) hlt
  obtain rfl := hab
  have HU := Lh (show L.getD i g0 = L.getD i g0 from rfl)
  generalize hug : L.getD i g0 = u at g1
  have HUG := Lh hug
  have ON := Lh g1.one
  have MS := Lh g1.ms
  have p0 : (0 : Int) ≤ (i : Int) := by omega
  have p1 : (i : Int) < (n : Int) := by omega
  obtain ⟨x0, x1, x2, x3, x4, x5, x6, x7, x8, x9, x10, x11, x12, x13⟩ := g1.cells
  have hz := heap_alloc_new wl (.cells #[.int .i64 0, .int .i64 0, .int .i64 0, .int .i64 0, .slice none 0 0, .slice none 0 0, .slice none 0 0, .slice none 0 0, .slice none 0 0, .slice none 0 0, .slice none 0 0, .slice none 0 0, .int .i64 0, .int .i64 0] 46)
  clear g1 hlt hi hug HU
  go_upto_region 4 with ((with_reducible refine storeRG wl.heap.size _ #[.int .i64 u.num, .int .i64 u.rev, .int .i64 u.mode, .int .i64 u.size, s0, s1, s2, s3, s4, s5, s6, s7, .int .i64 u.m.live, .int .i64 u.m.garb] ?_ ?_ hz rfl rfl ON.out ?_); exact rfl; exact rfl)
  rw [World.setRow_alloc_new]
  clear x0 x1 x2 x3 x4 x5 x6 x7 x8 x9 x10 x11 x12 x13
  clear p0 p1 d1 d2
  have hb := bel_al wl (.cells #[.int .i64 u.num, .int .i64 u.rev, .int .i64 u.mode, .int .i64 u.size, s0, s1, s2, s3, s4, s5, s6, s7, .int .i64 u.m.live, .int .i64 u.m.garb] 46)
  have HX := Lh (heap_alloc_new wl (.cells #[.int .i64 u.num, .int .i64 u.rev, .int .i64 u.mode, .int .i64 u.size, s0, s1, s2, s3, s4, s5, s6, s7, .int .i64 u.m.live, .int .i64 u.m.garb] 46))
  have MSx := Lh (ms_below MS.out hb)
  have BX := Lh (BB.out.trans (hb.mono BB.out.size))
  clear hb hz MS BB
  generalize wl.alloc (.cells #[.int .i64 u.num, .int .i64 u.rev, .int .i64 u.mode, .int .i64 u.size, s0, s1, s2, s3, s4, s5, s6, s7, .int .i64 u.m.live, .int .i64 u.m.garb] 46) = wx at *
  generalize wl.heap.size = gx at *
  go_wp2_with fail
  go_loop [5, 13] (fun _ t13 => ∃ k : Nat, k ≤ 8 ∧ t13 = .int .i64 (k : Int) ∧ Hid (∀ q, q < k → (ms u.m q).length ≤ 8)) (fun _ t => 8 - (intOf t).toNat)
  case atStart => exact ⟨0, by omega, rfl, Lh (fun s h => by omega)⟩
  case round =>
   obtain ⟨k, hk, rfl, HO⟩ := hrel
   by_cases hlt : k < 8
   case neg =>
    have l1 : decide ((k : Int) < 8) = false := decide_eq_false (by omega)
    have l2 : decide (k < 8) = false := decide_eq_false hlt
    have HF := Lh (show FewN u.m 8 from fun q hq => HO.out q (by omega))
    have hw := w64s9 i (by have := HLN.out; have := HI.out; omega)
    clear hlt hk HO
    go_wp2_with fail
    go_roundw
    case rel => exact ⟨i + 1, HI.out, by go_num, BX.out, Lh (fun j hj => by
     rcases Nat.lt_or_ge j i with h | h
     ·exact HP.out j h
     ·obtain rfl : j = i := by omega
      rw [HUG.out]
      exact ⟨MSx.out.1, HF.out⟩)⟩
    case measure => exact meas9 n i HI.out (by have := HLN.out; omega)
   have l1 : decide ((k : Int) < 8) = true := decide_eq_true (by omega)
   have l2 : decide (k < 8) = true := decide_eq_true hlt
   have HK := Lh hlt
   have EK := Lh (show wrap64 ((k : Int) + 1) = ((k + 1 : Nat) : Int) by unfold wrap64; omega)
   obtain ⟨a3, c3, hsel, -⟩ := MSx.out.2.2.2 k hlt
   have hcell := bxk14 HX.out hlt hsel
   obtain ⟨n3, hn3⟩ : ∃ z, z = (ms u.m k).length := ⟨_, rfl⟩
   rw [← hn3] at hcell
   have HN3 := Lh hn3
   have p0 : (0 : Int) ≤ (k : Int) := by omega
   have p1 : (k : Int) < 8 := by omega
   clear hsel hn3 hlt hk
   by_cases hc : 8 < n3
   case pos =>
    have l3 : decide ((8 : Int) < (n3 : Int)) = true := decide_eq_true (by omega)
    have l4 : decide (8 < n3) = true := decide_eq_true hc
    have B9 := Lh (B0.out.trans (BX.out.mono B0.out.size))
    clear hc HO
    go_wp2_with fail
    go_ret
    exact ⟨⟨false, rfl, fun h => by cases h⟩, B9.out⟩
   have l3 : decide ((8 : Int) < (n3 : Int)) = false := decide_eq_false (by omega)
   have l4 : decide (8 < n3) = false := decide_eq_false hc
   have HO1 := Lh (show ∀ q, q < k + 1 → (ms u.m q).length ≤ 8 from fun q hq => by
    rcases Nat.lt_or_ge q k with h | h
    ·exact HO.out q h
    ·obtain rfl : q = k := by omega
     rw [← HN3.out]; omega)
   clear hc HO
   go_wp2_with fail
   go_round
   case rel =>
    have h1 := HK.out
    exact ⟨k + 1, by omega, by first | rw [EK.out] | rfl, HO1⟩
   case measure =>
    have h1 := HK.out
    first | rw [EK.out] | skip
    simp [intOf]; omega
end Go.Proofs.YtgbnclepgjcakaaGreat.Gf
