/- What is proved here: New and Len of the program, the laws' items. -/
import Derived.Test.YtlooldnaoooehaaP11i
namespace Go.Proofs.Ytlooldnaoooehaa.Gf
open Go Go.Joins Go.ChangeShapes Go.WideShapes Go.ChangeAt Go.RowKit Go.Deep Go.Proofs.Ytlooldnaoooehaa.By Go.Proofs.Ytlooldnaoooehaa.Qt

theorem and_low (r : Int) (k : Nat) (hk : k ≤ 32) : bits .and .i64 r ((2 : Int) ^ k - 1) = r % 2 ^ k := by
  have hp : (2 : Nat) ^ k ≤ 2 ^ 32 := Nat.pow_le_pow_right (by decide) hk
  have hp1 : 1 ≤ (2 : Nat) ^ k := Nat.one_le_two_pow
  have e0 : ((2 : Int) ^ k - 1) = ((2 ^ k - 1 : Nat) : Int) := by rw [Int.natCast_sub hp1]; simp
  have e1 : (BitVec.ofInt 64 r).toNat = (r % 18446744073709551616).toNat := by rw [BitVec.toNat_ofInt]; rfl
  have e2 : (BitVec.ofInt 64 ((2 : Int) ^ k - 1)).toNat = 2 ^ k - 1 := by
    rw [e0, BitVec.toNat_ofInt]
    omega
  have e3 : (BitVec.ofInt 64 r &&& BitVec.ofInt 64 ((2 : Int) ^ k - 1)).toNat = (r % 18446744073709551616).toNat % 2 ^ k := by rw [BitVec.toNat_and, e1, e2]; exact Nat.and_two_pow_sub_one_eq_mod _ k
  show IntKind.i64.wrap ((BitVec.ofInt 64 r &&& BitVec.ofInt 64 ((2 : Int) ^ k - 1)).toNat : Int) = _
  have hd : (2 : Int) ^ k ∣ 18446744073709551616 := by
    rw [show (18446744073709551616 : Int) = 2 ^ k * 2 ^ (64 - k) by rw [← Int.pow_add, show k + (64 - k) = 64 by omega]; rfl]
    exact Int.dvd_mul_right _ _
  have hc : ((2 : Int) ^ k) = ((2 ^ k : Nat) : Int) := by simp
  have e4 : (((r % 18446744073709551616).toNat % 2 ^ k : Nat) : Int) = r % 2 ^ k := by
    rw [Int.natCast_emod, Int.toNat_of_nonneg (by omega), ← hc, Int.emod_emod_of_dvd _ hd]
  have hb := Int.emod_lt_of_pos r (show (0 : Int) < 2 ^ k by rw [hc]; omega)
  have hb0 := Int.emod_nonneg r (show (2 : Int) ^ k ≠ 0 by rw [hc]; omega)
  rw [e3, e4, IntKind.wrap_i64]
  rw [hc] at hb hb0 ⊢
  generalize r % ((2 ^ k : Nat) : Int) = z at *
  omega

theorem mp0_ms (w : World) : Ms w [.slice none 0 0, .slice none 0 0, .slice none 0 0, .slice none 0 0, .slice none 0 0, .slice none 0 0, .slice none 0 0, .slice none 0 0] mp0 := ⟨rfl, by unfold J64 mp0; decide, by unfold J64 mp0; decide, fun k hk => by
  obtain rfl | rfl | rfl | rfl | rfl | rfl | rfl | rfl : k = 0 ∨ k = 1 ∨ k = 2 ∨ k = 3 ∨ k = 4 ∨ k = 5 ∨ k = 6 ∨ k = 7 := by omega
  all_goals exact ⟨none, 0, rfl, it_nil w⟩⟩
theorem pnew_any (w : World) : Calls Try.prog 34 #[] w (MO w mp0) := by
  have q := bel_al w (.cells #[.slice none 0 0, .slice none 0 0, .slice none 0 0, .slice none 0 0, .slice none 0 0, .slice none 0 0, .slice none 0 0, .slice none 0 0, .int .i64 0, .int .i64 0] 32)
  have hz := heap_alloc_new w (.cells #[.slice none 0 0, .slice none 0 0, .slice none 0 0, .slice none 0 0, .slice none 0 0, .slice none 0 0, .slice none 0 0, .slice none 0 0, .int .i64 0, .int .i64 0] 32)
  go_enter Try.func34, Try.ntmps34
  go_wp2_with fail
  refine mo_end (fn := Try.f34) rfl w.heap.size rfl hz ?_
  exact ⟨⟨_, rfl, _, _, _, _, _, _, _, _, rfl, mp0_ms _⟩, q⟩
def itmL (L : List Itm) : List Itm := (L.take 20).map fixI
set_option maxRecDepth 100000 in
set_option maxHeartbeats 12800000 in
theorem litems_any (v : Value) (L : List Itm) (w : World) (s : It w v L) : Calls Try.prog 12 #[v] w (LO w (itmL L)) := by
  have SL := Lib.hid s
  obtain ⟨a, c, rfl, -, hcm⟩ := it_form s
  have hml : L.length ≤ c := by obtain ⟨_, _, h, h2, _⟩ := it_form s; simp at h; omega
  obtain ⟨n, hn⟩ : ∃ z, z = L.length := ⟨_, rfl⟩
  rw [← hn] at SL hml ⊢
  have HN := Lib.hid (And.intro hn (And.intro hml hcm))
  have OE := Lib.hid (show OwT w w.heap.size (.slice none 0 0) ((L.take 0).map fixI) by rw [List.take_zero]; exact owT_nil _ _)
  clear s hn hcm hml
  go_enter Try.func12, Try.ntmps12
  go_wp2_with fail
  go_loopw [3, 4] (fun t3 t4 wr => ∃ i : Nat, i ≤ n ∧ i ≤ 20 ∧ t4 = .int .i64 (i : Int) ∧ Hid (OwT wr w.heap.size t3 ((L.take i).map fixI)) ∧ Hid (Below w.heap.size w wr)) (fun _ t _ => 20 - (intOf t).toNat)
  case atStart => exact ⟨0, by omega, by omega, rfl, OE, Lib.hid (Below.refl _ _)⟩
  case round =>
    clear OE
    obtain ⟨i, hi, hi2, rfl, HO, BR⟩ := hrel
    rename World => wl
    obtain ⟨ao, co, rfl, -, -⟩ := owT_form HO.out
    by_cases hlt : i < n ∧ i < 20
    case neg =>
      have HE := Lib.hid (show (L.take i).map fixI = itmL L by
        unfold itmL
        by_cases h : i < n
        · rw [show i = 20 by omega]
        · rw [List.take_of_length_le (by have := HN.out.1; omega), List.take_of_length_le (by have := HN.out.1; omega)])
      by_cases h1 : i < n
      · have l1 : decide ((i : Int) < (n : Int)) = true := decide_eq_true (by omega)
        have l2 : decide (i < n) = true := decide_eq_true h1
        have l3 : decide ((i : Int) < 20) = false := decide_eq_false (by omega)
        have l4 : decide (i < 20) = false := decide_eq_false (by omega)
        clear hlt hi hi2 h1
        go_wp2_with fail
        go_ret
        exact ⟨⟨_, rfl, by rw [← HE.out]; exact HO.out⟩, BR.out⟩
      · have l1 : decide ((i : Int) < (n : Int)) = false := decide_eq_false (by omega)
        have l2 : decide (i < n) = false := decide_eq_false h1
        clear hlt hi hi2 h1
        go_wp2_with fail
        go_ret
        exact ⟨⟨_, rfl, by rw [← HE.out]; exact HO.out⟩, BR.out⟩
    have l1 : decide ((i : Int) < (n : Int)) = true := decide_eq_true (by omega)
    have l2 : decide (i < n) = true := decide_eq_true hlt.1
    have l3 : decide ((i : Int) < 20) = true := decide_eq_true (by omega)
    have l4 : decide (i < 20) = true := decide_eq_true hlt.2
    have HI := Lib.hid hlt
    have EI := Lib.hid (show wrap64 ((i : Int) + 1) = ((i + 1 : Nat) : Int) by unfold wrap64; omega)
    obtain ⟨b, off, cap, hv, -, -, hc⟩ := it_cells (it_below SL.out BR.out) (by have := HN.out.1; omega)
    obtain ⟨rfl, -⟩ : a = some ⟨b, off, none⟩ ∧ (n = L.length ∧ c = cap) := by simpa using hv
    have C := hc i (by have := HN.out.1; omega)
    have hok : ItOk (L.getD i z0) := getT_ok SL.out.1 i
    have htk := take_snocT (L := L) (i := i) (by have := HN.out.1; omega)
    obtain ⟨x, hx⟩ : ∃ z, z = L.getD i z0 := ⟨_, rfl⟩
    rw [← hx] at C hok htk
    obtain ⟨k0, k1, k2, k3⟩ := C
    have a1 : bits .and .i64 x.off 4095 = x.off % 4096 := and_low _ 12 (by omega)
    have a2 : bits .and .i64 x.sz 4095 = x.sz % 4096 := and_low _ 12 (by omega)
    have hb1 := Int.emod_nonneg x.off (show (4096 : Int) ≠ 0 by decide)
    have hb2 := Int.emod_lt_of_pos x.off (show (0 : Int) < 4096 by decide)
    have hb3 := Int.emod_nonneg x.sz (show (4096 : Int) ≠ 0 by decide)
    have hb4 := Int.emod_lt_of_pos x.sz (show (0 : Int) < 4096 by decide)
    have HFX := Lib.hid (show ItOk (fixI x) from ⟨hok.key, hok.ck, by unfold J64; show -9223372036854775808 ≤ 16 + 8 * (x.off % 4096) ∧ 16 + 8 * (x.off % 4096) ≤ 9223372036854775807; omega, by unfold J64; show -9223372036854775808 ≤ x.sz % 4096 ∧ x.sz % 4096 ≤ 9223372036854775807; omega⟩)
    have HTK := Lib.hid (show (L.take (i + 1)).map fixI = (L.take i).map fixI ++ [fixI x] by rw [htk, List.map_append]; rfl)
    obtain ⟨A, hA⟩ : ∃ z, z = x.off % 4096 := ⟨_, rfl⟩
    obtain ⟨Z, hZ⟩ : ∃ z, z = x.sz % 4096 := ⟨_, rfl⟩
    rw [← hA] at a1 hb1 hb2
    rw [← hZ] at a2
    have w1 : wrap64 (8 * A) = 8 * A := by unfold wrap64; omega
    have w2 : wrap64 (16 + 8 * A) = 16 + 8 * A := by unfold wrap64; omega
    have HAZ := Lib.hid (And.intro hA hZ)
    have p0 : (0 : Int) ≤ (i : Int) := by omega
    have p1 : (i : Int) < (n : Int) := by omega
    clear hv hc hok htk hx hA hZ hb1 hb2 hb3 hb4 hlt hi hi2
    go_upto_region 7 with fail
    clear k0 k1 k2 k3 a1 a2 w1 w2 p0 p1 l1 l2 l3 l4
    have q1 := bel_al wl (.cells #[.int .u64 (x.key : Int), .int .u32 (x.ck : Int), .int .i64 (16 + 8 * A), .int .i64 Z] 37)
    have hbx := heap_alloc_new wl (.cells #[.int .u64 (x.key : Int), .int .u32 (x.ck : Int), .int .i64 (16 + 8 * A), .int .i64 Z] 37)
    have O1 := Lib.hid (owT_below HO.out q1)
    have B1 := Lib.hid (BR.out.trans (q1.mono BR.out.size))
    have HB1 := Lib.hid hbx
    clear q1 hbx HO
    generalize wl.alloc (.cells #[.int .u64 (x.key : Int), .int .u32 (x.ck : Int), .int .i64 (16 + 8 * A), .int .i64 Z] 37) = w8 at *
    have q2 := bel_al w8 (.cells #[.int .u64 (x.key : Int), .int .u32 (x.ck : Int), .int .i64 (16 + 8 * A), .int .i64 Z] 37)
    have O2 := Lib.hid (owT_below O1.out q2)
    have B2 := Lib.hid (B1.out.trans (q2.mono B1.out.size))
    have IX := Lib.hid (show It (w8.alloc (.cells #[.int .u64 (x.key : Int), .int .u32 (x.ck : Int), .int .i64 (16 + 8 * A), .int .i64 Z] 37)) (.slice (some ⟨w8.heap.size, 0, none⟩) 1 1) [fixI x] from it_one HFX.out (by
      have h := heap_alloc_new w8 (.cells #[.int .u64 (x.key : Int), .int .u32 (x.ck : Int), .int .i64 (16 + 8 * A), .int .i64 Z] 37)
      rw [h]
      show _ = some (Obj.cells #[.int .u64 (x.key : Int), .int .u32 (x.ck : Int), .int .i64 (16 + 8 * (x.off % 4096)), .int .i64 (x.sz % 4096)] _ _)
      rw [← HAZ.out.1, ← HAZ.out.2]))
    have LE := Lib.hid (show w.heap.size ≤ (w8.alloc (.cells #[.int .u64 (x.key : Int), .int .u32 (x.ck : Int), .int .i64 (16 + 8 * A), .int .i64 Z] 37)).heap.size from B2.out.size)
    have HLE := Lib.hid (show ((L.take i).map fixI).length + [fixI x].length ≤ 100000000 by rw [List.length_map, List.length_take]; have := HI.out; simp; omega)
    clear q2 O1 B1
    obtain ⟨⟨x0, x1, x2, x3⟩, -⟩ := bx4 HB1.out
    go_wp2_with (at_builtin; refine app_it (dst := some 33) ?_ ?_ O2.out IX.out HLE.out LE.out ?_; exact rfl; exact rfl; intro v9 w9 ho9 hg9; rw [← HTK.out] at ho9; have O9 := Lib.hid ho9; have B9 := Lib.hid (below_grownT B2.out hg9 O2.out LE.out (Nat.le_refl _)); clear ho9 hg9 O2 IX B2 x0 x1 x2 x3)
    go_roundw
    case rel =>
      have h1 := HI.out
      exact ⟨i + 1, by omega, by omega, by rw [EI.out], O9, B9⟩
    case measure =>
      have h1 := HI.out
      rw [EI.out]
      simp [intOf]; omega
end Go.Proofs.Ytlooldnaoooehaa.Gf
