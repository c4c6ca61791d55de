/- What is proved here: the contracts of crc32c.Extend and Sum and of the reference's. Condition: the table nibbles holds its sixteen numbers; the bytes lie in memory. -/
import Derived.Test.YtbkhedfhnmkodaaDoorW1
import Derived.Test.YtbkhedfhnmkodaaDoorBy
import Derived.Lib.Hide
namespace Go.Proofs.YtbkhedfhnmkodaaDoor.Crc
open Go Go.ChangeShapes Go.WideShapes Go.ChangeAt Go.RowKit Go.Proofs.YtbkhedfhnmkodaaDoor.By

/-- One shift by the reference's test. -/
theorem sg_if (x : Nat) : sg x = if x % 2 = 1 then x / 2 ^^^ 2197175160 else x / 2 := by
  unfold sg
  rcases Nat.mod_two_eq_zero_or_one x with h | h <;> rw [h] <;> simp
theorem and1 (x : Nat) (hx : x < 4294967296) : bits .and .u32 (x : Int) 1 = ((x % 2 : Nat) : Int) := by
  rw [show (1 : Int) = ((1 : Nat) : Int) from rfl, u32_and_nat x 1 hx (by decide), nat_mask1]
theorem xor_p (x : Nat) (hx : x < 4294967296) : bits .xor .u32 ((x : Int) / 2) 2197175160 = ((x / 2 ^^^ 2197175160 : Nat) : Int) := by
  rw [show ((x : Int) / 2) = ((x / 2 : Nat) : Int) by omega, show (2197175160 : Int) = ((2197175160 : Nat) : Int) from rfl, u32_xor_nat _ _ (by omega) (by decide)]

set_option maxHeartbeats 400000 in
theorem shift_any (x : Nat) (w : World) (hx : x < 4294967296) :
    Calls Tryd.prog 23 #[.int .u32 (x : Int)] w fun e w' => e = .returned (.int .u32 ((sgn 8 x : Nat) : Int)) ∧ w = w' := by
  go_enter Tryd.func23, Tryd.ntmps23
  go_wp2
  go_loop [0, 3] (fun r i => ∃ k y : Nat, k ≤ 8 ∧ y < 4294967296 ∧ sgn (8 - k) y = sgn 8 x ∧ i = .int .i64 k ∧ r = .int .u32 (y : Int)) (fun _ i => 8 - (intOf i).toNat)
  case atStart => exact ⟨0, x, by omega, hx, rfl, rfl, rfl⟩
  case round =>
    obtain ⟨k, y, hk, hy, hs, rfl, rfl⟩ := hrel
    have HS : Hid (sgn (8 - k) y = sgn 8 x) := Lib.hid hs
    clear hs
    by_cases hlt : k < 8
    · have a1 := and1 y hy
      have x1 := xor_p y hy
      rcases Nat.mod_two_eq_zero_or_one y with h | h
      · rw [h] at a1
        have HH := Lib.hid h
        clear h
        go_wp2
        go_round
        case rel => exact ⟨k + 1, y / 2, by omega, by omega, by rw [← HS.out, show 8 - k = (8 - (k + 1)) + 1 by omega, sgn, sg_if, if_neg (by rw [HH.out]; decide)], by go_num, by go_num⟩
        case measure => simp [intOf]; omega
      · rw [h] at a1
        have HH := Lib.hid h
        clear h
        go_wp2
        go_round
        case rel => exact ⟨k + 1, y / 2 ^^^ 2197175160, by omega, Nat.xor_lt_two_pow (n := 32) (by omega) (by decide), by rw [← HS.out, show 8 - k = (8 - (k + 1)) + 1 by omega, sgn, sg_if, if_pos HH.out], by go_num, by go_num⟩
        case measure => simp [intOf]; omega
    · go_wp2
      go_ret
      exact ⟨ret_int (by rw [← HS.out, show 8 - k = 0 by omega]; rfl), rfl⟩
theorem not32 (c : Nat) (hc : c < 4294967296) : bits .xor .u32 IntKind.u32.max (c : Int) = ((4294967295 ^^^ c : Nat) : Int) := by
  rw [show IntKind.u32.max = ((4294967295 : Nat) : Int) from rfl, u32_xor_nat _ _ (by decide) hc]
theorem not32_lt {c : Nat} (hc : c < 4294967296) : 4294967295 ^^^ c < 4294967296 := Nat.xor_lt_two_pow (n := 32) (by decide) hc
theorem run_take (r : Nat) (l : List Nat) (k : Nat) (h : k < l.length) : run r (l.take (k + 1)) = sgn 8 (run r (l.take k) ^^^ l.getD k 0) := by
  rw [List.take_succ_eq_append_getElem h, run_append]
  simp [run, List.getD, h]
theorem xor_byte (r x : Nat) (hr : r < 4294967296) (hx : x < 256) : bits .xor .u32 (r : Int) (x : Int) = ((r ^^^ x : Nat) : Int) := u32_xor_nat _ _ hr (by omega)
theorem byte_lt {r x : Nat} (hr : r < 4294967296) (hx : x < 256) : r ^^^ x < 4294967296 := Nat.xor_lt_two_pow (n := 32) hr (by omega)
theorem extend_some (c : Nat) (b off cap : Nat) (l : List Nat) (w : World) (hc : c < 4294967296) (hl : ∀ b ∈ l, b < 256) (hm : l.length ≤ maxLen) (ht : Tab w)
    (hcell : ∀ k, k < l.length → w.cell? ⟨b, off + k, none⟩ = some (.int .u8 ((l.getD k 0 : Nat) : Int))) :
    Calls Tryd.prog 22 #[.int .u32 (c : Int), .slice (some ⟨b, off, none⟩) l.length cap] w fun e w' => e = .returned (.int .u32 ((ext c l : Nat) : Int)) ∧ w = w' := by
  unfold maxLen at hm
  have n0 := not32 c hc
  have hr0 := not32_lt hc
  obtain ⟨r0, hr0e⟩ : ∃ r0, r0 = 4294967295 ^^^ c := ⟨_, rfl⟩
  rw [← hr0e] at n0 hr0
  have HR := Lib.hid hr0e
  clear hr0e
  have HC := Lib.hid hcell
  have HT := Lib.hid ht
  clear hcell ht
  go_enter Tryd.func22, Tryd.ntmps22
  go_wp2
  go_loop [5, 12] (fun r i => ∃ k : Nat, k ≤ l.length ∧ i = .int .i64 k ∧ r = .int .u32 ((run r0 (l.take k) : Nat) : Int)) (fun _ i => l.length - (intOf i).toNat)
  case atStart => exact ⟨0, Nat.zero_le _, rfl, rfl⟩
  case round =>
    obtain ⟨k, hk, rfl, rfl⟩ := hrel
    have hR := run_lt hr0 (mem_take hl k)
    by_cases hlt : k < l.length
    · have hcell := HC.out k hlt
      have hx := getD_lt hl k
      have HS := Lib.hid (run_take r0 l k hlt)
      have xb := xor_byte _ _ hR hx
      have hb := byte_lt hR hx
      obtain ⟨R, hRe⟩ : ∃ R, R = run r0 (l.take k) := ⟨_, rfl⟩
      obtain ⟨x, hxe⟩ : ∃ x, x = l.getD k 0 := ⟨_, rfl⟩
      rw [← hRe] at HS hR xb hb ⊢
      rw [← hxe] at HS hx xb hb hcell
      clear hRe hxe
      go_wp2_with ((go_at_call 24; refine (shiftByte_any _ _ hb HT.out).mono ?_; rintro e w' ⟨rfl, rfl⟩))
      go_round
      case rel => exact ⟨k + 1, by omega, by go_num, by rw [HS.out]⟩
      case measure => simp [intOf]; omega
    · have hkl : k = l.length := by omega
      have n1 := not32 _ hR
      obtain ⟨R, hRe⟩ : ∃ R, R = run r0 (l.take k) := ⟨_, rfl⟩
      rw [← hRe] at n1 hR ⊢
      have HE := Lib.hid hRe
      have HK := Lib.hid hkl
      clear hRe hkl
      go_wp2
      go_ret
      exact ⟨ret_int (by rw [HE.out, HK.out, List.take_length, HR.out]; rfl), rfl⟩

theorem ext_nil (c : Nat) : ext c [] = c := by
  unfold ext run
  rw [← Nat.xor_assoc, Nat.xor_self, Nat.zero_xor]
set_option maxHeartbeats 400000 in
theorem extend_nil (c : Nat) (a : Option Addr) (cap : Nat) (w : World) (hc : c < 4294967296) :
    Calls Tryd.prog 22 #[.int .u32 (c : Int), .slice a 0 cap] w fun e w' => e = .returned (.int .u32 ((ext c [] : Nat) : Int)) ∧ w = w' := by
  have n0 := not32 c hc
  have hr0 := not32_lt hc
  obtain ⟨r0, hr0e⟩ : ∃ r0, r0 = 4294967295 ^^^ c := ⟨_, rfl⟩
  have n1 := not32 r0 (by rw [hr0e]; exact hr0)
  rw [← hr0e] at n0 hr0
  have HR := Lib.hid hr0e
  clear hr0e
  go_enter Tryd.func22, Tryd.ntmps22
  go_wp2
  go_loop [5, 12] (fun r i => r = .int .u32 (r0 : Int) ∧ i = .int .i64 0) (fun _ i => (intOf i).toNat)
  case atStart => exact ⟨rfl, rfl⟩
  case round =>
    obtain ⟨rfl, rfl⟩ := hrel
    go_wp2
    go_ret
    exact ⟨ret_int (by rw [HR.out]; rfl), rfl⟩
theorem extend_any (c : Nat) (v : Value) (l : List Nat) (w : World) (hc : c < 4294967296) (hs : Sl w v l) (ht : Tab w) :
    Calls Tryd.prog 22 #[.int .u32 (c : Int), v] w fun e w' => e = .returned (.int .u32 ((ext c l : Nat) : Int)) ∧ w = w' := by
  obtain ⟨hl, hm, ⟨a, cap, rfl, rfl, hcm⟩ | ⟨b, off, cap, rfl, hcap, hcm, hcell⟩⟩ := hs
  · exact extend_nil c a cap w hc
  · exact extend_some c b off cap l w hc hl hm ht hcell
theorem ext_lt {c : Nat} {l : List Nat} (hc : c < 4294967296) (h : ∀ b ∈ l, b < 256) : ext c l < 4294967296 := not32_lt (run_lt (not32_lt hc) h)
/-- Sum. -/
theorem sum_any (v : Value) (l : List Nat) (w : World) (hs : Sl w v l) (ht : Tab w) :
    Calls Tryd.prog 20 #[v] w fun e w' => e = .returned (.int .u32 ((ext 0 l : Nat) : Int)) ∧ w = w' := by
  have hx := extend_any 0 v l w (by decide) hs ht
  obtain ⟨s, hse⟩ : ∃ s, s = ext 0 l := ⟨_, rfl⟩
  rw [← hse] at hx ⊢
  have HS := Lib.hid hs
  clear hse hs ht
  go_enter Tryd.func20, Tryd.ntmps20
  go_wp2_with (go_at_call 22; refine hx.mono ?_; rintro e w' ⟨rfl, rfl⟩)
  go_ret
  exact ⟨rfl, rfl⟩

/-- The reference's Extend and Sum. -/
theorem rextend_some (c : Nat) (b off cap : Nat) (l : List Nat) (w : World) (hc : c < 4294967296) (hl : ∀ b ∈ l, b < 256) (hm : l.length ≤ maxLen)
    (hcell : ∀ k, k < l.length → w.cell? ⟨b, off + k, none⟩ = some (.int .u8 ((l.getD k 0 : Nat) : Int))) :
    Calls Tryd.prog 21 #[.int .u32 (c : Int), .slice (some ⟨b, off, none⟩) l.length cap] w fun e w' => e = .returned (.int .u32 ((ext c l : Nat) : Int)) ∧ w = w' := by
  unfold maxLen at hm
  have n0 := not32 c hc
  have hr0 := not32_lt hc
  obtain ⟨r0, hr0e⟩ : ∃ r0, r0 = 4294967295 ^^^ c := ⟨_, rfl⟩
  rw [← hr0e] at n0 hr0
  have HR := Lib.hid hr0e
  clear hr0e
  have HC := Lib.hid hcell
  clear hcell
  go_enter Tryd.func21, Tryd.ntmps21
  go_wp2
  go_loop [5, 6] (fun r i => ∃ k : Nat, k ≤ l.length ∧ i = .int .i64 k ∧ r = .int .u32 ((run r0 (l.take k) : Nat) : Int)) (fun _ i => l.length - (intOf i).toNat)
  case atStart => exact ⟨0, Nat.zero_le _, rfl, rfl⟩
  case round =>
    obtain ⟨k, hk, rfl, rfl⟩ := hrel
    have hR := run_lt hr0 (mem_take hl k)
    by_cases hlt : k < l.length
    · have hcell := HC.out k hlt
      have hx := getD_lt hl k
      have HS := Lib.hid (run_take r0 l k hlt)
      have xb := xor_byte _ _ hR hx
      have hb := byte_lt hR hx
      obtain ⟨R, hRe⟩ : ∃ R, R = run r0 (l.take k) := ⟨_, rfl⟩
      obtain ⟨x, hxe⟩ : ∃ x, x = l.getD k 0 := ⟨_, rfl⟩
      rw [← hRe] at HS hR xb hb ⊢
      rw [← hxe] at HS hx xb hb hcell
      clear hRe hxe
      go_wp2_with ((go_at_call 23; refine (shift_any _ _ hb).mono ?_; rintro e w' ⟨rfl, rfl⟩))
      go_round
      case rel => exact ⟨k + 1, by omega, by go_num, by rw [HS.out]⟩
      case measure => simp [intOf]; omega
    · have hkl : k = l.length := by omega
      have n1 := not32 _ hR
      obtain ⟨R, hRe⟩ : ∃ R, R = run r0 (l.take k) := ⟨_, rfl⟩
      rw [← hRe] at n1 hR ⊢
      have HE := Lib.hid hRe
      have HK := Lib.hid hkl
      clear hRe hkl
      go_wp2
      go_ret
      exact ⟨ret_int (by rw [HE.out, HK.out, List.take_length, HR.out]; rfl), rfl⟩
theorem rextend_nil (c : Nat) (a : Option Addr) (cap : Nat) (w : World) (hc : c < 4294967296) :
    Calls Tryd.prog 21 #[.int .u32 (c : Int), .slice a 0 cap] w fun e w' => e = .returned (.int .u32 ((ext c [] : Nat) : Int)) ∧ w = w' := by
  have n0 := not32 c hc
  have hr0 := not32_lt hc
  obtain ⟨r0, hr0e⟩ : ∃ r0, r0 = 4294967295 ^^^ c := ⟨_, rfl⟩
  have n1 := not32 r0 (by rw [hr0e]; exact hr0)
  rw [← hr0e] at n0 hr0
  have HR := Lib.hid hr0e
  clear hr0e
  go_enter Tryd.func21, Tryd.ntmps21
  go_wp2
  go_loop [5, 6] (fun r i => r = .int .u32 (r0 : Int) ∧ i = .int .i64 0) (fun _ i => (intOf i).toNat)
  case atStart => exact ⟨rfl, rfl⟩
  case round =>
    obtain ⟨rfl, rfl⟩ := hrel
    go_wp2
    go_ret
    exact ⟨ret_int (by rw [HR.out]; rfl), rfl⟩
theorem rextend_any (c : Nat) (v : Value) (l : List Nat) (w : World) (hc : c < 4294967296) (hs : Sl w v l) :
    Calls Tryd.prog 21 #[.int .u32 (c : Int), v] w fun e w' => e = .returned (.int .u32 ((ext c l : Nat) : Int)) ∧ w = w' := by
  obtain ⟨hl, hm, ⟨a, cap, rfl, rfl, hcm⟩ | ⟨b, off, cap, rfl, hcap, hcm, hcell⟩⟩ := hs
  · exact rextend_nil c a cap w hc
  · exact rextend_some c b off cap l w hc hl hm hcell
theorem rsum_any (v : Value) (l : List Nat) (w : World) (hs : Sl w v l) :
    Calls Tryd.prog 19 #[v] w fun e w' => e = .returned (.int .u32 ((ext 0 l : Nat) : Int)) ∧ w = w' := by
  have hx := rextend_any 0 v l w (by decide) hs
  obtain ⟨s, hse⟩ : ∃ s, s = ext 0 l := ⟨_, rfl⟩
  rw [← hse] at hx ⊢
  have HS := Lib.hid hs
  clear hse hs
  go_enter Tryd.func19, Tryd.ntmps19
  go_wp2_with (go_at_call 21; refine hx.mono ?_; rintro e w' ⟨rfl, rfl⟩)
  go_ret
  exact ⟨rfl, rfl⟩

end Go.Proofs.YtbkhedfhnmkodaaDoor.Crc
