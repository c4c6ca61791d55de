/- What is proved here: the contracts of the reference of layer 2 (Mul, Inv, Div, Exp, Log, Pow, MulAdd). No condition on the program. -/
import Derived.Test.YtkmmpfmemjnbmaaGf
import Derived.Test.YtkmmpfmemjnbmaaProg
import Derived.WalkKit
import Derived.ProofKit
import Derived.OpenShut
import Derived.Lib.Hide
namespace Go.Proofs.Ytkmmpfmemjnbmaa.Gf
open Go Go.ChangeShapes Go.WideShapes Go.ChangeAt Go.RowKit

theorem ret_int {k : IntKind} {a b : Int} (h : a = b) : Ending.returned (.int k a) = .returned (.int k b) := by rw [h]
theorem i64_xor_nat (a b : Nat) (ha : a < 2 ^ 62) (hb : b < 2 ^ 62) : bits .xor .i64 (a : Int) (b : Int) = ((a ^^^ b : Nat) : Int) := by
  have e1 : (BitVec.ofInt 64 (a : Int)).toNat = a := by rw [BitVec.toNat_ofInt]; omega
  have e2 : (BitVec.ofInt 64 (b : Int)).toNat = b := by rw [BitVec.toNat_ofInt]; omega
  have e3 : (BitVec.ofInt 64 (a : Int) ^^^ BitVec.ofInt 64 (b : Int)).toNat = a ^^^ b := by rw [BitVec.toNat_xor, e1, e2]
  have e4 : a ^^^ b < 2 ^ 62 := Nat.xor_lt_two_pow (n := 62) ha hb
  show IntKind.i64.wrap ((BitVec.ofInt 64 (a : Int) ^^^ BitVec.ofInt 64 (b : Int)).toNat : Int) = _
  rw [e3, IntKind.wrap_i64]
  omega
theorem i64_and1 (n : Nat) (h : n < 9223372036854775808) : bits .and .i64 (n : Int) 1 = ((n % 2 : Nat) : Int) := by
  have e1 : (BitVec.ofInt 64 (n : Int)).toNat = n := by rw [BitVec.toNat_ofInt]; omega
  have e2 : (BitVec.ofInt 64 (1 : Int)).toNat = 1 := rfl
  have e3 : (BitVec.ofInt 64 (n : Int) &&& BitVec.ofInt 64 1).toNat = n % 2 := by rw [BitVec.toNat_and, e1, e2, nat_mask1]
  show IntKind.i64.wrap ((BitVec.ofInt 64 (n : Int) &&& BitVec.ofInt 64 1).toNat : Int) = _
  rw [e3, IntKind.wrap_i64]
  omega
theorem u8_and1 (n : Nat) (h : n < 256) : bits .and .u8 (n : Int) 1 = ((n % 2 : Nat) : Int) := by
  rw [show (1 : Int) = ((1 : Nat) : Int) from rfl, u8_and_nat n 1 h (by decide), nat_mask1]
theorem u8_and1_shift (n k : Nat) (h : n < 256) : bits .and .u8 ((n : Int) / 2 ^ k) 1 = ((n / 2 ^ k % 2 : Nat) : Int) := by
  have e : ((n : Int) / 2 ^ k) = ((n / 2 ^ k : Nat) : Int) := by simp
  rw [e]
  exact u8_and1 _ (Nat.lt_of_le_of_lt (Nat.div_le_self _ _) h)
theorem i64_and1_shift (n k : Nat) (h : n < 9223372036854775808) : bits .and .i64 ((n : Int) / 2 ^ k) 1 = ((n / 2 ^ k % 2 : Nat) : Int) := by
  have e : ((n : Int) / 2 ^ k) = ((n / 2 ^ k : Nat) : Int) := by simp
  rw [e]
  exact i64_and1 _ (Nat.lt_of_le_of_lt (Nat.div_le_self _ _) h)
theorem raw_lt : ∀ k a b, k ≤ 8 → a < 256 → raw k a b < 32768
  | 0, _, _, _, _ => by simp [raw]
  | k + 1, a, b, hk, ha => by
    have ih := raw_lt k a b (by omega) ha
    have h1 : a * 2 ^ k < 32768 := by
      have : 2 ^ k ≤ 2 ^ 7 := Nat.pow_le_pow_right (by decide) (by omega)
      have := Nat.mul_le_mul (show a ≤ 255 by omega) this
      omega
    have h2 : b / 2 ^ k % 2 * (a * 2 ^ k) < 32768 := by
      have : b / 2 ^ k % 2 = 0 ∨ b / 2 ^ k % 2 = 1 := by omega
      rcases this with e | e <;> rw [e] <;> omega
    exact Nat.xor_lt_two_pow (n := 15) ih h2

theorem wrap64_shl (a k : Nat) (h : a * 2 ^ k < 2 ^ 62) : wrap64 ((a : Int) * 2 ^ k) = ((a * 2 ^ k : Nat) : Int) := by
  have e : ((a : Int) * 2 ^ k) = ((a * 2 ^ k : Nat) : Int) := by simp
  rw [e]
  generalize a * 2 ^ k = z at h
  unfold wrap64
  omega
set_option maxRecDepth 100000 in
set_option maxHeartbeats 800000 in
theorem rmul_any (a b : Nat) (w : World) (ha : a < 256) (hb : b < 256) :
    Calls Try.prog 13 #[.int .u8 (a : Int), .int .u8 (b : Int)] w fun e w' => e = .returned (.int .u8 ((gm a b : Nat) : Int)) ∧ w = w' := by
  go_enter Try.func13, Try.ntmps13
  go_wp2
  go_loop [5, 6] (fun p i => ∃ k P : Nat, k ≤ 8 ∧ P = raw k a b ∧ i = .int .i64 k ∧ p = .int .i64 (P : Int)) (fun _ i => 8 - (intOf i).toNat)
  case atStart => exact ⟨0, 0, by omega, rfl, rfl, rfl⟩
  case round =>
    obtain ⟨k, P, hk, hP, rfl, rfl⟩ := hrel
    have hP15 : P < 32768 := by rw [hP]; exact raw_lt k a b hk ha
    by_cases hlt : k < 8
    · have a1 := u8_and1_shift b k hb
      have HP := Lib.hid hP
      clear hP
      have hs : a * 2 ^ k < 32768 := by
        have : 2 ^ k ≤ 2 ^ 7 := Nat.pow_le_pow_right (by decide) (by omega)
        have := Nat.mul_le_mul (show a ≤ 255 by omega) this
        omega
      have x1 := i64_xor_nat P (a * 2 ^ k) (by omega) (by omega)
      rcases Nat.mod_two_eq_zero_or_one (b / 2 ^ k) with h | h
      · rw [h] at a1
        have HH := Lib.hid h
        clear h
        go_wp2
        go_round
        case rel => exact ⟨k + 1, P, by omega, by rw [raw, HH.out, ← HP.out]; simp, by go_num, rfl⟩
        case measure => simp [intOf]; omega
      · rw [h] at a1
        have HH := Lib.hid h
        clear h
        go_wp2
        go_round
        case rel => exact ⟨k + 1, P ^^^ a * 2 ^ k, by omega, by rw [raw, HH.out, ← HP.out, Nat.one_mul], by go_num, by rw [wrap64_shl a k (by omega), x1]⟩
        case measure => simp [intOf]; omega
    · have hR := red_raw ha hb
      have h8 : k = 8 := by omega
      rw [h8] at hP
      rw [← hP] at hR
      have HR := Lib.hid hR
      clear hP hR h8
      go_wp2
      go_loop [5, 7] (fun p i => ∃ j Q : Nat, j ≤ 7 ∧ Q < 32768 ∧ red j Q = gm a b ∧ i = .int .i64 ((j + 7 : Nat) : Int) ∧ p = .int .i64 (Q : Int)) (fun _ i => (intOf i).toNat - 7)
      case atStart => exact ⟨7, P, by omega, hP15, HR.out, rfl, rfl⟩
      case round =>
        clear HR hP15
        obtain ⟨j, Q, hj, hQ15, hr, rfl, rfl⟩ := hrel
        have HR := Lib.hid hr
        clear hr
        by_cases hp : 0 < j
        · obtain ⟨m, rfl⟩ : ∃ m, j = m + 1 := ⟨j - 1, by omega⟩
          have a1 := i64_and1_shift Q (m + 8) (by omega)
          rw [show ((Q : Int) / 2 ^ (m + 8)) = (Q : Int) / 2 ^ (m + 1 + 7) by rw [Nat.add_assoc]] at a1
          have hs : 285 * 2 ^ m < 32768 * 2 := by
            have : 2 ^ m ≤ 2 ^ 6 := Nat.pow_le_pow_right (by decide) (by omega)
            omega
          have x1 := i64_xor_nat Q (285 * 2 ^ m) (by omega) (by omega)
          rcases Nat.mod_two_eq_zero_or_one (Q / 2 ^ (m + 8)) with h | h
          · rw [h] at a1
            have HH := Lib.hid h
            clear h
            go_wp2
            go_round
            case rel => exact ⟨m, Q, by omega, hQ15, by rw [← HR.out, red, HH.out]; simp, by go_num, rfl⟩
            case measure => simp [intOf]; omega
          · rw [h] at a1
            have HH := Lib.hid h
            clear h
            go_wp2
            go_round
            case rel =>
              have hs2 : 285 * 2 ^ m < 32768 := by
                have : 2 ^ m ≤ 2 ^ 6 := Nat.pow_le_pow_right (by decide) (by omega)
                omega
              exact ⟨m, Q ^^^ 285 * 2 ^ m, by omega, Nat.xor_lt_two_pow (n := 15) hQ15 hs2, by rw [← HR.out, red, HH.out, Nat.one_mul], by go_num, by rw [show (wrap64 (285 * 2 ^ m)) = ((285 * 2 ^ m : Nat) : Int) from wrap64_shl 285 m (by omega), x1]⟩
            case measure => simp [intOf]; omega
        · have h0 : j = 0 := by omega
          have hg : Q = gm a b := by rw [← HR.out, h0]; rfl
          have hlt := gm_lt (b := b) ha
          rw [← hg] at hlt
          have HG := Lib.hid hg
          clear hg
          go_wp2
          go_ret
          exact ⟨ret_int (by rw [← HG.out]), rfl⟩
/-- Two results. -/
def Two (a b : Int) : Ending := .returned (.tuple #[.int .u8 a, .int .i64 b])
def TwoI (a b : Int) : Ending := .returned (.tuple #[.int .i64 a, .int .i64 b])
theorem u8_wrap (n : Nat) (h : n < 256) : IntKind.u8.wrap (n : Int) = (n : Int) := by
  rw [IntKind.wrap_u8']
  omega
set_option maxRecDepth 100000 in
set_option maxHeartbeats 800000 in
theorem rinv_zero (w : World) : Calls Try.prog 16 #[.int .u8 0] w fun e w' => e = Two 0 1 ∧ w = w' := by
  go_enter Try.func16, Try.ntmps16
  go_wp2
  go_loop [4] (fun i => ∃ b : Nat, 1 ≤ b ∧ b ≤ 256 ∧ i = .int .i64 (b : Int)) (fun i => 256 - (intOf i).toNat)
  case atStart => exact ⟨1, by omega, by omega, rfl⟩
  case round =>
    obtain ⟨b, h1, h2, rfl⟩ := hrel
    by_cases hlt : b < 256
    · have hw := u8_wrap b hlt
      have hm := fun w => rmul_any 0 b w (by decide) hlt
      rw [gm_zero_left hlt] at hm
      have HM := Lib.hid hm
      clear hm
      go_wp2_with (go_at_call 13; refine (HM.out _).mono ?_; rintro e w' ⟨rfl, rfl⟩)
      go_round
      case rel => exact ⟨b + 1, by omega, by omega, by go_num⟩
      case measure => simp [intOf]; omega
    · go_wp2
      go_ret2
      exact ⟨rfl, rfl⟩
set_option maxRecDepth 100000 in
set_option maxHeartbeats 800000 in
theorem rinv_pos (a : Nat) (w : World) (ha : a < 256) (h0 : a ≠ 0) : Calls Try.prog 16 #[.int .u8 (a : Int)] w fun e w' => e = Two (iv a : Nat) 0 ∧ w = w' := by
  have hi := gm_iv ha h0
  have hi0 : iv a ≠ 0 := ex_ne _
  have hi2 := iv_lt a
  have HI := Lib.hid hi
  clear hi
  go_enter Try.func16, Try.ntmps16
  go_wp2
  go_loop [4] (fun i => ∃ b : Nat, 1 ≤ b ∧ b ≤ iv a ∧ i = .int .i64 (b : Int)) (fun i => 256 - (intOf i).toNat)
  case atStart => exact ⟨1, by omega, by omega, rfl⟩
  case round =>
    obtain ⟨b, h1, h2, rfl⟩ := hrel
    have hlt : b < 256 := by omega
    have hm := fun w => rmul_any a b w ha hlt
    by_cases hb : b = iv a
    · have hg : gm a b = 1 := by rw [hb, HI.out]
      rw [hg] at hm
      have HM := Lib.hid hm
      have HB := Lib.hid hb
      clear hm hg hb
      go_wp2_with (go_at_call 13; refine (HM.out _).mono ?_; rintro e w' ⟨rfl, rfl⟩)
      go_ret2
      exact ⟨by rw [← HB.out]; rfl, rfl⟩
    · have hg : gm a b ≠ 1 := fun h => hb (iv_unique ha hlt h)
      have ht : (((gm a b : Nat) : Int) == 1) = false := beq_false_of_ne (by omega)
      generalize gm a b = z at hm ht
      have HM := Lib.hid hm
      clear hm hg
      go_wp2_with (go_at_call 13; refine (HM.out _).mono ?_; rintro e w' ⟨rfl, rfl⟩)
      go_round
      case rel => exact ⟨b + 1, by omega, by omega, by go_num⟩
      case measure => simp [intOf]; omega
/-- Inv and Div, as pairs. -/
def invOf (a : Nat) : Ending := if a = 0 then Two 0 1 else Two (iv a : Nat) 0
theorem rinv_any (a : Nat) (w : World) (ha : a < 256) : Calls Try.prog 16 #[.int .u8 (a : Int)] w fun e w' => e = invOf a ∧ w = w' := by
  by_cases h : a = 0
  · subst h
    exact rinv_zero w
  · unfold invOf
    rw [if_neg h]
    exact rinv_pos a w ha h
def divOf (a b : Nat) : Ending := if b = 0 then Two 0 1 else Two (gm a (iv b) : Nat) 0
set_option maxRecDepth 100000 in
set_option maxHeartbeats 800000 in
theorem rdiv_any (a b : Nat) (w : World) (ha : a < 256) (hb : b < 256) : Calls Try.prog 18 #[.int .u8 (a : Int), .int .u8 (b : Int)] w fun e w' => e = divOf a b ∧ w = w' := by
  unfold divOf
  by_cases h : b = 0
  · subst h
    rw [if_pos rfl]
    go_enter Try.func18, Try.ntmps18
    go_wp2_with (go_at_call 16; refine (rinv_zero _).mono ?_; rintro e w' ⟨rfl, rfl⟩; unfold Two)
    go_ret2
    exact ⟨rfl, rfl⟩
  · rw [if_neg h]
    have hm := fun w => rmul_any a (iv b) w ha (iv_lt b)
    have hi := fun w => rinv_pos b w hb h
    generalize iv b = x at hm hi
    generalize gm a x = y at hm
    have HM := Lib.hid hm
    have HI := Lib.hid hi
    clear hm hi h
    go_enter Try.func18, Try.ntmps18
    go_wp2_with (first | (go_at_call 16; refine (HI.out _).mono ?_; rintro e w' ⟨rfl, rfl⟩; unfold Two) | (go_at_call 13; refine (HM.out _).mono ?_; rintro e w' ⟨rfl, rfl⟩))
    go_ret2
    exact ⟨rfl, rfl⟩

/-- The n-th power of 2, for whatever n. -/
def exi (n : Int) : Nat := ex (n % 255).toNat
theorem exi_lt (n : Int) : exi n < 256 := ex_lt _
theorem exi_nat (n : Nat) : exi (n : Int) = ex n := by
  unfold exi
  rw [show ((n : Int) % 255).toNat = n % 255 by omega, ex_mod]
set_option maxRecDepth 100000 in
set_option maxHeartbeats 800000 in
/-- The loop of Exp. -/
theorem rexp_any (n : Int) (w : World) (h1 : -9223372036854775808 ≤ n) (h2 : n < 9223372036854775808) : Calls Try.prog 22 #[.int .i64 n] w fun e w' => e = .returned (.int .u8 ((exi n : Nat) : Int)) ∧ w = w' := by
  obtain ⟨m, hm, hml⟩ : ∃ m : Nat, (n % 255).toNat = m ∧ m < 255 := ⟨_, rfl, by omega⟩
  have hE : exi n = ex m := by unfold exi; rw [hm]
  rw [hE]
  have HE := Lib.hid hE
  have mulx := fun (k : Nat) (w : World) => rmul_any (ex k) 2 w (ex_lt k) (by decide)
  have MX := Lib.hid mulx
  clear hE mulx
  obtain ⟨t, ht⟩ : ∃ t, n.tmod 255 = t := ⟨_, rfl⟩
  have htm : (t < 0 ∧ t + 255 = (m : Int)) ∨ (0 ≤ t ∧ t = (m : Int)) := by
    rw [← ht]
    rcases Int.lt_or_le n 0 with h | h
    · have e : n.tmod 255 = -((-n) % 255) := by
        rw [show n = -(-n) by omega, Int.neg_tmod, Int.tmod_eq_emod_of_nonneg (by omega)]
        simp
      rw [e]
      omega
    · rw [Int.tmod_eq_emod_of_nonneg h]
      omega
  clear hm
  rcases htm with ⟨h3, h4⟩ | ⟨h3, h4⟩
  · go_enter Try.func22, Try.ntmps22
    go_wp2
    have H4 := Lib.hid h4
    have HT := Lib.hid ht
    clear h4 ht h3
    go_loop [3, 4] (fun o i => ∃ k : Nat, k ≤ m ∧ i = .int .i64 (k : Int) ∧ o = .int .u8 ((ex k : Nat) : Int)) (fun _ i => m - (intOf i).toNat)
    case atStart => exact ⟨0, by omega, rfl, rfl⟩
    case round =>
      obtain ⟨k, hk, rfl, rfl⟩ := hrel
      by_cases hlt : k < m
      · have hx := MX.out k
        have hs : ex (k + 1) = gm (ex k) 2 := by rw [gm_two (ex_lt k)]; rfl
        generalize gm (ex k) 2 = y at hx hs
        generalize ex k = z at hx ⊢
        have HX := Lib.hid hx
        have HS := Lib.hid hs
        clear hx hs
        go_wp2_with (go_at_call 13; refine (HX.out _).mono ?_; rintro e w' ⟨rfl, rfl⟩)
        go_round
        case rel => exact ⟨k + 1, by omega, by go_num, by rw [HS.out]⟩
        case measure => simp [intOf]; omega
      · have hkm : k = m := by omega
        subst hkm
        go_wp2
        go_ret
        exact ⟨rfl, rfl⟩
  · subst h4
    go_enter Try.func22, Try.ntmps22
    go_wp2
    have HT := Lib.hid ht
    clear ht h3
    go_loop [3, 4] (fun o i => ∃ k : Nat, k ≤ m ∧ i = .int .i64 (k : Int) ∧ o = .int .u8 ((ex k : Nat) : Int)) (fun _ i => m - (intOf i).toNat)
    case atStart => exact ⟨0, by omega, rfl, rfl⟩
    case round =>
      obtain ⟨k, hk, rfl, rfl⟩ := hrel
      by_cases hlt : k < m
      · have hx := MX.out k
        have hs : ex (k + 1) = gm (ex k) 2 := by rw [gm_two (ex_lt k)]; rfl
        generalize gm (ex k) 2 = y at hx hs
        generalize ex k = z at hx ⊢
        have HX := Lib.hid hx
        have HS := Lib.hid hs
        clear hx hs
        go_wp2_with (go_at_call 13; refine (HX.out _).mono ?_; rintro e w' ⟨rfl, rfl⟩)
        go_round
        case rel => exact ⟨k + 1, by omega, by go_num, by rw [HS.out]⟩
        case measure => simp [intOf]; omega
      · have hkm : k = m := by omega
        subst hkm
        go_wp2
        go_ret
        exact ⟨rfl, rfl⟩
/-- The logarithm, as a pair. -/
def logOf (a : Nat) : Ending := if a = 0 then TwoI 0 1 else TwoI (lg a : Nat) 0
set_option maxRecDepth 100000 in
set_option maxHeartbeats 800000 in
theorem rlog_any (a : Nat) (w : World) (ha : a < 256) : Calls Try.prog 20 #[.int .u8 (a : Int)] w fun e w' => e = logOf a ∧ w = w' := by
  have mulx := fun (k : Nat) (w : World) => rmul_any (ex k) 2 w (ex_lt k) (by decide)
  have MX := Lib.hid mulx
  obtain ⟨m, hm1, hm2⟩ : ∃ m, m ≤ 255 ∧ ((a = 0 ∧ m = 255) ∨ (a ≠ 0 ∧ m < 255 ∧ m = lg a)) := by
    by_cases h : a = 0
    · exact ⟨255, by omega, Or.inl ⟨h, rfl⟩⟩
    · exact ⟨lg a, by have := lg_lt ha h; omega, Or.inr ⟨h, lg_lt ha h, rfl⟩⟩
  have hne : ∀ k, k < m → ex k ≠ a := fun k hk h => by
    rcases hm2 with ⟨h0, _⟩ | ⟨h0, h1, h2⟩
    · exact ex_ne k (h.trans h0)
    · have := lg_ex (n := k) (by omega)
      rw [h] at this
      omega
  have HM := Lib.hid hm2
  have HN := Lib.hid hne
  clear mulx hm2 hne
  go_enter Try.func20, Try.ntmps20
  go_wp2
  go_loop [4, 5] (fun p i => ∃ k : Nat, k ≤ m ∧ i = .int .i64 (k : Int) ∧ p = .int .u8 ((ex k : Nat) : Int)) (fun _ i => m - (intOf i).toNat)
  case atStart => exact ⟨0, by omega, rfl, rfl⟩
  case round =>
    obtain ⟨k, hk, rfl, rfl⟩ := hrel
    by_cases hlt : k < m
    · have hx := MX.out k
      have hs : ex (k + 1) = gm (ex k) 2 := by rw [gm_two (ex_lt k)]; rfl
      have hq := HN.out k hlt
      have hd : (((ex k : Nat) : Int) == (a : Int)) = false := beq_false_of_ne (by omega)
      generalize gm (ex k) 2 = y at hx hs
      generalize ex k = z at hx hd ⊢
      have HX := Lib.hid hx
      have HS := Lib.hid hs
      clear hx hs hq
      go_wp2_with (go_at_call 13; refine (HX.out _).mono ?_; rintro e w' ⟨rfl, rfl⟩)
      go_round
      case rel => exact ⟨k + 1, by omega, by go_num, by rw [HS.out]⟩
      case measure => simp [intOf]; omega
    · have hkm : k = m := by omega
      subst hkm
      rcases HM.out with ⟨h0, h1⟩ | ⟨h0, h1, h2⟩
      · have H0 := Lib.hid h0
        have H1 := Lib.hid h1
        have hlt' : ¬ k < 255 := by omega
        clear h0 h1 HM HN hlt
        go_wp2
        go_ret2
        exact ⟨by rw [H0.out]; rfl, rfl⟩
      · have he : ex k = a := by rw [h2, ex_lg ha h0]
        rw [he]
        have H0 := Lib.hid h0
        have H2 := Lib.hid h2
        clear h0 h2 he HM HN hlt
        go_wp2
        go_ret2
        exact ⟨by unfold logOf; rw [if_neg H0.out, ← H2.out]; rfl, rfl⟩
/-- The n-th power of a. -/
def pw (a : Nat) (n : Int) : Nat := if n = 0 then 1 else if a = 0 then 0 else exi ((lg a : Int) * n)
theorem exi_mul_mod (x : Nat) (n : Int) : exi ((x : Int) * n.tmod 255) = exi ((x : Int) * n) := by
  unfold exi
  congr 1
  have h : n = 255 * (n.tdiv 255) + n.tmod 255 := (Int.mul_tdiv_add_tmod n 255).symm
  have : ((x : Int) * n) % 255 = ((x : Int) * n.tmod 255) % 255 := by
    conv => lhs; rw [h, Int.mul_add, ← Int.mul_assoc, Int.mul_comm (x : Int) 255, Int.mul_assoc, Int.mul_add_emod_self_left]
  rw [this]
set_option maxRecDepth 100000 in
set_option maxHeartbeats 800000 in
theorem rpow_any (a : Nat) (n : Int) (w : World) (ha : a < 256) (h1 : -9223372036854775808 ≤ n) (h2 : n < 9223372036854775808) : Calls Try.prog 24 #[.int .u8 (a : Int), .int .i64 n] w fun e w' => e = .returned (.int .u8 ((pw a n : Nat) : Int)) ∧ w = w' := by
  unfold pw
  by_cases hn : n = 0
  · subst hn
    rw [if_pos rfl]
    go_enter Try.func24, Try.ntmps24
    go_wp2
    go_ret
    exact ⟨rfl, rfl⟩
  · rw [if_neg hn]
    have hn' : (n == 0) = false := beq_false_of_ne hn
    by_cases h0 : a = 0
    · subst h0
      rw [if_pos rfl]
      clear hn
      go_enter Try.func24, Try.ntmps24
      go_wp2
      go_ret
      exact ⟨rfl, rfl⟩
    · rw [if_neg h0, ← exi_mul_mod]
      have h0' : ((a : Int) == 0) = false := beq_false_of_ne (by omega)
      have hl := fun w => rlog_any a w ha
      unfold logOf at hl
      rw [if_neg h0] at hl
      have hll := lg_lt ha h0
      have ht1 : -255 < n.tmod 255 ∧ n.tmod 255 < 255 := ⟨Int.lt_tmod_of_pos n (by decide), Int.tmod_lt_of_pos n (by decide)⟩
      generalize lg a = L at hl hll ⊢
      have hp : -(255 * 255) ≤ (L : Int) * n.tmod 255 ∧ (L : Int) * n.tmod 255 ≤ 255 * 255 := by
        generalize n.tmod 255 = t at ht1
        constructor
        · have := Int.mul_le_mul_of_nonneg_left (show -255 ≤ t by omega) (show (0 : Int) ≤ (L : Int) by omega)
          omega
        · have := Int.mul_le_mul_of_nonneg_left (show t ≤ 255 by omega) (show (0 : Int) ≤ (L : Int) by omega)
          omega
      have he := fun w => rexp_any ((L : Int) * n.tmod 255) w (by omega) (by omega)
      have hw : IntKind.i64.wrap ((L : Int) * n.tmod 255) = (L : Int) * n.tmod 255 := by rw [IntKind.wrap_i64]; omega
      have hw' : wrap64 ((L : Int) * n.tmod 255) = (L : Int) * n.tmod 255 := by unfold wrap64; omega
      obtain ⟨X, hX⟩ : ∃ X, (L : Int) * n.tmod 255 = X := ⟨_, rfl⟩
      rw [hX] at he hw hw' ⊢
      have HL := Lib.hid hl
      have HE := Lib.hid he
      have HW := Lib.hid hw
      have HW' := Lib.hid hw'
      clear hl he hw hw' hn h0 hp ht1
      go_enter Try.func24, Try.ntmps24
      go_wp2_with (first | (go_at_call 20; refine (HL.out _).mono ?_; rintro e w' ⟨rfl, rfl⟩; unfold TwoI) | (go_at_call 22; rw [HW'.out]; refine (HE.out _).mono ?_; rintro e w' ⟨rfl, rfl⟩))
      go_ret
      exact ⟨rfl, rfl⟩
end Go.Proofs.Ytkmmpfmemjnbmaa.Gf
