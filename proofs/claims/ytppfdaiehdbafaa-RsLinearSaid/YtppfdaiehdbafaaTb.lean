/- What is proved here: the contracts of the program's twice, remainder, Mul and tables (the powers of 2 and the logarithms, as two arrays). No condition. -/
import Derived.Test.YtppfdaiehdbafaaAr
import Derived.Test.YtppfdaiehdbafaaQ2
import Derived.Test.YtppfdaiehdbafaaBy
namespace Go.Proofs.Ytppfdaiehdbafaa.Gf
open Go Go.ChangeShapes Go.WideShapes Go.ChangeAt Go.RowKit Go.Proofs.Ytppfdaiehdbafaa.By

theorem size42 : (Try.prog.info? 96).map (·.size) = some 255 := by kernel_rfl
theorem size43 : (Try.prog.info? 97).map (·.size) = some 256 := by kernel_rfl
def lgz (a : Nat) : Nat := if a = 0 then 0 else lg a
def PA : Array Value := AV .u8 255 ex
def LA : Array Value := AV .u8 256 lgz
theorem xt_small : ∀ a, a < 128 → xt a = 2 * a := by decide +kernel
theorem xt_big : ∀ a, a < 256 → 128 ≤ a → xt a = (2 * a % 256) ^^^ 29 := by decide +kernel
set_option maxRecDepth 100000 in
theorem twice_any (a : Nat) (w : World) (ha : a < 256) : Calls Try.prog 68 #[.int .u8 (a : Int)] w fun e w' => e = .returned (.int .u8 ((xt a : Nat) : Int)) ∧ w = w' := by
  by_cases h : a < 128
  · have hx := xt_small a h
    generalize xt a = x at hx
    have HX := Lib.hid hx
    clear hx
    go_enter Try.func68, Try.ntmps68
    go_wp2
    go_ret
    exact ⟨ret_int (by rw [HX.out]; go_num), rfl⟩
  · have hx := xt_big a ha (by omega)
    have h2 : 2 * a % 256 < 256 := by omega
    obtain ⟨d, hd⟩ : ∃ d, d = 2 * a % 256 := ⟨_, rfl⟩
    have hb := u8_xor_nat d 29 (by omega) (by decide)
    have hd2 : (a : Int) * 2 % 256 = (d : Int) := by omega
    rw [← hd] at hx
    generalize xt a = x at hx
    have HX := Lib.hid hx
    have HD := Lib.hid hd2
    have HB := Lib.hid hb
    clear hx hd2 hb
    go_enter Try.func68, Try.ntmps68
    go_wp2
    go_ret
    exact ⟨ret_int (by rw [HX.out, HD.out]; exact HB.out), rfl⟩
theorem tmod_facts (n : Int) : -255 < n.tmod 255 ∧ n.tmod 255 < 255 ∧ (n.tmod 255) % 255 = n % 255 := by
  rcases Int.lt_or_le n 0 with h | h
  · have e : n.tmod 255 = -((-n) % 255) := by
      rw [show n = -(-n) by omega, Int.neg_tmod, Int.tmod_eq_emod_of_nonneg (by omega)]
      simp
    rw [e]
    omega
  · rw [Int.tmod_eq_emod_of_nonneg h]
    omega
/-- The remainder from 0 to 254. -/
def rm (n : Int) : Nat := (n % 255).toNat
theorem rm_lt (n : Int) : rm n < 255 := by unfold rm; omega
set_option maxRecDepth 100000 in
theorem rem_any (n : Int) (w : World) (_h1 : -9223372036854775808 ≤ n) (_h2 : n < 9223372036854775808) : Calls Try.prog 70 #[.int .i64 n] w fun e w' => e = .returned (.int .i64 ((rm n : Nat) : Int)) ∧ w = w' := by
  obtain ⟨t, ht, t1, t2, t3⟩ : ∃ t, n.tmod 255 = t ∧ -255 < t ∧ t < 255 ∧ t % 255 = n % 255 := ⟨_, rfl, (tmod_facts n).1, (tmod_facts n).2.1, (tmod_facts n).2.2⟩
  have hm : ((rm n : Nat) : Int) = t % 255 := by unfold rm; omega
  generalize rm n = m at hm
  have HM := Lib.hid hm
  clear hm t3
  by_cases h : t < 0
  · go_enter Try.func70, Try.ntmps70
    go_wp2
    go_ret
    exact ⟨ret_int (by rw [HM.out]; omega), rfl⟩
  · go_enter Try.func70, Try.ntmps70
    go_wp2
    go_ret
    exact ⟨ret_int (by rw [HM.out]; omega), rfl⟩

theorem gm_half {a b : Nat} (ha : a < 256) (hb : b < 256) : gm a b = (if b % 2 = 1 then a else 0) ^^^ gm (xt a) (b / 2) := by
  have h1 : b = (b % 2) ^^^ (2 * (b / 2)) := by
    have : ∀ b, b < 256 → b = (b % 2) ^^^ (2 * (b / 2)) := by decide +kernel
    exact this b hb
  have h2 : gm (b / 2) 2 = 2 * (b / 2) := by rw [gm_two (by omega), xt_small _ (by omega)]
  have h3 : gm a (2 * (b / 2)) = gm (xt a) (b / 2) := by
    rw [← h2, gm_comm (show b / 2 < 256 by omega) (by decide), ← gm_assoc ha (by decide) (by omega), gm_two ha]
  have h4 : gm a b = gm a ((b % 2) ^^^ (2 * (b / 2))) := by rw [← h1]
  rw [h4, gm_right, h3]
  rcases Nat.mod_two_eq_zero_or_one b with e | e
  · rw [e, gm_zero_right]; rfl
  · rw [e, gm_one ha]; rfl
set_option maxRecDepth 100000 in
set_option maxHeartbeats 800000 in
theorem mul_any (a b : Nat) (w : World) (ha : a < 256) (hb : b < 256) : Calls Try.prog 63 #[.int .u8 (a : Int), .int .u8 (b : Int)] w fun e w' => e = .returned (.int .u8 ((gm a b : Nat) : Int)) ∧ w = w' := by
  obtain ⟨g, hg⟩ : ∃ g, g = gm a b := ⟨_, rfl⟩
  rw [← hg]
  go_enter Try.func63, Try.ntmps63
  go_wp2
  go_loop [0, 1, 5] (fun x y p => ∃ A B P : Nat, A < 256 ∧ B < 256 ∧ P < 256 ∧ g = P ^^^ gm A B ∧ x = .int .u8 (A : Int) ∧ y = .int .u8 (B : Int) ∧ p = .int .u8 (P : Int)) (fun _ y _ => (intOf y).toNat)
  case atStart => exact ⟨a, b, 0, ha, hb, by omega, by rw [hg, Nat.zero_xor], rfl, rfl, rfl⟩
  case round =>
    obtain ⟨A, B, P, hA, hB, hP, h, rfl, rfl, rfl⟩ := hrel
    by_cases h0 : B = 0
    · subst h0
      rw [gm_zero_right, Nat.xor_zero] at h
      have H := Lib.hid h
      clear h
      go_wp2
      go_ret
      exact ⟨ret_int (by rw [← H.out, hg]), rfl⟩
    · rw [gm_half hA hB] at h
      have hx := fun w => twice_any A w hA
      have hxl := xt_lt hA
      have a1 := u8_and1 B hB
      have hne : ((B : Int) != 0) = true := by rw [bne_iff_ne]; omega
      rcases Nat.mod_two_eq_zero_or_one B with e | e
      · rw [e] at a1
        rw [if_neg (by omega), Nat.zero_xor] at h
        generalize xt A = X at hx hxl h
        have HX := Lib.hid hx
        have H := Lib.hid h
        clear hx h e
        go_wp2_with (go_at_call 68; refine (HX.out _).mono ?_; rintro e w' ⟨rfl, rfl⟩)
        go_round
        case rel => exact ⟨X, B / 2, P, hxl, by omega, hP, H.out, rfl, by go_num, rfl⟩
        case measure => simp [intOf]; omega
      · rw [e] at a1
        rw [if_pos e, ← Nat.xor_assoc] at h
        have y1 := u8_xor_nat P A hP hA
        have y2 := xor_lt hP hA
        generalize xt A = X at hx hxl h
        generalize P ^^^ A = Z at y1 y2 h
        have HX := Lib.hid hx
        have H := Lib.hid h
        clear hx h e
        go_wp2_with (go_at_call 68; refine (HX.out _).mono ?_; rintro e w' ⟨rfl, rfl⟩)
        go_round
        case rel => exact ⟨X, B / 2, Z, hxl, by omega, y2, H.out, rfl, by go_num, rfl⟩
        case measure => simp [intOf]; omega
end Go.Proofs.Ytppfdaiehdbafaa.Gf
