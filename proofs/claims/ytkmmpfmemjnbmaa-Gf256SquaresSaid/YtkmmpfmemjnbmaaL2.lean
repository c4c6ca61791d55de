/- What is proved here: the walks of the laws of layer 2, over whatever contracts the program's functions keep (PC). -/
import Derived.Test.YtkmmpfmemjnbmaaR2b
namespace Go.Proofs.Ytkmmpfmemjnbmaa.Gf
open Go Go.ChangeShapes Go.WideShapes Go.ChangeAt Go.RowKit Go.Proofs.Ytkmmpfmemjnbmaa.By

theorem bt {w w1 w2 : World} (h : Below w.heap.size w w1) (h2 : Below w1.heap.size w1 w2) : Below w.heap.size w w2 := h.trans (h2.mono h.size)
/-- What the program's functions keep; Ok: what they ask of the world. -/
structure PC (Ok : World → Prop) : Prop where
  st : ∀ w w' : World, Ok w → Below w.heap.size w w' → Ok w'
  add : ∀ (a b : Nat) (w : World), a < 256 → b < 256 → Ok w → Calls Try.prog 11 #[.int .u8 (a : Int), .int .u8 (b : Int)] w fun e w' => e = .returned (.int .u8 ((a ^^^ b : Nat) : Int)) ∧ Below w.heap.size w w'
  mul : ∀ (a b : Nat) (w : World), a < 256 → b < 256 → Ok w → Calls Try.prog 12 #[.int .u8 (a : Int), .int .u8 (b : Int)] w fun e w' => e = .returned (.int .u8 ((gm a b : Nat) : Int)) ∧ Below w.heap.size w w'
  inv : ∀ (a : Nat) (w : World), a < 256 → Ok w → Calls Try.prog 15 #[.int .u8 (a : Int)] w fun e w' => e = invOf a ∧ Below w.heap.size w w'
  div : ∀ (a b : Nat) (w : World), a < 256 → b < 256 → Ok w → Calls Try.prog 17 #[.int .u8 (a : Int), .int .u8 (b : Int)] w fun e w' => e = divOf a b ∧ Below w.heap.size w w'
  exp : ∀ (n : Int) (w : World), -9223372036854775808 ≤ n → n < 9223372036854775808 → Ok w → Calls Try.prog 21 #[.int .i64 n] w fun e w' => e = .returned (.int .u8 ((exi n : Nat) : Int)) ∧ Below w.heap.size w w'
  log : ∀ (a : Nat) (w : World), a < 256 → Ok w → Calls Try.prog 19 #[.int .u8 (a : Int)] w fun e w' => e = logOf a ∧ Below w.heap.size w w'
  pow : ∀ (a : Nat) (n : Int) (w : World), a < 256 → -9223372036854775808 ≤ n → n < 9223372036854775808 → Ok w → Calls Try.prog 23 #[.int .u8 (a : Int), .int .i64 n] w fun e w' => e = .returned (.int .u8 ((pw a n : Nat) : Int)) ∧ Below w.heap.size w w'
  ma : ∀ (v1 v2 : Value) (d s : List Nat) (c : Nat) (w : World), Sl w v1 d → Sl w v2 s → d.length ≤ 2000 → s.length ≤ 2000 → c < 256 → Ok w → Calls Try.prog 25 #[v1, v2, .int .u8 (c : Int)] w (MaPost c d s w)
theorem inv_form (a : Nat) : ∃ x e : Int, invOf a = .returned (.tuple #[.int .u8 x, .int .i64 e]) := by
  unfold invOf Two
  split <;> exact ⟨_, _, rfl⟩
theorem div_form (a b : Nat) : ∃ x e : Int, divOf a b = .returned (.tuple #[.int .u8 x, .int .i64 e]) := by
  unfold divOf Two
  split <;> exact ⟨_, _, rfl⟩
theorem log_form (a : Nat) : ∃ x e : Int, logOf a = .returned (.tuple #[.int .i64 x, .int .i64 e]) := by
  unfold logOf TwoI
  split <;> exact ⟨_, _, rfl⟩
theorem pw_lt (a : Nat) (n : Int) : pw a n < 256 := by
  unfold pw
  split
  · decide
  · split
    · decide
    · exact exi_lt _
theorem u8_nat {n : Int} (h : (Lit.int .u8 n).wf = true) : ∃ x : Nat, n = x ∧ x < 256 := by
  simp [Lit.wf, IntKind.min, IntKind.max, IntKind.signed, IntKind.bits] at h
  exact ⟨n.toNat, by omega, by omega⟩
theorem i64_bounds {n : Int} (h : (Lit.int .i64 n).wf = true) : -9223372036854775808 ≤ n ∧ n < 9223372036854775808 := by
  simp [Lit.wf, IntKind.min, IntKind.max, IntKind.signed, IntKind.bits] at h
  omega
theorem i32_bounds {n : Int} (h : (Lit.int .i32 n).wf = true) : -2147483648 ≤ n ∧ n < 2147483648 := by
  simp [Lit.wf, IntKind.min, IntKind.max, IntKind.signed, IntKind.bits] at h
  omega
set_option maxRecDepth 100000 in
set_option maxHeartbeats 1600000 in
theorem awake_any {Ok : World → Prop} (P : PC Ok) (w : World) (ok : Ok w) : Calls Try.prog 14 #[] w fun e w' => e = .returned (.bool true) ∧ Below w.heap.size w w' := by
  have HO := Lib.hid ok
  have HI : Hid (∀ w, Ok w → Calls Try.prog 15 #[.int .u8 0] w fun e w' => e = .returned (.tuple #[.int .u8 0, .int .i64 1]) ∧ Below w.heap.size w w') := fun w ok => P.inv 0 w (by decide) ok
  have HM : Hid (∀ w, Ok w → Calls Try.prog 12 #[.int .u8 128, .int .u8 2] w fun e w' => e = .returned (.int .u8 29) ∧ Below w.heap.size w w') := fun w ok => P.mul 128 2 w (by decide) (by decide) ok
  have H8 : Hid (∀ w, Ok w → Calls Try.prog 21 #[.int .i64 8] w fun e w' => e = .returned (.int .u8 29) ∧ Below w.heap.size w w') := fun w ok => P.exp 8 w (by decide) (by decide) ok
  have H255 : Hid (∀ w, Ok w → Calls Try.prog 21 #[.int .i64 255] w fun e w' => e = .returned (.int .u8 1) ∧ Below w.heap.size w w') := fun w ok => P.exp 255 w (by decide) (by decide) ok
  have Hm : Hid (∀ w, Ok w → Calls Try.prog 21 #[.int .i64 (-1)] w fun e w' => e = .returned (.int .u8 142) ∧ Below w.heap.size w w') := fun w ok => by
    have h := P.exp (-1) w (by decide) (by decide) ok
    rw [show exi (-1) = 142 by decide +kernel] at h
    exact h
  clear ok
  go_enter Try.func14, Try.ntmps14
  go_wp2_with fail
  refine (HI.out w HO.out).mono ?_
  rintro e w1 ⟨rfl, h1⟩
  have b1 := h1
  clear h1
  go_wp2_with fail
  refine (HM.out w1 (P.st _ _ HO.out b1)).mono ?_
  rintro e w2 ⟨rfl, h2⟩
  have b2 := bt b1 h2
  clear h2
  go_wp2_with fail
  refine (H8.out w2 (P.st _ _ HO.out b2)).mono ?_
  rintro e w3 ⟨rfl, h3⟩
  have b3 := bt b2 h3
  clear h3
  go_wp2_with fail
  refine (H255.out w3 (P.st _ _ HO.out b3)).mono ?_
  rintro e w4 ⟨rfl, h4⟩
  have b4 := bt b3 h4
  clear h4
  go_wp2_with fail
  refine (Hm.out w4 (P.st _ _ HO.out b4)).mono ?_
  rintro e w5 ⟨rfl, h5⟩
  have b5 := bt b4 h5
  clear h5
  go_wp2_with fail
  go_ret
  exact ⟨rfl, b5⟩
set_option maxRecDepth 100000 in
set_option maxHeartbeats 1600000 in
theorem products_walk {Ok : World → Prop} (P : PC Ok) (a b : Nat) (ha : a < 256) (hb : b < 256) (w : World) (ok : Ok w) : Calls Try.prog 3 #[.int .u8 (a : Int), .int .u8 (b : Int)] w fun e w' => e = .returned (.bool true) ∧ Below w.heap.size w w' := by
  have HO := Lib.hid ok
  have x1 := u8_xor_nat a b ha hb
  have a1 := fun w ok => P.add a b w ha hb ok
  have m1 := fun w ok => P.mul a b w ha hb ok
  have m2 := fun w => rmul_any a b w ha hb
  generalize a ^^^ b = s at x1 a1
  generalize gm a b = p at m1 m2
  have A1 := Lib.hid a1
  have M1 := Lib.hid m1
  have M2 := Lib.hid m2
  clear ok a1 m1 m2
  go_enter Try.func3, Try.ntmps3
  go_wp2_with fail
  refine (A1.out w HO.out).mono ?_
  rintro e w1 ⟨rfl, h1⟩
  have b1 := h1
  clear h1
  go_wp2_with fail
  refine (M1.out w1 (P.st _ _ HO.out b1)).mono ?_
  rintro e w2 ⟨rfl, h2⟩
  have b2 := bt b1 h2
  clear h2
  go_wp2_with fail
  refine (M2.out w2).mono ?_
  rintro e w' ⟨rfl, rfl⟩
  go_wp2_with fail
  refine (awake_any P w2 (P.st _ _ HO.out b2)).mono ?_
  rintro e w3 ⟨rfl, h3⟩
  have b3 := bt b2 h3
  clear h3
  go_wp2_with fail
  go_ret
  exact ⟨rfl, b3⟩
set_option maxRecDepth 100000 in
set_option maxHeartbeats 1600000 in
theorem quotients_walk {Ok : World → Prop} (P : PC Ok) (a b : Nat) (ha : a < 256) (hb : b < 256) (w : World) (ok : Ok w) : Calls Try.prog 4 #[.int .u8 (a : Int), .int .u8 (b : Int)] w fun e w' => e = .returned (.bool true) ∧ Below w.heap.size w w' := by
  have HO := Lib.hid ok
  have i1 := fun w ok => P.inv a w ha ok
  have i2 := fun w => rinv_any a w ha
  have d1 := fun w ok => P.div a b w ha hb ok
  have d2 := fun w => rdiv_any a b w ha hb
  obtain ⟨x, e, hx⟩ := inv_form a
  obtain ⟨y, f, hy⟩ := div_form a b
  rw [hx] at i1 i2
  rw [hy] at d1 d2
  have I1 := Lib.hid i1
  have I2 := Lib.hid i2
  have D1 := Lib.hid d1
  have D2 := Lib.hid d2
  clear ok i1 i2 d1 d2 hx hy
  go_enter Try.func4, Try.ntmps4
  go_wp2_with fail
  refine (I1.out w HO.out).mono ?_
  rintro e w1 ⟨rfl, h1⟩
  have b1 := h1
  clear h1
  go_wp2_with fail
  refine (I2.out w1).mono ?_
  rintro e w' ⟨rfl, rfl⟩
  go_wp2_with fail
  refine (D1.out w1 (P.st _ _ HO.out b1)).mono ?_
  rintro e w2 ⟨rfl, h2⟩
  have b2 := bt b1 h2
  clear h2
  go_wp2_with fail
  refine (D2.out w2).mono ?_
  rintro e w' ⟨rfl, rfl⟩
  go_wp2_with fail
  refine (awake_any P w2 (P.st _ _ HO.out b2)).mono ?_
  rintro e w3 ⟨rfl, h3⟩
  have b3 := bt b2 h3
  clear h3
  go_wp2_with fail
  go_ret
  exact ⟨rfl, b3⟩
set_option maxRecDepth 100000 in
set_option maxHeartbeats 1600000 in
theorem powers_walk {Ok : World → Prop} (P : PC Ok) (a : Nat) (ha : a < 256) (n : Int) (h1 : -9223372036854775808 ≤ n) (h2 : n < 9223372036854775808) (w : World) (ok : Ok w) : Calls Try.prog 5 #[.int .u8 (a : Int), .int .i64 n] w fun e w' => e = .returned (.bool true) ∧ Below w.heap.size w w' := by
  have HO := Lib.hid ok
  have l1 := fun w ok => P.log a w ha ok
  have l2 := fun w => rlog_any a w ha
  have e1 := fun w ok => P.exp n w h1 h2 ok
  have e2 := fun w => rexp_any n w h1 h2
  have p1 := fun w ok => P.pow a n w ha h1 h2 ok
  have p2 := fun w => rpow_any a n w ha h1 h2
  obtain ⟨x, e, hx⟩ := log_form a
  rw [hx] at l1 l2
  generalize exi n = y at e1 e2
  generalize pw a n = z at p1 p2
  have L1 := Lib.hid l1
  have L2 := Lib.hid l2
  have E1 := Lib.hid e1
  have E2 := Lib.hid e2
  have W1 := Lib.hid p1
  have W2 := Lib.hid p2
  clear ok l1 l2 e1 e2 p1 p2 hx h1 h2
  go_enter Try.func5, Try.ntmps5
  go_wp2_with fail
  refine (L1.out w HO.out).mono ?_
  rintro e w1 ⟨rfl, h1⟩
  have b1 := h1
  clear h1
  go_wp2_with fail
  refine (L2.out w1).mono ?_
  rintro e w' ⟨rfl, rfl⟩
  go_wp2_with fail
  refine (E1.out w1 (P.st _ _ HO.out b1)).mono ?_
  rintro e w2 ⟨rfl, h2⟩
  have b2 := bt b1 h2
  clear h2
  go_wp2_with fail
  refine (E2.out w2).mono ?_
  rintro e w' ⟨rfl, rfl⟩
  go_wp2_with fail
  refine (W1.out w2 (P.st _ _ HO.out b2)).mono ?_
  rintro e w3 ⟨rfl, h3⟩
  have b3 := bt b2 h3
  clear h3
  go_wp2_with fail
  refine (W2.out w3).mono ?_
  rintro e w' ⟨rfl, rfl⟩
  go_wp2_with fail
  refine (awake_any P w3 (P.st _ _ HO.out b3)).mono ?_
  rintro e w4 ⟨rfl, h4⟩
  have b4 := bt b3 h4
  clear h4
  go_wp2_with fail
  go_ret
  exact ⟨rfl, b4⟩
theorem gm_dist (a b c : Nat) : gm c (a ^^^ b) = gm c a ^^^ gm c b := gm_right c a b
set_option maxRecDepth 100000 in
set_option maxHeartbeats 1600000 in
theorem field_walk {Ok : World → Prop} (P : PC Ok) (a b c : Nat) (ha : a < 256) (hb : b < 256) (hc : c < 256) (w : World) (ok : Ok w) : Calls Try.prog 6 #[.int .u8 (a : Int), .int .u8 (b : Int), .int .u8 (c : Int)] w fun e w' => e = .returned (.bool true) ∧ Below w.heap.size w w' := by
  have HO := Lib.hid ok
  have m1 := fun w ok => P.mul a b w ha hb ok
  have a1 := fun w ok => P.add a b w ha hb ok
  have m2 := fun w ok => P.mul b a w hb ha ok
  have a2 := fun w ok => P.add b a w hb ha ok
  have m3 := fun w ok => P.mul (gm a b) c w (gm_lt ha) hc ok
  have m4 := fun w ok => P.mul b c w hb hc ok
  have m5 := fun w ok => P.mul a (gm b c) w ha (gm_lt hb) ok
  have a3 := fun w ok => P.add (a ^^^ b) c w (xor_lt ha hb) hc ok
  have a4 := fun w ok => P.add b c w hb hc ok
  have a5 := fun w ok => P.add a (b ^^^ c) w ha (xor_lt hb hc) ok
  have m6 := fun w ok => P.mul c (a ^^^ b) w hc (xor_lt ha hb) ok
  have m7 := fun w ok => P.mul c a w hc ha ok
  have m8 := fun w ok => P.mul c b w hc hb ok
  have a6 := fun w ok => P.add (gm c a) (gm c b) w (gm_lt hc) (gm_lt hc) ok
  have m9 : ∀ w, Ok w → Calls Try.prog 12 #[.int .u8 (a : Int), .int .u8 1] w fun e w' => e = .returned (.int .u8 (a : Int)) ∧ Below w.heap.size w w' := fun w ok => by
    have := P.mul a 1 w ha (by decide) ok
    rw [gm_one ha] at this
    exact this
  have a7 : ∀ w, Ok w → Calls Try.prog 11 #[.int .u8 (a : Int), .int .u8 0] w fun e w' => e = .returned (.int .u8 (a : Int)) ∧ Below w.heap.size w w' := fun w ok => by
    have := P.add a 0 w ha (by decide) ok
    rw [Nat.xor_zero] at this
    exact this
  have a8 : ∀ w, Ok w → Calls Try.prog 11 #[.int .u8 (a : Int), .int .u8 (a : Int)] w fun e w' => e = .returned (.int .u8 0) ∧ Below w.heap.size w w' := fun w ok => by
    have := P.add a a w ha ha ok
    rw [Nat.xor_self] at this
    exact this
  have z := gm_eq_zero ha hb
  rw [gm_comm hb ha] at m2
  rw [Nat.xor_comm b a] at a2
  rw [gm_assoc ha hb hc] at m3
  rw [Nat.xor_assoc] at a3
  rw [← gm_dist] at a6
  have zz : (((a : Int) == 0) = true ∧ (((gm a b : Nat) : Int) == 0) = true) ∨ (((a : Int) == 0) = false ∧ ((b : Int) == 0) = true ∧ (((gm a b : Nat) : Int) == 0) = true) ∨ (((a : Int) == 0) = false ∧ ((b : Int) == 0) = false ∧ (((gm a b : Nat) : Int) == 0) = false) := by
    by_cases h1 : a = 0
    · have := z.2 (Or.inl h1)
      exact Or.inl ⟨by simp [h1], by simp [this]⟩
    · by_cases h2 : b = 0
      · have := z.2 (Or.inr h2)
        exact Or.inr (Or.inl ⟨beq_false_of_ne (by omega), by simp [h2], by simp [this]⟩)
      · have h3 : gm a b ≠ 0 := fun h => by rcases z.1 h with h | h <;> contradiction
        exact Or.inr (Or.inr ⟨beq_false_of_ne (by omega), beq_false_of_ne (by omega), beq_false_of_ne (by omega)⟩)
  clear z
  generalize gm a (gm b c) = q at m3 m5
  generalize gm b c = r at m4 m5
  generalize gm a b = m at m1 m2 m3 zz
  generalize gm c (a ^^^ b) = d at m6 a6
  generalize gm c a = e1 at m7 a6
  generalize gm c b = e2 at m8 a6
  generalize a ^^^ (b ^^^ c) = u at a3 a5
  generalize b ^^^ c = x at a4 a5
  generalize a ^^^ b = y at a1 a2 a3 m6
  have M1 := Lib.hid m1
  have M2 := Lib.hid m2
  have M3 := Lib.hid m3
  have M4 := Lib.hid m4
  have M5 := Lib.hid m5
  have M6 := Lib.hid m6
  have M7 := Lib.hid m7
  have M8 := Lib.hid m8
  have M9 := Lib.hid m9
  have A1 := Lib.hid a1
  have A2 := Lib.hid a2
  have A3 := Lib.hid a3
  have A4 := Lib.hid a4
  have A5 := Lib.hid a5
  have A6 := Lib.hid a6
  have A7 := Lib.hid a7
  have A8 := Lib.hid a8
  clear ok m1 m2 m3 m4 m5 m6 m7 m8 m9 a1 a2 a3 a4 a5 a6 a7 a8
  rcases zz with ⟨z1, z2⟩ | ⟨z1, z2, z3⟩ | ⟨z1, z2, z3⟩
  all_goals
    go_enter Try.func6, Try.ntmps6
    go_wp2_with fail
    refine (M1.out w HO.out).mono ?_
    rintro e w1 ⟨rfl, h1⟩
    have b1 := h1
    clear h1
    go_wp2_with fail
    refine (A1.out w1 (P.st _ _ HO.out b1)).mono ?_
    rintro e w2 ⟨rfl, h2⟩
    have b2 := bt b1 h2
    clear h2
    go_wp2_with fail
    refine (M2.out w2 (P.st _ _ HO.out b2)).mono ?_
    rintro e w3 ⟨rfl, h3⟩
    have b3 := bt b2 h3
    clear h3
    go_wp2_with fail
    refine (A2.out w3 (P.st _ _ HO.out b3)).mono ?_
    rintro e w4 ⟨rfl, h4⟩
    have b4 := bt b3 h4
    clear h4
    go_wp2_with fail
    refine (M3.out w4 (P.st _ _ HO.out b4)).mono ?_
    rintro e w5 ⟨rfl, h5⟩
    have b5 := bt b4 h5
    clear h5
    go_wp2_with fail
    refine (M4.out w5 (P.st _ _ HO.out b5)).mono ?_
    rintro e w6 ⟨rfl, h6⟩
    have b6 := bt b5 h6
    clear h6
    go_wp2_with fail
    refine (M5.out w6 (P.st _ _ HO.out b6)).mono ?_
    rintro e w7 ⟨rfl, h7⟩
    have b7 := bt b6 h7
    clear h7
    go_wp2_with fail
    refine (A3.out w7 (P.st _ _ HO.out b7)).mono ?_
    rintro e w8 ⟨rfl, h8⟩
    have b8 := bt b7 h8
    clear h8
    go_wp2_with fail
    refine (A4.out w8 (P.st _ _ HO.out b8)).mono ?_
    rintro e w9 ⟨rfl, h9⟩
    have b9 := bt b8 h9
    clear h9
    go_wp2_with fail
    refine (A5.out w9 (P.st _ _ HO.out b9)).mono ?_
    rintro e w10 ⟨rfl, h10⟩
    have b10 := bt b9 h10
    clear h10
    go_wp2_with fail
    refine (M6.out w10 (P.st _ _ HO.out b10)).mono ?_
    rintro e w11 ⟨rfl, h11⟩
    have b11 := bt b10 h11
    clear h11
    go_wp2_with fail
    refine (M7.out w11 (P.st _ _ HO.out b11)).mono ?_
    rintro e w12 ⟨rfl, h12⟩
    have b12 := bt b11 h12
    clear h12
    go_wp2_with fail
    refine (M8.out w12 (P.st _ _ HO.out b12)).mono ?_
    rintro e w13 ⟨rfl, h13⟩
    have b13 := bt b12 h13
    clear h13
    go_wp2_with fail
    refine (A6.out w13 (P.st _ _ HO.out b13)).mono ?_
    rintro e w14 ⟨rfl, h14⟩
    have b14 := bt b13 h14
    clear h14
    go_wp2_with fail
    refine (M9.out w14 (P.st _ _ HO.out b14)).mono ?_
    rintro e w15 ⟨rfl, h15⟩
    have b15 := bt b14 h15
    clear h15
    go_wp2_with fail
    refine (A7.out w15 (P.st _ _ HO.out b15)).mono ?_
    rintro e w16 ⟨rfl, h16⟩
    have b16 := bt b15 h16
    clear h16
    go_wp2_with fail
    refine (A8.out w16 (P.st _ _ HO.out b16)).mono ?_
    rintro e w17 ⟨rfl, h17⟩
    have b17 := bt b16 h17
    clear h17
    go_wp2_with fail
    refine (awake_any P w17 (P.st _ _ HO.out b17)).mono ?_
    rintro e w18 ⟨rfl, h18⟩
    have b18 := bt b17 h18
    clear h18
    go_wp2_with fail
    go_ret
    exact ⟨rfl, b18⟩
theorem iv_ne (b : Nat) : iv b ≠ 0 := ex_ne _
theorem iv_iv {b : Nat} (hb : b < 256) (h0 : b ≠ 0) : iv (iv b) = b := by
  have h := gm_iv hb h0
  rw [gm_comm hb (iv_lt b)] at h
  exact (iv_unique (iv_lt b) hb h).symm
theorem undo {a b : Nat} (ha : a < 256) (hb : b < 256) (h0 : b ≠ 0) : gm (gm a b) (iv b) = a := by
  rw [gm_assoc ha hb (iv_lt b), gm_iv hb h0, gm_one ha]
theorem invOf_pos {a : Nat} (h : a ≠ 0) : invOf a = .returned (.tuple #[.int .u8 (iv a : Nat), .int .i64 0]) := by
  unfold invOf
  rw [if_neg h]
  rfl
theorem divOf_pos {a b : Nat} (h : b ≠ 0) : divOf a b = .returned (.tuple #[.int .u8 (gm a (iv b) : Nat), .int .i64 0]) := by
  unfold divOf
  rw [if_neg h]
  rfl
set_option maxRecDepth 100000 in
set_option maxHeartbeats 1600000 in
theorem inverse_walk {Ok : World → Prop} (P : PC Ok) (a b : Nat) (ha : a < 256) (hb : b < 256) (w : World) (ok : Ok w) : Calls Try.prog 7 #[.int .u8 (a : Int), .int .u8 (b : Int)] w fun e w' => e = .returned (.bool true) ∧ Below w.heap.size w w' := by
  have HO := Lib.hid ok
  clear ok
  by_cases h0 : b = 0
  · subst h0
    go_enter Try.func7, Try.ntmps7
    go_wp2_with fail
    refine (awake_any P w HO.out).mono ?_
    rintro e w1 ⟨rfl, h1⟩
    have b1 := h1
    clear h1
    go_wp2_with fail
    go_ret
    exact ⟨rfl, b1⟩
  · have i1 := fun w ok => P.inv b w hb ok
    have m1 := fun w ok => P.mul a b w ha hb ok
    have d1 := fun w ok => P.div (gm a b) b w (gm_lt ha) hb ok
    have i2 := fun w ok => P.inv (iv b) w (iv_lt b) ok
    have m2 := fun w ok => P.mul b (iv b) w hb (iv_lt b) ok
    rw [invOf_pos h0] at i1
    rw [divOf_pos h0, undo ha hb h0] at d1
    rw [invOf_pos (iv_ne b), iv_iv hb h0] at i2
    rw [gm_iv hb h0] at m2
    have hz : ((b : Int) == 0) = false := beq_false_of_ne (by omega)
    generalize iv b = i at i1 i2 m2
    generalize gm a b = m at m1 d1
    have I1 := Lib.hid i1
    have M1 := Lib.hid m1
    have D1 := Lib.hid d1
    have I2 := Lib.hid i2
    have M2 := Lib.hid m2
    clear i1 m1 d1 i2 m2 h0
    go_enter Try.func7, Try.ntmps7
    go_wp2_with fail
    refine (I1.out w HO.out).mono ?_
    rintro e w1 ⟨rfl, h1⟩
    have b1 := h1
    clear h1
    go_wp2_with fail
    refine (M1.out w1 (P.st _ _ HO.out b1)).mono ?_
    rintro e w2 ⟨rfl, h2⟩
    have b2 := bt b1 h2
    clear h2
    go_wp2_with fail
    refine (D1.out w2 (P.st _ _ HO.out b2)).mono ?_
    rintro e w3 ⟨rfl, h3⟩
    have b3 := bt b2 h3
    clear h3
    go_wp2_with fail
    refine (I2.out w3 (P.st _ _ HO.out b3)).mono ?_
    rintro e w4 ⟨rfl, h4⟩
    have b4 := bt b3 h4
    clear h4
    go_wp2_with fail
    refine (M2.out w4 (P.st _ _ HO.out b4)).mono ?_
    rintro e w5 ⟨rfl, h5⟩
    have b5 := bt b4 h5
    clear h5
    go_wp2_with fail
    refine (awake_any P w5 (P.st _ _ HO.out b5)).mono ?_
    rintro e w6 ⟨rfl, h6⟩
    have b6 := bt b5 h6
    clear h6
    go_wp2_with fail
    go_ret
    exact ⟨rfl, b6⟩
theorem square_add {a b : Nat} (ha : a < 256) (hb : b < 256) : gm (a ^^^ b) (a ^^^ b) = gm a a ^^^ gm b b := by
  rw [gm_left _ ha hb, gm_right, gm_right, gm_comm hb ha, Nat.xor_assoc, ← Nat.xor_assoc (gm a b), Nat.xor_self, Nat.zero_xor]
theorem square_inj {a b : Nat} (ha : a < 256) (hb : b < 256) (h : gm a a = gm b b) : a = b := by
  have h1 : gm (a ^^^ b) (a ^^^ b) = 0 := by rw [square_add ha hb, h, Nat.xor_self]
  have h2 : a ^^^ b = 0 := by
    rcases (gm_eq_zero (xor_lt ha hb) (xor_lt ha hb)).1 h1 with h | h <;> exact h
  have := congrArg (· ^^^ b) h2
  simpa [Nat.xor_assoc] using this
set_option maxRecDepth 100000 in
set_option maxHeartbeats 1600000 in
theorem squares_walk {Ok : World → Prop} (P : PC Ok) (a b : Nat) (ha : a < 256) (hb : b < 256) (w : World) (ok : Ok w) : Calls Try.prog 9 #[.int .u8 (a : Int), .int .u8 (b : Int)] w fun e w' => e = .returned (.bool true) ∧ Below w.heap.size w w' := by
  have HO := Lib.hid ok
  have x1 := u8_xor_nat a b ha hb
  have m1 := fun w ok => P.mul a a w ha ha ok
  have m2 := fun w ok => P.mul b b w hb hb ok
  have m3 := fun w ok => P.mul (a ^^^ b) (a ^^^ b) w (xor_lt ha hb) (xor_lt ha hb) ok
  have x2 := u8_xor_nat _ _ (gm_lt (b := a) ha) (gm_lt (b := b) hb)
  rw [square_add ha hb] at m3
  have zz : ((((gm a a : Nat) : Int) == ((gm b b : Nat) : Int)) = true ∧ ((a : Int) == (b : Int)) = true) ∨ ((((gm a a : Nat) : Int) == ((gm b b : Nat) : Int)) = false ∧ ((a : Int) == (b : Int)) = false) := by
    by_cases h : a = b
    · exact Or.inl ⟨by rw [h]; simp, by rw [h]; simp⟩
    · have : gm a a ≠ gm b b := fun e => h (square_inj ha hb e)
      exact Or.inr ⟨beq_false_of_ne (by omega), beq_false_of_ne (by omega)⟩
  generalize gm a a ^^^ gm b b = y at x2 m3
  generalize gm a a = s at m1 x2 zz
  generalize gm b b = t at m2 x2 zz
  generalize a ^^^ b = x at x1 m3
  have M1 := Lib.hid m1
  have M2 := Lib.hid m2
  have M3 := Lib.hid m3
  clear ok m1 m2 m3
  rcases zz with ⟨z1, z2⟩ | ⟨z1, z2⟩
  all_goals
    go_enter Try.func9, Try.ntmps9
    go_wp2_with fail
    refine (M1.out w HO.out).mono ?_
    rintro e w1 ⟨rfl, h1⟩
    have b1 := h1
    clear h1
    go_wp2_with fail
    refine (M2.out w1 (P.st _ _ HO.out b1)).mono ?_
    rintro e w2 ⟨rfl, h2⟩
    have b2 := bt b1 h2
    clear h2
    go_wp2_with fail
    refine (M3.out w2 (P.st _ _ HO.out b2)).mono ?_
    rintro e w3 ⟨rfl, h3⟩
    have b3 := bt b2 h3
    clear h3
    go_wp2_with fail
    refine (awake_any P w3 (P.st _ _ HO.out b3)).mono ?_
    rintro e w4 ⟨rfl, h4⟩
    have b4 := bt b3 h4
    clear h4
    go_wp2_with fail
    go_ret
    exact ⟨rfl, b4⟩
theorem exi_add (m n : Int) : exi (m + n) = gm (exi m) (exi n) := by
  unfold exi
  rw [← ex_add, ← ex_mod ((m % 255).toNat + (n % 255).toNat)]
  congr 1
  omega
theorem pw_pos {a : Nat} (h : a ≠ 0) (n : Int) : pw a n = exi ((lg a : Int) * n) := by
  unfold pw
  by_cases hn : n = 0
  · subst hn
    rw [if_pos rfl, Int.mul_zero]
    rfl
  · rw [if_neg hn, if_neg h]
theorem pw_256 {a : Nat} (ha : a < 256) : pw a 256 = a := by
  by_cases h : a = 0
  · subst h
    rfl
  · rw [pw_pos h]
    have hl := lg_lt ha h
    unfold exi
    rw [show ((lg a : Int) * 256 % 255).toNat = lg a by omega, ex_lg ha h]
theorem pw_neg {a : Nat} (h : a ≠ 0) (m : Int) : gm (pw a m) (pw a (-m)) = 1 := by
  rw [pw_pos h, pw_pos h, ← exi_add, ← Int.mul_add, Int.add_right_neg, Int.mul_zero]
  rfl
theorem logOf_pos {a : Nat} (h : a ≠ 0) : logOf a = .returned (.tuple #[.int .i64 (lg a : Nat), .int .i64 0]) := by
  unfold logOf
  rw [if_neg h]
  rfl
theorem lg_exi (m : Int) : lg (exi m) = (m % 255).toNat := by
  unfold exi
  rw [lg_ex (by omega)]
set_option maxRecDepth 100000 in
set_option maxHeartbeats 1600000 in
theorem logs_walk {Ok : World → Prop} (P : PC Ok) (a : Nat) (ha : a < 256) (m n : Int) (m1 : -2147483648 ≤ m) (m2 : m < 2147483648) (n1 : -2147483648 ≤ n) (n2 : n < 2147483648) (w : World) (ok : Ok w) : Calls Try.prog 8 #[.int .u8 (a : Int), .int .i32 m, .int .i32 n] w fun e w' => e = .returned (.bool true) ∧ Below w.heap.size w w' := by
  have HO := Lib.hid ok
  have e1 := fun w ok => P.exp m w (by omega) (by omega) ok
  have e2 := fun w ok => P.exp n w (by omega) (by omega) ok
  have u1 := fun w ok => P.mul (exi m) (exi n) w (exi_lt m) (exi_lt n) ok
  have e3 := fun w ok => P.exp (m + n) w (by omega) (by omega) ok
  have w1 := fun w ok => P.pow a 256 w ha (by decide) (by decide) ok
  rw [pw_256 ha] at w1
  rw [exi_add] at e3
  have l2 := fun w ok => P.log (exi m) w (exi_lt m) ok
  rw [logOf_pos (show exi m ≠ 0 from ex_ne _), lg_exi] at l2
  have hk : (m - ((m % 255).toNat : Int)).tmod 255 = 0 := by
    rw [show m - ((m % 255).toNat : Int) = 255 * (m / 255) by omega]
    exact Int.mul_tmod_right _ _
  have hk2 : (m % 255).toNat < 255 := by omega
  generalize gm (exi m) (exi n) = y at u1 e3
  generalize exi m = x1 at e1 u1 l2
  generalize exi n = x2 at e2 u1
  generalize (m % 255).toNat = k at l2 hk hk2
  have E1 := Lib.hid e1
  have E2 := Lib.hid e2
  have E3 := Lib.hid e3
  have M1 := Lib.hid u1
  have W1 := Lib.hid w1
  have L2 := Lib.hid l2
  clear ok e1 e2 e3 u1 w1 l2
  by_cases h0 : a = 0
  · have hz : ((a : Int) == 0) = true := by simp [h0]
    clear h0 hk
    go_enter Try.func8, Try.ntmps8
    go_wp2_with fail
    refine (E1.out w HO.out).mono ?_
    rintro e w1 ⟨rfl, h1⟩
    have b1 := h1
    clear h1
    go_wp2_with fail
    refine (E2.out w1 (P.st _ _ HO.out b1)).mono ?_
    rintro e w2 ⟨rfl, h2⟩
    have b2 := bt b1 h2
    clear h2
    go_wp2_with fail
    refine (M1.out w2 (P.st _ _ HO.out b2)).mono ?_
    rintro e w3 ⟨rfl, h3⟩
    have b3 := bt b2 h3
    clear h3
    go_wp2_with fail
    refine (E3.out w3 (P.st _ _ HO.out b3)).mono ?_
    rintro e w4 ⟨rfl, h4⟩
    have b4 := bt b3 h4
    clear h4
    go_wp2_with fail
    refine (W1.out w4 (P.st _ _ HO.out b4)).mono ?_
    rintro e w5 ⟨rfl, h5⟩
    have b5 := bt b4 h5
    clear h5
    go_wp2_with fail
    refine (awake_any P w5 (P.st _ _ HO.out b5)).mono ?_
    rintro e w6 ⟨rfl, h6⟩
    have b6 := bt b5 h6
    clear h6
    go_wp2_with fail
    go_ret
    exact ⟨rfl, b6⟩
  · have l1 := fun w ok => P.log a w ha ok
    rw [logOf_pos h0] at l1
    have hl := lg_lt ha h0
    have e4 := fun w ok => P.exp (lg a : Int) w (by omega) (by omega) ok
    rw [exi_nat, ex_lg ha h0] at e4
    have w2 := fun w ok => P.pow a m w ha (by omega) (by omega) ok
    have w3 := fun w ok => P.pow a (-m) w ha (by omega) (by omega) ok
    have u2 := fun w ok => P.mul (pw a m) (pw a (-m)) w (pw_lt a m) (pw_lt a (-m)) ok
    rw [pw_neg h0] at u2
    have hz : ((a : Int) == 0) = false := beq_false_of_ne (by omega)
    generalize lg a = l at l1 e4 hl
    generalize pw a m = z1 at w2 u2
    generalize pw a (-m) = z2 at w3 u2
    have L1 := Lib.hid l1
    have E4 := Lib.hid e4
    have W2 := Lib.hid w2
    have W3 := Lib.hid w3
    have M2 := Lib.hid u2
    clear l1 e4 w2 w3 u2 h0
    go_enter Try.func8, Try.ntmps8
    go_wp2_with fail
    refine (E1.out w HO.out).mono ?_
    rintro e w1 ⟨rfl, h1⟩
    have b1 := h1
    clear h1
    go_wp2_with fail
    refine (E2.out w1 (P.st _ _ HO.out b1)).mono ?_
    rintro e w2 ⟨rfl, h2⟩
    have b2 := bt b1 h2
    clear h2
    go_wp2_with fail
    refine (M1.out w2 (P.st _ _ HO.out b2)).mono ?_
    rintro e w3 ⟨rfl, h3⟩
    have b3 := bt b2 h3
    clear h3
    go_wp2_with fail
    refine (E3.out w3 (P.st _ _ HO.out b3)).mono ?_
    rintro e w4 ⟨rfl, h4⟩
    have b4 := bt b3 h4
    clear h4
    go_wp2_with fail
    refine (W1.out w4 (P.st _ _ HO.out b4)).mono ?_
    rintro e w5 ⟨rfl, h5⟩
    have b5 := bt b4 h5
    clear h5
    go_wp2_with fail
    refine (L1.out w5 (P.st _ _ HO.out b5)).mono ?_
    rintro e w6 ⟨rfl, h6⟩
    have b6 := bt b5 h6
    clear h6
    go_wp2_with fail
    refine (E1.out w6 (P.st _ _ HO.out b6)).mono ?_
    rintro e w7 ⟨rfl, h7⟩
    have b7 := bt b6 h7
    clear h7
    go_wp2_with fail
    refine (L2.out w7 (P.st _ _ HO.out b7)).mono ?_
    rintro e w8 ⟨rfl, h8⟩
    have b8 := bt b7 h8
    clear h8
    go_wp2_with fail
    refine (E4.out w8 (P.st _ _ HO.out b8)).mono ?_
    rintro e w9 ⟨rfl, h9⟩
    have b9 := bt b8 h9
    clear h9
    go_wp2_with fail
    refine (W2.out w9 (P.st _ _ HO.out b9)).mono ?_
    rintro e w10 ⟨rfl, h10⟩
    have b10 := bt b9 h10
    clear h10
    go_wp2_with fail
    refine (W3.out w10 (P.st _ _ HO.out b10)).mono ?_
    rintro e w11 ⟨rfl, h11⟩
    have b11 := bt b10 h11
    clear h11
    go_wp2_with fail
    refine (M2.out w11 (P.st _ _ HO.out b11)).mono ?_
    rintro e w12 ⟨rfl, h12⟩
    have b12 := bt b11 h12
    clear h12
    go_wp2_with fail
    refine (awake_any P w12 (P.st _ _ HO.out b12)).mono ?_
    rintro e w13 ⟨rfl, h13⟩
    have b13 := bt b12 h13
    clear h13
    go_wp2_with fail
    go_ret
    exact ⟨rfl, b13⟩
theorem ma_eq {Ok : World → Prop} (P : PC Ok) (v1 v2 : Value) (d s : List Nat) (c : Nat) (w : World) (h1 : Sl w v1 d) (h2 : Sl w v2 s) (hl : d.length = s.length) (hd : d.length ≤ 2000) (hc : c < 256) (ok : Ok w) :
    Calls Try.prog 25 #[v1, v2, .int .u8 (c : Int)] w fun e w' => (∃ v, e = .returned (.tuple #[v, .int .i64 0]) ∧ Own w' w.heap.size v (ma c d s)) ∧ Below w.heap.size w w' :=
  (P.ma v1 v2 d s c w h1 h2 hd (by omega) hc ok).mono fun _ _ h => ⟨h.1 hl, h.2.2⟩
theorem ma_ne {Ok : World → Prop} (P : PC Ok) (v1 v2 : Value) (d s : List Nat) (c : Nat) (w : World) (h1 : Sl w v1 d) (h2 : Sl w v2 s) (hl : d.length ≠ s.length) (hd : d.length ≤ 2000) (hs : s.length ≤ 2000) (hc : c < 256) (ok : Ok w) :
    Calls Try.prog 25 #[v1, v2, .int .u8 (c : Int)] w fun e w' => e = .returned (.tuple #[.slice none 0 0, .int .i64 1]) ∧ Below w.heap.size w w' :=
  (P.ma v1 v2 d s c w h1 h2 hd hs hc ok).mono fun _ _ h => ⟨h.2.1 hl, h.2.2⟩
theorem rma_eq (v1 v2 : Value) (d s : List Nat) (c : Nat) (w : World) (h1 : Sl w v1 d) (h2 : Sl w v2 s) (hl : d.length = s.length) (hd : d.length ≤ 2000) (hc : c < 256) :
    Calls Try.prog 26 #[v1, v2, .int .u8 (c : Int)] w fun e w' => (∃ v, e = .returned (.tuple #[v, .int .i64 0]) ∧ Own w' w.heap.size v (ma c d s)) ∧ Below w.heap.size w w' :=
  (rma_any v1 v2 d s c w h1 h2 (by omega) hc).mono fun _ _ h => ⟨h.1 hl, h.2.2⟩
theorem rma_ne (v1 v2 : Value) (d s : List Nat) (c : Nat) (w : World) (h1 : Sl w v1 d) (h2 : Sl w v2 s) (hl : d.length ≠ s.length) (hd : d.length ≤ 2000) (hc : c < 256) :
    Calls Try.prog 26 #[v1, v2, .int .u8 (c : Int)] w fun e w' => e = .returned (.tuple #[.slice none 0 0, .int .i64 1]) ∧ Below w.heap.size w w' :=
  (rma_any v1 v2 d s c w h1 h2 (by omega) hc).mono fun _ _ h => ⟨h.2.1 hl, h.2.2⟩
theorem ma_ma (c : Nat) : ∀ {d s : List Nat}, d.length = s.length → ma c (ma c d s) s = d
  | [], [], _ => rfl
  | x :: d, y :: s, h => by
    simp only [ma, List.cons.injEq]
    exact ⟨by rw [Nat.xor_assoc, Nat.xor_self, Nat.xor_zero], ma_ma c (by simpa using h)⟩
  | [], _ :: _, h => by simp at h
  | _ :: _, [], h => by simp at h
set_option maxRecDepth 100000 in
set_option maxHeartbeats 1600000 in
theorem slices_long {Ok : World → Prop} (P : PC Ok) (a1 a2 : Option Addr) (n1 n2 c1 c2 : Nat) (c : Int) (sm : Bool) (h1 : n1 ≤ 9223372036854775807) (h2 : n2 ≤ 9223372036854775807) (h : 2000 < n1 ∨ (¬ 2000 < n1 ∧ 2000 < n2)) (w : World) (ok : Ok w) : Calls Try.prog 10 #[.slice a1 n1 c1, .slice a2 n2 c2, .int .u8 c, .bool sm] w fun e w' => e = .returned (.bool true) ∧ Below w.heap.size w w' := by
  have HO := Lib.hid ok
  clear ok
  rcases h with h | ⟨h, h'⟩
  all_goals
    go_enter Try.func10, Try.ntmps10
    go_wp2_with fail
    refine (awake_any P w HO.out).mono ?_
    rintro e w1 ⟨rfl, h1⟩
    have b1 := h1
    clear h1
    go_wp2_with fail
    go_ret
    exact ⟨rfl, b1⟩
set_option maxRecDepth 100000 in
set_option maxHeartbeats 1600000 in
theorem slices_eq {Ok : World → Prop} (P : PC Ok) (a1 a2 : Option Addr) (c1 c2 c : Nat) (d s : List Nat) (hc : c < 256) (hd : d.length ≤ 2000) (hs : s.length ≤ 2000) (hl : d.length = s.length) (w : World) (s1 : Sl w (.slice a1 d.length c1) d) (s2 : Sl w (.slice a2 s.length c2) s) (ok : Ok w) : Calls Try.prog 10 #[.slice a1 d.length c1, .slice a2 s.length c2, .int .u8 (c : Int), .bool false] w fun e w' => e = .returned (.bool true) ∧ Below w.heap.size w w' := by
  have HO := Lib.hid ok
  have S1 := Lib.hid s1
  have S2 := Lib.hid s2
  have HL := Lib.hid hl
  have HD := Lib.hid hd
  clear ok s1 s2 hl
  go_enter Try.func10, Try.ntmps10
  go_wp2_with fail
  refine (ma_eq P (.slice a1 d.length c1) (.slice a2 s.length c2) d s c w S1.out S2.out HL.out (HD.out) hc HO.out).mono ?_
  rintro e w1 ⟨⟨x, rfl, o1⟩, h1⟩
  have O1 := Lib.hid o1
  have b1 := h1
  have B1 := Lib.hid h1
  clear h1 o1
  go_wp2_with fail
  refine (rma_eq (.slice a1 d.length c1) (.slice a2 s.length c2) d s c w1 (sl_below S1.out b1) (sl_below S2.out b1) HL.out (HD.out) hc).mono ?_
  rintro e w2 ⟨⟨y, rfl, o2⟩, h2⟩
  have O2 := Lib.hid o2
  have b2 := bt b1 h2
  have B2 := Lib.hid h2
  clear h2 o2
  have cx := conv_sl (sl_below O1.out.sl B2.out)
  have cy := conv_sl O2.out.sl
  have CX := Lib.hid cx
  go_wp2_with fail
  refine (ma_eq P x (.slice a2 s.length c2) (ma c d s) s c w2 (sl_below O1.out.sl B2.out) (sl_below S2.out b2) (by rw [ma_length c HL.out]; exact HL.out) (by rw [ma_length c HL.out]; exact HD.out) hc (P.st _ _ HO.out b2)).mono ?_
  rintro e w3 ⟨⟨z, rfl, o3⟩, h3⟩
  have O3 := Lib.hid o3
  have b3 := bt b2 h3
  have B3 := Lib.hid h3
  clear h3 o3
  have cz := conv_sl O3.out.sl
  rw [ma_ma c HL.out] at cz
  have cd := conv_sl (sl_below S1.out b3)
  clear cx cy CX
  go_wp2_with fail
  refine (awake_any P w3 (P.st _ _ HO.out b3)).mono ?_
  rintro e w4 ⟨rfl, h4⟩
  have b4 := bt b3 h4
  clear h4
  go_wp2_with fail
  go_ret
  exact ⟨rfl, b4⟩
set_option maxRecDepth 100000 in
set_option maxHeartbeats 1600000 in
theorem slices_ne {Ok : World → Prop} (P : PC Ok) (a1 a2 : Option Addr) (c1 c2 c : Nat) (d s : List Nat) (hc : c < 256) (hd : d.length ≤ 2000) (hs : s.length ≤ 2000) (hl : d.length ≠ s.length) (w : World) (s1 : Sl w (.slice a1 d.length c1) d) (s2 : Sl w (.slice a2 s.length c2) s) (ok : Ok w) : Calls Try.prog 10 #[.slice a1 d.length c1, .slice a2 s.length c2, .int .u8 (c : Int), .bool false] w fun e w' => e = .returned (.bool true) ∧ Below w.heap.size w w' := by
  have HO := Lib.hid ok
  have S1 := Lib.hid s1
  have S2 := Lib.hid s2
  have HL := Lib.hid hl
  have HD := Lib.hid hd
  have HS := Lib.hid hs
  clear ok s1 s2 hl
  go_enter Try.func10, Try.ntmps10
  go_wp2_with fail
  refine (ma_ne P (.slice a1 d.length c1) (.slice a2 s.length c2) d s c w S1.out S2.out HL.out HD.out HS.out hc HO.out).mono ?_
  rintro e w1 ⟨rfl, h1⟩
  have b1 := h1
  clear h1
  go_wp2_with fail
  refine (rma_ne (.slice a1 d.length c1) (.slice a2 s.length c2) d s c w1 (sl_below S1.out b1) (sl_below S2.out b1) HL.out HD.out hc).mono ?_
  rintro e w2 ⟨rfl, h2⟩
  have b2 := bt b1 h2
  clear h2
  have cx := conv_sl (sl_nil w2)
  go_wp2_with fail
  refine (awake_any P w2 (P.st _ _ HO.out b2)).mono ?_
  rintro e w3 ⟨rfl, h3⟩
  have b3 := bt b2 h3
  clear h3
  go_wp2_with fail
  go_ret
  exact ⟨rfl, b3⟩
end Go.Proofs.Ytkmmpfmemjnbmaa.Gf
