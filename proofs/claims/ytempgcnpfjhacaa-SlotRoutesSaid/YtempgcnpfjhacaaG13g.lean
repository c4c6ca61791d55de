/- What is proved here: the law's awake (layer 13); the law SlotRoutes. No condition. -/
import Derived.Test.YtempgcnpfjhacaaG13f
namespace Go.Proofs.Ytempgcnpfjhacaa.Gf
open Go Go.Joins Go.ChangeShapes Go.WideShapes Go.ChangeAt Go.RowKit Go.Deep Go.Proofs.Ytempgcnpfjhacaa.By Go.Proofs.Ytempgcnpfjhacaa.Qt

theorem rt5 (W : World) : Calls Try.prog 4 #[.int .u64 5, .int .i64 2] W fun e w' => e = .returned (.int .i64 1) ∧ W = w' := proute_any 5 2 (by decide) (by decide) (by decide) W
theorem rt32 (W : World) : Calls Try.prog 4 #[.int .u64 4294967296, .int .i64 2] W fun e w' => e = .returned (.int .i64 1) ∧ W = w' := proute_any 4294967296 2 (by decide) (by decide) (by decide) W
set_option maxRecDepth 100000 in
set_option maxHeartbeats 12800000 in
theorem awake13_any (w : World) : Calls Try.prog 5 #[] w fun e w' => e = .returned (.bool true) ∧ Below w.heap.size w w' := by
  go_enter Try.func5, Try.ntmps5
  go_wp2_with fail
  refine (psnew_1 w).mono ?_
  rintro e w1 ⟨⟨gb, s0, s1, s2, s3, s4, s5, s6, s7, rfl, hgb, hms⟩, hb⟩
  have hz := heap_alloc_new w1 (.cells #[.int .i64 0, .int .i64 0, .bool false, .slice none 0 0] 30)
  go_upto_region 2 with ((with_reducible refine storeS w1.heap.size _ #[.int .i64 0, .int .i64 9000, .bool false, .slice (some ⟨gb, 0, none⟩) 1 1] ?_ ?_ hz rfl rfl (sv_one gb) ?_); exact rfl; exact rfl)
  rw [World.setRow_alloc_new]
  have q := bel_al w1 (.cells #[.int .i64 0, .int .i64 9000, .bool false, .slice (some ⟨gb, 0, none⟩) 1 1] 30)
  have HS2 := Lib.hid (heap_alloc_new w1 (.cells #[.int .i64 0, .int .i64 9000, .bool false, .slice (some ⟨gb, 0, none⟩) 1 1] 30))
  have HB2 := Lib.hid ((q.block _ (lt_of_some hgb)).trans hgb)
  have MS2 := Lib.hid (ms_below hms q)
  have B2 := Lib.hid (hb.trans (q.mono hb.size))
  clear hz q hgb hms hb
  generalize w1.alloc (.cells #[.int .i64 0, .int .i64 9000, .bool false, .slice (some ⟨gb, 0, none⟩) 1 1] 30) = w2 at *
  generalize w1.heap.size = g1 at *
  obtain ⟨⟨y0, y1, y2, y3⟩, -⟩ := bx4 HS2.out
  go_wp2_with fail
  clear y0 y1 y2 y3
  refine (pfind_1 gb s0 s1 s2 s3 s4 s5 s6 s7 1 w2 HB2.out MS2.out).mono ?_
  rintro e w3 ⟨rfl, hb⟩
  have hz := heap_alloc_new w3 (.cells #[.int .i64 0, .int .i64 0, .int .i64 0, .int .u64 0, .int .u32 0, .int .i64 0, .int .i64 0] 37)
  go_upto_region 3 with ((with_reducible refine storeP w3.heap.size _ #[.int .i64 0, .int .i64 0, .int .i64 0, .int .u64 0, .int .u32 0, .int .i64 0, .int .i64 0] ?_ ?_ hz rfl rfl zp_one ?_); exact rfl; exact rfl)
  rw [World.setRow_alloc_new]
  have q := bel_al w3 (.cells #[.int .i64 0, .int .i64 0, .int .i64 0, .int .u64 0, .int .u32 0, .int .i64 0, .int .i64 0] 37)
  have hb2 := hb.trans (q.mono hb.size)
  have HS4 := Lib.hid ((hb2.block _ (lt_of_some HS2.out)).trans HS2.out)
  have HB4 := Lib.hid ((hb2.block _ (lt_of_some HB2.out)).trans HB2.out)
  have MS4 := Lib.hid (ms_below MS2.out hb2)
  have B4 := Lib.hid (B2.out.trans (hb2.mono B2.out.size))
  clear hz q hb hb2 HS2 HB2 MS2 B2
  generalize w3.alloc (.cells #[.int .i64 0, .int .i64 0, .int .i64 0, .int .u64 0, .int .u32 0, .int .i64 0, .int .i64 0] 37) = w4 at *
  go_wp2_with fail
  refine (rt5 w4).mono ?_
  rintro e w5 ⟨rfl, rfl⟩
  go_wp2_with fail
  refine (rt32 w4).mono ?_
  rintro e w5 ⟨rfl, rfl⟩
  obtain ⟨⟨y0, y1, y2, y3⟩, -⟩ := bx4 HS4.out
  go_wp2_with fail
  clear y0 y1 y2 y3
  refine (pfits_1 gb s0 s1 s2 s3 s4 s5 s6 s7 w4 HB4.out MS4.out).mono ?_
  rintro e w5 ⟨rfl, hb⟩
  go_wp2_with fail
  go_ret
  exact ⟨rfl, B4.out.trans (hb.mono B4.out.size)⟩
theorem rt_low (k n : Nat) (hk : k < 4294967296) : rtN k n = k % n := by
  unfold rtN
  rw [show k / 4294967296 = 0 by omega, show k % 4294967296 = k by omega, Nat.xor_zero]
set_option maxRecDepth 100000 in
set_option maxHeartbeats 12800000 in
theorem routes_any (key s : Nat) (hk : key < 4294967296) (_hs : s < 256) (w : World) : Calls Try.prog 3 #[.int .u32 (key : Int), .int .u8 (s : Int)] w fun e w' => e = .returned (.bool true) ∧ Below w.heap.size w w' := by
  have AWK := Lib.hid (awake13_any w)
  have h4 : s % 4 < 4 := Nat.mod_lt _ (by decide)
  have e1 : Int.tmod (s : Int) 4 = ((s % 4 : Nat) : Int) := tmod_nat s 4
  have e2 : (s : Int) % 4 = ((s % 4 : Nat) : Int) := by omega
  generalize s % 4 = m at *
  have e3 : IntKind.u8.wrap (m : Int) = (m : Int) := by show (m : Int) % 256 = _; omega
  have e4 : wrap64 (m : Int) = (m : Int) := by unfold wrap64; omega
  obtain ⟨n, hn⟩ : ∃ n, n = 1 + m := ⟨_, rfl⟩
  have e5 : wrap64 (1 + (m : Int)) = (n : Int) := by unfold wrap64; omega
  have e6 : IntKind.u64.wrap (key : Int) = (key : Int) := u64_nat key (by omega)
  obtain ⟨k1, hk1⟩ : ∃ k, k = key + 1 := ⟨_, rfl⟩
  have e7 : IntKind.u64.wrap ((key : Int) + 1) = (k1 : Int) := by rw [show (key : Int) + 1 = ((k1 : Nat) : Int) by omega]; exact u64_nat k1 (by omega)
  have P0 := Lib.hid (proute_any key n (by omega) (by omega) (by omega) w)
  have P1 := Lib.hid (proute_any k1 n (by omega) (by omega) (by omega) w)
  have ha : rtN key n < n := Nat.mod_lt _ (by omega)
  have hb : rtN k1 n < n := Nat.mod_lt _ (by omega)
  have hab : key ≠ 4294967295 → rtN k1 n = (rtN key n + 1) % n := fun h => by
    rw [rt_low k1 n (by omega), rt_low key n hk, Nat.mod_add_mod, hk1]
  generalize rtN key n = a at *
  generalize rtN k1 n = b at *
  have HNE := Lib.hid (show 1 + (m : Int) = (n : Int) by omega)
  have HN := Lib.hid (show 1 ≤ n ∧ n ≤ 4 by omega)
  have HA := Lib.hid (And.intro ha (And.intro hb hab))
  clear hn hk1 h4 hab hk ha hb
  go_enter Try.func3, Try.ntmps3
  go_wp2_with fail
  rw [HNE.out]
  clear e1 e2 e3 e4 e5
  refine P0.out.mono ?_
  rintro e w0 ⟨rfl, rfl⟩
  go_wp2_with fail
  refine P1.out.mono ?_
  rintro e w0 ⟨rfl, rfl⟩
  clear P0 P1 e6 e7
  have hn := HN.out
  have ha := HA.out.1
  have hb := HA.out.2.1
  have hab := HA.out.2.2
  clear HN HA HNE
  have l1 : decide ((a : Int) < 0) = false := decide_eq_false (by omega)
  have l2 : decide ((b : Int) < 0) = false := decide_eq_false (by omega)
  have l3 : decide ((n : Int) ≤ (a : Int)) = false := decide_eq_false (by omega)
  have l4 : decide ((n : Int) ≤ (b : Int)) = false := decide_eq_false (by omega)
  have l5 : decide (n ≤ a) = false := decide_eq_false (by omega)
  have l6 : decide (n ≤ b) = false := decide_eq_false (by omega)
  have n0 : ¬ n = 0 := by omega
  have n1 : ¬ ((n : Int) = 0) := by omega
  have e9 : ((n : Int) == 0) = false := by rw [beq_eq_false_iff_ne]; omega
  have t1 : Int.tmod ((a : Int) + 1) (n : Int) = (((a + 1) % n : Nat) : Int) := tmod_nat (a + 1) n
  have t2 : wrap64 (((a + 1) % n : Nat) : Int) = (((a + 1) % n : Nat) : Int) := by
    have := Nat.mod_lt (a + 1) (show 0 < n by omega)
    unfold wrap64
    omega
  have t4 : wrap64 ((a : Int) + 1) = (a : Int) + 1 := by unfold wrap64; omega
  by_cases hk : key = 4294967295
  · subst hk
    clear hab
    go_wp2_with fail
    refine AWK.out.mono ?_
    rintro e w1 ⟨rfl, hb1⟩
    go_wp2_with fail
    go_ret
    exact ⟨rfl, hb1⟩
  · have t3 := hab hk
    have k1 : ((key : Int) == 4294967295) = false := by rw [beq_eq_false_iff_ne]; omega
    have k2 : ¬ (key : Int) = 4294967295 := by omega
    rw [← t3] at t1 t2
    clear hab t3
    go_wp2_with fail
    refine AWK.out.mono ?_
    rintro e w1 ⟨rfl, hb1⟩
    go_wp2_with fail
    go_ret
    exact ⟨rfl, hb1⟩
end Go.Proofs.Ytempgcnpfjhacaa.Gf
