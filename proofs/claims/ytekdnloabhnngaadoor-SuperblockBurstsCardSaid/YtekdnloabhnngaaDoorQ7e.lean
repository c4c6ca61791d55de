/- What is proved here: the walk of the law SuperblockNext, over what it asks of the program. No condition. -/
import Derived.Test.YtekdnloabhnngaaDoorQ7d
namespace Go.Proofs.YtekdnloabhnngaaDoor.Gf
open Go Go.Joins Go.ChangeShapes Go.WideShapes Go.ChangeAt Go.RowKit Go.Deep Go.Proofs.YtekdnloabhnngaaDoor.By Go.Proofs.YtekdnloabhnngaaDoor.Crc Go.Proofs.YtekdnloabhnngaaDoor.Qt

theorem j64_small {n : Int} (h : 0 ≤ n ∧ n ≤ 4294967296) : J64 n := by unfold J64; omega
theorem near_ok (s g r : Int) : 0 ≤ s % 4 ∧ s % 4 < 4 ∧ 1 ≤ 1 + g % 8 ∧ 1 + g % 8 ≤ 8 ∧ 0 ≤ r % 4294967296 ∧ r % 4294967296 < 4294967296 := by omega
set_option maxRecDepth 100000 in
set_option maxHeartbeats 6400000 in
theorem next7_walk {Ok : World → Prop} (P : PC7 Ok) (s g r : Int) (many : Nat) (hmany : many < 256) (w : World) (hw : Ok w) : Calls Tryd.prog 7 #[SV s g r, .int .u8 (many : Int)] w fun e w' => e = .returned (.bool true) ∧ Below w.heap.size w w' := by
  have NX := Lib.hid (fun s g r W (h : Ok W) => P.next s g r W h)
  have ST := Lib.hid (fun (W W' : World) => P.st (w := W) (w' := W'))
  have AW := Lib.hid (awake7_any P)
  clear P
  have NR := Lib.hid (near_any s g r)
  obtain ⟨k1, k2, k3, k4, k5, k6⟩ := near_ok s g r
  unfold SV at NR ⊢
  generalize s % 4 = s0 at *
  generalize 1 + g % 8 = g0 at *
  generalize r % 4294967296 = r0 at *
  have HK := Lib.hid (And.intro k1 (And.intro k2 (And.intro k3 k4)))
  have HR := Lib.hid (And.intro k5 k6)
  have HB0 := Lib.hid ((Below.refl w.heap.size w).alloc (Nat.le_refl _) (.cells #[.int .i64 s, .int .i64 g, .int .i64 r] 23))
  clear k1 k2 k3 k4 k5 k6
  go_enter Tryd.func7, Tryd.ntmps7
  go_wp2_with fail
  refine (NR.out _).mono ?_
  rintro e w1 ⟨rfl, hb1⟩
  have AL := (Below.refl w1.heap.size w1).alloc (Nat.le_refl _) (.cells #[.int .i64 s0, .int .i64 g0, .int .i64 r0] 23)
  have B1 := Lib.hid (bt (bt HB0.out hb1) AL)
  have X1 := Lib.hid (heap_alloc_new w1 (.cells #[.int .i64 s0, .int .i64 g0, .int .i64 r0] 23))
  have HQ : Hid (w.heap.size ≤ w1.heap.size) := (bt HB0.out hb1).size
  clear hb1 AL
  go_wp2_with fail
  generalize w1.alloc (.cells #[.int .i64 s0, .int .i64 g0, .int .i64 r0] 23) = W1 at *
  generalize w1.heap.size = q at *
  go_loopw [6, 7, 8] (fun t _ _ wr => ∃ (i : Nat) (p : Int), i ≤ many ∧ t = .int .i64 (i : Int) ∧ (0 ≤ p ∧ p < 4294967296) ∧ wr.heap[q]? = some (.cells #[.int .i64 s0, .int .i64 g0, .int .i64 p] 23 (0, 0)) ∧ Below w.heap.size w wr) (fun t _ _ _ => many - (intOf t).toNat)
  case atStart => exact ⟨0, r0, by omega, rfl, HR.out, X1.out, B1.out⟩
  case round =>
    obtain ⟨i, p, hi, rfl, hp, hx, hB⟩ := hrel
    have HX := Lib.hid hx
    have HB := Lib.hid hB
    have HP := Lib.hid hp
    clear hB hp
    by_cases him : i < many
    · have g1 : decide ((i : Int) < (many : Int)) = true := decide_eq_true (by omega)
      have wm : IntKind.i64.wrap (many : Int) = (many : Int) := IntWalk.i64_in _ (by omega)
      obtain ⟨u0, u1, u2, -, -, -⟩ := bx3 hx
      have hok : okS s0 g0 p = true := okS_iff.2 ⟨HK.out.1, HK.out.2.1, HK.out.2.2.1, HK.out.2.2.2, HP.out.1, HP.out.2⟩
      have NXX := Lib.hid (NX.out s0 g0 p wr (ST.out _ _ hw HB.out) (j64_small (by have := HK.out; omega)) (j64_small (by have := HK.out; omega)) (j64_small (by have := HP.out; omega)))
      have HI := Lib.hid him
      clear hx hi
      by_cases hl : p = 4294967295
      · have e1 : nxE s0 g0 p = 2 := by
          unfold nxE
          rw [if_pos hok, if_neg]
          rw [Bool.not_eq_true]
          cases h : okS s0 g0 (p + 1)
          · rfl
          · have := okS_iff.1 h; omega
        have e2 : nxV s0 g0 p = SV 0 0 0 := by unfold nxV; rw [if_neg (by rw [e1]; decide)]
        rw [e1, e2] at NXX
        unfold SV at NXX
        have g2 : ((p : Int) == 4294967295) = true := by rw [hl]; rfl
        clear e1 e2 hok hl
        go_wp2_with fail
        refine NXX.out.mono ?_
        rintro e w2 ⟨rfl, hb2⟩
        have AL := (Below.refl w2.heap.size w2).alloc (Nat.le_refl _) (.cells #[.int .i64 0, .int .i64 0, .int .i64 0] 23)
        have B2 := Lib.hid (bt (bt HB.out hb2) AL)
        have X2 := Lib.hid ((AL.block _ (lt_of_some ((hb2.block _ (lt_of_some HX.out)).trans HX.out))).trans ((hb2.block _ (lt_of_some HX.out)).trans HX.out))
        clear u0 u1 u2 AL hb2
        obtain ⟨u0, u1, u2, -, -, -⟩ := bx3 X2.out
        go_wp2_with fail
        refine (AW.out _ (ST.out _ _ hw B2.out)).mono ?_
        rintro e w4 ⟨rfl, hb4⟩
        have B4 := Lib.hid (bt B2.out hb4)
        clear hb4
        go_wp2_with fail
        go_ret
        exact ⟨rfl, B4.out⟩
      · have e0 : okS s0 g0 (p + 1) = true := okS_iff.2 ⟨HK.out.1, HK.out.2.1, HK.out.2.2.1, HK.out.2.2.2, by have := HP.out; omega, by have := HP.out; omega⟩
        have e1 : nxE s0 g0 p = 0 := by unfold nxE; rw [if_pos hok, if_pos e0]
        have e2 : nxV s0 g0 p = SV s0 g0 (p + 1) := by unfold nxV; rw [if_pos e1]
        rw [e1, e2] at NXX
        unfold SV at NXX
        have g2 : ((p : Int) == 4294967295) = false := beq_false_of_ne hl
        have g3 : wrap64 (p + 1) = p + 1 := by have := HP.out; unfold wrap64; omega
        have HP2 : Hid (0 ≤ p + 1 ∧ p + 1 < 4294967296) := by show _ ∧ _; have := HP.out; omega
        clear e0 e1 e2 hok hl
        go_wp2_with fail
        refine NXX.out.mono ?_
        rintro e w2 ⟨rfl, hb2⟩
        have AL := (Below.refl w2.heap.size w2).alloc (Nat.le_refl _) (.cells #[.int .i64 s0, .int .i64 g0, .int .i64 (p + 1)] 23)
        have B2 := Lib.hid (bt (bt HB.out hb2) AL)
        have X2 := Lib.hid ((AL.block _ (lt_of_some ((hb2.block _ (lt_of_some HX.out)).trans HX.out))).trans ((hb2.block _ (lt_of_some HX.out)).trans HX.out))
        clear u0 u1 u2 AL hb2
        obtain ⟨u0, u1, u2, z0, z1, z2⟩ := bx3 X2.out
        go_wp2_with fail
        go_roundw
        case rel => exact ⟨i + 1, p + 1, by have := HI.out; omega, by go_num, HP2.out, set3 X2.out, below3 B2.out HQ.out⟩
        case measure => simp [intOf]; have := HI.out; omega
    · obtain rfl : i = many := by omega
      have g1 : decide ((i : Int) < (i : Int)) = false := decide_eq_false (by omega)
      have wm : IntKind.i64.wrap (i : Int) = (i : Int) := IntWalk.i64_in _ (by omega)
      clear hx hi him
      go_wp2_with fail
      refine (AW.out _ (ST.out _ _ hw HB.out)).mono ?_
      rintro e w4 ⟨rfl, hb4⟩
      have B4 := Lib.hid (bt HB.out hb4)
      clear hb4
      go_wp2_with fail
      go_ret
      exact ⟨rfl, B4.out⟩
end Go.Proofs.YtekdnloabhnngaaDoor.Gf
