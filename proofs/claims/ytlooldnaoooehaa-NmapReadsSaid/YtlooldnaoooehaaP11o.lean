/- What is proved here: Same of the reference's maps. -/
import Derived.Test.YtlooldnaoooehaaP11n
namespace Go.Proofs.Ytlooldnaoooehaa.Gf
open Go Go.Joins Go.ChangeShapes Go.WideShapes Go.ChangeAt Go.RowKit Go.Deep Go.Proofs.Ytlooldnaoooehaa.By Go.Proofs.Ytlooldnaoooehaa.Qt

def sameM (a b : Mp) : Bool := decide (a.st = b.st ∧ a.live = b.live ∧ a.garb = b.garb)
theorem sameM_self (a : Mp) : sameM a a = true := by unfold sameM; exact decide_eq_true ⟨rfl, rfl, rfl⟩
set_option maxRecDepth 100000 in
set_option maxHeartbeats 12800000 in
theorem rsame11_any (v1 v2 : Value) (m1 m2 : Mp) (w : World) (hv1 : Mv w v1 m1) (hv2 : Mv w v2 m2) : Calls Try.prog 25 #[v1, v2] w fun e w' => e = .returned (.bool (sameM m1 m2)) ∧ Below w.heap.size w w' := by
  obtain ⟨s0, s1, s2, s3, s4, s5, s6, s7, rfl, hms1⟩ := hv1
  obtain ⟨t0, t1, t2, t3, t4, t5, t6, t7, rfl, hms2⟩ := hv2
  have q1 := bel_al w (.cells #[s0, s1, s2, s3, s4, s5, s6, s7, .int .i64 m1.live, .int .i64 m1.garb] 25)
  have h1 := heap_alloc_new w (.cells #[s0, s1, s2, s3, s4, s5, s6, s7, .int .i64 m1.live, .int .i64 m1.garb] 25)
  have hsz : (w.alloc (.cells #[s0, s1, s2, s3, s4, s5, s6, s7, .int .i64 m1.live, .int .i64 m1.garb] 25)).heap.size = w.heap.size + 1 := by simp
  have q2 := bel_al (w.alloc (.cells #[s0, s1, s2, s3, s4, s5, s6, s7, .int .i64 m1.live, .int .i64 m1.garb] 25)) (.cells #[t0, t1, t2, t3, t4, t5, t6, t7, .int .i64 m2.live, .int .i64 m2.garb] 25)
  have h2 := heap_alloc_new (w.alloc (.cells #[s0, s1, s2, s3, s4, s5, s6, s7, .int .i64 m1.live, .int .i64 m1.garb] 25)) (.cells #[t0, t1, t2, t3, t4, t5, t6, t7, .int .i64 m2.live, .int .i64 m2.garb] 25)
  rw [hsz] at h2
  have HB2 := Lib.hid h2
  have HA2 := Lib.hid ((q2.block _ (lt_of_some h1)).trans h1)
  have BX := Lib.hid (q1.trans (q2.mono q1.size))
  have MS1 := Lib.hid (ms_below hms1 BX.out)
  have MS2 := Lib.hid (ms_below hms2 BX.out)
  obtain ⟨q, hq⟩ : ∃ q, q = sameM m1 m2 := ⟨_, rfl⟩
  rw [← hq]
  have HQ := Lib.hid (show q = decide (m1.st = m2.st ∧ m1.live = m2.live ∧ m1.garb = m2.garb) from hq)
  clear hms1 hms2 q1 q2 h1 h2 hsz hq
  go_enter Try.func25, Try.ntmps25
  go_upto_region 1 with fail
  generalize (w.alloc (.cells #[s0, s1, s2, s3, s4, s5, s6, s7, .int .i64 m1.live, .int .i64 m1.garb] 25)).alloc (.cells #[t0, t1, t2, t3, t4, t5, t6, t7, .int .i64 m2.live, .int .i64 m2.garb] 25) = W2 at *
  go_wp2_with fail
  go_loopw [5] (fun t5 wr => ∃ k : Nat, k ≤ 8 ∧ t5 = .int .i64 (k : Int) ∧ Hid (∀ s, s < k → ms m1 s = ms m2 s) ∧ Hid (Below W2.heap.size W2 wr)) (fun t _ => 8 - (intOf t).toNat)
  case atStart => exact ⟨0, by omega, rfl, Lib.hid (fun s h => by omega), Lib.hid (Below.refl _ _)⟩
  case round =>
    obtain ⟨k, hk, rfl, HO, BR⟩ := hrel
    rename World => wl
    have HAl := Lib.hid ((BR.out.block _ (lt_of_some HA2.out)).trans HA2.out)
    have HBl := Lib.hid ((BR.out.block _ (lt_of_some HB2.out)).trans HB2.out)
    by_cases hlt : k < 8
    case neg =>
      have l1 : decide ((k : Int) < 8) = false := decide_eq_false (by omega)
      have l2 : decide (k < 8) = false := decide_eq_false hlt
      have hst : m1.st = m2.st := st_ext MS1.out.1 MS2.out.1 fun s hs => HO.out s (by omega)
      have BL := Lib.hid (BX.out.trans (BR.out.mono BX.out.size))
      obtain ⟨-, -, -, -, -, -, -, -, x8, x9⟩ := bx10 HAl.out
      obtain ⟨-, -, -, -, -, -, -, -, y8, y9⟩ := bx10 HBl.out
      have HST := Lib.hid hst
      clear hst hlt hk HO
      by_cases c1 : m1.live = m2.live
      case neg =>
        have l3 : (m1.live == m2.live) = false := by rw [beq_eq_false_iff_ne]; exact c1
        have l4 : decide (m1.live = m2.live) = false := decide_eq_false c1
        have hqf : q = false := by rw [HQ.out]; exact decide_eq_false fun h => c1 h.2.1
        clear c1
        subst hqf
        go_wp2_with fail
        go_ret
        exact ⟨rfl, BL.out⟩
      have l3 : (m1.live == m2.live) = true := by rw [beq_iff_eq]; exact c1
      have l4 : decide (m1.live = m2.live) = true := decide_eq_true c1
      by_cases c2 : m1.garb = m2.garb
      case neg =>
        have l5 : (m1.garb == m2.garb) = false := by rw [beq_eq_false_iff_ne]; exact c2
        have l6 : decide (m1.garb = m2.garb) = false := decide_eq_false c2
        have hqf : q = false := by rw [HQ.out]; exact decide_eq_false fun h => c2 h.2.2
        clear c1 c2
        subst hqf
        go_wp2_with fail
        go_ret
        exact ⟨rfl, BL.out⟩
      have l5 : (m1.garb == m2.garb) = true := by rw [beq_iff_eq]; exact c2
      have l6 : decide (m1.garb = m2.garb) = true := decide_eq_true c2
      have hqt : q = true := by rw [HQ.out]; exact decide_eq_true ⟨HST.out, c1, c2⟩
      clear c1 c2
      subst hqt
      go_wp2_with fail
      go_ret
      exact ⟨rfl, BL.out⟩
    have l1 : decide ((k : Int) < 8) = true := decide_eq_true (by omega)
    have l2 : decide (k < 8) = true := decide_eq_true hlt
    have HK := Lib.hid hlt
    obtain ⟨a1, c1, hsel1, hit1⟩ := MS1.out.2.2.2 k hlt
    obtain ⟨a2, c2, hsel2, hit2⟩ := MS2.out.2.2.2 k hlt
    have r0 := fun d os => cell_regrown (bxk HAl.out hlt hsel1) d os
    have r1 := fun d os => cell_regrown (bxk HBl.out hlt hsel2) d os
    have G1 := Lib.hid (regrown_bel (w := wl) fun w' hw' => rsame8_any _ _ _ _ w' (it_below hit1 (BR.out.trans (hw'.mono BR.out.size))) (it_below hit2 (BR.out.trans (hw'.mono BR.out.size))))
    have p0 : (0 : Int) ≤ (k : Int) := by omega
    have p1 : (k : Int) < 8 := by omega
    have p2 := hlt
    obtain ⟨L1, hL1⟩ : ∃ z, z = ms m1 k := ⟨_, rfl⟩
    obtain ⟨L2, hL2⟩ : ∃ z, z = ms m2 k := ⟨_, rfl⟩
    rw [← hL1] at r0 G1
    rw [← hL2] at r1 G1
    have HLL := Lib.hid (And.intro hL1 hL2)
    clear hsel1 hit1 hsel2 hit2 hlt hk hL1 hL2
    by_cases hc : L1 = L2
    case neg =>
      have hqf : q = false := by rw [HQ.out]; exact decide_eq_false fun h => hc (by rw [HLL.out.1, HLL.out.2]; unfold ms; rw [h.1])
      rw [decide_eq_false hc] at G1
      clear hc HO
      subst hqf
      generalize L1.length = n1 at *
      generalize L2.length = n2 at *
      go_upto_region 4 with fail
      clear l1 l2
      refine wp_region_bl (by kernel_rfl) (by kernel_rfl) ?_
      iterate 8 (go_big_quiet_step (fail))
      go_big_quiet_step ((go_at_call 20; exact G1.out _ _))
      repeat (go_big_quiet_step (fail))
      refine wpQuiet_nil ?_
      intro w5 hb
      have B5 := Lib.hid (BR.out.trans (hb.mono BR.out.size))
      clear hb r0 r1 G1
      go_wp2_with fail
      go_ret
      exact ⟨rfl, BX.out.trans (B5.out.mono BX.out.size)⟩
    rw [decide_eq_true hc] at G1
    have HO1 := Lib.hid (show ∀ s, s < k + 1 → ms m1 s = ms m2 s from fun s hs => by
      rcases Nat.lt_or_ge s k with h | h
      · exact HO.out s h
      · obtain rfl : s = k := by omega
        rw [← HLL.out.1, ← HLL.out.2, hc])
    clear hc HO
    generalize L1.length = n1 at *
    generalize L2.length = n2 at *
    go_upto_region 4 with fail
    clear l1 l2
    refine wp_region_bl (by kernel_rfl) (by kernel_rfl) ?_
    iterate 8 (go_big_quiet_step (fail))
    go_big_quiet_step ((go_at_call 20; exact G1.out _ _))
    repeat (go_big_quiet_step (fail))
    refine wpQuiet_nil ?_
    intro w5 hb
    have B5 := Lib.hid (BR.out.trans (hb.mono BR.out.size))
    clear hb r0 r1 G1
    go_wp2_with fail
    go_roundw
    case rel =>
      have h1 := HK.out
      exact ⟨k + 1, by omega, rfl, HO1, B5⟩
    case measure =>
      have h1 := HK.out
      simp [intOf]; omega
end Go.Proofs.Ytlooldnaoooehaa.Gf
