/- What is proved here: Valid of the program. -/
import Derived.Test.YtempgcnpfjhacaaP11c
namespace Go.Proofs.Ytempgcnpfjhacaa.Gf
open Go Go.Joins Go.ChangeShapes Go.WideShapes Go.ChangeAt Go.RowKit Go.Deep Go.Proofs.Ytempgcnpfjhacaa.By Go.Proofs.Ytempgcnpfjhacaa.Qt

open Classical in
noncomputable def okMb (m : Mp) : Bool := decide (okM m)
theorem okMb_t {m : Mp} (h : okM m) : okMb m = true := by unfold okMb; exact @decide_eq_true _ (Classical.propDecidable _) h
theorem okMb_f {m : Mp} (h : ¬ okM m) : okMb m = false := by unfold okMb; exact @decide_eq_false _ (Classical.propDecidable _) h
/-- Every stripe ahead of the k-th is in order. -/
def okSt (m : Mp) (k : Nat) : Prop := ∀ s, s < k → okT (ms m s) ∧ ∀ x ∈ ms m s, sp x.key = s
theorem okM_iff {m : Mp} : okM m ↔ okSt m 8 ∧ m.live = byT m.st.flatten ∧ 0 ≤ m.garb ∧ m.garb ≤ 1099511627776 :=
  ⟨fun h => ⟨fun s hs => ⟨h.ok s hs, h.sp s hs⟩, h.live, h.lo, h.hi⟩, fun h => ⟨fun s hs => (h.1 s hs).1, fun s hs => (h.1 s hs).2, h.2.1, h.2.2.1, h.2.2.2⟩⟩
set_option maxRecDepth 100000 in
set_option maxHeartbeats 12800000 in
theorem pvalid11_any (v : Value) (m : Mp) (w : World) (hv : Mv w v m) (hf : Few m) : Calls Try.prog 25 #[v] w fun e w' => e = .returned (.bool (okMb m)) ∧ Below w.heap.size w w' := by
  obtain ⟨s0, s1, s2, s3, s4, s5, s6, s7, rfl, hms⟩ := hv
  have HL := Lib.hid hms.1
  have HF := Lib.hid hf
  have BX := Lib.hid (bel_al w (.cells #[s0, s1, s2, s3, s4, s5, s6, s7, .int .i64 m.live, .int .i64 m.garb] 44))
  have HX := Lib.hid (heap_alloc_new w (.cells #[s0, s1, s2, s3, s4, s5, s6, s7, .int .i64 m.live, .int .i64 m.garb] 44))
  have MS := Lib.hid (ms_below hms BX.out)
  obtain ⟨q, hq⟩ : ∃ q, q = okMb m := ⟨_, rfl⟩
  rw [← hq]
  have HQ := Lib.hid hq
  have SW := Lib.hid (show w.heap.size ≤ (w.alloc (.cells #[s0, s1, s2, s3, s4, s5, s6, s7, .int .i64 m.live, .int .i64 m.garb] 44)).heap.size from BX.out.size)
  clear hms hf hq
  go_enter Try.func25, Try.ntmps25
  go_upto_region 1 with fail
  generalize w.alloc (.cells #[s0, s1, s2, s3, s4, s5, s6, s7, .int .i64 m.live, .int .i64 m.garb] 44) = W1 at *
  obtain ⟨x0, x1, x2, x3, x4, x5, x6, x7, x8, x9⟩ := bx10 HX.out
  go_wp2_with fail
  clear x0 x1 x2 x3 x4 x5 x6 x7 x8 x9
  go_loopw [7] (fun t7 wr => ∃ k : Nat, k ≤ 8 ∧ t7 = .int .i64 (k : Int) ∧ Hid (okSt m k) ∧ Hid (Below W1.heap.size W1 wr)) (fun t _ => 8 - (intOf t).toNat)
  case atStart => exact ⟨0, by omega, rfl, Lib.hid (fun s hs => by omega), Lib.hid (Below.refl _ _)⟩
  case round =>
    obtain ⟨k, hk, rfl, HO, BR⟩ := hrel
    rename World => wl
    by_cases hlt : k < 8
    case neg =>
      have l1 : decide ((k : Int) < 8) = false := decide_eq_false (by omega)
      have l2 : decide (k < 8) = false := decide_eq_false hlt
      have HO8 := Lib.hid (show okSt m 8 by rw [show 8 = k by omega]; exact HO.out)
      clear hlt hk HO
      have HXl := Lib.hid ((BR.out.block _ (lt_of_some HX.out)).trans HX.out)
      have MVl : Mv wl (.agg #[s0, s1, s2, s3, s4, s5, s6, s7, .int .i64 m.live, .int .i64 m.garb]) m := ⟨s0, s1, s2, s3, s4, s5, s6, s7, rfl, ms_below MS.out BR.out⟩
      have BL := Lib.hid (BX.out.trans (BR.out.mono SW.out))
      obtain ⟨x0, x1, x2, x3, x4, x5, x6, x7, x8, x9⟩ := bx10 HXl.out
      have G1 := Lib.hid (regrown_bel (w := wl) fun w' hw' => precords_any _ m w' (mv_below MVl hw') HF.out)
      obtain ⟨S, hS⟩ : ∃ S, S = byT m.st.flatten := ⟨_, rfl⟩
      have hSb : 0 ≤ S ∧ S ≤ 33600000 := by
        have h1 := byT_bd m.st.flatten
        have h2 := flat_len HF.out HL.out 8 (Nat.le_refl _)
        rw [List.take_of_length_le (by have := HL.out; omega)] at h2
        omega
      have fi : floatToIntVal .f64 (flw S) .i64 = some S := int_flw (by omega)
      rw [← hS] at G1
      have HIF := Lib.hid (show okM m ↔ okSt m 8 ∧ m.live = S ∧ 0 ≤ m.garb ∧ m.garb ≤ 1099511627776 by rw [hS]; exact okM_iff)
      obtain ⟨y, hy⟩ : ∃ y, y = flw S := ⟨_, rfl⟩
      obtain ⟨zz, hzz⟩ : ∃ zz, zz = flw 0 := ⟨_, rfl⟩
      rw [← hy] at fi
      rw [← hy, ← hzz] at G1
      have y0 := fun d os => cell_regrown x0 d os
      have y1 := fun d os => cell_regrown x1 d os
      have y2 := fun d os => cell_regrown x2 d os
      have y3 := fun d os => cell_regrown x3 d os
      have y4 := fun d os => cell_regrown x4 d os
      have y5 := fun d os => cell_regrown x5 d os
      have y6 := fun d os => cell_regrown x6 d os
      have y7 := fun d os => cell_regrown x7 d os
      have y8 := fun d os => cell_regrown x8 d os
      have y9 := fun d os => cell_regrown x9 d os
      have HCV := Lib.hid (fun W => run_convert_float_int (P := Try.prog) W 75 2 .f64 .i64 y S rfl Try.underlying2 fi)
      clear x0 x1 x2 x3 x4 x5 x6 x7 x8 x9 hSb hy hzz hS MVl fi
      by_cases c1 : m.live = S
      case neg =>
        have hqf : q = false := by rw [HQ.out]; exact okMb_f fun h => c1 (HIF.out.1 h).2.1
        have l3 : (m.live == S) = false := by simpa using c1
        have l4 : decide (m.live = S) = false := decide_eq_false c1
        clear c1
        subst hqf
        go_upto_region 7 with fail
        refine wp_region_bl (by kernel_rfl) (by kernel_rfl) ?_
        iterate 3 (go_big_quiet_step (fail))
        go_big_quiet_step ((go_at_call 32; exact G1.out _ _))
        have hcv := fun W => HCV.out W
        repeat (go_big_quiet_step (fail))
        refine wpQuiet_nil ?_
        intro w9 hb9
        have B9 := Lib.hid (BL.out.trans (hb9.mono (Nat.le_trans SW.out BR.out.size)))
        clear hb9
        go_wp2_with fail
        go_ret
        exact ⟨rfl, B9.out⟩
      have l3 : (m.live == S) = true := by simpa using c1
      have l4 : decide (m.live = S) = true := decide_eq_true c1
      have l5 : (S == S) = true := by simp
      by_cases c2 : 0 ≤ m.garb
      case neg =>
        have hqf : q = false := by rw [HQ.out]; exact okMb_f fun h => c2 (HIF.out.1 h).2.2.1
        have l6 : decide (0 ≤ m.garb) = false := decide_eq_false c2
        clear c1 c2
        subst hqf
        go_upto_region 7 with fail
        refine wp_region_bl (by kernel_rfl) (by kernel_rfl) ?_
        iterate 3 (go_big_quiet_step (fail))
        go_big_quiet_step ((go_at_call 32; exact G1.out _ _))
        have hcv := fun W => HCV.out W
        repeat (go_big_quiet_step (fail))
        refine wpQuiet_nil ?_
        intro w9 hb9
        have B9 := Lib.hid (BL.out.trans (hb9.mono (Nat.le_trans SW.out BR.out.size)))
        clear hb9
        go_wp2_with fail
        go_ret
        exact ⟨rfl, B9.out⟩
      have l6 : decide (0 ≤ m.garb) = true := decide_eq_true c2
      by_cases c3 : m.garb ≤ 1099511627776
      case neg =>
        have hqf : q = false := by rw [HQ.out]; exact okMb_f fun h => c3 (HIF.out.1 h).2.2.2
        have l7 : decide (m.garb ≤ 1099511627776) = false := decide_eq_false c3
        clear c1 c2 c3
        subst hqf
        go_upto_region 7 with fail
        refine wp_region_bl (by kernel_rfl) (by kernel_rfl) ?_
        iterate 3 (go_big_quiet_step (fail))
        go_big_quiet_step ((go_at_call 32; exact G1.out _ _))
        have hcv := fun W => HCV.out W
        repeat (go_big_quiet_step (fail))
        refine wpQuiet_nil ?_
        intro w9 hb9
        have B9 := Lib.hid (BL.out.trans (hb9.mono (Nat.le_trans SW.out BR.out.size)))
        clear hb9
        go_wp2_with fail
        go_ret
        exact ⟨rfl, B9.out⟩
      have hqt : q = true := by rw [HQ.out]; exact okMb_t (HIF.out.2 ⟨HO8.out, c1, c2, c3⟩)
      have l7 : decide (m.garb ≤ 1099511627776) = true := decide_eq_true c3
      clear c1 c2 c3
      subst hqt
      go_upto_region 7 with fail
      refine wp_region_bl (by kernel_rfl) (by kernel_rfl) ?_
      iterate 3 (go_big_quiet_step (fail))
      go_big_quiet_step ((go_at_call 32; exact G1.out _ _))
      have hcv := fun W => HCV.out W
      repeat (go_big_quiet_step (fail))
      refine wpQuiet_nil ?_
      intro w9 hb9
      have B9 := Lib.hid (BL.out.trans (hb9.mono (Nat.le_trans SW.out BR.out.size)))
      clear hb9
      go_wp2_with fail
      go_ret
      exact ⟨rfl, B9.out⟩
    have l1 : decide ((k : Int) < 8) = true := decide_eq_true (by omega)
    have l2 : decide (k < 8) = true := decide_eq_true hlt
    have HK := Lib.hid hlt
    have EK := Lib.hid (show wrap64 ((k : Int) + 1) = ((k + 1 : Nat) : Int) by unfold wrap64; omega)
    obtain ⟨a, c, hsel, hit⟩ := MS.out.2.2.2 k hlt
    obtain ⟨L, hL⟩ : ∃ z, z = ms m k := ⟨_, rfl⟩
    have hln := HF.out k hlt
    rw [← hL] at hsel hit hln
    have IT := Lib.hid (it_below hit BR.out)
    have PV := Lib.hid (pvalid8_any _ L wl IT.out)
    have PB := Lib.hid (fun W h => pbelong_any _ L k W (it_below IT.out h) (by omega))
    obtain ⟨n, hn⟩ : ∃ z, z = L.length := ⟨_, rfl⟩
    rw [← hn] at hsel PV PB
    have HML := Lib.hid hL
    have hix := run_index8 wl hlt hsel
    clear hsel hit hL hn hlt hk hln IT
    by_cases c1 : okT L
    case neg =>
      have hqf : q = false := by rw [HQ.out]; exact okMb_f fun h => c1 (by rw [HML.out]; exact h.ok k HK.out)
      rw [decide_eq_false c1] at PV
      clear c1
      subst hqf
      go_wp2_with fail
      refine PV.out.mono ?_
      rintro e w2 ⟨rfl, hb⟩
      have B2 := Lib.hid (BX.out.trans ((BR.out.trans (hb.mono BR.out.size)).mono SW.out))
      clear hb
      go_wp2_with fail
      go_ret
      exact ⟨rfl, B2.out⟩
    rw [decide_eq_true c1] at PV
    by_cases c2 : ∀ x ∈ L, sp x.key = k
    case neg =>
      have hqf : q = false := by rw [HQ.out]; exact okMb_f fun h => c2 (by rw [HML.out]; exact h.sp k HK.out)
      rw [decide_eq_false c2] at PB
      clear c1 c2
      subst hqf
      go_wp2_with fail
      refine PV.out.mono ?_
      rintro e w2 ⟨rfl, hb⟩
      have PB2 := Lib.hid (PB.out w2 hb)
      have B1 := Lib.hid (BR.out.trans (hb.mono BR.out.size))
      clear hb hix
      go_wp2_with fail
      refine PB2.out.mono ?_
      rintro e w3 ⟨rfl, hb⟩
      have B2 := Lib.hid (BX.out.trans ((B1.out.trans (hb.mono B1.out.size)).mono SW.out))
      clear hb
      go_wp2_with fail
      go_ret
      exact ⟨rfl, B2.out⟩
    rw [decide_eq_true c2] at PB
    have HO1 := Lib.hid (show okSt m (k + 1) from fun s hs => by
      rcases Nat.lt_or_ge s k with h | h
      · exact HO.out s h
      · obtain rfl : s = k := by omega
        rw [← HML.out]
        exact ⟨c1, c2⟩)
    clear c1 c2 HO
    go_wp2_with fail
    refine PV.out.mono ?_
    rintro e w2 ⟨rfl, hb⟩
    have PB2 := Lib.hid (PB.out w2 hb)
    have B1 := Lib.hid (BR.out.trans (hb.mono BR.out.size))
    clear hb hix
    go_wp2_with fail
    refine PB2.out.mono ?_
    rintro e w3 ⟨rfl, hb⟩
    have B2 := Lib.hid (B1.out.trans (hb.mono B1.out.size))
    clear hb
    go_wp2_with fail
    go_roundw
    case rel =>
      have h1 := HK.out
      exact ⟨k + 1, by omega, by rw [EK.out], HO1, B2⟩
    case measure =>
      have h1 := HK.out
      rw [EK.out]
      simp [intOf]; omega
end Go.Proofs.Ytempgcnpfjhacaa.Gf
