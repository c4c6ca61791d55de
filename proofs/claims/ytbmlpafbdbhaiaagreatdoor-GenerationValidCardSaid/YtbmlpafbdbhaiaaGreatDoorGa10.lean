/- What is proved here: the walk of GenerationValid. -/
import Derived.Test.YtbmlpafbdbhaiaaGreatDoorGa9
import Derived.Test.YtbmlpafbdbhaiaaGreatDoorGw3
namespace Go.Proofs.YtbmlpafbdbhaiaaGreatDoor.Gf
open Go Go.Joins Go.ChangeShapes Go.WideShapes Go.ChangeAt Go.RowKit Go.Deep Go.Proofs.YtbmlpafbdbhaiaaGreatDoor.By Go.Proofs.YtbmlpafbdbhaiaaGreatDoor.Qt
set_option maxRecDepth 100000
set_option maxHeartbeats 204800000
theorem tmod_j {x n : Int} (hn : 0 < n ∧ n ≤ 1000) : J64 (x.tmod n) := by
  unfold J64
  rcases Int.le_total 0 x with h | h
  · rw [Int.tmod_eq_emod_of_nonneg h]
    have h1 := Int.emod_lt_of_pos x hn.1
    have h2 := Int.emod_nonneg x (show n ≠ 0 by omega)
    omega
  · obtain ⟨y, rfl⟩ : ∃ y, x = -y := ⟨-x, by omega⟩
    rw [Int.neg_tmod, Int.tmod_eq_emod_of_nonneg (by omega)]
    have h1 := Int.emod_lt_of_pos y hn.1
    have h2 := Int.emod_nonneg y (show n ≠ 0 by omega)
    omega
theorem valid_walk (vr : Value) (raw : Ge) (v1 : Value) (n1 : Nat) (md wh by_ : Int) (w : World) (s0 : Gv w vr raw) (s1 : Nr w v1 n1) (hby : J64 by_) (hsw : StrW w) : Calls Tryz.prog 4 #[vr, v1, .int .i64 md, .int .i64 wh, .int .i64 by_] w fun e w' => e = .returned (.bool true) ∧ Below w.heap.size w w' := by
  obtain ⟨L, hL⟩ := ni_of_nr s1
  obtain ⟨r0, r1, r2, r3, r4, r5, r6, r7, rfl, hmr, hjr⟩ := s0
  have q0 := bel_al w (.cells #[.int .i64 raw.num, .int .i64 raw.rev, .int .i64 raw.mode, .int .i64 raw.size, r0, r1, r2, r3, r4, r5, r6, r7, .int .i64 raw.m.live, .int .i64 raw.m.garb] 43)
  have HXR0 := Lh (heap_alloc_new w (.cells #[.int .i64 raw.num, .int .i64 raw.rev, .int .i64 raw.mode, .int .i64 raw.size, r0, r1, r2, r3, r4, r5, r6, r7, .int .i64 raw.m.live, .int .i64 raw.m.garb] 43))
  have B0 := Lh q0
  have MSR0 := Lh (ms_below hmr q0)
  have HJR := Lh hjr
  have NI0 := Lh (ni_belowL hL q0)
  have HSW := Lh (strW_below hsw q0)
  have HSWw := Lh hsw
  have HBY := Lh hby
  clear q0 hmr hjr hL hsw hby s1
  go_enter Tryz.func4, Tryz.ntmps4
  go_upto_region 1 with fail
  generalize w.alloc (.cells #[.int .i64 raw.num, .int .i64 raw.rev, .int .i64 raw.mode, .int .i64 raw.size, r0, r1, r2, r3, r4, r5, r6, r7, .int .i64 raw.m.live, .int .i64 raw.m.garb] 43) = W0 at *
  obtain ⟨x0, x1, x2, x3, x4, x5, x6, x7, x8, x9, x10, x11, x12, x13⟩ := bx14 HXR0.out
  go_wp2_with fail
  clear x0 x1 x2 x3 x4 x5 x6 x7 x8 x9 x10 x11 x12 x13
  refine (light12_any (.agg #[.int .i64 raw.num, .int .i64 raw.rev, .int .i64 raw.mode, .int .i64 raw.size, r0, r1, r2, r3, r4, r5, r6, r7, .int .i64 raw.m.live, .int .i64 raw.m.garb]) raw W0 ⟨r0, r1, r2, r3, r4, r5, r6, r7, rfl, MSR0.out, HJR.out⟩).mono ?_
  rintro e W1 ⟨⟨lq, rfl, hlq⟩, hb⟩
  have HB5a := Lh (show BxG W1 w.heap.size 43 raw from bxG_below ⟨r0, r1, r2, r3, r4, r5, r6, r7, HXR0.out, MSR0.out, HJR.out⟩ hb)
  have B1 := Lh (B0.out.trans (hb.mono B0.out.size))
  have NI1 := Lh (ni_belowL NI0.out hb)
  have HSW1 := Lh (strW_below HSW.out hb)
  clear hb B0 NI0 HSW HXR0 MSR0
  cases lq
  case false =>
    go_wp2_with fail
    refine (awake12_any W1 HSW1.out).mono ?_
    rintro e W2 ⟨rfl, hb⟩
    have B2 := Lh (B1.out.trans (hb.mono B1.out.size))
    go_wp2_with fail
    go_ret
    exact ⟨rfl, B2.out⟩
  have HLR := Lh (lge_light (hlq rfl)).1
  clear hlq
  go_wp2_with fail
  refine (made12_x v1 L md W1 NI1.out).mono ?_
  rintro e W2 ⟨⟨v, g, rfl, hgv, hok, -⟩, hb⟩
  obtain ⟨s0, s1, s2, s3, s4, s5, s6, s7, hv, hm, hj⟩ := hgv
  subst hv
  have HOM := Lh hok
  have MS := Lh hm
  have HJ := Lh hj
  have ON := Lh (gc_one hm)
  have HB5b := Lh (bxG_below HB5a.out hb)
  have B2 := Lh (B1.out.trans (hb.mono B1.out.size))
  have hz := heap_alloc_new W2 (.cells #[.int .i64 0, .int .i64 0, .int .i64 0, .int .i64 0, .slice none 0 0, .slice none 0 0, .slice none 0 0, .slice none 0 0, .slice none 0 0, .slice none 0 0, .slice none 0 0, .slice none 0 0, .int .i64 0, .int .i64 0] 43)
  clear hb hm hj hok HB5a B1 NI1 HSW1
  go_upto_region 4 with ((with_reducible refine storeRG W2.heap.size _ #[.int .i64 g.num, .int .i64 g.rev, .int .i64 g.mode, .int .i64 g.size, s0, s1, s2, s3, s4, s5, s6, s7, .int .i64 g.m.live, .int .i64 g.m.garb] ?_ ?_ hz rfl rfl ON.out ?_); exact rfl; exact rfl)
  rw [World.setRow_alloc_new]
  have hb := bel_al W2 (.cells #[.int .i64 g.num, .int .i64 g.rev, .int .i64 g.mode, .int .i64 g.size, s0, s1, s2, s3, s4, s5, s6, s7, .int .i64 g.m.live, .int .i64 g.m.garb] 43)
  have HX11 := Lh (heap_alloc_new W2 (.cells #[.int .i64 g.num, .int .i64 g.rev, .int .i64 g.mode, .int .i64 g.size, s0, s1, s2, s3, s4, s5, s6, s7, .int .i64 g.m.live, .int .i64 g.m.garb] 43))
  have MS3 := Lh (ms_below MS.out hb)
  have HB5c := Lh (bxG_below HB5b.out hb)
  have B3 := Lh (B2.out.trans (hb.mono B2.out.size))
  clear hb hz MS HB5b B2
  generalize W2.alloc (.cells #[.int .i64 g.num, .int .i64 g.rev, .int .i64 g.mode, .int .i64 g.size, s0, s1, s2, s3, s4, s5, s6, s7, .int .i64 g.m.live, .int .i64 g.m.garb] 43) = W3 at *
  generalize W2.heap.size = p11 at *
  obtain ⟨x0, x1, x2, x3, x4, x5, x6, x7, x8, x9, x10, x11, x12, x13⟩ := bx14 HX11.out
  go_wp2_with fail
  clear x0 x1 x2 x3 x4 x5 x6 x7 x8 x9 x10 x11 x12 x13
  refine (given12_any (.agg #[.int .i64 g.num, .int .i64 g.rev, .int .i64 g.mode, .int .i64 g.size, s0, s1, s2, s3, s4, s5, s6, s7, .int .i64 g.m.live, .int .i64 g.m.garb]) g W3 ⟨s0, s1, s2, s3, s4, s5, s6, s7, rfl, MS3.out, HJ.out⟩).mono ?_
  rintro e W4 ⟨rfl, hb⟩
  have HX11b := Lh ((hb.block _ (lt_of_some HX11.out)).trans HX11.out)
  have MS4 := Lh (ms_below MS3.out hb)
  have HB5d := Lh (bxG_below HB5c.out hb)
  have B4 := Lh (B3.out.trans (hb.mono B3.out.size))
  clear hb HX11 MS3 HB5c B3
  go_wp2_with fail
  refine (pgvalid_any (.agg #[.int .i64 g.num, .int .i64 g.rev, .int .i64 g.mode, .int .i64 g.size, s0, s1, s2, s3, s4, s5, s6, s7, .int .i64 g.m.live, .int .i64 g.m.garb]) g W4 ⟨s0, s1, s2, s3, s4, s5, s6, s7, rfl, MS4.out, HJ.out⟩ HOM.out.lge.1 (Nat.le_trans HOM.out.lge.2 (by decide))).mono ?_
  rintro e W5 ⟨rfl, hb⟩
  rw [okGb_t HOM.out.ok]
  have HX11c := Lh ((hb.block _ (lt_of_some HX11b.out)).trans HX11b.out)
  have MS5 := Lh (ms_below MS4.out hb)
  have HB5e := Lh (bxG_below HB5d.out hb)
  have B5 := Lh (B4.out.trans (hb.mono B4.out.size))
  have hz := heap_alloc_new W5 (.cells #[.int .i64 0, .int .i64 0, .int .i64 0, .int .i64 0, .slice none 0 0, .slice none 0 0, .slice none 0 0, .slice none 0 0, .slice none 0 0, .slice none 0 0, .slice none 0 0, .slice none 0 0, .int .i64 0, .int .i64 0] 43)
  clear hb HX11b MS4 HB5d B4
  obtain ⟨x0, x1, x2, x3, x4, x5, x6, x7, x8, x9, x10, x11, x12, x13⟩ := bx14 HX11c.out
  go_upto_region 7 with ((with_reducible refine storeRG W5.heap.size _ #[.int .i64 g.num, .int .i64 g.rev, .int .i64 g.mode, .int .i64 g.size, s0, s1, s2, s3, s4, s5, s6, s7, .int .i64 g.m.live, .int .i64 g.m.garb] ?_ ?_ hz rfl rfl ON.out ?_); exact rfl; exact rfl)
  rw [World.setRow_alloc_new]
  clear x0 x1 x2 x3 x4 x5 x6 x7 x8 x9 x10 x11 x12 x13
  have hb := bel_al W5 (.cells #[.int .i64 g.num, .int .i64 g.rev, .int .i64 g.mode, .int .i64 g.size, s0, s1, s2, s3, s4, s5, s6, s7, .int .i64 g.m.live, .int .i64 g.m.garb] 43)
  have HX12 := Lh (heap_alloc_new W5 (.cells #[.int .i64 g.num, .int .i64 g.rev, .int .i64 g.mode, .int .i64 g.size, s0, s1, s2, s3, s4, s5, s6, s7, .int .i64 g.m.live, .int .i64 g.m.garb] 43))
  have MS12 := Lh (ms_below MS5.out hb)
  have HB5 := Lh (bxG_below HB5e.out hb)
  have HNE := Lh (show w.heap.size ≠ W5.heap.size from Nat.ne_of_lt (bxG_lt HB5e.out))
  have HGB := Lh (show w.heap.size ≤ W5.heap.size from B5.out.size)
  have B6 := Lh (B5.out.trans (hb.mono B5.out.size))
  clear hb hz MS5 HB5e B5 HX11c
  generalize W5.alloc (.cells #[.int .i64 g.num, .int .i64 g.rev, .int .i64 g.mode, .int .i64 g.size, s0, s1, s2, s3, s4, s5, s6, s7, .int .i64 g.m.live, .int .i64 g.m.garb] 43) = W6 at *
  generalize W5.heap.size = p12 at *
  have HB12 := Lh (show BxG W6 p12 43 g from ⟨s0, s1, s2, s3, s4, s5, s6, s7, HX12.out, MS12.out, HJ.out⟩)
  have HLG := Lh HOM.out.lge
  have HFL := Lh HOM.out.fl
  obtain ⟨r6, hr6⟩ : ∃ z, z = wh.tmod 6 := ⟨_, rfl⟩
  obtain ⟨q, hq⟩ : ∃ z, z = (r6 + 6).tmod 6 := ⟨_, rfl⟩
  have hrb : -6 < r6 ∧ r6 < 6 := by
    rw [hr6]
    have h1 := Int.tmod_lt_of_pos wh (show (0 : Int) < 6 by decide)
    have h2 := Int.lt_tmod_of_pos wh (show (0 : Int) < 6 by decide)
    omega
  have hqb : 0 ≤ q ∧ q < 6 := by
    rw [hq]
    exact ⟨Int.tmod_nonneg _ (by omega), Int.tmod_lt_of_pos _ (by decide)⟩
  have e1 : wh.tmod 6 = r6 := hr6.symm
  have e2 : wrap64 (r6 + 6) = r6 + 6 := by unfold wrap64; omega
  have e3 : (r6 + 6).tmod 6 = q := hq.symm
  clear hr6 hq hrb
  go_cut [32] from 29 to 32 (fun u32 wz => u32 = .int .i64 q ∧ wz = W6)
  case first =>
    go_wp2_with fail
    go_meet
    exact ⟨rfl, rfl⟩
  case rest =>
  obtain ⟨rfl, rfl⟩ := hcut
  rename World => W6
  clear e1 e2 e3
  rename ∀ (_ : Act) (_ : World), _ → _ => hKK
  refine hKK _ _ ?_
  clear hKK
  go_cut [] from 33 to 76 (fun wz => ∃ h : Ge, Hid (BxG wz p12 43 h) ∧ Hid (LGe h) ∧ Hid (BxG wz w.heap.size 43 raw) ∧ Hid (Below w.heap.size w wz))
  case first =>
    have hqc : q = 0 ∨ q = 1 ∨ q = 2 ∨ q = 3 ∨ q = 4 ∨ q = 5 := by omega
    clear hqb
    rcases hqc with rfl | rfl | rfl | rfl | rfl | rfl
    · obtain ⟨a, ha⟩ : ∃ a, a = by_.tmod 40 := ⟨_, rfl⟩
      obtain ⟨z, hz⟩ : ∃ z, z = wrap64 (g.size + a) := ⟨_, rfl⟩
      have HZ := Lh (And.intro ha.symm hz.symm)
      have HJZ := Lh (show J64 z from by rw [hz]; exact w64_jA _)
      clear ha hz
      obtain ⟨x0, x1, x2, x3, x4, x5, x6, x7, x8, x9, x10, x11, x12, x13⟩ := bx14 HX12.out
      have f3 := frozen_of_row _ p12 3 _ _ HX12.out
      have e1 := HZ.out.1
      have e2 := HZ.out.2
      go_wp2_with fail
      go_meet
      have e9 := setCell_eq_setRow W6 p12 3 _ _ _ (.int .i64 z) HX12.out
      have hs : (#[.int .i64 g.num, .int .i64 g.rev, .int .i64 g.mode, .int .i64 g.size, s0, s1, s2, s3, s4, s5, s6, s7, .int .i64 g.m.live, .int .i64 g.m.garb] : Array Value).setIfInBounds 3 (.int .i64 z) = #[.int .i64 g.num, .int .i64 g.rev, .int .i64 g.mode, .int .i64 z, s0, s1, s2, s3, s4, s5, s6, s7, .int .i64 g.m.live, .int .i64 g.m.garb] := rfl
      rw [hs] at e9
      refine ⟨⟨g.num, g.rev, g.mode, z, ⟨g.m.st, g.m.live, g.m.garb⟩⟩, ?_, Lh HLG.out, ?_, ?_⟩
      · rw [e9]
        exact Lh ⟨s0, s1, s2, s3, s4, s5, s6, s7, setRow_heap W6 p12 _ _ _ _ HX12.out, (show Ms (W6.setRow p12 #[.int .i64 g.num, .int .i64 g.rev, .int .i64 g.mode, .int .i64 z, s0, s1, s2, s3, s4, s5, s6, s7, .int .i64 g.m.live, .int .i64 g.m.garb]) [s0, s1, s2, s3, s4, s5, s6, s7] ⟨g.m.st, g.m.live, g.m.garb⟩ from ⟨MS12.out.1, MS12.out.2.1, MS12.out.2.2.1, (ms_setRowF MS12.out HX12.out (gc_u64 MS12.out) (cs := #[.int .i64 g.num, .int .i64 g.rev, .int .i64 g.mode, .int .i64 z, s0, s1, s2, s3, s4, s5, s6, s7, .int .i64 g.m.live, .int .i64 g.m.garb])).2.2.2⟩), ⟨HJ.out.1, HJ.out.2.1, HJ.out.2.2.1, HJZ.out⟩⟩
      · rw [e9]; exact Lh (bxG_set HB5.out HB12.out HNE.out)
      · rw [e9]; exact Lh (below_setRowM B6.out HGB.out _)
    · obtain ⟨z, hz⟩ : ∃ z, z = by_.tmod 12 := ⟨_, rfl⟩
      have HZ := Lh hz.symm
      have HJZ := Lh (show J64 z from by rw [hz]; exact tmod_j (by decide))
      clear hz
      obtain ⟨x0, x1, x2, x3, x4, x5, x6, x7, x8, x9, x10, x11, x12, x13⟩ := bx14 HX12.out
      have f0 := frozen_of_row _ p12 0 _ _ HX12.out
      have e1 := HZ.out
      go_wp2_with fail
      go_meet
      have e9 := setCell_eq_setRow W6 p12 0 _ _ _ (.int .i64 z) HX12.out
      have hs : (#[.int .i64 g.num, .int .i64 g.rev, .int .i64 g.mode, .int .i64 g.size, s0, s1, s2, s3, s4, s5, s6, s7, .int .i64 g.m.live, .int .i64 g.m.garb] : Array Value).setIfInBounds 0 (.int .i64 z) = #[.int .i64 z, .int .i64 g.rev, .int .i64 g.mode, .int .i64 g.size, s0, s1, s2, s3, s4, s5, s6, s7, .int .i64 g.m.live, .int .i64 g.m.garb] := rfl
      rw [hs] at e9
      refine ⟨⟨z, g.rev, g.mode, g.size, ⟨g.m.st, g.m.live, g.m.garb⟩⟩, ?_, Lh HLG.out, ?_, ?_⟩
      · rw [e9]
        exact Lh ⟨s0, s1, s2, s3, s4, s5, s6, s7, setRow_heap W6 p12 _ _ _ _ HX12.out, (show Ms (W6.setRow p12 #[.int .i64 z, .int .i64 g.rev, .int .i64 g.mode, .int .i64 g.size, s0, s1, s2, s3, s4, s5, s6, s7, .int .i64 g.m.live, .int .i64 g.m.garb]) [s0, s1, s2, s3, s4, s5, s6, s7] ⟨g.m.st, g.m.live, g.m.garb⟩ from ⟨MS12.out.1, MS12.out.2.1, MS12.out.2.2.1, (ms_setRowF MS12.out HX12.out (gc_u64 MS12.out) (cs := #[.int .i64 z, .int .i64 g.rev, .int .i64 g.mode, .int .i64 g.size, s0, s1, s2, s3, s4, s5, s6, s7, .int .i64 g.m.live, .int .i64 g.m.garb])).2.2.2⟩), ⟨HJZ.out, HJ.out.2.1, HJ.out.2.2.1, HJ.out.2.2.2⟩⟩
      · rw [e9]; exact Lh (bxG_set HB5.out HB12.out HNE.out)
      · rw [e9]; exact Lh (below_setRowM B6.out HGB.out _)
    · obtain ⟨a, ha⟩ : ∃ a, a = by_.tmod 3 := ⟨_, rfl⟩
      obtain ⟨z, hz⟩ : ∃ z, z = wrap64 (g.m.garb + a) := ⟨_, rfl⟩
      have HZ := Lh (And.intro ha.symm hz.symm)
      have HJZ := Lh (show J64 z from by rw [hz]; exact w64_jA _)
      clear ha hz
      obtain ⟨x0, x1, x2, x3, x4, x5, x6, x7, x8, x9, x10, x11, x12, x13⟩ := bx14 HX12.out
      have f13 := frozen_of_row _ p12 13 _ _ HX12.out
      have e1 := HZ.out.1
      have e2 := HZ.out.2
      go_wp2_with fail
      go_meet
      have e9 := setCell_eq_setRow W6 p12 13 _ _ _ (.int .i64 z) HX12.out
      have hs : (#[.int .i64 g.num, .int .i64 g.rev, .int .i64 g.mode, .int .i64 g.size, s0, s1, s2, s3, s4, s5, s6, s7, .int .i64 g.m.live, .int .i64 g.m.garb] : Array Value).setIfInBounds 13 (.int .i64 z) = #[.int .i64 g.num, .int .i64 g.rev, .int .i64 g.mode, .int .i64 g.size, s0, s1, s2, s3, s4, s5, s6, s7, .int .i64 g.m.live, .int .i64 z] := rfl
      rw [hs] at e9
      refine ⟨⟨g.num, g.rev, g.mode, g.size, ⟨g.m.st, g.m.live, z⟩⟩, ?_, Lh HLG.out, ?_, ?_⟩
      · rw [e9]
        exact Lh ⟨s0, s1, s2, s3, s4, s5, s6, s7, setRow_heap W6 p12 _ _ _ _ HX12.out, (show Ms (W6.setRow p12 #[.int .i64 g.num, .int .i64 g.rev, .int .i64 g.mode, .int .i64 g.size, s0, s1, s2, s3, s4, s5, s6, s7, .int .i64 g.m.live, .int .i64 z]) [s0, s1, s2, s3, s4, s5, s6, s7] ⟨g.m.st, g.m.live, z⟩ from ⟨MS12.out.1, MS12.out.2.1, HJZ.out, (ms_setRowF MS12.out HX12.out (gc_u64 MS12.out) (cs := #[.int .i64 g.num, .int .i64 g.rev, .int .i64 g.mode, .int .i64 g.size, s0, s1, s2, s3, s4, s5, s6, s7, .int .i64 g.m.live, .int .i64 z])).2.2.2⟩), HJ.out⟩
      · rw [e9]; exact Lh (bxG_set HB5.out HB12.out HNE.out)
      · rw [e9]; exact Lh (below_setRowM B6.out HGB.out _)
    · obtain ⟨z, hz⟩ : ∃ z, z = by_.tmod 5 := ⟨_, rfl⟩
      have HZ := Lh hz.symm
      have HJZ := Lh (show J64 z from by rw [hz]; exact tmod_j (by decide))
      clear hz
      obtain ⟨x0, x1, x2, x3, x4, x5, x6, x7, x8, x9, x10, x11, x12, x13⟩ := bx14 HX12.out
      have f2 := frozen_of_row _ p12 2 _ _ HX12.out
      have e1 := HZ.out
      go_wp2_with fail
      go_meet
      have e9 := setCell_eq_setRow W6 p12 2 _ _ _ (.int .i64 z) HX12.out
      have hs : (#[.int .i64 g.num, .int .i64 g.rev, .int .i64 g.mode, .int .i64 g.size, s0, s1, s2, s3, s4, s5, s6, s7, .int .i64 g.m.live, .int .i64 g.m.garb] : Array Value).setIfInBounds 2 (.int .i64 z) = #[.int .i64 g.num, .int .i64 g.rev, .int .i64 z, .int .i64 g.size, s0, s1, s2, s3, s4, s5, s6, s7, .int .i64 g.m.live, .int .i64 g.m.garb] := rfl
      rw [hs] at e9
      refine ⟨⟨g.num, g.rev, z, g.size, ⟨g.m.st, g.m.live, g.m.garb⟩⟩, ?_, Lh HLG.out, ?_, ?_⟩
      · rw [e9]
        exact Lh ⟨s0, s1, s2, s3, s4, s5, s6, s7, setRow_heap W6 p12 _ _ _ _ HX12.out, (show Ms (W6.setRow p12 #[.int .i64 g.num, .int .i64 g.rev, .int .i64 z, .int .i64 g.size, s0, s1, s2, s3, s4, s5, s6, s7, .int .i64 g.m.live, .int .i64 g.m.garb]) [s0, s1, s2, s3, s4, s5, s6, s7] ⟨g.m.st, g.m.live, g.m.garb⟩ from ⟨MS12.out.1, MS12.out.2.1, MS12.out.2.2.1, (ms_setRowF MS12.out HX12.out (gc_u64 MS12.out) (cs := #[.int .i64 g.num, .int .i64 g.rev, .int .i64 z, .int .i64 g.size, s0, s1, s2, s3, s4, s5, s6, s7, .int .i64 g.m.live, .int .i64 g.m.garb])).2.2.2⟩), ⟨HJ.out.1, HJ.out.2.1, HJZ.out, HJ.out.2.2.2⟩⟩
      · rw [e9]; exact Lh (bxG_set HB5.out HB12.out HNE.out)
      · rw [e9]; exact Lh (below_setRowM B6.out HGB.out _)
    · obtain ⟨x0, x1, x2, x3, x4, x5, x6, x7, x8, x9, x10, x11, x12, x13⟩ := bx14 HX12.out
      have f1 := frozen_of_row _ p12 1 _ _ HX12.out
      go_wp2_with fail
      go_meet
      have e9 := setCell_eq_setRow W6 p12 1 _ _ _ (.int .i64 by_) HX12.out
      have hs : (#[.int .i64 g.num, .int .i64 g.rev, .int .i64 g.mode, .int .i64 g.size, s0, s1, s2, s3, s4, s5, s6, s7, .int .i64 g.m.live, .int .i64 g.m.garb] : Array Value).setIfInBounds 1 (.int .i64 by_) = #[.int .i64 g.num, .int .i64 by_, .int .i64 g.mode, .int .i64 g.size, s0, s1, s2, s3, s4, s5, s6, s7, .int .i64 g.m.live, .int .i64 g.m.garb] := rfl
      rw [hs] at e9
      refine ⟨⟨g.num, by_, g.mode, g.size, ⟨g.m.st, g.m.live, g.m.garb⟩⟩, ?_, Lh HLG.out, ?_, ?_⟩
      · rw [e9]
        exact Lh ⟨s0, s1, s2, s3, s4, s5, s6, s7, setRow_heap W6 p12 _ _ _ _ HX12.out, (show Ms (W6.setRow p12 #[.int .i64 g.num, .int .i64 by_, .int .i64 g.mode, .int .i64 g.size, s0, s1, s2, s3, s4, s5, s6, s7, .int .i64 g.m.live, .int .i64 g.m.garb]) [s0, s1, s2, s3, s4, s5, s6, s7] ⟨g.m.st, g.m.live, g.m.garb⟩ from ⟨MS12.out.1, MS12.out.2.1, MS12.out.2.2.1, (ms_setRowF MS12.out HX12.out (gc_u64 MS12.out) (cs := #[.int .i64 g.num, .int .i64 by_, .int .i64 g.mode, .int .i64 g.size, s0, s1, s2, s3, s4, s5, s6, s7, .int .i64 g.m.live, .int .i64 g.m.garb])).2.2.2⟩), ⟨HJ.out.1, HBY.out, HJ.out.2.2.1, HJ.out.2.2.2⟩⟩
      · rw [e9]; exact Lh (bxG_set HB5.out HB12.out HNE.out)
      · rw [e9]; exact Lh (below_setRowM B6.out HGB.out _)
    · obtain ⟨a, ha⟩ : ∃ a, a = bits .and .i64 by_ 15 := ⟨_, rfl⟩
      have ha2 : a = by_ % 16 := by rw [ha]; exact and_lowI by_ 4 (by decide)
      obtain ⟨z, hz⟩ : ∃ z : Int, z = 16 + 8 * a := ⟨_, rfl⟩
      have e1 : bits .and .i64 by_ 15 = a := ha.symm
      have e2 : wrap64 (8 * a) = 8 * a := by unfold wrap64; omega
      have e3 : wrap64 (16 + 8 * a) = z := by rw [hz]; unfold wrap64; omega
      have HJZ := Lh (show J64 z from by unfold J64; omega)
      clear ha ha2 hz
      obtain ⟨x0, x1, x2, x3, x4, x5, x6, x7, x8, x9, x10, x11, x12, x13⟩ := bx14 HX12.out
      go_wp2_with fail
      clear x0 x1 x2 x3 x4 x5 x6 x7 x8 x9 x10 x11 x12 x13 e1 e2 e3
      refine (rput11_any (.agg #[s0, s1, s2, s3, s4, s5, s6, s7, .int .i64 g.m.live, .int .i64 g.m.garb]) g.m ⟨99, 0, z, 0⟩ W6 ⟨s0, s1, s2, s3, s4, s5, s6, s7, rfl, MS12.out⟩ HLG.out.1 HLG.out.2 ⟨(by show (99 : Nat) < _; decide), (by show (0 : Nat) < _; decide), HJZ.out, (by show J64 0; unfold J64; decide)⟩).mono ?_
      rintro e V ⟨⟨vx, rfl, hv⟩, hb⟩
      obtain ⟨t0, t1, t2, t3, t4, t5, t6, t7, rfl, hms⟩ := hv
      have HXv := Lh ((hb.block _ (lt_of_some HX12.out)).trans HX12.out)
      have HB5v := Lh (bxG_below HB5.out hb)
      have Bv := Lh (B6.out.trans (hb.mono B6.out.size))
      have ON := Lh (ms_one hms (putM g.m ⟨99, 0, z, 0⟩).live (putM g.m ⟨99, 0, z, 0⟩).garb)
      have HXG := Lh (show BxG V p12 43 g from ⟨s0, s1, s2, s3, s4, s5, s6, s7, HXv.out, ms_below MS12.out hb, HJ.out⟩)
      have hw9 : V.setCells p12 4 (#[t0, t1, t2, t3, t4, t5, t6, t7, .int .i64 (putM g.m ⟨99, 0, z, 0⟩).live, .int .i64 (putM g.m ⟨99, 0, z, 0⟩).garb] : Array Value).toList = V.setRow p12 #[.int .i64 g.num, .int .i64 g.rev, .int .i64 g.mode, .int .i64 g.size, t0, t1, t2, t3, t4, t5, t6, t7, .int .i64 (putM g.m ⟨99, 0, z, 0⟩).live, .int .i64 (putM g.m ⟨99, 0, z, 0⟩).garb] := setMap HXv.out
      have MS2 := Lh (ms_setRowF hms HXv.out (gc_u64 (g := g) (ms_below MS12.out hb)) (cs := #[.int .i64 g.num, .int .i64 g.rev, .int .i64 g.mode, .int .i64 g.size, t0, t1, t2, t3, t4, t5, t6, t7, .int .i64 (putM g.m ⟨99, 0, z, 0⟩).live, .int .i64 (putM g.m ⟨99, 0, z, 0⟩).garb]))
      have HFX := Lh (fl_put (n := 10) HFL.out ⟨99, 0, z, 0⟩)
      clear hb
      go_wp2_with ((with_reducible refine storeRM p12 _ #[t0, t1, t2, t3, t4, t5, t6, t7, .int .i64 (putM g.m ⟨99, 0, z, 0⟩).live, .int .i64 (putM g.m ⟨99, 0, z, 0⟩).garb] ?_ ?_ HXv.out rfl rfl ON.out hw9 ?_); exact rfl; exact rfl)
      go_meet
      exact ⟨⟨g.num, g.rev, g.mode, g.size, (putM g.m ⟨99, 0, z, 0⟩)⟩, Lh ⟨t0, t1, t2, t3, t4, t5, t6, t7, setRow_heap V p12 _ _ _ _ HXv.out, MS2.out, HJ.out⟩, Lh ⟨few_of MS2.out.1 (Nat.le_trans HFX.out (by decide)), Nat.le_trans HFX.out (by decide)⟩, Lh (bxG_set HB5v.out HXG.out HNE.out), Lh (below_setRowM Bv.out HGB.out _)⟩
  case rest =>
    obtain ⟨h, HB12, HLH, HB5, B8⟩ := hcut
    rename World => W8
    go_wp2_with fail
    refine (pfresh_any by_ W8).mono ?_
    rintro e Va ⟨⟨vx, rfl, hgx⟩, hb⟩
    obtain ⟨fc, hfc⟩ : ∃ z : Int, z = (if 1 ≤ by_ ∧ by_ ≤ 8 then 0 else 1) := ⟨_, rfl⟩
    obtain ⟨fg, hfg⟩ : ∃ z : Ge, z = (if 1 ≤ by_ ∧ by_ ≤ 8 then frG by_ else g0) := ⟨_, rfl⟩
    rw [← hfg] at hgx
    rw [← hfc]
    have HFC := Lh hfc
    have HFG := Lh hfg
    clear hfc hfg
    obtain ⟨u0, u1, u2, u3, u4, u5, u6, u7, hvx, hm, hj⟩ := hgx
    subst hvx
    replace HB5 := Lh (bxG_below HB5.out hb)
    replace HB12 := Lh (bxG_below HB12.out hb)
    replace B8 := Lh (B8.out.trans (hb.mono B8.out.size))
    have ONF := Lh (gc_one hm)
    have MSF := Lh hm
    have HJF := Lh hj
    have hz := heap_alloc_new Va (.cells #[.int .i64 0, .int .i64 0, .int .i64 0, .int .i64 0, .slice none 0 0, .slice none 0 0, .slice none 0 0, .slice none 0 0, .slice none 0 0, .slice none 0 0, .slice none 0 0, .slice none 0 0, .int .i64 0, .int .i64 0] 50)
    clear hb hm hj
    go_upto_region 21 with ((with_reducible refine storeG Va.heap.size _ #[.int .i64 fg.num, .int .i64 fg.rev, .int .i64 fg.mode, .int .i64 fg.size, u0, u1, u2, u3, u4, u5, u6, u7, .int .i64 fg.m.live, .int .i64 fg.m.garb] ?_ ?_ hz rfl rfl ONF.out ?_); exact rfl; exact rfl)
    rw [World.setRow_alloc_new]
    have hb := bel_al Va (.cells #[.int .i64 fg.num, .int .i64 fg.rev, .int .i64 fg.mode, .int .i64 fg.size, u0, u1, u2, u3, u4, u5, u6, u7, .int .i64 fg.m.live, .int .i64 fg.m.garb] 50)
    have HXF := Lh (heap_alloc_new Va (.cells #[.int .i64 fg.num, .int .i64 fg.rev, .int .i64 fg.mode, .int .i64 fg.size, u0, u1, u2, u3, u4, u5, u6, u7, .int .i64 fg.m.live, .int .i64 fg.m.garb] 50))
    have MSF2 := Lh (ms_below MSF.out hb)
    replace HB5 := Lh (bxG_below HB5.out hb)
    replace HB12 := Lh (bxG_below HB12.out hb)
    replace B8 := Lh (B8.out.trans (hb.mono B8.out.size))
    clear hb hz ONF MSF
    generalize Va.alloc (.cells #[.int .i64 fg.num, .int .i64 fg.rev, .int .i64 fg.mode, .int .i64 fg.size, u0, u1, u2, u3, u4, u5, u6, u7, .int .i64 fg.m.live, .int .i64 fg.m.garb] 50) = W20 at *
    generalize Va.heap.size = pf1 at *
    have HXU := HXF
    have MSU := MSF2
    have HJU := HJF
    clear HXF MSF2 HJF
    go_wp2_with fail
    refine (rfresh_any by_ W20).mono ?_
    rintro e Va ⟨⟨vx, rfl, hgx⟩, hb⟩
    rw [← HFG.out] at hgx
    rw [← HFC.out]
    obtain ⟨s0, s1, s2, s3, s4, s5, s6, s7, hvx, hm, hj⟩ := hgx
    subst hvx
    replace HB5 := Lh (bxG_below HB5.out hb)
    replace HB12 := Lh (bxG_below HB12.out hb)
    replace B8 := Lh (B8.out.trans (hb.mono B8.out.size))
    replace HXU := Lh ((hb.block _ (lt_of_some HXU.out)).trans HXU.out)
    replace MSU := Lh (ms_below MSU.out hb)
    have ONF := Lh (gc_one hm)
    have MSF := Lh hm
    have HJF := Lh hj
    have hz := heap_alloc_new Va (.cells #[.int .i64 0, .int .i64 0, .int .i64 0, .int .i64 0, .slice none 0 0, .slice none 0 0, .slice none 0 0, .slice none 0 0, .slice none 0 0, .slice none 0 0, .slice none 0 0, .slice none 0 0, .int .i64 0, .int .i64 0] 43)
    clear hb hm hj
    go_upto_region 22 with ((with_reducible refine storeRG Va.heap.size _ #[.int .i64 fg.num, .int .i64 fg.rev, .int .i64 fg.mode, .int .i64 fg.size, s0, s1, s2, s3, s4, s5, s6, s7, .int .i64 fg.m.live, .int .i64 fg.m.garb] ?_ ?_ hz rfl rfl ONF.out ?_); exact rfl; exact rfl)
    rw [World.setRow_alloc_new]
    have hb := bel_al Va (.cells #[.int .i64 fg.num, .int .i64 fg.rev, .int .i64 fg.mode, .int .i64 fg.size, s0, s1, s2, s3, s4, s5, s6, s7, .int .i64 fg.m.live, .int .i64 fg.m.garb] 43)
    have HXF := Lh (heap_alloc_new Va (.cells #[.int .i64 fg.num, .int .i64 fg.rev, .int .i64 fg.mode, .int .i64 fg.size, s0, s1, s2, s3, s4, s5, s6, s7, .int .i64 fg.m.live, .int .i64 fg.m.garb] 43))
    have MSF2 := Lh (ms_below MSF.out hb)
    replace HB5 := Lh (bxG_below HB5.out hb)
    replace HB12 := Lh (bxG_below HB12.out hb)
    replace B8 := Lh (B8.out.trans (hb.mono B8.out.size))
    replace HXU := Lh ((hb.block _ (lt_of_some HXU.out)).trans HXU.out)
    replace MSU := Lh (ms_below MSU.out hb)
    clear hb hz ONF MSF
    generalize Va.alloc (.cells #[.int .i64 fg.num, .int .i64 fg.rev, .int .i64 fg.mode, .int .i64 fg.size, s0, s1, s2, s3, s4, s5, s6, s7, .int .i64 fg.m.live, .int .i64 fg.m.garb] 43) = W21 at *
    generalize Va.heap.size = pf2 at *
    have HXS := HXF
    have MSS := MSF2
    clear HXF MSF2 HJF
    obtain ⟨r0, r1, r2, r3, r4, r5, r6, r7, hx, hm, hj⟩ := HB5.out
    have HXR := Lh hx
    have MSR := Lh hm
    clear hx hm hj
    obtain ⟨t0, t1, t2, t3, t4, t5, t6, t7, hx, hm, hj⟩ := HB12.out
    have HXH := Lh hx
    have MSH := Lh hm
    have HJH := Lh hj
    have B21 := Lh B8.out
    have HSW21 := Lh (strW_below HSWw.out B21.out)
    clear hx hm hj
    refine wp_onlyN ?_
    refine wp_region_headsS (fun W' => Below W21.heap.size W21 W') [] 29 (by kernel_rfl) (fun _ _ _ _ _ h => h.elim) (by kernel_rfl) (by rfl) (by rfl) (Below.refl W21.heap.size W21).drew ?_
    simp only [pickOps, List.filterMap_nil, List.getElem?_toArray]
    refine wpHeads_nil ?_
    have SF0 := Lh (Below.refl W21.heap.size W21).drew
    generalize W21.drew = E0 at *
    refine tky 0 (.agg #[.int .i64 raw.num, .int .i64 raw.rev, .int .i64 raw.mode, .int .i64 raw.size, r0, r1, r2, r3, r4, r5, r6, r7, .int .i64 raw.m.live, .int .i64 raw.m.garb]) rfl (fun w' hw' => by
      obtain ⟨x0, x1, x2, x3, x4, x5, x6, x7, x8, x9, x10, x11, x12, x13⟩ := bx14 ((hw'.block _ (lt_of_some HXR.out)).trans HXR.out)
      go_simp) SF0.out ?_
    refine tky 3 (.agg #[.int .i64 raw.num, .int .i64 raw.rev, .int .i64 raw.mode, .int .i64 raw.size, r0, r1, r2, r3, r4, r5, r6, r7, .int .i64 raw.m.live, .int .i64 raw.m.garb]) rfl (fun w' hw' => by
      obtain ⟨x0, x1, x2, x3, x4, x5, x6, x7, x8, x9, x10, x11, x12, x13⟩ := bx14 ((hw'.block _ (lt_of_some HXR.out)).trans HXR.out)
      go_simp) SF0.out ?_
    refine gwq 1 fun K hK => ?_
    go_simp
    go_at_call 19
    refine (given12_any (.agg #[.int .i64 raw.num, .int .i64 raw.rev, .int .i64 raw.mode, .int .i64 raw.size, r0, r1, r2, r3, r4, r5, r6, r7, .int .i64 raw.m.live, .int .i64 raw.m.garb]) raw E0 ⟨r0, r1, r2, r3, r4, r5, r6, r7, rfl, ms_below MSR.out SF0.out, HJR.out⟩).mono ?_
    rintro e E1 ⟨rfl, hb⟩
    have SF1 := Lh (SF0.out.trans (hb.mono SF0.out.size))
    refine hK _ _ SF1.out ?_
    clear hK K hb
    refine gwq 2 fun K hK => ?_
    go_simp
    go_at_call 18
    refine (pgvalid_any (.agg #[.int .i64 raw.num, .int .i64 raw.rev, .int .i64 raw.mode, .int .i64 raw.size, r0, r1, r2, r3, r4, r5, r6, r7, .int .i64 raw.m.live, .int .i64 raw.m.garb]) raw E1 ⟨r0, r1, r2, r3, r4, r5, r6, r7, rfl, ms_below MSR.out SF1.out, HJR.out⟩ HLR.out.1 (Nat.le_trans HLR.out.2 (by decide))).mono ?_
    rintro e E2 ⟨rfl, hb⟩
    obtain ⟨vb, hvb⟩ : ∃ b, b = okGb raw := ⟨_, rfl⟩
    rw [← hvb]
    have SF2 := Lh (SF1.out.trans (hb.mono SF1.out.size))
    refine hK _ _ SF2.out ?_
    clear hK K hb
    refine gwq 4 fun K hK => ?_
    go_simp
    go_at_call 23
    refine (rgvalid_any (.agg #[.int .i64 raw.num, .int .i64 raw.rev, .int .i64 raw.mode, .int .i64 raw.size, r0, r1, r2, r3, r4, r5, r6, r7, .int .i64 raw.m.live, .int .i64 raw.m.garb]) raw E2 ⟨r0, r1, r2, r3, r4, r5, r6, r7, rfl, ms_below MSR.out SF2.out, HJR.out⟩ HLR.out.1 (Nat.le_trans HLR.out.2 (by decide))).mono ?_
    rintro e E3 ⟨rfl, hb⟩
    rw [← hvb]
    clear hvb
    have SF3 := Lh (SF2.out.trans (hb.mono SF2.out.size))
    refine hK _ _ SF3.out ?_
    clear hK K hb
    refine gwq 5 fun K hK => ?_
    have d1 : (vb == vb) = true := beq_self_eq_true vb
    have d2 : decide (vb = vb) = true := decide_eq_true rfl
    go_simp
    refine hK _ _ SF3.out ?_
    clear hK K d1 d2
    refine gwq 6 fun K hK => ?_
    go_simp
    refine hK _ _ SF3.out ?_
    clear hK K
    refine tky 7 (.agg #[.int .i64 h.num, .int .i64 h.rev, .int .i64 h.mode, .int .i64 h.size, t0, t1, t2, t3, t4, t5, t6, t7, .int .i64 h.m.live, .int .i64 h.m.garb]) rfl (fun w' hw' => by
      obtain ⟨x0, x1, x2, x3, x4, x5, x6, x7, x8, x9, x10, x11, x12, x13⟩ := bx14 ((hw'.block _ (lt_of_some HXH.out)).trans HXH.out)
      go_simp) SF3.out ?_
    refine tky 10 (.agg #[.int .i64 h.num, .int .i64 h.rev, .int .i64 h.mode, .int .i64 h.size, t0, t1, t2, t3, t4, t5, t6, t7, .int .i64 h.m.live, .int .i64 h.m.garb]) rfl (fun w' hw' => by
      obtain ⟨x0, x1, x2, x3, x4, x5, x6, x7, x8, x9, x10, x11, x12, x13⟩ := bx14 ((hw'.block _ (lt_of_some HXH.out)).trans HXH.out)
      go_simp) SF3.out ?_
    refine gwq 8 fun K hK => ?_
    go_simp
    go_at_call 19
    refine (given12_any (.agg #[.int .i64 h.num, .int .i64 h.rev, .int .i64 h.mode, .int .i64 h.size, t0, t1, t2, t3, t4, t5, t6, t7, .int .i64 h.m.live, .int .i64 h.m.garb]) h E3 ⟨t0, t1, t2, t3, t4, t5, t6, t7, rfl, ms_below MSH.out SF3.out, HJH.out⟩).mono ?_
    rintro e E4 ⟨rfl, hb⟩
    have SF4 := Lh (SF3.out.trans (hb.mono SF3.out.size))
    refine hK _ _ SF4.out ?_
    clear hK K hb
    refine gwq 9 fun K hK => ?_
    go_simp
    go_at_call 18
    refine (pgvalid_any (.agg #[.int .i64 h.num, .int .i64 h.rev, .int .i64 h.mode, .int .i64 h.size, t0, t1, t2, t3, t4, t5, t6, t7, .int .i64 h.m.live, .int .i64 h.m.garb]) h E4 ⟨t0, t1, t2, t3, t4, t5, t6, t7, rfl, ms_below MSH.out SF4.out, HJH.out⟩ HLH.out.1 (Nat.le_trans HLH.out.2 (by decide))).mono ?_
    rintro e E5 ⟨rfl, hb⟩
    obtain ⟨vb2, hvb⟩ : ∃ b, b = okGb h := ⟨_, rfl⟩
    rw [← hvb]
    have SF5 := Lh (SF4.out.trans (hb.mono SF4.out.size))
    refine hK _ _ SF5.out ?_
    clear hK K hb
    refine gwq 11 fun K hK => ?_
    go_simp
    go_at_call 23
    refine (rgvalid_any (.agg #[.int .i64 h.num, .int .i64 h.rev, .int .i64 h.mode, .int .i64 h.size, t0, t1, t2, t3, t4, t5, t6, t7, .int .i64 h.m.live, .int .i64 h.m.garb]) h E5 ⟨t0, t1, t2, t3, t4, t5, t6, t7, rfl, ms_below MSH.out SF5.out, HJH.out⟩ HLH.out.1 (Nat.le_trans HLH.out.2 (by decide))).mono ?_
    rintro e E6 ⟨rfl, hb⟩
    rw [← hvb]
    clear hvb
    have SF6 := Lh (SF5.out.trans (hb.mono SF5.out.size))
    refine hK _ _ SF6.out ?_
    clear hK K hb
    refine gwq 12 fun K hK => ?_
    have d1 : (vb2 == vb2) = true := beq_self_eq_true vb2
    have d2 : decide (vb2 = vb2) = true := decide_eq_true rfl
    go_simp
    refine hK _ _ SF6.out ?_
    clear hK K d1 d2
    refine gwq 13 fun K hK => ?_
    go_simp
    refine hK _ _ SF6.out ?_
    clear hK K
    refine gwq 14 fun K hK => ?_
    go_simp
    refine hK _ _ SF6.out ?_
    clear hK K
    refine tky 15 (.int .i64 fc) rfl (fun w' _ => by go_simp) SF6.out ?_
    refine tky 16 (.int .i64 fc) rfl (fun w' _ => by go_simp) SF6.out ?_
    refine gwq 17 fun K hK => ?_
    have d1 : (fc == fc) = true := beq_self_eq_true fc
    have d2 : decide (fc = fc) = true := decide_eq_true rfl
    go_simp
    refine hK _ _ SF6.out ?_
    clear hK K d1 d2
    refine gwq 18 fun K hK => ?_
    go_simp
    refine hK _ _ SF6.out ?_
    clear hK K
    refine gwq 19 fun K hK => ?_
    go_simp
    refine hK _ _ SF6.out ?_
    clear hK K
    refine tky 20 (.agg #[.int .i64 fg.num, .int .i64 fg.rev, .int .i64 fg.mode, .int .i64 fg.size, u0, u1, u2, u3, u4, u5, u6, u7, .int .i64 fg.m.live, .int .i64 fg.m.garb]) rfl (fun w' hw' => by
      obtain ⟨x0, x1, x2, x3, x4, x5, x6, x7, x8, x9, x10, x11, x12, x13⟩ := bx14 ((hw'.block _ (lt_of_some HXU.out)).trans HXU.out)
      go_simp) SF6.out ?_
    refine tky 22 (.agg #[.int .i64 fg.num, .int .i64 fg.rev, .int .i64 fg.mode, .int .i64 fg.size, s0, s1, s2, s3, s4, s5, s6, s7, .int .i64 fg.m.live, .int .i64 fg.m.garb]) rfl (fun w' hw' => by
      obtain ⟨x0, x1, x2, x3, x4, x5, x6, x7, x8, x9, x10, x11, x12, x13⟩ := bx14 ((hw'.block _ (lt_of_some HXS.out)).trans HXS.out)
      go_simp) SF6.out ?_
    refine gwq 21 fun K hK => ?_
    go_simp
    go_at_call 25
    refine (told12_any (.agg #[.int .i64 fg.num, .int .i64 fg.rev, .int .i64 fg.mode, .int .i64 fg.size, u0, u1, u2, u3, u4, u5, u6, u7, .int .i64 fg.m.live, .int .i64 fg.m.garb]) fg E6 ⟨u0, u1, u2, u3, u4, u5, u6, u7, rfl, ms_below MSU.out SF6.out, HJU.out⟩).mono ?_
    rintro e E7 ⟨rfl, hb⟩
    have SF7 := Lh (SF6.out.trans (hb.mono SF6.out.size))
    refine hK _ _ SF7.out ?_
    clear hK K hb
    refine gwq 23 fun K hK => ?_
    go_simp
    go_at_call 24
    refine (rgsame_eq (.agg #[.int .i64 fg.num, .int .i64 fg.rev, .int .i64 fg.mode, .int .i64 fg.size, u0, u1, u2, u3, u4, u5, u6, u7, .int .i64 fg.m.live, .int .i64 fg.m.garb]) (.agg #[.int .i64 fg.num, .int .i64 fg.rev, .int .i64 fg.mode, .int .i64 fg.size, s0, s1, s2, s3, s4, s5, s6, s7, .int .i64 fg.m.live, .int .i64 fg.m.garb]) fg E7 ⟨u0, u1, u2, u3, u4, u5, u6, u7, rfl, ms_below MSU.out SF7.out, HJU.out⟩ ⟨s0, s1, s2, s3, s4, s5, s6, s7, rfl, ms_below MSS.out SF7.out, HJU.out⟩).mono ?_
    rintro e E8 ⟨rfl, hb⟩
    have SF8 := Lh (SF7.out.trans (hb.mono SF7.out.size))
    refine hK _ _ SF8.out ?_
    clear hK K hb
    refine gwq 24 fun K hK => ?_
    go_simp
    refine hK _ _ SF8.out ?_
    clear hK K
    refine gwq 25 fun K hK => ?_
    go_simp
    refine hK _ _ SF8.out ?_
    clear hK K
    refine gwq 26 fun K hK => ?_
    go_simp
    go_at_call 8
    refine (awake12_any E8 (strW_below HSW21.out SF8.out)).mono ?_
    rintro e E9 ⟨rfl, hb⟩
    have SF9 := Lh (SF8.out.trans (hb.mono SF8.out.size))
    refine hK _ _ SF9.out ?_
    clear hK K hb
    refine gwq 27 fun K hK => ?_
    go_simp
    refine hK _ _ SF9.out ?_
    clear hK K
    refine gwq 28 fun K hK => ?_
    go_simp
    refine hK _ _ SF9.out ?_
    clear hK K
    refine wpAnyH_done (by kernel_rfl) ?_ _
    unfold onlyN
    dsimp only
    have BF := Lh (B21.out.trans (SF9.out.mono B21.out.size))
    go_wp2_with fail
    go_ret
    exact ⟨rfl, BF.out⟩
end Go.Proofs.YtbmlpafbdbhaiaaGreatDoor.Gf
