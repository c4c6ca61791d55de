/- What is proved here: the law NmapOrder answers true. No condition. -/
import Derived.Test.YtlooldnaoooehaaP11v
import Derived.Test.YtlooldnaoooehaaP11n
import Derived.Test.YtlooldnaoooehaaP11l
import Derived.Test.YtlooldnaoooehaaFl
namespace Go.Proofs.Ytlooldnaoooehaa.Gf
open Go Go.Joins Go.ChangeShapes Go.WideShapes Go.ChangeAt Go.RowKit Go.Deep Go.Proofs.Ytlooldnaoooehaa.By Go.Proofs.Ytlooldnaoooehaa.Qt

set_option maxRecDepth 100000 in
set_option maxHeartbeats 25600000 in
theorem order_any (v : Value) (L : List Itm) (x y : Itm) (hx : ItOk x) (hy : ItOk y) (w : World) (sl : It w v L) : Calls Try.prog 7 #[v, TV x, TV y] w fun e w' => e = .returned (.bool true) ∧ Below w.heap.size w w' := by
  have A1 := bel_al w (.cells #[.int .u64 (x.key : Int), .int .u32 (x.ck : Int), .int .i64 x.off, .int .i64 x.sz] 37)
  have BX := Lib.hid (A1.trans ((bel_al _ (.cells #[.int .u64 (y.key : Int), .int .u32 (y.ck : Int), .int .i64 y.off, .int .i64 y.sz] 37)).mono A1.size))
  have HX := Lib.hid (show ((w.alloc (.cells #[.int .u64 (x.key : Int), .int .u32 (x.ck : Int), .int .i64 x.off, .int .i64 x.sz] 37)).alloc (.cells #[.int .u64 (y.key : Int), .int .u32 (y.ck : Int), .int .i64 y.off, .int .i64 y.sz] 37)).heap[w.heap.size]? = some (.cells #[.int .u64 (x.key : Int), .int .u32 (x.ck : Int), .int .i64 x.off, .int .i64 x.sz] 37 (0, 0)) from (heap_alloc_old _ _ (by simp)).trans (heap_alloc_new w _))
  have HY := Lib.hid (show ((w.alloc (.cells #[.int .u64 (x.key : Int), .int .u32 (x.ck : Int), .int .i64 x.off, .int .i64 x.sz] 37)).alloc (.cells #[.int .u64 (y.key : Int), .int .u32 (y.ck : Int), .int .i64 y.off, .int .i64 y.sz] 37)).heap[w.heap.size + 1]? = some (.cells #[.int .u64 (y.key : Int), .int .u32 (y.ck : Int), .int .i64 y.off, .int .i64 y.sz] 37 (0, 0)) from by have h := heap_alloc_new (w.alloc (.cells #[.int .u64 (x.key : Int), .int .u32 (x.ck : Int), .int .i64 x.off, .int .i64 x.sz] 37)) (.cells #[.int .u64 (y.key : Int), .int .u32 (y.ck : Int), .int .i64 y.off, .int .i64 y.sz] 37); simpa using h)
  have PI := Lib.hid (litems_any v L _ (it_below sl BX.out))
  have KOK := Lib.hid (itm_ok L)
  have KLN := Lib.hid (itm_len L)
  generalize itmL L = K at *
  obtain ⟨aL, cL, rfl, -, -⟩ := it_form sl
  have GF := gd_from (g := 0) KOK.out (Int.le_refl _) (by decide)
  have G0 := Lib.hid (GF.1.up (k := 20) KLN.out)
  have HGB := Lib.hid (show (fromL K 0).garb ≤ 100000 by rw [GF.2]; decide)
  obtain ⟨m0, hm0⟩ : ∃ z, z = fromL K 0 := ⟨_, rfl⟩
  rw [← hm0] at G0 HGB
  have HM0 := Lib.hid hm0
  generalize L.length = nL at *
  clear sl GF hm0 A1
  unfold TV
  go_enter Try.func7, Try.ntmps7
  go_upto_region 1 with fail
  generalize (w.alloc (.cells #[.int .u64 (x.key : Int), .int .u32 (x.ck : Int), .int .i64 x.off, .int .i64 x.sz] 37)).alloc (.cells #[.int .u64 (y.key : Int), .int .u32 (y.ck : Int), .int .i64 y.off, .int .i64 y.sz] 37) = W1 at *
  go_wp2_with fail
  refine PI.out.mono ?_
  rintro e w1 ⟨⟨v1, rfl, ho1⟩, hb1⟩
  obtain ⟨aK, cK, rfl, -, -⟩ := owT_form ho1
  have IK1 := Lib.hid (owT_it ho1)
  have HX1 := Lib.hid ((hb1.block _ (lt_of_some HX.out)).trans HX.out)
  have HY1 := Lib.hid ((hb1.block _ (lt_of_some HY.out)).trans HY.out)
  have B1 := Lib.hid (BX.out.trans (hb1.mono BX.out.size))
  generalize hnK : K.length = nK at *
  clear ho1 hb1 PI HX HY BX
  -- the two items
  have I2 := Lib.hid (it_two (w := w1) hx hy)
  have q2 := bel_al w1 (.cells #[.int .u64 (x.key : Int), .int .u32 (x.ck : Int), .int .i64 x.off, .int .i64 x.sz, .int .u64 (y.key : Int), .int .u32 (y.ck : Int), .int .i64 y.off, .int .i64 y.sz] 37)
  have B2 := Lib.hid (B1.out.trans (q2.mono B1.out.size))
  have IK2 := Lib.hid (it_below IK1.out q2)
  obtain ⟨⟨x0, x1, x2, x3⟩, -⟩ := bx4 HX1.out
  obtain ⟨⟨y0, y1, y2, y3⟩, -⟩ := bx4 HY1.out
  clear q2 B1 IK1
  go_upto_region 2 with fail
  go_wp2_with fail
  clear x0 x1 x2 x3 y0 y1 y2 y3 HX1 HY1
  generalize w1.alloc (.cells #[.int .u64 (x.key : Int), .int .u32 (x.ck : Int), .int .i64 x.off, .int .i64 x.sz, .int .u64 (y.key : Int), .int .u32 (y.ck : Int), .int .i64 y.off, .int .i64 y.sz] 37) = w2 at *
  refine (litems_any _ [x, y] w2 I2.out).mono ?_
  rintro e w3 ⟨⟨v3, rfl, ho3⟩, hb3⟩
  have hP : itmL [x, y] = [fixI x, fixI y] := rfl
  rw [hP] at ho3
  have PK := Lib.hid (And.intro (fix_ok x) (fix_ok y))
  have hp3 := (owT_it ho3).1
  have PI := Lib.hid (hp3 (fixI x) (by simp))
  have QI := Lib.hid (hp3 (fixI y) (by simp))
  obtain ⟨p, hp⟩ : ∃ z, z = fixI x := ⟨_, rfl⟩
  obtain ⟨q, hq⟩ : ∃ z, z = fixI y := ⟨_, rfl⟩
  rw [← hp, ← hq] at ho3
  rw [← hp] at PI PK
  rw [← hq] at QI PK
  obtain ⟨bP, oP, cP, rfl, -, -, hcP⟩ := it_cells (owT_it ho3) (by simp)
  have CP3 := Lib.hid (show C4 w3 bP oP p by have h := hcP 0 (by simp); simpa using h)
  have CQ3 := Lib.hid (show C4 w3 bP (oP + 4) q by have h := hcP 1 (by simp); simpa using h)
  have B3 := Lib.hid (B2.out.trans (hb3.mono B2.out.size))
  have PF := Lib.hid (pfrom_any _ K 0 w3 (it_below IK2.out hb3) (by rw [hnK]; exact Nat.le_trans KLN.out (by decide)) (by unfold J64; decide))
  rw [← HM0.out] at PF
  try rw [hnK] at PF
  clear ho3 hb3 hP hp hq hp3 hcP I2 B2 IK2 KOK KLN hnK HM0 hx hy
  go_wp2_with fail
  refine PF.out.mono ?_
  rintro e w4 ⟨⟨v4, rfl, hv4⟩, hb4⟩
  obtain ⟨t0, t1, t2, t3, t4, t5, t6, t7, rfl, hms4⟩ := hv4
  have ON4 := Lib.hid (ms_one hms4 m0.live m0.garb)
  have hz4 := heap_alloc_new w4 (.cells #[.slice none 0 0, .slice none 0 0, .slice none 0 0, .slice none 0 0, .slice none 0 0, .slice none 0 0, .slice none 0 0, .slice none 0 0, .int .i64 0, .int .i64 0] 32)
  go_upto_region 4 with ((with_reducible refine storeM w4.heap.size _ #[t0, t1, t2, t3, t4, t5, t6, t7, .int .i64 m0.live, .int .i64 m0.garb] ?_ ?_ hz4 rfl rfl ON4.out ?_); exact rfl; exact rfl)
  rw [World.setRow_alloc_new]
  have q5 := bel_al w4 (.cells #[t0, t1, t2, t3, t4, t5, t6, t7, .int .i64 m0.live, .int .i64 m0.garb] 32)
  have q6 := hb4.trans (q5.mono hb4.size)
  have HM5 := Lib.hid (heap_alloc_new w4 (.cells #[t0, t1, t2, t3, t4, t5, t6, t7, .int .i64 m0.live, .int .i64 m0.garb] 32))
  have MS5 := Lib.hid (ms_below hms4 q5)
  have CP5 := Lib.hid (CP3.out.below q6)
  have CQ5 := Lib.hid (CQ3.out.below q6)
  have B5 := Lib.hid (B3.out.trans (q6.mono B3.out.size))
  clear hz4 hms4 ON4 hb4 q5 q6 CP3 CQ3 B3 PF
  generalize w4.alloc (.cells #[t0, t1, t2, t3, t4, t5, t6, t7, .int .i64 m0.live, .int .i64 m0.garb] 32) = w5 at *
  generalize w4.heap.size = gm at *
  have F0 := Lib.hid (G0.out.few (by decide))
  have GP := Lib.hid (gd_put G0.out PK.out.1)
  -- are the keys the same
  obtain ⟨r0, -, -, -⟩ := CP5.out.re
  obtain ⟨s0, -, -, -⟩ := CQ5.out.re
  obtain ⟨qk, hqk⟩ : ∃ z : Bool, z = decide (p.key = q.key) := ⟨_, rfl⟩
  have l1 : (((p.key : Nat) : Int) == ((q.key : Nat) : Int)) = qk := by rw [hqk, Bool.eq_iff_iff, beq_iff_eq, decide_eq_true_eq]; omega
  have l2 : decide (p.key = q.key) = qk := hqk.symm
  have HQK := Lib.hid hqk
  clear hqk
  refine wp_region_bl (by kernel_rfl) (by kernel_rfl) ?_
  iterate 9 (go_big_quiet_step (fail))
  refine wpQuiet_nil ?_
  intro w6 hb6
  have HM6 := Lib.hid ((hb6.block _ (lt_of_some HM5.out)).trans HM5.out)
  have MS6 := Lib.hid (ms_below MS5.out hb6)
  have CP6 := Lib.hid (CP5.out.below hb6)
  have CQ6 := Lib.hid (CQ5.out.below hb6)
  have B6 := Lib.hid (B5.out.trans (hb6.mono B5.out.size))
  clear HM5 MS5 CP5 CQ5 B5
  clear hb6 r0 s0
  go_upto_if 32 with fail
  clear l1 l2
  cases qk
  case true =>
    have hk : p.key = q.key := of_decide_eq_true HQK.out.symm
    have PT := Lib.hid (put_twice G0.out HGB.out PK.out.1)
    have GPP := Lib.hid (gd_put GP.out PK.out.1)
    clear hk HQK
    go_upto_region 5 with fail
    refine wp_onlyN ?_
    refine wp_region_headsS (fun W' => Below w6.heap.size w6 W') [0, 1, 2, 3, 5, 6, 7] 4 (by kernel_rfl) (fun _ _ _ _ _ h => h.elim) (by kernel_rfl) (by rfl) (by rfl) (Below.refl w6.heap.size w6).drew ?_
    simp only [pickOps, List.filterMap_cons, List.filterMap_nil, List.getElem?_toArray, List.getElem?_cons_zero, List.getElem?_cons_succ]
    refine wpHeads_step (fun K hK => ?_)
    go_simp
    refine ⟨.agg #[t0, t1, t2, t3, t4, t5, t6, t7, .int .i64 m0.live, .int .i64 m0.garb], fun w' hw' => by
      obtain ⟨x0, x1, x2, x3, x4, x5, x6, x7, x8, x9⟩ := bx10 ((hw'.block _ (lt_of_some HM6.out)).trans HM6.out)
      go_simp, hK _ ?_⟩
    clear hK K
    refine wpHeads_step (fun K hK => ?_)
    go_simp
    refine ⟨_, fun _ _ => rfl, hK _ ?_⟩
    clear hK K
    refine wpHeads_step (fun K hK => ?_)
    go_simp
    refine ⟨_, fun _ _ => rfl, hK _ ?_⟩
    clear hK K
    refine wpHeads_step (fun K hK => ?_)
    go_simp
    refine ⟨.agg #[.int .u64 (p.key : Int), .int .u32 (p.ck : Int), .int .i64 p.off, .int .i64 p.sz], fun w' hw' => by
      obtain ⟨k0, k1, k2, k3⟩ := CP6.out.below hw'
      go_simp, hK _ ?_⟩
    clear hK K
    refine wpHeads_step (fun K hK => ?_)
    go_simp
    refine ⟨_, fun _ _ => rfl, hK _ ?_⟩
    clear hK K
    refine wpHeads_step (fun K hK => ?_)
    go_simp
    refine ⟨_, fun _ _ => rfl, hK _ ?_⟩
    clear hK K
    refine wpHeads_step (fun K hK => ?_)
    go_simp
    refine ⟨.agg #[.int .u64 (p.key : Int), .int .u32 (p.ck : Int), .int .i64 p.off, .int .i64 p.sz], fun w' hw' => by
      obtain ⟨k0, k1, k2, k3⟩ := CP6.out.below hw'
      go_simp, hK _ ?_⟩
    clear hK K
    refine wpHeads_nil ?_
    have SD := Lib.hid (Below.refl w6.heap.size w6).drew
    generalize w6.drew = WD at *
    refine wp_float1 (fuelE := 1) (base := w6.heap.size) 9 10 (.cells #[.slice none 0 0, .slice none 0 0, .slice none 0 0, .slice none 0 0, .slice none 0 0, .slice none 0 0, .slice none 0 0, .slice none 0 0, .int .i64 0, .int .i64 0] 32) [4, 8] #[true, true, true, true, true, true, true, true, true, true, false] 3 ⟨_, rfl, rfl, rfl, fun a w => by go_simp⟩ (by kernel_rfl) (fun _ _ _ _ h => h) (fun W h => h.alloc h.size _) (by kernel_rfl) (by kernel_rfl) SD.out.size SD.out ?_
    refine chain_gw 4 rfl (by kernel_rfl) fun W4 hbW hSW K hK => ?_
    go_simp
    go_at_call 27
    refine (pput11_any _ m0 p W4 ⟨t0, t1, t2, t3, t4, t5, t6, t7, rfl, ms_below MS6.out hSW⟩ F0.out PI.out).mono ?_
    rintro e W5 ⟨⟨v5, rfl, hv5⟩, hb⟩
    refine hK _ _ (hSW.trans (hb.mono hSW.size)) hb ?_
    clear hK K
    have HV5 := Lib.hid hv5
    obtain ⟨u0, u1, u2, u3, u4, u5, u6, u7, rfl, -⟩ := hv5
    clear hbW hSW hb
    refine chain_gw 8 rfl (by kernel_rfl) fun W8 hbW hSW K hK => ?_
    go_simp
    go_at_call 27
    refine (pput11_any _ (putM m0 p) p W8 (mv_below HV5.out hbW) (GP.out.few (by decide)) PI.out).mono ?_
    rintro e W9 ⟨⟨v9, rfl, hv9⟩, hb⟩
    refine hK _ _ (hSW.trans (hb.mono hSW.size)) hb ?_
    clear hK K
    clear hbW hSW hb HV5
    obtain ⟨a, ha⟩ : ∃ z, z = putM (putM m0 p) p := ⟨_, rfl⟩
    rw [← ha] at hv9 PT GPP
    obtain ⟨a0, a1, a2, a3, a4, a5, a6, a7, rfl, hms9⟩ := hv9
    clear ha
    refine chain_nil fun W hb hS g hg hbx => ?_
    have ON := Lib.hid (ms_one hms9 a.live a.garb)
    have MSA := Lib.hid (ms_below hms9 hb)
    have HBX := Lib.hid hbx
    have RL := Lib.hid (below_setRowM hS hg #[a0, a1, a2, a3, a4, a5, a6, a7, .int .i64 a.live, .int .i64 a.garb])
    clear hms9 hb
    refine held_gw 10 rfl (by kernel_rfl) (by kernel_rfl) fun K hK => ?_
    refine wp_store_row 32 _ _ rfl g #[a0, a1, a2, a3, a4, a5, a6, a7, .int .i64 a.live, .int .i64 a.garb] (by rfl) (by rfl) 32 _ HBX.out infoM10 rfl ON.out ?_
    refine hK _ _ RL.out ?_
    clear hK K
    refine wpAnyH_done (by kernel_rfl) ?_ _
    unfold onlyN
    dsimp only
    have HA7 := Lib.hid (setRow_heap W g _ #[a0, a1, a2, a3, a4, a5, a6, a7, .int .i64 a.live, .int .i64 a.garb] _ _ HBX.out)
    have MSA7 := Lib.hid (ms_setRowZ MSA.out HBX.out (cs := #[a0, a1, a2, a3, a4, a5, a6, a7, .int .i64 a.live, .int .i64 a.garb]))
    have GA := Lib.hid hg
    clear MSA HBX hbx ON hS SD hg
    generalize W.setRow g #[a0, a1, a2, a3, a4, a5, a6, a7, .int .i64 a.live, .int .i64 a.garb] = w7 at *
    have HM7 := Lib.hid ((RL.out.block _ (lt_of_some HM6.out)).trans HM6.out)
    have MS7 := Lib.hid (ms_below MS6.out RL.out)
    have CP7 := Lib.hid (CP6.out.below RL.out)
    have CQ7 := Lib.hid (CQ6.out.below RL.out)
    have B7 := Lib.hid (B6.out.trans (RL.out.mono B6.out.size))
    clear HM6 MS6 CP6 CQ6 B6
    clear RL
    go_upto_region 6 with fail
    refine wp_onlyN ?_
    refine wp_region_headsS (fun W' => Below w7.heap.size w7 W') [0, 1, 2, 3] 3 (by kernel_rfl) (fun _ _ _ _ _ h => h.elim) (by kernel_rfl) (by rfl) (by rfl) (Below.refl w7.heap.size w7).drew ?_
    simp only [pickOps, List.filterMap_cons, List.filterMap_nil, List.getElem?_toArray, List.getElem?_cons_zero, List.getElem?_cons_succ]
    refine wpHeads_step (fun K hK => ?_)
    go_simp
    refine ⟨.agg #[t0, t1, t2, t3, t4, t5, t6, t7, .int .i64 m0.live, .int .i64 m0.garb], fun w' hw' => by
      obtain ⟨x0, x1, x2, x3, x4, x5, x6, x7, x8, x9⟩ := bx10 ((hw'.block _ (lt_of_some HM7.out)).trans HM7.out)
      go_simp, hK _ ?_⟩
    clear hK K
    refine wpHeads_step (fun K hK => ?_)
    go_simp
    refine ⟨_, fun _ _ => rfl, hK _ ?_⟩
    clear hK K
    refine wpHeads_step (fun K hK => ?_)
    go_simp
    refine ⟨_, fun _ _ => rfl, hK _ ?_⟩
    clear hK K
    refine wpHeads_step (fun K hK => ?_)
    go_simp
    refine ⟨.agg #[.int .u64 (p.key : Int), .int .u32 (p.ck : Int), .int .i64 p.off, .int .i64 p.sz], fun w' hw' => by
      obtain ⟨k0, k1, k2, k3⟩ := CP7.out.below hw'
      go_simp, hK _ ?_⟩
    clear hK K
    refine wpHeads_nil ?_
    have SD := Lib.hid (Below.refl w7.heap.size w7).drew
    generalize w7.drew = WD at *
    refine wp_float1 (fuelE := 1) (base := w7.heap.size) 5 11 (.cells #[.slice none 0 0, .slice none 0 0, .slice none 0 0, .slice none 0 0, .slice none 0 0, .slice none 0 0, .slice none 0 0, .slice none 0 0, .int .i64 0, .int .i64 0] 32) [4] #[true, true, true, true, true, true, false] 2 ⟨_, rfl, rfl, rfl, fun a w => by go_simp⟩ (by kernel_rfl) (fun _ _ _ _ h => h) (fun W h => h.alloc h.size _) (by kernel_rfl) (by kernel_rfl) SD.out.size SD.out ?_
    refine chain_gw 4 rfl (by kernel_rfl) fun W4 hbW hSW K hK => ?_
    go_simp
    go_at_call 27
    refine (pput11_any _ m0 p W4 ⟨t0, t1, t2, t3, t4, t5, t6, t7, rfl, ms_below MS7.out hSW⟩ F0.out PI.out).mono ?_
    rintro e W9 ⟨⟨v9, rfl, hv9⟩, hb⟩
    refine hK _ _ (hSW.trans (hb.mono hSW.size)) hb ?_
    clear hK K
    clear hbW hSW hb
    obtain ⟨b, hb2⟩ : ∃ z, z = putM m0 p := ⟨_, rfl⟩
    rw [← hb2] at hv9 PT GP
    obtain ⟨b0, b1, b2, b3, b4, b5, b6, b7, rfl, hms9⟩ := hv9
    clear hb2
    refine chain_nil fun W hb hS g2 hg hbx => ?_
    have ON := Lib.hid (ms_one hms9 b.live b.garb)
    have MSB := Lib.hid (ms_below hms9 hb)
    have HBX := Lib.hid hbx
    have RL := Lib.hid (below_setRowM hS hg #[b0, b1, b2, b3, b4, b5, b6, b7, .int .i64 b.live, .int .i64 b.garb])
    clear hms9 hb
    refine held_gw 6 rfl (by kernel_rfl) (by kernel_rfl) fun K hK => ?_
    refine wp_store_row 32 _ _ rfl g2 #[b0, b1, b2, b3, b4, b5, b6, b7, .int .i64 b.live, .int .i64 b.garb] (by rfl) (by rfl) 32 _ HBX.out infoM10 rfl ON.out ?_
    refine hK _ _ RL.out ?_
    clear hK K
    refine wpAnyH_done (by kernel_rfl) ?_ _
    unfold onlyN
    dsimp only
    have HB8 := Lib.hid (setRow_heap W g2 _ #[b0, b1, b2, b3, b4, b5, b6, b7, .int .i64 b.live, .int .i64 b.garb] _ _ HBX.out)
    have MSB8 := Lib.hid (ms_setRowZ MSB.out HBX.out (cs := #[b0, b1, b2, b3, b4, b5, b6, b7, .int .i64 b.live, .int .i64 b.garb]))
    clear MSB HBX hbx ON hS SD hg
    generalize W.setRow g2 #[b0, b1, b2, b3, b4, b5, b6, b7, .int .i64 b.live, .int .i64 b.garb] = w8 at *
    have HM8 := Lib.hid ((RL.out.block _ (lt_of_some HM7.out)).trans HM7.out)
    have MS8 := Lib.hid (ms_below MS7.out RL.out)
    have CP8 := Lib.hid (CP7.out.below RL.out)
    have CQ8 := Lib.hid (CQ7.out.below RL.out)
    have B8 := Lib.hid (B7.out.trans (RL.out.mono B7.out.size))
    have HA8 := Lib.hid ((RL.out.block _ (lt_of_some HA7.out)).trans HA7.out)
    have MSA8 := Lib.hid (ms_below MSA7.out RL.out)
    clear HM7 MS7 CP7 CQ7 B7 HA7 MSA7
    clear RL
    go_upto_region 7 with fail
    refine wp_onlyN ?_
    refine wp_region_headsS (fun W' => Below w8.heap.size w8 W') [0, 2] 20 (by kernel_rfl) (fun _ _ _ _ _ h => h.elim) (by kernel_rfl) (by rfl) (by rfl) (Below.refl w8.heap.size w8).drew ?_
    simp only [pickOps, List.filterMap_cons, List.filterMap_nil, List.getElem?_toArray, List.getElem?_cons_zero, List.getElem?_cons_succ]
    refine wpHeads_step (fun K hK => ?_)
    go_simp
    refine ⟨.agg #[a0, a1, a2, a3, a4, a5, a6, a7, .int .i64 a.live, .int .i64 a.garb], fun w' hw' => by
      obtain ⟨x0, x1, x2, x3, x4, x5, x6, x7, x8, x9⟩ := bx10 ((hw'.block _ (lt_of_some HA8.out)).trans HA8.out)
      go_simp, hK _ ?_⟩
    clear hK K
    refine wpHeads_step (fun K hK => ?_)
    go_simp
    refine ⟨.agg #[b0, b1, b2, b3, b4, b5, b6, b7, .int .i64 b.live, .int .i64 b.garb], fun w' hw' => by
      obtain ⟨x0, x1, x2, x3, x4, x5, x6, x7, x8, x9⟩ := bx10 ((hw'.block _ (lt_of_some HB8.out)).trans HB8.out)
      go_simp, hK _ ?_⟩
    clear hK K
    refine wpHeads_nil ?_
    have SD := Lib.hid (Below.refl w8.heap.size w8).drew
    generalize w8.drew = WD at *
    have PJ := Lib.hid (pitems11_any _ a WD ⟨a0, a1, a2, a3, a4, a5, a6, a7, rfl, ms_below MSA8.out SD.out⟩ (GPP.out.few (by decide)) (Nat.le_trans GPP.out.flat (by decide)))
    rw [GPP.out.items, PT.out.1] at PJ
    refine held_gw 1 rfl (by kernel_rfl) (by kernel_rfl) fun K hK => ?_
    go_simp
    go_at_call 21
    refine PJ.out.mono ?_
    rintro e W1 ⟨⟨vi, rfl, hit⟩, hb⟩
    refine hK _ _ (SD.out.trans (hb.mono SD.out.size)) ?_
    clear hK K
    have S1 := Lib.hid (SD.out.trans (hb.mono SD.out.size))
    have IT1 := Lib.hid hit
    obtain ⟨ai, ci, rfl, -, -⟩ := it_form hit
    have PJ2 := Lib.hid (pitems11_any _ b W1 ⟨b0, b1, b2, b3, b4, b5, b6, b7, rfl, ms_below MSB8.out S1.out⟩ (GP.out.few (by decide)) (Nat.le_trans GP.out.flat (by decide)))
    rw [GP.out.items] at PJ2
    generalize (iL b).length = nI at *
    clear hit hb SD PJ
    refine held_gw 3 rfl (by kernel_rfl) (by kernel_rfl) fun K hK => ?_
    go_simp
    go_at_call 21
    refine PJ2.out.mono ?_
    rintro e W3 ⟨⟨vj, rfl, hjt⟩, hb⟩
    refine hK _ _ (S1.out.trans (hb.mono S1.out.size)) ?_
    clear hK K
    have S3 := Lib.hid (S1.out.trans (hb.mono S1.out.size))
    have PSM := Lib.hid (rsame8_any _ vj (iL b) (iL b) W3 (it_below IT1.out hb) hjt)
    rw [decide_eq_true rfl] at PSM
    obtain ⟨aj, cj, rfl, -, -⟩ := it_form hjt
    generalize (iL b).length = nJ at *
    clear hjt hb S1 PJ2 IT1
    refine held_gw 4 rfl (by kernel_rfl) (by kernel_rfl) fun K hK => ?_
    go_simp
    go_at_call 20
    refine PSM.out.mono ?_
    rintro e W5 ⟨rfl, hb⟩
    refine hK _ _ (S3.out.trans (hb.mono S3.out.size)) ?_
    clear hK K
    have S5 := Lib.hid (S3.out.trans (hb.mono S3.out.size))
    have PS := Lib.hid (psize_any p.sz W5 PI.out.sz)
    have EW := Lib.hid (show wrap64 (a.garb - b.garb) = szI6 p.sz by
      have h1 := PT.out.2
      have h2 := szT_bd p
      have h3 : szT p = szI6 p.sz := rfl
      rw [h1, h3]; rw [h3] at h2; unfold wrap64; omega)
    clear hb S3 PSM
    refine held_gw 5 rfl (by kernel_rfl) (by kernel_rfl) fun K hK => ?_
    go_simp
    refine hK _ _ S5.out ?_
    clear hK K
    refine wpAnyH_take (i := 6) (v := .pointer (some ⟨g, 9, none⟩)) rfl (by kernel_rfl) (by kernel_rfl) (by kernel_rfl) (fun _ _ _ h => h) (Or.inl ⟨by kernel_rfl, fun w' hw' => by
      skip
      go_simp⟩) S5.out ?_
    refine wpAnyH_take (i := 7) (v := .int .i64 a.garb) rfl (by kernel_rfl) (by kernel_rfl) (by kernel_rfl) (fun _ _ _ h => h) (Or.inl ⟨by kernel_rfl, fun w' hw' => by
      obtain ⟨x0, x1, x2, x3, x4, x5, x6, x7, x8, x9⟩ := bx10 ((hw'.block _ (lt_of_some HA8.out)).trans HA8.out)
      go_simp⟩) S5.out ?_
    refine wpAnyH_take (i := 8) (v := .pointer (some ⟨g2, 9, none⟩)) rfl (by kernel_rfl) (by kernel_rfl) (by kernel_rfl) (fun _ _ _ h => h) (Or.inl ⟨by kernel_rfl, fun w' hw' => by
      skip
      go_simp⟩) S5.out ?_
    refine wpAnyH_take (i := 9) (v := .int .i64 b.garb) rfl (by kernel_rfl) (by kernel_rfl) (by kernel_rfl) (fun _ _ _ h => h) (Or.inl ⟨by kernel_rfl, fun w' hw' => by
      obtain ⟨x0, x1, x2, x3, x4, x5, x6, x7, x8, x9⟩ := bx10 ((hw'.block _ (lt_of_some HB8.out)).trans HB8.out)
      go_simp⟩) S5.out ?_
    refine wpAnyH_take (i := 10) (v := .int .i64 (szI6 p.sz)) rfl (by kernel_rfl) (by kernel_rfl) (by kernel_rfl) (fun _ _ _ h => h) (Or.inl ⟨by kernel_rfl, fun w' hw' => by
      have e : IntKind.i64.wrap (a.garb - b.garb) = szI6 p.sz := (IntWalk.i64_left _).trans EW.out
      go_simp⟩) S5.out ?_
    refine wpAnyH_take (i := 11) (v := .slice (some ⟨bP, oP, none⟩) 2 cP) rfl (by kernel_rfl) (by kernel_rfl) (by kernel_rfl) (fun _ _ _ h => h) (Or.inl ⟨by kernel_rfl, fun w' hw' => by
      skip
      go_simp⟩) S5.out ?_
    refine wpAnyH_take (i := 12) (v := .pointer (some ⟨bP, oP, none⟩)) rfl (by kernel_rfl) (by kernel_rfl) (by kernel_rfl) (fun _ _ _ h => h) (Or.inl ⟨by kernel_rfl, fun w' hw' => by
      skip
      go_simp⟩) S5.out ?_
    refine wpAnyH_take (i := 13) (v := .pointer (some ⟨bP, oP + 3, none⟩)) rfl (by kernel_rfl) (by kernel_rfl) (by kernel_rfl) (fun _ _ _ h => h) (Or.inl ⟨by kernel_rfl, fun w' hw' => by
      skip
      go_simp⟩) S5.out ?_
    refine wpAnyH_take (i := 14) (v := .int .i64 p.sz) rfl (by kernel_rfl) (by kernel_rfl) (by kernel_rfl) (fun _ _ _ h => h) (Or.inl ⟨by kernel_rfl, fun w' hw' => by
      obtain ⟨k0, k1, k2, k3⟩ := CP8.out.below hw'
      go_simp⟩) S5.out ?_
    refine held_gw 15 rfl (by kernel_rfl) (by kernel_rfl) fun K hK => ?_
    go_simp
    go_at_call 35
    refine PS.out.mono ?_
    rintro e W6 ⟨rfl, rfl⟩
    refine hK _ _ S5.out ?_
    clear hK K
    have e7 : (szI6 p.sz == szI6 p.sz) = true := by simp
    refine held_gw 16 rfl (by kernel_rfl) (by kernel_rfl) fun K hK => ?_
    go_simp
    refine hK _ _ S5.out ?_
    clear hK K
    refine held_gw 17 rfl (by kernel_rfl) (by kernel_rfl) fun K hK => ?_
    go_simp
    refine hK _ _ S5.out ?_
    clear hK K
    refine held_gw 18 rfl (by kernel_rfl) (by kernel_rfl) fun K hK => ?_
    go_simp
    refine hK _ _ S5.out ?_
    clear hK K
    refine held_gw 19 rfl (by kernel_rfl) (by kernel_rfl) fun K hK => ?_
    go_simp
    go_at_call 10
    refine (awake11_any W5).mono ?_
    rintro e W7 ⟨rfl, hb⟩
    refine hK _ _ (S5.out.trans (hb.mono S5.out.size)) ?_
    clear hK K
    have S7 := Lib.hid (S5.out.trans (hb.mono S5.out.size))
    clear hb S5
    refine held_gw 20 rfl (by kernel_rfl) (by kernel_rfl) fun K hK => ?_
    go_simp
    refine hK _ _ S7.out ?_
    clear hK K
    refine held_gw 21 rfl (by kernel_rfl) (by kernel_rfl) fun K hK => ?_
    go_simp
    refine hK _ _ S7.out ?_
    clear hK K
    refine wpAnyH_done (by kernel_rfl) ?_ _
    unfold onlyN
    dsimp only
    go_wp2
    go_ret
    exact ⟨rfl, B8.out.trans (S7.out.mono B8.out.size)⟩
  case false =>
    have hk : p.key ≠ q.key := of_decide_eq_false HQK.out.symm
    have OP := Lib.hid (order_put G0.out HGB.out PK.out.1 PK.out.2 hk)
    have OD := Lib.hid (order_del G0.out HGB.out PK.out.1 hk)
    have GQ := Lib.hid (gd_put G0.out PK.out.2)
    have GPQ := Lib.hid (gd_put GP.out PK.out.2)
    have GQP := Lib.hid (gd_put GQ.out PK.out.1)
    have GD := Lib.hid (gd_del G0.out q.key)
    have GPD := Lib.hid (gd_del GP.out q.key)
    have GDP := Lib.hid (gd_put GD.out PK.out.1)
    clear hk HQK
    go_upto_region 8 with fail
    refine wp_onlyN ?_
    refine wp_region_headsS (fun W' => Below w6.heap.size w6 W') [0, 1, 2, 3, 5, 6, 7, 9, 10, 11, 12, 14, 15, 16] 8 (by kernel_rfl) (fun _ _ _ _ _ h => h.elim) (by kernel_rfl) (by rfl) (by rfl) (Below.refl w6.heap.size w6).drew ?_
    simp only [pickOps, List.filterMap_cons, List.filterMap_nil, List.getElem?_toArray, List.getElem?_cons_zero, List.getElem?_cons_succ]
    refine wpHeads_step (fun K hK => ?_)
    go_simp
    refine ⟨.agg #[t0, t1, t2, t3, t4, t5, t6, t7, .int .i64 m0.live, .int .i64 m0.garb], fun w' hw' => by
      obtain ⟨x0, x1, x2, x3, x4, x5, x6, x7, x8, x9⟩ := bx10 ((hw'.block _ (lt_of_some HM6.out)).trans HM6.out)
      go_simp, hK _ ?_⟩
    clear hK K
    refine wpHeads_step (fun K hK => ?_)
    go_simp
    refine ⟨_, fun _ _ => rfl, hK _ ?_⟩
    clear hK K
    refine wpHeads_step (fun K hK => ?_)
    go_simp
    refine ⟨_, fun _ _ => rfl, hK _ ?_⟩
    clear hK K
    refine wpHeads_step (fun K hK => ?_)
    go_simp
    refine ⟨.agg #[.int .u64 (p.key : Int), .int .u32 (p.ck : Int), .int .i64 p.off, .int .i64 p.sz], fun w' hw' => by
      obtain ⟨k0, k1, k2, k3⟩ := CP6.out.below hw'
      go_simp, hK _ ?_⟩
    clear hK K
    refine wpHeads_step (fun K hK => ?_)
    go_simp
    refine ⟨_, fun _ _ => rfl, hK _ ?_⟩
    clear hK K
    refine wpHeads_step (fun K hK => ?_)
    go_simp
    refine ⟨_, fun _ _ => rfl, hK _ ?_⟩
    clear hK K
    refine wpHeads_step (fun K hK => ?_)
    go_simp
    refine ⟨.agg #[.int .u64 (q.key : Int), .int .u32 (q.ck : Int), .int .i64 q.off, .int .i64 q.sz], fun w' hw' => by
      obtain ⟨k0, k1, k2, k3⟩ := CQ6.out.below hw'
      go_simp, hK _ ?_⟩
    clear hK K
    refine wpHeads_step (fun K hK => ?_)
    go_simp
    refine ⟨.agg #[t0, t1, t2, t3, t4, t5, t6, t7, .int .i64 m0.live, .int .i64 m0.garb], fun w' hw' => by
      obtain ⟨x0, x1, x2, x3, x4, x5, x6, x7, x8, x9⟩ := bx10 ((hw'.block _ (lt_of_some HM6.out)).trans HM6.out)
      go_simp, hK _ ?_⟩
    clear hK K
    refine wpHeads_step (fun K hK => ?_)
    go_simp
    refine ⟨_, fun _ _ => rfl, hK _ ?_⟩
    clear hK K
    refine wpHeads_step (fun K hK => ?_)
    go_simp
    refine ⟨_, fun _ _ => rfl, hK _ ?_⟩
    clear hK K
    refine wpHeads_step (fun K hK => ?_)
    go_simp
    refine ⟨.agg #[.int .u64 (q.key : Int), .int .u32 (q.ck : Int), .int .i64 q.off, .int .i64 q.sz], fun w' hw' => by
      obtain ⟨k0, k1, k2, k3⟩ := CQ6.out.below hw'
      go_simp, hK _ ?_⟩
    clear hK K
    refine wpHeads_step (fun K hK => ?_)
    go_simp
    refine ⟨_, fun _ _ => rfl, hK _ ?_⟩
    clear hK K
    refine wpHeads_step (fun K hK => ?_)
    go_simp
    refine ⟨_, fun _ _ => rfl, hK _ ?_⟩
    clear hK K
    refine wpHeads_step (fun K hK => ?_)
    go_simp
    refine ⟨.agg #[.int .u64 (p.key : Int), .int .u32 (p.ck : Int), .int .i64 p.off, .int .i64 p.sz], fun w' hw' => by
      obtain ⟨k0, k1, k2, k3⟩ := CP6.out.below hw'
      go_simp, hK _ ?_⟩
    clear hK K
    refine wpHeads_nil ?_
    have SD := Lib.hid (Below.refl w6.heap.size w6).drew
    generalize w6.drew = WD at *
    refine wp_float2 (fuelE := 2) (base := w6.heap.size) 18 12 (.cells #[.slice none 0 0, .slice none 0 0, .slice none 0 0, .slice none 0 0, .slice none 0 0, .slice none 0 0, .slice none 0 0, .slice none 0 0, .int .i64 0, .int .i64 0] 32) 19 13 (.cells #[.slice none 0 0, .slice none 0 0, .slice none 0 0, .slice none 0 0, .slice none 0 0, .slice none 0 0, .slice none 0 0, .slice none 0 0, .int .i64 0, .int .i64 0] 32) [4, 8, 13, 17] #[true, true, true, true, true, true, true, true, true, true, true, true, true, true, true, true, true, true, true, true, false, false] 6 ⟨_, rfl, rfl, rfl, fun a w => by go_simp⟩ ⟨_, rfl, rfl, rfl, fun a w => by go_simp⟩ (by decide) (by kernel_rfl) (fun _ _ _ _ h => h) (fun W h => h.alloc h.size _) (fun W h => h.alloc h.size _) (by kernel_rfl) (by kernel_rfl) SD.out.size SD.out ?_
    refine chain_gw 4 rfl (by kernel_rfl) fun W4 hbW hSW K hK => ?_
    go_simp
    go_at_call 27
    refine (pput11_any _ m0 p W4 ⟨t0, t1, t2, t3, t4, t5, t6, t7, rfl, ms_below MS6.out hSW⟩ F0.out PI.out).mono ?_
    rintro e V4 ⟨⟨vv, rfl, hv⟩, hb⟩
    refine hK _ _ (hSW.trans (hb.mono hSW.size)) hb ?_
    clear hK K
    have HV1 := Lib.hid hv
    obtain ⟨u0, u1, u2, u3, u4, u5, u6, u7, rfl, -⟩ := hv
    clear hbW hSW hb
    refine chain_gw 8 rfl (by kernel_rfl) fun W8 hbW hSW K hK => ?_
    go_simp
    go_at_call 27
    refine (pput11_any _ (putM m0 p) q W8 (mv_below HV1.out hbW) (GP.out.few (by decide)) QI.out).mono ?_
    rintro e V8 ⟨⟨vv, rfl, hv⟩, hb⟩
    refine hK _ _ (hSW.trans (hb.mono hSW.size)) hb ?_
    clear hK K
    obtain ⟨a, ha⟩ : ∃ z, z = putM (putM m0 p) q := ⟨_, rfl⟩
    rw [← ha] at hv OP
    have HV2 := Lib.hid hv
    obtain ⟨a0, a1, a2, a3, a4, a5, a6, a7, rfl, hmsa⟩ := hv
    have ONA := Lib.hid (ms_one hmsa a.live a.garb)
    clear hbW hSW hb HV1 ha hmsa
    refine chain_gw 13 rfl (by kernel_rfl) fun W13 hbW hSW K hK => ?_
    go_simp
    go_at_call 27
    refine (pput11_any _ m0 q W13 ⟨t0, t1, t2, t3, t4, t5, t6, t7, rfl, ms_below MS6.out hSW⟩ F0.out QI.out).mono ?_
    rintro e V13 ⟨⟨vv, rfl, hv⟩, hb⟩
    refine hK _ _ (hSW.trans (hb.mono hSW.size)) hb ?_
    clear hK K
    have HV3 := Lib.hid hv
    have HV2b := Lib.hid (mv_below HV2.out (hbW.trans (hb.mono hbW.size)))
    obtain ⟨y0, y1, y2, y3, y4, y5, y6, y7, rfl, -⟩ := hv
    clear hbW hSW hb HV2
    refine chain_gw 17 rfl (by kernel_rfl) fun W17 hbW hSW K hK => ?_
    go_simp
    go_at_call 27
    refine (pput11_any _ (putM m0 q) p W17 (mv_below HV3.out hbW) (GQ.out.few (by decide)) PI.out).mono ?_
    rintro e V17 ⟨⟨vv, rfl, hv⟩, hb⟩
    refine hK _ _ (hSW.trans (hb.mono hSW.size)) hb ?_
    clear hK K
    obtain ⟨b, ha⟩ : ∃ z, z = putM (putM m0 q) p := ⟨_, rfl⟩
    rw [← ha] at hv OP
    have HV2c := Lib.hid (mv_below HV2b.out (hbW.trans (hb.mono hbW.size)))
    obtain ⟨b0, b1, b2, b3, b4, b5, b6, b7, rfl, hmsb⟩ := hv
    have ONB := Lib.hid (ms_one hmsb b.live b.garb)
    clear hbW hSW hb HV3 ha HV2b
    refine chain_nil fun W hb hS g g2 hg hg2 hgg hbx hbx2 => ?_
    have MV1 := mv_below HV2c.out hb
    have MSA := Lib.hid (show Ms W [a0, a1, a2, a3, a4, a5, a6, a7] a by
      obtain ⟨z0, z1, z2, z3, z4, z5, z6, z7, he, hz⟩ := MV1
      simp only [Value.agg.injEq, Array.mk.injEq, List.cons.injEq, and_true] at he
      obtain ⟨rfl, rfl, rfl, rfl, rfl, rfl, rfl, rfl, -⟩ := he
      exact hz)
    have MSB := Lib.hid (ms_below hmsb hb)
    have R1 := Lib.hid (below_setRowM hS hg #[a0, a1, a2, a3, a4, a5, a6, a7, .int .i64 a.live, .int .i64 a.garb])
    have HBX := Lib.hid hbx
    have HBX2 := Lib.hid hbx2
    have HBX3 := Lib.hid (show (W.setRow g #[a0, a1, a2, a3, a4, a5, a6, a7, .int .i64 a.live, .int .i64 a.garb]).heap[g2]? = some (.cells #[.slice none 0 0, .slice none 0 0, .slice none 0 0, .slice none 0 0, .slice none 0 0, .slice none 0 0, .slice none 0 0, .slice none 0 0, .int .i64 0, .int .i64 0] 32 (0, 0)) from (setRow_other W g g2 #[a0, a1, a2, a3, a4, a5, a6, a7, .int .i64 a.live, .int .i64 a.garb] (fun h => hgg h.symm)).trans HBX2.out)
    have R2 := Lib.hid (below_setRowM R1.out hg2 #[b0, b1, b2, b3, b4, b5, b6, b7, .int .i64 b.live, .int .i64 b.garb])
    have HGG := Lib.hid hgg
    clear MV1 HV2c hmsb hb hbx hbx2 hgg
    refine held_gw 20 rfl (by kernel_rfl) (by kernel_rfl) fun K hK => ?_
    refine wp_store_row 32 _ _ rfl g #[a0, a1, a2, a3, a4, a5, a6, a7, .int .i64 a.live, .int .i64 a.garb] (by rfl) (by rfl) 32 _ HBX.out infoM10 rfl ONA.out ?_
    refine hK _ _ R1.out ?_
    clear hK K
    refine held_gw 21 rfl (by kernel_rfl) (by kernel_rfl) fun K hK => ?_
    refine wp_store_row 32 _ _ rfl g2 #[b0, b1, b2, b3, b4, b5, b6, b7, .int .i64 b.live, .int .i64 b.garb] (by rfl) (by rfl) 32 _ HBX3.out infoM10 rfl ONB.out ?_
    refine hK _ _ R2.out ?_
    clear hK K
    refine wpAnyH_done (by kernel_rfl) ?_ _
    unfold onlyN
    dsimp only
    have HA7 := Lib.hid (show ((W.setRow g #[a0, a1, a2, a3, a4, a5, a6, a7, .int .i64 a.live, .int .i64 a.garb]).setRow g2 #[b0, b1, b2, b3, b4, b5, b6, b7, .int .i64 b.live, .int .i64 b.garb]).heap[g]? = some (.cells #[a0, a1, a2, a3, a4, a5, a6, a7, .int .i64 a.live, .int .i64 a.garb] 32 (0, 0)) from (setRow_other _ g2 g _ HGG.out).trans (setRow_heap W g _ #[a0, a1, a2, a3, a4, a5, a6, a7, .int .i64 a.live, .int .i64 a.garb] _ _ HBX.out))
    have HB7 := Lib.hid (setRow_heap (W.setRow g #[a0, a1, a2, a3, a4, a5, a6, a7, .int .i64 a.live, .int .i64 a.garb]) g2 _ #[b0, b1, b2, b3, b4, b5, b6, b7, .int .i64 b.live, .int .i64 b.garb] _ _ HBX3.out)
    have MSA7 := Lib.hid (ms_setRowZ (ms_setRowZ MSA.out HBX.out (cs := #[a0, a1, a2, a3, a4, a5, a6, a7, .int .i64 a.live, .int .i64 a.garb])) HBX3.out (cs := #[b0, b1, b2, b3, b4, b5, b6, b7, .int .i64 b.live, .int .i64 b.garb]))
    have MSB7 := Lib.hid (ms_setRowZ (ms_setRowZ MSB.out HBX.out (cs := #[a0, a1, a2, a3, a4, a5, a6, a7, .int .i64 a.live, .int .i64 a.garb])) HBX3.out (cs := #[b0, b1, b2, b3, b4, b5, b6, b7, .int .i64 b.live, .int .i64 b.garb]))
    clear MSA MSB HBX HBX2 HBX3 ONA ONB hS SD hg hg2 R1 HGG
    generalize (W.setRow g #[a0, a1, a2, a3, a4, a5, a6, a7, .int .i64 a.live, .int .i64 a.garb]).setRow g2 #[b0, b1, b2, b3, b4, b5, b6, b7, .int .i64 b.live, .int .i64 b.garb] = w7 at *
    have HM7 := Lib.hid ((R2.out.block _ (lt_of_some HM6.out)).trans HM6.out)
    have MS7 := Lib.hid (ms_below MS6.out R2.out)
    have CP7 := Lib.hid (CP6.out.below R2.out)
    have CQ7 := Lib.hid (CQ6.out.below R2.out)
    have B7 := Lib.hid (B6.out.trans (R2.out.mono B6.out.size))
    clear HM6 MS6 CP6 CQ6 B6
    clear R2
    go_upto_region 9 with fail
    refine wp_onlyN ?_
    refine wp_region_headsS (fun W' => Below w7.heap.size w7 W') [0, 1, 2, 3, 5, 6, 7, 8, 10, 11, 12, 13, 14, 16, 17, 18] 8 (by kernel_rfl) (fun _ _ _ _ _ h => h.elim) (by kernel_rfl) (by rfl) (by rfl) (Below.refl w7.heap.size w7).drew ?_
    simp only [pickOps, List.filterMap_cons, List.filterMap_nil, List.getElem?_toArray, List.getElem?_cons_zero, List.getElem?_cons_succ]
    refine wpHeads_step (fun K hK => ?_)
    go_simp
    refine ⟨.agg #[t0, t1, t2, t3, t4, t5, t6, t7, .int .i64 m0.live, .int .i64 m0.garb], fun w' hw' => by
      obtain ⟨x0, x1, x2, x3, x4, x5, x6, x7, x8, x9⟩ := bx10 ((hw'.block _ (lt_of_some HM7.out)).trans HM7.out)
      go_simp, hK _ ?_⟩
    clear hK K
    refine wpHeads_step (fun K hK => ?_)
    go_simp
    refine ⟨_, fun _ _ => rfl, hK _ ?_⟩
    clear hK K
    refine wpHeads_step (fun K hK => ?_)
    go_simp
    refine ⟨_, fun _ _ => rfl, hK _ ?_⟩
    clear hK K
    refine wpHeads_step (fun K hK => ?_)
    go_simp
    refine ⟨.agg #[.int .u64 (p.key : Int), .int .u32 (p.ck : Int), .int .i64 p.off, .int .i64 p.sz], fun w' hw' => by
      obtain ⟨k0, k1, k2, k3⟩ := CP7.out.below hw'
      go_simp, hK _ ?_⟩
    clear hK K
    refine wpHeads_step (fun K hK => ?_)
    go_simp
    refine ⟨_, fun _ _ => rfl, hK _ ?_⟩
    clear hK K
    refine wpHeads_step (fun K hK => ?_)
    go_simp
    refine ⟨_, fun _ _ => rfl, hK _ ?_⟩
    clear hK K
    refine wpHeads_step (fun K hK => ?_)
    go_simp
    refine ⟨_, fun _ _ => rfl, hK _ ?_⟩
    clear hK K
    refine wpHeads_step (fun K hK => ?_)
    go_simp
    refine ⟨.int .u64 (q.key : Int), fun w' hw' => by
      obtain ⟨k0, k1, k2, k3⟩ := CQ7.out.below hw'
      go_simp, hK _ ?_⟩
    clear hK K
    refine wpHeads_step (fun K hK => ?_)
    go_simp
    refine ⟨.agg #[t0, t1, t2, t3, t4, t5, t6, t7, .int .i64 m0.live, .int .i64 m0.garb], fun w' hw' => by
      obtain ⟨x0, x1, x2, x3, x4, x5, x6, x7, x8, x9⟩ := bx10 ((hw'.block _ (lt_of_some HM7.out)).trans HM7.out)
      go_simp, hK _ ?_⟩
    clear hK K
    refine wpHeads_step (fun K hK => ?_)
    go_simp
    refine ⟨_, fun _ _ => rfl, hK _ ?_⟩
    clear hK K
    refine wpHeads_step (fun K hK => ?_)
    go_simp
    refine ⟨_, fun _ _ => rfl, hK _ ?_⟩
    clear hK K
    refine wpHeads_step (fun K hK => ?_)
    go_simp
    refine ⟨_, fun _ _ => rfl, hK _ ?_⟩
    clear hK K
    refine wpHeads_step (fun K hK => ?_)
    go_simp
    refine ⟨.int .u64 (q.key : Int), fun w' hw' => by
      obtain ⟨k0, k1, k2, k3⟩ := CQ7.out.below hw'
      go_simp, hK _ ?_⟩
    clear hK K
    refine wpHeads_step (fun K hK => ?_)
    go_simp
    refine ⟨_, fun _ _ => rfl, hK _ ?_⟩
    clear hK K
    refine wpHeads_step (fun K hK => ?_)
    go_simp
    refine ⟨_, fun _ _ => rfl, hK _ ?_⟩
    clear hK K
    refine wpHeads_step (fun K hK => ?_)
    go_simp
    refine ⟨.agg #[.int .u64 (p.key : Int), .int .u32 (p.ck : Int), .int .i64 p.off, .int .i64 p.sz], fun w' hw' => by
      obtain ⟨k0, k1, k2, k3⟩ := CP7.out.below hw'
      go_simp, hK _ ?_⟩
    clear hK K
    refine wpHeads_nil ?_
    have SD := Lib.hid (Below.refl w7.heap.size w7).drew
    generalize w7.drew = WD at *
    refine wp_float2 (fuelE := 2) (base := w7.heap.size) 20 14 (.cells #[.slice none 0 0, .slice none 0 0, .slice none 0 0, .slice none 0 0, .slice none 0 0, .slice none 0 0, .slice none 0 0, .slice none 0 0, .int .i64 0, .int .i64 0] 32) 21 15 (.cells #[.slice none 0 0, .slice none 0 0, .slice none 0 0, .slice none 0 0, .slice none 0 0, .slice none 0 0, .slice none 0 0, .slice none 0 0, .int .i64 0, .int .i64 0] 32) [4, 9, 15, 19] #[true, true, true, true, true, true, true, true, true, true, true, true, true, true, true, true, true, true, true, true, true, true, false, false] 6 ⟨_, rfl, rfl, rfl, fun a w => by go_simp⟩ ⟨_, rfl, rfl, rfl, fun a w => by go_simp⟩ (by decide) (by kernel_rfl) (fun _ _ _ _ h => h) (fun W h => h.alloc h.size _) (fun W h => h.alloc h.size _) (by kernel_rfl) (by kernel_rfl) SD.out.size SD.out ?_
    refine chain_gw 4 rfl (by kernel_rfl) fun W4 hbW hSW K hK => ?_
    go_simp
    go_at_call 27
    refine (pput11_any _ m0 p W4 ⟨t0, t1, t2, t3, t4, t5, t6, t7, rfl, ms_below MS7.out hSW⟩ F0.out PI.out).mono ?_
    rintro e V4 ⟨⟨vv, rfl, hv⟩, hb⟩
    refine hK _ _ (hSW.trans (hb.mono hSW.size)) hb ?_
    clear hK K
    have HV1 := Lib.hid hv
    obtain ⟨u0, u1, u2, u3, u4, u5, u6, u7, rfl, -⟩ := hv
    clear hbW hSW hb
    refine chain_gw 9 rfl (by kernel_rfl) fun W9 hbW hSW K hK => ?_
    go_simp
    go_at_call 29
    refine (pdelete_any _ (putM m0 p) q.key W9 (mv_below HV1.out hbW) (GP.out.few (by decide))).mono ?_
    rintro e V9 ⟨⟨vv, rfl, hv⟩, hb⟩
    refine hK _ _ (hSW.trans (hb.mono hSW.size)) hb ?_
    clear hK K
    obtain ⟨c, ha⟩ : ∃ z, z = delM (putM m0 p) q.key := ⟨_, rfl⟩
    rw [← ha] at hv OD
    have HV2 := Lib.hid hv
    obtain ⟨c0, c1, c2, c3, c4, c5, c6, c7, rfl, hmsa⟩ := hv
    have ONA := Lib.hid (ms_one hmsa c.live c.garb)
    clear hbW hSW hb HV1 ha hmsa
    refine chain_gw 15 rfl (by kernel_rfl) fun W15 hbW hSW K hK => ?_
    go_simp
    go_at_call 29
    refine (pdelete_any _ m0 q.key W15 ⟨t0, t1, t2, t3, t4, t5, t6, t7, rfl, ms_below MS7.out hSW⟩ F0.out).mono ?_
    rintro e V15 ⟨⟨vv, rfl, hv⟩, hb⟩
    refine hK _ _ (hSW.trans (hb.mono hSW.size)) hb ?_
    clear hK K
    have HV3 := Lib.hid hv
    have HV2b := Lib.hid (mv_below HV2.out (hbW.trans (hb.mono hbW.size)))
    obtain ⟨y0, y1, y2, y3, y4, y5, y6, y7, rfl, -⟩ := hv
    clear hbW hSW hb HV2
    refine chain_gw 19 rfl (by kernel_rfl) fun W19 hbW hSW K hK => ?_
    go_simp
    go_at_call 27
    refine (pput11_any _ (delM m0 q.key) p W19 (mv_below HV3.out hbW) (GD.out.few (by decide)) PI.out).mono ?_
    rintro e V19 ⟨⟨vv, rfl, hv⟩, hb⟩
    refine hK _ _ (hSW.trans (hb.mono hSW.size)) hb ?_
    clear hK K
    obtain ⟨d, ha⟩ : ∃ z, z = putM (delM m0 q.key) p := ⟨_, rfl⟩
    rw [← ha] at hv OD
    have HV2c := Lib.hid (mv_below HV2b.out (hbW.trans (hb.mono hbW.size)))
    obtain ⟨d0, d1, d2, d3, d4, d5, d6, d7, rfl, hmsb⟩ := hv
    have ONB := Lib.hid (ms_one hmsb d.live d.garb)
    clear hbW hSW hb HV3 ha HV2b
    refine chain_nil fun W hb hS g3 g4 hg hg2 hgg hbx hbx2 => ?_
    have MV1 := mv_below HV2c.out hb
    have MSA := Lib.hid (show Ms W [c0, c1, c2, c3, c4, c5, c6, c7] c by
      obtain ⟨z0, z1, z2, z3, z4, z5, z6, z7, he, hz⟩ := MV1
      simp only [Value.agg.injEq, Array.mk.injEq, List.cons.injEq, and_true] at he
      obtain ⟨rfl, rfl, rfl, rfl, rfl, rfl, rfl, rfl, -⟩ := he
      exact hz)
    have MSB := Lib.hid (ms_below hmsb hb)
    have R1 := Lib.hid (below_setRowM hS hg #[c0, c1, c2, c3, c4, c5, c6, c7, .int .i64 c.live, .int .i64 c.garb])
    have HBX := Lib.hid hbx
    have HBX2 := Lib.hid hbx2
    have HBX3 := Lib.hid (show (W.setRow g3 #[c0, c1, c2, c3, c4, c5, c6, c7, .int .i64 c.live, .int .i64 c.garb]).heap[g4]? = some (.cells #[.slice none 0 0, .slice none 0 0, .slice none 0 0, .slice none 0 0, .slice none 0 0, .slice none 0 0, .slice none 0 0, .slice none 0 0, .int .i64 0, .int .i64 0] 32 (0, 0)) from (setRow_other W g3 g4 #[c0, c1, c2, c3, c4, c5, c6, c7, .int .i64 c.live, .int .i64 c.garb] (fun h => hgg h.symm)).trans HBX2.out)
    have R2 := Lib.hid (below_setRowM R1.out hg2 #[d0, d1, d2, d3, d4, d5, d6, d7, .int .i64 d.live, .int .i64 d.garb])
    have HGG := Lib.hid hgg
    clear MV1 HV2c hmsb hb hbx hbx2 hgg
    refine held_gw 22 rfl (by kernel_rfl) (by kernel_rfl) fun K hK => ?_
    refine wp_store_row 32 _ _ rfl g3 #[c0, c1, c2, c3, c4, c5, c6, c7, .int .i64 c.live, .int .i64 c.garb] (by rfl) (by rfl) 32 _ HBX.out infoM10 rfl ONA.out ?_
    refine hK _ _ R1.out ?_
    clear hK K
    refine held_gw 23 rfl (by kernel_rfl) (by kernel_rfl) fun K hK => ?_
    refine wp_store_row 32 _ _ rfl g4 #[d0, d1, d2, d3, d4, d5, d6, d7, .int .i64 d.live, .int .i64 d.garb] (by rfl) (by rfl) 32 _ HBX3.out infoM10 rfl ONB.out ?_
    refine hK _ _ R2.out ?_
    clear hK K
    refine wpAnyH_done (by kernel_rfl) ?_ _
    unfold onlyN
    dsimp only
    have HC8 := Lib.hid (show ((W.setRow g3 #[c0, c1, c2, c3, c4, c5, c6, c7, .int .i64 c.live, .int .i64 c.garb]).setRow g4 #[d0, d1, d2, d3, d4, d5, d6, d7, .int .i64 d.live, .int .i64 d.garb]).heap[g3]? = some (.cells #[c0, c1, c2, c3, c4, c5, c6, c7, .int .i64 c.live, .int .i64 c.garb] 32 (0, 0)) from (setRow_other _ g4 g3 _ HGG.out).trans (setRow_heap W g3 _ #[c0, c1, c2, c3, c4, c5, c6, c7, .int .i64 c.live, .int .i64 c.garb] _ _ HBX.out))
    have HD8 := Lib.hid (setRow_heap (W.setRow g3 #[c0, c1, c2, c3, c4, c5, c6, c7, .int .i64 c.live, .int .i64 c.garb]) g4 _ #[d0, d1, d2, d3, d4, d5, d6, d7, .int .i64 d.live, .int .i64 d.garb] _ _ HBX3.out)
    have MSC8 := Lib.hid (ms_setRowZ (ms_setRowZ MSA.out HBX.out (cs := #[c0, c1, c2, c3, c4, c5, c6, c7, .int .i64 c.live, .int .i64 c.garb])) HBX3.out (cs := #[d0, d1, d2, d3, d4, d5, d6, d7, .int .i64 d.live, .int .i64 d.garb]))
    have MSD8 := Lib.hid (ms_setRowZ (ms_setRowZ MSB.out HBX.out (cs := #[c0, c1, c2, c3, c4, c5, c6, c7, .int .i64 c.live, .int .i64 c.garb])) HBX3.out (cs := #[d0, d1, d2, d3, d4, d5, d6, d7, .int .i64 d.live, .int .i64 d.garb]))
    clear MSA MSB HBX HBX2 HBX3 ONA ONB hS SD hg hg2 R1 HGG
    generalize (W.setRow g3 #[c0, c1, c2, c3, c4, c5, c6, c7, .int .i64 c.live, .int .i64 c.garb]).setRow g4 #[d0, d1, d2, d3, d4, d5, d6, d7, .int .i64 d.live, .int .i64 d.garb] = w8 at *
    have HM8 := Lib.hid ((R2.out.block _ (lt_of_some HM7.out)).trans HM7.out)
    have MS8 := Lib.hid (ms_below MS7.out R2.out)
    have CP8 := Lib.hid (CP7.out.below R2.out)
    have CQ8 := Lib.hid (CQ7.out.below R2.out)
    have B8 := Lib.hid (B7.out.trans (R2.out.mono B7.out.size))
    have HA8 := Lib.hid ((R2.out.block _ (lt_of_some HA7.out)).trans HA7.out)
    have MSA8 := Lib.hid (ms_below MSA7.out R2.out)
    have HB8 := Lib.hid ((R2.out.block _ (lt_of_some HB7.out)).trans HB7.out)
    have MSB8 := Lib.hid (ms_below MSB7.out R2.out)
    clear HM7 MS7 CP7 CQ7 B7 HA7 MSA7 HB7 MSB7
    clear R2
    go_upto_region 10 with fail
    refine wp_onlyN ?_
    refine wp_region_headsS (fun W' => Below w8.heap.size w8 W') [0, 2] 14 (by kernel_rfl) (fun _ _ _ _ _ h => h.elim) (by kernel_rfl) (by rfl) (by rfl) (Below.refl w8.heap.size w8).drew ?_
    simp only [pickOps, List.filterMap_cons, List.filterMap_nil, List.getElem?_toArray, List.getElem?_cons_zero, List.getElem?_cons_succ]
    refine wpHeads_step (fun K hK => ?_)
    go_simp
    refine ⟨.agg #[a0, a1, a2, a3, a4, a5, a6, a7, .int .i64 a.live, .int .i64 a.garb], fun w' hw' => by
      obtain ⟨x0, x1, x2, x3, x4, x5, x6, x7, x8, x9⟩ := bx10 ((hw'.block _ (lt_of_some HA8.out)).trans HA8.out)
      go_simp, hK _ ?_⟩
    clear hK K
    refine wpHeads_step (fun K hK => ?_)
    go_simp
    refine ⟨.agg #[b0, b1, b2, b3, b4, b5, b6, b7, .int .i64 b.live, .int .i64 b.garb], fun w' hw' => by
      obtain ⟨x0, x1, x2, x3, x4, x5, x6, x7, x8, x9⟩ := bx10 ((hw'.block _ (lt_of_some HB8.out)).trans HB8.out)
      go_simp, hK _ ?_⟩
    clear hK K
    refine wpHeads_nil ?_
    have SD := Lib.hid (Below.refl w8.heap.size w8).drew
    generalize w8.drew = WD at *
    refine held_gw 1 rfl (by kernel_rfl) (by kernel_rfl) fun K hK => ?_
    go_simp
    go_at_call 26
    refine (told11_any _ a WD ⟨a0, a1, a2, a3, a4, a5, a6, a7, rfl, ms_below MSA8.out SD.out⟩).mono ?_
    rintro e W1 ⟨rfl, hb⟩
    refine hK _ _ (SD.out.trans (hb.mono SD.out.size)) ?_
    clear hK K
    have S1 := Lib.hid (SD.out.trans (hb.mono SD.out.size))
    clear hb SD
    refine held_gw 3 rfl (by kernel_rfl) (by kernel_rfl) fun K hK => ?_
    go_simp
    go_at_call 26
    refine (told11_any _ b W1 ⟨b0, b1, b2, b3, b4, b5, b6, b7, rfl, ms_below MSB8.out S1.out⟩).mono ?_
    rintro e W3 ⟨rfl, hb⟩
    refine hK _ _ (S1.out.trans (hb.mono S1.out.size)) ?_
    clear hK K
    have S3 := Lib.hid (S1.out.trans (hb.mono S1.out.size))
    clear hb S1
    have RS := Lib.hid (rsame11_any _ _ a b W3 ⟨a0, a1, a2, a3, a4, a5, a6, a7, rfl, ms_below MSA8.out S3.out⟩ ⟨b0, b1, b2, b3, b4, b5, b6, b7, rfl, ms_below MSB8.out S3.out⟩)
    rw [OP.out] at RS
    refine held_gw 4 rfl (by kernel_rfl) (by kernel_rfl) fun K hK => ?_
    go_simp
    go_at_call 25
    refine RS.out.mono ?_
    rintro e W5 ⟨rfl, hb⟩
    refine hK _ _ (S3.out.trans (hb.mono S3.out.size)) ?_
    clear hK K
    have S5 := Lib.hid (S3.out.trans (hb.mono S3.out.size))
    clear hb S3
    clear RS
    refine held_gw 5 rfl (by kernel_rfl) (by kernel_rfl) fun K hK => ?_
    go_simp
    refine hK _ _ S5.out ?_
    clear hK K
    refine wpAnyH_take (i := 6) (v := .agg #[c0, c1, c2, c3, c4, c5, c6, c7, .int .i64 c.live, .int .i64 c.garb]) rfl (by kernel_rfl) (by kernel_rfl) (by kernel_rfl) (fun _ _ _ h => h) (Or.inl ⟨by kernel_rfl, fun w' hw' => by
      obtain ⟨x0, x1, x2, x3, x4, x5, x6, x7, x8, x9⟩ := bx10 ((hw'.block _ (lt_of_some HC8.out)).trans HC8.out)
      go_simp⟩) S5.out ?_
    refine wpAnyH_take (i := 8) (v := .agg #[d0, d1, d2, d3, d4, d5, d6, d7, .int .i64 d.live, .int .i64 d.garb]) rfl (by kernel_rfl) (by kernel_rfl) (by kernel_rfl) (fun _ _ _ h => h) (Or.inl ⟨by kernel_rfl, fun w' hw' => by
      obtain ⟨x0, x1, x2, x3, x4, x5, x6, x7, x8, x9⟩ := bx10 ((hw'.block _ (lt_of_some HD8.out)).trans HD8.out)
      go_simp⟩) S5.out ?_
    refine held_gw 7 rfl (by kernel_rfl) (by kernel_rfl) fun K hK => ?_
    go_simp
    go_at_call 26
    refine (told11_any _ c W5 ⟨c0, c1, c2, c3, c4, c5, c6, c7, rfl, ms_below MSC8.out S5.out⟩).mono ?_
    rintro e W6 ⟨rfl, hb⟩
    refine hK _ _ (S5.out.trans (hb.mono S5.out.size)) ?_
    clear hK K
    have S6 := Lib.hid (S5.out.trans (hb.mono S5.out.size))
    clear hb S5
    refine held_gw 9 rfl (by kernel_rfl) (by kernel_rfl) fun K hK => ?_
    go_simp
    go_at_call 26
    refine (told11_any _ d W6 ⟨d0, d1, d2, d3, d4, d5, d6, d7, rfl, ms_below MSD8.out S6.out⟩).mono ?_
    rintro e W7 ⟨rfl, hb⟩
    refine hK _ _ (S6.out.trans (hb.mono S6.out.size)) ?_
    clear hK K
    have S7 := Lib.hid (S6.out.trans (hb.mono S6.out.size))
    clear hb S6
    have RS := Lib.hid (rsame11_any _ _ c d W7 ⟨c0, c1, c2, c3, c4, c5, c6, c7, rfl, ms_below MSC8.out S7.out⟩ ⟨d0, d1, d2, d3, d4, d5, d6, d7, rfl, ms_below MSD8.out S7.out⟩)
    rw [OD.out] at RS
    refine held_gw 10 rfl (by kernel_rfl) (by kernel_rfl) fun K hK => ?_
    go_simp
    go_at_call 25
    refine RS.out.mono ?_
    rintro e W8 ⟨rfl, hb⟩
    refine hK _ _ (S7.out.trans (hb.mono S7.out.size)) ?_
    clear hK K
    have S8 := Lib.hid (S7.out.trans (hb.mono S7.out.size))
    clear hb S7
    clear RS
    refine held_gw 11 rfl (by kernel_rfl) (by kernel_rfl) fun K hK => ?_
    go_simp
    refine hK _ _ S8.out ?_
    clear hK K
    refine held_gw 12 rfl (by kernel_rfl) (by kernel_rfl) fun K hK => ?_
    go_simp
    refine hK _ _ S8.out ?_
    clear hK K
    refine held_gw 13 rfl (by kernel_rfl) (by kernel_rfl) fun K hK => ?_
    go_simp
    go_at_call 10
    refine (awake11_any W8).mono ?_
    rintro e W9 ⟨rfl, hb⟩
    refine hK _ _ (S8.out.trans (hb.mono S8.out.size)) ?_
    clear hK K
    have S9 := Lib.hid (S8.out.trans (hb.mono S8.out.size))
    clear hb S8
    refine held_gw 14 rfl (by kernel_rfl) (by kernel_rfl) fun K hK => ?_
    go_simp
    refine hK _ _ S9.out ?_
    clear hK K
    refine held_gw 15 rfl (by kernel_rfl) (by kernel_rfl) fun K hK => ?_
    go_simp
    refine hK _ _ S9.out ?_
    clear hK K
    refine wpAnyH_done (by kernel_rfl) ?_ _
    unfold onlyN
    dsimp only
    go_wp2
    go_ret
    exact ⟨rfl, B8.out.trans (S9.out.mono B8.out.size)⟩
end Go.Proofs.Ytlooldnaoooehaa.Gf
