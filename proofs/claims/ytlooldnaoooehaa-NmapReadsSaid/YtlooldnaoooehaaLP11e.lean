/- What is proved here: the law NmapReads answers true. No condition. -/
import Derived.Test.YtlooldnaoooehaaP11y
import Derived.Test.YtlooldnaoooehaaGn
namespace Go.Proofs.Ytlooldnaoooehaa.Gf
open Go Go.Joins Go.ChangeShapes Go.WideShapes Go.ChangeAt Go.RowKit Go.Deep Go.Proofs.Ytlooldnaoooehaa.By Go.Proofs.Ytlooldnaoooehaa.Qt

set_option maxRecDepth 100000 in
set_option maxHeartbeats 25600000 in
theorem reads_any (vr : Value) (raw : Mp) (v : Value) (L : List Itm) (gb : Int) (_hgb : J64 gb) (key : Nat) (hkey : key < 18446744073709551616) (w : World) (hraw : Mv w vr raw) (sl : It w v L) : Calls Try.prog 3 #[vr, v, .int .i64 gb, .int .u64 (key : Int)] w fun e w' => e = .returned (.bool true) ∧ Below w.heap.size w w' := by
  obtain ⟨s0, s1, s2, s3, s4, s5, s6, s7, rfl, hms⟩ := hraw
  have BX := Lib.hid (bel_al w (.cells #[s0, s1, s2, s3, s4, s5, s6, s7, .int .i64 raw.live, .int .i64 raw.garb] 25))
  have HR1 := Lib.hid (heap_alloc_new w (.cells #[s0, s1, s2, s3, s4, s5, s6, s7, .int .i64 raw.live, .int .i64 raw.garb] 25))
  have MR1 := Lib.hid (ms_below hms BX.out)
  have SL1 := Lib.hid (it_below sl BX.out)
  have HLEN := Lib.hid hms.1
  obtain ⟨aL, cL, rfl, -, -⟩ := it_form sl
  have KOK := Lib.hid (itm_ok L)
  have KLN := Lib.hid (itm_len L)
  have EA := Lib.hid (show bits .and .i64 gb 65535 = gb % 65536 from and_low gb 16 (by decide))
  have EK := Lib.hid (show bits .and .u64 (key : Int) 7 = ((key % 8 : Nat) : Int) from and_low64 key hkey 3 (by decide))
  have PIT := Lib.hid (fun W (h : It W (.slice aL L.length cL) L) => litems_any _ L W h)
  generalize itmL L = K at *
  have GF := gd_from (g := gb % 65536) KOK.out (by omega) (by omega)
  have G0 := Lib.hid (GF.1.up (k := 20) KLN.out)
  have HJ := Lib.hid (show J64 (gb % 65536) by unfold J64; omega)
  generalize hnL : L.length = nL at *
  clear hms sl GF hkey hnL
  go_enter Try.func3, Try.ntmps3
  go_upto_region 1 with fail
  generalize w.alloc (.cells #[s0, s1, s2, s3, s4, s5, s6, s7, .int .i64 raw.live, .int .i64 raw.garb] 25) = W1 at *
  obtain ⟨x0, x1, x2, x3, x4, x5, x6, x7, x8, x9⟩ := bx10 HR1.out
  go_wp2_with fail
  clear x0 x1 x2 x3 x4 x5 x6 x7 x8 x9
  refine (light11_any _ raw W1 ⟨s0, s1, s2, s3, s4, s5, s6, s7, rfl, MR1.out⟩).mono ?_
  rintro e w2 ⟨⟨q, rfl, hq⟩, hb⟩
  have HQ := Lib.hid hq
  have HR2 := Lib.hid ((hb.block _ (lt_of_some HR1.out)).trans HR1.out)
  have MR2 := Lib.hid (ms_below MR1.out hb)
  have SL2 := Lib.hid (it_below SL1.out hb)
  have B2 := Lib.hid (BX.out.trans (hb.mono BX.out.size))
  clear hb hq HR1 MR1 SL1 BX
  cases q
  case false =>
    go_wp2_with fail
    refine (awake11_any w2).mono ?_
    rintro e wz ⟨rfl, hb⟩
    have BZ := Lib.hid (B2.out.trans (hb.mono B2.out.size))
    clear hb
    go_wp2_with fail
    go_ret
    exact ⟨rfl, BZ.out⟩
  have BD0 := Lib.hid (bd_raw (HQ.out rfl) HLEN.out)
  clear HQ
  go_upto_region 3 with fail
  refine wp_onlyN ?_
  refine wp_region_headsS (fun W' => Below w2.heap.size w2 W') [0, 1, 3, 4, 8] 4 (by kernel_rfl) (fun _ _ _ _ _ h => h.elim) (by kernel_rfl) (by rfl) (by rfl) (Below.refl w2.heap.size w2).drew ?_
  simp only [pickOps, List.filterMap_cons, List.filterMap_nil, List.getElem?_toArray, List.getElem?_cons_zero, List.getElem?_cons_succ]
  refine wpHeads_step (fun K hK => ?_)
  go_simp
  refine ⟨.agg #[s0, s1, s2, s3, s4, s5, s6, s7, .int .i64 raw.live, .int .i64 raw.garb], fun w' hw' => by
    obtain ⟨x0, x1, x2, x3, x4, x5, x6, x7, x8, x9⟩ := bx10 ((hw'.block _ (lt_of_some HR2.out)).trans HR2.out)
    go_simp, hK _ ?_⟩
  clear hK K
  refine wpHeads_step (fun K hK => ?_)
  go_simp
  refine ⟨_, fun _ _ => rfl, hK _ ?_⟩
  clear hK K
  refine wpHeads_step (fun K hK => ?_)
  go_simp
  refine ⟨_, fun _ _ => rfl, hK _ ?_⟩
  clear hK K
  refine wpHeads_step (fun K hK => ?_)
  go_simp
  refine ⟨.int .i64 (gb % 65536), fun w' hw' => by
    have e := EA.out
    go_simp, hK _ ?_⟩
  clear hK K
  refine wpHeads_step (fun K hK => ?_)
  go_simp
  refine ⟨_, fun _ _ => rfl, hK _ ?_⟩
  clear hK K
  refine wpHeads_nil ?_
  have SD := Lib.hid (Below.refl w2.heap.size w2).drew
  generalize w2.drew = WD at *
  refine held_gw 2 rfl (by kernel_rfl) (by kernel_rfl) fun K hK => ?_
  go_simp
  go_at_call 12
  refine (PIT.out WD (it_below SL2.out SD.out)).mono ?_
  rintro e V1 ⟨⟨v1, rfl, ho1⟩, hb⟩
  refine hK _ _ (SD.out.trans (hb.mono SD.out.size)) ?_
  clear hK K
  have S1 := Lib.hid (SD.out.trans (hb.mono SD.out.size))
  obtain ⟨aK, cK, rfl, -, -⟩ := owT_form ho1
  have PF := Lib.hid (rfrom_any _ K (gb % 65536) V1 (owT_it ho1) (Nat.le_trans KLN.out (by decide)) HJ.out)
  obtain ⟨F, hF⟩ : ∃ z, z = fromL K (gb % 65536) := ⟨_, rfl⟩
  rw [← hF] at PF G0
  generalize K.length = nK at *
  clear ho1 hb SD hF PIT
  refine held_gw 5 rfl (by kernel_rfl) (by kernel_rfl) fun K hK => ?_
  go_simp
  go_at_call 11
  refine PF.out.mono ?_
  rintro e V2 ⟨⟨v2, rfl, hv2⟩, hb⟩
  refine hK _ _ (S1.out.trans (hb.mono S1.out.size)) ?_
  clear hK K
  have S2 := Lib.hid (S1.out.trans (hb.mono S1.out.size))
  obtain ⟨t0, t1, t2, t3, t4, t5, t6, t7, rfl, hms2⟩ := hv2
  have q3 := bel_al V2 (.cells #[s0, s1, s2, s3, s4, s5, s6, s7, .int .i64 raw.live, .int .i64 raw.garb, t0, t1, t2, t3, t4, t5, t6, t7, .int .i64 F.live, .int .i64 F.garb] 25)
  have S3 := Lib.hid (S2.out.trans (q3.mono S2.out.size))
  have HB3 := Lib.hid (heap_alloc_new V2 (.cells #[s0, s1, s2, s3, s4, s5, s6, s7, .int .i64 raw.live, .int .i64 raw.garb, t0, t1, t2, t3, t4, t5, t6, t7, .int .i64 F.live, .int .i64 F.garb] 25))
  have MA3 := Lib.hid (marr2 HB3.out (ms_below MR2.out S3.out) (ms_below hms2 q3) BD0.out (bd_gd G0.out (by decide)))
  clear hb S1 PF hms2 q3 HB3
  refine held_gw 6 rfl (by kernel_rfl) (by kernel_rfl) fun K hK => ?_
  go_simp
  refine hK _ _ S3.out ?_
  clear hK K S2
  generalize V2.alloc (.cells #[s0, s1, s2, s3, s4, s5, s6, s7, .int .i64 raw.live, .int .i64 raw.garb, t0, t1, t2, t3, t4, t5, t6, t7, .int .i64 F.live, .int .i64 F.garb] 25) = w3 at *
  generalize V2.heap.size = gm at *
  refine held_gw 7 rfl (by kernel_rfl) (by kernel_rfl) fun K hK => ?_
  go_simp
  refine hK _ _ S3.out ?_
  clear hK K
  refine wpAnyH_done (by kernel_rfl) ?_ _
  unfold onlyN
  dsimp only
  have B3 := Lib.hid (B2.out.trans (S3.out.mono B2.out.size))
  clear S3 B2 HR2 MR2 SL2 BD0 G0
  go_wp2_with fail
  go_loopw [30] (fun t30 wr => ∃ j : Nat, j ≤ 2 ∧ t30 = .int .i64 (j : Int) ∧ Hid (Below w3.heap.size w3 wr)) (fun t _ => 2 - (intOf t).toNat)
  case atStart => exact ⟨0, by omega, rfl, Lib.hid (Below.refl _ _)⟩
  case round =>
    obtain ⟨j, hj, rfl, BR⟩ := hrel
    rename World => wl
    by_cases hlt : j < 2
    case neg =>
      have l1 : decide ((j : Int) < 2) = false := decide_eq_false (by omega)
      have l2 : decide (j < 2) = false := decide_eq_false hlt
      clear hlt hj
      have SP := Lib.hid (fun W => pstripe_any key W)
      have SR := Lib.hid (fun W => rstripe_any key W)
      have e1 : (((sp key : Nat) : Int) == ((sp key : Nat) : Int)) = true := by simp
      generalize sp key = sk at *
      go_wp2_with fail
      refine (SP.out wl).mono ?_
      rintro e wl1 ⟨rfl, rfl⟩
      go_wp2_with fail
      refine (SR.out wl).mono ?_
      rintro e wl1 ⟨rfl, rfl⟩
      go_wp2_with fail
      refine (awake11_any wl).mono ?_
      rintro e wz ⟨rfl, hb⟩
      have BZ := Lib.hid (B3.out.trans ((BR.out.trans (hb.mono BR.out.size)).mono B3.out.size))
      clear hb
      go_wp2_with fail
      go_ret
      exact ⟨rfl, BZ.out⟩
    have l1 : decide ((j : Int) < 2) = true := decide_eq_true (by omega)
    have l2 : decide (j < 2) = true := decide_eq_true hlt
    have HI := Lib.hid hlt
    have EW := Lib.hid (show wrap64 ((j : Int) + 1) = ((j + 1 : Nat) : Int) by have := HI.out; unfold wrap64; omega)
    obtain ⟨m, hat, hbd⟩ := MA3.out.below BR.out j hlt
    have BD := Lib.hid hbd
    obtain ⟨c0, c1, c2, c3, c4, c5, c6, c7, ⟨x0, x1, x2, x3, x4, x5, x6, x7, x8, x9⟩, hms⟩ := hat
    have HL8 := Lib.hid hms.1
    have ON := Lib.hid (ms_one hms m.live m.garb)
    have p0 : (0 : Int) ≤ (j : Int) := by omega
    have p1 : (j : Int) < 2 := by omega
    have hz := heap_alloc_new wl (.cells #[.slice none 0 0, .slice none 0 0, .slice none 0 0, .slice none 0 0, .slice none 0 0, .slice none 0 0, .slice none 0 0, .slice none 0 0, .int .i64 0, .int .i64 0] 25)
    clear hlt hj hbd
    go_upto_region 6 with ((with_reducible refine storeR (wl.heap.size) _ #[c0, c1, c2, c3, c4, c5, c6, c7, .int .i64 m.live, .int .i64 m.garb] ?_ ?_ hz rfl rfl ON.out ?_); exact rfl; exact rfl)
    rw [World.setRow_alloc_new]
    clear x0 x1 x2 x3 x4 x5 x6 x7 x8 x9
    clear l1 l2 p0 p1 hz
    have hb := bel_al wl (.cells #[c0, c1, c2, c3, c4, c5, c6, c7, .int .i64 m.live, .int .i64 m.garb] 25)
    have HA4 := Lib.hid (heap_alloc_new wl (.cells #[c0, c1, c2, c3, c4, c5, c6, c7, .int .i64 m.live, .int .i64 m.garb] 25))
    have MS4 := Lib.hid (ms_below hms hb)
    have B4 := Lib.hid (BR.out.trans (hb.mono BR.out.size))
    clear hb hms BR
    generalize wl.alloc (.cells #[c0, c1, c2, c3, c4, c5, c6, c7, .int .i64 m.live, .int .i64 m.garb] 25) = w4 at *
    generalize wl.heap.size = gr at *
    obtain ⟨x0, x1, x2, x3, x4, x5, x6, x7, x8, x9⟩ := bx10 HA4.out
    go_wp2_with fail
    clear x0 x1 x2 x3 x4 x5 x6 x7 x8 x9
    refine (given11_any _ m w4 ⟨c0, c1, c2, c3, c4, c5, c6, c7, rfl, MS4.out⟩).mono ?_
    rintro e w5 ⟨rfl, hb⟩
    have hz := heap_alloc_new w5 (.cells #[.slice none 0 0, .slice none 0 0, .slice none 0 0, .slice none 0 0, .slice none 0 0, .slice none 0 0, .slice none 0 0, .slice none 0 0, .int .i64 0, .int .i64 0] 32)
    go_upto_region 7 with ((with_reducible refine storeM (w5.heap.size) _ #[c0, c1, c2, c3, c4, c5, c6, c7, .int .i64 m.live, .int .i64 m.garb] ?_ ?_ hz rfl rfl ON.out ?_); exact rfl; exact rfl)
    rw [World.setRow_alloc_new]
    have hb2 := bel_al w5 (.cells #[c0, c1, c2, c3, c4, c5, c6, c7, .int .i64 m.live, .int .i64 m.garb] 32)
    have hb3 := hb.trans (hb2.mono hb.size)
    have HP6 := Lib.hid (heap_alloc_new w5 (.cells #[c0, c1, c2, c3, c4, c5, c6, c7, .int .i64 m.live, .int .i64 m.garb] 32))
    have HA6 := Lib.hid ((hb3.block _ (lt_of_some HA4.out)).trans HA4.out)
    have MS6 := Lib.hid (ms_below MS4.out hb3)
    have B6 := Lib.hid (B4.out.trans (hb3.mono B4.out.size))
    clear hb hb2 hb3 hz HA4 MS4 B4
    generalize w5.alloc (.cells #[c0, c1, c2, c3, c4, c5, c6, c7, .int .i64 m.live, .int .i64 m.garb] 32) = w6 at *
    generalize w5.heap.size = gp at *
    -- the keys
    have ek := EK.out
    obtain ⟨k7, hk7⟩ : ∃ z : Nat, z = key % 8 := ⟨_, rfl⟩
    rw [← hk7] at ek
    have hb := bel_al w6 (.cells #[.int .u64 (key : Int), .int .u64 (k7 : Int)] 26)
    have KA7 := Lib.hid (karr_mk (heap_alloc_new w6 (.cells #[.int .u64 (key : Int), .int .u64 (k7 : Int)] 26)))
    have HP7 := Lib.hid ((hb.block _ (lt_of_some HP6.out)).trans HP6.out)
    have HA7 := Lib.hid ((hb.block _ (lt_of_some HA6.out)).trans HA6.out)
    have MS7 := Lib.hid (ms_below MS6.out hb)
    have B7 := Lib.hid (B6.out.trans (hb.mono B6.out.size))
    clear hb HP6 HA6 MS6 B6 hk7
    go_wp2_with fail
    clear ek
    generalize w6.alloc (.cells #[.int .u64 (key : Int), .int .u64 (k7 : Int)] 26) = w7 at *
    generalize w6.heap.size = gk at *
    go_loopw [41] (fun t41 wr => ∃ i : Nat, i ≤ 2 ∧ t41 = .int .i64 (i : Int) ∧ Hid (Below w7.heap.size w7 wr)) (fun t _ => 2 - (intOf t).toNat)
    case atStart => exact ⟨0, by omega, rfl, Lib.hid (Below.refl _ _)⟩
    case round =>
      obtain ⟨i, hi, rfl, BQ⟩ := hrel
      rename World => wk
      by_cases hlt : i < 2
      case neg =>
        have l1 : decide ((i : Int) < 2) = false := decide_eq_false (by omega)
        have l2 : decide (i < 2) = false := decide_eq_false hlt
        clear hlt hi
        have HPk := Lib.hid ((BQ.out.block _ (lt_of_some HP7.out)).trans HP7.out)
        have HAk := Lib.hid ((BQ.out.block _ (lt_of_some HA7.out)).trans HA7.out)
        have MSk := Lib.hid (ms_below MS7.out BQ.out)
        have Bk := Lib.hid (B7.out.trans (BQ.out.mono B7.out.size))
        go_upto_region 15 with fail
        clear l1 l2
        refine wp_onlyN ?_
        refine wp_region_headsS (fun W' => Below wk.heap.size wk W') [0, 2] 18 (by kernel_rfl) (fun _ _ _ _ _ h => h.elim) (by kernel_rfl) (by rfl) (by rfl) (Below.refl wk.heap.size wk).drew ?_
        simp only [pickOps, List.filterMap_cons, List.filterMap_nil, List.getElem?_toArray, List.getElem?_cons_zero, List.getElem?_cons_succ]
        refine wpHeads_step (fun K hK => ?_)
        go_simp
        refine ⟨.agg #[c0, c1, c2, c3, c4, c5, c6, c7, .int .i64 m.live, .int .i64 m.garb], fun w' hw' => by
          obtain ⟨x0, x1, x2, x3, x4, x5, x6, x7, x8, x9⟩ := bx10 ((hw'.block _ (lt_of_some HPk.out)).trans HPk.out)
          go_simp, hK _ ?_⟩
        clear hK K
        refine wpHeads_step (fun K hK => ?_)
        go_simp
        refine ⟨.agg #[c0, c1, c2, c3, c4, c5, c6, c7, .int .i64 m.live, .int .i64 m.garb], fun w' hw' => by
          obtain ⟨x0, x1, x2, x3, x4, x5, x6, x7, x8, x9⟩ := bx10 ((hw'.block _ (lt_of_some HAk.out)).trans HAk.out)
          go_simp, hK _ ?_⟩
        clear hK K
        refine wpHeads_nil ?_
        have SD := Lib.hid (Below.refl wk.heap.size wk).drew
        generalize wk.drew = WD at *
        obtain ⟨qv, hqv⟩ : ∃ z, z = okMb m := ⟨_, rfl⟩
        have HQV := Lib.hid hqv
        clear hqv
        have PV := Lib.hid (pvalid11_any _ m WD ⟨c0, c1, c2, c3, c4, c5, c6, c7, rfl, ms_below MSk.out SD.out⟩ BD.out.few)
        rw [← HQV.out] at PV
        refine held_gw 1 rfl (by kernel_rfl) (by kernel_rfl) fun K hK => ?_
        go_simp
        go_at_call 16
        refine PV.out.mono ?_
        rintro e V1 ⟨rfl, hb⟩
        refine hK _ _ (SD.out.trans (hb.mono SD.out.size)) ?_
        clear hK K
        have S1 := Lib.hid (SD.out.trans (hb.mono SD.out.size))
        clear hb SD
        have RV := Lib.hid (rvalid11_any _ m V1 ⟨c0, c1, c2, c3, c4, c5, c6, c7, rfl, ms_below MSk.out S1.out⟩ BD.out.few)
        rw [← HQV.out] at RV
        refine held_gw 3 rfl (by kernel_rfl) (by kernel_rfl) fun K hK => ?_
        go_simp
        go_at_call 17
        refine RV.out.mono ?_
        rintro e V3 ⟨rfl, hb⟩
        refine hK _ _ (S1.out.trans (hb.mono S1.out.size)) ?_
        clear hK K
        have S3 := Lib.hid (S1.out.trans (hb.mono S1.out.size))
        clear hb S1
        clear PV RV
        have e4 : (qv != qv) = false := by simp
        refine held_gw 4 rfl (by kernel_rfl) (by kernel_rfl) fun K hK => ?_
        go_simp
        refine hK _ _ S3.out ?_
        clear hK K
        refine held_gw 5 rfl (by kernel_rfl) (by kernel_rfl) fun K hK => ?_
        go_simp
        refine hK _ _ S3.out ?_
        clear hK K
        refine wpAnyH_take (i := 6) (v := .agg #[c0, c1, c2, c3, c4, c5, c6, c7, .int .i64 m.live, .int .i64 m.garb]) rfl (by kernel_rfl) (by kernel_rfl) (by kernel_rfl) (fun _ _ _ h => h) (Or.inl ⟨by kernel_rfl, fun w' hw' => by
          obtain ⟨x0, x1, x2, x3, x4, x5, x6, x7, x8, x9⟩ := bx10 ((hw'.block _ (lt_of_some HPk.out)).trans HPk.out)
          go_simp⟩) S3.out ?_
        refine wpAnyH_take (i := 8) (v := .agg #[c0, c1, c2, c3, c4, c5, c6, c7, .int .i64 m.live, .int .i64 m.garb]) rfl (by kernel_rfl) (by kernel_rfl) (by kernel_rfl) (fun _ _ _ h => h) (Or.inl ⟨by kernel_rfl, fun w' hw' => by
          obtain ⟨x0, x1, x2, x3, x4, x5, x6, x7, x8, x9⟩ := bx10 ((hw'.block _ (lt_of_some HAk.out)).trans HAk.out)
          go_simp⟩) S3.out ?_
        have PL := Lib.hid (plen11_any _ m V3 ⟨c0, c1, c2, c3, c4, c5, c6, c7, rfl, ms_below MSk.out S3.out⟩ BD.out.few (Nat.le_trans BD.out.flat (by decide)))
        rw [len_same HL8.out] at PL
        have HNI := Lib.hid (show (itemsL m).length ≤ 900 by rw [← len_same HL8.out]; unfold lenM; split; exact BD.out.flat; exact Nat.zero_le _)
        obtain ⟨nI, hnI⟩ : ∃ z, z = (itemsL m).length := ⟨_, rfl⟩
        rw [← hnI] at PL
        have HNN := Lib.hid hnI
        clear hnI
        refine held_gw 7 rfl (by kernel_rfl) (by kernel_rfl) fun K hK => ?_
        go_simp
        go_at_call 18
        refine PL.out.mono ?_
        rintro e V7 ⟨rfl, hb⟩
        refine hK _ _ (S3.out.trans (hb.mono S3.out.size)) ?_
        clear hK K
        have S7 := Lib.hid (S3.out.trans (hb.mono S3.out.size))
        clear hb S3
        have RL := Lib.hid (rlen11_any _ m V7 ⟨c0, c1, c2, c3, c4, c5, c6, c7, rfl, ms_below MSk.out S7.out⟩ BD.out.few)
        rw [← HNN.out] at RL
        refine held_gw 9 rfl (by kernel_rfl) (by kernel_rfl) fun K hK => ?_
        go_simp
        go_at_call 19
        refine RL.out.mono ?_
        rintro e V9 ⟨rfl, hb⟩
        refine hK _ _ (S7.out.trans (hb.mono S7.out.size)) ?_
        clear hK K
        have S9 := Lib.hid (S7.out.trans (hb.mono S7.out.size))
        clear hb S7
        clear PL RL
        have e5 : ((nI : Int) != (nI : Int)) = false := by simp
        refine held_gw 10 rfl (by kernel_rfl) (by kernel_rfl) fun K hK => ?_
        go_simp
        refine hK _ _ S9.out ?_
        clear hK K
        refine held_gw 11 rfl (by kernel_rfl) (by kernel_rfl) fun K hK => ?_
        go_simp
        refine hK _ _ S9.out ?_
        clear hK K
        refine held_gw 12 rfl (by kernel_rfl) (by kernel_rfl) fun K hK => ?_
        go_simp
        refine hK _ _ S9.out ?_
        clear hK K
        refine wpAnyH_take (i := 13) (v := .agg #[c0, c1, c2, c3, c4, c5, c6, c7, .int .i64 m.live, .int .i64 m.garb]) rfl (by kernel_rfl) (by kernel_rfl) (by kernel_rfl) (fun _ _ _ h => h) (Or.inl ⟨by kernel_rfl, fun w' hw' => by
          obtain ⟨x0, x1, x2, x3, x4, x5, x6, x7, x8, x9⟩ := bx10 ((hw'.block _ (lt_of_some HPk.out)).trans HPk.out)
          go_simp⟩) S9.out ?_
        refine wpAnyH_take (i := 15) (v := .agg #[c0, c1, c2, c3, c4, c5, c6, c7, .int .i64 m.live, .int .i64 m.garb]) rfl (by kernel_rfl) (by kernel_rfl) (by kernel_rfl) (fun _ _ _ h => h) (Or.inl ⟨by kernel_rfl, fun w' hw' => by
          obtain ⟨x0, x1, x2, x3, x4, x5, x6, x7, x8, x9⟩ := bx10 ((hw'.block _ (lt_of_some HAk.out)).trans HAk.out)
          go_simp⟩) S9.out ?_
        have PJ := Lib.hid (pitems11_any _ m V9 ⟨c0, c1, c2, c3, c4, c5, c6, c7, rfl, ms_below MSk.out S9.out⟩ BD.out.few (Nat.le_trans BD.out.flat (by decide)))
        refine held_gw 14 rfl (by kernel_rfl) (by kernel_rfl) fun K hK => ?_
        go_simp
        go_at_call 21
        refine PJ.out.mono ?_
        rintro e Va ⟨⟨vi, rfl, hit⟩, hb⟩
        refine hK _ _ (S9.out.trans (hb.mono S9.out.size)) ?_
        clear hK K
        have IT1 := Lib.hid hit
        have S14 := Lib.hid (S9.out.trans (hb.mono S9.out.size))
        obtain ⟨ai, ci, rfl, -, -⟩ := it_form hit
        have RJ := Lib.hid (ritems11_any _ m Va ⟨c0, c1, c2, c3, c4, c5, c6, c7, rfl, ms_below MSk.out S14.out⟩ BD.out.few)
        rw [← HNN.out] at IT1 ⊢
        clear hit hb S9 PJ e4 e5
        refine held_gw 16 rfl (by kernel_rfl) (by kernel_rfl) fun K hK => ?_
        go_simp
        go_at_call 22
        refine RJ.out.mono ?_
        rintro e Vb ⟨⟨vj, rfl, hjt⟩, hb⟩
        refine hK _ _ (S14.out.trans (hb.mono S14.out.size)) ?_
        clear hK K
        have S16 := Lib.hid (S14.out.trans (hb.mono S14.out.size))
        have PSM := Lib.hid (rsame8_any _ vj (itemsL m) (itemsL m) Vb (it_below IT1.out hb) hjt)
        rw [decide_eq_true rfl] at PSM
        obtain ⟨aj, cj, rfl, -, -⟩ := it_form hjt
        rw [← HNN.out] at PSM ⊢
        clear hjt hb S14 RJ IT1
        refine held_gw 17 rfl (by kernel_rfl) (by kernel_rfl) fun K hK => ?_
        go_simp
        go_at_call 20
        refine PSM.out.mono ?_
        rintro e Vc ⟨rfl, hb⟩
        refine hK _ _ (S16.out.trans (hb.mono S16.out.size)) ?_
        clear hK K
        have S17 := Lib.hid (S16.out.trans (hb.mono S16.out.size))
        clear hb S16 PSM
        refine held_gw 18 rfl (by kernel_rfl) (by kernel_rfl) fun K hK => ?_
        go_simp
        refine hK _ _ S17.out ?_
        clear hK K
        refine held_gw 19 rfl (by kernel_rfl) (by kernel_rfl) fun K hK => ?_
        go_simp
        refine hK _ _ S17.out ?_
        clear hK K
        refine wpAnyH_done (by kernel_rfl) ?_ _
        unfold onlyN
        dsimp only
        have S9 := Lib.hid (Bk.out.trans (S17.out.mono Bk.out.size))
        clear S17
        go_upto_if 85 with fail
        go_wp2_with fail
        go_roundw
        case rel =>
          have h1 := HI.out
          exact ⟨j + 1, by omega, by rw [EW.out], S9⟩
        case measure =>
          have h1 := HI.out
          rw [EW.out]
          simp [intOf]; omega
      have l1 : decide ((i : Int) < 2) = true := decide_eq_true (by omega)
      have l2 : decide (i < 2) = true := decide_eq_true hlt
      have HK := Lib.hid hlt
      have EI := Lib.hid (show wrap64 ((i : Int) + 1) = ((i + 1 : Nat) : Int) by have := HK.out; unfold wrap64; omega)
      obtain ⟨k, hk⟩ := KA7.out.below BQ.out i hlt
      have p0 : (0 : Int) ≤ (i : Int) := by omega
      have p1 : (i : Int) < 2 := by omega
      have HPk := Lib.hid ((BQ.out.block _ (lt_of_some HP7.out)).trans HP7.out)
      have PG := Lib.hid (pget_any _ m k wk ⟨c0, c1, c2, c3, c4, c5, c6, c7, rfl, ms_below MS7.out BQ.out⟩ BD.out.few)
      have RG := Lib.hid (fun W (h : Below w7.heap.size w7 W) => rget11_any (.agg #[c0, c1, c2, c3, c4, c5, c6, c7, .int .i64 m.live, .int .i64 m.garb]) m k W ⟨c0, c1, c2, c3, c4, c5, c6, c7, rfl, ms_below MS7.out h⟩ BD.out.few)
      unfold FD at PG RG
      rw [(get_same HL8.out k).1, (get_same HL8.out k).2] at RG
      obtain ⟨y, hy⟩ : ∃ y, y = fnL (gL m k) k := ⟨_, rfl⟩
      obtain ⟨q, hq⟩ : ∃ q, q = hasL (gL m k) k := ⟨_, rfl⟩
      rw [← hy, ← hq] at PG RG
      have hneq : ∀ W : World, (binOp .neq 37 (.agg #[.int .u64 (y.key : Int), .int .u32 (y.ck : Int), .int .i64 y.off, .int .i64 y.sz]) (.agg #[.int .u64 (y.key : Int), .int .u32 (y.ck : Int), .int .i64 y.off, .int .i64 y.sz])).run Try.prog W = .ok (.bool false) W := fun W => by
        have h1 := neqT y y W
        rw [decide_eq_true rfl] at h1
        exact h1
      have HNEQ := Lib.hid hneq
      unfold TV at PG RG
      clear hlt hi hy hq hneq
      obtain ⟨x0, x1, x2, x3, x4, x5, x6, x7, x8, x9⟩ := bx10 HPk.out
      go_upto_region 10 with fail
      go_wp2_with fail
      clear x0 x1 x2 x3 x4 x5 x6 x7 x8 x9
      clear l1 l2 p0 p1 hk HPk
      refine PG.out.mono ?_
      rintro e wa ⟨rfl, hb⟩
      go_upto_region 11 with fail
      have hb2 := bel_al wa (.cells #[.int .u64 (y.key : Int), .int .u32 (y.ck : Int), .int .i64 y.off, .int .i64 y.sz] 37)
      have hb3 := hb.trans (hb2.mono hb.size)
      have HY1 := Lib.hid (heap_alloc_new wa (.cells #[.int .u64 (y.key : Int), .int .u32 (y.ck : Int), .int .i64 y.off, .int .i64 y.sz] 37))
      have BQ1 := Lib.hid (BQ.out.trans (hb3.mono BQ.out.size))
      have HAa := Lib.hid ((BQ1.out.block _ (lt_of_some HA7.out)).trans HA7.out)
      have RG1 := Lib.hid (RG.out _ BQ1.out)
      clear hb hb2 hb3 PG BQ RG
      generalize wa.alloc (.cells #[.int .u64 (y.key : Int), .int .u32 (y.ck : Int), .int .i64 y.off, .int .i64 y.sz] 37) = wb at *
      generalize wa.heap.size = g1 at *
      obtain ⟨x0, x1, x2, x3, x4, x5, x6, x7, x8, x9⟩ := bx10 HAa.out
      go_wp2_with fail
      clear x0 x1 x2 x3 x4 x5 x6 x7 x8 x9
      clear HAa
      refine RG1.out.mono ?_
      rintro e wc ⟨rfl, hb⟩
      go_upto_region 12 with fail
      have hb2 := bel_al wc (.cells #[.int .u64 (y.key : Int), .int .u32 (y.ck : Int), .int .i64 y.off, .int .i64 y.sz] 37)
      have hb3 := hb.trans (hb2.mono hb.size)
      have HY2 := Lib.hid (heap_alloc_new wc (.cells #[.int .u64 (y.key : Int), .int .u32 (y.ck : Int), .int .i64 y.off, .int .i64 y.sz] 37))
      have HY1d := Lib.hid ((hb3.block _ (lt_of_some HY1.out)).trans HY1.out)
      have BQ2 := Lib.hid (BQ1.out.trans (hb3.mono BQ1.out.size))
      clear hb hb2 hb3 RG1 BQ1 HY1
      generalize wc.alloc (.cells #[.int .u64 (y.key : Int), .int .u32 (y.ck : Int), .int .i64 y.off, .int .i64 y.sz] 37) = wd at *
      generalize wc.heap.size = g2 at *
      obtain ⟨⟨y0, y1, y2, y3⟩, -⟩ := bx4 HY1d.out
      obtain ⟨⟨u0, u1, u2, u3⟩, -⟩ := bx4 HY2.out
      have hneq := HNEQ.out wd
      cases q
      all_goals
        go_wp2_with fail
        go_roundw
        case rel =>
          have h1 := HK.out
          exact ⟨i + 1, by omega, by rw [EI.out], BQ2⟩
        case measure =>
          have h1 := HK.out
          rw [EI.out]
          simp [intOf]; omega
end Go.Proofs.Ytlooldnaoooehaa.Gf
