/- What is proved here: the law NmapChanges answers true. No condition. -/
import Derived.Test.YtlooldnaoooehaaP11y
import Derived.Test.YtlooldnaoooehaaGn
import Derived.Deep.CutRange
namespace Go.Proofs.Ytlooldnaoooehaa.Gf
open Go Go.Joins Go.ChangeShapes Go.WideShapes Go.ChangeAt Go.RowKit Go.Deep Go.Proofs.Ytlooldnaoooehaa.By Go.Proofs.Ytlooldnaoooehaa.Qt

theorem it_take {w : World} {a : Option Addr} {n c : Nat} {L : List Itm} (h : It w (.slice a n c) L) {k : Nat} (hk : k ≤ L.length) : It w (.slice a k c) (L.take k) := by
  obtain ⟨hm, a', c', he, hc, hmx, hcell⟩ := h
  obtain ⟨rfl, rfl, rfl⟩ : a = a' ∧ n = L.length ∧ c = c' := by simpa using he
  have hl : (L.take k).length = k := by rw [List.length_take]; omega
  refine ⟨fun x hx => hm x (List.mem_of_mem_take hx), a, c, by rw [hl], by rw [hl]; omega, hmx, fun hp => ?_⟩
  rw [hl] at hp
  obtain ⟨b, o, hab, hat⟩ := hcell (by omega)
  refine ⟨b, o, hab, fun j u hu => hat j u ?_⟩
  have e : cellsT L = cellsT (L.take k) ++ cellsT (L.drop k) := by rw [← cellsT_append, List.take_append_drop]
  rw [e, List.getElem?_append_left (List.getElem?_eq_some_iff.1 hu).1]
  exact hu
set_option maxRecDepth 100000 in
set_option maxHeartbeats 25600000 in
theorem changes_any (vr : Value) (raw : Mp) (v : Value) (L0 : List Itm) (x : Itm) (hx : ItOk x) (key : Nat) (nn : Int) (hnn : J64 nn) (w : World) (hraw : Mv w vr raw) (sl : It w v L0) : Calls Try.prog 4 #[vr, v, TV x, .int .u64 (key : Int), .int .i64 nn] w fun e w' => e = .returned (.bool true) ∧ Below w.heap.size w w' := by
  obtain ⟨s0, s1, s2, s3, s4, s5, s6, s7, rfl, hms⟩ := hraw
  have A2 := al2 w (.cells #[s0, s1, s2, s3, s4, s5, s6, s7, .int .i64 raw.live, .int .i64 raw.garb] 25) (.cells #[.int .u64 (x.key : Int), .int .u32 (x.ck : Int), .int .i64 x.off, .int .i64 x.sz] 37)
  have HR1 := Lib.hid A2.1
  have HX1 := Lib.hid A2.2.1
  have BX := Lib.hid A2.2.2
  have MR1 := Lib.hid (ms_below hms BX.out)
  have SL1 := Lib.hid (it_below sl BX.out)
  have HLEN := Lib.hid hms.1
  have HXO := Lib.hid hx
  have HNN := Lib.hid hnn
  obtain ⟨aL, cL, rfl, hcl, -⟩ := it_form sl
  obtain ⟨n0, hn0⟩ : ∃ z, z = L0.length := ⟨_, rfl⟩
  rw [← hn0] at SL1 hcl ⊢
  have HN0 := Lib.hid (And.intro hn0 hcl)
  clear hms sl A2 hx hn0 hcl hnn
  unfold TV
  go_enter Try.func4, Try.ntmps4
  go_upto_region 1 with fail
  generalize (w.alloc (.cells #[s0, s1, s2, s3, s4, s5, s6, s7, .int .i64 raw.live, .int .i64 raw.garb] 25)).alloc (.cells #[.int .u64 (x.key : Int), .int .u32 (x.ck : Int), .int .i64 x.off, .int .i64 x.sz] 37) = W1 at *
  obtain ⟨x0, x1, x2, x3, x4, x5, x6, x7, x8, x9⟩ := bx10 HR1.out
  go_wp2_with fail
  clear x0 x1 x2 x3 x4 x5 x6 x7 x8 x9
  refine (light11_any _ raw W1 ⟨s0, s1, s2, s3, s4, s5, s6, s7, rfl, MR1.out⟩).mono ?_
  rintro e w2 ⟨⟨q, rfl, hq⟩, hb⟩
  have HQ := Lib.hid hq
  have HR2 := Lib.hid ((hb.block _ (lt_of_some HR1.out)).trans HR1.out)
  have HX2 := Lib.hid ((hb.block _ (lt_of_some HX1.out)).trans HX1.out)
  have MR2 := Lib.hid (ms_below MR1.out hb)
  have SL2 := Lib.hid (it_below SL1.out hb)
  have B2 := Lib.hid (BX.out.trans (hb.mono BX.out.size))
  clear hb hq HR1 MR1 SL1 BX HX1
  cases q
  case false =>
    go_wp2_with fail
    refine (awake11_any w2).mono ?_
    rintro e wz ⟨rfl, hb⟩
    have BZ := Lib.hid (B2.out.trans (hb.mono B2.out.size))
    clear hb
    go_wp2_with fail
    go_ret
    exact ⟨rfl, BZ.out⟩
  have BD0 := Lib.hid (bd_raw (HQ.out rfl) HLEN.out)
  clear HQ
  go_upto_region 3 with fail
  obtain ⟨q20, hq20⟩ : ∃ q : Bool, q = decide (20 < n0) := ⟨_, rfl⟩
  have l1 : decide ((20 : Int) < (n0 : Int)) = q20 := by rw [hq20]; exact decide_eq_decide.2 (by omega)
  have l2 : decide (20 < n0) = q20 := hq20.symm
  have HQ20 := Lib.hid hq20
  clear hq20
  go_upto_if 23 with fail
  clear l1 l2
  go_cut [1] from 24 to 25 (fun t1 wx => ∃ (L : List Itm) (a : Option Addr) (n c : Nat), w2 = wx ∧ t1 = .slice a n c ∧ Hid (It w2 (.slice a n c) L) ∧ Hid (L.length ≤ 20))
  case first =>
    cases q20
    · have HL := Lib.hid (show L0.length ≤ 20 by have h := of_decide_eq_false HQ20.out.symm; have := HN0.out.1; omega)
      go_wp2_with fail
      go_meet
      exact ⟨L0, _, _, _, rfl, rfl, SL2, HL⟩
    · have h20 : 20 < n0 := of_decide_eq_true HQ20.out.symm
      obtain ⟨b, off, cap, hv, -, -, -⟩ := it_cells SL2.out (by have := HN0.out.1; omega)
      obtain ⟨rfl, -⟩ : aL = some ⟨b, off, none⟩ ∧ (n0 = L0.length ∧ cL = cap) := by simpa using hv
      have p1 : 20 ≤ cL := by have := HN0.out; omega
      have p2 : (20 : Int) ≤ (cL : Int) := by omega
      have HL := Lib.hid (show 20 ≤ L0.length by have := HN0.out.1; omega)
      clear hv h20
      go_wp2_with fail
      go_meet
      exact ⟨L0.take 20, _, _, _, rfl, rfl, Lib.hid (it_take SL2.out HL.out), Lib.hid (by rw [List.length_take]; omega)⟩
  case rest =>
    obtain ⟨L, aL, nL, cL, rfl, rfl, SL3, HLL⟩ := hcut
    clear SL2 HN0
    have KOK := Lib.hid (itm_ok L)
    have KLN := Lib.hid (itm_len L)
    have EA := Lib.hid (show bits .and .i64 nn 65535 = nn % 65536 from and_low nn 16 (by decide))
    have EB := Lib.hid (show bits .and .i64 nn 63 = nn % 64 from and_low nn 6 (by decide))
    have EC := Lib.hid (show IntKind.i64.wrap (1099511627776 - nn % 64) = 1099511627776 - nn % 64 from (IntWalk.i64_left _).trans (by unfold wrap64; omega))
    have PIT := Lib.hid (fun W (h : It W (.slice aL nL cL) L) => litems_any _ L W h)
    generalize itmL L = K at *
    have GF := gd_from (g := nn % 65536) KOK.out (by omega) (by omega)
    have GH := gd_from (g := 1099511627776 - nn % 64) KOK.out (by omega) (by omega)
    have G0 := Lib.hid (GF.1.up (k := 20) KLN.out)
    have G1 := Lib.hid (GH.1.up (k := 20) KLN.out)
    have HJ := Lib.hid (show J64 (nn % 65536) by unfold J64; omega)
    have HJ2 := Lib.hid (show J64 (1099511627776 - nn % 64) by unfold J64; omega)
    clear GF GH
    go_upto_region 5 with fail
    refine wp_onlyN ?_
    refine wp_region_headsS (fun W' => Below w2.heap.size w2 W') [0, 1, 3, 4, 6, 8, 9, 10, 14] 6 (by kernel_rfl) (fun _ _ _ _ _ h => h.elim) (by kernel_rfl) (by rfl) (by rfl) (Below.refl w2.heap.size w2).drew ?_
    simp only [pickOps, List.filterMap_cons, List.filterMap_nil, List.getElem?_toArray, List.getElem?_cons_zero, List.getElem?_cons_succ]
    refine wpHeads_step (fun KK hK => ?_)
    go_simp
    refine ⟨.agg #[s0, s1, s2, s3, s4, s5, s6, s7, .int .i64 raw.live, .int .i64 raw.garb], fun w' hw' => by
      obtain ⟨x0, x1, x2, x3, x4, x5, x6, x7, x8, x9⟩ := bx10 ((hw'.block _ (lt_of_some HR2.out)).trans HR2.out)
      go_simp, hK _ ?_⟩
    clear hK KK
    refine wpHeads_step (fun KK hK => ?_)
    go_simp
    refine ⟨_, fun _ _ => rfl, hK _ ?_⟩
    clear hK KK
    refine wpHeads_step (fun KK hK => ?_)
    go_simp
    refine ⟨_, fun _ _ => rfl, hK _ ?_⟩
    clear hK KK
    refine wpHeads_step (fun KK hK => ?_)
    go_simp
    refine ⟨.int .i64 (nn % 65536), fun w' hw' => by
      have e := EA.out
      go_simp, hK _ ?_⟩
    clear hK KK
    refine wpHeads_step (fun KK hK => ?_)
    go_simp
    refine ⟨_, fun _ _ => rfl, hK _ ?_⟩
    clear hK KK
    refine wpHeads_step (fun KK hK => ?_)
    go_simp
    refine ⟨_, fun _ _ => rfl, hK _ ?_⟩
    clear hK KK
    refine wpHeads_step (fun KK hK => ?_)
    go_simp
    refine ⟨.int .i64 (nn % 64), fun w' hw' => by
      have e := EB.out
      go_simp, hK _ ?_⟩
    clear hK KK
    refine wpHeads_step (fun KK hK => ?_)
    go_simp
    refine ⟨.int .i64 (1099511627776 - nn % 64), fun w' hw' => by
      have e := EC.out
      go_simp, hK _ ?_⟩
    clear hK KK
    refine wpHeads_step (fun KK hK => ?_)
    go_simp
    refine ⟨_, fun _ _ => rfl, hK _ ?_⟩
    clear hK KK
    refine wpHeads_nil ?_
    have SD := Lib.hid (Below.refl w2.heap.size w2).drew
    generalize w2.drew = WD at *
    refine held_gw 2 rfl (by kernel_rfl) (by kernel_rfl) fun KK hK => ?_
    go_simp
    go_at_call 12
    refine (PIT.out _ (it_below SL3.out SD.out)).mono ?_
    rintro e V2 ⟨⟨v1, rfl, ho1⟩, hb⟩
    refine hK _ _ (SD.out.trans (hb.mono SD.out.size)) ?_
    clear hK KK
    have S2 := Lib.hid (SD.out.trans (hb.mono SD.out.size))
    obtain ⟨aK2, cK2, rfl, -, -⟩ := owT_form ho1
    have PF := Lib.hid (rfrom_any _ K (nn % 65536) V2 (owT_it ho1) (Nat.le_trans KLN.out (by decide)) HJ.out)
    obtain ⟨F, hF⟩ : ∃ z, z = fromL K (nn % 65536) := ⟨_, rfl⟩
    rw [← hF] at PF G0
    clear ho1 hb SD hF
    refine held_gw 5 rfl (by kernel_rfl) (by kernel_rfl) fun KK hK => ?_
    go_simp
    go_at_call 11
    refine PF.out.mono ?_
    rintro e V5 ⟨⟨v2, rfl, hv2⟩, hb⟩
    refine hK _ _ (S2.out.trans (hb.mono S2.out.size)) ?_
    clear hK KK
    have S5 := Lib.hid (S2.out.trans (hb.mono S2.out.size))
    obtain ⟨t0, t1, t2, t3, t4, t5, t6, t7, rfl, hms2⟩ := hv2
    have MT5 := Lib.hid hms2
    clear hb S2 PF hms2
    refine held_gw 7 rfl (by kernel_rfl) (by kernel_rfl) fun KK hK => ?_
    go_simp
    go_at_call 12
    refine (PIT.out _ (it_below SL3.out S5.out)).mono ?_
    rintro e V7 ⟨⟨v1, rfl, ho1⟩, hb⟩
    refine hK _ _ (S5.out.trans (hb.mono S5.out.size)) ?_
    clear hK KK
    have S7 := Lib.hid (S5.out.trans (hb.mono S5.out.size))
    obtain ⟨aK7, cK7, rfl, -, -⟩ := owT_form ho1
    have PF := Lib.hid (rfrom_any _ K (1099511627776 - nn % 64) V7 (owT_it ho1) (Nat.le_trans KLN.out (by decide)) HJ2.out)
    obtain ⟨H, hF⟩ : ∃ z, z = fromL K (1099511627776 - nn % 64) := ⟨_, rfl⟩
    rw [← hF] at PF G1
    have MT7 := Lib.hid (ms_below MT5.out hb)
    clear MT5
    clear ho1 hb S5 hF
    refine held_gw 11 rfl (by kernel_rfl) (by kernel_rfl) fun KK hK => ?_
    go_simp
    go_at_call 11
    refine PF.out.mono ?_
    rintro e V11 ⟨⟨v2, rfl, hv2⟩, hb⟩
    refine hK _ _ (S7.out.trans (hb.mono S7.out.size)) ?_
    clear hK KK
    have S11 := Lib.hid (S7.out.trans (hb.mono S7.out.size))
    have MT11 := Lib.hid (ms_below MT7.out hb)
    obtain ⟨u0, u1, u2, u3, u4, u5, u6, u7, rfl, hms2⟩ := hv2
    have q3 := bel_al V11 (.cells #[s0, s1, s2, s3, s4, s5, s6, s7, .int .i64 raw.live, .int .i64 raw.garb, t0, t1, t2, t3, t4, t5, t6, t7, .int .i64 F.live, .int .i64 F.garb, u0, u1, u2, u3, u4, u5, u6, u7, .int .i64 H.live, .int .i64 H.garb] 25)
    have S3 := Lib.hid (S11.out.trans (q3.mono S11.out.size))
    have HB3 := Lib.hid (heap_alloc_new V11 (.cells #[s0, s1, s2, s3, s4, s5, s6, s7, .int .i64 raw.live, .int .i64 raw.garb, t0, t1, t2, t3, t4, t5, t6, t7, .int .i64 F.live, .int .i64 F.garb, u0, u1, u2, u3, u4, u5, u6, u7, .int .i64 H.live, .int .i64 H.garb] 25))
    have MA3 := Lib.hid (marr3 HB3.out (ms_below MR2.out S3.out) (ms_below MT11.out q3) (ms_below hms2 q3) BD0.out (bd_gd G0.out (by decide)) (bd_gd G1.out (by decide)))
    clear hb S7 PF hms2 q3 HB3 MT7 MT11
    refine held_gw 12 rfl (by kernel_rfl) (by kernel_rfl) fun KK hK => ?_
    go_simp
    refine hK _ _ S3.out ?_
    clear hK KK S11
    generalize V11.alloc (.cells #[s0, s1, s2, s3, s4, s5, s6, s7, .int .i64 raw.live, .int .i64 raw.garb, t0, t1, t2, t3, t4, t5, t6, t7, .int .i64 F.live, .int .i64 F.garb, u0, u1, u2, u3, u4, u5, u6, u7, .int .i64 H.live, .int .i64 H.garb] 25) = w3 at *
    generalize V11.heap.size = gm at *
    refine held_gw 13 rfl (by kernel_rfl) (by kernel_rfl) fun KK hK => ?_
    go_simp
    refine hK _ _ S3.out ?_
    clear hK KK
    refine wpAnyH_done (by kernel_rfl) ?_ _
    unfold onlyN
    dsimp only
    have B3 := Lib.hid (B2.out.trans (S3.out.mono B2.out.size))
    clear B2 HR2 MR2 BD0 G0 G1
    go_wp2_with fail
    go_loopw [40] (fun t40 wr => ∃ j : Nat, j ≤ 3 ∧ t40 = .int .i64 (j : Int) ∧ Hid (Below w3.heap.size w3 wr)) (fun t _ => 3 - (intOf t).toNat)
    case atStart => exact ⟨0, by omega, rfl, Lib.hid (Below.refl _ _)⟩
    case round =>
      obtain ⟨j, hj, rfl, BR⟩ := hrel
      rename World => wl
      by_cases hlt : j < 3
      case neg =>
        have l1 : decide ((j : Int) < 3) = false := decide_eq_false (by omega)
        have l2 : decide (j < 3) = false := decide_eq_false hlt
        clear hlt hj
        have HL3 := Lib.hid (show It wl (.slice aL nL cL) L from it_below SL3.out (S3.out.trans (BR.out.mono S3.out.size)))
        have BRl := Lib.hid (B3.out.trans (BR.out.mono B3.out.size))
        have PF := Lib.hid (fun W (h : It W (.slice aL nL cL) L) => pfrom_any _ L nn W h (Nat.le_trans HLL.out (by decide)) HNN.out)
        have RF := Lib.hid (fun W (h : It W (.slice aL nL cL) L) => rfrom_any _ L nn W h (Nat.le_trans HLL.out (by decide)) HNN.out)
        generalize fromL L nn = R at *
        go_wp2_with fail
        clear l1 l2
        refine (PF.out wl HL3.out).mono ?_
        rintro e V2 ⟨⟨v2, rfl, hv2⟩, hb⟩
        have S2 := Lib.hid hb
        have HV2 := Lib.hid hv2
        obtain ⟨t0, t1, t2, t3, t4, t5, t6, t7, rfl, -⟩ := hv2
        clear hb PF
        go_wp2_with fail
        refine (told11_any _ R V2 HV2.out).mono ?_
        rintro e V3 ⟨rfl, hb⟩
        have S3 := Lib.hid (S2.out.trans (hb.mono S2.out.size))
        have HV3 := Lib.hid (mv_below HV2.out hb)
        clear hb S2 HV2
        go_wp2_with fail
        refine (RF.out V3 (it_below HL3.out S3.out)).mono ?_
        rintro e V4 ⟨⟨v4, rfl, hv4⟩, hb⟩
        have S4 := Lib.hid (S3.out.trans (hb.mono S3.out.size))
        have HV4 := Lib.hid (mv_below HV3.out hb)
        have HV5 := Lib.hid hv4
        have RS := Lib.hid (rsame11_any _ v4 R R V4 HV4.out HV5.out)
        rw [sameM_self] at RS
        obtain ⟨u0, u1, u2, u3, u4, u5, u6, u7, rfl, -⟩ := hv4
        clear hb S3 HV3 RF
        go_wp2_with fail
        refine RS.out.mono ?_
        rintro e V5 ⟨rfl, hb⟩
        have S5 := Lib.hid (S4.out.trans (hb.mono S4.out.size))
        clear hb S4 HV4 HV5 RS
        go_wp2_with fail
        refine (PIT.out V5 (it_below HL3.out S5.out)).mono ?_
        rintro e V6 ⟨⟨v6, rfl, ho6⟩, hb⟩
        have S6 := Lib.hid (S5.out.trans (hb.mono S5.out.size))
        obtain ⟨aK, cK, rfl, -, -⟩ := owT_form ho6
        have PF := Lib.hid (pfrom_any _ K nn V6 (owT_it ho6) (Nat.le_trans KLN.out (by decide)) HNN.out)
        have RF := Lib.hid (fun W v (h : It W v K) => rfrom_any v K nn W h (Nat.le_trans KLN.out (by decide)) HNN.out)
        generalize fromL K nn = R2 at *
        clear hb S5 ho6
        go_wp2_with fail
        refine PF.out.mono ?_
        rintro e V7 ⟨⟨v2, rfl, hv2⟩, hb⟩
        have S7 := Lib.hid (S6.out.trans (hb.mono S6.out.size))
        have HV2 := Lib.hid hv2
        obtain ⟨x0, x1, x2, x3, x4, x5, x6, x7, rfl, -⟩ := hv2
        clear hb PF S6
        go_wp2_with fail
        refine (told11_any _ R2 V7 HV2.out).mono ?_
        rintro e V8 ⟨rfl, hb⟩
        have S8 := Lib.hid (S7.out.trans (hb.mono S7.out.size))
        have HV3 := Lib.hid (mv_below HV2.out hb)
        clear hb S7 HV2
        go_wp2_with fail
        refine (PIT.out V8 (it_below HL3.out S8.out)).mono ?_
        rintro e V9 ⟨⟨v6, rfl, ho6⟩, hb⟩
        have S9 := Lib.hid (S8.out.trans (hb.mono S8.out.size))
        have HV4 := Lib.hid (mv_below HV3.out hb)
        have RF2 := Lib.hid (RF.out V9 v6 (owT_it ho6))
        obtain ⟨aK2, cK2, rfl, -, -⟩ := owT_form ho6
        clear hb S8 ho6 HV3 RF
        go_wp2_with fail
        refine RF2.out.mono ?_
        rintro e Va ⟨⟨v4, rfl, hv4⟩, hb⟩
        have Sa := Lib.hid (S9.out.trans (hb.mono S9.out.size))
        have HV5 := Lib.hid (mv_below HV4.out hb)
        have HV6 := Lib.hid hv4
        have RS := Lib.hid (rsame11_any _ v4 R2 R2 Va HV5.out HV6.out)
        rw [sameM_self] at RS
        obtain ⟨y0, y1, y2, y3, y4, y5, y6, y7, rfl, -⟩ := hv4
        clear hb S9 HV4 RF2
        go_wp2_with fail
        refine RS.out.mono ?_
        rintro e Vb ⟨rfl, hb⟩
        have Sb := Lib.hid (Sa.out.trans (hb.mono Sa.out.size))
        clear hb Sa HV5 HV6 RS
        go_wp2_with fail
        refine (pnew_any Vb).mono ?_
        rintro e Vc ⟨⟨v2, rfl, hv2⟩, hb⟩
        have Sc := Lib.hid (Sb.out.trans (hb.mono Sb.out.size))
        have HV2 := Lib.hid hv2
        obtain ⟨z0, z1, z2, z3, z4, z5, z6, z7, rfl, -⟩ := hv2
        clear hb Sb
        go_wp2_with fail
        refine (told11_any _ mp0 Vc HV2.out).mono ?_
        rintro e Vd ⟨rfl, hb⟩
        have Sd := Lib.hid (Sc.out.trans (hb.mono Sc.out.size))
        have RS := Lib.hid (rsame11_any _ (.agg #[.slice none 0 0, .slice none 0 0, .slice none 0 0, .slice none 0 0, .slice none 0 0, .slice none 0 0, .slice none 0 0, .slice none 0 0, .int .i64 0, .int .i64 0]) mp0 mp0 Vd (mv_below HV2.out hb) ⟨_, _, _, _, _, _, _, _, rfl, mp0_ms Vd⟩)
        rw [sameM_self] at RS
        clear hb Sc HV2
        go_wp2_with fail
        refine RS.out.mono ?_
        rintro e Ve ⟨rfl, hb⟩
        have Se := Lib.hid (Sd.out.trans (hb.mono Sd.out.size))
        clear hb Sd RS
        go_wp2_with fail
        refine (awake11_any Ve).mono ?_
        rintro e wz ⟨rfl, hb⟩
        have BZ := Lib.hid (BRl.out.trans ((Se.out.trans (hb.mono Se.out.size)).mono BRl.out.size))
        clear hb
        go_wp2_with fail
        go_ret
        exact ⟨rfl, BZ.out⟩
      have l1 : decide ((j : Int) < 3) = true := decide_eq_true (by omega)
      have l2 : decide (j < 3) = true := decide_eq_true hlt
      have HI := Lib.hid hlt
      have EW := Lib.hid (show wrap64 ((j : Int) + 1) = ((j + 1 : Nat) : Int) by have := HI.out; unfold wrap64; omega)
      obtain ⟨m, hat, hbd⟩ := MA3.out.below BR.out j hlt
      have BD := Lib.hid hbd
      obtain ⟨c0, c1, c2, c3, c4, c5, c6, c7, ⟨x0, x1, x2, x3, x4, x5, x6, x7, x8, x9⟩, hms⟩ := hat
      have ON := Lib.hid (ms_one hms m.live m.garb)
      have p0 : (0 : Int) ≤ (j : Int) := by omega
      have p1 : (j : Int) < 3 := by omega
      have hz := heap_alloc_new wl (.cells #[.slice none 0 0, .slice none 0 0, .slice none 0 0, .slice none 0 0, .slice none 0 0, .slice none 0 0, .slice none 0 0, .slice none 0 0, .int .i64 0, .int .i64 0] 25)
      clear hlt hj hbd
      go_upto_region 8 with ((with_reducible refine storeR (wl.heap.size) _ #[c0, c1, c2, c3, c4, c5, c6, c7, .int .i64 m.live, .int .i64 m.garb] ?_ ?_ hz rfl rfl ON.out ?_); exact rfl; exact rfl)
      rw [World.setRow_alloc_new]
      clear x0 x1 x2 x3 x4 x5 x6 x7 x8 x9
      clear l1 l2 p0 p1 hz
      have hb := bel_al wl (.cells #[c0, c1, c2, c3, c4, c5, c6, c7, .int .i64 m.live, .int .i64 m.garb] 25)
      have HA4 := Lib.hid (heap_alloc_new wl (.cells #[c0, c1, c2, c3, c4, c5, c6, c7, .int .i64 m.live, .int .i64 m.garb] 25))
      have MS4 := Lib.hid (ms_below hms hb)
      have B4 := Lib.hid (BR.out.trans (hb.mono BR.out.size))
      have HX4 := Lib.hid (((S3.out.trans (B4.out.mono S3.out.size)).block _ (lt_of_some HX2.out)).trans HX2.out)
      clear hb hms BR
      generalize wl.alloc (.cells #[c0, c1, c2, c3, c4, c5, c6, c7, .int .i64 m.live, .int .i64 m.garb] 25) = w4 at *
      generalize wl.heap.size = gr at *
      go_cut [49, 50, 51] from 44 to 51 (fun ts tm ti wx => ∃ (a : Option Addr) (c : Nat), ts = .slice a 2 c ∧ tm = .int .i64 2 ∧ ti = .int .i64 0 ∧ Hid (It wx (.slice a 2 c) [fixI x, x]) ∧ Hid (Below w4.heap.size w4 wx))
      case first =>
        refine wp_onlyN ?_
        refine wp_region_headsS (fun W' => Below w4.heap.size w4 W') [0, 3, 7] 5 (by kernel_rfl) (fun _ _ _ _ _ h => h.elim) (by kernel_rfl) (by rfl) (by rfl) (Below.refl w4.heap.size w4).drew ?_
        simp only [pickOps, List.filterMap_cons, List.filterMap_nil, List.getElem?_toArray, List.getElem?_cons_zero, List.getElem?_cons_succ]
        refine wpHeads_step (fun K hK => ?_)
        go_simp
        refine ⟨.agg #[.int .u64 (x.key : Int), .int .u32 (x.ck : Int), .int .i64 x.off, .int .i64 x.sz], fun w' hw' => by
          obtain ⟨⟨y0, y1, y2, y3⟩, -⟩ := bx4 ((hw'.block _ (lt_of_some HX4.out)).trans HX4.out)
          go_simp, hK _ ?_⟩
        clear hK K
        refine wpHeads_step (fun K hK => ?_)
        go_simp
        refine ⟨.agg #[.int .u64 (x.key : Int), .int .u32 (x.ck : Int), .int .i64 x.off, .int .i64 x.sz], fun w' hw' => by
          obtain ⟨⟨y0, y1, y2, y3⟩, -⟩ := bx4 ((hw'.block _ (lt_of_some HX4.out)).trans HX4.out)
          go_simp, hK _ ?_⟩
        clear hK K
        refine wpHeads_step (fun K hK => ?_)
        go_simp
        refine ⟨_, fun _ _ => rfl, hK _ ?_⟩
        clear hK K
        refine wpHeads_nil ?_
        have SD := Lib.hid (Below.refl w4.heap.size w4).drew
        generalize w4.drew = WD at *
        refine held_two 1 4 rfl rfl rfl rfl (by kernel_rfl) (fun K hK => ?_) (fun K hK => ?_)
        · go_simp
          have hb := bel_al WD (.cells #[.int .u64 (x.key : Int), .int .u32 (x.ck : Int), .int .i64 x.off, .int .i64 x.sz] 37)
          refine hK _ _ (SD.out.trans (hb.mono SD.out.size)) ?_
          clear hK K
          have S1 := Lib.hid (SD.out.trans (hb.mono SD.out.size))
          have ITa := Lib.hid (it_one HXO.out (heap_alloc_new WD (.cells #[.int .u64 (x.key : Int), .int .u32 (x.ck : Int), .int .i64 x.off, .int .i64 x.sz] 37)))
          clear hb SD
          generalize WD.alloc (.cells #[.int .u64 (x.key : Int), .int .u32 (x.ck : Int), .int .i64 x.off, .int .i64 x.sz] 37) = Wa at *
          generalize WD.heap.size = ga at *
          refine held_two 2 4 rfl rfl rfl rfl (by kernel_rfl) (fun K hK => ?_) (fun K hK => ?_)
          · go_simp
            go_at_call 12
            refine (litems_any _ [x] Wa ITa.out).mono ?_
            rintro e VI ⟨⟨vi, rfl, ho⟩, hb⟩
            refine hK _ _ (S1.out.trans (hb.mono S1.out.size)) ?_
            clear hK K
            have S2 := Lib.hid (S1.out.trans (hb.mono S1.out.size))
            have HO := Lib.hid (show OwT VI Wa.heap.size vi [fixI x] from ho)
            have GE := Lib.hid hb.size
            have HSL := Lib.hid (S1.out.size)
            obtain ⟨ai, ci, rfl, -, -⟩ := owT_form ho
            clear hb S1 ho
            generalize Wa.heap.size = gw at *
            refine held_gw 4 rfl (by kernel_rfl) (by kernel_rfl) fun K hK => ?_
            go_simp
            have hb := bel_al VI (.cells #[.int .u64 (x.key : Int), .int .u32 (x.ck : Int), .int .i64 x.off, .int .i64 x.sz] 37)
            refine hK _ _ (S2.out.trans (hb.mono S2.out.size)) ?_
            clear hK K
            have S4 := Lib.hid (S2.out.trans (hb.mono S2.out.size))
            have ITb := Lib.hid (it_one HXO.out (heap_alloc_new VI (.cells #[.int .u64 (x.key : Int), .int .u32 (x.ck : Int), .int .i64 x.off, .int .i64 x.sz] 37)))
            have HO4 := Lib.hid (owT_below HO.out hb)
            have GE4 := Lib.hid (Nat.le_trans GE.out hb.size)
            clear HO GE
            clear hb S2
            generalize VI.alloc (.cells #[.int .u64 (x.key : Int), .int .u32 (x.ck : Int), .int .i64 x.off, .int .i64 x.sz] 37) = Wb at *
            generalize VI.heap.size = gb at *
            refine held_gw 5 rfl (by kernel_rfl) (by kernel_rfl) fun K hK => ?_
            refine wp_app_it1 (base := gw) (v := .slice ai 1 ci) (L := [fixI x]) (y := x) rfl rfl HO4.out ITb.out (by simp) GE4.out (fun v7 w7 ho hg hat => ?_)
            have S7 := Lib.hid (below_grownT S4.out hg HO4.out S4.out.size HSL.out)
            refine hK _ _ S7.out ?_
            clear hK K
            have I7 := Lib.hid (owT_it ho)
            obtain ⟨a7, c7, rfl, -, -⟩ := owT_form ho
            clear ho hg hat
            refine held_gw 6 rfl (by kernel_rfl) (by kernel_rfl) fun K hK => ?_
            go_simp
            refine hK _ _ S7.out ?_
            clear hK K
            refine wpAnyH_done (by kernel_rfl) ?_ _
            unfold onlyN
            dsimp only
            go_wp2_with fail
            go_meet
            exact ⟨_, _, rfl, rfl, rfl, I7, S7⟩
          · go_simp
            have hb := bel_al Wa (.cells #[.int .u64 (x.key : Int), .int .u32 (x.ck : Int), .int .i64 x.off, .int .i64 x.sz] 37)
            refine hK _ _ (S1.out.trans (hb.mono S1.out.size)) ?_
            clear hK K
            have S4 := Lib.hid (S1.out.trans (hb.mono S1.out.size))
            have ITb := Lib.hid (it_one HXO.out (heap_alloc_new Wa (.cells #[.int .u64 (x.key : Int), .int .u32 (x.ck : Int), .int .i64 x.off, .int .i64 x.sz] 37)))
            have ITa4 := Lib.hid (it_below ITa.out hb)
            clear ITa
            clear hb S1
            generalize Wa.alloc (.cells #[.int .u64 (x.key : Int), .int .u32 (x.ck : Int), .int .i64 x.off, .int .i64 x.sz] 37) = Wb at *
            generalize Wa.heap.size = gb at *
            refine held_gw 2 rfl (by kernel_rfl) (by kernel_rfl) fun K hK => ?_
            go_simp
            go_at_call 12
            refine (litems_any _ [x] Wb ITa4.out).mono ?_
            rintro e VI ⟨⟨vi, rfl, ho⟩, hb⟩
            refine hK _ _ (S4.out.trans (hb.mono S4.out.size)) ?_
            clear hK K
            have S2 := Lib.hid (S4.out.trans (hb.mono S4.out.size))
            have HO := Lib.hid (show OwT VI Wb.heap.size vi [fixI x] from ho)
            have GE := Lib.hid hb.size
            have HSL := Lib.hid (S4.out.size)
            have ITb2 := Lib.hid (it_below ITb.out hb)
            obtain ⟨ai, ci, rfl, -, -⟩ := owT_form ho
            clear hb S4 ho
            generalize Wb.heap.size = gw at *
            refine held_gw 5 rfl (by kernel_rfl) (by kernel_rfl) fun K hK => ?_
            refine wp_app_it1 (base := gw) (v := .slice ai 1 ci) (L := [fixI x]) (y := x) rfl rfl HO.out ITb2.out (by simp) GE.out (fun v7 w7 ho hg hat => ?_)
            have S7 := Lib.hid (below_grownT S2.out hg HO.out S2.out.size HSL.out)
            refine hK _ _ S7.out ?_
            clear hK K
            have I7 := Lib.hid (owT_it ho)
            obtain ⟨a7, c7, rfl, -, -⟩ := owT_form ho
            clear ho hg hat
            refine held_gw 6 rfl (by kernel_rfl) (by kernel_rfl) fun K hK => ?_
            go_simp
            refine hK _ _ S7.out ?_
            clear hK K
            refine wpAnyH_done (by kernel_rfl) ?_ _
            unfold onlyN
            dsimp only
            go_wp2_with fail
            go_meet
            exact ⟨_, _, rfl, rfl, rfl, I7, S7⟩
        · go_simp
          have hb := bel_al WD (.cells #[.int .u64 (x.key : Int), .int .u32 (x.ck : Int), .int .i64 x.off, .int .i64 x.sz] 37)
          refine hK _ _ (SD.out.trans (hb.mono SD.out.size)) ?_
          clear hK K
          have S4 := Lib.hid (SD.out.trans (hb.mono SD.out.size))
          have ITb := Lib.hid (it_one HXO.out (heap_alloc_new WD (.cells #[.int .u64 (x.key : Int), .int .u32 (x.ck : Int), .int .i64 x.off, .int .i64 x.sz] 37)))
          clear hb SD
          generalize WD.alloc (.cells #[.int .u64 (x.key : Int), .int .u32 (x.ck : Int), .int .i64 x.off, .int .i64 x.sz] 37) = Wb at *
          generalize WD.heap.size = gb at *
          refine held_gw 1 rfl (by kernel_rfl) (by kernel_rfl) fun K hK => ?_
          go_simp
          have hb := bel_al Wb (.cells #[.int .u64 (x.key : Int), .int .u32 (x.ck : Int), .int .i64 x.off, .int .i64 x.sz] 37)
          refine hK _ _ (S4.out.trans (hb.mono S4.out.size)) ?_
          clear hK K
          have S1 := Lib.hid (S4.out.trans (hb.mono S4.out.size))
          have ITa := Lib.hid (it_one HXO.out (heap_alloc_new Wb (.cells #[.int .u64 (x.key : Int), .int .u32 (x.ck : Int), .int .i64 x.off, .int .i64 x.sz] 37)))
          have ITb1 := Lib.hid (it_below ITb.out hb)
          clear hb S4
          generalize Wb.alloc (.cells #[.int .u64 (x.key : Int), .int .u32 (x.ck : Int), .int .i64 x.off, .int .i64 x.sz] 37) = Wa at *
          generalize Wb.heap.size = ga at *
          refine held_gw 2 rfl (by kernel_rfl) (by kernel_rfl) fun K hK => ?_
          go_simp
          go_at_call 12
          refine (litems_any _ [x] Wa ITa.out).mono ?_
          rintro e VI ⟨⟨vi, rfl, ho⟩, hb⟩
          refine hK _ _ (S1.out.trans (hb.mono S1.out.size)) ?_
          clear hK K
          have S2 := Lib.hid (S1.out.trans (hb.mono S1.out.size))
          have HO := Lib.hid (show OwT VI Wa.heap.size vi [fixI x] from ho)
          have GE := Lib.hid hb.size
          have HSL := Lib.hid (S1.out.size)
          have ITb2 := Lib.hid (it_below ITb1.out hb)
          obtain ⟨ai, ci, rfl, -, -⟩ := owT_form ho
          clear hb S1 ho
          generalize Wa.heap.size = gw at *
          refine held_gw 5 rfl (by kernel_rfl) (by kernel_rfl) fun K hK => ?_
          refine wp_app_it1 (base := gw) (v := .slice ai 1 ci) (L := [fixI x]) (y := x) rfl rfl HO.out ITb2.out (by simp) GE.out (fun v7 w7 ho hg hat => ?_)
          have S7 := Lib.hid (below_grownT S2.out hg HO.out S2.out.size HSL.out)
          refine hK _ _ S7.out ?_
          clear hK K
          have I7 := Lib.hid (owT_it ho)
          obtain ⟨a7, c7, rfl, -, -⟩ := owT_form ho
          clear ho hg hat
          refine held_gw 6 rfl (by kernel_rfl) (by kernel_rfl) fun K hK => ?_
          go_simp
          refine hK _ _ S7.out ?_
          clear hK K
          refine wpAnyH_done (by kernel_rfl) ?_ _
          unfold onlyN
          dsimp only
          go_wp2_with fail
          go_meet
          exact ⟨_, _, rfl, rfl, rfl, I7, S7⟩
      case rest =>
        rename World => w5
        obtain ⟨aY, cY, rfl, rfl, rfl, IY, BY⟩ := hcut
        have HA5 := Lib.hid ((BY.out.block _ (lt_of_some HA4.out)).trans HA4.out)
        have HX5 := Lib.hid ((BY.out.block _ (lt_of_some HX4.out)).trans HX4.out)
        have MS5 := Lib.hid (ms_below MS4.out BY.out)
        have B5 := Lib.hid (B4.out.trans (BY.out.mono B4.out.size))
        clear HA4 HX4 MS4 BY B4
        go_wp2_with fail
        go_loopw [51] (fun t51 wr => ∃ i : Nat, i ≤ 2 ∧ t51 = .int .i64 (i : Int) ∧ Hid (Below w5.heap.size w5 wr)) (fun t _ => 2 - (intOf t).toNat)
        case atStart => exact ⟨0, by omega, rfl, Lib.hid (Below.refl _ _)⟩
        case round =>
          obtain ⟨i, hi, rfl, BQ⟩ := hrel
          rename World => wk
          by_cases hlt : i < 2
          case neg =>
            have l1 : decide ((i : Int) < 2) = false := decide_eq_false (by omega)
            have l2 : decide (i < 2) = false := decide_eq_false hlt
            clear hlt hi
            have HAk := Lib.hid ((BQ.out.block _ (lt_of_some HA5.out)).trans HA5.out)
            have HXk := Lib.hid ((BQ.out.block _ (lt_of_some HX5.out)).trans HX5.out)
            have MSk := Lib.hid (ms_below MS5.out BQ.out)
            have Bk := Lib.hid (B5.out.trans (BQ.out.mono B5.out.size))
            obtain ⟨⟨y0, y1, y2, y3⟩, -⟩ := bx4 HXk.out
            have hb := bel_al wk (.cells #[.int .u64 (key : Int), .int .u64 (x.key : Int)] 26)
            have KA7 := Lib.hid (karr_mk (heap_alloc_new wk (.cells #[.int .u64 (key : Int), .int .u64 (x.key : Int)] 26)))
            have HA7 := Lib.hid ((hb.block _ (lt_of_some HAk.out)).trans HAk.out)
            have MS7 := Lib.hid (ms_below MSk.out hb)
            have B7 := Lib.hid (Bk.out.trans (hb.mono Bk.out.size))
            clear hb HAk HXk MSk Bk
            go_wp2_with fail
            clear l1 l2 y0 y1 y2 y3
            generalize wk.alloc (.cells #[.int .u64 (key : Int), .int .u64 (x.key : Int)] 26) = w7 at *
            generalize wk.heap.size = gk at *
            go_loopw [71] (fun t71 wr => ∃ i : Nat, i ≤ 2 ∧ t71 = .int .i64 (i : Int) ∧ Hid (Below w7.heap.size w7 wr)) (fun t _ => 2 - (intOf t).toNat)
            case atStart => exact ⟨0, by omega, rfl, Lib.hid (Below.refl _ _)⟩
            case round =>
              obtain ⟨i, hi, rfl, BQ⟩ := hrel
              rename World => wk
              by_cases hlt : i < 2
              case neg =>
                have l1 : decide ((i : Int) < 2) = false := decide_eq_false (by omega)
                have l2 : decide (i < 2) = false := decide_eq_false hlt
                clear hlt hi
                have HAk := Lib.hid ((BQ.out.block _ (lt_of_some HA7.out)).trans HA7.out)
                have MSk := Lib.hid (ms_below MS7.out BQ.out)
                have Bk := Lib.hid (B7.out.trans (BQ.out.mono B7.out.size))
                go_upto_region 20 with fail
                clear l1 l2
                refine wp_onlyN ?_
                refine wp_region_headsS (fun W' => Below wk.heap.size wk W') [0, 2, 5, 6] 6 (by kernel_rfl) (fun _ _ _ _ _ h => h.elim) (by kernel_rfl) (by rfl) (by rfl) (Below.refl wk.heap.size wk).drew ?_
                simp only [pickOps, List.filterMap_cons, List.filterMap_nil, List.getElem?_toArray, List.getElem?_cons_zero, List.getElem?_cons_succ]
                refine wpHeads_step (fun K hK => ?_)
                go_simp
                refine ⟨.agg #[c0, c1, c2, c3, c4, c5, c6, c7, .int .i64 m.live, .int .i64 m.garb], fun w' hw' => by
                  obtain ⟨x0, x1, x2, x3, x4, x5, x6, x7, x8, x9⟩ := bx10 ((hw'.block _ (lt_of_some HAk.out)).trans HAk.out)
                  go_simp, hK _ ?_⟩
                clear hK K
                refine wpHeads_step (fun K hK => ?_)
                go_simp
                refine ⟨_, fun _ _ => rfl, hK _ ?_⟩
                clear hK K
                refine wpHeads_step (fun K hK => ?_)
                go_simp
                refine ⟨.agg #[c0, c1, c2, c3, c4, c5, c6, c7, .int .i64 m.live, .int .i64 m.garb], fun w' hw' => by
                  obtain ⟨x0, x1, x2, x3, x4, x5, x6, x7, x8, x9⟩ := bx10 ((hw'.block _ (lt_of_some HAk.out)).trans HAk.out)
                  go_simp, hK _ ?_⟩
                clear hK K
                refine wpHeads_step (fun K hK => ?_)
                go_simp
                refine ⟨_, fun _ _ => rfl, hK _ ?_⟩
                clear hK K
                refine wpHeads_nil ?_
                have SD := Lib.hid (Below.refl wk.heap.size wk).drew
                generalize wk.drew = WD at *
                refine held_gw 1 rfl (by kernel_rfl) (by kernel_rfl) fun K hK => ?_
                go_simp
                go_at_call 13
                refine (given11_any _ m WD ⟨c0, c1, c2, c3, c4, c5, c6, c7, rfl, ms_below MSk.out SD.out⟩).mono ?_
                rintro e V1 ⟨rfl, hb⟩
                refine hK _ _ (SD.out.trans (hb.mono SD.out.size)) ?_
                clear hK K
                have S1 := Lib.hid (SD.out.trans (hb.mono SD.out.size))
                clear hb SD
                refine held_gw 3 rfl (by kernel_rfl) (by kernel_rfl) fun K hK => ?_
                go_simp
                go_at_call 31
                refine (pwaste_any _ m nn V1 ⟨c0, c1, c2, c3, c4, c5, c6, c7, rfl, ms_below MSk.out S1.out⟩ BD.out.few HNN.out).mono ?_
                rintro e V2 ⟨⟨v2, rfl, hv2⟩, hb⟩
                refine hK _ _ (S1.out.trans (hb.mono S1.out.size)) ?_
                clear hK K
                have S2 := Lib.hid (S1.out.trans (hb.mono S1.out.size))
                have HV2 := Lib.hid hv2
                obtain ⟨t0, t1, t2, t3, t4, t5, t6, t7, rfl, -⟩ := hv2
                clear hb S1
                refine held_gw 4 rfl (by kernel_rfl) (by kernel_rfl) fun K hK => ?_
                go_simp
                go_at_call 26
                refine (told11_any _ (wasteM m nn) V2 HV2.out).mono ?_
                rintro e V3 ⟨rfl, hb⟩
                refine hK _ _ (S2.out.trans (hb.mono S2.out.size)) ?_
                clear hK K
                have S3' := Lib.hid (S2.out.trans (hb.mono S2.out.size))
                have HV3 := Lib.hid (mv_below HV2.out hb)
                clear hb S2 HV2
                refine held_gw 7 rfl (by kernel_rfl) (by kernel_rfl) fun K hK => ?_
                go_simp
                go_at_call 32
                refine (rwaste_any _ m nn V3 ⟨c0, c1, c2, c3, c4, c5, c6, c7, rfl, ms_below MSk.out S3'.out⟩ BD.out.few HNN.out).mono ?_
                rintro e V4 ⟨⟨v4, rfl, hv4⟩, hb⟩
                refine hK _ _ (S3'.out.trans (hb.mono S3'.out.size)) ?_
                clear hK K
                have S4 := Lib.hid (S3'.out.trans (hb.mono S3'.out.size))
                have HV4 := Lib.hid (mv_below HV3.out hb)
                have HV5 := Lib.hid hv4
                have RS := Lib.hid (rsame11_any _ v4 (wasteM m nn) (wasteM m nn) V4 HV4.out HV5.out)
                rw [sameM_self] at RS
                obtain ⟨u0, u1, u2, u3, u4, u5, u6, u7, rfl, -⟩ := hv4
                clear hb S3' HV3
                refine held_gw 8 rfl (by kernel_rfl) (by kernel_rfl) fun K hK => ?_
                go_simp
                go_at_call 25
                refine RS.out.mono ?_
                rintro e V5 ⟨rfl, hb⟩
                refine hK _ _ (S4.out.trans (hb.mono S4.out.size)) ?_
                clear hK K
                have S5 := Lib.hid (S4.out.trans (hb.mono S4.out.size))
                clear hb S4 HV4 HV5 RS
                refine held_gw 9 rfl (by kernel_rfl) (by kernel_rfl) fun K hK => ?_
                go_simp
                refine hK _ _ S5.out ?_
                clear hK K
                refine wpAnyH_done (by kernel_rfl) ?_ _
                unfold onlyN
                dsimp only
                have S9 := Lib.hid (Bk.out.trans (S5.out.mono Bk.out.size))
                clear S5
                go_upto_if 95 with fail
                go_wp2_with fail
                go_roundw
                case rel =>
                  have h1 := HI.out
                  exact ⟨j + 1, by omega, by rw [EW.out], S9⟩
                case measure =>
                  have h1 := HI.out
                  rw [EW.out]
                  simp [intOf]; omega
              have l1 : decide ((i : Int) < 2) = true := decide_eq_true (by omega)
              have l2 : decide (i < 2) = true := decide_eq_true hlt
              have HK := Lib.hid hlt
              have EI := Lib.hid (show wrap64 ((i : Int) + 1) = ((i + 1 : Nat) : Int) by have := HK.out; unfold wrap64; omega)
              obtain ⟨k, hk⟩ := KA7.out.below BQ.out i hlt
              have p0 : (0 : Int) ≤ (i : Int) := by omega
              have p1 : (i : Int) < 2 := by omega
              have HAk := Lib.hid ((BQ.out.block _ (lt_of_some HA7.out)).trans HA7.out)
              have MSk := Lib.hid (ms_below MS7.out BQ.out)
              clear hlt hi
              go_upto_region 17 with fail
              clear l1 l2 p0 p1 hk
              refine wp_onlyN ?_
              refine wp_region_headsS (fun W' => Below wk.heap.size wk W') [0, 2, 5, 6] 6 (by kernel_rfl) (fun _ _ _ _ _ h => h.elim) (by kernel_rfl) (by rfl) (by rfl) (Below.refl wk.heap.size wk).drew ?_
              simp only [pickOps, List.filterMap_cons, List.filterMap_nil, List.getElem?_toArray, List.getElem?_cons_zero, List.getElem?_cons_succ]
              refine wpHeads_step (fun K hK => ?_)
              go_simp
              refine ⟨.agg #[c0, c1, c2, c3, c4, c5, c6, c7, .int .i64 m.live, .int .i64 m.garb], fun w' hw' => by
                obtain ⟨x0, x1, x2, x3, x4, x5, x6, x7, x8, x9⟩ := bx10 ((hw'.block _ (lt_of_some HAk.out)).trans HAk.out)
                go_simp, hK _ ?_⟩
              clear hK K
              refine wpHeads_step (fun K hK => ?_)
              go_simp
              refine ⟨_, fun _ _ => rfl, hK _ ?_⟩
              clear hK K
              refine wpHeads_step (fun K hK => ?_)
              go_simp
              refine ⟨.agg #[c0, c1, c2, c3, c4, c5, c6, c7, .int .i64 m.live, .int .i64 m.garb], fun w' hw' => by
                obtain ⟨x0, x1, x2, x3, x4, x5, x6, x7, x8, x9⟩ := bx10 ((hw'.block _ (lt_of_some HAk.out)).trans HAk.out)
                go_simp, hK _ ?_⟩
              clear hK K
              refine wpHeads_step (fun K hK => ?_)
              go_simp
              refine ⟨_, fun _ _ => rfl, hK _ ?_⟩
              clear hK K
              refine wpHeads_nil ?_
              have SD := Lib.hid (Below.refl wk.heap.size wk).drew
              generalize wk.drew = WD at *
              refine held_gw 1 rfl (by kernel_rfl) (by kernel_rfl) fun K hK => ?_
              go_simp
              go_at_call 13
              refine (given11_any _ m WD ⟨c0, c1, c2, c3, c4, c5, c6, c7, rfl, ms_below MSk.out SD.out⟩).mono ?_
              rintro e V1 ⟨rfl, hb⟩
              refine hK _ _ (SD.out.trans (hb.mono SD.out.size)) ?_
              clear hK K
              have S1 := Lib.hid (SD.out.trans (hb.mono SD.out.size))
              clear hb SD
              refine held_gw 3 rfl (by kernel_rfl) (by kernel_rfl) fun K hK => ?_
              go_simp
              go_at_call 29
              refine (pdelete_any _ m k V1 ⟨c0, c1, c2, c3, c4, c5, c6, c7, rfl, ms_below MSk.out S1.out⟩ BD.out.few).mono ?_
              rintro e V2 ⟨⟨v2, rfl, hv2⟩, hb⟩
              refine hK _ _ (S1.out.trans (hb.mono S1.out.size)) ?_
              clear hK K
              have S2 := Lib.hid (S1.out.trans (hb.mono S1.out.size))
              have HV2 := Lib.hid hv2
              obtain ⟨t0, t1, t2, t3, t4, t5, t6, t7, rfl, -⟩ := hv2
              clear hb S1
              refine held_gw 4 rfl (by kernel_rfl) (by kernel_rfl) fun K hK => ?_
              go_simp
              go_at_call 26
              refine (told11_any _ (delM m k) V2 HV2.out).mono ?_
              rintro e V3 ⟨rfl, hb⟩
              refine hK _ _ (S2.out.trans (hb.mono S2.out.size)) ?_
              clear hK K
              have S3' := Lib.hid (S2.out.trans (hb.mono S2.out.size))
              have HV3 := Lib.hid (mv_below HV2.out hb)
              clear hb S2 HV2
              refine held_gw 7 rfl (by kernel_rfl) (by kernel_rfl) fun K hK => ?_
              go_simp
              go_at_call 30
              refine (rdelete11_any _ m k V3 ⟨c0, c1, c2, c3, c4, c5, c6, c7, rfl, ms_below MSk.out S3'.out⟩ BD.out.few BD.out.flat).mono ?_
              rintro e V4 ⟨⟨v4, rfl, hv4⟩, hb⟩
              refine hK _ _ (S3'.out.trans (hb.mono S3'.out.size)) ?_
              clear hK K
              have S4 := Lib.hid (S3'.out.trans (hb.mono S3'.out.size))
              have HV4 := Lib.hid (mv_below HV3.out hb)
              have HV5 := Lib.hid hv4
              have RS := Lib.hid (rsame11_any _ v4 (delM m k) (delM m k) V4 HV4.out HV5.out)
              rw [sameM_self] at RS
              obtain ⟨u0, u1, u2, u3, u4, u5, u6, u7, rfl, -⟩ := hv4
              clear hb S3' HV3
              refine held_gw 8 rfl (by kernel_rfl) (by kernel_rfl) fun K hK => ?_
              go_simp
              go_at_call 25
              refine RS.out.mono ?_
              rintro e V5 ⟨rfl, hb⟩
              refine hK _ _ (S4.out.trans (hb.mono S4.out.size)) ?_
              clear hK K
              have S5 := Lib.hid (S4.out.trans (hb.mono S4.out.size))
              clear hb S4 HV4 HV5 RS
              refine held_gw 9 rfl (by kernel_rfl) (by kernel_rfl) fun K hK => ?_
              go_simp
              refine hK _ _ S5.out ?_
              clear hK K
              refine wpAnyH_done (by kernel_rfl) ?_ _
              unfold onlyN
              dsimp only
              have S9 := Lib.hid (BQ.out.trans (S5.out.mono BQ.out.size))
              clear S5
              go_upto_if 84 with fail
              go_wp2_with fail
              go_roundw
              case rel =>
                have h1 := HK.out
                exact ⟨i + 1, by omega, by rw [EI.out], S9⟩
              case measure =>
                have h1 := HK.out
                rw [EI.out]
                simp [intOf]; omega
          have l1 : decide ((i : Int) < 2) = true := decide_eq_true (by omega)
          have l2 : decide (i < 2) = true := decide_eq_true hlt
          have HK := Lib.hid hlt
          have EI := Lib.hid (show wrap64 ((i : Int) + 1) = ((i + 1 : Nat) : Int) by have := HK.out; unfold wrap64; omega)
          obtain ⟨b, off, cap, hv, -, -, hc⟩ := it_cells (it_below IY.out BQ.out) (by simp)
          obtain ⟨rfl, -⟩ : aY = some ⟨b, off, none⟩ ∧ cY = cap := by simpa using hv
          have hC := hc i (by simpa using hlt)
          obtain ⟨y, hy⟩ : ∃ z, z = [fixI x, x].getD i z0 := ⟨_, rfl⟩
          have hyo : ItOk y := by rw [hy]; exact getT_ok (it_below IY.out BQ.out).1 i
          rw [← hy] at hC
          have HYO := Lib.hid hyo
          obtain ⟨k0, k1, k2, k3⟩ := hC
          have p0 : (0 : Int) ≤ (i : Int) := by omega
          have p1 : (i : Int) < 2 := by omega
          clear hv hc hlt hi hy hyo
          go_upto_region 11 with fail
          clear k0 k1 k2 k3 p0 p1 l1 l2
          have hb := bel_al wk (.cells #[.int .u64 (y.key : Int), .int .u32 (y.ck : Int), .int .i64 y.off, .int .i64 y.sz] 37)
          have HYk := Lib.hid (heap_alloc_new wk (.cells #[.int .u64 (y.key : Int), .int .u32 (y.ck : Int), .int .i64 y.off, .int .i64 y.sz] 37))
          have BQ1 := Lib.hid (BQ.out.trans (hb.mono BQ.out.size))
          have HAk := Lib.hid ((BQ1.out.block _ (lt_of_some HA5.out)).trans HA5.out)
          have MSk := Lib.hid (ms_below MS5.out BQ1.out)
          clear hb BQ
          generalize wk.alloc (.cells #[.int .u64 (y.key : Int), .int .u32 (y.ck : Int), .int .i64 y.off, .int .i64 y.sz] 37) = wy at *
          generalize wk.heap.size = gy at *
          refine wp_onlyN ?_
          refine wp_region_headsS (fun W' => Below wy.heap.size wy W') [0, 2, 5, 6] 6 (by kernel_rfl) (fun _ _ _ _ _ h => h.elim) (by kernel_rfl) (by rfl) (by rfl) (Below.refl wy.heap.size wy).drew ?_
          simp only [pickOps, List.filterMap_cons, List.filterMap_nil, List.getElem?_toArray, List.getElem?_cons_zero, List.getElem?_cons_succ]
          refine wpHeads_step (fun K hK => ?_)
          go_simp
          refine ⟨.agg #[c0, c1, c2, c3, c4, c5, c6, c7, .int .i64 m.live, .int .i64 m.garb], fun w' hw' => by
            obtain ⟨x0, x1, x2, x3, x4, x5, x6, x7, x8, x9⟩ := bx10 ((hw'.block _ (lt_of_some HAk.out)).trans HAk.out)
            go_simp, hK _ ?_⟩
          clear hK K
          refine wpHeads_step (fun K hK => ?_)
          go_simp
          refine ⟨.agg #[.int .u64 (y.key : Int), .int .u32 (y.ck : Int), .int .i64 y.off, .int .i64 y.sz], fun w' hw' => by
            obtain ⟨⟨y0, y1, y2, y3⟩, -⟩ := bx4 ((hw'.block _ (lt_of_some HYk.out)).trans HYk.out)
            go_simp, hK _ ?_⟩
          clear hK K
          refine wpHeads_step (fun K hK => ?_)
          go_simp
          refine ⟨.agg #[c0, c1, c2, c3, c4, c5, c6, c7, .int .i64 m.live, .int .i64 m.garb], fun w' hw' => by
            obtain ⟨x0, x1, x2, x3, x4, x5, x6, x7, x8, x9⟩ := bx10 ((hw'.block _ (lt_of_some HAk.out)).trans HAk.out)
            go_simp, hK _ ?_⟩
          clear hK K
          refine wpHeads_step (fun K hK => ?_)
          go_simp
          refine ⟨.agg #[.int .u64 (y.key : Int), .int .u32 (y.ck : Int), .int .i64 y.off, .int .i64 y.sz], fun w' hw' => by
            obtain ⟨⟨y0, y1, y2, y3⟩, -⟩ := bx4 ((hw'.block _ (lt_of_some HYk.out)).trans HYk.out)
            go_simp, hK _ ?_⟩
          clear hK K
          refine wpHeads_nil ?_
          have SD := Lib.hid (Below.refl wy.heap.size wy).drew
          generalize wy.drew = WD at *
          refine held_gw 1 rfl (by kernel_rfl) (by kernel_rfl) fun K hK => ?_
          go_simp
          go_at_call 13
          refine (given11_any _ m WD ⟨c0, c1, c2, c3, c4, c5, c6, c7, rfl, ms_below MSk.out SD.out⟩).mono ?_
          rintro e V1 ⟨rfl, hb⟩
          refine hK _ _ (SD.out.trans (hb.mono SD.out.size)) ?_
          clear hK K
          have S1 := Lib.hid (SD.out.trans (hb.mono SD.out.size))
          clear hb SD
          refine held_gw 3 rfl (by kernel_rfl) (by kernel_rfl) fun K hK => ?_
          go_simp
          go_at_call 27
          refine (pput11_any _ m y V1 ⟨c0, c1, c2, c3, c4, c5, c6, c7, rfl, ms_below MSk.out S1.out⟩ BD.out.few HYO.out).mono ?_
          rintro e V2 ⟨⟨v2, rfl, hv2⟩, hb⟩
          refine hK _ _ (S1.out.trans (hb.mono S1.out.size)) ?_
          clear hK K
          have S2 := Lib.hid (S1.out.trans (hb.mono S1.out.size))
          have HV2 := Lib.hid hv2
          obtain ⟨t0, t1, t2, t3, t4, t5, t6, t7, rfl, -⟩ := hv2
          clear hb S1
          refine held_gw 4 rfl (by kernel_rfl) (by kernel_rfl) fun K hK => ?_
          go_simp
          go_at_call 26
          refine (told11_any _ (putM m y) V2 HV2.out).mono ?_
          rintro e V3 ⟨rfl, hb⟩
          refine hK _ _ (S2.out.trans (hb.mono S2.out.size)) ?_
          clear hK K
          have S3' := Lib.hid (S2.out.trans (hb.mono S2.out.size))
          have HV3 := Lib.hid (mv_below HV2.out hb)
          clear hb S2 HV2
          refine held_gw 7 rfl (by kernel_rfl) (by kernel_rfl) fun K hK => ?_
          go_simp
          go_at_call 28
          refine (rput11_any _ m y V3 ⟨c0, c1, c2, c3, c4, c5, c6, c7, rfl, ms_below MSk.out S3'.out⟩ BD.out.few BD.out.flat HYO.out).mono ?_
          rintro e V4 ⟨⟨v4, rfl, hv4⟩, hb⟩
          refine hK _ _ (S3'.out.trans (hb.mono S3'.out.size)) ?_
          clear hK K
          have S4 := Lib.hid (S3'.out.trans (hb.mono S3'.out.size))
          have HV4 := Lib.hid (mv_below HV3.out hb)
          have HV5 := Lib.hid hv4
          have RS := Lib.hid (rsame11_any _ v4 (putM m y) (putM m y) V4 HV4.out HV5.out)
          rw [sameM_self] at RS
          obtain ⟨u0, u1, u2, u3, u4, u5, u6, u7, rfl, -⟩ := hv4
          clear hb S3' HV3
          refine held_gw 8 rfl (by kernel_rfl) (by kernel_rfl) fun K hK => ?_
          go_simp
          go_at_call 25
          refine RS.out.mono ?_
          rintro e V5 ⟨rfl, hb⟩
          refine hK _ _ (S4.out.trans (hb.mono S4.out.size)) ?_
          clear hK K
          have S5 := Lib.hid (S4.out.trans (hb.mono S4.out.size))
          clear hb S4 HV4 HV5 RS
          refine held_gw 9 rfl (by kernel_rfl) (by kernel_rfl) fun K hK => ?_
          go_simp
          refine hK _ _ S5.out ?_
          clear hK K
          refine wpAnyH_done (by kernel_rfl) ?_ _
          unfold onlyN
          dsimp only
          have S9 := Lib.hid (BQ1.out.trans (S5.out.mono BQ1.out.size))
          clear S5
          go_upto_if 64 with fail
          go_wp2_with fail
          go_roundw
          case rel =>
            have h1 := HK.out
            exact ⟨i + 1, by omega, by rw [EI.out], S9⟩
          case measure =>
            have h1 := HK.out
            rw [EI.out]
            simp [intOf]; omega
end Go.Proofs.Ytlooldnaoooehaa.Gf
