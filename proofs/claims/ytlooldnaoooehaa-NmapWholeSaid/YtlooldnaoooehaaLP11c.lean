/- What is proved here: the law NmapWhole answers true. No condition. -/
import Derived.Test.YtlooldnaoooehaaP11v
import Derived.Test.YtlooldnaoooehaaP11n
import Derived.Test.YtlooldnaoooehaaP11l
namespace Go.Proofs.Ytlooldnaoooehaa.Gf
open Go Go.Joins Go.ChangeShapes Go.WideShapes Go.ChangeAt Go.RowKit Go.Deep Go.Proofs.Ytlooldnaoooehaa.By Go.Proofs.Ytlooldnaoooehaa.Qt

set_option maxRecDepth 100000 in
set_option maxHeartbeats 25600000 in
theorem whole_any (v : Value) (L : List Itm) (gb : Int) (hgb : 0 ≤ gb ∧ gb ≤ 65535) (w : World) (sl : It w v L) : Calls Try.prog 8 #[v, .int .u16 gb] w fun e w' => e = .returned (.bool true) ∧ Below w.heap.size w w' := by
  have PI := Lib.hid (litems_any v L w sl)
  have KOK := Lib.hid (itm_ok L)
  have KLN := Lib.hid (itm_len L)
  generalize itmL L = K at *
  obtain ⟨aL, cL, rfl, -, -⟩ := it_form sl
  have EG := Lib.hid (show wrap64 gb = gb by unfold wrap64; omega)
  have HJ := Lib.hid (show J64 gb by unfold J64; omega)
  have GF := gd_from KOK.out hgb.1 (by omega)
  have GD := Lib.hid (GF.1.up (k := 20) KLN.out)
  have HGB := Lib.hid (show J64 (fromL K gb).garb by rw [GF.2]; exact HJ.out)
  obtain ⟨mm, hmm⟩ : ∃ z, z = fromL K gb := ⟨_, rfl⟩
  rw [← hmm] at GD HGB
  have HMM := Lib.hid hmm
  generalize L.length = nL at *
  clear sl hgb GF hmm
  go_enter Try.func8, Try.ntmps8
  go_wp2_with fail
  refine PI.out.mono ?_
  rintro e w1 ⟨⟨v1, rfl, ho1⟩, hb1⟩
  obtain ⟨aK, cK, rfl, -, -⟩ := owT_form ho1
  have IK1 := Lib.hid (owT_it ho1)
  have B1 := Lib.hid hb1
  have PF := Lib.hid (pfrom_any _ K gb w1 IK1.out (Nat.le_trans KLN.out (by decide)) HJ.out)
  rw [← HMM.out] at PF
  generalize K.length = nK at *
  clear ho1 hb1 PI KOK KLN IK1 HMM
  go_wp2_with fail
  rw [EG.out]
  refine PF.out.mono ?_
  rintro e w2 ⟨⟨v2, rfl, hv2⟩, hb2⟩
  obtain ⟨t0, t1, t2, t3, t4, t5, t6, t7, rfl, hms2⟩ := hv2
  have B2 := Lib.hid (B1.out.trans (hb2.mono B1.out.size))
  have ON2 := Lib.hid (ms_one hms2 mm.live mm.garb)
  have hz2 := heap_alloc_new w2 (.cells #[.slice none 0 0, .slice none 0 0, .slice none 0 0, .slice none 0 0, .slice none 0 0, .slice none 0 0, .slice none 0 0, .slice none 0 0, .int .i64 0, .int .i64 0] 32)
  clear hb2 B1 PF
  go_upto_region 2 with ((with_reducible refine storeM w2.heap.size _ #[t0, t1, t2, t3, t4, t5, t6, t7, .int .i64 mm.live, .int .i64 mm.garb] ?_ ?_ hz2 rfl rfl ON2.out ?_); exact rfl; exact rfl)
  rw [World.setRow_alloc_new]
  have q3 := bel_al w2 (.cells #[t0, t1, t2, t3, t4, t5, t6, t7, .int .i64 mm.live, .int .i64 mm.garb] 32)
  have HZ3 := Lib.hid (heap_alloc_new w2 (.cells #[t0, t1, t2, t3, t4, t5, t6, t7, .int .i64 mm.live, .int .i64 mm.garb] 32))
  have MS3 := Lib.hid (ms_below hms2 q3)
  have B3 := Lib.hid q3
  clear hz2 hms2 q3 ON2
  generalize w2.alloc (.cells #[t0, t1, t2, t3, t4, t5, t6, t7, .int .i64 mm.live, .int .i64 mm.garb] 32) = w3 at *
  have S0 : SBx w2 [(w2.heap.size, (.cells #[t0, t1, t2, t3, t4, t5, t6, t7, .int .i64 mm.live, .int .i64 mm.garb] 32 (0, 0)))] w3.drew := ⟨B3.out.drew, fun p hp => by rw [List.mem_singleton.1 hp]; exact HZ3.out⟩
  have MV := Lib.hid (show ∀ W, Below w2.heap.size w2 W → Ms W [t0, t1, t2, t3, t4, t5, t6, t7] mm → Mv W (.agg #[t0, t1, t2, t3, t4, t5, t6, t7, .int .i64 mm.live, .int .i64 mm.garb]) mm from fun W _ h => ⟨t0, t1, t2, t3, t4, t5, t6, t7, rfl, h⟩)
  have MSD := Lib.hid (ms_below MS3.out (Below.refl w3.heap.size w3).drew)
  have PV := Lib.hid (pvalid11_any _ mm w3.drew ⟨t0, t1, t2, t3, t4, t5, t6, t7, rfl, MSD.out⟩ (GD.out.few (by decide)))
  rw [okMb_t GD.out.ok] at PV
  refine wp_onlyN ?_
  refine wp_region_headsS (SBx w2 [(w2.heap.size, (.cells #[t0, t1, t2, t3, t4, t5, t6, t7, .int .i64 mm.live, .int .i64 mm.garb] 32 (0, 0)))]) [0] 24 (by kernel_rfl) (fun _ _ _ _ _ h => h.elim) (by kernel_rfl) (by rfl) (by rfl) S0 ?_
  simp only [pickOps, List.filterMap_cons, List.filterMap_nil, List.getElem?_toArray, List.getElem?_cons_zero]
  refine wpHeads_step (fun K hK => ?_)
  go_simp
  refine ⟨.agg #[t0, t1, t2, t3, t4, t5, t6, t7, .int .i64 mm.live, .int .i64 mm.garb], fun w' hw' => by
    obtain ⟨x0, x1, x2, x3, x4, x5, x6, x7, x8, x9⟩ := bx10 (hw'.box _ (List.mem_singleton.2 rfl))
    go_simp, hK _ ?_⟩
  clear hK K
  refine wpHeads_nil ?_
  have SD := Lib.hid S0
  generalize w3.drew = WD at *
  clear S0 MS3 B3 HZ3
  refine held_gw 1 rfl (by kernel_rfl) (by kernel_rfl) fun K hK => ?_
  go_simp
  go_at_call 16
  refine PV.out.mono ?_
  rintro e WSA ⟨rfl, hb⟩
  refine hK _ _ (SD.out.below hb) ?_
  clear hK K
  have SA := Lib.hid (SD.out.below hb)
  have MSA := Lib.hid (ms_below MSD.out hb)
  clear hb SD MSD PV
  refine held_gw 2 rfl (by kernel_rfl) (by kernel_rfl) fun K hK => ?_
  go_simp
  refine hK _ _ SA.out ?_
  clear hK K
  refine wpAnyH_take (i := 3) (v := .agg #[t0, t1, t2, t3, t4, t5, t6, t7, .int .i64 mm.live, .int .i64 mm.garb]) rfl (by kernel_rfl) (by kernel_rfl) (by kernel_rfl) (fun _ _ _ h => h) (Or.inl ⟨by kernel_rfl, fun w' hw' => by
    obtain ⟨x0, x1, x2, x3, x4, x5, x6, x7, x8, x9⟩ := bx10 (hw'.box _ (List.mem_singleton.2 rfl))
    go_simp⟩) SA.out ?_
  refine wpAnyH_take (i := 5) (v := .pointer (some ⟨w2.heap.size, 9, none⟩)) rfl (by kernel_rfl) (by kernel_rfl) (by kernel_rfl) (fun _ _ _ h => h) (Or.inl ⟨by kernel_rfl, fun w' hw' => by
    skip
    go_simp⟩) SA.out ?_
  refine wpAnyH_take (i := 6) (v := .int .i64 mm.garb) rfl (by kernel_rfl) (by kernel_rfl) (by kernel_rfl) (fun _ _ _ h => h) (Or.inl ⟨by kernel_rfl, fun w' hw' => by
    obtain ⟨x0, x1, x2, x3, x4, x5, x6, x7, x8, x9⟩ := bx10 (hw'.box _ (List.mem_singleton.2 rfl))
    go_simp⟩) SA.out ?_
  refine wpAnyH_take (i := 9) (v := .agg #[t0, t1, t2, t3, t4, t5, t6, t7, .int .i64 mm.live, .int .i64 mm.garb]) rfl (by kernel_rfl) (by kernel_rfl) (by kernel_rfl) (fun _ _ _ h => h) (Or.inl ⟨by kernel_rfl, fun w' hw' => by
    obtain ⟨x0, x1, x2, x3, x4, x5, x6, x7, x8, x9⟩ := bx10 (hw'.box _ (List.mem_singleton.2 rfl))
    go_simp⟩) SA.out ?_
  have PT := Lib.hid (pitems11_any _ mm WSA ⟨t0, t1, t2, t3, t4, t5, t6, t7, rfl, MSA.out⟩ (GD.out.few (by decide)) (Nat.le_trans GD.out.flat (by decide)))
  rw [GD.out.items] at PT
  refine held_gw 4 rfl (by kernel_rfl) (by kernel_rfl) fun K hK => ?_
  go_simp
  go_at_call 21
  refine PT.out.mono ?_
  rintro e WSB ⟨⟨vi, rfl, hit⟩, hb⟩
  refine hK _ _ (SA.out.below hb) ?_
  clear hK K
  have SB := Lib.hid (SA.out.below hb)
  have MSB := Lib.hid (ms_below MSA.out hb)
  clear hb SA MSA PT
  have PF := Lib.hid (pfrom_any vi (iL mm) mm.garb WSB hit (by rw [GD.out.lenI]; exact Nat.le_trans GD.out.flat (by decide)) HGB.out)
  rw [GD.out.rem] at PF
  obtain ⟨ai, ci, rfl, -, -⟩ := it_form hit
  clear hit
  refine held_gw 7 rfl (by kernel_rfl) (by kernel_rfl) fun K hK => ?_
  go_simp
  go_at_call 33
  refine PF.out.mono ?_
  rintro e WSC ⟨⟨vf, rfl, hmv⟩, hb⟩
  refine hK _ _ (SB.out.below hb) ?_
  clear hK K
  have SC := Lib.hid (SB.out.below hb)
  have MSC := Lib.hid (ms_below MSB.out hb)
  clear hb SB MSB PF
  have HMV := Lib.hid hmv
  obtain ⟨r0, r1, r2, r3, r4, r5, r6, r7, rfl, -⟩ := hmv
  refine held_gw 8 rfl (by kernel_rfl) (by kernel_rfl) fun K hK => ?_
  go_simp
  go_at_call 26
  refine (told11_any _ mm WSC HMV.out).mono ?_
  rintro e WSE ⟨rfl, hb⟩
  refine hK _ _ (SC.out.below hb) ?_
  clear hK K
  have SE := Lib.hid (SC.out.below hb)
  have MSE := Lib.hid (ms_below MSC.out hb)
  have MV2 := Lib.hid (mv_below HMV.out hb)
  clear hb SC MSC HMV
  refine held_gw 10 rfl (by kernel_rfl) (by kernel_rfl) fun K hK => ?_
  go_simp
  go_at_call 26
  refine (told11_any _ mm WSE ⟨t0, t1, t2, t3, t4, t5, t6, t7, rfl, MSE.out⟩).mono ?_
  rintro e WSF ⟨rfl, hb⟩
  refine hK _ _ (SE.out.below hb) ?_
  clear hK K
  have SF := Lib.hid (SE.out.below hb)
  have MSF := Lib.hid (ms_below MSE.out hb)
  have MV3 := Lib.hid (mv_below MV2.out hb)
  clear hb SE MSE MV2
  have RS := Lib.hid (rsame11_any _ _ mm mm WSF MV3.out ⟨t0, t1, t2, t3, t4, t5, t6, t7, rfl, MSF.out⟩)
  rw [sameM_self] at RS
  refine held_gw 11 rfl (by kernel_rfl) (by kernel_rfl) fun K hK => ?_
  go_simp
  go_at_call 25
  refine RS.out.mono ?_
  rintro e WSH ⟨rfl, hb⟩
  refine hK _ _ (SF.out.below hb) ?_
  clear hK K
  have SH := Lib.hid (SF.out.below hb)
  have MSH := Lib.hid (ms_below MSF.out hb)
  clear hb SF MSF MV3 RS
  refine held_gw 12 rfl (by kernel_rfl) (by kernel_rfl) fun K hK => ?_
  go_simp
  refine hK _ _ SH.out ?_
  clear hK K
  refine held_gw 13 rfl (by kernel_rfl) (by kernel_rfl) fun K hK => ?_
  go_simp
  refine hK _ _ SH.out ?_
  clear hK K
  refine wpAnyH_take (i := 14) (v := .agg #[t0, t1, t2, t3, t4, t5, t6, t7, .int .i64 mm.live, .int .i64 mm.garb]) rfl (by kernel_rfl) (by kernel_rfl) (by kernel_rfl) (fun _ _ _ h => h) (Or.inl ⟨by kernel_rfl, fun w' hw' => by
    obtain ⟨x0, x1, x2, x3, x4, x5, x6, x7, x8, x9⟩ := bx10 (hw'.box _ (List.mem_singleton.2 rfl))
    go_simp⟩) SH.out ?_
  refine wpAnyH_take (i := 16) (v := .agg #[t0, t1, t2, t3, t4, t5, t6, t7, .int .i64 mm.live, .int .i64 mm.garb]) rfl (by kernel_rfl) (by kernel_rfl) (by kernel_rfl) (fun _ _ _ h => h) (Or.inl ⟨by kernel_rfl, fun w' hw' => by
    obtain ⟨x0, x1, x2, x3, x4, x5, x6, x7, x8, x9⟩ := bx10 (hw'.box _ (List.mem_singleton.2 rfl))
    go_simp⟩) SH.out ?_
  have PL := Lib.hid (plen11_any _ mm WSH ⟨t0, t1, t2, t3, t4, t5, t6, t7, rfl, MSH.out⟩ (GD.out.few (by decide)) (Nat.le_trans GD.out.flat (by decide)))
  rw [GD.out.lenM] at PL
  refine held_gw 15 rfl (by kernel_rfl) (by kernel_rfl) fun K hK => ?_
  go_simp
  go_at_call 18
  refine PL.out.mono ?_
  rintro e WSI ⟨rfl, hb⟩
  refine hK _ _ (SH.out.below hb) ?_
  clear hK K
  have SI := Lib.hid (SH.out.below hb)
  have MSI := Lib.hid (ms_below MSH.out hb)
  clear hb SH MSH PL
  have PT := Lib.hid (pitems11_any _ mm WSI ⟨t0, t1, t2, t3, t4, t5, t6, t7, rfl, MSI.out⟩ (GD.out.few (by decide)) (Nat.le_trans GD.out.flat (by decide)))
  rw [GD.out.items] at PT
  refine held_gw 17 rfl (by kernel_rfl) (by kernel_rfl) fun K hK => ?_
  go_simp
  go_at_call 21
  refine PT.out.mono ?_
  rintro e WSJ ⟨⟨vi, rfl, hit⟩, hb⟩
  refine hK _ _ (SI.out.below hb) ?_
  clear hK K
  have SJ := Lib.hid (SI.out.below hb)
  clear hb SI MSI PT
  obtain ⟨ai, ci, rfl, -, -⟩ := it_form hit
  obtain ⟨nI, hnI⟩ : ∃ z, z = (iL mm).length := ⟨_, rfl⟩
  rw [← hnI]
  have e1 : ((nI : Int) == (nI : Int)) = true := by simp
  clear hit hnI
  refine held_gw 18 rfl (by kernel_rfl) (by kernel_rfl) fun K hK => ?_
  go_simp
  refine hK _ _ SJ.out ?_
  clear hK K
  refine held_gw 19 rfl (by kernel_rfl) (by kernel_rfl) fun K hK => ?_
  go_simp
  refine hK _ _ SJ.out ?_
  clear hK K
  refine held_gw 20 rfl (by kernel_rfl) (by kernel_rfl) fun K hK => ?_
  go_simp
  refine hK _ _ SJ.out ?_
  clear hK K
  refine held_gw 21 rfl (by kernel_rfl) (by kernel_rfl) fun K hK => ?_
  go_simp
  refine hK _ _ SJ.out ?_
  clear hK K
  refine held_gw 22 rfl (by kernel_rfl) (by kernel_rfl) fun K hK => ?_
  go_simp
  go_at_call 10
  refine (awake11_any WSJ).mono ?_
  rintro e WSG ⟨rfl, hb⟩
  refine hK _ _ (SJ.out.below hb) ?_
  clear hK K
  have SG := Lib.hid (SJ.out.below hb)
  clear hb SJ
  refine held_gw 23 rfl (by kernel_rfl) (by kernel_rfl) fun K hK => ?_
  go_simp
  refine hK _ _ SG.out ?_
  clear hK K
  refine held_gw 24 rfl (by kernel_rfl) (by kernel_rfl) fun K hK => ?_
  go_simp
  refine hK _ _ SG.out ?_
  clear hK K
  refine wpAnyH_done (by kernel_rfl) ?_ _
  unfold onlyN
  dsimp only
  go_wp2
  go_ret
  exact ⟨rfl, B2.out.trans (SG.out.bel.mono B2.out.size)⟩
end Go.Proofs.Ytlooldnaoooehaa.Gf
