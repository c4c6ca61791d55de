/- What is proved here: the law DiskOps answers true. No condition. -/
import Derived.Test.YtecneepgmpoepaaN10
import Derived.Laws.Closers25b
-- halved
namespace Go.Proofs.Ytecneepgmpoepaa.Gf
open Go Go.Joins Go.ChangeShapes Go.WideShapes Go.ChangeAt Go.RowKit Go.Deep Go.Proofs.Ytecneepgmpoepaa.By Go.Proofs.Ytecneepgmpoepaa.Qt

theorem held_gw {P : Program} {ops : Array Oper} {md : Region.Mode} {Q : Exit → Act → World → Prop} {S : World → Prop} {fuel : Nat} {listed : Array Bool} {a : Act} {w : World} (i : Nat) {oi : Oper} (hi : ops[i]? = some oi) (hg : Region.wanted oi (yielded ops a.tmps) = true) (hr : Region.ready md ops listed = [i])
  (h : ∀ K : Act → World → Prop, (∀ a' w', S w' → wpAnyH P md ops Q S fuel (listed.setIfInBounds i true) a' w' → K a' w') → oi.wp P a w K Q) : wpAnyH P md ops Q S (fuel + 1) listed a w := by
 refine wpAnyH_all hr (by simp) fun j hj => ?_
 obtain rfl : j = i := by simpa using hj
 unfold wpOp
 simp only [hi]
 rw [if_pos hg]
 exact Or.inl (h _ fun a' w' h1 h2 => ⟨h1, h2⟩)
theorem dv_BO {w : World} {v : Value} {d : Dk} (h : Dv w v d) : DvB (fun _ => True) w v d := h
set_option maxRecDepth 100000 in
set_option maxHeartbeats 25600000 in
theorem ops_any (vr : Value) (raw : Dk) (vl : Value) (L : List Opn) (limit left kd : Int) (nm tn : ByteArray) (off : Int) (dv kv : Value) (db0 : List Nat) (ke0 : List Kep) (w : World) (hraw : Dv w vr raw) (hlim : -9223372036854775808 ≤ limit ∧ limit ≤ 9223372036854775807) (hleft : -9223372036854775808 ≤ left ∧ left ≤ 9223372036854775807) (sl : Rd (fun _ => True) w (.sl tyOp) [vl] L) (hnm : nm.size ≤ maxLen) (htn : tn.size ≤ maxLen) (hoff : -9223372036854775808 ≤ off ∧ off ≤ 9223372036854775807) (hdd : Rd (fun _ => True) w (.sl .u8) [dv] db0) (hkk : Rd (fun _ => True) w (.sl tyK) [kv] ke0) : Calls Try.prog 5 #[vr, vl, .int .i64 limit, .int .i64 left, .agg #[.int .i64 kd, .string nm, .string tn, .int .i64 off, dv, kv]] w fun e w' => e = .returned (.bool true) ∧ Below w.heap.size w w' := by
 obtain ⟨ad, cd, rfl, hcd, -⟩ := rd_sl hdd
 obtain ⟨ak, ck, rfl, hck, -⟩ := rd_sl hkk
 have HSD := Lib.hid (op_data hdd)
 have HSK := Lib.hid (op_keep hkk)
 obtain ⟨db, hdb⟩ : ∃ z, z = db0.take 200 := ⟨_, rfl⟩
 obtain ⟨ke, hke⟩ : ∃ z, z = ke0.take 10 := ⟨_, rfl⟩
 rw [← hdb] at HSD
 rw [← hke] at HSK
 have HDB := Lib.hid (show db.length ≤ 200 by rw [hdb, List.length_take]; omega)
 have HKE := Lib.hid (show ke.length ≤ 10 by rw [hke, List.length_take]; omega)
 generalize db0.length = nd at *
 generalize ke0.length = nk at *
 have HCC := Lib.hid (And.intro hcd hck)
 have HLL := Lib.hid (And.intro hlim hleft)
 have HNT := Lib.hid (And.intro hnm (And.intro htn hoff))
 have RAW := Lib.hid hraw
 obtain ⟨ar, cr, rfl, -⟩ := dv_form (dv_BO hraw)
 obtain ⟨nr, hnr⟩ : ∃ z, z = raw.2.2.length := ⟨_, rfl⟩
 rw [← hnr] at RAW ⊢
 have HNR := Lib.hid hnr
 have SLL := Lib.hid sl
 obtain ⟨al, cl, rfl, -, -⟩ := rd_sl sl
 obtain ⟨nl, hnl⟩ : ∃ z, z = L.length := ⟨_, rfl⟩
 rw [← hnl] at SLL ⊢
 clear sl hnl hlim hleft hnm htn hoff hcd hck hdb hke hdd hkk hraw hnr
 have q1 := bel_al0 w (.cells #[.int .i64 raw.1, .int .i64 raw.2.1, .slice ar nr cr] 24)
 have BX := Lib.hid (btA q1 (bel_al0 _ (.cells #[.int .i64 kd, .string nm, .string tn, .int .i64 off, .slice ad nd cd, .slice ak nk ck] 67)))
 have HR1 := Lib.hid (show ((w.alloc (.cells #[.int .i64 raw.1, .int .i64 raw.2.1, .slice ar nr cr] 24)).alloc (.cells #[.int .i64 kd, .string nm, .string tn, .int .i64 off, .slice ad nd cd, .slice ak nk ck] 67)).heap[w.heap.size]? = some (.cells #[.int .i64 raw.1, .int .i64 raw.2.1, .slice ar nr cr] 24 (0, 0)) from (al_old (by simp)).trans (heap_alloc_new w _))
 have HO1 := Lib.hid (heap_alloc2_new w (.cells #[.int .i64 raw.1, .int .i64 raw.2.1, .slice ar nr cr] 24) (.cells #[.int .i64 kd, .string nm, .string tn, .int .i64 off, .slice ad nd cd, .slice ak nk ck] 67))
 clear q1
 go_enter Try.func5, Try.ntmps5
 go_upto_region 1 with fail
 generalize (w.alloc (.cells #[.int .i64 raw.1, .int .i64 raw.2.1, .slice ar nr cr] 24)).alloc (.cells #[.int .i64 kd, .string nm, .string tn, .int .i64 off, .slice ad nd cd, .slice ak nk ck] 67) = W1 at *
 have DR1 := Lib.hid (dv_below RAW.out BX.out)
 obtain ⟨x0, x1, x2⟩ := box3c HR1.out
 go_wp2_with fail
 clear x0 x1 x2
 refine (light10_any _ raw W1 DR1.out).mono ?_
 rintro e w2 ⟨⟨q, rfl, hq⟩, hb2⟩
 have HR2 := Lib.hid ((hb2.block _ (lt_of_some0 HR1.out)).trans HR1.out)
 have HO2 := Lib.hid ((hb2.block _ (lt_of_some0 HO1.out)).trans HO1.out)
 have B2 := Lib.hid (btA BX.out hb2)
 clear hb2 HR1 HO1 BX DR1
 cases q
 case false =>
  clear hq
  go_wp2_with fail
  refine (awake10_any _).mono ?_
  rintro e w9 ⟨rfl, hb9⟩
  have B9 := Lib.hid (btA B2.out hb9)
  clear hb9
  go_wp2
  go_ret
  exact ⟨rfl, B9.out⟩
 have LT := Lib.hid (lt_ltd (hq rfl))
 clear hq
 obtain ⟨y0, y1, y2, y3, y4, y5⟩ := box6c HO2.out
 go_wp2_with fail
 clear y0 y1 y2 y3 y4 y5
 refine (cut10_any kd nm tn off ad ak nd cd nk ck HCC.out.1 HCC.out.2 w2).mono ?_
 rintro e w3 ⟨rfl, hb3⟩
 have HR3 := Lib.hid ((hb3.block _ (lt_of_some0 HR2.out)).trans HR2.out)
 have HO3 := Lib.hid ((hb3.block _ (lt_of_some0 HO2.out)).trans HO2.out)
 have B3 := Lib.hid (btA B2.out hb3)
 clear hb3 HR2 HO2 B2
 obtain ⟨md, hmd⟩ : ∃ z, z = min nd 200 := ⟨_, rfl⟩
 obtain ⟨mk, hmk⟩ : ∃ z, z = min nk 10 := ⟨_, rfl⟩
 rw [← hmd] at HSD ⊢
 rw [← hmk] at HSK ⊢
 clear hmd hmk HCC
 obtain ⟨y0, y1, y2, y3, y4, y5⟩ := box6c HO3.out
 have u0 := frozen_of_row _ (w.heap.size + 1) 0 _ _ HO3.out
 have u1 := frozen_of_row _ (w.heap.size + 1) 1 _ _ HO3.out
 have u2 := frozen_of_row _ (w.heap.size + 1) 2 _ _ HO3.out
 have u3 := frozen_of_row _ (w.heap.size + 1) 3 _ _ HO3.out
 have u4 := frozen_of_row _ (w.heap.size + 1) 4 _ _ HO3.out
 have u5 := frozen_of_row _ (w.heap.size + 1) 5 _ _ HO3.out
 go_upto_region 4 with fail
 clear y0 y1 y2 y3 y4 y5 u0 u1 u2 u3 u4 u5
 have HO4 := Lib.hid (set6c (k := .int .i64 kd) (l := .string nm) (m := .string tn) (n := .int .i64 off) (o := .slice ad md cd) (p := .slice ak mk ck) HO3.out)
 have HR4 := Lib.hid ((set6_other (k := .int .i64 kd) (l := .string nm) (m := .string tn) (n := .int .i64 off) (o := .slice ad md cd) (p := .slice ak mk ck) (by omega : w.heap.size ≠ w.heap.size + 1)).trans HR3.out)
 have B4 := Lib.hid (below_set6 (k := .int .i64 kd) (l := .string nm) (m := .string tn) (n := .int .i64 off) (o := .slice ad md cd) (p := .slice ak mk ck) B3.out (by omega : w.heap.size ≤ w.heap.size + 1))
 clear HO3 HR3 B3
 generalize (((((w3.setCell ⟨w.heap.size + 1, 0, none⟩ (.int .i64 kd)).setCell ⟨w.heap.size + 1, 1, none⟩ (.string nm)).setCell ⟨w.heap.size + 1, 2, none⟩ (.string tn)).setCell ⟨w.heap.size + 1, 3, none⟩ (.int .i64 off)).setCell ⟨w.heap.size + 1, 4, none⟩ (.slice ad md cd)).setCell ⟨w.heap.size + 1, 5, none⟩ (.slice ak mk ck) = W4 at *
 go_cut [33, 34, 35] from 24 to 35 (fun ts tm ti wx => ∃ gb ob, ts = .slice (some ⟨gb, ob, none⟩) 3 3 ∧ tm = .int .i64 3 ∧ ti = .int .i64 0 ∧ Hid (w.heap.size + 1 < gb) ∧ Hid (Arr wx gb ob) ∧ Hid (wx.heap[w.heap.size + 1]? = some (.cells #[.int .i64 kd, .string nm, .string tn, .int .i64 off, .slice ad md cd, .slice ak mk ck] 67 (0, 0))) ∧ Hid (Below w.heap.size w wx))
 case first =>
  have S0 : SBx w [(w.heap.size, (.cells #[.int .i64 raw.1, .int .i64 raw.2.1, .slice ar nr cr] 24 (0, 0))), (w.heap.size + 1, (.cells #[.int .i64 kd, .string nm, .string tn, .int .i64 off, .slice ad md cd, .slice ak mk ck] 67 (0, 0)))] W4.drew := ⟨B4.out.drew, fun p hp => by
   rcases List.mem_cons.1 hp with rfl | hp
   ·exact HR4.out
   ·rw [List.mem_singleton.1 hp]; exact HO4.out⟩
  refine wp_onlyN ?_
  refine wp_region_headsS (SBx w [(w.heap.size, (.cells #[.int .i64 raw.1, .int .i64 raw.2.1, .slice ar nr cr] 24 (0, 0))), (w.heap.size + 1, (.cells #[.int .i64 kd, .string nm, .string tn, .int .i64 off, .slice ad md cd, .slice ak mk ck] 67 (0, 0)))]) [0, 1, 2, 3, 5, 6, 7, 11] 4 (by kernel_rfl) (fun _ _ _ _ _ h => h.elim) (by kernel_rfl) (by rfl) (by rfl) S0 ?_
  simp only [pickOps, List.filterMap_cons, List.filterMap_nil, List.getElem?_toArray, List.getElem?_cons_zero, List.getElem?_cons_succ]
  refine wpHeads_step (fun K hK => ?_)
  go_simp
  refine ⟨.agg #[.int .i64 raw.1, .int .i64 raw.2.1, .slice ar nr cr], fun w' hw' => by
   obtain ⟨q0, q1, q2⟩ := box3c (hw'.box _ (List.mem_cons_self ..))
   simp [q0, q1, q2], hK _ ?_⟩
  clear hK K
  iterate 7
   refine wpHeads_step (fun K hK => ?_)
   go_simp
   refine ⟨_, fun _ _ => rfl, hK _ ?_⟩
   clear hK K
  refine wpHeads_nil ?_
  have SD := Lib.hid S0
  generalize W4.drew = WD at *
  clear S0
  refine held_one 4 rfl rfl (by kernel_rfl) fun K hK => ?_
  go_simp
  go_at_call 15
  refine (made10_any limit left (.slice al nl cl) L WD HLL.out.1 HLL.out.2 (rd_below SLL.out SD.out.bel)).mono ?_
  rintro e w20 ⟨⟨v1, d1, rfl, hm, hv⟩, hb⟩
  refine hK _ _ (SD.out.below hb) ?_
  clear hK K
  have S20 := Lib.hid (SD.out.below hb)
  have Ld1 := Lib.hid (made_ltd hm)
  have Vd1 := Lib.hid hv
  obtain ⟨ad1, cd1, rfl, -⟩ := dv_form (dv_BO hv)
  obtain ⟨nd1, hn⟩ : ∃ z, z = d1.2.2.length := ⟨_, rfl⟩
  rw [← hn] at Vd1 ⊢
  have Nd1 := Lib.hid hn
  clear hm hv hn hb SD
  refine held_one 8 rfl rfl (by kernel_rfl) fun K hK => ?_
  go_simp
  go_at_call 15
  refine (made10_any _ (-1) (.slice al nl cl) L w20 ⟨bits_lo_i64 .and limit 255, bits_hi_i64 .and limit 255⟩ (by decide) (rd_below SLL.out S20.out.bel)).mono ?_
  rintro e w21 ⟨⟨v2, d2, rfl, hm, hv⟩, hb⟩
  refine hK _ _ (S20.out.below hb) ?_
  clear hK K
  have S21 := Lib.hid (S20.out.below hb)
  have Ld2 := Lib.hid (made_ltd hm)
  have Vd2 := Lib.hid hv
  obtain ⟨ad2, cd2, rfl, -⟩ := dv_form (dv_BO hv)
  obtain ⟨nd2, hn⟩ : ∃ z, z = d2.2.2.length := ⟨_, rfl⟩
  rw [← hn] at Vd2 ⊢
  have Nd2 := Lib.hid hn
  have V1 := Lib.hid (dv_below Vd1.out hb)
  have V2 := Vd2
  clear hm hv hn hb S20 Vd1 Vd2
  have V0 := Lib.hid (dv_below RAW.out S21.out.bel)
  refine held_one 9 rfl rfl (by kernel_rfl) fun K hK => ?_
  go_simp
  have qb := bel_al0 w21 (.cells #[.int .i64 raw.1, .int .i64 raw.2.1, .slice ar nr cr, .int .i64 d1.1, .int .i64 d1.2.1, .slice ad1 nd1 cd1, .int .i64 d2.1, .int .i64 d2.2.1, .slice ad2 nd2 cd2] 24)
  refine hK _ _ (S21.out.below qb) ?_
  clear hK K
  have S22 := Lib.hid (S21.out.below qb)
  have HB := Lib.hid (heap_alloc_new w21 (.cells #[.int .i64 raw.1, .int .i64 raw.2.1, .slice ar nr cr, .int .i64 d1.1, .int .i64 d1.2.1, .slice ad1 nd1 cd1, .int .i64 d2.1, .int .i64 d2.2.1, .slice ad2 nd2 cd2] 24))
  have LB := Lib.hid (lt_of_some0 (S21.out.box _ (List.mem_cons_of_mem _ (List.mem_cons_self ..))))
  have AR := Lib.hid (arr_mk HB.out HNR.out Nd1.out Nd2.out (dv_below V0.out qb) (dv_below V1.out qb) (dv_below V2.out qb) LT.out Ld1.out Ld2.out)
  clear qb S21 V0 V1 V2 HB Nd1 Nd2 Ld1 Ld2
  generalize w21.alloc (.cells #[.int .i64 raw.1, .int .i64 raw.2.1, .slice ar nr cr, .int .i64 d1.1, .int .i64 d1.2.1, .slice ad1 nd1 cd1, .int .i64 d2.1, .int .i64 d2.2.1, .slice ad2 nd2 cd2] 24) = w22 at *
  generalize w21.heap.size = gb at *
  refine held_one 10 rfl rfl (by kernel_rfl) fun K hK => ?_
  go_simp
  refine hK _ _ S22.out ?_
  clear hK K
  refine wpAnyH_done (by kernel_rfl) ?_ _
  unfold onlyN
  dsimp only
  go_wp2_with fail
  go_meet
  exact ⟨gb, 0, rfl, rfl, rfl, LB, AR, Lib.hid (S22.out.box _ (List.mem_cons_of_mem _ (List.mem_cons_self ..))), Lib.hid S22.out.bel⟩
 case rest =>
  rename World => w5
  obtain ⟨gb, ob, rfl, rfl, rfl, LGB, AR5, HO5, B5⟩ := hcut
  clear HR4 HO4 B4 RAW HNR LT
  have LG := Lib.hid (lt_of_some0 HO5.out)
  go_wp2_with fail
  go_loopw [35] (fun t35 wr => ∃ i : Nat, i ≤ 3 ∧ t35 = .int .i64 (i : Int) ∧ Hid (Arr wr gb ob) ∧ Hid (∃ kx : Int, wr.heap[w.heap.size + 1]? = some (.cells #[.int .i64 kx, .string nm, .string tn, .int .i64 off, .slice ad md cd, .slice ak mk ck] 67 (0, 0))) ∧ Hid (Below w.heap.size w wr)) (fun t _ => 3 - (intOf t).toNat)
  case atStart => exact ⟨0, by omega, rfl, AR5, Lib.hid ⟨kd, HO5.out⟩, B5⟩
  case round =>
   clear AR5 HO5 B5
   obtain ⟨i, hi, rfl, AR, HK, BB⟩ := hrel
   have EW := Lib.hid (show wrap64 ((i : Int) + 1) = ((i + 1 : Nat) : Int) by unfold wrap64; omega)
   by_cases hlt : i < 3
   case neg =>
    have l1 : decide ((i : Int) < 3) = false := decide_eq_false (by omega)
    have l2 : decide (i < 3) = false := decide_eq_false hlt
    clear hlt hi
    go_wp2_with fail
    refine (awake10_any _).mono ?_
    rintro e w9 ⟨rfl, hb9⟩
    have B9 := Lib.hid (btA BB.out hb9)
    clear hb9
    go_wp2
    go_ret
    exact ⟨rfl, B9.out⟩
   have l1 : decide ((i : Int) < 3) = true := decide_eq_true (by omega)
   have l2 : decide (i < 3) = true := decide_eq_true hlt
   have HI := Lib.hid hlt
   obtain ⟨d, ⟨a, c, x0, x1, x2, hdv⟩, hld⟩ := AR.out i hlt
   have LD := Lib.hid hld
   obtain ⟨n, hn⟩ : ∃ z, z = d.2.2.length := ⟨_, rfl⟩
   rw [← hn] at x2 hdv
   have DD0 := Lib.hid hdv
   have p0 : (0 : Int) ≤ (i : Int) := by omega
   have p1 : (i : Int) < 3 := by omega
   clear hdv hld hn hlt hi
   go_upto_region 7 with fail
   clear x0 x1 x2 p0 p1 l1 l2
   have q7 := bel_al0 wr (.cells #[.int .i64 d.1, .int .i64 d.2.1, .slice a n c] 24)
   have HX7 := Lib.hid (heap_alloc_new wr (.cells #[.int .i64 d.1, .int .i64 d.2.1, .slice a n c] 24))
   have AR7 := Lib.hid (arr_below AR.out q7)
   have DD7 := Lib.hid (dv_below DD0.out q7)
   have B7 := Lib.hid (btA BB.out q7)
   have HK7 : Hid (∃ kx : Int, (wr.alloc (.cells #[.int .i64 d.1, .int .i64 d.2.1, .slice a n c] 24)).heap[w.heap.size + 1]? = some (.cells #[.int .i64 kx, .string nm, .string tn, .int .i64 off, .slice ad md cd, .slice ak mk ck] 67 (0, 0))) := Lib.hid (by obtain ⟨kx, h⟩ := HK.out; exact ⟨kx, (q7.block _ (lt_of_some0 h)).trans h⟩)
   have LGX := Lib.hid (show w.heap.size + 1 < wr.heap.size by obtain ⟨kx, h⟩ := HK.out; exact lt_of_some0 h)
   clear q7 AR DD0 BB HK
   generalize wr.alloc (.cells #[.int .i64 d.1, .int .i64 d.2.1, .slice a n c] 24) = W7 at *
   generalize wr.heap.size = gx at *
   go_wp2_with fail
   go_loopw [13] (fun t13 wr => ∃ k : Nat, k ≤ 10 ∧ t13 = .int .i64 (k : Int) ∧ Hid (wr.heap[gx]? = some (.cells #[.int .i64 d.1, .int .i64 d.2.1, .slice a n c] 24 (0, 0))) ∧ Hid (Dv wr (.agg #[.int .i64 d.1, .int .i64 d.2.1, .slice a n c]) d) ∧ Hid (Arr wr gb ob) ∧ Hid (∃ kx : Int, wr.heap[w.heap.size + 1]? = some (.cells #[.int .i64 kx, .string nm, .string tn, .int .i64 off, .slice ad md cd, .slice ak mk ck] 67 (0, 0))) ∧ Hid (Below w.heap.size w wr)) (fun t _ => 10 - (intOf t).toNat)
   case atStart => exact ⟨0, by omega, rfl, HX7, DD7, AR7, HK7, B7⟩
   case round =>
    clear HX7 DD7 AR7 HK7 B7
    obtain ⟨k, hk, rfl, HX, DX, AR, HK, BB⟩ := hrel
    have EK := Lib.hid (show wrap64 ((k : Int) + 1) = ((k + 1 : Nat) : Int) by unfold wrap64; omega)
    by_cases hlt : k < 10
    case neg =>
     have l1 : decide ((k : Int) < 10) = false := decide_eq_false (by omega)
     have l2 : decide (k < 10) = false := decide_eq_false hlt
     clear hlt hk
     go_wp2
     go_roundw
     case rel =>
      have h1 := HI.out
      exact ⟨i + 1, by omega, by rw [EW.out], AR, HK, BB⟩
     case measure =>
      have h1 := HI.out
      rw [EW.out]
      simp [intOf]; omega
    have l1 : decide ((k : Int) < 10) = true := decide_eq_true (by omega)
    have l2 : decide (k < 10) = true := decide_eq_true hlt
    have HKI := Lib.hid hlt
    obtain ⟨kx, hkx⟩ := HK.out
    have HO := Lib.hid hkx
    clear hkx HK hlt hk
    have y0 := (box6c HO.out).1
    have u0 := frozen_of_row _ (w.heap.size + 1) 0 _ _ HO.out
    go_upto_region 11 with fail
    clear y0 u0 l1 l2
    have HOk := Lib.hid (show (wr.setCell ⟨w.heap.size + 1, 0, none⟩ (.int .i64 (k : Int))).heap[w.heap.size + 1]? = some (.cells #[.int .i64 (k : Int), .string nm, .string tn, .int .i64 off, .slice ad md cd, .slice ak mk ck] 67 (0, 0)) from (by simpa using heap_setCell_same wr (w.heap.size + 1) 0 _ _ (.int .i64 (k : Int)) HO.out))
    have HXk := Lib.hid ((other1 (o := 0) (v := .int .i64 (k : Int)) (by have := LGX.out; omega : gx ≠ w.heap.size + 1)).trans HX.out)
    have DXk := Lib.hid (dv_opset (k := (k : Int)) HO.out DX.out)
    have ARk := Lib.hid (arr_opset (k := (k : Int)) AR.out HO.out (by have := LGB.out; omega))
    have Bk := Lib.hid (BB.out.setCell (p := ⟨w.heap.size + 1, 0, none⟩) (by show w.heap.size ≤ w.heap.size + 1; omega) (.int .i64 (k : Int)))
    clear HO HX DX AR BB
    generalize wr.setCell ⟨w.heap.size + 1, 0, none⟩ (.int .i64 (k : Int)) = w6 at *
    have CT := Lib.hid (fun W v (h : Below w6.heap.size w6 W) (hv : Dv W v d) => change_any v d (k : Int) k nm tn off ad ak md cd mk ck db ke W hv LD.out.sm 14 LD.out.pn (by omega) (by have := HKI.out; omega) (kk_small (by have := HKI.out; omega)) (by have := HKI.out; omega) HNT.out.2.2 HNT.out.1 HNT.out.2.1 (by have := HDB.out; omega) (HSD.out W (btA Bk.out h)) (HSK.out W (btA Bk.out h)) (by have := HKE.out; omega))
    have WT := Lib.hid (fun W v (h : Below w6.heap.size w6 W) (hv : Dv W v d) => want_any v d (k : Int) k nm tn off ad ak md cd mk ck db ke W hv LD.out.sm 14 LD.out.pn (by omega) (by have := HKI.out; omega) (kk_small (by have := HKI.out; omega)) (by have := HKI.out; omega) HNT.out.2.2 HNT.out.1 HNT.out.2.1 (by have := HDB.out; omega) (HSD.out W (btA Bk.out h)) (HSK.out W (btA Bk.out h)) (by have := HKE.out; omega))
    have OB := Lib.hid (op_bd LD.out k (by have := HKI.out; omega) nm tn off db ke)
    generalize opD d k nm tn off db ke = DD at *
    generalize opE d k nm tn off db = EE at *
    go_cut [14, 15] from 39 to 67 (fun tx ty wx => ∃ (gy : Nat) (a9 : Option Addr) (n9 c9 : Nat), tx = .pointer (some ⟨gy, 0, none⟩) ∧ ty = .int .i64 (EE : Int) ∧ Hid (n9 = DD.2.2.length) ∧ Hid (wx.heap[gy]? = some (.cells #[.int .i64 DD.1, .int .i64 DD.2.1, .slice a9 n9 c9] 33 (0, 0))) ∧ Hid (w6.heap.size ≤ gy) ∧ Hid (Dv wx (.agg #[.int .i64 DD.1, .int .i64 DD.2.1, .slice a9 n9 c9]) DD) ∧ Hid (Below w6.heap.size w6 wx))
    case first =>
     have S0 : SBx w6 [(gx, (.cells #[.int .i64 d.1, .int .i64 d.2.1, .slice a n c] 24 (0, 0))), (w.heap.size + 1, (.cells #[.int .i64 (k : Int), .string nm, .string tn, .int .i64 off, .slice ad md cd, .slice ak mk ck] 67 (0, 0)))] w6.drew := ⟨(Below.refl _ _).drew, fun p hp => by
      rcases List.mem_cons.1 hp with rfl | hp
      ·exact HXk.out
      ·rw [List.mem_singleton.1 hp]; exact HOk.out⟩
     refine wp_onlyN ?_
     refine wp_region_headsS (SBx w6 [(gx, (.cells #[.int .i64 d.1, .int .i64 d.2.1, .slice a n c] 24 (0, 0))), (w.heap.size + 1, (.cells #[.int .i64 (k : Int), .string nm, .string tn, .int .i64 off, .slice ad md cd, .slice ak mk ck] 67 (0, 0)))]) [0, 2] 8 (by kernel_rfl) (fun _ _ _ _ _ h => h.elim) (by kernel_rfl) (by rfl) (by rfl) S0 ?_
     simp only [pickOps, List.filterMap_cons, List.filterMap_nil, List.getElem?_toArray, List.getElem?_cons_zero, List.getElem?_cons_succ]
     refine wpHeads_step (fun K hK => ?_)
     go_simp
     refine ⟨.agg #[.int .i64 d.1, .int .i64 d.2.1, .slice a n c], fun w' hw' => by
      obtain ⟨q0, q1, q2⟩ := box3c (hw'.box _ (List.mem_cons_self ..))
      simp [q0, q1, q2], hK _ ?_⟩
     clear hK K
     refine wpHeads_step (fun K hK => ?_)
     go_simp
     refine ⟨.agg #[.int .i64 (k : Int), .string nm, .string tn, .int .i64 off, .slice ad md cd, .slice ak mk ck], fun w' hw' => by
      obtain ⟨q0, q1, q2, q3, q4, q5⟩ := box6c (hw'.box _ (List.mem_cons_of_mem _ (List.mem_cons_self ..)))
      simp [q0, q1, q2, q3, q4, q5], hK _ ?_⟩
     clear hK K
     refine wpHeads_nil ?_
     have SD := Lib.hid S0
     generalize w6.drew = WD at *
     clear S0
     refine held_two10 1 7 rfl rfl rfl rfl (by kernel_rfl) (fun K hK => ?_) (fun K hK => ?_)
     ·go_simp
      go_at_call 17
      refine (given10_any _ d WD (dv_BO (dv_below DXk.out SD.out.bel)) (by have := LD.out.len; omega) (fun f hf => Nat.le_trans (LD.out.pn f hf) (by decide))).mono ?_
      rintro e w20 ⟨⟨vg, rfl, hvg⟩, hb20⟩
      refine hK _ _ (SD.out.below hb20) ?_
      clear hK K
      have S20 := Lib.hid (SD.out.below hb20)
      have VG20 := Lib.hid (dvB_dv hvg)
      clear hb20 hvg SD
      refine held_two10 3 7 rfl rfl rfl rfl (by kernel_rfl) (fun K hK => ?_) (fun K hK => ?_)
      ·go_simp
       go_at_call 36
       refine (CT.out _ _ S20.out.bel VG20.out).mono ?_
       rintro e w21 ⟨⟨v5, rfl, hv5⟩, hb21⟩
       refine hK _ _ (S20.out.below hb21) ?_
       clear hK K
       have S21 := Lib.hid (S20.out.below hb21)
       obtain ⟨a9, c9, rfl, r9⟩ := dv_form hv5
       obtain ⟨-, -, hr9, -⟩ := hv5
       have HR9 := Lib.hid hr9
       obtain ⟨n9, hn9⟩ : ∃ z, z = DD.2.2.length := ⟨_, rfl⟩
       rw [← hn9] at r9 ⊢
       have R21 := Lib.hid r9
       have HN9 := Lib.hid hn9
       clear hb21 S20 VG20 r9 hr9 hn9
       refine wpAnyH_take (i := 4) (v := .tuple #[.agg #[.int .i64 DD.1, .int .i64 DD.2.1, .slice a9 n9 c9], .int .i64 (EE : Int)]) rfl (by kernel_rfl) (by kernel_rfl) (by kernel_rfl) (fun _ _ _ h => h) (Or.inl ⟨by kernel_rfl, fun w _ => by go_simp⟩) S21.out ?_
       refine wpAnyH_take (i := 5) (v := .agg #[.int .i64 DD.1, .int .i64 DD.2.1, .slice a9 n9 c9]) rfl (by kernel_rfl) (by kernel_rfl) (by kernel_rfl) (fun _ _ _ h => h) (Or.inl ⟨by kernel_rfl, fun w _ => by go_simp⟩) S21.out ?_
       refine wpAnyH_take (i := 6) (v := .int .i64 (EE : Int)) rfl (by kernel_rfl) (by kernel_rfl) (by kernel_rfl) (fun _ _ _ h => h) (Or.inl ⟨by kernel_rfl, fun w _ => by go_simp⟩) S21.out ?_
       refine held_one 7 rfl rfl (by kernel_rfl) fun K hK => ?_
       go_simp
       have hb22 := bel_al0 w21 (.cells #[.int .i64 0, .int .i64 0, .slice none 0 0] 33)
       refine hK _ _ (S21.out.below hb22) ?_
       clear hK K
       have S22 := Lib.hid (S21.out.below hb22)
       have HGX22 := Lib.hid (heap_alloc_new w21 (.cells #[.int .i64 0, .int .i64 0, .slice none 0 0] 33))
       have GNE := Lib.hid (show w21.heap.size ≠ gx ∧ w21.heap.size ≠ w.heap.size + 1 from by have h := lt_of_some0 (S21.out.box _ (List.mem_cons_self ..)); have h2 := lt_of_some0 (S21.out.box _ (List.mem_cons_of_mem _ (List.mem_cons_self ..))); change gx < _ at h; change w.heap.size + 1 < _ at h2; omega)
       have GGE := Lib.hid (show w6.heap.size ≤ w21.heap.size from S21.out.bel.size)
       have R22 := Lib.hid (rd_below R21.out hb22)
       clear hb22 S21 R21
       generalize w21.alloc (.cells #[.int .i64 0, .int .i64 0, .slice none 0 0] 33) = w22 at *
       generalize w21.heap.size = gy at *
       obtain ⟨z0, z1, z2⟩ := box3c HGX22.out
       have f0 := frozen_of_row _ gy 0 _ _ HGX22.out
       have f1 := frozen_of_row _ gy 1 _ _ HGX22.out
       have f2 := frozen_of_row _ gy 2 _ _ HGX22.out
       refine held_one 8 rfl rfl (by kernel_rfl) fun K hK => ?_
       go_simp
       refine hK _ _ (S22.out.set3 (by have := GGE.out; omega) (fun p hp => by
        rcases List.mem_cons.1 hp with rfl | hp
        ·exact GNE.out.1.symm
        ·rw [List.mem_singleton.1 hp]; exact GNE.out.2.symm)) ?_
       clear hK K
       refine held_one 9 rfl rfl (by kernel_rfl) fun K hK => ?_
       go_simp
       refine hK _ _ (S22.out.set3 (by have := GGE.out; omega) (fun p hp => by
        rcases List.mem_cons.1 hp with rfl | hp
        ·exact GNE.out.1.symm
        ·rw [List.mem_singleton.1 hp]; exact GNE.out.2.symm)) ?_
       clear hK K
       refine wpAnyH_done (by kernel_rfl) ?_ _
       unfold onlyN
       dsimp only
       clear z0 z1 z2 f0 f1 f2
       go_wp2_with fail
       go_meet
       exact ⟨gy, a9, n9, c9, rfl, rfl, HN9, Lib.hid (set3c HGX22.out), GGE, Lib.hid (dv_boxset HGX22.out ⟨_, rfl, HR9.out, R22.out⟩), Lib.hid (below_set3 S22.out.bel GGE.out)⟩
      ·go_simp
       have hb21 := bel_al0 w20 (.cells #[.int .i64 0, .int .i64 0, .slice none 0 0] 33)
       refine hK _ _ (S20.out.below hb21) ?_
       clear hK K
       have S21 := Lib.hid (S20.out.below hb21)
       have HGX21 := Lib.hid (heap_alloc_new w20 (.cells #[.int .i64 0, .int .i64 0, .slice none 0 0] 33))
       have GNE := Lib.hid (show w20.heap.size ≠ gx ∧ w20.heap.size ≠ w.heap.size + 1 from by have h := lt_of_some0 (S20.out.box _ (List.mem_cons_self ..)); have h2 := lt_of_some0 (S20.out.box _ (List.mem_cons_of_mem _ (List.mem_cons_self ..))); change gx < _ at h; change w.heap.size + 1 < _ at h2; omega)
       have GGE := Lib.hid (show w6.heap.size ≤ w20.heap.size from S20.out.bel.size)
       have VG21 := Lib.hid (dv_below VG20.out hb21)
       clear hb21 S20 VG20
       generalize w20.alloc (.cells #[.int .i64 0, .int .i64 0, .slice none 0 0] 33) = w21 at *
       generalize w20.heap.size = gy at *
       refine held_one 3 rfl rfl (by kernel_rfl) fun K hK => ?_
       go_simp
       go_at_call 36
       refine (CT.out _ _ S21.out.bel VG21.out).mono ?_
       rintro e w22 ⟨⟨v5, rfl, hv5⟩, hb22⟩
       refine hK _ _ (S21.out.below hb22) ?_
       clear hK K
       have S22 := Lib.hid (S21.out.below hb22)
       have HGX22 := Lib.hid ((hb22.block _ (lt_of_some0 HGX21.out)).trans HGX21.out)
       obtain ⟨a9, c9, rfl, r9⟩ := dv_form hv5
       obtain ⟨-, -, hr9, -⟩ := hv5
       have HR9 := Lib.hid hr9
       obtain ⟨n9, hn9⟩ : ∃ z, z = DD.2.2.length := ⟨_, rfl⟩
       rw [← hn9] at r9 ⊢
       have R22 := Lib.hid r9
       have HN9 := Lib.hid hn9
       clear hb22 S21 VG21 r9 hr9 hn9 HGX21
       refine wpAnyH_take (i := 4) (v := .tuple #[.agg #[.int .i64 DD.1, .int .i64 DD.2.1, .slice a9 n9 c9], .int .i64 (EE : Int)]) rfl (by kernel_rfl) (by kernel_rfl) (by kernel_rfl) (fun _ _ _ h => h) (Or.inl ⟨by kernel_rfl, fun w _ => by go_simp⟩) S22.out ?_
       refine wpAnyH_take (i := 5) (v := .agg #[.int .i64 DD.1, .int .i64 DD.2.1, .slice a9 n9 c9]) rfl (by kernel_rfl) (by kernel_rfl) (by kernel_rfl) (fun _ _ _ h => h) (Or.inl ⟨by kernel_rfl, fun w _ => by go_simp⟩) S22.out ?_
       refine wpAnyH_take (i := 6) (v := .int .i64 (EE : Int)) rfl (by kernel_rfl) (by kernel_rfl) (by kernel_rfl) (fun _ _ _ h => h) (Or.inl ⟨by kernel_rfl, fun w _ => by go_simp⟩) S22.out ?_
       obtain ⟨z0, z1, z2⟩ := box3c HGX22.out
       have f0 := frozen_of_row _ gy 0 _ _ HGX22.out
       have f1 := frozen_of_row _ gy 1 _ _ HGX22.out
       have f2 := frozen_of_row _ gy 2 _ _ HGX22.out
       refine held_one 8 rfl rfl (by kernel_rfl) fun K hK => ?_
       go_simp
       refine hK _ _ (S22.out.set3 (by have := GGE.out; omega) (fun p hp => by
        rcases List.mem_cons.1 hp with rfl | hp
        ·exact GNE.out.1.symm
        ·rw [List.mem_singleton.1 hp]; exact GNE.out.2.symm)) ?_
       clear hK K
       refine held_one 9 rfl rfl (by kernel_rfl) fun K hK => ?_
       go_simp
       refine hK _ _ (S22.out.set3 (by have := GGE.out; omega) (fun p hp => by
        rcases List.mem_cons.1 hp with rfl | hp
        ·exact GNE.out.1.symm
        ·rw [List.mem_singleton.1 hp]; exact GNE.out.2.symm)) ?_
       clear hK K
       refine wpAnyH_done (by kernel_rfl) ?_ _
       unfold onlyN
       dsimp only
       clear z0 z1 z2 f0 f1 f2
       go_wp2_with fail
       go_meet
       exact ⟨gy, a9, n9, c9, rfl, rfl, HN9, Lib.hid (set3c HGX22.out), GGE, Lib.hid (dv_boxset HGX22.out ⟨_, rfl, HR9.out, R22.out⟩), Lib.hid (below_set3 S22.out.bel GGE.out)⟩
     ·go_simp
      have hb20 := bel_al0 WD (.cells #[.int .i64 0, .int .i64 0, .slice none 0 0] 33)
      refine hK _ _ (SD.out.below hb20) ?_
      clear hK K
      have S20 := Lib.hid (SD.out.below hb20)
      have HGX20 := Lib.hid (heap_alloc_new WD (.cells #[.int .i64 0, .int .i64 0, .slice none 0 0] 33))
      have GNE := Lib.hid (show WD.heap.size ≠ gx ∧ WD.heap.size ≠ w.heap.size + 1 from by have h := lt_of_some0 (SD.out.box _ (List.mem_cons_self ..)); have h2 := lt_of_some0 (SD.out.box _ (List.mem_cons_of_mem _ (List.mem_cons_self ..))); change gx < _ at h; change w.heap.size + 1 < _ at h2; omega)
      have GGE := Lib.hid (show w6.heap.size ≤ WD.heap.size from SD.out.bel.size)
      clear hb20 SD
      generalize WD.alloc (.cells #[.int .i64 0, .int .i64 0, .slice none 0 0] 33) = w20 at *
      generalize WD.heap.size = gy at *
      refine held_one 1 rfl rfl (by kernel_rfl) fun K hK => ?_
      go_simp
      go_at_call 17
      refine (given10_any _ d w20 (dv_BO (dv_below DXk.out S20.out.bel)) (by have := LD.out.len; omega) (fun f hf => Nat.le_trans (LD.out.pn f hf) (by decide))).mono ?_
      rintro e w21 ⟨⟨vg, rfl, hvg⟩, hb21⟩
      refine hK _ _ (S20.out.below hb21) ?_
      clear hK K
      have S21 := Lib.hid (S20.out.below hb21)
      have VG21 := Lib.hid (dvB_dv hvg)
      have HGX21 := Lib.hid ((hb21.block _ (lt_of_some0 HGX20.out)).trans HGX20.out)
      clear hb21 hvg S20 HGX20
      refine held_one 3 rfl rfl (by kernel_rfl) fun K hK => ?_
      go_simp
      go_at_call 36
      refine (CT.out _ _ S21.out.bel VG21.out).mono ?_
      rintro e w22 ⟨⟨v5, rfl, hv5⟩, hb22⟩
      refine hK _ _ (S21.out.below hb22) ?_
      clear hK K
      have S22 := Lib.hid (S21.out.below hb22)
      have HGX22 := Lib.hid ((hb22.block _ (lt_of_some0 HGX21.out)).trans HGX21.out)
      obtain ⟨a9, c9, rfl, r9⟩ := dv_form hv5
      obtain ⟨-, -, hr9, -⟩ := hv5
      have HR9 := Lib.hid hr9
      obtain ⟨n9, hn9⟩ : ∃ z, z = DD.2.2.length := ⟨_, rfl⟩
      rw [← hn9] at r9 ⊢
      have R22 := Lib.hid r9
      have HN9 := Lib.hid hn9
      clear hb22 S21 VG21 r9 hr9 hn9 HGX21
      refine wpAnyH_take (i := 4) (v := .tuple #[.agg #[.int .i64 DD.1, .int .i64 DD.2.1, .slice a9 n9 c9], .int .i64 (EE : Int)]) rfl (by kernel_rfl) (by kernel_rfl) (by kernel_rfl) (fun _ _ _ h => h) (Or.inl ⟨by kernel_rfl, fun w _ => by go_simp⟩) S22.out ?_
      refine wpAnyH_take (i := 5) (v := .agg #[.int .i64 DD.1, .int .i64 DD.2.1, .slice a9 n9 c9]) rfl (by kernel_rfl) (by kernel_rfl) (by kernel_rfl) (fun _ _ _ h => h) (Or.inl ⟨by kernel_rfl, fun w _ => by go_simp⟩) S22.out ?_
      refine wpAnyH_take (i := 6) (v := .int .i64 (EE : Int)) rfl (by kernel_rfl) (by kernel_rfl) (by kernel_rfl) (fun _ _ _ h => h) (Or.inl ⟨by kernel_rfl, fun w _ => by go_simp⟩) S22.out ?_
      obtain ⟨z0, z1, z2⟩ := box3c HGX22.out
      have f0 := frozen_of_row _ gy 0 _ _ HGX22.out
      have f1 := frozen_of_row _ gy 1 _ _ HGX22.out
      have f2 := frozen_of_row _ gy 2 _ _ HGX22.out
      refine held_one 8 rfl rfl (by kernel_rfl) fun K hK => ?_
      go_simp
      refine hK _ _ (S22.out.set3 (by have := GGE.out; omega) (fun p hp => by
       rcases List.mem_cons.1 hp with rfl | hp
       ·exact GNE.out.1.symm
       ·rw [List.mem_singleton.1 hp]; exact GNE.out.2.symm)) ?_
      clear hK K
      refine held_one 9 rfl rfl (by kernel_rfl) fun K hK => ?_
      go_simp
      refine hK _ _ (S22.out.set3 (by have := GGE.out; omega) (fun p hp => by
       rcases List.mem_cons.1 hp with rfl | hp
       ·exact GNE.out.1.symm
       ·rw [List.mem_singleton.1 hp]; exact GNE.out.2.symm)) ?_
      clear hK K
      refine wpAnyH_done (by kernel_rfl) ?_ _
      unfold onlyN
      dsimp only
      clear z0 z1 z2 f0 f1 f2
      go_wp2_with fail
      go_meet
      exact ⟨gy, a9, n9, c9, rfl, rfl, HN9, Lib.hid (set3c HGX22.out), GGE, Lib.hid (dv_boxset HGX22.out ⟨_, rfl, HR9.out, R22.out⟩), Lib.hid (below_set3 S22.out.bel GGE.out)⟩
    case rest =>
     rename World => w8
     obtain ⟨gy, ay, ny, cy, rfl, rfl, HNY, HGY, HLY, DVY, BY⟩ := hcut
     have HO8 := Lib.hid ((BY.out.block _ (lt_of_some0 HOk.out)).trans HOk.out)
     have HX8 := Lib.hid ((BY.out.block _ (lt_of_some0 HXk.out)).trans HXk.out)
     have DX8 := Lib.hid (dv_below DXk.out BY.out)
     have AR8 := Lib.hid (arr_below ARk.out BY.out)
     have B8 := Lib.hid (btA Bk.out BY.out)
     have WT8 := Lib.hid (WT.out w8 _ BY.out DX8.out)
     clear HOk HXk DXk ARk Bk WT CT HLY BY
     obtain ⟨x0, x1, x2⟩ := box3c HX8.out
     obtain ⟨y0, y1, y2, y3, y4, y5⟩ := box6c HO8.out
     go_wp2_with fail
     clear x0 x1 x2 y0 y1 y2 y3 y4 y5
     refine WT8.out.mono ?_
     rintro e w9 ⟨⟨v9, rfl, hv9⟩, hb9⟩
     have DW9 := Lib.hid (dvB_dv hv9)
     obtain ⟨a9, c9, rfl, -⟩ := dv_form hv9
     obtain ⟨n9, hn9⟩ : ∃ z, z = DD.2.2.length := ⟨_, rfl⟩
     rw [← hn9] at DW9 ⊢
     have HO9 := Lib.hid ((hb9.block _ (lt_of_some0 HO8.out)).trans HO8.out)
     have HX9 := Lib.hid ((hb9.block _ (lt_of_some0 HX8.out)).trans HX8.out)
     have HY9 := Lib.hid ((hb9.block _ (lt_of_some0 HGY.out)).trans HGY.out)
     have DY9 := Lib.hid (dv_below DVY.out hb9)
     have DX9 := Lib.hid (dv_below DX8.out hb9)
     have AR9 := Lib.hid (arr_below AR8.out hb9)
     have B9 := Lib.hid (btA B8.out hb9)
     clear hb9 hv9 hn9 HO8 HX8 HGY DVY DX8 AR8 B8 WT8
     go_upto_region 13 with fail
     have qA := bel_al0 w9 (.cells #[.int .i64 DD.1, .int .i64 DD.2.1, .slice a9 n9 c9] 24)
     have HZA := Lib.hid (heap_alloc_new w9 (.cells #[.int .i64 DD.1, .int .i64 DD.2.1, .slice a9 n9 c9] 24))
     have DWA := Lib.hid (dv_below DW9.out qA)
     have HOA := Lib.hid ((qA.block _ (lt_of_some0 HO9.out)).trans HO9.out)
     have HXA := Lib.hid ((qA.block _ (lt_of_some0 HX9.out)).trans HX9.out)
     have HYA := Lib.hid ((qA.block _ (lt_of_some0 HY9.out)).trans HY9.out)
     have DYA := Lib.hid (dv_below DY9.out qA)
     have DXA := Lib.hid (dv_below DX9.out qA)
     have ARA := Lib.hid (arr_below AR9.out qA)
     have BA := Lib.hid (btA B9.out qA)
     clear qA HO9 HX9 HY9 DY9 DW9 DX9 AR9 B9
     generalize w9.alloc (.cells #[.int .i64 DD.1, .int .i64 DD.2.1, .slice a9 n9 c9] 24) = wA at *
     generalize w9.heap.size = gz at *
     have e1 : ((EE : Int) != (EE : Int)) = false := by simp
     have S0 : SBx w [(gy, (.cells #[.int .i64 DD.1, .int .i64 DD.2.1, .slice ay ny cy] 33 (0, 0))), (gz, (.cells #[.int .i64 DD.1, .int .i64 DD.2.1, .slice a9 n9 c9] 24 (0, 0))), (gx, (.cells #[.int .i64 d.1, .int .i64 d.2.1, .slice a n c] 24 (0, 0))), (w.heap.size + 1, (.cells #[.int .i64 (k : Int), .string nm, .string tn, .int .i64 off, .slice ad md cd, .slice ak mk ck] 67 (0, 0)))] wA.drew := ⟨BA.out.drew, fun p hp => by
      rcases List.mem_cons.1 hp with rfl | hp
      ·exact HYA.out
      rcases List.mem_cons.1 hp with rfl | hp
      ·exact HZA.out
      rcases List.mem_cons.1 hp with rfl | hp
      ·exact HXA.out
      ·rw [List.mem_singleton.1 hp]; exact HOA.out⟩
     have DYD := Lib.hid (dv_below DYA.out (Below.refl wA.heap.size wA).drew)
     have DWD := Lib.hid (dv_below DWA.out (Below.refl wA.heap.size wA).drew)
     have DXD := Lib.hid (dv_below DXA.out (Below.refl wA.heap.size wA).drew)
     have ARD := Lib.hid (arr_below ARA.out (Below.refl wA.heap.size wA).drew)
     refine wp_onlyN ?_
     refine wp_region_headsS (SBx w [(gy, (.cells #[.int .i64 DD.1, .int .i64 DD.2.1, .slice ay ny cy] 33 (0, 0))), (gz, (.cells #[.int .i64 DD.1, .int .i64 DD.2.1, .slice a9 n9 c9] 24 (0, 0))), (gx, (.cells #[.int .i64 d.1, .int .i64 d.2.1, .slice a n c] 24 (0, 0))), (w.heap.size + 1, (.cells #[.int .i64 (k : Int), .string nm, .string tn, .int .i64 off, .slice ad md cd, .slice ak mk ck] 67 (0, 0)))]) [0, 1, 2, 3] 6 (by kernel_rfl) (fun _ _ _ _ _ h => h.elim) (by kernel_rfl) (by rfl) (by rfl) S0 ?_
     simp only [pickOps, List.filterMap_cons, List.filterMap_nil, List.getElem?_toArray, List.getElem?_cons_zero, List.getElem?_cons_succ]
     iterate 2
      refine wpHeads_step (fun K hK => ?_)
      go_simp
      refine ⟨_, fun _ _ => rfl, hK _ ?_⟩
      clear hK K
     refine wpHeads_step (fun K hK => ?_)
     go_simp
     refine ⟨.bool false, fun _ _ => by first | rfl | simp, hK _ ?_⟩
     clear hK K
     refine wpHeads_step (fun K hK => ?_)
     go_simp
     refine ⟨.bool false, fun _ _ => by first | rfl | simp, hK _ ?_⟩
     clear hK K
     refine wpHeads_nil ?_
     have SD := Lib.hid S0
     generalize wA.drew = WD at *
     clear S0 HOA HXA HYA HZA DYA DWA DXA ARA BA e1
     refine wpAnyH_take (i := 4) (v := .agg #[.int .i64 DD.1, .int .i64 DD.2.1, .slice ay ny cy]) rfl (by kernel_rfl) (by kernel_rfl) (by kernel_rfl) (fun _ _ _ h => h) (Or.inl ⟨by kernel_rfl, fun w' hw' => by
      obtain ⟨q0, q1, q2⟩ := box3c (hw'.box _ (List.mem_cons_self ..))
      go_simp⟩) SD.out ?_
     refine wpAnyH_take (i := 6) (v := .agg #[.int .i64 DD.1, .int .i64 DD.2.1, .slice a9 n9 c9]) rfl (by kernel_rfl) (by kernel_rfl) (by kernel_rfl) (fun _ _ _ h => h) (Or.inl ⟨by kernel_rfl, fun w' hw' => by
      obtain ⟨q0, q1, q2⟩ := box3c (hw'.box _ (List.mem_cons_of_mem _ (List.mem_cons_self ..)))
      go_simp⟩) SD.out ?_
     have TD := Lib.hid (told10_any _ DD WD (dv_BO DYD.out) OB.out.1 OB.out.2)
     refine held_gw 5 rfl (by kernel_rfl) (by kernel_rfl) fun K hK => ?_
     go_simp
     go_at_call 20
     refine TD.out.mono ?_
     rintro e wB ⟨⟨vt, rfl, hvt⟩, hbB⟩
     refine hK _ _ (SD.out.below hbB) ?_
     clear hK K
     have SB := Lib.hid (SD.out.below hbB)
     have DT := Lib.hid (dvB_dv hvt)
     have DWB := Lib.hid (dv_below DWD.out hbB)
     have DXB := Lib.hid (dv_below DXD.out hbB)
     have ARB := Lib.hid (arr_below ARD.out hbB)
     obtain ⟨at_, ct, rfl, -⟩ := dv_form hvt
     clear hbB hvt TD DYD DWD DXD ARD SD
     have SM := Lib.hid (rsame_eq _ _ DD wB DT.out DWB.out)
     refine held_gw 7 rfl (by kernel_rfl) (by kernel_rfl) fun K hK => ?_
     go_simp
     go_at_call 19
     refine SM.out.mono ?_
     rintro e wC ⟨rfl, hbC⟩
     refine hK _ _ (SB.out.below hbC) ?_
     clear hK K
     have SC := Lib.hid (SB.out.below hbC)
     have DXC := Lib.hid (dv_below DXB.out hbC)
     have ARC := Lib.hid (arr_below ARB.out hbC)
     clear hbC SB DT DWB DXB ARB SM
     refine held_gw 8 rfl (by kernel_rfl) (by kernel_rfl) fun K hK => ?_
     go_simp
     refine hK _ _ SC.out ?_
     clear hK K
     refine held_one 9 rfl rfl (by kernel_rfl) fun K hK => ?_
     go_simp
     refine hK _ _ SC.out ?_
     clear hK K
     refine wpAnyH_done (by kernel_rfl) ?_ _
     unfold onlyN
     dsimp only
     go_wp2
     go_roundw
     case rel =>
      have h1 := HKI.out
      exact ⟨k + 1, by omega, by rw [EK.out], Lib.hid (SC.out.box _ (List.mem_cons_of_mem _ (List.mem_cons_of_mem _ (List.mem_cons_self ..)))), DXC, ARC, Lib.hid ⟨(k : Int), SC.out.box _ (List.mem_cons_of_mem _ (List.mem_cons_of_mem _ (List.mem_cons_of_mem _ (List.mem_cons_self ..))))⟩, Lib.hid SC.out.bel⟩
     case measure =>
      have h1 := HKI.out
      rw [EK.out]
      simp [intOf]; omega
end Go.Proofs.Ytecneepgmpoepaa.Gf
