/- What is proved here: the law DiskHistories answers true. No condition. -/
import Derived.Test.YtecneepgmpoepaaH10f
import Derived.Test.YtecneepgmpoepaaR10u
-- halved
namespace Go.Proofs.Ytecneepgmpoepaa.Gf
open Go Go.Joins Go.ChangeShapes Go.WideShapes Go.ChangeAt Go.RowKit Go.Deep Go.Proofs.Ytecneepgmpoepaa.By Go.Proofs.Ytecneepgmpoepaa.Qt

theorem held_g10 {P : Program} {ops : Array Oper} {md : Region.Mode} {Q : Exit → Act → World → Prop} {S : World → Prop} {fuel : Nat} {listed : Array Bool} {a : Act} {w : World} (i : Nat) {oi : Oper} (hi : ops[i]? = some oi) (hg : Region.wanted oi (yielded ops a.tmps) = true) (hr : Region.ready md ops listed = [i])
  (h : ∀ K : Act → World → Prop, (∀ a' w', S w' → wpAnyH P md ops Q S fuel (listed.setIfInBounds i true) a' w' → K a' w') → oi.wp P a w K Q) : wpAnyH P md ops Q S (fuel + 1) listed a w := by
 refine wpAnyH_all hr (by simp) fun j hj => ?_
 obtain rfl : j = i := by simpa using hj
 unfold wpOp
 simp only [hi]
 rw [if_pos hg]
 exact Or.inl (h _ fun a' w' h1 h2 => ⟨h1, h2⟩)
theorem dv_B {w : World} {v : Value} {d : Dk} (h : Dv w v d) : DvB (fun _ => True) w v d := h
theorem dvo_dv {w' : World} {v : Value} {d : Dk} {B : Nat → Prop} (h : DvB B w' v d) : Dv w' v d := dvB_dv h
set_option maxRecDepth 100000 in
set_option maxHeartbeats 25600000 in
theorem histories_any (limit left : Int) (vl : Value) (L : List Opn) (w : World) (hlim : -9223372036854775808 ≤ limit ∧ limit ≤ 9223372036854775807) (hleft : -9223372036854775808 ≤ left ∧ left ≤ 9223372036854775807) (sl : Rd (fun _ => True) w (.sl tyOp) [vl] L) : Calls Try.prog 6 #[.int .i64 limit, .int .i64 left, vl] w fun e w' => e = .returned (.bool true) ∧ Below w.heap.size w w' := by
 have HLL := Lib.hid (And.intro hlim hleft)
 have SLL := Lib.hid sl
 obtain ⟨al, cl, rfl, -, -⟩ := rd_sl sl
 obtain ⟨nl, hnl⟩ : ∃ z, z = L.length := ⟨_, rfl⟩
 rw [← hnl] at SLL ⊢
 have HL := Lib.hid hnl
 have MS := Lib.hid (made_start limit left)
 clear sl hnl hlim hleft
 go_enter Try.func6, Try.ntmps6
 go_wp2_with fail
 refine (pnew_any limit HLL.out.1 (fun _ => True) w).mono ?_
 rintro e w1 ⟨⟨v1, rfl, hv1⟩, hb1⟩
 have PA := Lib.hid (parm_any v1 (newD limit) left HLL.out.2 w1 hv1)
 obtain ⟨a1, c1, rfl, -⟩ := dv_form hv1
 obtain ⟨n1, hn1⟩ : ∃ z, z = (newD limit).2.2.length := ⟨_, rfl⟩
 obtain ⟨m1, hm1⟩ : ∃ z, z = (newD limit).1 := ⟨_, rfl⟩
 obtain ⟨l1, hl1⟩ : ∃ z, z = (newD limit).2.1 := ⟨_, rfl⟩
 rw [← hn1, ← hm1, ← hl1] at PA ⊢
 have B1 := Lib.hid hb1
 clear hb1 hv1 hn1 hm1 hl1
 go_wp2_with fail
 refine PA.out.mono ?_
 rintro e w2 ⟨⟨v2, rfl, hv2⟩, hb2⟩
 have DV2 := Lib.hid (dvo_dv hv2)
 obtain ⟨a2, c2, rfl, -⟩ := dv_form hv2
 have B2 := Lib.hid (btA B1.out hb2)
 clear hb2 hv2 PA B1
 have HD0 : Hid ((armD (newD limit) left).1 = max 0 limit) := Lib.hid MS.out.lim
 obtain ⟨d0, hd0⟩ : ∃ z, z = armD (newD limit) left := ⟨_, rfl⟩
 rw [← hd0] at DV2 MS ⊢
 have HDE := Lib.hid hd0
 clear hd0 HD0
 obtain ⟨n2, hn2⟩ : ∃ z, z = d0.2.2.length := ⟨_, rfl⟩
 rw [← hn2] at DV2 ⊢
 have HN2 := Lib.hid hn2
 clear hn2
 go_wp2_with fail
 refine (rnew_any limit HLL.out.1 (fun _ => True) w2).mono ?_
 rintro e w3 ⟨⟨v3, rfl, hv3⟩, hb3⟩
 have RA := Lib.hid (rarm_any v3 (newD limit) left HLL.out.2 w3 hv3)
 rw [← HDE.out] at RA
 obtain ⟨a3, c3, rfl, -⟩ := dv_form hv3
 obtain ⟨n3, hn3⟩ : ∃ z, z = (newD limit).2.2.length := ⟨_, rfl⟩
 obtain ⟨m3, hm3⟩ : ∃ z, z = (newD limit).1 := ⟨_, rfl⟩
 obtain ⟨l3, hl3⟩ : ∃ z, z = (newD limit).2.1 := ⟨_, rfl⟩
 rw [← hn3, ← hm3, ← hl3] at RA ⊢
 have DV3 := Lib.hid (dv_below DV2.out hb3)
 have B3 := Lib.hid (btA B2.out hb3)
 clear hb3 hv3 hn3 hm3 hl3 DV2 B2
 go_wp2_with fail
 refine RA.out.mono ?_
 rintro e w4 ⟨⟨v4, rfl, hv4⟩, hb4⟩
 have DV4 := Lib.hid (dv_below DV3.out hb4)
 have DW4 := Lib.hid (dvo_dv hv4)
 obtain ⟨a4, c4, rfl, -⟩ := dv_form hv4
 rw [← HN2.out] at DW4 ⊢
 have B4 := Lib.hid (btA B3.out hb4)
 clear hb4 hv4 DV3 B3 RA
 go_upto_region 2 with fail
 have q5 := bel_al0 w4 (.cells #[.int .i64 d0.1, .int .i64 d0.2.1, .slice a2 n2 c2] 33)
 have q6 := btA q5 (bel_al0 _ (.cells #[.int .i64 d0.1, .int .i64 d0.2.1, .slice a4 n2 c4] 24))
 have HP6 := Lib.hid (show ((w4.alloc (.cells #[.int .i64 d0.1, .int .i64 d0.2.1, .slice a2 n2 c2] 33)).alloc (.cells #[.int .i64 d0.1, .int .i64 d0.2.1, .slice a4 n2 c4] 24)).heap[w4.heap.size]? = some (.cells #[.int .i64 d0.1, .int .i64 d0.2.1, .slice a2 n2 c2] 33 (0, 0)) from (al_old (by simp)).trans (heap_alloc_new w4 _))
 have HR6 := Lib.hid (heap_alloc2_new w4 (.cells #[.int .i64 d0.1, .int .i64 d0.2.1, .slice a2 n2 c2] 33) (.cells #[.int .i64 d0.1, .int .i64 d0.2.1, .slice a4 n2 c4] 24))
 have DP6 := Lib.hid (dv_below DV4.out q6)
 have DR6 := Lib.hid (dv_below DW4.out q6)
 have B6 := Lib.hid (btA B4.out q6)
 have LG := Lib.hid (show w.heap.size ≤ w4.heap.size from B4.out.size)
 clear q5 q6 DV4 DW4 B4
 generalize (w4.alloc (.cells #[.int .i64 d0.1, .int .i64 d0.2.1, .slice a2 n2 c2] 33)).alloc (.cells #[.int .i64 d0.1, .int .i64 d0.2.1, .slice a4 n2 c4] 24) = W6 at *
 generalize w4.heap.size = g at *
 go_wp2_with fail
 go_loopw [9] (fun t9 wr => ∃ i : Nat, i ≤ 20 ∧ t9 = .int .i64 (i : Int) ∧ Hid (∃ (d : Dk) (a1 : Option Addr) (c1 : Nat) (a2 : Option Addr) (c2 : Nat), wr.heap[g]? = some (.cells #[.int .i64 d.1, .int .i64 d.2.1, .slice a1 d.2.2.length c1] 33 (0, 0)) ∧ wr.heap[g + 1]? = some (.cells #[.int .i64 d.1, .int .i64 d.2.1, .slice a2 d.2.2.length c2] 24 (0, 0)) ∧ Dv wr (.agg #[.int .i64 d.1, .int .i64 d.2.1, .slice a1 d.2.2.length c1]) d ∧ Dv wr (.agg #[.int .i64 d.1, .int .i64 d.2.1, .slice a2 d.2.2.length c2]) d ∧ MadeP (max 0 limit) left d i) ∧ Hid (Below w.heap.size w wr)) (fun t _ => 20 - (intOf t).toNat)
 case atStart => exact ⟨0, by omega, rfl, Lib.hid ⟨d0, a2, c2, a4, c4, by rw [← HN2.out]; exact HP6.out, by rw [← HN2.out]; exact HR6.out, by rw [← HN2.out]; exact DP6.out, by rw [← HN2.out]; exact DR6.out, MS.out⟩, B6⟩
 case round =>
  clear HP6 HR6 DP6 DR6 B6 HN2 MS HDE
  obtain ⟨i, hi, rfl, HB, BB⟩ := hrel
  obtain ⟨d, ap, cp, aq, cq, hp, hq, hdp, hdq, hmd⟩ := HB.out
  have MD := Lib.hid hmd
  have DP := Lib.hid hdp
  have DQ := Lib.hid hdq
  obtain ⟨n, hn⟩ : ∃ z, z = d.2.2.length := ⟨_, rfl⟩
  rw [← hn] at hp hq DP DQ
  have HP := Lib.hid hp
  have HQ := Lib.hid hq
  have HN := Lib.hid hn
  have EW := Lib.hid (show wrap64 ((i : Int) + 1) = ((i + 1 : Nat) : Int) by unfold wrap64; omega)
  clear hp hq hdp hdq hmd hn HB
  by_cases hlt : i < nl
  case neg =>
   have l1 : decide ((i : Int) < (nl : Int)) = false := decide_eq_false (by omega)
   have l2 : decide (i < nl) = false := decide_eq_false hlt
   clear hlt hi
   go_wp2_with fail
   refine (awake10_any _).mono ?_
   rintro e w9 ⟨rfl, hb9⟩
   have B9 := Lib.hid (btA BB.out hb9)
   clear hb9
   go_wp2
   go_ret
   exact ⟨rfl, B9.out⟩
  have l1 : decide ((i : Int) < (nl : Int)) = true := decide_eq_true (by omega)
  have l2 : decide (i < nl) = true := decide_eq_true hlt
  by_cases h20 : i < 20
  case neg =>
   have l3 : decide ((i : Int) < 20) = false := decide_eq_false (by omega)
   have l4 : decide (i < 20) = false := decide_eq_false h20
   clear hlt hi h20
   go_wp2_with fail
   refine (awake10_any _).mono ?_
   rintro e w9 ⟨rfl, hb9⟩
   have B9 := Lib.hid (btA BB.out hb9)
   clear hb9
   go_wp2
   go_ret
   exact ⟨rfl, B9.out⟩
  have l3 : decide ((i : Int) < 20) = true := decide_eq_true (by omega)
  have l4 : decide (i < 20) = true := decide_eq_true h20
  have HI := Lib.hid (And.intro hlt h20)
  obtain ⟨b1, o1, c1, hv1, ⟨kd, nm, tn, off, ad, ak, nd, cd, nk, ck, db, ke, hK, hkd, hnm, htn, hoff, hcd, hck, hsd, hdb, hsk, hkel⟩⟩ := op_at (rd_below SLL.out BB.out) (i := i) (by have := HL.out; omega)
  obtain ⟨rfl, -, -⟩ : al = some ⟨b1, o1, none⟩ ∧ nl = L.length ∧ cl = c1 := by simpa using hv1
  obtain ⟨kk, hkk, hk9⟩ := kk_of kd hkd
  have CUT := Lib.hid (fun W => cut10_any kd nm tn off ad ak nd cd nk ck hcd hck W)
  obtain ⟨md, hmd⟩ : ∃ z, z = min nd 200 := ⟨_, rfl⟩
  obtain ⟨mk, hmk⟩ : ∃ z, z = min nk 10 := ⟨_, rfl⟩
  rw [← hmd, ← hmk] at CUT
  have WT := Lib.hid (fun W (h : Below wr.heap.size wr W) => want_any (.agg #[.int .i64 d.1, .int .i64 d.2.1, .slice aq n cq]) d kd kk nm tn off ad ak md cd mk ck db ke W (dv_below DQ.out h) (valid_sm MD.out.val) i MD.out.pn (by omega) hkd hkk hk9 hoff hnm htn (by omega) (by rw [hmd]; exact hsd W h) (by rw [hmk]; exact hsk W h) (by omega))
  have CT := Lib.hid (fun W (h : Below wr.heap.size wr W) => change_any (.agg #[.int .i64 d.1, .int .i64 d.2.1, .slice ap n cp]) d kd kk nm tn off ad ak md cd mk ck db ke W (dv_below DP.out h) (valid_sm MD.out.val) i MD.out.pn (by omega) hkd hkk hk9 hoff hnm htn (by omega) (by rw [hmd]; exact hsd W h) (by rw [hmk]; exact hsk W h) (by omega))
  have MNX := Lib.hid (fun h => op_made MD.out kk hk9 nm tn off db ke h)
  have KK := Lib.hid hK
  generalize opD d kk nm tn off db ke = DD at *
  generalize opE d kk nm tn off db = EE at *
  have P01 := Lib.hid (show (0 : Int) ≤ (i : Int) ∧ (i : Int) < (nl : Int) by omega)
  clear hv1 hK hkd hnm htn hoff hcd hck hsd hdb hsk hkel hkk hk9 hmd hmk hlt h20 hi
  go_upto_region 5 with fail
  clear l1 l2 l3 l4
  obtain ⟨p0, p1⟩ := P01.out
  go_cut [10, 11] from 22 to 68 (fun tx ty wx => ∃ (gx : Nat) (a9 : Option Addr) (n9 c9 : Nat), tx = .pointer (some ⟨gx, 0, none⟩) ∧ ty = .int .i64 (EE : Int) ∧ Hid (n9 = DD.2.2.length) ∧ Hid (wx.heap[gx]? = some (.cells #[.int .i64 DD.1, .int .i64 DD.2.1, .slice a9 n9 c9] 33 (0, 0))) ∧ Hid (wr.heap.size ≤ gx) ∧ Hid (Dv wx (.agg #[.int .i64 DD.1, .int .i64 DD.2.1, .slice a9 n9 c9]) DD) ∧ Hid (Below wr.heap.size wr wx))
  case first =>
   have HD := Lib.hid (HP.out)
   have S0 : SBx wr [(g, (.cells #[.int .i64 d.1, .int .i64 d.2.1, .slice ap n cp] 33 (0, 0)))] wr.drew := ⟨(Below.refl _ _).drew, fun p hp => by rw [List.mem_singleton.1 hp]; exact HD.out⟩
   refine wp_onlyN ?_
   refine wp_region_headsS (SBx wr [(g, (.cells #[.int .i64 d.1, .int .i64 d.2.1, .slice ap n cp] 33 (0, 0)))]) [0, 1, 2, 3, 4] 8 (by kernel_rfl) (fun _ _ _ _ _ h => h.elim) (by kernel_rfl) (by rfl) (by rfl) S0 ?_
   simp only [pickOps, List.filterMap_cons, List.filterMap_nil, List.getElem?_toArray, List.getElem?_cons_zero, List.getElem?_cons_succ]
   refine wpHeads_step (fun K hK => ?_)
   go_simp
   refine ⟨.agg #[.int .i64 d.1, .int .i64 d.2.1, .slice ap n cp], fun w' hw' => by
    obtain ⟨q0, q1, q2⟩ := box3c (hw'.box _ (List.mem_cons_self ..))
    simp [q0, q1, q2], hK _ ?_⟩
   clear hK K
   iterate 2
    refine wpHeads_step (fun K hK => ?_)
    go_simp
    refine ⟨_, fun _ _ => rfl, hK _ ?_⟩
    clear hK K
   refine wpHeads_step (fun K hK => ?_)
   go_simp
   refine ⟨.pointer (some ⟨b1, o1 + i * 6, none⟩), fun w' hw' => by go_simp, hK _ ?_⟩
   clear hK K
   refine wpHeads_step (fun K hK => ?_)
   go_simp
   refine ⟨.agg #[.int .i64 kd, .string nm, .string tn, .int .i64 off, .slice ad nd cd, .slice ak nk ck], fun w' hw' => by
    obtain ⟨q0, q1, q2, q3, q4, q5⟩ := KK.out w' hw'.bel
    simp [q0, q1, q2, q3, q4, q5], hK _ ?_⟩
   clear hK K
   refine wpHeads_nil ?_
   have SD := Lib.hid S0
   generalize wr.drew = WD at *
   clear S0 p0 p1
   refine held_two10 5 10 rfl rfl rfl rfl (by kernel_rfl) (fun K hK => ?_) (fun K hK => ?_)
   ·go_simp
    go_at_call 35
    refine (CUT.out _).mono ?_
    rintro e w20 ⟨rfl, hb20⟩
    refine hK _ _ (SD.out.below hb20) ?_
    clear hK K
    have S20 := Lib.hid (SD.out.below hb20)
    clear hb20 SD
    refine held_two10 6 10 rfl rfl rfl rfl (by kernel_rfl) (fun K hK => ?_) (fun K hK => ?_)
    ·go_simp
     go_at_call 36
     refine (CT.out _ S20.out.bel).mono ?_
     rintro e w21 ⟨⟨v5, rfl, hv5⟩, hb21⟩
     refine hK _ _ (S20.out.below hb21) ?_
     clear hK K
     have S21 := Lib.hid (S20.out.below hb21)
     obtain ⟨a9, c9, rfl, r9⟩ := dv_form hv5
     obtain ⟨-, -, hr9, -⟩ := hv5
     have HR9 := Lib.hid hr9
     obtain ⟨n9, hn9⟩ : ∃ z, z = DD.2.2.length := ⟨_, rfl⟩
     rw [← hn9] at r9 ⊢
     have R21 := Lib.hid r9
     have HN9 := Lib.hid hn9
     clear hb21 S20 r9 hr9 hn9
     refine wpAnyH_take (i := 7) (v := .tuple #[.agg #[.int .i64 DD.1, .int .i64 DD.2.1, .slice a9 n9 c9], .int .i64 (EE : Int)]) rfl (by kernel_rfl) (by kernel_rfl) (by kernel_rfl) (fun _ _ _ h => h) (Or.inl ⟨by kernel_rfl, fun w _ => by go_simp⟩) S21.out ?_
     refine wpAnyH_take (i := 8) (v := .agg #[.int .i64 DD.1, .int .i64 DD.2.1, .slice a9 n9 c9]) rfl (by kernel_rfl) (by kernel_rfl) (by kernel_rfl) (fun _ _ _ h => h) (Or.inl ⟨by kernel_rfl, fun w _ => by go_simp⟩) S21.out ?_
     refine wpAnyH_take (i := 9) (v := .int .i64 (EE : Int)) rfl (by kernel_rfl) (by kernel_rfl) (by kernel_rfl) (fun _ _ _ h => h) (Or.inl ⟨by kernel_rfl, fun w _ => by go_simp⟩) S21.out ?_
     refine held_one 10 rfl rfl (by kernel_rfl) fun K hK => ?_
     go_simp
     have hb22 := bel_al0 w21 (.cells #[.int .i64 0, .int .i64 0, .slice none 0 0] 33)
     refine hK _ _ (S21.out.below hb22) ?_
     clear hK K
     have S22 := Lib.hid (S21.out.below hb22)
     have HGX22 := Lib.hid (heap_alloc_new w21 (.cells #[.int .i64 0, .int .i64 0, .slice none 0 0] 33))
     have GNE := Lib.hid (show w21.heap.size ≠ g from by have h := lt_of_some0 (S21.out.box _ (List.mem_cons_self ..)); change g < _ at h; omega)
     have GGE := Lib.hid (show wr.heap.size ≤ w21.heap.size from S21.out.bel.size)
     have R22 := Lib.hid (rd_below R21.out hb22)
     clear hb22 S21 R21
     generalize w21.alloc (.cells #[.int .i64 0, .int .i64 0, .slice none 0 0] 33) = w22 at *
     generalize w21.heap.size = gx at *
     obtain ⟨z0, z1, z2⟩ := box3c HGX22.out
     have f0 := frozen_of_row _ gx 0 _ _ HGX22.out
     have f1 := frozen_of_row _ gx 1 _ _ HGX22.out
     have f2 := frozen_of_row _ gx 2 _ _ HGX22.out
     refine held_one 11 rfl rfl (by kernel_rfl) fun K hK => ?_
     go_simp
     refine hK _ _ (S22.out.set3 (by have := GGE.out; omega) (fun p hp => by rw [List.mem_singleton.1 hp]; exact GNE.out.symm)) ?_
     clear hK K
     refine held_one 12 rfl rfl (by kernel_rfl) fun K hK => ?_
     go_simp
     refine hK _ _ (S22.out.set3 (by have := GGE.out; omega) (fun p hp => by rw [List.mem_singleton.1 hp]; exact GNE.out.symm)) ?_
     clear hK K
     refine wpAnyH_done (by kernel_rfl) ?_ _
     unfold onlyN
     dsimp only
     clear z0 z1 z2 f0 f1 f2
     go_wp2_with fail
     go_meet
     exact ⟨gx, a9, n9, c9, rfl, rfl, HN9, Lib.hid (set3c HGX22.out), GGE, Lib.hid (dv_boxset HGX22.out ⟨_, rfl, HR9.out, R22.out⟩), Lib.hid (below_set3 S22.out.bel GGE.out)⟩
    ·go_simp
     have hb21 := bel_al0 w20 (.cells #[.int .i64 0, .int .i64 0, .slice none 0 0] 33)
     refine hK _ _ (S20.out.below hb21) ?_
     clear hK K
     have S21 := Lib.hid (S20.out.below hb21)
     have HGX21 := Lib.hid (heap_alloc_new w20 (.cells #[.int .i64 0, .int .i64 0, .slice none 0 0] 33))
     have GNE := Lib.hid (show w20.heap.size ≠ g from by have h := lt_of_some0 (S20.out.box _ (List.mem_cons_self ..)); change g < _ at h; omega)
     have GGE := Lib.hid (show wr.heap.size ≤ w20.heap.size from S20.out.bel.size)
     clear hb21 S20
     generalize w20.alloc (.cells #[.int .i64 0, .int .i64 0, .slice none 0 0] 33) = w21 at *
     generalize w20.heap.size = gx at *
     refine held_one 6 rfl rfl (by kernel_rfl) fun K hK => ?_
     go_simp
     go_at_call 36
     refine (CT.out _ S21.out.bel).mono ?_
     rintro e w22 ⟨⟨v5, rfl, hv5⟩, hb22⟩
     refine hK _ _ (S21.out.below hb22) ?_
     clear hK K
     have S22 := Lib.hid (S21.out.below hb22)
     have HGX22 := Lib.hid ((hb22.block _ (lt_of_some0 HGX21.out)).trans HGX21.out)
     obtain ⟨a9, c9, rfl, r9⟩ := dv_form hv5
     obtain ⟨-, -, hr9, -⟩ := hv5
     have HR9 := Lib.hid hr9
     obtain ⟨n9, hn9⟩ : ∃ z, z = DD.2.2.length := ⟨_, rfl⟩
     rw [← hn9] at r9 ⊢
     have R22 := Lib.hid r9
     have HN9 := Lib.hid hn9
     clear hb22 S21 r9 hr9 hn9 HGX21
     refine wpAnyH_take (i := 7) (v := .tuple #[.agg #[.int .i64 DD.1, .int .i64 DD.2.1, .slice a9 n9 c9], .int .i64 (EE : Int)]) rfl (by kernel_rfl) (by kernel_rfl) (by kernel_rfl) (fun _ _ _ h => h) (Or.inl ⟨by kernel_rfl, fun w _ => by go_simp⟩) S22.out ?_
     refine wpAnyH_take (i := 8) (v := .agg #[.int .i64 DD.1, .int .i64 DD.2.1, .slice a9 n9 c9]) rfl (by kernel_rfl) (by kernel_rfl) (by kernel_rfl) (fun _ _ _ h => h) (Or.inl ⟨by kernel_rfl, fun w _ => by go_simp⟩) S22.out ?_
     refine wpAnyH_take (i := 9) (v := .int .i64 (EE : Int)) rfl (by kernel_rfl) (by kernel_rfl) (by kernel_rfl) (fun _ _ _ h => h) (Or.inl ⟨by kernel_rfl, fun w _ => by go_simp⟩) S22.out ?_
     obtain ⟨z0, z1, z2⟩ := box3c HGX22.out
     have f0 := frozen_of_row _ gx 0 _ _ HGX22.out
     have f1 := frozen_of_row _ gx 1 _ _ HGX22.out
     have f2 := frozen_of_row _ gx 2 _ _ HGX22.out
     refine held_one 11 rfl rfl (by kernel_rfl) fun K hK => ?_
     go_simp
     refine hK _ _ (S22.out.set3 (by have := GGE.out; omega) (fun p hp => by rw [List.mem_singleton.1 hp]; exact GNE.out.symm)) ?_
     clear hK K
     refine held_one 12 rfl rfl (by kernel_rfl) fun K hK => ?_
     go_simp
     refine hK _ _ (S22.out.set3 (by have := GGE.out; omega) (fun p hp => by rw [List.mem_singleton.1 hp]; exact GNE.out.symm)) ?_
     clear hK K
     refine wpAnyH_done (by kernel_rfl) ?_ _
     unfold onlyN
     dsimp only
     clear z0 z1 z2 f0 f1 f2
     go_wp2_with fail
     go_meet
     exact ⟨gx, a9, n9, c9, rfl, rfl, HN9, Lib.hid (set3c HGX22.out), GGE, Lib.hid (dv_boxset HGX22.out ⟨_, rfl, HR9.out, R22.out⟩), Lib.hid (below_set3 S22.out.bel GGE.out)⟩
   ·go_simp
    have hb20 := bel_al0 WD (.cells #[.int .i64 0, .int .i64 0, .slice none 0 0] 33)
    refine hK _ _ (SD.out.below hb20) ?_
    clear hK K
    have S20 := Lib.hid (SD.out.below hb20)
    have HGX20 := Lib.hid (heap_alloc_new WD (.cells #[.int .i64 0, .int .i64 0, .slice none 0 0] 33))
    have GNE := Lib.hid (show WD.heap.size ≠ g from by have h := lt_of_some0 (SD.out.box _ (List.mem_cons_self ..)); change g < _ at h; omega)
    have GGE := Lib.hid (show wr.heap.size ≤ WD.heap.size from SD.out.bel.size)
    clear hb20 SD
    generalize WD.alloc (.cells #[.int .i64 0, .int .i64 0, .slice none 0 0] 33) = w20 at *
    generalize WD.heap.size = gx at *
    refine held_one 5 rfl rfl (by kernel_rfl) fun K hK => ?_
    go_simp
    go_at_call 35
    refine (CUT.out _).mono ?_
    rintro e w21 ⟨rfl, hb21⟩
    refine hK _ _ (S20.out.below hb21) ?_
    clear hK K
    have S21 := Lib.hid (S20.out.below hb21)
    have HGX21 := Lib.hid ((hb21.block _ (lt_of_some0 HGX20.out)).trans HGX20.out)
    clear hb21 S20 HGX20
    refine held_one 6 rfl rfl (by kernel_rfl) fun K hK => ?_
    go_simp
    go_at_call 36
    refine (CT.out _ S21.out.bel).mono ?_
    rintro e w22 ⟨⟨v5, rfl, hv5⟩, hb22⟩
    refine hK _ _ (S21.out.below hb22) ?_
    clear hK K
    have S22 := Lib.hid (S21.out.below hb22)
    have HGX22 := Lib.hid ((hb22.block _ (lt_of_some0 HGX21.out)).trans HGX21.out)
    obtain ⟨a9, c9, rfl, r9⟩ := dv_form hv5
    obtain ⟨-, -, hr9, -⟩ := hv5
    have HR9 := Lib.hid hr9
    obtain ⟨n9, hn9⟩ : ∃ z, z = DD.2.2.length := ⟨_, rfl⟩
    rw [← hn9] at r9 ⊢
    have R22 := Lib.hid r9
    have HN9 := Lib.hid hn9
    clear hb22 S21 r9 hr9 hn9 HGX21
    refine wpAnyH_take (i := 7) (v := .tuple #[.agg #[.int .i64 DD.1, .int .i64 DD.2.1, .slice a9 n9 c9], .int .i64 (EE : Int)]) rfl (by kernel_rfl) (by kernel_rfl) (by kernel_rfl) (fun _ _ _ h => h) (Or.inl ⟨by kernel_rfl, fun w _ => by go_simp⟩) S22.out ?_
    refine wpAnyH_take (i := 8) (v := .agg #[.int .i64 DD.1, .int .i64 DD.2.1, .slice a9 n9 c9]) rfl (by kernel_rfl) (by kernel_rfl) (by kernel_rfl) (fun _ _ _ h => h) (Or.inl ⟨by kernel_rfl, fun w _ => by go_simp⟩) S22.out ?_
    refine wpAnyH_take (i := 9) (v := .int .i64 (EE : Int)) rfl (by kernel_rfl) (by kernel_rfl) (by kernel_rfl) (fun _ _ _ h => h) (Or.inl ⟨by kernel_rfl, fun w _ => by go_simp⟩) S22.out ?_
    obtain ⟨z0, z1, z2⟩ := box3c HGX22.out
    have f0 := frozen_of_row _ gx 0 _ _ HGX22.out
    have f1 := frozen_of_row _ gx 1 _ _ HGX22.out
    have f2 := frozen_of_row _ gx 2 _ _ HGX22.out
    refine held_one 11 rfl rfl (by kernel_rfl) fun K hK => ?_
    go_simp
    refine hK _ _ (S22.out.set3 (by have := GGE.out; omega) (fun p hp => by rw [List.mem_singleton.1 hp]; exact GNE.out.symm)) ?_
    clear hK K
    refine held_one 12 rfl rfl (by kernel_rfl) fun K hK => ?_
    go_simp
    refine hK _ _ (S22.out.set3 (by have := GGE.out; omega) (fun p hp => by rw [List.mem_singleton.1 hp]; exact GNE.out.symm)) ?_
    clear hK K
    refine wpAnyH_done (by kernel_rfl) ?_ _
    unfold onlyN
    dsimp only
    clear z0 z1 z2 f0 f1 f2
    go_wp2_with fail
    go_meet
    exact ⟨gx, a9, n9, c9, rfl, rfl, HN9, Lib.hid (set3c HGX22.out), GGE, Lib.hid (dv_boxset HGX22.out ⟨_, rfl, HR9.out, R22.out⟩), Lib.hid (below_set3 S22.out.bel GGE.out)⟩
  case rest =>
   rename World => w5
   obtain ⟨gx, ax, nx, cx, rfl, rfl, HNX, HGX, HLX, DVX, BX⟩ := hcut
   have HP5 := Lib.hid ((BX.out.block _ (lt_of_some0 HP.out)).trans HP.out)
   have HQ5 := Lib.hid ((BX.out.block _ (lt_of_some0 HQ.out)).trans HQ.out)
   have LGX := Lib.hid (show g + 1 < gx from Nat.lt_of_lt_of_le (lt_of_some0 HQ.out) HLX.out)
   have DP5 := Lib.hid (dv_below DP.out BX.out)
   have DQ5 := Lib.hid (dv_below DQ.out BX.out)
   have WT5 := Lib.hid (fun W (h : Below w5.heap.size w5 W) => WT.out W (btA BX.out h))
   have KK5 := Lib.hid (fun W (h : Below w5.heap.size w5 W) => KK.out W (btA BX.out h))
   have B5 := Lib.hid (btA BB.out BX.out)
   clear p0 p1 HP HQ DP DQ WT KK HLX BB CT BX
   go_upto_region 6 with fail
   obtain ⟨p0, p1⟩ := P01.out
   go_cut [12, 13] from 22 to 68 (fun tx ty wx => ∃ (gx : Nat) (a9 : Option Addr) (n9 c9 : Nat), tx = .pointer (some ⟨gx, 0, none⟩) ∧ ty = .int .i64 (EE : Int) ∧ Hid (n9 = DD.2.2.length) ∧ Hid (wx.heap[gx]? = some (.cells #[.int .i64 DD.1, .int .i64 DD.2.1, .slice a9 n9 c9] 24 (0, 0))) ∧ Hid (w5.heap.size ≤ gx) ∧ Hid (Dv wx (.agg #[.int .i64 DD.1, .int .i64 DD.2.1, .slice a9 n9 c9]) DD) ∧ Hid (Below w5.heap.size w5 wx))
   case first =>
    have HD := Lib.hid (HQ5.out)
    have S0 : SBx w5 [(g + 1, (.cells #[.int .i64 d.1, .int .i64 d.2.1, .slice aq n cq] 24 (0, 0)))] w5.drew := ⟨(Below.refl _ _).drew, fun p hp => by rw [List.mem_singleton.1 hp]; exact HD.out⟩
    refine wp_onlyN ?_
    refine wp_region_headsS (SBx w5 [(g + 1, (.cells #[.int .i64 d.1, .int .i64 d.2.1, .slice aq n cq] 24 (0, 0)))]) [0, 1, 2, 3, 4] 8 (by kernel_rfl) (fun _ _ _ _ _ h => h.elim) (by kernel_rfl) (by rfl) (by rfl) S0 ?_
    simp only [pickOps, List.filterMap_cons, List.filterMap_nil, List.getElem?_toArray, List.getElem?_cons_zero, List.getElem?_cons_succ]
    refine wpHeads_step (fun K hK => ?_)
    go_simp
    refine ⟨.agg #[.int .i64 d.1, .int .i64 d.2.1, .slice aq n cq], fun w' hw' => by
     obtain ⟨q0, q1, q2⟩ := box3c (hw'.box _ (List.mem_cons_self ..))
     simp [q0, q1, q2], hK _ ?_⟩
    clear hK K
    iterate 2
     refine wpHeads_step (fun K hK => ?_)
     go_simp
     refine ⟨_, fun _ _ => rfl, hK _ ?_⟩
     clear hK K
    refine wpHeads_step (fun K hK => ?_)
    go_simp
    refine ⟨.pointer (some ⟨b1, o1 + i * 6, none⟩), fun w' hw' => by go_simp, hK _ ?_⟩
    clear hK K
    refine wpHeads_step (fun K hK => ?_)
    go_simp
    refine ⟨.agg #[.int .i64 kd, .string nm, .string tn, .int .i64 off, .slice ad nd cd, .slice ak nk ck], fun w' hw' => by
     obtain ⟨q0, q1, q2, q3, q4, q5⟩ := KK5.out w' hw'.bel
     simp [q0, q1, q2, q3, q4, q5], hK _ ?_⟩
    clear hK K
    refine wpHeads_nil ?_
    have SD := Lib.hid S0
    generalize w5.drew = WD at *
    clear S0 p0 p1
    refine held_two10 5 10 rfl rfl rfl rfl (by kernel_rfl) (fun K hK => ?_) (fun K hK => ?_)
    ·go_simp
     go_at_call 35
     refine (CUT.out _).mono ?_
     rintro e w20 ⟨rfl, hb20⟩
     refine hK _ _ (SD.out.below hb20) ?_
     clear hK K
     have S20 := Lib.hid (SD.out.below hb20)
     clear hb20 SD
     refine held_two10 6 10 rfl rfl rfl rfl (by kernel_rfl) (fun K hK => ?_) (fun K hK => ?_)
     ·go_simp
      go_at_call 37
      refine (WT5.out _ S20.out.bel).mono ?_
      rintro e w21 ⟨⟨v5, rfl, hv5⟩, hb21⟩
      refine hK _ _ (S20.out.below hb21) ?_
      clear hK K
      have S21 := Lib.hid (S20.out.below hb21)
      obtain ⟨a9, c9, rfl, r9⟩ := dv_form hv5
      obtain ⟨-, -, hr9, -⟩ := hv5
      have HR9 := Lib.hid hr9
      obtain ⟨n9, hn9⟩ : ∃ z, z = DD.2.2.length := ⟨_, rfl⟩
      rw [← hn9] at r9 ⊢
      have R21 := Lib.hid r9
      have HN9 := Lib.hid hn9
      clear hb21 S20 r9 hr9 hn9
      refine wpAnyH_take (i := 7) (v := .tuple #[.agg #[.int .i64 DD.1, .int .i64 DD.2.1, .slice a9 n9 c9], .int .i64 (EE : Int)]) rfl (by kernel_rfl) (by kernel_rfl) (by kernel_rfl) (fun _ _ _ h => h) (Or.inl ⟨by kernel_rfl, fun w _ => by go_simp⟩) S21.out ?_
      refine wpAnyH_take (i := 8) (v := .agg #[.int .i64 DD.1, .int .i64 DD.2.1, .slice a9 n9 c9]) rfl (by kernel_rfl) (by kernel_rfl) (by kernel_rfl) (fun _ _ _ h => h) (Or.inl ⟨by kernel_rfl, fun w _ => by go_simp⟩) S21.out ?_
      refine wpAnyH_take (i := 9) (v := .int .i64 (EE : Int)) rfl (by kernel_rfl) (by kernel_rfl) (by kernel_rfl) (fun _ _ _ h => h) (Or.inl ⟨by kernel_rfl, fun w _ => by go_simp⟩) S21.out ?_
      refine held_one 10 rfl rfl (by kernel_rfl) fun K hK => ?_
      go_simp
      have hb22 := bel_al0 w21 (.cells #[.int .i64 0, .int .i64 0, .slice none 0 0] 24)
      refine hK _ _ (S21.out.below hb22) ?_
      clear hK K
      have S22 := Lib.hid (S21.out.below hb22)
      have HGX22 := Lib.hid (heap_alloc_new w21 (.cells #[.int .i64 0, .int .i64 0, .slice none 0 0] 24))
      have GNE := Lib.hid (show w21.heap.size ≠ g + 1 from by have h := lt_of_some0 (S21.out.box _ (List.mem_cons_self ..)); change g + 1 < _ at h; omega)
      have GGE := Lib.hid (show w5.heap.size ≤ w21.heap.size from S21.out.bel.size)
      have R22 := Lib.hid (rd_below R21.out hb22)
      clear hb22 S21 R21
      generalize w21.alloc (.cells #[.int .i64 0, .int .i64 0, .slice none 0 0] 24) = w22 at *
      generalize w21.heap.size = gx at *
      obtain ⟨z0, z1, z2⟩ := box3c HGX22.out
      have f0 := frozen_of_row _ gx 0 _ _ HGX22.out
      have f1 := frozen_of_row _ gx 1 _ _ HGX22.out
      have f2 := frozen_of_row _ gx 2 _ _ HGX22.out
      refine held_one 11 rfl rfl (by kernel_rfl) fun K hK => ?_
      go_simp
      refine hK _ _ (S22.out.set3 (by have := GGE.out; omega) (fun p hp => by rw [List.mem_singleton.1 hp]; exact GNE.out.symm)) ?_
      clear hK K
      refine held_one 12 rfl rfl (by kernel_rfl) fun K hK => ?_
      go_simp
      refine hK _ _ (S22.out.set3 (by have := GGE.out; omega) (fun p hp => by rw [List.mem_singleton.1 hp]; exact GNE.out.symm)) ?_
      clear hK K
      refine wpAnyH_done (by kernel_rfl) ?_ _
      unfold onlyN
      dsimp only
      clear z0 z1 z2 f0 f1 f2
      go_wp2_with fail
      go_meet
      exact ⟨gx, a9, n9, c9, rfl, rfl, HN9, Lib.hid (set3c HGX22.out), GGE, Lib.hid (dv_boxset HGX22.out ⟨_, rfl, HR9.out, R22.out⟩), Lib.hid (below_set3 S22.out.bel GGE.out)⟩
     ·go_simp
      have hb21 := bel_al0 w20 (.cells #[.int .i64 0, .int .i64 0, .slice none 0 0] 24)
      refine hK _ _ (S20.out.below hb21) ?_
      clear hK K
      have S21 := Lib.hid (S20.out.below hb21)
      have HGX21 := Lib.hid (heap_alloc_new w20 (.cells #[.int .i64 0, .int .i64 0, .slice none 0 0] 24))
      have GNE := Lib.hid (show w20.heap.size ≠ g + 1 from by have h := lt_of_some0 (S20.out.box _ (List.mem_cons_self ..)); change g + 1 < _ at h; omega)
      have GGE := Lib.hid (show w5.heap.size ≤ w20.heap.size from S20.out.bel.size)
      clear hb21 S20
      generalize w20.alloc (.cells #[.int .i64 0, .int .i64 0, .slice none 0 0] 24) = w21 at *
      generalize w20.heap.size = gx at *
      refine held_one 6 rfl rfl (by kernel_rfl) fun K hK => ?_
      go_simp
      go_at_call 37
      refine (WT5.out _ S21.out.bel).mono ?_
      rintro e w22 ⟨⟨v5, rfl, hv5⟩, hb22⟩
      refine hK _ _ (S21.out.below hb22) ?_
      clear hK K
      have S22 := Lib.hid (S21.out.below hb22)
      have HGX22 := Lib.hid ((hb22.block _ (lt_of_some0 HGX21.out)).trans HGX21.out)
      obtain ⟨a9, c9, rfl, r9⟩ := dv_form hv5
      obtain ⟨-, -, hr9, -⟩ := hv5
      have HR9 := Lib.hid hr9
      obtain ⟨n9, hn9⟩ : ∃ z, z = DD.2.2.length := ⟨_, rfl⟩
      rw [← hn9] at r9 ⊢
      have R22 := Lib.hid r9
      have HN9 := Lib.hid hn9
      clear hb22 S21 r9 hr9 hn9 HGX21
      refine wpAnyH_take (i := 7) (v := .tuple #[.agg #[.int .i64 DD.1, .int .i64 DD.2.1, .slice a9 n9 c9], .int .i64 (EE : Int)]) rfl (by kernel_rfl) (by kernel_rfl) (by kernel_rfl) (fun _ _ _ h => h) (Or.inl ⟨by kernel_rfl, fun w _ => by go_simp⟩) S22.out ?_
      refine wpAnyH_take (i := 8) (v := .agg #[.int .i64 DD.1, .int .i64 DD.2.1, .slice a9 n9 c9]) rfl (by kernel_rfl) (by kernel_rfl) (by kernel_rfl) (fun _ _ _ h => h) (Or.inl ⟨by kernel_rfl, fun w _ => by go_simp⟩) S22.out ?_
      refine wpAnyH_take (i := 9) (v := .int .i64 (EE : Int)) rfl (by kernel_rfl) (by kernel_rfl) (by kernel_rfl) (fun _ _ _ h => h) (Or.inl ⟨by kernel_rfl, fun w _ => by go_simp⟩) S22.out ?_
      obtain ⟨z0, z1, z2⟩ := box3c HGX22.out
      have f0 := frozen_of_row _ gx 0 _ _ HGX22.out
      have f1 := frozen_of_row _ gx 1 _ _ HGX22.out
      have f2 := frozen_of_row _ gx 2 _ _ HGX22.out
      refine held_one 11 rfl rfl (by kernel_rfl) fun K hK => ?_
      go_simp
      refine hK _ _ (S22.out.set3 (by have := GGE.out; omega) (fun p hp => by rw [List.mem_singleton.1 hp]; exact GNE.out.symm)) ?_
      clear hK K
      refine held_one 12 rfl rfl (by kernel_rfl) fun K hK => ?_
      go_simp
      refine hK _ _ (S22.out.set3 (by have := GGE.out; omega) (fun p hp => by rw [List.mem_singleton.1 hp]; exact GNE.out.symm)) ?_
      clear hK K
      refine wpAnyH_done (by kernel_rfl) ?_ _
      unfold onlyN
      dsimp only
      clear z0 z1 z2 f0 f1 f2
      go_wp2_with fail
      go_meet
      exact ⟨gx, a9, n9, c9, rfl, rfl, HN9, Lib.hid (set3c HGX22.out), GGE, Lib.hid (dv_boxset HGX22.out ⟨_, rfl, HR9.out, R22.out⟩), Lib.hid (below_set3 S22.out.bel GGE.out)⟩
    ·go_simp
     have hb20 := bel_al0 WD (.cells #[.int .i64 0, .int .i64 0, .slice none 0 0] 24)
     refine hK _ _ (SD.out.below hb20) ?_
     clear hK K
     have S20 := Lib.hid (SD.out.below hb20)
     have HGX20 := Lib.hid (heap_alloc_new WD (.cells #[.int .i64 0, .int .i64 0, .slice none 0 0] 24))
     have GNE := Lib.hid (show WD.heap.size ≠ g + 1 from by have h := lt_of_some0 (SD.out.box _ (List.mem_cons_self ..)); change g + 1 < _ at h; omega)
     have GGE := Lib.hid (show w5.heap.size ≤ WD.heap.size from SD.out.bel.size)
     clear hb20 SD
     generalize WD.alloc (.cells #[.int .i64 0, .int .i64 0, .slice none 0 0] 24) = w20 at *
     generalize WD.heap.size = gx at *
     refine held_one 5 rfl rfl (by kernel_rfl) fun K hK => ?_
     go_simp
     go_at_call 35
     refine (CUT.out _).mono ?_
     rintro e w21 ⟨rfl, hb21⟩
     refine hK _ _ (S20.out.below hb21) ?_
     clear hK K
     have S21 := Lib.hid (S20.out.below hb21)
     have HGX21 := Lib.hid ((hb21.block _ (lt_of_some0 HGX20.out)).trans HGX20.out)
     clear hb21 S20 HGX20
     refine held_one 6 rfl rfl (by kernel_rfl) fun K hK => ?_
     go_simp
     go_at_call 37
     refine (WT5.out _ S21.out.bel).mono ?_
     rintro e w22 ⟨⟨v5, rfl, hv5⟩, hb22⟩
     refine hK _ _ (S21.out.below hb22) ?_
     clear hK K
     have S22 := Lib.hid (S21.out.below hb22)
     have HGX22 := Lib.hid ((hb22.block _ (lt_of_some0 HGX21.out)).trans HGX21.out)
     obtain ⟨a9, c9, rfl, r9⟩ := dv_form hv5
     obtain ⟨-, -, hr9, -⟩ := hv5
     have HR9 := Lib.hid hr9
     obtain ⟨n9, hn9⟩ : ∃ z, z = DD.2.2.length := ⟨_, rfl⟩
     rw [← hn9] at r9 ⊢
     have R22 := Lib.hid r9
     have HN9 := Lib.hid hn9
     clear hb22 S21 r9 hr9 hn9 HGX21
     refine wpAnyH_take (i := 7) (v := .tuple #[.agg #[.int .i64 DD.1, .int .i64 DD.2.1, .slice a9 n9 c9], .int .i64 (EE : Int)]) rfl (by kernel_rfl) (by kernel_rfl) (by kernel_rfl) (fun _ _ _ h => h) (Or.inl ⟨by kernel_rfl, fun w _ => by go_simp⟩) S22.out ?_
     refine wpAnyH_take (i := 8) (v := .agg #[.int .i64 DD.1, .int .i64 DD.2.1, .slice a9 n9 c9]) rfl (by kernel_rfl) (by kernel_rfl) (by kernel_rfl) (fun _ _ _ h => h) (Or.inl ⟨by kernel_rfl, fun w _ => by go_simp⟩) S22.out ?_
     refine wpAnyH_take (i := 9) (v := .int .i64 (EE : Int)) rfl (by kernel_rfl) (by kernel_rfl) (by kernel_rfl) (fun _ _ _ h => h) (Or.inl ⟨by kernel_rfl, fun w _ => by go_simp⟩) S22.out ?_
     obtain ⟨z0, z1, z2⟩ := box3c HGX22.out
     have f0 := frozen_of_row _ gx 0 _ _ HGX22.out
     have f1 := frozen_of_row _ gx 1 _ _ HGX22.out
     have f2 := frozen_of_row _ gx 2 _ _ HGX22.out
     refine held_one 11 rfl rfl (by kernel_rfl) fun K hK => ?_
     go_simp
     refine hK _ _ (S22.out.set3 (by have := GGE.out; omega) (fun p hp => by rw [List.mem_singleton.1 hp]; exact GNE.out.symm)) ?_
     clear hK K
     refine held_one 12 rfl rfl (by kernel_rfl) fun K hK => ?_
     go_simp
     refine hK _ _ (S22.out.set3 (by have := GGE.out; omega) (fun p hp => by rw [List.mem_singleton.1 hp]; exact GNE.out.symm)) ?_
     clear hK K
     refine wpAnyH_done (by kernel_rfl) ?_ _
     unfold onlyN
     dsimp only
     clear z0 z1 z2 f0 f1 f2
     go_wp2_with fail
     go_meet
     exact ⟨gx, a9, n9, c9, rfl, rfl, HN9, Lib.hid (set3c HGX22.out), GGE, Lib.hid (dv_boxset HGX22.out ⟨_, rfl, HR9.out, R22.out⟩), Lib.hid (below_set3 S22.out.bel GGE.out)⟩
   case rest =>
    rename World => w6
    obtain ⟨gy, ay, ny, cy, rfl, rfl, HNY, HGY, HLY, DVY, BY⟩ := hcut
    have HX6 := Lib.hid ((BY.out.block _ (lt_of_some0 HGX.out)).trans HGX.out)
    have HP6 := Lib.hid ((BY.out.block _ (lt_of_some0 HP5.out)).trans HP5.out)
    have HQ6 := Lib.hid ((BY.out.block _ (lt_of_some0 HQ5.out)).trans HQ5.out)
    have DP6 := Lib.hid (dv_below DP5.out BY.out)
    have DQ6 := Lib.hid (dv_below DQ5.out BY.out)
    have DX6 := Lib.hid (dv_below DVX.out BY.out)
    have LGY := Lib.hid (show g + 1 < gy from Nat.lt_of_lt_of_le (lt_of_some0 HQ5.out) HLY.out)
    have B6 := Lib.hid (btA B5.out BY.out)
    clear p0 p1 HGX HP5 HQ5 DP5 DQ5 DVX HLY B5 WT5 KK5 CUT BY P01
    rw [HNX.out] at HX6 DX6
    rw [HNY.out] at HGY DVY
    by_cases he : EE = 0
    case neg =>
     have e1 : ((EE : Int) == 0) = false := by rw [beq_eq_false_iff_ne]; omega
     have MN := Lib.hid (made_up MD.out (Nat.le_succ i))
     clear he MNX HX6 HGY DX6 DVY
     go_upto_region 11 with fail
     clear e1
     rw [HN.out] at HP6 HQ6 DP6 DQ6
     have S0 : SBx w [(g, (.cells #[.int .i64 d.1, .int .i64 d.2.1, .slice ap d.2.2.length cp] 33 (0, 0))), (g + 1, (.cells #[.int .i64 d.1, .int .i64 d.2.1, .slice aq d.2.2.length cq] 24 (0, 0)))] w6.drew := ⟨B6.out.drew, fun p hp => by
      rcases List.mem_cons.1 hp with rfl | hp
      ·exact HP6.out
      ·rw [List.mem_singleton.1 hp]; exact HQ6.out⟩
     have DPD := Lib.hid (dv_below DP6.out (Below.refl w6.heap.size w6).drew)
     have DQD := Lib.hid (dv_below DQ6.out (Below.refl w6.heap.size w6).drew)
     refine wp_onlyN ?_
     refine wp_region_headsS (SBx w [(g, (.cells #[.int .i64 d.1, .int .i64 d.2.1, .slice ap d.2.2.length cp] 33 (0, 0))), (g + 1, (.cells #[.int .i64 d.1, .int .i64 d.2.1, .slice aq d.2.2.length cq] 24 (0, 0)))]) [0, 2] 8 (by kernel_rfl) (fun _ _ _ _ _ h => h.elim) (by kernel_rfl) (by rfl) (by rfl) S0 ?_
     simp only [pickOps, List.filterMap_cons, List.filterMap_nil, List.getElem?_toArray, List.getElem?_cons_zero, List.getElem?_cons_succ]
     refine wpHeads_step (fun K hK => ?_)
     go_simp
     refine ⟨.agg #[.int .i64 d.1, .int .i64 d.2.1, .slice ap d.2.2.length cp], fun w' hw' => by
      obtain ⟨q0, q1, q2⟩ := box3c (hw'.box _ (List.mem_cons_self ..))
      simp [q0, q1, q2], hK _ ?_⟩
     clear hK K
     refine wpHeads_step (fun K hK => ?_)
     go_simp
     refine ⟨.agg #[.int .i64 d.1, .int .i64 d.2.1, .slice aq d.2.2.length cq], fun w' hw' => by
      obtain ⟨q0, q1, q2⟩ := box3c (hw'.box _ (List.mem_cons_of_mem _ (List.mem_cons_self ..)))
      simp [q0, q1, q2], hK _ ?_⟩
     clear hK K
     refine wpHeads_nil ?_
     have SD := Lib.hid S0
     generalize w6.drew = WD at *
     clear S0 HP6 HQ6 DP6 DQ6 B6
     have TD := Lib.hid (told10_any _ d WD (dv_B DPD.out) (Nat.le_trans (valid_parts MN.out.val).2.2.1 (by decide)) (fun f hf => Nat.le_trans (MN.out.pn f hf) (by have := HI.out; omega)))
     refine held_one 1 rfl rfl (by kernel_rfl) fun K hK => ?_
     go_simp
     go_at_call 20
     refine TD.out.mono ?_
     rintro e w8 ⟨⟨v8, rfl, hv8⟩, hb8⟩
     refine hK _ _ (SD.out.below hb8) ?_
     clear hK K
     have S8 := Lib.hid (SD.out.below hb8)
     have DT8 := Lib.hid (dvo_dv hv8)
     have DP8 := Lib.hid (dv_below DPD.out hb8)
     have DQ8 := Lib.hid (dv_below DQD.out hb8)
     obtain ⟨a8, c8, rfl, -⟩ := dv_form hv8
     clear hb8 hv8 TD DPD DQD SD
     have SM := Lib.hid (rsame_eq _ _ d w8 DT8.out DQ8.out)
     refine held_one 3 rfl rfl (by kernel_rfl) fun K hK => ?_
     go_simp
     go_at_call 19
     refine SM.out.mono ?_
     rintro e w9 ⟨rfl, hb9⟩
     refine hK _ _ (S8.out.below hb9) ?_
     clear hK K
     have S9 := Lib.hid (S8.out.below hb9)
     have DP9 := Lib.hid (dv_below DP8.out hb9)
     have DQ9 := Lib.hid (dv_below DQ8.out hb9)
     clear hb9 S8 DT8 DP8 DQ8 SM
     refine held_one 4 rfl rfl (by kernel_rfl) fun K hK => ?_
     go_simp
     refine hK _ _ S9.out ?_
     clear hK K
     refine held_one 5 rfl rfl (by kernel_rfl) fun K hK => ?_
     go_simp
     refine hK _ _ S9.out ?_
     clear hK K
     obtain ⟨x0, x1, x2⟩ := box3c (S9.out.box _ (List.mem_cons_self ..))
     refine held_g10 6 rfl (by kernel_rfl) (by kernel_rfl) fun K hK => ?_
     go_simp
     refine hK _ _ S9.out ?_
     clear hK K x0 x1 x2
     have PV := Lib.hid (pvalid10_any _ d w9 DP9.out (valid_sm MN.out.val))
     rw [MN.out.val] at PV
     refine held_g10 7 rfl (by kernel_rfl) (by kernel_rfl) fun K hK => ?_
     go_simp
     go_at_call 16
     refine PV.out.mono ?_
     rintro e w10 ⟨rfl, hb10⟩
     refine hK _ _ (S9.out.below hb10) ?_
     clear hK K
     have SA := Lib.hid (S9.out.below hb10)
     have DPA := Lib.hid (dv_below DP9.out hb10)
     have DQA := Lib.hid (dv_below DQ9.out hb10)
     clear hb10 S9 DP9 DQ9 PV
     refine held_g10 8 rfl (by kernel_rfl) (by kernel_rfl) fun K hK => ?_
     go_simp
     refine hK _ _ SA.out ?_
     clear hK K
     refine held_one 9 rfl rfl (by kernel_rfl) fun K hK => ?_
     go_simp
     refine hK _ _ SA.out ?_
     clear hK K
     refine wpAnyH_done (by kernel_rfl) ?_ _
     unfold onlyN
     dsimp only
     go_wp2
     go_roundw
     case rel =>
      have h1 := HI.out
      exact ⟨i + 1, by omega, by rw [EW.out], Lib.hid ⟨d, ap, cp, aq, cq, SA.out.box _ (List.mem_cons_self ..), SA.out.box _ (List.mem_cons_of_mem _ (List.mem_cons_self ..)), DPA.out, DQA.out, MN.out⟩, Lib.hid SA.out.bel⟩
     case measure =>
      have h1 := HI.out
      rw [EW.out]
      simp [intOf]; omega
    have e1 : ((EE : Int) == 0) = true := by rw [beq_iff_eq]; omega
    have MN := Lib.hid (MNX.out he)
    clear he MNX DP6 DQ6
    obtain ⟨m, hm⟩ : ∃ z, z = DD.2.2.length := ⟨_, rfl⟩
    rw [← hm] at HX6 HGY DX6 DVY
    have HM := Lib.hid hm
    clear hm
    go_upto_region 10 with fail
    clear e1
    go_cut [] from 22 to 68 (fun wx => Hid (wx.heap[g]? = some (.cells #[.int .i64 DD.1, .int .i64 DD.2.1, .slice ax m cx] 33 (0, 0))) ∧ Hid (wx.heap[g + 1]? = some (.cells #[.int .i64 DD.1, .int .i64 DD.2.1, .slice ay m cy] 24 (0, 0))) ∧ Hid (Dv wx (.agg #[.int .i64 DD.1, .int .i64 DD.2.1, .slice ax m cx]) DD) ∧ Hid (Dv wx (.agg #[.int .i64 DD.1, .int .i64 DD.2.1, .slice ay m cy]) DD) ∧ Hid (Below w.heap.size w wx))
    case first =>
     have S0 : SBx w [(gx, (.cells #[.int .i64 DD.1, .int .i64 DD.2.1, .slice ax m cx] 33 (0, 0))), (gy, (.cells #[.int .i64 DD.1, .int .i64 DD.2.1, .slice ay m cy] 24 (0, 0)))] w6.drew := ⟨B6.out.drew, fun p hp => by
      rcases List.mem_cons.1 hp with rfl | hp
      ·exact HX6.out
      ·rw [List.mem_singleton.1 hp]; exact HGY.out⟩
     refine wp_onlyN ?_
     refine wp_region_headsS (SBx w [(gx, (.cells #[.int .i64 DD.1, .int .i64 DD.2.1, .slice ax m cx] 33 (0, 0))), (gy, (.cells #[.int .i64 DD.1, .int .i64 DD.2.1, .slice ay m cy] 24 (0, 0)))]) [0, 1] 2 (by kernel_rfl) (fun _ _ _ _ _ h => h.elim) (by kernel_rfl) (by rfl) (by rfl) S0 ?_
     simp only [pickOps, List.filterMap_cons, List.filterMap_nil, List.getElem?_toArray, List.getElem?_cons_zero, List.getElem?_cons_succ]
     refine wpHeads_step (fun K hK => ?_)
     go_simp
     refine ⟨.agg #[.int .i64 DD.1, .int .i64 DD.2.1, .slice ax m cx], fun w' hw' => by
      obtain ⟨q0, q1, q2⟩ := box3c (hw'.box _ (List.mem_cons_self ..))
      simp [q0, q1, q2], hK _ ?_⟩
     clear hK K
     refine wpHeads_step (fun K hK => ?_)
     go_simp
     refine ⟨.agg #[.int .i64 DD.1, .int .i64 DD.2.1, .slice ay m cy], fun w' hw' => by
      obtain ⟨q0, q1, q2⟩ := box3c (hw'.box _ (List.mem_cons_of_mem _ (List.mem_cons_self ..)))
      simp [q0, q1, q2], hK _ ?_⟩
     clear hK K
     refine wpHeads_nil ?_
     have SD := Lib.hid S0
     have HPD : Hid (w6.drew.heap[g]? = some (.cells #[.int .i64 d.1, .int .i64 d.2.1, .slice ap n cp] 33 (0, 0))) := Lib.hid HP6.out
     have HQD : Hid (w6.drew.heap[g + 1]? = some (.cells #[.int .i64 d.1, .int .i64 d.2.1, .slice aq n cq] 24 (0, 0))) := Lib.hid HQ6.out
     have DXD := Lib.hid (dv_below DX6.out (Below.refl w6.heap.size w6).drew)
     have DYD := Lib.hid (dv_below DVY.out (Below.refl w6.heap.size w6).drew)
     generalize w6.drew = WD at *
     clear S0
     refine held_one 2 rfl rfl (by kernel_rfl) fun K hK => ?_
     obtain ⟨z0, z1, z2⟩ := box3c HPD.out
     have f0 := frozen_of_row _ (g) 0 _ _ HPD.out
     have f1 := frozen_of_row _ (g) 1 _ _ HPD.out
     have f2 := frozen_of_row _ (g) 2 _ _ HPD.out
     go_simp
     refine hK _ _ (SD.out.set3 (by have := LG.out; omega) (fun p hp => by
      rcases List.mem_cons.1 hp with rfl | hp
      ·show gx ≠ g; have := LGX.out; omega
      ·rw [List.mem_singleton.1 hp]; show gy ≠ g; have := LGY.out; omega)) ?_
     clear hK K z0 z1 z2 f0 f1 f2
     have SE := Lib.hid (SD.out.set3 (g := g) (k := .int .i64 DD.1) (l := .int .i64 DD.2.1) (m := .slice ax m cx) (by have := LG.out; omega) (fun p hp => by
      rcases List.mem_cons.1 hp with rfl | hp
      ·show gx ≠ g; have := LGX.out; omega
      ·rw [List.mem_singleton.1 hp]; show gy ≠ g; have := LGY.out; omega))
     have H1 := Lib.hid (set3c (k := .int .i64 DD.1) (l := .int .i64 DD.2.1) (m := .slice ax m cx) HPD.out)
     have H2 := Lib.hid ((set3_other (k := .int .i64 DD.1) (l := .int .i64 DD.2.1) (m := .slice ax m cx) (by omega : g + 1 ≠ g)).trans HQD.out)
     have DXE := Lib.hid (dv_boxset (x' := DD.1) (y' := DD.2.1) (a' := ax) (n' := m) (c' := cx) HPD.out DXD.out)
     have DYE := Lib.hid (dv_boxset (x' := DD.1) (y' := DD.2.1) (a' := ax) (n' := m) (c' := cx) HPD.out DYD.out)
     clear SD HPD HQD DXD DYD
     generalize ((WD.setCell ⟨g, 0, none⟩ (.int .i64 DD.1)).setCell ⟨g, 1, none⟩ (.int .i64 DD.2.1)).setCell ⟨g, 2, none⟩ (.slice ax m cx) = WE at *
     obtain ⟨z0, z1, z2⟩ := box3c H2.out
     have f0 := frozen_of_row _ (g + 1) 0 _ _ H2.out
     have f1 := frozen_of_row _ (g + 1) 1 _ _ H2.out
     have f2 := frozen_of_row _ (g + 1) 2 _ _ H2.out
     refine held_one 3 rfl rfl (by kernel_rfl) fun K hK => ?_
     go_simp
     refine hK _ _ (SE.out.set3 (by have := LG.out; omega) (fun p hp => by
      rcases List.mem_cons.1 hp with rfl | hp
      ·show gx ≠ g + 1; have := LGX.out; omega
      ·rw [List.mem_singleton.1 hp]; show gy ≠ g + 1; have := LGY.out; omega)) ?_
     clear hK K z0 z1 z2 f0 f1 f2
     have B7 := Lib.hid (SE.out.set3 (g := g + 1) (k := .int .i64 DD.1) (l := .int .i64 DD.2.1) (m := .slice ay m cy) (by have := LG.out; omega) (fun p hp => by
      rcases List.mem_cons.1 hp with rfl | hp
      ·show gx ≠ g + 1; have := LGX.out; omega
      ·rw [List.mem_singleton.1 hp]; show gy ≠ g + 1; have := LGY.out; omega))
     have H3 := Lib.hid (set3c (k := .int .i64 DD.1) (l := .int .i64 DD.2.1) (m := .slice ay m cy) H2.out)
     have H4 := Lib.hid ((set3_other (k := .int .i64 DD.1) (l := .int .i64 DD.2.1) (m := .slice ay m cy) (by omega : g ≠ g + 1)).trans H1.out)
     have DXF := Lib.hid (dv_boxset (x' := DD.1) (y' := DD.2.1) (a' := ay) (n' := m) (c' := cy) H2.out DXE.out)
     have DYF := Lib.hid (dv_boxset (x' := DD.1) (y' := DD.2.1) (a' := ay) (n' := m) (c' := cy) H2.out DYE.out)
     refine wpAnyH_done (by kernel_rfl) ?_ _
     unfold onlyN
     dsimp only
     go_wp2_with fail
     go_meet
     exact ⟨H4, H3, DXF, DYF, Lib.hid B7.out.bel⟩
    case rest =>
     rename World => w7
     obtain ⟨HP7, HQ7, DP7, DQ7, B7⟩ := hcut
     clear HX6 HGY DX6 DVY HP6 HQ6 B6
     rw [HM.out] at HP7 HQ7 DP7 DQ7
     go_upto_region 11 with fail
     have S0 : SBx w [(g, (.cells #[.int .i64 DD.1, .int .i64 DD.2.1, .slice ax DD.2.2.length cx] 33 (0, 0))), (g + 1, (.cells #[.int .i64 DD.1, .int .i64 DD.2.1, .slice ay DD.2.2.length cy] 24 (0, 0)))] w7.drew := ⟨B7.out.drew, fun p hp => by
      rcases List.mem_cons.1 hp with rfl | hp
      ·exact HP7.out
      ·rw [List.mem_singleton.1 hp]; exact HQ7.out⟩
     have DPD := Lib.hid (dv_below DP7.out (Below.refl w7.heap.size w7).drew)
     have DQD := Lib.hid (dv_below DQ7.out (Below.refl w7.heap.size w7).drew)
     refine wp_onlyN ?_
     refine wp_region_headsS (SBx w [(g, (.cells #[.int .i64 DD.1, .int .i64 DD.2.1, .slice ax DD.2.2.length cx] 33 (0, 0))), (g + 1, (.cells #[.int .i64 DD.1, .int .i64 DD.2.1, .slice ay DD.2.2.length cy] 24 (0, 0)))]) [0, 2] 8 (by kernel_rfl) (fun _ _ _ _ _ h => h.elim) (by kernel_rfl) (by rfl) (by rfl) S0 ?_
     simp only [pickOps, List.filterMap_cons, List.filterMap_nil, List.getElem?_toArray, List.getElem?_cons_zero, List.getElem?_cons_succ]
     refine wpHeads_step (fun K hK => ?_)
     go_simp
     refine ⟨.agg #[.int .i64 DD.1, .int .i64 DD.2.1, .slice ax DD.2.2.length cx], fun w' hw' => by
      obtain ⟨q0, q1, q2⟩ := box3c (hw'.box _ (List.mem_cons_self ..))
      simp [q0, q1, q2], hK _ ?_⟩
     clear hK K
     refine wpHeads_step (fun K hK => ?_)
     go_simp
     refine ⟨.agg #[.int .i64 DD.1, .int .i64 DD.2.1, .slice ay DD.2.2.length cy], fun w' hw' => by
      obtain ⟨q0, q1, q2⟩ := box3c (hw'.box _ (List.mem_cons_of_mem _ (List.mem_cons_self ..)))
      simp [q0, q1, q2], hK _ ?_⟩
     clear hK K
     refine wpHeads_nil ?_
     have SD := Lib.hid S0
     generalize w7.drew = WD at *
     clear S0 HP7 HQ7 DP7 DQ7 B7
     have TD := Lib.hid (told10_any _ DD WD (dv_B DPD.out) (Nat.le_trans (valid_parts MN.out.val).2.2.1 (by decide)) (fun f hf => Nat.le_trans (MN.out.pn f hf) (by have := HI.out; omega)))
     refine held_one 1 rfl rfl (by kernel_rfl) fun K hK => ?_
     go_simp
     go_at_call 20
     refine TD.out.mono ?_
     rintro e w8 ⟨⟨v8, rfl, hv8⟩, hb8⟩
     refine hK _ _ (SD.out.below hb8) ?_
     clear hK K
     have S8 := Lib.hid (SD.out.below hb8)
     have DT8 := Lib.hid (dvo_dv hv8)
     have DP8 := Lib.hid (dv_below DPD.out hb8)
     have DQ8 := Lib.hid (dv_below DQD.out hb8)
     obtain ⟨a8, c8, rfl, -⟩ := dv_form hv8
     clear hb8 hv8 TD DPD DQD SD
     have SM := Lib.hid (rsame_eq _ _ DD w8 DT8.out DQ8.out)
     refine held_one 3 rfl rfl (by kernel_rfl) fun K hK => ?_
     go_simp
     go_at_call 19
     refine SM.out.mono ?_
     rintro e w9 ⟨rfl, hb9⟩
     refine hK _ _ (S8.out.below hb9) ?_
     clear hK K
     have S9 := Lib.hid (S8.out.below hb9)
     have DP9 := Lib.hid (dv_below DP8.out hb9)
     have DQ9 := Lib.hid (dv_below DQ8.out hb9)
     clear hb9 S8 DT8 DP8 DQ8 SM
     refine held_one 4 rfl rfl (by kernel_rfl) fun K hK => ?_
     go_simp
     refine hK _ _ S9.out ?_
     clear hK K
     refine held_one 5 rfl rfl (by kernel_rfl) fun K hK => ?_
     go_simp
     refine hK _ _ S9.out ?_
     clear hK K
     obtain ⟨x0, x1, x2⟩ := box3c (S9.out.box _ (List.mem_cons_self ..))
     refine held_g10 6 rfl (by kernel_rfl) (by kernel_rfl) fun K hK => ?_
     go_simp
     refine hK _ _ S9.out ?_
     clear hK K x0 x1 x2
     have PV := Lib.hid (pvalid10_any _ DD w9 DP9.out (valid_sm MN.out.val))
     rw [MN.out.val] at PV
     refine held_g10 7 rfl (by kernel_rfl) (by kernel_rfl) fun K hK => ?_
     go_simp
     go_at_call 16
     refine PV.out.mono ?_
     rintro e w10 ⟨rfl, hb10⟩
     refine hK _ _ (S9.out.below hb10) ?_
     clear hK K
     have SA := Lib.hid (S9.out.below hb10)
     have DPA := Lib.hid (dv_below DP9.out hb10)
     have DQA := Lib.hid (dv_below DQ9.out hb10)
     clear hb10 S9 DP9 DQ9 PV
     refine held_g10 8 rfl (by kernel_rfl) (by kernel_rfl) fun K hK => ?_
     go_simp
     refine hK _ _ SA.out ?_
     clear hK K
     refine held_one 9 rfl rfl (by kernel_rfl) fun K hK => ?_
     go_simp
     refine hK _ _ SA.out ?_
     clear hK K
     refine wpAnyH_done (by kernel_rfl) ?_ _
     unfold onlyN
     dsimp only
     go_wp2
     go_roundw
     case rel =>
      have h1 := HI.out
      exact ⟨i + 1, by omega, by rw [EW.out], Lib.hid ⟨DD, ax, cx, ay, cy, SA.out.box _ (List.mem_cons_self ..), SA.out.box _ (List.mem_cons_of_mem _ (List.mem_cons_self ..)), DPA.out, DQA.out, MN.out⟩, Lib.hid SA.out.bel⟩
     case measure =>
      have h1 := HI.out
      rw [EW.out]
      simp [intOf]; omega
end Go.Proofs.Ytecneepgmpoepaa.Gf
