/- What is proved here: the law DiskValid answers true. No condition. -/
import Derived.Test.YtecneepgmpoepaaN10
namespace Go.Proofs.Ytecneepgmpoepaa.Gf
open Go Go.Joins Go.ChangeShapes Go.WideShapes Go.ChangeAt Go.RowKit Go.Deep Go.Proofs.Ytecneepgmpoepaa.By Go.Proofs.Ytecneepgmpoepaa.Qt

theorem held_gv {P : Program} {ops : Array Oper} {md : Region.Mode} {Q : Exit → Act → World → Prop} {S : World → Prop} {fuel : Nat} {listed : Array Bool} {a : Act} {w : World} (i : Nat) {oi : Oper} (hi : ops[i]? = some oi) (hg : Region.wanted oi (yielded ops a.tmps) = true) (hr : Region.ready md ops listed = [i])
    (h : ∀ K : Act → World → Prop, (∀ a' w', S w' → wpAnyH P md ops Q S fuel (listed.setIfInBounds i true) a' w' → K a' w') → oi.wp P a w K Q) : wpAnyH P md ops Q S (fuel + 1) listed a w := by
  refine wpAnyH_all hr (by simp) fun j hj => ?_
  obtain rfl : j = i := by simpa using hj
  unfold wpOp
  simp only [hi]
  rw [if_pos hg]
  exact Or.inl (h _ fun a' w' h1 h2 => ⟨h1, h2⟩)
theorem dv_BV {w : World} {v : Value} {d : Dk} (h : Dv w v d) : DvB (fun _ => True) w v d := h
/-- Two small disks in a row. -/
def Arr2 (W : World) (b o : Nat) : Prop := ∀ j, j < 2 → ∃ d, DAt W b (o + j * 3) d ∧ Ltd d
theorem arr2_below {W W' : World} {b o : Nat} (h : Arr2 W b o) (hB : Below W.heap.size W W') : Arr2 W' b o := fun j hj => by
  obtain ⟨d, ⟨a, c, h0, h1, h2, h3⟩, h4⟩ := h j hj
  exact ⟨d, ⟨a, c, (hB.cell (block_lt_of_cell h0)).trans h0, (hB.cell (block_lt_of_cell h1)).trans h1, (hB.cell (block_lt_of_cell h2)).trans h2, dv_below h3 hB⟩, h4⟩
theorem arr2_mk {W : World} {b : Nat} {T : TypeId} {d0 d1 : Dk} {a0 a1 : Option Addr} {n0 n1 c0 c1 : Nat} (h : W.heap[b]? = some (.cells #[.int .i64 d0.1, .int .i64 d0.2.1, .slice a0 n0 c0, .int .i64 d1.1, .int .i64 d1.2.1, .slice a1 n1 c1] T (0, 0)))
    (e0 : n0 = d0.2.2.length) (e1 : n1 = d1.2.2.length)
    (h0 : Dv W (.agg #[.int .i64 d0.1, .int .i64 d0.2.1, .slice a0 n0 c0]) d0) (h1 : Dv W (.agg #[.int .i64 d1.1, .int .i64 d1.2.1, .slice a1 n1 c1]) d1)
    (l0 : Ltd d0) (l1 : Ltd d1) : Arr2 W b 0 := by
  subst e0 e1
  intro j hj
  obtain rfl | rfl : j = 0 ∨ j = 1 := by omega
  · exact ⟨d0, ⟨a0, c0, cell_of_row W b 0 _ _ _ h, cell_of_row W b 1 _ _ _ h, cell_of_row W b 2 _ _ _ h, h0⟩, l0⟩
  · exact ⟨d1, ⟨a1, c1, cell_of_row W b 3 _ _ _ h, cell_of_row W b 4 _ _ _ h, cell_of_row W b 5 _ _ _ h, h1⟩, l1⟩
set_option maxRecDepth 100000 in
set_option maxHeartbeats 25600000 in
theorem valid_any (vr : Value) (raw : Dk) (limit left : Int) (s : ByteArray) (vl : Value) (L : List Opn) (w : World) (hraw : Dv w vr raw) (hlim : -9223372036854775808 ≤ limit ∧ limit ≤ 9223372036854775807) (hleft : -9223372036854775808 ≤ left ∧ left ≤ 9223372036854775807) (hs : s.size ≤ maxLen) (sl : Rd (fun _ => True) w (.sl tyOp) [vl] L) : Calls Try.prog 3 #[vr, .int .i64 limit, .int .i64 left, .string s, vl] w fun e w' => e = .returned (.bool true) ∧ Below w.heap.size w w' := by
  have HLL := Lib.hid (And.intro hlim hleft)
  have HS := Lib.hid hs
  have RAW := Lib.hid hraw
  obtain ⟨ar, cr, rfl, -⟩ := dv_form (dv_BV hraw)
  obtain ⟨nr, hnr⟩ : ∃ z, z = raw.2.2.length := ⟨_, rfl⟩
  rw [← hnr] at RAW ⊢
  have HNR := Lib.hid hnr
  have SLL := Lib.hid sl
  obtain ⟨al, cl, rfl, -, -⟩ := rd_sl sl
  obtain ⟨nl, hnl⟩ : ∃ z, z = L.length := ⟨_, rfl⟩
  rw [← hnl] at SLL ⊢
  clear sl hnl hlim hleft hs hraw hnr
  have BX := Lib.hid (bel_al0 w (.cells #[.int .i64 raw.1, .int .i64 raw.2.1, .slice ar nr cr] 24))
  have HR1 := Lib.hid (heap_alloc_new w (.cells #[.int .i64 raw.1, .int .i64 raw.2.1, .slice ar nr cr] 24))
  go_enter Try.func3, Try.ntmps3
  go_upto_region 1 with fail
  generalize w.alloc (.cells #[.int .i64 raw.1, .int .i64 raw.2.1, .slice ar nr cr] 24) = W1 at *
  have DR1 := Lib.hid (dv_below RAW.out BX.out)
  obtain ⟨x0, x1, x2⟩ := box3c HR1.out
  go_wp2_with fail
  clear x0 x1 x2
  refine (light10_any _ raw W1 DR1.out).mono ?_
  rintro e w2 ⟨⟨q, rfl, hq⟩, hb2⟩
  have HR2 := Lib.hid ((hb2.block _ (lt_of_some0 HR1.out)).trans HR1.out)
  have B2 := Lib.hid (btA BX.out hb2)
  clear hb2 HR1 BX DR1
  cases q
  case false =>
    clear hq
    go_wp2_with fail
    refine (awake10_any _).mono ?_
    rintro e w9 ⟨rfl, hb9⟩
    have B9 := Lib.hid (btA B2.out hb9)
    clear hb9
    go_wp2
    go_ret
    exact ⟨rfl, B9.out⟩
  have LT := Lib.hid (lt_ltd (hq rfl))
  clear hq
  by_cases h200 : 200 < s.size
  case pos =>
    have l1 : decide ((200 : Int) < (s.size : Int)) = true := decide_eq_true (by omega)
    have l2 : decide (200 < s.size) = true := decide_eq_true h200
    clear h200
    go_wp2_with fail
    refine (awake10_any _).mono ?_
    rintro e w9 ⟨rfl, hb9⟩
    have B9 := Lib.hid (btA B2.out hb9)
    clear hb9
    go_wp2
    go_ret
    exact ⟨rfl, B9.out⟩
  have l1 : decide ((200 : Int) < (s.size : Int)) = false := decide_eq_false (by omega)
  have l2 : decide (200 < s.size) = false := decide_eq_false h200
  clear h200
  go_upto_region 3 with fail
  clear l1 l2
  go_cut [27, 28, 29] from 22 to 29 (fun ts tm ti wx => ∃ gb ob, ts = .slice (some ⟨gb, ob, none⟩) 2 2 ∧ tm = .int .i64 2 ∧ ti = .int .i64 0 ∧ Hid (Arr2 wx gb ob) ∧ Hid (Below w.heap.size w wx))
  case first =>
    have S0 : SBx w [(w.heap.size, (.cells #[.int .i64 raw.1, .int .i64 raw.2.1, .slice ar nr cr] 24 (0, 0)))] w2.drew := ⟨B2.out.drew, fun p hp => by rw [List.mem_singleton.1 hp]; exact HR2.out⟩
    refine wp_onlyN ?_
    refine wp_region_headsS (SBx w [(w.heap.size, (.cells #[.int .i64 raw.1, .int .i64 raw.2.1, .slice ar nr cr] 24 (0, 0)))]) [0, 1, 2, 3, 7] 3 (by kernel_rfl) (fun _ _ _ _ _ h => h.elim) (by kernel_rfl) (by rfl) (by rfl) S0 ?_
    simp only [pickOps, List.filterMap_cons, List.filterMap_nil, List.getElem?_toArray, List.getElem?_cons_zero, List.getElem?_cons_succ]
    refine wpHeads_step (fun K hK => ?_)
    go_simp
    refine ⟨.agg #[.int .i64 raw.1, .int .i64 raw.2.1, .slice ar nr cr], fun w' hw' => by
      obtain ⟨q0, q1, q2⟩ := box3c (hw'.box _ (List.mem_cons_self ..))
      simp [q0, q1, q2], hK _ ?_⟩
    clear hK K
    iterate 4
      refine wpHeads_step (fun K hK => ?_)
      go_simp
      refine ⟨_, fun _ _ => rfl, hK _ ?_⟩
      clear hK K
    refine wpHeads_nil ?_
    have SD := Lib.hid S0
    generalize w2.drew = WD at *
    clear S0
    refine held_one 4 rfl rfl (by kernel_rfl) fun K hK => ?_
    go_simp
    go_at_call 15
    refine (made10_any limit left (.slice al nl cl) L WD HLL.out.1 HLL.out.2 (rd_below SLL.out SD.out.bel)).mono ?_
    rintro e w21 ⟨⟨v1, d1, rfl, hm, hv⟩, hb⟩
    refine hK _ _ (SD.out.below hb) ?_
    clear hK K
    have S21 := Lib.hid (SD.out.below hb)
    have Ld1 := Lib.hid (made_ltd hm)
    have V1 := Lib.hid hv
    obtain ⟨ad1, cd1, rfl, -⟩ := dv_form (dv_BV hv)
    obtain ⟨nd1, hn⟩ : ∃ z, z = d1.2.2.length := ⟨_, rfl⟩
    rw [← hn] at V1 ⊢
    have Nd1 := Lib.hid hn
    clear hm hv hn hb SD
    have V0 := Lib.hid (dv_below RAW.out S21.out.bel)
    refine held_one 5 rfl rfl (by kernel_rfl) fun K hK => ?_
    go_simp
    have qb := bel_al0 w21 (.cells #[.int .i64 raw.1, .int .i64 raw.2.1, .slice ar nr cr, .int .i64 d1.1, .int .i64 d1.2.1, .slice ad1 nd1 cd1] 24)
    refine hK _ _ (S21.out.below qb) ?_
    clear hK K
    have S22 := Lib.hid (S21.out.below qb)
    have HB := Lib.hid (heap_alloc_new w21 (.cells #[.int .i64 raw.1, .int .i64 raw.2.1, .slice ar nr cr, .int .i64 d1.1, .int .i64 d1.2.1, .slice ad1 nd1 cd1] 24))
    have AR := Lib.hid (arr2_mk HB.out HNR.out Nd1.out (dv_below V0.out qb) (dv_below V1.out qb) LT.out Ld1.out)
    clear qb S21 V0 V1 HB Nd1 Ld1
    generalize w21.alloc (.cells #[.int .i64 raw.1, .int .i64 raw.2.1, .slice ar nr cr, .int .i64 d1.1, .int .i64 d1.2.1, .slice ad1 nd1 cd1] 24) = w22 at *
    generalize w21.heap.size = gb at *
    refine held_one 6 rfl rfl (by kernel_rfl) fun K hK => ?_
    go_simp
    refine hK _ _ S22.out ?_
    clear hK K
    refine wpAnyH_done (by kernel_rfl) ?_ _
    unfold onlyN
    dsimp only
    go_wp2_with fail
    go_meet
    exact ⟨gb, 0, rfl, rfl, rfl, AR, Lib.hid S22.out.bel⟩
  case rest =>
    rename World => w5
    obtain ⟨gb, ob, rfl, rfl, rfl, AR5, B5⟩ := hcut
    clear HR2 B2 RAW HNR LT
    go_wp2_with fail
    go_loopw [29] (fun t29 wr => ∃ i : Nat, i ≤ 2 ∧ t29 = .int .i64 (i : Int) ∧ Hid (Arr2 wr gb ob) ∧ Hid (Below w.heap.size w wr)) (fun t _ => 2 - (intOf t).toNat)
    case atStart => exact ⟨0, by omega, rfl, AR5, B5⟩
    case round =>
      clear AR5 B5
      obtain ⟨i, hi, rfl, AR, BB⟩ := hrel
      have EW := Lib.hid (show wrap64 ((i : Int) + 1) = ((i + 1 : Nat) : Int) by unfold wrap64; omega)
      by_cases hlt : i < 2
      case neg =>
        have l1 : decide ((i : Int) < 2) = false := decide_eq_false (by omega)
        have l2 : decide (i < 2) = false := decide_eq_false hlt
        clear hlt hi
        go_wp2_with fail
        refine (pname_any s HS.out wr).mono ?_
        rintro e w9 ⟨rfl, rfl⟩
        go_wp2_with fail
        refine (rname_any s HS.out wr).mono ?_
        rintro e w9 ⟨rfl, rfl⟩
        obtain ⟨nb, hnb⟩ : ∃ z, z = nameB s := ⟨_, rfl⟩
        rw [← hnb]
        clear hnb
        have eb : (nb == nb) = true := by simp
        go_wp2_with fail
        clear eb
        refine (pnew_any limit HLL.out.1 (fun _ => True) wr).mono ?_
        rintro e wa ⟨⟨v1, rfl, hv1⟩, hb1⟩
        have TD := Lib.hid (told10_any v1 (newD limit) wa hv1 (by show (0 : Nat) ≤ 1000; omega) (new_pn limit 100000))
        obtain ⟨a1, c1, rfl, -⟩ := dv_form hv1
        obtain ⟨n1, hn1⟩ : ∃ z, z = (newD limit).2.2.length := ⟨_, rfl⟩
        rw [← hn1] at TD ⊢
        have B1 := Lib.hid (btA BB.out hb1)
        clear hb1 hv1 hn1
        go_wp2_with fail
        refine TD.out.mono ?_
        rintro e wb ⟨⟨v2, rfl, hv2⟩, hb2⟩
        have V2 := Lib.hid (dvB_dv hv2)
        obtain ⟨a2, c2, rfl, -⟩ := dv_form hv2
        obtain ⟨n2, hn2⟩ : ∃ z, z = (newD limit).2.2.length := ⟨_, rfl⟩
        rw [← hn2] at V2 ⊢
        have B2 := Lib.hid (btA B1.out hb2)
        clear hb2 hv2 TD B1 hn2
        go_wp2_with fail
        refine (rnew_any limit HLL.out.1 (fun _ => True) wb).mono ?_
        rintro e wc ⟨⟨v3, rfl, hv3⟩, hb3⟩
        have SM := Lib.hid (rsame_eq _ _ (newD limit) wc (dv_below V2.out hb3) (dvB_dv hv3))
        obtain ⟨a3, c3, rfl, -⟩ := dv_form hv3
        obtain ⟨n3, hn3⟩ : ∃ z, z = (newD limit).2.2.length := ⟨_, rfl⟩
        rw [← hn3] at SM ⊢
        have B3 := Lib.hid (btA B2.out hb3)
        clear hb3 hv3 V2 B2 hn3
        go_wp2_with fail
        refine SM.out.mono ?_
        rintro e wd ⟨rfl, hb4⟩
        have B4 := Lib.hid (btA B3.out hb4)
        clear hb4 SM B3
        go_wp2_with fail
        refine (awake10_any _).mono ?_
        rintro e w9 ⟨rfl, hb9⟩
        have B9 := Lib.hid (btA B4.out hb9)
        clear hb9
        go_wp2
        go_ret
        exact ⟨rfl, B9.out⟩
      have l1 : decide ((i : Int) < 2) = true := decide_eq_true (by omega)
      have l2 : decide (i < 2) = true := decide_eq_true hlt
      have HI := Lib.hid hlt
      obtain ⟨d, ⟨a, c, x0, x1, x2, hdv⟩, hld⟩ := AR.out i hlt
      have LD := Lib.hid hld
      obtain ⟨n, hn⟩ : ∃ z, z = d.2.2.length := ⟨_, rfl⟩
      rw [← hn] at x2 hdv
      have DD0 := Lib.hid hdv
      have p0 : (0 : Int) ≤ (i : Int) := by omega
      have p1 : (i : Int) < 2 := by omega
      clear hdv hld hn hlt hi
      go_upto_region 6 with fail
      clear x0 x1 x2 p0 p1 l1 l2
      have q7 := bel_al0 wr (.cells #[.int .i64 d.1, .int .i64 d.2.1, .slice a n c] 24)
      have HX7 := Lib.hid (heap_alloc_new wr (.cells #[.int .i64 d.1, .int .i64 d.2.1, .slice a n c] 24))
      have AR7 := Lib.hid (arr2_below AR.out q7)
      have DD7 := Lib.hid (dv_below DD0.out q7)
      have B7 := Lib.hid (btA BB.out q7)
      clear q7 AR DD0 BB
      generalize wr.alloc (.cells #[.int .i64 d.1, .int .i64 d.2.1, .slice a n c] 24) = W7 at *
      generalize wr.heap.size = gx at *
      obtain ⟨vb, hvb⟩ : ∃ z, z = validB d := ⟨_, rfl⟩
      have HVB := Lib.hid hvb
      clear hvb
      have e0 : (vb != vb) = false := by simp
      have S0 : SBx W7 [(gx, (.cells #[.int .i64 d.1, .int .i64 d.2.1, .slice a n c] 24 (0, 0)))] W7.drew := ⟨(Below.refl _ _).drew, fun p hp => by rw [List.mem_singleton.1 hp]; exact HX7.out⟩
      refine wp_onlyN ?_
      refine wp_region_headsS (SBx W7 [(gx, (.cells #[.int .i64 d.1, .int .i64 d.2.1, .slice a n c] 24 (0, 0)))]) [0, 3] 16 (by kernel_rfl) (fun _ _ _ _ _ h => h.elim) (by kernel_rfl) (by rfl) (by rfl) S0 ?_
      simp only [pickOps, List.filterMap_cons, List.filterMap_nil, List.getElem?_toArray, List.getElem?_cons_zero, List.getElem?_cons_succ]
      iterate 2
        refine wpHeads_step (fun K hK => ?_)
        go_simp
        refine ⟨.agg #[.int .i64 d.1, .int .i64 d.2.1, .slice a n c], fun w' hw' => by
          obtain ⟨q0, q1, q2⟩ := box3c (hw'.box _ (List.mem_cons_self ..))
          simp [q0, q1, q2], hK _ ?_⟩
        clear hK K
      refine wpHeads_nil ?_
      have SD := Lib.hid S0
      generalize W7.drew = WD at *
      clear S0
      refine held_one 1 rfl rfl (by kernel_rfl) fun K hK => ?_
      go_simp
      go_at_call 17
      refine (given10_any _ d WD (dv_BV (dv_below DD7.out SD.out.bel)) (by have := LD.out.len; omega) (fun f hf => Nat.le_trans (LD.out.pn f hf) (by decide))).mono ?_
      rintro e wA ⟨⟨vg, rfl, hvg⟩, hb⟩
      refine hK _ _ (SD.out.below hb) ?_
      clear hK K
      have SA := Lib.hid (SD.out.below hb)
      have PV := Lib.hid (pvalid10_any vg d wA (dvB_dv hvg) LD.out.sm)
      rw [← HVB.out] at PV
      clear hb SD hvg
      refine held_one 2 rfl rfl (by kernel_rfl) fun K hK => ?_
      go_simp
      go_at_call 16
      refine (PV.out).mono ?_
      rintro e wB ⟨rfl, hb⟩
      refine hK _ _ (SA.out.below hb) ?_
      clear hK K
      have SB := Lib.hid (SA.out.below hb)
      clear hb SA PV
      have RV := Lib.hid (rvalid10_any _ d wB (dv_below DD7.out SB.out.bel))
      rw [← HVB.out] at RV
      refine held_one 4 rfl rfl (by kernel_rfl) fun K hK => ?_
      go_simp
      go_at_call 18
      refine (RV.out).mono ?_
      rintro e wC ⟨rfl, hb⟩
      refine hK _ _ (SB.out.below hb) ?_
      clear hK K
      have SC := Lib.hid (SB.out.below hb)
      clear hb SB RV
      refine held_one 5 rfl rfl (by kernel_rfl) fun K hK => ?_
      go_simp
      refine hK _ _ SC.out ?_
      clear hK K
      refine held_one 6 rfl rfl (by kernel_rfl) fun K hK => ?_
      go_simp
      refine hK _ _ SC.out ?_
      clear hK K
      refine wpAnyH_take (i := 7) (v := .agg #[.int .i64 d.1, .int .i64 d.2.1, .slice a n c]) rfl (by kernel_rfl) (by kernel_rfl) (by kernel_rfl) (fun _ _ _ h => h) (Or.inl ⟨by kernel_rfl, fun w' hw' => by
        obtain ⟨q0, q1, q2⟩ := box3c (hw'.box _ (List.mem_cons_self ..))
        go_simp⟩) SC.out ?_
      refine wpAnyH_take (i := 9) (v := .int .i64 left) rfl (by kernel_rfl) (by kernel_rfl) (by kernel_rfl) (fun _ _ _ h => h) (Or.inl ⟨by kernel_rfl, fun w' hw' => by go_simp⟩) SC.out ?_
      refine wpAnyH_take (i := 12) (v := .agg #[.int .i64 d.1, .int .i64 d.2.1, .slice a n c]) rfl (by kernel_rfl) (by kernel_rfl) (by kernel_rfl) (fun _ _ _ h => h) (Or.inl ⟨by kernel_rfl, fun w' hw' => by
        obtain ⟨q0, q1, q2⟩ := box3c (hw'.box _ (List.mem_cons_self ..))
        go_simp⟩) SC.out ?_
      refine wpAnyH_take (i := 13) (v := .int .i64 left) rfl (by kernel_rfl) (by kernel_rfl) (by kernel_rfl) (fun _ _ _ h => h) (Or.inl ⟨by kernel_rfl, fun w' hw' => by go_simp⟩) SC.out ?_
      obtain ⟨DA, hda⟩ : ∃ z, z = armD d left := ⟨_, rfl⟩
      have HDA := Lib.hid hda
      have LA := Lib.hid (show DA.2.2.length ≤ 1000 ∧ PnD DA 100000 by rw [hda]; exact ⟨Nat.le_trans LD.out.len (by decide), fun f hf => Nat.le_trans (LD.out.pn f hf) (by decide)⟩)
      clear hda
      refine held_gv 8 rfl (by kernel_rfl) (by kernel_rfl) fun K hK => ?_
      go_simp
      go_at_call 17
      refine (given10_any _ d wC (dv_BV (dv_below DD7.out SC.out.bel)) (by have := LD.out.len; omega) (fun f hf => Nat.le_trans (LD.out.pn f hf) (by decide))).mono ?_
      rintro e wE ⟨⟨vg, rfl, hvg⟩, hb⟩
      refine hK _ _ (SC.out.below hb) ?_
      clear hK K
      have SE := Lib.hid (SC.out.below hb)
      have PA := Lib.hid (parm_any vg d left HLL.out.2 wE (dv_BV (dvB_dv hvg)))
      rw [← HDA.out] at PA
      clear hb SC hvg
      refine held_gv 10 rfl (by kernel_rfl) (by kernel_rfl) fun K hK => ?_
      go_simp
      go_at_call 21
      refine (PA.out).mono ?_
      rintro e wF ⟨⟨va, rfl, hva⟩, hb⟩
      refine hK _ _ (SE.out.below hb) ?_
      clear hK K
      have SF := Lib.hid (SE.out.below hb)
      have TD := Lib.hid (told10_any va DA wF (dv_BV (dvB_dv hva)) LA.out.1 LA.out.2)
      clear hb SE hva PA
      refine held_gv 11 rfl (by kernel_rfl) (by kernel_rfl) fun K hK => ?_
      go_simp
      go_at_call 20
      refine (TD.out).mono ?_
      rintro e wG ⟨⟨vt, rfl, hvt⟩, hb⟩
      refine hK _ _ (SF.out.below hb) ?_
      clear hK K
      have SG := Lib.hid (SF.out.below hb)
      have VT := Lib.hid (dvB_dv hvt)
      clear hb SF hvt TD
      have RA := Lib.hid (rarm_any _ d left HLL.out.2 wG (dv_BV (dv_below DD7.out SG.out.bel)))
      rw [← HDA.out] at RA
      refine held_gv 14 rfl (by kernel_rfl) (by kernel_rfl) fun K hK => ?_
      go_simp
      go_at_call 22
      refine (RA.out).mono ?_
      rintro e wH ⟨⟨vx, rfl, hvx⟩, hb⟩
      refine hK _ _ (SG.out.below hb) ?_
      clear hK K
      have SH := Lib.hid (SG.out.below hb)
      have SM := Lib.hid (rsame_eq vt vx DA wH (dv_below VT.out hb) (dvB_dv hvx))
      clear hb SG hvx RA VT
      refine held_gv 15 rfl (by kernel_rfl) (by kernel_rfl) fun K hK => ?_
      go_simp
      go_at_call 19
      refine (SM.out).mono ?_
      rintro e wI ⟨rfl, hb⟩
      refine hK _ _ (SH.out.below hb) ?_
      clear hK K
      have SI := Lib.hid (SH.out.below hb)
      clear hb SH SM
      refine held_gv 16 rfl (by kernel_rfl) (by kernel_rfl) fun K hK => ?_
      go_simp
      refine hK _ _ SI.out ?_
      clear hK K
      refine held_one 17 rfl rfl (by kernel_rfl) fun K hK => ?_
      go_simp
      refine hK _ _ SI.out ?_
      clear hK K
      have ARZ := Lib.hid (arr2_below AR7.out SI.out.bel)
      have BZ := Lib.hid (btA B7.out SI.out.bel)
      refine wpAnyH_done (by kernel_rfl) ?_ _
      unfold onlyN
      dsimp only
      go_wp2
      go_roundw
      case rel =>
        have h1 := HI.out
        exact ⟨i + 1, by omega, by rw [EW.out], ARZ, BZ⟩
      case measure =>
        have h1 := HI.out
        rw [EW.out]
        simp [intOf]; omega
end Go.Proofs.Ytecneepgmpoepaa.Gf
