/- What is proved here: the law DiskReads answers true. No condition. -/
import Derived.Test.YtecneepgmpoepaaE10
import Derived.Laws.Closers25b
namespace Go.Proofs.Ytecneepgmpoepaa.Gf
open Go Go.Joins Go.ChangeShapes Go.WideShapes Go.ChangeAt Go.RowKit Go.Deep Go.Proofs.Ytecneepgmpoepaa.By Go.Proofs.Ytecneepgmpoepaa.Qt

set_option maxRecDepth 100000 in
set_option maxHeartbeats 25600000 in
theorem reads_any (vr : Value) (raw : Dk) (vl : Value) (L : List Opn) (left : Int) (nm : ByteArray) (of cn : Int) (w : World) (hraw : Dv w vr raw) (sl : Rd (fun _ => True) w (.sl tyOp) [vl] L) (hleft : -9223372036854775808 ≤ left ∧ left ≤ 9223372036854775807) (hnm : nm.size ≤ maxLen) (hof : -9223372036854775808 ≤ of ∧ of ≤ 9223372036854775807) (hcn : -9223372036854775808 ≤ cn ∧ cn ≤ 9223372036854775807) : Calls Try.prog 4 #[vr, vl, .int .i64 left, .string nm, .int .i64 of, .int .i64 cn] w fun e w' => e = .returned (.bool true) ∧ Below w.heap.size w w' := by
  have HLL := Lib.hid hleft
  have HOC := Lib.hid (And.intro hof hcn)
  have HS := Lib.hid hnm
  have RAW := Lib.hid hraw
  obtain ⟨ar, cr, rfl, -⟩ := dv_form (dv_BV hraw)
  obtain ⟨nr, hnr⟩ : ∃ z, z = raw.2.2.length := ⟨_, rfl⟩
  rw [← hnr] at RAW ⊢
  have HNR := Lib.hid hnr
  have SLL := Lib.hid sl
  obtain ⟨al, cl, rfl, -, -⟩ := rd_sl sl
  obtain ⟨nl, hnl⟩ : ∃ z, z = L.length := ⟨_, rfl⟩
  rw [← hnl] at SLL ⊢
  clear sl hnl hleft hnm hraw hnr hof hcn
  have BX := Lib.hid (bel_al0 w (.cells #[.int .i64 raw.1, .int .i64 raw.2.1, .slice ar nr cr] 24))
  have HR1 := Lib.hid (heap_alloc_new w (.cells #[.int .i64 raw.1, .int .i64 raw.2.1, .slice ar nr cr] 24))
  go_enter Try.func4, Try.ntmps4
  go_upto_region 1 with fail
  generalize w.alloc (.cells #[.int .i64 raw.1, .int .i64 raw.2.1, .slice ar nr cr] 24) = W1 at *
  have DR1 := Lib.hid (dv_below RAW.out BX.out)
  obtain ⟨x0, x1, x2⟩ := box3c HR1.out
  go_wp2_with fail
  clear x0 x1 x2
  refine (light10_any _ raw W1 DR1.out).mono ?_
  rintro e w2 ⟨⟨q, rfl, hq⟩, hb2⟩
  have HR2 := Lib.hid ((hb2.block _ (lt_of_some0 HR1.out)).trans HR1.out)
  have B2 := Lib.hid (btA BX.out hb2)
  clear hb2 HR1 BX DR1
  cases q
  case false =>
    clear hq
    go_wp2_with fail
    refine (awake10_any _).mono ?_
    rintro e wz ⟨rfl, hbz⟩
    have BZ := Lib.hid (btA B2.out hbz)
    clear hbz
    go_wp2
    go_ret
    exact ⟨rfl, BZ.out⟩
  have LT := Lib.hid (lt_ltd (hq rfl))
  clear hq
  by_cases h200 : 200 < nm.size
  case pos =>
    have l1 : decide ((200 : Int) < (nm.size : Int)) = true := decide_eq_true (by omega)
    have l2 : decide (200 < nm.size) = true := decide_eq_true h200
    clear h200
    go_wp2_with fail
    refine (awake10_any _).mono ?_
    rintro e wz ⟨rfl, hbz⟩
    have BZ := Lib.hid (btA B2.out hbz)
    clear hbz
    go_wp2
    go_ret
    exact ⟨rfl, BZ.out⟩
  have l1 : decide ((200 : Int) < (nm.size : Int)) = false := decide_eq_false (by omega)
  have l2 : decide (200 < nm.size) = false := decide_eq_false h200
  clear h200
  go_upto_region 3 with fail
  clear l1 l2
  go_cut [45, 46, 47] from 41 to 47 (fun ts tm ti wx => ∃ gb ob, ts = .slice (some ⟨gb, ob, none⟩) 2 2 ∧ tm = .int .i64 2 ∧ ti = .int .i64 0 ∧ Hid (Arr2 wx gb ob) ∧ Hid (Below w.heap.size w wx))
  case first =>
    have S0 : SBx w [(w.heap.size, (.cells #[.int .i64 raw.1, .int .i64 raw.2.1, .slice ar nr cr] 24 (0, 0)))] w2.drew := ⟨B2.out.drew, fun p hp => by rw [List.mem_singleton.1 hp]; exact HR2.out⟩
    refine wp_onlyN ?_
    refine wp_region_headsS (SBx w [(w.heap.size, (.cells #[.int .i64 raw.1, .int .i64 raw.2.1, .slice ar nr cr] 24 (0, 0)))]) [0, 1, 2, 6] 3 (by kernel_rfl) (fun _ _ _ _ _ h => h.elim) (by kernel_rfl) (by rfl) (by rfl) S0 ?_
    simp only [pickOps, List.filterMap_cons, List.filterMap_nil, List.getElem?_toArray, List.getElem?_cons_zero, List.getElem?_cons_succ]
    refine wpHeads_step (fun K hK => ?_)
    go_simp
    refine ⟨.agg #[.int .i64 raw.1, .int .i64 raw.2.1, .slice ar nr cr], fun w' hw' => by
      obtain ⟨q0, q1, q2⟩ := box3c (hw'.box _ (List.mem_cons_self ..))
      simp [q0, q1, q2], hK _ ?_⟩
    clear hK K
    refine wpHeads_step (fun K hK => ?_)
    go_simp
    refine ⟨_, fun _ _ => rfl, hK _ ?_⟩
    clear hK K
    refine wpHeads_step (fun K hK => ?_)
    go_simp
    refine ⟨_, fun _ _ => rfl, hK _ ?_⟩
    clear hK K
    refine wpHeads_step (fun K hK => ?_)
    go_simp
    refine ⟨_, fun _ _ => rfl, hK _ ?_⟩
    clear hK K
    refine wpHeads_nil ?_
    have SD := Lib.hid S0
    generalize w2.drew = WD at *
    clear S0
    refine held_one 3 rfl rfl (by kernel_rfl) fun K hK => ?_
    go_simp
    go_at_call 15
    refine (made10_any 0 left (.slice al nl cl) L WD (by decide) HLL.out (rd_below SLL.out SD.out.bel)).mono ?_
    rintro e w21 ⟨⟨v1, d1, rfl, hm, hv⟩, hb⟩
    refine hK _ _ (SD.out.below hb) ?_
    clear hK K
    have S21 := Lib.hid (SD.out.below hb)
    have Ld1 := Lib.hid (made_ltd hm)
    have V1 := Lib.hid hv
    obtain ⟨ad1, cd1, rfl, -⟩ := dv_form (dv_BV hv)
    obtain ⟨nd1, hn⟩ : ∃ z, z = d1.2.2.length := ⟨_, rfl⟩
    rw [← hn] at V1 ⊢
    have Nd1 := Lib.hid hn
    clear hm hv hn hb SD
    have V0 := Lib.hid (dv_below RAW.out S21.out.bel)
    refine held_one 4 rfl rfl (by kernel_rfl) fun K hK => ?_
    go_simp
    have qb := bel_al0 w21 (.cells #[.int .i64 raw.1, .int .i64 raw.2.1, .slice ar nr cr, .int .i64 d1.1, .int .i64 d1.2.1, .slice ad1 nd1 cd1] 24)
    refine hK _ _ (S21.out.below qb) ?_
    clear hK K
    have S22 := Lib.hid (S21.out.below qb)
    have HB := Lib.hid (heap_alloc_new w21 (.cells #[.int .i64 raw.1, .int .i64 raw.2.1, .slice ar nr cr, .int .i64 d1.1, .int .i64 d1.2.1, .slice ad1 nd1 cd1] 24))
    have AR := Lib.hid (arr2_mk HB.out HNR.out Nd1.out (dv_below V0.out qb) (dv_below V1.out qb) LT.out Ld1.out)
    clear qb S21 V0 V1 HB Nd1 Ld1
    generalize w21.alloc (.cells #[.int .i64 raw.1, .int .i64 raw.2.1, .slice ar nr cr, .int .i64 d1.1, .int .i64 d1.2.1, .slice ad1 nd1 cd1] 24) = w22 at *
    generalize w21.heap.size = gb at *
    refine held_one 5 rfl rfl (by kernel_rfl) fun K hK => ?_
    go_simp
    refine hK _ _ S22.out ?_
    clear hK K
    refine wpAnyH_done (by kernel_rfl) ?_ _
    unfold onlyN
    dsimp only
    go_wp2_with fail
    go_meet
    exact ⟨gb, 0, rfl, rfl, rfl, AR, Lib.hid S22.out.bel⟩
  case rest =>
    rename World => w5
    obtain ⟨gb, ob, rfl, rfl, rfl, AR5, B5⟩ := hcut
    clear HR2 B2 RAW HNR LT
    go_wp2_with fail
    go_loopw [47] (fun t29 wr => ∃ i : Nat, i ≤ 2 ∧ t29 = .int .i64 (i : Int) ∧ Hid (Arr2 wr gb ob) ∧ Hid (Below w.heap.size w wr)) (fun t _ => 2 - (intOf t).toNat)
    case atStart => exact ⟨0, by omega, rfl, AR5, B5⟩
    case round =>
      clear AR5 B5
      obtain ⟨i, hi, rfl, AR, BB⟩ := hrel
      have EW := Lib.hid (show wrap64 ((i : Int) + 1) = ((i + 1 : Nat) : Int) by unfold wrap64; omega)
      by_cases hlt : i < 2
      case neg =>
        have l1 : decide ((i : Int) < 2) = false := decide_eq_false (by omega)
        have l2 : decide (i < 2) = false := decide_eq_false hlt
        clear hlt hi
        go_wp2_with fail
        refine (awake10_any _).mono ?_
        rintro e wz ⟨rfl, hbz⟩
        have BZ := Lib.hid (btA BB.out hbz)
        clear hbz
        go_wp2
        go_ret
        exact ⟨rfl, BZ.out⟩
      have l1 : decide ((i : Int) < 2) = true := decide_eq_true (by omega)
      have l2 : decide (i < 2) = true := decide_eq_true hlt
      have HI := Lib.hid hlt
      obtain ⟨d, ⟨a, c, x0, x1, x2, hdv⟩, hld⟩ := AR.out i hlt
      have LD := Lib.hid hld
      obtain ⟨n, hn⟩ : ∃ z, z = d.2.2.length := ⟨_, rfl⟩
      rw [← hn] at x2 hdv
      have HN := Lib.hid hn
      have DD0 := Lib.hid hdv
      have p0 : (0 : Int) ≤ (i : Int) := by omega
      have p1 : (i : Int) < 2 := by omega
      clear hdv hld hn hlt hi
      go_upto_region 6 with fail
      clear x0 x1 x2 p0 p1 l1 l2
      have q7 := bel_al0 wr (.cells #[.int .i64 d.1, .int .i64 d.2.1, .slice a n c] 24)
      have HX7 := Lib.hid (heap_alloc_new wr (.cells #[.int .i64 d.1, .int .i64 d.2.1, .slice a n c] 24))
      have AR7 := Lib.hid (arr2_below AR.out q7)
      have DD7 := Lib.hid (dv_below DD0.out q7)
      have B7 := Lib.hid (btA BB.out q7)
      clear q7 AR DD0 BB
      generalize wr.alloc (.cells #[.int .i64 d.1, .int .i64 d.2.1, .slice a n c] 24) = W7 at *
      generalize wr.heap.size = gx at *
      have S0 : SBx W7 [(gx, (.cells #[.int .i64 d.1, .int .i64 d.2.1, .slice a n c] 24 (0, 0)))] W7.drew := ⟨(Below.refl _ _).drew, fun p hp => by rw [List.mem_singleton.1 hp]; exact HX7.out⟩
      refine wp_onlyN ?_
      refine wp_region_headsS (SBx W7 [(gx, (.cells #[.int .i64 d.1, .int .i64 d.2.1, .slice a n c] 24 (0, 0)))]) [0, 3] 5 (by kernel_rfl) (fun _ _ _ _ _ h => h.elim) (by kernel_rfl) (by rfl) (by rfl) S0 ?_
      simp only [pickOps, List.filterMap_cons, List.filterMap_nil, List.getElem?_toArray, List.getElem?_cons_zero, List.getElem?_cons_succ]
      refine wpHeads_step (fun K hK => ?_)
      go_simp
      refine ⟨.agg #[.int .i64 d.1, .int .i64 d.2.1, .slice a n c], fun w' hw' => by
        obtain ⟨q0, q1, q2⟩ := box3c (hw'.box _ (List.mem_cons_self ..))
        simp [q0, q1, q2], hK _ ?_⟩
      clear hK K
      refine wpHeads_step (fun K hK => ?_)
      go_simp
      refine ⟨.agg #[.int .i64 d.1, .int .i64 d.2.1, .slice a n c], fun w' hw' => by
        obtain ⟨q0, q1, q2⟩ := box3c (hw'.box _ (List.mem_cons_self ..))
        simp [q0, q1, q2], hK _ ?_⟩
      clear hK K
      refine wpHeads_nil ?_
      have SD := Lib.hid S0
      generalize W7.drew = WD at *
      clear S0
      obtain ⟨NL, hNL⟩ : ∃ z, z = namesL d := ⟨_, rfl⟩
      have HNL := Lib.hid (show NL = namesL d from hNL)
      have HLEN := Lib.hid (show NL.length ≤ 256 by rw [hNL]; unfold namesL; split <;> simp; exact LD.out.len)
      clear hNL
      refine held_one 1 rfl rfl (by kernel_rfl) fun K hK => ?_
      go_simp
      go_at_call 17
      refine (given10_any _ d WD (dv_BV (dv_below DD7.out SD.out.bel)) (by have := LD.out.len; omega) (fun f hf => Nat.le_trans (LD.out.pn f hf) (by decide))).mono ?_
      rintro e wA ⟨⟨vg, rfl, hvg⟩, hb⟩
      refine hK _ _ (SD.out.below hb) ?_
      clear hK K
      have SA := Lib.hid (SD.out.below hb)
      have PN := Lib.hid (pnames_any vg d wA (dvB_dv hvg) LD.out.sm)
      rw [← HNL.out] at PN
      clear hb SD hvg
      refine held_one 2 rfl rfl (by kernel_rfl) fun K hK => ?_
      go_simp
      go_at_call 27
      refine (PN.out).mono ?_
      rintro e wB ⟨⟨v5, rfl, ho⟩, hb⟩
      refine hK _ _ (SA.out.below hb) ?_
      clear hK K
      have SB := Lib.hid (SA.out.below hb)
      have RB := Lib.hid (og_rd (B := fun _ => True) ho fun _ _ => trivial)
      obtain ⟨am, cm, rfl, -, -⟩ := og_form ho
      obtain ⟨m, hm⟩ : ∃ z, z = NL.length := ⟨_, rfl⟩
      rw [← hm] at RB HLEN ⊢
      have HM := Lib.hid hm
      clear hb SA ho hm PN
      have QN := Lib.hid (rnames_any _ d wB (dv_below DD7.out SB.out.bel) (by have := LD.out.len; omega))
      rw [← HNL.out] at QN
      refine held_one 4 rfl rfl (by kernel_rfl) fun K hK => ?_
      go_simp
      go_at_call 28
      refine (QN.out).mono ?_
      rintro e wC ⟨⟨v6, rfl, ho⟩, hb⟩
      refine hK _ _ (SB.out.below hb) ?_
      clear hK K
      have SC := Lib.hid (SB.out.below hb)
      have RC := Lib.hid (rd_below RB.out hb)
      have QC := Lib.hid (og_rd (B := fun _ => True) ho fun _ _ => trivial)
      obtain ⟨an, cn', rfl, -, -⟩ := og_form ho
      rw [← HM.out] at QC ⊢
      clear hb SB ho QN RB
      refine held_one 5 rfl rfl (by kernel_rfl) fun K hK => ?_
      go_simp
      refine hK _ _ SC.out ?_
      clear hK K
      refine held_one 6 rfl rfl (by kernel_rfl) fun K hK => ?_
      go_simp
      refine hK _ _ SC.out ?_
      clear hK K
      refine wpAnyH_done (by kernel_rfl) ?_ _
      unfold onlyN
      dsimp only
      have HXC := Lib.hid (SC.out.box _ (List.mem_cons_self ..))
      have ARC := Lib.hid (arr2_below AR7.out SC.out.bel)
      have DDC := Lib.hid (dv_below DD7.out SC.out.bel)
      have BC := Lib.hid (btA B7.out SC.out.bel)
      clear SC HX7 AR7 DD7 B7
      go_upto_region 10 with fail
      have q8 := bel_al0 wC (.cells #[.string nm] 9)
      have OG8 := Lib.hid (og_one (W := wC) HS.out (Nat.le_refl wC.heap.size))
      generalize hg : wC.heap.size = g8 at *
      have HG8 := Lib.hid hg
      go_wp2_with fail
      go_loopw [17, 65] (fun t17 t65 wr => ∃ j : Nat, j ≤ m ∧ t65 = .int .i64 (j : Int) ∧ Hid (OwG 9 .s (fun _ => True) wr g8 t17 (nm :: NL.take j)) ∧ Hid (Below g8 wC wr)) (fun _ t _ => m - (intOf t).toNat)
      case atStart => exact ⟨0, by omega, rfl, OG8, Lib.hid (by rw [← hg] at q8 ⊢; exact q8)⟩
      case round =>
        clear OG8 q8 hg
        obtain ⟨j, hj, rfl, OO, BO⟩ := hrel
        rename World => wj
        have BO' := Lib.hid (show Below wC.heap.size wC wj by rw [HG8.out]; exact BO.out)
        by_cases hlt : j < m
        case pos =>
          have l1 : decide ((j : Int) < (m : Int)) = true := decide_eq_true (by omega)
          have l2 : decide (j < m) = true := decide_eq_true hlt
          have HJ := Lib.hid hlt
          obtain ⟨x, hx⟩ : ∃ z, NL[j]? = some z := ⟨_, List.getElem?_eq_getElem (by have := HM.out; omega)⟩
          have HTK := Lib.hid (show nm :: NL.take (j + 1) = (nm :: NL.take j) ++ [x] by rw [List.take_add_one, hx]; rfl)
          obtain ⟨bm, om, rfl, k0, hsx⟩ := str_at (rd_below RC.out BO'.out) hx
          obtain ⟨bn, on_, rfl, k1, -⟩ := str_at (rd_below QC.out BO'.out) hx
          have HSX := Lib.hid hsx
          have p0 : (0 : Int) ≤ (j : Int) := by omega
          have p1 : (j : Int) < (m : Int) := by omega
          have EJ := Lib.hid (show wrap64 ((j : Int) + 1) = ((j + 1 : Nat) : Int) by have := HLEN.out; unfold wrap64; omega)
          obtain ⟨ao, co, rfl, -, -⟩ := og_form OO.out
          obtain ⟨m5, hm5⟩ : ∃ z, z = (nm :: NL.take j).length := ⟨_, rfl⟩
          rw [← hm5] at OO ⊢
          clear hx hlt hj hsx hm5
          go_upto_region 13 with fail
          go_quiet (fail)
          have hd := below_drewN wj nq
          have O6 := Lib.hid (og_below OO.out hd)
          have B6 := Lib.hid (show Below g8 wC (wj.drewN nq) by rw [← HG8.out]; exact btA BO'.out hd)
          replace k1 := (hd.cell (block_lt_of_cell k1)).trans k1
          clear hd k0 OO BO BO'
          generalize wj.drewN nq = w6 at *
          have LE6 := Lib.hid (show g8 ≤ w6.heap.size by rw [← HG8.out]; exact (show Below wC.heap.size wC w6 by rw [HG8.out]; exact B6.out).size)
          have q7 := bel_al0 w6 (.cells #[.string x] 9)
          have O7 := Lib.hid (og_below O6.out q7)
          have B7 := Lib.hid (show Below g8 wC (w6.alloc (.cells #[.string x] 9)) by rw [← HG8.out]; exact btA (show Below wC.heap.size wC w6 by rw [HG8.out]; exact B6.out) q7)
          have HSG := Lib.hid (rd_single (t := .s) (cs := [.string x]) (B := fun b => True ∧ (Value.slice ao m5 co).ownBlock ≠ some b) (x := x) ⟨HSX.out, rfl⟩ (heap_alloc_new w6 (.cells #[.string x] 9)) ⟨trivial, fun e => by have := (og_lt O6.out _ e).2; omega⟩)
          have LE7 := Lib.hid (show g8 ≤ (w6.alloc (.cells #[.string x] 9)).heap.size from Nat.le_trans LE6.out q7.size)
          have HLE7 : Hid ((nm :: NL.take j).length + [x].length ≤ 100000000) := Lib.hid (by
            have h1 := HLEN.out
            have h2 := HM.out
            rw [List.length_cons, List.length_take]
            simp
            omega)
          clear q7 O6 B6 LE6
          go_wp2_with (at_builtin; refine app_g lsS (dst := some 83) ?_ ?_ O7.out HSG.out HLE7.out LE7.out ?_; exact rfl; exact rfl; intro v11 w11 ho11 hg11 hat11; rw [← HTK.out] at ho11; have O11 := Lib.hid ho11; have B11 := Lib.hid (below_grownG B7.out hg11 O7.out LE7.out (Nat.le_refl _)); clear ho11 hg11 hat11 O7 HSG B7)
          go_roundw
          case rel =>
            have h1 := HJ.out
            exact ⟨j + 1, by omega, by rw [EJ.out], O11, B11⟩
          case measure =>
            have h1 := HJ.out
            rw [EJ.out]
            simp [intOf]; omega
        have l1 : decide ((j : Int) < (m : Int)) = false := decide_eq_false (by omega)
        have l2 : decide (j < m) = false := decide_eq_false hlt
        obtain rfl : j = m := by omega
        rw [show NL.take j = NL by rw [List.take_of_length_le (by have := HM.out; omega)]] at OO
        have RN := Lib.hid (og_rd (B := fun _ => True) OO.out fun _ _ => trivial)
        obtain ⟨ao, co, rfl, -, -⟩ := og_form OO.out
        obtain ⟨k, hk⟩ : ∃ z, z = (nm :: NL).length := ⟨_, rfl⟩
        rw [← hk] at RN ⊢
        have HK := Lib.hid hk
        have HKL := Lib.hid (show k ≤ 257 by rw [hk, List.length_cons]; have := HLEN.out; have := HM.out; omega)
        have HXj := Lib.hid ((BO'.out.block _ (lt_of_some0 HXC.out)).trans HXC.out)
        have ARj := Lib.hid (arr2_below ARC.out BO'.out)
        have DDj := Lib.hid (dv_below DDC.out BO'.out)
        have Bj := Lib.hid (btA BC.out BO'.out)
        clear hlt hj hk OO BO BO' RC QC HXC ARC DDC BC HLEN
        go_wp2_with fail
        go_loopw [87] (fun t87 wr => ∃ j3 : Nat, j3 ≤ k ∧ t87 = .int .i64 (j3 : Int) ∧ Hid (Below wj.heap.size wj wr)) (fun t _ => k - (intOf t).toNat)
        case atStart => exact ⟨0, by omega, rfl, Lib.hid (Below.refl _ _)⟩
        case round =>
          obtain ⟨j3, hj, rfl, BO⟩ := hrel
          rename World => wn
          have HXn := Lib.hid ((BO.out.block _ (lt_of_some0 HXj.out)).trans HXj.out)
          have DDn := Lib.hid (dv_below DDj.out BO.out)
          have Bn := Lib.hid (btA Bj.out BO.out)
          by_cases hlt : j3 < k
          case neg =>
            have l1 : decide ((j3 : Int) < (k : Int)) = false := decide_eq_false (by omega)
            have l2 : decide (j3 < k) = false := decide_eq_false hlt
            clear hlt hj
            have ARn := Lib.hid (arr2_below ARj.out BO.out)
            clear HXj DDj Bj ARj
            go_wp2_with fail
            go_loopw [31] (fun t31 wr => ∃ i5 : Nat, i5 ≤ n ∧ t31 = .int .i64 (i5 : Int) ∧ Hid (Below wn.heap.size wn wr)) (fun t _ => n - (intOf t).toNat)
            case atStart => exact ⟨0, by omega, rfl, Lib.hid (Below.refl _ _)⟩
            case round =>
              obtain ⟨i5, hi5, rfl, BO5⟩ := hrel
              rename World => wp
              have HXp := Lib.hid ((BO5.out.block _ (lt_of_some0 HXn.out)).trans HXn.out)
              have DDp := Lib.hid (dv_below DDn.out BO5.out)
              have E5 := Lib.hid (show wrap64 ((i5 : Int) + 1) = ((i5 + 1 : Nat) : Int) by have := HN.out; have := LD.out.len; unfold wrap64; omega)
              by_cases hlt : i5 < n
              case neg =>
                have l1 : decide ((i5 : Int) < (n : Int)) = false := decide_eq_false (by omega)
                have l2 : decide (i5 < n) = false := decide_eq_false hlt
                have ARp := Lib.hid (arr2_below ARn.out BO5.out)
                have Bp := Lib.hid (btA Bn.out BO5.out)
                obtain ⟨x0, x1, x2⟩ := box3c HXp.out
                clear hlt hi5
                go_wp2
                go_roundw
                case rel =>
                  have h1 := HI.out
                  exact ⟨i + 1, by omega, by rw [EW.out], ARp, Bp⟩
                case measure =>
                  have h1 := HI.out
                  rw [EW.out]
                  simp [intOf]; omega
              have l1 : decide ((i5 : Int) < (n : Int)) = true := decide_eq_true (by omega)
              have l2 : decide (i5 < n) = true := decide_eq_true hlt
              have H5 := Lib.hid hlt
              have HIP := Lib.hid (show i5 < d.2.2.length by rw [← HN.out]; exact hlt)
              obtain ⟨b1, o1, bv, pv, rfl, -, k0, k1, k2, hsz, hbb, hpp⟩ := dv_at (dv_rd DDp.out) HIP.out
              obtain ⟨x, hxx⟩ : ∃ z, z = d.2.2.getD i5 fl0 := ⟨_, rfl⟩
              have HXX := Lib.hid hxx
              have HXM := Lib.hid (show x ∈ d.2.2 by rw [hxx, getD_F HIP.out]; exact List.getElem_mem HIP.out)
              rw [← hxx] at k0 hsz hbb hpp
              have RC5 : Hid (∀ W, Below wp.heap.size wp W → Calls Try.prog 34 #[.agg #[.string x.1, bv, pv]] W (BA W (contL x))) := Lib.hid (fun W h => rcontent_any x.1 bv pv x.2.1 x.2.2 W (rd8_sl (rd_below hbb h)) (rd_below hpp h))
              obtain ⟨ab, cb, rfl, -, -⟩ := rd_sl hbb
              obtain ⟨ap, cp, rfl, -, -⟩ := rd_sl hpp
              obtain ⟨nb, hnb⟩ : ∃ z, z = x.2.1.length := ⟨_, rfl⟩
              obtain ⟨np, hnp⟩ : ∃ z, z = x.2.2.length := ⟨_, rfl⟩
              rw [← hnb] at k1 RC5
              rw [← hnp] at k2 RC5
              have p0 : (0 : Int) ≤ (i5 : Int) := by omega
              have p1 : (i5 : Int) < (n : Int) := by omega
              clear hxx hsz hbb hpp hnb hnp hlt hi5
              obtain ⟨x0, x1, x2⟩ := box3c HXp.out
              go_upto_region 36 with fail
              clear x0 x1 x2 l1 l2
              have S0 : SBx wp [(gx, (.cells #[.int .i64 d.1, .int .i64 d.2.1, .slice (some ⟨b1, o1, none⟩) n c] 24 (0, 0)))] wp.drew := ⟨(Below.refl _ _).drew, fun p hp => by rw [List.mem_singleton.1 hp]; exact HXp.out⟩
              refine wp_onlyN ?_
              refine wp_region_headsS (SBx wp [(gx, (.cells #[.int .i64 d.1, .int .i64 d.2.1, .slice (some ⟨b1, o1, none⟩) n c] 24 (0, 0)))]) [0, 3, 8, 9, 10, 11, 12] 9 (by kernel_rfl) (fun _ _ _ _ _ h => h.elim) (by kernel_rfl) (by rfl) (by rfl) S0 ?_
              simp only [pickOps, List.filterMap_cons, List.filterMap_nil, List.getElem?_toArray, List.getElem?_cons_zero, List.getElem?_cons_succ]
              refine wpHeads_step (fun K hK => ?_)
              go_simp
              refine ⟨.agg #[.int .i64 d.1, .int .i64 d.2.1, .slice (some ⟨b1, o1, none⟩) n c], fun w' hw' => by
                obtain ⟨q0, q1, q2⟩ := box3c (hw'.box _ (List.mem_cons_self ..))
                simp [q0, q1, q2], hK _ ?_⟩
              clear hK K
              refine wpHeads_step (fun K hK => ?_)
              go_simp
              refine ⟨_, fun _ _ => rfl, hK _ ?_⟩
              clear hK K
              refine wpHeads_step (fun K hK => ?_)
              go_simp
              refine ⟨.pointer (some ⟨gx, 2, none⟩), fun w' hw' => by go_simp, hK _ ?_⟩
              clear hK K
              refine wpHeads_step (fun K hK => ?_)
              go_simp
              refine ⟨.slice (some ⟨b1, o1, none⟩) n c, fun w' hw' => by
                obtain ⟨q0, q1, q2⟩ := box3c (hw'.box _ (List.mem_cons_self ..))
                simp [q2], hK _ ?_⟩
              clear hK K
              refine wpHeads_step (fun K hK => ?_)
              go_simp
              refine ⟨_, fun _ _ => rfl, hK _ ?_⟩
              clear hK K
              refine wpHeads_step (fun K hK => ?_)
              go_simp
              refine ⟨.pointer (some ⟨b1, o1 + i5 * 3, none⟩), fun w' hw' => by go_simp, hK _ ?_⟩
              clear hK K
              refine wpHeads_step (fun K hK => ?_)
              go_simp
              refine ⟨.agg #[.string x.1, .slice ab nb cb, .slice ap np cp], fun w' hw' => by
                have r0 := (hw'.bel.cell (block_lt_of_cell k0)).trans k0
                have r1 := (hw'.bel.cell (block_lt_of_cell k1)).trans k1
                have r2 := (hw'.bel.cell (block_lt_of_cell k2)).trans k2
                simp [r0, r1, r2], hK _ ?_⟩
              clear hK K
              refine wpHeads_nil ?_
              have SD := Lib.hid S0
              generalize wp.drew = WD at *
              clear S0 k0 k1 k2
              refine held_one 1 rfl rfl (by kernel_rfl) fun K hK => ?_
              go_simp
              go_at_call 17
              refine (given10_any _ d WD (dv_BV (dv_below DDp.out SD.out.bel)) (by have := LD.out.len; omega) (fun f hf => Nat.le_trans (LD.out.pn f hf) (by decide))).mono ?_
              rintro e wF ⟨⟨vg, rfl, hvg⟩, hb⟩
              refine hK _ _ (SD.out.below hb) ?_
              clear hK K
              have SA5 := Lib.hid (SD.out.below hb)
              obtain ⟨ag, cg, rfl, rg⟩ := dv_form hvg
              obtain ⟨b2, o2, bv2, pv2, rfl, -, m0, m1, m2, hsz2, hbb2, hpp2⟩ := dv_at rg HIP.out
              rw [← HXX.out] at m0 hsz2 hbb2 hpp2
              have PC := Lib.hid (pcontent_any x bv2 pv2 wF (rd_f_mk hsz2 hbb2 hpp2) (LD.out.sm x HXM.out) (Nat.le_trans (LD.out.pn x HXM.out) (by decide)))
              obtain ⟨ab2, cb2, rfl, -, -⟩ := rd_sl hbb2
              obtain ⟨ap2, cp2, rfl, -, -⟩ := rd_sl hpp2
              obtain ⟨nb2, hnb2⟩ : ∃ z, z = x.2.1.length := ⟨_, rfl⟩
              obtain ⟨np2, hnp2⟩ : ∃ z, z = x.2.2.length := ⟨_, rfl⟩
              rw [← hnb2] at m1 PC
              rw [← hnp2] at m2 PC
              rw [← HN.out]
              clear hb SD hvg rg hsz2 hbb2 hpp2 hnb2 hnp2
              refine held_one 2 rfl rfl (by kernel_rfl) fun K hK => ?_
              go_simp
              refine hK _ _ SA5.out ?_
              clear hK K
              refine held_one 4 rfl rfl (by kernel_rfl) fun K hK => ?_
              go_simp
              refine hK _ _ SA5.out ?_
              clear hK K
              refine held_one 5 rfl rfl (by kernel_rfl) fun K hK => ?_
              go_simp
              refine hK _ _ SA5.out ?_
              clear hK K
              clear p0 p1 m0 m1 m2
              refine held_one 6 rfl rfl (by kernel_rfl) fun K hK => ?_
              go_simp
              go_at_call 33
              refine (PC.out).mono ?_
              rintro e wG ⟨⟨v6, rfl, ho6⟩, hb⟩
              refine hK _ _ (SA5.out.below hb) ?_
              clear hK K
              have SB5 := Lib.hid (SA5.out.below hb)
              have Z6 := Lib.hid ho6.sl
              clear hb SA5 ho6 PC
              refine held_two10 7 13 rfl rfl rfl rfl (by kernel_rfl) (fun K hK => ?_) (fun K hK => ?_)
              · have z1 := conv_sl Z6.out
                go_simp
                refine hK _ _ SB5.out ?_
                clear hK K z1
                have QC := Lib.hid (RC5.out wG SB5.out.bel)
                refine held_one 13 rfl rfl (by kernel_rfl) fun K hK => ?_
                go_simp
                go_at_call 34
                refine (QC.out).mono ?_
                rintro e wH ⟨⟨v8, rfl, ho8⟩, hb⟩
                refine hK _ _ (SB5.out.below hb) ?_
                clear hK K
                have SC5 := Lib.hid (SB5.out.below hb)
                have Z8 := Lib.hid ho8.sl
                have Z6' := Lib.hid (sl_below Z6.out hb)
                clear hb SB5 ho8 QC
                have z2 := conv_sl Z8.out
                refine held_one 14 rfl rfl (by kernel_rfl) fun K hK => ?_
                go_simp
                refine hK _ _ SC5.out ?_
                clear hK K
                refine held_one 15 rfl rfl (by kernel_rfl) fun K hK => ?_
                go_simp
                refine hK _ _ SC5.out ?_
                clear hK K
                have BZ5 := Lib.hid (btA BO5.out SC5.out.bel)
                clear z2 Z8 Z6 Z6' RC5
                refine wpAnyH_done (by kernel_rfl) ?_ _
                unfold onlyN
                dsimp only
                go_wp2
                go_roundw
                case rel =>
                  have h1 := H5.out
                  exact ⟨i5 + 1, by omega, by rw [E5.out], BZ5⟩
                case measure =>
                  have h1 := H5.out
                  rw [E5.out]
                  simp [intOf]; omega
              · have QC := Lib.hid (RC5.out wG SB5.out.bel)
                go_simp
                go_at_call 34
                refine (QC.out).mono ?_
                rintro e wH ⟨⟨v8, rfl, ho8⟩, hb⟩
                refine hK _ _ (SB5.out.below hb) ?_
                clear hK K
                have SC5 := Lib.hid (SB5.out.below hb)
                have Z8 := Lib.hid ho8.sl
                have Z6' := Lib.hid (sl_below Z6.out hb)
                clear hb SB5 ho8 QC
                refine held_two10 7 14 rfl rfl rfl rfl (by kernel_rfl) (fun K hK => ?_) (fun K hK => ?_)
                · have z1 := conv_sl Z6'.out
                  go_simp
                  refine hK _ _ SC5.out ?_
                  clear hK K
                  have z2 := conv_sl Z8.out
                  refine held_one 14 rfl rfl (by kernel_rfl) fun K hK => ?_
                  go_simp
                  refine hK _ _ SC5.out ?_
                  clear hK K
                  refine held_one 15 rfl rfl (by kernel_rfl) fun K hK => ?_
                  go_simp
                  refine hK _ _ SC5.out ?_
                  clear hK K
                  have BZ5 := Lib.hid (btA BO5.out SC5.out.bel)
                  clear z1 z2 Z8 Z6 Z6' RC5
                  refine wpAnyH_done (by kernel_rfl) ?_ _
                  unfold onlyN
                  dsimp only
                  go_wp2
                  go_roundw
                  case rel =>
                    have h1 := H5.out
                    exact ⟨i5 + 1, by omega, by rw [E5.out], BZ5⟩
                  case measure =>
                    have h1 := H5.out
                    rw [E5.out]
                    simp [intOf]; omega
                · have z2 := conv_sl Z8.out
                  go_simp
                  refine hK _ _ SC5.out ?_
                  clear hK K
                  have z1 := conv_sl Z6'.out
                  refine held_one 7 rfl rfl (by kernel_rfl) fun K hK => ?_
                  go_simp
                  refine hK _ _ SC5.out ?_
                  clear hK K
                  refine held_one 15 rfl rfl (by kernel_rfl) fun K hK => ?_
                  go_simp
                  refine hK _ _ SC5.out ?_
                  clear hK K
                  have BZ5 := Lib.hid (btA BO5.out SC5.out.bel)
                  clear z1 z2 Z8 Z6 Z6' RC5
                  refine wpAnyH_done (by kernel_rfl) ?_ _
                  unfold onlyN
                  dsimp only
                  go_wp2
                  go_roundw
                  case rel =>
                    have h1 := H5.out
                    exact ⟨i5 + 1, by omega, by rw [E5.out], BZ5⟩
                  case measure =>
                    have h1 := H5.out
                    rw [E5.out]
                    simp [intOf]; omega
          have l1 : decide ((j3 : Int) < (k : Int)) = true := decide_eq_true (by omega)
          have l2 : decide (j3 < k) = true := decide_eq_true hlt
          have H3 := Lib.hid hlt
          obtain ⟨s, hs⟩ : ∃ z, (nm :: NL)[j3]? = some z := ⟨_, List.getElem?_eq_getElem (by have := HK.out; omega)⟩
          obtain ⟨bo, oo, rfl, k0, hss⟩ := str_at (rd_below RN.out BO.out) hs
          have HSS := Lib.hid hss
          have p0 : (0 : Int) ≤ (j3 : Int) := by omega
          have p1 : (j3 : Int) < (k : Int) := by omega
          have E3 := Lib.hid (show wrap64 ((j3 : Int) + 1) = ((j3 + 1 : Nat) : Int) by have := HKL.out; unfold wrap64; omega)
          clear hs hss hlt hj
          go_upto_region 20 with fail
          clear k0 p0 p1 l1 l2
          obtain ⟨x0, x1, x2⟩ := box3c HXn.out
          go_wp2_with fail
          clear x0 x1 x2
          refine (given10_any _ d wn (dv_BV DDn.out) (by have := LD.out.len; omega) (fun f hf => Nat.le_trans (LD.out.pn f hf) (by decide))).mono ?_
          rintro e wa ⟨⟨vg, rfl, hvg⟩, hb⟩
          have BNA := Lib.hid hb
          have PS := Lib.hid (psize_any vg d s HSS.out wa (dvB_dv hvg) LD.out.sm)
          obtain ⟨ag, cg, rfl, -⟩ := dv_form hvg
          have HXa := Lib.hid ((hb.block _ (lt_of_some0 HXn.out)).trans HXn.out)
          have DDa := Lib.hid (dv_below DDn.out hb)
          have Ba := Lib.hid (btA Bn.out hb)
          obtain ⟨ng, hng⟩ : ∃ z, z = d.2.2.length := ⟨_, rfl⟩
          rw [← hng] at PS ⊢
          clear hb hvg hng HXn DDn
          obtain ⟨SZ, hSZ⟩ : ∃ z, z = sizeD d s := ⟨_, rfl⟩
          obtain ⟨AE, hAE⟩ : ∃ z, z = atE d s := ⟨_, rfl⟩
          have HSZ := Lib.hid (And.intro hSZ hAE)
          have HSR := Lib.hid (show -9223372036854775808 ≤ SZ ∧ SZ ≤ 9223372036854775807 by rw [hSZ]; unfold sizeD; split <;> (try have := contL_le (fileAt d s)) <;> omega)
          rw [← hSZ, ← hAE] at PS
          clear hSZ hAE
          go_wp2_with fail
          refine PS.out.mono ?_
          rintro e wb ⟨rfl, hb⟩
          have BNB := Lib.hid (btA BNA.out hb)
          have HXb := Lib.hid ((hb.block _ (lt_of_some0 HXa.out)).trans HXa.out)
          have DDb := Lib.hid (dv_below DDa.out hb)
          have Bb := Lib.hid (btA Ba.out hb)
          clear hb PS HXa DDa Ba
          have QS := Lib.hid (rsize_any _ d s HSS.out wb DDb.out)
          rw [← HSZ.out.1, ← HSZ.out.2] at QS
          go_upto_region 21 with fail
          obtain ⟨x0, x1, x2⟩ := box3c HXb.out
          go_wp2_with fail
          clear x0 x1 x2
          refine QS.out.mono ?_
          rintro e wc ⟨rfl, hb⟩
          have BNC := Lib.hid (btA BNB.out hb)
          have HXc := Lib.hid ((hb.block _ (lt_of_some0 HXb.out)).trans HXb.out)
          have DDc := Lib.hid (dv_below DDb.out hb)
          have Bc := Lib.hid (btA Bb.out hb)
          clear hb QS HXb DDb Bb
          have qr := bel_al0 wc (.cells #[.int .i64 of, .int .i64 cn, .int .i64 (bits .and .i64 of 15), .int .i64 (bits .and .i64 cn 15), .int .i64 0, .int .i64 SZ] 50)
          have RG0 := Lib.hid (rng3_mk (heap_alloc_new wc (.cells #[.int .i64 of, .int .i64 cn, .int .i64 (bits .and .i64 of 15), .int .i64 (bits .and .i64 cn 15), .int .i64 0, .int .i64 SZ] 50)) HOC.out.1 HOC.out.2 ⟨bits_lo_i64 .and of 15, bits_hi_i64 .and of 15⟩ ⟨bits_lo_i64 .and cn 15, bits_hi_i64 .and cn 15⟩ (by decide) HSR.out)
          have BR0 := Lib.hid qr
          clear qr
          go_wp2_with fail
          go_loopw [124] (fun t124 wr => ∃ k4 : Nat, k4 ≤ 3 ∧ t124 = .int .i64 (k4 : Int) ∧ Hid (Rng3 wr wc.heap.size 0) ∧ Hid (Below wc.heap.size wc wr)) (fun t _ => 3 - (intOf t).toNat)
          case atStart => exact ⟨0, by omega, rfl, RG0, BR0⟩
          case round =>
            clear RG0 BR0
            obtain ⟨k4, hk4, rfl, RG, BR⟩ := hrel
            rename World => wo
            by_cases hlt : k4 < 3
            case neg =>
              have l1 : decide ((k4 : Int) < 3) = false := decide_eq_false (by omega)
              have l2 : decide (k4 < 3) = false := decide_eq_false hlt
              clear hlt hk4
              have BE := Lib.hid (show Below wj.heap.size wj wo from btA (btA BO.out BNC.out) BR.out)
              go_wp2
              go_roundw
              case rel =>
                have h1 := H3.out
                exact ⟨j3 + 1, by omega, by rw [E3.out], BE⟩
              case measure =>
                have h1 := H3.out
                rw [E3.out]
                simp [intOf]; omega
            have l1 : decide ((k4 : Int) < 3) = true := decide_eq_true (by omega)
            have l2 : decide (k4 < 3) = true := decide_eq_true hlt
            have H4 := Lib.hid hlt
            have E4 := Lib.hid (show wrap64 ((k4 : Int) + 1) = ((k4 + 1 : Nat) : Int) by unfold wrap64; omega)
            obtain ⟨rx, ry, hx, hy, k0, k1⟩ := RG.out k4 hlt
            rw [Nat.zero_add] at k0 k1
            have HXY := Lib.hid (And.intro hx hy)
            have p0 : (0 : Int) ≤ (k4 : Int) := by omega
            have p1 : (k4 : Int) < 3 := by omega
            clear hx hy hlt hk4
            go_upto_region 27 with fail
            clear k0 k1 p0 p1 l1 l2
            have q9 := bel_al0 wo (.cells #[.int .i64 rx, .int .i64 ry] 50)
            have HZ := Lib.hid (heap_alloc_new wo (.cells #[.int .i64 rx, .int .i64 ry] 50))
            have b9 := btA BR.out q9
            have HX9 := Lib.hid ((b9.block _ (lt_of_some0 HXc.out)).trans HXc.out)
            have DD9 := Lib.hid (dv_below DDc.out b9)
            have RG9 := Lib.hid (rng3_below RG.out q9)
            have B9 := Lib.hid b9
            clear q9 b9 RG BR
            generalize wo.alloc (.cells #[.int .i64 rx, .int .i64 ry] 50) = W9 at *
            generalize wo.heap.size = gz at *
            have y0 := cell_of_row _ gz 0 _ _ _ HZ.out
            have y1 := cell_of_row _ gz 1 _ _ _ HZ.out
            have S0 : SBx W9 [(gx, (.cells #[.int .i64 d.1, .int .i64 d.2.1, .slice a n c] 24 (0, 0))), (gz, (.cells #[.int .i64 rx, .int .i64 ry] 50 (0, 0)))] W9.drew := ⟨(Below.refl _ _).drew, fun p hp => by
              rcases List.mem_cons.1 hp with rfl | hp
              · exact HX9.out
              · rw [List.mem_singleton.1 hp]; exact HZ.out⟩
            clear y0 y1
            refine wp_onlyN ?_
            refine wp_region_headsS (SBx W9 [(gx, (.cells #[.int .i64 d.1, .int .i64 d.2.1, .slice a n c] 24 (0, 0))), (gz, (.cells #[.int .i64 rx, .int .i64 ry] 50 (0, 0)))]) [0, 2, 3, 4, 5, 6] 7 (by kernel_rfl) (fun _ _ _ _ _ h => h.elim) (by kernel_rfl) (by rfl) (by rfl) S0 ?_
            simp only [pickOps, List.filterMap_cons, List.filterMap_nil, List.getElem?_toArray, List.getElem?_cons_zero, List.getElem?_cons_succ]
            refine wpHeads_step (fun K hK => ?_)
            go_simp
            refine ⟨.agg #[.int .i64 d.1, .int .i64 d.2.1, .slice a n c], fun w' hw' => by
              obtain ⟨q0, q1, q2⟩ := box3c (hw'.box _ (List.mem_cons_self ..))
              simp [q0, q1, q2], hK _ ?_⟩
            clear hK K
            refine wpHeads_step (fun K hK => ?_)
            go_simp
            refine ⟨_, fun _ _ => rfl, hK _ ?_⟩
            clear hK K
            refine wpHeads_step (fun K hK => ?_)
            go_simp
            refine ⟨.pointer (some ⟨gz, 0, none⟩), fun w' hw' => by go_simp, hK _ ?_⟩
            clear hK K
            refine wpHeads_step (fun K hK => ?_)
            go_simp
            refine ⟨.int .i64 rx, fun w' hw' => by
              have q0 := cell_of_row _ gz 0 _ _ _ (hw'.box _ (List.mem_cons_of_mem _ (List.mem_cons_self ..)))
              simp [q0], hK _ ?_⟩
            clear hK K
            refine wpHeads_step (fun K hK => ?_)
            go_simp
            refine ⟨.pointer (some ⟨gz, 1, none⟩), fun w' hw' => by go_simp, hK _ ?_⟩
            clear hK K
            refine wpHeads_step (fun K hK => ?_)
            go_simp
            refine ⟨.int .i64 ry, fun w' hw' => by
              have q0 := cell_of_row _ gz 1 _ _ _ (hw'.box _ (List.mem_cons_of_mem _ (List.mem_cons_self ..)))
              simp [q0], hK _ ?_⟩
            clear hK K
            refine wpHeads_nil ?_
            have SD := Lib.hid S0
            generalize W9.drew = WD at *
            clear S0
            obtain ⟨RL, hRL⟩ : ∃ z, z = readL d s rx ry := ⟨_, rfl⟩
            obtain ⟨RE, hRE⟩ : ∃ z, z = readE d s rx ry := ⟨_, rfl⟩
            have HRD := Lib.hid (And.intro hRL hRE)
            clear hRL hRE
            refine held_one 1 rfl rfl (by kernel_rfl) fun K hK => ?_
            go_simp
            go_at_call 17
            refine (given10_any _ d WD (dv_BV (dv_below DD9.out SD.out.bel)) (by have := LD.out.len; omega) (fun f hf => Nat.le_trans (LD.out.pn f hf) (by decide))).mono ?_
            rintro e wF ⟨⟨vg, rfl, hvg⟩, hb⟩
            refine hK _ _ (SD.out.below hb) ?_
            clear hK K
            have SF := Lib.hid (SD.out.below hb)
            have PR := Lib.hid (pread_any vg d s HSS.out 14 wF (dvB_dv hvg) LD.out.sm LD.out.pn (by decide) rx ry HXY.out.1 HXY.out.2)
            rw [← HRD.out.1, ← HRD.out.2] at PR
            clear hb SD hvg
            refine held_one 7 rfl rfl (by kernel_rfl) fun K hK => ?_
            go_simp
            go_at_call 31
            refine (PR.out).mono ?_
            rintro e wG ⟨⟨v7, rfl, s7⟩, hb⟩
            refine hK _ _ (SF.out.below hb) ?_
            clear hK K
            have SG := Lib.hid (SF.out.below hb)
            have Z7 := Lib.hid s7
            obtain ⟨a7, c7, rfl, -, -⟩ := sl_form s7
            obtain ⟨n7, hn7⟩ : ∃ z, z = RL.length := ⟨_, rfl⟩
            rw [← hn7] at Z7 ⊢
            have HN7 := Lib.hid hn7
            clear hb SF s7 hn7 PR
            refine wpAnyH_take (i := 8) (v := .tuple #[.slice a7 n7 c7, .int .i64 (RE : Int)]) rfl (by kernel_rfl) (by kernel_rfl) (by kernel_rfl) (fun _ _ _ h => h) (Or.inl ⟨by kernel_rfl, fun w _ => by go_simp⟩) SG.out ?_
            refine wpAnyH_take (i := 9) (v := .slice a7 n7 c7) rfl (by kernel_rfl) (by kernel_rfl) (by kernel_rfl) (fun _ _ _ h => h) (Or.inl ⟨by kernel_rfl, fun w _ => by go_simp⟩) SG.out ?_
            refine wpAnyH_take (i := 10) (v := .int .i64 (RE : Int)) rfl (by kernel_rfl) (by kernel_rfl) (by kernel_rfl) (fun _ _ _ h => h) (Or.inl ⟨by kernel_rfl, fun w _ => by go_simp⟩) SG.out ?_
            refine held_one 11 rfl rfl (by kernel_rfl) fun K hK => ?_
            go_simp
            refine hK _ _ SG.out ?_
            clear hK K
            refine held_one 12 rfl rfl (by kernel_rfl) fun K hK => ?_
            go_simp
            refine hK _ _ SG.out ?_
            clear hK K
            refine wpAnyH_done (by kernel_rfl) ?_ _
            unfold onlyN
            dsimp only
            have HXG := Lib.hid (SG.out.box _ (List.mem_cons_self ..))
            have HZG := Lib.hid (SG.out.box _ (List.mem_cons_of_mem _ (List.mem_cons_self ..)))
            have RGG := Lib.hid (rng3_below RG9.out SG.out.bel)
            have DDG := Lib.hid (dv_below DD9.out SG.out.bel)
            have BG := Lib.hid (btA B9.out SG.out.bel)
            clear SG HX9 HZ RG9 DD9 B9
            have QR := Lib.hid (rread_any _ d s HSS.out wG DDG.out rx ry HXY.out.1 HXY.out.2)
            rw [← HRD.out.1, ← HRD.out.2] at QR
            obtain ⟨x0, x1, x2⟩ := box3c HXG.out
            have y0 := cell_of_row _ gz 0 _ _ _ HZG.out
            have y1 := cell_of_row _ gz 1 _ _ _ HZG.out
            go_wp2_with fail
            clear x0 x1 x2 y0 y1
            refine QR.out.mono ?_
            rintro e wH ⟨⟨v8, rfl, s8⟩, hb⟩
            obtain ⟨a8, c8, rfl, -, -⟩ := sl_form s8
            have z2 := conv_sl s8
            have z1 := conv_sl (sl_below Z7.out (by rw [HN7.out] at *; exact hb))
            have RGH := Lib.hid (rng3_below RGG.out hb)
            have BH := Lib.hid (btA BG.out hb)
            rw [← HN7.out] at *
            clear s8 hb QR RGG BG HXG HZG DDG Z7
            go_wp2_with fail
            clear z1 z2
            go_roundw
            case rel =>
              have h1 := H4.out
              exact ⟨k4 + 1, by omega, by rw [E4.out], RGH, BH⟩
            case measure =>
              have h1 := H4.out
              rw [E4.out]
              simp [intOf]; omega
end Go.Proofs.Ytecneepgmpoepaa.Gf
