/- What is proved here: the walk of the law JournalCodes, over what it asks of the program. No condition. -/
import Derived.Test.YtbkhedfhnmkodaaDoorLP14d
import Derived.Deep.Cut
namespace Go.Proofs.YtbkhedfhnmkodaaDoor.Gf
open Go Go.Joins Go.ChangeShapes Go.WideShapes Go.ChangeAt Go.RowKit Go.Deep Go.Proofs.YtbkhedfhnmkodaaDoor.By Go.Proofs.YtbkhedfhnmkodaaDoor.Crc Go.Proofs.YtbkhedfhnmkodaaDoor.Qt

theorem meas4 (I : Nat) (h : I < 4) : 4 - (intOf (.int .i64 ((I : Int) + 1))).toNat < 4 - (intOf (.int .i64 (I : Int))).toNat := by
  show 4 - ((I : Int) + 1).toNat < 4 - (I : Int).toNat
  omega
theorem idx_at2 (n0 : Int) {n : Nat} (h0 : 1 ≤ n) (h1 : n ≤ 1000) : ∃ (i : Nat) (t x : Int), n0.tmod (n : Int) = t ∧ wrap64 t = t ∧ wrap64 (t + (n : Int)) = x ∧ x.tmod (n : Int) = (i : Int) ∧ wrap64 (i : Int) = (i : Int) ∧ i < n := by
  have h1 := Int.tmod_lt_of_pos n0 (b := (n : Int)) (by omega)
  have h2 := Int.lt_tmod_of_pos n0 (b := (n : Int)) (by omega)
  have h3 := Int.emod_lt_of_pos (n0.tmod (n : Int) + (n : Int)) (show (0 : Int) < (n : Int) by omega)
  have h4 := Int.emod_nonneg (n0.tmod (n : Int) + (n : Int)) (show (n : Int) ≠ 0 by omega)
  obtain ⟨t, ht⟩ : ∃ t, t = n0.tmod (n : Int) := ⟨_, rfl⟩
  rw [← ht] at h1 h2 h3 h4
  obtain ⟨c, hc⟩ : ∃ c : Nat, (c : Int) = (t + (n : Int)) % (n : Int) := ⟨((t + (n : Int)) % (n : Int)).toNat, Int.toNat_of_nonneg h4⟩
  rw [← hc] at h3 h4
  refine ⟨c, t, t + (n : Int), ht.symm, ?_, ?_, ?_, ?_, by omega⟩
  · clear ht hc
    unfold wrap64; omega
  · clear ht hc
    unfold wrap64; omega
  · rw [Int.tmod_eq_emod_of_nonneg (by omega), ← hc]
  · clear ht hc
    unfold wrap64; omega
set_option maxRecDepth 100000 in
set_option maxHeartbeats 12800000 in
theorem codes14_walk {Ok : World → Prop} (P : PC14 Ok) (v u : Value) (l m : List Nat) (n0 : Int) (x : Nat) (hx : x < 256) (w : World) (hw : Ok w) (s : UL w v l) (s2 : Sl w u m) : Calls Tryd.prog 3 #[v, u, .int .i64 n0, .int .u8 (x : Int)] w fun e w' => e = .returned (.bool true) ∧ Below w.heap.size w w' := by
  have CU := Lib.hid (cut_any v l w s)
  have HS0 := Lib.hid s
  have HKL := Lib.hid (cutL_le l)
  have AW := Lib.hid (fun W (h : Ok W) => awake14_any P W h)
  have ENC := Lib.hid (fun v l W (h : Ok W) (s : UL W v l) (hl : l.length ≤ 1000) => P.enc v l W h s hl)
  have DEC := Lib.hid (fun v l W (h : Ok W) (s : Sl W v l) (hl : l.length ≤ 1000000) => P.dec v l W h s hl)
  have ST := Lib.hid (fun (W W' : World) => P.st (w := W) (w' := W'))
  have HW := Lib.hid hw
  have HX := Lib.hid hx
  obtain ⟨a, c, rfl, -, -⟩ := ul_form s
  obtain ⟨ra, rc, rfl, hrc, -⟩ := sl_form s2
  have CU2 := Lib.hid (fun w1 (hb : Below w.heap.size w w1) => cut_any _ _ w1 (ul_below HS0.out hb))
  generalize cutL l = K at *
  generalize l.length = ln at *
  obtain ⟨rn, hrn⟩ : ∃ n, n = m.length := ⟨_, rfl⟩
  have hrc' : m.length ≤ rc := hrc
  have HT := Lib.hid (fun (h : 600 ≤ m.length) => sl_take (n := 600) s2 h)
  have S2 := Lib.hid s2
  rw [← hrn] at S2 ⊢
  have HRN := Lib.hid hrn
  clear P s s2 hw hx hrc
  by_cases h6 : 600 < rn
  case pos =>
    have l1 : decide ((600 : Int) < (rn : Int)) = true := decide_eq_true (by omega)
    have l2 : decide (600 < rn) = true := decide_eq_true h6
    have l3 : (600 : Int) ≤ (rc : Int) := by omega
    have SR := Lib.hid (HT.out (by omega))
    have HR := Lib.hid (show (m.take 600).length ≤ 600 by rw [List.length_take]; omega)
    generalize m.take 600 = R at *
    clear HT S2 HRN hrn hrc' h6
    go_enter Tryd.func3, Tryd.ntmps3
    go_wp2_with fail
    refine CU.out.mono ?_
    rintro e w0 ⟨⟨v2, rfl, hv2⟩, rfl⟩
    have SK := Lib.hid hv2
    obtain ⟨ak, ck, rfl, -, -⟩ := ul_form hv2
    obtain ⟨kn, hkn⟩ : ∃ n, n = K.length := ⟨_, rfl⟩
    have HKN := Lib.hid hkn
    rw [← hkn] at SK ⊢
    clear hv2 hkn
    go_wp2_with fail
    refine (rencode14_any _ K w SK.out (by have := HKL.out; omega)).mono ?_
    rintro e w1 ⟨⟨v1, rfl, ho1⟩, hb1⟩
    have S1 := Lib.hid ho1.sl
    have B1 := Lib.hid hb1
    have OK1 := Lib.hid (ST.out _ _ HW.out hb1)
    have SR1 := Lib.hid (sl_below SR.out hb1)
    obtain ⟨a1, c1, rfl, -, -⟩ := sl_form ho1.sl
    obtain ⟨L, hL⟩ : ∃ n, n = (encJ K).length := ⟨_, rfl⟩
    have HL := Lib.hid (show L = (encJ K).length ∧ L ≤ 720 from ⟨hL, by rw [hL, encJ_length]; have := HKL.out; omega⟩)
    rw [← hL] at S1 ⊢
    have CU1 := Lib.hid (cut_any _ _ w1 (ul_below HS0.out hb1))
    clear ho1 hb1 hL CU SR SK
    go_wp2_with fail
    refine wp_onlyN ?_
    refine wp_region_headsS (fun w' => Below w1.heap.size w1 w') [0, 4, 5] 4 (by kernel_rfl) (fun _ _ _ _ _ h => h.elim) (by kernel_rfl) (by rfl) (by rfl) (Below.refl _ _).drew ?_
    simp only [pickOps, List.filterMap_cons, List.filterMap_nil, List.getElem?_toArray, List.getElem?_cons_zero, List.getElem?_cons_succ]
    refine wpHeads_step (fun K hK => ?_)
    go_simp
    refine ⟨_, fun _ _ => rfl, hK _ ?_⟩
    clear hK K
    refine wpHeads_step (fun K hK => ?_)
    go_simp
    refine ⟨_, fun _ _ => rfl, hK _ ?_⟩
    clear hK K
    refine wpHeads_step (fun KK hKK => ?_)
    go_simp
    refine ⟨.string (strOf (encJ K)), fun w' hw' => by rw [conv_sl (sl_below S1.out hw')]; rfl, hKK _ ?_⟩
    clear hKK KK
    refine wpHeads_nil ?_
    refine held_gw 1 rfl (by kernel_rfl) (by kernel_rfl) fun KK hKK => ?_
    go_simp
    go_at_call 8
    refine (CU2.out _ B1.out.drew).mono ?_
    rintro e w2 ⟨⟨v2, rfl, hv2⟩, rfl⟩
    refine hKK _ _ (Below.refl w1.heap.size w1).drew ?_
    clear hKK KK
    refine held_gw 2 rfl (by kernel_rfl) (by kernel_rfl) fun KK hKK => ?_
    go_simp
    go_at_call 9
    refine (ENC.out _ K _ (ST.out _ _ OK1.out (Below.refl w1.heap.size w1).drew) hv2 (by have := HKL.out; omega)).mono ?_
    rintro e w3 ⟨⟨v3, rfl, ho3⟩, hb3⟩
    have hb4 : Below w1.heap.size w1 w3 := (Below.refl w1.heap.size w1).drew.trans (hb3.mono (Nat.le_refl _))
    refine hKK _ _ hb4 ?_
    clear hKK KK hb3 hv2
    obtain ⟨a3, n3, c3, rfl, -⟩ := own_form ho3
    have u1 := conv_sl ho3.sl
    refine held_gw 3 rfl (by kernel_rfl) (by kernel_rfl) fun KK hKK => ?_
    go_simp
    refine hKK _ _ hb4 ?_
    clear hKK KK
    refine held_gw 6 rfl (by kernel_rfl) (by kernel_rfl) fun KK hKK => ?_
    go_simp
    refine hKK _ _ hb4 ?_
    clear hKK KK
    refine wpAnyH_done (by kernel_rfl) ?_ _
    unfold onlyN
    dsimp only
    have B3 := Lib.hid (bt B1.out hb4)
    have OK3 := Lib.hid (ST.out _ _ OK1.out hb4)
    have S3 := Lib.hid (sl_below S1.out hb4)
    have SR3 := Lib.hid (sl_below SR1.out hb4)
    have OE := Lib.hid (own_empty w3 (Nat.le_refl w3.heap.size))
    have BE := Lib.hid (bel_al14 w3 (.cells #[] 5))
    have HLE : Hid (([] : List Nat).length + (encJ K).length ≤ 100000000) := by show _ ≤ _; rw [← HL.out.1]; have := HL.out; simp; omega
    clear ho3 u1 hb4 S1 SR1 B1 OK1 CU1 CU2
    go_upto_region 8 with (at_builtin; refine app_sl (dst := some 35) ?_ ?_ OE.out (sl_below S3.out BE.out) HLE.out BE.out.size ?_; exact rfl; exact rfl; intro v5 w5 ho5 hg5; rw [List.nil_append] at ho5; have B5 := Lib.hid (BE.out.grown hg5 BE.out.size fun q hq => OE.out.lt q hq); obtain ⟨a5, n5, c5, hv5, hn5⟩ := own_form ho5; rw [← HL.out.1] at hn5; subst hv5; have O5 := Lib.hid ho5; clear ho5 hg5)
    obtain rfl : n5 = L := hn5
    clear OE BE HLE
    by_cases hL0 : 0 < n5
    case neg =>
      have z1 : decide ((0 : Int) < (n5 : Int)) = false := decide_eq_false (by omega)
      have z2 : decide (0 < n5) = false := decide_eq_false hL0
      clear hL0
      go_upto_region 10 with fail
      obtain ⟨M, hM⟩ : ∃ M, M = encJ K := ⟨_, rfl⟩
      have HM : Hid (M.length ≤ 720) := by show _ ≤ _; rw [hM, ← HL.out.1]; exact HL.out.2
      have O6 := O5
      rw [← hM] at O6
      have B6 := B5
      clear B5 O5 z1 z2 hM
      obtain ⟨w6, hw6⟩ : ∃ W, W = w5 := ⟨_, rfl⟩
      rw [← hw6] at O6 B6 ⊢
      clear hw6
      have OF := Lib.hid (own_empty w6 (Nat.le_refl w6.heap.size))
      have BF := Lib.hid (bel_al14 w6 (.cells #[] 5))
      have S6 := Lib.hid (sl_below S3.out B6.out)
      have R6 := Lib.hid (sl_below SR3.out B6.out)
      have H1 : Hid (([] : List Nat).length + (encJ K).length ≤ 100000000) := by show _ ≤ _; rw [← HL.out.1]; have := HL.out; simp; omega
      have H2 : Hid ((encJ K).length + R.length ≤ 100000000) := by show _ ≤ _; rw [← HL.out.1]; have h1 := HL.out; have h2 := HR.out; omega
      go_wp2_with (first
        | (at_builtin; refine app_sl (dst := some 55) ?_ ?_ OF.out (sl_below S6.out BF.out) H1.out BF.out.size ?_; exact rfl; exact rfl; intro v7 w7 ho7 hg7; rw [List.nil_append] at ho7; have B7 := Lib.hid (BF.out.grown hg7 BF.out.size fun q hq => OF.out.lt q hq); obtain ⟨a7, n7, c7, hv7, -⟩ := own_form ho7; subst hv7; have O7 := Lib.hid ho7; clear ho7 hg7)
        | (at_builtin; refine app_sl (dst := some 57) ?_ ?_ O7.out (sl_below R6.out B7.out) H2.out B7.out.size ?_; exact rfl; exact rfl; intro v8 w8 ho8 hg8; have B8 := Lib.hid (B7.out.grown hg8 B7.out.size fun q hq => O7.out.lt q hq); obtain ⟨a8, n8, c8, hv8, -⟩ := own_form ho8; subst hv8; have O8 := Lib.hid ho8; clear ho8 hg8))
      have hh := heap_alloc_new w8 (.cells #[.slice ra 600 rc, .slice a1 n5 c1, .slice a5 n5 c5, .slice a8 n8 c8] 23)
      have B9 := bel_al14 w8 (.cells #[.slice ra 600 rc, .slice a1 n5 c1, .slice a5 n5 c5, .slice a8 n8 c8] 23)
      have B69 := bt B8.out B9
      have EX : Hid (∀ j, j < 4 → ∃ a n c l, (w8.alloc (.cells #[.slice ra 600 rc, .slice a1 n5 c1, .slice a5 n5 c5, .slice a8 n8 c8] 23)).cell? ⟨w8.heap.size, j, none⟩ = some (.slice a n c) ∧ Sl (w8.alloc (.cells #[.slice ra 600 rc, .slice a1 n5 c1, .slice a5 n5 c5, .slice a8 n8 c8] 23)) (.slice a n c) l ∧ l.length ≤ 1000000) := by
        intro j hj
        match j, hj with
        | 0, _ => exact ⟨_, _, _, R, by rw [cell_of_row _ _ 0 _ _ _ hh]; rfl, sl_below R6.out B69, by have := HR.out; omega⟩
        | 1, _ => exact ⟨_, _, _, encJ K, by rw [cell_of_row _ _ 1 _ _ _ hh]; rfl, sl_below S6.out B69, by have := HL.out; omega⟩
        | 2, _ => exact ⟨_, _, _, M, by rw [cell_of_row _ _ 2 _ _ _ hh]; rfl, sl_below O6.out.sl B69, by have := HM.out; omega⟩
        | 3, _ => exact ⟨_, _, _, encJ K ++ R, by rw [cell_of_row _ _ 3 _ _ _ hh]; rfl, sl_below O8.out.sl B9, by rw [List.length_append]; have h1 := HL.out; have h2 := HR.out; omega⟩
        | j + 4, h => omega
      have BW9 := Lib.hid (bt (bt B3.out B6.out) B69)
      have OK9 := Lib.hid (ST.out _ _ HW.out BW9.out)
      clear hh B9 B69 B8 B6 O6 O8 S6 R6 OF BF H1 H2 B7 O7 S3 SR3 B3 OK3
      generalize w8.alloc (.cells #[.slice ra 600 rc, .slice a1 n5 c1, .slice a5 n5 c5, .slice a8 n8 c8] 23) = w9 at *
      generalize w8.heap.size = g9 at *
      go_loopw [60] (fun r wr => ∃ j : Nat, j ≤ 4 ∧ r = .int .i64 (j : Int) ∧ Hid (Below w9.heap.size w9 wr)) (fun r _ => 4 - (intOf r).toNat)
      case atStart => exact ⟨0, by omega, rfl, Lib.hid (Below.refl _ _)⟩
      case round =>
        obtain ⟨j, hj, rfl, HB⟩ := hrel
        rename World => wl
        have OKl := Lib.hid (ST.out _ _ OK9.out HB.out)
        by_cases hj4 : j < 4
        · obtain ⟨sa, sn, sc, sl, hcell, hsl, hlen⟩ := EX.out j hj4
          have hcw := (HB.out.cell (p := ⟨g9, j, none⟩) (block_lt_of_cell hcell)).trans hcell
          have SL := Lib.hid (sl_below hsl HB.out)
          have HLN := Lib.hid hlen
          have j1 : decide ((j : Int) < 4) = true := decide_eq_true (by omega)
          have j2 : (0 : Int) ≤ (j : Int) := by omega
          have j3 : (j : Int) < 4 := by omega
          clear hsl hcell hlen
          go_wp2_with fail
          refine (DEC.out _ sl wl OKl.out SL.out HLN.out).mono ?_
          rintro e wa ⟨⟨n, va, rfl, hd, ho⟩, hb⟩
          have UA := Lib.hid (owu_ul ho)
          obtain ⟨aa, ca, rfl⟩ := owu_form ho
          have HDD := Lib.hid hd
          have BA := Lib.hid (bt HB.out hb)
          have SLA := Lib.hid (sl_below SL.out hb)
          rw [keysJ_length] at UA ⊢
          clear hd ho hb hcw
          go_wp2_with fail
          refine (rdecode14_any _ sl wa SLA.out HLN.out).mono ?_
          rintro e wb ⟨⟨n', vb, rfl, hd', ho'⟩, hb'⟩
          obtain rfl := decJ_uniq HDD.out hd'
          have UBB := Lib.hid (owu_ul ho')
          obtain ⟨ab, cb, rfl⟩ := owu_form ho'
          have UA2 := Lib.hid (ul_below UA.out hb')
          have BB := Lib.hid (bt BA.out hb')
          rw [keysJ_length] at UBB ⊢
          clear hd' ho' hb' UA BA SLA
          go_wp2_with fail
          refine (rsame14_any _ _ _ _ wb UA2.out UBB.out).mono ?_
          rintro e wc ⟨rfl, hb3⟩
          rw [decide_eq_true rfl]
          have BC := Lib.hid (bt BB.out hb3)
          clear hb3 UA2 UBB BB
          go_wp2_with fail
          go_roundw
          case rel => exact ⟨j + 1, by omega, by go_num, BC⟩
          case measure => exact meas4 j hj4
        · obtain rfl : j = 4 := by omega
          go_wp2_with fail
          refine (AW.out wl OKl.out).mono ?_
          rintro e wz ⟨rfl, hbz⟩
          go_wp2_with fail
          go_ret
          exact ⟨rfl, bt (bt BW9.out HB.out) hbz⟩
    case pos =>
      obtain ⟨g5, c6, hv5, -⟩ := own_pos O5.out (by rw [← HL.out.1]; exact hL0)
      rw [← HL.out.1] at hv5
      obtain ⟨rfl, rfl⟩ : a5 = some ⟨g5, 0, none⟩ ∧ c5 = c6 := by simpa using hv5
      obtain ⟨q, t, y, u1, u2, u3, u4, u5, hq⟩ := idx_at2 n0 (n := n5) hL0 (by have := HL.out; omega)
      have HU := Lib.hid (And.intro u1 (And.intro u2 (And.intro u3 (And.intro u4 u5))))
      clear u1 u2 u3 u4 u5 hv5
      have z1 : decide ((0 : Int) < (n5 : Int)) = true := decide_eq_true (by omega)
      have z2 : decide (0 < n5) = true := decide_eq_true hL0
      have z3 : ((n5 : Int) == 0) = false := beq_false_of_ne (by omega)
      have z4 : ¬ n5 = 0 := by omega
      have z5 : (0 : Int) ≤ (q : Int) := by omega
      have z6 : (q : Int) < (n5 : Int) := by omega
      obtain ⟨hc, hfz, hbg⟩ := own_cell O5.out HL.out.1.symm hq
      have O6 := Lib.hid (own_set O5.out HL.out.1.symm hq HX.out)
      have B6 := Lib.hid (B5.out.setCell (p := ⟨g5, q, none⟩) hbg (.int .u8 (x : Int)))
      obtain ⟨M, hM⟩ : ∃ M, M = (encJ K).set q x := ⟨_, rfl⟩
      have HM : Hid (M.length ≤ 720) := by show _ ≤ _; rw [hM, List.length_set, ← HL.out.1]; exact HL.out.2
      rw [← hM] at O6
      obtain ⟨u1, u2, u3, u4, u5⟩ := HU.out
      clear hL0 B5 O5 hM hq
      go_upto_region 10 with fail
      clear hc hfz hbg u1 u2 u3 u4 u5 z1 z2 z3 z4 z5 z6
      obtain ⟨w6, hw6⟩ : ∃ W, W = w5.setCell ⟨g5, q, none⟩ (.int .u8 (x : Int)) := ⟨_, rfl⟩
      rw [← hw6] at O6 B6 ⊢
      clear hw6
      have OF := Lib.hid (own_empty w6 (Nat.le_refl w6.heap.size))
      have BF := Lib.hid (bel_al14 w6 (.cells #[] 5))
      have S6 := Lib.hid (sl_below S3.out B6.out)
      have R6 := Lib.hid (sl_below SR3.out B6.out)
      have H1 : Hid (([] : List Nat).length + (encJ K).length ≤ 100000000) := by show _ ≤ _; rw [← HL.out.1]; have := HL.out; simp; omega
      have H2 : Hid ((encJ K).length + R.length ≤ 100000000) := by show _ ≤ _; rw [← HL.out.1]; have h1 := HL.out; have h2 := HR.out; omega
      go_wp2_with (first
        | (at_builtin; refine app_sl (dst := some 55) ?_ ?_ OF.out (sl_below S6.out BF.out) H1.out BF.out.size ?_; exact rfl; exact rfl; intro v7 w7 ho7 hg7; rw [List.nil_append] at ho7; have B7 := Lib.hid (BF.out.grown hg7 BF.out.size fun q hq => OF.out.lt q hq); obtain ⟨a7, n7, c7, hv7, -⟩ := own_form ho7; subst hv7; have O7 := Lib.hid ho7; clear ho7 hg7)
        | (at_builtin; refine app_sl (dst := some 57) ?_ ?_ O7.out (sl_below R6.out B7.out) H2.out B7.out.size ?_; exact rfl; exact rfl; intro v8 w8 ho8 hg8; have B8 := Lib.hid (B7.out.grown hg8 B7.out.size fun q hq => O7.out.lt q hq); obtain ⟨a8, n8, c8, hv8, -⟩ := own_form ho8; subst hv8; have O8 := Lib.hid ho8; clear ho8 hg8))
      have hh := heap_alloc_new w8 (.cells #[.slice ra 600 rc, .slice a1 n5 c1, .slice (some ⟨g5, 0, none⟩) n5 c5, .slice a8 n8 c8] 23)
      have B9 := bel_al14 w8 (.cells #[.slice ra 600 rc, .slice a1 n5 c1, .slice (some ⟨g5, 0, none⟩) n5 c5, .slice a8 n8 c8] 23)
      have B69 := bt B8.out B9
      have EX : Hid (∀ j, j < 4 → ∃ a n c l, (w8.alloc (.cells #[.slice ra 600 rc, .slice a1 n5 c1, .slice (some ⟨g5, 0, none⟩) n5 c5, .slice a8 n8 c8] 23)).cell? ⟨w8.heap.size, j, none⟩ = some (.slice a n c) ∧ Sl (w8.alloc (.cells #[.slice ra 600 rc, .slice a1 n5 c1, .slice (some ⟨g5, 0, none⟩) n5 c5, .slice a8 n8 c8] 23)) (.slice a n c) l ∧ l.length ≤ 1000000) := by
        intro j hj
        match j, hj with
        | 0, _ => exact ⟨_, _, _, R, by rw [cell_of_row _ _ 0 _ _ _ hh]; rfl, sl_below R6.out B69, by have := HR.out; omega⟩
        | 1, _ => exact ⟨_, _, _, encJ K, by rw [cell_of_row _ _ 1 _ _ _ hh]; rfl, sl_below S6.out B69, by have := HL.out; omega⟩
        | 2, _ => exact ⟨_, _, _, M, by rw [cell_of_row _ _ 2 _ _ _ hh]; rfl, sl_below O6.out.sl B69, by have := HM.out; omega⟩
        | 3, _ => exact ⟨_, _, _, encJ K ++ R, by rw [cell_of_row _ _ 3 _ _ _ hh]; rfl, sl_below O8.out.sl B9, by rw [List.length_append]; have h1 := HL.out; have h2 := HR.out; omega⟩
        | j + 4, h => omega
      have BW9 := Lib.hid (bt (bt B3.out B6.out) B69)
      have OK9 := Lib.hid (ST.out _ _ HW.out BW9.out)
      clear hh B9 B69 B8 B6 O6 O8 S6 R6 OF BF H1 H2 B7 O7 S3 SR3 B3 OK3
      generalize w8.alloc (.cells #[.slice ra 600 rc, .slice a1 n5 c1, .slice (some ⟨g5, 0, none⟩) n5 c5, .slice a8 n8 c8] 23) = w9 at *
      generalize w8.heap.size = g9 at *
      go_loopw [60] (fun r wr => ∃ j : Nat, j ≤ 4 ∧ r = .int .i64 (j : Int) ∧ Hid (Below w9.heap.size w9 wr)) (fun r _ => 4 - (intOf r).toNat)
      case atStart => exact ⟨0, by omega, rfl, Lib.hid (Below.refl _ _)⟩
      case round =>
        obtain ⟨j, hj, rfl, HB⟩ := hrel
        rename World => wl
        have OKl := Lib.hid (ST.out _ _ OK9.out HB.out)
        by_cases hj4 : j < 4
        · obtain ⟨sa, sn, sc, sl, hcell, hsl, hlen⟩ := EX.out j hj4
          have hcw := (HB.out.cell (p := ⟨g9, j, none⟩) (block_lt_of_cell hcell)).trans hcell
          have SL := Lib.hid (sl_below hsl HB.out)
          have HLN := Lib.hid hlen
          have j1 : decide ((j : Int) < 4) = true := decide_eq_true (by omega)
          have j2 : (0 : Int) ≤ (j : Int) := by omega
          have j3 : (j : Int) < 4 := by omega
          clear hsl hcell hlen
          go_wp2_with fail
          refine (DEC.out _ sl wl OKl.out SL.out HLN.out).mono ?_
          rintro e wa ⟨⟨n, va, rfl, hd, ho⟩, hb⟩
          have UA := Lib.hid (owu_ul ho)
          obtain ⟨aa, ca, rfl⟩ := owu_form ho
          have HDD := Lib.hid hd
          have BA := Lib.hid (bt HB.out hb)
          have SLA := Lib.hid (sl_below SL.out hb)
          rw [keysJ_length] at UA ⊢
          clear hd ho hb hcw
          go_wp2_with fail
          refine (rdecode14_any _ sl wa SLA.out HLN.out).mono ?_
          rintro e wb ⟨⟨n', vb, rfl, hd', ho'⟩, hb'⟩
          obtain rfl := decJ_uniq HDD.out hd'
          have UBB := Lib.hid (owu_ul ho')
          obtain ⟨ab, cb, rfl⟩ := owu_form ho'
          have UA2 := Lib.hid (ul_below UA.out hb')
          have BB := Lib.hid (bt BA.out hb')
          rw [keysJ_length] at UBB ⊢
          clear hd' ho' hb' UA BA SLA
          go_wp2_with fail
          refine (rsame14_any _ _ _ _ wb UA2.out UBB.out).mono ?_
          rintro e wc ⟨rfl, hb3⟩
          rw [decide_eq_true rfl]
          have BC := Lib.hid (bt BB.out hb3)
          clear hb3 UA2 UBB BB
          go_wp2_with fail
          go_roundw
          case rel => exact ⟨j + 1, by omega, by go_num, BC⟩
          case measure => exact meas4 j hj4
        · obtain rfl : j = 4 := by omega
          go_wp2_with fail
          refine (AW.out wl OKl.out).mono ?_
          rintro e wz ⟨rfl, hbz⟩
          go_wp2_with fail
          go_ret
          exact ⟨rfl, bt (bt BW9.out HB.out) hbz⟩
  case neg =>
    have l1 : decide ((600 : Int) < (rn : Int)) = false := decide_eq_false (by omega)
    have l2 : decide (600 < rn) = false := decide_eq_false h6
    have SR := S2
    have HR := Lib.hid (show m.length ≤ 600 by omega)
    obtain ⟨R, hR⟩ : ∃ R, R = m := ⟨_, rfl⟩
    rw [← hR] at SR HR
    clear hR HT S2 HRN hrn hrc' h6
    go_enter Tryd.func3, Tryd.ntmps3
    go_wp2_with fail
    refine CU.out.mono ?_
    rintro e w0 ⟨⟨v2, rfl, hv2⟩, rfl⟩
    have SK := Lib.hid hv2
    obtain ⟨ak, ck, rfl, -, -⟩ := ul_form hv2
    obtain ⟨kn, hkn⟩ : ∃ n, n = K.length := ⟨_, rfl⟩
    have HKN := Lib.hid hkn
    rw [← hkn] at SK ⊢
    clear hv2 hkn
    go_wp2_with fail
    refine (rencode14_any _ K w SK.out (by have := HKL.out; omega)).mono ?_
    rintro e w1 ⟨⟨v1, rfl, ho1⟩, hb1⟩
    have S1 := Lib.hid ho1.sl
    have B1 := Lib.hid hb1
    have OK1 := Lib.hid (ST.out _ _ HW.out hb1)
    have SR1 := Lib.hid (sl_below SR.out hb1)
    obtain ⟨a1, c1, rfl, -, -⟩ := sl_form ho1.sl
    obtain ⟨L, hL⟩ : ∃ n, n = (encJ K).length := ⟨_, rfl⟩
    have HL := Lib.hid (show L = (encJ K).length ∧ L ≤ 720 from ⟨hL, by rw [hL, encJ_length]; have := HKL.out; omega⟩)
    rw [← hL] at S1 ⊢
    have CU1 := Lib.hid (cut_any _ _ w1 (ul_below HS0.out hb1))
    clear ho1 hb1 hL CU SR SK
    go_wp2_with fail
    refine wp_onlyN ?_
    refine wp_region_headsS (fun w' => Below w1.heap.size w1 w') [0, 4, 5] 4 (by kernel_rfl) (fun _ _ _ _ _ h => h.elim) (by kernel_rfl) (by rfl) (by rfl) (Below.refl _ _).drew ?_
    simp only [pickOps, List.filterMap_cons, List.filterMap_nil, List.getElem?_toArray, List.getElem?_cons_zero, List.getElem?_cons_succ]
    refine wpHeads_step (fun K hK => ?_)
    go_simp
    refine ⟨_, fun _ _ => rfl, hK _ ?_⟩
    clear hK K
    refine wpHeads_step (fun K hK => ?_)
    go_simp
    refine ⟨_, fun _ _ => rfl, hK _ ?_⟩
    clear hK K
    refine wpHeads_step (fun KK hKK => ?_)
    go_simp
    refine ⟨.string (strOf (encJ K)), fun w' hw' => by rw [conv_sl (sl_below S1.out hw')]; rfl, hKK _ ?_⟩
    clear hKK KK
    refine wpHeads_nil ?_
    refine held_gw 1 rfl (by kernel_rfl) (by kernel_rfl) fun KK hKK => ?_
    go_simp
    go_at_call 8
    refine (CU2.out _ B1.out.drew).mono ?_
    rintro e w2 ⟨⟨v2, rfl, hv2⟩, rfl⟩
    refine hKK _ _ (Below.refl w1.heap.size w1).drew ?_
    clear hKK KK
    refine held_gw 2 rfl (by kernel_rfl) (by kernel_rfl) fun KK hKK => ?_
    go_simp
    go_at_call 9
    refine (ENC.out _ K _ (ST.out _ _ OK1.out (Below.refl w1.heap.size w1).drew) hv2 (by have := HKL.out; omega)).mono ?_
    rintro e w3 ⟨⟨v3, rfl, ho3⟩, hb3⟩
    have hb4 : Below w1.heap.size w1 w3 := (Below.refl w1.heap.size w1).drew.trans (hb3.mono (Nat.le_refl _))
    refine hKK _ _ hb4 ?_
    clear hKK KK hb3 hv2
    obtain ⟨a3, n3, c3, rfl, -⟩ := own_form ho3
    have u1 := conv_sl ho3.sl
    refine held_gw 3 rfl (by kernel_rfl) (by kernel_rfl) fun KK hKK => ?_
    go_simp
    refine hKK _ _ hb4 ?_
    clear hKK KK
    refine held_gw 6 rfl (by kernel_rfl) (by kernel_rfl) fun KK hKK => ?_
    go_simp
    refine hKK _ _ hb4 ?_
    clear hKK KK
    refine wpAnyH_done (by kernel_rfl) ?_ _
    unfold onlyN
    dsimp only
    have B3 := Lib.hid (bt B1.out hb4)
    have OK3 := Lib.hid (ST.out _ _ OK1.out hb4)
    have S3 := Lib.hid (sl_below S1.out hb4)
    have SR3 := Lib.hid (sl_below SR1.out hb4)
    have OE := Lib.hid (own_empty w3 (Nat.le_refl w3.heap.size))
    have BE := Lib.hid (bel_al14 w3 (.cells #[] 5))
    have HLE : Hid (([] : List Nat).length + (encJ K).length ≤ 100000000) := by show _ ≤ _; rw [← HL.out.1]; have := HL.out; simp; omega
    clear ho3 u1 hb4 S1 SR1 B1 OK1 CU1 CU2
    go_upto_region 8 with (at_builtin; refine app_sl (dst := some 35) ?_ ?_ OE.out (sl_below S3.out BE.out) HLE.out BE.out.size ?_; exact rfl; exact rfl; intro v5 w5 ho5 hg5; rw [List.nil_append] at ho5; have B5 := Lib.hid (BE.out.grown hg5 BE.out.size fun q hq => OE.out.lt q hq); obtain ⟨a5, n5, c5, hv5, hn5⟩ := own_form ho5; rw [← HL.out.1] at hn5; subst hv5; have O5 := Lib.hid ho5; clear ho5 hg5)
    obtain rfl : n5 = L := hn5
    clear OE BE HLE
    by_cases hL0 : 0 < n5
    case neg =>
      have z1 : decide ((0 : Int) < (n5 : Int)) = false := decide_eq_false (by omega)
      have z2 : decide (0 < n5) = false := decide_eq_false hL0
      clear hL0
      go_upto_region 10 with fail
      obtain ⟨M, hM⟩ : ∃ M, M = encJ K := ⟨_, rfl⟩
      have HM : Hid (M.length ≤ 720) := by show _ ≤ _; rw [hM, ← HL.out.1]; exact HL.out.2
      have O6 := O5
      rw [← hM] at O6
      have B6 := B5
      clear B5 O5 z1 z2 hM
      obtain ⟨w6, hw6⟩ : ∃ W, W = w5 := ⟨_, rfl⟩
      rw [← hw6] at O6 B6 ⊢
      clear hw6
      have OF := Lib.hid (own_empty w6 (Nat.le_refl w6.heap.size))
      have BF := Lib.hid (bel_al14 w6 (.cells #[] 5))
      have S6 := Lib.hid (sl_below S3.out B6.out)
      have R6 := Lib.hid (sl_below SR3.out B6.out)
      have H1 : Hid (([] : List Nat).length + (encJ K).length ≤ 100000000) := by show _ ≤ _; rw [← HL.out.1]; have := HL.out; simp; omega
      have H2 : Hid ((encJ K).length + R.length ≤ 100000000) := by show _ ≤ _; rw [← HL.out.1]; have h1 := HL.out; have h2 := HR.out; omega
      go_wp2_with (first
        | (at_builtin; refine app_sl (dst := some 55) ?_ ?_ OF.out (sl_below S6.out BF.out) H1.out BF.out.size ?_; exact rfl; exact rfl; intro v7 w7 ho7 hg7; rw [List.nil_append] at ho7; have B7 := Lib.hid (BF.out.grown hg7 BF.out.size fun q hq => OF.out.lt q hq); obtain ⟨a7, n7, c7, hv7, -⟩ := own_form ho7; subst hv7; have O7 := Lib.hid ho7; clear ho7 hg7)
        | (at_builtin; refine app_sl (dst := some 57) ?_ ?_ O7.out (sl_below R6.out B7.out) H2.out B7.out.size ?_; exact rfl; exact rfl; intro v8 w8 ho8 hg8; have B8 := Lib.hid (B7.out.grown hg8 B7.out.size fun q hq => O7.out.lt q hq); obtain ⟨a8, n8, c8, hv8, -⟩ := own_form ho8; subst hv8; have O8 := Lib.hid ho8; clear ho8 hg8))
      have hh := heap_alloc_new w8 (.cells #[.slice ra rn rc, .slice a1 n5 c1, .slice a5 n5 c5, .slice a8 n8 c8] 23)
      have B9 := bel_al14 w8 (.cells #[.slice ra rn rc, .slice a1 n5 c1, .slice a5 n5 c5, .slice a8 n8 c8] 23)
      have B69 := bt B8.out B9
      have EX : Hid (∀ j, j < 4 → ∃ a n c l, (w8.alloc (.cells #[.slice ra rn rc, .slice a1 n5 c1, .slice a5 n5 c5, .slice a8 n8 c8] 23)).cell? ⟨w8.heap.size, j, none⟩ = some (.slice a n c) ∧ Sl (w8.alloc (.cells #[.slice ra rn rc, .slice a1 n5 c1, .slice a5 n5 c5, .slice a8 n8 c8] 23)) (.slice a n c) l ∧ l.length ≤ 1000000) := by
        intro j hj
        match j, hj with
        | 0, _ => exact ⟨_, _, _, R, by rw [cell_of_row _ _ 0 _ _ _ hh]; rfl, sl_below R6.out B69, by have := HR.out; omega⟩
        | 1, _ => exact ⟨_, _, _, encJ K, by rw [cell_of_row _ _ 1 _ _ _ hh]; rfl, sl_below S6.out B69, by have := HL.out; omega⟩
        | 2, _ => exact ⟨_, _, _, M, by rw [cell_of_row _ _ 2 _ _ _ hh]; rfl, sl_below O6.out.sl B69, by have := HM.out; omega⟩
        | 3, _ => exact ⟨_, _, _, encJ K ++ R, by rw [cell_of_row _ _ 3 _ _ _ hh]; rfl, sl_below O8.out.sl B9, by rw [List.length_append]; have h1 := HL.out; have h2 := HR.out; omega⟩
        | j + 4, h => omega
      have BW9 := Lib.hid (bt (bt B3.out B6.out) B69)
      have OK9 := Lib.hid (ST.out _ _ HW.out BW9.out)
      clear hh B9 B69 B8 B6 O6 O8 S6 R6 OF BF H1 H2 B7 O7 S3 SR3 B3 OK3
      generalize w8.alloc (.cells #[.slice ra rn rc, .slice a1 n5 c1, .slice a5 n5 c5, .slice a8 n8 c8] 23) = w9 at *
      generalize w8.heap.size = g9 at *
      go_loopw [60] (fun r wr => ∃ j : Nat, j ≤ 4 ∧ r = .int .i64 (j : Int) ∧ Hid (Below w9.heap.size w9 wr)) (fun r _ => 4 - (intOf r).toNat)
      case atStart => exact ⟨0, by omega, rfl, Lib.hid (Below.refl _ _)⟩
      case round =>
        obtain ⟨j, hj, rfl, HB⟩ := hrel
        rename World => wl
        have OKl := Lib.hid (ST.out _ _ OK9.out HB.out)
        by_cases hj4 : j < 4
        · obtain ⟨sa, sn, sc, sl, hcell, hsl, hlen⟩ := EX.out j hj4
          have hcw := (HB.out.cell (p := ⟨g9, j, none⟩) (block_lt_of_cell hcell)).trans hcell
          have SL := Lib.hid (sl_below hsl HB.out)
          have HLN := Lib.hid hlen
          have j1 : decide ((j : Int) < 4) = true := decide_eq_true (by omega)
          have j2 : (0 : Int) ≤ (j : Int) := by omega
          have j3 : (j : Int) < 4 := by omega
          clear hsl hcell hlen
          go_wp2_with fail
          refine (DEC.out _ sl wl OKl.out SL.out HLN.out).mono ?_
          rintro e wa ⟨⟨n, va, rfl, hd, ho⟩, hb⟩
          have UA := Lib.hid (owu_ul ho)
          obtain ⟨aa, ca, rfl⟩ := owu_form ho
          have HDD := Lib.hid hd
          have BA := Lib.hid (bt HB.out hb)
          have SLA := Lib.hid (sl_below SL.out hb)
          rw [keysJ_length] at UA ⊢
          clear hd ho hb hcw
          go_wp2_with fail
          refine (rdecode14_any _ sl wa SLA.out HLN.out).mono ?_
          rintro e wb ⟨⟨n', vb, rfl, hd', ho'⟩, hb'⟩
          obtain rfl := decJ_uniq HDD.out hd'
          have UBB := Lib.hid (owu_ul ho')
          obtain ⟨ab, cb, rfl⟩ := owu_form ho'
          have UA2 := Lib.hid (ul_below UA.out hb')
          have BB := Lib.hid (bt BA.out hb')
          rw [keysJ_length] at UBB ⊢
          clear hd' ho' hb' UA BA SLA
          go_wp2_with fail
          refine (rsame14_any _ _ _ _ wb UA2.out UBB.out).mono ?_
          rintro e wc ⟨rfl, hb3⟩
          rw [decide_eq_true rfl]
          have BC := Lib.hid (bt BB.out hb3)
          clear hb3 UA2 UBB BB
          go_wp2_with fail
          go_roundw
          case rel => exact ⟨j + 1, by omega, by go_num, BC⟩
          case measure => exact meas4 j hj4
        · obtain rfl : j = 4 := by omega
          go_wp2_with fail
          refine (AW.out wl OKl.out).mono ?_
          rintro e wz ⟨rfl, hbz⟩
          go_wp2_with fail
          go_ret
          exact ⟨rfl, bt (bt BW9.out HB.out) hbz⟩
    case pos =>
      obtain ⟨g5, c6, hv5, -⟩ := own_pos O5.out (by rw [← HL.out.1]; exact hL0)
      rw [← HL.out.1] at hv5
      obtain ⟨rfl, rfl⟩ : a5 = some ⟨g5, 0, none⟩ ∧ c5 = c6 := by simpa using hv5
      obtain ⟨q, t, y, u1, u2, u3, u4, u5, hq⟩ := idx_at2 n0 (n := n5) hL0 (by have := HL.out; omega)
      have HU := Lib.hid (And.intro u1 (And.intro u2 (And.intro u3 (And.intro u4 u5))))
      clear u1 u2 u3 u4 u5 hv5
      have z1 : decide ((0 : Int) < (n5 : Int)) = true := decide_eq_true (by omega)
      have z2 : decide (0 < n5) = true := decide_eq_true hL0
      have z3 : ((n5 : Int) == 0) = false := beq_false_of_ne (by omega)
      have z4 : ¬ n5 = 0 := by omega
      have z5 : (0 : Int) ≤ (q : Int) := by omega
      have z6 : (q : Int) < (n5 : Int) := by omega
      obtain ⟨hc, hfz, hbg⟩ := own_cell O5.out HL.out.1.symm hq
      have O6 := Lib.hid (own_set O5.out HL.out.1.symm hq HX.out)
      have B6 := Lib.hid (B5.out.setCell (p := ⟨g5, q, none⟩) hbg (.int .u8 (x : Int)))
      obtain ⟨M, hM⟩ : ∃ M, M = (encJ K).set q x := ⟨_, rfl⟩
      have HM : Hid (M.length ≤ 720) := by show _ ≤ _; rw [hM, List.length_set, ← HL.out.1]; exact HL.out.2
      rw [← hM] at O6
      obtain ⟨u1, u2, u3, u4, u5⟩ := HU.out
      clear hL0 B5 O5 hM hq
      go_upto_region 10 with fail
      clear hc hfz hbg u1 u2 u3 u4 u5 z1 z2 z3 z4 z5 z6
      obtain ⟨w6, hw6⟩ : ∃ W, W = w5.setCell ⟨g5, q, none⟩ (.int .u8 (x : Int)) := ⟨_, rfl⟩
      rw [← hw6] at O6 B6 ⊢
      clear hw6
      have OF := Lib.hid (own_empty w6 (Nat.le_refl w6.heap.size))
      have BF := Lib.hid (bel_al14 w6 (.cells #[] 5))
      have S6 := Lib.hid (sl_below S3.out B6.out)
      have R6 := Lib.hid (sl_below SR3.out B6.out)
      have H1 : Hid (([] : List Nat).length + (encJ K).length ≤ 100000000) := by show _ ≤ _; rw [← HL.out.1]; have := HL.out; simp; omega
      have H2 : Hid ((encJ K).length + R.length ≤ 100000000) := by show _ ≤ _; rw [← HL.out.1]; have h1 := HL.out; have h2 := HR.out; omega
      go_wp2_with (first
        | (at_builtin; refine app_sl (dst := some 55) ?_ ?_ OF.out (sl_below S6.out BF.out) H1.out BF.out.size ?_; exact rfl; exact rfl; intro v7 w7 ho7 hg7; rw [List.nil_append] at ho7; have B7 := Lib.hid (BF.out.grown hg7 BF.out.size fun q hq => OF.out.lt q hq); obtain ⟨a7, n7, c7, hv7, -⟩ := own_form ho7; subst hv7; have O7 := Lib.hid ho7; clear ho7 hg7)
        | (at_builtin; refine app_sl (dst := some 57) ?_ ?_ O7.out (sl_below R6.out B7.out) H2.out B7.out.size ?_; exact rfl; exact rfl; intro v8 w8 ho8 hg8; have B8 := Lib.hid (B7.out.grown hg8 B7.out.size fun q hq => O7.out.lt q hq); obtain ⟨a8, n8, c8, hv8, -⟩ := own_form ho8; subst hv8; have O8 := Lib.hid ho8; clear ho8 hg8))
      have hh := heap_alloc_new w8 (.cells #[.slice ra rn rc, .slice a1 n5 c1, .slice (some ⟨g5, 0, none⟩) n5 c5, .slice a8 n8 c8] 23)
      have B9 := bel_al14 w8 (.cells #[.slice ra rn rc, .slice a1 n5 c1, .slice (some ⟨g5, 0, none⟩) n5 c5, .slice a8 n8 c8] 23)
      have B69 := bt B8.out B9
      have EX : Hid (∀ j, j < 4 → ∃ a n c l, (w8.alloc (.cells #[.slice ra rn rc, .slice a1 n5 c1, .slice (some ⟨g5, 0, none⟩) n5 c5, .slice a8 n8 c8] 23)).cell? ⟨w8.heap.size, j, none⟩ = some (.slice a n c) ∧ Sl (w8.alloc (.cells #[.slice ra rn rc, .slice a1 n5 c1, .slice (some ⟨g5, 0, none⟩) n5 c5, .slice a8 n8 c8] 23)) (.slice a n c) l ∧ l.length ≤ 1000000) := by
        intro j hj
        match j, hj with
        | 0, _ => exact ⟨_, _, _, R, by rw [cell_of_row _ _ 0 _ _ _ hh]; rfl, sl_below R6.out B69, by have := HR.out; omega⟩
        | 1, _ => exact ⟨_, _, _, encJ K, by rw [cell_of_row _ _ 1 _ _ _ hh]; rfl, sl_below S6.out B69, by have := HL.out; omega⟩
        | 2, _ => exact ⟨_, _, _, M, by rw [cell_of_row _ _ 2 _ _ _ hh]; rfl, sl_below O6.out.sl B69, by have := HM.out; omega⟩
        | 3, _ => exact ⟨_, _, _, encJ K ++ R, by rw [cell_of_row _ _ 3 _ _ _ hh]; rfl, sl_below O8.out.sl B9, by rw [List.length_append]; have h1 := HL.out; have h2 := HR.out; omega⟩
        | j + 4, h => omega
      have BW9 := Lib.hid (bt (bt B3.out B6.out) B69)
      have OK9 := Lib.hid (ST.out _ _ HW.out BW9.out)
      clear hh B9 B69 B8 B6 O6 O8 S6 R6 OF BF H1 H2 B7 O7 S3 SR3 B3 OK3
      generalize w8.alloc (.cells #[.slice ra rn rc, .slice a1 n5 c1, .slice (some ⟨g5, 0, none⟩) n5 c5, .slice a8 n8 c8] 23) = w9 at *
      generalize w8.heap.size = g9 at *
      go_loopw [60] (fun r wr => ∃ j : Nat, j ≤ 4 ∧ r = .int .i64 (j : Int) ∧ Hid (Below w9.heap.size w9 wr)) (fun r _ => 4 - (intOf r).toNat)
      case atStart => exact ⟨0, by omega, rfl, Lib.hid (Below.refl _ _)⟩
      case round =>
        obtain ⟨j, hj, rfl, HB⟩ := hrel
        rename World => wl
        have OKl := Lib.hid (ST.out _ _ OK9.out HB.out)
        by_cases hj4 : j < 4
        · obtain ⟨sa, sn, sc, sl, hcell, hsl, hlen⟩ := EX.out j hj4
          have hcw := (HB.out.cell (p := ⟨g9, j, none⟩) (block_lt_of_cell hcell)).trans hcell
          have SL := Lib.hid (sl_below hsl HB.out)
          have HLN := Lib.hid hlen
          have j1 : decide ((j : Int) < 4) = true := decide_eq_true (by omega)
          have j2 : (0 : Int) ≤ (j : Int) := by omega
          have j3 : (j : Int) < 4 := by omega
          clear hsl hcell hlen
          go_wp2_with fail
          refine (DEC.out _ sl wl OKl.out SL.out HLN.out).mono ?_
          rintro e wa ⟨⟨n, va, rfl, hd, ho⟩, hb⟩
          have UA := Lib.hid (owu_ul ho)
          obtain ⟨aa, ca, rfl⟩ := owu_form ho
          have HDD := Lib.hid hd
          have BA := Lib.hid (bt HB.out hb)
          have SLA := Lib.hid (sl_below SL.out hb)
          rw [keysJ_length] at UA ⊢
          clear hd ho hb hcw
          go_wp2_with fail
          refine (rdecode14_any _ sl wa SLA.out HLN.out).mono ?_
          rintro e wb ⟨⟨n', vb, rfl, hd', ho'⟩, hb'⟩
          obtain rfl := decJ_uniq HDD.out hd'
          have UBB := Lib.hid (owu_ul ho')
          obtain ⟨ab, cb, rfl⟩ := owu_form ho'
          have UA2 := Lib.hid (ul_below UA.out hb')
          have BB := Lib.hid (bt BA.out hb')
          rw [keysJ_length] at UBB ⊢
          clear hd' ho' hb' UA BA SLA
          go_wp2_with fail
          refine (rsame14_any _ _ _ _ wb UA2.out UBB.out).mono ?_
          rintro e wc ⟨rfl, hb3⟩
          rw [decide_eq_true rfl]
          have BC := Lib.hid (bt BB.out hb3)
          clear hb3 UA2 UBB BB
          go_wp2_with fail
          go_roundw
          case rel => exact ⟨j + 1, by omega, by go_num, BC⟩
          case measure => exact meas4 j hj4
        · obtain rfl : j = 4 := by omega
          go_wp2_with fail
          refine (AW.out wl OKl.out).mono ?_
          rintro e wz ⟨rfl, hbz⟩
          go_wp2_with fail
          go_ret
          exact ⟨rfl, bt (bt BW9.out HB.out) hbz⟩
end Go.Proofs.YtbkhedfhnmkodaaDoor.Gf
