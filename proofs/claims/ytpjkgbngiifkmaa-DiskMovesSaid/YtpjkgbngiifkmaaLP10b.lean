/- What is proved here: the law DiskMoves answers true. No condition. -/
import Derived.Test.YtpjkgbngiifkmaaK10H
import Derived.Test.YtpjkgbngiifkmaaMV10
namespace Go.Proofs.Ytpjkgbngiifkmaa.Gf
open Go Go.Joins Go.ChangeShapes Go.WideShapes Go.ChangeAt Go.RowKit Go.Deep Go.Proofs.Ytpjkgbngiifkmaa.By Go.Proofs.Ytpjkgbngiifkmaa.Qt

theorem dvz {w : World} {a : Option Addr} {n c : Nat} {L : List Fl} (hr : Rd (fun _ => True) w (.sl tyF) [.slice a n c] L) : Dv w (.agg #[.int .i64 0, .int .i64 (-1), .slice a n c]) (0, -1, L) := ⟨_, rfl, ⟨⟨by show _ ≤ (0 : Int); decide, by show (0 : Int) ≤ _; decide⟩, by show _ ≤ (-1 : Int); decide, by show (-1 : Int) ≤ _; decide⟩, hr⟩
theorem keepNil (b : List Nat) (p : List Wr) : apL b (keepW p ((fstK sO []).getD kep0).2.1 ((fstK sO []).getD kep0).2.2) = b := by
  show apL b (keepW p 0 0) = b
  have h0 : ∀ n, nKp 0 n = 0 := fun n => by unfold nKp; omega
  unfold keepW
  rw [h0, h0, if_neg (by intro h; exact absurd h.2 (by omega))]
  rfl
set_option maxRecDepth 100000 in
set_option maxHeartbeats 12800000 in
theorem moves_any (va : Value) (a : List Nat) (vb : Value) (b : List Nat) (sy : Bool) (w : World) (sa : Sl w va a) (sb : Sl w vb b) : Calls Try.prog 10 #[va, vb, .bool sy] w fun e w' => e = .returned (.bool true) ∧ Below w.heap.size w w' := by
  have hb0 := Lib.hid (Below.refl w.heap.size w)
  obtain ⟨aa, ca, rfl, -, -⟩ := sl_form sa
  obtain ⟨ab, cb, rfl, -, -⟩ := sl_form sb
  obtain ⟨na, hna⟩ : ∃ z, z = a.length := ⟨_, rfl⟩
  obtain ⟨nb, hnb⟩ : ∃ z, z = b.length := ⟨_, rfl⟩
  rw [← hna] at sa ⊢
  rw [← hnb] at sb ⊢
  have SA := Lib.hid sa
  have SB := Lib.hid sb
  have HL := Lib.hid (And.intro hna hnb)
  clear sa sb hna hnb
  go_enter Try.func10, Try.ntmps10
  by_cases hbig : 300 < na ∨ 300 < nb
  · by_cases h1 : 300 < na
    · have e1 : decide ((300 : Int) < (na : Int)) = true := decide_eq_true (by omega)
      have e2 : decide (300 < na) = true := decide_eq_true h1
      go_wp2_with fail
      refine (awake10_any _).mono ?_
      rintro e w1 ⟨rfl, hb1⟩
      have B1 := Lib.hid hb1
      clear hb1
      go_wp2
      go_ret
      exact ⟨rfl, B1.out⟩
    · have h2 : 300 < nb := by omega
      have e1 : decide ((300 : Int) < (na : Int)) = false := decide_eq_false (by omega)
      have e2 : decide (300 < na) = false := decide_eq_false h1
      have e3 : decide ((300 : Int) < (nb : Int)) = true := decide_eq_true (by omega)
      have e4 : decide (300 < nb) = true := decide_eq_true h2
      go_wp2_with fail
      refine (awake10_any _).mono ?_
      rintro e w1 ⟨rfl, hb1⟩
      have B1 := Lib.hid hb1
      clear hb1
      go_wp2
      go_ret
      exact ⟨rfl, B1.out⟩
  have h1 : ¬ 300 < na := by omega
  have h2 : ¬ 300 < nb := by omega
  have e1 : decide ((300 : Int) < (na : Int)) = false := decide_eq_false (by omega)
  have e2 : decide (300 < na) = false := decide_eq_false h1
  have e3 : decide ((300 : Int) < (nb : Int)) = false := decide_eq_false (by omega)
  have e4 : decide (300 < nb) = false := decide_eq_false h2
  have HA := Lib.hid (show a.length ≤ 300 by have := HL.out; omega)
  have HB := Lib.hid (show b.length ≤ 300 by have := HL.out; omega)
  go_upto_region 3 with fail
  clear h1 h2 e1 e2 e3 e4 hbig
  go_wp2_with fail
  refine (pnew_any 0 (by decide) (fun _ => False) _).mono ?_
  rintro e w1 ⟨⟨v1, rfl, hv1⟩, hb1⟩
  have V1 := Lib.hid (dvB_dv hv1)
  have B1 := Lib.hid hb1
  clear hv1 hb1 hb0
  go_wp2_with fail
  refine (pcreate_any v1 (newD 0) sO (by unfold maxLen; decide) 10 _ V1.out (new_sm 0) (new_pn 0 10) (by decide)).mono ?_
  rw [new_createE nmO, new_create nmO]
  rintro e w5 ⟨⟨v5, rfl, hv5⟩, hb5⟩
  obtain ⟨a5, c5, rfl, r5⟩ := dv_form hv5
  have R5 := Lib.hid (show Rd (fun _ => True) w5 (.sl tyF) [.slice a5 1 c5] [(sO, [], [])] from r5)
  have B5 := Lib.hid (btA B1.out hb5)
  clear hv5 hb5 V1 B1 r5
  generalize hvx : (.agg #[.int .i64 (oneD (-1) sO [] []).1, .int .i64 (oneD (-1) sO [] []).2.1, .slice a5 (oneD (-1) sO [] []).2.2.length c5] : Value) = vx
  obtain rfl : vx = .agg #[.int .i64 0, .int .i64 (-1), .slice a5 1 c5] := hvx.symm.trans rfl
  clear hvx
  go_upto_region 4 with fail
  have q6 := bel_al0 w5 (.cells #[.int .i64 0, .int .i64 (-1), .slice a5 1 c5] 33)
  have HX6 := Lib.hid (heap_alloc_new w5 (.cells #[.int .i64 0, .int .i64 (-1), .slice a5 1 c5] 33))
  have R6 := Lib.hid (rd_below R5.out q6)
  have B6 := Lib.hid (btA B5.out q6)
  have HG := Lib.hid (show w.heap.size ≤ w5.heap.size from B5.out.size)
  clear q6 R5 B5
  generalize w5.alloc (.cells #[.int .i64 0, .int .i64 (-1), .slice a5 1 c5] 33) = w6 at *
  generalize w5.heap.size = g at *
  obtain ⟨x0, x1, x2⟩ := box3c HX6.out
  go_wp2_with fail
  refine (pappend_any _ (oneD (-1) sO [] []) sO _ a _ (sl_below SA.out B6.out) (by have := HA.out; omega) (by unfold maxLen; decide) 100 (dvz R6.out) (one_sm (by decide) nmO (flB_nil (by decide))) (one_pn (by decide)) (by decide)).mono ?_
  rw [one_appE (by decide) nmO (flB_nil (by decide)) (by decide) (by have := HA.out; simp [apL]; omega), one_app (by decide) nmO (flB_nil (by decide)) (by decide) (by have := HA.out; simp [apL]; omega)]
  rintro e w7 ⟨⟨v7, rfl, hv7⟩, hb7⟩
  obtain ⟨a7, c7, rfl, r7⟩ := dv_form hv7
  have R7 := Lib.hid (show Rd (fun _ => True) w7 (.sl tyF) [.slice a7 1 c7] [(sO, [], [(0, a, false)])] from r7)
  have HX7 := Lib.hid ((hb7.block _ (lt_of_some0 HX6.out)).trans HX6.out)
  have B7 := Lib.hid (btA B6.out hb7)
  clear hv7 hb7 r7 HX6 R6 B6 x0 x1 x2
  generalize hvx : (.agg #[.int .i64 (oneD (leftN (-1)) sO [] ([] ++ [(((apL [] []).length : Int), a, false)])).1, .int .i64 (oneD (leftN (-1)) sO [] ([] ++ [(((apL [] []).length : Int), a, false)])).2.1, .slice a7 (oneD (leftN (-1)) sO [] ([] ++ [(((apL [] []).length : Int), a, false)])).2.2.length c7] : Value) = vx
  obtain rfl : vx = .agg #[.int .i64 0, .int .i64 (-1), .slice a7 1 c7] := hvx.symm.trans rfl
  clear hvx
  obtain ⟨x0, x1, x2⟩ := box3c HX7.out
  have u0 := frozen_of_row w7 g 0 _ _ HX7.out
  have u1 := frozen_of_row w7 g 1 _ _ HX7.out
  have u2 := frozen_of_row w7 g 2 _ _ HX7.out
  have HX8 := Lib.hid (set3c (k := .int .i64 0) (l := .int .i64 (-1)) (m := .slice a7 1 c7) HX7.out)
  have R8 := Lib.hid (rd_boxset (x' := 0) (y' := -1) (a' := a7) (n' := 1) (c' := c7) HX7.out R7.out)
  have B8 := Lib.hid (below_set3 (k := .int .i64 0) (l := .int .i64 (-1)) (m := .slice a7 1 c7) B7.out HG.out)
  go_upto_region 5 with fail
  clear x0 x1 x2 u0 u1 u2 HX7 R7 B7
  generalize ((w7.setCell ⟨g, 0, none⟩ (.int .i64 0)).setCell ⟨g, 1, none⟩ (.int .i64 (-1))).setCell ⟨g, 2, none⟩ (.slice a7 1 c7) = w8 at *
  obtain ⟨x0, x1, x2⟩ := box3c HX8.out
  go_wp2_with fail
  refine (psync_any _ (oneD (-1) sO [] [(0, a, false)]) sO (by unfold maxLen; decide) 100 _ (dvz R8.out) (one_sm (by decide) nmO (w1_ok (by have := HA.out; omega))) (one_pn (by simp)) (by decide)).mono ?_
  rw [one_at (by decide) nmO (w1_ok (by have := HA.out; omega)), if_neg (by decide), one_sync (by decide) nmO (w1_ok (by have := HA.out; omega)) (by decide), w1_apL]
  rintro e w9 ⟨⟨v9, rfl, hv9⟩, hb9⟩
  obtain ⟨a9, c9, rfl, r9⟩ := dv_form hv9
  have R9 := Lib.hid (show Rd (fun _ => True) w9 (.sl tyF) [.slice a9 1 c9] [(sO, a, [])] from r9)
  have HX9 := Lib.hid ((hb9.block _ (lt_of_some0 HX8.out)).trans HX8.out)
  have B9 := Lib.hid (btA B8.out hb9)
  clear hv9 hb9 r9 HX8 R8 B8 x0 x1 x2
  generalize hvx : (.agg #[.int .i64 (oneD (leftN (-1)) sO a []).1, .int .i64 (oneD (leftN (-1)) sO a []).2.1, .slice a9 (oneD (leftN (-1)) sO a []).2.2.length c9] : Value) = vx
  obtain rfl : vx = .agg #[.int .i64 0, .int .i64 (-1), .slice a9 1 c9] := hvx.symm.trans rfl
  clear hvx
  obtain ⟨x0, x1, x2⟩ := box3c HX9.out
  have u0 := frozen_of_row w9 g 0 _ _ HX9.out
  have u1 := frozen_of_row w9 g 1 _ _ HX9.out
  have u2 := frozen_of_row w9 g 2 _ _ HX9.out
  have HX10 := Lib.hid (set3c (k := .int .i64 0) (l := .int .i64 (-1)) (m := .slice a9 1 c9) HX9.out)
  have R10 := Lib.hid (rd_boxset (x' := 0) (y' := -1) (a' := a9) (n' := 1) (c' := c9) HX9.out R9.out)
  have B10 := Lib.hid (below_set3 (k := .int .i64 0) (l := .int .i64 (-1)) (m := .slice a9 1 c9) B9.out HG.out)
  go_upto_region 6 with fail
  clear x0 x1 x2 u0 u1 u2 HX9 R9 B9
  generalize ((w9.setCell ⟨g, 0, none⟩ (.int .i64 0)).setCell ⟨g, 1, none⟩ (.int .i64 (-1))).setCell ⟨g, 2, none⟩ (.slice a9 1 c9) = w10 at *
  obtain ⟨x0, x1, x2⟩ := box3c HX10.out
  go_wp2_with fail
  refine (pcreate_any _ (oneD (-1) sO a []) sF (by unfold maxLen; decide) 100 _ (dvz R10.out) (one_sm (by decide) nmO (flB_nil (by have := HA.out; omega))) (one_pn (by simp)) (by decide)).mono ?_
  rw [one_createE (by have := HA.out; omega), one_create (by have := HA.out; omega)]
  rintro e w11 ⟨⟨v11, rfl, hv11⟩, hb11⟩
  obtain ⟨a11, c11, rfl, r11⟩ := dv_form hv11
  have R11 := Lib.hid (show Rd (fun _ => True) w11 (.sl tyF) [.slice a11 2 c11] [(sF, [], []), (sO, a, [])] from r11)
  have HX11 := Lib.hid ((hb11.block _ (lt_of_some0 HX10.out)).trans HX10.out)
  have B11 := Lib.hid (btA B10.out hb11)
  clear hv11 hb11 r11 HX10 R10 B10 x0 x1 x2
  generalize hvx : (.agg #[.int .i64 (twoD [] [] a).1, .int .i64 (twoD [] [] a).2.1, .slice a11 (twoD [] [] a).2.2.length c11] : Value) = vx
  obtain rfl : vx = .agg #[.int .i64 0, .int .i64 (-1), .slice a11 2 c11] := hvx.symm.trans rfl
  clear hvx
  obtain ⟨x0, x1, x2⟩ := box3c HX11.out
  have u0 := frozen_of_row w11 g 0 _ _ HX11.out
  have u1 := frozen_of_row w11 g 1 _ _ HX11.out
  have u2 := frozen_of_row w11 g 2 _ _ HX11.out
  have HX12 := Lib.hid (set3c (k := .int .i64 0) (l := .int .i64 (-1)) (m := .slice a11 2 c11) HX11.out)
  have R12 := Lib.hid (rd_boxset (x' := 0) (y' := -1) (a' := a11) (n' := 2) (c' := c11) HX11.out R11.out)
  have B12 := Lib.hid (below_set3 (k := .int .i64 0) (l := .int .i64 (-1)) (m := .slice a11 2 c11) B11.out HG.out)
  go_upto_region 7 with fail
  clear x0 x1 x2 u0 u1 u2 HX11 R11 B11
  generalize ((w11.setCell ⟨g, 0, none⟩ (.int .i64 0)).setCell ⟨g, 1, none⟩ (.int .i64 (-1))).setCell ⟨g, 2, none⟩ (.slice a11 2 c11) = w12 at *
  obtain ⟨x0, x1, x2⟩ := box3c HX12.out
  go_wp2_with fail
  refine (pappend_any _ (twoD [] [] a) sF _ b _ (sl_below SB.out B12.out) (by have := HB.out; omega) (by unfold maxLen; decide) 100 (dvz R12.out) (valid_sm (two_valid (by have := HA.out; omega) (flB_nil (by decide)))) (two_pn (by simp)) (by decide)).mono ?_
  rw [two_appE (by have := HA.out; omega) (by have := HB.out; omega), two_app (by have := HA.out; omega) (by have := HB.out; omega)]
  rintro e w13 ⟨⟨v13, rfl, hv13⟩, hb13⟩
  obtain ⟨a13, c13, rfl, r13⟩ := dv_form hv13
  have R13 := Lib.hid (show Rd (fun _ => True) w13 (.sl tyF) [.slice a13 2 c13] [(sF, [], [(0, b, false)]), (sO, a, [])] from r13)
  have HX13 := Lib.hid ((hb13.block _ (lt_of_some0 HX12.out)).trans HX12.out)
  have B13 := Lib.hid (btA B12.out hb13)
  clear hv13 hb13 r13 HX12 R12 B12 x0 x1 x2
  generalize hvx : (.agg #[.int .i64 (twoD [] [(0, b, false)] a).1, .int .i64 (twoD [] [(0, b, false)] a).2.1, .slice a13 (twoD [] [(0, b, false)] a).2.2.length c13] : Value) = vx
  obtain rfl : vx = .agg #[.int .i64 0, .int .i64 (-1), .slice a13 2 c13] := hvx.symm.trans rfl
  clear hvx
  obtain ⟨x0, x1, x2⟩ := box3c HX13.out
  have u0 := frozen_of_row w13 g 0 _ _ HX13.out
  have u1 := frozen_of_row w13 g 1 _ _ HX13.out
  have u2 := frozen_of_row w13 g 2 _ _ HX13.out
  have HX14 := Lib.hid (set3c (k := .int .i64 0) (l := .int .i64 (-1)) (m := .slice a13 2 c13) HX13.out)
  have R14 := Lib.hid (rd_boxset (x' := 0) (y' := -1) (a' := a13) (n' := 2) (c' := c13) HX13.out R13.out)
  have B14 := Lib.hid (below_set3 (k := .int .i64 0) (l := .int .i64 (-1)) (m := .slice a13 2 c13) B13.out HG.out)
  go_upto_region 8 with fail
  clear x0 x1 x2 u0 u1 u2 HX13 R13 B13
  generalize ((w13.setCell ⟨g, 0, none⟩ (.int .i64 0)).setCell ⟨g, 1, none⟩ (.int .i64 (-1))).setCell ⟨g, 2, none⟩ (.slice a13 2 c13) = w14 at *
  obtain ⟨x0, x1, x2⟩ := box3c HX14.out
  cases sy
  · go_upto_region 10 with fail
    go_wp2_with fail
    refine (prename_any _ (twoD [] [(0, b, false)] a) sF sO (by unfold maxLen; decide) (by unfold maxLen; decide) 100 _ (dvz R14.out) (valid_sm (two_valid (by have := HA.out; omega) (w1_ok (by have := HB.out; omega)))) (two_pn (by simp)) (by decide)).mono ?_
    rw [two_renE (by have := HA.out; omega) (w1_ok (by have := HB.out; omega)), two_ren (by have := HA.out; omega) (w1_ok (by have := HB.out; omega))]
    rintro e w20 ⟨⟨v20, rfl, hv20⟩, hb20⟩
    obtain ⟨a20, c20, rfl, r20⟩ := dv_form hv20
    have R20 := Lib.hid (show Rd (fun _ => True) w20 (.sl tyF) [.slice a20 1 c20] [(sO, [], [(0, b, false)])] from r20)
    have B20 := Lib.hid (btA B14.out hb20)
    clear hv20 hb20 r20 HX14 R14 B14 HG x0 x1 x2
    generalize hvx : (.agg #[.int .i64 (oneD (-1) sO [] [(0, b, false)]).1, .int .i64 (oneD (-1) sO [] [(0, b, false)]).2.1, .slice a20 (oneD (-1) sO [] [(0, b, false)]).2.2.length c20] : Value) = vx
    obtain rfl : vx = .agg #[.int .i64 0, .int .i64 (-1), .slice a20 1 c20] := hvx.symm.trans rfl
    clear hvx
    go_upto_region 11 with fail
    have q21 := bel_al0 w20 (.cells #[.int .i64 0, .int .i64 (-1), .slice a20 1 c20] 33)
    have HX21 := Lib.hid (heap_alloc_new w20 (.cells #[.int .i64 0, .int .i64 (-1), .slice a20 1 c20] 33))
    have R21 := Lib.hid (rd_below R20.out q21)
    have B21 := Lib.hid (btA B20.out q21)
    clear q21 R20 B20
    generalize w20.alloc (.cells #[.int .i64 0, .int .i64 (-1), .slice a20 1 c20] 33) = w21 at *
    generalize w20.heap.size = h at *
    obtain ⟨x0, x1, x2⟩ := box3c HX21.out
    go_wp2_with fail
    refine (pread_any _ (oneD (-1) sO [] [(0, b, false)]) sO (by unfold maxLen; decide) 100 _ (dvz R21.out) (one_sm (by decide) nmO (w1_ok (by have := HB.out; omega))) (one_pn (by simp)) (by decide) 0 (nb : Int) (by decide) (by have := HB.out; have := HL.out; omega)).mono ?_
    have hre := one_readE (b := []) (p := [(0, b, false)]) (n := (nb : Int)) (w1_ok (by have := HB.out; omega)) (by omega) (by rw [w1_apL]; have := HL.out; omega)
    rw [hre.1, hre.2, w1_apL, show b.take (nb : Int).toNat = b by rw [Int.toNat_natCast, HL.out.2, List.take_length]]
    clear hre
    rintro e w22 ⟨⟨v22, rfl, s22⟩, hb22⟩
    obtain ⟨a22, c22, rfl, -, -⟩ := sl_form s22
    have S22 := Lib.hid s22
    have HX22 := Lib.hid ((hb22.block _ (lt_of_some0 HX21.out)).trans HX21.out)
    have R22 := Lib.hid (rd_below R21.out hb22)
    have B22 := Lib.hid (btA B21.out hb22)
    clear s22 hb22 HX21 R21 B21 x0 x1 x2
    rw [← HL.out.2] at S22 ⊢
    obtain ⟨x0, x1, x2⟩ := box3c HX22.out
    go_upto_region 12 with fail
    go_wp2_with fail
    refine (pcrash_any _ (.slice none 0 0) (oneD (-1) sO [] [(0, b, false)]) [] _ (dvz R22.out) (one_sm (by decide) nmO (w1_ok (by have := HB.out; omega))) (one_pn (by simp)) (rd_nil _ _ _) (by decide)).mono ?_
    rw [one_crash (by decide) nmO (w1_ok (by have := HB.out; omega)), keepNil _ _]
    rintro e w23 ⟨⟨v23, rfl, hv23⟩, hb23⟩
    obtain ⟨a23, c23, rfl, r23⟩ := dv_form hv23
    have R23 := Lib.hid (show Rd (fun _ => True) w23 (.sl tyF) [.slice a23 1 c23] [(sO, [], [])] from r23)
    have S23 := Lib.hid (sl_below S22.out hb23)
    have B23 := Lib.hid (btA B22.out hb23)
    clear hv23 hb23 r23 HX22 R22 B22 S22 x0 x1 x2
    generalize hvx : (.agg #[.int .i64 (oneD (-1) sO [] []).1, .int .i64 (oneD (-1) sO [] []).2.1, .slice a23 (oneD (-1) sO [] []).2.2.length c23] : Value) = vx
    obtain rfl : vx = .agg #[.int .i64 0, .int .i64 (-1), .slice a23 1 c23] := hvx.symm.trans rfl
    clear hvx
    go_upto_region 13 with fail
    have q24 := bel_al0 w23 (.cells #[.int .i64 0, .int .i64 (-1), .slice a23 1 c23] 33)
    have HX24 := Lib.hid (heap_alloc_new w23 (.cells #[.int .i64 0, .int .i64 (-1), .slice a23 1 c23] 33))
    have R24 := Lib.hid (rd_below R23.out q24)
    have S24 := Lib.hid (sl_below S23.out q24)
    have B24 := Lib.hid (btA B23.out q24)
    clear q24 R23 B23 S23
    generalize w23.alloc (.cells #[.int .i64 0, .int .i64 (-1), .slice a23 1 c23] 33) = w24 at *
    generalize w23.heap.size = h2 at *
    obtain ⟨x0, x1, x2⟩ := box3c HX24.out
    have hfl : ([] : List Nat).length ≤ 1048576 := by have := HB.out; first | omega | simp
    have HFL := Lib.hid hfl
    clear hfl
    go_wp2_with fail
    refine (psize_any _ (oneD (-1) sO [] []) sO (by unfold maxLen; decide) _ (dvz R24.out) (one_sm (by decide) nmO (flB_nil HFL.out))).mono ?_
    rw [one_size (by decide) nmO (flB_nil HFL.out) (by decide), one_at (by decide) nmO (flB_nil HFL.out), if_neg (by decide), show (apL [] []).length = 0 by have := HL.out; simp [apL]; try omega]
    rintro e w25 ⟨rfl, hb25⟩
    have HX25 := Lib.hid ((hb25.block _ (lt_of_some0 HX24.out)).trans HX24.out)
    have R25 := Lib.hid (rd_below R24.out hb25)
    have S25 := Lib.hid (sl_below S24.out hb25)
    have B25 := Lib.hid (btA B24.out hb25)
    clear hb25 HX24 R24 B24 S24 x0 x1 x2
    obtain ⟨x0, x1, x2⟩ := box3c HX25.out
    go_upto_region 14 with fail
    go_wp2_with fail
    refine (psize_any _ (oneD (-1) sO [] []) sF (by unfold maxLen; decide) _ (dvz R25.out) (one_sm (by decide) nmO (flB_nil HFL.out))).mono ?_
    rw [show sizeD (oneD (-1) sO [] []) sF = 0 by (unfold sizeD; rw [one_at6 (flB_nil HFL.out)]; rfl), one_at6 (flB_nil HFL.out)]
    rintro e w26 ⟨rfl, hb26⟩
    have S26 := Lib.hid (sl_below S25.out hb26)
    have B26 := Lib.hid (btA B25.out hb26)
    clear hb26 HX25 R25 B25 S25 x0 x1 x2 HFL
    go_upto_region 18 with fail
    have z1 := conv_sl S26.out
    have z2 := conv_sl (sl_below SB.out B26.out)
    rw [← HL.out.2] at *
    go_wp2_with fail
    refine (awake10_any _).mono ?_
    rintro e w27 ⟨rfl, hb27⟩
    have B27 := Lib.hid (btA B26.out hb27)
    clear hb27 B26 z1 z2 S26
    go_wp2
    go_ret
    exact ⟨rfl, B27.out⟩
  · go_upto_region 9 with fail
    go_wp2_with fail
    refine (psync_any _ (twoD [] [(0, b, false)] a) sF (by unfold maxLen; decide) 100 _ (dvz R14.out) (valid_sm (two_valid (by have := HA.out; omega) (w1_ok (by have := HB.out; omega)))) (two_pn (by simp)) (by decide)).mono ?_
    rw [two_at (by have := HA.out; omega) (w1_ok (by have := HB.out; omega)), two_sync (by have := HA.out; omega) (by have := HB.out; omega)]
    rintro e w15 ⟨⟨v15, rfl, hv15⟩, hb15⟩
    obtain ⟨a15, c15, rfl, r15⟩ := dv_form hv15
    have R15 := Lib.hid (show Rd (fun _ => True) w15 (.sl tyF) [.slice a15 2 c15] [(sF, b, []), (sO, a, [])] from r15)
    have HX15 := Lib.hid ((hb15.block _ (lt_of_some0 HX14.out)).trans HX14.out)
    have B15 := Lib.hid (btA B14.out hb15)
    clear hv15 hb15 r15 HX14 R14 B14 x0 x1 x2
    generalize hvx : (.agg #[.int .i64 (twoD b [] a).1, .int .i64 (twoD b [] a).2.1, .slice a15 (twoD b [] a).2.2.length c15] : Value) = vx
    obtain rfl : vx = .agg #[.int .i64 0, .int .i64 (-1), .slice a15 2 c15] := hvx.symm.trans rfl
    clear hvx
    obtain ⟨x0, x1, x2⟩ := box3c HX15.out
    have u0 := frozen_of_row w15 g 0 _ _ HX15.out
    have u1 := frozen_of_row w15 g 1 _ _ HX15.out
    have u2 := frozen_of_row w15 g 2 _ _ HX15.out
    have HX16 := Lib.hid (set3c (k := .int .i64 0) (l := .int .i64 (-1)) (m := .slice a15 2 c15) HX15.out)
    have R16 := Lib.hid (rd_boxset (x' := 0) (y' := -1) (a' := a15) (n' := 2) (c' := c15) HX15.out R15.out)
    have B16 := Lib.hid (below_set3 (k := .int .i64 0) (l := .int .i64 (-1)) (m := .slice a15 2 c15) B15.out HG.out)
    go_upto_region 10 with fail
    clear x0 x1 x2 u0 u1 u2 HX15 R15 B15
    generalize ((w15.setCell ⟨g, 0, none⟩ (.int .i64 0)).setCell ⟨g, 1, none⟩ (.int .i64 (-1))).setCell ⟨g, 2, none⟩ (.slice a15 2 c15) = w16 at *
    obtain ⟨x0, x1, x2⟩ := box3c HX16.out
    go_wp2_with fail
    refine (prename_any _ (twoD b [] a) sF sO (by unfold maxLen; decide) (by unfold maxLen; decide) 100 _ (dvz R16.out) (valid_sm (two_valid (by have := HA.out; omega) (flB_nil (by have := HB.out; omega)))) (two_pn (by simp)) (by decide)).mono ?_
    rw [two_renE (by have := HA.out; omega) (flB_nil (by have := HB.out; omega)), two_ren (by have := HA.out; omega) (flB_nil (by have := HB.out; omega))]
    rintro e w20 ⟨⟨v20, rfl, hv20⟩, hb20⟩
    obtain ⟨a20, c20, rfl, r20⟩ := dv_form hv20
    have R20 := Lib.hid (show Rd (fun _ => True) w20 (.sl tyF) [.slice a20 1 c20] [(sO, b, [])] from r20)
    have B20 := Lib.hid (btA B16.out hb20)
    clear hv20 hb20 r20 HX16 R16 B16 HG x0 x1 x2
    generalize hvx : (.agg #[.int .i64 (oneD (-1) sO b []).1, .int .i64 (oneD (-1) sO b []).2.1, .slice a20 (oneD (-1) sO b []).2.2.length c20] : Value) = vx
    obtain rfl : vx = .agg #[.int .i64 0, .int .i64 (-1), .slice a20 1 c20] := hvx.symm.trans rfl
    clear hvx
    go_upto_region 11 with fail
    have q21 := bel_al0 w20 (.cells #[.int .i64 0, .int .i64 (-1), .slice a20 1 c20] 33)
    have HX21 := Lib.hid (heap_alloc_new w20 (.cells #[.int .i64 0, .int .i64 (-1), .slice a20 1 c20] 33))
    have R21 := Lib.hid (rd_below R20.out q21)
    have B21 := Lib.hid (btA B20.out q21)
    clear q21 R20 B20
    generalize w20.alloc (.cells #[.int .i64 0, .int .i64 (-1), .slice a20 1 c20] 33) = w21 at *
    generalize w20.heap.size = h at *
    obtain ⟨x0, x1, x2⟩ := box3c HX21.out
    go_wp2_with fail
    refine (pread_any _ (oneD (-1) sO b []) sO (by unfold maxLen; decide) 100 _ (dvz R21.out) (one_sm (by decide) nmO (flB_nil (by have := HB.out; omega))) (one_pn (by simp)) (by decide) 0 (nb : Int) (by decide) (by have := HB.out; have := HL.out; omega)).mono ?_
    have hre := one_readE (b := b) (p := []) (n := (nb : Int)) (flB_nil (by have := HB.out; omega)) (by omega) (by rw [apL_nil]; have := HL.out; omega)
    rw [hre.1, hre.2, apL_nil, show b.take (nb : Int).toNat = b by rw [Int.toNat_natCast, HL.out.2, List.take_length]]
    clear hre
    rintro e w22 ⟨⟨v22, rfl, s22⟩, hb22⟩
    obtain ⟨a22, c22, rfl, -, -⟩ := sl_form s22
    have S22 := Lib.hid s22
    have HX22 := Lib.hid ((hb22.block _ (lt_of_some0 HX21.out)).trans HX21.out)
    have R22 := Lib.hid (rd_below R21.out hb22)
    have B22 := Lib.hid (btA B21.out hb22)
    clear s22 hb22 HX21 R21 B21 x0 x1 x2
    rw [← HL.out.2] at S22 ⊢
    obtain ⟨x0, x1, x2⟩ := box3c HX22.out
    go_upto_region 12 with fail
    go_wp2_with fail
    refine (pcrash_any _ (.slice none 0 0) (oneD (-1) sO b []) [] _ (dvz R22.out) (one_sm (by decide) nmO (flB_nil (by have := HB.out; omega))) (one_pn (by simp)) (rd_nil _ _ _) (by decide)).mono ?_
    rw [one_crash (by decide) nmO (flB_nil (by have := HB.out; omega)), keepNil _ _]
    rintro e w23 ⟨⟨v23, rfl, hv23⟩, hb23⟩
    obtain ⟨a23, c23, rfl, r23⟩ := dv_form hv23
    have R23 := Lib.hid (show Rd (fun _ => True) w23 (.sl tyF) [.slice a23 1 c23] [(sO, b, [])] from r23)
    have S23 := Lib.hid (sl_below S22.out hb23)
    have B23 := Lib.hid (btA B22.out hb23)
    clear hv23 hb23 r23 HX22 R22 B22 S22 x0 x1 x2
    generalize hvx : (.agg #[.int .i64 (oneD (-1) sO b []).1, .int .i64 (oneD (-1) sO b []).2.1, .slice a23 (oneD (-1) sO b []).2.2.length c23] : Value) = vx
    obtain rfl : vx = .agg #[.int .i64 0, .int .i64 (-1), .slice a23 1 c23] := hvx.symm.trans rfl
    clear hvx
    go_upto_region 13 with fail
    have q24 := bel_al0 w23 (.cells #[.int .i64 0, .int .i64 (-1), .slice a23 1 c23] 33)
    have HX24 := Lib.hid (heap_alloc_new w23 (.cells #[.int .i64 0, .int .i64 (-1), .slice a23 1 c23] 33))
    have R24 := Lib.hid (rd_below R23.out q24)
    have S24 := Lib.hid (sl_below S23.out q24)
    have B24 := Lib.hid (btA B23.out q24)
    clear q24 R23 B23 S23
    generalize w23.alloc (.cells #[.int .i64 0, .int .i64 (-1), .slice a23 1 c23] 33) = w24 at *
    generalize w23.heap.size = h2 at *
    obtain ⟨x0, x1, x2⟩ := box3c HX24.out
    have hfl : (b : List Nat).length ≤ 1048576 := by have := HB.out; first | omega | simp
    have HFL := Lib.hid hfl
    clear hfl
    go_wp2_with fail
    refine (psize_any _ (oneD (-1) sO b []) sO (by unfold maxLen; decide) _ (dvz R24.out) (one_sm (by decide) nmO (flB_nil HFL.out))).mono ?_
    rw [one_size (by decide) nmO (flB_nil HFL.out) (by decide), one_at (by decide) nmO (flB_nil HFL.out), if_neg (by decide), show (apL b []).length = nb by have := HL.out; simp [apL]; try omega]
    rintro e w25 ⟨rfl, hb25⟩
    have HX25 := Lib.hid ((hb25.block _ (lt_of_some0 HX24.out)).trans HX24.out)
    have R25 := Lib.hid (rd_below R24.out hb25)
    have S25 := Lib.hid (sl_below S24.out hb25)
    have B25 := Lib.hid (btA B24.out hb25)
    clear hb25 HX24 R24 B24 S24 x0 x1 x2
    obtain ⟨x0, x1, x2⟩ := box3c HX25.out
    go_upto_region 14 with fail
    go_wp2_with fail
    refine (psize_any _ (oneD (-1) sO b []) sF (by unfold maxLen; decide) _ (dvz R25.out) (one_sm (by decide) nmO (flB_nil HFL.out))).mono ?_
    rw [show sizeD (oneD (-1) sO b []) sF = 0 by (unfold sizeD; rw [one_at6 (flB_nil HFL.out)]; rfl), one_at6 (flB_nil HFL.out)]
    rintro e w26 ⟨rfl, hb26⟩
    have S26 := Lib.hid (sl_below S25.out hb26)
    have B26 := Lib.hid (btA B25.out hb26)
    clear hb26 HX25 R25 B25 S25 x0 x1 x2 HFL
    go_upto_region 18 with fail
    have z1 := conv_sl S26.out
    have z2 := conv_sl (sl_below SB.out B26.out)
    rw [← HL.out.2] at *
    go_wp2_with fail
    refine (awake10_any _).mono ?_
    rintro e w27 ⟨rfl, hb27⟩
    have B27 := Lib.hid (btA B26.out hb27)
    clear hb27 B26 z1 z2 S26
    go_wp2
    go_ret
    exact ⟨rfl, B27.out⟩
end Go.Proofs.Ytpjkgbngiifkmaa.Gf
