/- What is proved here: the law DiskWrites answers true. No condition. -/
import Derived.Test.YtpipgbjkkiheaaaV12
-- halved
namespace Go.Proofs.Ytpipgbjkkiheaaa.Gf
open Go Go.Joins Go.ChangeShapes Go.WideShapes Go.ChangeAt Go.RowKit Go.Deep Go.Proofs.Ytpipgbjkkiheaaa.By Go.Proofs.Ytpipgbjkkiheaaa.Qt

set_option maxRecDepth 100000 in
set_option maxHeartbeats 25600000 in
theorem writes_any (vl : Value) (L : List Opn) (s : ByteArray) (of : Int) (vb : Value) (b0 : List Nat) (w : World) (sl : Rd (fun _ => True) w (.sl tyOp) [vl] L) (hs : s.size ≤ maxLen) (hof : -9223372036854775808 ≤ of ∧ of ≤ 9223372036854775807) (sb0 : Sl w vb b0) : Calls Try.prog 7 #[vl, .string s, .int .i64 of, vb] w fun e w' => e = .returned (.bool true) ∧ Below w.heap.size w w' := by
 have HS := Lib.hid hs
 have HOF := Lib.hid hof
 have SLL := Lib.hid sl
 obtain ⟨al, cl, rfl, -, -⟩ := rd_sl sl
 obtain ⟨nl, hnl⟩ : ∃ z, z = L.length := ⟨_, rfl⟩
 rw [← hnl] at SLL ⊢
 obtain ⟨ab, cb, rfl, hcb, -⟩ := sl_form sb0
 have SB0 := Lib.hid (fun (m : Nat) (hm : m ≤ b0.length) => sl_take (n := m) sb0 hm)
 obtain ⟨nb, hnb⟩ : ∃ z, z = b0.length := ⟨_, rfl⟩
 rw [← hnb] at SB0 hcb ⊢
 have HNB := Lib.hid hnb
 clear sl hnl hs hof sb0 hnb
 go_enter Try.func7, Try.ntmps7
 obtain ⟨q, hq⟩ : ∃ q : Bool, decide (200 < nb) = q := ⟨_, rfl⟩
 have l1 : decide ((200 : Int) < (nb : Int)) = q := by rw [← hq]; exact decide_eq_decide.2 (by omega)
 have HQ := Lib.hid hq
 go_upto_if 42 with fail
 clear hq l1
 go_cut [3] from 43 to 44 (fun t3 wx => ∃ (m : Nat) (b : List Nat), t3 = .slice ab m cb ∧ Hid (m = b.length ∧ b.length ≤ 200) ∧ Hid (Sl w (.slice ab m cb) b) ∧ wx = w)
 case first =>
  cases q
  ·have h10 : ¬ 200 < nb := of_decide_eq_false HQ.out
   have SB := Lib.hid (SB0.out nb (by have := HNB.out; omega))
   have HL := Lib.hid (show nb = (b0.take nb).length ∧ (b0.take nb).length ≤ 200 by have := HNB.out; rw [List.length_take]; omega)
   clear h10 hcb SB0 HNB HQ
   go_wp2_with fail
   go_meet
   exact ⟨nb, b0.take nb, rfl, HL, SB, rfl⟩
  ·have h10 : 200 < nb := of_decide_eq_true HQ.out
   have e3 : 200 ≤ cb := by omega
   have e4 : (200 : Int) ≤ (cb : Int) := by omega
   have SB := Lib.hid (SB0.out 200 (by have := HNB.out; omega))
   have HL := Lib.hid (show 200 = (b0.take 200).length ∧ (b0.take 200).length ≤ 200 by have := HNB.out; rw [List.length_take]; omega)
   clear h10 hcb SB0 HNB HQ
   go_wp2_with fail
   go_meet
   exact ⟨200, b0.take 200, rfl, HL, SB, rfl⟩
 case rest =>
  obtain ⟨m, b, rfl, HB, SB, rfl⟩ := hcut
  clear hcb SB0 HNB HQ
  go_wp2_with fail
  refine (made10w_any 0 (-1) (.slice al nl cl) L wc (by decide) (by decide) SLL.out).mono ?_
  rintro e w1 ⟨⟨v1, d, rfl, hm, hv⟩, hb1⟩
  have GV := Lib.hid (given10_any v1 d w1 (dv_BV hv) (Nat.le_trans (valid_parts hm.val).2.2.1 (by decide)) (fun f hf => Nat.le_trans (hm.pn f hf) (by decide)))
  have MD := Lib.hid (show MadeW 0 (-1) d 14 from hm)
  have SB1 := Lib.hid (sl_below SB.out hb1)
  have B1 := Lib.hid hb1
  obtain ⟨a1, c1, rfl, -⟩ := dv_form (dv_BV hv)
  obtain ⟨n1, hn1⟩ : ∃ z, z = d.2.2.length := ⟨_, rfl⟩
  rw [← hn1] at GV ⊢
  clear hm hv hb1 hn1 SB
  go_wp2_with fail
  refine GV.out.mono ?_
  rintro e w2 ⟨⟨v2, rfl, hv2⟩, hb2⟩
  have V2 := Lib.hid (dvB_dv hv2)
  obtain ⟨a2, c2, rfl, -⟩ := dv_form hv2
  obtain ⟨n2, hn2⟩ : ∃ z, z = d.2.2.length := ⟨_, rfl⟩
  rw [← hn2] at V2 ⊢
  have SB2 := Lib.hid (sl_below SB1.out hb2)
  have B2 := Lib.hid (btA B1.out hb2)
  clear hv2 hb2 hn2 B1 GV SB1
  go_upto_region 4 with fail
  have q3 := bel_al0 w2 (.cells #[.int .i64 d.1, .int .i64 d.2.1, .slice a2 n2 c2] 33)
  have HD3 := Lib.hid (heap_alloc_new w2 (.cells #[.int .i64 d.1, .int .i64 d.2.1, .slice a2 n2 c2] 33))
  have V3 := Lib.hid (dv_below V2.out q3)
  have SB3 := Lib.hid (sl_below SB2.out q3)
  have B3 := Lib.hid (btA B2.out q3)
  clear q3 V2 B2 SB2
  generalize w2.alloc (.cells #[.int .i64 d.1, .int .i64 d.2.1, .slice a2 n2 c2] 33) = w3 at *
  generalize w2.heap.size = gd at *
  have PS := Lib.hid (psize_any _ d s HS.out w3 V3.out (valid_sm MD.out.val))
  by_cases h0 : atE d s = 0
  case neg =>
   have HSZ := Lib.hid (show (-9223372036854775808 ≤ sizeD d s ∧ sizeD d s ≤ 9223372036854775807) by unfold sizeD; rw [if_neg h0]; decide)
   obtain ⟨AE, hAE⟩ : ∃ z, z = atE d s := ⟨_, rfl⟩
   obtain ⟨SZ, hSZ⟩ : ∃ z, z = sizeD d s := ⟨_, rfl⟩
   rw [← hAE] at PS h0
   rw [← hSZ] at PS HSZ
   have e1 : ((AE : Int) != 0) = true := by rw [bne_iff_ne]; omega
   clear hAE hSZ h0
   obtain ⟨x0, x1, x2⟩ := box3c HD3.out
   go_wp2_with fail
   clear x0 x1 x2
   refine PS.out.mono ?_
   rintro e w4 ⟨rfl, hb4⟩
   have HD4 := Lib.hid ((hb4.block _ (lt_of_some0 HD3.out)).trans HD3.out)
   have V4 := Lib.hid (dv_below V3.out hb4)
   have B4 := Lib.hid (btA B3.out hb4)
   have PR := Lib.hid (pread_any _ d s HS.out 14 w4 V4.out (valid_sm MD.out.val) MD.out.pn (by decide) 0 SZ (by decide) HSZ.out)
   clear hb4 V4 HD3 B3 PS V3
   obtain ⟨x0, x1, x2⟩ := box3c HD4.out
   go_wp2_with fail
   clear x0 x1 x2
   refine PR.out.mono ?_
   rintro e w5 ⟨⟨v5, rfl, s5⟩, hb5⟩
   have B5 := Lib.hid (btA B4.out hb5)
   obtain ⟨a5, c5, rfl, -, -⟩ := sl_form s5
   clear hb5 s5 HD4 B4 PR
   go_wp2_with fail
   refine (awake10_any _).mono ?_
   rintro e wz ⟨rfl, hbz⟩
   have BZ := Lib.hid (btA B5.out hbz)
   clear hbz
   go_wp2
   go_ret
   exact ⟨rfl, BZ.out⟩
  obtain ⟨-, hmem, -, -, -, -, -, -⟩ := open_ok h0
  obtain ⟨C, hC⟩ : ∃ z, z = contL (fileAt d s) := ⟨_, rfl⟩
  obtain ⟨n, hn⟩ : ∃ z, z = C.length := ⟨_, rfl⟩
  have HN := Lib.hid (show n = C.length ∧ n ≤ 2800 from ⟨hn, by rw [hn, hC]; exact cont_ends (MD.out.ends _ hmem)⟩)
  have R0 := rd_file h0 hC.symm
  obtain ⟨Z, hZ⟩ : ∃ z : Nat, z = 0 := ⟨_, rfl⟩
  have ez : ((Z : Int) != 0) = false := by rw [hZ]; rfl
  have HEZ := Lib.hid ez
  have HZ0 := Lib.hid hZ
  obtain ⟨r, k, hr, hk, hkn, hr1, hr2⟩ := at_of (n := n) of (by have := HN.out.2; omega)
  have WA := wr_append (b := b) MD.out h0 HB.out.2
  have WP := wr_put (b := b) (off := k) MD.out h0 HB.out.2 (by rw [← hC, ← hn]; exact hkn)
  have WT := wr_trunc (off := k) MD.out h0 (by rw [← hC, ← hn]; exact hkn)
  rw [← hC] at WA WP WT
  rw [← HB.out.1] at WP
  rw [← hn] at R0
  obtain ⟨M, hM⟩ : ∃ z, z = max n (k + m) := ⟨_, rfl⟩
  obtain ⟨CX, hCX⟩ : ∃ z, z = C ++ b := ⟨_, rfl⟩
  obtain ⟨CY, hCY⟩ : ∃ z, z = C.take k ++ (b ++ C.drop (k + m)) := ⟨_, rfl⟩
  obtain ⟨CZ, hCZ⟩ : ∃ z, z = C.take k := ⟨_, rfl⟩
  rw [← hCX] at WA
  rw [← hCY] at WP
  rw [← hCZ] at WT
  have RX := WA.2.rd (n := n + m) (by rw [hCX, List.length_append, ← hn, ← HB.out.1])
  have RY := WP.2.rd (n := M) (by rw [hCY, List.length_append, List.length_append, List.length_take, List.length_drop, ← hn, ← HB.out.1]; omega)
  have RZ := WT.2.rd (n := k) (by rw [hCZ, List.length_take, ← hn]; omega)
  have CA := Lib.hid (fun W (hv : Dv W (.agg #[.int .i64 d.1, .int .i64 d.2.1, .slice a2 n2 c2]) d) (hsb : Sl W (.slice ab m cb) b) => pappend_any _ d s _ b W hsb (by have := HB.out.2; omega) HS.out 14 hv (valid_sm MD.out.val) MD.out.pn (by decide))
  have CP := Lib.hid (fun W (hv : Dv W (.agg #[.int .i64 d.1, .int .i64 d.2.1, .slice a2 n2 c2]) d) (hsb : Sl W (.slice ab m cb) b) => pputB_any (B := fun _ => True) _ d s (k : Int) (by have := HN.out.2; omega) _ b W hsb (by have := HB.out.2; omega) HS.out 14 (dv_BV hv) (valid_sm MD.out.val) MD.out.pn (by decide))
  have CT := Lib.hid (fun W (hv : Dv W (.agg #[.int .i64 d.1, .int .i64 d.2.1, .slice a2 n2 c2]) d) => ptruncB_any (B := fun _ => True) _ d s (k : Int) (by have := HN.out.2; omega) W HS.out 14 (dv_BV hv) (valid_sm MD.out.val) MD.out.pn (by decide))
  obtain ⟨X, hX⟩ : ∃ z, z = appendD d s b := ⟨_, rfl⟩
  obtain ⟨Y, hY⟩ : ∃ z, z = putD d s (k : Int) b := ⟨_, rfl⟩
  obtain ⟨T, hT⟩ : ∃ z, z = truncD d s (k : Int) := ⟨_, rfl⟩
  rw [WA.1, ← hX, ← hZ] at CA
  rw [WP.1, ← hY, ← hZ] at CP
  rw [WT.1, ← hT, ← hZ] at CT
  rw [← hX] at WA RX
  rw [← hY] at WP RY
  rw [← hT] at WT RZ
  have PR := Lib.hid (fun W v (hv : Dv W v d) => pread_any v d s HS.out 14 W hv (valid_sm MD.out.val) MD.out.pn (by decide) 0 (n : Int) (by decide) (by have := HN.out.2; omega))
  have PX := Lib.hid (fun W v (hv : Dv W v X) => pread_any v X s HS.out 15 W hv WA.2.sm WA.2.pn (by decide) 0 ((n + m : Nat) : Int) (by decide) (by have := HN.out.2; have := HB.out; omega))
  have PY := Lib.hid (fun W v (hv : Dv W v Y) => pread_any v Y s HS.out 15 W hv WP.2.sm WP.2.pn (by decide) 0 (M : Int) (by decide) (by have := HN.out.2; have := HB.out; omega))
  have PT := Lib.hid (fun W v (hv : Dv W v T) => pread_any v T s HS.out 15 W hv WT.2.sm WT.2.pn (by decide) 0 (k : Int) (by decide) (by have := HN.out.2; omega))
  have PU := Lib.hid (fun W v (hv : Dv W v T) => psize_any v T s HS.out W hv WT.2.sm)
  rw [R0.1, R0.2.1, ← hZ] at PR
  rw [R0.2.2, h0, ← hZ] at PS
  rw [RX.1, RX.2.1, ← hZ] at PX
  rw [RY.1, RY.2.1, ← hZ] at PY
  rw [RZ.1, RZ.2.1, ← hZ] at PT
  rw [RZ.2.2.1, RZ.2.2.2, ← hZ] at PU
  have QX := Lib.hid WA.2.oth
  have QY := Lib.hid WP.2.oth
  have QT := Lib.hid WT.2.oth
  have HKN := Lib.hid hkn
  have HMM := Lib.hid (And.intro hM (And.intro hCX (And.intro hCY hCZ)))
  have HRK := Lib.hid (And.intro hr hk)
  have HRB := Lib.hid (And.intro hr1 hr2)
  clear hC hn hX hY hT hM hCX hCY hCZ hZ WA WP WT RX RY RZ R0 h0 hmem hkn hr1 hr2 hr hk ez
  have e1 : wrap64 ((n : Int) + 1) = (n : Int) + 1 := by have := HN.out.2; have := HRB.out; have := HKN.out; unfold wrap64; omega
  have e2 : wrap64 (r + (n : Int)) = r + (n : Int) := by have := HN.out.2; have := HRB.out; have := HKN.out; unfold wrap64; omega
  have e3 : wrap64 (r + (n : Int) + 1) = r + (n : Int) + 1 := by have := HN.out.2; have := HRB.out; have := HKN.out; unfold wrap64; omega
  have e4 : ¬ (n : Int) + 1 = 0 := by omega
  have e5 : wrap64 r = r := by have := HRB.out; unfold wrap64; omega
  have e6 : wrap64 (k : Int) = (k : Int) := by have := HN.out.2; have := HRB.out; have := HKN.out; unfold wrap64; omega
  have hr := HRK.out.1
  have hk := HRK.out.2
  have ez := HEZ.out
  clear HRK HRB
  obtain ⟨x0, x1, x2⟩ := box3c HD3.out
  go_wp2_with fail
  clear x0 x1 x2
  refine PS.out.mono ?_
  rintro e w4 ⟨rfl, hb4⟩
  have HD4 := Lib.hid ((hb4.block _ (lt_of_some0 HD3.out)).trans HD3.out)
  have V4 := Lib.hid (dv_below V3.out hb4)
  have SB4 := Lib.hid (sl_below SB3.out hb4)
  have B4 := Lib.hid (btA B3.out hb4)
  clear HD3 V3 SB3 B3
  clear hb4 PS
  obtain ⟨x0, x1, x2⟩ := box3c HD4.out
  go_wp2_with fail
  clear x0 x1 x2
  refine (PR.out _ _ V4.out).mono ?_
  rintro e w5 ⟨⟨v5, rfl, s5⟩, hb5⟩
  have HD5 := Lib.hid ((hb5.block _ (lt_of_some0 HD4.out)).trans HD4.out)
  have V5 := Lib.hid (dv_below V4.out hb5)
  have SB5 := Lib.hid (sl_below SB4.out hb5)
  have B5 := Lib.hid (btA B4.out hb5)
  clear HD4 V4 SB4 B4
  have SW5 := Lib.hid s5
  obtain ⟨a5, c5, rfl, hc5, -⟩ := sl_form s5
  rw [← HN.out.1] at SW5 hc5 ⊢
  have HC5 := Lib.hid hc5
  clear hb5 s5 PR hc5
  go_upto_region 9 with fail
  clear hr hk e1 e2 e3 e4 e5 e6
  obtain ⟨x0, x1, x2⟩ := box3c HD5.out
  go_wp2_with fail
  clear x0 x1 x2
  refine (CA.out _ V5.out SB5.out).mono ?_
  rintro e w6 ⟨⟨v3, rfl, hv3⟩, hb⟩
  have HD6 := Lib.hid ((hb.block _ (lt_of_some0 HD5.out)).trans HD5.out)
  have V6 := Lib.hid (dv_below V5.out hb)
  have SB6 := Lib.hid (sl_below SB5.out hb)
  have B6 := Lib.hid (btA B5.out hb)
  have SW6 := Lib.hid (sl_below SW5.out hb)
  clear HD5 V5 SB5 B5 SW5
  have V0 := Lib.hid (dvB_dv hv3)
  obtain ⟨ax, cx, rfl, -⟩ := dv_form hv3
  obtain ⟨nx, hn⟩ : ∃ z, z = X.2.2.length := ⟨_, rfl⟩
  rw [← hn] at V0 ⊢
  have Hnx := Lib.hid hn
  clear hv3 hb hn CA
  go_upto_region 10 with fail
  have q := bel_al0 w6 (.cells #[.int .i64 X.1, .int .i64 X.2.1, .slice ax nx cx] 33)
  have HX7 := Lib.hid (heap_alloc_new w6 (.cells #[.int .i64 X.1, .int .i64 X.2.1, .slice ax nx cx] 33))
  have VX7 := Lib.hid (dv_below V0.out q)
  have HD7 := Lib.hid ((q.block _ (lt_of_some0 HD6.out)).trans HD6.out)
  have V7 := Lib.hid (dv_below V6.out q)
  have SB7 := Lib.hid (sl_below SB6.out q)
  have B7 := Lib.hid (btA B6.out q)
  have SW7 := Lib.hid (sl_below SW6.out q)
  clear HD6 V6 SB6 B6 SW6
  clear q V0
  generalize w6.alloc (.cells #[.int .i64 X.1, .int .i64 X.2.1, .slice ax nx cx] 33) = w7 at *
  generalize w6.heap.size = gx at *
  obtain ⟨x0, x1, x2⟩ := box3c HD7.out
  go_wp2_with fail
  clear x0 x1 x2
  refine (CP.out _ V7.out SB7.out).mono ?_
  rintro e w8 ⟨⟨v3, rfl, hv3⟩, hb⟩
  have HD8 := Lib.hid ((hb.block _ (lt_of_some0 HD7.out)).trans HD7.out)
  have V8 := Lib.hid (dv_below V7.out hb)
  have SB8 := Lib.hid (sl_below SB7.out hb)
  have B8 := Lib.hid (btA B7.out hb)
  have SW8 := Lib.hid (sl_below SW7.out hb)
  have HX8 := Lib.hid ((hb.block _ (lt_of_some0 HX7.out)).trans HX7.out)
  have VX8 := Lib.hid (dv_below VX7.out hb)
  clear HD7 V7 SB7 B7 SW7 HX7 VX7
  have V0 := Lib.hid (dvB_dv hv3)
  obtain ⟨ay, cy, rfl, -⟩ := dv_form hv3
  obtain ⟨ny, hn⟩ : ∃ z, z = Y.2.2.length := ⟨_, rfl⟩
  rw [← hn] at V0 ⊢
  have Hny := Lib.hid hn
  clear hv3 hb hn CP
  go_upto_region 11 with fail
  have q := bel_al0 w8 (.cells #[.int .i64 Y.1, .int .i64 Y.2.1, .slice ay ny cy] 33)
  have HY9 := Lib.hid (heap_alloc_new w8 (.cells #[.int .i64 Y.1, .int .i64 Y.2.1, .slice ay ny cy] 33))
  have VY9 := Lib.hid (dv_below V0.out q)
  have HD9 := Lib.hid ((q.block _ (lt_of_some0 HD8.out)).trans HD8.out)
  have V9 := Lib.hid (dv_below V8.out q)
  have SB9 := Lib.hid (sl_below SB8.out q)
  have B9 := Lib.hid (btA B8.out q)
  have SW9 := Lib.hid (sl_below SW8.out q)
  have HX9 := Lib.hid ((q.block _ (lt_of_some0 HX8.out)).trans HX8.out)
  have VX9 := Lib.hid (dv_below VX8.out q)
  clear HD8 V8 SB8 B8 SW8 HX8 VX8
  clear q V0
  generalize w8.alloc (.cells #[.int .i64 Y.1, .int .i64 Y.2.1, .slice ay ny cy] 33) = w9 at *
  generalize w8.heap.size = gy at *
  obtain ⟨x0, x1, x2⟩ := box3c HD9.out
  go_wp2_with fail
  clear x0 x1 x2
  refine (CT.out _ V9.out).mono ?_
  rintro e w10 ⟨⟨v3, rfl, hv3⟩, hb⟩
  have HD10 := Lib.hid ((hb.block _ (lt_of_some0 HD9.out)).trans HD9.out)
  have V10 := Lib.hid (dv_below V9.out hb)
  have SB10 := Lib.hid (sl_below SB9.out hb)
  have B10 := Lib.hid (btA B9.out hb)
  have SW10 := Lib.hid (sl_below SW9.out hb)
  have HX10 := Lib.hid ((hb.block _ (lt_of_some0 HX9.out)).trans HX9.out)
  have VX10 := Lib.hid (dv_below VX9.out hb)
  have HY10 := Lib.hid ((hb.block _ (lt_of_some0 HY9.out)).trans HY9.out)
  have VY10 := Lib.hid (dv_below VY9.out hb)
  clear HD9 V9 SB9 B9 SW9 HX9 VX9 HY9 VY9
  have V0 := Lib.hid (dvB_dv hv3)
  obtain ⟨at', ct, rfl, -⟩ := dv_form hv3
  obtain ⟨nt, hn⟩ : ∃ z, z = T.2.2.length := ⟨_, rfl⟩
  rw [← hn] at V0 ⊢
  have Hnt := Lib.hid hn
  clear hv3 hb hn CT
  go_upto_region 12 with fail
  have q := bel_al0 w10 (.cells #[.int .i64 T.1, .int .i64 T.2.1, .slice at' nt ct] 33)
  have HT11 := Lib.hid (heap_alloc_new w10 (.cells #[.int .i64 T.1, .int .i64 T.2.1, .slice at' nt ct] 33))
  have VT11 := Lib.hid (dv_below V0.out q)
  have HD11 := Lib.hid ((q.block _ (lt_of_some0 HD10.out)).trans HD10.out)
  have V11 := Lib.hid (dv_below V10.out q)
  have SB11 := Lib.hid (sl_below SB10.out q)
  have B11 := Lib.hid (btA B10.out q)
  have SW11 := Lib.hid (sl_below SW10.out q)
  have HX11 := Lib.hid ((q.block _ (lt_of_some0 HX10.out)).trans HX10.out)
  have VX11 := Lib.hid (dv_below VX10.out q)
  have HY11 := Lib.hid ((q.block _ (lt_of_some0 HY10.out)).trans HY10.out)
  have VY11 := Lib.hid (dv_below VY10.out q)
  clear HD10 V10 SB10 B10 SW10 HX10 VX10 HY10 VY10
  clear q V0
  generalize w10.alloc (.cells #[.int .i64 T.1, .int .i64 T.2.1, .slice at' nt ct] 33) = w11 at *
  generalize w10.heap.size = gt at *
  have f1 : wrap64 ((n : Int) + (m : Int)) = ((n + m : Nat) : Int) := by have := HN.out.2; have := HB.out; unfold wrap64; omega
  have f2 : wrap64 ((k : Int) + (m : Int)) = ((k + m : Nat) : Int) := by have := HN.out.2; have := HKN.out; have := HB.out; unfold wrap64; omega
  have f3 : max (n : Int) ((k : Int) + (m : Int)) = (M : Int) := by have := HMM.out.1; omega
  obtain ⟨x0, x1, x2⟩ := box3c HX11.out
  go_wp2_with fail
  clear x0 x1 x2
  refine (PX.out _ _ VX11.out).mono ?_
  rintro e w12 ⟨⟨v5, rfl, s5⟩, hb⟩
  have HD12 := Lib.hid ((hb.block _ (lt_of_some0 HD11.out)).trans HD11.out)
  have V12 := Lib.hid (dv_below V11.out hb)
  have SB12 := Lib.hid (sl_below SB11.out hb)
  have B12 := Lib.hid (btA B11.out hb)
  have SW12 := Lib.hid (sl_below SW11.out hb)
  have HX12 := Lib.hid ((hb.block _ (lt_of_some0 HX11.out)).trans HX11.out)
  have VX12 := Lib.hid (dv_below VX11.out hb)
  have HY12 := Lib.hid ((hb.block _ (lt_of_some0 HY11.out)).trans HY11.out)
  have VY12 := Lib.hid (dv_below VY11.out hb)
  have HT12 := Lib.hid ((hb.block _ (lt_of_some0 HT11.out)).trans HT11.out)
  have VT12 := Lib.hid (dv_below VT11.out hb)
  clear HD11 V11 SB11 B11 SW11 HX11 VX11 HY11 VY11 HT11 VT11
  have SP12 := Lib.hid s5
  obtain ⟨ap, cp, rfl, -, -⟩ := sl_form s5
  obtain ⟨nap, hn⟩ : ∃ z, z = CX.length := ⟨_, rfl⟩
  rw [← hn] at SP12 ⊢
  clear hb s5 hn PX f1
  obtain ⟨x0, x1, x2⟩ := box3c HY12.out
  go_wp2_with fail
  clear x0 x1 x2
  refine (PY.out _ _ VY12.out).mono ?_
  rintro e w13 ⟨⟨v5, rfl, s5⟩, hb⟩
  have HD13 := Lib.hid ((hb.block _ (lt_of_some0 HD12.out)).trans HD12.out)
  have V13 := Lib.hid (dv_below V12.out hb)
  have SB13 := Lib.hid (sl_below SB12.out hb)
  have B13 := Lib.hid (btA B12.out hb)
  have SW13 := Lib.hid (sl_below SW12.out hb)
  have HX13 := Lib.hid ((hb.block _ (lt_of_some0 HX12.out)).trans HX12.out)
  have VX13 := Lib.hid (dv_below VX12.out hb)
  have HY13 := Lib.hid ((hb.block _ (lt_of_some0 HY12.out)).trans HY12.out)
  have VY13 := Lib.hid (dv_below VY12.out hb)
  have HT13 := Lib.hid ((hb.block _ (lt_of_some0 HT12.out)).trans HT12.out)
  have VT13 := Lib.hid (dv_below VT12.out hb)
  have SP13 := Lib.hid (sl_below SP12.out hb)
  clear HD12 V12 SB12 B12 SW12 HX12 VX12 HY12 VY12 HT12 VT12 SP12
  have SQ13 := Lib.hid s5
  obtain ⟨aq, cq, rfl, -, -⟩ := sl_form s5
  obtain ⟨naq, hn⟩ : ∃ z, z = CY.length := ⟨_, rfl⟩
  rw [← hn] at SQ13 ⊢
  clear hb s5 hn PY f2 f3
  obtain ⟨x0, x1, x2⟩ := box3c HT13.out
  go_wp2_with fail
  clear x0 x1 x2
  refine (PT.out _ _ VT13.out).mono ?_
  rintro e w14 ⟨⟨v5, rfl, s5⟩, hb⟩
  have HD14 := Lib.hid ((hb.block _ (lt_of_some0 HD13.out)).trans HD13.out)
  have V14 := Lib.hid (dv_below V13.out hb)
  have SB14 := Lib.hid (sl_below SB13.out hb)
  have B14 := Lib.hid (btA B13.out hb)
  have SW14 := Lib.hid (sl_below SW13.out hb)
  have HX14 := Lib.hid ((hb.block _ (lt_of_some0 HX13.out)).trans HX13.out)
  have VX14 := Lib.hid (dv_below VX13.out hb)
  have HY14 := Lib.hid ((hb.block _ (lt_of_some0 HY13.out)).trans HY13.out)
  have VY14 := Lib.hid (dv_below VY13.out hb)
  have HT14 := Lib.hid ((hb.block _ (lt_of_some0 HT13.out)).trans HT13.out)
  have VT14 := Lib.hid (dv_below VT13.out hb)
  have SP14 := Lib.hid (sl_below SP13.out hb)
  have SQ14 := Lib.hid (sl_below SQ13.out hb)
  clear HD13 V13 SB13 B13 SW13 HX13 VX13 HY13 VY13 HT13 VT13 SP13 SQ13
  have SR14 := Lib.hid s5
  obtain ⟨ar, cr, rfl, -, -⟩ := sl_form s5
  obtain ⟨nar, hn⟩ : ∃ z, z = CZ.length := ⟨_, rfl⟩
  rw [← hn] at SR14 ⊢
  clear hb s5 hn PT
  obtain ⟨x0, x1, x2⟩ := box3c HT14.out
  go_wp2_with fail
  clear x0 x1 x2
  refine (PU.out _ _ VT14.out).mono ?_
  rintro e w15 ⟨rfl, hb⟩
  have HD15 := Lib.hid ((hb.block _ (lt_of_some0 HD14.out)).trans HD14.out)
  have V15 := Lib.hid (dv_below V14.out hb)
  have SB15 := Lib.hid (sl_below SB14.out hb)
  have B15 := Lib.hid (btA B14.out hb)
  have SW15 := Lib.hid (sl_below SW14.out hb)
  have HX15 := Lib.hid ((hb.block _ (lt_of_some0 HX14.out)).trans HX14.out)
  have VX15 := Lib.hid (dv_below VX14.out hb)
  have HY15 := Lib.hid ((hb.block _ (lt_of_some0 HY14.out)).trans HY14.out)
  have VY15 := Lib.hid (dv_below VY14.out hb)
  have HT15 := Lib.hid ((hb.block _ (lt_of_some0 HT14.out)).trans HT14.out)
  have VT15 := Lib.hid (dv_below VT14.out hb)
  have SP15 := Lib.hid (sl_below SP14.out hb)
  have SQ15 := Lib.hid (sl_below SQ14.out hb)
  have SR15 := Lib.hid (sl_below SR14.out hb)
  clear HD14 V14 SB14 B14 SW14 HX14 VX14 HY14 VY14 HT14 VT14 SP14 SQ14 SR14
  clear hb PU
  have hkc : k ≤ c5 := by have := HC5.out; have := HKN.out; omega
  have hkci : (k : Int) ≤ (c5 : Int) := by omega
  have hknp := HKN.out
  have hzl : CZ.length = k := by rw [HMM.out.2.2.2, List.length_take, ← HN.out.1]; omega
  have SWK := Lib.hid (show Sl w15 (.slice a5 k c5) CZ by rw [HMM.out.2.2.2]; exact sl_take (by rw [← HN.out.1]; exact SW15.out) (by rw [← HN.out.1]; exact HKN.out))
  have HL1 := Lib.hid (show ([] : List Nat).length + CZ.length ≤ 100000000 ∧ CZ.length + b.length ≤ 100000000 ∧ (CZ ++ b).length = k + m ∧ (CZ ++ b).length + (C.drop (k + m)).length ≤ 100000000 by
   have h1 := HN.out
   have h2 := HB.out
   rw [List.length_append, List.length_drop, hzl]
   simp
   omega)
  have HZL := Lib.hid hzl
  clear hzl
  go_upto_region 18 with fail
  have q := bel_al0 w15 (.cells #[] 5)
  have OE := Lib.hid (own_empty w15 (Nat.le_refl w15.heap.size))
  have SWE := Lib.hid (sl_below SWK.out q)
  have SBE := Lib.hid (sl_below SB15.out q)
  have BE := Lib.hid q
  have LE := Lib.hid q.size
  clear q
  obtain ⟨q8, hq8⟩ : ∃ q : Bool, decide (k + m < n) = q := ⟨_, rfl⟩
  have l8 : decide (((k + m : Nat) : Int) < (n : Int)) = q8 := by rw [← hq8]; exact decide_eq_decide.2 (by omega)
  have l9 : decide ((k : Int) + (m : Int) < (n : Int)) = q8 := by rw [← hq8]; exact decide_eq_decide.2 (by omega)
  have HQ8 := Lib.hid hq8
  go_upto_if 180 with (first | (at_builtin; refine app_sl (dst := some 174) ?_ ?_ OE.out SWE.out HL1.out.1 LE.out ?_; exact rfl; exact rfl; intro v16 w16 ho16 hg16; have B16 := Lib.hid (below_grown BE.out hg16 OE.out LE.out (Nat.le_refl _)); obtain ⟨a16, c16, rfl, -, -⟩ := sl_form ho16.sl; rw [List.nil_append, HZL.out] at ho16; rw [List.nil_append, HZL.out]; have O16 := Lib.hid ho16; have SB16 := Lib.hid (sl_below SB15.out B16.out); have L16 := Lib.hid B16.out.size; clear ho16 hg16 OE SWE SBE BE LE) | (at_builtin; refine app_sl (dst := some 176) ?_ ?_ O16.out SB16.out HL1.out.2.1 L16.out ?_; exact rfl; exact rfl; intro v17 w17 ho17 hg17; have B17 := Lib.hid (below_grown B16.out hg17 O16.out L16.out (Nat.le_refl _)); obtain ⟨a17, c17, rfl, -, -⟩ := sl_form ho17.sl; rw [HL1.out.2.2.1] at ho17; rw [HL1.out.2.2.1]; have O17 := Lib.hid ho17; have L17 := Lib.hid B17.out.size; clear ho17 hg17 O16 SB16 B16 L16))
  clear hkc hkci hknp hq8 l8 l9
  go_cut [29] from 181 to 186 (fun tp wx => ∃ (ap' : Option Addr) (cp' : Nat), tp = .slice ap' M cp' ∧ Hid (Sl wx (.slice ap' M cp') CY) ∧ Hid (Below w15.heap.size w15 wx))
  case first =>
   cases q8
   case true =>
    have hlt : k + m < n := of_decide_eq_true HQ8.out
    have g1 : k + m ≤ n := by omega
    have g2 : ((k + m : Nat) : Int) ≤ (n : Int) := by omega
    have g3 : n ≤ c5 := HC5.out
    have g4 : ¬ c5 = k + m := by have := HC5.out; omega
    have hswt := sl_from (sl_below SW15.out B17.out) g1
    rw [if_neg g4] at hswt
    have SWT := Lib.hid hswt
    clear hswt
    have HMN := Lib.hid (show M = n by have := HMM.out.1; omega)
    have HLT := Lib.hid hlt
    clear hlt
    go_wp2_with (at_builtin; refine app_sl (dst := some 186) ?_ ?_ O17.out SWT.out HL1.out.2.2.2 L17.out ?_; exact rfl; exact rfl; intro v18 w18 ho18 hg18; have B18 := Lib.hid (below_grown B17.out hg18 O17.out L17.out (Nat.le_refl _)); obtain ⟨a18, c18, rfl, -, -⟩ := sl_form ho18.sl; have S18 := Lib.hid ho18.sl; clear ho18 hg18 O17 B17 L17)
    go_meet
    refine ⟨a18, c18, ?_, Lib.hid ?_, B18⟩
    ·rw [HMN.out, show CZ.length + (b.length + (C.length - (k + m))) = n by have h1 := HLT.out; have h2 := HZL.out; have h3 := HB.out.1; have h4 := HN.out.1; omega]
    ·have h1 := S18.out
     have h2 : CZ ++ b ++ C.drop (k + m) = CY := by rw [HMM.out.2.2.1, ← HMM.out.2.2.2, List.append_assoc]
     rw [h2] at h1
     have h3 : CY.length = M := by
      rw [← h2, List.length_append, HL1.out.2.2.1, List.length_drop, ← HN.out.1, HMN.out]
      have := HLT.out
      omega
     rw [h3] at h1
     exact h1
   case false =>
    have hlt : ¬ k + m < n := of_decide_eq_false HQ8.out
    have HMN := Lib.hid (show M = k + m by have := HMM.out.1; omega)
    have HDR := Lib.hid (show C.drop (k + m) = [] from List.drop_eq_nil_of_le (by rw [← HN.out.1]; omega))
    clear hlt
    go_wp2_with fail
    go_meet
    refine ⟨a17, c17, by rw [HMN.out], Lib.hid ?_, B17⟩
    rw [HMN.out, HMM.out.2.2.1, HDR.out, List.append_nil, ← HMM.out.2.2.2]
    exact O17.out.sl
  case rest =>
   rename World => w18
   obtain ⟨au, cu, rfl, SU18, hb⟩ := hcut
   clear O17 L17 B17 HQ8
   have HD18 := Lib.hid ((hb.out.block _ (lt_of_some0 HD15.out)).trans HD15.out)
   have V18 := Lib.hid (dv_below V15.out hb.out)
   have SB18 := Lib.hid (sl_below SB15.out hb.out)
   have B18 := Lib.hid (btA B15.out hb.out)
   have SW18 := Lib.hid (sl_below SW15.out hb.out)
   have HX18 := Lib.hid ((hb.out.block _ (lt_of_some0 HX15.out)).trans HX15.out)
   have VX18 := Lib.hid (dv_below VX15.out hb.out)
   have HY18 := Lib.hid ((hb.out.block _ (lt_of_some0 HY15.out)).trans HY15.out)
   have VY18 := Lib.hid (dv_below VY15.out hb.out)
   have HT18 := Lib.hid ((hb.out.block _ (lt_of_some0 HT15.out)).trans HT15.out)
   have VT18 := Lib.hid (dv_below VT15.out hb.out)
   have SP18 := Lib.hid (sl_below SP15.out hb.out)
   have SQ18 := Lib.hid (sl_below SQ15.out hb.out)
   have SR18 := Lib.hid (sl_below SR15.out hb.out)
   clear HD15 V15 SB15 B15 SW15 HX15 VX15 HY15 VY15 HT15 VT15 SP15 SQ15 SR15
   have SWK18 := Lib.hid (sl_below SWK.out hb.out)
   have HLN := Lib.hid (show namesL d = d.2.2.map (·.1) by unfold namesL; rw [if_pos MD.out.val])
   have z1 := conv_sl (sl_drew SP18.out)
   have z2 := conv_sl (sl_drew SW18.out)
   have z3 := conv_sl (sl_drew SB18.out)
   have z4 := conv_sl (sl_drew SQ18.out)
   have z5 := conv_sl (sl_drew SU18.out)
   have z6 := conv_sl (sl_drew SR18.out)
   have z7 := conv_sl (sl_drew SWK18.out)
   have zc : strOf C ++ strOf b = strOf CX := by rw [HMM.out.2.1, strOf_app]
   have hkc : k ≤ c5 := by have := HC5.out; have := HKN.out; omega
   have hkci : (k : Int) ≤ (c5 : Int) := by omega
   clear hb SWK
   obtain ⟨tx, htx⟩ : ∃ z, z = strOf CX := ⟨_, rfl⟩
   obtain ⟨ty, hty⟩ : ∃ z, z = strOf CY := ⟨_, rfl⟩
   obtain ⟨tz, htz⟩ : ∃ z, z = strOf CZ := ⟨_, rfl⟩
   obtain ⟨t0, ht0⟩ : ∃ z, z = strOf C := ⟨_, rfl⟩
   obtain ⟨tb, htb⟩ : ∃ z, z = strOf b := ⟨_, rfl⟩
   rw [← htx] at z1 zc
   rw [← ht0] at z2 zc
   rw [← htb] at z3 zc
   rw [← hty] at z4 z5
   rw [← htz] at z6 z7
   have k1 : (tx.toList == tx.toList) = true := by simp
   have k2 : (ty.toList == ty.toList) = true := by simp
   have k3 : (tz.toList == tz.toList) = true := by simp
   have hsz : ¬ (9223372036854775807 < t0.size + tb.size) := by
    have h1 := HN.out
    have h2 := HB.out
    have h3 : t0.size = C.length := by rw [ht0]; unfold By.strOf; rw [strOfNums_size, List.length_map]
    have h4 : tb.size = b.length := by rw [htb]; unfold By.strOf; rw [strOfNums_size, List.length_map]
    omega
   have zs : (Op.stringOp .add t0 tb).run Try.prog w18.drew = .ok (.string tx) w18.drew := by rw [run_string_add_sum _ t0 tb (by omega), zc]
   clear htx hty htz ht0 htb
   go_upto_region 21 with fail
   refine wp_region_still_tail 23 (by kernel_rfl) (by kernel_rfl) ?_
   change wpStill _ _ w18.drew (fun a' => wpList _ _ _ _ a' w18.drew) _ _
   simp only [List.take_succ_cons, List.take_zero, List.drop_succ_cons, List.drop_zero]
   repeat still_step
   refine wpStill_nil ?_
   clear z1 z2 z3 z4 z5 z6 z7 zc zs k1 k2 k3 hsz hkc hkci
   clear SP18 SQ18 SR18 SW18 SB18 SWK18 SU18
   have hd := (Below.refl w18.heap.size w18).drew
   have HD19 := Lib.hid ((hd.block _ (lt_of_some0 HD18.out)).trans HD18.out)
   have V19 := Lib.hid (dv_below V18.out hd)
   have B19 := Lib.hid (btA B18.out hd)
   have HX19 := Lib.hid ((hd.block _ (lt_of_some0 HX18.out)).trans HX18.out)
   have VX19 := Lib.hid (dv_below VX18.out hd)
   have HY19 := Lib.hid ((hd.block _ (lt_of_some0 HY18.out)).trans HY18.out)
   have VY19 := Lib.hid (dv_below VY18.out hd)
   have HT19 := Lib.hid ((hd.block _ (lt_of_some0 HT18.out)).trans HT18.out)
   have VT19 := Lib.hid (dv_below VT18.out hd)
   clear HD18 V18 B18 HX18 VX18 HY18 VY18 HT18 VT18
   clear hd
   generalize w18.drew = w19 at *
   obtain ⟨x0, x1, x2⟩ := box3c HD19.out
   go_wp2_with fail
   clear x0 x1 x2
   refine (pnames_any _ d w19 V19.out (valid_sm MD.out.val)).mono ?_
   rintro e w20 ⟨⟨v6, rfl, ho⟩, hb⟩
   have HD20 := Lib.hid ((hb.block _ (lt_of_some0 HD19.out)).trans HD19.out)
   have V20 := Lib.hid (dv_below V19.out hb)
   have B20 := Lib.hid (btA B19.out hb)
   have HX20 := Lib.hid ((hb.block _ (lt_of_some0 HX19.out)).trans HX19.out)
   have VX20 := Lib.hid (dv_below VX19.out hb)
   have HY20 := Lib.hid ((hb.block _ (lt_of_some0 HY19.out)).trans HY19.out)
   have VY20 := Lib.hid (dv_below VY19.out hb)
   have HT20 := Lib.hid ((hb.block _ (lt_of_some0 HT19.out)).trans HT19.out)
   have VT20 := Lib.hid (dv_below VT19.out hb)
   clear HD19 V19 B19 HX19 VX19 HY19 VY19 HT19 VT19
   rw [HLN.out] at ho
   obtain ⟨NL, hNL⟩ : ∃ z, z = d.2.2.map (·.1) := ⟨_, rfl⟩
   rw [← hNL] at ho
   have RB := Lib.hid (og_rd (B := fun _ => True) ho fun _ _ => trivial)
   obtain ⟨am, cm, rfl, -, -⟩ := og_form ho
   obtain ⟨mm, hm⟩ : ∃ z, z = NL.length := ⟨_, rfl⟩
   rw [← hm] at RB ⊢
   have HML := Lib.hid (show mm ≤ 256 by rw [hm, hNL, List.length_map]; exact (valid_parts MD.out.val).2.2.1)
   have HNL := Lib.hid hNL
   have HM := Lib.hid hm
   clear hb ho hNL hm HLN
   go_wp2_with fail
   go_loopw [214] (fun t wr => ∃ i : Nat, i ≤ mm ∧ t = .int .i64 (i : Int) ∧ Hid (Below w20.heap.size w20 wr)) (fun t _ => mm - (intOf t).toNat)
   case atStart => exact ⟨0, by omega, rfl, Lib.hid (Below.refl _ _)⟩
   case round =>
    obtain ⟨i, hi, rfl, BR⟩ := hrel
    rename World => wl
    have HDL := Lib.hid ((BR.out.block _ (lt_of_some0 HD20.out)).trans HD20.out)
    have VL := Lib.hid (dv_below V20.out BR.out)
    have BL := Lib.hid (btA B20.out BR.out)
    have HXL := Lib.hid ((BR.out.block _ (lt_of_some0 HX20.out)).trans HX20.out)
    have VXL := Lib.hid (dv_below VX20.out BR.out)
    have HYL := Lib.hid ((BR.out.block _ (lt_of_some0 HY20.out)).trans HY20.out)
    have VYL := Lib.hid (dv_below VY20.out BR.out)
    have HTL := Lib.hid ((BR.out.block _ (lt_of_some0 HT20.out)).trans HT20.out)
    have VTL := Lib.hid (dv_below VT20.out BR.out)
    by_cases hlt : i < mm
    case neg =>
     have l1 : decide ((i : Int) < (mm : Int)) = false := decide_eq_false (by omega)
     have l2 : decide (i < mm) = false := decide_eq_false hlt
     clear hlt hi
     go_wp2_with fail
     refine (awake10_any _).mono ?_
     rintro e wz ⟨rfl, hbz⟩
     have BZ := Lib.hid (btA BL.out hbz)
     clear hbz
     go_wp2
     go_ret
     exact ⟨rfl, BZ.out⟩
    have l1 : decide ((i : Int) < (mm : Int)) = true := decide_eq_true (by omega)
    have l2 : decide (i < mm) = true := decide_eq_true hlt
    have HI := Lib.hid hlt
    have EI := Lib.hid (show wrap64 ((i : Int) + 1) = ((i + 1 : Nat) : Int) by have := HML.out; unfold wrap64; omega)
    obtain ⟨x, hx⟩ : ∃ z, NL[i]? = some z := ⟨_, List.getElem?_eq_getElem (by have := HM.out; omega)⟩
    obtain ⟨bo, oo, rfl, k0, hsx⟩ := str_at (rd_below RB.out BR.out) hx
    obtain ⟨g, hg, hgx⟩ : ∃ g ∈ d.2.2, g.1 = x := by
     have h1 := List.mem_of_getElem? hx
     rw [HNL.out] at h1
     obtain ⟨g, h2, h3⟩ := List.mem_map.1 h1
     exact ⟨g, h2, h3⟩
    have HSX := Lib.hid hsx
    have HGX := Lib.hid hgx
    have HG := Lib.hid hg
    have p0 : (0 : Int) ≤ (i : Int) := by omega
    have p1 : (i : Int) < (mm : Int) := by omega
    by_cases hxe : (x.toList == s.toList) = true
    case pos =>
     clear hx hg hgx hsx hlt hi
     go_wp2_with fail
     go_roundw
     case rel =>
      have h1 := HI.out
      exact ⟨i + 1, by omega, by rw [EI.out], BR⟩
     case measure =>
      have h1 := HI.out
      rw [EI.out]
      simp [intOf]; omega
    have hxf : (x.toList == s.toList) = false := by simpa using hxe
    have HNE := Lib.hid (show nmEq g.1 s = false by rw [hgx]; exact hxf)
    have ha := at_mem MD.out.val (by rw [MD.out.left rfl]; decide) hg
    obtain ⟨G, hG⟩ : ∃ z, z = contL g := ⟨_, rfl⟩
    obtain ⟨u, hu⟩ : ∃ z, z = G.length := ⟨_, rfl⟩
    have R1 := rd_file ha.1 (c := G) (by rw [ha.2, hG])
    have ha1 := ha.1
    rw [hgx, ← hu] at R1
    rw [hgx] at ha1
    have HUL := Lib.hid (show u ≤ 1048576 by rw [hu, hG]; exact contL_le g)
    have HGU := Lib.hid (And.intro hG hu)
    have PS2 := Lib.hid (psize_any _ d x HSX.out wl VL.out (valid_sm MD.out.val))
    have PR2 := Lib.hid (fun W v (hv : Dv W v d) => pread_any v d x HSX.out 14 W hv (valid_sm MD.out.val) MD.out.pn (by decide) 0 (u : Int) (by decide) (by have := HUL.out; omega))
    rw [R1.2.2, ha1, ← HZ0.out] at PS2
    rw [R1.1, R1.2.1, ← HZ0.out] at PR2
    clear hx hg hgx hsx hlt hi hxe ha ha1 R1 hG hu
    go_upto_region 27 with fail
    clear k0 p0 p1 l1 l2 hxf
    obtain ⟨x0, x1, x2⟩ := box3c HDL.out
    go_wp2_with fail
    clear x0 x1 x2
    refine PS2.out.mono ?_
    rintro e w21 ⟨rfl, hb⟩
    have HD21 := Lib.hid ((hb.block _ (lt_of_some0 HDL.out)).trans HDL.out)
    have V21 := Lib.hid (dv_below VL.out hb)
    have B21 := Lib.hid (btA BL.out hb)
    have HX21 := Lib.hid ((hb.block _ (lt_of_some0 HXL.out)).trans HXL.out)
    have VX21 := Lib.hid (dv_below VXL.out hb)
    have HY21 := Lib.hid ((hb.block _ (lt_of_some0 HYL.out)).trans HYL.out)
    have VY21 := Lib.hid (dv_below VYL.out hb)
    have HT21 := Lib.hid ((hb.block _ (lt_of_some0 HTL.out)).trans HTL.out)
    have VT21 := Lib.hid (dv_below VTL.out hb)
    clear HDL VL BL HXL VXL HYL VYL HTL VTL
    have BM21 := Lib.hid (btA BR.out hb)
    clear hb PS2
    obtain ⟨x0, x1, x2⟩ := box3c HD21.out
    go_wp2_with fail
    clear x0 x1 x2
    refine (PR2.out _ _ V21.out).mono ?_
    rintro e w22 ⟨⟨v5, rfl, s5⟩, hb⟩
    have HD22 := Lib.hid ((hb.block _ (lt_of_some0 HD21.out)).trans HD21.out)
    have V22 := Lib.hid (dv_below V21.out hb)
    have B22 := Lib.hid (btA B21.out hb)
    have HX22 := Lib.hid ((hb.block _ (lt_of_some0 HX21.out)).trans HX21.out)
    have VX22 := Lib.hid (dv_below VX21.out hb)
    have HY22 := Lib.hid ((hb.block _ (lt_of_some0 HY21.out)).trans HY21.out)
    have VY22 := Lib.hid (dv_below VY21.out hb)
    have HT22 := Lib.hid ((hb.block _ (lt_of_some0 HT21.out)).trans HT21.out)
    have VT22 := Lib.hid (dv_below VT21.out hb)
    clear HD21 V21 B21 HX21 VX21 HY21 VY21 HT21 VT21
    have BM22 := Lib.hid (btA BM21.out hb)
    have SO22 := Lib.hid s5
    obtain ⟨ao, co, rfl, -, -⟩ := sl_form s5
    rw [← HGU.out.2] at SO22 ⊢
    clear hb s5 PR2 BM21
    have q := bel_al0 w22 (.cells #[.int .i64 X.1, .int .i64 X.2.1, .slice ax nx cx, .int .i64 Y.1, .int .i64 Y.2.1, .slice ay ny cy, .int .i64 T.1, .int .i64 T.2.1, .slice at' nt ct] 33)
    have AR0 := Lib.hid (arr3_mk (Q := OthD d s) (heap_alloc_new w22 (.cells #[.int .i64 X.1, .int .i64 X.2.1, .slice ax nx cx, .int .i64 Y.1, .int .i64 Y.2.1, .slice ay ny cy, .int .i64 T.1, .int .i64 T.2.1, .slice at' nt ct] 33)) Hnx.out Hny.out Hnt.out (dv_below VX22.out q) (dv_below VY22.out q) (dv_below VT22.out q) QX.out QY.out QT.out)
    have BQ0 := Lib.hid q
    clear q
    obtain ⟨x0, x1, x2⟩ := box3c HX22.out
    obtain ⟨y0, y1, y2⟩ := box3c HY22.out
    obtain ⟨z0, z1, z2⟩ := box3c HT22.out
    go_upto_region 30 with fail
    clear x0 x1 x2 y0 y1 y2 z0 z1 z2
    generalize hgn : w22.heap.size = gn at *
    go_loopw [239] (fun t wr => ∃ j : Nat, j ≤ 3 ∧ t = .int .i64 (j : Int) ∧ Hid (Arr3 (OthD d s) wr gn) ∧ Hid (Below gn w22 wr)) (fun t _ => 3 - (intOf t).toNat)
    case atStart => exact ⟨0, by omega, rfl, AR0, BQ0⟩
    case round =>
     clear AR0 BQ0
     obtain ⟨j, hj, rfl, AR, BQ⟩ := hrel
     rename World => wk
     have BK := Lib.hid (show Below w22.heap.size w22 wk by rw [hgn]; exact BQ.out)
     have BMK := Lib.hid (btA BM22.out BK.out)
     have HGN := Lib.hid hgn
     clear hgn
     by_cases hlj : j < 3
     case neg =>
      have l1 : decide ((j : Int) < 3) = false := decide_eq_false (by omega)
      have l2 : decide (j < 3) = false := decide_eq_false hlj
      clear hlj hj
      go_wp2_with fail
      go_roundw
      case rel =>
       have h1 := HI.out
       exact ⟨i + 1, by omega, by rw [EI.out], BMK⟩
      case measure =>
       have h1 := HI.out
       rw [EI.out]
       simp [intOf]; omega
     have l1 : decide ((j : Int) < 3) = true := decide_eq_true (by omega)
     have l2 : decide (j < 3) = true := decide_eq_true hlj
     have HJ := Lib.hid hlj
     have EJ := Lib.hid (show wrap64 ((j : Int) + 1) = ((j + 1 : Nat) : Int) by unfold wrap64; omega)
     obtain ⟨V, ⟨av, cv, k0, k1, k2, hdv⟩, hq⟩ := AR.out j hlj
     obtain ⟨nv, hnv⟩ : ∃ z, z = V.2.2.length := ⟨_, rfl⟩
     rw [← hnv] at k2 hdv
     have HQ := Lib.hid hq
     have DVK := Lib.hid hdv
     have p0 : (0 : Int) ≤ (j : Int) := by omega
     have p1 : (j : Int) < 3 := by omega
     have HOG := Lib.hid (hq.other g HG.out HNE.out)
     clear hdv hq hnv hlj hj
     go_upto_region 32 with fail
     clear k0 k1 k2 p0 p1 l1 l2
     have q := bel_al0 wk (.cells #[.int .i64 V.1, .int .i64 V.2.1, .slice av nv cv] 33)
     have HV := Lib.hid (heap_alloc_new wk (.cells #[.int .i64 V.1, .int .i64 V.2.1, .slice av nv cv] 33))
     have DVV := Lib.hid (dv_below DVK.out q)
     have ARV := Lib.hid (arr3_below AR.out q)
     have BKV := Lib.hid (btA BK.out q)
     clear q DVK AR BK BQ
     generalize wk.alloc (.cells #[.int .i64 V.1, .int .i64 V.2.1, .slice av nv cv] 33) = wv at *
     generalize wk.heap.size = gv at *
     have PV := Lib.hid (pread_any _ V x HSX.out 15 wv DVV.out HQ.out.sm HQ.out.pn (by decide) 0 (u : Int) (by decide) (by have := HUL.out; omega))
     have hog := HOG.out
     rw [HGX.out, ← HGU.out.1, ← HGU.out.2] at hog
     rw [hog.1, hog.2, ← HZ0.out] at PV
     clear hog HOG DVV
     obtain ⟨x0, x1, x2⟩ := box3c HV.out
     go_wp2_with fail
     clear x0 x1 x2
     refine PV.out.mono ?_
     rintro e wx ⟨⟨v7, rfl, s7⟩, hb⟩
     have z1 := conv_sl s7
     have z2 := conv_sl (sl_below SO22.out (btA BKV.out hb))
     obtain ⟨a7, c7, rfl, -, -⟩ := sl_form s7
     rw [← HGU.out.2] at z1 ⊢
     have ARX := Lib.hid (arr3_below ARV.out hb)
     have BKX := Lib.hid (show Below gn w22 wx by rw [← HGN.out]; exact btA BKV.out hb)
     clear hb s7 PV HV ARV BKV
     go_wp2_with fail
     clear z1 z2
     go_roundw
     case rel =>
      have h1 := HJ.out
      exact ⟨j + 1, by omega, by rw [EJ.out], ARX, BKX⟩
     case measure =>
      have h1 := HJ.out
      rw [EJ.out]
      simp [intOf]; omega
end Go.Proofs.Ytpipgbjkkiheaaa.Gf
