/- What is proved here: the walk of the law ScanOpens, over what it asks of the program. No condition. -/
import Derived.Test.YtlnccofanicihaaDoorQ9k
namespace Go.Proofs.YtlnccofanicihaaDoor.Gf
open Go Go.Joins Go.ChangeShapes Go.WideShapes Go.ChangeAt Go.RowKit Go.Deep Go.Proofs.YtlnccofanicihaaDoor.By Go.Proofs.YtlnccofanicihaaDoor.Crc Go.Proofs.YtlnccofanicihaaDoor.Qt

theorem recsF_len (b : List Nat) : ∀ n p, (recsF b n p).1.length ≤ n
  | 0, _ => by simp [recsF]
  | n + 1, p => by
    have h := recsF_len b n (p + decN (b.drop p))
    unfold recsF
    split
    · rw [List.length_cons]
      omega
    · simp
theorem slvF_len (b : List Nat) : ∀ n p, (slvF b n p).length ≤ n
  | 0, _ => by simp [slvF]
  | n + 1, p => by
    have h := slvF_len b n (p + decN (b.drop p))
    have h2 := slvF_len b n (p + 8)
    unfold slvF
    split
    · simp
    · split
      · rw [List.length_cons]
        omega
      · omega
theorem opL_len (l : List Nat) : (opL l).1.length ≤ l.length + 1 := by
  unfold opL
  split
  · exact recsF_len l _ _
  · simp
theorem slv_len (l : List Nat) (p : Nat) : (slv l p).length ≤ l.length + 1 := slvF_len l _ _
theorem dX7_agg (l : List Nat) : ∃ a b c : Int, dX7 l = .agg #[.int .i64 a, .int .i64 b, .int .i64 c] := by
  unfold dX7
  split
  · exact ⟨_, _, _, rfl⟩
  · exact ⟨0, 0, 0, rfl⟩
theorem own_empty9 (W : World) {k : Nat} (hk : W.heap.size = k) : Own (W.alloc (.cells #[] 5)) W.heap.size (.slice (some ⟨k, 0, none⟩) 0 0) [] := by
  subst hk
  exact own_empty W (Nat.le_refl _)
/-- A remainder that is not negative, in the law's way. -/
theorem mod_two (n0 : Int) {m : Nat} (hm : 0 < m) (h2 : m ≤ 1000000) : ∃ (A s : Int) (k : Nat), n0.tmod (m : Int) = A ∧ wrap64 (A + (m : Int)) = s ∧ s.tmod (m : Int) = (k : Int) ∧ k < m := by
  have h1 := Int.tmod_lt_of_pos n0 (b := (m : Int)) (by omega)
  have h2' := Int.lt_tmod_of_pos n0 (b := (m : Int)) (by omega)
  have h3 := Int.emod_lt_of_pos (n0.tmod (m : Int) + (m : Int)) (show (0 : Int) < (m : Int) by omega)
  have h4 := Int.emod_nonneg (n0.tmod (m : Int) + (m : Int)) (show (m : Int) ≠ 0 by omega)
  obtain ⟨t, ht⟩ : ∃ t, t = n0.tmod (m : Int) := ⟨_, rfl⟩
  rw [← ht] at h1 h2' h3 h4
  obtain ⟨c, hc⟩ : ∃ c : Nat, (c : Int) = (t + (m : Int)) % (m : Int) := ⟨((t + (m : Int)) % (m : Int)).toNat, Int.toNat_of_nonneg h4⟩
  rw [← hc] at h3 h4
  refine ⟨t, t + (m : Int), c, ht.symm, ?_, ?_, by omega⟩
  · clear ht hc
    unfold wrap64; omega
  · rw [Int.tmod_eq_emod_of_nonneg (by omega), ← hc]
theorem own_at {w : World} {base : Nat} {v : Value} {l : List Nat} (h : Own w base v l) (hl : 0 < l.length) : ∃ g cap cur, v = .slice (some ⟨g, 0, none⟩) l.length cap ∧ base ≤ g ∧ w.heap[g]? = some (.cells cur 5 (0, 0)) := by
  obtain ⟨_, _, ⟨rfl, h2⟩ | ⟨g, cap, cur, rfl, hg, hb, hn, hm, hsz, ht⟩⟩ := h
  · omega
  · exact ⟨g, cap, cur, rfl, hg, hb⟩
set_option maxRecDepth 100000 in
set_option maxHeartbeats 12800000 in
theorem opens9_walk {Ok : World → Prop} (P : PC9 Ok) (v0 v : Value) (l0 : List Nat) (L : List Ndl) (n2 : Int) (c : Nat) (w : World) (hw : Ok w) (sr : Sl w v0 l0) (s : Ns w v L) (_h2 : (Lit.int .i64 n2).wf = true) (hc : c < 256) : Calls Tryd.prog 3 #[v0, v, .int .i64 n2, .int .u8 (c : Int)] w fun e w' => e = .returned (.bool true) ∧ Below w.heap.size w w' := by
  have SM := Lib.hid (small_any v L w s)
  have HG := Lib.hid (good_small s)
  have HKL := Lib.hid (smL_length L)
  obtain ⟨al, cl, rfl, -, -⟩ := ns_form s
  generalize L.length = n at *
  generalize smL L = K at *
  have AW := Lib.hid (fun W (h : Ok W) => awake9_any P W h)
  have ST := Lib.hid (fun (W W' : World) => P.st (w := W) (w' := W'))
  have HP := Lib.hid P
  have HBF := Lib.hid (bodF_le K HG.out)
  obtain ⟨k1, hk1⟩ : ∃ z, z = K.length := ⟨_, rfl⟩
  have HK1 := Lib.hid hk1
  have hk12 : k1 ≤ 12 := by have := HKL.out; omega
  have HC := Lib.hid hc
  have SR := Lib.hid sr
  obtain ⟨ar, cr, rfl, hcr, -⟩ := sl_form sr
  obtain ⟨nr, hnr⟩ : ∃ z, z = l0.length := ⟨_, rfl⟩
  rw [← hnr] at SR hcr ⊢
  have HNR := Lib.hid hnr
  clear s P hk1 sr hnr hc
  go_enter Tryd.func3, Tryd.ntmps3
  by_cases hbig : 2000 < nr
  · have g1 : decide ((nr : Int) > 2000) = true := decide_eq_true (by omega)
    have g2 : decide (2000 < (nr : Int)) = true := decide_eq_true (by omega)
    have hnr := HNR.out
    obtain ⟨b0, o0, c0, hv0, -, -, -⟩ := sl_cells SR.out (by omega)
    obtain ⟨rfl, -, rfl⟩ : ar = some ⟨b0, o0, none⟩ ∧ nr = l0.length ∧ cr = c0 := by simpa using hv0
    have q40 : 2000 ≤ cr := by omega
    have q40' : (2000 : Int) ≤ (cr : Int) := by omega
    have SR1 := Lib.hid (sl_take (n := 2000) (show Sl w (.slice (some ⟨b0, o0, none⟩) l0.length cr) l0 by rw [← hnr]; exact SR.out) (by omega))
    have HL1 : Hid ((l0.take 2000).length ≤ 2000) := Lib.hid (by rw [List.length_take]; omega)
    clear hv0 hnr hbig hcr
    go_wp2_with fail
    have SR0 := Lib.hid SR1.out
    have HL0 := Lib.hid HL1.out
    generalize l0.take 2000 = lr at SR0 HL0
    clear SR1 HL1
    refine SM.out.mono ?_
    rintro e w1 ⟨⟨v1, rfl, hn1⟩, hb1⟩
    have hw1 := Lib.hid (ST.out _ _ hw hb1)
    have B1 := Lib.hid hb1
    have FA := Lib.hid (file_any v1 K w1 hn1 HG.out (by have := HKL.out; omega))
    unfold FO at FA
    obtain ⟨a1, c1, rfl, -, -⟩ := ns_form hn1
    rw [← HK1.out] at FA ⊢
    clear hn1 hb1 SM hw
    go_wp2_with fail
    refine FA.out.mono ?_
    rintro e w2 ⟨⟨v2, t2, rfl, ho2, hr2⟩, hb2⟩
    have hw2 := Lib.hid (ST.out _ _ hw1.out hb2)
    have B2 := Lib.hid (bt B1.out hb2)
    obtain ⟨ta, tn, tc, rfl⟩ : ∃ a n c, t2 = Value.slice a n c := by
      obtain ⟨_, ⟨h, _⟩ | ⟨g, cap, cur, h, _⟩⟩ := hr2
      · exact ⟨_, _, _, h⟩
      · exact ⟨_, _, _, h⟩
    obtain ⟨a2, c2, rfl, -, -⟩ := sl_form ho2.sl
    obtain ⟨m2, hm2⟩ : ∃ z, z = (filL K).length := ⟨_, rfl⟩
    rw [← hm2] at ho2 ⊢
    have HM2 := Lib.hid hm2
    have SL2 := Lib.hid ho2.sl
    have HLN : Hid (16 ≤ m2 ∧ m2 ≤ 50000) := Lib.hid (by have h1 := HM2.out; rw [filL_length] at h1; have h2 := HBF.out; have h3 := HKL.out; omega)
    clear ho2 hr2 hb2 FA hm2 hw1 B1
    obtain ⟨A2, s2, ix, u1, u2, u3, hix⟩ := mod_two n2 (m := m2) (by have := HLN.out.1; omega) (by have := HLN.out.2; omega)
    have U2 := Lib.hid u2
    clear u2
    have HIX := Lib.hid hix
    have hm16 := HLN.out.1
    have u5 : ((m2 : Int) == 0) = false := beq_false_of_ne (by omega)
    have u6 : ¬ m2 = 0 := by omega
    have j1 : (0 : Int) ≤ (ix : Int) := by omega
    have j2 : (ix : Int) < (m2 : Int) := by omega
    have OE := Lib.hid (own_empty w2 (Nat.le_refl w2.heap.size))
    have BE := Lib.hid (bel_al w2 (.cells #[] 5))
    clear hm16 hix
    have u2 := U2.out
    go_wp2_with (first
      | (at_builtin; refine app_sl (dst := some 35) ?_ ?_ OE.out (sl_below SL2.out BE.out) (by have h1 := HLN.out; have h2 := HM2.out; simp only [List.length_nil]; omega) (by simp) ?_; exact rfl; exact rfl; intro v5 w5 ho5 hg5; rw [List.nil_append] at ho5; have B5 := Lib.hid (BE.out.grown hg5 BE.out.size fun q hq => by have h1 := OE.out.lt q hq; omega); obtain ⟨g5, c5, cur5, rfl, hgb5, hgh5⟩ := own_at ho5 (by rw [filL_length]; omega); rw [← HM2.out] at ho5 ⊢; obtain ⟨y0, y1, -⟩ := own_cell ho5 HM2.out.symm HIX.out; have O5 := Lib.hid ho5; have HGB5 := Lib.hid hgb5; have O5s := Lib.hid (own_set O5.out HM2.out.symm HIX.out HC.out); have B5s := Lib.hid (B5.out.setCell (p := ⟨g5, ix, none⟩) HGB5.out (.int .u8 (c : Int))); have OE2 := Lib.hid (own_empty9 (w5.setCell ⟨g5, ix, none⟩ (.int .u8 (c : Int))) (k := w5.heap.size) (by simp)); have BE2 := Lib.hid (bel_al (w5.setCell ⟨g5, ix, none⟩ (.int .u8 (c : Int))) (.cells #[] 5)); clear ho5 hg5 hgb5 hgh5)
      | (at_builtin; refine app_sl (dst := some 54) ?_ ?_ OE2.out (sl_below (sl_below SL2.out B5s.out) BE2.out) (by have h1 := HLN.out; have h2 := HM2.out; simp only [List.length_nil]; omega) BE2.out.size ?_; exact rfl; exact rfl; intro v6 w6 ho6 hg6; rw [List.nil_append] at ho6; have B6 := Lib.hid (BE2.out.grown hg6 BE2.out.size fun q hq => OE2.out.lt q hq); have O6 := Lib.hid ho6; clear ho6 hg6)
      | (at_builtin; refine app_sl (dst := some 56) ?_ ?_ O6.out (sl_below SR0.out (bt (bt B2.out B5s.out) B6.out)) (by have h1 := HLN.out; have h2 := HM2.out; have h3 := HL0.out; omega) B6.out.size ?_; exact rfl; exact rfl; intro v7 w7 ho7 hg7; have B7 := Lib.hid (B6.out.grown hg7 B6.out.size fun q hq => O6.out.lt q hq); obtain ⟨a7, c7, rfl, -, -⟩ := sl_form ho7.sl; obtain ⟨m7, hm7⟩ : ∃ z, z = (filL K ++ lr).length := ⟨_, rfl⟩; rw [← hm7] at ho7 ⊢; have HM7 := Lib.hid hm7; have O7 := Lib.hid ho7; clear ho7 hg7 hm7))
    have X0 := bel_al w7 (.cells #[.slice (some ⟨b0, o0, none⟩) 2000 cr, .slice a2 m2 c2, .slice (some ⟨g5, 0, none⟩) m2 c5, .slice a7 m7 c7] 22)
    have HX1 := Lib.hid (heap_alloc_new w7 (.cells #[.slice (some ⟨b0, o0, none⟩) 2000 cr, .slice a2 m2 c2, .slice (some ⟨g5, 0, none⟩) m2 c5, .slice a7 m7 c7] 22))
    have B8 := Lib.hid (bt (bt B2.out (bt B5s.out B7.out)) X0)
    have hw8 := Lib.hid (ST.out _ _ hw2.out (bt (bt B5s.out B7.out) X0))
    have SA := Lib.hid (sl_below SR0.out B8.out)
    have SB := Lib.hid (sl_below SL2.out (bt (bt B5s.out B7.out) X0))
    have SC := Lib.hid (sl_below O5s.out.sl (bt B7.out X0))
    have SD := Lib.hid (sl_below O7.out.sl X0)
    clear X0 B7 O7 B6 O6 B5 O5 OE BE OE2 BE2 SL2 SR0 hw2 B2 u1 u2 u3 y0 y1 O5s B5s HGB5 u5 u6 j1 j2 U2
    generalize w7.alloc (.cells #[.slice (some ⟨b0, o0, none⟩) 2000 cr, .slice a2 m2 c2, .slice (some ⟨g5, 0, none⟩) m2 c5, .slice a7 m7 c7] 22) = W8 at *
    have HX : Hid (∀ i, i < 4 → ∃ ax nx cx lx, W8.cell? ⟨w7.heap.size, i, none⟩ = some (.slice ax nx cx) ∧ Sl W8 (.slice ax nx cx) lx ∧ lx.length ≤ 60000) := Lib.hid fun i hi => by
      have h1 := HLN.out
      have h2 := HM2.out
      have h3 := HL0.out
      rcases (show i = 0 ∨ i = 1 ∨ i = 2 ∨ i = 3 by omega) with rfl | rfl | rfl | rfl
      · exact ⟨_, _, _, _, cell_of_row _ _ 0 _ _ _ HX1.out, SA.out, by omega⟩
      · exact ⟨_, _, _, _, cell_of_row _ _ 1 _ _ _ HX1.out, SB.out, by omega⟩
      · exact ⟨_, _, _, _, cell_of_row _ _ 2 _ _ _ HX1.out, SC.out, by rw [List.length_set]; omega⟩
      · exact ⟨_, _, _, _, cell_of_row _ _ 3 _ _ _ HX1.out, SD.out, by rw [List.length_append]; omega⟩
    obtain ⟨gb, hgb⟩ : ∃ z, z = w7.heap.size := ⟨_, rfl⟩
    rw [← hgb] at HX ⊢
    clear hgb HX1 SA SB SC SD
    go_loopw [59] (fun t wr => ∃ p : Nat, p ≤ 4 ∧ t = .int .i64 (p : Int) ∧ Hid (Below W8.heap.size W8 wr)) (fun t _ => 4 - (intOf t).toNat)
    case atStart => exact ⟨0, by omega, rfl, Lib.hid (Below.refl _ _)⟩
    case round =>
      obtain ⟨p, hp, rfl, HB⟩ := hrel
      by_cases hp2 : p < 4
      · have l1 : decide ((p : Int) < 4) = true := decide_eq_true (by omega)
        have p0 : (0 : Int) ≤ (p : Int) := by omega
        have p1 : (p : Int) < 4 := by omega
        obtain ⟨ax, nx, cx, lx, f0, hsx, hlx⟩ := HX.out p hp2
        replace f0 := (HB.out.cell (block_lt_of_cell f0)).trans f0
        have SX := Lib.hid (sl_below hsx HB.out)
        have HLX := Lib.hid hlx
        have hwr := Lib.hid (ST.out _ _ hw8.out HB.out)
        have OP := Lib.hid (HP.out.opn _ lx wr hwr.out SX.out (by omega))
        have OR := Lib.hid (fun W (h : Below wr.heap.size wr W) => ropen_any _ lx W (sl_below SX.out h) (by have := HLX.out; omega))
        have PS := Lib.hid (fun W (h : Below wr.heap.size wr W) => HP.out.slvg _ lx W (ST.out _ _ hwr.out h) (sl_below SX.out h) (by have := HLX.out; omega))
        have RV := Lib.hid (fun W (h : Below wr.heap.size wr W) => rsalvage_any _ lx W (sl_below SX.out h) (by have := HLX.out; omega))
        have HRL : Hid ((opL lx).1.length ≤ 100000) := Lib.hid (by have := opL_len lx; omega)
        have HSL : Hid ((slv lx 16).length ≤ 100000) := Lib.hid (by have := slv_len lx 16; omega)
        obtain ⟨xa, xb, xc, hx⟩ := dX7_agg lx
        unfold OO at OP OR
        unfold SO at PS RV
        rw [hx] at OP
        simp only [hx] at OR
        generalize (opL lx).2 = en at *
        generalize (opL lx).1 = R at *
        generalize dE7 lx = E at *
        generalize slv lx 16 = S at *
        clear hsx hlx hp2 hx SX
        go_wp2_with fail
        refine OP.out.mono ?_
        rintro e y1 ⟨⟨u1, rfl, ho1⟩, hb1⟩
        have hb2 := bel_al y1 (.cells #[.int .i64 xa, .int .i64 xb, .int .i64 xc] 30)
        have HS1 := Lib.hid (heap_alloc_new y1 (.cells #[.int .i64 xa, .int .i64 xb, .int .i64 xc] 30))
        have D2 := Lib.hid (bt hb1 hb2)
        have RS2 := Lib.hid (rs_below (owR_rs ho1) hb2)
        have OR2 := Lib.hid (OR.out _ D2.out)
        obtain ⟨b1, k1', rfl, -, -⟩ := owR_form ho1
        obtain ⟨lr1, hlr1⟩ : ∃ z, z = R.length := ⟨_, rfl⟩
        rw [← hlr1] at RS2 ⊢
        have HLR := Lib.hid hlr1
        clear ho1 hb1 hb2 OP OR f0 hlr1
        go_wp2_with fail
        refine OR2.out.mono ?_
        rintro e y2 ⟨⟨u2, rfl, ho2⟩, hb2⟩
        have hb3 := bel_al y2 (.cells #[.int .i64 xa, .int .i64 xb, .int .i64 xc] 30)
        have HS2 := Lib.hid (heap_alloc_new y2 (.cells #[.int .i64 xa, .int .i64 xb, .int .i64 xc] 30))
        have HS3 := Lib.hid ((hb3.block _ (by have h1 := hb2.size; have h2 := lt_of_some HS1.out; omega)).trans ((hb2.block _ (lt_of_some HS1.out)).trans HS1.out))
        have D3 := Lib.hid (bt (bt D2.out hb2) hb3)
        have RS3 := Lib.hid (rs_below RS2.out (bt hb2 hb3))
        have RQ3 := Lib.hid (rs_below (owR_rs ho2) hb3)
        obtain ⟨b2, k2', rfl, -, -⟩ := owR_form ho2
        rw [← HLR.out] at RQ3 ⊢
        have SA3 := Lib.hid (same9_any _ _ R _ RS3.out RQ3.out HRL.out)
        obtain ⟨x0, x1, x2, -, -, -⟩ := bx3 HS3.out
        obtain ⟨x3, x4, x5, -, -, -⟩ := bx3 HS2.out
        clear ho2 hb2 hb3 OR2 RS2 RS3 RQ3 HS1
        go_wp2_with fail
        refine SA3.out.mono ?_
        rintro e y3 ⟨rfl, hb4⟩
        have D4 := Lib.hid (bt D3.out hb4)
        have PS4 := Lib.hid (PS.out _ D4.out)
        clear hb4 SA3 x0 x1 x2 x3 x4 x5 HS2 HS3
        go_wp2_with fail
        refine PS4.out.mono ?_
        rintro e y4 ⟨⟨u4, rfl, ho4⟩, hb5⟩
        have D5 := Lib.hid (bt D4.out hb5)
        have RV5 := Lib.hid (RV.out _ D5.out)
        have RS5 := Lib.hid (owR_rs ho4)
        obtain ⟨b4, k4', rfl, -, -⟩ := owR_form ho4
        obtain ⟨ls1, hls1⟩ : ∃ z, z = S.length := ⟨_, rfl⟩
        rw [← hls1] at RS5 ⊢
        have HLS := Lib.hid hls1
        clear ho4 hb5 PS PS4 RV hls1
        go_wp2_with fail
        refine RV5.out.mono ?_
        rintro e y5 ⟨⟨u5, rfl, ho5⟩, hb6⟩
        have D6 := Lib.hid (bt D5.out hb6)
        have RS6 := Lib.hid (rs_below RS5.out hb6)
        have RQ6 := Lib.hid (owR_rs ho5)
        obtain ⟨b5, k5', rfl, -, -⟩ := owR_form ho5
        rw [← HLS.out] at RQ6 ⊢
        have SA6 := Lib.hid (same9_any _ _ S _ RS6.out RQ6.out HSL.out)
        clear ho5 hb6 RV5 RS5 RS6 RQ6
        go_wp2_with fail
        refine SA6.out.mono ?_
        rintro e y6 ⟨rfl, hb7⟩
        have D7 := Lib.hid (bt HB.out (bt D6.out hb7))
        clear hb7 SA6
        go_wp2
        go_roundw
        case rel => exact ⟨p + 1, by omega, by go_num, D7⟩
        case measure => simp [intOf]; omega
      · obtain rfl : p = 4 := by omega
        have hw9 := Lib.hid (ST.out _ _ hw8.out HB.out)
        have B9 := Lib.hid (bt B8.out HB.out)
        go_wp2_with fail
        refine (AW.out _ hw9.out).mono ?_
        rintro e w5 ⟨rfl, hb5⟩
        have B5 := Lib.hid (bt B9.out hb5)
        clear hb5
        go_wp2
        go_ret
        exact ⟨rfl, B5.out⟩
  · have g1 : decide ((nr : Int) > 2000) = false := decide_eq_false (by omega)
    have g2 : decide (2000 < (nr : Int)) = false := decide_eq_false (by omega)
    have SR1 := Lib.hid SR.out
    have HL1 : Hid (l0.length ≤ 2000) := Lib.hid (by rw [← HNR.out]; omega)
    clear hbig hcr
    go_wp2_with fail
    have SR0 := Lib.hid SR1.out
    have HL0 := Lib.hid HL1.out
    generalize l0 = lr at SR0 HL0
    clear SR1 HL1
    refine SM.out.mono ?_
    rintro e w1 ⟨⟨v1, rfl, hn1⟩, hb1⟩
    have hw1 := Lib.hid (ST.out _ _ hw hb1)
    have B1 := Lib.hid hb1
    have FA := Lib.hid (file_any v1 K w1 hn1 HG.out (by have := HKL.out; omega))
    unfold FO at FA
    obtain ⟨a1, c1, rfl, -, -⟩ := ns_form hn1
    rw [← HK1.out] at FA ⊢
    clear hn1 hb1 SM hw
    go_wp2_with fail
    refine FA.out.mono ?_
    rintro e w2 ⟨⟨v2, t2, rfl, ho2, hr2⟩, hb2⟩
    have hw2 := Lib.hid (ST.out _ _ hw1.out hb2)
    have B2 := Lib.hid (bt B1.out hb2)
    obtain ⟨ta, tn, tc, rfl⟩ : ∃ a n c, t2 = Value.slice a n c := by
      obtain ⟨_, ⟨h, _⟩ | ⟨g, cap, cur, h, _⟩⟩ := hr2
      · exact ⟨_, _, _, h⟩
      · exact ⟨_, _, _, h⟩
    obtain ⟨a2, c2, rfl, -, -⟩ := sl_form ho2.sl
    obtain ⟨m2, hm2⟩ : ∃ z, z = (filL K).length := ⟨_, rfl⟩
    rw [← hm2] at ho2 ⊢
    have HM2 := Lib.hid hm2
    have SL2 := Lib.hid ho2.sl
    have HLN : Hid (16 ≤ m2 ∧ m2 ≤ 50000) := Lib.hid (by have h1 := HM2.out; rw [filL_length] at h1; have h2 := HBF.out; have h3 := HKL.out; omega)
    clear ho2 hr2 hb2 FA hm2 hw1 B1
    obtain ⟨A2, s2, ix, u1, u2, u3, hix⟩ := mod_two n2 (m := m2) (by have := HLN.out.1; omega) (by have := HLN.out.2; omega)
    have U2 := Lib.hid u2
    clear u2
    have HIX := Lib.hid hix
    have hm16 := HLN.out.1
    have u5 : ((m2 : Int) == 0) = false := beq_false_of_ne (by omega)
    have u6 : ¬ m2 = 0 := by omega
    have j1 : (0 : Int) ≤ (ix : Int) := by omega
    have j2 : (ix : Int) < (m2 : Int) := by omega
    have OE := Lib.hid (own_empty w2 (Nat.le_refl w2.heap.size))
    have BE := Lib.hid (bel_al w2 (.cells #[] 5))
    clear hm16 hix
    have u2 := U2.out
    go_wp2_with (first
      | (at_builtin; refine app_sl (dst := some 35) ?_ ?_ OE.out (sl_below SL2.out BE.out) (by have h1 := HLN.out; have h2 := HM2.out; simp only [List.length_nil]; omega) (by simp) ?_; exact rfl; exact rfl; intro v5 w5 ho5 hg5; rw [List.nil_append] at ho5; have B5 := Lib.hid (BE.out.grown hg5 BE.out.size fun q hq => by have h1 := OE.out.lt q hq; omega); obtain ⟨g5, c5, cur5, rfl, hgb5, hgh5⟩ := own_at ho5 (by rw [filL_length]; omega); rw [← HM2.out] at ho5 ⊢; obtain ⟨y0, y1, -⟩ := own_cell ho5 HM2.out.symm HIX.out; have O5 := Lib.hid ho5; have HGB5 := Lib.hid hgb5; have O5s := Lib.hid (own_set O5.out HM2.out.symm HIX.out HC.out); have B5s := Lib.hid (B5.out.setCell (p := ⟨g5, ix, none⟩) HGB5.out (.int .u8 (c : Int))); have OE2 := Lib.hid (own_empty9 (w5.setCell ⟨g5, ix, none⟩ (.int .u8 (c : Int))) (k := w5.heap.size) (by simp)); have BE2 := Lib.hid (bel_al (w5.setCell ⟨g5, ix, none⟩ (.int .u8 (c : Int))) (.cells #[] 5)); clear ho5 hg5 hgb5 hgh5)
      | (at_builtin; refine app_sl (dst := some 54) ?_ ?_ OE2.out (sl_below (sl_below SL2.out B5s.out) BE2.out) (by have h1 := HLN.out; have h2 := HM2.out; simp only [List.length_nil]; omega) BE2.out.size ?_; exact rfl; exact rfl; intro v6 w6 ho6 hg6; rw [List.nil_append] at ho6; have B6 := Lib.hid (BE2.out.grown hg6 BE2.out.size fun q hq => OE2.out.lt q hq); have O6 := Lib.hid ho6; clear ho6 hg6)
      | (at_builtin; refine app_sl (dst := some 56) ?_ ?_ O6.out (sl_below SR0.out (bt (bt B2.out B5s.out) B6.out)) (by have h1 := HLN.out; have h2 := HM2.out; have h3 := HL0.out; omega) B6.out.size ?_; exact rfl; exact rfl; intro v7 w7 ho7 hg7; have B7 := Lib.hid (B6.out.grown hg7 B6.out.size fun q hq => O6.out.lt q hq); obtain ⟨a7, c7, rfl, -, -⟩ := sl_form ho7.sl; obtain ⟨m7, hm7⟩ : ∃ z, z = (filL K ++ lr).length := ⟨_, rfl⟩; rw [← hm7] at ho7 ⊢; have HM7 := Lib.hid hm7; have O7 := Lib.hid ho7; clear ho7 hg7 hm7))
    have X0 := bel_al w7 (.cells #[.slice ar nr cr, .slice a2 m2 c2, .slice (some ⟨g5, 0, none⟩) m2 c5, .slice a7 m7 c7] 22)
    have HX1 := Lib.hid (heap_alloc_new w7 (.cells #[.slice ar nr cr, .slice a2 m2 c2, .slice (some ⟨g5, 0, none⟩) m2 c5, .slice a7 m7 c7] 22))
    have B8 := Lib.hid (bt (bt B2.out (bt B5s.out B7.out)) X0)
    have hw8 := Lib.hid (ST.out _ _ hw2.out (bt (bt B5s.out B7.out) X0))
    have SA := Lib.hid (sl_below SR0.out B8.out)
    have SB := Lib.hid (sl_below SL2.out (bt (bt B5s.out B7.out) X0))
    have SC := Lib.hid (sl_below O5s.out.sl (bt B7.out X0))
    have SD := Lib.hid (sl_below O7.out.sl X0)
    clear X0 B7 O7 B6 O6 B5 O5 OE BE OE2 BE2 SL2 SR0 hw2 B2 u1 u2 u3 y0 y1 O5s B5s HGB5 u5 u6 j1 j2 U2
    generalize w7.alloc (.cells #[.slice ar nr cr, .slice a2 m2 c2, .slice (some ⟨g5, 0, none⟩) m2 c5, .slice a7 m7 c7] 22) = W8 at *
    have HX : Hid (∀ i, i < 4 → ∃ ax nx cx lx, W8.cell? ⟨w7.heap.size, i, none⟩ = some (.slice ax nx cx) ∧ Sl W8 (.slice ax nx cx) lx ∧ lx.length ≤ 60000) := Lib.hid fun i hi => by
      have h1 := HLN.out
      have h2 := HM2.out
      have h3 := HL0.out
      rcases (show i = 0 ∨ i = 1 ∨ i = 2 ∨ i = 3 by omega) with rfl | rfl | rfl | rfl
      · exact ⟨_, _, _, _, cell_of_row _ _ 0 _ _ _ HX1.out, SA.out, by omega⟩
      · exact ⟨_, _, _, _, cell_of_row _ _ 1 _ _ _ HX1.out, SB.out, by omega⟩
      · exact ⟨_, _, _, _, cell_of_row _ _ 2 _ _ _ HX1.out, SC.out, by rw [List.length_set]; omega⟩
      · exact ⟨_, _, _, _, cell_of_row _ _ 3 _ _ _ HX1.out, SD.out, by rw [List.length_append]; omega⟩
    obtain ⟨gb, hgb⟩ : ∃ z, z = w7.heap.size := ⟨_, rfl⟩
    rw [← hgb] at HX ⊢
    clear hgb HX1 SA SB SC SD
    go_loopw [59] (fun t wr => ∃ p : Nat, p ≤ 4 ∧ t = .int .i64 (p : Int) ∧ Hid (Below W8.heap.size W8 wr)) (fun t _ => 4 - (intOf t).toNat)
    case atStart => exact ⟨0, by omega, rfl, Lib.hid (Below.refl _ _)⟩
    case round =>
      obtain ⟨p, hp, rfl, HB⟩ := hrel
      by_cases hp2 : p < 4
      · have l1 : decide ((p : Int) < 4) = true := decide_eq_true (by omega)
        have p0 : (0 : Int) ≤ (p : Int) := by omega
        have p1 : (p : Int) < 4 := by omega
        obtain ⟨ax, nx, cx, lx, f0, hsx, hlx⟩ := HX.out p hp2
        replace f0 := (HB.out.cell (block_lt_of_cell f0)).trans f0
        have SX := Lib.hid (sl_below hsx HB.out)
        have HLX := Lib.hid hlx
        have hwr := Lib.hid (ST.out _ _ hw8.out HB.out)
        have OP := Lib.hid (HP.out.opn _ lx wr hwr.out SX.out (by omega))
        have OR := Lib.hid (fun W (h : Below wr.heap.size wr W) => ropen_any _ lx W (sl_below SX.out h) (by have := HLX.out; omega))
        have PS := Lib.hid (fun W (h : Below wr.heap.size wr W) => HP.out.slvg _ lx W (ST.out _ _ hwr.out h) (sl_below SX.out h) (by have := HLX.out; omega))
        have RV := Lib.hid (fun W (h : Below wr.heap.size wr W) => rsalvage_any _ lx W (sl_below SX.out h) (by have := HLX.out; omega))
        have HRL : Hid ((opL lx).1.length ≤ 100000) := Lib.hid (by have := opL_len lx; omega)
        have HSL : Hid ((slv lx 16).length ≤ 100000) := Lib.hid (by have := slv_len lx 16; omega)
        obtain ⟨xa, xb, xc, hx⟩ := dX7_agg lx
        unfold OO at OP OR
        unfold SO at PS RV
        rw [hx] at OP
        simp only [hx] at OR
        generalize (opL lx).2 = en at *
        generalize (opL lx).1 = R at *
        generalize dE7 lx = E at *
        generalize slv lx 16 = S at *
        clear hsx hlx hp2 hx SX
        go_wp2_with fail
        refine OP.out.mono ?_
        rintro e y1 ⟨⟨u1, rfl, ho1⟩, hb1⟩
        have hb2 := bel_al y1 (.cells #[.int .i64 xa, .int .i64 xb, .int .i64 xc] 30)
        have HS1 := Lib.hid (heap_alloc_new y1 (.cells #[.int .i64 xa, .int .i64 xb, .int .i64 xc] 30))
        have D2 := Lib.hid (bt hb1 hb2)
        have RS2 := Lib.hid (rs_below (owR_rs ho1) hb2)
        have OR2 := Lib.hid (OR.out _ D2.out)
        obtain ⟨b1, k1', rfl, -, -⟩ := owR_form ho1
        obtain ⟨lr1, hlr1⟩ : ∃ z, z = R.length := ⟨_, rfl⟩
        rw [← hlr1] at RS2 ⊢
        have HLR := Lib.hid hlr1
        clear ho1 hb1 hb2 OP OR f0 hlr1
        go_wp2_with fail
        refine OR2.out.mono ?_
        rintro e y2 ⟨⟨u2, rfl, ho2⟩, hb2⟩
        have hb3 := bel_al y2 (.cells #[.int .i64 xa, .int .i64 xb, .int .i64 xc] 30)
        have HS2 := Lib.hid (heap_alloc_new y2 (.cells #[.int .i64 xa, .int .i64 xb, .int .i64 xc] 30))
        have HS3 := Lib.hid ((hb3.block _ (by have h1 := hb2.size; have h2 := lt_of_some HS1.out; omega)).trans ((hb2.block _ (lt_of_some HS1.out)).trans HS1.out))
        have D3 := Lib.hid (bt (bt D2.out hb2) hb3)
        have RS3 := Lib.hid (rs_below RS2.out (bt hb2 hb3))
        have RQ3 := Lib.hid (rs_below (owR_rs ho2) hb3)
        obtain ⟨b2, k2', rfl, -, -⟩ := owR_form ho2
        rw [← HLR.out] at RQ3 ⊢
        have SA3 := Lib.hid (same9_any _ _ R _ RS3.out RQ3.out HRL.out)
        obtain ⟨x0, x1, x2, -, -, -⟩ := bx3 HS3.out
        obtain ⟨x3, x4, x5, -, -, -⟩ := bx3 HS2.out
        clear ho2 hb2 hb3 OR2 RS2 RS3 RQ3 HS1
        go_wp2_with fail
        refine SA3.out.mono ?_
        rintro e y3 ⟨rfl, hb4⟩
        have D4 := Lib.hid (bt D3.out hb4)
        have PS4 := Lib.hid (PS.out _ D4.out)
        clear hb4 SA3 x0 x1 x2 x3 x4 x5 HS2 HS3
        go_wp2_with fail
        refine PS4.out.mono ?_
        rintro e y4 ⟨⟨u4, rfl, ho4⟩, hb5⟩
        have D5 := Lib.hid (bt D4.out hb5)
        have RV5 := Lib.hid (RV.out _ D5.out)
        have RS5 := Lib.hid (owR_rs ho4)
        obtain ⟨b4, k4', rfl, -, -⟩ := owR_form ho4
        obtain ⟨ls1, hls1⟩ : ∃ z, z = S.length := ⟨_, rfl⟩
        rw [← hls1] at RS5 ⊢
        have HLS := Lib.hid hls1
        clear ho4 hb5 PS PS4 RV hls1
        go_wp2_with fail
        refine RV5.out.mono ?_
        rintro e y5 ⟨⟨u5, rfl, ho5⟩, hb6⟩
        have D6 := Lib.hid (bt D5.out hb6)
        have RS6 := Lib.hid (rs_below RS5.out hb6)
        have RQ6 := Lib.hid (owR_rs ho5)
        obtain ⟨b5, k5', rfl, -, -⟩ := owR_form ho5
        rw [← HLS.out] at RQ6 ⊢
        have SA6 := Lib.hid (same9_any _ _ S _ RS6.out RQ6.out HSL.out)
        clear ho5 hb6 RV5 RS5 RS6 RQ6
        go_wp2_with fail
        refine SA6.out.mono ?_
        rintro e y6 ⟨rfl, hb7⟩
        have D7 := Lib.hid (bt HB.out (bt D6.out hb7))
        clear hb7 SA6
        go_wp2
        go_roundw
        case rel => exact ⟨p + 1, by omega, by go_num, D7⟩
        case measure => simp [intOf]; omega
      · obtain rfl : p = 4 := by omega
        have hw9 := Lib.hid (ST.out _ _ hw8.out HB.out)
        have B9 := Lib.hid (bt B8.out HB.out)
        go_wp2_with fail
        refine (AW.out _ hw9.out).mono ?_
        rintro e w5 ⟨rfl, hb5⟩
        have B5 := Lib.hid (bt B9.out hb5)
        clear hb5
        go_wp2
        go_ret
        exact ⟨rfl, B5.out⟩
end Go.Proofs.YtlnccofanicihaaDoor.Gf
