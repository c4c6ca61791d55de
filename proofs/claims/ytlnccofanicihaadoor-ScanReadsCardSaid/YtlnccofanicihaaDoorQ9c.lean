/- What is proved here: the walk of the law ScanReads, over what it asks of the program. No condition. -/
import Derived.Test.YtlnccofanicihaaDoorQ9k
namespace Go.Proofs.YtlnccofanicihaaDoor.Gf
open Go Go.Joins Go.ChangeShapes Go.WideShapes Go.ChangeAt Go.RowKit Go.Deep Go.Proofs.YtlnccofanicihaaDoor.By Go.Proofs.YtlnccofanicihaaDoor.Crc Go.Proofs.YtlnccofanicihaaDoor.Qt

set_option maxRecDepth 100000 in
set_option maxHeartbeats 12800000 in
theorem reads9_walk {Ok : World → Prop} (P : PC9 Ok) (v u : Value) (L : List Ndl) (T : List Nat) (w : World) (hw : Ok w) (s : Ns w v L) (hu : Sl w u T) : Calls Tryd.prog 5 #[v, u] w fun e w' => e = .returned (.bool true) ∧ Below w.heap.size w w' := by
  have SM := Lib.hid (small_any v L w s)
  have HG := Lib.hid (good_small s)
  have HKL := Lib.hid (smL_length L)
  obtain ⟨al, cl, rfl, -, -⟩ := ns_form s
  generalize L.length = n at *
  generalize smL L = K at *
  have AW := Lib.hid (fun W (h : Ok W) => awake9_any P W h)
  have ST := Lib.hid (fun (W W' : World) => P.st (w := W) (w' := W'))
  have HP := Lib.hid P
  have HBF := Lib.hid (bodF_le K HG.out)
  have SU := Lib.hid hu
  obtain ⟨au, cu, rfl, -, -⟩ := sl_form hu
  obtain ⟨nu, hnu⟩ : ∃ z, z = T.length := ⟨_, rfl⟩
  rw [← hnu] at SU ⊢
  have HNU := Lib.hid hnu
  obtain ⟨k1, hk1⟩ : ∃ z, z = K.length := ⟨_, rfl⟩
  have HK1 := Lib.hid hk1
  have hk12 : k1 ≤ 12 := by have := HKL.out; omega
  clear s P hu hnu hk1
  go_enter Tryd.func5, Tryd.ntmps5
  go_wp2_with fail
  refine SM.out.mono ?_
  rintro e w1 ⟨⟨v1, rfl, hn1⟩, hb1⟩
  have hw1 := Lib.hid (ST.out _ _ hw hb1)
  have B1 := Lib.hid hb1
  have FA := Lib.hid (file_any v1 K w1 hn1 HG.out (by have := HKL.out; omega))
  unfold FO at FA
  have NS1 := Lib.hid hn1
  obtain ⟨a1, c1, rfl, -, -⟩ := ns_form hn1
  rw [← HK1.out] at NS1 FA ⊢
  clear hn1 hb1 SM hw
  go_wp2_with fail
  refine FA.out.mono ?_
  rintro e w2 ⟨⟨v2, t2, rfl, ho2, hr2⟩, hb2⟩
  have hw2 := Lib.hid (ST.out _ _ hw1.out hb2)
  have B2 := Lib.hid (bt B1.out hb2)
  have NS2 := Lib.hid (ns_below NS1.out hb2)
  have EI2 := Lib.hid (ei_row (w := w2) (base := w1.heap.size) (v := t2) (l := endsL K k1) (by rw [endsL_length]; exact hr2))
  obtain ⟨a2, c2, rfl, -, -⟩ := sl_form ho2.sl
  obtain ⟨n2, hn2⟩ : ∃ z, z = (filL K).length := ⟨_, rfl⟩
  rw [← hn2] at ho2 ⊢
  have HN2 := Lib.hid hn2
  have SL2 := Lib.hid ho2.sl
  obtain ⟨ta, tc, rfl, -, -⟩ := ei_form EI2.out
  rw [endsL_length] at EI2 ⊢
  clear ho2 hr2 hb2 FA hn2 NS1
  go_wp2_with fail
  refine (HP.out.dec _ T w2 hw2.out (sl_below SU.out B2.out)).mono ?_
  rintro e w3 ⟨⟨v3, rfl, d3, rfl, hkk, hck, hd3⟩, hb3⟩
  obtain ⟨a3, c3, rfl, -, -⟩ := sl_form hd3.sl
  generalize (decX T).data.length = n3 at *
  generalize (decX T).key = key3 at *
  generalize (decX T).cookie = ck3 at *
  generalize (decX T).del = del3 at *
  generalize decN T = dn3 at *
  have hb4 := bt hb3 (bel_al w3 (.cells #[.int .u64 (key3 : Int), .int .u32 (ck3 : Int), .bool del3, .slice a3 n3 c3] 56))
  have hw4 := Lib.hid (ST.out _ _ hw2.out hb4)
  have B4 := Lib.hid (bt B2.out hb4)
  have NS4 := Lib.hid (ns_below NS2.out hb4)
  have EI4 := Lib.hid (ei_below EI2.out hb4)
  have SL4 := Lib.hid (sl_below SL2.out hb4)
  clear hb4 hb3 hd3 hkk hck NS2 EI2 SL2
  by_cases he : decE T = 0
  · have g0 : ((((decE T : Nat) : Int)) == 0) = true := by rw [he]; rfl
    have g1 : decide ((((decE T : Nat) : Int)) = 0) = true := by rw [he]; rfl
    generalize decE T = E at *
    clear he
    go_wp2_with fail
    generalize w3.alloc (.cells #[.int .u64 (key3 : Int), .int .u32 (ck3 : Int), .bool del3, .slice a3 n3 c3] 56) = W4 at *
    refine (AW.out _ hw4.out).mono ?_
    rintro e w5 ⟨rfl, hb5⟩
    have B5 := Lib.hid (bt B4.out hb5)
    go_wp2
    go_ret
    exact ⟨rfl, B5.out⟩
  · have g0 : ((((decE T : Nat) : Int)) == 0) = false := by rw [beq_eq_false_iff_ne]; omega
    have g1 : decide ((((decE T : Nat) : Int)) = 0) = false := decide_eq_false (by omega)
    have OF := Lib.hid (op_file HG.out he)
    generalize decE T = E at *
    by_cases h500 : 500 < nu
    · have g2 : decide ((nu : Int) > 500) = true := decide_eq_true (by omega)
      have g3 : decide (500 < (nu : Int)) = true := decide_eq_true (by omega)
      clear he
      go_wp2_with fail
      generalize w3.alloc (.cells #[.int .u64 (key3 : Int), .int .u32 (ck3 : Int), .bool del3, .slice a3 n3 c3] 56) = W4 at *
      refine (AW.out _ hw4.out).mono ?_
      rintro e w5 ⟨rfl, hb5⟩
      have B5 := Lib.hid (bt B4.out hb5)
      go_wp2
      go_ret
      exact ⟨rfl, B5.out⟩
    have g2 : decide ((nu : Int) > 500) = false := decide_eq_false (by omega)
    have g3 : decide (500 < (nu : Int)) = false := decide_eq_false (by omega)
    have H500 := Lib.hid h500
    clear h500 he
    have OE := Lib.hid (own_empty (w3.alloc (.cells #[.int .u64 (key3 : Int), .int .u32 (ck3 : Int), .bool del3, .slice a3 n3 c3] 56)) (Nat.le_refl _))
    have BE := Lib.hid (bel_al (w3.alloc (.cells #[.int .u64 (key3 : Int), .int .u32 (ck3 : Int), .bool del3, .slice a3 n3 c3] 56)) (.cells #[] 5))
    have SZ : Hid ((w3.alloc (.cells #[.int .u64 (key3 : Int), .int .u32 (ck3 : Int), .bool del3, .slice a3 n3 c3] 56)).heap.size = w3.heap.size + 1) := Lib.hid (by simp)
    have HLN : Hid (n2 ≤ 60000) := Lib.hid (by have h1 := HN2.out; rw [filL_length] at h1; have h2 := HBF.out; have h3 := HKL.out; omega)
    rw [SZ.out] at OE
    go_wp2_with (first
      | (at_builtin; refine app_sl (dst := some 40) ?_ ?_ OE.out (sl_below SL4.out BE.out) (by have h1 := HLN.out; have h2 := HN2.out; simp only [List.length_nil]; omega) (by simp) ?_; exact rfl; exact rfl; intro v5 w5 ho5 hg5; rw [List.nil_append] at ho5; have B5 := Lib.hid (BE.out.grown hg5 BE.out.size fun q hq => by have h1 := OE.out.lt q hq; have h2 := SZ.out; omega); have O5 := Lib.hid ho5; clear ho5 hg5)
      | (at_builtin; refine app_sl (dst := some 42) ?_ ?_ O5.out (sl_below SU.out (bt B4.out B5.out)) (by have h1 := HLN.out; have h2 := HN2.out; have h3 := HNU.out; have h4 := H500.out; omega) (by have h1 := B5.out.size; have h2 := SZ.out; omega) ?_; exact rfl; exact rfl; intro v6 w6 ho6 hg6; have B6 := Lib.hid (B5.out.grown hg6 B5.out.size fun q hq => by have h1 := O5.out.lt q hq; have h2 := SZ.out; omega); have O6 := Lib.hid ho6; clear ho6 hg6))
    have hw6 := Lib.hid (ST.out _ _ hw4.out B6.out)
    have OP := Lib.hid (HP.out.opn v6 (filL K ++ T) w6 hw6.out O6.out.sl (by have h1 := HLN.out; have h2 := HN2.out; have h3 := HNU.out; have h4 := H500.out; rw [List.length_append]; omega))
    unfold OO at OP
    rw [OF.out.1, OF.out.2.1, OF.out.2.2] at OP
    refine OP.out.mono ?_
    rintro e w7 ⟨⟨v7, rfl, ho7⟩, hb7⟩
    have hb8 := bt (bt B6.out hb7) (bel_al w7 (.cells #[.int .i64 0, .int .i64 1, .int .i64 0] 30))
    have RS8 := Lib.hid (rs_below (owR_rs ho7) (bel_al w7 (.cells #[.int .i64 0, .int .i64 1, .int .i64 0] 30)))
    have B8 := Lib.hid (bt B4.out hb8)
    have hw8 := Lib.hid (ST.out _ _ hw4.out hb8)
    have NS8 := Lib.hid (ns_below NS4.out hb8)
    have EI8 := Lib.hid (ei_below EI4.out hb8)
    obtain ⟨a7, c7, rfl, -, -⟩ := owR_form ho7
    rw [show (rcs 16 K).length = k1 by rw [rcs_length, HK1.out]] at RS8 ⊢
    rw [show 16 + (bodF K).length = n2 by rw [HN2.out, filL_length]]
    clear ho7 hb7 hb8 OP hw6 B6 B5 O6 O5 OE BE SZ SL4 NS4 EI4 hw4 B4 SU hw2 B2 hw1 B1
    go_wp2_with fail
    generalize w7.alloc (.cells #[.int .i64 0, .int .i64 1, .int .i64 0] 30) = W8 at *
    go_loopw [65] (fun t wr => ∃ i : Nat, i ≤ k1 ∧ t = .int .i64 (i : Int) ∧ Hid (Below W8.heap.size W8 wr)) (fun t _ => k1 - (intOf t).toNat)
    case atStart => exact ⟨0, by omega, rfl, Lib.hid (Below.refl _ _)⟩
    case round =>
      obtain ⟨i, hi, rfl, HB⟩ := hrel
      by_cases hin : i < k1
      · have hl4 : decide ((i : Int) < (k1 : Int)) = true := decide_eq_true (by omega)
        have p0 : (0 : Int) ≤ (i : Int) := by omega
        have p1 : (i : Int) < (k1 : Int) := by omega
        have hkl := HK1.out
        have hrl : (rcs 16 K).length = k1 := by rw [rcs_length, HK1.out]
        obtain ⟨b1, o1, c1', hv1, -, -, q1⟩ := rs_cells RS8.out (by omega)
        obtain ⟨rfl, -, -⟩ : a7 = some ⟨b1, o1, none⟩ ∧ k1 = (rcs 16 K).length ∧ c7 = c1' := by simpa using hv1
        obtain ⟨d, C0⟩ := q1 i (by omega)
        obtain ⟨b2, o2, c2', hv2, -, -, q2⟩ := ns_cells NS8.out (by omega)
        obtain ⟨rfl, -, -⟩ : a1 = some ⟨b2, o2, none⟩ ∧ k1 = K.length ∧ c1 = c2' := by simpa using hv2
        obtain ⟨d2, D0⟩ := q2 i (by omega)
        obtain ⟨b3, o3, c3', hv3, q3⟩ := ei_cells EI8.out (by rw [endsL_length]; omega)
        rw [endsL_length] at hv3
        obtain ⟨rfl, -⟩ : ta = some ⟨b3, o3, none⟩ ∧ tc = c3' := by simpa using hv3
        have E0 := q3 i (by rw [endsL_length]; omega)
        rw [rcs_get K 16 i (by omega)] at C0
        rw [ends_get (by omega)] at E0
        obtain ⟨f0, f1, f2, f3, f4, okr, sd⟩ := C0.below HB.out
        obtain ⟨g0, g1, g2, g3, okr2, sd2⟩ := D0.below HB.out
        have e0 := (HB.out.cell (block_lt_of_cell E0)).trans E0
        have hgd := (enc_ok (good_get HG.out (i := i) (by omega)).2).1
        have hbs := bod_succ (k := K) (i := i) (by omega)
        have hbl : (bodF (K.take i)).length ≤ 60000 := by have h1 := bod_mono K (i := i) (j := K.length) (by omega); rw [bod_all] at h1; have h2 := HBF.out; have h3 := HKL.out; omega
        dsimp only at f0 f1 f2 f3 f4 sd
        generalize K.getD i nd0 = x at *
        have RS := Lib.hid (fun W (hW : Below wr.heap.size wr W) => rsame_any (.agg #[.int .u64 (x.key : Int), .int .u32 (x.cookie : Int), .bool x.del, d]) (.agg #[.int .u64 (x.key : Int), .int .u32 (x.cookie : Int), .bool x.del, d2]) x x W ⟨d, rfl, okr.key, okr.ck, sl_below sd hW⟩ ⟨d2, rfl, okr2.key, okr2.ck, sl_below sd2 hW⟩)
        rw [sameB_self] at RS
        obtain ⟨ad, cd, rfl, -, -⟩ := sl_form sd
        obtain ⟨ad2, cd2, rfl, -, -⟩ := sl_form sd2
        have SI := Lib.hid (fun W (_ : Below wr.heap.size wr W) => below_of_same (HP.out.siz ((x.data.length : Nat) : Int) W (by unfold I64b; omega)))
        rw [szI6_nat hgd] at SI
        generalize x.data.length = nd at *
        obtain ⟨r, hr⟩ : ∃ z, z = szR nd := ⟨_, rfl⟩
        have hrlt := szR_lt nd
        rw [← hr] at SI hbs hrlt
        obtain ⟨p, hp⟩ : ∃ z, z = 16 + (bodF (K.take i)).length := ⟨_, rfl⟩
        obtain ⟨q, hq⟩ : ∃ z, z = 16 + (bodF (K.take (i + 1))).length := ⟨_, rfl⟩
        rw [← hp] at f0
        rw [← hq] at e0
        obtain ⟨hw1, hw2⟩ := wrap_two (show p + r = q by omega) (by omega)
        clear C0 D0 E0 q1 q2 q3 hv1 hv2 hv3 hkl hrl sd sd2 okr okr2 hgd hbs hbl hr hrlt hp hq
        go_wp2_with fail
        have x0 := cells_regrown f0
        have x1 := cells_regrown f1
        have x2 := cells_regrown f2
        have x3 := cells_regrown f3
        have x4 := cells_regrown f4
        have y0 := cells_regrown g0
        have y1 := cells_regrown g1
        have y2 := cells_regrown g2
        have y3 := cells_regrown g3
        have z0 := cells_regrown e0
        have G1 := Lib.hid (regrown_bel (w := wr) RS.out)
        have G2 := Lib.hid (regrown_bel (w := wr) SI.out)
        clear f0 f1 f2 f3 f4 g0 g1 g2 g3 e0
        refine wp_region_bl (by kernel_rfl) (by kernel_rfl) ?_
        repeat (go_big_quiet_step (fail))
        go_big_quiet_step ((go_at_call 25; with_reducible exact G1.out _ _))
        repeat (go_big_quiet_step (fail))
        go_big_quiet_step ((go_at_call 26; with_reducible exact G2.out _ _))
        repeat (go_big_quiet_step (fail))
        refine wpQuiet_nil ?_
        intro w9 hb9
        have B9 := Lib.hid (bt HB.out hb9)
        clear x0 x1 x2 x3 x4 y0 y1 y2 y3 z0 G1 G2 hw1 hw2 hb9 RS SI
        go_wp2
        go_roundw
        case rel => exact ⟨i + 1, by omega, by go_num, B9⟩
        case measure => simp [intOf]; omega
      · obtain rfl : i = k1 := by omega
        have hl4 : decide ((i : Int) < (i : Int)) = false := decide_eq_false (by omega)
        have hw9 := Lib.hid (ST.out _ _ hw8.out HB.out)
        have B9 := Lib.hid (bt B8.out HB.out)
        go_wp2_with fail
        refine (AW.out _ hw9.out).mono ?_
        rintro e w5 ⟨rfl, hb5⟩
        have B5 := Lib.hid (bt B9.out hb5)
        clear hb5
        go_wp2
        go_ret
        exact ⟨rfl, B5.out⟩
end Go.Proofs.YtlnccofanicihaaDoor.Gf
