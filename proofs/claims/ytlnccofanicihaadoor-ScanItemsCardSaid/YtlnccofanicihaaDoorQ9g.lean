/- What is proved here: the walk of the law ScanItems, over what it asks of the program. No condition. -/
import Derived.Test.YtlnccofanicihaaDoorQ9k
import Derived.Test.YtlnccofanicihaaDoorR9h
namespace Go.Proofs.YtlnccofanicihaaDoor.Gf
open Go Go.Joins Go.ChangeShapes Go.WideShapes Go.ChangeAt Go.RowKit Go.Deep Go.Proofs.YtlnccofanicihaaDoor.By Go.Proofs.YtlnccofanicihaaDoor.Crc Go.Proofs.YtlnccofanicihaaDoor.Qt

/-- The first records of a list. -/
theorem rs_take {w : World} {a : Option Addr} {n cap k : Nat} {R : List Rc} (h : Rs w (.slice a n cap) R) (hk : k ≤ n) : Rs w (.slice a k cap) (R.take k) := by
  obtain ⟨L, rfl, ⟨h0, a', cap', h2, h3, h4, h5⟩, h6⟩ := h
  obtain ⟨rfl, rfl, rfl⟩ : a = a' ∧ n = L.length ∧ cap = cap' := by simpa using h2
  have hl : (L.take k).length = k := by rw [List.length_take]; omega
  refine ⟨L.take k, by rw [List.map_take], ⟨fun r hr => h0 r (List.mem_of_mem_take hr), a, cap, by rw [hl], by omega, h4, fun hp => ?_⟩, fun r hr => h6 r (List.mem_of_mem_take hr)⟩
  obtain ⟨b, off, e, hc⟩ := h5 (by omega)
  refine ⟨b, off, e, fun j u hu => hc j u ?_⟩
  have e2 : cellsR L = cellsR (L.take k) ++ cellsR (L.drop k) := by rw [← cellsR_append, List.take_append_drop]
  rw [e2, List.getElem?_append_left (List.getElem?_eq_some_iff.1 hu).1]
  exact hu
set_option maxRecDepth 100000 in
set_option maxHeartbeats 12800000 in
theorem items9_walk {Ok : World → Prop} (P : PC9 Ok) (v0 v : Value) (R0 : List Rc) (L : List Ndl) (w : World) (hw : Ok w) (sr : Rs w v0 R0) (s : Ns w v L) : Calls Tryd.prog 4 #[v0, v] w fun e w' => e = .returned (.bool true) ∧ Below w.heap.size w w' := by
  have SM := Lib.hid (small_any v L w s)
  have HG := Lib.hid (good_small s)
  have HKL := Lib.hid (smL_length L)
  obtain ⟨al, cl, rfl, -, -⟩ := ns_form s
  generalize L.length = n at *
  generalize smL L = K at *
  have AW := Lib.hid (fun W (h : Ok W) => awake9_any P W h)
  have ST := Lib.hid (fun (W W' : World) => P.st (w := W) (w' := W'))
  have HP := Lib.hid P
  have HBF := Lib.hid (bodF_le K HG.out)
  obtain ⟨k1, hk1⟩ : ∃ z, z = K.length := ⟨_, rfl⟩
  have HK1 := Lib.hid hk1
  have hk12 : k1 ≤ 12 := by have := HKL.out; omega
  have OF := Lib.hid (op_full HG.out)
  have HRL := Lib.hid (rcs_length K 16)
  have SR := Lib.hid sr
  obtain ⟨ar, cr, rfl, hcr, -⟩ := rs_form sr
  obtain ⟨nr, hnr⟩ : ∃ z, z = R0.length := ⟨_, rfl⟩
  rw [← hnr] at SR hcr ⊢
  have HNR := Lib.hid hnr
  clear s P hk1 sr hnr
  go_enter Tryd.func4, Tryd.ntmps4
  by_cases hbig : 40 < nr
  · have g1 : decide ((nr : Int) > 40) = true := decide_eq_true (by omega)
    have g2 : decide (40 < (nr : Int)) = true := decide_eq_true (by omega)
    have hnr := HNR.out
    obtain ⟨b0, o0, c0, hv0, -, -, -⟩ := rs_cells SR.out (by omega)
    obtain ⟨rfl, -, rfl⟩ : ar = some ⟨b0, o0, none⟩ ∧ nr = R0.length ∧ cr = c0 := by simpa using hv0
    have q40 : 40 ≤ cr := by omega
    have q40' : (40 : Int) ≤ (cr : Int) := by omega
    have SR1 := Lib.hid (rs_take (k := 40) SR.out (by omega))
    have HL1 : Hid ((R0.take 40).length ≤ 40) := Lib.hid (by rw [List.length_take]; omega)
    clear hv0 hnr hbig hcr
    go_wp2_with fail
    refine SM.out.mono ?_
    rintro e w1 ⟨⟨v1, rfl, hn1⟩, hb1⟩
    have hw1 := Lib.hid (ST.out _ _ hw hb1)
    have B1 := Lib.hid hb1
    have FA := Lib.hid (file_any v1 K w1 hn1 HG.out (by have := HKL.out; omega))
    unfold FO at FA
    obtain ⟨a1, c1, rfl, -, -⟩ := ns_form hn1
    rw [← HK1.out] at FA ⊢
    clear hn1 hb1 SM hw
    go_wp2_with fail
    refine FA.out.mono ?_
    rintro e w2 ⟨⟨v2, t2, rfl, ho2, hr2⟩, hb2⟩
    have hw2 := Lib.hid (ST.out _ _ hw1.out hb2)
    have B2 := Lib.hid (bt B1.out hb2)
    have OP := Lib.hid (ropen_any v2 (filL K) w2 ho2.sl (by have h1 := filL_length K; have h2 := HBF.out; have h3 := HKL.out; omega))
    unfold OO at OP
    rw [OF.out.1, OF.out.2.1, OF.out.2.2] at OP
    obtain ⟨a2, c2, rfl, -, -⟩ := sl_form ho2.sl
    generalize (filL K).length = m2 at *
    obtain ⟨ta, tn, tc, rfl⟩ : ∃ a n c, t2 = Value.slice a n c := by
      obtain ⟨_, ⟨h, _⟩ | ⟨g, cap, cur, h, _⟩⟩ := hr2
      · exact ⟨_, _, _, h⟩
      · exact ⟨_, _, _, h⟩
    clear ho2 hr2 hb2 FA
    go_wp2_with fail
    refine OP.out.mono ?_
    rintro e w3 ⟨⟨v3, rfl, ho3⟩, hb3⟩
    have hb4 := bel_al w3 (.cells #[.int .i64 0, .int .i64 1, .int .i64 0] 30)
    have B4 := Lib.hid (bt (bt B2.out hb3) hb4)
    have hw4 := Lib.hid (ST.out _ _ (ST.out _ _ hw2.out hb3) hb4)
    have RS4 := Lib.hid (rs_below (owR_rs ho3) hb4)
    obtain ⟨a3, c3, rfl, -, -⟩ := owR_form ho3
    have hrl := HRL.out
    rw [← HK1.out] at hrl
    rw [hrl] at RS4 ⊢
    have X0 := bel_al (w3.alloc (.cells #[.int .i64 0, .int .i64 1, .int .i64 0] 30)) (.cells #[.slice (some ⟨b0, o0, none⟩) 40 cr, .slice a3 k1 c3] 35)
    have X1 := heap_alloc_new (w3.alloc (.cells #[.int .i64 0, .int .i64 1, .int .i64 0] 30)) (.cells #[.slice (some ⟨b0, o0, none⟩) 40 cr, .slice a3 k1 c3] 35)
    rw [show (w3.alloc (.cells #[.int .i64 0, .int .i64 1, .int .i64 0] 30)).heap.size = w3.heap.size + 1 by simp] at X1
    have HX1 := Lib.hid X1
    have B5 := Lib.hid (bt B4.out X0)
    have hw5 := Lib.hid (ST.out _ _ hw4.out X0)
    have RS5 := Lib.hid (rs_below RS4.out X0)
    have SR5 := Lib.hid (rs_below SR1.out B5.out)
    clear ho3 hb3 hb4 OP hw2 B2 B4 hw4 RS4 X0 X1 hw1 B1 SR
    go_wp2_with fail
    generalize (w3.alloc (.cells #[.int .i64 0, .int .i64 1, .int .i64 0] 30)).alloc (.cells #[.slice (some ⟨b0, o0, none⟩) 40 cr, .slice a3 k1 c3] 35) = W5 at *
    have HC : Hid (∀ i, i < 2 → ∃ ax nx cx Rx, W5.cell? ⟨w3.heap.size + 1, i, none⟩ = some (.slice ax nx cx) ∧ Rs W5 (.slice ax nx cx) Rx ∧ Rx.length ≤ 40) := Lib.hid fun i hi => by
      rcases (show i = 0 ∨ i = 1 by omega) with rfl | rfl
      · exact ⟨_, _, _, _, cell_of_row _ _ 0 _ _ _ HX1.out, SR5.out, HL1.out⟩
      · exact ⟨_, _, _, _, cell_of_row _ _ 1 _ _ _ HX1.out, RS5.out, by rw [hrl]; omega⟩
    obtain ⟨gb, hgb⟩ : ∃ z, z = w3.heap.size + 1 := ⟨_, rfl⟩
    rw [← hgb] at HC ⊢
    clear hgb HX1 SR5 RS5
    go_loopw [39] (fun t wr => ∃ p : Nat, p ≤ 2 ∧ t = .int .i64 (p : Int) ∧ Hid (Below W5.heap.size W5 wr)) (fun t _ => 2 - (intOf t).toNat)
    case atStart => exact ⟨0, by omega, rfl, Lib.hid (Below.refl _ _)⟩
    case round =>
      obtain ⟨p, hp, rfl, HB⟩ := hrel
      by_cases hp2 : p < 2
      · have l1 : decide ((p : Int) < 2) = true := decide_eq_true (by omega)
        have p0 : (0 : Int) ≤ (p : Int) := by omega
        have p1 : (p : Int) < 2 := by omega
        obtain ⟨ax, nx, cx, Rx, f0, hrx, hlx⟩ := HC.out p hp2
        replace f0 := (HB.out.cell (block_lt_of_cell f0)).trans f0
        replace hrx := rs_below hrx HB.out
        have RX := Lib.hid hrx
        have GV := Lib.hid (given_any _ Rx wr hrx (by omega))
        have HLX := Lib.hid hlx
        clear hrx hlx hp2
        go_wp2_with fail
        refine GV.out.mono ?_
        rintro e y1 ⟨⟨u1, rfl, hr1⟩, hb1⟩
        have hwy := Lib.hid (ST.out _ _ hw5.out (bt HB.out hb1))
        have BY := Lib.hid (HP.out.byt _ Rx y1 hr1 (by have := HLX.out; omega))
        unfold BO at BY
        obtain ⟨au, cu, rfl, -, -⟩ := rs_form hr1
        have C1 := Lib.hid (bt HB.out hb1)
        have RX1 := Lib.hid (rs_below RX.out hb1)
        obtain ⟨lx, hlx⟩ : ∃ z, z = Rx.length := ⟨_, rfl⟩
        rw [← hlx] at BY ⊢
        clear hlx
        clear hr1 hb1 f0 GV RX HB
        go_wp2_with fail
        refine BY.out.mono ?_
        rintro e y2 ⟨rfl, hb2⟩
        have RX2 := Lib.hid (rs_below RX1.out hb2)
        have C2 := Lib.hid (bt C1.out hb2)
        have RB := Lib.hid (rbytes_any _ Rx y2 RX2.out (by have := HLX.out; omega))
        unfold BO at RB
        have RI := Lib.hid (fun W (h : Below y2.heap.size y2 W) => ritems_any _ Rx W (rs_below RX2.out h) (by have := HLX.out; omega))
        have GV2 := Lib.hid (fun W (h : Below y2.heap.size y2 W) => given_any _ Rx W (rs_below RX2.out h) (by have := HLX.out; omega))
        have PI := Lib.hid (fun (u : Value) W (h : Rs W u Rx) => HP.out.itm u Rx W h (by have := HLX.out; omega))
        obtain ⟨A, hA⟩ : ∃ z, z = liveL (itemsL Rx) := ⟨_, rfl⟩
        obtain ⟨G, hG⟩ : ∃ z, z = allL Rx - liveL (itemsL Rx) := ⟨_, rfl⟩
        rw [← hG, ← hA] at RB
        rw [← hG, ← hA]
        clear hA hG hb2 BY RX1 C1
        go_wp2_with fail
        refine RB.out.mono ?_
        rintro e y3 ⟨rfl, hb3⟩
        have D3 := Lib.hid hb3
        clear hb3 RB
        go_wp2_with fail
        refine (GV2.out y3 D3.out).mono ?_
        rintro e y4 ⟨⟨u4, rfl, hr4⟩, hb4⟩
        have D4 := Lib.hid (bt D3.out hb4)
        have PI4 := Lib.hid (PI.out u4 y4 hr4)
        unfold ITO at PI4
        obtain ⟨a4, c4, rfl, -, -⟩ := rs_form hr4
        obtain ⟨ly, hly⟩ : ∃ z, z = Rx.length := ⟨_, rfl⟩
        rw [← hly] at PI4 ⊢
        clear hly
        clear hr4 hb4 GV2 PI
        go_wp2_with fail
        refine PI4.out.mono ?_
        rintro e y5 ⟨⟨u5, rfl, hi5⟩, hb5⟩
        have D5 := Lib.hid (bt D4.out hb5)
        have RI5 := Lib.hid (RI.out y5 D5.out)
        have I5 := Lib.hid hi5
        unfold LO at RI5
        obtain ⟨a5, c5, rfl, -, -⟩ := it_form hi5
        obtain ⟨IL, hIL⟩ : ∃ z, z = itemsL Rx := ⟨_, rfl⟩
        rw [← hIL] at I5 RI5 ⊢
        obtain ⟨li, hli⟩ : ∃ z, z = IL.length := ⟨_, rfl⟩
        rw [← hli] at I5 ⊢
        have HLI := Lib.hid hli
        clear hi5 hb5 RI PI4 hIL hli
        go_wp2_with fail
        refine RI5.out.mono ?_
        rintro e y6 ⟨⟨u6, rfl, ho6⟩, hb6⟩
        have D6 := Lib.hid (bt D5.out hb6)
        have SA := Lib.hid (rsame8_any _ _ IL IL y6 (it_below I5.out hb6) (owT_it ho6))
        rw [decide_eq_true (rfl : IL = IL)] at SA
        obtain ⟨a6, c6, rfl, -, -⟩ := owT_form ho6
        rw [← HLI.out] at SA ⊢
        clear ho6 hb6 RI5 I5 HLI
        go_wp2_with fail
        refine SA.out.mono ?_
        rintro e y7 ⟨rfl, hb7⟩
        have D7 := Lib.hid (bt C2.out (bt D6.out hb7))
        clear hb7 SA
        go_wp2
        go_roundw
        case rel => exact ⟨p + 1, by omega, by go_num, D7⟩
        case measure => simp [intOf]; omega
      · obtain rfl : p = 2 := by omega
        have hw9 := Lib.hid (ST.out _ _ hw5.out HB.out)
        have B9 := Lib.hid (bt B5.out HB.out)
        go_wp2_with fail
        refine (AW.out _ hw9.out).mono ?_
        rintro e w5 ⟨rfl, hb5⟩
        have B5 := Lib.hid (bt B9.out hb5)
        clear hb5
        go_wp2
        go_ret
        exact ⟨rfl, B5.out⟩
  · have g1 : decide ((nr : Int) > 40) = false := decide_eq_false (by omega)
    have g2 : decide (40 < (nr : Int)) = false := decide_eq_false (by omega)
    have SR1 := Lib.hid SR.out
    have HL1 : Hid (R0.length ≤ 40) := Lib.hid (by rw [← HNR.out]; omega)
    clear hbig hcr
    go_wp2_with fail
    refine SM.out.mono ?_
    rintro e w1 ⟨⟨v1, rfl, hn1⟩, hb1⟩
    have hw1 := Lib.hid (ST.out _ _ hw hb1)
    have B1 := Lib.hid hb1
    have FA := Lib.hid (file_any v1 K w1 hn1 HG.out (by have := HKL.out; omega))
    unfold FO at FA
    obtain ⟨a1, c1, rfl, -, -⟩ := ns_form hn1
    rw [← HK1.out] at FA ⊢
    clear hn1 hb1 SM hw
    go_wp2_with fail
    refine FA.out.mono ?_
    rintro e w2 ⟨⟨v2, t2, rfl, ho2, hr2⟩, hb2⟩
    have hw2 := Lib.hid (ST.out _ _ hw1.out hb2)
    have B2 := Lib.hid (bt B1.out hb2)
    have OP := Lib.hid (ropen_any v2 (filL K) w2 ho2.sl (by have h1 := filL_length K; have h2 := HBF.out; have h3 := HKL.out; omega))
    unfold OO at OP
    rw [OF.out.1, OF.out.2.1, OF.out.2.2] at OP
    obtain ⟨a2, c2, rfl, -, -⟩ := sl_form ho2.sl
    generalize (filL K).length = m2 at *
    obtain ⟨ta, tn, tc, rfl⟩ : ∃ a n c, t2 = Value.slice a n c := by
      obtain ⟨_, ⟨h, _⟩ | ⟨g, cap, cur, h, _⟩⟩ := hr2
      · exact ⟨_, _, _, h⟩
      · exact ⟨_, _, _, h⟩
    clear ho2 hr2 hb2 FA
    go_wp2_with fail
    refine OP.out.mono ?_
    rintro e w3 ⟨⟨v3, rfl, ho3⟩, hb3⟩
    have hb4 := bel_al w3 (.cells #[.int .i64 0, .int .i64 1, .int .i64 0] 30)
    have B4 := Lib.hid (bt (bt B2.out hb3) hb4)
    have hw4 := Lib.hid (ST.out _ _ (ST.out _ _ hw2.out hb3) hb4)
    have RS4 := Lib.hid (rs_below (owR_rs ho3) hb4)
    obtain ⟨a3, c3, rfl, -, -⟩ := owR_form ho3
    have hrl := HRL.out
    rw [← HK1.out] at hrl
    rw [hrl] at RS4 ⊢
    have X0 := bel_al (w3.alloc (.cells #[.int .i64 0, .int .i64 1, .int .i64 0] 30)) (.cells #[.slice ar nr cr, .slice a3 k1 c3] 35)
    have X1 := heap_alloc_new (w3.alloc (.cells #[.int .i64 0, .int .i64 1, .int .i64 0] 30)) (.cells #[.slice ar nr cr, .slice a3 k1 c3] 35)
    rw [show (w3.alloc (.cells #[.int .i64 0, .int .i64 1, .int .i64 0] 30)).heap.size = w3.heap.size + 1 by simp] at X1
    have HX1 := Lib.hid X1
    have B5 := Lib.hid (bt B4.out X0)
    have hw5 := Lib.hid (ST.out _ _ hw4.out X0)
    have RS5 := Lib.hid (rs_below RS4.out X0)
    have SR5 := Lib.hid (rs_below SR1.out B5.out)
    clear ho3 hb3 hb4 OP hw2 B2 B4 hw4 RS4 X0 X1 hw1 B1 SR
    go_wp2_with fail
    generalize (w3.alloc (.cells #[.int .i64 0, .int .i64 1, .int .i64 0] 30)).alloc (.cells #[.slice ar nr cr, .slice a3 k1 c3] 35) = W5 at *
    have HC : Hid (∀ i, i < 2 → ∃ ax nx cx Rx, W5.cell? ⟨w3.heap.size + 1, i, none⟩ = some (.slice ax nx cx) ∧ Rs W5 (.slice ax nx cx) Rx ∧ Rx.length ≤ 40) := Lib.hid fun i hi => by
      rcases (show i = 0 ∨ i = 1 by omega) with rfl | rfl
      · exact ⟨_, _, _, _, cell_of_row _ _ 0 _ _ _ HX1.out, SR5.out, HL1.out⟩
      · exact ⟨_, _, _, _, cell_of_row _ _ 1 _ _ _ HX1.out, RS5.out, by rw [hrl]; omega⟩
    obtain ⟨gb, hgb⟩ : ∃ z, z = w3.heap.size + 1 := ⟨_, rfl⟩
    rw [← hgb] at HC ⊢
    clear hgb HX1 SR5 RS5
    go_loopw [39] (fun t wr => ∃ p : Nat, p ≤ 2 ∧ t = .int .i64 (p : Int) ∧ Hid (Below W5.heap.size W5 wr)) (fun t _ => 2 - (intOf t).toNat)
    case atStart => exact ⟨0, by omega, rfl, Lib.hid (Below.refl _ _)⟩
    case round =>
      obtain ⟨p, hp, rfl, HB⟩ := hrel
      by_cases hp2 : p < 2
      · have l1 : decide ((p : Int) < 2) = true := decide_eq_true (by omega)
        have p0 : (0 : Int) ≤ (p : Int) := by omega
        have p1 : (p : Int) < 2 := by omega
        obtain ⟨ax, nx, cx, Rx, f0, hrx, hlx⟩ := HC.out p hp2
        replace f0 := (HB.out.cell (block_lt_of_cell f0)).trans f0
        replace hrx := rs_below hrx HB.out
        have RX := Lib.hid hrx
        have GV := Lib.hid (given_any _ Rx wr hrx (by omega))
        have HLX := Lib.hid hlx
        clear hrx hlx hp2
        go_wp2_with fail
        refine GV.out.mono ?_
        rintro e y1 ⟨⟨u1, rfl, hr1⟩, hb1⟩
        have hwy := Lib.hid (ST.out _ _ hw5.out (bt HB.out hb1))
        have BY := Lib.hid (HP.out.byt _ Rx y1 hr1 (by have := HLX.out; omega))
        unfold BO at BY
        obtain ⟨au, cu, rfl, -, -⟩ := rs_form hr1
        have C1 := Lib.hid (bt HB.out hb1)
        have RX1 := Lib.hid (rs_below RX.out hb1)
        obtain ⟨lx, hlx⟩ : ∃ z, z = Rx.length := ⟨_, rfl⟩
        rw [← hlx] at BY ⊢
        clear hlx
        clear hr1 hb1 f0 GV RX HB
        go_wp2_with fail
        refine BY.out.mono ?_
        rintro e y2 ⟨rfl, hb2⟩
        have RX2 := Lib.hid (rs_below RX1.out hb2)
        have C2 := Lib.hid (bt C1.out hb2)
        have RB := Lib.hid (rbytes_any _ Rx y2 RX2.out (by have := HLX.out; omega))
        unfold BO at RB
        have RI := Lib.hid (fun W (h : Below y2.heap.size y2 W) => ritems_any _ Rx W (rs_below RX2.out h) (by have := HLX.out; omega))
        have GV2 := Lib.hid (fun W (h : Below y2.heap.size y2 W) => given_any _ Rx W (rs_below RX2.out h) (by have := HLX.out; omega))
        have PI := Lib.hid (fun (u : Value) W (h : Rs W u Rx) => HP.out.itm u Rx W h (by have := HLX.out; omega))
        obtain ⟨A, hA⟩ : ∃ z, z = liveL (itemsL Rx) := ⟨_, rfl⟩
        obtain ⟨G, hG⟩ : ∃ z, z = allL Rx - liveL (itemsL Rx) := ⟨_, rfl⟩
        rw [← hG, ← hA] at RB
        rw [← hG, ← hA]
        clear hA hG hb2 BY RX1 C1
        go_wp2_with fail
        refine RB.out.mono ?_
        rintro e y3 ⟨rfl, hb3⟩
        have D3 := Lib.hid hb3
        clear hb3 RB
        go_wp2_with fail
        refine (GV2.out y3 D3.out).mono ?_
        rintro e y4 ⟨⟨u4, rfl, hr4⟩, hb4⟩
        have D4 := Lib.hid (bt D3.out hb4)
        have PI4 := Lib.hid (PI.out u4 y4 hr4)
        unfold ITO at PI4
        obtain ⟨a4, c4, rfl, -, -⟩ := rs_form hr4
        obtain ⟨ly, hly⟩ : ∃ z, z = Rx.length := ⟨_, rfl⟩
        rw [← hly] at PI4 ⊢
        clear hly
        clear hr4 hb4 GV2 PI
        go_wp2_with fail
        refine PI4.out.mono ?_
        rintro e y5 ⟨⟨u5, rfl, hi5⟩, hb5⟩
        have D5 := Lib.hid (bt D4.out hb5)
        have RI5 := Lib.hid (RI.out y5 D5.out)
        have I5 := Lib.hid hi5
        unfold LO at RI5
        obtain ⟨a5, c5, rfl, -, -⟩ := it_form hi5
        obtain ⟨IL, hIL⟩ : ∃ z, z = itemsL Rx := ⟨_, rfl⟩
        rw [← hIL] at I5 RI5 ⊢
        obtain ⟨li, hli⟩ : ∃ z, z = IL.length := ⟨_, rfl⟩
        rw [← hli] at I5 ⊢
        have HLI := Lib.hid hli
        clear hi5 hb5 RI PI4 hIL hli
        go_wp2_with fail
        refine RI5.out.mono ?_
        rintro e y6 ⟨⟨u6, rfl, ho6⟩, hb6⟩
        have D6 := Lib.hid (bt D5.out hb6)
        have SA := Lib.hid (rsame8_any _ _ IL IL y6 (it_below I5.out hb6) (owT_it ho6))
        rw [decide_eq_true (rfl : IL = IL)] at SA
        obtain ⟨a6, c6, rfl, -, -⟩ := owT_form ho6
        rw [← HLI.out] at SA ⊢
        clear ho6 hb6 RI5 I5 HLI
        go_wp2_with fail
        refine SA.out.mono ?_
        rintro e y7 ⟨rfl, hb7⟩
        have D7 := Lib.hid (bt C2.out (bt D6.out hb7))
        clear hb7 SA
        go_wp2
        go_roundw
        case rel => exact ⟨p + 1, by omega, by go_num, D7⟩
        case measure => simp [intOf]; omega
      · obtain rfl : p = 2 := by omega
        have hw9 := Lib.hid (ST.out _ _ hw5.out HB.out)
        have B9 := Lib.hid (bt B5.out HB.out)
        go_wp2_with fail
        refine (AW.out _ hw9.out).mono ?_
        rintro e w5 ⟨rfl, hb5⟩
        have B5 := Lib.hid (bt B9.out hb5)
        clear hb5
        go_wp2
        go_ret
        exact ⟨rfl, B5.out⟩
end Go.Proofs.YtlnccofanicihaaDoor.Gf
