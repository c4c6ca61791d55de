/- What is proved here: Put of the program. -/
import Derived.Test.YtlooldnaoooehaaP11h
import Derived.Deep.WholeRow
namespace Go.Proofs.Ytlooldnaoooehaa.Gf
open Go Go.Joins Go.ChangeShapes Go.WideShapes Go.ChangeAt Go.RowKit Go.Deep Go.Proofs.Ytlooldnaoooehaa.By Go.Proofs.Ytlooldnaoooehaa.Qt

theorem pstripe_bel (k : Nat) (w : World) : Calls Try.prog 23 #[.int .u64 (k : Int)] w fun e w' => e = .returned (.int .i64 ((sp k : Nat) : Int)) ∧ Below w.heap.size w w' := (pstripe_any k w).mono fun _ _ ⟨h1, h2⟩ => ⟨h1, by rw [h2]; exact Below.refl _ _⟩
set_option maxRecDepth 100000 in
set_option maxHeartbeats 25600000 in
theorem pput11_any (v : Value) (m : Mp) (x : Itm) (w : World) (hv : Mv w v m) (hf : Few m) (hx : ItOk x) : Calls Try.prog 27 #[v, TV x] w (MO w (putM m x)) := by
  have PV := Lib.hid (fun W (h : Below w.heap.size w W) => pvalid11_any v m W (mv_below hv h) hf)
  have PI := Lib.hid (fun W => pvalidItem_any x hx W)
  have HF := Lib.hid hf
  have HX := Lib.hid hx
  obtain ⟨s0, s1, s2, s3, s4, s5, s6, s7, rfl, hms⟩ := hv
  have q1 := bel_al w (.cells #[s0, s1, s2, s3, s4, s5, s6, s7, .int .i64 m.live, .int .i64 m.garb] 32)
  have h1 := heap_alloc_new w (.cells #[s0, s1, s2, s3, s4, s5, s6, s7, .int .i64 m.live, .int .i64 m.garb] 32)
  have hsz : (w.alloc (.cells #[s0, s1, s2, s3, s4, s5, s6, s7, .int .i64 m.live, .int .i64 m.garb] 32)).heap.size = w.heap.size + 1 := by simp
  have q2 := bel_al (w.alloc (.cells #[s0, s1, s2, s3, s4, s5, s6, s7, .int .i64 m.live, .int .i64 m.garb] 32)) (.cells #[.int .u64 (x.key : Int), .int .u32 (x.ck : Int), .int .i64 x.off, .int .i64 x.sz] 37)
  have h2 := heap_alloc_new (w.alloc (.cells #[s0, s1, s2, s3, s4, s5, s6, s7, .int .i64 m.live, .int .i64 m.garb] 32)) (.cells #[.int .u64 (x.key : Int), .int .u32 (x.ck : Int), .int .i64 x.off, .int .i64 x.sz] 37)
  have hsz2 : ((w.alloc (.cells #[s0, s1, s2, s3, s4, s5, s6, s7, .int .i64 m.live, .int .i64 m.garb] 32)).alloc (.cells #[.int .u64 (x.key : Int), .int .u32 (x.ck : Int), .int .i64 x.off, .int .i64 x.sz] 37)).heap.size = w.heap.size + 2 := by simp
  have q3 := bel_al ((w.alloc (.cells #[s0, s1, s2, s3, s4, s5, s6, s7, .int .i64 m.live, .int .i64 m.garb] 32)).alloc (.cells #[.int .u64 (x.key : Int), .int .u32 (x.ck : Int), .int .i64 x.off, .int .i64 x.sz] 37)) (.cells #[.slice none 0 0, .slice none 0 0, .slice none 0 0, .slice none 0 0, .slice none 0 0, .slice none 0 0, .slice none 0 0, .slice none 0 0, .int .i64 0, .int .i64 0] 32)
  have h3 := heap_alloc_new ((w.alloc (.cells #[s0, s1, s2, s3, s4, s5, s6, s7, .int .i64 m.live, .int .i64 m.garb] 32)).alloc (.cells #[.int .u64 (x.key : Int), .int .u32 (x.ck : Int), .int .i64 x.off, .int .i64 x.sz] 37)) (.cells #[.slice none 0 0, .slice none 0 0, .slice none 0 0, .slice none 0 0, .slice none 0 0, .slice none 0 0, .slice none 0 0, .slice none 0 0, .int .i64 0, .int .i64 0] 32)
  rw [hsz] at h2
  rw [hsz2] at h3
  have HZ2 := Lib.hid h3
  have HI2 := Lib.hid ((q3.block _ (lt_of_some h2)).trans h2)
  have HM2 := Lib.hid ((q3.block _ (lt_of_some ((q2.block _ (lt_of_some h1)).trans h1))).trans ((q2.block _ (lt_of_some h1)).trans h1))
  have B2 := Lib.hid ((q1.trans (q2.mono q1.size)).trans (q3.mono (Nat.le_trans q1.size q2.size)))
  have MS2 := Lib.hid (ms_below hms B2.out)
  clear hms q1 q2 h1 h2 hsz q3 h3 hsz2 hf hx
  unfold TV at PI ⊢
  go_enter Try.func27, Try.ntmps27
  go_upto_region 1 with fail
  generalize ((w.alloc (.cells #[s0, s1, s2, s3, s4, s5, s6, s7, .int .i64 m.live, .int .i64 m.garb] 32)).alloc (.cells #[.int .u64 (x.key : Int), .int .u32 (x.ck : Int), .int .i64 x.off, .int .i64 x.sz] 37)).alloc (.cells #[.slice none 0 0, .slice none 0 0, .slice none 0 0, .slice none 0 0, .slice none 0 0, .slice none 0 0, .slice none 0 0, .slice none 0 0, .int .i64 0, .int .i64 0] 32) = W2 at *
  have PV2 := Lib.hid (PV.out W2 B2.out)
  clear PV
  by_cases hok : okM m
  case neg =>
    rw [okMb_f hok] at PV2
    have HE := Lib.hid (show putM m x = m by unfold putM; rw [if_neg (fun h => hok h.1)])
    clear hok
    obtain ⟨x0, x1, x2, x3, x4, x5, x6, x7, x8, x9⟩ := bx10 HM2.out
    go_wp2_with fail
    clear x0 x1 x2 x3 x4 x5 x6 x7 x8 x9
    refine PV2.out.mono ?_
    rintro e w3 ⟨rfl, hb⟩
    have B3 := Lib.hid (B2.out.trans (hb.mono B2.out.size))
    have HZ3 := Lib.hid ((hb.block _ (lt_of_some HZ2.out)).trans HZ2.out)
    have HM3 := Lib.hid ((hb.block _ (lt_of_some HM2.out)).trans HM2.out)
    have MS3 := Lib.hid (ms_below MS2.out hb)
    have HI3 := Lib.hid ((hb.block _ (lt_of_some HI2.out)).trans HI2.out)
    clear B2 HZ2 HM2 MS2 HI2
    clear hb PV2
    have ON := Lib.hid (ms_one MS3.out (m.live) (m.garb))
    obtain ⟨x0, x1, x2, x3, x4, x5, x6, x7, x8, x9⟩ := bx10 HM3.out
    go_wp2_with ((with_reducible refine storeM (w.heap.size + 2) _ #[s0, s1, s2, s3, s4, s5, s6, s7, .int .i64 (m.live), .int .i64 (m.garb)] ?_ ?_ HZ3.out rfl rfl ON.out ?_); exact rfl; exact rfl)
    have SZ := Lib.hid (setRow_heap w3 (w.heap.size + 2) _ #[s0, s1, s2, s3, s4, s5, s6, s7, .int .i64 (m.live), .int .i64 (m.garb)] _ _ HZ3.out)
    have BE := Lib.hid (below_setRowM B3.out (Nat.le_add_right w.heap.size 2) #[s0, s1, s2, s3, s4, s5, s6, s7, .int .i64 (m.live), .int .i64 (m.garb)])
    refine mo_end (fn := Try.f27) rfl (w.heap.size + 2) rfl SZ.out ?_
    rw [HE.out]
    exact ⟨⟨_, rfl, s0, s1, s2, s3, s4, s5, s6, s7, rfl, ms_setRowZ MS3.out HZ3.out⟩, BE.out⟩
  rw [okMb_t hok] at PV2
  obtain ⟨x0, x1, x2, x3, x4, x5, x6, x7, x8, x9⟩ := bx10 HM2.out
  have HOK := Lib.hid hok
  clear hok
  go_wp2_with fail
  clear x0 x1 x2 x3 x4 x5 x6 x7 x8 x9
  refine PV2.out.mono ?_
  rintro e w3 ⟨rfl, hb⟩
  have B3 := Lib.hid (B2.out.trans (hb.mono B2.out.size))
  have HZ3 := Lib.hid ((hb.block _ (lt_of_some HZ2.out)).trans HZ2.out)
  have HM3 := Lib.hid ((hb.block _ (lt_of_some HM2.out)).trans HM2.out)
  have MS3 := Lib.hid (ms_below MS2.out hb)
  have HI3 := Lib.hid ((hb.block _ (lt_of_some HI2.out)).trans HI2.out)
  clear B2 HZ2 HM2 MS2 HI2
  clear hb PV2
  obtain ⟨⟨x0, x1, x2, x3⟩, -⟩ := bx4 HI3.out
  have PI3 := Lib.hid (PI.out w3)
  clear PI
  by_cases hxi : okI x
  case neg =>
    rw [decide_eq_false hxi] at PI3
    have HE := Lib.hid (show putM m x = m by unfold putM; rw [if_neg (fun h => hxi h.2)])
    clear hxi
    go_wp2_with fail
    clear x0 x1 x2 x3
    refine PI3.out.mono ?_
    rintro e w4 ⟨rfl, hb⟩
    have B4 := Lib.hid (B3.out.trans (hb.mono B3.out.size))
    have HZ4 := Lib.hid ((hb.block _ (lt_of_some HZ3.out)).trans HZ3.out)
    have HM4 := Lib.hid ((hb.block _ (lt_of_some HM3.out)).trans HM3.out)
    have MS4 := Lib.hid (ms_below MS3.out hb)
    have HI4 := Lib.hid ((hb.block _ (lt_of_some HI3.out)).trans HI3.out)
    clear B3 HZ3 HM3 MS3 HI3
    clear hb PI3
    have ON := Lib.hid (ms_one MS4.out (m.live) (m.garb))
    obtain ⟨x0, x1, x2, x3, x4, x5, x6, x7, x8, x9⟩ := bx10 HM4.out
    go_wp2_with ((with_reducible refine storeM (w.heap.size + 2) _ #[s0, s1, s2, s3, s4, s5, s6, s7, .int .i64 (m.live), .int .i64 (m.garb)] ?_ ?_ HZ4.out rfl rfl ON.out ?_); exact rfl; exact rfl)
    have SZ := Lib.hid (setRow_heap w4 (w.heap.size + 2) _ #[s0, s1, s2, s3, s4, s5, s6, s7, .int .i64 (m.live), .int .i64 (m.garb)] _ _ HZ4.out)
    have BE := Lib.hid (below_setRowM B4.out (Nat.le_add_right w.heap.size 2) #[s0, s1, s2, s3, s4, s5, s6, s7, .int .i64 (m.live), .int .i64 (m.garb)])
    refine mo_end (fn := Try.f27) rfl (w.heap.size + 2) rfl SZ.out ?_
    rw [HE.out]
    exact ⟨⟨_, rfl, s0, s1, s2, s3, s4, s5, s6, s7, rfl, ms_setRowZ MS4.out HZ4.out⟩, BE.out⟩
  rw [decide_eq_true hxi] at PI3
  have HXI := Lib.hid hxi
  clear hxi
  go_wp2_with fail
  clear x0 x1 x2 x3
  refine PI3.out.mono ?_
  rintro e w4 ⟨rfl, hb⟩
  have B4 := Lib.hid (B3.out.trans (hb.mono B3.out.size))
  have HZ4 := Lib.hid ((hb.block _ (lt_of_some HZ3.out)).trans HZ3.out)
  have HM4 := Lib.hid ((hb.block _ (lt_of_some HM3.out)).trans HM3.out)
  have MS4 := Lib.hid (ms_below MS3.out hb)
  have HI4 := Lib.hid ((hb.block _ (lt_of_some HI3.out)).trans HI3.out)
  clear B3 HZ3 HM3 MS3 HI3
  clear hb PI3
  -- what is found
  obtain ⟨L, hL⟩ : ∃ L, L = ms m (sp x.key) := ⟨_, rfl⟩
  obtain ⟨y, hy⟩ : ∃ y, y = fnL L x.key := ⟨_, rfl⟩
  obtain ⟨q, hq⟩ : ∃ q, q = hasL L x.key := ⟨_, rfl⟩
  obtain ⟨O, hO⟩ : ∃ O, O = oldT L x.key := ⟨_, rfl⟩
  have hfew := HF.out (sp x.key) (sp_lt x.key)
  have hoki : ∀ z ∈ L, okI z := by rw [hL]; exact (HOK.out.ok _ (sp_lt _)).1
  have hfound : q = true → okI y ∧ ItOk y ∧ O = szT y := fun e => by
    rw [hq] at e
    unfold hasL at e
    cases hc : lk L x.key with
    | none => rw [hc] at e; cases e
    | some z =>
      have hyz : y = z := by rw [hy]; unfold fnL; rw [hc]; rfl
      have hz := (lk_some hc).1
      obtain ⟨a, c, -, h2⟩ := MS4.out.2.2.2 (sp x.key) (sp_lt _)
      rw [← hL] at h2
      exact ⟨by rw [hyz]; exact hoki z hz, by rw [hyz]; exact h2.1 z hz, by rw [hO]; unfold oldT; rw [hc, hyz]; rfl⟩
  have hnone : q = false → O = 0 := fun e => by
    rw [hq] at e
    unfold hasL at e
    cases hc : lk L x.key with
    | none => rw [hO]; unfold oldT; rw [hc]; rfl
    | some z => rw [hc] at e; cases e
  have hob := oldT_bd L x.key
  rw [← hO] at hob
  have hsx := szT_bd x
  have hfl := few_live HF.out HOK.out MS4.out.1
  have hgl := HOK.out.lo
  have hgh := HOK.out.hi
  obtain ⟨a, c, hsel, hit⟩ := MS4.out.2.2.2 (sp x.key) (sp_lt x.key)
  rw [← hL] at hsel hit hfew
  have PF := Lib.hid (fun W (h : Below w4.heap.size w4 W) => pfind8_any _ L x.key W (it_below hit h) hfew)
  have PP := Lib.hid (fun W (h : Below w4.heap.size w4 W) => pput8_any _ L x W (it_below hit h) hfew HX.out)
  unfold FD at PF
  rw [← hy, ← hq] at PF
  obtain ⟨n, hn⟩ : ∃ z, z = L.length := ⟨_, rfl⟩
  rw [← hn] at hsel PF PP
  have CE := Lib.hid (bxk HM4.out (sp_lt x.key) hsel)
  have HFULL := Lib.hid (show G40 < m.garb + O → putM m x = m from fun h => put_full HOK.out MS4.out.1 (by rw [← hL, ← hO]; exact h))
  have HPUT := Lib.hid (show m.garb + O ≤ G40 → putM m x = ⟨m.st.set (sp x.key) (putL L x), m.live + szT x - O, m.garb + O⟩ from fun h => by
    have e := put_eq HOK.out MS4.out.1 HXI.out (by rw [← hL, ← hO]; exact h)
    rw [← hL, ← hO] at e
    exact e)
  have HJ := Lib.hid (show J64 (m.live + szT x - O) ∧ J64 (m.garb + O) by unfold J64; omega)
  obtain ⟨mm, hmm⟩ : ∃ mm, mm = (if G40 < m.garb + O then m else ⟨m.st, m.live + (szT x - O), m.garb + O⟩) := ⟨_, rfl⟩
  obtain ⟨q2, hq2⟩ : ∃ q2, q2 = decide (¬ G40 < m.garb + O) := ⟨_, rfl⟩
  have CB := Lib.hid (fun W (h : Below w4.heap.size w4 W) => padd_any _ m (szT x - O) O W (show Mv W (.agg #[s0, s1, s2, s3, s4, s5, s6, s7, .int .i64 m.live, .int .i64 m.garb]) m from ⟨s0, s1, s2, s3, s4, s5, s6, s7, rfl, ms_below MS4.out h⟩) (by omega) (by omega) (by omega) (by omega))
  rw [← hmm, ← hq2] at CB
  have HMM := Lib.hid (And.intro hmm hq2)
  obtain ⟨y1, hy1⟩ : ∃ z, z = flw (szT x - O) := ⟨_, rfl⟩
  obtain ⟨y2, hy2⟩ : ∃ z, z = flw O := ⟨_, rfl⟩
  rw [← hy1, ← hy2] at CB
  obtain ⟨v1, hv1⟩ : ∃ z, z = flw (szT x) := ⟨_, rfl⟩
  obtain ⟨v2, hv2⟩ : ∃ z, z = flw 0 := ⟨_, rfl⟩
  have PW := Lib.hid (fun W => pwritten_any x HX.out.sz W)
  rw [← hv1, ← hv2] at PW
  unfold TV at PW PP
  have ST := Lib.hid (fun W => pstripe_bel x.key W)
  have hlt := sp_lt x.key
  obtain ⟨u, hu⟩ : ∃ u, u = sp x.key := ⟨_, rfl⟩
  rw [← hu] at ST CE hlt HPUT
  have p0 : (0 : Int) ≤ (u : Int) := by omega
  have p1 : (u : Int) < 8 := by omega
  have HUL := Lib.hid hlt
  have HFOUND := Lib.hid hfound
  have HNONE := Lib.hid (show q = false → v1 = y1 ∧ v2 = y2 from fun e => by rw [hv1, hv2, hy1, hy2, hnone e, Int.sub_zero]; exact ⟨rfl, rfl⟩)
  have HSUM := Lib.hid (show q = true → cSumBits .add .f64 v1 v2 (flw (-szT y)) (flw (szT y)) = some (y1, y2) from fun e => by
    have h := hfound e
    have hb := szT_bd y
    have h2 := csum (a := szT x) (b := 0) (c := -szT y) (d := szT y) (by omega) (by decide) (by omega) (by omega) (by omega) (by omega)
    rw [hv1, hv2, hy1, hy2, h.2.2, h2, Int.zero_add]
    rfl)
  clear hL hy hq hO hfew hoki hfound hnone hob hsx hfl hgl hgh hsel hit hn hmm hq2 hy1 hy2 hv1 hv2 hlt hu
  go_upto_region 3 with fail
  -- region 3
  obtain ⟨⟨x0, x1, x2, x3⟩, -⟩ := bx4 HI4.out
  have g0 := fun d os => cell_regrown x0 d os
  have g1 := fun d os => cell_regrown x1 d os
  have g2 := fun d os => cell_regrown x2 d os
  have g3 := fun d os => cell_regrown x3 d os
  have G1 := Lib.hid (regrown_bel (w := w4) fun w' _ => ST.out w')
  have G2 := Lib.hid (regrown_bel (w := w4) fun w' _ => PW.out w')
  clear x0 x1 x2 x3
  refine wp_region_bl (by kernel_rfl) (by kernel_rfl) ?_
  iterate 2 (go_big_quiet_step (fail))
  go_big_quiet_step ((go_at_call 23; exact G1.out _ _))
  go_big_quiet_step (fail)
  go_big_quiet_step ((go_at_call 47; exact G2.out _ _))
  repeat (go_big_quiet_step (fail))
  refine wpQuiet_nil ?_
  intro w5 hb
  have S5 := Lib.hid hb
  have B5 := Lib.hid (B4.out.trans (hb.mono B4.out.size))
  have HZ5 := Lib.hid ((hb.block _ (lt_of_some HZ4.out)).trans HZ4.out)
  have HM5 := Lib.hid ((hb.block _ (lt_of_some HM4.out)).trans HM4.out)
  have HI5 := Lib.hid ((hb.block _ (lt_of_some HI4.out)).trans HI4.out)
  clear B4 HZ4 HM4 HI4
  have MS5 := Lib.hid (ms_below MS4.out hb)
  clear MS4
  clear hb g0 g1 g2 g3 G1 G2 ST PW
  have CE5 := Lib.hid ((S5.out.cell (block_lt_of_cell CE.out)).trans CE.out)
  go_upto_region 4 with fail
  go_cut [7, 8] from 25 to 34 (fun tp tq wx => ∃ gy : Nat, tp = .pointer (some ⟨gy, 0, none⟩) ∧ tq = .bool q ∧ Hid (wx.heap[gy]? = some (.cells #[.int .u64 (y.key : Int), .int .u32 (y.ck : Int), .int .i64 y.off, .int .i64 y.sz] 37 (0, 0))) ∧ Hid (Below w5.heap.size w5 wx))
  case first =>
    have S0 := Lib.hid (Below.refl w5.heap.size w5).drew
    refine wp_onlyN ?_
    refine wp_region_headsS (fun W' => Below w5.heap.size w5 W') [0, 1, 2, 3, 4, 5] 7 (by kernel_rfl) (fun _ _ _ _ _ h => h.elim) (by kernel_rfl) (by rfl) (by rfl) S0.out ?_
    simp only [pickOps, List.filterMap_cons, List.filterMap_nil, List.getElem?_toArray, List.getElem?_cons_zero, List.getElem?_cons_succ]
    refine wpHeads_step (fun K hK => ?_)
    go_simp
    refine ⟨_, fun _ _ => rfl, hK _ ?_⟩
    clear hK K
    refine wpHeads_step (fun K hK => ?_)
    go_simp
    refine ⟨.pointer (some ⟨w.heap.size, 0, none⟩), fun w' hw' => by go_simp, hK _ ?_⟩
    clear hK K
    refine wpHeads_step (fun K hK => ?_)
    go_simp
    refine ⟨.pointer (some ⟨w.heap.size, u, none⟩), fun w' hw' => by go_simp, hK _ ?_⟩
    clear hK K
    refine wpHeads_step (fun K hK => ?_)
    go_simp
    refine ⟨.slice a n c, fun w' hw' => by
      have q0 := (hw'.cell (block_lt_of_cell CE5.out)).trans CE5.out
      simp [q0], hK _ ?_⟩
    clear hK K
    refine wpHeads_step (fun K hK => ?_)
    go_simp
    refine ⟨.pointer (some ⟨w.heap.size + 1, 0, none⟩), fun w' hw' => by go_simp, hK _ ?_⟩
    clear hK K
    refine wpHeads_step (fun K hK => ?_)
    go_simp
    refine ⟨.int .u64 (x.key : Int), fun w' hw' => by
      obtain ⟨⟨x0, x1, x2, x3⟩, -⟩ := bx4 ((hw'.block _ (lt_of_some HI5.out)).trans HI5.out)
      simp [x0], hK _ ?_⟩
    clear hK K
    refine wpHeads_nil ?_
    have RD := S0
    generalize w5.drew = WD at *
    clear S0
    refine held_two 6 10 rfl rfl rfl rfl (by kernel_rfl) (fun K hK => ?_) (fun K hK => ?_)
    · go_simp
      go_at_call 39
      refine (PF.out WD (S5.out.trans (RD.out.mono S5.out.size))).mono ?_
      rintro e w20 ⟨rfl, hb⟩
      refine hK _ _ (RD.out.trans (hb.mono RD.out.size)) ?_
      clear hK K
      have R20 := Lib.hid (RD.out.trans (hb.mono RD.out.size))
      clear hb RD
      unfold TV
      refine wpAnyH_take (i := 7) (v := .tuple #[.agg #[.int .u64 (y.key : Int), .int .u32 (y.ck : Int), .int .i64 y.off, .int .i64 y.sz], .bool q]) rfl (by kernel_rfl) (by kernel_rfl) (by kernel_rfl) (fun _ _ _ h => h) (Or.inl ⟨by kernel_rfl, fun w _ => by go_simp⟩) R20.out ?_
      refine wpAnyH_take (i := 8) (v := .agg #[.int .u64 (y.key : Int), .int .u32 (y.ck : Int), .int .i64 y.off, .int .i64 y.sz]) rfl (by kernel_rfl) (by kernel_rfl) (by kernel_rfl) (fun _ _ _ h => h) (Or.inl ⟨by kernel_rfl, fun w _ => by go_simp⟩) R20.out ?_
      refine wpAnyH_take (i := 9) (v := .bool q) rfl (by kernel_rfl) (by kernel_rfl) (by kernel_rfl) (fun _ _ _ h => h) (Or.inl ⟨by kernel_rfl, fun w _ => by go_simp⟩) R20.out ?_
      refine held_one 10 rfl rfl (by kernel_rfl) fun K hK => ?_
      go_simp
      have hb := bel_al w20 (.cells #[.int .u64 0, .int .u32 0, .int .i64 0, .int .i64 0] 37)
      refine hK _ _ (R20.out.trans (hb.mono R20.out.size)) ?_
      clear hK K
      have R21 := Lib.hid (R20.out.trans (hb.mono R20.out.size))
      have HG21 := Lib.hid (heap_alloc_new w20 (.cells #[.int .u64 0, .int .u32 0, .int .i64 0, .int .i64 0] 37))
      have GE := Lib.hid (show w5.heap.size ≤ w20.heap.size from R20.out.size)
      clear hb R20
      generalize w20.alloc (.cells #[.int .u64 0, .int .u32 0, .int .i64 0, .int .i64 0] 37) = w21 at *
      generalize w20.heap.size = gn at *
      refine held_one 11 rfl rfl (by kernel_rfl) fun K hK => ?_
      refine wp_store_row 37 _ _ rfl gn #[.int .u64 (y.key : Int), .int .u32 (y.ck : Int), .int .i64 y.off, .int .i64 y.sz] (by rfl) (by rfl) 37 _ HG21.out infoT4 rfl (by simp [show ∀ k x, (Value.int k x).oneCell' = true from fun _ _ => rfl]) ?_
      have SN := Lib.hid (below_setRowM R21.out GE.out #[.int .u64 (y.key : Int), .int .u32 (y.ck : Int), .int .i64 y.off, .int .i64 y.sz])
      refine hK _ _ SN.out ?_
      clear hK K
      refine held_one 12 rfl rfl (by kernel_rfl) fun K hK => ?_
      go_simp
      refine hK _ _ SN.out ?_
      clear hK K
      refine wpAnyH_done (by kernel_rfl) ?_ _
      unfold onlyN
      dsimp only
      go_wp2_with fail
      go_meet
      exact ⟨gn, rfl, rfl, Lib.hid (setRow_heap _ _ _ _ _ _ HG21.out), SN⟩
    · go_simp
      have hb := bel_al WD (.cells #[.int .u64 0, .int .u32 0, .int .i64 0, .int .i64 0] 37)
      refine hK _ _ (RD.out.trans (hb.mono RD.out.size)) ?_
      clear hK K
      have R20 := Lib.hid (RD.out.trans (hb.mono RD.out.size))
      have HG20 := Lib.hid (heap_alloc_new WD (.cells #[.int .u64 0, .int .u32 0, .int .i64 0, .int .i64 0] 37))
      have GE := Lib.hid (show w5.heap.size ≤ WD.heap.size from RD.out.size)
      clear hb RD
      generalize WD.alloc (.cells #[.int .u64 0, .int .u32 0, .int .i64 0, .int .i64 0] 37) = w20 at *
      generalize WD.heap.size = gn at *
      refine held_one 6 rfl rfl (by kernel_rfl) fun K hK => ?_
      go_simp
      go_at_call 39
      refine (PF.out w20 (S5.out.trans (R20.out.mono S5.out.size))).mono ?_
      rintro e w21 ⟨rfl, hb⟩
      refine hK _ _ (R20.out.trans (hb.mono R20.out.size)) ?_
      clear hK K
      have R21 := Lib.hid (R20.out.trans (hb.mono R20.out.size))
      have HG21 := Lib.hid ((hb.block _ (lt_of_some HG20.out)).trans HG20.out)
      clear hb R20 HG20
      unfold TV
      refine wpAnyH_take (i := 7) (v := .tuple #[.agg #[.int .u64 (y.key : Int), .int .u32 (y.ck : Int), .int .i64 y.off, .int .i64 y.sz], .bool q]) rfl (by kernel_rfl) (by kernel_rfl) (by kernel_rfl) (fun _ _ _ h => h) (Or.inl ⟨by kernel_rfl, fun w _ => by go_simp⟩) R21.out ?_
      refine wpAnyH_take (i := 8) (v := .agg #[.int .u64 (y.key : Int), .int .u32 (y.ck : Int), .int .i64 y.off, .int .i64 y.sz]) rfl (by kernel_rfl) (by kernel_rfl) (by kernel_rfl) (fun _ _ _ h => h) (Or.inl ⟨by kernel_rfl, fun w _ => by go_simp⟩) R21.out ?_
      refine wpAnyH_take (i := 9) (v := .bool q) rfl (by kernel_rfl) (by kernel_rfl) (by kernel_rfl) (fun _ _ _ h => h) (Or.inl ⟨by kernel_rfl, fun w _ => by go_simp⟩) R21.out ?_
      refine held_one 11 rfl rfl (by kernel_rfl) fun K hK => ?_
      refine wp_store_row 37 _ _ rfl gn #[.int .u64 (y.key : Int), .int .u32 (y.ck : Int), .int .i64 y.off, .int .i64 y.sz] (by rfl) (by rfl) 37 _ HG21.out infoT4 rfl (by simp [show ∀ k x, (Value.int k x).oneCell' = true from fun _ _ => rfl]) ?_
      have SN := Lib.hid (below_setRowM R21.out GE.out #[.int .u64 (y.key : Int), .int .u32 (y.ck : Int), .int .i64 y.off, .int .i64 y.sz])
      refine hK _ _ SN.out ?_
      clear hK K
      refine held_one 12 rfl rfl (by kernel_rfl) fun K hK => ?_
      go_simp
      refine hK _ _ SN.out ?_
      clear hK K
      refine wpAnyH_done (by kernel_rfl) ?_ _
      unfold onlyN
      dsimp only
      go_wp2_with fail
      go_meet
      exact ⟨gn, rfl, rfl, Lib.hid (setRow_heap _ _ _ _ _ _ HG21.out), SN⟩
  case rest =>
    rename World => w6
    obtain ⟨gy, rfl, rfl, HY6, hb⟩ := hcut
    have hb1 := hb.out
    have B6 := Lib.hid (B5.out.trans (hb1.mono B5.out.size))
    have HZ6 := Lib.hid ((hb1.block _ (lt_of_some HZ5.out)).trans HZ5.out)
    have HM6 := Lib.hid ((hb1.block _ (lt_of_some HM5.out)).trans HM5.out)
    have MS6 := Lib.hid (ms_below MS5.out hb1)
    have HI6 := Lib.hid ((hb1.block _ (lt_of_some HI5.out)).trans HI5.out)
    have S6 := Lib.hid (S5.out.trans (hb1.mono S5.out.size))
    clear B5 HZ5 HM5 MS5 HI5 S5
    have CE6 := Lib.hid ((hb1.cell (block_lt_of_cell CE5.out)).trans CE5.out)
    clear CE5
    clear hb1
    clear hb
    go_upto_if 35 with fail
    go_cut [6] from 36 to 39 (fun tp wx => tp = .complex .f64 y1 y2 ∧ Hid (Below w6.heap.size w6 wx))
    case first =>
      cases q
      case false =>
        obtain ⟨e1, e2⟩ := HNONE.out rfl
        subst e1 e2
        go_wp2_with fail
        go_meet
        exact ⟨rfl, Lib.hid (Below.refl _ _)⟩
      obtain ⟨f1, f2, -⟩ := HFOUND.out rfl
      have hsum := HSUM.out rfl
      have CR := Lib.hid (premoved_any y f2 f1 w6)
      obtain ⟨z1, hz1⟩ : ∃ z, z = flw (-szT y) := ⟨_, rfl⟩
      obtain ⟨z2, hz2⟩ : ∃ z, z = flw (szT y) := ⟨_, rfl⟩
      rw [← hz1, ← hz2] at hsum CR
      unfold TV at CR
      have HADD := Lib.hid (fun W => run_complex_sum (P := Try.prog) W .add (Or.inl rfl) 75 .f64 v1 v2 z1 z2 y1 y2 hsum)
      clear hsum hz1 hz2 f1 f2
      obtain ⟨⟨x0, x1, x2, x3⟩, -⟩ := bx4 HY6.out
      go_wp2_with fail
      clear x0 x1 x2 x3
      refine CR.out.mono ?_
      rintro e w7 ⟨rfl, hb⟩
      have hadd := HADD.out w7
      go_wp2_with fail
      go_meet
      exact ⟨rfl, Lib.hid hb⟩
    case rest =>
      rename World => w7
      obtain ⟨rfl, hb'⟩ := hcut
      have hb := hb'.out
      have B7 := Lib.hid (B6.out.trans (hb.mono B6.out.size))
      have HZ7 := Lib.hid ((hb.block _ (lt_of_some HZ6.out)).trans HZ6.out)
      have HM7 := Lib.hid ((hb.block _ (lt_of_some HM6.out)).trans HM6.out)
      have MS7 := Lib.hid (ms_below MS6.out hb)
      have HI7 := Lib.hid ((hb.block _ (lt_of_some HI6.out)).trans HI6.out)
      have S7 := Lib.hid (S6.out.trans (hb.mono S6.out.size))
      clear B6 HZ6 HM6 MS6 HI6 S6
      have CE7 := Lib.hid ((hb.cell (block_lt_of_cell CE6.out)).trans CE6.out)
      clear CE6
      clear hb hb' HY6 HFOUND HNONE HSUM
      have CB7 := Lib.hid (CB.out w7 S7.out)
      clear CB
      obtain ⟨x0, x1, x2, x3, x4, x5, x6, x7, x8, x9⟩ := bx10 HM7.out
      go_upto_region 7 with fail
      go_wp2_with fail
      clear x0 x1 x2 x3 x4 x5 x6 x7 x8 x9
      refine CB7.out.mono ?_
      rintro e w8 ⟨⟨v5, rfl, hv5⟩, hb⟩
      have B8 := Lib.hid (B7.out.trans (hb.mono B7.out.size))
      have HZ8 := Lib.hid ((hb.block _ (lt_of_some HZ7.out)).trans HZ7.out)
      have HM8 := Lib.hid ((hb.block _ (lt_of_some HM7.out)).trans HM7.out)
      have MS8 := Lib.hid (ms_below MS7.out hb)
      have HI8 := Lib.hid ((hb.block _ (lt_of_some HI7.out)).trans HI7.out)
      have S8 := Lib.hid (S7.out.trans (hb.mono S7.out.size))
      clear B7 HZ7 HM7 MS7 HI7 S7
      have CE8 := Lib.hid ((hb.cell (block_lt_of_cell CE7.out)).trans CE7.out)
      clear CE7
      obtain ⟨t0, t1, t2, t3, t4, t5, t6, t7, rfl, hms8⟩ := hv5
      clear hb CB7
      have ON8 := Lib.hid (ms_one hms8 mm.live mm.garb)
      have hz8 := heap_alloc_new w8 (.cells #[.slice none 0 0, .slice none 0 0, .slice none 0 0, .slice none 0 0, .slice none 0 0, .slice none 0 0, .slice none 0 0, .slice none 0 0, .int .i64 0, .int .i64 0] 32)
      go_upto_region 8 with ((with_reducible refine storeM w8.heap.size _ #[t0, t1, t2, t3, t4, t5, t6, t7, .int .i64 mm.live, .int .i64 mm.garb] ?_ ?_ hz8 rfl rfl ON8.out ?_); exact rfl; exact rfl)
      rw [World.setRow_alloc_new]
      clear hz8
      have q9 := bel_al w8 (.cells #[t0, t1, t2, t3, t4, t5, t6, t7, .int .i64 mm.live, .int .i64 mm.garb] 32)
      have HB9 := Lib.hid (heap_alloc_new w8 (.cells #[t0, t1, t2, t3, t4, t5, t6, t7, .int .i64 mm.live, .int .i64 mm.garb] 32))
      have MS9 := Lib.hid (ms_below hms8 q9)
      have B9 := Lib.hid (B8.out.trans (q9.mono B8.out.size))
      have HZ9 := Lib.hid ((q9.block _ (lt_of_some HZ8.out)).trans HZ8.out)
      have HM9 := Lib.hid ((q9.block _ (lt_of_some HM8.out)).trans HM8.out)
      have MS9o := Lib.hid (ms_below MS8.out q9)
      have HI9 := Lib.hid ((q9.block _ (lt_of_some HI8.out)).trans HI8.out)
      have S9 := Lib.hid (S8.out.trans (q9.mono S8.out.size))
      have HNE := Lib.hid (show w.heap.size + 2 ≠ w8.heap.size by have h := lt_of_some HZ8.out; omega)
      have HGL := Lib.hid (show w.heap.size ≤ w8.heap.size from B8.out.size)
      have Q9 := Lib.hid q9
      clear q9 hms8 HZ8 B8 MS8
      generalize w8.alloc (.cells #[t0, t1, t2, t3, t4, t5, t6, t7, .int .i64 mm.live, .int .i64 mm.garb] 32) = w9 at *
      cases q2
      case false =>
        have hful : G40 < m.garb + O := by
          have h := HMM.out.2
          by_cases c : G40 < m.garb + O
          · exact c
          · have h2 := of_decide_eq_false h.symm; omega
        have HE := Lib.hid (show putM m x = mm by rw [HFULL.out hful, HMM.out.1, if_pos hful])
        clear hful
        have ON := Lib.hid (ms_one MS9.out (mm.live) (mm.garb))
        obtain ⟨x0, x1, x2, x3, x4, x5, x6, x7, x8, x9⟩ := bx10 HB9.out
        go_wp2_with ((with_reducible refine storeM (w.heap.size + 2) _ #[t0, t1, t2, t3, t4, t5, t6, t7, .int .i64 (mm.live), .int .i64 (mm.garb)] ?_ ?_ HZ9.out rfl rfl ON.out ?_); exact rfl; exact rfl)
        have SZ := Lib.hid (setRow_heap w9 (w.heap.size + 2) _ #[t0, t1, t2, t3, t4, t5, t6, t7, .int .i64 (mm.live), .int .i64 (mm.garb)] _ _ HZ9.out)
        have BE := Lib.hid (below_setRowM B9.out (Nat.le_add_right w.heap.size 2) #[t0, t1, t2, t3, t4, t5, t6, t7, .int .i64 (mm.live), .int .i64 (mm.garb)])
        refine mo_end (fn := Try.f27) rfl (w.heap.size + 2) rfl SZ.out ?_
        rw [HE.out]
        exact ⟨⟨_, rfl, t0, t1, t2, t3, t4, t5, t6, t7, rfl, ms_setRowZ MS9.out HZ9.out⟩, BE.out⟩
      have hnf : ¬ G40 < m.garb + O := by have h := of_decide_eq_true HMM.out.2.symm; omega
      have hput := HPUT.out (by omega)
      have hm2 := HMM.out.1
      rw [if_neg hnf] at hm2
      have HE := Lib.hid hput
      have hst : mm.st = m.st := by rw [hm2]
      have hlv : mm.live = m.live + szT x - O := by rw [hm2]; show m.live + (szT x - O) = _; omega
      have hgb : mm.garb = m.garb + O := by rw [hm2]
      have HST := Lib.hid hst
      rw [hlv, hgb] at HB9
      clear hnf hput hm2 hst hlv hgb HMM HFULL HPUT
      go_upto_region 9 with fail
      have S0 := Lib.hid (show Below w8.heap.size w8 w9.drew from Q9.out.drew)
      have dd := (Below.refl w9.heap.size w9).drew
      have HBD := Lib.hid ((dd.block _ (lt_of_some HB9.out)).trans HB9.out)
      have HZD := Lib.hid ((dd.block _ (lt_of_some HZ9.out)).trans HZ9.out)
      have BD := Lib.hid (B9.out.trans (dd.mono B9.out.size))
      have MSD := Lib.hid (ms_below MS9.out dd)
      have SD := Lib.hid (S9.out.trans (dd.mono S9.out.size))
      refine wp_onlyN ?_
      refine wp_region_headsS (fun W' => Below w8.heap.size w8 W') [0, 1, 2, 3, 4, 5, 7] 3 (by kernel_rfl) (fun _ _ _ _ _ h => h.elim) (by kernel_rfl) (by rfl) (by rfl) S0.out ?_
      simp only [pickOps, List.filterMap_cons, List.filterMap_nil, List.getElem?_toArray, List.getElem?_cons_zero, List.getElem?_cons_succ]
      refine wpHeads_step (fun K hK => ?_)
      go_simp
      refine ⟨_, fun _ _ => rfl, hK _ ?_⟩
      clear hK K
      refine wpHeads_step (fun K hK => ?_)
      go_simp
      refine ⟨_, fun _ _ => rfl, hK _ ?_⟩
      clear hK K
      refine wpHeads_step (fun K hK => ?_)
      go_simp
      refine ⟨.pointer (some ⟨w.heap.size, 0, none⟩), fun w' hw' => by go_simp, hK _ ?_⟩
      clear hK K
      refine wpHeads_step (fun K hK => ?_)
      go_simp
      refine ⟨.pointer (some ⟨w.heap.size, u, none⟩), fun w' hw' => by go_simp, hK _ ?_⟩
      clear hK K
      refine wpHeads_step (fun K hK => ?_)
      go_simp
      refine ⟨.slice a n c, fun w' hw' => by
        have q0 := (hw'.cell (block_lt_of_cell CE8.out)).trans CE8.out
        simp [q0], hK _ ?_⟩
      clear hK K
      refine wpHeads_step (fun K hK => ?_)
      go_simp
      refine ⟨.agg #[.int .u64 (x.key : Int), .int .u32 (x.ck : Int), .int .i64 x.off, .int .i64 x.sz], fun w' hw' => by
        obtain ⟨⟨x0, x1, x2, x3⟩, -⟩ := bx4 ((hw'.block _ (lt_of_some HI8.out)).trans HI8.out)
        simp [x0, x1, x2, x3], hK _ ?_⟩
      clear hK K
      refine wpHeads_step (fun K hK => ?_)
      go_simp
      refine ⟨.pointer (some ⟨w8.heap.size, 0, none⟩), fun w' hw' => by go_simp, hK _ ?_⟩
      clear hK K
      refine wpHeads_nil ?_
      have RD := S0
      clear S0 dd HB9 HZ9 B9 MS9 S9
      generalize w9.drew = WD at *
      refine held_one 6 rfl rfl (by kernel_rfl) fun K hK => ?_
      go_simp
      go_at_call 50
      refine (PP.out WD SD.out).mono ?_
      rintro e w11 ⟨⟨v6, rfl, hit6⟩, hb⟩
      refine hK _ _ (RD.out.trans (hb.mono RD.out.size)) ?_
      clear hK K
      have R11 := Lib.hid (RD.out.trans (hb.mono RD.out.size))
      have HB11 := Lib.hid ((hb.block _ (lt_of_some HBD.out)).trans HBD.out)
      have HZ11 := Lib.hid ((hb.block _ (lt_of_some HZD.out)).trans HZD.out)
      have B11 := Lib.hid (BD.out.trans (hb.mono BD.out.size))
      have MS11 := Lib.hid (ms_below MSD.out hb)
      clear RD HBD HZD BD MSD SD
      obtain ⟨a6, c6, rfl, -, -⟩ := it_form hit6
      obtain ⟨LL, hLL⟩ : ∃ z, z = putL L x := ⟨_, rfl⟩
      rw [← hLL] at hit6 HE ⊢
      obtain ⟨n6, hn6⟩ : ∃ z, z = LL.length := ⟨_, rfl⟩
      have IT6 := Lib.hid hit6
      have HN6 := Lib.hid hn6
      rw [← hn6]
      obtain ⟨a7, c7, hsel7, -⟩ := MS11.out.2.2.2 u HUL.out
      have hcell7 := bxk HB11.out HUL.out hsel7
      have fz7 := frozen_of_row w11 w8.heap.size u _ _ HB11.out
      clear hb hit6 hn6 hsel7 hLL
      refine held_one 8 rfl rfl (by kernel_rfl) fun K hK => ?_
      go_simp
      refine hK _ _ R11.out ?_
      clear hK K
      refine held_one 9 rfl rfl (by kernel_rfl) fun K hK => ?_
      go_simp
      refine hK _ _ (R11.out.setCell (p := ⟨w8.heap.size, u, none⟩) (Nat.le_refl _) (.slice a6 n6 c6)) ?_
      clear hK K
      refine wpAnyH_done (by kernel_rfl) ?_ _
      unfold onlyN
      dsimp only
      go_upto_region 10 with fail
      obtain ⟨d0, d1, d2, d3, d4, d5, d6, d7, he, hd⟩ := set8 t0 t1 t2 t3 t4 t5 t6 t7 (.slice a6 n6 c6) (.int .i64 (m.live + szT x - O)) (.int .i64 (m.garb + O)) u HUL.out
      have hb12 := heap_setCell_same w11 w8.heap.size u _ _ (.slice a6 n6 c6) HB11.out
      rw [he] at hb12
      have hm12 := ms_set (d0 := d0) (d1 := d1) (d2 := d2) (d3 := d3) (d4 := d4) (d5 := d5) (d6 := d6) (d7 := d7) (a := a6) (c := c6) MS11.out HB11.out HUL.out (by have h := IT6.out; exact h) (by rw [← HN6.out]; exact hd) HJ.out.1 HJ.out.2 (.slice a6 n6 c6)
      rw [HST.out] at hm12
      have HB12 := Lib.hid hb12
      have MS12 := Lib.hid hm12
      have HZ12 := Lib.hid (show (w11.setCell ⟨w8.heap.size, u, none⟩ (.slice a6 n6 c6)).heap[w.heap.size + 2]? = some (.cells #[.slice none 0 0, .slice none 0 0, .slice none 0 0, .slice none 0 0, .slice none 0 0, .slice none 0 0, .slice none 0 0, .slice none 0 0, .int .i64 0, .int .i64 0] 32 (0, 0)) by
        rw [heap_setCell_other _ _ _ _ HNE.out]
        exact HZ11.out)
      have B12 := Lib.hid (B11.out.setCell (p := ⟨w8.heap.size, u, none⟩) HGL.out (.slice a6 n6 c6))
      clear he hd hb12 hm12 hcell7 fz7 MS11 HB11 HZ11 B11
      generalize w11.setCell ⟨w8.heap.size, u, none⟩ (.slice a6 n6 c6) = w12 at *
      have ON := Lib.hid (ms_one MS12.out (m.live + szT x - O) (m.garb + O))
      obtain ⟨x0, x1, x2, x3, x4, x5, x6, x7, x8, x9⟩ := bx10 HB12.out
      go_wp2_with ((with_reducible refine storeM (w.heap.size + 2) _ #[d0, d1, d2, d3, d4, d5, d6, d7, .int .i64 (m.live + szT x - O), .int .i64 (m.garb + O)] ?_ ?_ HZ12.out rfl rfl ON.out ?_); exact rfl; exact rfl)
      have SZ := Lib.hid (setRow_heap w12 (w.heap.size + 2) _ #[d0, d1, d2, d3, d4, d5, d6, d7, .int .i64 (m.live + szT x - O), .int .i64 (m.garb + O)] _ _ HZ12.out)
      have BE := Lib.hid (below_setRowM B12.out (Nat.le_add_right w.heap.size 2) #[d0, d1, d2, d3, d4, d5, d6, d7, .int .i64 (m.live + szT x - O), .int .i64 (m.garb + O)])
      refine mo_end (fn := Try.f27) rfl (w.heap.size + 2) rfl SZ.out ?_
      rw [HE.out]
      exact ⟨⟨_, rfl, d0, d1, d2, d3, d4, d5, d6, d7, rfl, ms_setRowZ MS12.out HZ12.out⟩, BE.out⟩
end Go.Proofs.Ytlooldnaoooehaa.Gf
