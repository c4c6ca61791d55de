/- What is proved here: the laws' told: what the program has is what the reference has. -/
import Derived.Test.YtgbnclepgjcakaaGreatGs19
namespace Go.Proofs.YtgbnclepgjcakaaGreat.Gf
open Go Go.Joins Go.ChangeShapes Go.WideShapes Go.ChangeAt Go.RowKit Go.Deep Go.Proofs.YtgbnclepgjcakaaGreat.By Go.Proofs.YtgbnclepgjcakaaGreat.Qt
set_option maxRecDepth 100000
set_option maxHeartbeats 204800000

theorem told_any (v : Value) (s : Slt) (w : World) (hv : Sv w v s) (hlen : s.gens.length ≤ 10000) : Calls Tryz.prog 21 #[v] w fun e w' => (∃ v', e = .returned v' ∧ Sv w' v' s) ∧ Below w.heap.size w w' := by
 obtain ⟨id, lim, ro, L⟩ := s
 obtain ⟨gv, rfl, hg, hji, hjl⟩ := hv
 simp only at hlen hji hjl hg ⊢
 obtain ⟨V, a, c, hVL, rfl, hR, hGC, hSrc⟩ := gl_rows hg
 obtain ⟨n, hn⟩ : ∃ n, n = L.length := ⟨_, rfl⟩
 rw [← hn] at hVL hGC hSrc hlen hg ⊢
 have q0 := al2 w (.cells #[.int .i64 id, .int .i64 lim, .bool ro, .slice a n c] 33) (.cells #[.int .i64 0, .int .i64 0, .bool false, .slice none 0 0] 24)
 have HS := Lh q0.1
 have HZ := Lh q0.2.1
 have B0 := Lh q0.2.2
 have HN := Lh hn
 have HLN := Lh hlen
 have HVL := Lh hVL
 have HRW0 := Lh hR
 have HGC := Lh hGC
 have HSC := Lh hSrc
 have HJ := Lh (And.intro hji hjl)
 clear q0 hn hlen hVL hR hGC hSrc hji hjl hg
 go_enter Tryz.func21, Tryz.ntmps21
 go_upto_region 1 with fail
 generalize (w.alloc (.cells #[.int .i64 id, .int .i64 lim, .bool ro, .slice a n c] 33)).alloc (.cells #[.int .i64 0, .int .i64 0, .bool false, .slice none 0 0] 24) = W0 at *
 obtain ⟨⟨y0, y1, y2, y3⟩, -⟩ := bx4 HS.out
 have hz := heap_alloc_new W0 (.cells #[.int .i64 0, .int .i64 0, .bool false, .slice none 0 0] 24)
 have hbs := B0.out.size
 have hlt0 := lt_of_some HZ.out
 go_upto_region 2 with ((with_reducible refine storeRS W0.heap.size _ #[.int .i64 id, .int .i64 lim, .bool ro, .slice none 0 0] ?_ ?_ hz rfl rfl lv_one ?_); exact rfl; exact rfl)
 rw [World.setRow_alloc_new]
 clear y0 y1 y2 y3
 have hb := bel_al W0 (.cells #[.int .i64 id, .int .i64 lim, .bool ro, .slice none 0 0] 24)
 have HS1 := Lh ((hb.block _ (lt_of_some HS.out)).trans HS.out)
 have HZ1 := Lh ((hb.block _ (lt_of_some HZ.out)).trans HZ.out)
 have HO1 := Lh (heap_alloc_new W0 (.cells #[.int .i64 id, .int .i64 lim, .bool ro, .slice none 0 0] 24))
 have BW1 := Lh (B0.out.trans (hb.mono B0.out.size))
 have HGB0 := Lh (show w.heap.size + 1 < W0.heap.size ∧ (W0.alloc (.cells #[.int .i64 id, .int .i64 lim, .bool ro, .slice none 0 0] 24)).heap.size = W0.heap.size + 1 from ⟨hlt0, by simp⟩)
 clear hb hz hbs hlt0 HS HZ B0
 generalize W0.alloc (.cells #[.int .i64 id, .int .i64 lim, .bool ro, .slice none 0 0] 24) = W1 at *
 generalize W0.heap.size = go at *
 obtain ⟨B1, hB1⟩ : ∃ B1, B1 = W1.heap.size := ⟨_, rfl⟩
 have HGB := Lh (show w.heap.size + 1 < go ∧ B1 = go + 1 by have := HGB0.out; omega)
 have HB1 := Lh hB1
 clear hB1 HGB0
 obtain ⟨⟨y0, y1, y2, y3⟩, -⟩ := bx4 HS1.out
 go_wp2_with fail
 clear y0 y1 y2 y3
 go_loopw [5, 16] (fun _ t16 wr => ∃ i : Nat, i ≤ n ∧ t16 = .int .i64 (i : Int) ∧ ∃ lv, wr.heap[w.heap.size + 1]? = some (.cells #[.int .i64 0, .int .i64 0, .bool false, .slice none 0 0] 24 (0, 0)) ∧ wr.heap[go]? = some (.cells #[.int .i64 id, .int .i64 lim, .bool ro, lv] 24 (0, 0)) ∧ OwV 46 14 wr B1 lv (V.take i) ∧ Below w.heap.size w wr ∧ B1 ≤ wr.heap.size) (fun _ t _ => n - (intOf t).toNat)
 case atStart => exact ⟨0, Nat.zero_le _, rfl, .slice none 0 0, HZ1.out, HO1.out, ov_nil _ _ _ _, BW1.out, by rw [HB1.out]; exact Nat.le_refl _⟩
 case round =>
  obtain ⟨i, hi, rfl, lv, hrs, hgo, hov, hB, hsz⟩ := hrel
  rename World => wl
  clear HS1 HZ1 HO1 BW1
  by_cases hlt : i < n
  case neg =>
   obtain rfl : n = i := by omega
   have d1 : decide ((n : Int) < (n : Int)) = false := decide_eq_false (by omega)
   rw [List.take_of_length_le (by have := HVL.out; omega)] at hov
   have GLx := Lh (gl_own hov (by rw [HVL.out, HN.out]) (fun k hk => gc_below (HGC.out k (by have := HN.out; omega)) hB))
   obtain ⟨a9, c9, rfl, -, -⟩ := ov_form hov
   have hne : ∀ b, (Value.slice a9 V.length c9).ownBlock = some b → b ≠ w.heap.size + 1 := fun b hb => by have := (ov_lt hov b hb).1; have := HGB.out; omega
   have HOV := Lh hov
   have HRS := Lh hrs
   have HGO := Lh hgo
   have HB := Lh hB
   clear hov hrs hgo hB hsz hlt hi hne
   obtain ⟨⟨y0, y1, y2, y3⟩, -⟩ := bx4 HGO.out
   go_wp2_with ((with_reducible refine storeRS (w.heap.size + 1) _ #[.int .i64 id, .int .i64 lim, .bool ro, .slice a9 V.length c9] ?_ ?_ HRS.out rfl rfl lv_one ?_); exact rfl; exact rfl)
   refine bodyPost_ret (results_cell_row rfl _ _ (w.heap.size + 1) 24 #[.int .i64 id, .int .i64 lim, .bool ro, .slice a9 V.length c9] (0, 0) _ rfl (setRow_heap _ _ _ _ _ _ HRS.out) Tryz.underlying24 rfl infoRS4) rfl ?_
   refine ⟨⟨_, rfl, _, rfl, ?_, HJ.out⟩, below_setRowM HB.out (Nat.le_succ _) _⟩
   exact gl_own (ov_move HOV.out fun b hb _ => setRow_other _ _ _ _ (by have := (ov_lt HOV.out b hb).1; have := HGB.out; omega)) (by rw [HVL.out, HN.out]) (fun k hk => gc_setRow (gc_below (HGC.out k (by have := HN.out; simp only at hk; omega)) HB.out) HRS.out zeroS_u64)
  have d1 : decide ((i : Int) < (n : Int)) = true := decide_eq_true (by omega)
  have d2 : decide (i < n) = true := decide_eq_true hlt
  obtain ⟨b, off, rfl, hsrc⟩ := HSC.out (by omega)
  obtain ⟨t0, t1, t2, t3, t4, t5, t6, t7, hrow, GA⟩ := row_at (by have := HVL.out; omega) (gc_below (HGC.out i hlt) hB) (src_below HRW0.out hsrc hB)
  generalize L.getD i g0 = u at *
  have HTK := Lh (take_row (by have := HVL.out; omega) hrow)
  have HRW := Lh (show Rows 14 [[.int .i64 u.num, .int .i64 u.rev, .int .i64 u.mode, .int .i64 u.size, t0, t1, t2, t3, t4, t5, t6, t7, .int .i64 u.m.live, .int .i64 u.m.garb]] from fun p hp => by
   obtain rfl := List.mem_singleton.1 hp
   exact gc_row ⟨t0, t1, t2, t3, t4, t5, t6, t7, rfl, GA.ms, GA.j⟩)
  have ON2 := Lh GA.one
  have HMS := Lh GA.ms
  have JJ := Lh GA.j
  obtain ⟨x0, x1, x2, x3, x4, x5, x6, x7, x8, x9, x10, x11, x12, x13⟩ := GA.cells
  have p0 : (0 : Int) ≤ (i : Int) := by omega
  have p1 : (i : Int) < (n : Int) := by omega
  have HI := Lh hlt
  have hz := heap_alloc_new wl (.cells #[.int .i64 0, .int .i64 0, .int .i64 0, .int .i64 0, .slice none 0 0, .slice none 0 0, .slice none 0 0, .slice none 0 0, .slice none 0 0, .slice none 0 0, .slice none 0 0, .slice none 0 0, .int .i64 0, .int .i64 0] 40)
  have HB := Lh hB
  clear GA hB hlt hi hsrc hrow
  go_upto_region 5 with ((with_reducible refine storeG wl.heap.size _ #[.int .i64 u.num, .int .i64 u.rev, .int .i64 u.mode, .int .i64 u.size, t0, t1, t2, t3, t4, t5, t6, t7, .int .i64 u.m.live, .int .i64 u.m.garb] ?_ ?_ hz rfl rfl ON2.out ?_); exact rfl; exact rfl)
  rw [World.setRow_alloc_new]
  clear x0 x1 x2 x3 x4 x5 x6 x7 x8 x9 x10 x11 x12 x13
  clear p0 p1 d1 d2
  have hb := bel_al wl (.cells #[.int .i64 u.num, .int .i64 u.rev, .int .i64 u.mode, .int .i64 u.size, t0, t1, t2, t3, t4, t5, t6, t7, .int .i64 u.m.live, .int .i64 u.m.garb] 40)
  have HNX := Lh (fun k (hk : lv.ownBlock = some k) => (ov_lt hov k hk).2)
  have HGO := Lh ((hb.block _ (lt_of_some hgo)).trans hgo)
  have HRS := Lh ((hb.block _ (lt_of_some hrs)).trans hrs)
  have OV := Lh (ov_below hov hb)
  have MSx := Lh (ms_below HMS.out hb)
  have SZ := Lh (Nat.le_trans hsz hb.size)
  have HBW := Lh (HB.out.trans (hb.mono HB.out.size))
  have HGX := Lh (heap_alloc_new wl (.cells #[.int .i64 u.num, .int .i64 u.rev, .int .i64 u.mode, .int .i64 u.size, t0, t1, t2, t3, t4, t5, t6, t7, .int .i64 u.m.live, .int .i64 u.m.garb] 40))
  have hgs := hsz
  clear hb hz hgo hrs hov hsz HMS HB
  generalize wl.alloc (.cells #[.int .i64 u.num, .int .i64 u.rev, .int .i64 u.mode, .int .i64 u.size, t0, t1, t2, t3, t4, t5, t6, t7, .int .i64 u.m.live, .int .i64 u.m.garb] 40) = wx at *
  generalize wl.heap.size = gx at *
  obtain ⟨x0, x1, x2, x3, x4, x5, x6, x7, x8, x9, x10, x11, x12, x13⟩ := bx14 HGX.out
  obtain ⟨⟨y0, y1, y2, y3⟩, -⟩ := bx4 HGO.out
  have HSZB := Lh (show B1 ≤ (wx.alloc (.cells #[.int .i64 u.num, .int .i64 u.rev, .int .i64 u.mode, .int .i64 u.size, t0, t1, t2, t3, t4, t5, t6, t7, .int .i64 u.m.live, .int .i64 u.m.garb] 46)).heap.size by have := SZ.out; simp; omega)
  have hb := bel_al wx (.cells #[.int .i64 u.num, .int .i64 u.rev, .int .i64 u.mode, .int .i64 u.size, t0, t1, t2, t3, t4, t5, t6, t7, .int .i64 u.m.live, .int .i64 u.m.garb] 46)
  have HBK := Lh (heap_alloc_new wx (.cells #[.int .i64 u.num, .int .i64 u.rev, .int .i64 u.mode, .int .i64 u.size, t0, t1, t2, t3, t4, t5, t6, t7, .int .i64 u.m.live, .int .i64 u.m.garb] 46))
  have HGO1 := Lh ((hb.block _ (lt_of_some HGO.out)).trans HGO.out)
  have HRS1 := Lh ((hb.block _ (lt_of_some HRS.out)).trans HRS.out)
  have HBW1 := Lh (HBW.out.trans (hb.mono HBW.out.size))
  have OV1 := Lh (ov_below OV.out hb)
  have HSR := Lh (show SrcV 14 (wx.alloc (.cells #[.int .i64 u.num, .int .i64 u.rev, .int .i64 u.mode, .int .i64 u.size, t0, t1, t2, t3, t4, t5, t6, t7, .int .i64 u.m.live, .int .i64 u.m.garb] 46)) wx.heap.size 0 [[.int .i64 u.num, .int .i64 u.rev, .int .i64 u.mode, .int .i64 u.size, t0, t1, t2, t3, t4, t5, t6, t7, .int .i64 u.m.live, .int .i64 u.m.garb]] from fun k q hk hq => by
   obtain rfl : k = 0 := by simp at hk; omega
   rw [show (0 : Nat) + (0 * 14 + q) = q by omega, cell_of_row _ wx.heap.size q _ _ _ HBK.out, List.getElem?_toArray]
   rfl)
  have HLL := Lh (show (V.take i).length + [[.int .i64 u.num, .int .i64 u.rev, .int .i64 u.mode, .int .i64 u.size, t0, t1, t2, t3, t4, t5, t6, t7, .int .i64 u.m.live, .int .i64 u.m.garb]].length ≤ 100000000 by simp; have := HLN.out; have := HI.out; have := HVL.out; omega)
  clear hb HBK MSx
  go_upto_region 6 with (at_builtin; refine app_v lsRG (dst := some 42) (c := 1) (n := 1) (M := [[.int .i64 u.num, .int .i64 u.rev, .int .i64 u.mode, .int .i64 u.size, t0, t1, t2, t3, t4, t5, t6, t7, .int .i64 u.m.live, .int .i64 u.m.garb]]) ?_ ?_ rfl OV1.out HRW.out HSR.out HLL.out HSZB.out ?_; exact rfl; exact rfl; intro v9 X3 ho hg hat; obtain ⟨a9, c9, hv9, -, -⟩ := ov_form ho; obtain ⟨n9, hn9⟩ : ∃ n9, n9 = (V.take i ++ [[.int .i64 u.num, .int .i64 u.rev, .int .i64 u.mode, .int .i64 u.size, t0, t1, t2, t3, t4, t5, t6, t7, .int .i64 u.m.live, .int .i64 u.m.garb]]).length := ⟨_, rfl⟩; rw [← hn9] at hv9; subst hv9; clear hn9; have HGO3 := Lh ((hg.block _ (lt_of_some HGO1.out) (fun e => by have := (ov_lt OV1.out go e.symm).1; have := HGB.out; omega)).trans HGO1.out); have HRS3 := Lh ((hg.block _ (lt_of_some HRS1.out) (fun e => by have := (ov_lt OV1.out _ e.symm).1; have := HGB.out; omega)).trans HRS1.out); have HBW3 := Lh (HBW1.out.grown hg HBW1.out.size (fun k hk => by have := (ov_lt OV1.out k hk).1; have := HGB.out; omega)); have OV3 := Lh ho; clear ho hg hat OV1 HBW1 HRS1 HGO1 HSR HSZB HRW; clear y0 y1 y2 y3; obtain ⟨⟨y0, y1, y2, y3⟩, f0, f1, f2, f3⟩ := bx4 HGO3.out)
  clear y0 y1 y2 y3 f0 f1 f2 f3 x0 x1 x2 x3 x4 x5 x6 x7 x8 x9 x10 x11 x12 x13
  rw [setCell_eq_setRow _ _ _ _ _ _ _ HGO3.out]
  have hs : (#[.int .i64 id, .int .i64 lim, .bool ro, lv] : Array Value).setIfInBounds 3 (.slice a9 n9 c9) = #[.int .i64 id, .int .i64 lim, .bool ro, .slice a9 n9 c9] := rfl
  rw [hs]
  have HGO4 := Lh (setRow_heap X3 go _ #[.int .i64 id, .int .i64 lim, .bool ro, .slice a9 n9 c9] _ _ HGO3.out)
  have HRS4 := Lh ((setRow_other X3 go (w.heap.size + 1) #[.int .i64 id, .int .i64 lim, .bool ro, .slice a9 n9 c9] (by have := HGB.out; omega)).trans HRS3.out)
  have HBW4 := Lh (below_setRowM HBW3.out (show w.heap.size ≤ go by have := HGB.out; omega) #[.int .i64 id, .int .i64 lim, .bool ro, .slice a9 n9 c9])
  have OV4 := Lh (ov_move OV3.out fun b hb _ => setRow_other X3 go b #[.int .i64 id, .int .i64 lim, .bool ro, .slice a9 n9 c9] (by have := (ov_lt OV3.out b hb).1; have := HGB.out; omega))
  clear hs HGO3 HRS3 HBW3 OV3
  generalize X3.setRow go #[.int .i64 id, .int .i64 lim, .bool ro, .slice a9 n9 c9] = X4 at *
  have hw := w64s8 i (by have := HLN.out; have := HI.out; omega)
  go_wp2_with fail
  go_roundw
  case rel => exact ⟨i + 1, HI.out, by go_num, .slice a9 n9 c9, HRS4.out, HGO4.out, by rw [HTK.out]; exact OV4.out, HBW4.out, by have := lt_of_some HGO4.out; have := HGB.out; omega⟩
  case measure => exact meas8 n i HI.out (by have := HLN.out; omega)
end Go.Proofs.YtgbnclepgjcakaaGreat.Gf
