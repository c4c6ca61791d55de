/- What is proved here: the laws' gen and given: what the reference has is what the program has. -/
import Derived.Test.YtgbnclepgjcakaaGreatGs18
namespace Go.Proofs.YtgbnclepgjcakaaGreat.Gf
open Go Go.Joins Go.ChangeShapes Go.WideShapes Go.ChangeAt Go.RowKit Go.Deep Go.Proofs.YtgbnclepgjcakaaGreat.By Go.Proofs.YtgbnclepgjcakaaGreat.Qt
set_option maxRecDepth 100000
set_option maxHeartbeats 204800000

theorem gen_any (v : Value) (g : Ge) (w : World) (hv : Gv w v g) : Calls Tryz.prog 37 #[v] w fun e w' => e = .returned v ∧ Below w.heap.size w w' := by
 obtain ⟨s0, s1, s2, s3, s4, s5, s6, s7, rfl, hm, hj⟩ := hv
 have q0 := al2 w (.cells #[.int .i64 g.num, .int .i64 g.rev, .int .i64 g.mode, .int .i64 g.size, s0, s1, s2, s3, s4, s5, s6, s7, .int .i64 g.m.live, .int .i64 g.m.garb] 46) (.cells #[.int .i64 0, .int .i64 0, .int .i64 0, .int .i64 0, .slice none 0 0, .slice none 0 0, .slice none 0 0, .slice none 0 0, .slice none 0 0, .slice none 0 0, .slice none 0 0, .slice none 0 0, .int .i64 0, .int .i64 0] 40)
 have HS := Lh q0.1
 have HZ := Lh q0.2.1
 have B0 := Lh q0.2.2
 have ON := Lh (gc_one hm)
 clear q0 hm hj
 go_enter Tryz.func37, Tryz.ntmps37
 go_upto_region 1 with fail
 generalize (w.alloc (.cells #[.int .i64 g.num, .int .i64 g.rev, .int .i64 g.mode, .int .i64 g.size, s0, s1, s2, s3, s4, s5, s6, s7, .int .i64 g.m.live, .int .i64 g.m.garb] 46)).alloc (.cells #[.int .i64 0, .int .i64 0, .int .i64 0, .int .i64 0, .slice none 0 0, .slice none 0 0, .slice none 0 0, .slice none 0 0, .slice none 0 0, .slice none 0 0, .slice none 0 0, .slice none 0 0, .int .i64 0, .int .i64 0] 40) = W0 at *
 obtain ⟨x0, x1, x2, x3, x4, x5, x6, x7, x8, x9, x10, x11, x12, x13⟩ := bx14 HS.out
 go_wp2_with ((with_reducible refine storeG (w.heap.size + 1) _ #[.int .i64 g.num, .int .i64 g.rev, .int .i64 g.mode, .int .i64 g.size, s0, s1, s2, s3, s4, s5, s6, s7, .int .i64 g.m.live, .int .i64 g.m.garb] ?_ ?_ HZ.out rfl rfl ON.out ?_); exact rfl; exact rfl)
 refine bodyPost_ret (results_cell_row rfl _ _ (w.heap.size + 1) 40 #[.int .i64 g.num, .int .i64 g.rev, .int .i64 g.mode, .int .i64 g.size, s0, s1, s2, s3, s4, s5, s6, s7, .int .i64 g.m.live, .int .i64 g.m.garb] (0, 0) _ rfl (setRow_heap _ _ _ _ _ _ HZ.out) Tryz.underlying40 rfl infoG14) rfl ?_
 exact ⟨rfl, below_setRowM B0.out (Nat.le_succ _) _⟩
theorem row_at {w : World} {b off k : Nat} {V : List (List Value)} {g : Ge} (hk : k < V.length) (hg : GC w (V.getD k []) g) (hs : SrcV 14 w b off V) : ∃ t0 t1 t2 t3 t4 t5 t6 t7, V.getD k [] = [.int .i64 g.num, .int .i64 g.rev, .int .i64 g.mode, .int .i64 g.size, t0, t1, t2, t3, t4, t5, t6, t7, .int .i64 g.m.live, .int .i64 g.m.garb] ∧ GAt w b (off + k * 14) t0 t1 t2 t3 t4 t5 t6 t7 g := by
 obtain ⟨t0, t1, t2, t3, t4, t5, t6, t7, hv, hm, hj⟩ := hg
 have hcc := fun u (hu : u < 14) => hs k u hk hu
 rw [hv] at hcc
 simp only [← Nat.add_assoc] at hcc
 exact ⟨t0, t1, t2, t3, t4, t5, t6, t7, hv, ⟨hcc 0 (by decide), hcc 1 (by decide), hcc 2 (by decide), hcc 3 (by decide), hcc 4 (by decide), hcc 5 (by decide), hcc 6 (by decide), hcc 7 (by decide), hcc 8 (by decide), hcc 9 (by decide), hcc 10 (by decide), hcc 11 (by decide), hcc 12 (by decide), hcc 13 (by decide)⟩, hm, hj⟩
/-- What stays while a list grows: the older blocks, and the box gx. -/
structure KeepG (w : World) (gx : Nat) (o : Obj) (W : World) : Prop where
 be : Below w.heap.size w W
 at_ : W.heap[gx]? = some o
theorem take_row {V : List (List Value)} {i : Nat} (h : i < V.length) {p : List Value} (hp : V.getD i [] = p) : V.take (i + 1) = V.take i ++ [p] := by
 rw [List.take_add_one, List.getElem?_eq_getElem h, ← hp, List.getD_eq_getElem?_getD, List.getElem?_eq_getElem h]
 rfl
theorem src_below {z : Nat} {w w' : World} {b off : Nat} {V : List (List Value)} (hr : Rows z V) (h : SrcV z w b off V) (hB : Below w.heap.size w w') : SrcV z w' b off V := fun k u hk hu => by
 have h1 := h k u hk hu
 have hp : (V.getD k []).length = z := by
  rw [List.getD_eq_getElem?_getD, List.getElem?_eq_getElem hk]
  exact (hr _ (List.getElem_mem hk)).1
 rw [List.getElem?_eq_getElem (by omega)] at h1 ⊢
 exact (hB.cell (p := ⟨b, off + (k * z + u), none⟩) (block_lt_of_cell h1)).trans h1
theorem lv_one {id lim : Int} {ro : Bool} {a : Option Addr} {n c : Nat} : (#[.int .i64 id, .int .i64 lim, .bool ro, .slice a n c] : Array Value).all (·.oneCell') = true := by simp [show (Value.int .i64 id).oneCell' = true from rfl, show (Value.int .i64 lim).oneCell' = true from rfl, show (Value.bool ro).oneCell' = true from rfl, show (Value.slice a n c).oneCell' = true from rfl]
theorem gc_setRow {Y : World} {p : Nat} {cs : Array Value} {cs0 : Array Value} {T : TypeId} {r : List Value} {g : Ge} (h : GC Y r g) (hz : Y.heap[p]? = some (.cells cs0 T (0, 0))) (hn : ∀ (k : Nat) (n : Int), cs0[k]? ≠ some (Value.int .u64 n)) : GC (Y.setRow p cs) r g := by
 obtain ⟨s0, s1, s2, s3, s4, s5, s6, s7, hv, hm, hj⟩ := h
 exact ⟨s0, s1, s2, s3, s4, s5, s6, s7, hv, ms_setRowF hm hz hn, hj⟩
theorem given_any (v : Value) (s : Slt) (w : World) (hv : Sv w v s) (hlen : s.gens.length ≤ 10000) : Calls Tryz.prog 9 #[v] w fun e w' => (∃ v', e = .returned v' ∧ Sv w' v' s) ∧ Below w.heap.size w w' := by
 obtain ⟨id, lim, ro, L⟩ := s
 obtain ⟨gv, rfl, hg, hji, hjl⟩ := hv
 simp only at hlen hji hjl hg ⊢
 obtain ⟨V, a, c, hVL, rfl, hR, hGC, hSrc⟩ := gl_rows hg
 obtain ⟨n, hn⟩ : ∃ n, n = L.length := ⟨_, rfl⟩
 rw [← hn] at hVL hGC hSrc hlen hg ⊢
 have q0 := al2 w (.cells #[.int .i64 id, .int .i64 lim, .bool ro, .slice a n c] 24) (.cells #[.int .i64 0, .int .i64 0, .bool false, .slice none 0 0] 33)
 have HS := Lh q0.1
 have HZ := Lh q0.2.1
 have B0 := Lh q0.2.2
 have HN := Lh hn
 have HLN := Lh hlen
 have HVL := Lh hVL
 have HRW0 := Lh hR
 have HGC := Lh hGC
 have HSC := Lh hSrc
 have HJ := Lh (And.intro hji hjl)
 clear q0 hn hlen hVL hR hGC hSrc hji hjl hg
 go_enter Tryz.func9, Tryz.ntmps9
 go_upto_region 1 with fail
 generalize (w.alloc (.cells #[.int .i64 id, .int .i64 lim, .bool ro, .slice a n c] 24)).alloc (.cells #[.int .i64 0, .int .i64 0, .bool false, .slice none 0 0] 33) = W0 at *
 obtain ⟨⟨y0, y1, y2, y3⟩, -⟩ := bx4 HS.out
 have hz := heap_alloc_new W0 (.cells #[.int .i64 0, .int .i64 0, .bool false, .slice none 0 0] 33)
 have hbs := B0.out.size
 have hlt0 := lt_of_some HZ.out
 go_upto_region 2 with ((with_reducible refine storeS W0.heap.size _ #[.int .i64 id, .int .i64 lim, .bool ro, .slice none 0 0] ?_ ?_ hz rfl rfl lv_one ?_); exact rfl; exact rfl)
 rw [World.setRow_alloc_new]
 clear y0 y1 y2 y3
 have hb := bel_al W0 (.cells #[.int .i64 id, .int .i64 lim, .bool ro, .slice none 0 0] 33)
 have HS1 := Lh ((hb.block _ (lt_of_some HS.out)).trans HS.out)
 have HZ1 := Lh ((hb.block _ (lt_of_some HZ.out)).trans HZ.out)
 have HO1 := Lh (heap_alloc_new W0 (.cells #[.int .i64 id, .int .i64 lim, .bool ro, .slice none 0 0] 33))
 have BW1 := Lh (B0.out.trans (hb.mono B0.out.size))
 have HGB0 := Lh (show w.heap.size + 1 < W0.heap.size ∧ (W0.alloc (.cells #[.int .i64 id, .int .i64 lim, .bool ro, .slice none 0 0] 33)).heap.size = W0.heap.size + 1 from ⟨hlt0, by simp⟩)
 clear hb hz hbs hlt0 HS HZ B0
 generalize W0.alloc (.cells #[.int .i64 id, .int .i64 lim, .bool ro, .slice none 0 0] 33) = W1 at *
 generalize W0.heap.size = go at *
 obtain ⟨B1, hB1⟩ : ∃ B1, B1 = W1.heap.size := ⟨_, rfl⟩
 have HGB := Lh (show w.heap.size + 1 < go ∧ B1 = go + 1 by have := HGB0.out; omega)
 have HB1 := Lh hB1
 clear hB1 HGB0
 obtain ⟨⟨y0, y1, y2, y3⟩, -⟩ := bx4 HS1.out
 go_wp2_with fail
 clear y0 y1 y2 y3
 go_loopw [5, 16] (fun _ t16 wr => ∃ i : Nat, i ≤ n ∧ t16 = .int .i64 (i : Int) ∧ ∃ lv, wr.heap[w.heap.size + 1]? = some (.cells #[.int .i64 0, .int .i64 0, .bool false, .slice none 0 0] 33 (0, 0)) ∧ wr.heap[go]? = some (.cells #[.int .i64 id, .int .i64 lim, .bool ro, lv] 33 (0, 0)) ∧ OwV 40 14 wr B1 lv (V.take i) ∧ Below w.heap.size w wr ∧ B1 ≤ wr.heap.size) (fun _ t _ => n - (intOf t).toNat)
 case atStart => exact ⟨0, Nat.zero_le _, rfl, .slice none 0 0, HZ1.out, HO1.out, ov_nil _ _ _ _, BW1.out, by rw [HB1.out]; exact Nat.le_refl _⟩
 case round =>
  obtain ⟨i, hi, rfl, lv, hrs, hgo, hov, hB, hsz⟩ := hrel
  rename World => wl
  clear HS1 HZ1 HO1 BW1
  by_cases hlt : i < n
  case neg =>
   obtain rfl : n = i := by omega
   have d1 : decide ((n : Int) < (n : Int)) = false := decide_eq_false (by omega)
   rw [List.take_of_length_le (by have := HVL.out; omega)] at hov
   have GLx := Lh (gl_own hov (by rw [HVL.out, HN.out]) (fun k hk => gc_below (HGC.out k (by have := HN.out; omega)) hB))
   obtain ⟨a9, c9, rfl, -, -⟩ := ov_form hov
   have hne : ∀ b, (Value.slice a9 V.length c9).ownBlock = some b → b ≠ w.heap.size + 1 := fun b hb => by have := (ov_lt hov b hb).1; have := HGB.out; omega
   have HOV := Lh hov
   have HRS := Lh hrs
   have HGO := Lh hgo
   have HB := Lh hB
   clear hov hrs hgo hB hsz hlt hi hne
   obtain ⟨⟨y0, y1, y2, y3⟩, -⟩ := bx4 HGO.out
   go_wp2_with ((with_reducible refine storeS (w.heap.size + 1) _ #[.int .i64 id, .int .i64 lim, .bool ro, .slice a9 V.length c9] ?_ ?_ HRS.out rfl rfl lv_one ?_); exact rfl; exact rfl)
   refine bodyPost_ret (results_cell_row rfl _ _ (w.heap.size + 1) 33 #[.int .i64 id, .int .i64 lim, .bool ro, .slice a9 V.length c9] (0, 0) _ rfl (setRow_heap _ _ _ _ _ _ HRS.out) Tryz.underlying33 rfl infoS4) rfl ?_
   refine ⟨⟨_, rfl, _, rfl, ?_, HJ.out⟩, below_setRowM HB.out (Nat.le_succ _) _⟩
   exact gl_own (ov_move HOV.out fun b hb _ => setRow_other _ _ _ _ (by have := (ov_lt HOV.out b hb).1; have := HGB.out; omega)) (by rw [HVL.out, HN.out]) (fun k hk => gc_setRow (gc_below (HGC.out k (by have := HN.out; simp only at hk; omega)) HB.out) HRS.out zeroS_u64)
  have d1 : decide ((i : Int) < (n : Int)) = true := decide_eq_true (by omega)
  have d2 : decide (i < n) = true := decide_eq_true hlt
  obtain ⟨b, off, rfl, hsrc⟩ := HSC.out (by omega)
  obtain ⟨t0, t1, t2, t3, t4, t5, t6, t7, hrow, GA⟩ := row_at (by have := HVL.out; omega) (gc_below (HGC.out i hlt) hB) (src_below HRW0.out hsrc hB)
  generalize L.getD i g0 = u at *
  have HTK := Lh (take_row (by have := HVL.out; omega) hrow)
  have HRW := Lh (show Rows 14 [[.int .i64 u.num, .int .i64 u.rev, .int .i64 u.mode, .int .i64 u.size, t0, t1, t2, t3, t4, t5, t6, t7, .int .i64 u.m.live, .int .i64 u.m.garb]] from fun p hp => by
   obtain rfl := List.mem_singleton.1 hp
   exact gc_row ⟨t0, t1, t2, t3, t4, t5, t6, t7, rfl, GA.ms, GA.j⟩)
  have ON2 := Lh GA.one
  have HMS := Lh GA.ms
  have JJ := Lh GA.j
  obtain ⟨x0, x1, x2, x3, x4, x5, x6, x7, x8, x9, x10, x11, x12, x13⟩ := GA.cells
  have p0 : (0 : Int) ≤ (i : Int) := by omega
  have p1 : (i : Int) < (n : Int) := by omega
  have HI := Lh hlt
  have hz := heap_alloc_new wl (.cells #[.int .i64 0, .int .i64 0, .int .i64 0, .int .i64 0, .slice none 0 0, .slice none 0 0, .slice none 0 0, .slice none 0 0, .slice none 0 0, .slice none 0 0, .slice none 0 0, .slice none 0 0, .int .i64 0, .int .i64 0] 46)
  have HB := Lh hB
  clear GA hB hlt hi hsrc hrow
  go_upto_region 5 with ((with_reducible refine storeRG wl.heap.size _ #[.int .i64 u.num, .int .i64 u.rev, .int .i64 u.mode, .int .i64 u.size, t0, t1, t2, t3, t4, t5, t6, t7, .int .i64 u.m.live, .int .i64 u.m.garb] ?_ ?_ hz rfl rfl ON2.out ?_); exact rfl; exact rfl)
  rw [World.setRow_alloc_new]
  clear x0 x1 x2 x3 x4 x5 x6 x7 x8 x9 x10 x11 x12 x13
  clear p0 p1 d1 d2
  have hb := bel_al wl (.cells #[.int .i64 u.num, .int .i64 u.rev, .int .i64 u.mode, .int .i64 u.size, t0, t1, t2, t3, t4, t5, t6, t7, .int .i64 u.m.live, .int .i64 u.m.garb] 46)
  have HNX := Lh (fun k (hk : lv.ownBlock = some k) => (ov_lt hov k hk).2)
  have HGO := Lh ((hb.block _ (lt_of_some hgo)).trans hgo)
  have HRS := Lh ((hb.block _ (lt_of_some hrs)).trans hrs)
  have OV := Lh (ov_below hov hb)
  have MSx := Lh (ms_below HMS.out hb)
  have SZ := Lh (Nat.le_trans hsz hb.size)
  have HSS := Lh (show KeepG w wl.heap.size (.cells #[.int .i64 u.num, .int .i64 u.rev, .int .i64 u.mode, .int .i64 u.size, t0, t1, t2, t3, t4, t5, t6, t7, .int .i64 u.m.live, .int .i64 u.m.garb] 46 (0, 0)) (wl.alloc (.cells #[.int .i64 u.num, .int .i64 u.rev, .int .i64 u.mode, .int .i64 u.size, t0, t1, t2, t3, t4, t5, t6, t7, .int .i64 u.m.live, .int .i64 u.m.garb] 46)) from ⟨HB.out.trans (hb.mono HB.out.size), heap_alloc_new wl (.cells #[.int .i64 u.num, .int .i64 u.rev, .int .i64 u.mode, .int .i64 u.size, t0, t1, t2, t3, t4, t5, t6, t7, .int .i64 u.m.live, .int .i64 u.m.garb] 46)⟩)
  have hgs := Nat.le_trans hsz (Nat.le_refl wl.heap.size)
  clear hb hz hgo hrs hov hsz HMS HB
  generalize wl.alloc (.cells #[.int .i64 u.num, .int .i64 u.rev, .int .i64 u.mode, .int .i64 u.size, t0, t1, t2, t3, t4, t5, t6, t7, .int .i64 u.m.live, .int .i64 u.m.garb] 46) = wx at *
  generalize wl.heap.size = gx at *
  refine wp_onlyN ?_
  refine wp_region_headsS (KeepG w gx (.cells #[.int .i64 u.num, .int .i64 u.rev, .int .i64 u.mode, .int .i64 u.size, t0, t1, t2, t3, t4, t5, t6, t7, .int .i64 u.m.live, .int .i64 u.m.garb] 46 (0, 0))) [0, 2] 6 (by kernel_rfl) (fun _ _ _ _ _ h => h.elim) (by kernel_rfl) (by rfl) (by rfl) ⟨HSS.out.1.drew, HSS.out.2⟩ ?_
  simp only [pickOps, List.filterMap_cons, List.filterMap_nil, List.getElem?_toArray, List.getElem?_cons_zero, List.getElem?_cons_succ]
  refine wpHeads_step (fun K hK => ?_)
  go_simp
  refine ⟨_, fun _ _ => rfl, hK _ ?_⟩
  clear hK K
  refine wpHeads_step (fun K hK => ?_)
  go_simp
  refine ⟨.agg #[.int .i64 u.num, .int .i64 u.rev, .int .i64 u.mode, .int .i64 u.size, t0, t1, t2, t3, t4, t5, t6, t7, .int .i64 u.m.live, .int .i64 u.m.garb], fun w' hw' => by
   obtain ⟨x0, x1, x2, x3, x4, x5, x6, x7, x8, x9, x10, x11, x12, x13⟩ := bx14 hw'.2
   go_simp, hK _ ?_⟩
  clear hK K
  refine wpHeads_nil ?_
  have HGO0 := Lh (show wx.drew.heap[go]? = some (.cells #[.int .i64 id, .int .i64 lim, .bool ro, lv] 33 (0, 0)) from HGO.out)
  have HRS0 := Lh (show wx.drew.heap[w.heap.size + 1]? = some (.cells #[.int .i64 0, .int .i64 0, .bool false, .slice none 0 0] 33 (0, 0)) from HRS.out)
  have OV0 := Lh (ov_below OV.out (Below.refl wx.heap.size wx).drew)
  have MSx0 := Lh (ms_below MSx.out (Below.refl wx.heap.size wx).drew)
  have SZ0 := Lh (show B1 ≤ wx.drew.heap.size from SZ.out)
  have HSS0 := Lh (show KeepG w gx (.cells #[.int .i64 u.num, .int .i64 u.rev, .int .i64 u.mode, .int .i64 u.size, t0, t1, t2, t3, t4, t5, t6, t7, .int .i64 u.m.live, .int .i64 u.m.garb] 46 (0, 0)) wx.drew from ⟨HSS.out.1.drew, HSS.out.2⟩)
  clear HGO HRS OV MSx SZ HSS
  generalize wx.drew = X0 at *
  refine held_two 1 3 rfl rfl rfl rfl (by kernel_rfl) (fun K hK => ?_) (fun K hK => ?_)
  ·obtain ⟨⟨y0, y1, y2, y3⟩, -⟩ := bx4 HGO0.out
   go_simp
   refine hK _ _ HSS0.out ?_
   clear hK K y0 y1 y2 y3
   refine gwr 3 fun K hK => ?_
   go_simp
   go_at_call 37
   refine (gen_any (.agg #[.int .i64 u.num, .int .i64 u.rev, .int .i64 u.mode, .int .i64 u.size, t0, t1, t2, t3, t4, t5, t6, t7, .int .i64 u.m.live, .int .i64 u.m.garb]) u X0 ⟨t0, t1, t2, t3, t4, t5, t6, t7, rfl, MSx0.out, JJ.out⟩).mono ?_
   rintro e X1 ⟨rfl, hb⟩
   have HGO1 := Lh ((hb.block _ (lt_of_some HGO0.out)).trans HGO0.out)
   have HRS1 := Lh ((hb.block _ (lt_of_some HRS0.out)).trans HRS0.out)
   have OV1 := Lh (ov_below OV0.out hb)
   have MSx1 := Lh (ms_below MSx0.out hb)
   have SZ1 := Lh (Nat.le_trans SZ0.out hb.size)
   have HSS1 := Lh (show KeepG w gx (.cells #[.int .i64 u.num, .int .i64 u.rev, .int .i64 u.mode, .int .i64 u.size, t0, t1, t2, t3, t4, t5, t6, t7, .int .i64 u.m.live, .int .i64 u.m.garb] 46 (0, 0)) X1 from ⟨HSS0.out.1.trans (hb.mono HSS0.out.1.size), (hb.block _ (lt_of_some HSS0.out.2)).trans HSS0.out.2⟩)
   clear hb
   refine hK _ _ HSS1.out ?_
   clear hK K
   refine gwr 4 fun K hK => ?_
   go_simp
   have hb := bel_al X1 (.cells #[.int .i64 u.num, .int .i64 u.rev, .int .i64 u.mode, .int .i64 u.size, t0, t1, t2, t3, t4, t5, t6, t7, .int .i64 u.m.live, .int .i64 u.m.garb] 40)
   have HBK := Lh (heap_alloc_new X1 (.cells #[.int .i64 u.num, .int .i64 u.rev, .int .i64 u.mode, .int .i64 u.size, t0, t1, t2, t3, t4, t5, t6, t7, .int .i64 u.m.live, .int .i64 u.m.garb] 40))
   have hgb : X1.heap.size = X1.heap.size := rfl
   obtain ⟨X2, hX⟩ : ∃ Y, Y = X1.alloc (.cells #[.int .i64 u.num, .int .i64 u.rev, .int .i64 u.mode, .int .i64 u.size, t0, t1, t2, t3, t4, t5, t6, t7, .int .i64 u.m.live, .int .i64 u.m.garb] 40) := ⟨_, rfl⟩
   rw [← hX] at hb HBK ⊢
   clear hgb hX
   have HGO2 := Lh ((hb.block _ (lt_of_some HGO1.out)).trans HGO1.out)
   have HRS2 := Lh ((hb.block _ (lt_of_some HRS1.out)).trans HRS1.out)
   have OV2 := Lh (ov_below OV1.out hb)
   have MSx2 := Lh (ms_below MSx1.out hb)
   have SZ2 := Lh (Nat.le_trans SZ1.out hb.size)
   have HSS2 := Lh (show KeepG w gx (.cells #[.int .i64 u.num, .int .i64 u.rev, .int .i64 u.mode, .int .i64 u.size, t0, t1, t2, t3, t4, t5, t6, t7, .int .i64 u.m.live, .int .i64 u.m.garb] 46 (0, 0)) X2 from ⟨HSS1.out.1.trans (hb.mono HSS1.out.1.size), (hb.block _ (lt_of_some HSS1.out.2)).trans HSS1.out.2⟩)
   clear hb
   refine hK _ _ HSS2.out ?_
   clear hK K
   generalize X1.heap.size = gb at *
   refine gwr 5 fun K hK => ?_
   refine wp_app_v lsG (by rfl) (by rfl) (by rfl) OV2.out (M := [[.int .i64 u.num, .int .i64 u.rev, .int .i64 u.mode, .int .i64 u.size, t0, t1, t2, t3, t4, t5, t6, t7, .int .i64 u.m.live, .int .i64 u.m.garb]]) HRW.out (fun k q hk hq => ?_) (by simp; have := HLN.out; have := HI.out; have := HVL.out; omega) SZ2.out ?_
   ·obtain rfl : k = 0 := by simp at hk; omega
    rw [show (0 : Nat) + (0 * 14 + q) = q by omega, cell_of_row X2 gb q _ _ _ HBK.out, List.getElem?_toArray]
    rfl
   intro v9 X3 ho hg hat
   obtain ⟨a9, c9, hv9, -, -⟩ := ov_form ho
   obtain ⟨n9, hn9⟩ : ∃ n9, n9 = (V.take i ++ [[.int .i64 u.num, .int .i64 u.rev, .int .i64 u.mode, .int .i64 u.size, t0, t1, t2, t3, t4, t5, t6, t7, .int .i64 u.m.live, .int .i64 u.m.garb]]).length := ⟨_, rfl⟩
   rw [← hn9] at hv9
   subst hv9
   clear hn9
   have hgo : X3.heap[go]? = some (.cells #[.int .i64 id, .int .i64 lim, .bool ro, lv] 33 (0, 0)) := (hg.block _ (lt_of_some HGO2.out) (fun e => by have := (ov_lt OV2.out go e.symm).1; have := HGB.out; omega)).trans HGO2.out
   have hrs : X3.heap[w.heap.size + 1]? = some (.cells #[.int .i64 0, .int .i64 0, .bool false, .slice none 0 0] 33 (0, 0)) := (hg.block _ (lt_of_some HRS2.out) (fun e => by have := (ov_lt OV2.out _ e.symm).1; have := HGB.out; omega)).trans HRS2.out
   have hgx : X3.heap[gx]? = some (.cells #[.int .i64 u.num, .int .i64 u.rev, .int .i64 u.mode, .int .i64 u.size, t0, t1, t2, t3, t4, t5, t6, t7, .int .i64 u.m.live, .int .i64 u.m.garb] 46 (0, 0)) := (hg.block _ (lt_of_some HSS2.out.2) (fun e => by have := HNX.out gx e.symm; omega)).trans HSS2.out.2
   have hbw : Below w.heap.size w X3 := HSS2.out.1.grown hg HSS2.out.1.size (fun k hk => by have := (ov_lt OV2.out k hk).1; have := HGB.out; omega)
   refine hK _ _ ⟨hbw, hgx⟩ ?_
   clear hK K
   have HGO3 := Lh hgo
   have HRS3 := Lh hrs
   have HGX3 := Lh hgx
   have HBW3 := Lh hbw
   have OV3 := Lh ho
   clear hgo hrs hgx hbw ho hg hat OV2 HGO2 HRS2 HBK SZ2 HSS2
   refine gwr 6 fun K hK => ?_
   go_simp
   refine hK _ _ ⟨HBW3.out, HGX3.out⟩ ?_
   clear hK K
   refine gwr 7 fun K hK => ?_
   obtain ⟨⟨y0, y1, y2, y3⟩, f0, f1, f2, f3⟩ := bx4 HGO3.out
   go_simp
   clear y0 y1 y2 y3 f0 f1 f2 f3
   rw [setCell_eq_setRow _ _ _ _ _ _ _ HGO3.out]
   have hs : (#[.int .i64 id, .int .i64 lim, .bool ro, lv] : Array Value).setIfInBounds 3 (.slice a9 n9 c9) = #[.int .i64 id, .int .i64 lim, .bool ro, .slice a9 n9 c9] := rfl
   rw [hs]
   have HGO4 := Lh (setRow_heap X3 go _ #[.int .i64 id, .int .i64 lim, .bool ro, .slice a9 n9 c9] _ _ HGO3.out)
   have HRS4 := Lh ((setRow_other X3 go (w.heap.size + 1) #[.int .i64 id, .int .i64 lim, .bool ro, .slice a9 n9 c9] (by have := HGB.out; omega)).trans HRS3.out)
   have HBW4 := Lh (below_setRowM HBW3.out (show w.heap.size ≤ go by have := HGB.out; omega) #[.int .i64 id, .int .i64 lim, .bool ro, .slice a9 n9 c9])
   have OV4 := Lh (ov_move OV3.out fun b hb _ => setRow_other X3 go b #[.int .i64 id, .int .i64 lim, .bool ro, .slice a9 n9 c9] (by have := (ov_lt OV3.out b hb).1; have := HGB.out; omega))
   have hgx4 : (X3.setRow go #[.int .i64 id, .int .i64 lim, .bool ro, .slice a9 n9 c9]).heap[gx]? = some (.cells #[.int .i64 u.num, .int .i64 u.rev, .int .i64 u.mode, .int .i64 u.size, t0, t1, t2, t3, t4, t5, t6, t7, .int .i64 u.m.live, .int .i64 u.m.garb] 46 (0, 0)) := (setRow_other X3 go gx #[.int .i64 id, .int .i64 lim, .bool ro, .slice a9 n9 c9] (by have := HGB.out; omega)).trans HGX3.out
   refine hK _ _ ⟨HBW4.out, hgx4⟩ ?_
   clear hK K hs hgx4 HGO3 HRS3 HBW3 OV3 HGX3
   generalize X3.setRow go #[.int .i64 id, .int .i64 lim, .bool ro, .slice a9 n9 c9] = X4 at *
   refine wpAnyH_done (by kernel_rfl) ?_ _
   unfold onlyN
   dsimp only
   have hw := w64s8 i (by have := HLN.out; have := HI.out; omega)
   go_wp2_with fail
   go_roundw
   case rel => exact ⟨i + 1, HI.out, by go_num, .slice a9 n9 c9, HRS4.out, HGO4.out, by rw [HTK.out]; exact OV4.out, HBW4.out, by have := lt_of_some HGO4.out; have := HGB.out; omega⟩
   case measure => exact meas8 n i HI.out (by have := HLN.out; omega)
  ·go_simp
   go_at_call 37
   refine (gen_any (.agg #[.int .i64 u.num, .int .i64 u.rev, .int .i64 u.mode, .int .i64 u.size, t0, t1, t2, t3, t4, t5, t6, t7, .int .i64 u.m.live, .int .i64 u.m.garb]) u X0 ⟨t0, t1, t2, t3, t4, t5, t6, t7, rfl, MSx0.out, JJ.out⟩).mono ?_
   rintro e X1 ⟨rfl, hb⟩
   have HGO1 := Lh ((hb.block _ (lt_of_some HGO0.out)).trans HGO0.out)
   have HRS1 := Lh ((hb.block _ (lt_of_some HRS0.out)).trans HRS0.out)
   have OV1 := Lh (ov_below OV0.out hb)
   have MSx1 := Lh (ms_below MSx0.out hb)
   have SZ1 := Lh (Nat.le_trans SZ0.out hb.size)
   have HSS1 := Lh (show KeepG w gx (.cells #[.int .i64 u.num, .int .i64 u.rev, .int .i64 u.mode, .int .i64 u.size, t0, t1, t2, t3, t4, t5, t6, t7, .int .i64 u.m.live, .int .i64 u.m.garb] 46 (0, 0)) X1 from ⟨HSS0.out.1.trans (hb.mono HSS0.out.1.size), (hb.block _ (lt_of_some HSS0.out.2)).trans HSS0.out.2⟩)
   clear hb
   refine hK _ _ HSS1.out ?_
   clear hK K
   refine held_two 1 4 rfl rfl rfl rfl (by kernel_rfl) (fun K hK => ?_) (fun K hK => ?_)
   ·obtain ⟨⟨y0, y1, y2, y3⟩, -⟩ := bx4 HGO1.out
    go_simp
    refine hK _ _ HSS1.out ?_
    clear hK K y0 y1 y2 y3
    refine gwr 4 fun K hK => ?_
    go_simp
    have hb := bel_al X1 (.cells #[.int .i64 u.num, .int .i64 u.rev, .int .i64 u.mode, .int .i64 u.size, t0, t1, t2, t3, t4, t5, t6, t7, .int .i64 u.m.live, .int .i64 u.m.garb] 40)
    have HBK := Lh (heap_alloc_new X1 (.cells #[.int .i64 u.num, .int .i64 u.rev, .int .i64 u.mode, .int .i64 u.size, t0, t1, t2, t3, t4, t5, t6, t7, .int .i64 u.m.live, .int .i64 u.m.garb] 40))
    have hgb : X1.heap.size = X1.heap.size := rfl
    obtain ⟨X2, hX⟩ : ∃ Y, Y = X1.alloc (.cells #[.int .i64 u.num, .int .i64 u.rev, .int .i64 u.mode, .int .i64 u.size, t0, t1, t2, t3, t4, t5, t6, t7, .int .i64 u.m.live, .int .i64 u.m.garb] 40) := ⟨_, rfl⟩
    rw [← hX] at hb HBK ⊢
    clear hgb hX
    have HGO2 := Lh ((hb.block _ (lt_of_some HGO1.out)).trans HGO1.out)
    have HRS2 := Lh ((hb.block _ (lt_of_some HRS1.out)).trans HRS1.out)
    have OV2 := Lh (ov_below OV1.out hb)
    have MSx2 := Lh (ms_below MSx1.out hb)
    have SZ2 := Lh (Nat.le_trans SZ1.out hb.size)
    have HSS2 := Lh (show KeepG w gx (.cells #[.int .i64 u.num, .int .i64 u.rev, .int .i64 u.mode, .int .i64 u.size, t0, t1, t2, t3, t4, t5, t6, t7, .int .i64 u.m.live, .int .i64 u.m.garb] 46 (0, 0)) X2 from ⟨HSS1.out.1.trans (hb.mono HSS1.out.1.size), (hb.block _ (lt_of_some HSS1.out.2)).trans HSS1.out.2⟩)
    clear hb
    refine hK _ _ HSS2.out ?_
    clear hK K
    generalize X1.heap.size = gb at *
    refine gwr 5 fun K hK => ?_
    refine wp_app_v lsG (by rfl) (by rfl) (by rfl) OV2.out (M := [[.int .i64 u.num, .int .i64 u.rev, .int .i64 u.mode, .int .i64 u.size, t0, t1, t2, t3, t4, t5, t6, t7, .int .i64 u.m.live, .int .i64 u.m.garb]]) HRW.out (fun k q hk hq => ?_) (by simp; have := HLN.out; have := HI.out; have := HVL.out; omega) SZ2.out ?_
    ·obtain rfl : k = 0 := by simp at hk; omega
     rw [show (0 : Nat) + (0 * 14 + q) = q by omega, cell_of_row X2 gb q _ _ _ HBK.out, List.getElem?_toArray]
     rfl
    intro v9 X3 ho hg hat
    obtain ⟨a9, c9, hv9, -, -⟩ := ov_form ho
    obtain ⟨n9, hn9⟩ : ∃ n9, n9 = (V.take i ++ [[.int .i64 u.num, .int .i64 u.rev, .int .i64 u.mode, .int .i64 u.size, t0, t1, t2, t3, t4, t5, t6, t7, .int .i64 u.m.live, .int .i64 u.m.garb]]).length := ⟨_, rfl⟩
    rw [← hn9] at hv9
    subst hv9
    clear hn9
    have hgo : X3.heap[go]? = some (.cells #[.int .i64 id, .int .i64 lim, .bool ro, lv] 33 (0, 0)) := (hg.block _ (lt_of_some HGO2.out) (fun e => by have := (ov_lt OV2.out go e.symm).1; have := HGB.out; omega)).trans HGO2.out
    have hrs : X3.heap[w.heap.size + 1]? = some (.cells #[.int .i64 0, .int .i64 0, .bool false, .slice none 0 0] 33 (0, 0)) := (hg.block _ (lt_of_some HRS2.out) (fun e => by have := (ov_lt OV2.out _ e.symm).1; have := HGB.out; omega)).trans HRS2.out
    have hgx : X3.heap[gx]? = some (.cells #[.int .i64 u.num, .int .i64 u.rev, .int .i64 u.mode, .int .i64 u.size, t0, t1, t2, t3, t4, t5, t6, t7, .int .i64 u.m.live, .int .i64 u.m.garb] 46 (0, 0)) := (hg.block _ (lt_of_some HSS2.out.2) (fun e => by have := HNX.out gx e.symm; omega)).trans HSS2.out.2
    have hbw : Below w.heap.size w X3 := HSS2.out.1.grown hg HSS2.out.1.size (fun k hk => by have := (ov_lt OV2.out k hk).1; have := HGB.out; omega)
    refine hK _ _ ⟨hbw, hgx⟩ ?_
    clear hK K
    have HGO3 := Lh hgo
    have HRS3 := Lh hrs
    have HGX3 := Lh hgx
    have HBW3 := Lh hbw
    have OV3 := Lh ho
    clear hgo hrs hgx hbw ho hg hat OV2 HGO2 HRS2 HBK SZ2 HSS2
    refine gwr 6 fun K hK => ?_
    go_simp
    refine hK _ _ ⟨HBW3.out, HGX3.out⟩ ?_
    clear hK K
    refine gwr 7 fun K hK => ?_
    obtain ⟨⟨y0, y1, y2, y3⟩, f0, f1, f2, f3⟩ := bx4 HGO3.out
    go_simp
    clear y0 y1 y2 y3 f0 f1 f2 f3
    rw [setCell_eq_setRow _ _ _ _ _ _ _ HGO3.out]
    have hs : (#[.int .i64 id, .int .i64 lim, .bool ro, lv] : Array Value).setIfInBounds 3 (.slice a9 n9 c9) = #[.int .i64 id, .int .i64 lim, .bool ro, .slice a9 n9 c9] := rfl
    rw [hs]
    have HGO4 := Lh (setRow_heap X3 go _ #[.int .i64 id, .int .i64 lim, .bool ro, .slice a9 n9 c9] _ _ HGO3.out)
    have HRS4 := Lh ((setRow_other X3 go (w.heap.size + 1) #[.int .i64 id, .int .i64 lim, .bool ro, .slice a9 n9 c9] (by have := HGB.out; omega)).trans HRS3.out)
    have HBW4 := Lh (below_setRowM HBW3.out (show w.heap.size ≤ go by have := HGB.out; omega) #[.int .i64 id, .int .i64 lim, .bool ro, .slice a9 n9 c9])
    have OV4 := Lh (ov_move OV3.out fun b hb _ => setRow_other X3 go b #[.int .i64 id, .int .i64 lim, .bool ro, .slice a9 n9 c9] (by have := (ov_lt OV3.out b hb).1; have := HGB.out; omega))
    have hgx4 : (X3.setRow go #[.int .i64 id, .int .i64 lim, .bool ro, .slice a9 n9 c9]).heap[gx]? = some (.cells #[.int .i64 u.num, .int .i64 u.rev, .int .i64 u.mode, .int .i64 u.size, t0, t1, t2, t3, t4, t5, t6, t7, .int .i64 u.m.live, .int .i64 u.m.garb] 46 (0, 0)) := (setRow_other X3 go gx #[.int .i64 id, .int .i64 lim, .bool ro, .slice a9 n9 c9] (by have := HGB.out; omega)).trans HGX3.out
    refine hK _ _ ⟨HBW4.out, hgx4⟩ ?_
    clear hK K hs hgx4 HGO3 HRS3 HBW3 OV3 HGX3
    generalize X3.setRow go #[.int .i64 id, .int .i64 lim, .bool ro, .slice a9 n9 c9] = X4 at *
    refine wpAnyH_done (by kernel_rfl) ?_ _
    unfold onlyN
    dsimp only
    have hw := w64s8 i (by have := HLN.out; have := HI.out; omega)
    go_wp2_with fail
    go_roundw
    case rel => exact ⟨i + 1, HI.out, by go_num, .slice a9 n9 c9, HRS4.out, HGO4.out, by rw [HTK.out]; exact OV4.out, HBW4.out, by have := lt_of_some HGO4.out; have := HGB.out; omega⟩
    case measure => exact meas8 n i HI.out (by have := HLN.out; omega)
   ·go_simp
    have hb := bel_al X1 (.cells #[.int .i64 u.num, .int .i64 u.rev, .int .i64 u.mode, .int .i64 u.size, t0, t1, t2, t3, t4, t5, t6, t7, .int .i64 u.m.live, .int .i64 u.m.garb] 40)
    have HBK := Lh (heap_alloc_new X1 (.cells #[.int .i64 u.num, .int .i64 u.rev, .int .i64 u.mode, .int .i64 u.size, t0, t1, t2, t3, t4, t5, t6, t7, .int .i64 u.m.live, .int .i64 u.m.garb] 40))
    have hgb : X1.heap.size = X1.heap.size := rfl
    obtain ⟨X2, hX⟩ : ∃ Y, Y = X1.alloc (.cells #[.int .i64 u.num, .int .i64 u.rev, .int .i64 u.mode, .int .i64 u.size, t0, t1, t2, t3, t4, t5, t6, t7, .int .i64 u.m.live, .int .i64 u.m.garb] 40) := ⟨_, rfl⟩
    rw [← hX] at hb HBK ⊢
    clear hgb hX
    have HGO2 := Lh ((hb.block _ (lt_of_some HGO1.out)).trans HGO1.out)
    have HRS2 := Lh ((hb.block _ (lt_of_some HRS1.out)).trans HRS1.out)
    have OV2 := Lh (ov_below OV1.out hb)
    have MSx2 := Lh (ms_below MSx1.out hb)
    have SZ2 := Lh (Nat.le_trans SZ1.out hb.size)
    have HSS2 := Lh (show KeepG w gx (.cells #[.int .i64 u.num, .int .i64 u.rev, .int .i64 u.mode, .int .i64 u.size, t0, t1, t2, t3, t4, t5, t6, t7, .int .i64 u.m.live, .int .i64 u.m.garb] 46 (0, 0)) X2 from ⟨HSS1.out.1.trans (hb.mono HSS1.out.1.size), (hb.block _ (lt_of_some HSS1.out.2)).trans HSS1.out.2⟩)
    clear hb
    refine hK _ _ HSS2.out ?_
    clear hK K
    generalize X1.heap.size = gb at *
    refine gwr 1 fun K hK => ?_
    obtain ⟨⟨y0, y1, y2, y3⟩, -⟩ := bx4 HGO2.out
    go_simp
    refine hK _ _ HSS2.out ?_
    clear hK K y0 y1 y2 y3
    refine gwr 5 fun K hK => ?_
    refine wp_app_v lsG (by rfl) (by rfl) (by rfl) OV2.out (M := [[.int .i64 u.num, .int .i64 u.rev, .int .i64 u.mode, .int .i64 u.size, t0, t1, t2, t3, t4, t5, t6, t7, .int .i64 u.m.live, .int .i64 u.m.garb]]) HRW.out (fun k q hk hq => ?_) (by simp; have := HLN.out; have := HI.out; have := HVL.out; omega) SZ2.out ?_
    ·obtain rfl : k = 0 := by simp at hk; omega
     rw [show (0 : Nat) + (0 * 14 + q) = q by omega, cell_of_row X2 gb q _ _ _ HBK.out, List.getElem?_toArray]
     rfl
    intro v9 X3 ho hg hat
    obtain ⟨a9, c9, hv9, -, -⟩ := ov_form ho
    obtain ⟨n9, hn9⟩ : ∃ n9, n9 = (V.take i ++ [[.int .i64 u.num, .int .i64 u.rev, .int .i64 u.mode, .int .i64 u.size, t0, t1, t2, t3, t4, t5, t6, t7, .int .i64 u.m.live, .int .i64 u.m.garb]]).length := ⟨_, rfl⟩
    rw [← hn9] at hv9
    subst hv9
    clear hn9
    have hgo : X3.heap[go]? = some (.cells #[.int .i64 id, .int .i64 lim, .bool ro, lv] 33 (0, 0)) := (hg.block _ (lt_of_some HGO2.out) (fun e => by have := (ov_lt OV2.out go e.symm).1; have := HGB.out; omega)).trans HGO2.out
    have hrs : X3.heap[w.heap.size + 1]? = some (.cells #[.int .i64 0, .int .i64 0, .bool false, .slice none 0 0] 33 (0, 0)) := (hg.block _ (lt_of_some HRS2.out) (fun e => by have := (ov_lt OV2.out _ e.symm).1; have := HGB.out; omega)).trans HRS2.out
    have hgx : X3.heap[gx]? = some (.cells #[.int .i64 u.num, .int .i64 u.rev, .int .i64 u.mode, .int .i64 u.size, t0, t1, t2, t3, t4, t5, t6, t7, .int .i64 u.m.live, .int .i64 u.m.garb] 46 (0, 0)) := (hg.block _ (lt_of_some HSS2.out.2) (fun e => by have := HNX.out gx e.symm; omega)).trans HSS2.out.2
    have hbw : Below w.heap.size w X3 := HSS2.out.1.grown hg HSS2.out.1.size (fun k hk => by have := (ov_lt OV2.out k hk).1; have := HGB.out; omega)
    refine hK _ _ ⟨hbw, hgx⟩ ?_
    clear hK K
    have HGO3 := Lh hgo
    have HRS3 := Lh hrs
    have HGX3 := Lh hgx
    have HBW3 := Lh hbw
    have OV3 := Lh ho
    clear hgo hrs hgx hbw ho hg hat OV2 HGO2 HRS2 HBK SZ2 HSS2
    refine gwr 6 fun K hK => ?_
    go_simp
    refine hK _ _ ⟨HBW3.out, HGX3.out⟩ ?_
    clear hK K
    refine gwr 7 fun K hK => ?_
    obtain ⟨⟨y0, y1, y2, y3⟩, f0, f1, f2, f3⟩ := bx4 HGO3.out
    go_simp
    clear y0 y1 y2 y3 f0 f1 f2 f3
    rw [setCell_eq_setRow _ _ _ _ _ _ _ HGO3.out]
    have hs : (#[.int .i64 id, .int .i64 lim, .bool ro, lv] : Array Value).setIfInBounds 3 (.slice a9 n9 c9) = #[.int .i64 id, .int .i64 lim, .bool ro, .slice a9 n9 c9] := rfl
    rw [hs]
    have HGO4 := Lh (setRow_heap X3 go _ #[.int .i64 id, .int .i64 lim, .bool ro, .slice a9 n9 c9] _ _ HGO3.out)
    have HRS4 := Lh ((setRow_other X3 go (w.heap.size + 1) #[.int .i64 id, .int .i64 lim, .bool ro, .slice a9 n9 c9] (by have := HGB.out; omega)).trans HRS3.out)
    have HBW4 := Lh (below_setRowM HBW3.out (show w.heap.size ≤ go by have := HGB.out; omega) #[.int .i64 id, .int .i64 lim, .bool ro, .slice a9 n9 c9])
    have OV4 := Lh (ov_move OV3.out fun b hb _ => setRow_other X3 go b #[.int .i64 id, .int .i64 lim, .bool ro, .slice a9 n9 c9] (by have := (ov_lt OV3.out b hb).1; have := HGB.out; omega))
    have hgx4 : (X3.setRow go #[.int .i64 id, .int .i64 lim, .bool ro, .slice a9 n9 c9]).heap[gx]? = some (.cells #[.int .i64 u.num, .int .i64 u.rev, .int .i64 u.mode, .int .i64 u.size, t0, t1, t2, t3, t4, t5, t6, t7, .int .i64 u.m.live, .int .i64 u.m.garb] 46 (0, 0)) := (setRow_other X3 go gx #[.int .i64 id, .int .i64 lim, .bool ro, .slice a9 n9 c9] (by have := HGB.out; omega)).trans HGX3.out
    refine hK _ _ ⟨HBW4.out, hgx4⟩ ?_
    clear hK K hs hgx4 HGO3 HRS3 HBW3 OV3 HGX3
    generalize X3.setRow go #[.int .i64 id, .int .i64 lim, .bool ro, .slice a9 n9 c9] = X4 at *
    refine wpAnyH_done (by kernel_rfl) ?_ _
    unfold onlyN
    dsimp only
    have hw := w64s8 i (by have := HLN.out; have := HI.out; omega)
    go_wp2_with fail
    go_roundw
    case rel => exact ⟨i + 1, HI.out, by go_num, .slice a9 n9 c9, HRS4.out, HGO4.out, by rw [HTK.out]; exact OV4.out, HBW4.out, by have := lt_of_some HGO4.out; have := HGB.out; omega⟩
    case measure => exact meas8 n i HI.out (by have := HLN.out; omega)
end Go.Proofs.YtgbnclepgjcakaaGreat.Gf
