/- What is proved here: a slot of one generation without items (program): Valid, New, Find, Fits. -/
import Derived.Test.YtempgcnpfjhacaaG13c
namespace Go.Proofs.Ytempgcnpfjhacaa.Gf
open Go Go.Joins Go.ChangeShapes Go.WideShapes Go.ChangeAt Go.RowKit Go.Deep Go.Proofs.Ytempgcnpfjhacaa.By Go.Proofs.Ytempgcnpfjhacaa.Qt

theorem infoS4 : (Try.prog.info? 30).map (·.size) = some 4 := by kernel_rfl
theorem storeS {ops : Array Oper} {rest : List Oper} {x y : Operand} {pos : String} {after : Array Edge} {ty : TypeId} {a : Act} {w : World} {Q : Exit → Act → World → Prop}
    (g : Nat) (old cs : Array Value) (hx : a.eval x = .pointer (some ⟨g, 0, none⟩)) (hy : a.eval y = .agg cs) (hg : w.heap[g]? = some (.cells old 30 (0, 0))) (ho : old.size = 4) (hs : cs.size = 4) (h1 : cs.all (·.oneCell') = true)
    (h : wpList Try.prog ops Q rest a (w.setRow g cs)) : wpList Try.prog ops Q (⟨none, .store 30 x y, ty, pos, after, none⟩ :: rest) a w :=
  wpList_store_row rfl 30 x y rfl g cs hx hy 30 old hg (by rw [infoS4, hs]) (by omega) h1 h
theorem psrec_any (n : Int) (hn : I64b n) (w : World) : Calls Try.prog 15 #[.int .i64 n] w fun e w' => e = .returned (.int .i64 (szI6 n)) ∧ w = w' := by
  go_enter Try.func15, Try.ntmps15
  go_wp2_with fail
  refine (psize_any n w hn).mono ?_
  rintro e w1 ⟨rfl, rfl⟩
  go_wp2_with fail
  go_ret
  exact ⟨rfl, rfl⟩
set_option maxRecDepth 100000 in
set_option maxHeartbeats 12800000 in
theorem porderly_1 (gb : Nat) (s0 s1 s2 s3 s4 s5 s6 s7 : Value) (w : World) (HB : w.heap[gb]? = some (.cells #[.int .i64 1, .int .i64 0, .int .i64 1, .int .i64 16, s0, s1, s2, s3, s4, s5, s6, s7, .int .i64 0, .int .i64 0] 46 (0, 0))) (MS : Ms w [s0, s1, s2, s3, s4, s5, s6, s7] mp0) : Calls Try.prog 18 #[.slice (some ⟨gb, 0, none⟩) 1 1] w fun e w' => e = .returned (.bool true) ∧ Below w.heap.size w w' := by
  have HB0 := Lib.hid HB
  have MS0 := Lib.hid MS
  have ON := Lib.hid (fr_one MS)
  clear HB MS
  go_enter Try.func18, Try.ntmps18
  go_wp2_with fail
  go_loopw [3, 9] (fun t3 t9 wr => ∃ i : Nat, i ≤ 1 ∧ t9 = .int .i64 (i : Int) ∧ t3 = .int .i64 (i : Int) ∧ Hid (Below w.heap.size w wr)) (fun _ t _ => 1 - (intOf t).toNat)
  case atStart => exact ⟨0, by omega, rfl, rfl, Lib.hid (Below.refl _ _)⟩
  case round =>
    obtain ⟨i, hi, rfl, rfl, BR⟩ := hrel
    rename World => wl
    by_cases hlt : i < 1
    case neg =>
      obtain rfl : i = 1 := by omega
      clear hlt hi
      go_wp2_with fail
      go_ret
      exact ⟨rfl, BR.out⟩
    obtain rfl : i = 0 := by omega
    clear hlt hi
    have HBl := Lib.hid ((BR.out.block _ (lt_of_some HB0.out)).trans HB0.out)
    have MSl := Lib.hid (ms_below MS0.out BR.out)
    have hz := heap_alloc_new wl (.cells #[.int .i64 0, .int .i64 0, .int .i64 0, .int .i64 0, .slice none 0 0, .slice none 0 0, .slice none 0 0, .slice none 0 0, .slice none 0 0, .slice none 0 0, .slice none 0 0, .slice none 0 0, .int .i64 0, .int .i64 0] 46)
    obtain ⟨x0, x1, x2, x3, x4, x5, x6, x7, x8, x9, x10, x11, x12, x13⟩ := bx14 HBl.out
    go_upto_region 5 with ((with_reducible refine storeG wl.heap.size _ #[.int .i64 1, .int .i64 0, .int .i64 1, .int .i64 16, s0, s1, s2, s3, s4, s5, s6, s7, .int .i64 0, .int .i64 0] ?_ ?_ hz rfl rfl ON.out ?_); exact rfl; exact rfl)
    rw [World.setRow_alloc_new]
    clear x0 x1 x2 x3 x4 x5 x6 x7 x8 x9 x10 x11 x12 x13
    have hb := bel_al wl (.cells #[.int .i64 1, .int .i64 0, .int .i64 1, .int .i64 16, s0, s1, s2, s3, s4, s5, s6, s7, .int .i64 0, .int .i64 0] 46)
    have HX := Lib.hid (heap_alloc_new wl (.cells #[.int .i64 1, .int .i64 0, .int .i64 1, .int .i64 16, s0, s1, s2, s3, s4, s5, s6, s7, .int .i64 0, .int .i64 0] 46))
    have MSx := Lib.hid (ms_below MSl.out hb)
    have BX := Lib.hid (BR.out.trans (hb.mono BR.out.size))
    clear hb hz BR HBl MSl
    generalize wl.alloc (.cells #[.int .i64 1, .int .i64 0, .int .i64 1, .int .i64 16, s0, s1, s2, s3, s4, s5, s6, s7, .int .i64 0, .int .i64 0] 46) = wx at *
    generalize wl.heap.size = gx at *
    obtain ⟨x0, x1, x2, x3, x4, x5, x6, x7, x8, x9, x10, x11, x12, x13⟩ := bx14 HX.out
    go_upto_region 6 with fail
    go_wp2_with fail
    clear x0 x1 x2 x3 x4 x5 x6 x7 x8 x9 x10 x11 x12 x13
    refine (pgvalid_1 (.agg #[.int .i64 1, .int .i64 0, .int .i64 1, .int .i64 16, s0, s1, s2, s3, s4, s5, s6, s7, .int .i64 0, .int .i64 0]) wx ⟨s0, s1, s2, s3, s4, s5, s6, s7, rfl, MSx.out⟩).mono ?_
    rintro e wy ⟨rfl, hb⟩
    have HY := Lib.hid ((hb.block _ (lt_of_some HX.out)).trans HX.out)
    have BY := Lib.hid (BX.out.trans (hb.mono BX.out.size))
    clear hb HX BX MSx
    obtain ⟨x0, x1, x2, x3, x4, x5, x6, x7, x8, x9, x10, x11, x12, x13⟩ := bx14 HY.out
    go_wp2_with fail
    go_roundw
    case rel => exact ⟨1, by omega, rfl, rfl, BY⟩
    case measure => simp [intOf]
set_option maxRecDepth 100000 in
set_option maxHeartbeats 12800000 in
theorem plast_1 (gb : Nat) (s0 s1 s2 s3 s4 s5 s6 s7 : Value) (w : World) (HB : w.heap[gb]? = some (.cells #[.int .i64 1, .int .i64 0, .int .i64 1, .int .i64 16, s0, s1, s2, s3, s4, s5, s6, s7, .int .i64 0, .int .i64 0] 46 (0, 0))) (MS : Ms w [s0, s1, s2, s3, s4, s5, s6, s7] mp0) : Calls Try.prog 14 #[.agg #[.int .i64 0, .int .i64 9000, .bool false, .slice (some ⟨gb, 0, none⟩) 1 1]] w fun e w' => e = .returned (.agg #[.int .i64 1, .int .i64 0, .int .i64 1, .int .i64 16, s0, s1, s2, s3, s4, s5, s6, s7, .int .i64 0, .int .i64 0]) ∧ Below w.heap.size w w' := by
  have ON := Lib.hid (fr_one MS)
  have hb := bel_al w (.cells #[.int .i64 0, .int .i64 9000, .bool false, .slice (some ⟨gb, 0, none⟩) 1 1] 30)
  have hb2 := bel_al (w.alloc (.cells #[.int .i64 0, .int .i64 9000, .bool false, .slice (some ⟨gb, 0, none⟩) 1 1] 30)) (.cells #[.int .i64 0, .int .i64 0, .int .i64 0, .int .i64 0, .slice none 0 0, .slice none 0 0, .slice none 0 0, .slice none 0 0, .slice none 0 0, .slice none 0 0, .slice none 0 0, .slice none 0 0, .int .i64 0, .int .i64 0] 46)
  have HS := Lib.hid (show ((w.alloc (.cells #[.int .i64 0, .int .i64 9000, .bool false, .slice (some ⟨gb, 0, none⟩) 1 1] 30)).alloc (.cells #[.int .i64 0, .int .i64 0, .int .i64 0, .int .i64 0, .slice none 0 0, .slice none 0 0, .slice none 0 0, .slice none 0 0, .slice none 0 0, .slice none 0 0, .slice none 0 0, .slice none 0 0, .int .i64 0, .int .i64 0] 46)).heap[w.heap.size]? = some (.cells #[.int .i64 0, .int .i64 9000, .bool false, .slice (some ⟨gb, 0, none⟩) 1 1] 30 (0, 0)) from (hb2.block _ (lt_of_some (heap_alloc_new w _))).trans (heap_alloc_new w _))
  have HZ := Lib.hid (show ((w.alloc (.cells #[.int .i64 0, .int .i64 9000, .bool false, .slice (some ⟨gb, 0, none⟩) 1 1] 30)).alloc (.cells #[.int .i64 0, .int .i64 0, .int .i64 0, .int .i64 0, .slice none 0 0, .slice none 0 0, .slice none 0 0, .slice none 0 0, .slice none 0 0, .slice none 0 0, .slice none 0 0, .slice none 0 0, .int .i64 0, .int .i64 0] 46)).heap[w.heap.size + 1]? = some (.cells #[.int .i64 0, .int .i64 0, .int .i64 0, .int .i64 0, .slice none 0 0, .slice none 0 0, .slice none 0 0, .slice none 0 0, .slice none 0 0, .slice none 0 0, .slice none 0 0, .slice none 0 0, .int .i64 0, .int .i64 0] 46 (0, 0)) from by have h := heap_alloc_new (w.alloc (.cells #[.int .i64 0, .int .i64 9000, .bool false, .slice (some ⟨gb, 0, none⟩) 1 1] 30)) (.cells #[.int .i64 0, .int .i64 0, .int .i64 0, .int .i64 0, .slice none 0 0, .slice none 0 0, .slice none 0 0, .slice none 0 0, .slice none 0 0, .slice none 0 0, .slice none 0 0, .slice none 0 0, .int .i64 0, .int .i64 0] 46); simpa using h)
  have B0 := Lib.hid (hb.trans (hb2.mono hb.size))
  have HB0 := Lib.hid ((B0.out.block _ (lt_of_some HB)).trans HB)
  clear hb hb2 HB MS
  go_enter Try.func14, Try.ntmps14
  go_upto_region 1 with fail
  generalize (w.alloc (.cells #[.int .i64 0, .int .i64 9000, .bool false, .slice (some ⟨gb, 0, none⟩) 1 1] 30)).alloc (.cells #[.int .i64 0, .int .i64 0, .int .i64 0, .int .i64 0, .slice none 0 0, .slice none 0 0, .slice none 0 0, .slice none 0 0, .slice none 0 0, .slice none 0 0, .slice none 0 0, .slice none 0 0, .int .i64 0, .int .i64 0] 46) = W0 at *
  obtain ⟨x0, x1, x2, x3, x4, x5, x6, x7, x8, x9, x10, x11, x12, x13⟩ := bx14 HB0.out
  obtain ⟨⟨y0, y1, y2, y3⟩, -⟩ := bx4 HS.out
  go_wp2_with ((with_reducible refine storeG (w.heap.size + 1) _ #[.int .i64 1, .int .i64 0, .int .i64 1, .int .i64 16, s0, s1, s2, s3, s4, s5, s6, s7, .int .i64 0, .int .i64 0] ?_ ?_ HZ.out rfl rfl ON.out ?_); exact rfl; exact rfl)
  refine bodyPost_ret (results_cell_row rfl _ _ (w.heap.size + 1) 46 #[.int .i64 1, .int .i64 0, .int .i64 1, .int .i64 16, s0, s1, s2, s3, s4, s5, s6, s7, .int .i64 0, .int .i64 0] (0, 0) _ rfl (setRow_heap _ _ _ _ _ _ HZ.out) Try.underlying46 rfl infoG14) rfl ?_
  exact ⟨rfl, below_setRowM B0.out (Nat.le_succ _) _⟩
set_option maxRecDepth 100000 in
set_option maxHeartbeats 12800000 in
theorem proomy_1 (gb : Nat) (s0 s1 s2 s3 s4 s5 s6 s7 : Value) (w : World) (HB : w.heap[gb]? = some (.cells #[.int .i64 1, .int .i64 0, .int .i64 1, .int .i64 16, s0, s1, s2, s3, s4, s5, s6, s7, .int .i64 0, .int .i64 0] 46 (0, 0))) (MS : Ms w [s0, s1, s2, s3, s4, s5, s6, s7] mp0) : Calls Try.prog 19 #[.agg #[.int .i64 0, .int .i64 9000, .bool false, .slice (some ⟨gb, 0, none⟩) 1 1]] w fun e w' => e = .returned (.bool true) ∧ Below w.heap.size w w' := by
  have ON := Lib.hid (fr_one MS)
  have hb := bel_al w (.cells #[.int .i64 0, .int .i64 9000, .bool false, .slice (some ⟨gb, 0, none⟩) 1 1] 30)
  have HS0 := Lib.hid (heap_alloc_new w (.cells #[.int .i64 0, .int .i64 9000, .bool false, .slice (some ⟨gb, 0, none⟩) 1 1] 30))
  have B0 := Lib.hid hb
  have HB0 := Lib.hid ((hb.block _ (lt_of_some HB)).trans HB)
  have MS0 := Lib.hid (ms_below MS hb)
  clear hb HB MS
  go_enter Try.func19, Try.ntmps19
  go_upto_region 1 with fail
  generalize w.alloc (.cells #[.int .i64 0, .int .i64 9000, .bool false, .slice (some ⟨gb, 0, none⟩) 1 1] 30) = w0 at *
  refine wp_onlyN ?_
  refine wp_region_headsS (fun W' => Below w0.heap.size w0 W') [0, 1, 2, 3] 4 (by kernel_rfl) (fun _ _ _ _ _ h => h.elim) (by kernel_rfl) (by rfl) (by rfl) (Below.refl w0.heap.size w0).drew ?_
  simp only [pickOps, List.filterMap_cons, List.filterMap_nil, List.getElem?_toArray, List.getElem?_cons_zero, List.getElem?_cons_succ]
  refine wpHeads_step (fun K hK => ?_)
  go_simp
  refine ⟨_, fun _ _ => rfl, hK _ ?_⟩
  clear hK K
  refine wpHeads_step (fun K hK => ?_)
  go_simp
  refine ⟨.int .i64 9000, fun w' hw' => by
    obtain ⟨⟨y0, y1, y2, y3⟩, -⟩ := bx4 ((hw'.block _ (lt_of_some HS0.out)).trans HS0.out)
    go_simp, hK _ ?_⟩
  clear hK K
  refine wpHeads_step (fun K hK => ?_)
  go_simp
  refine ⟨_, fun _ _ => rfl, hK _ ?_⟩
  clear hK K
  refine wpHeads_step (fun K hK => ?_)
  go_simp
  refine ⟨.agg #[.int .i64 0, .int .i64 9000, .bool false, .slice (some ⟨gb, 0, none⟩) 1 1], fun w' hw' => by
    obtain ⟨⟨y0, y1, y2, y3⟩, -⟩ := bx4 ((hw'.block _ (lt_of_some HS0.out)).trans HS0.out)
    go_simp, hK _ ?_⟩
  clear hK K
  refine wpHeads_nil ?_
  have SD := Lib.hid (Below.refl w0.heap.size w0).drew
  generalize w0.drew = WD at *
  refine wp_float1 (fuelE := 2) (base := w0.heap.size) 5 4 (.cells #[.int .i64 0, .int .i64 0, .int .i64 0, .int .i64 0, .slice none 0 0, .slice none 0 0, .slice none 0 0, .slice none 0 0, .slice none 0 0, .slice none 0 0, .slice none 0 0, .slice none 0 0, .int .i64 0, .int .i64 0] 46) [4] #[true, true, true, true, true, true, false, false] 2 ⟨_, rfl, rfl, rfl, fun a w => by go_simp⟩ (by kernel_rfl) (fun _ _ _ _ h => h) (fun W h => h.alloc h.size _) (by kernel_rfl) (by kernel_rfl) SD.out.size SD.out ?_
  refine chain_gw 4 rfl (by kernel_rfl) fun W4 hbW hSW K hK => ?_
  go_simp
  go_at_call 14
  refine (plast_1 gb s0 s1 s2 s3 s4 s5 s6 s7 W4 ((hSW.block _ (lt_of_some HB0.out)).trans HB0.out) (ms_below MS0.out hSW)).mono ?_
  rintro e W5 ⟨rfl, hb⟩
  refine hK _ _ (hSW.trans (hb.mono hSW.size)) hb ?_
  clear hK K
  clear hbW hSW hb
  refine chain_nil fun W hb hS g hg hbx => ?_
  have RL := Lib.hid (below_setRowM hS hg #[.int .i64 1, .int .i64 0, .int .i64 1, .int .i64 16, s0, s1, s2, s3, s4, s5, s6, s7, .int .i64 0, .int .i64 0])
  have HBX := Lib.hid hbx
  have HSS := Lib.hid hS
  clear hb hS hbx
  refine held_gw 6 rfl (by kernel_rfl) (by kernel_rfl) fun K hK => ?_
  go_simp
  refine hK _ _ HSS.out ?_
  clear hK K
  refine held_gw 7 rfl (by kernel_rfl) (by kernel_rfl) fun K hK => ?_
  refine wp_store_row 46 _ _ rfl g #[.int .i64 1, .int .i64 0, .int .i64 1, .int .i64 16, s0, s1, s2, s3, s4, s5, s6, s7, .int .i64 0, .int .i64 0] (by rfl) (by rfl) 46 _ HBX.out infoG14 rfl ON.out ?_
  refine hK _ _ RL.out ?_
  clear hK K
  refine wpAnyH_done (by kernel_rfl) ?_ _
  unfold onlyN
  dsimp only
  have HT1 := Lib.hid (setRow_heap W g _ #[.int .i64 1, .int .i64 0, .int .i64 1, .int .i64 16, s0, s1, s2, s3, s4, s5, s6, s7, .int .i64 0, .int .i64 0] _ _ HBX.out)
  have hb := RL.out
  generalize W.setRow g #[.int .i64 1, .int .i64 0, .int .i64 1, .int .i64 16, s0, s1, s2, s3, s4, s5, s6, s7, .int .i64 0, .int .i64 0] = w1 at *
  have HB1 := Lib.hid ((hb.block _ (lt_of_some HB0.out)).trans HB0.out)
  have MS1 := Lib.hid (ms_below MS0.out hb)
  have B1 := Lib.hid (B0.out.trans (hb.mono B0.out.size))
  have HS1 := Lib.hid ((hb.block _ (lt_of_some HS0.out)).trans HS0.out)
  clear hb HB0 MS0 B0 HS0
  clear RL HBX HSS SD hg
  obtain ⟨⟨y0, y1, y2, y3⟩, -⟩ := bx4 HS1.out
  go_wp2_with fail
  clear y0 y1 y2 y3
  go_loopw [15] (fun t15 wr => ∃ i : Nat, i ≤ 1 ∧ t15 = .int .i64 (i : Int) ∧ Hid (Below w1.heap.size w1 wr)) (fun t _ => 1 - (intOf t).toNat)
  case atStart => exact ⟨0, by omega, rfl, Lib.hid (Below.refl _ _)⟩
  case round =>
    obtain ⟨i, hi, rfl, BR⟩ := hrel
    rename World => wl
    by_cases hlt : i < 1
    case neg =>
      obtain rfl : i = 1 := by omega
      clear hlt hi
      have HTl := Lib.hid ((BR.out.block _ (lt_of_some HT1.out)).trans HT1.out)
      have MSl := Lib.hid (ms_below MS1.out BR.out)
      have Bl := Lib.hid (B1.out.trans (BR.out.mono B1.out.size))
      go_upto_region 8 with fail
      refine wp_onlyN ?_
      refine wp_region_headsS (fun W' => Below wl.heap.size wl W') [0, 1, 2, 3, 8] 6 (by kernel_rfl) (fun _ _ _ _ _ h => h.elim) (by kernel_rfl) (by rfl) (by rfl) (Below.refl wl.heap.size wl).drew ?_
      simp only [pickOps, List.filterMap_cons, List.filterMap_nil, List.getElem?_toArray, List.getElem?_cons_zero, List.getElem?_cons_succ]
      refine wpHeads_step (fun K hK => ?_)
      go_simp
      refine ⟨_, fun _ _ => rfl, hK _ ?_⟩
      clear hK K
      refine wpHeads_step (fun K hK => ?_)
      go_simp
      refine ⟨.int .i64 16, fun w' hw' => by
        obtain ⟨x0, x1, x2, x3, x4, x5, x6, x7, x8, x9, x10, x11, x12, x13⟩ := bx14 ((hw'.block _ (lt_of_some HTl.out)).trans HTl.out)
        go_simp, hK _ ?_⟩
      clear hK K
      refine wpHeads_step (fun K hK => ?_)
      go_simp
      refine ⟨_, fun _ _ => rfl, hK _ ?_⟩
      clear hK K
      refine wpHeads_step (fun K hK => ?_)
      go_simp
      refine ⟨.agg #[s0, s1, s2, s3, s4, s5, s6, s7, .int .i64 0, .int .i64 0], fun w' hw' => by
        obtain ⟨x0, x1, x2, x3, x4, x5, x6, x7, x8, x9, x10, x11, x12, x13⟩ := bx14 ((hw'.block _ (lt_of_some HTl.out)).trans HTl.out)
        go_simp, hK _ ?_⟩
      clear hK K
      refine wpHeads_step (fun K hK => ?_)
      go_simp
      refine ⟨_, fun _ _ => rfl, hK _ ?_⟩
      clear hK K
      refine wpHeads_nil ?_
      have SD := Lib.hid (Below.refl wl.heap.size wl).drew
      generalize wl.drew = WD at *
      have PL := Lib.hid (plen11_any (.agg #[s0, s1, s2, s3, s4, s5, s6, s7, .int .i64 0, .int .i64 0]) mp0 WD ⟨s0, s1, s2, s3, s4, s5, s6, s7, rfl, ms_below MSl.out SD.out⟩ few_mp0 (by decide))
      rw [show lenM mp0 = 0 by unfold lenM; rw [if_pos mp0_ok.1]; rfl] at PL
      refine held_gw 4 rfl (by kernel_rfl) (by kernel_rfl) fun K hK => ?_
      go_simp
      go_at_call 24
      refine PL.out.mono ?_
      rintro e V4 ⟨rfl, hb⟩
      refine hK _ _ (SD.out.trans (hb.mono SD.out.size)) ?_
      clear hK K
      have S4 := Lib.hid (SD.out.trans (hb.mono SD.out.size))
      clear hb SD
      refine held_gw 5 rfl (by kernel_rfl) (by kernel_rfl) fun K hK => ?_
      go_simp
      go_at_call 15
      refine (psrec_any 0 (by unfold I64b; decide) V4).mono ?_
      rintro e V5 ⟨rfl, rfl⟩
      refine hK _ _ S4.out ?_
      clear hK K
      refine held_gw 6 rfl (by kernel_rfl) (by kernel_rfl) fun K hK => ?_
      go_simp
      refine hK _ _ S4.out ?_
      clear hK K
      refine held_gw 7 rfl (by kernel_rfl) (by kernel_rfl) fun K hK => ?_
      go_simp
      refine hK _ _ S4.out ?_
      clear hK K
      refine held_gw 9 rfl (by kernel_rfl) (by kernel_rfl) fun K hK => ?_
      go_simp
      refine hK _ _ S4.out ?_
      clear hK K
      refine held_gw 10 rfl (by kernel_rfl) (by kernel_rfl) fun K hK => ?_
      go_simp
      refine hK _ _ S4.out ?_
      clear hK K
      refine wpAnyH_done (by kernel_rfl) ?_ _
      unfold onlyN
      dsimp only
      have S9 := Lib.hid (Bl.out.trans (S4.out.mono Bl.out.size))
      go_wp2_with fail
      go_ret
      exact ⟨rfl, S9.out⟩
    obtain rfl : i = 0 := by omega
    clear hlt hi
    have HBl := Lib.hid ((BR.out.block _ (lt_of_some HB1.out)).trans HB1.out)
    have hz := heap_alloc_new wl (.cells #[.int .i64 0, .int .i64 0, .int .i64 0, .int .i64 0, .slice none 0 0, .slice none 0 0, .slice none 0 0, .slice none 0 0, .slice none 0 0, .slice none 0 0, .slice none 0 0, .slice none 0 0, .int .i64 0, .int .i64 0] 46)
    obtain ⟨x0, x1, x2, x3, x4, x5, x6, x7, x8, x9, x10, x11, x12, x13⟩ := bx14 HBl.out
    go_upto_region 5 with ((with_reducible refine storeG wl.heap.size _ #[.int .i64 1, .int .i64 0, .int .i64 1, .int .i64 16, s0, s1, s2, s3, s4, s5, s6, s7, .int .i64 0, .int .i64 0] ?_ ?_ hz rfl rfl ON.out ?_); exact rfl; exact rfl)
    rw [World.setRow_alloc_new]
    clear x0 x1 x2 x3 x4 x5 x6 x7 x8 x9 x10 x11 x12 x13
    have hb := bel_al wl (.cells #[.int .i64 1, .int .i64 0, .int .i64 1, .int .i64 16, s0, s1, s2, s3, s4, s5, s6, s7, .int .i64 0, .int .i64 0] 46)
    have HX := Lib.hid (heap_alloc_new wl (.cells #[.int .i64 1, .int .i64 0, .int .i64 1, .int .i64 16, s0, s1, s2, s3, s4, s5, s6, s7, .int .i64 0, .int .i64 0] 46))
    have BX := Lib.hid (BR.out.trans (hb.mono BR.out.size))
    clear hb hz BR HBl
    generalize wl.alloc (.cells #[.int .i64 1, .int .i64 0, .int .i64 1, .int .i64 16, s0, s1, s2, s3, s4, s5, s6, s7, .int .i64 0, .int .i64 0] 46) = wx at *
    obtain ⟨x0, x1, x2, x3, x4, x5, x6, x7, x8, x9, x10, x11, x12, x13⟩ := bx14 HX.out
    go_wp2_with fail
    go_roundw
    case rel => exact ⟨1, by omega, rfl, BX⟩
    case measure => simp [intOf]
set_option maxRecDepth 100000 in
set_option maxHeartbeats 12800000 in
theorem psvalid_1 (gb : Nat) (s0 s1 s2 s3 s4 s5 s6 s7 : Value) (w : World) (HB : w.heap[gb]? = some (.cells #[.int .i64 1, .int .i64 0, .int .i64 1, .int .i64 16, s0, s1, s2, s3, s4, s5, s6, s7, .int .i64 0, .int .i64 0] 46 (0, 0))) (MS : Ms w [s0, s1, s2, s3, s4, s5, s6, s7] mp0) : Calls Try.prog 11 #[.agg #[.int .i64 0, .int .i64 9000, .bool false, .slice (some ⟨gb, 0, none⟩) 1 1]] w fun e w' => e = .returned (.bool true) ∧ Below w.heap.size w w' := by
  have hb := bel_al w (.cells #[.int .i64 0, .int .i64 9000, .bool false, .slice (some ⟨gb, 0, none⟩) 1 1] 30)
  have HS0 := Lib.hid (heap_alloc_new w (.cells #[.int .i64 0, .int .i64 9000, .bool false, .slice (some ⟨gb, 0, none⟩) 1 1] 30))
  have B0 := Lib.hid hb
  have HB0 := Lib.hid ((hb.block _ (lt_of_some HB)).trans HB)
  have MS0 := Lib.hid (ms_below MS hb)
  clear hb HB MS
  go_enter Try.func11, Try.ntmps11
  go_upto_region 1 with fail
  generalize w.alloc (.cells #[.int .i64 0, .int .i64 9000, .bool false, .slice (some ⟨gb, 0, none⟩) 1 1] 30) = w0 at *
  refine wp_onlyN ?_
  refine wp_region_headsS (fun W' => Below w0.heap.size w0 W') [0, 1, 2, 3, 4, 5, 6, 7, 8, 9, 10] 31 (by kernel_rfl) (fun _ _ _ _ _ h => h.elim) (by kernel_rfl) (by rfl) (by rfl) (Below.refl w0.heap.size w0).drew ?_
  simp only [pickOps, List.filterMap_cons, List.filterMap_nil, List.getElem?_toArray, List.getElem?_cons_zero, List.getElem?_cons_succ]
  refine wpHeads_step (fun K hK => ?_)
  go_simp
  refine ⟨_, fun _ _ => rfl, hK _ ?_⟩
  clear hK K
  refine wpHeads_step (fun K hK => ?_)
  go_simp
  refine ⟨.int .i64 0, fun w' hw' => by
    obtain ⟨⟨y0, y1, y2, y3⟩, -⟩ := bx4 ((hw'.block _ (lt_of_some HS0.out)).trans HS0.out)
    go_simp, hK _ ?_⟩
  clear hK K
  refine wpHeads_step (fun K hK => ?_)
  go_simp
  refine ⟨_, fun _ _ => rfl, hK _ ?_⟩
  clear hK K
  refine wpHeads_step (fun K hK => ?_)
  go_simp
  refine ⟨_, fun _ _ => rfl, hK _ ?_⟩
  clear hK K
  refine wpHeads_step (fun K hK => ?_)
  go_simp
  refine ⟨_, fun _ _ => rfl, hK _ ?_⟩
  clear hK K
  refine wpHeads_step (fun K hK => ?_)
  go_simp
  refine ⟨.int .i64 0, fun w' hw' => by
    obtain ⟨⟨y0, y1, y2, y3⟩, -⟩ := bx4 ((hw'.block _ (lt_of_some HS0.out)).trans HS0.out)
    go_simp, hK _ ?_⟩
  clear hK K
  refine wpHeads_step (fun K hK => ?_)
  go_simp
  refine ⟨_, fun _ _ => rfl, hK _ ?_⟩
  clear hK K
  refine wpHeads_step (fun K hK => ?_)
  go_simp
  refine ⟨_, fun _ _ => rfl, hK _ ?_⟩
  clear hK K
  refine wpHeads_step (fun K hK => ?_)
  go_simp
  refine ⟨_, fun _ _ => rfl, hK _ ?_⟩
  clear hK K
  refine wpHeads_step (fun K hK => ?_)
  go_simp
  refine ⟨_, fun _ _ => rfl, hK _ ?_⟩
  clear hK K
  refine wpHeads_step (fun K hK => ?_)
  go_simp
  refine ⟨.int .i64 9000, fun w' hw' => by
    obtain ⟨⟨y0, y1, y2, y3⟩, -⟩ := bx4 ((hw'.block _ (lt_of_some HS0.out)).trans HS0.out)
    go_simp, hK _ ?_⟩
  clear hK K
  refine wpHeads_nil ?_
  have SD := Lib.hid (Below.refl w0.heap.size w0).drew
  generalize w0.drew = WD at *
  refine held_gw 11 rfl (by kernel_rfl) (by kernel_rfl) fun K hK => ?_
  go_simp
  go_at_call 15
  refine (psrec_any 4096 (by unfold I64b; decide) WD).mono ?_
  rintro e V5 ⟨rfl, rfl⟩
  refine hK _ _ SD.out ?_
  clear hK K
  refine held_gw 12 rfl (by kernel_rfl) (by kernel_rfl) fun K hK => ?_
  go_simp
  refine hK _ _ SD.out ?_
  clear hK K
  refine held_gw 13 rfl (by kernel_rfl) (by kernel_rfl) fun K hK => ?_
  go_simp
  refine hK _ _ SD.out ?_
  clear hK K
  refine held_gw 14 rfl (by kernel_rfl) (by kernel_rfl) fun K hK => ?_
  go_simp
  refine hK _ _ SD.out ?_
  clear hK K
  refine held_gw 15 rfl (by kernel_rfl) (by kernel_rfl) fun K hK => ?_
  go_simp
  refine hK _ _ SD.out ?_
  clear hK K
  obtain ⟨⟨y0, y1, y2, y3⟩, -⟩ := bx4 ((SD.out.block _ (lt_of_some HS0.out)).trans HS0.out)
  refine held_gw 16 rfl (by kernel_rfl) (by kernel_rfl) fun K hK => ?_
  go_simp
  refine hK _ _ SD.out ?_
  clear hK K
  refine held_gw 17 rfl (by kernel_rfl) (by kernel_rfl) fun K hK => ?_
  go_simp
  refine hK _ _ SD.out ?_
  clear hK K
  refine held_gw 18 rfl (by kernel_rfl) (by kernel_rfl) fun K hK => ?_
  go_simp
  refine hK _ _ SD.out ?_
  clear hK K
  refine held_gw 19 rfl (by kernel_rfl) (by kernel_rfl) fun K hK => ?_
  go_simp
  refine hK _ _ SD.out ?_
  clear hK K
  refine held_gw 20 rfl (by kernel_rfl) (by kernel_rfl) fun K hK => ?_
  go_simp
  refine hK _ _ SD.out ?_
  clear hK K
  refine held_gw 21 rfl (by kernel_rfl) (by kernel_rfl) fun K hK => ?_
  go_simp
  refine hK _ _ SD.out ?_
  clear hK K
  refine held_gw 22 rfl (by kernel_rfl) (by kernel_rfl) fun K hK => ?_
  go_simp
  refine hK _ _ SD.out ?_
  clear hK K
  refine held_gw 23 rfl (by kernel_rfl) (by kernel_rfl) fun K hK => ?_
  go_simp
  refine hK _ _ SD.out ?_
  clear hK K
  refine held_gw 24 rfl (by kernel_rfl) (by kernel_rfl) fun K hK => ?_
  go_simp
  refine hK _ _ SD.out ?_
  clear hK K
  refine held_gw 25 rfl (by kernel_rfl) (by kernel_rfl) fun K hK => ?_
  go_simp
  refine hK _ _ SD.out ?_
  clear hK K
  refine held_gw 26 rfl (by kernel_rfl) (by kernel_rfl) fun K hK => ?_
  go_simp
  refine hK _ _ SD.out ?_
  clear hK K
  refine held_gw 27 rfl (by kernel_rfl) (by kernel_rfl) fun K hK => ?_
  go_simp
  refine hK _ _ SD.out ?_
  clear hK K
  refine held_gw 28 rfl (by kernel_rfl) (by kernel_rfl) fun K hK => ?_
  go_simp
  refine hK _ _ SD.out ?_
  clear hK K
  refine held_gw 29 rfl (by kernel_rfl) (by kernel_rfl) fun K hK => ?_
  go_simp
  refine hK _ _ SD.out ?_
  clear hK K
  refine held_gw 30 rfl (by kernel_rfl) (by kernel_rfl) fun K hK => ?_
  go_simp
  refine hK _ _ SD.out ?_
  clear hK K
  refine held_gw 31 rfl (by kernel_rfl) (by kernel_rfl) fun K hK => ?_
  go_simp
  refine hK _ _ SD.out ?_
  clear hK K
  refine held_gw 32 rfl (by kernel_rfl) (by kernel_rfl) fun K hK => ?_
  go_simp
  refine hK _ _ SD.out ?_
  clear hK K
  refine held_gw 33 rfl (by kernel_rfl) (by kernel_rfl) fun K hK => ?_
  go_simp
  refine hK _ _ SD.out ?_
  clear hK K
  refine held_gw 34 rfl (by kernel_rfl) (by kernel_rfl) fun K hK => ?_
  go_simp
  refine hK _ _ SD.out ?_
  clear hK K
  clear y0 y1 y2 y3
  refine held_gw 35 rfl (by kernel_rfl) (by kernel_rfl) fun K hK => ?_
  go_simp
  go_at_call 18
  refine (porderly_1 gb s0 s1 s2 s3 s4 s5 s6 s7 WD ((SD.out.block _ (lt_of_some HB0.out)).trans HB0.out) (ms_below MS0.out SD.out)).mono ?_
  rintro e V6 ⟨rfl, hb⟩
  refine hK _ _ (SD.out.trans (hb.mono SD.out.size)) ?_
  clear hK K
  have S6 := Lib.hid (SD.out.trans (hb.mono SD.out.size))
  clear hb SD
  refine held_gw 36 rfl (by kernel_rfl) (by kernel_rfl) fun K hK => ?_
  go_simp
  refine hK _ _ S6.out ?_
  clear hK K
  refine held_gw 37 rfl (by kernel_rfl) (by kernel_rfl) fun K hK => ?_
  go_simp
  refine hK _ _ S6.out ?_
  clear hK K
  obtain ⟨⟨y0, y1, y2, y3⟩, -⟩ := bx4 ((S6.out.block _ (lt_of_some HS0.out)).trans HS0.out)
  refine held_gw 38 rfl (by kernel_rfl) (by kernel_rfl) fun K hK => ?_
  go_simp
  refine hK _ _ S6.out ?_
  clear hK K
  clear y0 y1 y2 y3
  refine held_gw 39 rfl (by kernel_rfl) (by kernel_rfl) fun K hK => ?_
  go_simp
  go_at_call 19
  refine (proomy_1 gb s0 s1 s2 s3 s4 s5 s6 s7 V6 ((S6.out.block _ (lt_of_some HB0.out)).trans HB0.out) (ms_below MS0.out S6.out)).mono ?_
  rintro e V7 ⟨rfl, hb⟩
  refine hK _ _ (S6.out.trans (hb.mono S6.out.size)) ?_
  clear hK K
  have S7 := Lib.hid (S6.out.trans (hb.mono S6.out.size))
  clear hb S6
  refine held_gw 40 rfl (by kernel_rfl) (by kernel_rfl) fun K hK => ?_
  go_simp
  refine hK _ _ S7.out ?_
  clear hK K
  refine held_gw 41 rfl (by kernel_rfl) (by kernel_rfl) fun K hK => ?_
  go_simp
  refine hK _ _ S7.out ?_
  clear hK K
  refine wpAnyH_done (by kernel_rfl) ?_ _
  unfold onlyN
  dsimp only
  have S9 := Lib.hid (B0.out.trans (S7.out.mono B0.out.size))
  go_wp2
  go_ret
  exact ⟨rfl, S9.out⟩
end Go.Proofs.Ytempgcnpfjhacaa.Gf
