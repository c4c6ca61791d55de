/- What is proved here: the walk of SlotValid. -/
import Derived.Test.YtgbnclepgjcakaaGreatGs29
namespace Go.Proofs.YtgbnclepgjcakaaGreat.Gf
open Go Go.Joins Go.ChangeShapes Go.WideShapes Go.ChangeAt Go.RowKit Go.Deep Go.Proofs.YtgbnclepgjcakaaGreat.By Go.Proofs.YtgbnclepgjcakaaGreat.Qt
set_option maxRecDepth 100000
set_option maxHeartbeats 204800000

theorem slotvalid_walk (vr va : Value) (sr : Slt) (na : Nat) (key : Nat) (nn id lmt : Int) (w : World) (hr : Sv w vr sr) (ha : Al w va na) (hk : key < 18446744073709551616) (hn : J64 nn) (hi : J64 id) (hl : J64 lmt) : Calls Tryz.prog 3 #[vr, va, .int .u64 (key : Int), .int .i64 nn, .int .i64 id, .int .i64 lmt] w fun e w' => e = .returned (.bool true) ∧ Below w.heap.size w w' := by
 obtain ⟨id0, lim0, ro0, L0⟩ := sr
 obtain ⟨gv0, rfl, hg0, hj0⟩ := hr
 obtain ⟨a0, c0, rfl, -⟩ := gl_form hg0
 simp only at hg0 hj0 ⊢
 obtain ⟨n0, hn0⟩ : ∃ q, q = L0.length := ⟨_, rfl⟩
 rw [← hn0] at hg0 ⊢
 have HAL := Lh ha
 obtain ⟨aa, ca, rfl, -⟩ := ha
 have hb := bel_al w (.cells #[.int .i64 id0, .int .i64 lim0, .bool ro0, .slice a0 n0 c0] 24)
 have HR := Lh (heap_alloc_new w (.cells #[.int .i64 id0, .int .i64 lim0, .bool ro0, .slice a0 n0 c0] 24))
 have BW0 := Lh hb
 have HG0 := Lh (gl_below hg0 hb)
 have HJ0 := Lh hj0
 have HN0 := Lh hn0
 have HKY := Lh hk
 have HNN := Lh hn
 have HID := Lh hi
 have HLM := Lh hl
 clear hb hg0 hj0 hn0 hk hn hi hl
 go_enter Tryz.func3, Tryz.ntmps3
 go_upto_region 1 with fail
 generalize w.alloc (.cells #[.int .i64 id0, .int .i64 lim0, .bool ro0, .slice a0 n0 c0] 24) = W0 at *
 obtain ⟨⟨y0, y1, y2, y3⟩, -⟩ := bx4 HR.out
 go_wp2_with fail
 clear y0 y1 y2 y3
 refine (light13_any (.agg #[.int .i64 id0, .int .i64 lim0, .bool ro0, .slice a0 n0 c0]) ⟨id0, lim0, ro0, L0⟩ W0 ⟨.slice a0 n0 c0, rfl, HG0.out, HJ0.out⟩).mono ?_
 rintro e W1 ⟨⟨q, rfl, hq⟩, hb⟩
 have BW1 := Lh (BW0.out.trans (hb.mono BW0.out.size))
 have HR1 := Lh ((hb.block _ (lt_of_some HR.out)).trans HR.out)
 have HG01 := Lh (gl_below HG0.out hb)
 have HAL1 := Lh (al_below HAL.out BW1.out)
 have HQ := Lh hq
 clear hb BW0 HR HG0 hq
 cases q
 case false =>
  go_wp2_with fail
  refine (awake13_any W1).mono ?_
  rintro e W2 ⟨rfl, hb⟩
  have B2 := Lh (BW1.out.trans (hb.mono BW1.out.size))
  clear hb
  go_wp2_with fail
  go_ret
  exact ⟨rfl, B2.out⟩
 have HL0 := Lh ((HQ.out rfl).1)
 clear HQ
 go_upto_region 3 with fail
 refine wp_onlyN ?_
 refine wp_region_headsS (fun W' => Below W1.heap.size W1 W') [0, 1, 5] 3 (by kernel_rfl) (fun _ _ _ _ _ h => h.elim) (by kernel_rfl) (by rfl) (by rfl) (Below.refl W1.heap.size W1).drew ?_
 simp only [pickOps, List.filterMap_cons, List.filterMap_nil, List.getElem?_toArray, List.getElem?_cons_zero, List.getElem?_cons_succ]
 refine wpHeads_step (fun K hK => ?_)
 go_simp
 refine ⟨.agg #[.int .i64 id0, .int .i64 lim0, .bool ro0, .slice a0 n0 c0], fun w' hw' => by
  obtain ⟨⟨y0, y1, y2, y3⟩, -⟩ := bx4 ((hw'.block _ (lt_of_some HR1.out)).trans HR1.out)
  go_simp, hK _ ?_⟩
 clear hK K
 refine wpHeads_step (fun K hK => ?_)
 go_simp
 refine ⟨_, fun _ _ => rfl, hK _ ?_⟩
 clear hK K
 refine wpHeads_step (fun K hK => ?_)
 go_simp
 refine ⟨_, fun _ _ => rfl, hK _ ?_⟩
 clear hK K
 refine wpHeads_nil ?_
 have S0 := Lh (Below.refl W1.heap.size W1).drew
 generalize W1.drew = D0 at *
 refine gwq 2 rfl (by kernel_rfl) fun K hK => ?_
 go_simp
 go_at_call 8
 refine (made_any (.slice aa na ca) na D0 (al_below HAL1.out S0.out)).mono ?_
 rintro e D1 ⟨⟨vm, sm, rfl, hsm, hokm, hlm⟩, hb⟩
 obtain ⟨id1, lim1, ro1, L1⟩ := sm
 obtain ⟨gv1, rfl, hg1, hj1⟩ := hsm
 obtain ⟨a1, c1, rfl, -⟩ := gl_form hg1
 simp only at hg1 hj1 ⊢
 obtain ⟨n1, hn1⟩ : ∃ q, q = L1.length := ⟨_, rfl⟩
 rw [← hn1] at hg1 ⊢
 have HN1 := Lh hn1
 have HG1 := Lh hg1
 have HJ1 := Lh hj1
 have HL1 := Lh hlm
 have S1 := Lh (S0.out.trans (hb.mono S0.out.size))
 refine hK _ _ S1.out ?_
 clear hK K hb S0 hg1 hj1 hlm hokm hn1
 refine gwq 3 rfl (by kernel_rfl) fun K hK => ?_
 go_simp
 have hb := bel_al D1 (.cells #[.int .i64 id0, .int .i64 lim0, .bool ro0, .slice a0 n0 c0, .int .i64 id1, .int .i64 lim1, .bool ro1, .slice a1 n1 c1] 24)
 have hbk := heap_alloc_new D1 (.cells #[.int .i64 id0, .int .i64 lim0, .bool ro0, .slice a0 n0 c0, .int .i64 id1, .int .i64 lim1, .bool ro1, .slice a1 n1 c1] 24)
 obtain ⟨D2, hX⟩ : ∃ Y, Y = D1.alloc (.cells #[.int .i64 id0, .int .i64 lim0, .bool ro0, .slice a0 n0 c0, .int .i64 id1, .int .i64 lim1, .bool ro1, .slice a1 n1 c1] 24) := ⟨_, rfl⟩
 rw [← hX] at hb hbk ⊢
 clear hX
 have S2 := Lh (S1.out.trans (hb.mono S1.out.size))
 have HBK := Lh hbk
 have HG2 := Lh (gl_below HG1.out hb)
 refine hK _ _ S2.out ?_
 clear hK K hb hbk S1 HG1
 generalize D1.heap.size = g at *
 refine gwq 4 rfl (by kernel_rfl) fun K hK => ?_
 go_simp
 refine hK _ _ S2.out ?_
 clear hK K
 refine wpAnyH_done (by kernel_rfl) ?_ _
 unfold onlyN
 dsimp only
 have HALL := Lh (show ∀ i, i < 2 → ∃ (id lim : Int) (ro : Bool) (a : Option Addr) (n c : Nat) (L : List Ge), n = L.length ∧ Gl D2 (.slice a n c) L ∧ (J64 id ∧ J64 lim) ∧ n ≤ 10000 ∧ (∀ x ∈ L, LGe x) ∧ D2.cell? ⟨g, i * 4, none⟩ = some (.int .i64 id) ∧ D2.cell? ⟨g, i * 4 + 1, none⟩ = some (.int .i64 lim) ∧ D2.cell? ⟨g, i * 4 + 2, none⟩ = some (.bool ro) ∧ D2.cell? ⟨g, i * 4 + 3, none⟩ = some (.slice a n c) from fun i hi => by
  obtain rfl | rfl : i = 0 ∨ i = 1 := by omega
  ·exact ⟨id0, lim0, ro0, a0, n0, c0, L0, HN0.out, gl_below HG01.out S2.out, HJ0.out, by have := HL0.out.1; have := HN0.out; simp only at *; omega, HL0.out.2, cell_of_row _ g 0 _ _ _ HBK.out, cell_of_row _ g 1 _ _ _ HBK.out, cell_of_row _ g 2 _ _ _ HBK.out, cell_of_row _ g 3 _ _ _ HBK.out⟩
  ·exact ⟨id1, lim1, ro1, a1, n1, c1, L1, HN1.out, HG2.out, HJ1.out, by have := HL1.out.1; have := HN1.out; simp only at *; omega, HL1.out.2, cell_of_row _ g 4 _ _ _ HBK.out, cell_of_row _ g 5 _ _ _ HBK.out, cell_of_row _ g 6 _ _ _ HBK.out, cell_of_row _ g 7 _ _ _ HBK.out⟩)
 have BW2 := Lh (BW1.out.trans (S2.out.mono BW1.out.size))
 clear HBK HG2 HG01 HJ0 HJ1 HL0 HL1 HN0 HN1 HR1 S2
 go_wp2_with fail
 go_loopw [37] (fun t wr => ∃ i : Nat, i ≤ 2 ∧ t = .int .i64 (i : Int) ∧ Below D2.heap.size D2 wr) (fun t _ => 2 - (intOf t).toNat)
 case atStart => exact ⟨0, Nat.zero_le _, rfl, Below.refl _ _⟩
 case round =>
  obtain ⟨i, hi, rfl, hB⟩ := hrel
  rename World => wl
  have BB := Lh hB
  clear hB
  by_cases hlt : i < 2
  case neg =>
   obtain rfl : i = 2 := by omega
   rw [show ((2 : Nat) : Int) = 2 from rfl]
   have d1 : decide ((2 : Int) < 2) = false := by decide
   have BW3 := Lh (BW2.out.trans (BB.out.mono BW2.out.size))
   clear hi hlt BB BW2 HALL
   go_upto_region 19 with fail
   clear d1
   have hb := bel_al wl (.cells #[.int .i64 lmt, .int .i64 4136, .int .i64 4140, .int .i64 8000, .int .i64 262144, .int .i64 262145] 2)
   have HLB := Lh (heap_alloc_new wl (.cells #[.int .i64 lmt, .int .i64 4136, .int .i64 4140, .int .i64 8000, .int .i64 262144, .int .i64 262145] 2))
   have BW4 := Lh (BW3.out.trans (hb.mono BW3.out.size))
   clear hb BW3
   generalize wl.alloc (.cells #[.int .i64 lmt, .int .i64 4136, .int .i64 4140, .int .i64 8000, .int .i64 262144, .int .i64 262145] 2) = wm at *
   generalize wl.heap.size = gl at *
   have HLI := Lh (show ∀ i, i < 6 → ∃ l, J64 l ∧ wm.cell? ⟨gl, i, none⟩ = some (.int .i64 l) from fun i hi => by
    obtain rfl | rfl | rfl | rfl | rfl | rfl : i = 0 ∨ i = 1 ∨ i = 2 ∨ i = 3 ∨ i = 4 ∨ i = 5 := by omega
    ·exact ⟨lmt, HLM.out, cell_of_row _ gl 0 _ _ _ HLB.out⟩
    ·exact ⟨4136, by unfold J64; decide, cell_of_row _ gl 1 _ _ _ HLB.out⟩
    ·exact ⟨4140, by unfold J64; decide, cell_of_row _ gl 2 _ _ _ HLB.out⟩
    ·exact ⟨8000, by unfold J64; decide, cell_of_row _ gl 3 _ _ _ HLB.out⟩
    ·exact ⟨262144, by unfold J64; decide, cell_of_row _ gl 4 _ _ _ HLB.out⟩
    ·exact ⟨262145, by unfold J64; decide, cell_of_row _ gl 5 _ _ _ HLB.out⟩)
   clear HLB
   go_loopw [122] (fun t wr => ∃ i : Nat, i ≤ 6 ∧ t = .int .i64 (i : Int) ∧ Below wm.heap.size wm wr) (fun t _ => 6 - (intOf t).toNat)
   case atStart => exact ⟨0, Nat.zero_le _, rfl, Below.refl _ _⟩
   case round =>
    obtain ⟨i, hi, rfl, hB⟩ := hrel
    clear wl
    rename World => wl
    have BB := Lh hB
    clear hB
    by_cases hlt : i < 6
    case neg =>
     obtain rfl : i = 6 := by omega
     have BW := Lh (BW4.out.trans (BB.out.mono BW4.out.size))
     clear hi hlt BB BW4 HLI
     rw [show ((6 : Nat) : Int) = 6 from rfl]
     have d1 : decide ((6 : Int) < 6) = false := by decide
     go_wp2_with fail
     refine (proute_z key nn HKY.out HNN.out wl).mono ?_
     rintro e W1 ⟨rfl, rfl⟩
     go_wp2_with fail
     refine (rroute_z key nn HKY.out HNN.out wl).mono ?_
     rintro e W1 ⟨rfl, rfl⟩
     generalize rtZ key nn = r1 at *
     have q1 : decide (r1 = r1) = true := decide_eq_true rfl
     have q2 : (r1 == r1) = true := by simp
     go_wp2_with fail
     clear q1 q2
     refine (proute_z key 4 HKY.out (by unfold J64; decide) wl).mono ?_
     rintro e W1 ⟨rfl, rfl⟩
     go_wp2_with fail
     refine (rroute_z key 4 HKY.out (by unfold J64; decide) wl).mono ?_
     rintro e W1 ⟨rfl, rfl⟩
     generalize rtZ key 4 = r1 at *
     have q1 : decide (r1 = r1) = true := decide_eq_true rfl
     have q2 : (r1 == r1) = true := by simp
     go_wp2_with fail
     clear q1 q2
     refine (made_any (.slice aa na ca) na wl (al_below HAL.out BW.out)).mono ?_
     rintro e W1 ⟨⟨vm, sm, rfl, hsm, hokm, hlm⟩, hb⟩
     have B1 := Lh (BW.out.trans (hb.mono BW.out.size))
     clear hb
     go_wp2_with fail
     refine (given_any vm sm W1 hsm hlm.1).mono ?_
     rintro e W2 ⟨⟨vg, rfl, hsg⟩, hb⟩
     have B2 := Lh (B1.out.trans (hb.mono B1.out.size))
     clear hb
     go_wp2_with fail
     refine (psvalid_any vg sm W2 hsg hlm).mono ?_
     rintro e W3 ⟨rfl, hb⟩
     rw [okSb_t hokm]
     have B3 := Lh (B2.out.trans (hb.mono B2.out.size))
     clear hb
     go_wp2_with fail
     refine (awake13_any W3).mono ?_
     rintro e W4 ⟨rfl, hb⟩
     have B4 := Lh (B3.out.trans (hb.mono B3.out.size))
     clear hb
     go_wp2_with fail
     go_ret
     exact ⟨rfl, B4.out⟩
    have d1 : decide ((i : Int) < 6) = true := decide_eq_true (by omega)
    have d2 : decide (i < 6) = true := decide_eq_true hlt
    have HI := Lh (show i + 1 ≤ 6 by omega)
    have p0 : (0 : Int) ≤ (i : Int) := by omega
    have p1 : (i : Int) < 6 := by omega
    obtain ⟨l, hl, q0⟩ := HLI.out i hlt
    have HL := Lh hl
    have x0 := (BB.out.cell (p := ⟨gl, i, none⟩) (block_lt_of_cell q0)).trans q0
    clear hl q0 hlt hi
    go_wp2_with fail
    clear x0 p0 p1 d1 d2
    refine (psnew_any id l HID.out HL.out wl).mono ?_
    rintro e V1 ⟨⟨vs, rfl, hsv⟩, hb⟩
    obtain ⟨X, hX⟩ : ∃ q, q = (if okSb ⟨id, l, false, [frG 1]⟩ = true then (⟨id, l, false, [frG 1]⟩ : Slt) else ⟨0, 0, false, []⟩) := ⟨_, rfl⟩
    obtain ⟨cc, hcc⟩ : ∃ q : Int, q = (if okSb ⟨id, l, false, [frG 1]⟩ = true then 0 else 1) := ⟨_, rfl⟩
    rw [← hX] at hsv
    rw [← hcc]
    have HX := Lh hX
    have HCC := Lh hcc
    have HXL := Lh (show X.gens.length ≤ 10000 from by
     rw [hX]
     split
     ·show (1 : Nat) ≤ 10000; decide
     ·show (0 : Nat) ≤ 10000; decide)
    obtain ⟨gv, rfl, hg, hj⟩ := hsv
    obtain ⟨a1, c1, rfl, -⟩ := gl_form hg
    obtain ⟨n1, hn1⟩ : ∃ q, q = X.gens.length := ⟨_, rfl⟩
    rw [← hn1] at hg ⊢
    have HN1 := Lh hn1
    have HJX := Lh hj
    have GL1a := Lh hg
    have BXa := Lh (BB.out.trans (hb.mono BB.out.size))
    have hz := heap_alloc_new V1 (.cells #[.int .i64 0, .int .i64 0, .bool false, .slice none 0 0] 33)
    clear hb hX hcc hn1 hg hj BB
    go_upto_region 22 with ((with_reducible refine storeS V1.heap.size _ #[.int .i64 X.id, .int .i64 X.limit, .bool X.ro, .slice a1 n1 c1] ?_ ?_ hz rfl rfl lv_one ?_); exact rfl; exact rfl)
    rw [World.setRow_alloc_new]
    have hb := bel_al V1 (.cells #[.int .i64 X.id, .int .i64 X.limit, .bool X.ro, .slice a1 n1 c1] 33)
    have HB1b := Lh (heap_alloc_new V1 (.cells #[.int .i64 X.id, .int .i64 X.limit, .bool X.ro, .slice a1 n1 c1] 33))
    have GL1b := Lh (gl_below GL1a.out hb)
    have BXb := Lh (BXa.out.trans (hb.mono BXa.out.size))
    clear hb hz GL1a BXa
    generalize V1.alloc (.cells #[.int .i64 X.id, .int .i64 X.limit, .bool X.ro, .slice a1 n1 c1] 33) = V2 at *
    generalize V1.heap.size = gs1 at *
    go_wp2_with fail
    refine (rsnew_any id l HID.out HL.out V2).mono ?_
    rintro e V3 ⟨⟨vs, rfl, hsv⟩, hb⟩
    rw [← HX.out] at hsv
    rw [← HCC.out]
    obtain ⟨gv, rfl, hg, hj⟩ := hsv
    obtain ⟨a2, c2, rfl, -⟩ := gl_form hg
    rw [← HN1.out] at hg ⊢
    have GL2c := Lh hg
    have HB1c := Lh ((hb.block _ (lt_of_some HB1b.out)).trans HB1b.out)
    have GL1c := Lh (gl_below GL1b.out hb)
    have BXc := Lh (BXb.out.trans (hb.mono BXb.out.size))
    have hz := heap_alloc_new V3 (.cells #[.int .i64 0, .int .i64 0, .bool false, .slice none 0 0] 24)
    clear hb hg hj HB1b GL1b BXb
    go_upto_region 23 with ((with_reducible refine storeRS V3.heap.size _ #[.int .i64 X.id, .int .i64 X.limit, .bool X.ro, .slice a2 n1 c2] ?_ ?_ hz rfl rfl lv_one ?_); exact rfl; exact rfl)
    rw [World.setRow_alloc_new]
    have hb := bel_al V3 (.cells #[.int .i64 X.id, .int .i64 X.limit, .bool X.ro, .slice a2 n1 c2] 24)
    have HB2 := Lh (heap_alloc_new V3 (.cells #[.int .i64 X.id, .int .i64 X.limit, .bool X.ro, .slice a2 n1 c2] 24))
    have HB1 := Lh ((hb.block _ (lt_of_some HB1c.out)).trans HB1c.out)
    have GL1 := Lh (gl_below GL1c.out hb)
    have GL2 := Lh (gl_below GL2c.out hb)
    have BX := Lh (BXc.out.trans (hb.mono BXc.out.size))
    clear hb hz HB1c GL1c GL2c BXc
    generalize V3.alloc (.cells #[.int .i64 X.id, .int .i64 X.limit, .bool X.ro, .slice a2 n1 c2] 24) = wx at *
    generalize V3.heap.size = gs2 at *
    refine wp_onlyN ?_
    refine wp_region_headsS (fun W' => Below wx.heap.size wx W') [0, 1] 8 (by kernel_rfl) (fun _ _ _ _ _ h => h.elim) (by kernel_rfl) (by rfl) (by rfl) (Below.refl wx.heap.size wx).drew ?_
    simp only [pickOps, List.filterMap_cons, List.filterMap_nil, List.getElem?_toArray, List.getElem?_cons_zero, List.getElem?_cons_succ]
    refine wpHeads_step (fun K hK => ?_)
    go_simp
    refine ⟨_, fun _ _ => rfl, hK _ ?_⟩
    clear hK K
    refine wpHeads_step (fun K hK => ?_)
    go_simp
    refine ⟨_, fun _ _ => rfl, hK _ ?_⟩
    clear hK K
    refine wpHeads_nil ?_
    have S0 := Lh (Below.refl wx.heap.size wx).drew
    generalize wx.drew = D0 at *
    have d1 : (cc != cc) = false := by simp
    have d2 : (!(cc == cc)) = false := by simp
    refine gwq 2 rfl (by kernel_rfl) fun K hK => ?_
    go_simp
    refine hK _ _ S0.out ?_
    clear hK K
    clear d1 d2
    refine gwq 3 rfl (by kernel_rfl) fun K hK => ?_
    go_simp
    refine hK _ _ S0.out ?_
    clear hK K
    refine tkq 4 (.agg #[.int .i64 X.id, .int .i64 X.limit, .bool X.ro, .slice a1 n1 c1]) rfl (by kernel_rfl) (Or.inl ⟨by kernel_rfl, fun w' hw' => by
     obtain ⟨⟨y0, y1, y2, y3⟩, -⟩ := bx4 ((hw'.block _ (lt_of_some HB1.out)).trans HB1.out)
     go_simp⟩) S0.out ?_
    refine tkq 6 (.agg #[.int .i64 X.id, .int .i64 X.limit, .bool X.ro, .slice a2 n1 c2]) rfl (by kernel_rfl) (Or.inl ⟨by kernel_rfl, fun w' hw' => by
     obtain ⟨⟨y0, y1, y2, y3⟩, -⟩ := bx4 ((hw'.block _ (lt_of_some HB2.out)).trans HB2.out)
     go_simp⟩) S0.out ?_
    refine gwq 5 rfl (by kernel_rfl) fun K hK => ?_
    go_simp
    go_at_call 21
    refine (told_any (.agg #[.int .i64 X.id, .int .i64 X.limit, .bool X.ro, .slice a1 n1 c1]) X D0 ⟨_, rfl, gl_below GL1.out S0.out, HJX.out⟩ HXL.out).mono ?_
    rintro e D1 ⟨⟨vv, rfl, hsv⟩, hb⟩
    have S1 := Lh (S0.out.trans (hb.mono S0.out.size))
    have HSV := Lh hsv
    refine hK _ _ S1.out ?_
    clear hK K hb S0 hsv
    refine gwq 7 rfl (by kernel_rfl) fun K hK => ?_
    go_simp
    go_at_call 20
    refine (rssame_eq vv (.agg #[.int .i64 X.id, .int .i64 X.limit, .bool X.ro, .slice a2 n1 c2]) X D1 HSV.out ⟨_, rfl, gl_below GL2.out S1.out, HJX.out⟩ HXL.out).mono ?_
    rintro e D2 ⟨rfl, hb⟩
    have S2 := Lh (S1.out.trans (hb.mono S1.out.size))
    refine hK _ _ S2.out ?_
    clear hK K hb S1
    refine gwq 8 rfl (by kernel_rfl) fun K hK => ?_
    go_simp
    refine hK _ _ S2.out ?_
    clear hK K
    refine gwq 9 rfl (by kernel_rfl) fun K hK => ?_
    go_simp
    refine hK _ _ S2.out ?_
    clear hK K
    refine wpAnyH_done (by kernel_rfl) ?_ _
    unfold onlyN
    dsimp only
    have B9 := Lh (BX.out.trans (S2.out.mono BX.out.size))
    have hw := w64s9 i (by have := HI.out; omega)
    go_wp2_with fail
    go_roundw
    case rel => exact ⟨i + 1, HI.out, by go_num, B9.out⟩
    case measure => exact meas9 6 i HI.out (by decide)
  obtain ⟨id, lim, ro, a, n, c, L, hn, hgl, hj, hln, hlf, q0, q1, q2, q3⟩ := HALL.out i hlt
  have d1 : decide ((i : Int) < 2) = true := decide_eq_true (by omega)
  have d2 : decide (i < 2) = true := decide_eq_true hlt
  have HI := Lh (show i + 1 ≤ 2 by omega)
  have HN := Lh hn
  have HLN := Lh hln
  have HLF := Lh hlf
  have HJ := Lh hj
  have GL0 := Lh (gl_below hgl BB.out)
  have x0 := (BB.out.cell (p := ⟨g, i * 4, none⟩) (block_lt_of_cell q0)).trans q0
  have x1 := (BB.out.cell (p := ⟨g, i * 4 + 1, none⟩) (block_lt_of_cell q1)).trans q1
  have x2 := (BB.out.cell (p := ⟨g, i * 4 + 2, none⟩) (block_lt_of_cell q2)).trans q2
  have x3 := (BB.out.cell (p := ⟨g, i * 4 + 3, none⟩) (block_lt_of_cell q3)).trans q3
  have p0 : (0 : Int) ≤ (i : Int) := by omega
  have p1 : (i : Int) < 2 := by omega
  have hz := heap_alloc_new wl (.cells #[.int .i64 0, .int .i64 0, .bool false, .slice none 0 0] 24)
  clear hn hgl hj hln hlf q0 q1 q2 q3 hlt hi
  go_upto_region 6 with ((with_reducible refine storeRS wl.heap.size _ #[.int .i64 id, .int .i64 lim, .bool ro, .slice a n c] ?_ ?_ hz rfl rfl lv_one ?_); exact rfl; exact rfl)
  rw [World.setRow_alloc_new]
  clear x0 x1 x2 x3 p0 p1 d1 d2
  have hb := bel_al wl (.cells #[.int .i64 id, .int .i64 lim, .bool ro, .slice a n c] 24)
  have HB1a := Lh (heap_alloc_new wl (.cells #[.int .i64 id, .int .i64 lim, .bool ro, .slice a n c] 24))
  have GL1a := Lh (gl_below GL0.out hb)
  have BXa := Lh (BB.out.trans (hb.mono BB.out.size))
  clear hb hz GL0 BB
  generalize wl.alloc (.cells #[.int .i64 id, .int .i64 lim, .bool ro, .slice a n c] 24) = V0 at *
  generalize wl.heap.size = gs1 at *
  obtain ⟨⟨y0, y1, y2, y3⟩, -⟩ := bx4 HB1a.out
  go_wp2_with fail
  clear y0 y1 y2 y3
  refine (given_any (.agg #[.int .i64 id, .int .i64 lim, .bool ro, .slice a n c]) ⟨id, lim, ro, L⟩ V0 ⟨.slice a n c, rfl, GL1a.out, HJ.out⟩ (by have := HLN.out; have := HN.out; simp only; omega)).mono ?_
  rintro e V1 ⟨⟨v2, rfl, hsv⟩, hb⟩
  obtain ⟨gv, rfl, hg2, -⟩ := hsv
  obtain ⟨a2, c2, rfl, -⟩ := gl_form hg2
  simp only at hg2 ⊢
  rw [← HN.out] at hg2 ⊢
  have HB1b := Lh ((hb.block _ (lt_of_some HB1a.out)).trans HB1a.out)
  have GL1b := Lh (gl_below GL1a.out hb)
  have GL2b := Lh hg2
  have BXb := Lh (BXa.out.trans (hb.mono BXa.out.size))
  have hz := heap_alloc_new V1 (.cells #[.int .i64 0, .int .i64 0, .bool false, .slice none 0 0] 33)
  clear hb hg2 HB1a GL1a BXa
  go_upto_region 7 with ((with_reducible refine storeS V1.heap.size _ #[.int .i64 id, .int .i64 lim, .bool ro, .slice a2 n c2] ?_ ?_ hz rfl rfl lv_one ?_); exact rfl; exact rfl)
  rw [World.setRow_alloc_new]
  have hb := bel_al V1 (.cells #[.int .i64 id, .int .i64 lim, .bool ro, .slice a2 n c2] 33)
  have HB2c := Lh (heap_alloc_new V1 (.cells #[.int .i64 id, .int .i64 lim, .bool ro, .slice a2 n c2] 33))
  have HB1c := Lh ((hb.block _ (lt_of_some HB1b.out)).trans HB1b.out)
  have GL1c := Lh (gl_below GL1b.out hb)
  have GL2c := Lh (gl_below GL2b.out hb)
  have BXc := Lh (BXb.out.trans (hb.mono BXb.out.size))
  clear hb hz HB1b GL1b GL2b BXb
  generalize V1.alloc (.cells #[.int .i64 id, .int .i64 lim, .bool ro, .slice a2 n c2] 33) = V2 at *
  generalize V1.heap.size = gs2 at *
  obtain ⟨⟨y0, y1, y2, y3⟩, -⟩ := bx4 HB2c.out
  go_wp2_with fail
  clear y0 y1 y2 y3
  refine (pstop_x id lim ro a2 n c2 L V2 HN.out GL2c.out HLN.out HLF.out).mono ?_
  rintro e V3 ⟨⟨vt, rfl, hgv⟩, hb⟩
  obtain ⟨T, hT⟩ : ∃ q, q = (if okSb ⟨id, lim, ro, L⟩ = true then lastG ⟨id, lim, ro, L⟩ else g0) := ⟨_, rfl⟩
  obtain ⟨cc, hcc⟩ : ∃ q : Int, q = (if okSb ⟨id, lim, ro, L⟩ = true then 0 else 1) := ⟨_, rfl⟩
  rw [← hT] at hgv
  rw [← hcc]
  have HT := Lh hT
  have HCC := Lh hcc
  obtain ⟨s0, s1, s2, s3, s4, s5, s6, s7, rfl, hmt, -⟩ := hgv
  have HB1d := Lh ((hb.block _ (lt_of_some HB1c.out)).trans HB1c.out)
  have HB2d := Lh ((hb.block _ (lt_of_some HB2c.out)).trans HB2c.out)
  have GL1d := Lh (gl_below GL1c.out hb)
  have GL2d := Lh (gl_below GL2c.out hb)
  have BXd := Lh (BXc.out.trans (hb.mono BXc.out.size))
  have ONT := Lh (gc_one hmt)
  have hz := heap_alloc_new V3 (.cells #[.int .i64 0, .int .i64 0, .int .i64 0, .int .i64 0, .slice none 0 0, .slice none 0 0, .slice none 0 0, .slice none 0 0, .slice none 0 0, .slice none 0 0, .slice none 0 0, .slice none 0 0, .int .i64 0, .int .i64 0] 40)
  clear hb hT hcc hmt HB1c HB2c GL1c GL2c BXc
  go_upto_region 8 with ((with_reducible refine storeG V3.heap.size _ #[.int .i64 T.num, .int .i64 T.rev, .int .i64 T.mode, .int .i64 T.size, s0, s1, s2, s3, s4, s5, s6, s7, .int .i64 T.m.live, .int .i64 T.m.garb] ?_ ?_ hz rfl rfl ONT.out ?_); exact rfl; exact rfl)
  rw [World.setRow_alloc_new]
  have hb := bel_al V3 (.cells #[.int .i64 T.num, .int .i64 T.rev, .int .i64 T.mode, .int .i64 T.size, s0, s1, s2, s3, s4, s5, s6, s7, .int .i64 T.m.live, .int .i64 T.m.garb] 40)
  have HB3e := Lh (heap_alloc_new V3 (.cells #[.int .i64 T.num, .int .i64 T.rev, .int .i64 T.mode, .int .i64 T.size, s0, s1, s2, s3, s4, s5, s6, s7, .int .i64 T.m.live, .int .i64 T.m.garb] 40))
  have HB1e := Lh ((hb.block _ (lt_of_some HB1d.out)).trans HB1d.out)
  have HB2e := Lh ((hb.block _ (lt_of_some HB2d.out)).trans HB2d.out)
  have GL1e := Lh (gl_below GL1d.out hb)
  have GL2e := Lh (gl_below GL2d.out hb)
  have BXe := Lh (BXd.out.trans (hb.mono BXd.out.size))
  clear hb hz HB1d HB2d GL1d GL2d BXd ONT
  generalize V3.alloc (.cells #[.int .i64 T.num, .int .i64 T.rev, .int .i64 T.mode, .int .i64 T.size, s0, s1, s2, s3, s4, s5, s6, s7, .int .i64 T.m.live, .int .i64 T.m.garb] 40) = V4 at *
  generalize V3.heap.size = gs3 at *
  obtain ⟨⟨y0, y1, y2, y3⟩, -⟩ := bx4 HB1e.out
  go_wp2_with fail
  clear y0 y1 y2 y3
  refine (rstop_x id lim ro a n c L V4 HN.out GL1e.out HLN.out HLF.out).mono ?_
  rintro e V5 ⟨⟨vt, rfl, hgv⟩, hb⟩
  rw [← HT.out] at hgv
  rw [← HCC.out]
  obtain ⟨t0, t1, t2, t3, t4, t5, t6, t7, rfl, hmt, -⟩ := hgv
  have HB1f := Lh ((hb.block _ (lt_of_some HB1e.out)).trans HB1e.out)
  have HB2f := Lh ((hb.block _ (lt_of_some HB2e.out)).trans HB2e.out)
  have HB3f := Lh ((hb.block _ (lt_of_some HB3e.out)).trans HB3e.out)
  have GL1f := Lh (gl_below GL1e.out hb)
  have GL2f := Lh (gl_below GL2e.out hb)
  have BXf := Lh (BXe.out.trans (hb.mono BXe.out.size))
  have ONT := Lh (gc_one hmt)
  have hz := heap_alloc_new V5 (.cells #[.int .i64 0, .int .i64 0, .int .i64 0, .int .i64 0, .slice none 0 0, .slice none 0 0, .slice none 0 0, .slice none 0 0, .slice none 0 0, .slice none 0 0, .slice none 0 0, .slice none 0 0, .int .i64 0, .int .i64 0] 46)
  clear hb hmt HB1e HB2e HB3e GL1e GL2e BXe
  go_upto_region 9 with ((with_reducible refine storeRG V5.heap.size _ #[.int .i64 T.num, .int .i64 T.rev, .int .i64 T.mode, .int .i64 T.size, t0, t1, t2, t3, t4, t5, t6, t7, .int .i64 T.m.live, .int .i64 T.m.garb] ?_ ?_ hz rfl rfl ONT.out ?_); exact rfl; exact rfl)
  rw [World.setRow_alloc_new]
  have hb := bel_al V5 (.cells #[.int .i64 T.num, .int .i64 T.rev, .int .i64 T.mode, .int .i64 T.size, t0, t1, t2, t3, t4, t5, t6, t7, .int .i64 T.m.live, .int .i64 T.m.garb] 46)
  have HB4 := Lh (heap_alloc_new V5 (.cells #[.int .i64 T.num, .int .i64 T.rev, .int .i64 T.mode, .int .i64 T.size, t0, t1, t2, t3, t4, t5, t6, t7, .int .i64 T.m.live, .int .i64 T.m.garb] 46))
  have HB1 := Lh ((hb.block _ (lt_of_some HB1f.out)).trans HB1f.out)
  have HB2 := Lh ((hb.block _ (lt_of_some HB2f.out)).trans HB2f.out)
  have HB3 := Lh ((hb.block _ (lt_of_some HB3f.out)).trans HB3f.out)
  have GL1 := Lh (gl_below GL1f.out hb)
  have GL2 := Lh (gl_below GL2f.out hb)
  have BX := Lh (BXf.out.trans (hb.mono BXf.out.size))
  clear hb hz HB1f HB2f HB3f GL1f GL2f BXf ONT
  generalize V5.alloc (.cells #[.int .i64 T.num, .int .i64 T.rev, .int .i64 T.mode, .int .i64 T.size, t0, t1, t2, t3, t4, t5, t6, t7, .int .i64 T.m.live, .int .i64 T.m.garb] 46) = wx at *
  generalize V5.heap.size = gs4 at *
  rcases Classical.em (okS ⟨id, lim, ro, L⟩) with h1 | h1
  ·have HOK := Lh h1
   obtain rfl : cc = 0 := by rw [HCC.out, okSb_t h1, if_pos rfl]
   clear h1
   refine wp_onlyN ?_
   refine wp_region_headsS (fun W' => Below wx.heap.size wx W') [0, 2] 49 (by kernel_rfl) (fun _ _ _ _ _ h => h.elim) (by kernel_rfl) (by rfl) (by rfl) (Below.refl wx.heap.size wx).drew ?_
   simp only [pickOps, List.filterMap_cons, List.filterMap_nil, List.getElem?_toArray, List.getElem?_cons_zero, List.getElem?_cons_succ]
   refine wpHeads_step (fun K hK => ?_)
   go_simp
   refine ⟨.agg #[.int .i64 id, .int .i64 lim, .bool ro, .slice a2 n c2], fun w' hw' => by
    obtain ⟨⟨y0, y1, y2, y3⟩, -⟩ := bx4 ((hw'.block _ (lt_of_some HB2.out)).trans HB2.out)
    go_simp, hK _ ?_⟩
   clear hK K
   refine wpHeads_step (fun K hK => ?_)
   go_simp
   refine ⟨.agg #[.int .i64 id, .int .i64 lim, .bool ro, .slice a n c], fun w' hw' => by
    obtain ⟨⟨y0, y1, y2, y3⟩, -⟩ := bx4 ((hw'.block _ (lt_of_some HB1.out)).trans HB1.out)
    go_simp, hK _ ?_⟩
   clear hK K
   refine wpHeads_nil ?_
   have S0 := Lh (Below.refl wx.heap.size wx).drew
   generalize wx.drew = D0 at *
   refine gwq 1 rfl (by kernel_rfl) fun K hK => ?_
   go_simp
   go_at_call 12
   refine (psvalid_x id lim ro a2 n c2 L D0 HN.out (gl_below GL2.out S0.out) HLN.out HLF.out).mono ?_
   rintro e D1 ⟨rfl, hb⟩
   have S1 := Lh (S0.out.trans (hb.mono S0.out.size))
   rw [okSb_t HOK.out]
   refine hK _ _ S1.out ?_
   clear hK K hb S0
   refine gwq 3 rfl (by kernel_rfl) fun K hK => ?_
   go_simp
   go_at_call 13
   refine (rsvalid_x id lim ro a n c L D1 HN.out (gl_below GL1.out S1.out) HLN.out HLF.out).mono ?_
   rintro e D2 ⟨rfl, hb⟩
   have S2 := Lh (S1.out.trans (hb.mono S1.out.size))
   rw [okSb_t HOK.out]
   refine hK _ _ S2.out ?_
   clear hK K hb S1
   refine gwq 4 rfl (by kernel_rfl) fun K hK => ?_
   go_simp
   refine hK _ _ S2.out ?_
   clear hK K
   refine gwq 5 rfl (by kernel_rfl) fun K hK => ?_
   go_simp
   refine hK _ _ S2.out ?_
   clear hK K
   refine tkq 6 (.agg #[.int .i64 id, .int .i64 lim, .bool ro, .slice a2 n c2]) rfl (by kernel_rfl) (Or.inl ⟨by kernel_rfl, fun w' hw' => by
    obtain ⟨⟨y0, y1, y2, y3⟩, -⟩ := bx4 ((hw'.block _ (lt_of_some HB2.out)).trans HB2.out)
    go_simp⟩) S2.out ?_
   refine tkq 7 (.int .i64 nn) rfl (by kernel_rfl) (Or.inl ⟨by kernel_rfl, fun w' hw' => by
    skip
    go_simp⟩) S2.out ?_
   refine tkq 9 (.agg #[.int .i64 id, .int .i64 lim, .bool ro, .slice a n c]) rfl (by kernel_rfl) (Or.inl ⟨by kernel_rfl, fun w' hw' => by
    obtain ⟨⟨y0, y1, y2, y3⟩, -⟩ := bx4 ((hw'.block _ (lt_of_some HB1.out)).trans HB1.out)
    go_simp⟩) S2.out ?_
   refine tkq 10 (.int .i64 nn) rfl (by kernel_rfl) (Or.inl ⟨by kernel_rfl, fun w' hw' => by
    skip
    go_simp⟩) S2.out ?_
   obtain ⟨fb, hfb⟩ : ∃ q, q = fitsB ⟨id, lim, ro, L⟩ nn := ⟨_, rfl⟩
   have HFB := Lh hfb
   clear hfb
   refine gwq 8 rfl (by kernel_rfl) fun K hK => ?_
   go_simp
   go_at_call 14
   refine (pfits_x id lim ro a2 n c2 L nn D2 HN.out (gl_below GL2.out S2.out) HLN.out HLF.out).mono ?_
   rintro e D3 ⟨rfl, hb⟩
   have S3 := Lh (S2.out.trans (hb.mono S2.out.size))
   rw [← HFB.out]
   refine hK _ _ S3.out ?_
   clear hK K hb S2
   refine gwq 11 rfl (by kernel_rfl) fun K hK => ?_
   go_simp
   go_at_call 15
   refine (rfits_x id lim ro a n c L nn D3 HN.out (gl_below GL1.out S3.out) HLN.out HLF.out).mono ?_
   rintro e D4 ⟨rfl, hb⟩
   have S4 := Lh (S3.out.trans (hb.mono S3.out.size))
   rw [← HFB.out]
   refine hK _ _ S4.out ?_
   clear hK K hb S3
   have d1 : (fb != fb) = false := by cases fb <;> rfl
   have d2 : (!(fb == fb)) = false := by cases fb <;> rfl
   refine gwq 12 rfl (by kernel_rfl) fun K hK => ?_
   go_simp
   refine hK _ _ S4.out ?_
   clear hK K
   clear d1 d2
   refine gwq 13 rfl (by kernel_rfl) fun K hK => ?_
   go_simp
   refine hK _ _ S4.out ?_
   clear hK K
   refine gwq 14 rfl (by kernel_rfl) fun K hK => ?_
   go_simp
   refine hK _ _ S4.out ?_
   clear hK K
   refine tkq 15 (.agg #[.int .i64 id, .int .i64 lim, .bool ro, .slice a2 n c2]) rfl (by kernel_rfl) (Or.inl ⟨by kernel_rfl, fun w' hw' => by
    obtain ⟨⟨y0, y1, y2, y3⟩, -⟩ := bx4 ((hw'.block _ (lt_of_some HB2.out)).trans HB2.out)
    go_simp⟩) S4.out ?_
   refine tkq 17 (.agg #[.int .i64 id, .int .i64 lim, .bool ro, .slice a n c]) rfl (by kernel_rfl) (Or.inl ⟨by kernel_rfl, fun w' hw' => by
    obtain ⟨⟨y0, y1, y2, y3⟩, -⟩ := bx4 ((hw'.block _ (lt_of_some HB1.out)).trans HB1.out)
    go_simp⟩) S4.out ?_
   obtain ⟨rb, hrb⟩ : ∃ q, q = rotB ⟨id, lim, ro, L⟩ := ⟨_, rfl⟩
   have HRB := Lh hrb
   clear hrb
   refine gwq 16 rfl (by kernel_rfl) fun K hK => ?_
   go_simp
   go_at_call 16
   refine (pcanrot_x id lim ro a2 n c2 L D4 HN.out (gl_below GL2.out S4.out) HLN.out HLF.out).mono ?_
   rintro e D5 ⟨rfl, hb⟩
   have S5 := Lh (S4.out.trans (hb.mono S4.out.size))
   rw [← HRB.out]
   refine hK _ _ S5.out ?_
   clear hK K hb S4
   refine gwq 18 rfl (by kernel_rfl) fun K hK => ?_
   go_simp
   go_at_call 17
   refine (rcanrot_x id lim ro a n c L D5 HN.out (gl_below GL1.out S5.out) HLN.out HLF.out).mono ?_
   rintro e D6 ⟨rfl, hb⟩
   have S6 := Lh (S5.out.trans (hb.mono S5.out.size))
   rw [← HRB.out]
   refine hK _ _ S6.out ?_
   clear hK K hb S5
   have d1 : (rb != rb) = false := by cases rb <;> rfl
   have d2 : (!(rb == rb)) = false := by cases rb <;> rfl
   refine gwq 19 rfl (by kernel_rfl) fun K hK => ?_
   go_simp
   refine hK _ _ S6.out ?_
   clear hK K
   clear d1 d2
   refine gwq 20 rfl (by kernel_rfl) fun K hK => ?_
   go_simp
   refine hK _ _ S6.out ?_
   clear hK K
   refine gwq 21 rfl (by kernel_rfl) fun K hK => ?_
   go_simp
   refine hK _ _ S6.out ?_
   clear hK K
   refine tkq 22 (.int .i64 0) rfl (by kernel_rfl) (Or.inl ⟨by kernel_rfl, fun w' hw' => by
    skip
    go_simp⟩) S6.out ?_
   refine tkq 23 (.int .i64 0) rfl (by kernel_rfl) (Or.inl ⟨by kernel_rfl, fun w' hw' => by
    skip
    go_simp⟩) S6.out ?_
   refine gwq 24 rfl (by kernel_rfl) fun K hK => ?_
   go_simp
   refine hK _ _ S6.out ?_
   clear hK K
   refine gwq 25 rfl (by kernel_rfl) fun K hK => ?_
   go_simp
   refine hK _ _ S6.out ?_
   clear hK K
   refine gwq 26 rfl (by kernel_rfl) fun K hK => ?_
   go_simp
   refine hK _ _ S6.out ?_
   clear hK K
   refine tkq 27 (.int .i64 0) rfl (by kernel_rfl) (Or.inl ⟨by kernel_rfl, fun w' hw' => by
    skip
    go_simp⟩) S6.out ?_
   refine gwq 28 rfl (by kernel_rfl) fun K hK => ?_
   go_simp
   refine hK _ _ S6.out ?_
   clear hK K
   refine gwq 29 rfl (by kernel_rfl) fun K hK => ?_
   go_simp
   refine hK _ _ S6.out ?_
   clear hK K
   refine tkq 30 (.pointer (some ⟨gs3, 0, none⟩)) rfl (by kernel_rfl) (Or.inl ⟨by kernel_rfl, fun w' hw' => by
    skip
    go_simp⟩) S6.out ?_
   refine tkq 31 (.int .i64 T.num) rfl (by kernel_rfl) (Or.inl ⟨by kernel_rfl, fun w' hw' => by
    obtain ⟨x0, x1, x2, x3, x4, x5, x6, x7, x8, x9, x10, x11, x12, x13⟩ := bx14 ((hw'.block _ (lt_of_some HB3.out)).trans HB3.out)
    go_simp⟩) S6.out ?_
   refine tkq 32 (.pointer (some ⟨gs4, 0, none⟩)) rfl (by kernel_rfl) (Or.inl ⟨by kernel_rfl, fun w' hw' => by
    skip
    go_simp⟩) S6.out ?_
   refine tkq 33 (.int .i64 T.num) rfl (by kernel_rfl) (Or.inl ⟨by kernel_rfl, fun w' hw' => by
    obtain ⟨x0, x1, x2, x3, x4, x5, x6, x7, x8, x9, x10, x11, x12, x13⟩ := bx14 ((hw'.block _ (lt_of_some HB4.out)).trans HB4.out)
    go_simp⟩) S6.out ?_
   refine gwq 34 rfl (by kernel_rfl) fun K hK => ?_
   go_simp
   refine hK _ _ S6.out ?_
   clear hK K
   refine gwq 35 rfl (by kernel_rfl) fun K hK => ?_
   go_simp
   refine hK _ _ S6.out ?_
   clear hK K
   refine tkq 36 (.pointer (some ⟨gs3, 3, none⟩)) rfl (by kernel_rfl) (Or.inl ⟨by kernel_rfl, fun w' hw' => by
    skip
    go_simp⟩) S6.out ?_
   refine tkq 37 (.int .i64 T.size) rfl (by kernel_rfl) (Or.inl ⟨by kernel_rfl, fun w' hw' => by
    obtain ⟨x0, x1, x2, x3, x4, x5, x6, x7, x8, x9, x10, x11, x12, x13⟩ := bx14 ((hw'.block _ (lt_of_some HB3.out)).trans HB3.out)
    go_simp⟩) S6.out ?_
   refine tkq 38 (.pointer (some ⟨gs4, 3, none⟩)) rfl (by kernel_rfl) (Or.inl ⟨by kernel_rfl, fun w' hw' => by
    skip
    go_simp⟩) S6.out ?_
   refine tkq 39 (.int .i64 T.size) rfl (by kernel_rfl) (Or.inl ⟨by kernel_rfl, fun w' hw' => by
    obtain ⟨x0, x1, x2, x3, x4, x5, x6, x7, x8, x9, x10, x11, x12, x13⟩ := bx14 ((hw'.block _ (lt_of_some HB4.out)).trans HB4.out)
    go_simp⟩) S6.out ?_
   refine gwq 40 rfl (by kernel_rfl) fun K hK => ?_
   go_simp
   refine hK _ _ S6.out ?_
   clear hK K
   refine gwq 41 rfl (by kernel_rfl) fun K hK => ?_
   go_simp
   refine hK _ _ S6.out ?_
   clear hK K
   refine gwq 42 rfl (by kernel_rfl) fun K hK => ?_
   go_simp
   refine hK _ _ S6.out ?_
   clear hK K
   refine tkq 43 (.pointer (some ⟨gs3, 2, none⟩)) rfl (by kernel_rfl) (Or.inl ⟨by kernel_rfl, fun w' hw' => by
    skip
    go_simp⟩) S6.out ?_
   refine tkq 44 (.int .i64 T.mode) rfl (by kernel_rfl) (Or.inl ⟨by kernel_rfl, fun w' hw' => by
    obtain ⟨x0, x1, x2, x3, x4, x5, x6, x7, x8, x9, x10, x11, x12, x13⟩ := bx14 ((hw'.block _ (lt_of_some HB3.out)).trans HB3.out)
    go_simp⟩) S6.out ?_
   refine tkq 45 (.pointer (some ⟨gs4, 2, none⟩)) rfl (by kernel_rfl) (Or.inl ⟨by kernel_rfl, fun w' hw' => by
    skip
    go_simp⟩) S6.out ?_
   refine tkq 46 (.int .i64 T.mode) rfl (by kernel_rfl) (Or.inl ⟨by kernel_rfl, fun w' hw' => by
    obtain ⟨x0, x1, x2, x3, x4, x5, x6, x7, x8, x9, x10, x11, x12, x13⟩ := bx14 ((hw'.block _ (lt_of_some HB4.out)).trans HB4.out)
    go_simp⟩) S6.out ?_
   refine gwq 47 rfl (by kernel_rfl) fun K hK => ?_
   go_simp
   refine hK _ _ S6.out ?_
   clear hK K
   refine gwq 48 rfl (by kernel_rfl) fun K hK => ?_
   go_simp
   refine hK _ _ S6.out ?_
   clear hK K
   refine gwq 49 rfl (by kernel_rfl) fun K hK => ?_
   go_simp
   refine hK _ _ S6.out ?_
   clear hK K
   refine gwq 50 rfl (by kernel_rfl) fun K hK => ?_
   go_simp
   refine hK _ _ S6.out ?_
   clear hK K
   refine wpAnyH_done (by kernel_rfl) ?_ _
   unfold onlyN
   dsimp only
   go_wp2_with fail
   go_loopw [20] (fun t wr => ∃ k : Nat, k ≤ 3 ∧ t = .int .i64 (k : Int) ∧ Below wx.heap.size wx wr) (fun t _ => 3 - (intOf t).toNat)
   case atStart => exact ⟨0, Nat.zero_le _, rfl, S6.out⟩
   case round =>
    obtain ⟨k, hk, rfl, hB⟩ := hrel
    rename World => wk
    have BK := Lh hB
    clear hB S6
    by_cases hlt : k < 3
    case neg =>
     have d1 : decide ((k : Int) < 3) = false := decide_eq_false (by omega)
     have d2 : decide (k < 3) = false := decide_eq_false hlt
     have B9 := Lh (BX.out.trans (BK.out.mono BX.out.size))
     have hw := w64s9 i (by have := HI.out; omega)
     clear hk hlt
     go_wp2_with fail
     go_roundw
     case rel => exact ⟨i + 1, HI.out, by go_num, B9.out⟩
     case measure => exact meas9 2 i HI.out (by decide)
    have d1 : decide ((k : Int) < 3) = true := decide_eq_true (by omega)
    have d2 : decide (k < 3) = true := decide_eq_true hlt
    have HK3 := Lh (show k + 1 ≤ 3 by omega)
    obtain ⟨mm, hmm⟩ : ∃ q : Int, q = 4088 + (k : Int) * 7 := ⟨_, rfl⟩
    have e1 : wrap64 ((k : Int) * 7) = (k : Int) * 7 := by unfold wrap64; omega
    have e2 : wrap64 (4088 + (k : Int) * 7) = mm := by rw [hmm]; unfold wrap64; omega
    clear hmm hlt hk
    go_upto_region 15 with fail
    first | rw [e2] | skip
    clear d1 d2 e1 e2
    refine wp_onlyN ?_
    refine wp_region_headsS (fun W' => Below wx.heap.size wx W') [0, 1, 3, 4] 3 (by kernel_rfl) (fun _ _ _ _ _ h => h.elim) (by kernel_rfl) (by rfl) (by rfl) BK.out.drew ?_
    simp only [pickOps, List.filterMap_cons, List.filterMap_nil, List.getElem?_toArray, List.getElem?_cons_zero, List.getElem?_cons_succ]
    refine wpHeads_step (fun K hK => ?_)
    go_simp
    refine ⟨.agg #[.int .i64 id, .int .i64 lim, .bool ro, .slice a2 n c2], fun w' hw' => by
     obtain ⟨⟨y0, y1, y2, y3⟩, -⟩ := bx4 ((hw'.block _ (lt_of_some HB2.out)).trans HB2.out)
     go_simp, hK _ ?_⟩
    clear hK K
    refine wpHeads_step (fun K hK => ?_)
    go_simp
    refine ⟨_, fun _ _ => rfl, hK _ ?_⟩
    clear hK K
    refine wpHeads_step (fun K hK => ?_)
    go_simp
    refine ⟨.agg #[.int .i64 id, .int .i64 lim, .bool ro, .slice a n c], fun w' hw' => by
     obtain ⟨⟨y0, y1, y2, y3⟩, -⟩ := bx4 ((hw'.block _ (lt_of_some HB1.out)).trans HB1.out)
     go_simp, hK _ ?_⟩
    clear hK K
    refine wpHeads_step (fun K hK => ?_)
    go_simp
    refine ⟨_, fun _ _ => rfl, hK _ ?_⟩
    clear hK K
    refine wpHeads_nil ?_
    have S0 := Lh BK.out.drew
    generalize wk.drew = D0 at *
    obtain ⟨fb, hfb⟩ : ∃ q, q = fitsB ⟨id, lim, ro, L⟩ mm := ⟨_, rfl⟩
    have HFB := Lh hfb
    clear hfb
    refine gwq 2 rfl (by kernel_rfl) fun K hK => ?_
    go_simp
    go_at_call 14
    refine (pfits_x id lim ro a2 n c2 L mm D0 HN.out (gl_below GL2.out S0.out) HLN.out HLF.out).mono ?_
    rintro e D1 ⟨rfl, hb⟩
    have S1 := Lh (S0.out.trans (hb.mono S0.out.size))
    rw [← HFB.out]
    refine hK _ _ S1.out ?_
    clear hK K hb S0
    refine gwq 5 rfl (by kernel_rfl) fun K hK => ?_
    go_simp
    go_at_call 15
    refine (rfits_x id lim ro a n c L mm D1 HN.out (gl_below GL1.out S1.out) HLN.out HLF.out).mono ?_
    rintro e D2 ⟨rfl, hb⟩
    have S2 := Lh (S1.out.trans (hb.mono S1.out.size))
    rw [← HFB.out]
    refine hK _ _ S2.out ?_
    clear hK K hb S1
    have d1 : (fb != fb) = false := by cases fb <;> rfl
    have d2 : (!(fb == fb)) = false := by cases fb <;> rfl
    refine gwq 6 rfl (by kernel_rfl) fun K hK => ?_
    go_simp
    refine hK _ _ S2.out ?_
    clear hK K
    clear d1 d2
    refine wpAnyH_done (by kernel_rfl) ?_ _
    unfold onlyN
    dsimp only
    have hw := w64s9 k (by have := HK3.out; omega)
    go_wp2_with fail
    go_roundw
    case rel => exact ⟨k + 1, HK3.out, by go_num, S2.out⟩
    case measure => exact meas9 3 k HK3.out (by decide)
  ·have HOK := Lh h1
   obtain rfl : cc = 1 := by rw [HCC.out, okSb_f h1]; rfl
   clear h1
   refine wp_onlyN ?_
   refine wp_region_headsS (fun W' => Below wx.heap.size wx W') [0, 2] 49 (by kernel_rfl) (fun _ _ _ _ _ h => h.elim) (by kernel_rfl) (by rfl) (by rfl) (Below.refl wx.heap.size wx).drew ?_
   simp only [pickOps, List.filterMap_cons, List.filterMap_nil, List.getElem?_toArray, List.getElem?_cons_zero, List.getElem?_cons_succ]
   refine wpHeads_step (fun K hK => ?_)
   go_simp
   refine ⟨.agg #[.int .i64 id, .int .i64 lim, .bool ro, .slice a2 n c2], fun w' hw' => by
    obtain ⟨⟨y0, y1, y2, y3⟩, -⟩ := bx4 ((hw'.block _ (lt_of_some HB2.out)).trans HB2.out)
    go_simp, hK _ ?_⟩
   clear hK K
   refine wpHeads_step (fun K hK => ?_)
   go_simp
   refine ⟨.agg #[.int .i64 id, .int .i64 lim, .bool ro, .slice a n c], fun w' hw' => by
    obtain ⟨⟨y0, y1, y2, y3⟩, -⟩ := bx4 ((hw'.block _ (lt_of_some HB1.out)).trans HB1.out)
    go_simp, hK _ ?_⟩
   clear hK K
   refine wpHeads_nil ?_
   have S0 := Lh (Below.refl wx.heap.size wx).drew
   generalize wx.drew = D0 at *
   refine gwq 1 rfl (by kernel_rfl) fun K hK => ?_
   go_simp
   go_at_call 12
   refine (psvalid_x id lim ro a2 n c2 L D0 HN.out (gl_below GL2.out S0.out) HLN.out HLF.out).mono ?_
   rintro e D1 ⟨rfl, hb⟩
   have S1 := Lh (S0.out.trans (hb.mono S0.out.size))
   rw [okSb_f HOK.out]
   refine hK _ _ S1.out ?_
   clear hK K hb S0
   refine gwq 3 rfl (by kernel_rfl) fun K hK => ?_
   go_simp
   go_at_call 13
   refine (rsvalid_x id lim ro a n c L D1 HN.out (gl_below GL1.out S1.out) HLN.out HLF.out).mono ?_
   rintro e D2 ⟨rfl, hb⟩
   have S2 := Lh (S1.out.trans (hb.mono S1.out.size))
   rw [okSb_f HOK.out]
   refine hK _ _ S2.out ?_
   clear hK K hb S1
   refine gwq 4 rfl (by kernel_rfl) fun K hK => ?_
   go_simp
   refine hK _ _ S2.out ?_
   clear hK K
   refine gwq 5 rfl (by kernel_rfl) fun K hK => ?_
   go_simp
   refine hK _ _ S2.out ?_
   clear hK K
   refine tkq 6 (.agg #[.int .i64 id, .int .i64 lim, .bool ro, .slice a2 n c2]) rfl (by kernel_rfl) (Or.inl ⟨by kernel_rfl, fun w' hw' => by
    obtain ⟨⟨y0, y1, y2, y3⟩, -⟩ := bx4 ((hw'.block _ (lt_of_some HB2.out)).trans HB2.out)
    go_simp⟩) S2.out ?_
   refine tkq 7 (.int .i64 nn) rfl (by kernel_rfl) (Or.inl ⟨by kernel_rfl, fun w' hw' => by
    skip
    go_simp⟩) S2.out ?_
   refine tkq 9 (.agg #[.int .i64 id, .int .i64 lim, .bool ro, .slice a n c]) rfl (by kernel_rfl) (Or.inl ⟨by kernel_rfl, fun w' hw' => by
    obtain ⟨⟨y0, y1, y2, y3⟩, -⟩ := bx4 ((hw'.block _ (lt_of_some HB1.out)).trans HB1.out)
    go_simp⟩) S2.out ?_
   refine tkq 10 (.int .i64 nn) rfl (by kernel_rfl) (Or.inl ⟨by kernel_rfl, fun w' hw' => by
    skip
    go_simp⟩) S2.out ?_
   obtain ⟨fb, hfb⟩ : ∃ q, q = fitsB ⟨id, lim, ro, L⟩ nn := ⟨_, rfl⟩
   have HFB := Lh hfb
   clear hfb
   refine gwq 8 rfl (by kernel_rfl) fun K hK => ?_
   go_simp
   go_at_call 14
   refine (pfits_x id lim ro a2 n c2 L nn D2 HN.out (gl_below GL2.out S2.out) HLN.out HLF.out).mono ?_
   rintro e D3 ⟨rfl, hb⟩
   have S3 := Lh (S2.out.trans (hb.mono S2.out.size))
   rw [← HFB.out]
   refine hK _ _ S3.out ?_
   clear hK K hb S2
   refine gwq 11 rfl (by kernel_rfl) fun K hK => ?_
   go_simp
   go_at_call 15
   refine (rfits_x id lim ro a n c L nn D3 HN.out (gl_below GL1.out S3.out) HLN.out HLF.out).mono ?_
   rintro e D4 ⟨rfl, hb⟩
   have S4 := Lh (S3.out.trans (hb.mono S3.out.size))
   rw [← HFB.out]
   refine hK _ _ S4.out ?_
   clear hK K hb S3
   have d1 : (fb != fb) = false := by cases fb <;> rfl
   have d2 : (!(fb == fb)) = false := by cases fb <;> rfl
   refine gwq 12 rfl (by kernel_rfl) fun K hK => ?_
   go_simp
   refine hK _ _ S4.out ?_
   clear hK K
   clear d1 d2
   refine gwq 13 rfl (by kernel_rfl) fun K hK => ?_
   go_simp
   refine hK _ _ S4.out ?_
   clear hK K
   refine gwq 14 rfl (by kernel_rfl) fun K hK => ?_
   go_simp
   refine hK _ _ S4.out ?_
   clear hK K
   refine tkq 15 (.agg #[.int .i64 id, .int .i64 lim, .bool ro, .slice a2 n c2]) rfl (by kernel_rfl) (Or.inl ⟨by kernel_rfl, fun w' hw' => by
    obtain ⟨⟨y0, y1, y2, y3⟩, -⟩ := bx4 ((hw'.block _ (lt_of_some HB2.out)).trans HB2.out)
    go_simp⟩) S4.out ?_
   refine tkq 17 (.agg #[.int .i64 id, .int .i64 lim, .bool ro, .slice a n c]) rfl (by kernel_rfl) (Or.inl ⟨by kernel_rfl, fun w' hw' => by
    obtain ⟨⟨y0, y1, y2, y3⟩, -⟩ := bx4 ((hw'.block _ (lt_of_some HB1.out)).trans HB1.out)
    go_simp⟩) S4.out ?_
   obtain ⟨rb, hrb⟩ : ∃ q, q = rotB ⟨id, lim, ro, L⟩ := ⟨_, rfl⟩
   have HRB := Lh hrb
   clear hrb
   refine gwq 16 rfl (by kernel_rfl) fun K hK => ?_
   go_simp
   go_at_call 16
   refine (pcanrot_x id lim ro a2 n c2 L D4 HN.out (gl_below GL2.out S4.out) HLN.out HLF.out).mono ?_
   rintro e D5 ⟨rfl, hb⟩
   have S5 := Lh (S4.out.trans (hb.mono S4.out.size))
   rw [← HRB.out]
   refine hK _ _ S5.out ?_
   clear hK K hb S4
   refine gwq 18 rfl (by kernel_rfl) fun K hK => ?_
   go_simp
   go_at_call 17
   refine (rcanrot_x id lim ro a n c L D5 HN.out (gl_below GL1.out S5.out) HLN.out HLF.out).mono ?_
   rintro e D6 ⟨rfl, hb⟩
   have S6 := Lh (S5.out.trans (hb.mono S5.out.size))
   rw [← HRB.out]
   refine hK _ _ S6.out ?_
   clear hK K hb S5
   have d1 : (rb != rb) = false := by cases rb <;> rfl
   have d2 : (!(rb == rb)) = false := by cases rb <;> rfl
   refine gwq 19 rfl (by kernel_rfl) fun K hK => ?_
   go_simp
   refine hK _ _ S6.out ?_
   clear hK K
   clear d1 d2
   refine gwq 20 rfl (by kernel_rfl) fun K hK => ?_
   go_simp
   refine hK _ _ S6.out ?_
   clear hK K
   refine gwq 21 rfl (by kernel_rfl) fun K hK => ?_
   go_simp
   refine hK _ _ S6.out ?_
   clear hK K
   refine tkq 22 (.int .i64 1) rfl (by kernel_rfl) (Or.inl ⟨by kernel_rfl, fun w' hw' => by
    skip
    go_simp⟩) S6.out ?_
   refine tkq 23 (.int .i64 1) rfl (by kernel_rfl) (Or.inl ⟨by kernel_rfl, fun w' hw' => by
    skip
    go_simp⟩) S6.out ?_
   refine gwq 24 rfl (by kernel_rfl) fun K hK => ?_
   go_simp
   refine hK _ _ S6.out ?_
   clear hK K
   refine gwq 25 rfl (by kernel_rfl) fun K hK => ?_
   go_simp
   refine hK _ _ S6.out ?_
   clear hK K
   refine gwq 26 rfl (by kernel_rfl) fun K hK => ?_
   go_simp
   refine hK _ _ S6.out ?_
   clear hK K
   refine tkq 27 (.int .i64 1) rfl (by kernel_rfl) (Or.inl ⟨by kernel_rfl, fun w' hw' => by
    skip
    go_simp⟩) S6.out ?_
   refine gwq 28 rfl (by kernel_rfl) fun K hK => ?_
   go_simp
   refine hK _ _ S6.out ?_
   clear hK K
   refine gwq 29 rfl (by kernel_rfl) fun K hK => ?_
   go_simp
   refine hK _ _ S6.out ?_
   clear hK K
   refine tkq 30 undef rfl (by kernel_rfl) (Or.inr ⟨by kernel_rfl, rfl⟩) S6.out ?_
   refine tkq 31 undef rfl (by kernel_rfl) (Or.inr ⟨by kernel_rfl, rfl⟩) S6.out ?_
   refine tkq 32 undef rfl (by kernel_rfl) (Or.inr ⟨by kernel_rfl, rfl⟩) S6.out ?_
   refine tkq 33 undef rfl (by kernel_rfl) (Or.inr ⟨by kernel_rfl, rfl⟩) S6.out ?_
   refine tkq 34 undef rfl (by kernel_rfl) (Or.inr ⟨by kernel_rfl, rfl⟩) S6.out ?_
   refine tkq 35 undef rfl (by kernel_rfl) (Or.inr ⟨by kernel_rfl, rfl⟩) S6.out ?_
   refine tkq 36 undef rfl (by kernel_rfl) (Or.inr ⟨by kernel_rfl, rfl⟩) S6.out ?_
   refine tkq 37 undef rfl (by kernel_rfl) (Or.inr ⟨by kernel_rfl, rfl⟩) S6.out ?_
   refine tkq 38 undef rfl (by kernel_rfl) (Or.inr ⟨by kernel_rfl, rfl⟩) S6.out ?_
   refine tkq 39 undef rfl (by kernel_rfl) (Or.inr ⟨by kernel_rfl, rfl⟩) S6.out ?_
   refine tkq 40 undef rfl (by kernel_rfl) (Or.inr ⟨by kernel_rfl, rfl⟩) S6.out ?_
   refine tkq 41 undef rfl (by kernel_rfl) (Or.inr ⟨by kernel_rfl, rfl⟩) S6.out ?_
   refine tkq 42 undef rfl (by kernel_rfl) (Or.inr ⟨by kernel_rfl, rfl⟩) S6.out ?_
   refine tkq 43 undef rfl (by kernel_rfl) (Or.inr ⟨by kernel_rfl, rfl⟩) S6.out ?_
   refine tkq 44 undef rfl (by kernel_rfl) (Or.inr ⟨by kernel_rfl, rfl⟩) S6.out ?_
   refine tkq 45 undef rfl (by kernel_rfl) (Or.inr ⟨by kernel_rfl, rfl⟩) S6.out ?_
   refine tkq 46 undef rfl (by kernel_rfl) (Or.inr ⟨by kernel_rfl, rfl⟩) S6.out ?_
   refine tkq 47 undef rfl (by kernel_rfl) (Or.inr ⟨by kernel_rfl, rfl⟩) S6.out ?_
   refine tkq 48 undef rfl (by kernel_rfl) (Or.inr ⟨by kernel_rfl, rfl⟩) S6.out ?_
   refine gwq 49 rfl (by kernel_rfl) fun K hK => ?_
   go_simp
   refine hK _ _ S6.out ?_
   clear hK K
   refine gwq 50 rfl (by kernel_rfl) fun K hK => ?_
   go_simp
   refine hK _ _ S6.out ?_
   clear hK K
   refine wpAnyH_done (by kernel_rfl) ?_ _
   unfold onlyN
   dsimp only
   go_wp2_with fail
   go_loopw [20] (fun t wr => ∃ k : Nat, k ≤ 3 ∧ t = .int .i64 (k : Int) ∧ Below wx.heap.size wx wr) (fun t _ => 3 - (intOf t).toNat)
   case atStart => exact ⟨0, Nat.zero_le _, rfl, S6.out⟩
   case round =>
    obtain ⟨k, hk, rfl, hB⟩ := hrel
    rename World => wk
    have BK := Lh hB
    clear hB S6
    by_cases hlt : k < 3
    case neg =>
     have d1 : decide ((k : Int) < 3) = false := decide_eq_false (by omega)
     have d2 : decide (k < 3) = false := decide_eq_false hlt
     have B9 := Lh (BX.out.trans (BK.out.mono BX.out.size))
     have hw := w64s9 i (by have := HI.out; omega)
     clear hk hlt
     go_wp2_with fail
     go_roundw
     case rel => exact ⟨i + 1, HI.out, by go_num, B9.out⟩
     case measure => exact meas9 2 i HI.out (by decide)
    have d1 : decide ((k : Int) < 3) = true := decide_eq_true (by omega)
    have d2 : decide (k < 3) = true := decide_eq_true hlt
    have HK3 := Lh (show k + 1 ≤ 3 by omega)
    obtain ⟨mm, hmm⟩ : ∃ q : Int, q = 4088 + (k : Int) * 7 := ⟨_, rfl⟩
    have e1 : wrap64 ((k : Int) * 7) = (k : Int) * 7 := by unfold wrap64; omega
    have e2 : wrap64 (4088 + (k : Int) * 7) = mm := by rw [hmm]; unfold wrap64; omega
    clear hmm hlt hk
    go_upto_region 15 with fail
    first | rw [e2] | skip
    clear d1 d2 e1 e2
    refine wp_onlyN ?_
    refine wp_region_headsS (fun W' => Below wx.heap.size wx W') [0, 1, 3, 4] 3 (by kernel_rfl) (fun _ _ _ _ _ h => h.elim) (by kernel_rfl) (by rfl) (by rfl) BK.out.drew ?_
    simp only [pickOps, List.filterMap_cons, List.filterMap_nil, List.getElem?_toArray, List.getElem?_cons_zero, List.getElem?_cons_succ]
    refine wpHeads_step (fun K hK => ?_)
    go_simp
    refine ⟨.agg #[.int .i64 id, .int .i64 lim, .bool ro, .slice a2 n c2], fun w' hw' => by
     obtain ⟨⟨y0, y1, y2, y3⟩, -⟩ := bx4 ((hw'.block _ (lt_of_some HB2.out)).trans HB2.out)
     go_simp, hK _ ?_⟩
    clear hK K
    refine wpHeads_step (fun K hK => ?_)
    go_simp
    refine ⟨_, fun _ _ => rfl, hK _ ?_⟩
    clear hK K
    refine wpHeads_step (fun K hK => ?_)
    go_simp
    refine ⟨.agg #[.int .i64 id, .int .i64 lim, .bool ro, .slice a n c], fun w' hw' => by
     obtain ⟨⟨y0, y1, y2, y3⟩, -⟩ := bx4 ((hw'.block _ (lt_of_some HB1.out)).trans HB1.out)
     go_simp, hK _ ?_⟩
    clear hK K
    refine wpHeads_step (fun K hK => ?_)
    go_simp
    refine ⟨_, fun _ _ => rfl, hK _ ?_⟩
    clear hK K
    refine wpHeads_nil ?_
    have S0 := Lh BK.out.drew
    generalize wk.drew = D0 at *
    obtain ⟨fb, hfb⟩ : ∃ q, q = fitsB ⟨id, lim, ro, L⟩ mm := ⟨_, rfl⟩
    have HFB := Lh hfb
    clear hfb
    refine gwq 2 rfl (by kernel_rfl) fun K hK => ?_
    go_simp
    go_at_call 14
    refine (pfits_x id lim ro a2 n c2 L mm D0 HN.out (gl_below GL2.out S0.out) HLN.out HLF.out).mono ?_
    rintro e D1 ⟨rfl, hb⟩
    have S1 := Lh (S0.out.trans (hb.mono S0.out.size))
    rw [← HFB.out]
    refine hK _ _ S1.out ?_
    clear hK K hb S0
    refine gwq 5 rfl (by kernel_rfl) fun K hK => ?_
    go_simp
    go_at_call 15
    refine (rfits_x id lim ro a n c L mm D1 HN.out (gl_below GL1.out S1.out) HLN.out HLF.out).mono ?_
    rintro e D2 ⟨rfl, hb⟩
    have S2 := Lh (S1.out.trans (hb.mono S1.out.size))
    rw [← HFB.out]
    refine hK _ _ S2.out ?_
    clear hK K hb S1
    have d1 : (fb != fb) = false := by cases fb <;> rfl
    have d2 : (!(fb == fb)) = false := by cases fb <;> rfl
    refine gwq 6 rfl (by kernel_rfl) fun K hK => ?_
    go_simp
    refine hK _ _ S2.out ?_
    clear hK K
    clear d1 d2
    refine wpAnyH_done (by kernel_rfl) ?_ _
    unfold onlyN
    dsimp only
    have hw := w64s9 k (by have := HK3.out; omega)
    go_wp2_with fail
    go_roundw
    case rel => exact ⟨k + 1, HK3.out, by go_num, S2.out⟩
    case measure => exact meas9 3 k HK3.out (by decide)
end Go.Proofs.YtgbnclepgjcakaaGreat.Gf
