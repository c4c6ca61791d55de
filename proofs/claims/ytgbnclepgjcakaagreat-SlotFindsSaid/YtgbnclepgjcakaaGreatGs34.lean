/- What is proved here: the walk of SlotFinds. -/
import Derived.Test.YtgbnclepgjcakaaGreatGs33
namespace Go.Proofs.YtgbnclepgjcakaaGreat.Gf
open Go Go.Joins Go.ChangeShapes Go.WideShapes Go.ChangeAt Go.RowKit Go.Deep Go.Proofs.YtgbnclepgjcakaaGreat.By Go.Proofs.YtgbnclepgjcakaaGreat.Qt
set_option maxRecDepth 100000
set_option maxHeartbeats 204800000

theorem bx7 {w : World} {g : Nat} {c0 c1 c2 c3 c4 c5 c6 : Value} {T : TypeId} {fr : Nat × Nat} (h : w.heap[g]? = some (.cells #[c0, c1, c2, c3, c4, c5, c6] T fr)) : w.cell? ⟨g, 0, none⟩ = some c0 ∧ w.cell? ⟨g, 1, none⟩ = some c1 ∧ w.cell? ⟨g, 2, none⟩ = some c2 ∧ w.cell? ⟨g, 3, none⟩ = some c3 ∧ w.cell? ⟨g, 4, none⟩ = some c4 ∧ w.cell? ⟨g, 5, none⟩ = some c5 ∧ w.cell? ⟨g, 6, none⟩ = some c6 :=
 ⟨cell_of_row w g 0 _ _ _ h, cell_of_row w g 1 _ _ _ h, cell_of_row w g 2 _ _ _ h, cell_of_row w g 3 _ _ _ h, cell_of_row w g 4 _ _ _ h, cell_of_row w g 5 _ _ _ h, cell_of_row w g 6 _ _ _ h⟩
theorem pl7_one (pg pm pr : Int) (xi : Itm) : (#[.int .i64 pg, .int .i64 pm, .int .i64 pr, .int .u64 (xi.key : Int), .int .u32 (xi.ck : Int), .int .i64 xi.off, .int .i64 xi.sz] : Array Value).all (·.oneCell') = true := by simp [show ∀ (k : IntKind) (z : Int), (Value.int k z).oneCell' = true from fun _ _ => rfl]
theorem plc_form (s : Slt) (key : Nat) : ∃ (pg pm pr : Int) (xi : Itm), plcV s key = #[.int .i64 pg, .int .i64 pm, .int .i64 pr, .int .u64 (xi.key : Int), .int .u32 (xi.ck : Int), .int .i64 xi.off, .int .i64 xi.sz] := by
 unfold plcV
 split
 ·exact ⟨_, _, _, _, rfl⟩
 ·exact ⟨0, 0, 0, ⟨0, 0, 0, 0⟩, rfl⟩
theorem oldL_len (s : Slt) (key : Nat) (h : s.gens.length ≤ 10000) : (oldL s key).length ≤ 10000 := by
 unfold oldL
 split
 ·exact Nat.le_trans (oldF_len _ _ _) (by omega)
 ·exact Nat.zero_le _
theorem ovI_at {w : World} {B n c q : Nat} {a : Option Addr} {OL : List Int} (h : OwV 3 1 w B (.slice a n c) (rowsI OL)) (hn : n = (rowsI OL).length) (hq : q < n) : ∃ b, a = some ⟨b, 0, none⟩ ∧ w.cell? ⟨b, q, none⟩ = some (.int .i64 (OL.getD q 0)) := by
 obtain ⟨b, c2, hv, -, hs⟩ := ov_src h (by omega)
 obtain ⟨rfl, -, -⟩ : a = some ⟨b, 0, none⟩ ∧ n = (rowsI OL).length ∧ c = c2 := by simpa using hv
 refine ⟨b, rfl, ?_⟩
 have h1 := hs q 0 (by omega) (by decide)
 have hl : q < OL.length := by
  have : (rowsI OL).length = OL.length := by simp [rowsI]
  omega
 rw [show 0 + (q * 1 + 0) = q by omega] at h1
 rw [h1]
 simp [rowsI, List.getD_eq_getElem?_getD, List.getElem?_eq_getElem hl]
theorem slotfinds_walk (vr va : Value) (sr : Slt) (na : Nat) (key : Nat) (w : World) (hr : Sv w vr sr) (ha : Al w va na) (hk : key < 18446744073709551616) : Calls Tryz.prog 4 #[vr, va, .int .u64 (key : Int)] w fun e w' => e = .returned (.bool true) ∧ Below w.heap.size w w' := by
 obtain ⟨id0, lim0, ro0, L0⟩ := sr
 obtain ⟨gv0, rfl, hg0, hj0⟩ := hr
 obtain ⟨a0, c0, rfl, -⟩ := gl_form hg0
 simp only at hg0 hj0 ⊢
 obtain ⟨n0, hn0⟩ : ∃ q, q = L0.length := ⟨_, rfl⟩
 rw [← hn0] at hg0 ⊢
 have HAL := Lh ha
 obtain ⟨aa, ca, rfl, -⟩ := ha
 obtain ⟨k7, hk7⟩ : ∃ q, q = key % 8 := ⟨_, rfl⟩
 obtain ⟨k1, hk1⟩ : ∃ q, q = key % 2 := ⟨_, rfl⟩
 have EK := Lh (show bits .and .u64 (key : Int) 7 = (k7 : Int) ∧ bits .and .u64 (key : Int) 1 = (k1 : Int) from ⟨by rw [hk7]; exact and_low64 key hk 3 (by decide), by rw [hk1]; exact and_low64 key hk 1 (by decide)⟩)
 have HK78 := Lh (show k7 < 18446744073709551616 ∧ k1 < 18446744073709551616 by omega)
 have hb := bel_al w (.cells #[.int .i64 id0, .int .i64 lim0, .bool ro0, .slice a0 n0 c0] 24)
 have HR := Lh (heap_alloc_new w (.cells #[.int .i64 id0, .int .i64 lim0, .bool ro0, .slice a0 n0 c0] 24))
 have BW0 := Lh hb
 have HG0 := Lh (gl_below hg0 hb)
 have HJ0 := Lh hj0
 have HN0 := Lh hn0
 have HKY := Lh hk
 clear hb hg0 hj0 hn0 hk hk7 hk1
 go_enter Tryz.func4, Tryz.ntmps4
 go_upto_region 1 with fail
 generalize w.alloc (.cells #[.int .i64 id0, .int .i64 lim0, .bool ro0, .slice a0 n0 c0] 24) = W0 at *
 obtain ⟨⟨y0, y1, y2, y3⟩, -⟩ := bx4 HR.out
 go_wp2_with fail
 clear y0 y1 y2 y3
 refine (light13_any (.agg #[.int .i64 id0, .int .i64 lim0, .bool ro0, .slice a0 n0 c0]) ⟨id0, lim0, ro0, L0⟩ W0 ⟨.slice a0 n0 c0, rfl, HG0.out, HJ0.out⟩).mono ?_
 rintro e W1 ⟨⟨q, rfl, hq⟩, hb⟩
 have BW1 := Lh (BW0.out.trans (hb.mono BW0.out.size))
 have HR1 := Lh ((hb.block _ (lt_of_some HR.out)).trans HR.out)
 have HG01 := Lh (gl_below HG0.out hb)
 have HAL1 := Lh (al_below HAL.out BW1.out)
 have HQ := Lh hq
 clear hb BW0 HR HG0 hq
 cases q
 case false =>
  go_wp2_with fail
  refine (awake13_any W1).mono ?_
  rintro e W2 ⟨rfl, hb⟩
  have B2 := Lh (BW1.out.trans (hb.mono BW1.out.size))
  clear hb
  go_wp2_with fail
  go_ret
  exact ⟨rfl, B2.out⟩
 have HL0 := Lh ((HQ.out rfl).1)
 have H640 := Lh ((HQ.out rfl).2.2)
 clear HQ
 go_upto_region 3 with fail
 refine wp_onlyN ?_
 refine wp_region_headsS (fun W' => Below W1.heap.size W1 W') [0, 1, 5] 3 (by kernel_rfl) (fun _ _ _ _ _ h => h.elim) (by kernel_rfl) (by rfl) (by rfl) (Below.refl W1.heap.size W1).drew ?_
 simp only [pickOps, List.filterMap_cons, List.filterMap_nil, List.getElem?_toArray, List.getElem?_cons_zero, List.getElem?_cons_succ]
 refine wpHeads_step (fun K hK => ?_)
 go_simp
 refine ⟨.agg #[.int .i64 id0, .int .i64 lim0, .bool ro0, .slice a0 n0 c0], fun w' hw' => by
  obtain ⟨⟨y0, y1, y2, y3⟩, -⟩ := bx4 ((hw'.block _ (lt_of_some HR1.out)).trans HR1.out)
  go_simp, hK _ ?_⟩
 clear hK K
 refine wpHeads_step (fun K hK => ?_)
 go_simp
 refine ⟨_, fun _ _ => rfl, hK _ ?_⟩
 clear hK K
 refine wpHeads_step (fun K hK => ?_)
 go_simp
 refine ⟨_, fun _ _ => rfl, hK _ ?_⟩
 clear hK K
 refine wpHeads_nil ?_
 have S0 := Lh (Below.refl W1.heap.size W1).drew
 generalize W1.drew = D0 at *
 refine gwr 2 fun K hK => ?_
 go_simp
 go_at_call 8
 refine (made_any (.slice aa na ca) na D0 (al_below HAL1.out S0.out)).mono ?_
 rintro e D1 ⟨⟨vm, sm, rfl, hsm, hokm, hlm, h641⟩, hb⟩
 obtain ⟨id1, lim1, ro1, L1⟩ := sm
 obtain ⟨gv1, rfl, hg1, hj1⟩ := hsm
 obtain ⟨a1, c1, rfl, -⟩ := gl_form hg1
 simp only at hg1 hj1 ⊢
 obtain ⟨n1, hn1⟩ : ∃ q, q = L1.length := ⟨_, rfl⟩
 rw [← hn1] at hg1 ⊢
 have HN1 := Lh hn1
 have HG1 := Lh hg1
 have HJ1 := Lh hj1
 have HL1 := Lh hlm
 have H641 := Lh h641
 have S1 := Lh (S0.out.trans (hb.mono S0.out.size))
 refine hK _ _ S1.out ?_
 clear hK K hb S0 hg1 hj1 hlm hokm hn1 h641
 refine gwr 3 fun K hK => ?_
 go_simp
 have hb := bel_al D1 (.cells #[.int .i64 id0, .int .i64 lim0, .bool ro0, .slice a0 n0 c0, .int .i64 id1, .int .i64 lim1, .bool ro1, .slice a1 n1 c1] 24)
 have hbk := heap_alloc_new D1 (.cells #[.int .i64 id0, .int .i64 lim0, .bool ro0, .slice a0 n0 c0, .int .i64 id1, .int .i64 lim1, .bool ro1, .slice a1 n1 c1] 24)
 obtain ⟨D2, hX⟩ : ∃ Y, Y = D1.alloc (.cells #[.int .i64 id0, .int .i64 lim0, .bool ro0, .slice a0 n0 c0, .int .i64 id1, .int .i64 lim1, .bool ro1, .slice a1 n1 c1] 24) := ⟨_, rfl⟩
 rw [← hX] at hb hbk ⊢
 clear hX
 have S2 := Lh (S1.out.trans (hb.mono S1.out.size))
 have HBK := Lh hbk
 have HG2 := Lh (gl_below HG1.out hb)
 refine hK _ _ S2.out ?_
 clear hK K hb hbk S1 HG1
 generalize D1.heap.size = g at *
 refine gwr 4 fun K hK => ?_
 go_simp
 refine hK _ _ S2.out ?_
 clear hK K
 refine wpAnyH_done (by kernel_rfl) ?_ _
 unfold onlyN
 dsimp only
 have HALL := Lh (show ∀ i, i < 2 → ∃ (id lim : Int) (ro : Bool) (a : Option Addr) (n c : Nat) (L : List Ge), n = L.length ∧ Gl D2 (.slice a n c) L ∧ (J64 id ∧ J64 lim) ∧ n ≤ 10000 ∧ (∀ x ∈ L, LGe x) ∧ (∀ x ∈ L, x.m.st.flatten.length ≤ 64) ∧ D2.cell? ⟨g, i * 4, none⟩ = some (.int .i64 id) ∧ D2.cell? ⟨g, i * 4 + 1, none⟩ = some (.int .i64 lim) ∧ D2.cell? ⟨g, i * 4 + 2, none⟩ = some (.bool ro) ∧ D2.cell? ⟨g, i * 4 + 3, none⟩ = some (.slice a n c) from fun i hi => by
  obtain rfl | rfl : i = 0 ∨ i = 1 := by omega
  ·exact ⟨id0, lim0, ro0, a0, n0, c0, L0, HN0.out, gl_below HG01.out S2.out, HJ0.out, by have := HL0.out.1; have := HN0.out; simp only at *; omega, HL0.out.2, H640.out, cell_of_row _ g 0 _ _ _ HBK.out, cell_of_row _ g 1 _ _ _ HBK.out, cell_of_row _ g 2 _ _ _ HBK.out, cell_of_row _ g 3 _ _ _ HBK.out⟩
  ·exact ⟨id1, lim1, ro1, a1, n1, c1, L1, HN1.out, HG2.out, HJ1.out, by have := HL1.out.1; have := HN1.out; simp only at *; omega, HL1.out.2, H641.out, cell_of_row _ g 4 _ _ _ HBK.out, cell_of_row _ g 5 _ _ _ HBK.out, cell_of_row _ g 6 _ _ _ HBK.out, cell_of_row _ g 7 _ _ _ HBK.out⟩)
 have BW2 := Lh (BW1.out.trans (S2.out.mono BW1.out.size))
 clear HBK HG2 HG01 HJ0 HJ1 HL0 HL1 HN0 HN1 HR1 S2 H640 H641
 go_wp2_with fail
 go_loopw [27] (fun t wr => ∃ i : Nat, i ≤ 2 ∧ t = .int .i64 (i : Int) ∧ Below D2.heap.size D2 wr) (fun t _ => 2 - (intOf t).toNat)
 case atStart => exact ⟨0, Nat.zero_le _, rfl, Below.refl _ _⟩
 case round =>
  obtain ⟨i, hi, rfl, hB⟩ := hrel
  rename World => wl
  have BB := Lh hB
  clear hB
  by_cases hlt : i < 2
  case neg =>
   obtain rfl : i = 2 := by omega
   rw [show ((2 : Nat) : Int) = 2 from rfl]
   have d1 : decide ((2 : Int) < 2) = false := by decide
   have BW3 := Lh (BW2.out.trans (BB.out.mono BW2.out.size))
   clear hi hlt BB BW2 HALL
   go_wp2_with fail
   refine (awake13_any wl).mono ?_
   rintro e W4 ⟨rfl, hb⟩
   have B4 := Lh (BW3.out.trans (hb.mono BW3.out.size))
   clear hb
   go_wp2_with fail
   go_ret
   exact ⟨rfl, B4.out⟩
  obtain ⟨id, lim, ro, a, n, c, L, hn, hgl, hj, hln, hlf, h64, q0, q1, q2, q3⟩ := HALL.out i hlt
  have d1 : decide ((i : Int) < 2) = true := decide_eq_true (by omega)
  have d2 : decide (i < 2) = true := decide_eq_true hlt
  have HI := Lh (show i + 1 ≤ 2 by omega)
  have HN := Lh hn
  have HLN := Lh hln
  have HLF := Lh hlf
  have HL64 := Lh h64
  have HJ := Lh hj
  have GLb := Lh (gl_below hgl BB.out)
  have x0 := (BB.out.cell (p := ⟨g, i * 4, none⟩) (block_lt_of_cell q0)).trans q0
  have x1 := (BB.out.cell (p := ⟨g, i * 4 + 1, none⟩) (block_lt_of_cell q1)).trans q1
  have x2 := (BB.out.cell (p := ⟨g, i * 4 + 2, none⟩) (block_lt_of_cell q2)).trans q2
  have x3 := (BB.out.cell (p := ⟨g, i * 4 + 3, none⟩) (block_lt_of_cell q3)).trans q3
  have p0 : (0 : Int) ≤ (i : Int) := by omega
  have p1 : (i : Int) < 2 := by omega
  have hz := heap_alloc_new wl (.cells #[.int .i64 0, .int .i64 0, .bool false, .slice none 0 0] 24)
  clear hn hgl hj hln hlf h64 q0 q1 q2 q3 hlt hi
  go_upto_region 6 with ((with_reducible refine storeRS wl.heap.size _ #[.int .i64 id, .int .i64 lim, .bool ro, .slice a n c] ?_ ?_ hz rfl rfl lv_one ?_); exact rfl; exact rfl)
  rw [World.setRow_alloc_new]
  clear x0 x1 x2 x3 p0 p1 d1 d2
  have hb := bel_al wl (.cells #[.int .i64 id, .int .i64 lim, .bool ro, .slice a n c] 24)
  have HBa := Lh (heap_alloc_new wl (.cells #[.int .i64 id, .int .i64 lim, .bool ro, .slice a n c] 24))
  have GLa := Lh (gl_below GLb.out hb)
  have BXa := Lh (BB.out.trans (hb.mono BB.out.size))
  clear hb hz GLb BB
  generalize wl.alloc (.cells #[.int .i64 id, .int .i64 lim, .bool ro, .slice a n c] 24) = V0 at *
  generalize wl.heap.size = gs1 at *
  have e7 := EK.out.1
  have e1 := EK.out.2
  go_upto_region 7 with fail
  first | rw [e7] | skip
  first | rw [e1] | skip
  clear e7 e1
  have hb := bel_al V0 (.cells #[.int .u64 (key : Int), .int .u64 (k7 : Int), .int .u64 (k1 : Int)] 26)
  have HKB := Lh (heap_alloc_new V0 (.cells #[.int .u64 (key : Int), .int .u64 (k7 : Int), .int .u64 (k1 : Int)] 26))
  have HB0 := Lh ((hb.block _ (lt_of_some HBa.out)).trans HBa.out)
  have GL0 := Lh (gl_below GLa.out hb)
  have BX0 := Lh (BXa.out.trans (hb.mono BXa.out.size))
  clear hb HBa GLa BXa
  generalize V0.alloc (.cells #[.int .u64 (key : Int), .int .u64 (k7 : Int), .int .u64 (k1 : Int)] 26) = wk at *
  generalize V0.heap.size = gk at *
  have HKS := Lh (show ∀ j, j < 3 → ∃ kk : Nat, kk < 18446744073709551616 ∧ wk.cell? ⟨gk, j, none⟩ = some (.int .u64 (kk : Int)) from fun j hj => by
   obtain rfl | rfl | rfl : j = 0 ∨ j = 1 ∨ j = 2 := by omega
   ·exact ⟨key, HKY.out, cell_of_row _ gk 0 _ _ _ HKB.out⟩
   ·exact ⟨k7, HK78.out.1, cell_of_row _ gk 1 _ _ _ HKB.out⟩
   ·exact ⟨k1, HK78.out.2, cell_of_row _ gk 2 _ _ _ HKB.out⟩)
  clear HKB
  go_loopw [38] (fun t wr => ∃ j : Nat, j ≤ 3 ∧ t = .int .i64 (j : Int) ∧ Below wk.heap.size wk wr) (fun t _ => 3 - (intOf t).toNat)
  case atStart => exact ⟨0, Nat.zero_le _, rfl, Below.refl _ _⟩
  case round =>
   obtain ⟨j, hj, rfl, hB⟩ := hrel
   rename World => wj
   have BJ := Lh hB
   clear hB
   by_cases hlt : j < 3
   case neg =>
    obtain rfl : j = 3 := by omega
    rw [show ((3 : Nat) : Int) = 3 from rfl]
    have d1 : decide ((3 : Int) < 3) = false := by decide
    have HB1 := Lh ((BJ.out.block _ (lt_of_some HB0.out)).trans HB0.out)
    have GL1 := Lh (gl_below GL0.out BJ.out)
    clear hj hlt
    go_upto_region 23 with fail
    clear d1
    refine wp_onlyN ?_
    refine wp_region_headsS (fun W' => Below wj.heap.size wj W') [0, 3] 5 (by kernel_rfl) (fun _ _ _ _ _ h => h.elim) (by kernel_rfl) (by rfl) (by rfl) (Below.refl wj.heap.size wj).drew ?_
    simp only [pickOps, List.filterMap_cons, List.filterMap_nil, List.getElem?_toArray, List.getElem?_cons_zero, List.getElem?_cons_succ]
    refine wpHeads_step (fun K hK => ?_)
    go_simp
    refine ⟨.agg #[.int .i64 id, .int .i64 lim, .bool ro, .slice a n c], fun w' hw' => by
     obtain ⟨⟨y0, y1, y2, y3⟩, -⟩ := bx4 ((hw'.block _ (lt_of_some HB1.out)).trans HB1.out)
     go_simp, hK _ ?_⟩
    clear hK K
    refine wpHeads_step (fun K hK => ?_)
    go_simp
    refine ⟨.agg #[.int .i64 id, .int .i64 lim, .bool ro, .slice a n c], fun w' hw' => by
     obtain ⟨⟨y0, y1, y2, y3⟩, -⟩ := bx4 ((hw'.block _ (lt_of_some HB1.out)).trans HB1.out)
     go_simp, hK _ ?_⟩
    clear hK K
    refine wpHeads_nil ?_
    have S0 := Lh (Below.refl wj.heap.size wj).drew
    generalize wj.drew = D0 at *
    refine gwr 1 fun K hK => ?_
    go_simp
    go_at_call 9
    refine (given_any (.agg #[.int .i64 id, .int .i64 lim, .bool ro, .slice a n c]) ⟨id, lim, ro, L⟩ D0 ⟨.slice a n c, rfl, gl_below GL1.out S0.out, HJ.out⟩ (by have := HLN.out; have := HN.out; simp only; omega)).mono ?_
    rintro e D1 ⟨⟨v2, rfl, hsv⟩, hb⟩
    obtain ⟨gv, rfl, hg2, -⟩ := hsv
    obtain ⟨a2, c2, rfl, -⟩ := gl_form hg2
    simp only at hg2 ⊢
    rw [← HN.out] at hg2 ⊢
    have GVa := Lh hg2
    have S1 := Lh (S0.out.trans (hb.mono S0.out.size))
    refine hK _ _ S1.out ?_
    clear hK K hb hg2 S0
    refine gwr 2 fun K hK => ?_
    go_simp
    go_at_call 29
    refine (psitems_x id lim ro a2 n c2 L D1 HN.out GVa.out HLN.out HLF.out HL64.out).mono ?_
    rintro e D2 ⟨⟨vo, rfl, hvo⟩, hb⟩
    have S2 := Lh (S1.out.trans (hb.mono S1.out.size))
    have HVO := Lh hvo
    refine hK _ _ S2.out ?_
    clear hK K hb S1 hvo
    refine gwr 4 fun K hK => ?_
    go_simp
    go_at_call 30
    refine (rsitems_x id lim ro a n c L D2 HN.out (gl_below GL1.out S2.out) HLN.out HLF.out HL64.out).mono ?_
    rintro e D3 ⟨⟨vr, rfl, hvr⟩, hb⟩
    have S3 := Lh (S2.out.trans (hb.mono S2.out.size))
    have HVO3 := Lh (it_below HVO.out hb)
    have HVR := Lh hvr
    refine hK _ _ S3.out ?_
    clear hK K hb S2 hvr HVO
    refine gwr 5 fun K hK => ?_
    go_simp
    go_at_call 28
    refine (rsame8_any vo vr (itS ⟨id, lim, ro, L⟩) (itS ⟨id, lim, ro, L⟩) D3 HVO3.out HVR.out).mono ?_
    rintro e D4 ⟨rfl, hb⟩
    rw [decide_eq_true rfl]
    have S4 := Lh (S3.out.trans (hb.mono S3.out.size))
    refine hK _ _ S4.out ?_
    clear hK K hb S3
    refine gwr 6 fun K hK => ?_
    go_simp
    refine hK _ _ S4.out ?_
    clear hK K
    refine wpAnyH_done (by kernel_rfl) ?_ _
    unfold onlyN
    dsimp only
    have B9 := Lh (BX0.out.trans ((BJ.out.trans (S4.out.mono BJ.out.size)).mono BX0.out.size))
    have hw := w64s9 i (by have := HI.out; omega)
    go_wp2_with fail
    go_roundw
    case rel => exact ⟨i + 1, HI.out, by go_num, B9.out⟩
    case measure => exact meas9 2 i HI.out (by decide)
   have d1 : decide ((j : Int) < 3) = true := decide_eq_true (by omega)
   have d2 : decide (j < 3) = true := decide_eq_true hlt
   have HJ3 := Lh (show j + 1 ≤ 3 by omega)
   have p0 : (0 : Int) ≤ (j : Int) := by omega
   have p1 : (j : Int) < 3 := by omega
   obtain ⟨kk, hkk, q0⟩ := HKS.out j hlt
   have y9 := (BJ.out.cell (p := ⟨gk, j, none⟩) (block_lt_of_cell q0)).trans q0
   have HB1 := Lh ((BJ.out.block _ (lt_of_some HB0.out)).trans HB0.out)
   have GL1 := Lh (gl_below GL0.out BJ.out)
   have BXj := Lh BJ.out
   obtain ⟨⟨y0, y1, y2, y3⟩, -⟩ := bx4 HB1.out
   clear hkk q0 hlt hj BJ
   go_wp2_with fail
   clear d1 d2 p0 p1 y9
   clear y0 y1 y2 y3
   refine (given_any (.agg #[.int .i64 id, .int .i64 lim, .bool ro, .slice a n c]) ⟨id, lim, ro, L⟩ wj ⟨.slice a n c, rfl, GL1.out, HJ.out⟩ (by have := HLN.out; have := HN.out; simp only; omega)).mono ?_
   rintro e V1 ⟨⟨v2, rfl, hsv⟩, hb⟩
   obtain ⟨gv, rfl, hg2, -⟩ := hsv
   obtain ⟨a2, c2, rfl, -⟩ := gl_form hg2
   simp only at hg2 ⊢
   rw [← HN.out] at hg2 ⊢
   have GVp := Lh hg2
   have S1 := Lh hb
   clear hb hg2
   go_wp2_with fail
   refine (pfind_x id lim ro a2 n c2 L kk V1 HN.out GVp.out HLN.out HLF.out).mono ?_
   rintro e V2 ⟨rfl, hb⟩
   obtain ⟨pg, pm, pr, xi, hplc⟩ := plc_form ⟨id, lim, ro, L⟩ kk
   obtain ⟨pb, hpb⟩ : ∃ q, q = plcB ⟨id, lim, ro, L⟩ kk := ⟨_, rfl⟩
   rw [hplc, ← hpb]
   have HPL := Lh hplc
   have HPB := Lh hpb
   have S2 := Lh (S1.out.trans (hb.mono S1.out.size))
   have hz := heap_alloc_new V2 (.cells #[.int .i64 0, .int .i64 0, .int .i64 0, .int .u64 0, .int .u32 0, .int .i64 0, .int .i64 0] 66)
   clear hb S1 GVp hplc hpb
   go_upto_region 10 with ((with_reducible refine storeP V2.heap.size _ #[.int .i64 pg, .int .i64 pm, .int .i64 pr, .int .u64 (xi.key : Int), .int .u32 (xi.ck : Int), .int .i64 xi.off, .int .i64 xi.sz] ?_ ?_ hz rfl rfl (pl7_one _ _ _ _) ?_); exact rfl; exact rfl)
   rw [World.setRow_alloc_new]
   have hb := bel_al V2 (.cells #[.int .i64 pg, .int .i64 pm, .int .i64 pr, .int .u64 (xi.key : Int), .int .u32 (xi.ck : Int), .int .i64 xi.off, .int .i64 xi.sz] 66)
   have HP3 := Lh (heap_alloc_new V2 (.cells #[.int .i64 pg, .int .i64 pm, .int .i64 pr, .int .u64 (xi.key : Int), .int .u32 (xi.ck : Int), .int .i64 xi.off, .int .i64 xi.sz] 66))
   have S3 := Lh (S2.out.trans (hb.mono S2.out.size))
   clear hb hz S2
   generalize V2.alloc (.cells #[.int .i64 pg, .int .i64 pm, .int .i64 pr, .int .u64 (xi.key : Int), .int .u32 (xi.ck : Int), .int .i64 xi.off, .int .i64 xi.sz] 66) = V3 at *
   generalize V2.heap.size = gp at *
   obtain ⟨⟨y0, y1, y2, y3⟩, -⟩ := bx4 ((S3.out.block _ (lt_of_some HB1.out)).trans HB1.out)
   go_wp2_with fail
   clear y0 y1 y2 y3
   refine (rsfind_x id lim ro a n c L kk V3 HN.out (gl_below GL1.out S3.out) HLN.out HLF.out).mono ?_
   rintro e V4 ⟨rfl, hb⟩
   rw [HPL.out, ← HPB.out]
   have S4 := Lh (S3.out.trans (hb.mono S3.out.size))
   have HP4 := Lh ((hb.block _ (lt_of_some HP3.out)).trans HP3.out)
   have hz := heap_alloc_new V4 (.cells #[.int .i64 0, .int .i64 0, .int .i64 0, .int .u64 0, .int .u32 0, .int .i64 0, .int .i64 0] 69)
   clear hb S3 HP3
   go_upto_region 11 with ((with_reducible refine storeRP V4.heap.size _ #[.int .i64 pg, .int .i64 pm, .int .i64 pr, .int .u64 (xi.key : Int), .int .u32 (xi.ck : Int), .int .i64 xi.off, .int .i64 xi.sz] ?_ ?_ hz rfl rfl (pl7_one _ _ _ _) ?_); exact rfl; exact rfl)
   rw [World.setRow_alloc_new]
   have hb := bel_al V4 (.cells #[.int .i64 pg, .int .i64 pm, .int .i64 pr, .int .u64 (xi.key : Int), .int .u32 (xi.ck : Int), .int .i64 xi.off, .int .i64 xi.sz] 69)
   have HR5 := Lh (heap_alloc_new V4 (.cells #[.int .i64 pg, .int .i64 pm, .int .i64 pr, .int .u64 (xi.key : Int), .int .u32 (xi.ck : Int), .int .i64 xi.off, .int .i64 xi.sz] 69))
   have HP5 := Lh ((hb.block _ (lt_of_some HP4.out)).trans HP4.out)
   have S8 := Lh (S4.out.trans (hb.mono S4.out.size))
   clear hb hz S4 HP4
   generalize V4.alloc (.cells #[.int .i64 pg, .int .i64 pm, .int .i64 pr, .int .u64 (xi.key : Int), .int .u32 (xi.ck : Int), .int .i64 xi.off, .int .i64 xi.sz] 69) = V8 at *
   generalize V4.heap.size = gr at *
   obtain ⟨x0, x1, x2, x3, x4, x5, x6⟩ := bx7 HP5.out
   obtain ⟨z0, z1, z2, z3, z4, z5, z6⟩ := bx7 HR5.out
   have hneq : ∀ W : World, (binOp .neq 64 (.agg #[.int .u64 (xi.key : Int), .int .u32 (xi.ck : Int), .int .i64 xi.off, .int .i64 xi.sz]) (.agg #[.int .u64 (xi.key : Int), .int .u32 (xi.ck : Int), .int .i64 xi.off, .int .i64 xi.sz])).run Tryz.prog W = .ok (.bool false) W := fun W => by
    have h1 := neqT xi xi W
    rw [decide_eq_true rfl] at h1
    exact h1
   have d3 : (pb != pb) = false := by cases pb <;> rfl
   have d4 : (!(pb == pb)) = false := by cases pb <;> rfl
   go_upto_region 13 with fail
   clear d3 d4 hneq
   clear x0 x1 x2 x3 x4 x5 x6 z0 z1 z2 z3 z4 z5 z6
   refine wp_onlyN ?_
   refine wp_region_headsS (fun W' => Below wj.heap.size wj W') [0, 2, 4, 5] 5 (by kernel_rfl) (fun _ _ _ _ _ h => h.elim) (by kernel_rfl) (by rfl) (by rfl) S8.out.drew ?_
   simp only [pickOps, List.filterMap_cons, List.filterMap_nil, List.getElem?_toArray, List.getElem?_cons_zero, List.getElem?_cons_succ]
   refine wpHeads_step (fun K hK => ?_)
   go_simp
   refine ⟨.agg #[.int .i64 id, .int .i64 lim, .bool ro, .slice a n c], fun w' hw' => by
    obtain ⟨⟨y0, y1, y2, y3⟩, -⟩ := bx4 ((hw'.block _ (lt_of_some HB1.out)).trans HB1.out)
    go_simp, hK _ ?_⟩
   clear hK K
   refine wpHeads_step (fun K hK => ?_)
   go_simp
   refine ⟨_, fun _ _ => rfl, hK _ ?_⟩
   clear hK K
   refine wpHeads_step (fun K hK => ?_)
   go_simp
   refine ⟨.agg #[.int .i64 id, .int .i64 lim, .bool ro, .slice a n c], fun w' hw' => by
    obtain ⟨⟨y0, y1, y2, y3⟩, -⟩ := bx4 ((hw'.block _ (lt_of_some HB1.out)).trans HB1.out)
    go_simp, hK _ ?_⟩
   clear hK K
   refine wpHeads_step (fun K hK => ?_)
   go_simp
   refine ⟨_, fun _ _ => rfl, hK _ ?_⟩
   clear hK K
   refine wpHeads_nil ?_
   have S0 := Lh S8.out.drew
   generalize V8.drew = D0 at *
   refine gwr 1 fun K hK => ?_
   go_simp
   go_at_call 9
   refine (given_any (.agg #[.int .i64 id, .int .i64 lim, .bool ro, .slice a n c]) ⟨id, lim, ro, L⟩ D0 ⟨.slice a n c, rfl, gl_below GL1.out S0.out, HJ.out⟩ (by have := HLN.out; have := HN.out; simp only; omega)).mono ?_
   rintro e D1 ⟨⟨v2, rfl, hsv⟩, hb⟩
   obtain ⟨gv, rfl, hg2, -⟩ := hsv
   obtain ⟨a2, c2, rfl, -⟩ := gl_form hg2
   simp only at hg2 ⊢
   rw [← HN.out] at hg2 ⊢
   have GVa := Lh hg2
   have S1 := Lh (S0.out.trans (hb.mono S0.out.size))
   refine hK _ _ S1.out ?_
   clear hK K hb hg2 S0
   refine gwr 3 fun K hK => ?_
   go_simp
   go_at_call 26
   refine (psolder_x id lim ro a2 n c2 L kk D1 HN.out GVa.out HLN.out HLF.out).mono ?_
   rintro e D2 ⟨⟨vo, Bo, rfl, hvo⟩, hb⟩
   have S2 := Lh (S1.out.trans (hb.mono S1.out.size))
   have HVO := Lh hvo
   refine hK _ _ S2.out ?_
   clear hK K hb S1 hvo
   refine gwr 6 fun K hK => ?_
   go_simp
   go_at_call 27
   refine (rsolder_x id lim ro a n c L kk D2 HN.out (gl_below GL1.out S2.out) HLN.out HLF.out).mono ?_
   rintro e D3 ⟨⟨vr, Br, rfl, hvr⟩, hb⟩
   have S3 := Lh (S2.out.trans (hb.mono S2.out.size))
   have HVO3 := Lh (ov_below HVO.out hb)
   have HVR := Lh hvr
   refine hK _ _ S3.out ?_
   clear hK K hb S2 hvr HVO
   refine gwr 7 fun K hK => ?_
   go_simp
   refine hK _ _ S3.out ?_
   clear hK K
   refine gwr 8 fun K hK => ?_
   go_simp
   refine hK _ _ S3.out ?_
   clear hK K
   refine wpAnyH_done (by kernel_rfl) ?_ _
   unfold onlyN
   dsimp only
   obtain ⟨OL, hOL⟩ : ∃ q, q = oldL ⟨id, lim, ro, L⟩ kk := ⟨_, rfl⟩
   have HVO := Lh HVO3.out
   have HOL := Lh hOL.symm
   have hvo := HVO3.out
   have hvr := HVR.out
   rw [HOL.out] at hvo hvr
   have HO1 := Lh hvo
   have HO2 := Lh hvr
   have HOB := Lh (show OL.length ≤ 10000 from by rw [hOL]; exact oldL_len ⟨id, lim, ro, L⟩ kk (by have := HN.out; have := HLN.out; simp only; omega))
   obtain ⟨ao, co, hvof, -, -⟩ := ov_form HO1.out
   obtain ⟨ar, cr, hvrf, -, -⟩ := ov_form HO2.out
   obtain ⟨no, hno⟩ : ∃ q, q = (rowsI OL).length := ⟨_, rfl⟩
   rw [← hno] at hvof hvrf
   subst hvof hvrf
   have HNO := Lh hno
   have HNL := Lh (show no = OL.length from by rw [hno]; simp [rowsI])
   clear hvo hvr HVO HVO3 HVR HOL hOL hno
   have q1 : ((no : Int) != (no : Int)) = false := by simp
   go_upto_region 17 with fail
   clear q1
   go_loopw [17, 100] (fun _ t wr => ∃ i : Nat, i ≤ no ∧ t = .int .i64 (i : Int) ∧ Below D3.heap.size D3 wr) (fun _ t _ => no - (intOf t).toNat)
   case atStart => exact ⟨0, Nat.zero_le _, rfl, Below.refl _ _⟩
   case round =>
    obtain ⟨q, hq, rfl, hB⟩ := hrel
    rename World => wq
    have BQ := Lh hB
    clear hB
    by_cases hlt : q < no
    case neg =>
     obtain rfl : q = no := by omega
     have d1 : decide ((q : Int) < (q : Int)) = false := decide_eq_false (by omega)
     have B9 := Lh (BXj.out.trans ((S3.out.trans (BQ.out.mono S3.out.size)).mono BXj.out.size))
     have hw := w64s9 j (by have := HJ3.out; omega)
     clear hq hlt
     go_wp2_with fail
     go_roundw
     case rel => exact ⟨j + 1, HJ3.out, by go_num, B9.out⟩
     case measure => exact meas9 3 j HJ3.out (by decide)
    have d1 : decide ((q : Int) < (no : Int)) = true := decide_eq_true (by omega)
    have d2 : decide (q < no) = true := decide_eq_true hlt
    have HQ := Lh hlt
    have p0 : (0 : Int) ≤ (q : Int) := by omega
    have p1 : (q : Int) < (no : Int) := by omega
    obtain ⟨bo, rfl, w1⟩ := ovI_at HO1.out HNO.out hlt
    obtain ⟨br, rfl, w2⟩ := ovI_at HO2.out HNO.out hlt
    have HW1 := Lh ((BQ.out.cell (p := ⟨bo, q, none⟩) (block_lt_of_cell w1)).trans w1)
    have HW2 := Lh ((BQ.out.cell (p := ⟨br, q, none⟩) (block_lt_of_cell w2)).trans w2)
    generalize OL.getD q 0 = oq at *
    clear hlt hq w1 w2
    go_upto_region 19 with fail
    clear d1 d2
    refine wp_onlyN ?_
    refine wp_region_headsS (fun W' => Below wq.heap.size wq W') [0, 1, 2, 3, 4, 5, 6, 7] 1 (by kernel_rfl) (fun _ _ _ _ _ h => h.elim) (by kernel_rfl) (by rfl) (by rfl) (Below.refl wq.heap.size wq).drew ?_
    simp only [pickOps, List.filterMap_cons, List.filterMap_nil, List.getElem?_toArray, List.getElem?_cons_zero, List.getElem?_cons_succ]
    refine wpHeads_step (fun K hK => ?_)
    go_simp
    refine ⟨_, fun _ _ => rfl, hK _ ?_⟩
    clear hK K
    refine wpHeads_step (fun K hK => ?_)
    go_simp
    refine ⟨_, fun _ _ => rfl, hK _ ?_⟩
    clear hK K
    refine wpHeads_step (fun K hK => ?_)
    go_simp
    refine ⟨.pointer (some ⟨bo, q, none⟩), fun w' hw' => by
     skip
     go_simp, hK _ ?_⟩
    clear hK K
    refine wpHeads_step (fun K hK => ?_)
    go_simp
    refine ⟨.int .i64 oq, fun w' hw' => by
     have h := (hw'.cell (p := ⟨bo, q, none⟩) (block_lt_of_cell HW1.out)).trans HW1.out
     go_simp, hK _ ?_⟩
    clear hK K
    refine wpHeads_step (fun K hK => ?_)
    go_simp
    refine ⟨_, fun _ _ => rfl, hK _ ?_⟩
    clear hK K
    refine wpHeads_step (fun K hK => ?_)
    go_simp
    refine ⟨_, fun _ _ => rfl, hK _ ?_⟩
    clear hK K
    refine wpHeads_step (fun K hK => ?_)
    go_simp
    refine ⟨.pointer (some ⟨br, q, none⟩), fun w' hw' => by
     skip
     go_simp, hK _ ?_⟩
    clear hK K
    refine wpHeads_step (fun K hK => ?_)
    go_simp
    refine ⟨.int .i64 oq, fun w' hw' => by
     have h := (hw'.cell (p := ⟨br, q, none⟩) (block_lt_of_cell HW2.out)).trans HW2.out
     go_simp, hK _ ?_⟩
    clear hK K
    refine wpHeads_nil ?_
    have SD := Lh (Below.refl wq.heap.size wq).drew
    generalize wq.drew = WD at *
    have q1 : decide (oq = oq) = true := decide_eq_true rfl
    have q2 : (oq != oq) = false := by simp
    refine gwr 8 fun K hK => ?_
    go_simp
    refine hK _ _ SD.out ?_
    clear hK K
    clear q1 q2 p0 p1
    refine wpAnyH_done (by kernel_rfl) ?_ _
    unfold onlyN
    dsimp only
    have B9 := Lh (BQ.out.trans (SD.out.mono BQ.out.size))
    have hw := w64s9 q (by have := HNL.out; have := HOB.out; have := HQ.out; omega)
    go_wp2_with fail
    go_roundw
    case rel => exact ⟨q + 1, HQ.out, by go_num, B9.out⟩
    case measure => exact meas9 no q HQ.out (by have := HNL.out; have := HOB.out; omega)
end Go.Proofs.YtgbnclepgjcakaaGreat.Gf
