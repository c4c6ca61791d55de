/- What is proved here: the reference's Find in any slot of few items; Older of both sides. -/
import Derived.Test.YtgbnclepgjcakaaGreatGs29
import Derived.Test.YtgbnclepgjcakaaGreatVx
namespace Go.Proofs.YtgbnclepgjcakaaGreat.Gf
open Go Go.Joins Go.ChangeShapes Go.WideShapes Go.ChangeAt Go.RowKit Go.Deep Go.Proofs.YtgbnclepgjcakaaGreat.By Go.Proofs.YtgbnclepgjcakaaGreat.Qt
set_option maxRecDepth 100000
set_option maxHeartbeats 204800000

theorem infoRP7 : (Tryz.prog.info? 69).map (·.size) = some 7 := by kernel_rfl
theorem storeRP {ops : Array Oper} {rest : List Oper} {x y : Operand} {pos : String} {after : Array Edge} {ty : TypeId} {a : Act} {w : World} {Q : Exit → Act → World → Prop}
 (g : Nat) (old cs : Array Value) (hx : a.eval x = .pointer (some ⟨g, 0, none⟩)) (hy : a.eval y = .agg cs) (hg : w.heap[g]? = some (.cells old 69 (0, 0))) (ho : old.size = 7) (hs : cs.size = 7) (h1 : cs.all (·.oneCell') = true)
 (h : wpList Tryz.prog ops Q rest a (w.setRow g cs)) : wpList Tryz.prog ops Q (⟨none, .store 69 x y, ty, pos, after, none⟩ :: rest) a w :=
 wpList_store_row rfl 69 x y rfl g cs hx hy 69 old hg (by rw [infoRP7, hs]) (by omega) h1 h
theorem hit_items {w : World} {b o : Nat} {s0 s1 s2 s3 s4 s5 s6 s7 : Value} {u : Ge} (h : GAt w b o s0 s1 s2 s3 s4 s5 s6 s7 u) (key : Nat) : fnL (itemsL u.m) key = fnL (gL u.m key) key ∧ hasL (itemsL u.m) key = hasL (gL u.m key) key := get_same h.ms.1 key
theorem rsfind_x (id lim : Int) (ro : Bool) (a : Option Addr) (n c : Nat) (L : List Ge) (key : Nat) (w : World) (hn : n = L.length) (hl : Gl w (.slice a n c) L) (hlen : n ≤ 10000) (hf : ∀ g ∈ L, LGe g) : Calls Tryz.prog 25 #[.agg #[.int .i64 id, .int .i64 lim, .bool ro, .slice a n c], .int .u64 (key : Int)] w (FindO ⟨id, lim, ro, L⟩ key w) := by
 have q0 := al2 w (.cells #[.int .i64 id, .int .i64 lim, .bool ro, .slice a n c] 24) (.cells #[.int .i64 0, .int .i64 0, .int .i64 0, .int .u64 0, .int .u32 0, .int .i64 0, .int .i64 0] 69)
 have HS := Lh q0.1
 have HZ := Lh q0.2.1
 have B0 := Lh q0.2.2
 have GLw := Lh hl
 have HN := Lh hn
 have HLN := Lh hlen
 have HLF := Lh (show ∀ j, j < n → Few (L.getD j g0).m from fun j hj => (hf _ (by
  rw [List.getD_eq_getElem?_getD, List.getElem?_eq_getElem (show j < L.length by omega)]
  exact List.getElem_mem _)).1)
 have PV := Lh (fun W (h : Gl W (.slice a n c) L) => rsvalid_x id lim ro a n c L W hn h hlen hf)
 have e1 : wrap64 ((n : Int) - 1) = (n : Int) - 1 - ((0 : Nat) : Int) := by unfold wrap64; omega
 have e2 : IntKind.i64.wrap ((n : Int) - 1) = (n : Int) - 1 - ((0 : Nat) : Int) := by rw [IntWalk.i64_in _ (by omega)]; omega
 clear q0 hl hn hlen hf
 go_enter Tryz.func25, Tryz.ntmps25
 go_upto_region 1 with fail
 generalize (w.alloc (.cells #[.int .i64 id, .int .i64 lim, .bool ro, .slice a n c] 24)).alloc (.cells #[.int .i64 0, .int .i64 0, .int .i64 0, .int .u64 0, .int .u32 0, .int .i64 0, .int .i64 0] 69) = W0 at *
 obtain ⟨⟨y0, y1, y2, y3⟩, -⟩ := bx4 HS.out
 obtain ⟨tq, htq⟩ : ∃ q, q = (n : Int) - 1 - ((0 : Nat) : Int) := ⟨_, rfl⟩
 rw [← htq] at e1 e2
 go_wp2_with fail
 clear y0 y1 y2 y3
 clear e1 e2
 go_loopw [6] (fun t wr => ∃ k : Nat, k ≤ n ∧ t = .int .i64 ((n : Int) - 1 - (k : Int)) ∧ (∀ i, n - k ≤ i → i < n → ¬ hitB (L.getD i g0) key) ∧ Below W0.heap.size W0 wr) (fun t _ => (intOf t + 1).toNat)
 case atStart => exact ⟨0, Nat.zero_le _, by rw [show (n : Int) - 1 - ((0 : Nat) : Int) = (n : Int) - 1 by omega], fun i h1 h2 => absurd h2 (by omega), Below.refl _ _⟩
 case round =>
  obtain ⟨k, hk, rfl, hno, hB⟩ := hrel
  rename World => wl
  have BB := Lh hB
  have HNO := Lh hno
  have BW := Lh (B0.out.trans (hB.mono B0.out.size))
  have HS1 := Lh ((hB.block _ (lt_of_some HS.out)).trans HS.out)
  have HZ1 := Lh ((hB.block _ (lt_of_some HZ.out)).trans HZ.out)
  clear hB hno htq
  by_cases hlt : k < n
  case neg =>
   obtain rfl : k = n := by omega
   rw [show (k : Int) - 1 - (k : Int) = -1 by omega]
   have PN := Lh (plc_none (s := ⟨id, lim, ro, L⟩) (key := key) (fun _ j hj => HNO.out j (by omega) (by rw [HN.out]; exact hj)))
   clear hlt hk
   go_wp2_with ((with_reducible refine storeRP (w.heap.size + 1) _ #[.int .i64 0, .int .i64 0, .int .i64 0, .int .u64 0, .int .u32 0, .int .i64 0, .int .i64 0] ?_ ?_ HZ1.out rfl rfl zp_one ?_); exact rfl; exact rfl)
   refine bodyPost_ret (results_rt (S := 69) rfl _ _ (w.heap.size + 1) #[.int .i64 0, .int .i64 0, .int .i64 0, .int .u64 0, .int .u32 0, .int .i64 0, .int .i64 0] rfl (setRow_heap _ _ _ _ _ _ HZ1.out) Tryz.underlying69 rfl infoRP7) rfl ?_
   exact ⟨by rw [PN.out.1, PN.out.2]; rfl, below_setRowM BW.out (Nat.le_succ _) _⟩
  obtain ⟨j, hj⟩ : ∃ j, j = n - 1 - k := ⟨_, rfl⟩
  rw [show (n : Int) - 1 - (k : Int) = (j : Int) by omega]
  have HJ := Lh (show j + k + 1 = n by omega)
  have d1 : decide ((0 : Int) ≤ (j : Int)) = true := decide_eq_true (by omega)
  obtain ⟨⟨y0, y1, y2, y3⟩, -⟩ := bx4 HS1.out
  clear hj hlt hk
  go_wp2_with fail
  clear y0 y1 y2 y3
  clear d1
  refine (PV.out wl (gl_below GLw.out BW.out)).mono ?_
  rintro e W2 ⟨rfl, hb⟩
  have BB2 := Lh (BB.out.trans (hb.mono BB.out.size))
  have BW2 := Lh (BW.out.trans (hb.mono BW.out.size))
  have HS2 := Lh ((hb.block _ (lt_of_some HS1.out)).trans HS1.out)
  have HZ2 := Lh ((hb.block _ (lt_of_some HZ1.out)).trans HZ1.out)
  clear hb HS1 HZ1 BB BW
  rcases Classical.em (okS ⟨id, lim, ro, L⟩) with h1 | h1
  case inr =>
   rw [okSb_f h1]
   have PN := Lh (plc_none (s := ⟨id, lim, ro, L⟩) (key := key) (fun h => absurd h h1))
   clear h1
   go_wp2_with ((with_reducible refine storeRP (w.heap.size + 1) _ #[.int .i64 0, .int .i64 0, .int .i64 0, .int .u64 0, .int .u32 0, .int .i64 0, .int .i64 0] ?_ ?_ HZ2.out rfl rfl zp_one ?_); exact rfl; exact rfl)
   refine bodyPost_ret (results_rt (S := 69) rfl _ _ (w.heap.size + 1) #[.int .i64 0, .int .i64 0, .int .i64 0, .int .u64 0, .int .u32 0, .int .i64 0, .int .i64 0] rfl (setRow_heap _ _ _ _ _ _ HZ2.out) Tryz.underlying69 rfl infoRP7) rfl ?_
   exact ⟨by rw [PN.out.1, PN.out.2]; rfl, below_setRowM BW2.out (Nat.le_succ _) _⟩
  rw [okSb_t h1]
  have HKS := Lh h1
  clear h1
  obtain ⟨b, off, rfl, s0, s1, s2, s3, s4, s5, s6, s7, ga⟩ := gl_at GLw.out (show j < n by have := HJ.out; omega)
  have HFW := Lh (HLF.out j (by have := HJ.out; omega))
  generalize hju : L.getD j g0 = u at *
  have HJU := Lh hju
  have GA := Lh ga
  have ga2 := gat_below ga BW2.out
  have p0 : (0 : Int) ≤ (j : Int) := by omega
  have p1 : (j : Int) < (n : Int) := by have := HJ.out; omega
  obtain ⟨hq, hhq⟩ : ∃ q, q = hasL (itemsL u.m) key := ⟨_, rfl⟩
  obtain ⟨xi, hxi⟩ : ∃ q, q = fnL (itemsL u.m) key := ⟨_, rfl⟩
  have PG := rget11_any (.agg #[s0, s1, s2, s3, s4, s5, s6, s7, .int .i64 u.m.live, .int .i64 u.m.garb]) u.m key W2 ⟨s0, s1, s2, s3, s4, s5, s6, s7, rfl, ga2.ms⟩ HFW.out
  unfold FD TV at PG
  rw [← hhq, ← hxi] at PG
  have hts := hit_items ga key
  have HHQ := Lh (show hq = hasL (gL u.m key) key by rw [hhq, hts.2])
  have HXI := Lh (show xi = fnL (gL u.m key) key by rw [hxi, hts.1])
  obtain ⟨x0, x1, x2, x3, x4, x5, x6, x7, x8, x9, x10, x11, x12, x13⟩ := ga2.cells
  obtain ⟨⟨y0, y1, y2, y3⟩, -⟩ := bx4 HS2.out
  clear hju ga ga2 hhq hxi hts
  go_wp2_with fail
  clear x0 x1 x2 x3 x4 x5 x6 x7 x8 x9 x10 x11 x12 x13
  clear y0 y1 y2 y3
  clear p0 p1
  refine PG.mono ?_
  rintro e W3 ⟨rfl, hb⟩
  have BB3 := Lh (BB2.out.trans (hb.mono BB2.out.size))
  have BW3 := Lh (BW2.out.trans (hb.mono BW2.out.size))
  have HS3 := Lh ((hb.block _ (lt_of_some HS2.out)).trans HS2.out)
  have HZ3 := Lh ((hb.block _ (lt_of_some HZ2.out)).trans HZ2.out)
  clear hb PG HS2 HZ2 BB2 BW2
  go_upto_region 5 with fail
  have hb := bel_al W3 (.cells #[.int .u64 (xi.key : Int), .int .u32 (xi.ck : Int), .int .i64 xi.off, .int .i64 xi.sz] 64)
  have HI4 := Lh (heap_alloc_new W3 (.cells #[.int .u64 (xi.key : Int), .int .u32 (xi.ck : Int), .int .i64 xi.off, .int .i64 xi.sz] 64))
  have BB4 := Lh (BB3.out.trans (hb.mono BB3.out.size))
  have HZ4 := Lh ((hb.block _ (lt_of_some HZ3.out)).trans HZ3.out)
  have HGI := Lh (show w.heap.size + 1 < W3.heap.size from lt_of_some HZ3.out)
  have KK := Lh (show KeepG2 w w.heap.size (.cells #[.int .i64 id, .int .i64 lim, .bool ro, .slice (some ⟨b, off, none⟩) n c] 24 (0, 0)) W3.heap.size (.cells #[.int .u64 (xi.key : Int), .int .u32 (xi.ck : Int), .int .i64 xi.off, .int .i64 xi.sz] 64 (0, 0)) (W3.alloc (.cells #[.int .u64 (xi.key : Int), .int .u32 (xi.ck : Int), .int .i64 xi.off, .int .i64 xi.sz] 64)) from ⟨BW3.out.trans (hb.mono BW3.out.size), (hb.block _ (lt_of_some HS3.out)).trans HS3.out, heap_alloc_new W3 _⟩)
  clear hb HS3 HZ3 BB3 BW3 HI4
  generalize W3.alloc (.cells #[.int .u64 (xi.key : Int), .int .u32 (xi.ck : Int), .int .i64 xi.off, .int .i64 xi.sz] 64) = W4 at *
  generalize W3.heap.size = gi at *
  cases hq
  case false =>
   have hw1 : wrap64 ((j : Int) - 1) = (n : Int) - 1 - ((k + 1 : Nat) : Int) := by unfold wrap64; have := HJ.out; have := HLN.out; omega
   have hw2 : IntKind.i64.wrap ((j : Int) - 1) = (n : Int) - 1 - ((k + 1 : Nat) : Int) := by rw [IntWalk.i64_in _ (by have := HJ.out; have := HLN.out; omega)]; have := HJ.out; omega
   obtain ⟨tz, htz⟩ : ∃ q, q = (n : Int) - 1 - ((k + 1 : Nat) : Int) := ⟨_, rfl⟩
   rw [← htz] at hw1 hw2
   have HTZ := Lh htz
   clear htz
   go_wp2_with fail
   go_roundw
   case rel => exact ⟨k + 1, by have := HJ.out; omega, by rw [HTZ.out], fun i h1 h2 => by
    by_cases h3 : i = j
    ·subst h3
     rw [HJU.out]
     unfold hitB
     rw [← HHQ.out]
     exact Bool.false_ne_true
    ·exact HNO.out i (by have := HJ.out; omega) h2, BB4.out⟩
   case measure =>
    have h1 := HTZ.out
    have h2 := HJ.out
    show (tz + 1).toNat < ((j : Int) + 1).toNat
    clear HNO HHQ HXI GA KK HZ4 BB4
    omega
  case true =>
   have ps := plc_some (s := ⟨id, lim, ro, L⟩) (key := key) (j := j) HKS.out ⟨by show j < L.length; have := HJ.out; have := HN.out; omega, by rw [HJU.out]; exact HHQ.out.symm, fun i h1 h2 => HNO.out i (by have := HJ.out; omega) (by rw [HN.out]; exact h2)⟩
   simp only [HJU.out] at ps
   have PS := Lh ps
   clear ps
   have HPC := Lh (show placeC u key = #[.int .i64 u.num, .int .i64 u.mode, .int .i64 u.rev, .int .u64 (xi.key : Int), .int .u32 (xi.ck : Int), .int .i64 xi.off, .int .i64 xi.sz] from by unfold placeC; rw [← HXI.out])
   have p0 : (0 : Int) ≤ (j : Int) := by omega
   have p1 : (j : Int) < (n : Int) := by have := HJ.out; omega
   go_upto_region 6 with fail
   refine wp_onlyN ?_
   refine wp_region_headsS (KeepG2 w w.heap.size (.cells #[.int .i64 id, .int .i64 lim, .bool ro, .slice (some ⟨b, off, none⟩) n c] 24 (0, 0)) gi (.cells #[.int .u64 (xi.key : Int), .int .u32 (xi.ck : Int), .int .i64 xi.off, .int .i64 xi.sz] 64 (0, 0))) [0, 1, 2, 3, 4, 5, 6, 7, 8, 9, 10, 11, 12, 13, 14, 15, 16, 17, 18] 3 (by kernel_rfl) (fun _ _ _ _ _ h => h.elim) (by kernel_rfl) (by rfl) (by rfl) ⟨KK.out.be.drew, KK.out.a1, KK.out.a2⟩ ?_
   simp only [pickOps, List.filterMap_cons, List.filterMap_nil, List.getElem?_toArray, List.getElem?_cons_zero, List.getElem?_cons_succ]
   refine wpHeads_step (fun K hK => ?_)
   go_simp
   refine ⟨_, fun _ _ => rfl, hK _ ?_⟩
   clear hK K
   refine wpHeads_step (fun K hK => ?_)
   go_simp
   refine ⟨.slice (some ⟨b, off, none⟩) n c, fun w' hw' => by
    obtain ⟨⟨y0, y1, y2, y3⟩, -⟩ := bx4 hw'.a1
    go_simp, hK _ ?_⟩
   clear hK K
   refine wpHeads_step (fun K hK => ?_)
   go_simp
   refine ⟨_, fun _ _ => rfl, hK _ ?_⟩
   clear hK K
   refine wpHeads_step (fun K hK => ?_)
   go_simp
   refine ⟨.pointer (some ⟨b, off + j * 14, none⟩), fun w' hw' => by
    skip
    go_simp, hK _ ?_⟩
   clear hK K
   refine wpHeads_step (fun K hK => ?_)
   go_simp
   refine ⟨_, fun _ _ => rfl, hK _ ?_⟩
   clear hK K
   refine wpHeads_step (fun K hK => ?_)
   go_simp
   refine ⟨.int .i64 u.num, fun w' hw' => by
    obtain ⟨x0, x1, x2, x3, x4, x5, x6, x7, x8, x9, x10, x11, x12, x13⟩ := (gat_below GA.out hw'.be).cells
    go_simp, hK _ ?_⟩
   clear hK K
   refine wpHeads_step (fun K hK => ?_)
   go_simp
   refine ⟨_, fun _ _ => rfl, hK _ ?_⟩
   clear hK K
   refine wpHeads_step (fun K hK => ?_)
   go_simp
   refine ⟨.slice (some ⟨b, off, none⟩) n c, fun w' hw' => by
    obtain ⟨⟨y0, y1, y2, y3⟩, -⟩ := bx4 hw'.a1
    go_simp, hK _ ?_⟩
   clear hK K
   refine wpHeads_step (fun K hK => ?_)
   go_simp
   refine ⟨_, fun _ _ => rfl, hK _ ?_⟩
   clear hK K
   refine wpHeads_step (fun K hK => ?_)
   go_simp
   refine ⟨.pointer (some ⟨b, off + j * 14, none⟩), fun w' hw' => by
    skip
    go_simp, hK _ ?_⟩
   clear hK K
   refine wpHeads_step (fun K hK => ?_)
   go_simp
   refine ⟨_, fun _ _ => rfl, hK _ ?_⟩
   clear hK K
   refine wpHeads_step (fun K hK => ?_)
   go_simp
   refine ⟨.int .i64 u.mode, fun w' hw' => by
    obtain ⟨x0, x1, x2, x3, x4, x5, x6, x7, x8, x9, x10, x11, x12, x13⟩ := (gat_below GA.out hw'.be).cells
    go_simp, hK _ ?_⟩
   clear hK K
   refine wpHeads_step (fun K hK => ?_)
   go_simp
   refine ⟨_, fun _ _ => rfl, hK _ ?_⟩
   clear hK K
   refine wpHeads_step (fun K hK => ?_)
   go_simp
   refine ⟨.slice (some ⟨b, off, none⟩) n c, fun w' hw' => by
    obtain ⟨⟨y0, y1, y2, y3⟩, -⟩ := bx4 hw'.a1
    go_simp, hK _ ?_⟩
   clear hK K
   refine wpHeads_step (fun K hK => ?_)
   go_simp
   refine ⟨_, fun _ _ => rfl, hK _ ?_⟩
   clear hK K
   refine wpHeads_step (fun K hK => ?_)
   go_simp
   refine ⟨.pointer (some ⟨b, off + j * 14, none⟩), fun w' hw' => by
    skip
    go_simp, hK _ ?_⟩
   clear hK K
   refine wpHeads_step (fun K hK => ?_)
   go_simp
   refine ⟨_, fun _ _ => rfl, hK _ ?_⟩
   clear hK K
   refine wpHeads_step (fun K hK => ?_)
   go_simp
   refine ⟨.int .i64 u.rev, fun w' hw' => by
    obtain ⟨x0, x1, x2, x3, x4, x5, x6, x7, x8, x9, x10, x11, x12, x13⟩ := (gat_below GA.out hw'.be).cells
    go_simp, hK _ ?_⟩
   clear hK K
   refine wpHeads_step (fun K hK => ?_)
   go_simp
   refine ⟨.agg #[.int .u64 (xi.key : Int), .int .u32 (xi.ck : Int), .int .i64 xi.off, .int .i64 xi.sz], fun w' hw' => by
    obtain ⟨⟨y0, y1, y2, y3⟩, -⟩ := bx4 hw'.a2
    go_simp, hK _ ?_⟩
   clear hK K
   refine wpHeads_nil ?_
   have K0 := Lh (show KeepG2 w w.heap.size (.cells #[.int .i64 id, .int .i64 lim, .bool ro, .slice (some ⟨b, off, none⟩) n c] 24 (0, 0)) gi (.cells #[.int .u64 (xi.key : Int), .int .u32 (xi.ck : Int), .int .i64 xi.off, .int .i64 xi.sz] 64 (0, 0)) W4.drew from ⟨KK.out.be.drew, KK.out.a1, KK.out.a2⟩)
   have HZ5 := Lh (show W4.drew.heap[w.heap.size + 1]? = some (.cells #[.int .i64 0, .int .i64 0, .int .i64 0, .int .u64 0, .int .u32 0, .int .i64 0, .int .i64 0] 69 (0, 0)) from HZ4.out)
   clear KK HZ4 p0 p1
   generalize W4.drew = WD at *
   refine gwr 19 fun K hK => ?_
   go_simp
   refine hK _ _ K0.out ?_
   clear hK K
   refine gwr 20 fun K hK => ?_
   refine wp_store_row 69 _ _ rfl (w.heap.size + 1) #[.int .i64 u.num, .int .i64 u.mode, .int .i64 u.rev, .int .u64 (xi.key : Int), .int .u32 (xi.ck : Int), .int .i64 xi.off, .int .i64 xi.sz] (by rfl) (by rfl) 69 _ HZ5.out infoRP7 rfl (pl_one u xi) ?_
   have hz6 := setRow_heap WD (w.heap.size + 1) _ #[.int .i64 u.num, .int .i64 u.mode, .int .i64 u.rev, .int .u64 (xi.key : Int), .int .u32 (xi.ck : Int), .int .i64 xi.off, .int .i64 xi.sz] _ _ HZ5.out
   have hk6 := K0.out.row (p := w.heap.size + 1) (Nat.le_succ _) (by omega) (by have := HGI.out; omega) #[.int .i64 u.num, .int .i64 u.mode, .int .i64 u.rev, .int .u64 (xi.key : Int), .int .u32 (xi.ck : Int), .int .i64 xi.off, .int .i64 xi.sz]
   refine hK _ _ hk6 ?_
   have HZ6 := Lh hz6
   have HK6 := Lh hk6
   clear hK K hz6 hk6 K0 HZ5
   generalize WD.setRow (w.heap.size + 1) #[.int .i64 u.num, .int .i64 u.mode, .int .i64 u.rev, .int .u64 (xi.key : Int), .int .u32 (xi.ck : Int), .int .i64 xi.off, .int .i64 xi.sz] = WE at *
   refine gwr 21 fun K hK => ?_
   go_simp
   refine hK _ _ HK6.out ?_
   clear hK K
   refine wpAnyH_done (by kernel_rfl) ?_ _
   unfold onlyN
   dsimp only
   go_wp2_with fail
   refine bodyPost_ret (results_rt (S := 69) rfl _ _ (w.heap.size + 1) #[.int .i64 u.num, .int .i64 u.mode, .int .i64 u.rev, .int .u64 (xi.key : Int), .int .u32 (xi.ck : Int), .int .i64 xi.off, .int .i64 xi.sz] rfl HZ6.out Tryz.underlying69 rfl infoRP7) rfl ?_
   exact ⟨by rw [PS.out.1, PS.out.2, HPC.out]; rfl, HK6.out.be⟩
/-- The numbers of the first i generations that have the key. -/
noncomputable def oldF (L : List Ge) (key i : Nat) : List Int := ((L.take i).filter fun g => hasL (gL g.m key) key).map fun g => g.num
end Go.Proofs.YtgbnclepgjcakaaGreat.Gf
