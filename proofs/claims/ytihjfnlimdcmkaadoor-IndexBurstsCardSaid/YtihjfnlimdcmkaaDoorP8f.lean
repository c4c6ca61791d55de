/- What is proved here: the contract of the program's Put (index). Condition: lists of at most 1000 items. -/
import Derived.Test.YtihjfnlimdcmkaaDoorP8e
import Derived.Test.YtihjfnlimdcmkaaDoorP8b
namespace Go.Proofs.YtihjfnlimdcmkaaDoor.Gf
open Go Go.Joins Go.ChangeShapes Go.WideShapes Go.ChangeAt Go.RowKit Go.Deep Go.Lib Go.Sort Go.Proofs Go.Proofs.YtihjfnlimdcmkaaDoor.By Go.Proofs.YtihjfnlimdcmkaaDoor.Qt

set_option maxRecDepth 100000 in
set_option maxHeartbeats 6400000 in
theorem pput8_any (v : Value) (L : List Itm) (x : Itm) (w : World) (s : It w v L) (hlen : L.length ≤ 1000) (okx : ItOk x) : Calls Tryd.prog 26 #[v, TV x] w (LI w (putL L x)) := by
  have HB0 := Lib.hid ((Below.refl w.heap.size w).alloc (Nat.le_refl _) (.cells #[.int .u64 (x.key : Int), .int .u32 (x.ck : Int), .int .i64 x.off, .int .i64 x.sz] 41))
  have X0 := Lib.hid (heap_alloc_new w (.cells #[.int .u64 (x.key : Int), .int .u32 (x.ck : Int), .int .i64 x.off, .int .i64 x.sz] 41))
  have PO := Lib.hid (fun W (hW : Below w.heap.size w W) => porder_any v L W (it_below s hW) hlen)
  have PS := Lib.hid (fun (u : Value) W (h : It W u (sortL L)) => psplit_any u (sortL L) x.key W h (asc_sortL L) (Nat.le_trans (length_sortL L) hlen))
  have HLN : Hid ((sortL L).length ≤ 1000) := Nat.le_trans (length_sortL L) hlen
  have OKX := Lib.hid okx
  obtain ⟨a, c, rfl, -, -⟩ := it_form s
  obtain ⟨n, hn⟩ : ∃ n, n = L.length := ⟨_, rfl⟩
  unfold LI at PO ⊢
  unfold putL
  rw [← hn] at PO ⊢
  unfold TV
  clear s hlen hn okx
  go_enter Tryd.func26, Tryd.ntmps26
  go_wp2_with fail
  have hbox := X0.out
  generalize w.alloc (.cells #[.int .u64 (x.key : Int), .int .u32 (x.ck : Int), .int .i64 x.off, .int .i64 x.sz] 41) = W0 at *
  have KC : Hid (∀ W, Below W0.heap.size W0 W → W.heap[w.heap.size]? = some (.cells #[.int .u64 (x.key : Int), .int .u32 (x.ck : Int), .int .i64 x.off, .int .i64 x.sz] 41 (0, 0))) := fun W hW => (hW.block _ (lt_of_some X0.out)).trans X0.out
  refine wp_onlyN ?_
  refine wp_region_headsS (fun w' => Below W0.heap.size W0 w') [0, 2, 3] 9 (by kernel_rfl) (fun _ _ _ _ _ h => h.elim) (by kernel_rfl) (by rfl) (by rfl) (Below.refl _ _).drew ?_
  simp only [pickOps, List.filterMap_cons, List.filterMap_nil, List.getElem?_toArray, List.getElem?_cons_zero, List.getElem?_cons_succ]
  refine wpHeads_step (fun K hK => ?_)
  go_simp
  refine ⟨_, fun _ _ => rfl, hK _ ?_⟩
  clear hK K
  refine wpHeads_step (fun K hK => ?_)
  go_simp
  refine ⟨_, fun _ _ => rfl, hK _ ?_⟩
  clear hK K
  refine wpHeads_step (fun K hK => ?_)
  go_simp
  refine ⟨.int .u64 (x.key : Int), fun w' hw' => by have u0 := cell_of_row w' w.heap.size 0 _ _ _ (KC.out w' hw'); simp [u0], hK _ ?_⟩
  clear hK K
  refine wpHeads_nil ?_
  refine held_one 1 rfl rfl (by kernel_rfl) fun K hK => ?_
  go_simp
  go_at_call 41
  refine (PO.out _ (bt HB0.out (below_drewN W0 1))).mono ?_
  rintro e w1 ⟨⟨v1, rfl, hi1⟩, hb1⟩
  have b1 : Below W0.heap.size W0 w1 := (below_drewN W0 1).trans hb1
  refine hK _ _ b1 ?_
  clear hK K hb1
  have SP1 := Lib.hid (PS.out v1 w1 hi1)
  clear hi1
  refine held_one 4 rfl rfl (by kernel_rfl) fun K hK => ?_
  go_simp
  go_at_call 40
  refine SP1.out.mono ?_
  rintro e w2 ⟨va, vb, vc, j, m, rfl, h1, h2, h3, hsp, hb2⟩
  have b2 : Below W0.heap.size W0 w2 := bt b1 hb2
  refine hK _ _ b2 ?_
  clear hK K hb2 b1
  refine held_one 5 rfl rfl (by kernel_rfl) fun K hK => ?_
  go_simp
  refine hK _ _ b2 ?_
  clear hK K
  refine wpAnyH_take (i := 6) (v := va) rfl (by kernel_rfl) (by kernel_rfl) (by kernel_rfl) (fun _ _ _ h => h) (Or.inl ⟨by kernel_rfl, fun w _ => by go_simp⟩) b2 ?_
  refine wpAnyH_take (i := 7) (v := vb) rfl (by kernel_rfl) (by kernel_rfl) (by kernel_rfl) (fun _ _ _ h => h) (Or.inl ⟨by kernel_rfl, fun w _ => by go_simp⟩) b2 ?_
  refine wpAnyH_take (i := 8) (v := vc) rfl (by kernel_rfl) (by kernel_rfl) (by kernel_rfl) (fun _ _ _ h => h) (Or.inl ⟨by kernel_rfl, fun w _ => by go_simp⟩) b2 ?_
  refine held_one 9 rfl rfl (by kernel_rfl) fun K hK => ?_
  go_simp
  refine hK _ _ b2 ?_
  clear hK K
  refine held_one 10 rfl rfl (by kernel_rfl) fun K hK => ?_
  go_simp
  refine hK _ _ b2 ?_
  clear hK K
  refine held_one 11 rfl rfl (by kernel_rfl) fun K hK => ?_
  go_simp
  refine hK _ _ b2 ?_
  clear hK K
  refine wpAnyH_done (by kernel_rfl) ?_ _
  unfold onlyN
  dsimp only
  have INS := Lib.hid (spl_ins hsp)
  have x2 := KC.out w2 b2
  have B2 := Lib.hid (bt HB0.out b2)
  have d0 := cell_of_row w2 w.heap.size 0 _ _ _ x2
  have d1 := cell_of_row w2 w.heap.size 1 _ _ _ x2
  have d2 := cell_of_row w2 w.heap.size 2 _ _ _ x2
  have d3 := cell_of_row w2 w.heap.size 3 _ _ _ x2
  obtain ⟨a1, c1, e1, -, -⟩ := it_form h1
  obtain ⟨a2, c2, e2, -, -⟩ := it_form h2
  obtain ⟨a3, c3, e3, -, -⟩ := it_form h3
  have b3 := bel_al w2 (.cells #[.int .u64 (x.key : Int), .int .u32 (x.ck : Int), .int .i64 x.off, .int .i64 x.sz] 41)
  have i3 := it_one OKX.out (heap_alloc_new w2 (.cells #[.int .u64 (x.key : Int), .int .u32 (x.ck : Int), .int .i64 x.off, .int .i64 x.sz] 41))
  have b4 := bel_al (w2.alloc (.cells #[.int .u64 (x.key : Int), .int .u32 (x.ck : Int), .int .i64 x.off, .int .i64 x.sz] 41)) (.cells #[va, .slice (some ⟨w2.heap.size, 0, none⟩) 1 1, vc] 22)
  have hbx := heap_alloc_new (w2.alloc (.cells #[.int .u64 (x.key : Int), .int .u32 (x.ck : Int), .int .i64 x.off, .int .i64 x.sz] 41)) (.cells #[va, .slice (some ⟨w2.heap.size, 0, none⟩) 1 1, vc] 22)
  have CN := Lib.hid (pconcat_any (w2.alloc (.cells #[.int .u64 (x.key : Int), .int .u32 (x.ck : Int), .int .i64 x.off, .int .i64 x.sz] 41)).heap.size 3 [va, .slice (some ⟨w2.heap.size, 0, none⟩) 1 1, vc] [(sortL L).take j, [x], (sortL L).drop (j + m)] (0, 0) _ hbx rfl rfl (fun i hi => by
    match i, hi with
    | 0, _ => exact it_below h1 (bt b3 b4)
    | 1, _ => exact it_below i3 b4
    | 2, _ => exact it_below h3 (bt b3 b4)) (by decide) (by
      have := HLN.out
      simp only [List.flatten_cons, List.flatten_nil, List.append_nil, List.length_append, List.length_take, List.length_drop, List.length_singleton]
      omega))
  have B4 := Lib.hid (bt (bt B2.out b3) b4)
  rw [show ([(sortL L).take j, [x], (sortL L).drop (j + m)] : List (List Itm)).flatten = insL x (sortL L) by rw [← INS.out]; simp] at CN
  rw [show (w2.alloc (.cells #[.int .u64 (x.key : Int), .int .u32 (x.ck : Int), .int .i64 x.off, .int .i64 x.sz] 41)).heap.size = w2.heap.size + 1 by simp] at CN
  unfold LI at CN
  subst e1 e2 e3
  clear h1 h2 h3 hsp b2 b3 b4 i3 hbx B2 INS x2 KC PO PS SP1 HB0 X0 hbox
  generalize (List.take j (sortL L)).length = n1 at *
  generalize (List.take m (List.drop j (sortL L))).length = n2 at *
  generalize (List.drop (j + m) (sortL L)).length = n3 at *
  go_wp2_with fail
  refine CN.out.mono ?_
  rintro e w3 ⟨⟨v3, rfl, hi3⟩, hb3⟩
  have HI3 := Lib.hid hi3
  have B5 := Lib.hid (bt B4.out hb3)
  obtain ⟨a4, c4, rfl, -, -⟩ := it_form hi3
  clear hi3 hb3
  go_wp2
  go_ret
  exact ⟨⟨_, rfl, HI3.out⟩, B5.out⟩
end Go.Proofs.YtihjfnlimdcmkaaDoor.Gf
