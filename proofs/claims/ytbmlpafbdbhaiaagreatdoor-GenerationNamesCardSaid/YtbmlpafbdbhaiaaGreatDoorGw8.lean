/- What is proved here: Format of the reference at every name. -/
import Derived.Test.YtbmlpafbdbhaiaaGreatDoorGw6
import Derived.Test.YtbmlpafbdbhaiaaGreatDoorGw7
import Derived.OrdersHeld
namespace Go.Proofs.YtbmlpafbdbhaiaaGreatDoor.Gf
open Go Go.Joins Go.ChangeShapes Go.WideShapes Go.ChangeAt Go.RowKit Go.Deep Go.Proofs.YtbmlpafbdbhaiaaGreatDoor.By Go.Proofs.YtbmlpafbdbhaiaaGreatDoor.Qt Go.Proofs
set_option maxRecDepth 100000
set_option maxHeartbeats 204800000
theorem bx6 {w : World} {g : Nat} {c0 c1 c2 c3 c4 c5 : Value} {T : TypeId} {fr : Nat × Nat} (h : w.heap[g]? = some (.cells #[c0, c1, c2, c3, c4, c5] T fr)) : w.cell? ⟨g, 0, none⟩ = some c0 ∧ w.cell? ⟨g, 1, none⟩ = some c1 ∧ w.cell? ⟨g, 2, none⟩ = some c2 ∧ w.cell? ⟨g, 3, none⟩ = some c3 ∧ w.cell? ⟨g, 4, none⟩ = some c4 ∧ w.cell? ⟨g, 5, none⟩ = some c5 :=
 ⟨cell_of_row w g 0 _ _ _ h, cell_of_row w g 1 _ _ _ h, cell_of_row w g 2 _ _ _ h, cell_of_row w g 3 _ _ _ h, cell_of_row w g 4 _ _ _ h, cell_of_row w g 5 _ _ _ h⟩
/-- What stays while a text is put together: the older blocks, the box of the name, the list of endings. -/
structure KpT (w : World) (p1 : Nat) (o1 : Obj) (p2 : Nat) (o2 : Obj) (W : World) : Prop where
 be : Below w.heap.size w W
 a1 : W.heap[p1]? = some o1
 a2 : W.heap[p2]? = some o2
theorem kpT_below {w W W' : World} {p1 p2 : Nat} {o1 o2 : Obj} (h : KpT w p1 o1 p2 o2 W) (hb : Below W.heap.size W W') : KpT w p1 o1 p2 o2 W' := ⟨h.be.trans (hb.mono h.be.size), (hb.block _ (lt_of_some h.a1)).trans h.a1, (hb.block _ (lt_of_some h.a2)).trans h.a2⟩
theorem kpT_drew {w W : World} {p1 p2 : Nat} {o1 o2 : Obj} (h : KpT w p1 o1 p2 o2 W) : KpT w p1 o1 p2 o2 W.drew := kpT_below h (Below.refl _ _).drew
theorem rfm_1false (s g : Nat) (w : World) (hn : NameOk 1 s g 0 false) : Calls Tryz.prog 11 #[.agg #[.int .i64 1, .int .i64 (s : Int), .int .i64 (g : Int), .int .i64 0, .bool false]] w (FmO 1 s g 0 false w) := by
 have q0 := heap_alloc_new w (.cells #[.int .i64 1, .int .i64 (s : Int), .int .i64 (g : Int), .int .i64 0, .bool false] 23)
 have HX := Lh q0
 have HN := Lh hn
 have B0 := Lh (bel_al w (.cells #[.int .i64 1, .int .i64 (s : Int), .int .i64 (g : Int), .int .i64 0, .bool false] 23))
 obtain ⟨x0, x1, x2, x3, x4⟩ := bx5 q0
 clear q0 hn
 go_enter Tryz.func11, Tryz.ntmps11
 go_upto_region 1 with fail
 generalize w.alloc (.cells #[.int .i64 1, .int .i64 (s : Int), .int .i64 (g : Int), .int .i64 0, .bool false] 23) = W1 at *
 go_wp2_with fail
 clear x0 x1 x2 x3 x4
 refine (rvname_any 1 s g 0 false W1).mono ?_
 rintro e W2 ⟨rfl, hb⟩
 rw [decide_eq_true HN.out]
 have HX2 := Lh ((hb.block _ (lt_of_some HX.out)).trans HX.out)
 have B2 := Lh (B0.out.trans (hb.mono B0.out.size))
 clear hb HX B0
 obtain ⟨x0, x1, x2, x3, x4⟩ := bx5 HX2.out
 go_wp2_with fail
 clear x0 x1 x2 x3 x4
 refine (rdigit 0 (by have := HN.out.2.2; omega) W2).mono ?_
 rintro e W3 ⟨rfl, hb⟩
 have HX3 := Lh ((hb.block _ (lt_of_some HX2.out)).trans HX2.out)
 have B3 := Lh (B2.out.trans (hb.mono B2.out.size))
 clear hb HX2 B2
 go_upto_region 4 with fail
 have hz := heap_alloc_new W3 (.cells #[.string ⟨#[]⟩, .string ⟨#[100, 97, 116]⟩, .string ⟨#[115, 104, 100]⟩, .string ⟨#[100, 101, 108]⟩, .string ⟨#[105, 100, 120]⟩, .string (⟨#[101, 99]⟩ ++ ⟨#[dgB 0]⟩)] 9)
 have hb := bel_al W3 (.cells #[.string ⟨#[]⟩, .string ⟨#[100, 97, 116]⟩, .string ⟨#[115, 104, 100]⟩, .string ⟨#[100, 101, 108]⟩, .string ⟨#[105, 100, 120]⟩, .string (⟨#[101, 99]⟩ ++ ⟨#[dgB 0]⟩)] 9)
 have S4 := Lh (show KpT w w.heap.size (.cells #[.int .i64 1, .int .i64 (s : Int), .int .i64 (g : Int), .int .i64 0, .bool false] 23 (0, 0)) W3.heap.size (.cells #[.string ⟨#[]⟩, .string ⟨#[100, 97, 116]⟩, .string ⟨#[115, 104, 100]⟩, .string ⟨#[100, 101, 108]⟩, .string ⟨#[105, 100, 120]⟩, .string (⟨#[101, 99]⟩ ++ ⟨#[dgB 0]⟩)] 9 (0, 0)) (W3.alloc (.cells #[.string ⟨#[]⟩, .string ⟨#[100, 97, 116]⟩, .string ⟨#[115, 104, 100]⟩, .string ⟨#[100, 101, 108]⟩, .string ⟨#[105, 100, 120]⟩, .string (⟨#[101, 99]⟩ ++ ⟨#[dgB 0]⟩)] 9)) from ⟨B3.out.trans (hb.mono B3.out.size), (hb.block _ (lt_of_some HX3.out)).trans HX3.out, hz⟩)
 clear hb hz HX3 B3
 generalize W3.alloc (.cells #[.string ⟨#[]⟩, .string ⟨#[100, 97, 116]⟩, .string ⟨#[115, 104, 100]⟩, .string ⟨#[100, 101, 108]⟩, .string ⟨#[105, 100, 120]⟩, .string (⟨#[101, 99]⟩ ++ ⟨#[dgB 0]⟩)] 9) = W4 at *
 generalize W3.heap.size = ge at *
 refine wp_onlyN ?_
 refine wp_region_headsS (fun W' => KpT w w.heap.size (.cells #[.int .i64 1, .int .i64 (s : Int), .int .i64 (g : Int), .int .i64 0, .bool false] 23 (0, 0)) ge (.cells #[.string ⟨#[]⟩, .string ⟨#[100, 97, 116]⟩, .string ⟨#[115, 104, 100]⟩, .string ⟨#[100, 101, 108]⟩, .string ⟨#[105, 100, 120]⟩, .string (⟨#[101, 99]⟩ ++ ⟨#[dgB 0]⟩)] 9 (0, 0)) W') [0, 1, 5, 6, 10, 11, 12, 13, 14] 8 (by kernel_rfl) (fun _ _ _ _ _ h => h.elim) (by kernel_rfl) (by rfl) (by rfl) (kpT_drew S4.out) ?_
 simp only [pickOps, List.filterMap_cons, List.filterMap_nil, List.getElem?_toArray, List.getElem?_cons_zero, List.getElem?_cons_succ]
 refine wpHeads_step (fun K hK => ?_)
 go_simp
 refine ⟨_, fun _ _ => rfl, hK _ ?_⟩
 clear hK K
 refine wpHeads_step (fun K hK => ?_)
 go_simp
 refine ⟨.int .i64 (s : Int), fun w' hw' => by
   obtain ⟨x0, x1, x2, x3, x4⟩ := bx5 hw'.a1
   go_simp, hK _ ?_⟩
 clear hK K
 refine wpHeads_step (fun K hK => ?_)
 go_simp
 refine ⟨_, fun _ _ => rfl, hK _ ?_⟩
 clear hK K
 refine wpHeads_step (fun K hK => ?_)
 go_simp
 refine ⟨.int .i64 (g : Int), fun w' hw' => by
   obtain ⟨x0, x1, x2, x3, x4⟩ := bx5 hw'.a1
   go_simp, hK _ ?_⟩
 clear hK K
 refine wpHeads_step (fun K hK => ?_)
 go_simp
 refine ⟨_, fun _ _ => rfl, hK _ ?_⟩
 clear hK K
 refine wpHeads_step (fun K hK => ?_)
 go_simp
 refine ⟨_, fun _ _ => rfl, hK _ ?_⟩
 clear hK K
 refine wpHeads_step (fun K hK => ?_)
 go_simp
 refine ⟨.int .i64 1, fun w' hw' => by
   obtain ⟨x0, x1, x2, x3, x4⟩ := bx5 hw'.a1
   go_simp, hK _ ?_⟩
 clear hK K
 refine wpHeads_step (fun K hK => ?_)
 go_simp
 refine ⟨.pointer (some ⟨ge, 1, none⟩), fun w' hw' => by
   skip
   go_simp, hK _ ?_⟩
 clear hK K
 refine wpHeads_step (fun K hK => ?_)
 go_simp
 refine ⟨.string ⟨#[100, 97, 116]⟩, fun w' hw' => by
   obtain ⟨y0, y1, y2, y3, y4, y5⟩ := bx6 hw'.a2
   go_simp, hK _ ?_⟩
 clear hK K
 refine wpHeads_nil ?_
 have SX0 := Lh (kpT_drew S4.out)
 clear S4
 generalize W4.drew = Y0 at *
 refine gwq 2 fun K hK => ?_
 go_simp
 refine (rdigit s (by have := HN.out.1.2; omega) Y0).mono ?_
 rintro e Y1 ⟨rfl, hb⟩
 have SX1 := Lh (kpT_below SX0.out hb)
 refine hK _ _ SX1.out ?_
 clear hK K hb SX0
 refine tky 3 (.string (⟨#[118, 46]⟩ ++ ⟨#[dgB (s : Int)]⟩)) rfl (fun w' hw' => by
   go_simp) SX1.out ?_
 refine tky 4 (.string ((⟨#[118, 46]⟩ ++ ⟨#[dgB (s : Int)]⟩) ++ ⟨#[46]⟩)) rfl (fun w' hw' => by
   go_simp) SX1.out ?_
 refine gwq 7 fun K hK => ?_
 go_simp
 refine (rdigit g (by have := HN.out.2.1.2; omega) Y1).mono ?_
 rintro e Y2 ⟨rfl, hb⟩
 have SX2 := Lh (kpT_below SX1.out hb)
 refine hK _ _ SX2.out ?_
 clear hK K hb SX1
 refine tky 8 (.string (((⟨#[118, 46]⟩ ++ ⟨#[dgB (s : Int)]⟩) ++ ⟨#[46]⟩) ++ ⟨#[dgB (g : Int)]⟩)) rfl (fun w' hw' => by
   go_simp) SX2.out ?_
 refine tky 9 (.string ((((⟨#[118, 46]⟩ ++ ⟨#[dgB (s : Int)]⟩) ++ ⟨#[46]⟩) ++ ⟨#[dgB (g : Int)]⟩) ++ ⟨#[46]⟩)) rfl (fun w' hw' => by
   go_simp) SX2.out ?_
 refine tky 15 (.string (((((⟨#[118, 46]⟩ ++ ⟨#[dgB (s : Int)]⟩) ++ ⟨#[46]⟩) ++ ⟨#[dgB (g : Int)]⟩) ++ ⟨#[46]⟩) ++ ⟨#[100, 97, 116]⟩)) rfl (fun w' hw' => by
   go_simp) SX2.out ?_
 refine gwq 16 fun K hK => ?_
 go_simp
 refine hK _ _ SX2.out ?_
 clear hK K
 refine wpAnyH_done (by kernel_rfl) ?_ _
 unfold onlyN
 dsimp only
 obtain ⟨x0, x1, x2, x3, x4⟩ := bx5 SX2.out.a1
 go_wp2_with fail
 go_ret2
 refine fmO_t HN.out ?_ ⟨rfl, SX2.out.be⟩
 rfl
theorem rfm_2false (s g : Nat) (w : World) (hn : NameOk 2 s g 0 false) : Calls Tryz.prog 11 #[.agg #[.int .i64 2, .int .i64 (s : Int), .int .i64 (g : Int), .int .i64 0, .bool false]] w (FmO 2 s g 0 false w) := by
 have q0 := heap_alloc_new w (.cells #[.int .i64 2, .int .i64 (s : Int), .int .i64 (g : Int), .int .i64 0, .bool false] 23)
 have HX := Lh q0
 have HN := Lh hn
 have B0 := Lh (bel_al w (.cells #[.int .i64 2, .int .i64 (s : Int), .int .i64 (g : Int), .int .i64 0, .bool false] 23))
 obtain ⟨x0, x1, x2, x3, x4⟩ := bx5 q0
 clear q0 hn
 go_enter Tryz.func11, Tryz.ntmps11
 go_upto_region 1 with fail
 generalize w.alloc (.cells #[.int .i64 2, .int .i64 (s : Int), .int .i64 (g : Int), .int .i64 0, .bool false] 23) = W1 at *
 go_wp2_with fail
 clear x0 x1 x2 x3 x4
 refine (rvname_any 2 s g 0 false W1).mono ?_
 rintro e W2 ⟨rfl, hb⟩
 rw [decide_eq_true HN.out]
 have HX2 := Lh ((hb.block _ (lt_of_some HX.out)).trans HX.out)
 have B2 := Lh (B0.out.trans (hb.mono B0.out.size))
 clear hb HX B0
 obtain ⟨x0, x1, x2, x3, x4⟩ := bx5 HX2.out
 go_wp2_with fail
 clear x0 x1 x2 x3 x4
 refine (rdigit 0 (by have := HN.out.2.2; omega) W2).mono ?_
 rintro e W3 ⟨rfl, hb⟩
 have HX3 := Lh ((hb.block _ (lt_of_some HX2.out)).trans HX2.out)
 have B3 := Lh (B2.out.trans (hb.mono B2.out.size))
 clear hb HX2 B2
 go_upto_region 4 with fail
 have hz := heap_alloc_new W3 (.cells #[.string ⟨#[]⟩, .string ⟨#[100, 97, 116]⟩, .string ⟨#[115, 104, 100]⟩, .string ⟨#[100, 101, 108]⟩, .string ⟨#[105, 100, 120]⟩, .string (⟨#[101, 99]⟩ ++ ⟨#[dgB 0]⟩)] 9)
 have hb := bel_al W3 (.cells #[.string ⟨#[]⟩, .string ⟨#[100, 97, 116]⟩, .string ⟨#[115, 104, 100]⟩, .string ⟨#[100, 101, 108]⟩, .string ⟨#[105, 100, 120]⟩, .string (⟨#[101, 99]⟩ ++ ⟨#[dgB 0]⟩)] 9)
 have S4 := Lh (show KpT w w.heap.size (.cells #[.int .i64 2, .int .i64 (s : Int), .int .i64 (g : Int), .int .i64 0, .bool false] 23 (0, 0)) W3.heap.size (.cells #[.string ⟨#[]⟩, .string ⟨#[100, 97, 116]⟩, .string ⟨#[115, 104, 100]⟩, .string ⟨#[100, 101, 108]⟩, .string ⟨#[105, 100, 120]⟩, .string (⟨#[101, 99]⟩ ++ ⟨#[dgB 0]⟩)] 9 (0, 0)) (W3.alloc (.cells #[.string ⟨#[]⟩, .string ⟨#[100, 97, 116]⟩, .string ⟨#[115, 104, 100]⟩, .string ⟨#[100, 101, 108]⟩, .string ⟨#[105, 100, 120]⟩, .string (⟨#[101, 99]⟩ ++ ⟨#[dgB 0]⟩)] 9)) from ⟨B3.out.trans (hb.mono B3.out.size), (hb.block _ (lt_of_some HX3.out)).trans HX3.out, hz⟩)
 clear hb hz HX3 B3
 generalize W3.alloc (.cells #[.string ⟨#[]⟩, .string ⟨#[100, 97, 116]⟩, .string ⟨#[115, 104, 100]⟩, .string ⟨#[100, 101, 108]⟩, .string ⟨#[105, 100, 120]⟩, .string (⟨#[101, 99]⟩ ++ ⟨#[dgB 0]⟩)] 9) = W4 at *
 generalize W3.heap.size = ge at *
 refine wp_onlyN ?_
 refine wp_region_headsS (fun W' => KpT w w.heap.size (.cells #[.int .i64 2, .int .i64 (s : Int), .int .i64 (g : Int), .int .i64 0, .bool false] 23 (0, 0)) ge (.cells #[.string ⟨#[]⟩, .string ⟨#[100, 97, 116]⟩, .string ⟨#[115, 104, 100]⟩, .string ⟨#[100, 101, 108]⟩, .string ⟨#[105, 100, 120]⟩, .string (⟨#[101, 99]⟩ ++ ⟨#[dgB 0]⟩)] 9 (0, 0)) W') [0, 1, 5, 6, 10, 11, 12, 13, 14] 8 (by kernel_rfl) (fun _ _ _ _ _ h => h.elim) (by kernel_rfl) (by rfl) (by rfl) (kpT_drew S4.out) ?_
 simp only [pickOps, List.filterMap_cons, List.filterMap_nil, List.getElem?_toArray, List.getElem?_cons_zero, List.getElem?_cons_succ]
 refine wpHeads_step (fun K hK => ?_)
 go_simp
 refine ⟨_, fun _ _ => rfl, hK _ ?_⟩
 clear hK K
 refine wpHeads_step (fun K hK => ?_)
 go_simp
 refine ⟨.int .i64 (s : Int), fun w' hw' => by
   obtain ⟨x0, x1, x2, x3, x4⟩ := bx5 hw'.a1
   go_simp, hK _ ?_⟩
 clear hK K
 refine wpHeads_step (fun K hK => ?_)
 go_simp
 refine ⟨_, fun _ _ => rfl, hK _ ?_⟩
 clear hK K
 refine wpHeads_step (fun K hK => ?_)
 go_simp
 refine ⟨.int .i64 (g : Int), fun w' hw' => by
   obtain ⟨x0, x1, x2, x3, x4⟩ := bx5 hw'.a1
   go_simp, hK _ ?_⟩
 clear hK K
 refine wpHeads_step (fun K hK => ?_)
 go_simp
 refine ⟨_, fun _ _ => rfl, hK _ ?_⟩
 clear hK K
 refine wpHeads_step (fun K hK => ?_)
 go_simp
 refine ⟨_, fun _ _ => rfl, hK _ ?_⟩
 clear hK K
 refine wpHeads_step (fun K hK => ?_)
 go_simp
 refine ⟨.int .i64 2, fun w' hw' => by
   obtain ⟨x0, x1, x2, x3, x4⟩ := bx5 hw'.a1
   go_simp, hK _ ?_⟩
 clear hK K
 refine wpHeads_step (fun K hK => ?_)
 go_simp
 refine ⟨.pointer (some ⟨ge, 2, none⟩), fun w' hw' => by
   skip
   go_simp, hK _ ?_⟩
 clear hK K
 refine wpHeads_step (fun K hK => ?_)
 go_simp
 refine ⟨.string ⟨#[115, 104, 100]⟩, fun w' hw' => by
   obtain ⟨y0, y1, y2, y3, y4, y5⟩ := bx6 hw'.a2
   go_simp, hK _ ?_⟩
 clear hK K
 refine wpHeads_nil ?_
 have SX0 := Lh (kpT_drew S4.out)
 clear S4
 generalize W4.drew = Y0 at *
 refine gwq 2 fun K hK => ?_
 go_simp
 refine (rdigit s (by have := HN.out.1.2; omega) Y0).mono ?_
 rintro e Y1 ⟨rfl, hb⟩
 have SX1 := Lh (kpT_below SX0.out hb)
 refine hK _ _ SX1.out ?_
 clear hK K hb SX0
 refine tky 3 (.string (⟨#[118, 46]⟩ ++ ⟨#[dgB (s : Int)]⟩)) rfl (fun w' hw' => by
   go_simp) SX1.out ?_
 refine tky 4 (.string ((⟨#[118, 46]⟩ ++ ⟨#[dgB (s : Int)]⟩) ++ ⟨#[46]⟩)) rfl (fun w' hw' => by
   go_simp) SX1.out ?_
 refine gwq 7 fun K hK => ?_
 go_simp
 refine (rdigit g (by have := HN.out.2.1.2; omega) Y1).mono ?_
 rintro e Y2 ⟨rfl, hb⟩
 have SX2 := Lh (kpT_below SX1.out hb)
 refine hK _ _ SX2.out ?_
 clear hK K hb SX1
 refine tky 8 (.string (((⟨#[118, 46]⟩ ++ ⟨#[dgB (s : Int)]⟩) ++ ⟨#[46]⟩) ++ ⟨#[dgB (g : Int)]⟩)) rfl (fun w' hw' => by
   go_simp) SX2.out ?_
 refine tky 9 (.string ((((⟨#[118, 46]⟩ ++ ⟨#[dgB (s : Int)]⟩) ++ ⟨#[46]⟩) ++ ⟨#[dgB (g : Int)]⟩) ++ ⟨#[46]⟩)) rfl (fun w' hw' => by
   go_simp) SX2.out ?_
 refine tky 15 (.string (((((⟨#[118, 46]⟩ ++ ⟨#[dgB (s : Int)]⟩) ++ ⟨#[46]⟩) ++ ⟨#[dgB (g : Int)]⟩) ++ ⟨#[46]⟩) ++ ⟨#[115, 104, 100]⟩)) rfl (fun w' hw' => by
   go_simp) SX2.out ?_
 refine gwq 16 fun K hK => ?_
 go_simp
 refine hK _ _ SX2.out ?_
 clear hK K
 refine wpAnyH_done (by kernel_rfl) ?_ _
 unfold onlyN
 dsimp only
 obtain ⟨x0, x1, x2, x3, x4⟩ := bx5 SX2.out.a1
 go_wp2_with fail
 go_ret2
 refine fmO_t HN.out ?_ ⟨rfl, SX2.out.be⟩
 rfl
theorem rfm_3false (s g : Nat) (w : World) (hn : NameOk 3 s g 0 false) : Calls Tryz.prog 11 #[.agg #[.int .i64 3, .int .i64 (s : Int), .int .i64 (g : Int), .int .i64 0, .bool false]] w (FmO 3 s g 0 false w) := by
 have q0 := heap_alloc_new w (.cells #[.int .i64 3, .int .i64 (s : Int), .int .i64 (g : Int), .int .i64 0, .bool false] 23)
 have HX := Lh q0
 have HN := Lh hn
 have B0 := Lh (bel_al w (.cells #[.int .i64 3, .int .i64 (s : Int), .int .i64 (g : Int), .int .i64 0, .bool false] 23))
 obtain ⟨x0, x1, x2, x3, x4⟩ := bx5 q0
 clear q0 hn
 go_enter Tryz.func11, Tryz.ntmps11
 go_upto_region 1 with fail
 generalize w.alloc (.cells #[.int .i64 3, .int .i64 (s : Int), .int .i64 (g : Int), .int .i64 0, .bool false] 23) = W1 at *
 go_wp2_with fail
 clear x0 x1 x2 x3 x4
 refine (rvname_any 3 s g 0 false W1).mono ?_
 rintro e W2 ⟨rfl, hb⟩
 rw [decide_eq_true HN.out]
 have HX2 := Lh ((hb.block _ (lt_of_some HX.out)).trans HX.out)
 have B2 := Lh (B0.out.trans (hb.mono B0.out.size))
 clear hb HX B0
 obtain ⟨x0, x1, x2, x3, x4⟩ := bx5 HX2.out
 go_wp2_with fail
 clear x0 x1 x2 x3 x4
 refine (rdigit 0 (by have := HN.out.2.2; omega) W2).mono ?_
 rintro e W3 ⟨rfl, hb⟩
 have HX3 := Lh ((hb.block _ (lt_of_some HX2.out)).trans HX2.out)
 have B3 := Lh (B2.out.trans (hb.mono B2.out.size))
 clear hb HX2 B2
 go_upto_region 4 with fail
 have hz := heap_alloc_new W3 (.cells #[.string ⟨#[]⟩, .string ⟨#[100, 97, 116]⟩, .string ⟨#[115, 104, 100]⟩, .string ⟨#[100, 101, 108]⟩, .string ⟨#[105, 100, 120]⟩, .string (⟨#[101, 99]⟩ ++ ⟨#[dgB 0]⟩)] 9)
 have hb := bel_al W3 (.cells #[.string ⟨#[]⟩, .string ⟨#[100, 97, 116]⟩, .string ⟨#[115, 104, 100]⟩, .string ⟨#[100, 101, 108]⟩, .string ⟨#[105, 100, 120]⟩, .string (⟨#[101, 99]⟩ ++ ⟨#[dgB 0]⟩)] 9)
 have S4 := Lh (show KpT w w.heap.size (.cells #[.int .i64 3, .int .i64 (s : Int), .int .i64 (g : Int), .int .i64 0, .bool false] 23 (0, 0)) W3.heap.size (.cells #[.string ⟨#[]⟩, .string ⟨#[100, 97, 116]⟩, .string ⟨#[115, 104, 100]⟩, .string ⟨#[100, 101, 108]⟩, .string ⟨#[105, 100, 120]⟩, .string (⟨#[101, 99]⟩ ++ ⟨#[dgB 0]⟩)] 9 (0, 0)) (W3.alloc (.cells #[.string ⟨#[]⟩, .string ⟨#[100, 97, 116]⟩, .string ⟨#[115, 104, 100]⟩, .string ⟨#[100, 101, 108]⟩, .string ⟨#[105, 100, 120]⟩, .string (⟨#[101, 99]⟩ ++ ⟨#[dgB 0]⟩)] 9)) from ⟨B3.out.trans (hb.mono B3.out.size), (hb.block _ (lt_of_some HX3.out)).trans HX3.out, hz⟩)
 clear hb hz HX3 B3
 generalize W3.alloc (.cells #[.string ⟨#[]⟩, .string ⟨#[100, 97, 116]⟩, .string ⟨#[115, 104, 100]⟩, .string ⟨#[100, 101, 108]⟩, .string ⟨#[105, 100, 120]⟩, .string (⟨#[101, 99]⟩ ++ ⟨#[dgB 0]⟩)] 9) = W4 at *
 generalize W3.heap.size = ge at *
 refine wp_onlyN ?_
 refine wp_region_headsS (fun W' => KpT w w.heap.size (.cells #[.int .i64 3, .int .i64 (s : Int), .int .i64 (g : Int), .int .i64 0, .bool false] 23 (0, 0)) ge (.cells #[.string ⟨#[]⟩, .string ⟨#[100, 97, 116]⟩, .string ⟨#[115, 104, 100]⟩, .string ⟨#[100, 101, 108]⟩, .string ⟨#[105, 100, 120]⟩, .string (⟨#[101, 99]⟩ ++ ⟨#[dgB 0]⟩)] 9 (0, 0)) W') [0, 1, 5, 6, 10, 11, 12, 13, 14] 8 (by kernel_rfl) (fun _ _ _ _ _ h => h.elim) (by kernel_rfl) (by rfl) (by rfl) (kpT_drew S4.out) ?_
 simp only [pickOps, List.filterMap_cons, List.filterMap_nil, List.getElem?_toArray, List.getElem?_cons_zero, List.getElem?_cons_succ]
 refine wpHeads_step (fun K hK => ?_)
 go_simp
 refine ⟨_, fun _ _ => rfl, hK _ ?_⟩
 clear hK K
 refine wpHeads_step (fun K hK => ?_)
 go_simp
 refine ⟨.int .i64 (s : Int), fun w' hw' => by
   obtain ⟨x0, x1, x2, x3, x4⟩ := bx5 hw'.a1
   go_simp, hK _ ?_⟩
 clear hK K
 refine wpHeads_step (fun K hK => ?_)
 go_simp
 refine ⟨_, fun _ _ => rfl, hK _ ?_⟩
 clear hK K
 refine wpHeads_step (fun K hK => ?_)
 go_simp
 refine ⟨.int .i64 (g : Int), fun w' hw' => by
   obtain ⟨x0, x1, x2, x3, x4⟩ := bx5 hw'.a1
   go_simp, hK _ ?_⟩
 clear hK K
 refine wpHeads_step (fun K hK => ?_)
 go_simp
 refine ⟨_, fun _ _ => rfl, hK _ ?_⟩
 clear hK K
 refine wpHeads_step (fun K hK => ?_)
 go_simp
 refine ⟨_, fun _ _ => rfl, hK _ ?_⟩
 clear hK K
 refine wpHeads_step (fun K hK => ?_)
 go_simp
 refine ⟨.int .i64 3, fun w' hw' => by
   obtain ⟨x0, x1, x2, x3, x4⟩ := bx5 hw'.a1
   go_simp, hK _ ?_⟩
 clear hK K
 refine wpHeads_step (fun K hK => ?_)
 go_simp
 refine ⟨.pointer (some ⟨ge, 3, none⟩), fun w' hw' => by
   skip
   go_simp, hK _ ?_⟩
 clear hK K
 refine wpHeads_step (fun K hK => ?_)
 go_simp
 refine ⟨.string ⟨#[100, 101, 108]⟩, fun w' hw' => by
   obtain ⟨y0, y1, y2, y3, y4, y5⟩ := bx6 hw'.a2
   go_simp, hK _ ?_⟩
 clear hK K
 refine wpHeads_nil ?_
 have SX0 := Lh (kpT_drew S4.out)
 clear S4
 generalize W4.drew = Y0 at *
 refine gwq 2 fun K hK => ?_
 go_simp
 refine (rdigit s (by have := HN.out.1.2; omega) Y0).mono ?_
 rintro e Y1 ⟨rfl, hb⟩
 have SX1 := Lh (kpT_below SX0.out hb)
 refine hK _ _ SX1.out ?_
 clear hK K hb SX0
 refine tky 3 (.string (⟨#[118, 46]⟩ ++ ⟨#[dgB (s : Int)]⟩)) rfl (fun w' hw' => by
   go_simp) SX1.out ?_
 refine tky 4 (.string ((⟨#[118, 46]⟩ ++ ⟨#[dgB (s : Int)]⟩) ++ ⟨#[46]⟩)) rfl (fun w' hw' => by
   go_simp) SX1.out ?_
 refine gwq 7 fun K hK => ?_
 go_simp
 refine (rdigit g (by have := HN.out.2.1.2; omega) Y1).mono ?_
 rintro e Y2 ⟨rfl, hb⟩
 have SX2 := Lh (kpT_below SX1.out hb)
 refine hK _ _ SX2.out ?_
 clear hK K hb SX1
 refine tky 8 (.string (((⟨#[118, 46]⟩ ++ ⟨#[dgB (s : Int)]⟩) ++ ⟨#[46]⟩) ++ ⟨#[dgB (g : Int)]⟩)) rfl (fun w' hw' => by
   go_simp) SX2.out ?_
 refine tky 9 (.string ((((⟨#[118, 46]⟩ ++ ⟨#[dgB (s : Int)]⟩) ++ ⟨#[46]⟩) ++ ⟨#[dgB (g : Int)]⟩) ++ ⟨#[46]⟩)) rfl (fun w' hw' => by
   go_simp) SX2.out ?_
 refine tky 15 (.string (((((⟨#[118, 46]⟩ ++ ⟨#[dgB (s : Int)]⟩) ++ ⟨#[46]⟩) ++ ⟨#[dgB (g : Int)]⟩) ++ ⟨#[46]⟩) ++ ⟨#[100, 101, 108]⟩)) rfl (fun w' hw' => by
   go_simp) SX2.out ?_
 refine gwq 16 fun K hK => ?_
 go_simp
 refine hK _ _ SX2.out ?_
 clear hK K
 refine wpAnyH_done (by kernel_rfl) ?_ _
 unfold onlyN
 dsimp only
 obtain ⟨x0, x1, x2, x3, x4⟩ := bx5 SX2.out.a1
 go_wp2_with fail
 go_ret2
 refine fmO_t HN.out ?_ ⟨rfl, SX2.out.be⟩
 rfl
theorem rfm_4false (s g : Nat) (w : World) (hn : NameOk 4 s g 0 false) : Calls Tryz.prog 11 #[.agg #[.int .i64 4, .int .i64 (s : Int), .int .i64 (g : Int), .int .i64 0, .bool false]] w (FmO 4 s g 0 false w) := by
 have q0 := heap_alloc_new w (.cells #[.int .i64 4, .int .i64 (s : Int), .int .i64 (g : Int), .int .i64 0, .bool false] 23)
 have HX := Lh q0
 have HN := Lh hn
 have B0 := Lh (bel_al w (.cells #[.int .i64 4, .int .i64 (s : Int), .int .i64 (g : Int), .int .i64 0, .bool false] 23))
 obtain ⟨x0, x1, x2, x3, x4⟩ := bx5 q0
 clear q0 hn
 go_enter Tryz.func11, Tryz.ntmps11
 go_upto_region 1 with fail
 generalize w.alloc (.cells #[.int .i64 4, .int .i64 (s : Int), .int .i64 (g : Int), .int .i64 0, .bool false] 23) = W1 at *
 go_wp2_with fail
 clear x0 x1 x2 x3 x4
 refine (rvname_any 4 s g 0 false W1).mono ?_
 rintro e W2 ⟨rfl, hb⟩
 rw [decide_eq_true HN.out]
 have HX2 := Lh ((hb.block _ (lt_of_some HX.out)).trans HX.out)
 have B2 := Lh (B0.out.trans (hb.mono B0.out.size))
 clear hb HX B0
 obtain ⟨x0, x1, x2, x3, x4⟩ := bx5 HX2.out
 go_wp2_with fail
 clear x0 x1 x2 x3 x4
 refine (rdigit 0 (by have := HN.out.2.2; omega) W2).mono ?_
 rintro e W3 ⟨rfl, hb⟩
 have HX3 := Lh ((hb.block _ (lt_of_some HX2.out)).trans HX2.out)
 have B3 := Lh (B2.out.trans (hb.mono B2.out.size))
 clear hb HX2 B2
 go_upto_region 4 with fail
 have hz := heap_alloc_new W3 (.cells #[.string ⟨#[]⟩, .string ⟨#[100, 97, 116]⟩, .string ⟨#[115, 104, 100]⟩, .string ⟨#[100, 101, 108]⟩, .string ⟨#[105, 100, 120]⟩, .string (⟨#[101, 99]⟩ ++ ⟨#[dgB 0]⟩)] 9)
 have hb := bel_al W3 (.cells #[.string ⟨#[]⟩, .string ⟨#[100, 97, 116]⟩, .string ⟨#[115, 104, 100]⟩, .string ⟨#[100, 101, 108]⟩, .string ⟨#[105, 100, 120]⟩, .string (⟨#[101, 99]⟩ ++ ⟨#[dgB 0]⟩)] 9)
 have S4 := Lh (show KpT w w.heap.size (.cells #[.int .i64 4, .int .i64 (s : Int), .int .i64 (g : Int), .int .i64 0, .bool false] 23 (0, 0)) W3.heap.size (.cells #[.string ⟨#[]⟩, .string ⟨#[100, 97, 116]⟩, .string ⟨#[115, 104, 100]⟩, .string ⟨#[100, 101, 108]⟩, .string ⟨#[105, 100, 120]⟩, .string (⟨#[101, 99]⟩ ++ ⟨#[dgB 0]⟩)] 9 (0, 0)) (W3.alloc (.cells #[.string ⟨#[]⟩, .string ⟨#[100, 97, 116]⟩, .string ⟨#[115, 104, 100]⟩, .string ⟨#[100, 101, 108]⟩, .string ⟨#[105, 100, 120]⟩, .string (⟨#[101, 99]⟩ ++ ⟨#[dgB 0]⟩)] 9)) from ⟨B3.out.trans (hb.mono B3.out.size), (hb.block _ (lt_of_some HX3.out)).trans HX3.out, hz⟩)
 clear hb hz HX3 B3
 generalize W3.alloc (.cells #[.string ⟨#[]⟩, .string ⟨#[100, 97, 116]⟩, .string ⟨#[115, 104, 100]⟩, .string ⟨#[100, 101, 108]⟩, .string ⟨#[105, 100, 120]⟩, .string (⟨#[101, 99]⟩ ++ ⟨#[dgB 0]⟩)] 9) = W4 at *
 generalize W3.heap.size = ge at *
 refine wp_onlyN ?_
 refine wp_region_headsS (fun W' => KpT w w.heap.size (.cells #[.int .i64 4, .int .i64 (s : Int), .int .i64 (g : Int), .int .i64 0, .bool false] 23 (0, 0)) ge (.cells #[.string ⟨#[]⟩, .string ⟨#[100, 97, 116]⟩, .string ⟨#[115, 104, 100]⟩, .string ⟨#[100, 101, 108]⟩, .string ⟨#[105, 100, 120]⟩, .string (⟨#[101, 99]⟩ ++ ⟨#[dgB 0]⟩)] 9 (0, 0)) W') [0, 1, 5, 6, 10, 11, 12, 13, 14] 8 (by kernel_rfl) (fun _ _ _ _ _ h => h.elim) (by kernel_rfl) (by rfl) (by rfl) (kpT_drew S4.out) ?_
 simp only [pickOps, List.filterMap_cons, List.filterMap_nil, List.getElem?_toArray, List.getElem?_cons_zero, List.getElem?_cons_succ]
 refine wpHeads_step (fun K hK => ?_)
 go_simp
 refine ⟨_, fun _ _ => rfl, hK _ ?_⟩
 clear hK K
 refine wpHeads_step (fun K hK => ?_)
 go_simp
 refine ⟨.int .i64 (s : Int), fun w' hw' => by
   obtain ⟨x0, x1, x2, x3, x4⟩ := bx5 hw'.a1
   go_simp, hK _ ?_⟩
 clear hK K
 refine wpHeads_step (fun K hK => ?_)
 go_simp
 refine ⟨_, fun _ _ => rfl, hK _ ?_⟩
 clear hK K
 refine wpHeads_step (fun K hK => ?_)
 go_simp
 refine ⟨.int .i64 (g : Int), fun w' hw' => by
   obtain ⟨x0, x1, x2, x3, x4⟩ := bx5 hw'.a1
   go_simp, hK _ ?_⟩
 clear hK K
 refine wpHeads_step (fun K hK => ?_)
 go_simp
 refine ⟨_, fun _ _ => rfl, hK _ ?_⟩
 clear hK K
 refine wpHeads_step (fun K hK => ?_)
 go_simp
 refine ⟨_, fun _ _ => rfl, hK _ ?_⟩
 clear hK K
 refine wpHeads_step (fun K hK => ?_)
 go_simp
 refine ⟨.int .i64 4, fun w' hw' => by
   obtain ⟨x0, x1, x2, x3, x4⟩ := bx5 hw'.a1
   go_simp, hK _ ?_⟩
 clear hK K
 refine wpHeads_step (fun K hK => ?_)
 go_simp
 refine ⟨.pointer (some ⟨ge, 4, none⟩), fun w' hw' => by
   skip
   go_simp, hK _ ?_⟩
 clear hK K
 refine wpHeads_step (fun K hK => ?_)
 go_simp
 refine ⟨.string ⟨#[105, 100, 120]⟩, fun w' hw' => by
   obtain ⟨y0, y1, y2, y3, y4, y5⟩ := bx6 hw'.a2
   go_simp, hK _ ?_⟩
 clear hK K
 refine wpHeads_nil ?_
 have SX0 := Lh (kpT_drew S4.out)
 clear S4
 generalize W4.drew = Y0 at *
 refine gwq 2 fun K hK => ?_
 go_simp
 refine (rdigit s (by have := HN.out.1.2; omega) Y0).mono ?_
 rintro e Y1 ⟨rfl, hb⟩
 have SX1 := Lh (kpT_below SX0.out hb)
 refine hK _ _ SX1.out ?_
 clear hK K hb SX0
 refine tky 3 (.string (⟨#[118, 46]⟩ ++ ⟨#[dgB (s : Int)]⟩)) rfl (fun w' hw' => by
   go_simp) SX1.out ?_
 refine tky 4 (.string ((⟨#[118, 46]⟩ ++ ⟨#[dgB (s : Int)]⟩) ++ ⟨#[46]⟩)) rfl (fun w' hw' => by
   go_simp) SX1.out ?_
 refine gwq 7 fun K hK => ?_
 go_simp
 refine (rdigit g (by have := HN.out.2.1.2; omega) Y1).mono ?_
 rintro e Y2 ⟨rfl, hb⟩
 have SX2 := Lh (kpT_below SX1.out hb)
 refine hK _ _ SX2.out ?_
 clear hK K hb SX1
 refine tky 8 (.string (((⟨#[118, 46]⟩ ++ ⟨#[dgB (s : Int)]⟩) ++ ⟨#[46]⟩) ++ ⟨#[dgB (g : Int)]⟩)) rfl (fun w' hw' => by
   go_simp) SX2.out ?_
 refine tky 9 (.string ((((⟨#[118, 46]⟩ ++ ⟨#[dgB (s : Int)]⟩) ++ ⟨#[46]⟩) ++ ⟨#[dgB (g : Int)]⟩) ++ ⟨#[46]⟩)) rfl (fun w' hw' => by
   go_simp) SX2.out ?_
 refine tky 15 (.string (((((⟨#[118, 46]⟩ ++ ⟨#[dgB (s : Int)]⟩) ++ ⟨#[46]⟩) ++ ⟨#[dgB (g : Int)]⟩) ++ ⟨#[46]⟩) ++ ⟨#[105, 100, 120]⟩)) rfl (fun w' hw' => by
   go_simp) SX2.out ?_
 refine gwq 16 fun K hK => ?_
 go_simp
 refine hK _ _ SX2.out ?_
 clear hK K
 refine wpAnyH_done (by kernel_rfl) ?_ _
 unfold onlyN
 dsimp only
 obtain ⟨x0, x1, x2, x3, x4⟩ := bx5 SX2.out.a1
 go_wp2_with fail
 go_ret2
 refine fmO_t HN.out ?_ ⟨rfl, SX2.out.be⟩
 rfl
theorem rfm_4true (s g : Nat) (w : World) (hn : NameOk 4 s g 0 true) : Calls Tryz.prog 11 #[.agg #[.int .i64 4, .int .i64 (s : Int), .int .i64 (g : Int), .int .i64 0, .bool true]] w (FmO 4 s g 0 true w) := by
 have q0 := heap_alloc_new w (.cells #[.int .i64 4, .int .i64 (s : Int), .int .i64 (g : Int), .int .i64 0, .bool true] 23)
 have HX := Lh q0
 have HN := Lh hn
 have B0 := Lh (bel_al w (.cells #[.int .i64 4, .int .i64 (s : Int), .int .i64 (g : Int), .int .i64 0, .bool true] 23))
 obtain ⟨x0, x1, x2, x3, x4⟩ := bx5 q0
 clear q0 hn
 go_enter Tryz.func11, Tryz.ntmps11
 go_upto_region 1 with fail
 generalize w.alloc (.cells #[.int .i64 4, .int .i64 (s : Int), .int .i64 (g : Int), .int .i64 0, .bool true] 23) = W1 at *
 go_wp2_with fail
 clear x0 x1 x2 x3 x4
 refine (rvname_any 4 s g 0 true W1).mono ?_
 rintro e W2 ⟨rfl, hb⟩
 rw [decide_eq_true HN.out]
 have HX2 := Lh ((hb.block _ (lt_of_some HX.out)).trans HX.out)
 have B2 := Lh (B0.out.trans (hb.mono B0.out.size))
 clear hb HX B0
 obtain ⟨x0, x1, x2, x3, x4⟩ := bx5 HX2.out
 go_wp2_with fail
 clear x0 x1 x2 x3 x4
 refine (rdigit 0 (by have := HN.out.2.2; omega) W2).mono ?_
 rintro e W3 ⟨rfl, hb⟩
 have HX3 := Lh ((hb.block _ (lt_of_some HX2.out)).trans HX2.out)
 have B3 := Lh (B2.out.trans (hb.mono B2.out.size))
 clear hb HX2 B2
 go_upto_region 4 with fail
 have hz := heap_alloc_new W3 (.cells #[.string ⟨#[]⟩, .string ⟨#[100, 97, 116]⟩, .string ⟨#[115, 104, 100]⟩, .string ⟨#[100, 101, 108]⟩, .string ⟨#[105, 100, 120]⟩, .string (⟨#[101, 99]⟩ ++ ⟨#[dgB 0]⟩)] 9)
 have hb := bel_al W3 (.cells #[.string ⟨#[]⟩, .string ⟨#[100, 97, 116]⟩, .string ⟨#[115, 104, 100]⟩, .string ⟨#[100, 101, 108]⟩, .string ⟨#[105, 100, 120]⟩, .string (⟨#[101, 99]⟩ ++ ⟨#[dgB 0]⟩)] 9)
 have S4 := Lh (show KpT w w.heap.size (.cells #[.int .i64 4, .int .i64 (s : Int), .int .i64 (g : Int), .int .i64 0, .bool true] 23 (0, 0)) W3.heap.size (.cells #[.string ⟨#[]⟩, .string ⟨#[100, 97, 116]⟩, .string ⟨#[115, 104, 100]⟩, .string ⟨#[100, 101, 108]⟩, .string ⟨#[105, 100, 120]⟩, .string (⟨#[101, 99]⟩ ++ ⟨#[dgB 0]⟩)] 9 (0, 0)) (W3.alloc (.cells #[.string ⟨#[]⟩, .string ⟨#[100, 97, 116]⟩, .string ⟨#[115, 104, 100]⟩, .string ⟨#[100, 101, 108]⟩, .string ⟨#[105, 100, 120]⟩, .string (⟨#[101, 99]⟩ ++ ⟨#[dgB 0]⟩)] 9)) from ⟨B3.out.trans (hb.mono B3.out.size), (hb.block _ (lt_of_some HX3.out)).trans HX3.out, hz⟩)
 clear hb hz HX3 B3
 generalize W3.alloc (.cells #[.string ⟨#[]⟩, .string ⟨#[100, 97, 116]⟩, .string ⟨#[115, 104, 100]⟩, .string ⟨#[100, 101, 108]⟩, .string ⟨#[105, 100, 120]⟩, .string (⟨#[101, 99]⟩ ++ ⟨#[dgB 0]⟩)] 9) = W4 at *
 generalize W3.heap.size = ge at *
 refine wp_onlyN ?_
 refine wp_region_headsS (fun W' => KpT w w.heap.size (.cells #[.int .i64 4, .int .i64 (s : Int), .int .i64 (g : Int), .int .i64 0, .bool true] 23 (0, 0)) ge (.cells #[.string ⟨#[]⟩, .string ⟨#[100, 97, 116]⟩, .string ⟨#[115, 104, 100]⟩, .string ⟨#[100, 101, 108]⟩, .string ⟨#[105, 100, 120]⟩, .string (⟨#[101, 99]⟩ ++ ⟨#[dgB 0]⟩)] 9 (0, 0)) W') [0, 1, 5, 6, 10, 11, 12, 13, 14] 8 (by kernel_rfl) (fun _ _ _ _ _ h => h.elim) (by kernel_rfl) (by rfl) (by rfl) (kpT_drew S4.out) ?_
 simp only [pickOps, List.filterMap_cons, List.filterMap_nil, List.getElem?_toArray, List.getElem?_cons_zero, List.getElem?_cons_succ]
 refine wpHeads_step (fun K hK => ?_)
 go_simp
 refine ⟨_, fun _ _ => rfl, hK _ ?_⟩
 clear hK K
 refine wpHeads_step (fun K hK => ?_)
 go_simp
 refine ⟨.int .i64 (s : Int), fun w' hw' => by
   obtain ⟨x0, x1, x2, x3, x4⟩ := bx5 hw'.a1
   go_simp, hK _ ?_⟩
 clear hK K
 refine wpHeads_step (fun K hK => ?_)
 go_simp
 refine ⟨_, fun _ _ => rfl, hK _ ?_⟩
 clear hK K
 refine wpHeads_step (fun K hK => ?_)
 go_simp
 refine ⟨.int .i64 (g : Int), fun w' hw' => by
   obtain ⟨x0, x1, x2, x3, x4⟩ := bx5 hw'.a1
   go_simp, hK _ ?_⟩
 clear hK K
 refine wpHeads_step (fun K hK => ?_)
 go_simp
 refine ⟨_, fun _ _ => rfl, hK _ ?_⟩
 clear hK K
 refine wpHeads_step (fun K hK => ?_)
 go_simp
 refine ⟨_, fun _ _ => rfl, hK _ ?_⟩
 clear hK K
 refine wpHeads_step (fun K hK => ?_)
 go_simp
 refine ⟨.int .i64 4, fun w' hw' => by
   obtain ⟨x0, x1, x2, x3, x4⟩ := bx5 hw'.a1
   go_simp, hK _ ?_⟩
 clear hK K
 refine wpHeads_step (fun K hK => ?_)
 go_simp
 refine ⟨.pointer (some ⟨ge, 4, none⟩), fun w' hw' => by
   skip
   go_simp, hK _ ?_⟩
 clear hK K
 refine wpHeads_step (fun K hK => ?_)
 go_simp
 refine ⟨.string ⟨#[105, 100, 120]⟩, fun w' hw' => by
   obtain ⟨y0, y1, y2, y3, y4, y5⟩ := bx6 hw'.a2
   go_simp, hK _ ?_⟩
 clear hK K
 refine wpHeads_nil ?_
 have SX0 := Lh (kpT_drew S4.out)
 clear S4
 generalize W4.drew = Y0 at *
 refine gwq 2 fun K hK => ?_
 go_simp
 refine (rdigit s (by have := HN.out.1.2; omega) Y0).mono ?_
 rintro e Y1 ⟨rfl, hb⟩
 have SX1 := Lh (kpT_below SX0.out hb)
 refine hK _ _ SX1.out ?_
 clear hK K hb SX0
 refine tky 3 (.string (⟨#[118, 46]⟩ ++ ⟨#[dgB (s : Int)]⟩)) rfl (fun w' hw' => by
   go_simp) SX1.out ?_
 refine tky 4 (.string ((⟨#[118, 46]⟩ ++ ⟨#[dgB (s : Int)]⟩) ++ ⟨#[46]⟩)) rfl (fun w' hw' => by
   go_simp) SX1.out ?_
 refine gwq 7 fun K hK => ?_
 go_simp
 refine (rdigit g (by have := HN.out.2.1.2; omega) Y1).mono ?_
 rintro e Y2 ⟨rfl, hb⟩
 have SX2 := Lh (kpT_below SX1.out hb)
 refine hK _ _ SX2.out ?_
 clear hK K hb SX1
 refine tky 8 (.string (((⟨#[118, 46]⟩ ++ ⟨#[dgB (s : Int)]⟩) ++ ⟨#[46]⟩) ++ ⟨#[dgB (g : Int)]⟩)) rfl (fun w' hw' => by
   go_simp) SX2.out ?_
 refine tky 9 (.string ((((⟨#[118, 46]⟩ ++ ⟨#[dgB (s : Int)]⟩) ++ ⟨#[46]⟩) ++ ⟨#[dgB (g : Int)]⟩) ++ ⟨#[46]⟩)) rfl (fun w' hw' => by
   go_simp) SX2.out ?_
 refine tky 15 (.string (((((⟨#[118, 46]⟩ ++ ⟨#[dgB (s : Int)]⟩) ++ ⟨#[46]⟩) ++ ⟨#[dgB (g : Int)]⟩) ++ ⟨#[46]⟩) ++ ⟨#[105, 100, 120]⟩)) rfl (fun w' hw' => by
   go_simp) SX2.out ?_
 refine gwq 16 fun K hK => ?_
 go_simp
 refine hK _ _ SX2.out ?_
 clear hK K
 refine wpAnyH_done (by kernel_rfl) ?_ _
 unfold onlyN
 dsimp only
 obtain ⟨x0, x1, x2, x3, x4⟩ := bx5 SX2.out.a1
 go_wp2_with fail
 go_ret2
 refine fmO_t HN.out ?_ ⟨rfl, SX2.out.be⟩
 rfl
theorem rfm_5false (s g h : Nat) (w : World) (hn : NameOk 5 s g (h : Int) false) : Calls Tryz.prog 11 #[.agg #[.int .i64 5, .int .i64 (s : Int), .int .i64 (g : Int), .int .i64 (h : Int), .bool false]] w (FmO 5 s g (h : Int) false w) := by
 have q0 := heap_alloc_new w (.cells #[.int .i64 5, .int .i64 (s : Int), .int .i64 (g : Int), .int .i64 (h : Int), .bool false] 23)
 have HX := Lh q0
 have HN := Lh hn
 have B0 := Lh (bel_al w (.cells #[.int .i64 5, .int .i64 (s : Int), .int .i64 (g : Int), .int .i64 (h : Int), .bool false] 23))
 obtain ⟨x0, x1, x2, x3, x4⟩ := bx5 q0
 clear q0 hn
 go_enter Tryz.func11, Tryz.ntmps11
 go_upto_region 1 with fail
 generalize w.alloc (.cells #[.int .i64 5, .int .i64 (s : Int), .int .i64 (g : Int), .int .i64 (h : Int), .bool false] 23) = W1 at *
 go_wp2_with fail
 clear x0 x1 x2 x3 x4
 refine (rvname_any 5 s g (h : Int) false W1).mono ?_
 rintro e W2 ⟨rfl, hb⟩
 rw [decide_eq_true HN.out]
 have HX2 := Lh ((hb.block _ (lt_of_some HX.out)).trans HX.out)
 have B2 := Lh (B0.out.trans (hb.mono B0.out.size))
 clear hb HX B0
 obtain ⟨x0, x1, x2, x3, x4⟩ := bx5 HX2.out
 go_wp2_with fail
 clear x0 x1 x2 x3 x4
 refine (rdigit h (by have := HN.out.2.2; omega) W2).mono ?_
 rintro e W3 ⟨rfl, hb⟩
 have HX3 := Lh ((hb.block _ (lt_of_some HX2.out)).trans HX2.out)
 have B3 := Lh (B2.out.trans (hb.mono B2.out.size))
 clear hb HX2 B2
 go_upto_region 4 with fail
 have hz := heap_alloc_new W3 (.cells #[.string ⟨#[]⟩, .string ⟨#[100, 97, 116]⟩, .string ⟨#[115, 104, 100]⟩, .string ⟨#[100, 101, 108]⟩, .string ⟨#[105, 100, 120]⟩, .string (⟨#[101, 99]⟩ ++ ⟨#[dgB (h : Int)]⟩)] 9)
 have hb := bel_al W3 (.cells #[.string ⟨#[]⟩, .string ⟨#[100, 97, 116]⟩, .string ⟨#[115, 104, 100]⟩, .string ⟨#[100, 101, 108]⟩, .string ⟨#[105, 100, 120]⟩, .string (⟨#[101, 99]⟩ ++ ⟨#[dgB (h : Int)]⟩)] 9)
 have S4 := Lh (show KpT w w.heap.size (.cells #[.int .i64 5, .int .i64 (s : Int), .int .i64 (g : Int), .int .i64 (h : Int), .bool false] 23 (0, 0)) W3.heap.size (.cells #[.string ⟨#[]⟩, .string ⟨#[100, 97, 116]⟩, .string ⟨#[115, 104, 100]⟩, .string ⟨#[100, 101, 108]⟩, .string ⟨#[105, 100, 120]⟩, .string (⟨#[101, 99]⟩ ++ ⟨#[dgB (h : Int)]⟩)] 9 (0, 0)) (W3.alloc (.cells #[.string ⟨#[]⟩, .string ⟨#[100, 97, 116]⟩, .string ⟨#[115, 104, 100]⟩, .string ⟨#[100, 101, 108]⟩, .string ⟨#[105, 100, 120]⟩, .string (⟨#[101, 99]⟩ ++ ⟨#[dgB (h : Int)]⟩)] 9)) from ⟨B3.out.trans (hb.mono B3.out.size), (hb.block _ (lt_of_some HX3.out)).trans HX3.out, hz⟩)
 clear hb hz HX3 B3
 generalize W3.alloc (.cells #[.string ⟨#[]⟩, .string ⟨#[100, 97, 116]⟩, .string ⟨#[115, 104, 100]⟩, .string ⟨#[100, 101, 108]⟩, .string ⟨#[105, 100, 120]⟩, .string (⟨#[101, 99]⟩ ++ ⟨#[dgB (h : Int)]⟩)] 9) = W4 at *
 generalize W3.heap.size = ge at *
 refine wp_onlyN ?_
 refine wp_region_headsS (fun W' => KpT w w.heap.size (.cells #[.int .i64 5, .int .i64 (s : Int), .int .i64 (g : Int), .int .i64 (h : Int), .bool false] 23 (0, 0)) ge (.cells #[.string ⟨#[]⟩, .string ⟨#[100, 97, 116]⟩, .string ⟨#[115, 104, 100]⟩, .string ⟨#[100, 101, 108]⟩, .string ⟨#[105, 100, 120]⟩, .string (⟨#[101, 99]⟩ ++ ⟨#[dgB (h : Int)]⟩)] 9 (0, 0)) W') [0, 1, 5, 6, 10, 11, 12, 13, 14] 8 (by kernel_rfl) (fun _ _ _ _ _ h => h.elim) (by kernel_rfl) (by rfl) (by rfl) (kpT_drew S4.out) ?_
 simp only [pickOps, List.filterMap_cons, List.filterMap_nil, List.getElem?_toArray, List.getElem?_cons_zero, List.getElem?_cons_succ]
 refine wpHeads_step (fun K hK => ?_)
 go_simp
 refine ⟨_, fun _ _ => rfl, hK _ ?_⟩
 clear hK K
 refine wpHeads_step (fun K hK => ?_)
 go_simp
 refine ⟨.int .i64 (s : Int), fun w' hw' => by
   obtain ⟨x0, x1, x2, x3, x4⟩ := bx5 hw'.a1
   go_simp, hK _ ?_⟩
 clear hK K
 refine wpHeads_step (fun K hK => ?_)
 go_simp
 refine ⟨_, fun _ _ => rfl, hK _ ?_⟩
 clear hK K
 refine wpHeads_step (fun K hK => ?_)
 go_simp
 refine ⟨.int .i64 (g : Int), fun w' hw' => by
   obtain ⟨x0, x1, x2, x3, x4⟩ := bx5 hw'.a1
   go_simp, hK _ ?_⟩
 clear hK K
 refine wpHeads_step (fun K hK => ?_)
 go_simp
 refine ⟨_, fun _ _ => rfl, hK _ ?_⟩
 clear hK K
 refine wpHeads_step (fun K hK => ?_)
 go_simp
 refine ⟨_, fun _ _ => rfl, hK _ ?_⟩
 clear hK K
 refine wpHeads_step (fun K hK => ?_)
 go_simp
 refine ⟨.int .i64 5, fun w' hw' => by
   obtain ⟨x0, x1, x2, x3, x4⟩ := bx5 hw'.a1
   go_simp, hK _ ?_⟩
 clear hK K
 refine wpHeads_step (fun K hK => ?_)
 go_simp
 refine ⟨.pointer (some ⟨ge, 5, none⟩), fun w' hw' => by
   skip
   go_simp, hK _ ?_⟩
 clear hK K
 refine wpHeads_step (fun K hK => ?_)
 go_simp
 refine ⟨.string (⟨#[101, 99]⟩ ++ ⟨#[dgB (h : Int)]⟩), fun w' hw' => by
   obtain ⟨y0, y1, y2, y3, y4, y5⟩ := bx6 hw'.a2
   go_simp, hK _ ?_⟩
 clear hK K
 refine wpHeads_nil ?_
 have SX0 := Lh (kpT_drew S4.out)
 clear S4
 generalize W4.drew = Y0 at *
 refine gwq 2 fun K hK => ?_
 go_simp
 refine (rdigit s (by have := HN.out.1.2; omega) Y0).mono ?_
 rintro e Y1 ⟨rfl, hb⟩
 have SX1 := Lh (kpT_below SX0.out hb)
 refine hK _ _ SX1.out ?_
 clear hK K hb SX0
 refine tky 3 (.string (⟨#[118, 46]⟩ ++ ⟨#[dgB (s : Int)]⟩)) rfl (fun w' hw' => by
   go_simp) SX1.out ?_
 refine tky 4 (.string ((⟨#[118, 46]⟩ ++ ⟨#[dgB (s : Int)]⟩) ++ ⟨#[46]⟩)) rfl (fun w' hw' => by
   go_simp) SX1.out ?_
 refine gwq 7 fun K hK => ?_
 go_simp
 refine (rdigit g (by have := HN.out.2.1.2; omega) Y1).mono ?_
 rintro e Y2 ⟨rfl, hb⟩
 have SX2 := Lh (kpT_below SX1.out hb)
 refine hK _ _ SX2.out ?_
 clear hK K hb SX1
 refine tky 8 (.string (((⟨#[118, 46]⟩ ++ ⟨#[dgB (s : Int)]⟩) ++ ⟨#[46]⟩) ++ ⟨#[dgB (g : Int)]⟩)) rfl (fun w' hw' => by
   go_simp) SX2.out ?_
 refine tky 9 (.string ((((⟨#[118, 46]⟩ ++ ⟨#[dgB (s : Int)]⟩) ++ ⟨#[46]⟩) ++ ⟨#[dgB (g : Int)]⟩) ++ ⟨#[46]⟩)) rfl (fun w' hw' => by
   go_simp) SX2.out ?_
 refine tky 15 (.string (((((⟨#[118, 46]⟩ ++ ⟨#[dgB (s : Int)]⟩) ++ ⟨#[46]⟩) ++ ⟨#[dgB (g : Int)]⟩) ++ ⟨#[46]⟩) ++ (⟨#[101, 99]⟩ ++ ⟨#[dgB (h : Int)]⟩))) rfl (fun w' hw' => by
   go_simp) SX2.out ?_
 refine gwq 16 fun K hK => ?_
 go_simp
 refine hK _ _ SX2.out ?_
 clear hK K
 refine wpAnyH_done (by kernel_rfl) ?_ _
 unfold onlyN
 dsimp only
 obtain ⟨x0, x1, x2, x3, x4⟩ := bx5 SX2.out.a1
 go_wp2_with fail
 go_ret2
 refine fmO_t HN.out ?_ ⟨rfl, SX2.out.be⟩
 rfl
theorem rfm_5true (s g h : Nat) (w : World) (hn : NameOk 5 s g (h : Int) true) : Calls Tryz.prog 11 #[.agg #[.int .i64 5, .int .i64 (s : Int), .int .i64 (g : Int), .int .i64 (h : Int), .bool true]] w (FmO 5 s g (h : Int) true w) := by
 have q0 := heap_alloc_new w (.cells #[.int .i64 5, .int .i64 (s : Int), .int .i64 (g : Int), .int .i64 (h : Int), .bool true] 23)
 have HX := Lh q0
 have HN := Lh hn
 have B0 := Lh (bel_al w (.cells #[.int .i64 5, .int .i64 (s : Int), .int .i64 (g : Int), .int .i64 (h : Int), .bool true] 23))
 obtain ⟨x0, x1, x2, x3, x4⟩ := bx5 q0
 clear q0 hn
 go_enter Tryz.func11, Tryz.ntmps11
 go_upto_region 1 with fail
 generalize w.alloc (.cells #[.int .i64 5, .int .i64 (s : Int), .int .i64 (g : Int), .int .i64 (h : Int), .bool true] 23) = W1 at *
 go_wp2_with fail
 clear x0 x1 x2 x3 x4
 refine (rvname_any 5 s g (h : Int) true W1).mono ?_
 rintro e W2 ⟨rfl, hb⟩
 rw [decide_eq_true HN.out]
 have HX2 := Lh ((hb.block _ (lt_of_some HX.out)).trans HX.out)
 have B2 := Lh (B0.out.trans (hb.mono B0.out.size))
 clear hb HX B0
 obtain ⟨x0, x1, x2, x3, x4⟩ := bx5 HX2.out
 go_wp2_with fail
 clear x0 x1 x2 x3 x4
 refine (rdigit h (by have := HN.out.2.2; omega) W2).mono ?_
 rintro e W3 ⟨rfl, hb⟩
 have HX3 := Lh ((hb.block _ (lt_of_some HX2.out)).trans HX2.out)
 have B3 := Lh (B2.out.trans (hb.mono B2.out.size))
 clear hb HX2 B2
 go_upto_region 4 with fail
 have hz := heap_alloc_new W3 (.cells #[.string ⟨#[]⟩, .string ⟨#[100, 97, 116]⟩, .string ⟨#[115, 104, 100]⟩, .string ⟨#[100, 101, 108]⟩, .string ⟨#[105, 100, 120]⟩, .string (⟨#[101, 99]⟩ ++ ⟨#[dgB (h : Int)]⟩)] 9)
 have hb := bel_al W3 (.cells #[.string ⟨#[]⟩, .string ⟨#[100, 97, 116]⟩, .string ⟨#[115, 104, 100]⟩, .string ⟨#[100, 101, 108]⟩, .string ⟨#[105, 100, 120]⟩, .string (⟨#[101, 99]⟩ ++ ⟨#[dgB (h : Int)]⟩)] 9)
 have S4 := Lh (show KpT w w.heap.size (.cells #[.int .i64 5, .int .i64 (s : Int), .int .i64 (g : Int), .int .i64 (h : Int), .bool true] 23 (0, 0)) W3.heap.size (.cells #[.string ⟨#[]⟩, .string ⟨#[100, 97, 116]⟩, .string ⟨#[115, 104, 100]⟩, .string ⟨#[100, 101, 108]⟩, .string ⟨#[105, 100, 120]⟩, .string (⟨#[101, 99]⟩ ++ ⟨#[dgB (h : Int)]⟩)] 9 (0, 0)) (W3.alloc (.cells #[.string ⟨#[]⟩, .string ⟨#[100, 97, 116]⟩, .string ⟨#[115, 104, 100]⟩, .string ⟨#[100, 101, 108]⟩, .string ⟨#[105, 100, 120]⟩, .string (⟨#[101, 99]⟩ ++ ⟨#[dgB (h : Int)]⟩)] 9)) from ⟨B3.out.trans (hb.mono B3.out.size), (hb.block _ (lt_of_some HX3.out)).trans HX3.out, hz⟩)
 clear hb hz HX3 B3
 generalize W3.alloc (.cells #[.string ⟨#[]⟩, .string ⟨#[100, 97, 116]⟩, .string ⟨#[115, 104, 100]⟩, .string ⟨#[100, 101, 108]⟩, .string ⟨#[105, 100, 120]⟩, .string (⟨#[101, 99]⟩ ++ ⟨#[dgB (h : Int)]⟩)] 9) = W4 at *
 generalize W3.heap.size = ge at *
 refine wp_onlyN ?_
 refine wp_region_headsS (fun W' => KpT w w.heap.size (.cells #[.int .i64 5, .int .i64 (s : Int), .int .i64 (g : Int), .int .i64 (h : Int), .bool true] 23 (0, 0)) ge (.cells #[.string ⟨#[]⟩, .string ⟨#[100, 97, 116]⟩, .string ⟨#[115, 104, 100]⟩, .string ⟨#[100, 101, 108]⟩, .string ⟨#[105, 100, 120]⟩, .string (⟨#[101, 99]⟩ ++ ⟨#[dgB (h : Int)]⟩)] 9 (0, 0)) W') [0, 1, 5, 6, 10, 11, 12, 13, 14] 8 (by kernel_rfl) (fun _ _ _ _ _ h => h.elim) (by kernel_rfl) (by rfl) (by rfl) (kpT_drew S4.out) ?_
 simp only [pickOps, List.filterMap_cons, List.filterMap_nil, List.getElem?_toArray, List.getElem?_cons_zero, List.getElem?_cons_succ]
 refine wpHeads_step (fun K hK => ?_)
 go_simp
 refine ⟨_, fun _ _ => rfl, hK _ ?_⟩
 clear hK K
 refine wpHeads_step (fun K hK => ?_)
 go_simp
 refine ⟨.int .i64 (s : Int), fun w' hw' => by
   obtain ⟨x0, x1, x2, x3, x4⟩ := bx5 hw'.a1
   go_simp, hK _ ?_⟩
 clear hK K
 refine wpHeads_step (fun K hK => ?_)
 go_simp
 refine ⟨_, fun _ _ => rfl, hK _ ?_⟩
 clear hK K
 refine wpHeads_step (fun K hK => ?_)
 go_simp
 refine ⟨.int .i64 (g : Int), fun w' hw' => by
   obtain ⟨x0, x1, x2, x3, x4⟩ := bx5 hw'.a1
   go_simp, hK _ ?_⟩
 clear hK K
 refine wpHeads_step (fun K hK => ?_)
 go_simp
 refine ⟨_, fun _ _ => rfl, hK _ ?_⟩
 clear hK K
 refine wpHeads_step (fun K hK => ?_)
 go_simp
 refine ⟨_, fun _ _ => rfl, hK _ ?_⟩
 clear hK K
 refine wpHeads_step (fun K hK => ?_)
 go_simp
 refine ⟨.int .i64 5, fun w' hw' => by
   obtain ⟨x0, x1, x2, x3, x4⟩ := bx5 hw'.a1
   go_simp, hK _ ?_⟩
 clear hK K
 refine wpHeads_step (fun K hK => ?_)
 go_simp
 refine ⟨.pointer (some ⟨ge, 5, none⟩), fun w' hw' => by
   skip
   go_simp, hK _ ?_⟩
 clear hK K
 refine wpHeads_step (fun K hK => ?_)
 go_simp
 refine ⟨.string (⟨#[101, 99]⟩ ++ ⟨#[dgB (h : Int)]⟩), fun w' hw' => by
   obtain ⟨y0, y1, y2, y3, y4, y5⟩ := bx6 hw'.a2
   go_simp, hK _ ?_⟩
 clear hK K
 refine wpHeads_nil ?_
 have SX0 := Lh (kpT_drew S4.out)
 clear S4
 generalize W4.drew = Y0 at *
 refine gwq 2 fun K hK => ?_
 go_simp
 refine (rdigit s (by have := HN.out.1.2; omega) Y0).mono ?_
 rintro e Y1 ⟨rfl, hb⟩
 have SX1 := Lh (kpT_below SX0.out hb)
 refine hK _ _ SX1.out ?_
 clear hK K hb SX0
 refine tky 3 (.string (⟨#[118, 46]⟩ ++ ⟨#[dgB (s : Int)]⟩)) rfl (fun w' hw' => by
   go_simp) SX1.out ?_
 refine tky 4 (.string ((⟨#[118, 46]⟩ ++ ⟨#[dgB (s : Int)]⟩) ++ ⟨#[46]⟩)) rfl (fun w' hw' => by
   go_simp) SX1.out ?_
 refine gwq 7 fun K hK => ?_
 go_simp
 refine (rdigit g (by have := HN.out.2.1.2; omega) Y1).mono ?_
 rintro e Y2 ⟨rfl, hb⟩
 have SX2 := Lh (kpT_below SX1.out hb)
 refine hK _ _ SX2.out ?_
 clear hK K hb SX1
 refine tky 8 (.string (((⟨#[118, 46]⟩ ++ ⟨#[dgB (s : Int)]⟩) ++ ⟨#[46]⟩) ++ ⟨#[dgB (g : Int)]⟩)) rfl (fun w' hw' => by
   go_simp) SX2.out ?_
 refine tky 9 (.string ((((⟨#[118, 46]⟩ ++ ⟨#[dgB (s : Int)]⟩) ++ ⟨#[46]⟩) ++ ⟨#[dgB (g : Int)]⟩) ++ ⟨#[46]⟩)) rfl (fun w' hw' => by
   go_simp) SX2.out ?_
 refine tky 15 (.string (((((⟨#[118, 46]⟩ ++ ⟨#[dgB (s : Int)]⟩) ++ ⟨#[46]⟩) ++ ⟨#[dgB (g : Int)]⟩) ++ ⟨#[46]⟩) ++ (⟨#[101, 99]⟩ ++ ⟨#[dgB (h : Int)]⟩))) rfl (fun w' hw' => by
   go_simp) SX2.out ?_
 refine gwq 16 fun K hK => ?_
 go_simp
 refine hK _ _ SX2.out ?_
 clear hK K
 refine wpAnyH_done (by kernel_rfl) ?_ _
 unfold onlyN
 dsimp only
 obtain ⟨x0, x1, x2, x3, x4⟩ := bx5 SX2.out.a1
 go_wp2_with fail
 go_ret2
 refine fmO_t HN.out ?_ ⟨rfl, SX2.out.be⟩
 rfl
theorem rformat_any (k s g h : Int) (t : Bool) (w : World) : Calls Tryz.prog 11 #[.agg #[.int .i64 k, .int .i64 s, .int .i64 g, .int .i64 h, .bool t]] w (FmO k s g h t w) := by
 by_cases hn : NameOk k s g h t
 · obtain ⟨s', rfl⟩ := Int.eq_ofNat_of_zero_le hn.1.1
   obtain ⟨g', rfl⟩ := Int.eq_ofNat_of_zero_le (show 0 ≤ g by have := hn.2.1.1; omega)
   rcases hn.2.2 with ⟨hk, ht, hh⟩ | ⟨hk, hh⟩ | ⟨hk, hh⟩
   · subst ht hh
     rcases hk with rfl | rfl | rfl
     · exact rfm_1false s' g' w hn
     · exact rfm_2false s' g' w hn
     · exact rfm_3false s' g' w hn
   · subst hk hh
     cases t
     · exact rfm_4false s' g' w hn
     · exact rfm_4true s' g' w hn
   · subst hk
     obtain ⟨h', rfl⟩ := Int.eq_ofNat_of_zero_le hh.1
     cases t
     · exact rfm_5false s' g' h' w hn
     · exact rfm_5true s' g' h' w hn
 have q0 := heap_alloc_new w (.cells #[.int .i64 k, .int .i64 s, .int .i64 g, .int .i64 h, .bool t] 23)
 have B0 := Lh (bel_al w (.cells #[.int .i64 k, .int .i64 s, .int .i64 g, .int .i64 h, .bool t] 23))
 have HN := Lh hn
 obtain ⟨x0, x1, x2, x3, x4⟩ := bx5 q0
 clear q0 hn
 go_enter Tryz.func11, Tryz.ntmps11
 go_upto_region 1 with fail
 generalize w.alloc (.cells #[.int .i64 k, .int .i64 s, .int .i64 g, .int .i64 h, .bool t] 23) = W1 at *
 go_wp2_with fail
 clear x0 x1 x2 x3 x4
 refine (rvname_any k s g h t W1).mono ?_
 rintro e W2 ⟨rfl, hb⟩
 rw [decide_eq_false HN.out]
 have B2 := Lh (B0.out.trans (hb.mono B0.out.size))
 clear hb B0
 go_wp2_with fail
 go_ret2
 exact fmO_f HN.out ⟨rfl, B2.out⟩
/-- What File answers. -/
def FlO (k s g : Int) (w : World) (e : Ending) (w' : World) : Prop := e = .returned (.string (if NameOk k s g 0 false then fmtS k s g 0 false else ⟨#[]⟩)) ∧ Below w.heap.size w w'
theorem rfile_any (k s g : Int) (w : World) : Calls Tryz.prog 13 #[.int .i64 k, .int .i64 s, .int .i64 g] w (FlO k s g w) := by
 go_enter Tryz.func13, Tryz.ntmps13
 go_wp2_with fail
 refine (rformat_any k s g 0 false w).mono ?_
 rintro e W ⟨rfl, hb⟩
 generalize (if NameOk k s g 0 false then (0 : Int) else 1) = c
 generalize hr : (if NameOk k s g 0 false then fmtS k s g 0 false else ⟨#[]⟩) = r
 have HB := Lh hb
 have HR := Lh hr
 clear hb hr
 go_wp2_with fail
 go_ret
 exact ⟨by rw [HR.out]; rfl, HB.out⟩
theorem pfile_any (k s g : Int) (w : World) : Calls Tryz.prog 12 #[.int .i64 k, .int .i64 s, .int .i64 g] w (FlO k s g w) := by
 go_enter Tryz.func12, Tryz.ntmps12
 go_wp2_with fail
 refine (pformat_any k s g 0 false w).mono ?_
 rintro e W ⟨rfl, hb⟩
 generalize (if NameOk k s g 0 false then (0 : Int) else 1) = c
 generalize hr : (if NameOk k s g 0 false then fmtS k s g 0 false else ⟨#[]⟩) = r
 have HB := Lh hb
 have HR := Lh hr
 clear hb hr
 go_wp2_with fail
 go_ret
 exact ⟨by rw [HR.out]; rfl, HB.out⟩
end Go.Proofs.YtbmlpafbdbhaiaaGreatDoor.Gf
