/- What is proved here: number and guess of the program at what the chapter's example wants, and Parse of that text. -/
import Derived.Test.YtbmlpafbdbhaiaaGreatDoorGw1
import Derived.Lib.AtoiErrMem
import Derived.OrdersHeld
import Derived.BigQuiet
namespace Go.Proofs.YtbmlpafbdbhaiaaGreatDoor.Gf
open Go Go.Joins Go.ChangeShapes Go.WideShapes Go.ChangeAt Go.RowKit Go.Deep Go.Proofs.YtbmlpafbdbhaiaaGreatDoor.By Go.Proofs.YtbmlpafbdbhaiaaGreatDoor.Qt Go.Proofs
set_option maxRecDepth 100000
set_option maxHeartbeats 204800000
/-- What the library's variables hold where texts are read. -/
structure StrW (w : World) : Prop where
 m : ∃ m, w.cell? ⟨0, 0, none⟩ = some (.int .i64 m)
 e : ∃ te pe, w.cell? ⟨2, 0, none⟩ = some (.iface te pe)
 r : ∃ te pe, w.cell? ⟨3, 0, none⟩ = some (.iface te pe)
theorem strW_below {w w' : World} (h : StrW w) (hb : Below w.heap.size w w') : StrW w' := by
 obtain ⟨⟨m, hm⟩, ⟨te, pe, he⟩, tr, pr, hr⟩ := h
 exact ⟨⟨m, (hb.cell (block_lt_of_cell hm)).trans hm⟩, ⟨te, pe, (hb.cell (block_lt_of_cell he)).trans he⟩, tr, pr, (hb.cell (block_lt_of_cell hr)).trans hr⟩
theorem strW_drew {w : World} (h : StrW w) : StrW w.drew := strW_below h (Below.refl _ _).drew
theorem infoN5 : (Tryz.prog.info? 29).map (·.size) = some 5 := by kernel_rfl
theorem nb_one : (#[.int .i64 1, .int .i64 1, .int .i64 2, .int .i64 0, .bool false] : Array Value).all (·.oneCell') = true := by simp [show ∀ (k : IntKind) (z : Int), (Value.int k z).oneCell' = true from fun _ _ => rfl, show ∀ b : Bool, (Value.bool b).oneCell' = true from fun _ => rfl]
theorem z5_one : (#[.int .i64 0, .int .i64 0, .int .i64 0, .int .i64 0, .bool false] : Array Value).all (·.oneCell') = true := by simp [show ∀ (k : IntKind) (z : Int), (Value.int k z).oneCell' = true from fun _ _ => rfl, show ∀ b : Bool, (Value.bool b).oneCell' = true from fun _ => rfl]
theorem storeNm {ops : Array Oper} {rest : List Oper} {x y : Operand} {pos : String} {after : Array Edge} {ty : TypeId} {a : Act} {w : World} {Q : Exit → Act → World → Prop}
 (g : Nat) (old cs : Array Value) (hx : a.eval x = .pointer (some ⟨g, 0, none⟩)) (hy : a.eval y = .agg cs) (hg : w.heap[g]? = some (.cells old 29 (0, 0))) (ho : old.size = 5) (hs : cs.size = 5) (h1 : cs.all (·.oneCell') = true)
 (h : wpList Tryz.prog ops Q rest a (w.setRow g cs)) : wpList Tryz.prog ops Q (⟨none, .store 29 x y, ty, pos, after, none⟩ :: rest) a w :=
 wpList_store_row rfl 29 x y rfl g cs hx hy 29 old hg (by rw [infoN5, hs]) (by omega) h1 h
theorem bxs4 {W : World} {g : Nat} {c0 c1 c2 c3 : Value} {T : TypeId} {fr : Nat × Nat} (h : W.heap[g]? = some (.cells #[c0, c1, c2, c3] T fr)) : W.cell? ⟨g, 0, none⟩ = some c0 ∧ W.cell? ⟨g, 1, none⟩ = some c1 ∧ W.cell? ⟨g, 2, none⟩ = some c2 ∧ W.cell? ⟨g, 3, none⟩ = some c3 :=
 ⟨cell_of_row W g 0 _ _ _ h, cell_of_row W g 1 _ _ _ h, cell_of_row W g 2 _ _ _ h, cell_of_row W g 3 _ _ _ h⟩

/-- What stays while the numbers are read: the older blocks and the parts of the text. -/
structure KpS (B : Nat) (w : World) (gp : Nat) (W : World) : Prop where
 be : Below B w W
 pt : W.heap[gp]? = some (.cells #[.string ⟨#[118]⟩, .string ⟨#[48, 49]⟩, .string ⟨#[50]⟩, .string ⟨#[100, 97, 116]⟩] 9 (0, 0))
theorem kpS_below {B gp : Nat} {w W W' : World} (h : KpS B w gp W) (hb : Below W.heap.size W W') (hB : B ≤ w.heap.size := by exact Nat.le_refl _) : KpS B w gp W' := ⟨h.be.trans (hb.mono (Nat.le_trans hB h.be.size)), (hb.block _ (lt_of_some h.pt)).trans h.pt⟩
theorem pnumber_ok (s : ByteArray) (n : Int) (hl : s.size ≤ 18) (h : Lib.atoi s.data.toList = some n) (w : World) : Calls Tryz.prog 80 #[.string s] w fun e w' => e = .returned (.int .i64 n) ∧ Below w.heap.size w w' := by
 go_enter Tryz.func80, Tryz.ntmps80
 go_wp2_with fail
 refine (Tryz.strconv_Atoi s n hl h w).mono ?_
 rintro e W ⟨rfl, t, rfl⟩
 have hb := Lh (Lib.bytesWorld_below w 5 t)
 generalize Lib.bytesWorld w 5 t = W at *
 go_wp2_with fail
 go_ret
 exact ⟨rfl, hb.out⟩
theorem pnumber_err (s : ByteArray) (hl : s.size ≤ 18) (h : Lib.atoi s.data.toList = none) (w : World) (hw : StrW w) : Calls Tryz.prog 80 #[.string s] w fun e w' => e = .returned (.int .i64 0) ∧ Below w.heap.size w w' := by
 obtain ⟨te, pe, he⟩ := hw.e
 go_enter Tryz.func80, Tryz.ntmps80
 go_wp2_with fail
 refine (Tryz.strconv_Atoi_err s hl h _ w he (Or.inr ⟨te, pe, rfl⟩)).mono ?_
 rintro e W ⟨N, rfl, -, -, hb⟩
 go_wp2_with fail
 go_ret
 exact ⟨rfl, hb⟩
theorem cutsuf (w : World) : Calls Tryz.prog 77 #[.string ⟨#[118, 46, 48, 49, 46, 50, 46, 100, 97, 116]⟩, .string ⟨#[46, 116, 109, 112]⟩] w fun e w' => e = .returned (.tuple #[.string ⟨#[118, 46, 48, 49, 46, 50, 46, 100, 97, 116]⟩, .bool false]) ∧ w' = w :=
 Tryz.strings_CutSuffix ⟨#[118, 46, 48, 49, 46, 50, 46, 100, 97, 116]⟩ ⟨#[46, 116, 109, 112]⟩ w (by decide)
theorem cutpre (w : World) : Calls Tryz.prog 79 #[.string ⟨#[100, 97, 116]⟩, .string ⟨#[100, 97, 116]⟩] w fun e w' => e = .returned (.tuple #[.string ⟨#[]⟩, .bool true]) ∧ w' = w :=
 Tryz.strings_CutPrefix ⟨#[100, 97, 116]⟩ ⟨#[100, 97, 116]⟩ w
theorem split4 (w : World) (hw : StrW w) : Calls Tryz.prog 78 #[.string ⟨#[118, 46, 48, 49, 46, 50, 46, 100, 97, 116]⟩, .string ⟨#[46]⟩, .int .i64 4] w fun e w' => e = .returned (.slice (some ⟨w.heap.size, 0, none⟩) 4 4) ∧ w' = w.alloc (.cells #[.string ⟨#[118]⟩, .string ⟨#[48, 49]⟩, .string ⟨#[50]⟩, .string ⟨#[100, 97, 116]⟩] 9) := by
 obtain ⟨m, hm⟩ := hw.m
 have h := Tryz.strings_SplitN ⟨#[118, 46, 48, 49, 46, 50, 46, 100, 97, 116]⟩ ⟨#[46]⟩ 4 m w (by decide) hm (by decide) (by decide) (by decide)
 exact h
theorem kpS_drewN {B gp : Nat} {w W : World} (h : KpS B w gp W) (n : Nat) : KpS B w gp (W.drewN n) := ⟨⟨h.be.os, h.be.tape, h.be.output, h.be.size, h.be.block⟩, h.pt⟩
theorem strW_drewN {w : World} (h : StrW w) (n : Nat) : StrW (w.drewN n) := strW_below h (below_drewN _ n)
theorem kpS_drew {B gp : Nat} {w W : World} (h : KpS B w gp W) : KpS B w gp W.drew := ⟨h.be.drew, h.pt⟩
theorem kpS_set {gp : Nat} {w W : World} {cs cs0 : Array Value} {T : TypeId} (h : KpS w.heap.size w gp W) (_hz : W.heap[w.heap.size]? = some (.cells cs0 T (0, 0))) (hn : gp ≠ w.heap.size) : KpS w.heap.size w gp (W.setRow w.heap.size cs) := ⟨below_setRowM h.be (Nat.le_refl _) _, (setRow_other _ _ _ _ hn).trans h.pt⟩
theorem pguess (w : World) (hw : StrW w) : Calls Tryz.prog 46 #[.string ⟨#[118, 46, 48, 49, 46, 50, 46, 100, 97, 116]⟩] w fun e w' => e = .returned (.agg #[.int .i64 1, .int .i64 1, .int .i64 2, .int .i64 0, .bool false]) ∧ Below w.heap.size w w' := by
 have HBX := Lh (heap_alloc_new w (.cells #[.int .i64 0, .int .i64 0, .int .i64 0, .int .i64 0, .bool false] 29))
 have B1 := Lh (bel_al w (.cells #[.int .i64 0, .int .i64 0, .int .i64 0, .int .i64 0, .bool false] 29))
 have HSW := Lh (strW_below hw B1.out)
 clear hw
 go_enter Tryz.func46, Tryz.ntmps46
 go_upto_region 1 with fail
 generalize w.alloc (.cells #[.int .i64 0, .int .i64 0, .int .i64 0, .int .i64 0, .bool false] 29) = W1 at *
 go_wp2_with fail
 refine (cutsuf W1).mono ?_
 rintro e W2 ⟨rfl, rfl⟩
 go_wp2_with fail
 refine (split4 W2 HSW.out).mono ?_
 rintro e W3 ⟨rfl, rfl⟩
 have hz := heap_alloc_new W2 (.cells #[.string ⟨#[118]⟩, .string ⟨#[48, 49]⟩, .string ⟨#[50]⟩, .string ⟨#[100, 97, 116]⟩] 9)
 have hb := bel_al W2 (.cells #[.string ⟨#[118]⟩, .string ⟨#[48, 49]⟩, .string ⟨#[50]⟩, .string ⟨#[100, 97, 116]⟩] 9)
 have S3 := Lh (show KpS w.heap.size w W2.heap.size (W2.alloc (.cells #[.string ⟨#[118]⟩, .string ⟨#[48, 49]⟩, .string ⟨#[50]⟩, .string ⟨#[100, 97, 116]⟩] 9)) from ⟨B1.out.trans (hb.mono B1.out.size), hz⟩)
 have HSW3 := Lh (strW_below HSW.out hb)
 have HBX3 := Lh ((hb.block _ (lt_of_some HBX.out)).trans HBX.out)
 have HNE := Lh (show W2.heap.size ≠ w.heap.size from by have := lt_of_some HBX.out; omega)
 clear hz hb HSW HBX B1
 generalize W2.alloc (.cells #[.string ⟨#[118]⟩, .string ⟨#[48, 49]⟩, .string ⟨#[50]⟩, .string ⟨#[100, 97, 116]⟩] 9) = W3 at *
 generalize W2.heap.size = gp at *
 go_wp2_with fail
 go_loopw [5] (fun t wr => t = .int .i64 1 ∧ wr = W3) (fun _ _ => 0)
 case atStart => exact ⟨rfl, rfl⟩
 case round =>
  obtain ⟨rfl, rfl⟩ := hrel
  rename World => W3
  obtain ⟨y0, y1, y2, y3⟩ := bxs4 S3.out.pt
  go_upto_region 8 with fail
  go_quiet (first
   | (go_at_call 43; exact Calls.quiet_of_same (pending_1 _))
   | (go_at_call 79; exact Calls.quiet_of_same (cutpre _)))
  have S4 := Lh (kpS_drewN S3.out nq)
  have HSW4 := Lh (strW_drewN HSW3.out nq)
  have HBX4 := Lh (show (W3.drewN nq).heap[w.heap.size]? = _ from HBX3.out)
  clear y0 y1 y2 y3 S3 HSW3 HBX3
  generalize W3.drewN nq = W4 at *
  go_upto_region 10 with fail
  refine wp_onlyN ?_
  refine wp_region_headsS (fun W' => KpS w.heap.size w gp W') [0, 1, 2, 3, 5, 6, 7, 9, 11] 5 (by kernel_rfl) (fun _ _ _ _ _ h => h.elim) (by kernel_rfl) (by rfl) (by rfl) (kpS_drew S4.out) ?_
  simp only [pickOps, List.filterMap_cons, List.filterMap_nil, List.getElem?_toArray, List.getElem?_cons_zero, List.getElem?_cons_succ]
  refine wpHeads_step (fun K hK => ?_)
  go_simp
  refine ⟨_, fun _ _ => rfl, hK _ ?_⟩
  clear hK K
  refine wpHeads_step (fun K hK => ?_)
  go_simp
  refine ⟨_, fun _ _ => rfl, hK _ ?_⟩
  clear hK K
  refine wpHeads_step (fun K hK => ?_)
  go_simp
  refine ⟨.pointer (some ⟨gp, 1, none⟩), fun w' hw' => by
    skip
    go_simp, hK _ ?_⟩
  clear hK K
  refine wpHeads_step (fun K hK => ?_)
  go_simp
  refine ⟨.string ⟨#[48, 49]⟩, fun w' hw' => by
    obtain ⟨y0, y1, y2, y3⟩ := bxs4 hw'.pt
    go_simp, hK _ ?_⟩
  clear hK K
  refine wpHeads_step (fun K hK => ?_)
  go_simp
  refine ⟨_, fun _ _ => rfl, hK _ ?_⟩
  clear hK K
  refine wpHeads_step (fun K hK => ?_)
  go_simp
  refine ⟨.pointer (some ⟨gp, 2, none⟩), fun w' hw' => by
    skip
    go_simp, hK _ ?_⟩
  clear hK K
  refine wpHeads_step (fun K hK => ?_)
  go_simp
  refine ⟨.string ⟨#[50]⟩, fun w' hw' => by
    obtain ⟨y0, y1, y2, y3⟩ := bxs4 hw'.pt
    go_simp, hK _ ?_⟩
  clear hK K
  refine wpHeads_step (fun K hK => ?_)
  go_simp
  refine ⟨_, fun _ _ => rfl, hK _ ?_⟩
  clear hK K
  refine wpHeads_step (fun K hK => ?_)
  go_simp
  refine ⟨_, fun _ _ => rfl, hK _ ?_⟩
  clear hK K
  refine wpHeads_nil ?_
  have SX0 := Lh (kpS_drew S4.out)
  have HSW0 := Lh (strW_drew HSW4.out)
  have HBX0 := Lh (show W4.drew.heap[w.heap.size]? = _ from HBX4.out)
  clear S4 HSW4 HBX4
  generalize W4.drew = Y0 at *
  refine gwq 4 fun K hK => ?_
  go_simp
  refine (pnumber_ok ⟨#[48, 49]⟩ 1 (by decide) (by decide) Y0).mono ?_
  rintro e Y1 ⟨rfl, hb⟩
  have SX1 := Lh (kpS_below SX0.out hb)
  have HSW1 := Lh (strW_below HSW0.out hb)
  have HBX1 := Lh ((hb.block _ (lt_of_some HBX0.out)).trans HBX0.out)
  refine hK _ _ SX1.out ?_
  clear hK K hb
  refine gwq 8 fun K hK => ?_
  go_simp
  refine (pnumber_ok ⟨#[50]⟩ 2 (by decide) (by decide) Y1).mono ?_
  rintro e Y2 ⟨rfl, hb⟩
  have SX2 := Lh (kpS_below SX1.out hb)
  have HSW2 := Lh (strW_below HSW1.out hb)
  have HBX2 := Lh ((hb.block _ (lt_of_some HBX1.out)).trans HBX1.out)
  refine hK _ _ SX2.out ?_
  clear hK K hb
  refine gwq 10 fun K hK => ?_
  go_simp
  refine (pnumber_err ⟨#[]⟩ (by decide) (by decide) Y2 HSW2.out).mono ?_
  rintro e Y3 ⟨rfl, hb⟩
  have SX3 := Lh (kpS_below SX2.out hb)
  have HSW3 := Lh (strW_below HSW2.out hb)
  have HBX3 := Lh ((hb.block _ (lt_of_some HBX2.out)).trans HBX2.out)
  refine hK _ _ SX3.out ?_
  clear hK K hb
  refine tky 12 (.agg #[.int .i64 1, .int .i64 1, .int .i64 2, .int .i64 0, .bool false]) rfl (fun w' hw' => by
    go_simp) SX3.out ?_
  refine gwq 13 fun K hK => ?_
  refine wp_store_row 29 _ _ rfl w.heap.size #[.int .i64 1, .int .i64 1, .int .i64 2, .int .i64 0, .bool false] (by rfl) (by rfl) 29 _ HBX3.out infoN5 rfl nb_one ?_
  have HR := Lh (setRow_heap Y3 w.heap.size _ #[.int .i64 1, .int .i64 1, .int .i64 2, .int .i64 0, .bool false] _ _ HBX3.out)
  have SR := Lh (kpS_set SX3.out HBX3.out HNE.out (cs := #[.int .i64 1, .int .i64 1, .int .i64 2, .int .i64 0, .bool false]))
  refine hK _ _ SR.out ?_
  clear hK K
  generalize Y3.setRow w.heap.size #[.int .i64 1, .int .i64 1, .int .i64 2, .int .i64 0, .bool false] = YR at *
  refine wpAnyH_done (by kernel_rfl) ?_ _
  unfold onlyN
  dsimp only
  go_wp2_with fail
  refine bodyPost_ret (results_cell_row rfl _ _ w.heap.size 29 #[.int .i64 1, .int .i64 1, .int .i64 2, .int .i64 0, .bool false] (0, 0) _ rfl HR.out Tryz.underlying29 rfl infoN5) rfl ?_
  exact ⟨rfl, SR.out.be⟩
theorem pparse (w : World) (hw : StrW w) : Calls Tryz.prog 14 #[.string ⟨#[118, 46, 48, 49, 46, 50, 46, 100, 97, 116]⟩] w fun e w' => e = .returned (.tuple #[.agg #[.int .i64 0, .int .i64 0, .int .i64 0, .int .i64 0, .bool false], .int .i64 3]) ∧ Below w.heap.size w w' := by
 have HBX := Lh (heap_alloc_new w (.cells #[.int .i64 0, .int .i64 0, .int .i64 0, .int .i64 0, .bool false] 29))
 have B1 := Lh (bel_al w (.cells #[.int .i64 0, .int .i64 0, .int .i64 0, .int .i64 0, .bool false] 29))
 have HSW := Lh (strW_below hw B1.out)
 clear hw
 go_enter Tryz.func14, Tryz.ntmps14
 go_upto_region 1 with fail
 generalize w.alloc (.cells #[.int .i64 0, .int .i64 0, .int .i64 0, .int .i64 0, .bool false] 29) = W1 at *
 go_wp2_with fail
 refine (pguess W1 HSW.out).mono ?_
 rintro e W2 ⟨rfl, hb⟩
 have HBX2 := Lh ((hb.block _ (lt_of_some HBX.out)).trans HBX.out)
 have B2 := Lh (B1.out.trans (hb.mono B1.out.size))
 have hz := heap_alloc_new W2 (.cells #[.int .i64 0, .int .i64 0, .int .i64 0, .int .i64 0, .bool false] 29)
 clear hb HBX B1 HSW
 go_upto_region 2 with ((with_reducible refine storeNm W2.heap.size _ #[.int .i64 1, .int .i64 1, .int .i64 2, .int .i64 0, .bool false] ?_ ?_ hz rfl rfl nb_one ?_); exact rfl; exact rfl)
 rw [World.setRow_alloc_new]
 have hb := bel_al W2 (.cells #[.int .i64 1, .int .i64 1, .int .i64 2, .int .i64 0, .bool false] 29)
 have HX3 := Lh (heap_alloc_new W2 (.cells #[.int .i64 1, .int .i64 1, .int .i64 2, .int .i64 0, .bool false] 29))
 have HBX3 := Lh ((hb.block _ (lt_of_some HBX2.out)).trans HBX2.out)
 have B3 := Lh (B2.out.trans (hb.mono B2.out.size))
 clear hb hz HBX2 B2
 generalize W2.alloc (.cells #[.int .i64 1, .int .i64 1, .int .i64 2, .int .i64 0, .bool false] 29) = W3 at *
 generalize W2.heap.size = gx at *
 obtain ⟨x0, x1, x2, x3, x4⟩ := bx5 HX3.out
 go_wp2_with fail
 clear x0 x1 x2 x3 x4
 refine (pformat_B W3).mono ?_
 rintro e W4 ⟨rfl, hb⟩
 have HBX4 := Lh ((hb.block _ (lt_of_some HBX3.out)).trans HBX3.out)
 have B4 := Lh (B3.out.trans (hb.mono B3.out.size))
 clear hb HBX3 B3 HX3
 go_wp2_with ((with_reducible refine storeNm w.heap.size _ #[.int .i64 0, .int .i64 0, .int .i64 0, .int .i64 0, .bool false] ?_ ?_ HBX4.out rfl rfl z5_one ?_); exact rfl; exact rfl)
 refine bodyPost_ret (results_rt (S := 29) rfl _ _ w.heap.size #[.int .i64 0, .int .i64 0, .int .i64 0, .int .i64 0, .bool false] rfl (setRow_heap _ _ _ _ _ _ HBX4.out) Tryz.underlying29 rfl infoN5) rfl ?_
 exact ⟨rfl, below_setRowM B4.out (Nat.le_refl _) _⟩
end Go.Proofs.YtbmlpafbdbhaiaaGreatDoor.Gf
