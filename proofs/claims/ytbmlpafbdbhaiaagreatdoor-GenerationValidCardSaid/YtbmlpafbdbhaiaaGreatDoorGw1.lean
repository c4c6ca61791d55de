/- What is proved here: Format of the program at the names that the chapter's examples want. -/
import Derived.Test.YtbmlpafbdbhaiaaGreatDoorSp
import Derived.Test.YtbmlpafbdbhaiaaGreatDoorVq
import Derived.StillTailTactics
namespace Go.Proofs.YtbmlpafbdbhaiaaGreatDoor.Gf
open Go Go.Joins Go.ChangeShapes Go.WideShapes Go.ChangeAt Go.RowKit Go.Deep Go.Proofs.YtbmlpafbdbhaiaaGreatDoor.By Go.Proofs.YtbmlpafbdbhaiaaGreatDoor.Qt Go.Proofs
set_option maxRecDepth 100000
set_option maxHeartbeats 204800000
theorem bx5 {w : World} {g : Nat} {c0 c1 c2 c3 c4 : Value} {T : TypeId} {fr : Nat × Nat} (h : w.heap[g]? = some (.cells #[c0, c1, c2, c3, c4] T fr)) : w.cell? ⟨g, 0, none⟩ = some c0 ∧ w.cell? ⟨g, 1, none⟩ = some c1 ∧ w.cell? ⟨g, 2, none⟩ = some c2 ∧ w.cell? ⟨g, 3, none⟩ = some c3 ∧ w.cell? ⟨g, 4, none⟩ = some c4 :=
 ⟨cell_of_row w g 0 _ _ _ h, cell_of_row w g 1 _ _ _ h, cell_of_row w g 2 _ _ _ h, cell_of_row w g 3 _ _ _ h, cell_of_row w g 4 _ _ _ h⟩
theorem itoa_1 (w : World) : Calls Tryz.prog 42 #[.int .i64 1] w fun e w' => e = .returned (.string ⟨#[49]⟩) ∧ w' = w := by
 have h := Tryz.strconv_Itoa_small 1 (by decide) w
 rw [show Lib.decDigits 1 = [49] from by simp [Lib.decDigits]] at h
 exact h
theorem itoa_2 (w : World) : Calls Tryz.prog 42 #[.int .i64 2] w fun e w' => e = .returned (.string ⟨#[50]⟩) ∧ w' = w := by
 have h := Tryz.strconv_Itoa_small 2 (by decide) w
 rw [show Lib.decDigits 2 = [50] from by simp [Lib.decDigits]] at h
 exact h
theorem itoa_3 (w : World) : Calls Tryz.prog 42 #[.int .i64 3] w fun e w' => e = .returned (.string ⟨#[51]⟩) ∧ w' = w := by
 have h := Tryz.strconv_Itoa_small 3 (by decide) w
 rw [show Lib.decDigits 3 = [51] from by simp [Lib.decDigits]] at h
 exact h
theorem pvnum_2 (w : World) : Calls Tryz.prog 47 #[.int .i64 2] w fun e w' => e = .returned (.bool true) ∧ w' = w := by
 go_enter Tryz.func47, Tryz.ntmps47
 go_wp2_with fail
 go_ret
 exact ⟨rfl, rfl⟩
theorem pending_5 (w : World) : Calls Tryz.prog 43 #[.int .i64 5] w fun e w' => e = .returned (.string ⟨#[101, 99]⟩) ∧ w' = w := by
 go_enter Tryz.func43, Tryz.ntmps43
 go_wp2_with fail
 go_ret
 exact ⟨rfl, rfl⟩
theorem pending_1 (w : World) : Calls Tryz.prog 43 #[.int .i64 1] w fun e w' => e = .returned (.string ⟨#[100, 97, 116]⟩) ∧ w' = w := by
 go_enter Tryz.func43, Tryz.ntmps43
 go_wp2_with fail
 go_ret
 exact ⟨rfl, rfl⟩
theorem join4 (W : World) (bk : Nat) (a b c d sep r : ByteArray) {T : TypeId} (hc : W.heap[bk]? = some (.cells #[.string a, .string b, .string c, .string d] T (0, 0))) (hr : Lib.join [a.data.toList, b.data.toList, c.data.toList, d.data.toList] sep.data.toList = r.data.toList) (hl : r.data.toList.length ≤ 1000) : Calls Tryz.prog 41 #[.slice (some ⟨bk, 0, none⟩) 4 4, .string sep] W fun e w' => e = .returned (.string r) ∧ Below W.heap.size W w' := by
 have h := Tryz.strings_Join bk 0 4 [a, b, c, d] sep W (fun j x hx => by
  match j, hx with
  | 0, hx => obtain rfl := Option.some.inj hx; exact cell_of_row W bk 0 _ _ _ hc
  | 1, hx => obtain rfl := Option.some.inj hx; exact cell_of_row W bk 1 _ _ _ hc
  | 2, hx => obtain rfl := Option.some.inj hx; exact cell_of_row W bk 2 _ _ _ hc
  | 3, hx => obtain rfl := Option.some.inj hx; exact cell_of_row W bk 3 _ _ _ hc) (lt_of_some hc) (by simp) (by simp) (by
  rw [show ([a, b, c, d].map (·.data.toList)) = [a.data.toList, b.data.toList, c.data.toList, d.data.toList] from rfl, hr]
  omega)
 rw [show ([a, b, c, d].map (·.data.toList)) = [a.data.toList, b.data.toList, c.data.toList, d.data.toList] from rfl, hr] at h
 exact h
theorem pvname_A (w : World) : Calls Tryz.prog 40 #[.agg #[.int .i64 5, .int .i64 1, .int .i64 2, .int .i64 3, .bool true]] w fun e w' => e = .returned (.bool true) ∧ Below w.heap.size w w' := by
 have q0 := heap_alloc_new w (.cells #[.int .i64 5, .int .i64 1, .int .i64 2, .int .i64 3, .bool true] 29)
 have B0 := Lh (bel_al w (.cells #[.int .i64 5, .int .i64 1, .int .i64 2, .int .i64 3, .bool true] 29))
 obtain ⟨x0, x1, x2, x3, x4⟩ := bx5 q0
 clear q0
 go_enter Tryz.func40, Tryz.ntmps40
 go_upto_region 1 with fail
 generalize w.alloc (.cells #[.int .i64 5, .int .i64 1, .int .i64 2, .int .i64 3, .bool true] 29) = W1 at *
 go_wp2_with fail
 refine (pvnum_2 W1).mono ?_
 rintro e W2 ⟨rfl, rfl⟩
 go_wp2_with fail
 go_ret
 exact ⟨rfl, B0.out⟩
theorem pvname_B (w : World) : Calls Tryz.prog 40 #[.agg #[.int .i64 1, .int .i64 1, .int .i64 2, .int .i64 0, .bool false]] w fun e w' => e = .returned (.bool true) ∧ Below w.heap.size w w' := by
 have q0 := heap_alloc_new w (.cells #[.int .i64 1, .int .i64 1, .int .i64 2, .int .i64 0, .bool false] 29)
 have B0 := Lh (bel_al w (.cells #[.int .i64 1, .int .i64 1, .int .i64 2, .int .i64 0, .bool false] 29))
 obtain ⟨x0, x1, x2, x3, x4⟩ := bx5 q0
 clear q0
 go_enter Tryz.func40, Tryz.ntmps40
 go_upto_region 1 with fail
 generalize w.alloc (.cells #[.int .i64 1, .int .i64 1, .int .i64 2, .int .i64 0, .bool false] 29) = W1 at *
 go_wp2_with fail
 refine (pvnum_2 W1).mono ?_
 rintro e W2 ⟨rfl, rfl⟩
 go_wp2_with fail
 go_ret
 exact ⟨rfl, B0.out⟩
theorem pformat_A (w : World) : Calls Tryz.prog 9 #[.agg #[.int .i64 5, .int .i64 1, .int .i64 2, .int .i64 3, .bool true]] w fun e w' => e = .returned (.tuple #[.string ⟨#[118, 46, 49, 46, 50, 46, 101, 99, 51, 46, 116, 109, 112]⟩, .int .i64 0]) ∧ Below w.heap.size w w' := by
 have q0 := heap_alloc_new w (.cells #[.int .i64 5, .int .i64 1, .int .i64 2, .int .i64 3, .bool true] 29)
 have HX := Lh q0
 have B0 := Lh (bel_al w (.cells #[.int .i64 5, .int .i64 1, .int .i64 2, .int .i64 3, .bool true] 29))
 obtain ⟨x0, x1, x2, x3, x4⟩ := bx5 q0
 clear q0
 go_enter Tryz.func9, Tryz.ntmps9
 go_upto_region 1 with fail
 generalize w.alloc (.cells #[.int .i64 5, .int .i64 1, .int .i64 2, .int .i64 3, .bool true] 29) = W1 at *
 go_wp2_with fail
 clear x0 x1 x2 x3 x4
 refine (pvname_A W1).mono ?_
 rintro e W2 ⟨rfl, hb⟩
 have HX2 := Lh ((hb.block _ (lt_of_some HX.out)).trans HX.out)
 have B2 := Lh (B0.out.trans (hb.mono B0.out.size))
 clear hb HX B0
 obtain ⟨x0, x1, x2, x3, x4⟩ := bx5 HX2.out
 go_upto_region 3 with fail
 have C1 := Lh (itoa_1 W2.drew)
 have C2 := Lh (itoa_2 W2.drew)
 have C3 := Lh (pending_5 W2.drew)
 refine wp_region_still_tail 9 (by kernel_rfl) (by kernel_rfl) ?_
 simp only [List.take_succ_cons, List.take_zero, List.drop_succ_cons, List.drop_zero]
 still_step
 still_step
 still_call C1.out
 still_step
 still_step
 still_call C2.out
 still_step
 still_step
 still_call C3.out
 refine wpStill_nil ?_
 change wpList _ _ _ _ _ W2.drew
 have HX3 := Lh (show W2.drew.heap[w.heap.size]? = _ from HX2.out)
 have B3 := Lh (B2.out.drew)
 clear x0 x1 x2 x3 x4 HX2 B2 C1 C2 C3
 generalize W2.drew = W3 at *
 have hz := Lh (heap_alloc_new W3 (.cells #[.string ⟨#[118]⟩, .string ⟨#[49]⟩, .string ⟨#[50]⟩, .string ⟨#[101, 99]⟩] 9))
 have hb := Lh (bel_al W3 (.cells #[.string ⟨#[118]⟩, .string ⟨#[49]⟩, .string ⟨#[50]⟩, .string ⟨#[101, 99]⟩] 9))
 go_wp2_with ((go_at_call 41; refine (join4 _ _ _ _ _ _ _ ⟨#[118, 46, 49, 46, 50, 46, 101, 99]⟩ hz.out (by decide) (by decide)).mono ?_; rintro e W5 ⟨rfl, hb5⟩; have HX5 := Lh ((hb5.block _ (lt_of_some ((hb.out.block _ (lt_of_some HX3.out)).trans HX3.out))).trans ((hb.out.block _ (lt_of_some HX3.out)).trans HX3.out)); have B5 := Lh ((B3.out.trans (hb.out.mono B3.out.size)).trans (hb5.mono (B3.out.trans (hb.out.mono B3.out.size)).size)); clear hb5; obtain ⟨x0, x1, x2, x3, x4⟩ := bx5 HX5.out))
 refine (itoa_3 W5).mono ?_
 rintro e W6 ⟨rfl, rfl⟩
 go_wp2_with fail
 go_ret2
 exact ⟨rfl, B5.out⟩
theorem pformat_B (w : World) : Calls Tryz.prog 9 #[.agg #[.int .i64 1, .int .i64 1, .int .i64 2, .int .i64 0, .bool false]] w fun e w' => e = .returned (.tuple #[.string ⟨#[118, 46, 49, 46, 50, 46, 100, 97, 116]⟩, .int .i64 0]) ∧ Below w.heap.size w w' := by
 have q0 := heap_alloc_new w (.cells #[.int .i64 1, .int .i64 1, .int .i64 2, .int .i64 0, .bool false] 29)
 have HX := Lh q0
 have B0 := Lh (bel_al w (.cells #[.int .i64 1, .int .i64 1, .int .i64 2, .int .i64 0, .bool false] 29))
 obtain ⟨x0, x1, x2, x3, x4⟩ := bx5 q0
 clear q0
 go_enter Tryz.func9, Tryz.ntmps9
 go_upto_region 1 with fail
 generalize w.alloc (.cells #[.int .i64 1, .int .i64 1, .int .i64 2, .int .i64 0, .bool false] 29) = W1 at *
 go_wp2_with fail
 clear x0 x1 x2 x3 x4
 refine (pvname_B W1).mono ?_
 rintro e W2 ⟨rfl, hb⟩
 have HX2 := Lh ((hb.block _ (lt_of_some HX.out)).trans HX.out)
 have B2 := Lh (B0.out.trans (hb.mono B0.out.size))
 clear hb HX B0
 obtain ⟨x0, x1, x2, x3, x4⟩ := bx5 HX2.out
 go_upto_region 3 with fail
 have C1 := Lh (itoa_1 W2.drew)
 have C2 := Lh (itoa_2 W2.drew)
 have C3 := Lh (pending_1 W2.drew)
 refine wp_region_still_tail 9 (by kernel_rfl) (by kernel_rfl) ?_
 simp only [List.take_succ_cons, List.take_zero, List.drop_succ_cons, List.drop_zero]
 still_step
 still_step
 still_call C1.out
 still_step
 still_step
 still_call C2.out
 still_step
 still_step
 still_call C3.out
 refine wpStill_nil ?_
 change wpList _ _ _ _ _ W2.drew
 have HX3 := Lh (show W2.drew.heap[w.heap.size]? = _ from HX2.out)
 have B3 := Lh (B2.out.drew)
 clear x0 x1 x2 x3 x4 HX2 B2 C1 C2 C3
 generalize W2.drew = W3 at *
 have hz := Lh (heap_alloc_new W3 (.cells #[.string ⟨#[118]⟩, .string ⟨#[49]⟩, .string ⟨#[50]⟩, .string ⟨#[100, 97, 116]⟩] 9))
 have hb := Lh (bel_al W3 (.cells #[.string ⟨#[118]⟩, .string ⟨#[49]⟩, .string ⟨#[50]⟩, .string ⟨#[100, 97, 116]⟩] 9))
 go_wp2_with ((go_at_call 41; refine (join4 _ _ _ _ _ _ _ ⟨#[118, 46, 49, 46, 50, 46, 100, 97, 116]⟩ hz.out (by decide) (by decide)).mono ?_; rintro e W5 ⟨rfl, hb5⟩; have HX5 := Lh ((hb5.block _ (lt_of_some ((hb.out.block _ (lt_of_some HX3.out)).trans HX3.out))).trans ((hb.out.block _ (lt_of_some HX3.out)).trans HX3.out)); have B5 := Lh ((B3.out.trans (hb.out.mono B3.out.size)).trans (hb5.mono (B3.out.trans (hb.out.mono B3.out.size)).size)); clear hb5; obtain ⟨x0, x1, x2, x3, x4⟩ := bx5 HX5.out))
 go_ret2
 exact ⟨rfl, B5.out⟩
end Go.Proofs.YtbmlpafbdbhaiaaGreatDoor.Gf
