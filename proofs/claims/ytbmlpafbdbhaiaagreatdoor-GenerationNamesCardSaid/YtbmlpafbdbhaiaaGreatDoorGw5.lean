/- What is proved here: Format of the program at every name. -/
import Derived.Test.YtbmlpafbdbhaiaaGreatDoorGw4
namespace Go.Proofs.YtbmlpafbdbhaiaaGreatDoor.Gf
open Go Go.Joins Go.ChangeShapes Go.WideShapes Go.ChangeAt Go.RowKit Go.Deep Go.Proofs.YtbmlpafbdbhaiaaGreatDoor.By Go.Proofs.YtbmlpafbdbhaiaaGreatDoor.Qt Go.Proofs
set_option maxRecDepth 100000
set_option maxHeartbeats 204800000
/-- The digit of a small number. -/
def dgB (n : Int) : UInt8 := UInt8.ofNat (48 + n.toNat)
theorem itoa_any (n : Int) (h0 : 0 ≤ n) (h1 : n < 10) (w : World) : Calls Tryz.prog 42 #[.int .i64 n] w fun e w' => e = .returned (.string ⟨#[dgB n]⟩) ∧ w' = w := by
 obtain ⟨m, rfl⟩ := Int.eq_ofNat_of_zero_le h0
 have h := Tryz.strconv_Itoa_small m (by omega) w
 rw [show Lib.decDigits m = [UInt8.ofNat (48 + m)] from by unfold Lib.decDigits; rw [dif_pos (by omega)]] at h
 exact h
/-- The last part of a name's text. -/
def endA (k : Int) : Array UInt8 := if k = 1 then #[100, 97, 116] else if k = 2 then #[115, 104, 100] else if k = 3 then #[100, 101, 108] else if k = 4 then #[105, 100, 120] else #[101, 99]
/-- The text of a name. -/
def fmtS (k s g h : Int) (t : Bool) : ByteArray := ⟨#[118, 46, dgB s, 46, dgB g, 46] ++ endA k ++ (if k = 5 then #[dgB h] else #[]) ++ (if t then #[46, 116, 109, 112] else #[])⟩
/-- What Format answers. -/
def FmO (k s g h : Int) (t : Bool) (w : World) (e : Ending) (w' : World) : Prop := e = .returned (.tuple #[.string (if NameOk k s g h t then fmtS k s g h t else ⟨#[]⟩), .int .i64 (if NameOk k s g h t then 0 else 1)]) ∧ Below w.heap.size w w'
theorem fmO_f {k s g h : Int} {t : Bool} {w w' : World} {e : Ending} (hn : ¬ NameOk k s g h t) (q : e = .returned (.tuple #[.string ⟨#[]⟩, .int .i64 1]) ∧ Below w.heap.size w w') : FmO k s g h t w e w' := by
 unfold FmO
 rw [if_neg hn, if_neg hn]
 exact q
theorem fmO_t {k s g h : Int} {t : Bool} {r : ByteArray} {w w' : World} {e : Ending} (hn : NameOk k s g h t) (hr : fmtS k s g h t = r) (q : e = .returned (.tuple #[.string r, .int .i64 0]) ∧ Below w.heap.size w w') : FmO k s g h t w e w' := by
 unfold FmO
 rw [if_pos hn, if_pos hn, hr]
 exact q
theorem pending_2 (w : World) : Calls Tryz.prog 43 #[.int .i64 2] w fun e w' => e = .returned (.string ⟨#[115, 104, 100]⟩) ∧ w' = w := by
 go_enter Tryz.func43, Tryz.ntmps43
 go_wp2_with fail
 go_ret
 exact ⟨rfl, rfl⟩
theorem pending_3 (w : World) : Calls Tryz.prog 43 #[.int .i64 3] w fun e w' => e = .returned (.string ⟨#[100, 101, 108]⟩) ∧ w' = w := by
 go_enter Tryz.func43, Tryz.ntmps43
 go_wp2_with fail
 go_ret
 exact ⟨rfl, rfl⟩
theorem pending_4 (w : World) : Calls Tryz.prog 43 #[.int .i64 4] w fun e w' => e = .returned (.string ⟨#[105, 100, 120]⟩) ∧ w' = w := by
 go_enter Tryz.func43, Tryz.ntmps43
 go_wp2_with fail
 go_ret
 exact ⟨rfl, rfl⟩
theorem pfm_1false (s g : Int) (w : World) (hn : NameOk 1 s g 0 false) : Calls Tryz.prog 9 #[.agg #[.int .i64 1, .int .i64 s, .int .i64 g, .int .i64 0, .bool false]] w (FmO 1 s g 0 false w) := by
 have q0 := heap_alloc_new w (.cells #[.int .i64 1, .int .i64 s, .int .i64 g, .int .i64 0, .bool false] 29)
 have HX := Lh q0
 have HN := Lh hn
 have B0 := Lh (bel_al w (.cells #[.int .i64 1, .int .i64 s, .int .i64 g, .int .i64 0, .bool false] 29))
 obtain ⟨x0, x1, x2, x3, x4⟩ := bx5 q0
 clear q0 hn
 go_enter Tryz.func9, Tryz.ntmps9
 go_upto_region 1 with fail
 generalize w.alloc (.cells #[.int .i64 1, .int .i64 s, .int .i64 g, .int .i64 0, .bool false] 29) = W1 at *
 go_wp2_with fail
 clear x0 x1 x2 x3 x4
 refine (pvname_any 1 s g 0 false W1).mono ?_
 rintro e W2 ⟨rfl, hb⟩
 rw [decide_eq_true HN.out]
 have HX2 := Lh ((hb.block _ (lt_of_some HX.out)).trans HX.out)
 have B2 := Lh (B0.out.trans (hb.mono B0.out.size))
 clear hb HX B0
 obtain ⟨x0, x1, x2, x3, x4⟩ := bx5 HX2.out
 go_upto_region 3 with fail
 have C1 := Lh (itoa_any s HN.out.1.1 (by have := HN.out.1.2; omega) W2.drew)
 have C2 := Lh (itoa_any g (by have := HN.out.2.1.1; omega) (by have := HN.out.2.1.2; omega) W2.drew)
 have C3 := Lh (pending_1 W2.drew)
 refine wp_region_still_tail 9 (by kernel_rfl) (by kernel_rfl) ?_
 simp only [List.take_succ_cons, List.take_zero, List.drop_succ_cons, List.drop_zero]
 still_step
 still_step
 still_call C1.out
 still_step
 still_step
 still_call C2.out
 still_step
 still_step
 still_call C3.out
 refine wpStill_nil ?_
 change wpList _ _ _ _ _ W2.drew
 have HX3 := Lh (show W2.drew.heap[w.heap.size]? = _ from HX2.out)
 have B3 := Lh (B2.out.drew)
 clear x0 x1 x2 x3 x4 HX2 B2 C1 C2 C3
 generalize W2.drew = W3 at *
 have hz := Lh (heap_alloc_new W3 (.cells #[.string ⟨#[118]⟩, .string ⟨#[dgB s]⟩, .string ⟨#[dgB g]⟩, .string ⟨#[100, 97, 116]⟩] 9))
 have hb := Lh (bel_al W3 (.cells #[.string ⟨#[118]⟩, .string ⟨#[dgB s]⟩, .string ⟨#[dgB g]⟩, .string ⟨#[100, 97, 116]⟩] 9))
 go_wp2_with ((go_at_call 41; refine (join4 _ _ _ _ _ _ _ ⟨#[118, 46, dgB s, 46, dgB g, 46, 100, 97, 116]⟩ hz.out rfl (by show _ ≤ 1000; simp)).mono ?_; rintro e W5 ⟨rfl, hb5⟩; have HX5 := Lh ((hb5.block _ (lt_of_some ((hb.out.block _ (lt_of_some HX3.out)).trans HX3.out))).trans ((hb.out.block _ (lt_of_some HX3.out)).trans HX3.out)); have B5 := Lh ((B3.out.trans (hb.out.mono B3.out.size)).trans (hb5.mono (B3.out.trans (hb.out.mono B3.out.size)).size)); clear hb5; obtain ⟨x0, x1, x2, x3, x4⟩ := bx5 HX5.out))
 go_ret2
 exact fmO_t HN.out (r := ⟨#[118, 46, dgB s, 46, dgB g, 46, 100, 97, 116]⟩) rfl ⟨rfl, B5.out⟩
theorem pfm_2false (s g : Int) (w : World) (hn : NameOk 2 s g 0 false) : Calls Tryz.prog 9 #[.agg #[.int .i64 2, .int .i64 s, .int .i64 g, .int .i64 0, .bool false]] w (FmO 2 s g 0 false w) := by
 have q0 := heap_alloc_new w (.cells #[.int .i64 2, .int .i64 s, .int .i64 g, .int .i64 0, .bool false] 29)
 have HX := Lh q0
 have HN := Lh hn
 have B0 := Lh (bel_al w (.cells #[.int .i64 2, .int .i64 s, .int .i64 g, .int .i64 0, .bool false] 29))
 obtain ⟨x0, x1, x2, x3, x4⟩ := bx5 q0
 clear q0 hn
 go_enter Tryz.func9, Tryz.ntmps9
 go_upto_region 1 with fail
 generalize w.alloc (.cells #[.int .i64 2, .int .i64 s, .int .i64 g, .int .i64 0, .bool false] 29) = W1 at *
 go_wp2_with fail
 clear x0 x1 x2 x3 x4
 refine (pvname_any 2 s g 0 false W1).mono ?_
 rintro e W2 ⟨rfl, hb⟩
 rw [decide_eq_true HN.out]
 have HX2 := Lh ((hb.block _ (lt_of_some HX.out)).trans HX.out)
 have B2 := Lh (B0.out.trans (hb.mono B0.out.size))
 clear hb HX B0
 obtain ⟨x0, x1, x2, x3, x4⟩ := bx5 HX2.out
 go_upto_region 3 with fail
 have C1 := Lh (itoa_any s HN.out.1.1 (by have := HN.out.1.2; omega) W2.drew)
 have C2 := Lh (itoa_any g (by have := HN.out.2.1.1; omega) (by have := HN.out.2.1.2; omega) W2.drew)
 have C3 := Lh (pending_2 W2.drew)
 refine wp_region_still_tail 9 (by kernel_rfl) (by kernel_rfl) ?_
 simp only [List.take_succ_cons, List.take_zero, List.drop_succ_cons, List.drop_zero]
 still_step
 still_step
 still_call C1.out
 still_step
 still_step
 still_call C2.out
 still_step
 still_step
 still_call C3.out
 refine wpStill_nil ?_
 change wpList _ _ _ _ _ W2.drew
 have HX3 := Lh (show W2.drew.heap[w.heap.size]? = _ from HX2.out)
 have B3 := Lh (B2.out.drew)
 clear x0 x1 x2 x3 x4 HX2 B2 C1 C2 C3
 generalize W2.drew = W3 at *
 have hz := Lh (heap_alloc_new W3 (.cells #[.string ⟨#[118]⟩, .string ⟨#[dgB s]⟩, .string ⟨#[dgB g]⟩, .string ⟨#[115, 104, 100]⟩] 9))
 have hb := Lh (bel_al W3 (.cells #[.string ⟨#[118]⟩, .string ⟨#[dgB s]⟩, .string ⟨#[dgB g]⟩, .string ⟨#[115, 104, 100]⟩] 9))
 go_wp2_with ((go_at_call 41; refine (join4 _ _ _ _ _ _ _ ⟨#[118, 46, dgB s, 46, dgB g, 46, 115, 104, 100]⟩ hz.out rfl (by show _ ≤ 1000; simp)).mono ?_; rintro e W5 ⟨rfl, hb5⟩; have HX5 := Lh ((hb5.block _ (lt_of_some ((hb.out.block _ (lt_of_some HX3.out)).trans HX3.out))).trans ((hb.out.block _ (lt_of_some HX3.out)).trans HX3.out)); have B5 := Lh ((B3.out.trans (hb.out.mono B3.out.size)).trans (hb5.mono (B3.out.trans (hb.out.mono B3.out.size)).size)); clear hb5; obtain ⟨x0, x1, x2, x3, x4⟩ := bx5 HX5.out))
 go_ret2
 exact fmO_t HN.out (r := ⟨#[118, 46, dgB s, 46, dgB g, 46, 115, 104, 100]⟩) rfl ⟨rfl, B5.out⟩
theorem pfm_3false (s g : Int) (w : World) (hn : NameOk 3 s g 0 false) : Calls Tryz.prog 9 #[.agg #[.int .i64 3, .int .i64 s, .int .i64 g, .int .i64 0, .bool false]] w (FmO 3 s g 0 false w) := by
 have q0 := heap_alloc_new w (.cells #[.int .i64 3, .int .i64 s, .int .i64 g, .int .i64 0, .bool false] 29)
 have HX := Lh q0
 have HN := Lh hn
 have B0 := Lh (bel_al w (.cells #[.int .i64 3, .int .i64 s, .int .i64 g, .int .i64 0, .bool false] 29))
 obtain ⟨x0, x1, x2, x3, x4⟩ := bx5 q0
 clear q0 hn
 go_enter Tryz.func9, Tryz.ntmps9
 go_upto_region 1 with fail
 generalize w.alloc (.cells #[.int .i64 3, .int .i64 s, .int .i64 g, .int .i64 0, .bool false] 29) = W1 at *
 go_wp2_with fail
 clear x0 x1 x2 x3 x4
 refine (pvname_any 3 s g 0 false W1).mono ?_
 rintro e W2 ⟨rfl, hb⟩
 rw [decide_eq_true HN.out]
 have HX2 := Lh ((hb.block _ (lt_of_some HX.out)).trans HX.out)
 have B2 := Lh (B0.out.trans (hb.mono B0.out.size))
 clear hb HX B0
 obtain ⟨x0, x1, x2, x3, x4⟩ := bx5 HX2.out
 go_upto_region 3 with fail
 have C1 := Lh (itoa_any s HN.out.1.1 (by have := HN.out.1.2; omega) W2.drew)
 have C2 := Lh (itoa_any g (by have := HN.out.2.1.1; omega) (by have := HN.out.2.1.2; omega) W2.drew)
 have C3 := Lh (pending_3 W2.drew)
 refine wp_region_still_tail 9 (by kernel_rfl) (by kernel_rfl) ?_
 simp only [List.take_succ_cons, List.take_zero, List.drop_succ_cons, List.drop_zero]
 still_step
 still_step
 still_call C1.out
 still_step
 still_step
 still_call C2.out
 still_step
 still_step
 still_call C3.out
 refine wpStill_nil ?_
 change wpList _ _ _ _ _ W2.drew
 have HX3 := Lh (show W2.drew.heap[w.heap.size]? = _ from HX2.out)
 have B3 := Lh (B2.out.drew)
 clear x0 x1 x2 x3 x4 HX2 B2 C1 C2 C3
 generalize W2.drew = W3 at *
 have hz := Lh (heap_alloc_new W3 (.cells #[.string ⟨#[118]⟩, .string ⟨#[dgB s]⟩, .string ⟨#[dgB g]⟩, .string ⟨#[100, 101, 108]⟩] 9))
 have hb := Lh (bel_al W3 (.cells #[.string ⟨#[118]⟩, .string ⟨#[dgB s]⟩, .string ⟨#[dgB g]⟩, .string ⟨#[100, 101, 108]⟩] 9))
 go_wp2_with ((go_at_call 41; refine (join4 _ _ _ _ _ _ _ ⟨#[118, 46, dgB s, 46, dgB g, 46, 100, 101, 108]⟩ hz.out rfl (by show _ ≤ 1000; simp)).mono ?_; rintro e W5 ⟨rfl, hb5⟩; have HX5 := Lh ((hb5.block _ (lt_of_some ((hb.out.block _ (lt_of_some HX3.out)).trans HX3.out))).trans ((hb.out.block _ (lt_of_some HX3.out)).trans HX3.out)); have B5 := Lh ((B3.out.trans (hb.out.mono B3.out.size)).trans (hb5.mono (B3.out.trans (hb.out.mono B3.out.size)).size)); clear hb5; obtain ⟨x0, x1, x2, x3, x4⟩ := bx5 HX5.out))
 go_ret2
 exact fmO_t HN.out (r := ⟨#[118, 46, dgB s, 46, dgB g, 46, 100, 101, 108]⟩) rfl ⟨rfl, B5.out⟩
theorem pfm_4false (s g : Int) (w : World) (hn : NameOk 4 s g 0 false) : Calls Tryz.prog 9 #[.agg #[.int .i64 4, .int .i64 s, .int .i64 g, .int .i64 0, .bool false]] w (FmO 4 s g 0 false w) := by
 have q0 := heap_alloc_new w (.cells #[.int .i64 4, .int .i64 s, .int .i64 g, .int .i64 0, .bool false] 29)
 have HX := Lh q0
 have HN := Lh hn
 have B0 := Lh (bel_al w (.cells #[.int .i64 4, .int .i64 s, .int .i64 g, .int .i64 0, .bool false] 29))
 obtain ⟨x0, x1, x2, x3, x4⟩ := bx5 q0
 clear q0 hn
 go_enter Tryz.func9, Tryz.ntmps9
 go_upto_region 1 with fail
 generalize w.alloc (.cells #[.int .i64 4, .int .i64 s, .int .i64 g, .int .i64 0, .bool false] 29) = W1 at *
 go_wp2_with fail
 clear x0 x1 x2 x3 x4
 refine (pvname_any 4 s g 0 false W1).mono ?_
 rintro e W2 ⟨rfl, hb⟩
 rw [decide_eq_true HN.out]
 have HX2 := Lh ((hb.block _ (lt_of_some HX.out)).trans HX.out)
 have B2 := Lh (B0.out.trans (hb.mono B0.out.size))
 clear hb HX B0
 obtain ⟨x0, x1, x2, x3, x4⟩ := bx5 HX2.out
 go_upto_region 3 with fail
 have C1 := Lh (itoa_any s HN.out.1.1 (by have := HN.out.1.2; omega) W2.drew)
 have C2 := Lh (itoa_any g (by have := HN.out.2.1.1; omega) (by have := HN.out.2.1.2; omega) W2.drew)
 have C3 := Lh (pending_4 W2.drew)
 refine wp_region_still_tail 9 (by kernel_rfl) (by kernel_rfl) ?_
 simp only [List.take_succ_cons, List.take_zero, List.drop_succ_cons, List.drop_zero]
 still_step
 still_step
 still_call C1.out
 still_step
 still_step
 still_call C2.out
 still_step
 still_step
 still_call C3.out
 refine wpStill_nil ?_
 change wpList _ _ _ _ _ W2.drew
 have HX3 := Lh (show W2.drew.heap[w.heap.size]? = _ from HX2.out)
 have B3 := Lh (B2.out.drew)
 clear x0 x1 x2 x3 x4 HX2 B2 C1 C2 C3
 generalize W2.drew = W3 at *
 have hz := Lh (heap_alloc_new W3 (.cells #[.string ⟨#[118]⟩, .string ⟨#[dgB s]⟩, .string ⟨#[dgB g]⟩, .string ⟨#[105, 100, 120]⟩] 9))
 have hb := Lh (bel_al W3 (.cells #[.string ⟨#[118]⟩, .string ⟨#[dgB s]⟩, .string ⟨#[dgB g]⟩, .string ⟨#[105, 100, 120]⟩] 9))
 go_wp2_with ((go_at_call 41; refine (join4 _ _ _ _ _ _ _ ⟨#[118, 46, dgB s, 46, dgB g, 46, 105, 100, 120]⟩ hz.out rfl (by show _ ≤ 1000; simp)).mono ?_; rintro e W5 ⟨rfl, hb5⟩; have HX5 := Lh ((hb5.block _ (lt_of_some ((hb.out.block _ (lt_of_some HX3.out)).trans HX3.out))).trans ((hb.out.block _ (lt_of_some HX3.out)).trans HX3.out)); have B5 := Lh ((B3.out.trans (hb.out.mono B3.out.size)).trans (hb5.mono (B3.out.trans (hb.out.mono B3.out.size)).size)); clear hb5; obtain ⟨x0, x1, x2, x3, x4⟩ := bx5 HX5.out))
 go_ret2
 exact fmO_t HN.out (r := ⟨#[118, 46, dgB s, 46, dgB g, 46, 105, 100, 120]⟩) rfl ⟨rfl, B5.out⟩
theorem pfm_4true (s g : Int) (w : World) (hn : NameOk 4 s g 0 true) : Calls Tryz.prog 9 #[.agg #[.int .i64 4, .int .i64 s, .int .i64 g, .int .i64 0, .bool true]] w (FmO 4 s g 0 true w) := by
 have q0 := heap_alloc_new w (.cells #[.int .i64 4, .int .i64 s, .int .i64 g, .int .i64 0, .bool true] 29)
 have HX := Lh q0
 have HN := Lh hn
 have B0 := Lh (bel_al w (.cells #[.int .i64 4, .int .i64 s, .int .i64 g, .int .i64 0, .bool true] 29))
 obtain ⟨x0, x1, x2, x3, x4⟩ := bx5 q0
 clear q0 hn
 go_enter Tryz.func9, Tryz.ntmps9
 go_upto_region 1 with fail
 generalize w.alloc (.cells #[.int .i64 4, .int .i64 s, .int .i64 g, .int .i64 0, .bool true] 29) = W1 at *
 go_wp2_with fail
 clear x0 x1 x2 x3 x4
 refine (pvname_any 4 s g 0 true W1).mono ?_
 rintro e W2 ⟨rfl, hb⟩
 rw [decide_eq_true HN.out]
 have HX2 := Lh ((hb.block _ (lt_of_some HX.out)).trans HX.out)
 have B2 := Lh (B0.out.trans (hb.mono B0.out.size))
 clear hb HX B0
 obtain ⟨x0, x1, x2, x3, x4⟩ := bx5 HX2.out
 go_upto_region 3 with fail
 have C1 := Lh (itoa_any s HN.out.1.1 (by have := HN.out.1.2; omega) W2.drew)
 have C2 := Lh (itoa_any g (by have := HN.out.2.1.1; omega) (by have := HN.out.2.1.2; omega) W2.drew)
 have C3 := Lh (pending_4 W2.drew)
 refine wp_region_still_tail 9 (by kernel_rfl) (by kernel_rfl) ?_
 simp only [List.take_succ_cons, List.take_zero, List.drop_succ_cons, List.drop_zero]
 still_step
 still_step
 still_call C1.out
 still_step
 still_step
 still_call C2.out
 still_step
 still_step
 still_call C3.out
 refine wpStill_nil ?_
 change wpList _ _ _ _ _ W2.drew
 have HX3 := Lh (show W2.drew.heap[w.heap.size]? = _ from HX2.out)
 have B3 := Lh (B2.out.drew)
 clear x0 x1 x2 x3 x4 HX2 B2 C1 C2 C3
 generalize W2.drew = W3 at *
 have hz := Lh (heap_alloc_new W3 (.cells #[.string ⟨#[118]⟩, .string ⟨#[dgB s]⟩, .string ⟨#[dgB g]⟩, .string ⟨#[105, 100, 120]⟩] 9))
 have hb := Lh (bel_al W3 (.cells #[.string ⟨#[118]⟩, .string ⟨#[dgB s]⟩, .string ⟨#[dgB g]⟩, .string ⟨#[105, 100, 120]⟩] 9))
 go_wp2_with ((go_at_call 41; refine (join4 _ _ _ _ _ _ _ ⟨#[118, 46, dgB s, 46, dgB g, 46, 105, 100, 120]⟩ hz.out rfl (by show _ ≤ 1000; simp)).mono ?_; rintro e W5 ⟨rfl, hb5⟩; have HX5 := Lh ((hb5.block _ (lt_of_some ((hb.out.block _ (lt_of_some HX3.out)).trans HX3.out))).trans ((hb.out.block _ (lt_of_some HX3.out)).trans HX3.out)); have B5 := Lh ((B3.out.trans (hb.out.mono B3.out.size)).trans (hb5.mono (B3.out.trans (hb.out.mono B3.out.size)).size)); clear hb5; obtain ⟨x0, x1, x2, x3, x4⟩ := bx5 HX5.out))
 go_ret2
 exact fmO_t HN.out (r := ⟨#[118, 46, dgB s, 46, dgB g, 46, 105, 100, 120, 46, 116, 109, 112]⟩) rfl ⟨rfl, B5.out⟩
theorem pfm_5false (s g h : Int) (w : World) (hn : NameOk 5 s g h false) : Calls Tryz.prog 9 #[.agg #[.int .i64 5, .int .i64 s, .int .i64 g, .int .i64 h, .bool false]] w (FmO 5 s g h false w) := by
 have q0 := heap_alloc_new w (.cells #[.int .i64 5, .int .i64 s, .int .i64 g, .int .i64 h, .bool false] 29)
 have HX := Lh q0
 have HN := Lh hn
 have B0 := Lh (bel_al w (.cells #[.int .i64 5, .int .i64 s, .int .i64 g, .int .i64 h, .bool false] 29))
 obtain ⟨x0, x1, x2, x3, x4⟩ := bx5 q0
 clear q0 hn
 go_enter Tryz.func9, Tryz.ntmps9
 go_upto_region 1 with fail
 generalize w.alloc (.cells #[.int .i64 5, .int .i64 s, .int .i64 g, .int .i64 h, .bool false] 29) = W1 at *
 go_wp2_with fail
 clear x0 x1 x2 x3 x4
 refine (pvname_any 5 s g h false W1).mono ?_
 rintro e W2 ⟨rfl, hb⟩
 rw [decide_eq_true HN.out]
 have HX2 := Lh ((hb.block _ (lt_of_some HX.out)).trans HX.out)
 have B2 := Lh (B0.out.trans (hb.mono B0.out.size))
 clear hb HX B0
 obtain ⟨x0, x1, x2, x3, x4⟩ := bx5 HX2.out
 go_upto_region 3 with fail
 have C1 := Lh (itoa_any s HN.out.1.1 (by have := HN.out.1.2; omega) W2.drew)
 have C2 := Lh (itoa_any g (by have := HN.out.2.1.1; omega) (by have := HN.out.2.1.2; omega) W2.drew)
 have C3 := Lh (pending_5 W2.drew)
 refine wp_region_still_tail 9 (by kernel_rfl) (by kernel_rfl) ?_
 simp only [List.take_succ_cons, List.take_zero, List.drop_succ_cons, List.drop_zero]
 still_step
 still_step
 still_call C1.out
 still_step
 still_step
 still_call C2.out
 still_step
 still_step
 still_call C3.out
 refine wpStill_nil ?_
 change wpList _ _ _ _ _ W2.drew
 have HX3 := Lh (show W2.drew.heap[w.heap.size]? = _ from HX2.out)
 have B3 := Lh (B2.out.drew)
 clear x0 x1 x2 x3 x4 HX2 B2 C1 C2 C3
 generalize W2.drew = W3 at *
 have hz := Lh (heap_alloc_new W3 (.cells #[.string ⟨#[118]⟩, .string ⟨#[dgB s]⟩, .string ⟨#[dgB g]⟩, .string ⟨#[101, 99]⟩] 9))
 have hb := Lh (bel_al W3 (.cells #[.string ⟨#[118]⟩, .string ⟨#[dgB s]⟩, .string ⟨#[dgB g]⟩, .string ⟨#[101, 99]⟩] 9))
 go_wp2_with ((go_at_call 41; refine (join4 _ _ _ _ _ _ _ ⟨#[118, 46, dgB s, 46, dgB g, 46, 101, 99]⟩ hz.out rfl (by show _ ≤ 1000; simp)).mono ?_; rintro e W5 ⟨rfl, hb5⟩; have HX5 := Lh ((hb5.block _ (lt_of_some ((hb.out.block _ (lt_of_some HX3.out)).trans HX3.out))).trans ((hb.out.block _ (lt_of_some HX3.out)).trans HX3.out)); have B5 := Lh ((B3.out.trans (hb.out.mono B3.out.size)).trans (hb5.mono (B3.out.trans (hb.out.mono B3.out.size)).size)); clear hb5; obtain ⟨x0, x1, x2, x3, x4⟩ := bx5 HX5.out))
 refine (itoa_any h (by have := HN.out.2.2; omega) (by have := HN.out.2.2; omega) W5).mono ?_
 rintro e W6 ⟨rfl, rfl⟩
 go_wp2_with fail
 go_ret2
 exact fmO_t HN.out (r := ⟨#[118, 46, dgB s, 46, dgB g, 46, 101, 99, dgB h]⟩) rfl ⟨rfl, B5.out⟩
theorem pfm_5true (s g h : Int) (w : World) (hn : NameOk 5 s g h true) : Calls Tryz.prog 9 #[.agg #[.int .i64 5, .int .i64 s, .int .i64 g, .int .i64 h, .bool true]] w (FmO 5 s g h true w) := by
 have q0 := heap_alloc_new w (.cells #[.int .i64 5, .int .i64 s, .int .i64 g, .int .i64 h, .bool true] 29)
 have HX := Lh q0
 have HN := Lh hn
 have B0 := Lh (bel_al w (.cells #[.int .i64 5, .int .i64 s, .int .i64 g, .int .i64 h, .bool true] 29))
 obtain ⟨x0, x1, x2, x3, x4⟩ := bx5 q0
 clear q0 hn
 go_enter Tryz.func9, Tryz.ntmps9
 go_upto_region 1 with fail
 generalize w.alloc (.cells #[.int .i64 5, .int .i64 s, .int .i64 g, .int .i64 h, .bool true] 29) = W1 at *
 go_wp2_with fail
 clear x0 x1 x2 x3 x4
 refine (pvname_any 5 s g h true W1).mono ?_
 rintro e W2 ⟨rfl, hb⟩
 rw [decide_eq_true HN.out]
 have HX2 := Lh ((hb.block _ (lt_of_some HX.out)).trans HX.out)
 have B2 := Lh (B0.out.trans (hb.mono B0.out.size))
 clear hb HX B0
 obtain ⟨x0, x1, x2, x3, x4⟩ := bx5 HX2.out
 go_upto_region 3 with fail
 have C1 := Lh (itoa_any s HN.out.1.1 (by have := HN.out.1.2; omega) W2.drew)
 have C2 := Lh (itoa_any g (by have := HN.out.2.1.1; omega) (by have := HN.out.2.1.2; omega) W2.drew)
 have C3 := Lh (pending_5 W2.drew)
 refine wp_region_still_tail 9 (by kernel_rfl) (by kernel_rfl) ?_
 simp only [List.take_succ_cons, List.take_zero, List.drop_succ_cons, List.drop_zero]
 still_step
 still_step
 still_call C1.out
 still_step
 still_step
 still_call C2.out
 still_step
 still_step
 still_call C3.out
 refine wpStill_nil ?_
 change wpList _ _ _ _ _ W2.drew
 have HX3 := Lh (show W2.drew.heap[w.heap.size]? = _ from HX2.out)
 have B3 := Lh (B2.out.drew)
 clear x0 x1 x2 x3 x4 HX2 B2 C1 C2 C3
 generalize W2.drew = W3 at *
 have hz := Lh (heap_alloc_new W3 (.cells #[.string ⟨#[118]⟩, .string ⟨#[dgB s]⟩, .string ⟨#[dgB g]⟩, .string ⟨#[101, 99]⟩] 9))
 have hb := Lh (bel_al W3 (.cells #[.string ⟨#[118]⟩, .string ⟨#[dgB s]⟩, .string ⟨#[dgB g]⟩, .string ⟨#[101, 99]⟩] 9))
 go_wp2_with ((go_at_call 41; refine (join4 _ _ _ _ _ _ _ ⟨#[118, 46, dgB s, 46, dgB g, 46, 101, 99]⟩ hz.out rfl (by show _ ≤ 1000; simp)).mono ?_; rintro e W5 ⟨rfl, hb5⟩; have HX5 := Lh ((hb5.block _ (lt_of_some ((hb.out.block _ (lt_of_some HX3.out)).trans HX3.out))).trans ((hb.out.block _ (lt_of_some HX3.out)).trans HX3.out)); have B5 := Lh ((B3.out.trans (hb.out.mono B3.out.size)).trans (hb5.mono (B3.out.trans (hb.out.mono B3.out.size)).size)); clear hb5; obtain ⟨x0, x1, x2, x3, x4⟩ := bx5 HX5.out))
 refine (itoa_any h (by have := HN.out.2.2; omega) (by have := HN.out.2.2; omega) W5).mono ?_
 rintro e W6 ⟨rfl, rfl⟩
 go_wp2_with fail
 go_ret2
 exact fmO_t HN.out (r := ⟨#[118, 46, dgB s, 46, dgB g, 46, 101, 99, dgB h, 46, 116, 109, 112]⟩) rfl ⟨rfl, B5.out⟩
theorem pformat_any (k s g h : Int) (t : Bool) (w : World) : Calls Tryz.prog 9 #[.agg #[.int .i64 k, .int .i64 s, .int .i64 g, .int .i64 h, .bool t]] w (FmO k s g h t w) := by
 by_cases hn : NameOk k s g h t
 · rcases hn.2.2 with ⟨hk, ht, hh⟩ | ⟨hk, hh⟩ | ⟨hk, hh⟩
   · subst ht hh
     rcases hk with rfl | rfl | rfl
     · exact pfm_1false s g w hn
     · exact pfm_2false s g w hn
     · exact pfm_3false s g w hn
   · subst hk hh
     cases t
     · exact pfm_4false s g w hn
     · exact pfm_4true s g w hn
   · subst hk
     cases t
     · exact pfm_5false s g h w hn
     · exact pfm_5true s g h w hn
 have q0 := heap_alloc_new w (.cells #[.int .i64 k, .int .i64 s, .int .i64 g, .int .i64 h, .bool t] 29)
 have B0 := Lh (bel_al w (.cells #[.int .i64 k, .int .i64 s, .int .i64 g, .int .i64 h, .bool t] 29))
 have HN := Lh hn
 obtain ⟨x0, x1, x2, x3, x4⟩ := bx5 q0
 clear q0 hn
 go_enter Tryz.func9, Tryz.ntmps9
 go_upto_region 1 with fail
 generalize w.alloc (.cells #[.int .i64 k, .int .i64 s, .int .i64 g, .int .i64 h, .bool t] 29) = W1 at *
 go_wp2_with fail
 clear x0 x1 x2 x3 x4
 refine (pvname_any k s g h t W1).mono ?_
 rintro e W2 ⟨rfl, hb⟩
 rw [decide_eq_false HN.out]
 have B2 := Lh (B0.out.trans (hb.mono B0.out.size))
 clear hb B0
 go_wp2_with fail
 go_ret2
 exact fmO_f HN.out ⟨rfl, B2.out⟩
end Go.Proofs.YtbmlpafbdbhaiaaGreatDoor.Gf
