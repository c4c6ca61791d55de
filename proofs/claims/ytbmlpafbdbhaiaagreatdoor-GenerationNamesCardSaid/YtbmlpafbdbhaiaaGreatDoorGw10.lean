/- What is proved here: the program's Parse at every text. -/
import Derived.Test.YtbmlpafbdbhaiaaGreatDoorGw9
namespace Go.Proofs.YtbmlpafbdbhaiaaGreatDoor.Gf
open Go Go.Joins Go.ChangeShapes Go.WideShapes Go.ChangeAt Go.RowKit Go.Deep Go.Proofs.YtbmlpafbdbhaiaaGreatDoor.By Go.Proofs.YtbmlpafbdbhaiaaGreatDoor.Qt Go.Proofs
set_option maxRecDepth 100000
set_option maxHeartbeats 204800000
def chkN (k : Int) (t : Bool) (h : Int) : Bool := (List.range 4).all fun s => (List.range 8).all fun g => decide (gsV (fmtS k (s : Int) ((g + 1 : Nat) : Int) h t) = (k, ((s : Int), (((g + 1 : Nat) : Int), (h, t)))))
theorem chkN_at {k h : Int} {t : Bool} (hc : chkN k t h = true) {s g : Int} (hs : 0 ≤ s ∧ s < 4) (hg : 1 ≤ g ∧ g ≤ 8) : gsV (fmtS k s g h t) = (k, s, g, h, t) := by
  obtain ⟨a, rfl⟩ := Int.eq_ofNat_of_zero_le hs.1
  obtain ⟨b, rfl⟩ : ∃ b : Nat, g = ((b + 1 : Nat) : Int) := ⟨(g - 1).toNat, by omega⟩
  unfold chkN at hc
  have h1 := List.all_eq_true.1 hc a (List.mem_range.2 (by omega))
  have h2 := List.all_eq_true.1 h1 b (List.mem_range.2 (by omega))
  exact of_decide_eq_true h2
theorem chk_1false0 : chkN 1 false 0 = true := by kernel_rfl
theorem chk_2false0 : chkN 2 false 0 = true := by kernel_rfl
theorem chk_3false0 : chkN 3 false 0 = true := by kernel_rfl
theorem chk_4false0 : chkN 4 false 0 = true := by kernel_rfl
theorem chk_4true0 : chkN 4 true 0 = true := by kernel_rfl
theorem chk_5false0 : chkN 5 false 0 = true := by kernel_rfl
theorem chk_5false1 : chkN 5 false 1 = true := by kernel_rfl
theorem chk_5false2 : chkN 5 false 2 = true := by kernel_rfl
theorem chk_5false3 : chkN 5 false 3 = true := by kernel_rfl
theorem chk_5false4 : chkN 5 false 4 = true := by kernel_rfl
theorem chk_5false5 : chkN 5 false 5 = true := by kernel_rfl
theorem chk_5true0 : chkN 5 true 0 = true := by kernel_rfl
theorem chk_5true1 : chkN 5 true 1 = true := by kernel_rfl
theorem chk_5true2 : chkN 5 true 2 = true := by kernel_rfl
theorem chk_5true3 : chkN 5 true 3 = true := by kernel_rfl
theorem chk_5true4 : chkN 5 true 4 = true := by kernel_rfl
theorem chk_5true5 : chkN 5 true 5 = true := by kernel_rfl
/-- guess gives the name of every text that Format writes. -/
theorem gs_all (k s g h : Int) (t : Bool) (hn : NameOk k s g h t) : gsV (fmtS k s g h t) = (k, s, g, h, t) := by
  obtain ⟨hs, hg, hk⟩ := hn
  rcases hk with ⟨hk, rfl, rfl⟩ | ⟨rfl, rfl⟩ | ⟨rfl, h0, h6⟩
  · rcases hk with rfl | rfl | rfl
    · exact chkN_at chk_1false0 hs hg
    · exact chkN_at chk_2false0 hs hg
    · exact chkN_at chk_3false0 hs hg
  · cases t
    · exact chkN_at chk_4false0 hs hg
    · exact chkN_at chk_4true0 hs hg
  · have hc : h = 0 ∨ h = 1 ∨ h = 2 ∨ h = 3 ∨ h = 4 ∨ h = 5 := by omega
    rcases hc with rfl | rfl | rfl | rfl | rfl | rfl <;> cases t
    · exact chkN_at chk_5false0 hs hg
    · exact chkN_at chk_5true0 hs hg
    · exact chkN_at chk_5false1 hs hg
    · exact chkN_at chk_5true1 hs hg
    · exact chkN_at chk_5false2 hs hg
    · exact chkN_at chk_5true2 hs hg
    · exact chkN_at chk_5false3 hs hg
    · exact chkN_at chk_5true3 hs hg
    · exact chkN_at chk_5false4 hs hg
    · exact chkN_at chk_5true4 hs hg
    · exact chkN_at chk_5false5 hs hg
    · exact chkN_at chk_5true5 hs hg
theorem str_ne {a b : ByteArray} (h : a ≠ b) : (a.toList == b.toList) = false := beq_false_of_ne fun e => h (by rw [ByteArray.toList_eq, ByteArray.toList_eq] at e; exact bytes_inj e)
def OkN (x : Int × Int × Int × Int × Bool) : Prop := NameOk x.1 x.2.1 x.2.2.1 x.2.2.2.1 x.2.2.2.2
def fmtV (x : Int × Int × Int × Int × Bool) : ByteArray := fmtS x.1 x.2.1 x.2.2.1 x.2.2.2.1 x.2.2.2.2
theorem gs_fmt {x : Int × Int × Int × Int × Bool} (h : OkN x) : gsV (fmtV x) = x := gs_all _ _ _ _ _ h
/-- What Parse answers. -/
def ParF (s : ByteArray) (x : Int × Int × Int × Int × Bool) (c : Int) : Prop := (OkN x ∧ fmtV x = s ∧ c = 0) ∨ ((∀ y, OkN y → fmtV y ≠ s) ∧ x = zV ∧ c = 3)
theorem parF_one {s : ByteArray} {x y : Int × Int × Int × Int × Bool} {c d : Int} (h : ParF s x c) (h2 : ParF s y d) : x = y ∧ c = d := by
  rcases h with ⟨a1, a2, a3⟩ | ⟨a1, a2, a3⟩ <;> rcases h2 with ⟨b1, b2, b3⟩ | ⟨b1, b2, b3⟩
  · exact ⟨by rw [← gs_fmt a1, ← gs_fmt b1, a2, b2], by rw [a3, b3]⟩
  · exact absurd a2 (b1 x a1)
  · exact absurd b2 (a1 y b1)
  · exact ⟨by rw [a2, b2], by rw [a3, b3]⟩
/-- What is guessed is the name, or there is none. -/
theorem parF_no {s : ByteArray} {x : Int × Int × Int × Int × Bool} (hg : ∀ y, OkN y → fmtV y = s → y = x) (hn : ¬ (OkN x ∧ fmtV x = s)) : ParF s zV 3 := Or.inr ⟨fun y hy he => hn (by have := hg y hy he; subst this; exact ⟨hy, he⟩), rfl, rfl⟩
def ParO (s : ByteArray) (w : World) (e : Ending) (w' : World) : Prop := (∃ x c, e = .returned (.tuple #[nmV x, .int .i64 c]) ∧ ParF s x c) ∧ Below w.heap.size w w'
theorem parO_no {s : ByteArray} {x : Int × Int × Int × Int × Bool} {w w' : World} {e : Ending} (hg : ∀ y, OkN y → fmtV y = s → y = x) (hn : ¬ (OkN x ∧ fmtV x = s)) (q : e = .returned (.tuple #[.agg #[.int .i64 0, .int .i64 0, .int .i64 0, .int .i64 0, .bool false], .int .i64 3]) ∧ Below w.heap.size w w') : ParO s w e w' := ⟨⟨zV, 3, q.1, parF_no hg hn⟩, q.2⟩
theorem pparse_any (s : ByteArray) (hl : s.size ≤ 1000) (w : World) (hw : StrW w) : Calls Tryz.prog 14 #[.string s] w (ParO s w) := by
  have HBX := Lh (heap_alloc_new w (.cells #[.int .i64 0, .int .i64 0, .int .i64 0, .int .i64 0, .bool false] 29))
  have B1 := Lh (bel_al w (.cells #[.int .i64 0, .int .i64 0, .int .i64 0, .int .i64 0, .bool false] 29))
  have HSW := Lh (strW_below hw B1.out)
  have HL := Lh hl
  clear hw hl
  go_enter Tryz.func14, Tryz.ntmps14
  go_upto_region 1 with fail
  generalize w.alloc (.cells #[.int .i64 0, .int .i64 0, .int .i64 0, .int .i64 0, .bool false] 29) = W1 at *
  go_wp2_with fail
  refine (pguess_any s HL.out W1 HSW.out).mono ?_
  rintro e W2 ⟨rfl, hb⟩
  obtain ⟨x, hx⟩ : ∃ x, x = gsV s := ⟨_, rfl⟩
  have HG := Lh (show ∀ y, OkN y → fmtV y = s → y = x from fun y hy he => by rw [hx, ← he, gs_fmt hy])
  rw [← hx]
  clear hx
  obtain ⟨k, sl, g, h, t⟩ := x
  rw [show nmV (k, sl, g, h, t) = .agg #[.int .i64 k, .int .i64 sl, .int .i64 g, .int .i64 h, .bool t] from rfl]
  have HBX2 := Lh ((hb.block _ (lt_of_some HBX.out)).trans HBX.out)
  have B2 := Lh (B1.out.trans (hb.mono B1.out.size))
  have hz := heap_alloc_new W2 (.cells #[.int .i64 0, .int .i64 0, .int .i64 0, .int .i64 0, .bool false] 29)
  clear hb HBX B1 HSW
  go_upto_region 2 with ((with_reducible refine storeNm W2.heap.size _ #[.int .i64 k, .int .i64 sl, .int .i64 g, .int .i64 h, .bool t] ?_ ?_ hz rfl rfl (n5_one k sl g h t) ?_); exact rfl; exact rfl)
  rw [World.setRow_alloc_new]
  have hb := bel_al W2 (.cells #[.int .i64 k, .int .i64 sl, .int .i64 g, .int .i64 h, .bool t] 29)
  have HX3 := Lh (heap_alloc_new W2 (.cells #[.int .i64 k, .int .i64 sl, .int .i64 g, .int .i64 h, .bool t] 29))
  have HBX3 := Lh ((hb.block _ (lt_of_some HBX2.out)).trans HBX2.out)
  have B3 := Lh (B2.out.trans (hb.mono B2.out.size))
  clear hb hz HBX2 B2
  generalize W2.alloc (.cells #[.int .i64 k, .int .i64 sl, .int .i64 g, .int .i64 h, .bool t] 29) = W3 at *
  generalize W2.heap.size = gx at *
  obtain ⟨x0, x1, x2, x3, x4⟩ := bx5 HX3.out
  go_wp2_with fail
  clear x0 x1 x2 x3 x4
  refine (pformat_any k sl g h t W3).mono ?_
  rintro e W4 ⟨rfl, hb⟩
  have HX4 := Lh ((hb.block _ (lt_of_some HX3.out)).trans HX3.out)
  have HBX4 := Lh ((hb.block _ (lt_of_some HBX3.out)).trans HBX3.out)
  have B4 := Lh (B3.out.trans (hb.mono B3.out.size))
  clear hb HBX3 B3 HX3
  by_cases hn : NameOk k sl g h t
  case neg =>
    rw [if_neg hn, if_neg hn]
    have HNO := Lh (show ¬ (OkN (k, sl, g, h, t) ∧ fmtV (k, sl, g, h, t) = s) from fun q => hn q.1)
    clear hn
    go_wp2_with ((with_reducible refine storeNm w.heap.size _ #[.int .i64 0, .int .i64 0, .int .i64 0, .int .i64 0, .bool false] ?_ ?_ HBX4.out rfl rfl z5_one ?_); exact rfl; exact rfl)
    refine bodyPost_ret (results_rt (S := 29) rfl _ _ w.heap.size #[.int .i64 0, .int .i64 0, .int .i64 0, .int .i64 0, .bool false] rfl (setRow_heap _ _ _ _ _ _ HBX4.out) Tryz.underlying29 rfl infoN5) rfl ?_
    exact parO_no HG.out HNO.out ⟨rfl, below_setRowM B4.out (Nat.le_refl _) _⟩
  rw [if_pos hn, if_pos hn]
  have HOK := Lh hn
  clear hn
  obtain ⟨r, hr⟩ : ∃ r, r = fmtS k sl g h t := ⟨_, rfl⟩
  rw [← hr]
  by_cases he : r = s
  case neg =>
    have HNO := Lh (show ¬ (OkN (k, sl, g, h, t) ∧ fmtV (k, sl, g, h, t) = s) from fun q => he (hr.trans q.2))
    have d1 : (r.toList == s.toList) = false := str_ne he
    clear he hr
    go_wp2_with ((with_reducible refine storeNm w.heap.size _ #[.int .i64 0, .int .i64 0, .int .i64 0, .int .i64 0, .bool false] ?_ ?_ HBX4.out rfl rfl z5_one ?_); exact rfl; exact rfl)
    refine bodyPost_ret (results_rt (S := 29) rfl _ _ w.heap.size #[.int .i64 0, .int .i64 0, .int .i64 0, .int .i64 0, .bool false] rfl (setRow_heap _ _ _ _ _ _ HBX4.out) Tryz.underlying29 rfl infoN5) rfl ?_
    exact parO_no HG.out HNO.out ⟨rfl, below_setRowM B4.out (Nat.le_refl _) _⟩
  have HE := Lh (show fmtV (k, sl, g, h, t) = s from hr.symm.trans he)
  subst he
  clear hr
  have d1 : (r.toList == r.toList) = true := beq_self_eq_true _
  obtain ⟨x0, x1, x2, x3, x4⟩ := bx5 HX4.out
  go_wp2_with ((with_reducible refine storeNm w.heap.size _ #[.int .i64 k, .int .i64 sl, .int .i64 g, .int .i64 h, .bool t] ?_ ?_ HBX4.out rfl rfl (n5_one k sl g h t) ?_); exact rfl; exact rfl)
  refine bodyPost_ret (results_rt (S := 29) rfl _ _ w.heap.size #[.int .i64 k, .int .i64 sl, .int .i64 g, .int .i64 h, .bool t] rfl (setRow_heap _ _ _ _ _ _ HBX4.out) Tryz.underlying29 rfl infoN5) rfl ?_
  exact ⟨⟨(k, sl, g, h, t), 0, rfl, Or.inl ⟨HOK.out, HE.out, rfl⟩⟩, below_setRowM B4.out (Nat.le_refl _) _⟩
end Go.Proofs.YtbmlpafbdbhaiaaGreatDoor.Gf
