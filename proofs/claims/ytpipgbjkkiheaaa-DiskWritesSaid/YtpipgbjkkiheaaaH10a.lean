/- What is proved here: the contract of the laws' cut (disk). No condition. -/
import Derived.Test.YtpipgbjkkiheaaaK10H
namespace Go.Proofs.Ytpipgbjkkiheaaa.Gf
open Go Go.Joins Go.ChangeShapes Go.WideShapes Go.ChangeAt Go.RowKit Go.Deep Go.Proofs.Ytpipgbjkkiheaaa.By Go.Proofs.Ytpipgbjkkiheaaa.Qt

theorem infoOp : (Try.prog.info? 67).map (·.size) = some 6 := by kernel_rfl
theorem box6c {w : World} {g : Nat} {a b c d e f : Value} {T : TypeId} {fr : Nat × Nat} (h : w.heap[g]? = some (.cells #[a, b, c, d, e, f] T fr)) : w.cell? ⟨g, 0, none⟩ = some a ∧ w.cell? ⟨g, 1, none⟩ = some b ∧ w.cell? ⟨g, 2, none⟩ = some c ∧ w.cell? ⟨g, 3, none⟩ = some d ∧ w.cell? ⟨g, 4, none⟩ = some e ∧ w.cell? ⟨g, 5, none⟩ = some f :=
  ⟨cell_of_row w g 0 _ _ _ h, cell_of_row w g 1 _ _ _ h, cell_of_row w g 2 _ _ _ h, cell_of_row w g 3 _ _ _ h, cell_of_row w g 4 _ _ _ h, cell_of_row w g 5 _ _ _ h⟩
theorem set6c {W : World} {g : Nat} {a b c d e f k l m n o p : Value} {T : TypeId} (h : W.heap[g]? = some (.cells #[a, b, c, d, e, f] T (0, 0))) : ((((((W.setCell ⟨g, 0, none⟩ k).setCell ⟨g, 1, none⟩ l).setCell ⟨g, 2, none⟩ m).setCell ⟨g, 3, none⟩ n).setCell ⟨g, 4, none⟩ o).setCell ⟨g, 5, none⟩ p).heap[g]? = some (.cells #[k, l, m, n, o, p] T (0, 0)) := by
  have h1 := heap_setCell_same W g 0 _ _ k h
  have h2 := heap_setCell_same _ g 1 _ _ l h1
  have h3 := heap_setCell_same _ g 2 _ _ m h2
  have h4 := heap_setCell_same _ g 3 _ _ n h3
  have h5 := heap_setCell_same _ g 4 _ _ o h4
  have h6 := heap_setCell_same _ g 5 _ _ p h5
  simpa using h6
theorem below_set6 {w W : World} {g : Nat} {k l m n o p : Value} (h : Below w.heap.size w W) (hg : w.heap.size ≤ g) : Below w.heap.size w ((((((W.setCell ⟨g, 0, none⟩ k).setCell ⟨g, 1, none⟩ l).setCell ⟨g, 2, none⟩ m).setCell ⟨g, 3, none⟩ n).setCell ⟨g, 4, none⟩ o).setCell ⟨g, 5, none⟩ p) :=
  (((((h.setCell (p := ⟨g, 0, none⟩) hg k).setCell (p := ⟨g, 1, none⟩) hg l).setCell (p := ⟨g, 2, none⟩) hg m).setCell (p := ⟨g, 3, none⟩) hg n).setCell (p := ⟨g, 4, none⟩) hg o).setCell (p := ⟨g, 5, none⟩) hg p
set_option maxRecDepth 100000 in
set_option maxHeartbeats 6400000 in
theorem cut10_any (k : Int) (nm to : ByteArray) (off : Int) (ad ak : Option Addr) (nd cd nk ck : Nat) (hd : nd ≤ cd) (hk : nk ≤ ck) (w : World) : Calls Try.prog 35 #[.agg #[.int .i64 k, .string nm, .string to, .int .i64 off, .slice ad nd cd, .slice ak nk ck]] w fun e w' => e = .returned (.agg #[.int .i64 k, .string nm, .string to, .int .i64 off, .slice ad (min nd 200) cd, .slice ak (min nk 10) ck]) ∧ Below w.heap.size w w' := by
  have A1 := bel_al0 w (.cells #[.int .i64 k, .string nm, .string to, .int .i64 off, .slice ad nd cd, .slice ak nk ck] 67)
  have BX := Lib.hid (btA A1 (bel_al0 _ (.cells #[.int .i64 0, .string ⟨#[]⟩, .string ⟨#[]⟩, .int .i64 0, .slice none 0 0, .slice none 0 0] 67)))
  have HX := Lib.hid (show ((w.alloc (.cells #[.int .i64 k, .string nm, .string to, .int .i64 off, .slice ad nd cd, .slice ak nk ck] 67)).alloc (.cells #[.int .i64 0, .string ⟨#[]⟩, .string ⟨#[]⟩, .int .i64 0, .slice none 0 0, .slice none 0 0] 67)).heap[w.heap.size]? = some (.cells #[.int .i64 k, .string nm, .string to, .int .i64 off, .slice ad nd cd, .slice ak nk ck] 67 (0, 0)) from (al_old (by simp)).trans (heap_alloc_new w _))
  have HY := Lib.hid (heap_alloc2_new w (.cells #[.int .i64 k, .string nm, .string to, .int .i64 off, .slice ad nd cd, .slice ak nk ck] 67) (.cells #[.int .i64 0, .string ⟨#[]⟩, .string ⟨#[]⟩, .int .i64 0, .slice none 0 0, .slice none 0 0] 67))
  have HD := Lib.hid (And.intro hd hk)
  clear A1 hd hk
  go_enter Try.func35, Try.ntmps35
  go_upto_region 1 with fail
  generalize ((w.alloc (.cells #[.int .i64 k, .string nm, .string to, .int .i64 off, .slice ad nd cd, .slice ak nk ck] 67)).alloc (.cells #[.int .i64 0, .string ⟨#[]⟩, .string ⟨#[]⟩, .int .i64 0, .slice none 0 0, .slice none 0 0] 67)) = W1 at *
  by_cases h1 : 200 < nd
  · have e1 : decide ((200 : Int) < (nd : Int)) = true := decide_eq_true (by omega)
    have e2 : decide (200 < nd) = true := decide_eq_true h1
    have l1 : 200 ≤ cd := by have := HD.out.1; omega
    have l2 : (200 : Int) ≤ (cd : Int) := by omega
    obtain ⟨x0, x1, x2, x3, x4, x5⟩ := box6c HX.out
    have HX4 := Lib.hid (show (W1.setCell ⟨w.heap.size, 4, none⟩ (.slice ad 200 cd)).heap[w.heap.size]? = some (.cells #[.int .i64 k, .string nm, .string to, .int .i64 off, .slice ad 200 cd, .slice ak nk ck] 67 (0, 0)) from (by simpa using heap_setCell_same W1 w.heap.size 4 _ _ (.slice ad 200 cd) HX.out))
    have HY4 := Lib.hid ((other1 (W := W1) (g := w.heap.size) (o := 4) (v := (.slice ad 200 cd)) (by omega : w.heap.size + 1 ≠ w.heap.size)).trans HY.out)
    have B4 := Lib.hid (BX.out.setCell (p := ⟨w.heap.size, 4, none⟩) (Nat.le_refl _) (.slice ad 200 cd))
    have xf := frozen_of_row W1 w.heap.size 4 _ _ HX.out
    go_upto_region 3 with fail
    clear x0 x1 x2 x3 x4 x5 xf
    generalize W1.setCell ⟨w.heap.size, 4, none⟩ (.slice ad 200 cd) = W4 at *
    by_cases h2 : 10 < nk
    · have e3 : decide ((10 : Int) < (nk : Int)) = true := decide_eq_true (by omega)
      have e4 : decide (10 < nk) = true := decide_eq_true h2
      have l3 : 10 ≤ ck := by have := HD.out.2; omega
      have l4 : (10 : Int) ≤ (ck : Int) := by omega
      obtain ⟨x0, x1, x2, x3, x4, x5⟩ := box6c HX4.out
      have HX5 := Lib.hid (show (W4.setCell ⟨w.heap.size, 5, none⟩ (.slice ak 10 ck)).heap[w.heap.size]? = some (.cells #[.int .i64 k, .string nm, .string to, .int .i64 off, .slice ad 200 cd, .slice ak 10 ck] 67 (0, 0)) from (by simpa using heap_setCell_same W4 w.heap.size 5 _ _ (.slice ak 10 ck) HX4.out))
      have HY5 := Lib.hid ((other1 (W := W4) (g := w.heap.size) (o := 5) (v := (.slice ak 10 ck)) (by omega : w.heap.size + 1 ≠ w.heap.size)).trans HY4.out)
      have B5 := Lib.hid (B4.out.setCell (p := ⟨w.heap.size, 5, none⟩) (Nat.le_refl _) (.slice ak 10 ck))
      have xf := frozen_of_row W4 w.heap.size 5 _ _ HX4.out
      go_upto_region 5 with fail
      clear x0 x1 x2 x3 x4 x5 xf
      generalize W4.setCell ⟨w.heap.size, 5, none⟩ (.slice ak 10 ck) = W5 at *
      obtain ⟨x0, x1, x2, x3, x4, x5⟩ := box6c HX5.out
      obtain ⟨y0, y1, y2, y3, y4, y5⟩ := box6c HY5.out
      have u0 := frozen_of_row W5 (w.heap.size + 1) 0 _ _ HY5.out
      have u1 := frozen_of_row W5 (w.heap.size + 1) 1 _ _ HY5.out
      have u2 := frozen_of_row W5 (w.heap.size + 1) 2 _ _ HY5.out
      have u3 := frozen_of_row W5 (w.heap.size + 1) 3 _ _ HY5.out
      have u4 := frozen_of_row W5 (w.heap.size + 1) 4 _ _ HY5.out
      have u5 := frozen_of_row W5 (w.heap.size + 1) 5 _ _ HY5.out
      go_wp2
      refine bodyPost_ret (results_cell_row Try.results35 _ _ (w.heap.size + 1) 67 _ (0, 0) _ rfl (set6c HY5.out) Try.underlying67 rfl infoOp) rfl ?_
      exact ⟨by rw [show min nd 200 = 200 by omega, show min nk 10 = 10 by omega], below_set6 B5.out (by omega)⟩
    · have e3 : decide ((10 : Int) < (nk : Int)) = false := decide_eq_false (by omega)
      have e4 : decide (10 < nk) = false := decide_eq_false h2
      obtain ⟨x0, x1, x2, x3, x4, x5⟩ := box6c HX4.out
      obtain ⟨y0, y1, y2, y3, y4, y5⟩ := box6c HY4.out
      have u0 := frozen_of_row W4 (w.heap.size + 1) 0 _ _ HY4.out
      have u1 := frozen_of_row W4 (w.heap.size + 1) 1 _ _ HY4.out
      have u2 := frozen_of_row W4 (w.heap.size + 1) 2 _ _ HY4.out
      have u3 := frozen_of_row W4 (w.heap.size + 1) 3 _ _ HY4.out
      have u4 := frozen_of_row W4 (w.heap.size + 1) 4 _ _ HY4.out
      have u5 := frozen_of_row W4 (w.heap.size + 1) 5 _ _ HY4.out
      go_wp2
      refine bodyPost_ret (results_cell_row Try.results35 _ _ (w.heap.size + 1) 67 _ (0, 0) _ rfl (set6c HY4.out) Try.underlying67 rfl infoOp) rfl ?_
      exact ⟨by rw [show min nd 200 = 200 by omega, show min nk 10 = nk by omega], below_set6 B4.out (by omega)⟩
  · have e1 : decide ((200 : Int) < (nd : Int)) = false := decide_eq_false (by omega)
    have e2 : decide (200 < nd) = false := decide_eq_false h1
    by_cases h2 : 10 < nk
    · have e3 : decide ((10 : Int) < (nk : Int)) = true := decide_eq_true (by omega)
      have e4 : decide (10 < nk) = true := decide_eq_true h2
      have l3 : 10 ≤ ck := by have := HD.out.2; omega
      have l4 : (10 : Int) ≤ (ck : Int) := by omega
      obtain ⟨x0, x1, x2, x3, x4, x5⟩ := box6c HX.out
      have HX5 := Lib.hid (show (W1.setCell ⟨w.heap.size, 5, none⟩ (.slice ak 10 ck)).heap[w.heap.size]? = some (.cells #[.int .i64 k, .string nm, .string to, .int .i64 off, .slice ad nd cd, .slice ak 10 ck] 67 (0, 0)) from (by simpa using heap_setCell_same W1 w.heap.size 5 _ _ (.slice ak 10 ck) HX.out))
      have HY5 := Lib.hid ((other1 (W := W1) (g := w.heap.size) (o := 5) (v := (.slice ak 10 ck)) (by omega : w.heap.size + 1 ≠ w.heap.size)).trans HY.out)
      have B5 := Lib.hid (BX.out.setCell (p := ⟨w.heap.size, 5, none⟩) (Nat.le_refl _) (.slice ak 10 ck))
      have xf := frozen_of_row W1 w.heap.size 5 _ _ HX.out
      go_upto_region 5 with fail
      clear x0 x1 x2 x3 x4 x5 xf
      generalize W1.setCell ⟨w.heap.size, 5, none⟩ (.slice ak 10 ck) = W5 at *
      obtain ⟨x0, x1, x2, x3, x4, x5⟩ := box6c HX5.out
      obtain ⟨y0, y1, y2, y3, y4, y5⟩ := box6c HY5.out
      have u0 := frozen_of_row W5 (w.heap.size + 1) 0 _ _ HY5.out
      have u1 := frozen_of_row W5 (w.heap.size + 1) 1 _ _ HY5.out
      have u2 := frozen_of_row W5 (w.heap.size + 1) 2 _ _ HY5.out
      have u3 := frozen_of_row W5 (w.heap.size + 1) 3 _ _ HY5.out
      have u4 := frozen_of_row W5 (w.heap.size + 1) 4 _ _ HY5.out
      have u5 := frozen_of_row W5 (w.heap.size + 1) 5 _ _ HY5.out
      go_wp2
      refine bodyPost_ret (results_cell_row Try.results35 _ _ (w.heap.size + 1) 67 _ (0, 0) _ rfl (set6c HY5.out) Try.underlying67 rfl infoOp) rfl ?_
      exact ⟨by rw [show min nd 200 = nd by omega, show min nk 10 = 10 by omega], below_set6 B5.out (by omega)⟩
    · have e3 : decide ((10 : Int) < (nk : Int)) = false := decide_eq_false (by omega)
      have e4 : decide (10 < nk) = false := decide_eq_false h2
      obtain ⟨x0, x1, x2, x3, x4, x5⟩ := box6c HX.out
      obtain ⟨y0, y1, y2, y3, y4, y5⟩ := box6c HY.out
      have u0 := frozen_of_row W1 (w.heap.size + 1) 0 _ _ HY.out
      have u1 := frozen_of_row W1 (w.heap.size + 1) 1 _ _ HY.out
      have u2 := frozen_of_row W1 (w.heap.size + 1) 2 _ _ HY.out
      have u3 := frozen_of_row W1 (w.heap.size + 1) 3 _ _ HY.out
      have u4 := frozen_of_row W1 (w.heap.size + 1) 4 _ _ HY.out
      have u5 := frozen_of_row W1 (w.heap.size + 1) 5 _ _ HY.out
      go_wp2
      refine bodyPost_ret (results_cell_row Try.results35 _ _ (w.heap.size + 1) 67 _ (0, 0) _ rfl (set6c HY.out) Try.underlying67 rfl infoOp) rfl ?_
      exact ⟨by rw [show min nd 200 = nd by omega, show min nk 10 = nk by omega], below_set6 BX.out (by omega)⟩
end Go.Proofs.Ytpipgbjkkiheaaa.Gf
