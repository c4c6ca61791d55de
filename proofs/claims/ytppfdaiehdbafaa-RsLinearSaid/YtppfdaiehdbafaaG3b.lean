/- What is proved here: the contracts of the program's Identity and Vandermonde. No condition. -/
import Derived.Test.YtppfdaiehdbafaaG3
import Derived.Test.YtppfdaiehdbafaaTc
namespace Go.Proofs.Ytppfdaiehdbafaa.Gf
open Go Go.ChangeShapes Go.WideShapes Go.ChangeAt Go.RowKit Go.Proofs.Ytppfdaiehdbafaa.By Go.Proofs.Ytppfdaiehdbafaa.Qt

/-- A matrix that is filled in place: the result's block gr, the variable's block gv, its elements' block g. -/
structure PF (w wr : World) (gr gv g : Nat) (r c : Int) (q : Nat) (l : List Nat) : Prop where
  zero : wr.heap[gr]? = some (.cells #[.int .i64 0, .int .i64 0, .slice none 0 0] 24 (0, 0))
  row : wr.heap[gv]? = some (.cells #[.int .i64 r, .int .i64 c, .slice (some ⟨g, 0, none⟩) q q] 24 (0, 0))
  own : Own wr w.heap.size (.slice (some ⟨g, 0, none⟩) q q) l
  lo : w.heap.size ≤ gr ∧ w.heap.size ≤ g ∧ w.heap.size ≤ gv ∧ gr ≠ g ∧ gv ≠ g ∧ gr ≠ gv
  bel : Below w.heap.size w wr
section
variable {w wr w' : World} {gr gv g q k x : Nat} {r c : Int} {l : List Nat}
theorem PF.cells (h : PF w wr gr gv g r c q l) : wr.cell? ⟨gv, 0, none⟩ = some (.int .i64 r) ∧ wr.cell? ⟨gv, 1, none⟩ = some (.int .i64 c) ∧ wr.cell? ⟨gv, 2, none⟩ = some (.slice (some ⟨g, 0, none⟩) q q) := row_cells h.row
theorem PF.set (h : PF w wr gr gv g r c q l) (hl : l.length = q) (hk : k < q) (hx : x < 256) : PF w (wr.setCell ⟨g, k, none⟩ (.int .u8 (x : Int))) gr gv g r c q (l.set k x) := by
  obtain ⟨h1, h2, h3, h4, h5, h6⟩ := h.lo
  exact ⟨(heap_setCell_other _ _ _ _ h4).trans h.zero, (heap_setCell_other _ _ _ _ h5).trans h.row, own_set h.own hl hk hx, h.lo, h.bel.setCell h2 _⟩
theorem lt_of_some {w : World} {k : Nat} {o : Obj} (h : w.heap[k]? = some o) : k < w.heap.size := (Array.getElem?_eq_some_iff.1 h).1
theorem PF.later (h : PF w wr gr gv g r c q l) (hb : Below wr.heap.size wr w') : PF w w' gr gv g r c q l :=
  ⟨(hb.block _ (lt_of_some h.zero)).trans h.zero, (hb.block _ (lt_of_some h.row)).trans h.row, own_below' h.own hb, h.lo, bt h.bel hb⟩
theorem PF.done (h : PF w wr gr gv g r c q l) (a b : Value) : Own (wr.setRow gr #[a, b, .slice (some ⟨g, 0, none⟩) q q]) w.heap.size (.slice (some ⟨g, 0, none⟩) q q) l ∧ Below w.heap.size w (wr.setRow gr #[a, b, .slice (some ⟨g, 0, none⟩) q q]) := by
  obtain ⟨h1, h2, h3, h4, h5, h6⟩ := h.lo
  exact ⟨own_keep h.own fun k hk => setRow_other _ _ _ _ (by
    obtain rfl : g = k := Option.some.inj hk
    omega), below_setRow h.bel h1 _⟩
theorem PF.start {w0 w1 : World} {r c : Nat} {l : List Nat} (h0 : w0 = w.alloc (.cells #[.int .i64 0, .int .i64 0, .slice none 0 0] 24)) (hb : Below w0.heap.size w0 w1) (ho : Own w1 w0.heap.size (.slice (some ⟨g, 0, none⟩) q q) l) :
    PF w (w1.alloc (.cells #[.int .i64 r, .int .i64 c, .slice (some ⟨g, 0, none⟩) q q] 24)) w.heap.size w1.heap.size g r c q l := by
  have hz : w0.heap.size = w.heap.size + 1 := by rw [h0]; simp
  have hg := ho.2.lt g rfl
  have hs := hb.size
  have hb0 : Below w.heap.size w w0 := by rw [h0]; exact (Below.refl _ _).alloc (Nat.le_refl _) _
  refine ⟨?_, heap_alloc_new _ _, own_base (by omega) (ho.alloc _), by omega, (bt hb0 hb).alloc (by omega) _⟩
  rw [heap_alloc_old _ _ (by omega), hb.block _ (by omega), h0, heap_alloc_new]
end
end Go.Proofs.Ytppfdaiehdbafaa.Gf
