/- What is proved here: rows of bytes in memory of a call's own; the contract of the program's withIdentity. No condition. -/
import Derived.Test.YtppfdaiehdbafaaG4b
namespace Go.Proofs.Ytppfdaiehdbafaa.Gf
open Go Go.ChangeShapes Go.WideShapes Go.ChangeAt Go.RowKit Go.Sort Go.Proofs.Ytppfdaiehdbafaa.By Go.Proofs.Ytppfdaiehdbafaa.Qt

/-- A list of n rows of bytes in the block G. -/
structure Rw (wr : World) (base G n : Nat) (vs : List Value) (L : List (List Nat)) : Prop where
  blk : wr.heap[G]? = some (.cells vs.toArray 22 (0, 0))
  vlen : vs.length = n
  llen : L.length = n
  lo : base ≤ G
  rows : ∀ k, k < n → Own wr base (vs.getD k undef) (L.getD k [])
section
variable {wr w' : World} {base G n k : Nat} {vs : List Value} {L : List (List Nat)} {x : Value} {l : List Nat}
theorem Rw.lt (h : Rw wr base G n vs L) : G < wr.heap.size := lt_of_some h.blk
theorem Rw.later (h : Rw wr base G n vs L) (hb : Below wr.heap.size wr w') : Rw w' base G n vs L :=
  ⟨(hb.block _ h.lt).trans h.blk, h.vlen, h.llen, h.lo, fun k hk => own_below' (h.rows k hk) hb⟩
theorem Rw.cell (h : Rw wr base G n vs L) (hk : k < n) : wr.cell? ⟨G, k, none⟩ = some (vs.getD k undef) ∧ wr.frozen? ⟨G, k, none⟩ = false := by
  have hv := h.vlen
  refine ⟨?_, frozen_of_row _ _ _ _ _ h.blk⟩
  rw [cell_of_row _ _ _ _ _ _ h.blk]
  simp [List.getD, show k < vs.length by omega]
theorem Rw.sr (h : Rw wr base G n vs L) (hn : n ≤ maxLen) : Sr wr (.slice (some ⟨G, 0, none⟩) n n) L := by
  have hl := h.llen
  refine ⟨by omega, Or.inr ⟨G, 0, n, by rw [hl], by omega, hn, fun k hk => ⟨vs.getD k undef, ?_, (h.rows k (by omega)).sl⟩⟩⟩
  rw [Nat.zero_add]
  exact (h.cell (by omega)).1
theorem own_block_ne (hx : Own wr base x l) (hg : wr.heap[G]? = some (.cells vs.toArray 22 (0, 0))) : ∀ k, x.ownBlock = some k → k ≠ G := by
  intro k hk e
  subst e
  obtain ⟨_, _, ⟨rfl, _⟩ | ⟨q, _, cq, rfl, _, hq, _⟩⟩ := hx
  · cases hk
  · cases hk
    rw [hg] at hq
    simp at hq
theorem getD_set_eq {α : Type} {l : List α} {k : Nat} {x d : α} (hk : k < l.length) : (l.set k x).getD k d = x := by simp [List.getD, hk]
theorem getD_set_other {α : Type} {l : List α} {k j : Nat} {x d : α} (h : j ≠ k) : (l.set k x).getD j d = l.getD j d := by
  simp only [List.getD, List.getElem?_set_ne (Ne.symm h)]
theorem Rw.set (h : Rw wr base G n vs L) (hk : k < n) (hx : Own wr base x l) : Rw (wr.setCell ⟨G, k, none⟩ x) base G n (vs.set k x) (L.set k l) := by
  have hv := h.vlen
  have hl := h.llen
  refine ⟨?_, by simpa using hv, by simpa using hl, h.lo, fun j hj => ?_⟩
  · have := heap_setCell_same wr G k _ 22 x h.blk
    rw [this]
    simp
  · by_cases e : j = k
    · subst e
      rw [getD_set_eq (by omega), getD_set_eq (by omega)]
      exact own_keep hx fun q hq => heap_setCell_other _ _ _ _ (own_block_ne hx h.blk q hq)
    · rw [getD_set_other e, getD_set_other e]
      exact own_keep (h.rows j hj) fun q hq => heap_setCell_other _ _ _ _ (own_block_ne (h.rows j hj) h.blk q hq)
end
/-- One row is being made: x stands in the list, y is what has been made of it. -/
structure Wk (W w' : World) (G k : Nat) (vs : List Value) (x y : Value) (l : List Nat) : Prop where
  os : w'.os = W.os
  tape : w'.tape = W.tape
  output : w'.output = W.output
  size : W.heap.size ≤ w'.heap.size
  keep : ∀ b, b < W.heap.size → b ≠ G → w'.heap[b]? = W.heap[b]?
  blk : w'.heap[G]? = some (.cells (vs.set k x).toArray 22 (0, 0))
  own : Own w' W.heap.size y l
  lt : G < W.heap.size
section
variable {W w' w'' : World} {G k n : Nat} {vs : List Value} {x y z : Value} {l m : List Nat} {L : List (List Nat)} {base : Nat}
theorem Wk.later (h : Wk W w' G k vs x y l) (hb : Below w'.heap.size w' w'') : Wk W w'' G k vs x y l :=
  ⟨hb.os.trans h.os, hb.tape.trans h.tape, hb.output.trans h.output, Nat.le_trans h.size hb.size, fun b hbl hne => (hb.block b (Nat.lt_of_lt_of_le hbl h.size)).trans (h.keep b hbl hne), (hb.block _ (lt_of_some h.blk)).trans h.blk, own_below' h.own hb, h.lt⟩
theorem Wk.grow (h : Wk W w' G k vs x y l) (hg : w'.grownBy w'' y.ownBlock) (ho : Own w'' W.heap.size z m) : Wk W w'' G k vs x z m :=
  ⟨hg.os.trans h.os, hg.tape.trans h.tape, hg.output.trans h.output, Nat.le_trans h.size hg.size, fun b hbl hne => (hg.block b (Nat.lt_of_lt_of_le hbl h.size) (fun e => by have := h.own.lt b e.symm; omega)).trans (h.keep b hbl hne), (hg.block _ (lt_of_some h.blk) (fun e => by have := h.own.lt G e.symm; have := h.lt; omega)).trans h.blk, ho, h.lt⟩
theorem Wk.cell (h : Wk W w' G k vs x y l) (hk : k < vs.length) : w'.cell? ⟨G, k, none⟩ = some x ∧ w'.frozen? ⟨G, k, none⟩ = false := by
  refine ⟨?_, frozen_of_row _ _ _ _ _ h.blk⟩
  rw [cell_of_row _ _ _ _ _ _ h.blk]
  simp [hk]
theorem Wk.store (h : Wk W w' G k vs x y l) : Wk W (w'.setCell ⟨G, k, none⟩ y) G k vs y y l := by
  have h1 := h.lt
  refine ⟨by rw [← h.os]; rfl, by rw [← h.tape]; rfl, by rw [← h.output]; rfl, by simpa using h.size, fun b hbl hne => (heap_setCell_other _ _ _ _ hne).trans (h.keep b hbl hne), ?_, own_keep h.own fun q hq => heap_setCell_other _ _ _ _ (show q ≠ G by have := h.own.lt q hq; omega), h1⟩
  rw [heap_setCell_same w' G k _ 22 y h.blk]
  simp
theorem Wk.poke {g c q z N : Nat} (h : Wk W w' G k vs x (.slice (some ⟨g, 0, none⟩) N c) l) (hl : l.length = N) (hq : q < N) (hz : z < 256) : Wk W (w'.setCell ⟨g, q, none⟩ (.int .u8 (z : Int))) G k vs x (.slice (some ⟨g, 0, none⟩) N c) (l.set q z) := by
  have h1 := h.lt
  have hg := h.own.lt g rfl
  exact ⟨by rw [← h.os]; rfl, by rw [← h.tape]; rfl, by rw [← h.output]; rfl, by simpa using h.size, fun b hbl hne => (heap_setCell_other _ _ _ _ (show b ≠ g by omega)).trans (h.keep b hbl hne), (heap_setCell_other _ _ _ _ (show G ≠ g by omega)).trans h.blk, own_set h.own hl hq hz, h1⟩
theorem Wk.start (h : Rw W base G n vs L) (hk : k < n) (hx : vs.getD k undef = x) : Wk W W G k vs x (.slice none 0 0) [] := by
  have hv := h.vlen
  refine ⟨rfl, rfl, rfl, Nat.le_refl _, fun _ _ _ => rfl, ?_, own_nil _ _, h.lt⟩
  have e : vs.set k x = vs := by
    apply List.ext_getElem?
    intro i
    by_cases e : i = k
    · subst e
      rw [List.getElem?_set_self (by omega), ← hx]
      simp [List.getD, show i < vs.length by omega]
    · rw [List.getElem?_set_ne (Ne.symm e)]
  rw [e]
  exact h.blk
theorem Wk.done (h : Wk W w' G k vs y y l) (h0 : Rw W base G n vs L) (hk : k < n) (hb : base ≤ W.heap.size) : Rw w' base G n (vs.set k y) (L.set k l) := by
  have hv := h0.vlen
  have hl := h0.llen
  refine ⟨h.blk, by simpa using hv, by simpa using hl, h0.lo, fun j hj => ?_⟩
  by_cases e : j = k
  · subst e
    rw [getD_set_eq (by omega), getD_set_eq (by omega)]
    exact own_base hb h.own
  · rw [getD_set_other e, getD_set_other e]
    exact own_keep (h0.rows j hj) fun q hq => h.keep q ((h0.rows j hj).2.lt q hq).2 (own_block_ne (h0.rows j hj) h0.blk q hq)
theorem Wk.below (h : Wk W w' G k vs x y l) {w : World} (hw : Below w.heap.size w W) (hg : w.heap.size ≤ G) : Below w.heap.size w w' :=
  ⟨h.os.trans hw.os, h.tape.trans hw.tape, h.output.trans hw.output, Nat.le_trans hw.size h.size, fun b hb => (h.keep b (Nat.lt_of_lt_of_le hb hw.size) (by omega)).trans (hw.block b hb)⟩
end
set_option maxRecDepth 100000 in
/-- make([][]byte, n). -/
theorem make_rows {ops : Array Oper} {rest : List Oper} {dst : Option Tmp} {x : Operand} {pos : String} {after : Array Edge} {ty : TypeId} {a : Act} {W : World} {Q : Exit → Act → World → Prop} {n : Nat}
    (hx : a.eval x = .int .i64 (n : Int)) (hn : n ≤ 1000000)
    (h : wpList Try.prog ops Q rest (a.put dst (.slice (some ⟨W.heap.size, 0, none⟩) n n)) (W.alloc (.cells (Array.replicate n (.slice none 0 0)) 22))) : wpList Try.prog ops Q (⟨dst, .makeSlice 35 x x, ty, pos, after, none⟩ :: rest) a W := by
  refine wpList_plain rfl fun K hK => ?_
  obtain ⟨i, hi, hz0, hz1, hz2⟩ := info_parts infoS
  have hr := run_make (P := Try.prog) W 35 22 i (.slice none 0 0) Try.underlying35 hi hz0 .i64 .i64 (n : Int) (n : Int) (by omega) (Int.le_refl _) (by rw [hz2]; omega) (by omega)
  simp only [Int.toNat_natCast, hz1, Nat.mul_one] at hr
  have hc : madeCells (Value.slice none 0 0).cells n = Array.replicate n (.slice none 0 0) := by
    apply Array.ext'
    rw [show (Value.slice none 0 0).cells = #[Value.slice none 0 0] from rfl, toList_madeCells_one]
    simp
  rw [hc] at hr
  unfold Oper.wp execOp
  simp only [hx, Sem.run_bind, Sem.run_pure, hr, Result.andThen_ok]
  exact hK _ _ h
theorem rw_made (w : World) {base n : Nat} (hb : base ≤ w.heap.size) : Rw (w.alloc (.cells (Array.replicate n (.slice none 0 0)) 22)) base w.heap.size n (List.replicate n (.slice none 0 0)) (List.replicate n []) :=
  ⟨by rw [List.toArray_replicate]; exact heap_alloc_new _ _, by simp, by simp, hb, fun k hk => by
    simp [List.getD, hk]
    exact own_nil _ _⟩
end Go.Proofs.Ytppfdaiehdbafaa.Gf
