/- What is proved here: the contract of the reference's Sorted (layer 8). Condition: lists of at most 1000000 items. -/
import Derived.Test.YtihjfnlimdcmkaaDoorR8b
namespace Go.Proofs.YtihjfnlimdcmkaaDoor.Gf
open Go Go.Joins Go.ChangeShapes Go.WideShapes Go.ChangeAt Go.RowKit Go.Deep Go.Proofs.YtihjfnlimdcmkaaDoor.By Go.Proofs.YtihjfnlimdcmkaaDoor.Qt

theorem elemT : Tryd.prog.underlying 22 = some (.slice (Tryd.prog.elem 22)) := by kernel_rfl
theorem run_fromT (W : World) (a : Option Addr) {n cap l : Nat} (h1 : l ≤ n) : (Instr.sliceAt 22 (.slice a n cap) (some (.int .i64 (l : Int))) none none).run Tryd.prog W = .ok (.slice (if cap = l then a else a.map (·.add (l * 4))) (n - l) (cap - l)) W := by
  rw [run_sliceAt_slice (h := elemT)]
  simp [Instr.slice, Instr.sliceBounds, Instr.sliceBound, run_underlying Tryd.underlying22, asIntOf, h1]
theorem run_toT (W : World) (a : Option Addr) {n cap l : Nat} (h2 : l ≤ cap) : (Instr.sliceAt 22 (.slice a n cap) none (some (.int .i64 (l : Int))) none).run Tryd.prog W = .ok (.slice a l cap) W := by
  rw [run_sliceAt_slice (h := elemT)]
  cases a with
  | none => simp [Instr.slice, Instr.sliceBounds, Instr.sliceBound, run_underlying Tryd.underlying22, asIntOf, h2]
  | some a => simp [Instr.slice, Instr.sliceBounds, Instr.sliceBound, run_underlying Tryd.underlying22, asIntOf, h2]; intro; cases a; simp [Addr.add]
/-- What lies behind the l-th item. -/
theorem it_from {W : World} {a : Option Addr} {n cap l : Nat} {L : List Itm} (h : It W (.slice a n cap) L) (hl : l ≤ n) : It W (.slice (if cap = l then a else a.map (·.add (l * 4))) (n - l) (cap - l)) (L.drop l) := by
  obtain ⟨a', cap', hv, h2, h3⟩ := it_form h
  obtain ⟨rfl, rfl, rfl⟩ : a = a' ∧ n = L.length ∧ cap = cap' := by simpa using hv
  by_cases e : l = L.length
  · rw [List.drop_of_length_le (by omega), show L.length - l = 0 by omega]
    exact it_empty _ _ (by omega)
  · obtain ⟨b, o, c, hv', -, -, -⟩ := it_cells h (by omega)
    obtain ⟨rfl, -⟩ : a = some ⟨b, o, none⟩ ∧ cap = c := by simpa using hv'
    have hc := it_cut h l (L.length - l) (by omega)
    rw [List.take_of_length_le (by rw [List.length_drop]; exact Nat.le_refl _)] at hc
    rw [if_neg (by omega)]
    simpa [add_none] using hc
/-- The slice's block, if it has one, is numbered from B on. -/
def Ap (v : Value) (B : Nat) : Prop := ∀ a n c, v = .slice (some a) n c → B ≤ a.block
theorem ap_own {w : World} {base : Nat} {v : Value} {L : List Itm} (h : OwT w base v L) : Ap v base := fun a n c hv => by
  subst hv
  exact (owT_lt h a.block rfl).1
theorem ap_from {a : Option Addr} {n cap l B k m : Nat} (h : Ap (.slice a n cap) B) : Ap (.slice (if cap = l then a else a.map (·.add (l * 4))) k m) B := fun x n' c' hv => by
  cases a with
  | none => split at hv <;> simp at hv
  | some a =>
    have h0 := h a _ _ rfl
    split at hv
    · obtain ⟨rfl, -⟩ : a = x ∧ _ := by simpa using hv
      exact h0
    · obtain ⟨hx, -⟩ : a.add (l * 4) = x ∧ _ := by simpa using hv
      subst hx
      unfold Addr.add
      split <;> exact h0
theorem it_grown2 {w w' : World} {B : Nat} {v y : Value} {M : List Itm} (h : It w y M) (hg : w.grownBy w' v.ownBlock) (hv : ∀ k, v.ownBlock = some k → k < B) (hy : Ap y B) : It w' y M := by
  obtain ⟨h0, a, cap, h1, h2, h3, h4⟩ := h
  refine ⟨h0, a, cap, h1, h2, h3, fun hp => ?_⟩
  obtain ⟨b, off, e, hc⟩ := h4 hp
  subst e
  have hlt := hy _ _ _ h1
  refine ⟨b, off, rfl, fun j u hu => ?_⟩
  have c := hc j u hu
  have hbk := hg.block b (block_lt_of_cell c) (fun e => by have := hv _ e.symm; simp at hlt; omega)
  rw [← c]
  simp only [World.cell?, hbk]
/-- An empty slice of the call's own that is not nil. -/
theorem owT_empty (w : World) {base : Nat} (hb : base ≤ w.heap.size) : OwT (w.alloc (.cells #[] 41)) base (.slice (some ⟨w.heap.size, 0, none⟩) 0 0) [] :=
  ⟨by simp, ⟨by simp [cellsT], Or.inr ⟨w.heap.size, 0, #[], rfl, hb, heap_alloc_new _ _, by simp, by simp, rfl, rfl⟩⟩⟩
/-- l[k:], as a step. -/
theorem from_step {ops : Array Oper} {rest : List Oper} {dst : Option Tmp} {s x : Operand} {pos : String} {after : Array Edge} {ty : TypeId} {a : Act} {W : World} {Q : Exit → Act → World → Prop}
    {p : Option Addr} {n cap l : Nat} (hs : a.eval s = .slice p n cap) (hx : a.eval x = .int .i64 (l : Int)) (h1 : l ≤ n)
    (h : wpList Tryd.prog ops Q rest (a.put dst (.slice (if cap = l then p else p.map (·.add (l * 4))) (n - l) (cap - l))) W) : wpList Tryd.prog ops Q (⟨dst, .slice 22 s (some x) none none, ty, pos, after, none⟩ :: rest) a W := by
  refine wpList_plain rfl fun K hK => ?_
  unfold Oper.wp execOp
  simp only [hs, hx, Option.map_some, Option.map_none, Sem.run_bind, Sem.run_pure, Result.andThen_ok, run_fromT W p h1]
  exact hK _ _ h
end Go.Proofs.YtihjfnlimdcmkaaDoor.Gf
