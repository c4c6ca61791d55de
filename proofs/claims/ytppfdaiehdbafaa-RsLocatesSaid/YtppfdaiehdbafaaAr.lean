/- What is proved here: arrays of numbers by value: a whole array out of a block, into a block, as one of two results. For any program. -/
import Derived.WalkKit
import Derived.ProofKit
import Derived.Laws.Rows
import Derived.Lib.Hide
namespace Go.Proofs.Ytppfdaiehdbafaa.Gf
open Go Go.ChangeShapes Go.WideShapes Go.ChangeAt Go.RowKit

/-- n numbers of one kind, as cells. -/
def AV (K : IntKind) (n : Nat) (f : Nat → Nat) : Array Value := ((List.range n).map fun i => Value.int K ((f i : Nat) : Int)).toArray
theorem AV_size (K : IntKind) (n : Nat) (f : Nat → Nat) : (AV K n f).size = n := by simp [AV]
theorem AV_get (K : IntKind) (n : Nat) (f : Nat → Nat) (i : Nat) (h : i < n) : (AV K n f)[i]? = some (.int K ((f i : Nat) : Int)) := by simp [AV, h]
theorem AV_none (K : IntKind) (n : Nat) (f : Nat → Nat) (i : Nat) (h : n ≤ i) : (AV K n f)[i]? = none := Array.getElem?_eq_none (by rw [AV_size]; exact h)
theorem AV_one (K : IntKind) (n : Nat) (f : Nat → Nat) : (AV K n f).all (·.oneCell') = true := by
  rw [Array.all_eq_true_iff_forall_mem]
  intro v hv
  simp [AV] at hv
  obtain ⟨i, _, rfl⟩ := hv
  rfl
theorem AV_ext {K : IntKind} {n : Nat} {f g : Nat → Nat} (h : ∀ i, i < n → f i = g i) : AV K n f = AV K n g := by
  apply Array.ext_getElem?
  intro i
  by_cases hi : i < n
  · rw [AV_get K n f i hi, AV_get K n g i hi, h i hi]
  · rw [AV_none K n f i (by omega), AV_none K n g i (by omega)]
theorem AV_set (K : IntKind) (n : Nat) (f : Nat → Nat) (k z : Nat) : (AV K n f).setIfInBounds k (.int K (z : Int)) = AV K n (fun i => if i = k then z else f i) := by
  apply Array.ext_getElem?
  intro i
  by_cases hi : i < n
  · rw [AV_get K n _ i hi]
    by_cases e : i = k
    · subst e
      rw [Array.getElem?_setIfInBounds_self_of_lt (by rw [AV_size]; exact hi), if_pos rfl]
    · rw [Array.getElem?_setIfInBounds_ne (by omega), AV_get K n f i hi, if_neg e]
  · rw [AV_none K n _ i (by omega), Array.getElem?_eq_none (by simp [AV_size]; omega)]
theorem AV_zero (K : IntKind) (n : Nat) : Array.replicate n (Value.int K 0) = AV K n (fun _ => 0) := by
  apply Array.ext_getElem?
  intro i
  by_cases hi : i < n
  · rw [AV_get K n _ i hi]; simp [hi]
  · rw [AV_none K n _ i (by omega)]; simp; omega

section
variable {P : Program}
/-- A load of a whole array. -/
theorem loadA {ops : Array Oper} {rest : List Oper} {dst : Option Tmp} {x : Operand} {pos : String} {after : Array Edge} {ty T : TypeId} {a : Act} {w : World} {Q : Exit → Act → World → Prop}
    (g : Nat) (K : IntKind) (n : Nat) (f : Nat → Nat) {e : TypeId} {m : Nat} (hu : P.underlying T = some (.array m e)) (hz : (P.info? T).map (·.size) = some n) (hx : a.eval x = .pointer (some ⟨g, 0, none⟩)) (hg : w.heap[g]? = some (.cells (AV K n f) T (0, 0)))
    (h : wpList P ops Q rest (a.put dst (.agg (AV K n f))) w) : wpList P ops Q (⟨dst, .load T x, ty, pos, after, none⟩ :: rest) a w :=
  wpList_load_row rfl T x rfl g hx T (AV K n f) (0, 0) _ hg hu rfl (by rw [hz, AV_size]) h
/-- A store of a whole array. -/
theorem storeA {ops : Array Oper} {rest : List Oper} {dst : Option Tmp} {x y : Operand} {pos : String} {after : Array Edge} {ty T : TypeId} {a : Act} {w : World} {Q : Exit → Act → World → Prop}
    (g : Nat) (old : Array Value) (K : IntKind) (n : Nat) (f : Nat → Nat) (hz : (P.info? T).map (·.size) = some n) (hx : a.eval x = .pointer (some ⟨g, 0, none⟩)) (hy : a.eval y = .agg (AV K n f)) (hg : w.heap[g]? = some (.cells old T (0, 0))) (ho : old.size = n)
    (h : wpList P ops Q rest (a.put dst undef) (w.setRow g (AV K n f))) : wpList P ops Q (⟨dst, .store T x y, ty, pos, after, none⟩ :: rest) a w :=
  wpList_store_row rfl T x y rfl g (AV K n f) hx hy T old hg (by rw [hz, AV_size]) (by rw [ho, AV_size]) (AV_one K n f) h
/-- A load of a whole array, as a step of a region that draws its order. -/
theorem stepLoadA {ops : Array Oper} {dst : Option Tmp} {x : Operand} {pos : String} {after : Array Edge} {ty T : TypeId} {a : Act} {w : World} {K : Act → World → Prop} {Q : Exit → Act → World → Prop} {E : Prop}
    (g : Nat) (k : IntKind) (n : Nat) (f : Nat → Nat) {e : TypeId} {m : Nat} (hu : P.underlying T = some (.array m e)) (hz : (P.info? T).map (·.size) = some n) (hx : a.eval x = .pointer (some ⟨g, 0, none⟩)) (hg : w.heap[g]? = some (.cells (AV k n f) T (0, 0)))
    (h : K (a.put dst (.agg (AV k n f))) w) : if Region.wanted ⟨dst, .load T x, ty, pos, after, none⟩ (yielded ops a.tmps) = true then Oper.wp P ⟨dst, .load T x, ty, pos, after, none⟩ a w K Q else E := by
  rw [if_pos (by simp [Region.wanted])]
  exact wp_load_row T x rfl g hx T (AV k n f) (0, 0) _ hg hu rfl (by rw [hz, AV_size]) h
/-- A store of a whole array, as a step of a region that draws its order. -/
theorem stepStoreA {ops : Array Oper} {dst : Option Tmp} {x y : Operand} {pos : String} {after : Array Edge} {ty T : TypeId} {a : Act} {w : World} {K : Act → World → Prop} {Q : Exit → Act → World → Prop} {E : Prop}
    (g : Nat) (old : Array Value) (k : IntKind) (n : Nat) (f : Nat → Nat) (hz : (P.info? T).map (·.size) = some n) (hx : a.eval x = .pointer (some ⟨g, 0, none⟩)) (hy : a.eval y = .agg (AV k n f)) (hg : w.heap[g]? = some (.cells old T (0, 0))) (ho : old.size = n)
    (h : K (a.put dst undef) (w.setRow g (AV k n f))) : if Region.wanted ⟨dst, .store T x y, ty, pos, after, none⟩ (yielded ops a.tmps) = true then Oper.wp P ⟨dst, .store T x y, ty, pos, after, none⟩ a w K Q else E := by
  rw [if_pos (by simp [Region.wanted])]
  exact wp_store_row T x y rfl g (AV k n f) hx hy T old hg (by rw [hz, AV_size]) (by rw [ho, AV_size]) (AV_one k n f) h
/-- Two arrays as results. -/
theorem results_rows2 {fn : Func} {p q : Tmp} {S T : TypeId} (h : fn.results = #[.cell p S, .cell q T]) (tmps : Array Value) (w : World) (g k : Nat) (cs ds : Array Value) {d d' : TypeDesc}
    (hp : tmps.getD p undef = .pointer (some ⟨g, 0, none⟩)) (hq : tmps.getD q undef = .pointer (some ⟨k, 0, none⟩))
    (hg : w.heap[g]? = some (.cells cs S (0, 0))) (hk : w.heap[k]? = some (.cells ds T (0, 0)))
    (hu : P.underlying S = some d) (hd : (match d with | .struct _ | .array _ _ => true | _ => false) = true) (hi : (P.info? S).map (·.size) = some cs.size)
    (hu' : P.underlying T = some d') (hd' : (match d' with | .struct _ | .array _ _ => true | _ => false) = true) (hi' : (P.info? T).map (·.size) = some ds.size) :
    (results fn tmps).run P w = .ok (.tuple #[.agg cs, .agg ds]) w := by
  have hp' : tmps[p]?.getD undef = .pointer (some ⟨g, 0, none⟩) := by simpa using hp
  have hq' : tmps[q]?.getD undef = .pointer (some ⟨k, 0, none⟩) := by simpa using hq
  simp [results, h, hp', hq', asAddr, run_loadVar_row w g S S cs (0, 0) d hg hu hd hi, run_loadVar_row w k T T ds (0, 0) d' hk hu' hd' hi']
theorem below_setRow {B : Nat} {a w : World} (h : Below B a w) {g : Nat} (hg : B ≤ g) (cs : Array Value) : Below B a (w.setRow g cs) :=
  h.trans ⟨rfl, rfl, rfl, by simp, fun k hk => setRow_other _ _ _ _ (by omega)⟩
end
end Go.Proofs.Ytppfdaiehdbafaa.Gf
