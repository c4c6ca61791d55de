/- What is proved here: short forms of the library's laws of regions that draw their order. No program text. -/
import Derived.OrdersHeld
import Derived.Lib.Hide
import Derived.ProofKit
namespace Go.Proofs.YtbmlpafbdbhaiaaGreatDoor
open Go Go.RowKit
section
variable {P : Program} {ops : Array Oper} {md : Region.Mode} {Q : Exit → Act → World → Prop} {S : World → Prop} {fuel : Nat} {listed : Array Bool} {a : Act} {w : World}
/-- The operation i comes first: it yields v wherever S holds. -/
theorem tky (i : Nat) (v : Value) {oi : Oper} (hi : ops[i]? = some oi) (hy : ∀ w', S w' → (execOp (a.eval) oi).run P w' = .ok (.value v) w') (hS : S w)
    (h : wpAnyH P md ops Q S fuel (listed.setIfInBounds i true) (a.put oi.dst v) w)
    (hb : (Region.noSelect ops && (Region.free md ops listed i && (Region.ready md ops listed).contains i)) = true := by kernel_rfl) (hw : Region.wanted oi (yielded ops a.tmps) = true := by kernel_rfl)
    (hQ : ∀ c a w, Q (.panic c) (a.put oi.dst v) w → Q (.panic c) a w := by exact fun _ _ _ h => h) : wpAnyH P md ops Q S (fuel + 1) listed a w := by
  rw [Bool.and_eq_true, Bool.and_eq_true] at hb
  exact wpAnyH_take hi hb.1 hb.2.1 hb.2.2 hQ (Or.inl ⟨hw, hy⟩) hS h
/-- The operation i is not wanted. -/
theorem tkn (i : Nat) {oi : Oper} (hS : S w) (h : wpAnyH P md ops Q S fuel (listed.setIfInBounds i true) (a.put oi.dst undef) w) (hi : ops[i]? = some oi := by rfl)
    (hb : (Region.noSelect ops && (Region.free md ops listed i && (Region.ready md ops listed).contains i)) = true := by kernel_rfl) (hw : Region.wanted oi (yielded ops a.tmps) = false := by kernel_rfl)
    (hQ : ∀ c a w, Q (.panic c) (a.put oi.dst undef) w → Q (.panic c) a w := by exact fun _ _ _ h => h) : wpAnyH P md ops Q S (fuel + 1) listed a w := by
  rw [Bool.and_eq_true, Bool.and_eq_true] at hb
  exact wpAnyH_take hi hb.1 hb.2.1 hb.2.2 hQ (Or.inr ⟨hw, rfl⟩) hS h
theorem gwq (i : Nat) {oi : Oper} (h : ∀ K : Act → World → Prop, (∀ a' w', S w' → wpAnyH P md ops Q S fuel (listed.setIfInBounds i true) a' w' → K a' w') → oi.wp P a w K Q) (hi : ops[i]? = some oi := by rfl)
    (hb : (Region.wanted oi (yielded ops a.tmps) && (Region.ready md ops listed == [i])) = true := by kernel_rfl) : wpAnyH P md ops Q S (fuel + 1) listed a w := by
  rw [Bool.and_eq_true] at hb
  have hr : Region.ready md ops listed = [i] := eq_of_beq hb.2
  refine wpAnyH_all hr (by simp) fun j hj => ?_
  obtain rfl : j = i := by simpa using hj
  unfold wpOp
  simp only [hi]
  rw [if_pos hb.1]
  exact Or.inl (h _ fun a' w' h1 h2 => ⟨h1, h2⟩)
end
theorem Lh {p : Prop} (h : p) : Hid p := Lib.hid h
end Go.Proofs.YtbmlpafbdbhaiaaGreatDoor
