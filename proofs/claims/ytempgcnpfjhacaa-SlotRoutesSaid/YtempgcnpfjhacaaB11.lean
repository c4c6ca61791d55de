/- What is proved here: what layer 11 leans on, out of the older layers. -/
import Derived.Test.YtempgcnpfjhacaaProg
import Derived.WalkKit
import Derived.ProofKit
import Derived.OpenShut
import Derived.Lib.Hide
import Derived.Deep.AppendSrc
import Derived.StillTailTactics
import Derived.Deep.Matrix
import Derived.Lib.SmallJoins
import Derived.BigQuiet
import Derived.IntWalk
import Derived.Deep.QuietTactic
import Derived.Lib.QuietBelow
import Derived.OrdersHeld
import Derived.OwnWalk
namespace Go.Proofs.Ytempgcnpfjhacaa.Gf
/-- Times x. -/
def xt (a : Nat) : Nat := (2 * a) ^^^ (a / 128 * 285)
/-- A linear map on bytes. -/
def Lin (f : Nat → Nat) : Prop := ∀ x y, x < 256 → y < 256 → f (x ^^^ y) = f x ^^^ f y
theorem Lin.zero {f : Nat → Nat} (h : Lin f) : f 0 = 0 := by
  have := h 0 0 (by decide) (by decide)
  simp at this
  exact this
/-- The powers of 2. -/
def ex : Nat → Nat
  | 0 => 1
  | n + 1 => xt (ex n)
end Go.Proofs.Ytempgcnpfjhacaa.Gf
namespace Go.Proofs.Ytempgcnpfjhacaa.By
open Go Go.ChangeShapes Go.WideShapes Go.ChangeAt Go.RowKit
end Go.Proofs.Ytempgcnpfjhacaa.By
namespace Go.Proofs.Ytempgcnpfjhacaa.Gf
open Go Go.Joins Go.ChangeShapes Go.WideShapes Go.ChangeAt Go.RowKit Go.Deep Go.Proofs.Ytempgcnpfjhacaa.By
theorem bt {w w1 w2 : World} (h : Below w.heap.size w w1) (h2 : Below w1.heap.size w1 w2) : Below w.heap.size w w2 := h.trans (h2.mono h.size)
theorem lt_of_some {w : World} {k : Nat} {o : Obj} (h : w.heap[k]? = some o) : k < w.heap.size := (Array.getElem?_eq_some_iff.1 h).1
theorem below_drewN (w : World) (n : Nat) : Below w.heap.size w (w.drewN n) := ⟨rfl, rfl, rfl, Nat.le_refl _, fun _ _ => rfl⟩
theorem add_none {b off : Nat} (k : Nat) : (⟨b, off, none⟩ : Addr).add k = ⟨b, off + k, none⟩ := by unfold Addr.add; split <;> simp_all
section
variable {w w' : World} {b0 : Nat} {v : Value} {vs : List Value} {L : List (List Nat)}
end
end Go.Proofs.Ytempgcnpfjhacaa.Gf
namespace Go.Proofs.Ytempgcnpfjhacaa.Qt
open Go Go.RowKit Go.Sort
section
variable {P : Program} {ops : Array Oper} {md : Region.Mode} {C : World → Prop}
end
/-- The class of the worlds in which nothing old has changed. -/
def Bl (w : World) : World → Prop := fun w' => ∃ p : Regrown, w' = grow (redrawn w p.d) p.os
theorem bl_start (w : World) : Bl w { w with drawn := w.drawn + 1 } := ⟨⟨w.drawn + 1, #[]⟩, by rw [grow_empty]; rfl⟩
theorem bl_below {w w' : World} (h : Bl w w') : Below w.heap.size w w' := by
  obtain ⟨p, rfl⟩ := h
  exact below_regrown w p.d p.os
theorem wp_region_bl {P : Program} {id : Nat} {Q : Exit → Act → World → Prop} {a : Act} {w : World} {l : List Oper} (hm : P.follows .mixedOrders = true) (hB : Region.lexB .any l.toArray = true)
    (h : wpQuiet P l.toArray (fun w' => ∃ p : Regrown, w' = grow (redrawn w p.d) p.os) (fun a' => ∀ w', Below w.heap.size w w' → Q .normal a' w') l a) : (Code.region id l.toArray true).wp P Q a w :=
  wp_region_quiet (C := fun w' => ∃ p : Regrown, w' = grow (redrawn w p.d) p.os) hm hB (bl_start w) (by
    have h2 : ∀ (l' : List Oper) (a : Act), wpQuiet P l.toArray (fun w' => ∃ p : Regrown, w' = grow (redrawn w p.d) p.os) (fun a' => ∀ w', Below w.heap.size w w' → Q .normal a' w') l' a → wpQuiet P l.toArray (fun w' => ∃ p : Regrown, w' = grow (redrawn w p.d) p.os) (fun a' => ∀ w', (∃ p : Regrown, w' = grow (redrawn w p.d) p.os) → Q .normal a' w') l' a := by
      intro l'
      induction l' with
      | nil => exact fun a h w' hw' => h w' (bl_below hw')
      | cons o l' ih =>
        intro a h
        unfold wpQuiet at h ⊢
        split
        · rename_i hw
          rw [if_pos hw] at h
          exact Oper.quiet_mono (fun a => ih a) h
        · rename_i hw
          rw [if_neg hw] at h
          exact ih _ h
    simpa using h2 l a h)
theorem cells_regrown {w : World} {a : Addr} {v : Value} (h : w.cell? a = some v) : ∀ d os, (grow (redrawn w d) os).cell? a = some v := fun d os => cell_regrown h d os
end Go.Proofs.Ytempgcnpfjhacaa.Qt
namespace Go.Proofs.Ytempgcnpfjhacaa.Qt
open Go Go.RowKit Go.Sort
section
variable {P : Program} {ops : Array Oper} {md : Region.Mode} {C : World → Prop}
end
def pickOps (ops : Array Oper) (l : List Nat) : List Oper := l.filterMap fun t => ops[t]?
/-- A walk over operations that read only, each in every world that meets S. -/
def wpHeads (P : Program) (ops : Array Oper) (S : World → Prop) (Q : Act → Prop) : List Oper → Act → Prop
  | [], a => Q a
  | o :: rest, a => if Region.wanted o (yielded ops a.tmps) then ∃ v, (∀ w, S w → (execOp a.eval o).run P w = .ok (.value v) w) ∧ wpHeads P ops S Q rest (a.put o.dst v) else wpHeads P ops S Q rest (a.put o.dst undef)
def headsB (md : Region.Mode) (ops : Array Oper) : List Nat → Array Bool → Bool
  | [], _ => true
  | k :: hd, listed => Region.free md ops listed k && (Region.ready md ops listed).contains k && headsB md ops hd (listed.setIfInBounds k true)
def listAll : List Nat → Array Bool → Array Bool
  | [], l => l
  | k :: hd, l => listAll hd (l.setIfInBounds k true)
theorem held_heads {P : Program} {ops : Array Oper} {md : Region.Mode} {Q : Exit → Act → World → Prop} {S : World → Prop} (hs : Region.noSelect ops = true) (hQ : ∀ c (a : Act) d v w, Q (.panic c) (a.put d v) w → Q (.panic c) a w) {fuel : Nat} {w : World} (hS : S w) :
    ∀ (hd : List Nat) (lh : List Oper) (listed : Array Bool) (a : Act), headsB md ops hd listed = true → lh.map some = hd.map (fun t => ops[t]?) → wpHeads P ops S (fun a' => wpAnyH P md ops Q S fuel (listAll hd listed) a' w) lh a → wpAnyH P md ops Q S (hd.length + fuel) listed a w
  | [], [], _, _, _, _, h => by rw [List.length_nil, Nat.zero_add]; exact h
  | [], _ :: _, _, _, _, hl, _ => by simp at hl
  | _ :: _, [], _, _, _, hl, _ => by simp at hl
  | k :: hd, o :: lh, listed, a, hB, hl, h => by
    simp only [List.map_cons, List.cons.injEq] at hl
    simp only [headsB, Bool.and_eq_true] at hB
    rw [List.length_cons, show hd.length + 1 + fuel = (hd.length + fuel) + 1 by omega]
    unfold wpHeads at h
    by_cases hw : Region.wanted o (yielded ops a.tmps) = true
    · rw [if_pos hw] at h
      obtain ⟨v, hv, hr⟩ := h
      exact wpAnyH_take hl.1.symm hs hB.1.1 hB.1.2 (fun c a w => hQ c a _ _ w) (Or.inl ⟨hw, hv⟩) hS (held_heads hs hQ hS hd lh _ _ hB.2 hl.2 hr)
    · rw [if_neg hw] at h
      exact wpAnyH_take hl.1.symm hs hB.1.1 hB.1.2 (fun c a w => hQ c a _ _ w) (Or.inr ⟨by simpa using hw, rfl⟩) hS (held_heads hs hQ hS hd lh _ _ hB.2 hl.2 h)
/-- One operation that alone may come up, in a held region. -/
theorem held_one {P : Program} {ops : Array Oper} {md : Region.Mode} {Q : Exit → Act → World → Prop} {S : World → Prop} {fuel : Nat} {listed : Array Bool} {a : Act} {w : World} (i : Nat) {oi : Oper} (hi : ops[i]? = some oi) (hg : oi.guard = none) (hr : Region.ready md ops listed = [i])
    (h : ∀ K : Act → World → Prop, (∀ a' w', S w' → wpAnyH P md ops Q S fuel (listed.setIfInBounds i true) a' w' → K a' w') → oi.wp P a w K Q) : wpAnyH P md ops Q S (fuel + 1) listed a w := by
  refine wpAnyH_all hr (by simp) fun j hj => ?_
  obtain rfl : j = i := by simpa using hj
  unfold wpOp
  simp only [hi]
  rw [if_pos (by simp [Region.wanted, hg])]
  exact Or.inl (h _ fun a' w' h1 h2 => ⟨h1, h2⟩)
end Go.Proofs.Ytempgcnpfjhacaa.Qt
namespace Go.Proofs.Ytempgcnpfjhacaa.Gf
open Go Go.ChangeShapes Go.WideShapes Go.ChangeAt Go.RowKit Go.Proofs.Ytempgcnpfjhacaa.By
def I64b (n : Int) : Prop := -9223372036854775808 ≤ n ∧ n ≤ 9223372036854775807
def szI6 (n : Int) : Int := if n < 0 ∨ 4096 < n then 0 else (n + 31) / 8 * 8
end Go.Proofs.Ytempgcnpfjhacaa.Gf
