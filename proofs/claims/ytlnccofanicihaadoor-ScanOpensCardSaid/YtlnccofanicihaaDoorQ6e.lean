/- What is proved here: the contract of the reference's Same; what the laws ask of the program; cut. No condition. -/
import Derived.Test.YtlnccofanicihaaDoorQ6d
namespace Go.Proofs.YtlnccofanicihaaDoor.Gf
open Go Go.ChangeShapes Go.WideShapes Go.ChangeAt Go.RowKit Go.Proofs.YtlnccofanicihaaDoor.By Go.Proofs.YtlnccofanicihaaDoor.Crc

def sameB (x y : Ndl) : Bool := decide (x.key = y.key) && decide (x.cookie = y.cookie) && (x.del == y.del) && decide (x.data = y.data)
theorem b2 (w : World) (A B : Obj) : Below w.heap.size w ((w.alloc A).alloc B) := ((Below.refl _ _).alloc (Nat.le_refl _) _).alloc (by simp) _
/-- The reference's comparison of two needles. -/
theorem rsame_any (v u : Value) (x y : Ndl) (w : World) (h : Nd w v x) (k : Nd w u y) : Calls Tryd.prog 25 #[v, u] w fun e w' => e = .returned (.bool (sameB x y)) ∧ Below w.heap.size w w' := by
  obtain ⟨s, rfl, h1, h2, h3⟩ := h
  obtain ⟨t, rfl, k1, k2, k3⟩ := k
  obtain ⟨key, ck, d, D⟩ := x
  obtain ⟨key', ck', d', D'⟩ := y
  dsimp only at *
  have hb : ∀ A B, Below w.heap.size w ((w.alloc A).alloc B) := fun A B => ((Below.refl _ _).alloc (Nat.le_refl _) _).alloc (by simp) _
  have k1 := fun A B => conv_sl (sl_below h3 (hb A B))
  have k2 := fun A B => conv_sl (sl_below k3 (hb A B))
  have hse := str_eq h3.1 k3.1
  obtain ⟨a, cap, rfl, -, -⟩ := sl_form h3
  obtain ⟨a', cap', rfl, -, -⟩ := sl_form k3
  unfold sameB
  dsimp only
  rw [← hse]
  clear hse h3 k3 h1 h2
  generalize strOf D = t at k1
  generalize strOf D' = t' at k2
  generalize D.length = n at k1
  generalize D'.length = n' at k2
  by_cases e1 : key = key'
  · by_cases e2 : ck = ck'
    · subst e1
      subst e2
      rw [show decide (key = key) = true by simp, show decide (ck = ck) = true by simp]
      by_cases e3 : d = d'
      · subst e3
        rw [show (true && true && (d == d) && (t.toList == t'.toList)) = (t.toList == t'.toList) by simp]
        go_enter Tryd.func25, Tryd.ntmps25
        go_wp2
        go_ret
        exact ⟨rfl, hb _ _⟩
      · have e : (d == d') = false := beq_false_of_ne e3
        rw [e, Bool.and_false, Bool.false_and]
        go_enter Tryd.func25, Tryd.ntmps25
        go_wp2
        go_ret
        exact ⟨rfl, hb _ _⟩
    · have e : ((ck : Int) == (ck' : Int)) = false := beq_false_of_ne fun h => e2 (by omega)
      rw [show decide (ck = ck') = false from decide_eq_false e2, Bool.and_false, Bool.false_and, Bool.false_and]
      subst e1
      go_enter Tryd.func25, Tryd.ntmps25
      go_wp2
      go_ret
      exact ⟨rfl, hb _ _⟩
  · have e : ((key : Int) == (key' : Int)) = false := beq_false_of_ne fun h => e1 (by omega)
    rw [show decide (key = key') = false from decide_eq_false e1, Bool.false_and, Bool.false_and, Bool.false_and]
    go_enter Tryd.func25, Tryd.ntmps25
    go_wp2
    go_ret
    exact ⟨rfl, hb _ _⟩
end Go.Proofs.YtlnccofanicihaaDoor.Gf
