/- What is proved here: what the program's functions keep (PC3), and the law's own small functions. -/
import Derived.Test.YtppfdaiehdbafaaR3g
import Derived.Test.YtppfdaiehdbafaaIv
import Derived.BigRegion
namespace Go.Proofs.Ytppfdaiehdbafaa.Gf
open Go Go.ChangeShapes Go.WideShapes Go.ChangeAt Go.RowKit Go.Proofs.Ytppfdaiehdbafaa.By

theorem bt {w w1 w2 : World} (h : Below w.heap.size w w1) (h2 : Below w1.heap.size w1 w2) : Below w.heap.size w w2 := h.trans (h2.mono h.size)
def I64 (r : Int) : Prop := -9223372036854775808 ≤ r ∧ r ≤ 9223372036854775807
/-- What a call answers: a matrix and an error. -/
def MS (w : World) (r c : Int) (l : List Nat) (err : Int) (e : Ending) (w' : World) : Prop := (∃ s, e = .returned (.tuple #[mv r c s, .int .i64 err]) ∧ Sl w' s l) ∧ Below w.heap.size w w'
theorem MO.ms {w : World} {r c : Int} {l : List Nat} {err : Int} {e : Ending} {w' : World} (h : MO w r c l err e w') : MS w r c l err e w' := by
  obtain ⟨⟨s, h1, h2⟩, h3⟩ := h
  exact ⟨⟨s, h1, h2.sl⟩, h3⟩
def mulPostS (ra ca : Int) (la : List Nat) (rb cb : Int) (lb : List Nat) (w : World) : Ending → World → Prop :=
  if Vd ra ca la.length ∧ Vd rb cb lb.length ∧ ca = rb then MS w ra cb (flat ra.toNat cb.toNat (mm ca.toNat (ent la ca.toNat) (ent lb cb.toNat))) 0 else MS w 0 0 [] 1
def identPostS (n : Int) (w : World) : Ending → World → Prop := if Sized n n then MS w n n (flat n.toNat n.toNat idm) 0 else MS w 0 0 [] 1
def vanderPostS (r c : Int) (w : World) : Ending → World → Prop := if Sized r c then MS w r c (flat r.toNat c.toNat pn) 0 else MS w 0 0 [] 1
def pickm' (l : List Nat) (c : Nat) (zs : List Int) (i k : Nat) : Nat := ent l c (zs.getD i 0).toNat k
def pickPostS (r c : Int) (l : List Nat) (zs : List Int) (w : World) : Ending → World → Prop :=
  if Vd r c l.length ∧ (1 ≤ zs.length ∧ zs.length ≤ 16) ∧ ∀ i, i < zs.length → 0 ≤ zs.getD i 0 ∧ zs.getD i 0 < r then MS w zs.length c (flat zs.length c.toNat (pickm l c.toNat zs)) 0 else MS w 0 0 [] 1
def invPostS (r c : Int) (l : List Nat) (w : World) (e : Ending) (w' : World) : Prop :=
  if Vd r c l.length ∧ r = c then (∃ X, Inv2 r.toNat (ent l r.toNat) X ∧ MS w r r (flat r.toNat r.toNat X) 0 e w') ∨ (Sing r.toNat (ent l r.toNat) ∧ MS w 0 0 [] 14 e w') else MS w 0 0 [] 1 e w'
def rowAt' (l : List Nat) (c i : Nat) (L : List (List Nat)) (n : Nat) : Nat → List Nat
  | 0 => List.replicate n 0
  | k + 1 => ma (ent l c i k) (rowAt' l c i L n k) (L.getD k [])
def applyL' (l : List Nat) (r c : Nat) (L : List (List Nat)) : List (List Nat) := (List.range r).map fun i => rowAt' l c i L (L.getD 0 []).length c
def applyPostS (r c : Int) (l : List Nat) (L : List (List Nat)) (w : World) (e : Ending) (w' : World) : Prop :=
  if Vd r c l.length ∧ (L.length : Int) = c ∧ ∀ k, k < L.length → (L.getD k []).length = (L.getD 0 []).length then (∃ v, e = .returned (.tuple #[v, .int .i64 0]) ∧ Sr w' v (applyL' l r.toNat c.toNat L)) ∧ Below w.heap.size w w'
  else e = .returned (.tuple #[.slice none 0 0, .int .i64 1]) ∧ Below w.heap.size w w'
/-- What the program's functions keep; Ok: what they ask of the world. -/
structure PC3 (Ok : World → Prop) : Prop where
  st : ∀ w w' : World, Ok w → Below w.heap.size w w' → Ok w'
  valid : ∀ (r c : Int) (v : Value) (l : List Nat) (w : World), I64 r → I64 c → Sl w v l → Ok w → Calls Try.prog 33 #[mv r c v] w fun e w' => e = .returned (.bool (decide (Vd r c l.length))) ∧ Below w.heap.size w w'
  vander : ∀ (r c : Int) (w : World), I64 r → I64 c → Ok w → Calls Try.prog 49 #[.int .i64 r, .int .i64 c] w (vanderPostS r c w)
  mul : ∀ (ra ca rb cb : Int) (v1 v2 : Value) (la lb : List Nat) (w : World), I64 ra → I64 ca → I64 rb → I64 cb → Sl w v1 la → Sl w v2 lb → Ok w → Calls Try.prog 50 #[mv ra ca v1, mv rb cb v2] w (mulPostS ra ca la rb cb lb w)
  pick : ∀ (r c : Int) (v1 v2 : Value) (l : List Nat) (zs : List Int) (w : World), I64 r → I64 c → Sl w v1 l → Si w v2 zs → Ok w → Calls Try.prog 13 #[mv r c v1, v2] w (pickPostS r c l zs w)
  invert : ∀ (r c : Int) (v : Value) (l : List Nat) (w : World), I64 r → I64 c → Sl w v l → Ok w → Calls Try.prog 14 #[mv r c v] w (invPostS r c l w)
  apply : ∀ (r c : Int) (v1 v2 : Value) (l : List Nat) (L : List (List Nat)) (w : World), I64 r → I64 c → Sl w v1 l → Sr w v2 L → (∀ k, k < L.length → (L.getD k []).length ≤ 1000000) → Ok w → Calls Try.prog 39 #[mv r c v1, v2] w (applyPostS r c l L w)
  gmul : ∀ (a b : Nat) (w : World), a < 256 → b < 256 → Ok w → Calls Try.prog 63 #[.int .u8 (a : Int), .int .u8 (b : Int)] w fun e w' => e = .returned (.int .u8 ((gm a b : Nat) : Int)) ∧ Below w.heap.size w w'
theorem size27 : (Try.prog.info? 24).map (·.size) = some 3 := by kernel_rfl
/-- The chapter's singular matrix. -/
theorem ones_sing {e : Ending} {w w' : World} (h : invPostS 2 2 [1, 1, 1, 1] w e w') : MS w 0 0 [] 14 e w' := by
  unfold invPostS at h
  rw [if_pos (by decide)] at h
  rcases h with ⟨X, hX, _⟩ | ⟨_, h⟩
  · exact absurd hX (rows_not_inv (x := 0) (y := 1) (f := 1) (by intro i hi k hk; exact ent_bd (r := 2) (c := 2) (by decide) i hi k hk) (by decide) (by decide) (by decide) (by decide) (by decide))
  · exact h
theorem vander32 {e : Ending} {w w' : World} (h : vanderPostS 3 2 w e w') : MS w 3 2 [1, 0, 1, 1, 1, 2] 0 e w' := by
  unfold vanderPostS at h
  rw [if_pos (by decide)] at h
  exact h
theorem apply_one {e : Ending} {w w' : World} (h : applyPostS 1 1 [2] [[1, 128]] w e w') : (∃ v, e = .returned (.tuple #[v, .int .i64 0]) ∧ Sr w' v [[2, 29]]) ∧ Below w.heap.size w w' := by
  unfold applyPostS at h
  rw [if_pos (by decide)] at h
  have e : applyL' [2] (Int.toNat 1) (Int.toNat 1) [[1, 128]] = [[2, 29]] := by decide
  rwa [e] at h
end Go.Proofs.Ytppfdaiehdbafaa.Gf
