/- What is proved here: the mathematics of a needle map: its stripes are what its items are, parted. No program text. -/
import Derived.Test.YtempgcnpfjhacaaL11
namespace Go.Proofs.Ytempgcnpfjhacaa.Gf
open Go

/-- The stripe of a key. -/
def sp (k : Nat) : Nat := (k * 11400714819323198485 % 18446744073709551616) / 2305843009213693952
theorem sp_lt (k : Nat) : sp k < 8 := by unfold sp; omega
def szT (x : Itm) : Int := szI6 x.sz
def byT (L : List Itm) : Int := (L.map szT).sum
theorem byT_nil : byT [] = 0 := rfl
theorem byT_cons (x : Itm) (L : List Itm) : byT (x :: L) = szT x + byT L := by simp [byT]
theorem byT_append (A B : List Itm) : byT (A ++ B) = byT A + byT B := by simp [byT, List.sum_append]
theorem szT_bd (x : Itm) : 0 ≤ szT x ∧ szT x ≤ 4200 := by unfold szT szI6; split <;> omega
theorem byT_bd : ∀ L : List Itm, 0 ≤ byT L ∧ byT L ≤ 4200 * (L.length : Int)
  | [] => by simp [byT_nil]
  | x :: L => by
    have := byT_bd L
    have := szT_bd x
    rw [byT_cons, List.length_cons]
    push_cast
    omega
/-- A needle map. -/
structure Mp where
  st : List (List Itm)
  live : Int
  garb : Int
def ms (m : Mp) (s : Nat) : List Itm := m.st.getD s []
structure okM (m : Mp) : Prop where
  ok : ∀ s, s < 8 → okT (ms m s)
  sp : ∀ s, s < 8 → ∀ x ∈ ms m s, sp x.key = s
  live : m.live = byT m.st.flatten
  lo : 0 ≤ m.garb
  hi : m.garb ≤ 1099511627776
def mp0 : Mp := ⟨List.replicate 8 [], 0, 0⟩
def iL (m : Mp) : List Itm := sortL m.st.flatten
theorem lk_app (A B : List Itm) (k : Nat) : lk (A ++ B) k = (lk B k).or (lk A k) := by
  unfold lk
  rw [List.reverse_append, List.find?_append]
theorem ms_of {m : Mp} {s : Nat} (h : s < m.st.length) : ms m s = m.st[s] := by
  unfold ms
  rw [List.getD_eq_getElem?_getD, List.getElem?_eq_getElem h]
  rfl
open Classical in
noncomputable def itemsL (m : Mp) : List Itm := if okM m then iL m else []
end Go.Proofs.Ytempgcnpfjhacaa.Gf
