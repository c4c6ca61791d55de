/- What is proved here: lists of uint64 that came in read as lists of natural numbers. -/
import Derived.Test.YtbkhedfhnmkodaaDoorGo
import Derived.Test.YtbkhedfhnmkodaaDoorI14
namespace Go.Proofs.YtbkhedfhnmkodaaDoor.Gf
open Go Go.ChangeShapes Go.WideShapes Go.ChangeAt Go.RowKit Go.Deep

theorem ul_of_rd {W : World} {v : Value} {L : List Int} (h : Rd (fun _ => True) W (.sl (.i .u64)) [v] L) : UL W v (L.map Int.toNat) := by
  have e : intsU (L.map Int.toNat) = L := by
    refine List.ext_getElem (by simp [intsU]) fun i h1 h2 => ?_
    obtain ⟨b, o, cap, -, -, -, -, hc⟩ := rd_cells h (by omega)
    obtain ⟨cs, hrd, -⟩ := hc i _ (List.getElem?_eq_getElem h2)
    obtain ⟨⟨hr, -⟩, -⟩ : (IntKind.u64.min ≤ L[i] ∧ L[i] ≤ IntKind.u64.max) ∧ cs = [.int .u64 L[i]] := hrd
    have h0 : (0 : Int) ≤ L[i] := hr
    simp only [intsU, List.getElem_map]
    omega
  unfold UL
  rw [e]
  exact h
theorem u64s_open {H : Type} {enc : TypeId × Value → H} {W : World} {base : Nat} {v : Value} {d : DataW H} {p : List MemPlace} (hv : Value.okWide Tryd.prog W .any base 22 v) (h : DataW.Trod enc Tryd.prog W 0 (fun _ => true) true 22 v d p) : ∃ l, UL W v l := by
  obtain ⟨a, len, cap, rfl⟩ := okWide_slice Tryd.underlying22 hv
  obtain ⟨fuel, hf⟩ := h
  obtain ⟨L, hL⟩ := rd_open fuel (.sl Tryd.underlying22 (by kernel_rfl) (.i Tryd.underlying37)) hf
  exact ⟨_, ul_of_rd hL⟩
end Go.Proofs.YtbkhedfhnmkodaaDoor.Gf
