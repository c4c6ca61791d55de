/- What is proved here: a list of keeps, as it comes in. -/
import Derived.Test.YtecneepgmpoepaaO10
namespace Go.Proofs.Ytecneepgmpoepaa.Gf
open Go Go.Joins Go.ChangeShapes Go.WideShapes Go.ChangeAt Go.RowKit Go.Deep Go.Proofs.Ytecneepgmpoepaa.By Go.Proofs.Ytecneepgmpoepaa.Qt

set_option maxRecDepth 100000 in
theorem kps_open {H : Type} {enc : TypeId × Value → H} {W : World} {base : Nat} {v : Value} {d : DataW H} {p : List MemPlace} (hv : Value.okWide Try.prog W .any base 65 v) (h : DataW.Trod enc Try.prog W 0 (fun _ => true) true 65 v d p) : ∃ L, Rd (fun _ => True) W (.sl tyK) [v] L := by
  obtain ⟨a, len, cap, rfl⟩ := okWide_slice Try.underlying65 hv
  obtain ⟨fuel, hf⟩ := h
  exact rd_open fuel (.sl Try.underlying65 (by kernel_rfl) tyKeepOf) hf
end Go.Proofs.Ytecneepgmpoepaa.Gf
