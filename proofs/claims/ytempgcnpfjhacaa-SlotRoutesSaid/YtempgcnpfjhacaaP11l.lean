/- What is proved here: the laws' awake answers true. -/
import Derived.Test.YtempgcnpfjhacaaP11k
namespace Go.Proofs.Ytempgcnpfjhacaa.Gf
open Go Go.Joins Go.ChangeShapes Go.WideShapes Go.ChangeAt Go.RowKit Go.Deep Go.Proofs.Ytempgcnpfjhacaa.By Go.Proofs.Ytempgcnpfjhacaa.Qt

theorem ms_mp0 (s : Nat) : ms mp0 s = [] := by
  unfold ms mp0
  rw [List.getD_eq_getElem?_getD, List.getElem?_replicate]
  split <;> rfl
theorem few_mp0 : Few mp0 := fun k _ => by rw [ms_mp0]; exact Nat.zero_le _
end Go.Proofs.Ytempgcnpfjhacaa.Gf
