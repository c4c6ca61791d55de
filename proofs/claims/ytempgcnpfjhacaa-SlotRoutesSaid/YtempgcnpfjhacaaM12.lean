/- What is proved here: the maps that puts, deletes and wastes make are valid, and what they count. No program text. -/
import Derived.Test.YtempgcnpfjhacaaM11
namespace Go.Proofs.Ytempgcnpfjhacaa.Gf
open Go

theorem mp0_ok : okM mp0 ∧ mp0.st.length = 8 := by
  refine ⟨⟨fun s hs => ?_, fun s hs x hx => ?_, rfl, by decide, by decide⟩, rfl⟩
  · have e : ms mp0 s = [] := by
      unfold ms mp0
      rw [List.getD_eq_getElem?_getD, List.getElem?_replicate]
      split <;> rfl
    rw [e]
    exact ⟨by simp, List.Pairwise.nil⟩
  · have e : ms mp0 s = [] := by
      unfold ms mp0
      rw [List.getD_eq_getElem?_getD, List.getElem?_replicate]
      split <;> rfl
    rw [e] at hx
    cases hx
/-- The items, one stripe after the other. -/
theorem merge_step (F B : List Itm) : mergeL (sortL F) B [] = sortL (F ++ B) := by
  refine asc_ext (asc_mergeL _ _ _) (asc_sortL _) fun k => ?_
  rw [lk_mergeL, lk_sortL, lk_sortL, lk_app]
  cases lk B k with
  | none => simp
  | some x => rfl
end Go.Proofs.Ytempgcnpfjhacaa.Gf
