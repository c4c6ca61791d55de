/- What is proved here: New and Len of the program, the laws' items. -/
import Derived.Test.YtempgcnpfjhacaaP11i
namespace Go.Proofs.Ytempgcnpfjhacaa.Gf
open Go Go.Joins Go.ChangeShapes Go.WideShapes Go.ChangeAt Go.RowKit Go.Deep Go.Proofs.Ytempgcnpfjhacaa.By Go.Proofs.Ytempgcnpfjhacaa.Qt

theorem mp0_ms (w : World) : Ms w [.slice none 0 0, .slice none 0 0, .slice none 0 0, .slice none 0 0, .slice none 0 0, .slice none 0 0, .slice none 0 0, .slice none 0 0] mp0 := ⟨rfl, by unfold J64 mp0; decide, by unfold J64 mp0; decide, fun k hk => by
  obtain rfl | rfl | rfl | rfl | rfl | rfl | rfl | rfl : k = 0 ∨ k = 1 ∨ k = 2 ∨ k = 3 ∨ k = 4 ∨ k = 5 ∨ k = 6 ∨ k = 7 := by omega
  all_goals exact ⟨none, 0, rfl, it_nil w⟩⟩
theorem pnew_any (w : World) : Calls Try.prog 17 #[] w (MO w mp0) := by
  have q := bel_al w (.cells #[.slice none 0 0, .slice none 0 0, .slice none 0 0, .slice none 0 0, .slice none 0 0, .slice none 0 0, .slice none 0 0, .slice none 0 0, .int .i64 0, .int .i64 0] 44)
  have hz := heap_alloc_new w (.cells #[.slice none 0 0, .slice none 0 0, .slice none 0 0, .slice none 0 0, .slice none 0 0, .slice none 0 0, .slice none 0 0, .slice none 0 0, .int .i64 0, .int .i64 0] 44)
  go_enter Try.func17, Try.ntmps17
  go_wp2_with fail
  refine mo_end (fn := Try.f17) rfl w.heap.size rfl hz ?_
  exact ⟨⟨_, rfl, _, _, _, _, _, _, _, _, rfl, mp0_ms _⟩, q⟩
end Go.Proofs.Ytempgcnpfjhacaa.Gf
