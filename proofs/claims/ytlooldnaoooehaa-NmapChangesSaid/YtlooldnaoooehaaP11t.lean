/- What is proved here: what From wants: New's stripes, the mathematics of its first loop, stripes in a box. -/
import Derived.Test.YtlooldnaoooehaaP11s
namespace Go.Proofs.Ytlooldnaoooehaa.Gf
open Go Go.Joins Go.ChangeShapes Go.WideShapes Go.ChangeAt Go.RowKit Go.Deep Go.Proofs.Ytlooldnaoooehaa.By Go.Proofs.Ytlooldnaoooehaa.Qt

/-- New answers stripes that are nil. -/
def NewO (w : World) (e : Ending) (w' : World) : Prop := e = .returned (.agg #[.slice none 0 0, .slice none 0 0, .slice none 0 0, .slice none 0 0, .slice none 0 0, .slice none 0 0, .slice none 0 0, .slice none 0 0, .int .i64 0, .int .i64 0]) ∧ Below w.heap.size w w'
theorem pnew_nil (w : World) : Calls Try.prog 34 #[] w (NewO w) := by
  have q := bel_al w (.cells #[.slice none 0 0, .slice none 0 0, .slice none 0 0, .slice none 0 0, .slice none 0 0, .slice none 0 0, .slice none 0 0, .slice none 0 0, .int .i64 0, .int .i64 0] 32)
  have hz := heap_alloc_new w (.cells #[.slice none 0 0, .slice none 0 0, .slice none 0 0, .slice none 0 0, .slice none 0 0, .slice none 0 0, .slice none 0 0, .slice none 0 0, .int .i64 0, .int .i64 0] 32)
  go_enter Try.func34, Try.ntmps34
  go_wp2_with fail
  refine mo_end (fn := Try.f34) rfl w.heap.size rfl hz ?_
  exact ⟨rfl, q⟩
/-- One more item goes to its stripe. -/
theorem split_snoc (L : List Itm) (x : Itm) : splitM (L ++ [x]) = (splitM L).set (sp x.key) (fS (sp x.key) L ++ [x]) := by
  refine st_ext (split_len _) (by rw [List.length_set]; exact split_len _) fun s hs => ?_
  rw [split_get _ hs, List.getD_eq_getElem?_getD]
  by_cases e : sp x.key = s
  · subst e
    rw [List.getElem?_set_self (by rw [split_len]; exact hs)]
    simp [fS, List.filter_append]
  · rw [List.getElem?_set_ne e, ← List.getD_eq_getElem?_getD, split_get _ hs]
    unfold fS
    rw [List.filter_append, List.filter_cons_of_neg (by simpa using e), List.filter_nil, List.append_nil]
theorem ows_nil (w : World) (base : Nat) : OwS w base [.slice none 0 0, .slice none 0 0, .slice none 0 0, .slice none 0 0, .slice none 0 0, .slice none 0 0, .slice none 0 0, .slice none 0 0] (splitM []) where
  own := fun k hk => by
    refine ⟨.slice none 0 0, ?_, ?_⟩
    · obtain rfl | rfl | rfl | rfl | rfl | rfl | rfl | rfl : k = 0 ∨ k = 1 ∨ k = 2 ∨ k = 3 ∨ k = 4 ∨ k = 5 ∨ k = 6 ∨ k = 7 := by omega
      all_goals rfl
    · rw [split_get _ hk]
      exact owT_nil w base
  apart := fun j k hj hk hjk u v b hu hv hub hvb => by
    have h : ∀ j, j < 8 → ∀ u, [(Value.slice none 0 0), .slice none 0 0, .slice none 0 0, .slice none 0 0, .slice none 0 0, .slice none 0 0, .slice none 0 0, .slice none 0 0][j]? = some u → u = .slice none 0 0 := fun j hj u hu => by
      obtain rfl | rfl | rfl | rfl | rfl | rfl | rfl | rfl : j = 0 ∨ j = 1 ∨ j = 2 ∨ j = 3 ∨ j = 4 ∨ j = 5 ∨ j = 6 ∨ j = 7 := by omega
      all_goals exact (Option.some.inj hu).symm
    rw [h j hj u hu] at hub
    cases hub
/-- Stripes that lie above the box, behind a store into the box. -/
theorem OwS.store {w : World} {g i : Nat} {vs : List Value} {Ls : List (List Itm)} (h : OwS w (g + 1) vs Ls) (v : Value) : OwS (w.setCell ⟨g, i, none⟩ v) (g + 1) vs Ls := ⟨fun k hk => by
  obtain ⟨x, h1, h2⟩ := h.own k hk
  exact ⟨x, h1, owT_keep h2 fun b hb => heap_setCell_other _ _ _ _ (show b ≠ g by have := (owT_lt h2 b hb).1; omega)⟩, h.apart⟩
/-- A map that does not lie in the box is what it was behind a store of the whole box. -/
theorem ms_setRowM {w : World} {p : Nat} {t0 t1 t2 t3 t4 t5 t6 t7 d0 d1 d2 d3 d4 d5 d6 d7 : Value} {m m' : Mp} {l g : Int} (h : Ms w [t0, t1, t2, t3, t4, t5, t6, t7] m) (hd : Ms w [d0, d1, d2, d3, d4, d5, d6, d7] m') (hp : w.heap[p]? = some (.cells #[d0, d1, d2, d3, d4, d5, d6, d7, .int .i64 l, .int .i64 g] 32 (0, 0))) (cs : Array Value) : Ms (w.setRow p cs) [t0, t1, t2, t3, t4, t5, t6, t7] m := ⟨h.1, h.2.1, h.2.2.1, fun k hk => by
  obtain ⟨a, c, h1, h2⟩ := h.2.2.2 k hk
  exact ⟨a, c, h1, it_keepM h2 hp (ms_u64 hd l g) fun b hb => setRow_other _ _ _ _ hb⟩⟩
end Go.Proofs.Ytlooldnaoooehaa.Gf
