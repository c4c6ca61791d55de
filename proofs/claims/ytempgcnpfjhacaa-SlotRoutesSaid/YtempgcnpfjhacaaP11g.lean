/- What is proved here: Waste of the program. -/
import Derived.Test.YtempgcnpfjhacaaP11f
import Derived.Deep.CutRange
namespace Go.Proofs.Ytempgcnpfjhacaa.Gf
open Go Go.Joins Go.ChangeShapes Go.WideShapes Go.ChangeAt Go.RowKit Go.Deep Go.Proofs.Ytempgcnpfjhacaa.By Go.Proofs.Ytempgcnpfjhacaa.Qt

/-- Items stay where the block of a map is written. -/
theorem it_keepM {Y Y' : World} {p : Nat} {cs0 : Array Value} {T : TypeId} {v : Value} {L : List Itm} (s : It Y v L) (hz : Y.heap[p]? = some (.cells cs0 T (0, 0))) (hn : ∀ (k : Nat) (n : Int), cs0[k]? ≠ some (Value.int .u64 n)) (hk : ∀ b, b ≠ p → Y'.heap[b]? = Y.heap[b]?) : It Y' v L := by
  obtain ⟨h0, a, cap, h1, h2, h3, h4⟩ := s
  refine ⟨h0, a, cap, h1, h2, h3, fun hp => ?_⟩
  obtain ⟨b, off, e, hc⟩ := h4 hp
  refine ⟨b, off, e, fun j u hu => ?_⟩
  have hb : b ≠ p := fun e => by
    subst e
    match L, hp, hc with
    | x :: L, _, hc =>
      have h := hc 0 (.int .u64 (x.key : Int)) (by simp [cellsT, itV])
      rw [cell_of_row _ _ _ _ _ _ hz] at h
      exact hn _ _ h
  rw [← hc j u hu]
  simp only [World.cell?, hk b hb]
theorem zero_u64 : ∀ (k : Nat) (n : Int), (#[.slice none 0 0, .slice none 0 0, .slice none 0 0, .slice none 0 0, .slice none 0 0, .slice none 0 0, .slice none 0 0, .slice none 0 0, .int .i64 0, .int .i64 0] : Array Value)[k]? ≠ some (Value.int .u64 n) := fun k n h => by
  match k, h with
  | 0, h => simp at h
  | 1, h => simp at h
  | 2, h => simp at h
  | 3, h => simp at h
  | 4, h => simp at h
  | 5, h => simp at h
  | 6, h => simp at h
  | 7, h => simp at h
  | 8, h => simp at h
  | 9, h => simp at h
  | k + 10, h => simp at h
theorem ms_setRowZ {Y : World} {p : Nat} {vs : List Value} {m : Mp} {cs : Array Value} (h : Ms Y vs m) (hz : Y.heap[p]? = some (.cells #[.slice none 0 0, .slice none 0 0, .slice none 0 0, .slice none 0 0, .slice none 0 0, .slice none 0 0, .slice none 0 0, .slice none 0 0, .int .i64 0, .int .i64 0] 44 (0, 0))) : Ms (Y.setRow p cs) vs m := ⟨h.1, h.2.1, h.2.2.1, fun k hk => by
  obtain ⟨a, c, h1, h2⟩ := h.2.2.2 k hk
  exact ⟨a, c, h1, it_keepM h2 hz zero_u64 fun b hb => setRow_other _ _ _ _ hb⟩⟩
/-- A call that answers a map. -/
def MO (w : World) (m : Mp) (e : Ending) (w' : World) : Prop := (∃ v, e = .returned v ∧ Mv w' v m) ∧ Below w.heap.size w w'
theorem mo_end {fn : Func} {p : Tmp} {R : Ending → World → Prop} {W : World} {tmps : Array Value} {s0 s1 s2 s3 s4 s5 s6 s7 s8 s9 : Value} (hr : fn.results = #[.cell p 44]) (g : Nat) (hp : tmps.getD p undef = .pointer (some ⟨g, 0, none⟩)) (hg : W.heap[g]? = some (.cells #[s0, s1, s2, s3, s4, s5, s6, s7, s8, s9] 44 (0, 0)))
    (hR : R (.returned (.agg #[s0, s1, s2, s3, s4, s5, s6, s7, s8, s9])) W) : bodyPost Try.prog fn R .ret { tmps := tmps, defers := [] } W :=
  bodyPost_ret (results_cell_row hr _ _ g 44 #[s0, s1, s2, s3, s4, s5, s6, s7, s8, s9] (0, 0) _ hp hg Try.underlying44 rfl infoM10) rfl hR
end Go.Proofs.Ytempgcnpfjhacaa.Gf
