/- What is proved here: add of the program: both counters changed, or too much garbage. -/
import Derived.Test.YtempgcnpfjhacaaP11e
namespace Go.Proofs.Ytempgcnpfjhacaa.Gf
open Go Go.Joins Go.ChangeShapes Go.WideShapes Go.ChangeAt Go.RowKit Go.Deep Go.Proofs.Ytempgcnpfjhacaa.By Go.Proofs.Ytempgcnpfjhacaa.Qt

theorem infoM10 : (Try.prog.info? 44).map (·.size) = some 10 := by kernel_rfl
/-- A store of a whole map. -/
theorem storeM {ops : Array Oper} {rest : List Oper} {x y : Operand} {pos : String} {after : Array Edge} {ty : TypeId} {a : Act} {w : World} {Q : Exit → Act → World → Prop}
    (g : Nat) (old cs : Array Value) (hx : a.eval x = .pointer (some ⟨g, 0, none⟩)) (hy : a.eval y = .agg cs) (hg : w.heap[g]? = some (.cells old 44 (0, 0))) (ho : old.size = 10) (hs : cs.size = 10) (h1 : cs.all (·.oneCell') = true)
    (h : wpList Try.prog ops Q rest a (w.setRow g cs)) : wpList Try.prog ops Q (⟨none, .store 44 x y, ty, pos, after, none⟩ :: rest) a w :=
  wpList_store_row rfl 44 x y rfl g cs hx hy 44 old hg (by rw [infoM10, hs]) (by omega) h1 h
theorem ms_one {w : World} {s0 s1 s2 s3 s4 s5 s6 s7 : Value} {m : Mp} (h : Ms w [s0, s1, s2, s3, s4, s5, s6, s7] m) (l g : Int) : (#[s0, s1, s2, s3, s4, s5, s6, s7, .int .i64 l, .int .i64 g] : Array Value).all (·.oneCell') = true := by
  obtain ⟨a0, c0, h0, -⟩ := h.2.2.2 0 (by decide)
  obtain ⟨a1, c1, h1, -⟩ := h.2.2.2 1 (by decide)
  obtain ⟨a2, c2, h2, -⟩ := h.2.2.2 2 (by decide)
  obtain ⟨a3, c3, h3, -⟩ := h.2.2.2 3 (by decide)
  obtain ⟨a4, c4, h4, -⟩ := h.2.2.2 4 (by decide)
  obtain ⟨a5, c5, h5, -⟩ := h.2.2.2 5 (by decide)
  obtain ⟨a6, c6, h6, -⟩ := h.2.2.2 6 (by decide)
  obtain ⟨a7, c7, h7, -⟩ := h.2.2.2 7 (by decide)
  simp at h0 h1 h2 h3 h4 h5 h6 h7
  subst h0 h1 h2 h3 h4 h5 h6 h7
  simp [show ∀ a n c, (Value.slice a n c).oneCell' = true from fun _ _ _ => rfl, show ∀ k x, (Value.int k x).oneCell' = true from fun _ _ => rfl]
theorem below_setRowM {B g : Nat} {w0 w : World} (h : Below B w0 w) (hg : B ≤ g) (cs : Array Value) : Below B w0 (w.setRow g cs) := h.trans ⟨rfl, rfl, rfl, by simp, fun k hk => setRow_other _ _ _ _ (by omega)⟩
end Go.Proofs.Ytempgcnpfjhacaa.Gf
