/- What is proved here: slices of numbers of the call's own, and append to them. No condition. -/
import Derived.Test.YtihjfnlimdcmkaaDoorU8
namespace Go.Proofs.YtihjfnlimdcmkaaDoor.Gf
open Go Go.Joins Go.ChangeShapes Go.WideShapes Go.ChangeAt Go.RowKit Go.Deep Go.Proofs.YtihjfnlimdcmkaaDoor.By

theorem infoU : (Tryd.prog.info? 38).map (fun i => (i.zero, i.size, i.bytes)) = some (some (.int .u64 0), 1, 8) := by kernel_rfl
def cellsN (l : List Nat) : List Value := l.map fun (b : Nat) => Value.int .u64 (b : Int)
theorem cellsN_length (l : List Nat) : (cellsN l).length = l.length := by simp [cellsN]
theorem cellsN_append (l m : List Nat) : cellsN (l ++ m) = cellsN l ++ cellsN m := by simp [cellsN]
theorem cellsN_one (l : List Nat) : ∀ u ∈ cellsN l, u.oneCell' = true := fun u hu => by
  simp only [cellsN, List.mem_map] at hu
  obtain ⟨b, _, rfl⟩ := hu
  rfl
/-- The slice v is the call's own and holds the numbers l. -/
def OwU (w : World) (base : Nat) (v : Value) (l : List Nat) : Prop := (∀ b ∈ l, b < 18446744073709551616) ∧ w.ownsRow base 38 1 v l.length (cellsN l)
theorem owU_su {w : World} {base : Nat} {v : Value} {l : List Nat} (h : OwU w base v l) : Su w v l := by
  obtain ⟨h0, _, ⟨rfl, h1⟩ | ⟨g, cap, cur, rfl, hg, hb, hn, hm, hsz, ht⟩⟩ := h
  · obtain rfl := List.eq_nil_of_length_eq_zero h1
    exact ⟨by simp, none, 0, rfl, Nat.le_refl _, by simp, fun h => by simp at h⟩
  · refine ⟨h0, _, _, rfl, hn, hm, fun _ => ⟨g, 0, rfl, fun k hk => ?_⟩⟩
    rw [Nat.zero_add, cell_of_row w g k cur _ (0, 0) hb]
    have e := congrArg (·[k]?) ht
    simp only [Nat.mul_one, List.getElem?_take, hk, if_true, cellsN, List.getElem?_map] at e
    simpa [List.getD, hk] using e
theorem owU_lt {w : World} {base : Nat} {v : Value} {l : List Nat} (h : OwU w base v l) : ∀ k, v.ownBlock = some k → base ≤ k ∧ k < w.heap.size := h.2.lt
theorem owU_keep {w w' : World} {base : Nat} {v : Value} {l : List Nat} (h : OwU w base v l) (hk : ∀ k, v.ownBlock = some k → w'.heap[k]? = w.heap[k]?) : OwU w' base v l := by
  obtain ⟨h0, h1, h2 | ⟨g, cap, cur, rfl, hg, hb, h3⟩⟩ := h
  · exact ⟨h0, h1, Or.inl h2⟩
  · exact ⟨h0, h1, Or.inr ⟨g, cap, cur, rfl, hg, (hk g rfl).trans hb, h3⟩⟩
theorem owU_below {w w' : World} {base : Nat} {v : Value} {l : List Nat} (h : OwU w base v l) (hB : Below w.heap.size w w') : OwU w' base v l := owU_keep h fun k hk => hB.block _ (owU_lt h k hk).2
theorem owU_form {w : World} {base : Nat} {v : Value} {l : List Nat} (h : OwU w base v l) : ∃ a cap, v = .slice a l.length cap ∧ l.length ≤ cap ∧ cap ≤ maxLen := su_form (owU_su h)
/-- One number in a new block. -/
theorem owU_one {w : World} {x : Nat} (hx : x < 18446744073709551616) : OwU (w.alloc (.cells #[.int .u64 (x : Int)] 38)) w.heap.size (.slice (some ⟨w.heap.size, 0, none⟩) 1 1) [x] :=
  ⟨by simpa using hx, ⟨by simp [cellsN], Or.inr ⟨w.heap.size, 1, _, rfl, Nat.le_refl _, heap_alloc_new _ _, by simp, by unfold maxLen; decide, rfl, rfl⟩⟩⟩
theorem run_app_u {W : World} {base : Nat} {v y : Value} {L M : List Nat} (ty : TypeId) (hv : OwU W base v L) (hx : Su W y M) (hlm : L.length + M.length ≤ 100000000) (hb : base ≤ W.heap.size) :
    ∃ v' w', (Builtin.append_ #[42, 42] ty #[v, y]).run Tryd.prog W = .ok v' w' ∧ OwU w' base v' (L ++ M) ∧ W.grownBy w' v.ownBlock := by
  obtain ⟨i, hi, hz0, hz1, hz2⟩ := info_parts infoU
  obtain ⟨hl, hown⟩ := hv
  obtain ⟨hm, a, cp, rfl, hcp, hcm, hcell⟩ := hx
  have hall : ∀ x ∈ L ++ M, x < 18446744073709551616 := fun x hx => (List.mem_append.1 hx).elim (hl x) (hm x)
  have some_case : ∀ (a : Addr), (∀ j u, (cellsN M)[j]? = some u → W.cell? (a.add j) = some u) →
      ∃ v' w', (Builtin.append_ #[42, 42] ty #[v, .slice (some a) M.length cp]).run Tryd.prog W = .ok v' w' ∧ OwU w' base v' (L ++ M) ∧ W.grownBy w' v.ownBlock := fun a hc => by
    obtain ⟨v', w', hr, ho, hg, _⟩ := run_append_own (P := Tryd.prog) W base 42 ty 38 i _ 1 8 Tryd.underlying42 hi hz0 hz1 hz2 rfl (by decide) _ _ _ hown a M.length cp (cellsN M) (by rw [cellsN_length, Nat.mul_one]) hc (cellsN_one M) (by unfold maxLen; omega) (by omega) hb
    exact ⟨v', w', hr, ⟨hall, by rw [List.length_append, cellsN_append]; exact ho⟩, hg⟩
  cases a with
  | some a =>
    by_cases hp : 0 < M.length
    · obtain ⟨b, off, e, hc⟩ := hcell hp
      obtain rfl : a = ⟨b, off, none⟩ := by simpa using e
      refine some_case _ fun j u hu => ?_
      simp only [cellsN, List.getElem?_map, Option.map_eq_some_iff] at hu
      obtain ⟨n, hn, rfl⟩ := hu
      have hj : j < M.length := (List.getElem?_eq_some_iff.1 hn).1
      rw [add_none, hc j hj]
      simp [List.getD, hn]
    · obtain rfl : M = [] := List.eq_nil_of_length_eq_zero (by omega)
      exact some_case a fun j u hu => by simp [cellsN] at hu
  | none =>
    have h0 : M = [] := by
      by_cases hp : 0 < M.length
      · obtain ⟨b, off, e, _⟩ := hcell hp
        cases e
      · exact List.eq_nil_of_length_eq_zero (by omega)
    subst h0
    have hsame : W.grownBy W v.ownBlock := ⟨rfl, rfl, rfl, Nat.le_refl _, fun _ _ _ => rfl⟩
    rcases hown.2 with ⟨rfl, h0⟩ | ⟨g', cap, cur, rfl, hg, hbk, hn, hcm, hsz, ht⟩
    · obtain rfl := List.eq_nil_of_length_eq_zero h0
      refine ⟨.slice none 0 0, W, ?_, ⟨by simp, World.ownsRow_nil _ _ _ _⟩, hsame⟩
      simp [Builtin.append_, run_underlying Tryd.underlying42, sizeOf, typeInfo, hi, Builtin.lenOf, Builtin.firstCells]
    · refine ⟨_, W, ?_, by rw [List.append_nil]; exact ⟨hl, hown⟩, hsame⟩
      simp [Builtin.append_, run_underlying Tryd.underlying42, sizeOf, typeInfo, hi, Builtin.lenOf, Builtin.firstCells, loadCells, storeCells, hn]
theorem app_u {ops : Array Oper} {rest : List Oper} {dst : Option Tmp} {s x : Operand} {pos : String} {after : Array Edge} {ty : TypeId} {a : Act} {W : World} {Q : Exit → Act → World → Prop}
    {base : Nat} {v y : Value} {L M : List Nat} (hs : a.eval s = v) (hy : a.eval x = y) (hv : OwU W base v L) (hx : Su W y M) (hlm : L.length + M.length ≤ 100000000) (hb : base ≤ W.heap.size)
    (h : ∀ v' w', OwU w' base v' (L ++ M) → W.grownBy w' v.ownBlock → wpList Tryd.prog ops Q rest (a.put dst v') w') : wpList Tryd.prog ops Q (⟨dst, .call { callee := .builtin .append, args := #[s, x], argTypes := #[42, 42] }, ty, pos, after, none⟩ :: rest) a W := by
  refine wpList_plain rfl fun K hK => ?_
  obtain ⟨v', w', hr, h2, h3⟩ := run_app_u ty hv hx hlm hb
  unfold Oper.wp execOp
  simp only [resolve, invoke, builtin, Sem.run_bind, Sem.run_pure, Result.andThen_ok, List.map_toArray, List.map_cons, List.map_nil, hs, hy, hr]
  exact hK _ _ (h v' w' h2 h3)
theorem below_grownU {B : Nat} {a w w' : World} {base : Nat} {v : Value} {L : List Nat} (h : Below B a w) (hg : w.grownBy w' v.ownBlock) (ho : OwU w base v L) (hB : B ≤ w.heap.size) (hb : B ≤ base) : Below B a w' :=
  h.grown hg hB (fun k hk => Nat.le_trans hb (owU_lt ho k hk).1)
theorem owU_base {w : World} {base b2 : Nat} {v : Value} {L : List Nat} (h : OwU w base v L) (hb : b2 ≤ base) : OwU w b2 v L := by
  obtain ⟨h0, h1, h2 | ⟨g, cap, cur, rfl, hg, h3⟩⟩ := h
  · exact ⟨h0, h1, Or.inl h2⟩
  · exact ⟨h0, h1, Or.inr ⟨g, cap, cur, rfl, by omega, h3⟩⟩
end Go.Proofs.YtihjfnlimdcmkaaDoor.Gf
