/- What is proved here: slices of items as lists: reading them, slicing them, appending to them. No condition beyond the program's types. -/
import Derived.Test.YtihjfnlimdcmkaaDoorM8
import Derived.Test.YtihjfnlimdcmkaaDoorRo
import Derived.OwnWalk
import Derived.IntWalk
import Derived.BigQuiet
import Derived.StillTailTactics
namespace Go.Proofs.YtihjfnlimdcmkaaDoor.Gf
open Go Go.Joins Go.ChangeShapes Go.WideShapes Go.ChangeAt Go.RowKit Go.Deep Go.Proofs.YtihjfnlimdcmkaaDoor.By

theorem infoT : (Tryd.prog.info? 41).map (fun i => (i.zero, i.size, i.bytes)) = some (some (.agg #[.int .u64 0, .int .u32 0, .int .i64 0, .int .i64 0]), 4, 32) := by kernel_rfl
theorem infoT4 : (Tryd.prog.info? 41).map (·.size) = some 4 := by kernel_rfl
def J64 (n : Int) : Prop := -9223372036854775808 ≤ n ∧ n ≤ 9223372036854775807
structure ItOk (x : Itm) : Prop where
  key : x.key < 18446744073709551616
  ck : x.ck < 4294967296
  off : J64 x.off
  sz : J64 x.sz
theorem z0_ok : ItOk z0 := ⟨by decide, by decide, by unfold J64; decide, by unfold J64; decide⟩
def itV (x : Itm) : List Value := [.int .u64 (x.key : Int), .int .u32 (x.ck : Int), .int .i64 x.off, .int .i64 x.sz]
/-- An item as a value. -/
def TV (x : Itm) : Value := .agg #[.int .u64 (x.key : Int), .int .u32 (x.ck : Int), .int .i64 x.off, .int .i64 x.sz]
def cellsT (L : List Itm) : List Value := L.flatMap itV
theorem cellsT_append (L M : List Itm) : cellsT (L ++ M) = cellsT L ++ cellsT M := by simp [cellsT]
theorem cellsT_cons (x : Itm) (L : List Itm) : cellsT (x :: L) = itV x ++ cellsT L := by simp [cellsT]
theorem cellsT_length : ∀ (L : List Itm), (cellsT L).length = L.length * 4
  | [] => rfl
  | x :: L => by rw [cellsT_cons, List.length_append, cellsT_length L, List.length_cons]; simp [itV]; omega
theorem cellsT_one : ∀ (L : List Itm), ∀ u ∈ cellsT L, u.oneCell' = true := fun L u hu => by
  simp only [cellsT, List.mem_flatMap] at hu
  obtain ⟨x, -, hx⟩ := hu
  simp only [itV, List.mem_cons, List.not_mem_nil, or_false] at hx
  rcases hx with rfl | rfl | rfl | rfl <;> rfl
theorem cellsT_at : ∀ (L : List Itm) (k j : Nat), k < L.length → j < 4 → (cellsT L)[k * 4 + j]? = (itV (L.getD k z0))[j]?
  | [], k, _, h, _ => by simp at h
  | x :: L, 0, j, _, hj => by
    rw [cellsT_cons, Nat.zero_mul, Nat.zero_add, List.getElem?_append_left (by simpa [itV] using hj)]
    rfl
  | x :: L, k + 1, j, h, hj => by
    have ih := cellsT_at L k j (by simpa using h) hj
    rw [cellsT_cons, List.getElem?_append_right (by simp [itV]; omega), show (k + 1) * 4 + j - (itV x).length = k * 4 + j by simp [itV]; omega, ih]
    rfl
theorem cellsT_drop : ∀ (L : List Itm) (p : Nat), (cellsT L).drop (p * 4) = cellsT (L.drop p)
  | [], p => by simp [cellsT]
  | x :: L, 0 => by simp
  | x :: L, p + 1 => by
    rw [cellsT_cons, List.drop_succ_cons, ← cellsT_drop L p, show (p + 1) * 4 = 4 + p * 4 by omega, ← List.drop_drop]
    rfl
theorem cellsT_take : ∀ (L : List Itm) (p : Nat), (cellsT L).take (p * 4) = cellsT (L.take p)
  | [], p => by simp [cellsT]
  | x :: L, 0 => by simp [cellsT]
  | x :: L, p + 1 => by
    rw [cellsT_cons, List.take_succ_cons, cellsT_cons, ← cellsT_take L p, show (p + 1) * 4 = 4 + p * 4 by omega]
    exact List.take_length_add_append (l₁ := itV x) (p * 4)
/-- The slice value v reads as the items L. -/
def It (w : World) (v : Value) (L : List Itm) : Prop :=
  (∀ x ∈ L, ItOk x) ∧ ∃ a cap, v = .slice a L.length cap ∧ L.length ≤ cap ∧ cap ≤ maxLen ∧ (0 < L.length → ∃ b off, a = some ⟨b, off, none⟩ ∧ ∀ j u, (cellsT L)[j]? = some u → w.cell? ⟨b, off + j, none⟩ = some u)
theorem it_nil (w : World) : It w (.slice none 0 0) [] := ⟨by simp, none, 0, rfl, Nat.le_refl _, by simp, fun h => by simp at h⟩
theorem it_form {w : World} {v : Value} {L : List Itm} (h : It w v L) : ∃ a cap, v = .slice a L.length cap ∧ L.length ≤ cap ∧ cap ≤ maxLen := by
  obtain ⟨_, a, cap, h1, h2, h3, _⟩ := h
  exact ⟨a, cap, h1, h2, h3⟩
theorem it_below {w w' : World} {v : Value} {L : List Itm} (h : It w v L) (hB : Below w.heap.size w w') : It w' v L := by
  obtain ⟨h0, a, cap, h1, h2, h3, h4⟩ := h
  refine ⟨h0, a, cap, h1, h2, h3, fun hp => ?_⟩
  obtain ⟨b, off, e, hc⟩ := h4 hp
  exact ⟨b, off, e, fun j u hu => (hB.cell (block_lt_of_cell (hc j u hu))).trans (hc j u hu)⟩
theorem getT_ok {L : List Itm} (h : ∀ x ∈ L, ItOk x) (k : Nat) : ItOk (L.getD k z0) := by
  by_cases hk : k < L.length
  · exact h _ (getT_mem hk)
  · rw [show L.getD k z0 = z0 by simp [List.getD, hk]]; exact z0_ok
/-- The four cells of an item. -/
structure C4 (w : World) (b o : Nat) (x : Itm) : Prop where
  c0 : w.cell? ⟨b, o, none⟩ = some (.int .u64 (x.key : Int))
  c1 : w.cell? ⟨b, o + 1, none⟩ = some (.int .u32 (x.ck : Int))
  c2 : w.cell? ⟨b, o + 2, none⟩ = some (.int .i64 x.off)
  c3 : w.cell? ⟨b, o + 3, none⟩ = some (.int .i64 x.sz)
theorem C4.below {w w' : World} {b o : Nat} {x : Itm} (h : C4 w b o x) (hB : Below w.heap.size w w') : C4 w' b o x :=
  ⟨(hB.cell (block_lt_of_cell h.c0)).trans h.c0, (hB.cell (block_lt_of_cell h.c1)).trans h.c1, (hB.cell (block_lt_of_cell h.c2)).trans h.c2, (hB.cell (block_lt_of_cell h.c3)).trans h.c3⟩
theorem it_cells {w : World} {v : Value} {L : List Itm} (h : It w v L) (hp : 0 < L.length) : ∃ b off cap, v = .slice (some ⟨b, off, none⟩) L.length cap ∧ L.length ≤ cap ∧ cap ≤ maxLen ∧ ∀ k, k < L.length → C4 w b (off + k * 4) (L.getD k z0) := by
  obtain ⟨_, a, cap, h1, h2, h3, h4⟩ := h
  obtain ⟨b, off, rfl, hc⟩ := h4 hp
  refine ⟨b, off, cap, h1, h2, h3, fun k hk => ?_⟩
  have f : ∀ j u, j < 4 → (itV (L.getD k z0))[j]? = some u → w.cell? ⟨b, off + (k * 4 + j), none⟩ = some u := fun j u hj hu => hc _ u (by rw [cellsT_at L k j hk hj]; exact hu)
  exact ⟨f 0 _ (by decide) rfl, by rw [Nat.add_assoc]; exact f 1 _ (by decide) rfl, by rw [Nat.add_assoc]; exact f 2 _ (by decide) rfl, by rw [Nat.add_assoc]; exact f 3 _ (by decide) rfl⟩
/-- A part of a list. -/
theorem it_cut {w : World} {b o n cap : Nat} {L : List Itm} (h : It w (.slice (some ⟨b, o, none⟩) n cap) L) (p c : Nat) (hpc : p + c ≤ L.length) : It w (.slice (some ⟨b, o + p * 4, none⟩) c (cap - p)) ((L.drop p).take c) := by
  obtain ⟨h0, a, cap', h1, h2, h3, h4⟩ := h
  obtain ⟨rfl, rfl, rfl⟩ : a = some ⟨b, o, none⟩ ∧ n = L.length ∧ cap' = cap := by simpa [eq_comm] using h1
  have hl : ((L.drop p).take c).length = c := by rw [List.length_take, List.length_drop]; omega
  refine ⟨fun x hx => h0 x (List.mem_of_mem_drop (List.mem_of_mem_take hx)), _, _, by rw [hl], by rw [hl]; omega, by omega, fun hp => ?_⟩
  rw [hl] at hp
  obtain ⟨b', o', e, hc⟩ := h4 (by omega)
  obtain ⟨rfl, rfl⟩ : b = b' ∧ o = o' := by simpa using e
  refine ⟨b, o + p * 4, rfl, fun j u hu => ?_⟩
  rw [Nat.add_assoc]
  refine hc _ u ?_
  rw [← cellsT_take, ← cellsT_drop] at hu
  rw [List.getElem?_take] at hu
  split at hu
  · rwa [List.getElem?_drop] at hu
  · cases hu
theorem it_empty {w : World} (a : Option Addr) (cap : Nat) (h : cap ≤ maxLen) : It w (.slice a 0 cap) [] := ⟨by simp, a, cap, rfl, Nat.zero_le _, h, fun h => by simp at h⟩
theorem it_one {w : World} {g : Nat} {x : Itm} {fr : Nat × Nat} (hx : ItOk x) (hg : w.heap[g]? = some (.cells #[.int .u64 (x.key : Int), .int .u32 (x.ck : Int), .int .i64 x.off, .int .i64 x.sz] 41 fr)) : It w (.slice (some ⟨g, 0, none⟩) 1 1) [x] := by
  refine ⟨by simpa using hx, _, _, rfl, Nat.le_refl _, by unfold maxLen; decide, fun _ => ⟨g, 0, rfl, fun j u hu => ?_⟩⟩
  rw [Nat.zero_add, cell_of_row w g j _ _ _ hg]
  simpa [cellsT, itV] using hu
/-- The slice v is the call's own and holds the items L. -/
def OwT (w : World) (base : Nat) (v : Value) (L : List Itm) : Prop := (∀ x ∈ L, ItOk x) ∧ w.ownsRow base 41 4 v L.length (cellsT L)
theorem owT_nil (w : World) (base : Nat) : OwT w base (.slice none 0 0) [] := ⟨by simp, World.ownsRow_nil _ _ _ _⟩
theorem owT_it {w : World} {base : Nat} {v : Value} {L : List Itm} (h : OwT w base v L) : It w v L := by
  obtain ⟨h0, _, ⟨rfl, h1⟩ | ⟨g, cap, cur, rfl, hg, hb, hn, hm, hsz, ht⟩⟩ := h
  · obtain rfl := List.eq_nil_of_length_eq_zero h1
    exact it_nil w
  · refine ⟨h0, _, _, rfl, hn, hm, fun _ => ⟨g, 0, rfl, fun j u hu => ?_⟩⟩
    rw [Nat.zero_add, cell_of_row w g j cur _ (0, 0) hb]
    rw [← ht, List.getElem?_take] at hu
    split at hu
    · simpa using hu
    · cases hu
theorem owT_form {w : World} {base : Nat} {v : Value} {L : List Itm} (h : OwT w base v L) : ∃ a cap, v = .slice a L.length cap ∧ L.length ≤ cap ∧ cap ≤ maxLen := it_form (owT_it h)
theorem owT_lt {w : World} {base : Nat} {v : Value} {L : List Itm} (h : OwT w base v L) : ∀ k, v.ownBlock = some k → base ≤ k ∧ k < w.heap.size := h.2.lt
theorem owT_keep {w w' : World} {base : Nat} {v : Value} {L : List Itm} (h : OwT w base v L) (hk : ∀ k, v.ownBlock = some k → w'.heap[k]? = w.heap[k]?) : OwT w' base v L := by
  obtain ⟨h0, h1, h2 | ⟨g, cap, cur, rfl, hg, hb, h3⟩⟩ := h
  · exact ⟨h0, h1, Or.inl h2⟩
  · exact ⟨h0, h1, Or.inr ⟨g, cap, cur, rfl, hg, (hk g rfl).trans hb, h3⟩⟩
theorem owT_below {w w' : World} {base : Nat} {v : Value} {L : List Itm} (h : OwT w base v L) (hB : Below w.heap.size w w') : OwT w' base v L := owT_keep h fun k hk => hB.block _ (owT_lt h k hk).2
theorem owT_base {w : World} {base b2 : Nat} {v : Value} {L : List Itm} (h : OwT w base v L) (hb : b2 ≤ base) : OwT w b2 v L := by
  obtain ⟨h0, h1, h2 | ⟨g, cap, cur, rfl, hg, h3⟩⟩ := h
  · exact ⟨h0, h1, Or.inl h2⟩
  · exact ⟨h0, h1, Or.inr ⟨g, cap, cur, rfl, by omega, h3⟩⟩
/-- The first k items of one's own slice, which go on having its room. -/
theorem owT_take {w : World} {base n cap k : Nat} {a : Option Addr} {L : List Itm} (h : OwT w base (.slice a n cap) L) (hk : k ≤ L.length) : OwT w base (.slice a k cap) (L.take k) := by
  have hl : (L.take k).length = k := by rw [List.length_take]; omega
  obtain ⟨h0, h1, ⟨h2, h3⟩ | ⟨g, cap', cur, h2, hg, hb, hn, hm, hsz, ht⟩⟩ := h
  · obtain rfl : k = 0 := by omega
    obtain ⟨rfl, rfl, rfl⟩ : a = none ∧ n = 0 ∧ cap = 0 := by simpa using h2
    rw [List.take_zero]
    exact owT_nil w base
  · obtain ⟨rfl, rfl, rfl⟩ : a = some ⟨g, 0, none⟩ ∧ n = L.length ∧ cap = cap' := by simpa using h2
    refine ⟨fun x hx => h0 x (List.mem_of_mem_take hx), by rw [cellsT_length], Or.inr ⟨g, cap, cur, by rw [hl], hg, hb, by rw [hl]; omega, hm, hsz, ?_⟩⟩
    rw [hl, ← cellsT_take, ← ht, List.take_take, Nat.min_eq_left (by omega)]
/-- append of items. -/
theorem run_app_it {W : World} {base : Nat} {v y : Value} {L M : List Itm} (ty : TypeId) (hv : OwT W base v L) (hx : It W y M) (hlm : L.length + M.length ≤ 100000000) (hb : base ≤ W.heap.size) :
    ∃ v' w', (Builtin.append_ #[22, 22] ty #[v, y]).run Tryd.prog W = .ok v' w' ∧ OwT w' base v' (L ++ M) ∧ W.grownBy w' v.ownBlock := by
  obtain ⟨i, hi, hz0, hz1, hz2⟩ := info_parts infoT
  obtain ⟨hl, hown⟩ := hv
  obtain ⟨hm, a, cp, rfl, hcp, hcm, hcell⟩ := hx
  have hall : ∀ x ∈ L ++ M, ItOk x := fun x hx => (List.mem_append.1 hx).elim (hl x) (hm x)
  have some_case : ∀ (a : Addr), (∀ j u, (cellsT M)[j]? = some u → W.cell? (a.add j) = some u) →
      ∃ v' w', (Builtin.append_ #[22, 22] ty #[v, .slice (some a) M.length cp]).run Tryd.prog W = .ok v' w' ∧ OwT w' base v' (L ++ M) ∧ W.grownBy w' v.ownBlock := fun a hc => by
    obtain ⟨v', w', hr, ho, hg, _⟩ := run_append_own (P := Tryd.prog) W base 22 ty 41 i _ 4 32 Tryd.underlying22 hi hz0 hz1 hz2 rfl (by decide) _ _ _ hown a M.length cp (cellsT M) (cellsT_length M) hc (cellsT_one M) (by unfold maxLen; omega) (by omega) hb
    exact ⟨v', w', hr, ⟨hall, by rw [List.length_append, cellsT_append]; exact ho⟩, hg⟩
  cases a with
  | some a =>
    by_cases hp : 0 < M.length
    · obtain ⟨b, off, e, hc⟩ := hcell hp
      obtain rfl : a = ⟨b, off, none⟩ := by simpa using e
      exact some_case _ fun j u hu => by rw [add_none]; exact hc j u hu
    · obtain rfl : M = [] := List.eq_nil_of_length_eq_zero (by omega)
      exact some_case a fun j u hu => by simp [cellsT] at hu
  | none =>
    have h0 : M = [] := by
      by_cases hp : 0 < M.length
      · obtain ⟨b, off, e, _⟩ := hcell hp
        cases e
      · exact List.eq_nil_of_length_eq_zero (by omega)
    subst h0
    have hsame : W.grownBy W v.ownBlock := ⟨rfl, rfl, rfl, Nat.le_refl _, fun _ _ _ => rfl⟩
    rcases hown.2 with ⟨rfl, h0⟩ | ⟨g', cap, cur, rfl, hg, hbk, hn, hcm, hsz, ht⟩
    · obtain rfl := List.eq_nil_of_length_eq_zero h0
      refine ⟨.slice none 0 0, W, ?_, owT_nil W base, hsame⟩
      simp [Builtin.append_, run_underlying Tryd.underlying22, sizeOf, typeInfo, hi, Builtin.lenOf, Builtin.firstCells]
    · refine ⟨_, W, ?_, by rw [List.append_nil]; exact ⟨hl, hown⟩, hsame⟩
      simp [Builtin.append_, run_underlying Tryd.underlying22, sizeOf, typeInfo, hi, Builtin.lenOf, Builtin.firstCells, loadCells, storeCells, hn]
theorem wp_app_it {dst : Option Tmp} {s x : Operand} {pos : String} {after : Array Edge} {ty : TypeId} {gd : Option (Nat × Bool)} {a : Act} {W : World} {K : Act → World → Prop} {Q : Exit → Act → World → Prop}
    {base : Nat} {v y : Value} {L M : List Itm} (hs : a.eval s = v) (hy : a.eval x = y) (hv : OwT W base v L) (hx : It W y M) (hlm : L.length + M.length ≤ 100000000) (hb : base ≤ W.heap.size)
    (h : ∀ v' w', OwT w' base v' (L ++ M) → W.grownBy w' v.ownBlock → K (a.put dst v') w') : Oper.wp Tryd.prog ⟨dst, .call { callee := .builtin .append, args := #[s, x], argTypes := #[22, 22] }, ty, pos, after, gd⟩ a W K Q := by
  obtain ⟨v', w', hr, h2, h3⟩ := run_app_it ty hv hx hlm hb
  unfold Oper.wp execOp
  simp only [resolve, invoke, builtin, Sem.run_bind, Sem.run_pure, Result.andThen_ok, List.map_toArray, List.map_cons, List.map_nil, hs, hy, hr]
  exact h v' w' h2 h3
theorem app_it {ops : Array Oper} {rest : List Oper} {dst : Option Tmp} {s x : Operand} {pos : String} {after : Array Edge} {ty : TypeId} {a : Act} {W : World} {Q : Exit → Act → World → Prop}
    {base : Nat} {v y : Value} {L M : List Itm} (hs : a.eval s = v) (hy : a.eval x = y) (hv : OwT W base v L) (hx : It W y M) (hlm : L.length + M.length ≤ 100000000) (hb : base ≤ W.heap.size)
    (h : ∀ v' w', OwT w' base v' (L ++ M) → W.grownBy w' v.ownBlock → wpList Tryd.prog ops Q rest (a.put dst v') w') : wpList Tryd.prog ops Q (⟨dst, .call { callee := .builtin .append, args := #[s, x], argTypes := #[22, 22] }, ty, pos, after, none⟩ :: rest) a W :=
  wpList_plain rfl fun _ hK => wp_app_it hs hy hv hx hlm hb fun v' w' h2 h3 => hK _ _ (h v' w' h2 h3)
/-- What stays of a world behind an append. -/
theorem below_grownT {B : Nat} {a w w' : World} {base : Nat} {v : Value} {L : List Itm} (h : Below B a w) (hg : w.grownBy w' v.ownBlock) (ho : OwT w base v L) (hB : B ≤ w.heap.size) (hb : B ≤ base) : Below B a w' :=
  h.grown hg hB (fun k hk => Nat.le_trans hb (owT_lt ho k hk).1)
/-- What an append to another slice leaves. -/
theorem it_grown {w w' : World} {base : Nat} {v y : Value} {L M : List Itm} (h : It w y M) (hg : w.grownBy w' v.ownBlock) (ho : OwT w base v L) (hy : ∀ a n c, y = .slice (some a) n c → 0 < n → a.block < base) : It w' y M := by
  obtain ⟨h0, a, cap, h1, h2, h3, h4⟩ := h
  refine ⟨h0, a, cap, h1, h2, h3, fun hp => ?_⟩
  obtain ⟨b, off, e, hc⟩ := h4 hp
  subst e
  have hlt := hy _ _ _ h1 hp
  refine ⟨b, off, rfl, fun j u hu => ?_⟩
  have c := hc j u hu
  have hbk := hg.block b (block_lt_of_cell c) (fun e => by have := (owT_lt ho _ e.symm).1; simp at hlt; omega)
  rw [← c]
  simp only [World.cell?, hbk]
end Go.Proofs.YtihjfnlimdcmkaaDoor.Gf
