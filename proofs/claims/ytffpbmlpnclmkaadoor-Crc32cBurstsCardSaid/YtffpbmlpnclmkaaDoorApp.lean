/- What is proved here: appending a slice of bytes to a slice that the call owns. Condition: together they are at most 100000 bytes. -/
import Derived.Test.YtffpbmlpnclmkaaDoorW9
import Derived.Deep.AppendSrc
namespace Go.Proofs.YtffpbmlpnclmkaaDoor.Crc
open Go Go.ChangeShapes Go.WideShapes Go.ChangeAt Go.RowKit

/-- Bytes as cells. -/
def cellsOf (l : List Nat) : List Value := l.map fun (b : Nat) => Value.int .u8 (b : Int)
theorem cellsOf_length (l : List Nat) : (cellsOf l).length = l.length := by simp [cellsOf]
theorem cellsOf_append (l m : List Nat) : cellsOf (l ++ m) = cellsOf l ++ cellsOf m := by simp [cellsOf]
theorem cellsOf_one (l : List Nat) : ∀ u ∈ cellsOf l, u.oneCell' = true := fun u hu => by
  simp only [cellsOf, List.mem_map] at hu
  obtain ⟨b, _, rfl⟩ := hu
  rfl
theorem info5 : (Tryd.prog.info? 5).map (fun i => (i.zero, i.size, i.bytes)) = some (some (.int .u8 0), 1, 1) := by kernel_rfl
/-- The slice v is the call's own (its block is numbered from base on) and holds the bytes l. -/
def Own (w : World) (base : Nat) (v : Value) (l : List Nat) : Prop := (∀ b ∈ l, b < 256) ∧ w.ownsRow base 5 1 v l.length (cellsOf l) ∧ ∃ g c, v = .slice (some ⟨g, 0, none⟩) l.length c
theorem Own.sl {w : World} {base : Nat} {v : Value} {l : List Nat} (h : Own w base v l) : Sl w v l := by
  obtain ⟨hl, ⟨_, h1⟩, g, c, rfl⟩ := h
  rcases h1 with ⟨h2, _⟩ | ⟨g', cap, cur, h2, hg, hb, hn, hm, hsz, ht⟩
  · cases h2
  · cases h2
    refine ⟨hl, by omega, Or.inr ⟨g, 0, c, rfl, hn, hm, fun k hk => ?_⟩⟩
    rw [Nat.zero_add, cell_of_row w g k cur 5 (0, 0) hb]
    have e := congrArg (·[k]?) ht
    simp only [Nat.mul_one, List.getElem?_take, hk, if_true, cellsOf, List.getElem?_map] at e
    simpa [List.getD, hk] using e
theorem run_append_sl {W : World} {base : Nat} {v x : Value} {l m : List Nat} (ty : TypeId) (hv : Own W base v l) (hx : Sl W x m) (hlm : l.length + m.length ≤ 100000) (hb : base ≤ W.heap.size) :
    ∃ v' w', (Builtin.append_ #[22, 22] ty #[v, x]).run Tryd.prog W = .ok v' w' ∧ Own w' base v' (l ++ m) ∧ W.grownBy w' v.ownBlock := by
  obtain ⟨i, hi, hz0, hz1, hz2⟩ := info_parts info5
  obtain ⟨hl, hown, g, c, rfl⟩ := hv
  obtain ⟨hm, hmm, hx⟩ := hx
  have hall : ∀ b ∈ l ++ m, b < 256 := fun b hb => by
    rcases List.mem_append.1 hb with h | h
    · exact hl b h
    · exact hm b h
  have fin : ∀ {v' w'}, w'.ownsRow base 5 1 v' (l.length + m.length) (cellsOf l ++ cellsOf m) → ¬ v' = .slice none 0 0 → Own w' base v' (l ++ m) := fun {v' w'} ho hne => by
    have ho' : w'.ownsRow base 5 1 v' (l ++ m).length (cellsOf (l ++ m)) := by rw [List.length_append, cellsOf_append]; exact ho
    refine ⟨hall, ho', ?_⟩
    rcases ho'.2 with ⟨h, _⟩ | ⟨g', cap, _, h, _⟩
    · exact absurd h hne
    · exact ⟨g', cap, h⟩
  have some_case : ∀ (a : Addr) (cp : Nat), (∀ j u, (cellsOf m)[j]? = some u → W.cell? (a.add j) = some u) →
      ∃ v' w', (Builtin.append_ #[22, 22] ty #[.slice (some ⟨g, 0, none⟩) l.length c, .slice (some a) m.length cp]).run Tryd.prog W = .ok v' w' ∧ Own w' base v' (l ++ m) ∧ W.grownBy w' (Value.ownBlock (.slice (some ⟨g, 0, none⟩) l.length c)) := fun a cp hc => by
    obtain ⟨v', w', hr, ho, hg, hn⟩ := run_append_own (P := Tryd.prog) W base 22 ty 5 i (.int .u8 0) 1 1 Tryd.underlying22 hi hz0 hz1 hz2 rfl (by decide) _ _ _ hown a m.length cp (cellsOf m) (by rw [cellsOf_length, Nat.mul_one]) hc (cellsOf_one m) (by unfold maxLen; omega) (by omega) hb
    exact ⟨v', w', hr, fin ho (fun e => by have := (hn.1 e).1; cases this), hg⟩
  rcases hx with ⟨a, cp, rfl, rfl, _⟩ | ⟨b, off, cp, rfl, _, _, hcell⟩
  · cases a with
    | some a => exact some_case a cp (fun j u hu => by simp [cellsOf] at hu)
    | none =>
      rcases hown.2 with ⟨h, _⟩ | ⟨g', cap, cur, h, hg, hbk, hn, hcm, hsz, ht⟩
      · cases h
      · cases h
        refine ⟨.slice (some ⟨g, 0, none⟩) l.length c, W, ?_, by rw [List.append_nil]; exact ⟨hl, hown, g, c, rfl⟩, ⟨rfl, rfl, rfl, Nat.le_refl _, fun _ _ _ => rfl⟩⟩
        simp [Builtin.append_, run_underlying Tryd.underlying22, sizeOf, typeInfo, hi, Builtin.lenOf, Builtin.firstCells, loadCells, storeCells, hn]
  · exact some_case _ cp (fun j u hu => by
      simp only [cellsOf, List.getElem?_map, Option.map_eq_some_iff] at hu
      obtain ⟨n, hn, rfl⟩ := hu
      have hj : j < m.length := (List.getElem?_eq_some_iff.1 hn).1
      have ha : (⟨b, off, none⟩ : Addr).add j = ⟨b, off + j, none⟩ := by unfold Addr.add; split <;> simp_all
      rw [ha, hcell j hj]
      simp [List.getD, hn])
/-- append, as a step of a walk. -/
theorem app_sl {ops : Array Oper} {rest : List Oper} {dst : Option Tmp} {s x : Operand} {pos : String} {after : Array Edge} {ty : TypeId} {a : Act} {W : World} {Q : Exit → Act → World → Prop}
    {base : Nat} {v y : Value} {l m : List Nat} (hs : a.eval s = v) (hy : a.eval x = y) (hv : Own W base v l) (hx : Sl W y m) (hlm : l.length + m.length ≤ 100000) (hb : base ≤ W.heap.size)
    (h : ∀ v' w', Own w' base v' (l ++ m) → W.grownBy w' v.ownBlock → wpList Tryd.prog ops Q rest (a.put dst v') w') : wpList Tryd.prog ops Q (⟨dst, .call { callee := .builtin .append, args := #[s, x], argTypes := #[22, 22] }, ty, pos, after, none⟩ :: rest) a W := by
  refine wpList_plain rfl fun K hK => ?_
  obtain ⟨v', w', hr, h2, h3⟩ := run_append_sl ty hv hx hlm hb
  unfold Oper.wp execOp
  simp only [resolve, invoke, builtin, Sem.run_bind, Sem.run_pure, Result.andThen_ok, List.map_toArray, List.map_cons, List.map_nil, hs, hy, hr]
  exact hK _ _ (h v' w' h2 h3)
/-- An empty slice of the call's own. -/
theorem own_empty (w : World) {base : Nat} (hb : base ≤ w.heap.size) : Own (w.alloc (.cells #[] 5)) base (.slice (some ⟨w.heap.size, 0, none⟩) 0 0) [] :=
  ⟨by simp, ⟨by simp [cellsOf], Or.inr ⟨w.heap.size, 0, #[], rfl, hb, heap_alloc_new _ _, by simp, by simp, rfl, rfl⟩⟩, _, _, rfl⟩
theorem own_block {w : World} {base : Nat} {v : Value} {l : List Nat} (h : Own w base v l) : ∀ k, v.ownBlock = some k → base ≤ k := fun k hk => (h.2.1.lt k hk).1
/-- cut, its result written out. -/
theorem cut_form {v : Value} {l : List Nat} (n : Nat) (L : List Nat) (hL : L = l.take n) {w : World} (hs : Sl w v l) (hn : n ≤ 4000) :
    Calls Tryd.prog 10 #[v, .int .i64 (n : Int)] w fun e w' => (∃ a cap, e = .returned (.slice a L.length cap) ∧ Sl w (.slice a L.length cap) L) ∧ w = w' := by
  subst hL
  refine (cut_any v l n w hs hn).mono fun e w' ⟨⟨v', he, h⟩, hw⟩ => ⟨?_, hw⟩
  obtain ⟨h1, h2, ⟨a, cap, rfl, h0, h3⟩ | ⟨b, off, cap, rfl, h3⟩⟩ := h
  · refine ⟨a, cap, by rw [he, h0]; rfl, h1, h2, Or.inl ⟨a, cap, by rw [h0]; rfl, h0, h3⟩⟩
  · exact ⟨_, cap, he, h1, h2, Or.inr ⟨b, off, cap, rfl, h3⟩⟩
theorem ext_ext (l m : List Nat) : ext (ext 0 l) m = ext 0 (l ++ m) := by
  unfold ext
  rw [run_append, ← Nat.xor_assoc 4294967295 4294967295, Nat.xor_self, Nat.zero_xor]
theorem join_ext (l m : List Nat) (hm : ∀ b ∈ m, b < 256) : sgn (8 * m.length) (ext 0 l) ^^^ ext 0 m = ext 0 (l ++ m) := by
  unfold ext
  rw [run_append, run_num _ m hm, run_num _ m hm]
  generalize run (4294967295 ^^^ 0) l = A
  simp only [sgn_xor, Nat.xor_zero]
  generalize sgn (8 * m.length) 4294967295 = f
  generalize sgn (8 * m.length) A = g
  generalize sgn (8 * m.length) (num m) = h
  rw [Nat.xor_comm f g, Nat.xor_assoc g f, ← Nat.xor_assoc f, Nat.xor_comm f 4294967295, Nat.xor_assoc 4294967295 f, ← Nat.xor_assoc f f, Nat.xor_self, Nat.zero_xor, ← Nat.xor_assoc, Nat.xor_comm g, Nat.xor_assoc]
end Go.Proofs.YtffpbmlpnclmkaaDoor.Crc
