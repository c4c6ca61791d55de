/- What is proved here: append(x, make([]byte, m)...), where x is a slice of the call's own. -/
import Derived.Test.YtljdbaibhpgfnaaDoorPn
namespace Go.Proofs.YtljdbaibhpgfnaaDoor.Gf
open Go Go.ChangeShapes Go.WideShapes Go.ChangeAt Go.RowKit Go.Proofs.YtljdbaibhpgfnaaDoor.By Go.Proofs.YtljdbaibhpgfnaaDoor.Qt

theorem zcells (m : Nat) : Builtin.zeroCells #[Value.int .u8 0] m = (cellsOf (List.replicate m 0)).toArray := by
  apply Array.ext
  · simp [Builtin.zeroCells, cellsOf]
  · intro i h1 h2
    simp [Builtin.zeroCells, cellsOf, Nat.mod_one]
theorem run_appz {W : World} {base : Nat} {v : Value} {l : List Nat} {m : Nat} (ty : TypeId) (hv : Own W base v l) (h1 : 1 ≤ m) (hm : l.length + m ≤ 1000000) (hb : base ≤ W.heap.size) :
    ∃ v' w', (Builtin.append_ #[24, 3] ty #[v, .int .i64 (m : Int)]).run Tryd.prog W = .ok v' w' ∧ Own w' base v' (l ++ List.replicate m 0) ∧ W.grownBy w' v.ownBlock := by
  obtain ⟨i, hi, hz, hz1, hz2⟩ := info_parts infoB
  obtain ⟨hl, hown⟩ := hv
  have hl2 : ∀ b ∈ l ++ List.replicate m 0, b < 256 := fun b hb' => by
    rcases List.mem_append.1 hb' with h | h
    · exact hl b h
    · rw [List.eq_of_mem_replicate h]; decide
  have hlen : (cellsOf (l ++ List.replicate m 0)).length = (l.length + m) * 1 := by rw [cellsOf_length, List.length_append, List.length_replicate, Nat.mul_one]
  have hw : IntKind.i64.wrap (m : Int) = (m : Int) := IntWalk.i64_in _ (by omega)
  have hneg : ¬ ((m : Int) < 0) := by omega
  have hbig : ¬ ((281474976710656 : Int) < (m : Int) * (i.bytes : Int)) := by rw [hz2]; omega
  have hm0 : m ≠ 0 := by omega
  have hsm : ¬ ((9223372036854775807 : Int) < (l.length : Int) + (m : Int)) := by omega
  have hcell : (Value.int .u8 0).cells = #[Value.int .u8 0] := rfl
  have grown : ∀ (old : Nat), old < l.length + m → ∀ (row : Option Nat),
      Own (W.drew.alloc (.cells ((cellsOf l).toArray ++ Builtin.zeroCells #[Value.int .u8 0] m ++ Builtin.zeroCells #[Value.int .u8 0] (grownCap W (l.length + m) old 5 - (l.length + m))) 5)) base
        (.slice (some ⟨W.heap.size, 0, none⟩) (l.length + m) (grownCap W (l.length + m) old 5)) (l ++ List.replicate m 0) ∧
      W.grownBy (W.drew.alloc (.cells ((cellsOf l).toArray ++ Builtin.zeroCells #[Value.int .u8 0] m ++ Builtin.zeroCells #[Value.int .u8 0] (grownCap W (l.length + m) old 5 - (l.length + m))) 5)) row := by
    intro old ho row
    have hge := grownCap_ge W (l.length + m) old 5
    have hcm : grownCap W (l.length + m) old 5 ≤ maxLen := grownCap_le_maxLen W (l.length + m) old 5 (by unfold maxLen; omega)
    have e : (l ++ List.replicate m 0).length = l.length + m := by simp
    have key : (W.drew.alloc (.cells ((cellsOf l).toArray ++ Builtin.zeroCells #[Value.int .u8 0] m ++ Builtin.zeroCells #[Value.int .u8 0] (grownCap W (l.length + m) old 5 - (l.length + m))) 5)).ownsRow base 5 1 (.slice (some ⟨W.heap.size, 0, none⟩) (l.length + m) (grownCap W (l.length + m) old 5)) (l.length + m) (cellsOf (l ++ List.replicate m 0)) := by
      refine ⟨hlen, .inr ⟨W.heap.size, _, _, rfl, hb, heap_alloc_new W.drew _, hge, hcm, ?_, ?_⟩⟩
      · simp [cellsOf, Builtin.zeroCells]
        omega
      · rw [Nat.mul_one]
        rw [zcells m]
        simp only [Array.toList_append, ← cellsOf_append]
        have h3 : (cellsOf (l ++ List.replicate m 0)).length = l.length + m := by rw [cellsOf_length, e]
        rw [← h3]
        exact List.take_left
    exact ⟨⟨hl2, e.symm ▸ key⟩, ⟨rfl, rfl, rfl, by simp, fun k hk _ => heap_alloc_old W.drew _ hk⟩⟩
  rcases hown.2 with ⟨rfl, hn⟩ | ⟨g, cap, cur, rfl, hbg, hg, hnc, hcm, hcs, htake⟩
  · have hx : l = [] := List.eq_nil_of_length_eq_zero hn
    subst hx
    have hgr := grown 0 (by simp; omega) (Value.ownBlock (.slice none 0 0))
    refine ⟨_, _, ?_, hgr.1, hgr.2⟩
    have c1 : ¬ ((9223372036854775807 : Int) < (m : Int)) := by omega
    have c2 : ¬ (281474976710656 < Builtin.nextslicecap m 0 * i.bytes) := by rw [nextslicecap_zero (by omega), hz2]; simp at hm; omega
    simp [Builtin.append_, run_underlying Tryd.underlying24, run_underlying Tryd.underlying3, sizeOf, typeInfo, zeroValue, hi, hz, hz1, asInt, asIntOf, hw, hneg, hbig, Question.forced, newRow, grownCap, hm0, hcell, run_firstCells_none, c1, c2, cellsOf]
  · by_cases hroom : l.length + m ≤ cap
    · have hst := run_storeCells_at Tryd.prog g l.length 5 (cellsOf (List.replicate m 0)) 0 cur W hg (by rw [cellsOf_length, List.length_replicate, hcs]; omega) (cellsOf_one _)
      simp only [Nat.add_zero] at hst
      refine ⟨.slice (some ⟨g, 0, none⟩) (l.length + m) cap, W.setRow g (cur.toList.take l.length ++ cellsOf (List.replicate m 0) ++ cur.toList.drop (l.length + (cellsOf (List.replicate m 0)).length)).toArray, ?_, ?_, ?_⟩
      · simp [Builtin.append_, run_underlying Tryd.underlying24, run_underlying Tryd.underlying3, sizeOf, typeInfo, zeroValue, hi, hz, hz1, asInt, asIntOf, hw, hneg, hbig, hm0, hroom, hcell, zcells, Addr.add_lit, hst]
      · refine ⟨hl2, ?_⟩
        have e9 : (l ++ List.replicate m 0).length = l.length + m := by simp
        rw [e9]
        refine ⟨hlen, .inr ⟨g, cap, _, rfl, hbg, setRow_heap W g cur _ 5 _ hg, hroom, hcm, ?_, ?_⟩⟩
        · simp only [List.size_toArray, List.length_append, List.length_take, List.length_drop, Array.length_toList, cellsOf_length, List.length_replicate]
          omega
        · have h4 : cur.toList.take l.length = cellsOf l := by simpa using htake
          rw [h4, ← cellsOf_append, Nat.mul_one]
          have h3 : (cellsOf (l ++ List.replicate m 0)).length = l.length + m := by rw [cellsOf_length]; simp
          rw [← h3]
          exact List.take_left
      · exact ⟨rfl, rfl, rfl, by simp, fun k _ hk => setRow_other W g k _ (fun e => hk (by simp [Value.ownBlock, e]))⟩
    · have hgr := grown cap (by omega) (Value.ownBlock (.slice (some ⟨g, 0, none⟩) l.length cap))
      refine ⟨_, _, ?_, hgr.1, hgr.2⟩
      have holds : ∀ j u, (cellsOf l)[j]? = some u → W.drew.cell? ((⟨g, 0, none⟩ : Addr).add j) = some u := hown.cells (g := g) rfl
      have hfo := run_firstCells_some (P := Tryd.prog) W.drew 1 l.length ⟨g, 0, none⟩ l.length cap (cellsOf l) (by rw [cellsOf_length, Nat.mul_one]) holds
      have c2 : ¬ (281474976710656 < Builtin.nextslicecap (l.length + m) cap * i.bytes) := by
        have := growslice_fits (need := l.length + m) (old := cap) (bytes := i.bytes) (by omega) (by rw [hz2]; omega)
        omega
      simp [Builtin.append_, run_underlying Tryd.underlying24, run_underlying Tryd.underlying3, sizeOf, typeInfo, zeroValue, hi, hz, hz1, asInt, asIntOf, hw, hneg, hbig, Question.forced, newRow, grownCap, hroom, hcell, hfo, hm0, hsm, c2]
theorem run_appz0 {W : World} {base : Nat} {v : Value} {l : List Nat} (ty : TypeId) (hv : Own W base v l) (h1 : 1 ≤ l.length) :
    (Builtin.append_ #[24, 3] ty #[v, .int .i64 0]).run Tryd.prog W = .ok v W := by
  obtain ⟨i, hi, hz, hz1, hz2⟩ := info_parts infoB
  obtain ⟨hl, hown⟩ := hv
  have hw : IntKind.i64.wrap 0 = 0 := rfl
  have hcell : (Value.int .u8 0).cells = #[Value.int .u8 0] := rfl
  rcases hown.2 with ⟨rfl, hn⟩ | ⟨g, cap, cur, rfl, hbg, hg, hnc, hcm, hcs, htake⟩
  · omega
  · simp [Builtin.append_, run_underlying Tryd.underlying24, run_underlying Tryd.underlying3, sizeOf, typeInfo, zeroValue, hi, hz, asInt, asIntOf, hw, hcell, hnc, storeCells]
/-- The same as a step of a walk. -/
theorem wp_appz {dst : Option Tmp} {s x : Operand} {pos : String} {after : Array Edge} {ty : TypeId} {gd : Option (Nat × Bool)} {a : Act} {W : World} {K : Act → World → Prop} {Q : Exit → Act → World → Prop}
    {base : Nat} {v : Value} {l : List Nat} {m : Nat} (hs : a.eval s = v) (hx : a.eval x = .int .i64 (m : Int)) (hv : Own W base v l) (h1 : 1 ≤ l.length) (hm : l.length + m ≤ 1000000) (hb : base ≤ W.heap.size)
    (h : ∀ v' w', Own w' base v' (l ++ List.replicate m 0) → W.grownBy w' v.ownBlock → K (a.put dst v') w') : Oper.wp Tryd.prog ⟨dst, .call { callee := .builtin .append, args := #[s, x], argTypes := #[24, 3] }, ty, pos, after, gd⟩ a W K Q := by
  have hap : ∃ v' w', (Builtin.append_ #[24, 3] ty #[v, .int .i64 (m : Int)]).run Tryd.prog W = .ok v' w' ∧ Own w' base v' (l ++ List.replicate m 0) ∧ W.grownBy w' v.ownBlock := by
    by_cases hm0 : m = 0
    · subst hm0
      exact ⟨v, W, run_appz0 ty hv h1, by rw [List.replicate_zero, List.append_nil]; exact hv, World.grownBy.refl _ _⟩
    · exact run_appz ty hv (by omega) hm hb
  obtain ⟨v', w', hr, h2, h3⟩ := hap
  unfold Oper.wp execOp
  simp only [resolve, invoke, builtin, Sem.run_bind, Sem.run_pure, Result.andThen_ok, List.map_toArray, List.map_cons, List.map_nil, hs, hx, hr]
  exact h v' w' h2 h3
theorem appz_sl {ops : Array Oper} {rest : List Oper} {dst : Option Tmp} {s x : Operand} {pos : String} {after : Array Edge} {ty : TypeId} {a : Act} {W : World} {Q : Exit → Act → World → Prop}
    {base : Nat} {v : Value} {l : List Nat} {m : Nat} (hs : a.eval s = v) (hx : a.eval x = .int .i64 (m : Int)) (hv : Own W base v l) (h1 : 1 ≤ l.length) (hm : l.length + m ≤ 1000000) (hb : base ≤ W.heap.size)
    (h : ∀ v' w', Own w' base v' (l ++ List.replicate m 0) → W.grownBy w' v.ownBlock → wpList Tryd.prog ops Q rest (a.put dst v') w') : wpList Tryd.prog ops Q (⟨dst, .call { callee := .builtin .append, args := #[s, x], argTypes := #[24, 3] }, ty, pos, after, none⟩ :: rest) a W :=
  wpList_plain rfl fun _ hK => wp_appz hs hx hv h1 hm hb fun v' w' h2 h3 => hK _ _ (h v' w' h2 h3)
end Go.Proofs.YtljdbaibhpgfnaaDoor.Gf
