/- What is proved here: slices of bytes as lists of numbers: reading them, slicing them, making them, appending to them, as steps of a walk. No condition on the program beyond its types. -/
import Derived.Test.YtbkhedfhnmkodaaDoorProg
import Derived.WalkKit
import Derived.ProofKit
import Derived.OpenShut
import Derived.Lib.Hide
import Derived.Deep.AppendSrc
import Derived.StillTailTactics
namespace Go.Proofs.YtbkhedfhnmkodaaDoor.By
open Go Go.ChangeShapes Go.WideShapes Go.ChangeAt Go.RowKit

theorem cellsB : Tryd.prog.cellsOf 5 = 1 := by kernel_rfl
theorem infoB : (Tryd.prog.info? 5).map (fun i => (i.zero, i.size, i.bytes)) = some (some (.int .u8 0), 1, 1) := by kernel_rfl
theorem ret_int {k : IntKind} {a b : Int} (h : a = b) : Ending.returned (.int k a) = .returned (.int k b) := by rw [h]
/-- The slice value v reads as the bytes l in the world w. -/
def Sl (w : World) (v : Value) (l : List Nat) : Prop :=
  (∀ b ∈ l, b < 256) ∧ l.length ≤ maxLen ∧ ((∃ a cap, v = .slice a 0 cap ∧ l = [] ∧ cap ≤ maxLen) ∨ ∃ b off cap, v = .slice (some ⟨b, off, none⟩) l.length cap ∧ l.length ≤ cap ∧ cap ≤ maxLen ∧ ∀ k, k < l.length → w.cell? ⟨b, off + k, none⟩ = some (.int .u8 ((l.getD k 0 : Nat) : Int)))
theorem getD_lt {l : List Nat} (h : ∀ b ∈ l, b < 256) (k : Nat) : l.getD k 0 < 256 := by
  by_cases hk : k < l.length
  · simpa [List.getD, hk] using h _ (List.getElem_mem hk)
  · simp [List.getD, hk]
theorem mem_take {l : List Nat} (h : ∀ b ∈ l, b < 256) (k : Nat) : ∀ b ∈ l.take k, b < 256 := fun b hb => h b (List.mem_of_mem_take hb)
theorem mem_drop {l : List Nat} (h : ∀ b ∈ l, b < 256) (k : Nat) : ∀ b ∈ l.drop k, b < 256 := fun b hb => h b (List.mem_of_mem_drop hb)
theorem getD_take (l : List Nat) (n j : Nat) (h : j < n) : (l.take n).getD j 0 = l.getD j 0 := by
  simp [List.getD, h]
theorem take_snoc (l : List Nat) (k : Nat) (h : k < l.length) : l.take (k + 1) = l.take k ++ [l.getD k 0] := by
  rw [List.take_succ_eq_append_getElem h]
  simp [List.getD, h]
theorem sl_nil (w : World) : Sl w (.slice none 0 0) [] := ⟨by simp, by simp, Or.inl ⟨none, 0, rfl, rfl, by simp⟩⟩
set_option maxRecDepth 100000 in
/-- A slice of bytes that came in reads as a list. -/
theorem sl_open {H : Type} {enc : TypeId × Value → H} {W : World} {base : Nat} {v : Value} {d : DataW H} {p : List MemPlace} (hv : Value.okWide Tryd.prog W .any base 23 v) (h : DataW.Trod enc Tryd.prog W 0 (fun _ => true) true 23 v d p) : ∃ l, Sl W v l := by
  obtain ⟨a, len, cap, rfl⟩ := okWide_slice Tryd.underlying23 hv
  obtain ⟨fuel, hf⟩ := h
  rcases open_ints Tryd.underlying23 Tryd.underlying5 cellsB hf with ⟨hcs, _⟩ | ⟨x, l, c, zs, hcs, _, hl, hm, hz, _, hcell, hwz⟩
  · simp [Value.cells] at hcs
    obtain ⟨rfl, rfl, rfl⟩ := hcs
    exact ⟨[], sl_nil W⟩
  · simp [Value.cells] at hcs
    obtain ⟨rfl, rfl, rfl⟩ := hcs
    have hz' : zs.length = cap := by simpa using hz
    have hb : ∀ n ∈ zs, 0 ≤ n ∧ n < 256 := fun n hn => by
      have := hwz n hn
      simp [Lit.wf, IntKind.min, IntKind.max, IntKind.signed, IntKind.bits] at this
      omega
    have hlen : ((zs.take len).map Int.toNat).length = len := by simp; omega
    refine ⟨(zs.take len).map Int.toNat, fun b hb' => ?_, by rw [hlen]; omega, ?_⟩
    · obtain ⟨n, hn, rfl⟩ := List.mem_map.1 hb'
      have := hb n (List.mem_of_mem_take hn)
      omega
    · by_cases h0 : 0 < cap
      · refine Or.inr ?_
        obtain ⟨b, off, spot⟩ := x
        have hc := hcell 0 (by omega)
        have hspot : spot = none := by simpa [Addr.add] using World.cell?_spot hc
        subst hspot
        refine ⟨b, off, cap, by rw [hlen], by omega, hm, fun k hk => ?_⟩
        rw [hlen] at hk
        have hck := hcell k (by omega)
        have ha : (⟨b, off, none⟩ : Addr).add k = ⟨b, off + k, none⟩ := by unfold Addr.add; split <;> simp_all
        rw [ha] at hck
        rw [hck]
        have hkz : k < zs.length := by omega
        have hz0 := hb zs[k] (List.getElem_mem hkz)
        have e1 : zs.getD k 0 = zs[k] := by simp [List.getD, hkz]
        have e2 : ((zs.take len).map Int.toNat).getD k 0 = (zs[k]).toNat := by simp [List.getD, hk, hkz]
        rw [e1, e2]
        congr 2
        omega
      · obtain rfl : len = 0 := by omega
        exact Or.inl ⟨_, _, rfl, by simp, hm⟩
theorem sl_below {w w' : World} {v : Value} {l : List Nat} (h : Sl w v l) (hB : Below w.heap.size w w') : Sl w' v l := by
  obtain ⟨h1, h2, h3⟩ := h
  refine ⟨h1, h2, ?_⟩
  rcases h3 with h3 | ⟨b, off, cap, hv, hc1, hc2, hcell⟩
  · exact Or.inl h3
  · exact Or.inr ⟨b, off, cap, hv, hc1, hc2, fun k hk => (hB.cell (p := ⟨b, off + k, none⟩) (block_lt_of_cell (hcell k hk))).trans (hcell k hk)⟩
theorem sl_drew {w : World} {v : Value} {l : List Nat} (h : Sl w v l) : Sl w.drew v l := h
/-- A slice's value written out. -/
theorem sl_form {w : World} {v : Value} {l : List Nat} (h : Sl w v l) : ∃ a cap, v = .slice a l.length cap ∧ l.length ≤ cap ∧ cap ≤ maxLen := by
  obtain ⟨h1, h2, ⟨a, cap, rfl, rfl, h3⟩ | ⟨b, off, cap, rfl, h3, h4, _⟩⟩ := h
  · exact ⟨a, cap, rfl, by simp, h3⟩
  · exact ⟨_, cap, rfl, h3, h4⟩
/-- The cells of a slice that is not empty. -/
theorem sl_cells {w : World} {v : Value} {l : List Nat} (h : Sl w v l) (hl : 0 < l.length) : ∃ b off cap, v = .slice (some ⟨b, off, none⟩) l.length cap ∧ l.length ≤ cap ∧ cap ≤ maxLen ∧ ∀ k, k < l.length → w.cell? ⟨b, off + k, none⟩ = some (.int .u8 ((l.getD k 0 : Nat) : Int)) := by
  obtain ⟨_, _, ⟨_, _, _, h0, _⟩ | h⟩ := h
  · subst h0
    simp at hl
  · exact h
theorem sl_take {w : World} {a : Option Addr} {n cap : Nat} {l : List Nat} (h : Sl w (.slice a l.length cap) l) (hn : n ≤ l.length) : Sl w (.slice a n cap) (l.take n) := by
  have ht : (l.take n).length = n := by rw [List.length_take]; omega
  obtain ⟨h1, h2, ⟨a', cap', he, h0, h3⟩ | ⟨b, off, cap', he, h3, h4, hc⟩⟩ := h
  · subst h0
    obtain rfl : n = 0 := by simpa using hn
    cases he
    exact ⟨by simp, by simp, Or.inl ⟨a, cap, rfl, by simp, h3⟩⟩
  · cases he
    refine ⟨mem_take h1 n, by rw [ht]; omega, Or.inr ⟨b, off, cap, by rw [ht], by omega, h4, fun k hk => ?_⟩⟩
    rw [ht] at hk
    rw [hc k (by omega)]
    simp [List.getD, hk]
/-- A block of bytes, as a slice. -/
theorem sl_block {w : World} {g n : Nat} {fr : Nat × Nat} {l : List Nat} {cs : Array Value} (hl : ∀ b ∈ l, b < 256) (hn : l.length = n) (hm : n ≤ maxLen) (hcs : cs = (l.map fun (b : Nat) => Value.int .u8 (b : Int)).toArray) (hg : w.heap[g]? = some (.cells cs 5 fr)) :
    Sl w (.slice (some ⟨g, 0, none⟩) n n) l := by
  subst hn
  refine ⟨hl, hm, Or.inr ⟨g, 0, l.length, rfl, Nat.le_refl _, hm, fun k hk => ?_⟩⟩
  rw [Nat.zero_add, cell_of_row w g k cs 5 fr hg, hcs]
  simp [List.getD, hk]

/-- Bytes as cells. -/
def cellsOf (l : List Nat) : List Value := l.map fun (b : Nat) => Value.int .u8 (b : Int)
theorem cellsOf_length (l : List Nat) : (cellsOf l).length = l.length := by simp [cellsOf]
theorem cellsOf_append (l m : List Nat) : cellsOf (l ++ m) = cellsOf l ++ cellsOf m := by simp [cellsOf]
theorem cellsOf_one (l : List Nat) : ∀ u ∈ cellsOf l, u.oneCell' = true := fun u hu => by
  simp only [cellsOf, List.mem_map] at hu
  obtain ⟨b, _, rfl⟩ := hu
  rfl
/-- The slice v is the call's own (nil, or its block is numbered from base on) and holds the bytes l. -/
def Own (w : World) (base : Nat) (v : Value) (l : List Nat) : Prop := (∀ b ∈ l, b < 256) ∧ w.ownsRow base 5 1 v l.length (cellsOf l)
theorem Own.sl {w : World} {base : Nat} {v : Value} {l : List Nat} (h : Own w base v l) : Sl w v l := by
  obtain ⟨hl, _, h1⟩ := h
  rcases h1 with ⟨rfl, h2⟩ | ⟨g, cap, cur, rfl, hg, hb, hn, hm, hsz, ht⟩
  · obtain rfl := List.eq_nil_of_length_eq_zero h2
    exact sl_nil w
  · refine ⟨hl, by omega, Or.inr ⟨g, 0, cap, rfl, hn, hm, fun k hk => ?_⟩⟩
    rw [Nat.zero_add, cell_of_row w g k cur 5 (0, 0) hb]
    have e := congrArg (·[k]?) ht
    simp only [Nat.mul_one, List.getElem?_take, hk, if_true, cellsOf, List.getElem?_map] at e
    simpa [List.getD, hk] using e
theorem Own.lt {w : World} {base : Nat} {v : Value} {l : List Nat} (h : Own w base v l) : ∀ k, v.ownBlock = some k → base ≤ k := fun k hk => (h.2.lt k hk).1
theorem Own.drew {w : World} {base : Nat} {v : Value} {l : List Nat} (h : Own w base v l) : Own w.drew base v l := h
theorem Own.alloc {w : World} {base : Nat} {v : Value} {l : List Nat} (h : Own w base v l) (o : Obj) : Own (w.alloc o) base v l := ⟨h.1, h.2.alloc o⟩
theorem own_nil (w : World) (base : Nat) : Own w base (.slice none 0 0) [] := ⟨by simp, World.ownsRow_nil _ _ _ _⟩
/-- An empty slice of the call's own that is not nil. -/
theorem own_empty (w : World) {base : Nat} (hb : base ≤ w.heap.size) : Own (w.alloc (.cells #[] 5)) base (.slice (some ⟨w.heap.size, 0, none⟩) 0 0) [] :=
  ⟨by simp, ⟨by simp [cellsOf], Or.inr ⟨w.heap.size, 0, #[], rfl, hb, heap_alloc_new _ _, by simp, by simp, rfl, rfl⟩⟩⟩
/-- What stays of a world behind an append. -/
theorem below_grown {B : Nat} {a w w' : World} {base : Nat} {v : Value} {l : List Nat} (h : Below B a w) (hg : w.grownBy w' v.ownBlock) (ho : Own w base v l) (hB : B ≤ w.heap.size) (hb : B ≤ base) : Below B a w' :=
  h.grown hg hB (fun k hk => Nat.le_trans hb (ho.lt k hk))
/-- append of a slice of bytes. -/
theorem run_append_sl {W : World} {base : Nat} {v x : Value} {l m : List Nat} (ty : TypeId) (hv : Own W base v l) (hx : Sl W x m) (hlm : l.length + m.length ≤ 100000000) (hb : base ≤ W.heap.size) :
    ∃ v' w', (Builtin.append_ #[23, 23] ty #[v, x]).run Tryd.prog W = .ok v' w' ∧ Own w' base v' (l ++ m) ∧ W.grownBy w' v.ownBlock := by
  obtain ⟨i, hi, hz0, hz1, hz2⟩ := info_parts infoB
  obtain ⟨hl, hown⟩ := hv
  obtain ⟨hm, hmm, hx⟩ := hx
  have hall : ∀ b ∈ l ++ m, b < 256 := fun b hb => by
    rcases List.mem_append.1 hb with h | h
    · exact hl b h
    · exact hm b h
  have fin : ∀ {v' w'}, w'.ownsRow base 5 1 v' (l.length + m.length) (cellsOf l ++ cellsOf m) → Own w' base v' (l ++ m) := fun {v' w'} ho =>
    ⟨hall, by rw [List.length_append, cellsOf_append]; exact ho⟩
  have some_case : ∀ (a : Addr) (cp : Nat), (∀ j u, (cellsOf m)[j]? = some u → W.cell? (a.add j) = some u) →
      ∃ v' w', (Builtin.append_ #[23, 23] ty #[v, .slice (some a) m.length cp]).run Tryd.prog W = .ok v' w' ∧ Own w' base v' (l ++ m) ∧ W.grownBy w' v.ownBlock := fun a cp hc => by
    obtain ⟨v', w', hr, ho, hg, _⟩ := run_append_own (P := Tryd.prog) W base 23 ty 5 i (.int .u8 0) 1 1 Tryd.underlying23 hi hz0 hz1 hz2 rfl (by decide) _ _ _ hown a m.length cp (cellsOf m) (by rw [cellsOf_length, Nat.mul_one]) hc (cellsOf_one m) (by unfold maxLen; omega) (by omega) hb
    exact ⟨v', w', hr, fin ho, hg⟩
  rcases hx with ⟨a, cp, rfl, rfl, _⟩ | ⟨b, off, cp, rfl, _, _, hcell⟩
  · cases a with
    | some a => exact some_case a cp (fun j u hu => by simp [cellsOf] at hu)
    | none =>
      have hsame : W.grownBy W v.ownBlock := ⟨rfl, rfl, rfl, Nat.le_refl _, fun _ _ _ => rfl⟩
      rcases hown.2 with ⟨rfl, h0⟩ | ⟨g', cap, cur, rfl, hg, hbk, hn, hcm, hsz, ht⟩
      · obtain rfl := List.eq_nil_of_length_eq_zero h0
        refine ⟨.slice none 0 0, W, ?_, own_nil W base, hsame⟩
        simp [Builtin.append_, run_underlying Tryd.underlying23, sizeOf, typeInfo, hi, Builtin.lenOf, Builtin.firstCells]
      · refine ⟨_, W, ?_, by rw [List.append_nil]; exact ⟨hl, hown⟩, hsame⟩
        simp [Builtin.append_, run_underlying Tryd.underlying23, sizeOf, typeInfo, hi, Builtin.lenOf, Builtin.firstCells, loadCells, storeCells, hn]
  · exact some_case _ cp (fun j u hu => by
      simp only [cellsOf, List.getElem?_map, Option.map_eq_some_iff] at hu
      obtain ⟨n, hn, rfl⟩ := hu
      have hj : j < m.length := (List.getElem?_eq_some_iff.1 hn).1
      have ha : (⟨b, off, none⟩ : Addr).add j = ⟨b, off + j, none⟩ := by unfold Addr.add; split <;> simp_all
      rw [ha, hcell j hj]
      simp [List.getD, hn])
/-- append, as an operation. -/
theorem wp_app {dst : Option Tmp} {s x : Operand} {pos : String} {after : Array Edge} {ty : TypeId} {gd : Option (Nat × Bool)} {a : Act} {W : World} {K : Act → World → Prop} {Q : Exit → Act → World → Prop}
    {base : Nat} {v y : Value} {l m : List Nat} (hs : a.eval s = v) (hy : a.eval x = y) (hv : Own W base v l) (hx : Sl W y m) (hlm : l.length + m.length ≤ 100000000) (hb : base ≤ W.heap.size)
    (h : ∀ v' w', Own w' base v' (l ++ m) → W.grownBy w' v.ownBlock → K (a.put dst v') w') : Oper.wp Tryd.prog ⟨dst, .call { callee := .builtin .append, args := #[s, x], argTypes := #[23, 23] }, ty, pos, after, gd⟩ a W K Q := by
  obtain ⟨v', w', hr, h2, h3⟩ := run_append_sl ty hv hx hlm hb
  unfold Oper.wp execOp
  simp only [resolve, invoke, builtin, Sem.run_bind, Sem.run_pure, Result.andThen_ok, List.map_toArray, List.map_cons, List.map_nil, hs, hy, hr]
  exact h v' w' h2 h3
/-- append, as a step of a walk. -/
theorem app_sl {ops : Array Oper} {rest : List Oper} {dst : Option Tmp} {s x : Operand} {pos : String} {after : Array Edge} {ty : TypeId} {a : Act} {W : World} {Q : Exit → Act → World → Prop}
    {base : Nat} {v y : Value} {l m : List Nat} (hs : a.eval s = v) (hy : a.eval x = y) (hv : Own W base v l) (hx : Sl W y m) (hlm : l.length + m.length ≤ 100000000) (hb : base ≤ W.heap.size)
    (h : ∀ v' w', Own w' base v' (l ++ m) → W.grownBy w' v.ownBlock → wpList Tryd.prog ops Q rest (a.put dst v') w') : wpList Tryd.prog ops Q (⟨dst, .call { callee := .builtin .append, args := #[s, x], argTypes := #[23, 23] }, ty, pos, after, none⟩ :: rest) a W :=
  wpList_plain rfl fun _ hK => wp_app hs hy hv hx hlm hb fun v' w' h2 h3 => hK _ _ (h v' w' h2 h3)
/-- append, as a step of a region that draws its order. -/
theorem step_app {ops : Array Oper} {dst : Option Tmp} {s x : Operand} {pos : String} {after : Array Edge} {ty : TypeId} {a : Act} {W : World} {K : Act → World → Prop} {Q : Exit → Act → World → Prop} {E : Prop}
    {base : Nat} {v y : Value} {l m : List Nat} (hs : a.eval s = v) (hy : a.eval x = y) (hv : Own W base v l) (hx : Sl W y m) (hlm : l.length + m.length ≤ 100000000) (hb : base ≤ W.heap.size)
    (h : ∀ v' w', Own w' base v' (l ++ m) → W.grownBy w' v.ownBlock → K (a.put dst v') w') :
    if Region.wanted ⟨dst, .call { callee := .builtin .append, args := #[s, x], argTypes := #[23, 23] }, ty, pos, after, none⟩ (yielded ops a.tmps) = true then Oper.wp Tryd.prog ⟨dst, .call { callee := .builtin .append, args := #[s, x], argTypes := #[23, 23] }, ty, pos, after, none⟩ a W K Q else E := by
  rw [if_pos (by simp [Region.wanted])]
  exact wp_app hs hy hv hx hlm hb h
/-- One new byte in a block of its own, as append takes it. -/
theorem sl_one {w : World} {g z : Nat} {fr : Nat × Nat} (hz : z < 256) (hg : w.heap[g]? = some (.cells #[.int .u8 (z : Int)] 5 fr)) : Sl w (.slice (some ⟨g, 0, none⟩) 1 1) [z] :=
  sl_block (l := [z]) (by simpa using hz) rfl (by unfold maxLen; decide) rfl hg
set_option maxRecDepth 100000 in
/-- make([]byte, n). -/
theorem make_step {ops : Array Oper} {rest : List Oper} {dst : Option Tmp} {x : Operand} {pos : String} {after : Array Edge} {ty : TypeId} {a : Act} {W : World} {Q : Exit → Act → World → Prop} {n : Nat}
    (hx : a.eval x = .int .i64 (n : Int)) (hn : n ≤ 100000000)
    (h : wpList Tryd.prog ops Q rest (a.put dst (.slice (some ⟨W.heap.size, 0, none⟩) n n)) (W.alloc (.cells (cellsOf (List.replicate n 0)).toArray 5))) : wpList Tryd.prog ops Q (⟨dst, .makeSlice 23 x x, ty, pos, after, none⟩ :: rest) a W := by
  refine wpList_plain rfl fun K hK => ?_
  obtain ⟨i, hi, hz0, hz1, hz2⟩ := info_parts infoB
  have hr := run_make (P := Tryd.prog) W 23 5 i (.int .u8 0) Tryd.underlying23 hi hz0 .i64 .i64 (n : Int) (n : Int) (by omega) (Int.le_refl _) (by rw [hz2]; omega) (by omega)
  simp only [Int.toNat_natCast, hz1, Nat.mul_one] at hr
  have hc : madeCells (Value.int .u8 0).cells n = (cellsOf (List.replicate n 0)).toArray := by
    apply Array.ext'
    rw [show (Value.int .u8 0).cells = #[Value.int .u8 0] from rfl, toList_madeCells_one]
    simp [cellsOf]
  rw [hc] at hr
  unfold Oper.wp execOp
  simp only [hx, Sem.run_bind, Sem.run_pure, hr, Result.andThen_ok]
  exact hK _ _ h
/-- A made slice is the call's own. -/
theorem own_made (w : World) {base n : Nat} (hb : base ≤ w.heap.size) (hn : n ≤ maxLen) : Own (w.alloc (.cells (cellsOf (List.replicate n 0)).toArray 5)) base (.slice (some ⟨w.heap.size, 0, none⟩) n n) (List.replicate n 0) := by
  refine ⟨fun b hb => by simp at hb; omega, ⟨by simp [cellsOf], Or.inr ⟨w.heap.size, n, _, by simp, hb, heap_alloc_new _ _, by simp, hn, by simp [cellsOf], by simp [cellsOf]⟩⟩⟩
/-- A store into an owned slice. -/
theorem own_set {w : World} {base g c n q x : Nat} {M : List Nat} (h : Own w base (.slice (some ⟨g, 0, none⟩) n c) M) (hM : M.length = n) (hq : q < n) (hx : x < 256) :
    Own (w.setCell ⟨g, q, none⟩ (.int .u8 (x : Int))) base (.slice (some ⟨g, 0, none⟩) n c) (M.set q x) := by
  subst hM
  obtain ⟨hl, h1, h2⟩ := h
  rcases h2 with ⟨h3, _⟩ | ⟨g2, cap, cur, h3, hg, hb, hn, hm, hsz, ht⟩
  · cases h3
  · cases h3
    refine ⟨fun b hb' => ?_, ⟨by simp [cellsOf], Or.inr ⟨g, c, cur.setIfInBounds q (.int .u8 (x : Int)), by simp, hg, heap_setCell_same w g q cur 5 _ hb, by simpa using hn, hm, by simpa using hsz, ?_⟩⟩⟩
    · rcases List.mem_or_eq_of_mem_set hb' with h | h
      · exact hl b h
      · omega
    · simp only [List.length_set, Nat.mul_one] at ht ⊢
      rw [Array.toList_setIfInBounds, List.take_set, ht]
      simp [cellsOf, List.map_set]
theorem own_cell {w : World} {base g c n q : Nat} {M : List Nat} (h : Own w base (.slice (some ⟨g, 0, none⟩) n c) M) (hM : M.length = n) (hq : q < n) :
    w.cell? ⟨g, q, none⟩ = some (.int .u8 ((M.getD q 0 : Nat) : Int)) ∧ w.frozen? ⟨g, q, none⟩ = false ∧ base ≤ g := by
  subst hM
  obtain ⟨hl, h1, h2⟩ := h
  rcases h2 with ⟨h3, _⟩ | ⟨g2, cap, cur, h3, hg, hb, hn, hm, hsz, ht⟩
  · cases h3
  · cases h3
    refine ⟨?_, frozen_of_row w g q cur 5 hb, hg⟩
    rw [cell_of_row w g q cur 5 (0, 0) hb]
    have e := congrArg (·[q]?) ht
    simp only [Nat.mul_one, List.getElem?_take, hq, if_true, cellsOf, List.getElem?_map] at e
    simpa [List.getD, hq] using e
/-- The rest of a region that draws its order, where one order is left: the operations from number k on. -/
theorem any_tail {md : Region.Mode} {L : List Oper} {Q : Exit → Act → World → Prop} {listed : Array Bool} {a : Act} {w : World} (k : Nat) (hB : Region.seqB md L.toArray (L.drop k).length k listed = true)
    (h : wpList Tryd.prog L.toArray Q (L.drop k) a w) : wpAny Tryd.prog md L.toArray Q (L.drop k).length listed a w :=
  wpAny_of_seq (L.drop k) k listed a w (fun j => by simp [List.getElem?_drop]) hB h
/-- Bytes as a string. -/
def strOf (l : List Nat) : ByteArray := strOfNums (l.map fun (b : Nat) => (b : Int))
theorem strOf_inj : ∀ {l m : List Nat}, (∀ b ∈ l, b < 256) → (∀ b ∈ m, b < 256) → (strOf l).toList = (strOf m).toList → l = m := by
  intro l m hl hm h
  have h1 := h
  rw [ByteArray.toList_eq, ByteArray.toList_eq] at h1
  simp only [strOf, strOfNums_data, List.map_map] at h1
  induction l generalizing m with
  | nil =>
    cases m with
    | nil => rfl
    | cons b m => simp at h1
  | cons a l ih =>
    cases m with
    | nil => simp at h1
    | cons b m =>
      simp only [List.map_cons, List.cons.injEq, Function.comp] at h1
      have ha := hl a (by simp)
      have hb := hm b (by simp)
      have e : a = b := by
        have := congrArg UInt8.toNat h1.1
        simp only [Int.toNat_natCast, UInt8.toNat_ofNat'] at this
        omega
      have := ih (fun y hy => hl y (by simp [hy])) (fun y hy => hm y (by simp [hy])) (m := m) (by
        have e2 : (List.map ((fun n : Int => UInt8.ofNat n.toNat) ∘ fun (b : Nat) => (b : Int)) l) = List.map ((fun n : Int => UInt8.ofNat n.toNat) ∘ fun (b : Nat) => (b : Int)) m := h1.2
        unfold strOf strOfNums
        rw [List.map_map, List.map_map, e2]) h1.2
      rw [e, this]
/-- string(b). -/
theorem conv_sl {w : World} {v : Value} {l : List Nat} (h : Sl w v l) : (convert 23 9 v).run Tryd.prog w = .ok (.string (strOf l)) w := by
  obtain ⟨_, _, ⟨a, cap, rfl, rfl, _⟩ | ⟨b, off, cap, rfl, _, _, hc⟩⟩ := h
  · rw [run_convert_bytes_string w 23 9 5 a 0 cap Tryd.underlying23 Tryd.underlying5 Tryd.underlying9]
    cases a with
    | none => simp [Conv.bytesToString, strOf, strOfNums]; rfl
    | some a => simp [Conv.bytesToString, strOf, strOfNums, loadCells, loadCellsFrom]; rfl
  · exact run_convert_bytes_arg (P := Tryd.prog) w 23 5 Tryd.underlying23 Tryd.underlying5 b off l.length cap (l.map fun (b : Nat) => (b : Int)) (by simp) (fun i hi => by
      rw [hc i hi]
      simp [List.getD, hi]) 9 Tryd.underlying9
/-- Equal bytes, equal strings, as '==' has it. -/
theorem str_eq {l m : List Nat} (hl : ∀ b ∈ l, b < 256) (hm : ∀ b ∈ m, b < 256) : ((strOf l).toList == (strOf m).toList) = decide (l = m) := by
  by_cases h : l = m
  · subst h
    simp
  · rw [decide_eq_false h]
    exact beq_false_of_ne fun e => h (strOf_inj hl hm e)
/-- min of two numbers. -/
theorem min2_step {ops : Array Oper} {rest : List Oper} {dst : Option Tmp} {x1 x2 : Operand} {pos : String} {after : Array Edge} {ty : TypeId} {ts : Array TypeId} {a : Act} {W : World} {Q : Exit → Act → World → Prop} {n1 n2 n : Nat}
    (h1 : a.eval x1 = .int .i64 (n1 : Int)) (h2 : a.eval x2 = .int .i64 (n2 : Int)) (hn : n = min n1 n2)
    (h : wpList Tryd.prog ops Q rest (a.put dst (.int .i64 (n : Int))) W) : wpList Tryd.prog ops Q (⟨dst, .call { callee := .builtin .min, args := #[x1, x2], argTypes := ts }, ty, pos, after, none⟩ :: rest) a W := by
  refine wpList_plain rfl fun K hK => ?_
  have m2 : Builtin.min2 (.int .i64 (n1 : Int)) (.int .i64 (n2 : Int)) = pure (.int .i64 (n : Int)) := by
    show (pure (Value.int .i64 (if (n2 : Int) < (n1 : Int) then (n2 : Int) else (n1 : Int))) : Sem Value) = _
    by_cases hxy : n2 < n1
    · rw [if_pos (by omega), hn, Nat.min_eq_right (by omega)]
    · rw [if_neg (by omega), hn, Nat.min_eq_left (by omega)]
  have hr : (Builtin.min_ ts ty #[.int .i64 (n1 : Int), .int .i64 (n2 : Int)]).run Tryd.prog W = .ok (.int .i64 (n : Int)) W := by
    unfold Builtin.min_
    simp only [List.foldlM_cons, List.foldlM_nil, m2, pure_bind]
    rfl
  unfold Oper.wp execOp
  simp only [resolve, invoke, builtin, Sem.run_bind, Sem.run_pure, Result.andThen_ok, List.map_toArray, List.map_cons, List.map_nil, h1, h2, hr]
  exact hK _ _ h
end Go.Proofs.YtbkhedfhnmkodaaDoor.By
