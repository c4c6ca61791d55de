/- What is proved here: facts for the law DiskReads: names of the call's own, three ranges in a row. No program text but the types of strings and disks. -/
import Derived.Test.YtecneepgmpoepaaH10f
import Derived.Test.YtecneepgmpoepaaP10z
namespace Go.Proofs.Ytecneepgmpoepaa.Gf
open Go Go.Joins Go.ChangeShapes Go.WideShapes Go.ChangeAt Go.RowKit Go.Deep Go.Proofs.Ytecneepgmpoepaa.By Go.Proofs.Ytecneepgmpoepaa.Qt

/-- A disk that lies at a place. -/
def DAt (W : World) (b o : Nat) (d : Dk) : Prop := ∃ a c, W.cell? ⟨b, o, none⟩ = some (.int .i64 d.1) ∧ W.cell? ⟨b, o + 1, none⟩ = some (.int .i64 d.2.1) ∧ W.cell? ⟨b, o + 2, none⟩ = some (.slice a d.2.2.length c) ∧ Dv W (.agg #[.int .i64 d.1, .int .i64 d.2.1, .slice a d.2.2.length c]) d
/-- A small disk. -/
structure Ltd (d : Dk) : Prop where
  sm : SmD d
  pn : PnD d 14
  len : d.2.2.length ≤ 256
theorem lt_ltd {d : Dk} (h : LtP d) : Ltd d := ⟨lt_sm h, fun f hf => Nat.le_trans (lt_pn h f hf) (by decide), Nat.le_trans h.1 (by decide)⟩
theorem made_ltd {c l : Int} {d : Dk} (h : MadeP c l d 14) : Ltd d := ⟨valid_sm h.val, h.pn, (valid_parts h.val).2.2.1⟩
theorem dv_BV {w : World} {v : Value} {d : Dk} (h : Dv w v d) : DvB (fun _ => True) w v d := h
/-- Two small disks in a row. -/
def Arr2 (W : World) (b o : Nat) : Prop := ∀ j, j < 2 → ∃ d, DAt W b (o + j * 3) d ∧ Ltd d
theorem arr2_below {W W' : World} {b o : Nat} (h : Arr2 W b o) (hB : Below W.heap.size W W') : Arr2 W' b o := fun j hj => by
  obtain ⟨d, ⟨a, c, h0, h1, h2, h3⟩, h4⟩ := h j hj
  exact ⟨d, ⟨a, c, (hB.cell (block_lt_of_cell h0)).trans h0, (hB.cell (block_lt_of_cell h1)).trans h1, (hB.cell (block_lt_of_cell h2)).trans h2, dv_below h3 hB⟩, h4⟩
theorem arr2_mk {W : World} {b : Nat} {T : TypeId} {d0 d1 : Dk} {a0 a1 : Option Addr} {n0 n1 c0 c1 : Nat} (h : W.heap[b]? = some (.cells #[.int .i64 d0.1, .int .i64 d0.2.1, .slice a0 n0 c0, .int .i64 d1.1, .int .i64 d1.2.1, .slice a1 n1 c1] T (0, 0)))
    (e0 : n0 = d0.2.2.length) (e1 : n1 = d1.2.2.length)
    (h0 : Dv W (.agg #[.int .i64 d0.1, .int .i64 d0.2.1, .slice a0 n0 c0]) d0) (h1 : Dv W (.agg #[.int .i64 d1.1, .int .i64 d1.2.1, .slice a1 n1 c1]) d1)
    (l0 : Ltd d0) (l1 : Ltd d1) : Arr2 W b 0 := by
  subst e0 e1
  intro j hj
  obtain rfl | rfl : j = 0 ∨ j = 1 := by omega
  · exact ⟨d0, ⟨a0, c0, cell_of_row W b 0 _ _ _ h, cell_of_row W b 1 _ _ _ h, cell_of_row W b 2 _ _ _ h, h0⟩, l0⟩
  · exact ⟨d1, ⟨a1, c1, cell_of_row W b 3 _ _ _ h, cell_of_row W b 4 _ _ _ h, cell_of_row W b 5 _ _ _ h, h1⟩, l1⟩
theorem str_at {w : World} {a : Option Addr} {n c : Nat} {l : List ByteArray} (h : Rd (fun _ => True) w (.sl .s) [.slice a n c] l) {j : Nat} {x : ByteArray} (hx : l[j]? = some x) : ∃ b o, a = some ⟨b, o, none⟩ ∧ w.cell? ⟨b, o + j, none⟩ = some (.string x) ∧ x.size ≤ maxLen := by
  have hj := (List.getElem?_eq_some_iff.1 hx).1
  obtain ⟨b2, o2, c2, hv2, -, -, -, hc2⟩ := rd_cells h (by omega)
  obtain ⟨rfl, -⟩ : a = some ⟨b2, o2, none⟩ ∧ (n = l.length ∧ c = c2) := by simpa using hv2
  obtain ⟨cs2, hrd2, hk2⟩ := hc2 j x hx
  obtain ⟨hs, rfl⟩ : x.size ≤ maxLen ∧ cs2 = [.string x] := hrd2
  have k0 := hk2 0 (by decide)
  rw [show o2 + (j * Ty.s.n + 0) = o2 + j by show o2 + (j * 1 + 0) = _; omega] at k0
  exact ⟨b2, o2, rfl, k0, hs⟩
theorem dv_rd {w : World} {a : Option Addr} {n c : Nat} {d : Dk} (h : Dv w (.agg #[.int .i64 d.1, .int .i64 d.2.1, .slice a n c]) d) : Rd (fun _ => True) w (.sl tyF) [.slice a n c] d.2.2 := by
  obtain ⟨fv, h1, -, h3⟩ := h
  have e : Value.slice a n c = fv := by simpa using h1
  rw [e]
  exact h3
theorem og_one {W : World} {base : Nat} {s : ByteArray} (hs : s.size ≤ maxLen) (hb : base ≤ W.heap.size) : OwG 9 .s (fun _ => True) (W.alloc (.cells #[.string s] 9)) base (.slice (some ⟨W.heap.size, 0, none⟩) 1 1) [s] :=
  ⟨[([.string s], s)], rfl, fun p hp => by obtain rfl := List.mem_singleton.1 hp; exact ⟨hs, rfl⟩, rfl, Or.inr ⟨W.heap.size, 1, #[.string s], rfl, hb, heap_alloc_new _ _, Nat.le_refl _, by unfold maxLen; decide, rfl, rfl⟩⟩
/-- Three ranges in a row. -/
def Rng3 (W : World) (b o : Nat) : Prop := ∀ j, j < 3 → ∃ x y : Int, (-9223372036854775808 ≤ x ∧ x ≤ 9223372036854775807) ∧ (-9223372036854775808 ≤ y ∧ y ≤ 9223372036854775807) ∧ W.cell? ⟨b, o + j * 2, none⟩ = some (.int .i64 x) ∧ W.cell? ⟨b, o + j * 2 + 1, none⟩ = some (.int .i64 y)
theorem rng3_below {W W' : World} {b o : Nat} (h : Rng3 W b o) (hB : Below W.heap.size W W') : Rng3 W' b o := fun j hj => by
  obtain ⟨x, y, h0, h1, h2, h3⟩ := h j hj
  exact ⟨x, y, h0, h1, (hB.cell (block_lt_of_cell h2)).trans h2, (hB.cell (block_lt_of_cell h3)).trans h3⟩
theorem rng3_mk {W : World} {b : Nat} {T : TypeId} {x0 y0 x1 y1 x2 y2 : Int} (h : W.heap[b]? = some (.cells #[.int .i64 x0, .int .i64 y0, .int .i64 x1, .int .i64 y1, .int .i64 x2, .int .i64 y2] T (0, 0)))
    (h0 : -9223372036854775808 ≤ x0 ∧ x0 ≤ 9223372036854775807) (k0 : -9223372036854775808 ≤ y0 ∧ y0 ≤ 9223372036854775807) (h1 : -9223372036854775808 ≤ x1 ∧ x1 ≤ 9223372036854775807) (k1 : -9223372036854775808 ≤ y1 ∧ y1 ≤ 9223372036854775807) (h2 : -9223372036854775808 ≤ x2 ∧ x2 ≤ 9223372036854775807) (k2 : -9223372036854775808 ≤ y2 ∧ y2 ≤ 9223372036854775807) : Rng3 W b 0 := by
  intro j hj
  obtain rfl | rfl | rfl : j = 0 ∨ j = 1 ∨ j = 2 := by omega
  · exact ⟨_, _, h0, k0, cell_of_row W b 0 _ _ _ h, cell_of_row W b 1 _ _ _ h⟩
  · exact ⟨_, _, h1, k1, cell_of_row W b 2 _ _ _ h, cell_of_row W b 3 _ _ _ h⟩
  · exact ⟨_, _, h2, k2, cell_of_row W b 4 _ _ _ h, cell_of_row W b 5 _ _ _ h⟩
end Go.Proofs.Ytecneepgmpoepaa.Gf
