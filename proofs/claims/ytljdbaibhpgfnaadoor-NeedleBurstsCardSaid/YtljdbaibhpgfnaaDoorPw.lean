/- What is proved here: the contracts of the program's Size, Valid, and of its writer. Condition: the table of crc32c as laid (sum). -/
import Derived.Test.YtljdbaibhpgfnaaDoorQ6d
namespace Go.Proofs.YtljdbaibhpgfnaaDoor.Gf
open Go Go.ChangeShapes Go.WideShapes Go.ChangeAt Go.RowKit Go.Proofs.YtljdbaibhpgfnaaDoor.By Go.Proofs.YtljdbaibhpgfnaaDoor.Crc Go.Proofs.YtljdbaibhpgfnaaDoor.Qt

theorem psize_any (n : Int) (w : World) (_h : I64b n) : Calls Tryd.prog 10 #[.int .i64 n] w fun e w' => e = .returned (.int .i64 (szI6 n)) ∧ w = w' := by
  by_cases h1 : n < 0
  · have g1 : decide (n < 0) = true := decide_eq_true h1
    unfold szI6
    rw [if_pos (Or.inl h1)]
    go_enter Tryd.func10, Tryd.ntmps10
    go_wp2
    go_ret
    exact ⟨rfl, rfl⟩
  have g1 : decide (n < 0) = false := decide_eq_false h1
  by_cases h2 : 4096 < n
  · have g2 : decide (4096 < n) = true := decide_eq_true h2
    unfold szI6
    rw [if_pos (Or.inr h2)]
    clear _h
    go_enter Tryd.func10, Tryd.ntmps10
    go_wp2
    go_ret
    exact ⟨rfl, rfl⟩
  have g2 : decide (4096 < n) = false := decide_eq_false h2
  unfold szI6
  rw [if_neg (by omega)]
  have e1 : (20 + n + 4 + 8 - 1).tdiv 8 = (n + 31) / 8 := by rw [Int.tdiv_eq_ediv_of_nonneg (by omega)]; congr 1; omega
  obtain ⟨q, hq⟩ : ∃ q, (n + 31) / 8 = q := ⟨_, rfl⟩
  have b1 : 0 ≤ q ∧ q ≤ 600 := by omega
  have b0 : 0 ≤ n ∧ n ≤ 4096 := by omega
  rw [hq] at e1 ⊢
  clear hq _h h1 h2
  go_enter Tryd.func10, Tryd.ntmps10
  go_wp2
  go_ret
  exact ⟨rfl, rfl⟩

theorem own_block_ne {wr : World} {base G : Nat} {x : Value} {l : List Nat} {cs : Array Value} (hx : Own wr base x l) (hg : wr.heap[G]? = some (.cells cs 47 (0, 0))) : ∀ k, x.ownBlock = some k → k ≠ G := by
  intro k hk e
  subst e
  obtain ⟨_, _, ⟨rfl, _⟩ | ⟨q, _, cq, rfl, _, hq, _⟩⟩ := hx
  · cases hk
  · cases hk
    rw [hg] at hq
    simp at hq
/-- The writer in block g: needle x (its data is the slice s) and the record, which is the call's own. -/
structure Wb (w : World) (g q : Nat) (F : Array Value) (x : Ndl) (s : Value) (L : List Nat) (W : World) (r : Value) : Prop where
  below : Below w.heap.size w W
  le : w.heap.size ≤ g
  box : W.heap[g]? = some (.cells #[.int .u64 (x.key : Int), .int .u32 (x.cookie : Int), .bool x.del, s, r] 47 (0, 0))
  own : Own W w.heap.size r L
  fns : W.heap[q]? = some (.cells F 1 (0, 0))
theorem Wb.lt {w W : World} {g q : Nat} {F : Array Value} {x : Ndl} {s r : Value} {L : List Nat} (h : Wb w g q F x s L W r) : g < W.heap.size := lt_of_some h.box
theorem Wb.size {w W : World} {g q : Nat} {F : Array Value} {x : Ndl} {s r : Value} {L : List Nat} (h : Wb w g q F x s L W r) : w.heap.size ≤ W.heap.size := h.below.size
theorem Wb.ne {w W : World} {g q : Nat} {F : Array Value} {x : Ndl} {s r : Value} {L : List Nat} (h : Wb w g q F x s L W r) : ∀ k, r.ownBlock = some k → k ≠ g := own_block_ne h.own h.box
theorem own_fns_ne {wr : World} {base G : Nat} {x : Value} {l : List Nat} {cs : Array Value} (hx : Own wr base x l) (hg : wr.heap[G]? = some (.cells cs 1 (0, 0))) : ∀ k, x.ownBlock = some k → k ≠ G := by
  intro k hk e
  subst e
  obtain ⟨_, _, ⟨rfl, _⟩ | ⟨q, _, cq, rfl, _, hq, _⟩⟩ := hx
  · cases hk
  · cases hk
    rw [hg] at hq
    simp at hq
theorem Wb.qg {w W : World} {g q : Nat} {F : Array Value} {x : Ndl} {s r : Value} {L : List Nat} (h : Wb w g q F x s L W r) : q ≠ g := fun e => by
  have h1 := h.box
  have h2 := h.fns
  rw [e, h1] at h2
  simp at h2
theorem Wb.fns2 {w W W' : World} {g q : Nat} {F : Array Value} {x : Ndl} {s r : Value} {L : List Nat} (h : Wb w g q F x s L W r) (hg : W.grownBy W' r.ownBlock) : W'.heap[q]? = some (.cells F 1 (0, 0)) :=
  (hg.block _ (lt_of_some h.fns) fun e => own_fns_ne h.own h.fns q e.symm rfl).trans h.fns
theorem Wb.cells {w W : World} {g q : Nat} {F : Array Value} {x : Ndl} {s r : Value} {L : List Nat} (h : Wb w g q F x s L W r) : W.cell? ⟨g, 0, none⟩ = some (.int .u64 (x.key : Int)) ∧ W.cell? ⟨g, 1, none⟩ = some (.int .u32 (x.cookie : Int)) ∧ W.cell? ⟨g, 2, none⟩ = some (.bool x.del) ∧ W.cell? ⟨g, 3, none⟩ = some s ∧ W.cell? ⟨g, 4, none⟩ = some r ∧ W.frozen? ⟨g, 4, none⟩ = false :=
  ⟨cell_of_row W g 0 _ _ _ h.box, cell_of_row W g 1 _ _ _ h.box, cell_of_row W g 2 _ _ _ h.box, cell_of_row W g 3 _ _ _ h.box, cell_of_row W g 4 _ _ _ h.box, frozen_of_row W g 4 _ _ h.box⟩
theorem Wb.later {w W W' : World} {g q : Nat} {F : Array Value} {x : Ndl} {s r : Value} {L : List Nat} (h : Wb w g q F x s L W r) (hb : Below W.heap.size W W') : Wb w g q F x s L W' r :=
  ⟨bt h.below hb, h.le, (hb.block _ h.lt).trans h.box, own_below' h.own hb, (hb.block _ (lt_of_some h.fns)).trans h.fns⟩
theorem Wb.grown {w W W' : World} {g q : Nat} {F : Array Value} {x : Ndl} {s r : Value} {L : List Nat} (h : Wb w g q F x s L W r) (hg : W.grownBy W' r.ownBlock) : W'.heap[g]? = some (.cells #[.int .u64 (x.key : Int), .int .u32 (x.cookie : Int), .bool x.del, s, r] 47 (0, 0)) :=
  (hg.block _ h.lt fun e => h.ne g e.symm rfl).trans h.box
theorem Wb.put {w W W' : World} {g q : Nat} {F : Array Value} {x : Ndl} {s r r' : Value} {L L' : List Nat} (h : Wb w g q F x s L W r) (hg : W.grownBy W' r.ownBlock) (ho : Own W' w.heap.size r' L') : Wb w g q F x s L' (W'.setCell ⟨g, 4, none⟩ r') r' := by
  have hb := h.grown hg
  exact ⟨(h.below.grown hg h.below.size fun q hq => h.own.lt q hq).setCell (p := ⟨g, 4, none⟩) h.le _, h.le, heap_setCell_same W' g 4 _ _ r' hb, own_keep ho fun q hq => heap_setCell_other _ _ _ _ (own_block_ne ho hb q hq), (heap_setCell_other _ _ _ _ h.qg).trans (h.fns2 hg)⟩
/-- What a method of the writer does: it appends m to the record. -/
def WC (w : World) (g q : Nat) (F : Array Value) (x : Ndl) (s : Value) (L : List Nat) (e : Ending) (w' : World) : Prop := e = .returned (.tuple #[]) ∧ ∃ r, Wb w g q F x s L w' r
theorem wc_end {w W W' : World} {g q : Nat} {F : Array Value} {x : Ndl} {s r r' : Value} {L L' : List Nat} (h : Wb w g q F x s L W r) (hg : W.grownBy W' r.ownBlock) (ho : Own W' w.heap.size r' L') : WC w g q F x s L' (.returned (.tuple #[])) (W'.setCell ⟨g, 4, none⟩ r') := ⟨rfl, _, h.put hg ho⟩
set_option maxRecDepth 100000 in
theorem mark_any {w W : World} {g q : Nat} {F : Array Value} {x : Ndl} {s r : Value} {L : List Nat} (h : Wb w g q F x s L W r) (hl : L.length ≤ 90000) : Calls Tryd.prog 21 #[.pointer (some ⟨g, 0, none⟩)] W (WC w g q F x s (L ++ [78, 165])) := by
  obtain ⟨ra, rn, rc, rfl, -⟩ := own_form h.own
  obtain ⟨-, -, -, -, c4, -⟩ := h.cells
  have HL := Lib.hid hl
  have H := Lib.hid (h.later ((Below.refl W.heap.size W).alloc (Nat.le_refl _) (.cells #[.int .u8 78, .int .u8 165] 5)))
  have HS := Lib.hid (sl_block (w := W.alloc (.cells #[.int .u8 78, .int .u8 165] 5)) (l := [78, 165]) (n := 2) (by simp) rfl (by unfold maxLen; omega) rfl (heap_alloc_new W _))
  clear h hl
  go_enter Tryd.func21, Tryd.ntmps21
  go_wp2_with (at_builtin; refine app_sl (dst := some 8) ?_ ?_ H.out.own HS.out (by have := HL.out; simp; omega) H.out.size ?_; exact rfl; exact rfl; intro v5 w5 ho5 hg5; obtain ⟨sa5, sn5, sc5, rfl, -⟩ := own_form ho5; have c5 := cell_of_row w5 g 4 _ _ _ (H.out.grown hg5); have f5 := frozen_of_row w5 g 4 _ _ (H.out.grown hg5); have HO5 := Lib.hid ho5; have HG5 := Lib.hid hg5; clear ho5 hg5)
  go_end0
  exact wc_end H.out HG5.out HO5.out
set_option maxRecDepth 100000 in
theorem kind_any {w W : World} {g q : Nat} {F : Array Value} {x : Ndl} {s r : Value} {L : List Nat} (h : Wb w g q F x s L W r) (hl : L.length ≤ 90000) : Calls Tryd.prog 22 #[.pointer (some ⟨g, 0, none⟩)] W (WC w g q F x s (L ++ [if x.del then 1 else 0, 0])) := by
  obtain ⟨ra, rn, rc, rfl, -⟩ := own_form h.own
  obtain ⟨-, -, c2, -, c4, -⟩ := h.cells
  obtain ⟨z, hz⟩ : ∃ z : Nat, z = if x.del then 1 else 0 := ⟨_, rfl⟩
  have HL := Lib.hid hl
  have H := Lib.hid (h.later ((Below.refl W.heap.size W).alloc (Nat.le_refl _) (.cells #[.int .u8 (z : Int), .int .u8 0] 5)))
  have HS := Lib.hid (sl_block (w := W.alloc (.cells #[.int .u8 (z : Int), .int .u8 0] 5)) (l := [z, 0]) (n := 2) (by rw [hz]; split <;> simp) rfl (by unfold maxLen; omega) rfl (heap_alloc_new W _))
  rw [← hz]
  clear h hl
  cases hd : x.del
  · rw [hd] at c2 hz
    obtain rfl : z = 0 := hz
    go_enter Tryd.func22, Tryd.ntmps22
    go_wp2_with (at_builtin; refine app_sl (dst := some 15) ?_ ?_ H.out.own HS.out (by have := HL.out; simp; omega) H.out.size ?_; exact rfl; exact rfl; intro v5 w5 ho5 hg5; obtain ⟨sa5, sn5, sc5, rfl, -⟩ := own_form ho5; have c5 := cell_of_row w5 g 4 _ _ _ (H.out.grown hg5); have f5 := frozen_of_row w5 g 4 _ _ (H.out.grown hg5); have HO5 := Lib.hid ho5; have HG5 := Lib.hid hg5; clear ho5 hg5)
    go_end0
    exact wc_end H.out HG5.out HO5.out
  · rw [hd] at c2 hz
    obtain rfl : z = 1 := hz
    go_enter Tryd.func22, Tryd.ntmps22
    go_wp2_with (at_builtin; refine app_sl (dst := some 15) ?_ ?_ H.out.own HS.out (by have := HL.out; simp; omega) H.out.size ?_; exact rfl; exact rfl; intro v5 w5 ho5 hg5; obtain ⟨sa5, sn5, sc5, rfl, -⟩ := own_form ho5; have c5 := cell_of_row w5 g 4 _ _ _ (H.out.grown hg5); have f5 := frozen_of_row w5 g 4 _ _ (H.out.grown hg5); have HO5 := Lib.hid ho5; have HG5 := Lib.hid hg5; clear ho5 hg5)
    go_end0
    exact wc_end H.out HG5.out HO5.out
end Go.Proofs.YtljdbaibhpgfnaaDoor.Gf
