/- What is proved here: matrices of the program in memory; the contracts of validSize, Valid, zeros, row. No condition. -/
import Derived.Test.YtppfdaiehdbafaaL3
import Derived.Test.YtppfdaiehdbafaaQt
import Derived.IntWalk
namespace Go.Proofs.Ytppfdaiehdbafaa.Gf
open Go Go.ChangeShapes Go.WideShapes Go.ChangeAt Go.RowKit Go.Proofs.Ytppfdaiehdbafaa.By Go.Proofs.Ytppfdaiehdbafaa.Qt

/-- A matrix and an error as results: the matrix lies in a block of its own. -/
theorem results_px {fn : Func} {p u : Tmp} (h : fn.results = #[.cell p 24, .tmp u]) (tmps : Array Value) (w : World) (g : Nat) (a b c : Value) (fr : Nat × Nat)
    (hp : tmps.getD p undef = .pointer (some ⟨g, 0, none⟩)) (hg : w.heap[g]? = some (.cells #[a, b, c] 24 fr)) :
    (results fn tmps).run Try.prog w = .ok (.tuple #[.agg #[a, b, c], tmps.getD u undef]) w := by
  rw [results_cell_tmp h, hp]
  simp [asAddr, run_loadVar_row w g 24 24 #[a, b, c] fr _ hg Try.underlying24 rfl size27]
theorem loadP {ops : Array Oper} {rest : List Oper} {dst : Option Tmp} {x : Operand} {pos : String} {after : Array Edge} {ty : TypeId} {a : Act} {w : World} {Q : Exit → Act → World → Prop}
    (g : Nat) {r c s : Value} (hx : a.eval x = .pointer (some ⟨g, 0, none⟩)) (hg : w.heap[g]? = some (.cells #[r, c, s] 24 (0, 0)))
    (h : wpList Try.prog ops Q rest (a.put dst (.agg #[r, c, s])) w) : wpList Try.prog ops Q (⟨dst, .load 24 x, ty, pos, after, none⟩ :: rest) a w :=
  wpList_load_row rfl 24 x rfl g hx 24 #[r, c, s] (0, 0) _ hg Try.underlying24 rfl size27 h
theorem storeP {ops : Array Oper} {rest : List Oper} {dst : Option Tmp} {x y : Operand} {pos : String} {after : Array Edge} {ty : TypeId} {a : Act} {w : World} {Q : Exit → Act → World → Prop}
    (g : Nat) (r c s : Value) {r0 c0 s0 : Value} (hx : a.eval x = .pointer (some ⟨g, 0, none⟩)) (hy : a.eval y = .agg #[r, c, s]) (hg : w.heap[g]? = some (.cells #[r0, c0, s0] 24 (0, 0))) (h1 : r.oneCell' = true) (h2 : c.oneCell' = true) (h3 : s.oneCell' = true)
    (h : wpList Try.prog ops Q rest (a.put dst undef) (w.setRow g #[r, c, s])) : wpList Try.prog ops Q (⟨dst, .store 24 x y, ty, pos, after, none⟩ :: rest) a w :=
  wpList_store_row rfl 24 x y rfl g #[r, c, s] hx hy 24 #[r0, c0, s0] hg size27 rfl (by simp [h1, h2, h3]) h
/-- A matrix that is being built in the block g of the world W; its bytes lie in a block made since. -/
structure P2 (W wr : World) (g : Nat) (r c : Int) (l : List Nat) (sv : Value) : Prop where
  bel : Below W.heap.size (W.setRow g #[.int .i64 r, .int .i64 c, sv]) wr
  own : Own wr W.heap.size sv l
  blk : ∃ cs, W.heap[g]? = some (.cells cs 24 (0, 0))
section
variable {W wr : World} {g : Nat} {r c : Int} {l : List Nat} {sv : Value}
theorem P2.lt (h : P2 W wr g r c l sv) : g < W.heap.size := by
  obtain ⟨cs, hc⟩ := h.blk
  exact (Array.getElem?_eq_some_iff.1 hc).1
theorem P2.size (h : P2 W wr g r c l sv) : W.heap.size ≤ wr.heap.size := by simpa using h.bel.size
theorem P2.row (h : P2 W wr g r c l sv) : wr.heap[g]? = some (.cells #[.int .i64 r, .int .i64 c, sv] 24 (0, 0)) := by
  obtain ⟨cs, hc⟩ := h.blk
  exact (h.bel.block g h.lt).trans (setRow_heap _ _ _ _ _ _ hc)
theorem P2.cell (h : P2 W wr g r c l sv) : wr.cell? ⟨g, 2, none⟩ = some sv := cell_of_row _ _ _ _ _ _ h.row
theorem P2.keep (h : P2 W wr g r c l sv) {k : Nat} (hk : k < W.heap.size) (hne : k ≠ g) : wr.heap[k]? = W.heap[k]? := (h.bel.block k hk).trans (setRow_other _ _ _ _ hne)
theorem P2.below (h : P2 W wr g r c l sv) {w : World} (hw : Below w.heap.size w W) (hg : w.heap.size ≤ g) : Below w.heap.size w wr := (below_setRow hw hg _).trans (h.bel.mono hw.size)
theorem P2.drew (h : P2 W wr g r c l sv) : P2 W wr.drew g r c l sv := ⟨h.bel.drew, h.own.drew, h.blk⟩
theorem P2.later (h : P2 W wr g r c l sv) {w1 : World} (hb : Below wr.heap.size wr w1) : P2 W w1 g r c l sv := by
  refine ⟨h.bel.trans (hb.mono h.size), own_keep h.own fun k hk => hb.block k ?_, h.blk⟩
  obtain ⟨_, _, ⟨rfl, _⟩ | ⟨q, _, _, rfl, _, hq, _⟩⟩ := h.own
  · cases hk
  · cases hk
    exact (Array.getElem?_eq_some_iff.1 hq).1
/-- Behind an append of what lies in a new block. -/
theorem P2.app (h : P2 W wr g r c l sv) {w1 : World} {o : Obj} (hg : (wr.alloc o).grownBy w1 sv.ownBlock) : w1.cell? ⟨g, 2, none⟩ = some sv ∧ w1.frozen? ⟨g, 2, none⟩ = false := by
  have h1 := h.lt
  have h2 := h.size
  have e : w1.heap[g]? = some (.cells #[.int .i64 r, .int .i64 c, sv] 24 (0, 0)) := (hg.block g (by simp; omega) (fun x => by have := h.own.lt g x.symm; omega)).trans ((heap_alloc_old _ _ (by omega)).trans h.row)
  exact ⟨cell_of_row _ _ _ _ _ _ e, frozen_of_row _ _ _ _ _ e⟩
theorem P2.push (h : P2 W wr g r c l sv) {w1 : World} {o : Obj} {v1 : Value} {m : List Nat} (hg : (wr.alloc o).grownBy w1 sv.ownBlock) (ho : Own w1 W.heap.size v1 m) : P2 W (w1.setCell ⟨g, 2, none⟩ v1) g r c m v1 := by
  have h1 := h.lt
  have h2 := h.size
  have hs := hg.size
  simp at hs
  obtain ⟨cs, hc⟩ := h.blk
  have old : ∀ k, k < W.heap.size → w1.heap[k]? = wr.heap[k]? := fun k hk => (hg.block k (by simp; omega) (fun x => by have := h.own.lt k x.symm; omega)).trans (heap_alloc_old _ _ (by omega))
  have hb := (h.bel.alloc h.size o).grown hg (by simp; omega) (fun k hk => by have := h.own.lt k hk; omega)
  refine ⟨⟨hb.os, hb.tape, hb.output, by simp; omega, fun k hk => ?_⟩, own_keep ho fun k hk => heap_setCell_other _ _ _ _ (by have := ho.lt k hk; show k ≠ g; omega), h.blk⟩
  by_cases e : k = g
  · subst e
    rw [setRow_heap _ _ _ _ _ _ hc, heap_setCell_same w1 k 2 _ 24 _ ((old k h1).trans h.row)]
    rfl
  · rw [heap_setCell_other _ _ _ _ e, old k hk, h.keep hk e, setRow_other _ _ _ _ e]
/-- The matrix as a result in the block gr. -/
theorem P2.done (h : P2 W wr g r c l sv) {w : World} (hw : Below w.heap.size w W) (hg : w.heap.size ≤ g) {gr : Nat} (h1 : w.heap.size ≤ gr) (h2 : gr < W.heap.size) (x : Value) (y : Value) : Own (wr.setRow gr #[x, y, sv]) w.heap.size sv l ∧ Below w.heap.size w (wr.setRow gr #[x, y, sv]) := by
  refine ⟨?_, below_setRow (h.below hw hg) h1 _⟩
  have h7 := own_keep (w' := wr.setRow gr #[x, y, sv]) h.own fun k hk => setRow_other _ _ _ _ (by have := h.own.lt k hk; omega)
  obtain ⟨a, b, d⟩ := h7
  refine ⟨a, b, ?_⟩
  rcases d with d | ⟨q, cap, cur, d1, d2, d3⟩
  · exact Or.inl d
  · exact Or.inr ⟨q, cap, cur, d1, by have := hw.size; omega, d3⟩
end
/-- A matrix's start: a new block, nothing in it yet. -/
theorem P2.start {w : World} (r c : Int) : P2 (w.alloc (.cells #[.int .i64 r, .int .i64 c, .slice none 0 0] 24)) (w.alloc (.cells #[.int .i64 r, .int .i64 c, .slice none 0 0] 24)) w.heap.size r c [] (.slice none 0 0) := by
  refine ⟨⟨rfl, rfl, rfl, by simp, fun k hk => ?_⟩, own_nil _ _, _, heap_alloc_new _ _⟩
  by_cases e : k = w.heap.size
  · subst e
    rw [setRow_heap _ _ _ _ _ _ (heap_alloc_new _ _), heap_alloc_new]
  · rw [setRow_other _ _ _ _ e]
theorem P2.app0 {W wr : World} {g : Nat} {r c : Int} {l : List Nat} {sv : Value} (h : P2 W wr g r c l sv) {w1 : World} (hg : wr.grownBy w1 sv.ownBlock) : w1.cell? ⟨g, 2, none⟩ = some sv ∧ w1.frozen? ⟨g, 2, none⟩ = false := by
  have h1 := h.lt
  have h2 := h.size
  have e : w1.heap[g]? = some (.cells #[.int .i64 r, .int .i64 c, sv] 24 (0, 0)) := (hg.block g (by omega) (fun x => by have := h.own.lt g x.symm; omega)).trans h.row
  exact ⟨cell_of_row _ _ _ _ _ _ e, frozen_of_row _ _ _ _ _ e⟩
theorem P2.push0 {W wr : World} {g : Nat} {r c : Int} {l : List Nat} {sv : Value} (h : P2 W wr g r c l sv) {w1 : World} {v1 : Value} {m : List Nat} (hg : wr.grownBy w1 sv.ownBlock) (ho : Own w1 W.heap.size v1 m) : P2 W (w1.setCell ⟨g, 2, none⟩ v1) g r c m v1 := by
  have h1 := h.lt
  have h2 := h.size
  have hs := hg.size
  obtain ⟨cs, hc⟩ := h.blk
  have old : ∀ k, k < W.heap.size → w1.heap[k]? = wr.heap[k]? := fun k hk => hg.block k (by omega) (fun x => by have := h.own.lt k x.symm; omega)
  have hb := h.bel.grown hg h.size (fun k hk => by have := h.own.lt k hk; omega)
  refine ⟨⟨hb.os, hb.tape, hb.output, by simp; omega, fun k hk => ?_⟩, own_keep ho fun k hk => heap_setCell_other _ _ _ _ (by have := ho.lt k hk; show k ≠ g; omega), h.blk⟩
  by_cases e : k = g
  · subst e
    rw [setRow_heap _ _ _ _ _ _ hc, heap_setCell_same w1 k 2 _ 24 _ ((old k h1).trans h.row)]
    rfl
  · rw [heap_setCell_other _ _ _ _ e, old k hk, h.keep hk e, setRow_other _ _ _ _ e]

def In16 (n : Int) : Prop := 1 ≤ n ∧ n ≤ 16
instance (n : Int) : Decidable (In16 n) := by unfold In16; infer_instance
set_option maxRecDepth 100000 in
theorem vsize_any (n : Int) (w : World) : Calls Try.prog 34 #[.int .i64 n] w fun e w' => e = .returned (.bool (decide (In16 n))) ∧ w = w' := by
  by_cases h1 : 1 ≤ n
  · have hd : decide (In16 n) = decide (n ≤ 16) := by rw [decide_eq_decide]; exact ⟨fun h => h.2, fun h => ⟨h1, h⟩⟩
    rw [hd]
    go_enter Try.func34, Try.ntmps34
    go_wp2
    go_ret
    exact ⟨rfl, rfl⟩
  · have hd : decide (In16 n) = false := decide_eq_false fun h => h1 h.1
    have hf : decide (1 ≤ n) = false := decide_eq_false h1
    rw [hd]
    go_enter Try.func34, Try.ntmps34
    go_wp2
    go_ret
    exact ⟨rfl, rfl⟩
theorem sized_iff (r c : Int) : Sized r c ↔ In16 r ∧ In16 c := by unfold Sized In16; omega
set_option maxRecDepth 100000 in
set_option maxHeartbeats 800000 in
theorem valid_any (r c : Int) (a : Option Addr) (n cap : Nat) (w : World) : Calls Try.prog 33 #[mv r c (.slice a n cap)] w fun e w' => e = .returned (.bool (decide (Vd r c n))) ∧ Below w.heap.size w w' := by
  have hs1 := fun w => vsize_any r w
  have hs2 := fun w => vsize_any c w
  have hb : ∀ cs, Below w.heap.size w (w.alloc (.cells cs 24)) := fun cs => (Below.refl _ _).alloc (Nat.le_refl _) _
  unfold mv
  by_cases h1 : In16 r
  · rw [decide_eq_true h1] at hs1
    have HS1 := Lib.hid hs1
    by_cases h2 : In16 c
    · rw [decide_eq_true h2] at hs2
      have HS2 := Lib.hid hs2
      have hp := prod_le ((sized_iff r c).2 ⟨h1, h2⟩)
      have hd : decide (Vd r c n) = ((n : Int) == r * c) := by
        rw [Bool.eq_iff_iff]
        simp [Vd, sized_iff, h1, h2]
      rw [hd]
      have hw : wrap64 (r * c) = r * c := by
        generalize r * c = p at hp
        unfold wrap64
        omega
      clear hs1 hs2 hd h1 h2
      go_enter Try.func33, Try.ntmps33
      go_wp2_with (go_at_call 34; first | ((with_reducible refine (HS1.out _).mono ?_); rintro e w' ⟨rfl, rfl⟩) | ((with_reducible refine (HS2.out _).mono ?_); rintro e w' ⟨rfl, rfl⟩))
      go_ret
      exact ⟨rfl, hb _⟩
    · rw [decide_eq_false h2] at hs2
      have HS2 := Lib.hid hs2
      have hd : decide (Vd r c n) = false := decide_eq_false fun x => h2 ((sized_iff r c).1 x.1).2
      rw [hd]
      clear hs1 hs2 hd h1 h2
      go_enter Try.func33, Try.ntmps33
      go_wp2_with (go_at_call 34; first | ((with_reducible refine (HS1.out _).mono ?_); rintro e w' ⟨rfl, rfl⟩) | ((with_reducible refine (HS2.out _).mono ?_); rintro e w' ⟨rfl, rfl⟩))
      go_ret
      exact ⟨rfl, hb _⟩
  · rw [decide_eq_false h1] at hs1
    have HS1 := Lib.hid hs1
    have hd : decide (Vd r c n) = false := decide_eq_false fun x => h1 ((sized_iff r c).1 x.1).1
    rw [hd]
    clear hs1 hs2 hd h1
    go_enter Try.func33, Try.ntmps33
    go_wp2_with (go_at_call 34; (refine (HS1.out _).mono ?_; rintro e w' ⟨rfl, rfl⟩))
    go_ret
    exact ⟨rfl, hb _⟩
theorem wrap_nat {n : Nat} (h : n < 4611686018427387904) : wrap64 (n : Int) = (n : Int) := by unfold wrap64; omega
theorem wrap_rc {r c q : Nat} (h : Sized r c) (hq : q = r * c) : wrap64 ((r : Int) * (c : Int)) = (q : Int) ∧ q ≤ 256 := by
  have hp := prod_le h
  have e : (r : Int) * (c : Int) = (q : Int) := by rw [hq]; simp
  rw [e] at hp ⊢
  unfold wrap64
  omega
set_option maxRecDepth 100000 in
set_option maxHeartbeats 800000 in
theorem zeros_any (r c : Nat) (w : World) (h : Sized r c) : Calls Try.prog 62 #[.int .i64 (r : Int), .int .i64 (c : Int)] w fun e w' => (∃ g, e = .returned (mv r c (.slice (some ⟨g, 0, none⟩) (r * c) (r * c))) ∧ Own w' w.heap.size (.slice (some ⟨g, 0, none⟩) (r * c) (r * c)) (List.replicate (r * c) 0)) ∧ Below w.heap.size w w' := by
  obtain ⟨q, hq⟩ : ∃ q : Nat, q = r * c := ⟨_, rfl⟩
  have ⟨hw, hq1⟩ := wrap_rc h hq
  have hn : 1 ≤ r ∧ r ≤ 16 ∧ 1 ≤ c ∧ c ≤ 16 := by unfold Sized at h; omega
  rw [← hq]
  have HQ := Lib.hid hq
  have HW := Lib.hid hw
  clear hq hw h
  have hb : ∀ A B, Below w.heap.size w (((w.alloc A).alloc B)) := fun A B => ((Below.refl _ _).alloc (Nat.le_refl _) _).alloc (by simp) _
  have E1 := Lib.hid (heap_alloc2_old w (.cells #[.int .i64 0, .int .i64 0, .slice none 0 0] 24) (.cells (cellsOf (List.replicate q 0)).toArray 5))
  have O1 := Lib.hid (own_made (w.alloc (.cells #[.int .i64 0, .int .i64 0, .slice none 0 0] 24)) (base := w.heap.size) (n := q) (by simp) (by unfold maxLen; omega))
  unfold mv
  go_enter Try.func62, Try.ntmps62
  go_wp2_with (first | ((with_reducible refine make_step (n := q) ?_ (by omega) ?_); exact congrArg (Value.int .i64) HW.out) | ((with_reducible refine storeP w.heap.size (.int .i64 r) (.int .i64 c) (.slice (some ⟨w.heap.size + 1, 0, none⟩) q q) ?_ ?_ E1.out ?_ ?_ ?_ ?_); exact rfl; exact rfl; exact rfl; exact rfl; exact rfl))
  refine bodyPost_ret (results_cell_row Try.results62 _ _ w.heap.size 24 _ (0, 0) _ rfl (setRow_heap _ _ _ _ _ _ E1.out) Try.underlying24 rfl size27) rfl ⟨⟨_, rfl, ?_⟩, below_setRow (hb _ _) (Nat.le_refl _) _⟩
  have h3 := O1.out
  rw [show (w.alloc (.cells #[.int .i64 0, .int .i64 0, .slice none 0 0] 24)).heap.size = w.heap.size + 1 by simp] at h3
  exact own_keep h3 fun g hg => setRow_other _ _ _ _ (by
    have : w.heap.size + 1 = g := Option.some.inj hg
    omega)
set_option maxRecDepth 100000 in
set_option maxHeartbeats 800000 in
theorem row_any (r c : Nat) (b o n cap i p : Nat) (w : World) (h : Sized r c) (hn : n = r * c) (hcap : n ≤ cap) (_hm : cap ≤ maxLen) (hi : i < r) (hp : p = i * c) : Calls Try.prog 35 #[mv r c (.slice (some ⟨b, o, none⟩) n cap), .int .i64 (i : Int)] w fun e w' => e = .returned (.slice (some ⟨b, o + p, none⟩) c (cap - p)) ∧ Below w.heap.size w w' := by
  have hs : 1 ≤ r ∧ r ≤ 16 ∧ 1 ≤ c ∧ c ≤ 16 := by unfold Sized at h; omega
  have hpn : p + c ≤ n := by rw [hn, hp, ← Nat.succ_mul]; exact Nat.mul_le_mul_right c hi
  have i1 : (i : Int) * (c : Int) = (p : Int) := by rw [hp]; simp
  have i2 : ((i : Int) + 1) * (c : Int) = (p : Int) + (c : Int) := by rw [Int.add_mul, i1]; omega
  obtain ⟨q, hq⟩ : ∃ q, q = p + c := ⟨_, rfl⟩
  have hqs : q ≤ 256 := by have := (wrap_rc h hn).2; omega
  have W1 : Hid (wrap64 ((i : Int) * (c : Int)) = (p : Int)) := i1 ▸ wrap_nat (by omega)
  have W2 : Hid (wrap64 (((i : Int) + 1) * (c : Int)) = (q : Int)) := by
    rw [i2, show (p : Int) + (c : Int) = (q : Int) by omega]
    exact wrap_nat (by omega)
  have hb : ∀ A, Below w.heap.size w (w.alloc A) := fun A => (Below.refl _ _).alloc (Nat.le_refl _) _
  have hi16 : i < 16 := by omega
  have s0 : (0 : Int) ≤ (p : Int) := by omega
  have s1 : (p : Int) ≤ (q : Int) := by omega
  have s2 : (q : Int) ≤ (cap : Int) := by omega
  have s3 : p < cap := by omega
  have hqc : q - p = c := by omega
  have HQC := Lib.hid hqc
  clear i1 i2 hn hp h hs hpn hq hcap _hm hi hqc
  have w1 := W1.out
  have w2 := W2.out
  unfold mv
  go_enter Try.func35, Try.ntmps35
  go_wp2
  rw [HQC.out]
  go_ret
  exact ⟨rfl, hb _⟩
end Go.Proofs.Ytppfdaiehdbafaa.Gf
