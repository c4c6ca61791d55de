/- What is proved here: the contracts of product, shiftBytes, Combine. Condition: the table nibbles holds its sixteen numbers. -/
import Derived.Test.YtffpbmlpnclmkaaDoorW4
import Derived.StillTailTactics
import Derived.Deep.RegionHeld3
namespace Go.Proofs.YtffpbmlpnclmkaaDoor.Crc
open Go Go.ChangeShapes Go.WideShapes Go.ChangeAt Go.RowKit

/-- Thirty-two cells: the first k those of one matrix, the others those of another. -/
def Mixed (a b k : Nat) (cs : Array Value) : Prop := cs.size = 32 ∧ (∀ j, j < k → cs[j]? = (M a)[j]?) ∧ ∀ j, k ≤ j → cs[j]? = (M b)[j]?
theorem Mixed.step {a b k : Nat} {cs : Array Value} (h : Mixed a b k cs) (hk : k < 32) : Mixed a b (k + 1) (cs.setIfInBounds k (.int .u32 ((sgn a (2 ^ k) : Nat) : Int))) := by
  refine ⟨by simpa using h.1, fun j hj => ?_, fun j hj => ?_⟩
  · by_cases e : j = k
    · subst e
      rw [M_get a j hk, Array.getElem?_setIfInBounds_self_of_lt (by rw [h.1]; exact hk)]
    · rw [Array.getElem?_setIfInBounds_ne (by omega)]
      exact h.2.1 j (by omega)
  · rw [Array.getElem?_setIfInBounds_ne (by omega)]
    exact h.2.2 j (by omega)
theorem Mixed.full {a b : Nat} {cs : Array Value} (h : Mixed a b 32 cs) : cs = M a := Upto.full ⟨h.1, h.2.1⟩
/-- A load of a whole matrix, as a step that leaves the world alone. -/
theorem still_load40 {ops : Array Oper} {rest : List Oper} {dst : Option Tmp} {x : Operand} {pos : String} {after : Array Edge} {ty : TypeId} {a : Act} {w : World} {Q : Act → Prop}
    (g : Nat) (cs : Array Value) (hx : a.eval x = .pointer (some ⟨g, 0, none⟩)) (hg : w.heap[g]? = some (.cells cs 40 (0, 0))) (hs : cs.size = 32)
    (h : wpStill Tryd.prog ops w Q rest (a.put dst (.agg cs))) : wpStill Tryd.prog ops w Q (⟨dst, .load 40 x, ty, pos, after, none⟩ :: rest) a := by
  refine wpStill_step fun K hK => ?_
  simp only [Region.wanted, if_true]
  unfold Oper.still
  have hr := run_loadVar_row (P := Tryd.prog) w g 40 40 cs (0, 0) _ hg Tryd.underlying40 rfl (by rw [size40, hs])
  have : (execOp a.eval ⟨dst, .load 40 x, ty, pos, after, none⟩).run Tryd.prog w = .ok (.value (.agg cs)) w := by
    unfold execOp
    simp only [hx, Instr.loadAt, Instr.sureAddr, Sem.run_bind, Sem.run_pure, Result.andThen_ok, hr]
  rw [this, Oper.stillUpon_value]
  exact hK _ h
/-- A load of a whole matrix, as a step of a region that draws its order. -/
theorem step_load40 {ops : Array Oper} {dst : Option Tmp} {x : Operand} {pos : String} {after : Array Edge} {ty : TypeId} {a : Act} {w : World} {K : Act → World → Prop} {Q : Exit → Act → World → Prop} {E : Prop}
    (g : Nat) (cs : Array Value) (hx : a.eval x = .pointer (some ⟨g, 0, none⟩)) (hg : w.heap[g]? = some (.cells cs 40 (0, 0))) (hs : cs.size = 32)
    (h : K (a.put dst (.agg cs)) w) : if Region.wanted ⟨dst, .load 40 x, ty, pos, after, none⟩ (yielded ops a.tmps) = true then Oper.wp Tryd.prog ⟨dst, .load 40 x, ty, pos, after, none⟩ a w K Q else E := by
  rw [if_pos (by simp [Region.wanted])]
  exact wp_load_row 40 x rfl g hx 40 cs (0, 0) _ hg Tryd.underlying40 rfl (by rw [size40, hs]) h
/-- The rest of a region that draws its order, where one order is left: the operations from number k on. -/
theorem any_tail {md : Region.Mode} {L : List Oper} {Q : Exit → Act → World → Prop} {listed : Array Bool} {a : Act} {w : World} (k : Nat) (hB : Region.seqB md L.toArray (L.drop k).length k listed = true)
    (h : wpList Tryd.prog L.toArray Q (L.drop k) a w) : wpAny Tryd.prog md L.toArray Q (L.drop k).length listed a w :=
  wpAny_of_seq (L.drop k) k listed a w (fun j => by simp [List.getElem?_drop]) hB h
theorem heap3_0 (w : World) (a b c : Obj) : (((w.alloc a).alloc b).alloc c).heap[w.heap.size]? = some a := by
  rw [heap_alloc_old _ _ (by simp; omega), heap_alloc_old _ _ (by simp), heap_alloc_new]
theorem heap3_1 (w : World) (a b c : Obj) : (((w.alloc a).alloc b).alloc c).heap[w.heap.size + 1]? = some b := by
  rw [heap_alloc_old _ _ (by simp)]
  have := heap_alloc_new (w.alloc a) b
  simpa using this
theorem heap3_2 (w : World) (a b c : Obj) : (((w.alloc a).alloc b).alloc c).heap[w.heap.size + 2]? = some c := by
  have := heap_alloc_new ((w.alloc a).alloc b) c
  simpa using this
theorem rel_step {w wr : World} {m n k x : Nat} {cs c0 : Array Value} (hlt : k < 32) (hx : sgn m x = sgn (n + m) (2 ^ k)) (hb0 : wr.heap[w.heap.size]? = some (.cells (M m) 40 (0, 0))) (hb1 : wr.heap[w.heap.size + 1]? = some (.cells cs 40 (0, 0)))
    (hb2 : wr.heap[w.heap.size + 2]? = some (.cells c0 40 (0, 0))) (h0 : c0.size = 32) (hB : Below w.heap.size w wr) (hU : Mixed (n + m) n k cs) :
    ∃ (k_1 : Nat) (cs c0 : Array Value), k_1 ≤ 32 ∧ Value.int .i64 ((k : Int) + 1) = .int .i64 (k_1 : Int) ∧ Mixed (n + m) n k_1 cs ∧
      ((wr.setCell ⟨w.heap.size + 1, k, none⟩ (.int .u32 ((sgn m x : Nat) : Int))).alloc (.cells (M m) 40)).drew.heap[w.heap.size]? = some (.cells (M m) 40 (0, 0)) ∧
      ((wr.setCell ⟨w.heap.size + 1, k, none⟩ (.int .u32 ((sgn m x : Nat) : Int))).alloc (.cells (M m) 40)).drew.heap[w.heap.size + 1]? = some (.cells cs 40 (0, 0)) ∧
      ((wr.setCell ⟨w.heap.size + 1, k, none⟩ (.int .u32 ((sgn m x : Nat) : Int))).alloc (.cells (M m) 40)).drew.heap[w.heap.size + 2]? = some (.cells c0 40 (0, 0)) ∧ c0.size = 32 ∧
      Below w.heap.size w ((wr.setCell ⟨w.heap.size + 1, k, none⟩ (.int .u32 ((sgn m x : Nat) : Int))).alloc (.cells (M m) 40)).drew := by
  have l2 : w.heap.size + 2 < wr.heap.size := (Array.getElem?_eq_some_iff.1 hb2).1
  refine ⟨k + 1, _, c0, by omega, by simp, hU.step hlt, ?_, ?_, ?_, h0, ((hB.setCell (by simp) _).alloc (by simp; omega) _).drew⟩
  · rw [heap_drew, heap_alloc_old _ _ (by simp; omega), heap_setCell_other _ _ _ _ (by simp)]
    exact hb0
  · rw [heap_drew, heap_alloc_old _ _ (by simp; omega), heap_setCell_same wr (w.heap.size + 1) k cs 40 _ hb1, hx]
  · rw [heap_drew, heap_alloc_old _ _ (by simp; omega), heap_setCell_other _ _ _ _ (by simp)]
    exact hb2
set_option maxRecDepth 100000 in
set_option maxHeartbeats 800000 in
theorem product_any (m n : Nat) (w : World) :
    Calls Tryd.prog 24 #[.agg (M m), .agg (M n)] w fun e w' => e = .returned (.agg (M (n + m))) ∧ Below w.heap.size w w' := by
  go_enter Tryd.func24, Tryd.ntmps24
  go_wp2
  go_loopw [6] (fun i wr => ∃ (k : Nat) (cs c0 : Array Value), k ≤ 32 ∧ i = .int .i64 k ∧ Mixed (n + m) n k cs ∧ wr.heap[w.heap.size]? = some (.cells (M m) 40 (0, 0)) ∧ wr.heap[w.heap.size + 1]? = some (.cells cs 40 (0, 0)) ∧ wr.heap[w.heap.size + 2]? = some (.cells c0 40 (0, 0)) ∧ c0.size = 32 ∧ Below w.heap.size w wr) (fun i _ => 32 - (intOf i).toNat)
  case atStart =>
    exact ⟨0, _, _, by omega, rfl, ⟨M_size n, fun j hj => by omega, fun j hj => rfl⟩, heap3_0 _ _ _ _, heap3_1 _ _ _ _, heap3_2 _ _ _ _, rfl, (((Below.refl _ _).alloc (Nat.le_refl _) _).alloc (by simp) _).alloc (by simp; omega) _⟩
  case round =>
    obtain ⟨k, cs, c0, hk, rfl, hU, hb0, hb1, hb2, h0, hB⟩ := hrel
    have hBs := hB.size
    have HB0 := Lib.hid hb0
    have HB1 := Lib.hid hb1
    have HB2 := Lib.hid hb2
    clear hb0 hb1 hb2
    by_cases hlt : k < 32
    · have hc := cell_of_row wr (w.heap.size + 1) k cs 40 (0, 0) HB1.out
      have hf := frozen_of_row wr (w.heap.size + 1) k cs 40 HB1.out
      rw [hU.2.2 k (Nat.le_refl _), M_get n k hlt] at hc
      have hx32 : sgn n (2 ^ k) < 4294967296 := sgn_lt (pow_fact k hlt).2
      have hxm : sgn m (sgn n (2 ^ k)) = sgn (n + m) (2 ^ k) := (sgn_add n m _).symm
      obtain ⟨x, hx⟩ : ∃ x, x = sgn n (2 ^ k) := ⟨_, rfl⟩
      rw [← hx] at hc hx32 hxm
      have HX := Lib.hid hxm
      clear hx hxm
      have hsz : w.heap.size + 1 < wr.heap.size := block_lt_of_cell hc
      have hlt0 : (0 : Int) ≤ (k : Int) := by omega
      have hlt32 : (k : Int) < 32 := by omega
      go_wp2
      refine wp_region_any (by kernel_rfl) ?_
      refine wpAny_take (i := 0) (v := .int .i64 (k : Int)) rfl (by kernel_rfl) (by kernel_rfl) (by kernel_rfl) (fun _ _ _ h => h) (Or.inl ⟨by rfl, fun w => by rfl⟩) ?_
      refine wpAny_take (i := 2) (v := .int .i64 (k : Int)) rfl (by kernel_rfl) (by kernel_rfl) (by kernel_rfl) (fun _ _ _ h => h) (Or.inl ⟨by rfl, fun w => by rfl⟩) ?_
      refine wpAny_take (i := 3) (v := .pointer (some ⟨w.heap.size + 1, k, none⟩)) rfl (by kernel_rfl) (by kernel_rfl) (by kernel_rfl) (fun _ _ _ h => h) (Or.inl ⟨by rfl, fun w => by go_simp⟩) ?_
      refine wpAny_ready (rs := [1, 4]) (by kernel_rfl) (by simp) ?_
      refine AllReady.cons rfl (fun K hK => ?_) (AllReady.cons rfl (fun K hK => ?_) AllReady.nil)
      · refine step_load40 w.heap.size (M m) rfl HB0.out (M_size m) ?_
        refine hK _ _ ?_
        clear hK K
        refine any_tail 4 (by kernel_rfl) ?_
        simp only [List.drop_succ_cons, List.drop_zero]
        change wpList _ _ _ _ _ wr.drew
        go_wp2_with ((go_at_call 23; refine (apply_any m x _ hx32).mono ?_; rintro e w' ⟨rfl, rfl⟩))
        go_roundw
        case rel => exact rel_step hlt HX.out HB0.out HB1.out HB2.out h0 hB hU
        case measure => simp [intOf]; omega
      · go_simp
        refine hK _ _ ?_
        clear hK K
        refine wpAny_ready (rs := [1]) (by kernel_rfl) (by simp) ?_
        refine AllReady.cons rfl (fun K hK => ?_) AllReady.nil
        refine step_load40 w.heap.size (M m) rfl HB0.out (M_size m) ?_
        refine hK _ _ ?_
        clear hK K
        refine any_tail 5 (by kernel_rfl) ?_
        simp only [List.drop_succ_cons, List.drop_zero]
        change wpList _ _ _ _ _ wr.drew
        go_wp2_with ((go_at_call 23; refine (apply_any m x _ hx32).mono ?_; rintro e w' ⟨rfl, rfl⟩))
        go_roundw
        case rel => exact rel_step hlt HX.out HB0.out HB1.out HB2.out h0 hB hU
        case measure => simp [intOf]; omega
    · have hcs : cs = M (n + m) := by
        have : k = 32 := by omega
        rw [this] at hU
        exact hU.full
      subst hcs
      have hm := M_size (n + m)
      go_wp2_with (first | ((with_reducible refine load40 (w.heap.size + 1) (M (n + m)) ?_ HB1.out hm ?_); exact rfl) | ((with_reducible refine store40 (w.heap.size + 2) c0 (M (n + m)) ?_ ?_ HB2.out h0 hm (M_one (n + m)) ?_); exact rfl; exact rfl))
      exact bodyPost_ret (v := .agg (M (n + m))) (results_cell_row Tryd.results24 _ _ (w.heap.size + 2) 40 (M (n + m)) (0, 0) _ rfl (setRow_heap _ _ _ _ _ _ HB2.out) Tryd.underlying40 rfl (by rw [size40, hm])) rfl ⟨rfl, below_setRow hB (by omega) _⟩
end Go.Proofs.YtffpbmlpnclmkaaDoor.Crc
