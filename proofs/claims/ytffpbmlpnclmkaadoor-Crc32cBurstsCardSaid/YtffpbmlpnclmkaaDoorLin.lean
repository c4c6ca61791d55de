/- What is proved here: the walk of the law Crc32cLinear. Condition: the table nibbles holds its sixteen numbers. -/
import Derived.Test.YtffpbmlpnclmkaaDoorApp
import Derived.Test.YtffpbmlpnclmkaaDoorMath2
import Derived.StillTailTactics
namespace Go.Proofs.YtffpbmlpnclmkaaDoor.Crc
open Go Go.ChangeShapes Go.WideShapes Go.ChangeAt Go.RowKit

/-- A slice's value written out. -/
theorem sl_form {w : World} {v : Value} {l : List Nat} (h : Sl w v l) : ∃ a cap, v = .slice a l.length cap ∧ l.length ≤ cap ∧ cap ≤ maxLen := by
  obtain ⟨h1, h2, ⟨a, cap, rfl, rfl, h3⟩ | ⟨b, off, cap, rfl, h3, h4, _⟩⟩ := h
  · exact ⟨a, cap, rfl, by simp, h3⟩
  · exact ⟨_, cap, rfl, h3, h4⟩
theorem sl_take {w : World} {a : Option Addr} {n cap : Nat} {l : List Nat} (h : Sl w (.slice a l.length cap) l) (hn : n ≤ l.length) : Sl w (.slice a n cap) (l.take n) := by
  have ht : (l.take n).length = n := by rw [List.length_take]; omega
  obtain ⟨h1, h2, ⟨a', cap', he, h0, h3⟩ | ⟨b, off, cap', he, h3, h4, hc⟩⟩ := h
  · subst h0
    obtain rfl : n = 0 := by simpa using hn
    cases he
    exact ⟨by simp, by simp, Or.inl ⟨a, cap, rfl, by simp, h3⟩⟩
  · cases he
    refine ⟨mem_take h1 n, by rw [ht]; omega, Or.inr ⟨b, off, cap, by rw [ht], by omega, h4, fun k hk => ?_⟩⟩
    rw [ht] at hk
    rw [hc k (by omega)]
    simp [List.getD, hk]

/-- min of three lengths and 1000. -/
theorem min_step {ops : Array Oper} {rest : List Oper} {dst : Option Tmp} {x1 x2 x3 x4 : Operand} {pos : String} {after : Array Edge} {ty : TypeId} {a : Act} {W : World} {Q : Exit → Act → World → Prop} {n1 n2 n3 n4 n : Nat}
    (h1 : a.eval x1 = .int .i64 (n1 : Int)) (h2 : a.eval x2 = .int .i64 (n2 : Int)) (h3 : a.eval x3 = .int .i64 (n3 : Int)) (h4 : a.eval x4 = .int .i64 (n4 : Int)) (hn : n = min (min (min n1 n2) n3) n4)
    (h : wpList Tryd.prog ops Q rest (a.put dst (.int .i64 (n : Int))) W) : wpList Tryd.prog ops Q (⟨dst, .call { callee := .builtin .min, args := #[x1, x2, x3, x4], argTypes := #[3, 3, 3, 3] }, ty, pos, after, none⟩ :: rest) a W := by
  refine wpList_plain rfl fun K hK => ?_
  have m2 : ∀ x y : Nat, Builtin.min2 (.int .i64 (x : Int)) (.int .i64 (y : Int)) = pure (.int .i64 ((min x y : Nat) : Int)) := fun x y => by
    show (pure (Value.int .i64 (if (y : Int) < (x : Int) then (y : Int) else (x : Int))) : Sem Value) = _
    by_cases hxy : y < x
    · rw [if_pos (by omega), Nat.min_eq_right (by omega)]
    · rw [if_neg (by omega), Nat.min_eq_left (by omega)]
  have hr : (Builtin.min_ #[3, 3, 3, 3] ty #[.int .i64 (n1 : Int), .int .i64 (n2 : Int), .int .i64 (n3 : Int), .int .i64 (n4 : Int)]).run Tryd.prog W = .ok (.int .i64 (n : Int)) W := by
    subst hn
    unfold Builtin.min_
    simp only [List.foldlM_cons, List.foldlM_nil, m2, pure_bind]
    rfl
  unfold Oper.wp execOp
  simp only [resolve, invoke, builtin, Sem.run_bind, Sem.run_pure, Result.andThen_ok, List.map_toArray, List.map_cons, List.map_nil, h1, h2, h3, h4, hr]
  exact hK _ _ h
/-- make([]byte, n). -/
theorem make_step {ops : Array Oper} {rest : List Oper} {dst : Option Tmp} {x : Operand} {pos : String} {after : Array Edge} {ty : TypeId} {a : Act} {W : World} {Q : Exit → Act → World → Prop} {n : Nat}
    (hx : a.eval x = .int .i64 (n : Int)) (hn : n ≤ 100000)
    (h : ∀ cs : Array Value, cs.size = n → wpList Tryd.prog ops Q rest (a.put dst (.slice (some ⟨W.heap.size, 0, none⟩) n n)) (W.alloc (.cells cs 5))) : wpList Tryd.prog ops Q (⟨dst, .makeSlice 22 x x, ty, pos, after, none⟩ :: rest) a W := by
  refine wpList_plain rfl fun K hK => ?_
  obtain ⟨i, hi, hz0, hz1, hz2⟩ := info_parts info5
  have hr := run_make (P := Tryd.prog) W 22 5 i (.int .u8 0) Tryd.underlying22 hi hz0 .i64 .i64 (n : Int) (n : Int) (by omega) (Int.le_refl _) (by rw [hz2]; omega) (by omega)
  simp only [Int.toNat_natCast, hz1, Nat.mul_one] at hr
  unfold Oper.wp execOp
  simp only [hx, Sem.run_bind, Sem.run_pure, hr, Result.andThen_ok]
  exact hK _ _ (h _ (size_madeCells _ _))

/-- n cells, the first k of which are the exclusive or of three lists. -/
def Xored (l1 l2 l3 : List Nat) (n k : Nat) (cs : Array Value) : Prop := cs.size = n ∧ ∀ j, j < k → cs[j]? = some (.int .u8 ((l1.getD j 0 ^^^ l2.getD j 0 ^^^ l3.getD j 0 : Nat) : Int))
theorem Xored.step {l1 l2 l3 : List Nat} {n k : Nat} {cs : Array Value} (h : Xored l1 l2 l3 n k cs) (hk : k < n) : Xored l1 l2 l3 n (k + 1) (cs.setIfInBounds k (.int .u8 ((l1.getD k 0 ^^^ l2.getD k 0 ^^^ l3.getD k 0 : Nat) : Int))) := by
  refine ⟨by simpa using h.1, fun j hj => ?_⟩
  by_cases e : j = k
  · subst e
    rw [Array.getElem?_setIfInBounds_self_of_lt (by rw [h.1]; exact hk)]
  · rw [Array.getElem?_setIfInBounds_ne (by omega)]
    exact h.2 j (by omega)
theorem getD_take (l : List Nat) (n j : Nat) (h : j < n) : (l.take n).getD j 0 = l.getD j 0 := by
  simp [List.getD, h]
theorem Xored.full {l1 l2 l3 : List Nat} {n : Nat} {cs : Array Value} (h : Xored l1 l2 l3 n n cs) (q1 : n ≤ l1.length) (q2 : n ≤ l2.length) (q3 : n ≤ l3.length) :
    cs = ((x3 (l1.take n) (l2.take n) (l3.take n)).map fun (b : Nat) => Value.int .u8 (b : Int)).toArray := by
  have t1 : (l1.take n).length = n := by rw [List.length_take]; omega
  have t2 : (l2.take n).length = n := by rw [List.length_take]; omega
  have t3 : (l3.take n).length = n := by rw [List.length_take]; omega
  apply Array.ext_getElem?
  intro j
  by_cases hj : j < n
  · rw [h.2 j hj]
    have := x3_get (l1 := l1.take n) (l2 := l2.take n) (l3 := l3.take n) j (by omega) (by omega) (by omega)
    rw [getD_take _ _ _ hj, getD_take _ _ _ hj, getD_take _ _ _ hj] at this
    simp [this]
  · rw [Array.getElem?_eq_none (by rw [h.1]; omega)]
    have := x3_length t1 t2 t3
    simp [List.getElem?_eq_none (show (x3 (l1.take n) (l2.take n) (l3.take n)).length ≤ j by omega)]
/-- Sum, as a call that leaves the world alone; behind a draw. -/
theorem sum_still {w : World} {v : Value} {l : List Nat} (hs : Sl w v l) (ht : Tab w) : Calls Tryd.prog 11 #[v] w.drew fun e w'' => e = .returned (.int .u32 ((ext 0 l : Nat) : Int)) ∧ w'' = w.drew :=
  (sum_any v l w.drew hs ht).mono fun _ _ h => ⟨h.1, h.2.symm⟩
theorem final_facts {w wr : World} {a1 a2 a3 : Option Addr} {l1 l2 l3 : List Nat} {c1 c2 c3 n : Nat} {cs : Array Value} (hB : Below w.heap.size w wr) (s1 : Sl w (.slice a1 l1.length c1) l1) (s2 : Sl w (.slice a2 l2.length c2) l2) (s3 : Sl w (.slice a3 l3.length c3) l3)
    (hU : Xored l1 l2 l3 n n cs) (hb : wr.heap[w.heap.size]? = some (.cells cs 5 (0, 0))) (q1 : n ≤ l1.length) (q2 : n ≤ l2.length) (q3 : n ≤ l3.length) (hn : n ≤ 1000) (ht : Tab wr) :
    ∃ A B C D : Nat, Calls Tryd.prog 11 #[.slice a1 n c1] wr.drew (fun e w'' => e = .returned (.int .u32 (A : Int)) ∧ w'' = wr.drew) ∧ Calls Tryd.prog 11 #[.slice a2 n c2] wr.drew (fun e w'' => e = .returned (.int .u32 (B : Int)) ∧ w'' = wr.drew) ∧
      Calls Tryd.prog 11 #[.slice a3 n c3] wr.drew (fun e w'' => e = .returned (.int .u32 (C : Int)) ∧ w'' = wr.drew) ∧ Calls Tryd.prog 11 #[.slice (some ⟨w.heap.size, 0, none⟩) n n] wr.drew (fun e w'' => e = .returned (.int .u32 (D : Int)) ∧ w'' = wr.drew) ∧
      (∃ E : Nat, bits .xor .u32 (A : Int) (B : Int) = (E : Int) ∧ bits .xor .u32 (E : Int) (C : Int) = (D : Int)) ∧ True := by
  have t1 : (l1.take n).length = n := by rw [List.length_take]; omega
  have t2 : (l2.take n).length = n := by rw [List.length_take]; omega
  have t3 : (l3.take n).length = n := by rw [List.length_take]; omega
  have g1 := mem_take s1.1 n
  have g2 := mem_take s2.1 n
  have g3 := mem_take s3.1 n
  have hd := sl_block (l := x3 (l1.take n) (l2.take n) (l3.take n)) (n := n) (x3_lt g1 g2 g3) (x3_length t1 t2 t3) (by unfold maxLen; omega) (hU.full q1 q2 q3) hb
  refine ⟨_, _, _, _, sum_still (sl_below (sl_take s1 q1) hB) ht, sum_still (sl_below (sl_take s2 q2) hB) ht, sum_still (sl_below (sl_take s3 q3) hB) ht, sum_still hd ht, ⟨ext 0 (l1.take n) ^^^ ext 0 (l2.take n), ?_, ?_⟩, trivial⟩
  · exact u32_xor_nat _ _ (ext_lt (by decide) g1) (ext_lt (by decide) g2)
  · rw [u32_xor_nat _ _ (Nat.xor_lt_two_pow (n := 32) (ext_lt (by decide) g1) (ext_lt (by decide) g2)) (ext_lt (by decide) g3), ext_x3 t1 t2 t3 g1 g2 g3]
set_option maxRecDepth 100000 in
set_option maxHeartbeats 1600000 in
theorem linear_pos {w : World} (b1 o1 b2 o2 b3 o3 : Nat) (l1 l2 l3 : List Nat) (c1 c2 c3 n : Nat) (hn : n = min (min (min l1.length l2.length) l3.length) 1000) (h1 : l1.length ≤ c1) (h2 : l2.length ≤ c2) (h3 : l3.length ≤ c3) (m1 : c1 ≤ maxLen) (m2 : c2 ≤ maxLen) (m3 : c3 ≤ maxLen) (k1 : ∀ k, k < n → w.cell? ⟨b1, o1 + k, none⟩ = some (.int .u8 ((l1.getD k 0 : Nat) : Int))) (k2 : ∀ k, k < n → w.cell? ⟨b2, o2 + k, none⟩ = some (.int .u8 ((l2.getD k 0 : Nat) : Int))) (k3 : ∀ k, k < n → w.cell? ⟨b3, o3 + k, none⟩ = some (.int .u8 ((l3.getD k 0 : Nat) : Int)))
    (s1 : Sl w (.slice (some ⟨b1, o1, none⟩) l1.length c1) l1) (s2 : Sl w (.slice (some ⟨b2, o2, none⟩) l2.length c2) l2) (s3 : Sl w (.slice (some ⟨b3, o3, none⟩) l3.length c3) l3) (ht : Tab w) :
    Calls Tryd.prog 8 #[.slice (some ⟨b1, o1, none⟩) l1.length c1, .slice (some ⟨b2, o2, none⟩) l2.length c2, .slice (some ⟨b3, o3, none⟩) l3.length c3] w fun e w' => e = .returned (.bool true) ∧ Below w.heap.size w w' := by
  have HT := Lib.hid ht
  have S1 := Lib.hid s1
  have S2 := Lib.hid s2
  have S3 := Lib.hid s3
  unfold maxLen at m1 m2 m3
  have g1 : l1.length ≤ 9223372036854775807 := by omega
  have g2 : l2.length ≤ 9223372036854775807 := by omega
  have g3 : l3.length ≤ 9223372036854775807 := by omega
  have q1 : n ≤ l1.length := by omega
  have q2 : n ≤ l2.length := by omega
  have q3 : n ≤ l3.length := by omega
  have HN := Lib.hid hn
  have hn0 : n ≤ 1000 := by omega
  have K1 := Lib.hid k1
  have K2 := Lib.hid k2
  have K3 := Lib.hid k3
  clear k1 k2 k3
  clear ht hn s1 s2 s3
  go_enter Tryd.func8, Tryd.ntmps8
  go_wp2_with (first
    | ((with_reducible refine min_step (n1 := l1.length) (n2 := l2.length) (n3 := l3.length) (n4 := 1000) ?_ ?_ ?_ ?_ HN.out ?_); exact rfl; exact rfl; exact rfl; exact rfl)
    | ((with_reducible refine make_step (n := n) ?_ (by omega) ?_); exact rfl; intro cs hcs; have HCS := Lib.hid hcs; clear hcs))
  go_loopw [21] (fun i wr => ∃ (k : Nat) (cs : Array Value), k ≤ n ∧ i = .int .i64 k ∧ Xored l1 l2 l3 n k cs ∧ wr.heap[w.heap.size]? = some (.cells cs 5 (0, 0)) ∧ Below w.heap.size w wr) (fun i _ => n - (intOf i).toNat)
  case atStart => exact ⟨0, cs, by omega, rfl, ⟨HCS.out, fun j hj => by omega⟩, heap_alloc_new _ _, (Below.refl _ _).alloc (Nat.le_refl _) _⟩
  case round =>
    clear HCS
    obtain ⟨k, cs', hk, rfl, hU, hb, hB⟩ := hrel
    have HBk := Lib.hid hb
    by_cases hlt : k < n
    · have d0 := cell_of_row wr w.heap.size k cs' 5 (0, 0) hb
      have hf := frozen_of_row wr w.heap.size k cs' 5 hb
      have hce : cs'[k]? = some (cs'[k]'(by rw [hU.1]; exact hlt)) := by simp [hU.1, hlt]
      rw [hce] at d0
      obtain ⟨u, hu⟩ : ∃ u, u = cs'[k]'(by rw [hU.1]; exact hlt) := ⟨_, rfl⟩
      rw [← hu] at d0
      clear hce hu hb
      have e1 := K1.out k hlt
      have e2 := K2.out k hlt
      have e3 := K3.out k hlt
      have f1 := (hB.cell (p := ⟨b1, o1 + k, none⟩) (block_lt_of_cell e1)).trans e1
      have f2 := (hB.cell (p := ⟨b2, o2 + k, none⟩) (block_lt_of_cell e2)).trans e2
      have f3 := (hB.cell (p := ⟨b3, o3 + k, none⟩) (block_lt_of_cell e3)).trans e3
      have t1 : b1 ≠ w.heap.size := by have := block_lt_of_cell e1; simp at this; omega
      have t2 : b2 ≠ w.heap.size := by have := block_lt_of_cell e2; simp at this; omega
      have t3 : b3 ≠ w.heap.size := by have := block_lt_of_cell e3; simp at this; omega
      clear e1 e2 e3
      have u1 := getD_lt S1.out.1 k
      have u2 := getD_lt S2.out.1 k
      have u3 := getD_lt S3.out.1 k
      have y1 := u8_xor_nat _ _ u1 u2
      have y2 := u8_xor_nat _ _ (Nat.xor_lt_two_pow (n := 8) u1 u2) u3
      obtain ⟨y, hy⟩ : ∃ y, y = l1.getD k 0 ^^^ l2.getD k 0 ^^^ l3.getD k 0 := ⟨_, rfl⟩
      rw [← hy] at y2
      have HY := Lib.hid hy
      clear hy
      generalize l1.getD k 0 ^^^ l2.getD k 0 = x12 at y1 y2
      generalize l1.getD k 0 = x1 at f1 y1 u1
      generalize l2.getD k 0 = x2 at f2 y1 u2
      generalize l3.getD k 0 = x3 at f3 y2 u3
      have p0 : (0 : Int) ≤ (k : Int) := by omega
      have p1 : (k : Int) < (l1.length : Int) := by omega
      have p2 : (k : Int) < (l2.length : Int) := by omega
      have p3 : (k : Int) < (l3.length : Int) := by omega
      have p4 : (k : Int) < (n : Int) := by omega
      go_wp2
      go_region
      go_wp2
      go_roundw
      case rel =>
        refine ⟨k + 1, _, by omega, by go_num, ?_, (heap_setCell_same wr w.heap.size k cs' 5 _ HBk.out), ((hB.setCell (by simp) _).drew)⟩
        rw [HY.out]
        exact hU.step hlt
      case measure => simp [intOf]; omega
    · have hU' : Xored l1 l2 l3 n n cs' := by rwa [show k = n by omega] at hU
      obtain ⟨A, B, C, D, c1', c2', c3', c4', ⟨E, e1, e2⟩, _⟩ := final_facts hB S1.out S2.out S3.out hU' HBk.out q1 q2 q3 hn0 (tab_below HT.out hB)
      have C1 := Lib.hid c1'
      have C2 := Lib.hid c2'
      have C3 := Lib.hid c3'
      have C4 := Lib.hid c4'
      have hBs := hB.size
      clear hU hU' hb c1' c2' c3' c4'
      have p0 : (0 : Int) ≤ (n : Int) := by omega
      have p1 : (n : Int) ≤ (c1 : Int) := by omega
      have p2 : (n : Int) ≤ (c2 : Int) := by omega
      have p3 : (n : Int) ≤ (c3 : Int) := by omega
      go_wp2
      refine wp_region_still_tail 18 (by kernel_rfl) (by kernel_rfl) ?_
      simp only [List.take_succ_cons, List.take_zero, List.drop_succ_cons, List.drop_zero]
      still_step
      still_call C4.out
      still_step
      still_step
      still_step
      still_call C1.out
      still_step
      still_step
      still_step
      still_call C2.out
      still_step
      still_step
      still_step
      still_step
      still_call C3.out
      still_step
      still_step
      still_step
      refine wpStill_nil ?_
      change wpList _ _ _ _ _ wr.drew
      go_wp2_with ((go_at_call 15; refine (awake_any _ (tab_below HT.out hB.drew)).mono ?_; rintro e w5 ⟨rfl, hB5⟩))
      go_ret
      exact ⟨rfl, hB.drew.trans (hB5.mono hBs)⟩
set_option maxRecDepth 100000 in
set_option maxHeartbeats 1600000 in
theorem linear_zero {w : World} (a1 a2 a3 : Option Addr) (l1 l2 l3 : List Nat) (c1 c2 c3 n : Nat) (hn : n = min (min (min l1.length l2.length) l3.length) 1000) (h1 : l1.length ≤ c1) (h2 : l2.length ≤ c2) (h3 : l3.length ≤ c3) (m1 : c1 ≤ maxLen) (m2 : c2 ≤ maxLen) (m3 : c3 ≤ maxLen) (hz : n = 0)
    (s1 : Sl w (.slice a1 l1.length c1) l1) (s2 : Sl w (.slice a2 l2.length c2) l2) (s3 : Sl w (.slice a3 l3.length c3) l3) (ht : Tab w) :
    Calls Tryd.prog 8 #[.slice a1 l1.length c1, .slice a2 l2.length c2, .slice a3 l3.length c3] w fun e w' => e = .returned (.bool true) ∧ Below w.heap.size w w' := by
  have HT := Lib.hid ht
  have S1 := Lib.hid s1
  have S2 := Lib.hid s2
  have S3 := Lib.hid s3
  unfold maxLen at m1 m2 m3
  have g1 : l1.length ≤ 9223372036854775807 := by omega
  have g2 : l2.length ≤ 9223372036854775807 := by omega
  have g3 : l3.length ≤ 9223372036854775807 := by omega
  have q1 : n ≤ l1.length := by omega
  have q2 : n ≤ l2.length := by omega
  have q3 : n ≤ l3.length := by omega
  have HN := Lib.hid hn
  have hn0 : n ≤ 1000 := by omega
  have HZ := Lib.hid hz
  clear hz
  clear ht hn s1 s2 s3
  go_enter Tryd.func8, Tryd.ntmps8
  go_wp2_with (first
    | ((with_reducible refine min_step (n1 := l1.length) (n2 := l2.length) (n3 := l3.length) (n4 := 1000) ?_ ?_ ?_ ?_ HN.out ?_); exact rfl; exact rfl; exact rfl; exact rfl)
    | ((with_reducible refine make_step (n := n) ?_ (by omega) ?_); exact rfl; intro cs hcs; have HCS := Lib.hid hcs; clear hcs))
  go_loopw [21] (fun i wr => ∃ (k : Nat) (cs : Array Value), k ≤ n ∧ i = .int .i64 k ∧ Xored l1 l2 l3 n k cs ∧ wr.heap[w.heap.size]? = some (.cells cs 5 (0, 0)) ∧ Below w.heap.size w wr) (fun i _ => n - (intOf i).toNat)
  case atStart => exact ⟨0, cs, by omega, rfl, ⟨HCS.out, fun j hj => by omega⟩, heap_alloc_new _ _, (Below.refl _ _).alloc (Nat.le_refl _) _⟩
  case round =>
    clear HCS
    obtain ⟨k, cs', hk, rfl, hU, hb, hB⟩ := hrel
    have HBk := Lib.hid hb
    by_cases hlt : k < n
    · exact absurd HZ.out (by omega)
    · have hU' : Xored l1 l2 l3 n n cs' := by rwa [show k = n by omega] at hU
      obtain ⟨A, B, C, D, c1', c2', c3', c4', ⟨E, e1, e2⟩, _⟩ := final_facts hB S1.out S2.out S3.out hU' HBk.out q1 q2 q3 hn0 (tab_below HT.out hB)
      have C1 := Lib.hid c1'
      have C2 := Lib.hid c2'
      have C3 := Lib.hid c3'
      have C4 := Lib.hid c4'
      have hBs := hB.size
      clear hU hU' hb c1' c2' c3' c4'
      have p0 : (0 : Int) ≤ (n : Int) := by omega
      have p1 : (n : Int) ≤ (c1 : Int) := by omega
      have p2 : (n : Int) ≤ (c2 : Int) := by omega
      have p3 : (n : Int) ≤ (c3 : Int) := by omega
      go_wp2
      refine wp_region_still_tail 18 (by kernel_rfl) (by kernel_rfl) ?_
      simp only [List.take_succ_cons, List.take_zero, List.drop_succ_cons, List.drop_zero]
      still_step
      still_call C4.out
      still_step
      still_step
      still_step
      still_call C1.out
      still_step
      still_step
      still_step
      still_call C2.out
      still_step
      still_step
      still_step
      still_step
      still_call C3.out
      still_step
      still_step
      still_step
      refine wpStill_nil ?_
      change wpList _ _ _ _ _ wr.drew
      go_wp2_with ((go_at_call 15; refine (awake_any _ (tab_below HT.out hB.drew)).mono ?_; rintro e w5 ⟨rfl, hB5⟩))
      go_ret
      exact ⟨rfl, hB.drew.trans (hB5.mono hBs)⟩
end Go.Proofs.YtffpbmlpnclmkaaDoor.Crc
