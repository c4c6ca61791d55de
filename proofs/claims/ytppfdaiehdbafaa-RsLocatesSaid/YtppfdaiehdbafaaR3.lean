/- What is proved here: the contracts of the reference of layer 3. -/
import Derived.Test.YtppfdaiehdbafaaMx
import Derived.Test.YtppfdaiehdbafaaAr
import Derived.Test.YtppfdaiehdbafaaQ2b
import Derived.BigQuiet
import Derived.IntWalk
namespace Go.Proofs.Ytppfdaiehdbafaa.Gf
open Go Go.ChangeShapes Go.WideShapes Go.ChangeAt Go.RowKit Go.Proofs.Ytppfdaiehdbafaa.By

/-- A slice of the call's own stays as it is where its block does. -/
theorem own_keep {w w' : World} {base : Nat} {v : Value} {l : List Nat} (h : Own w base v l) (hk : ∀ k, v.ownBlock = some k → w'.heap[k]? = w.heap[k]?) : Own w' base v l := by
  obtain ⟨h0, h1, h2⟩ := h
  refine ⟨h0, h1, ?_⟩
  rcases h2 with h3 | ⟨g, cap, cur, h3, hg, hb, hn, hm, hsz, ht⟩
  · exact Or.inl h3
  · exact Or.inr ⟨g, cap, cur, h3, hg, (hk g (by rw [h3]; rfl)).trans hb, hn, hm, hsz, ht⟩
/-- Sizes that a matrix may have. -/
def Sized (r c : Int) : Prop := 1 ≤ r ∧ r ≤ 16 ∧ 1 ≤ c ∧ c ≤ 16
instance (r c : Int) : Decidable (Sized r c) := by unfold Sized; infer_instance
set_option maxRecDepth 100000 in
theorem rsize_any (r c : Int) (w : World) : Calls Try.prog 51 #[.int .i64 r, .int .i64 c] w fun e w' => e = .returned (.bool (decide (Sized r c))) ∧ w = w' := by
  by_cases h1 : 1 ≤ r
  · by_cases h2 : r ≤ 16
    · by_cases h3 : 1 ≤ c
      · by_cases h4 : c ≤ 16
        · have hd : decide (Sized r c) = true := by rw [decide_eq_true_iff]; exact ⟨h1, h2, h3, h4⟩
          rw [hd]
          go_enter Try.func51, Try.ntmps51
          go_wp2
          go_ret
          exact ⟨rfl, rfl⟩
        · have hd : decide (Sized r c) = false := by rw [decide_eq_false_iff_not]; exact fun h => h4 h.2.2.2
          rw [hd]
          go_enter Try.func51, Try.ntmps51
          go_wp2
          go_ret
          exact ⟨rfl, rfl⟩
      · have hd : decide (Sized r c) = false := by rw [decide_eq_false_iff_not]; exact fun h => h3 h.2.2.1
        have hf : decide (1 ≤ c) = false := decide_eq_false h3
        rw [hd]
        go_enter Try.func51, Try.ntmps51
        go_wp2
        go_ret
        exact ⟨rfl, rfl⟩
    · have hd : decide (Sized r c) = false := by rw [decide_eq_false_iff_not]; exact fun h => h2 h.2.1
      have hf : decide (r ≤ 16) = false := decide_eq_false h2
      rw [hd]
      go_enter Try.func51, Try.ntmps51
      go_wp2
      go_ret
      exact ⟨rfl, rfl⟩
  · have hd : decide (Sized r c) = false := by rw [decide_eq_false_iff_not]; exact fun h => h1 h.1
    have hf : decide (1 ≤ r) = false := decide_eq_false h1
    rw [hd]
    go_enter Try.func51, Try.ntmps51
    go_wp2
    go_ret
    exact ⟨rfl, rfl⟩
/-- A matrix as a value. -/
def mv (r c : Int) (s : Value) : Value := .agg #[.int .i64 r, .int .i64 c, s]
/-- A matrix is valid. -/
def Vd (r c : Int) (n : Nat) : Prop := Sized r c ∧ (n : Int) = r * c
instance (r c : Int) (n : Nat) : Decidable (Vd r c n) := by unfold Vd; infer_instance
theorem prod_le {r c : Int} (h : Sized r c) : 1 ≤ r * c ∧ r * c ≤ 256 := by
  obtain ⟨h1, h2, h3, h4⟩ := h
  have a := Int.mul_le_mul h2 h4 (by omega) (by omega)
  have b := Int.mul_le_mul h1 h3 (by omega) (by omega)
  omega
set_option maxRecDepth 100000 in
theorem rvalid_any (r c : Int) (a : Option Addr) (n cap : Nat) (w : World) : Calls Try.prog 53 #[mv r c (.slice a n cap)] w fun e w' => e = .returned (.bool (decide (Vd r c n))) ∧ Below w.heap.size w w' := by
  have hs := fun w => rsize_any r c w
  have hb : ∀ cs, Below w.heap.size w (w.alloc (.cells cs 26)) := fun cs => (Below.refl _ _).alloc (Nat.le_refl _) _
  unfold mv
  by_cases h : Sized r c
  · rw [decide_eq_true h] at hs
    have HS := Lib.hid hs
    have hp := prod_le h
    have hd : decide (Vd r c n) = ((n : Int) == r * c) := by
      rw [Bool.eq_iff_iff]
      simp [Vd, h]
    rw [hd]
    have hw : wrap64 (r * c) = r * c := by
      generalize r * c = p at hp
      unfold wrap64
      omega
    clear hs hd h
    go_enter Try.func53, Try.ntmps53
    go_wp2_with (go_at_call 51; refine (HS.out _).mono ?_; rintro e w' ⟨rfl, rfl⟩)
    go_ret
    exact ⟨rfl, hb _⟩
  · rw [decide_eq_false h] at hs
    have HS := Lib.hid hs
    have hd : decide (Vd r c n) = false := decide_eq_false fun x => h x.1
    rw [hd]
    clear hs hd h
    go_enter Try.func53, Try.ntmps53
    go_wp2_with (go_at_call 51; refine (HS.out _).mono ?_; rintro e w' ⟨rfl, rfl⟩)
    go_ret
    exact ⟨rfl, hb _⟩
theorem size24 : (Try.prog.info? 26).map (·.size) = some 3 := by kernel_rfl
/-- A matrix and an error as results: the matrix lies in a block of its own. -/
theorem results_mx {fn : Func} {p u : Tmp} (h : fn.results = #[.cell p 26, .tmp u]) (tmps : Array Value) (w : World) (g : Nat) (a b c : Value) (fr : Nat × Nat)
    (hp : tmps.getD p undef = .pointer (some ⟨g, 0, none⟩)) (hg : w.heap[g]? = some (.cells #[a, b, c] 26 fr)) :
    (results fn tmps).run Try.prog w = .ok (.tuple #[.agg #[a, b, c], tmps.getD u undef]) w := by
  rw [results_cell_tmp h, hp]
  simp [asAddr, run_loadVar_row w g 26 26 #[a, b, c] fr _ hg Try.underlying26 rfl size24]
/-- A load of a whole matrix. -/
theorem loadM {ops : Array Oper} {rest : List Oper} {dst : Option Tmp} {x : Operand} {pos : String} {after : Array Edge} {ty : TypeId} {a : Act} {w : World} {Q : Exit → Act → World → Prop}
    (g : Nat) {r c s : Value} (hx : a.eval x = .pointer (some ⟨g, 0, none⟩)) (hg : w.heap[g]? = some (.cells #[r, c, s] 26 (0, 0)))
    (h : wpList Try.prog ops Q rest (a.put dst (.agg #[r, c, s])) w) : wpList Try.prog ops Q (⟨dst, .load 26 x, ty, pos, after, none⟩ :: rest) a w :=
  wpList_load_row rfl 26 x rfl g hx 26 #[r, c, s] (0, 0) _ hg Try.underlying26 rfl size24 h
/-- A store of a whole matrix. -/
theorem storeM {ops : Array Oper} {rest : List Oper} {dst : Option Tmp} {x y : Operand} {pos : String} {after : Array Edge} {ty : TypeId} {a : Act} {w : World} {Q : Exit → Act → World → Prop}
    (g : Nat) (r c s : Value) {r0 c0 s0 : Value} (hx : a.eval x = .pointer (some ⟨g, 0, none⟩)) (hy : a.eval y = .agg #[r, c, s]) (hg : w.heap[g]? = some (.cells #[r0, c0, s0] 26 (0, 0))) (h1 : r.oneCell' = true) (h2 : c.oneCell' = true) (h3 : s.oneCell' = true)
    (h : wpList Try.prog ops Q rest (a.put dst undef) (w.setRow g #[r, c, s])) : wpList Try.prog ops Q (⟨dst, .store 26 x y, ty, pos, after, none⟩ :: rest) a w :=
  wpList_store_row rfl 26 x y rfl g #[r, c, s] hx hy 26 #[r0, c0, s0] hg size24 rfl (by simp [h1, h2, h3]) h
/-- What a call answers: a matrix with its bytes in memory of the call's own, and an error. -/
def MO (w : World) (r c : Int) (l : List Nat) (err : Int) (e : Ending) (w' : World) : Prop := (∃ s, e = .returned (.tuple #[mv r c s, .int .i64 err]) ∧ Own w' w.heap.size s l) ∧ Below w.heap.size w w'
theorem own_one {w : World} {base : Nat} {v : Value} {l : List Nat} (h : Own w base v l) : v.oneCell' = true := by
  obtain ⟨_, _, ⟨rfl, _⟩ | ⟨_, _, _, rfl, _⟩⟩ := h <;> rfl
theorem own_form {w : World} {base : Nat} {v : Value} {l : List Nat} (h : Own w base v l) : ∃ a n cap, v = .slice a n cap ∧ n = l.length := by
  obtain ⟨_, _, ⟨rfl, h0⟩ | ⟨g, cap, _, rfl, _⟩⟩ := h
  · exact ⟨none, 0, 0, rfl, h0.symm⟩
  · exact ⟨_, _, cap, rfl, rfl⟩
theorem flat_snoc {r c k j : Nat} (f : Nat → Nat → Nat) (hk : k < r) (hj : j < c) : (flat r c f).take (k * c + (j + 1)) = (flat r c f).take (k * c + j) ++ [f k j] := by
  have h := at_lt hk hj
  rw [show k * c + (j + 1) = k * c + j + 1 by omega, By.take_snoc _ _ (by rw [flat_length]; exact h), flat_getD h, div_at hj, mod_at hj]
/-- A matrix that is being built: the result's block gr, the variable's block g, its bytes in a block of their own. -/
structure Bld (w wr : World) (gr g base : Nat) (r c : Int) (l : List Nat) (sv : Value) : Prop where
  zero : wr.heap[gr]? = some (.cells #[.int .i64 0, .int .i64 0, .slice none 0 0] 26 (0, 0))
  row : wr.heap[g]? = some (.cells #[.int .i64 r, .int .i64 c, sv] 26 (0, 0))
  own : Own wr base sv l
  lo : w.heap.size ≤ gr ∧ w.heap.size ≤ g ∧ gr < base ∧ g < base ∧ gr ≠ g ∧ base ≤ wr.heap.size
  bel : Below w.heap.size w wr
section
variable {w wr : World} {gr g base : Nat} {r c : Int} {l : List Nat} {sv : Value}
theorem Bld.cell (h : Bld w wr gr g base r c l sv) : wr.cell? ⟨g, 2, none⟩ = some sv := cell_of_row _ _ _ _ _ _ h.row
theorem Bld.drew (h : Bld w wr gr g base r c l sv) : Bld w wr.drew gr g base r c l sv := ⟨h.zero, h.row, h.own.drew, h.lo, h.bel.drew⟩
/-- Behind an append of what lies in a new block. -/
theorem Bld.app (h : Bld w wr gr g base r c l sv) {w1 : World} {o : Obj} (hg : (wr.alloc o).grownBy w1 sv.ownBlock) : w1.cell? ⟨g, 2, none⟩ = some sv ∧ w1.frozen? ⟨g, 2, none⟩ = false := by
  obtain ⟨h1, h2, h3, h4, h5, h6⟩ := h.lo
  have e : w1.heap[g]? = some (.cells #[.int .i64 r, .int .i64 c, sv] 26 (0, 0)) := (hg.block g (by simp; omega) (fun x => by have := h.own.lt g x.symm; omega)).trans ((heap_alloc_old _ _ (by omega)).trans h.row)
  exact ⟨cell_of_row _ _ _ _ _ _ e, frozen_of_row _ _ _ _ _ e⟩
theorem Bld.push (h : Bld w wr gr g base r c l sv) {w1 : World} {o : Obj} {v1 : Value} {m : List Nat} (hg : (wr.alloc o).grownBy w1 sv.ownBlock) (ho : Own w1 base v1 m) : Bld w (w1.setCell ⟨g, 2, none⟩ v1) gr g base r c m v1 := by
  obtain ⟨h1, h2, h3, h4, h5, h6⟩ := h.lo
  have old : ∀ k, k < base → w1.heap[k]? = wr.heap[k]? := fun k hk => (hg.block k (by simp; omega) (fun x => by have := h.own.lt k x.symm; omega)).trans (heap_alloc_old _ _ (by omega))
  have hs := hg.size
  simp at hs
  refine ⟨(heap_setCell_other _ _ _ _ h5).trans ((old gr h3).trans h.zero), ?_, own_keep ho fun k hk => heap_setCell_other _ _ _ _ (by have := ho.lt k hk; show k ≠ g; omega), ⟨h1, h2, h3, h4, h5, by simp; omega⟩, ?_⟩
  · exact heap_setCell_same w1 g 2 _ 26 _ ((old g h4).trans h.row)
  · exact ((h.bel.alloc h.bel.size _).grown hg (by simp; omega) (fun k hk => by have := h.own.lt k hk; omega)).setCell h2 _
theorem Bld.done (h : Bld w wr gr g base r c l sv) (x : Value) (y : Value) : Own (wr.setRow gr #[x, y, sv]) w.heap.size sv l ∧ Below w.heap.size w (wr.setRow gr #[x, y, sv]) := by
  obtain ⟨h1, h2, h3, h4, h5, h6⟩ := h.lo
  refine ⟨?_, below_setRow h.bel h1 _⟩
  have h7 := own_keep (w' := wr.setRow gr #[x, y, sv]) h.own fun k hk => setRow_other _ _ _ _ (by have := h.own.lt k hk; omega)
  obtain ⟨a, b, d⟩ := h7
  refine ⟨a, b, ?_⟩
  rcases d with d | ⟨q, cap, cur, d1, d2, d3⟩
  · exact Or.inl d
  · exact Or.inr ⟨q, cap, cur, d1, by omega, d3⟩
end
set_option maxRecDepth 100000 in
theorem rident_bad (n : Int) (w : World) (h : ¬ Sized n n) : Calls Try.prog 54 #[.int .i64 n] w (MO w 0 0 [] 1) := by
  have hs := fun w => rsize_any n n w
  rw [decide_eq_false h] at hs
  have HS := Lib.hid hs
  clear hs h
  unfold MO mv
  go_enter Try.func54, Try.ntmps54
  go_wp2_with (go_at_call 51; refine (HS.out _).mono ?_; rintro e w' ⟨rfl, rfl⟩)
  exact bodyPost_ret (results_mx rfl _ _ w.heap.size _ _ _ (0, 0) rfl (heap_alloc_new _ _)) rfl ⟨⟨_, rfl, own_nil _ _⟩, (Below.refl _ _).alloc (Nat.le_refl _) _⟩
theorem wrap_nn {n q : Nat} (hn : n ≤ 16) (hq : q = n * n) : wrap64 ((n : Int) * (n : Int)) = (q : Int) ∧ q ≤ 256 := by
  have h : n * n ≤ 16 * 16 := Nat.mul_le_mul hn hn
  have e : (n : Int) * (n : Int) = (q : Int) := by rw [hq]; simp
  rw [e]
  unfold wrap64
  omega
set_option maxRecDepth 100000 in
set_option maxHeartbeats 1600000 in
theorem rident_good (n : Nat) (w : World) (h : Sized n n) : Calls Try.prog 54 #[.int .i64 (n : Int)] w (MO w n n (flat n n idm) 0) := by
  have hs := fun w => rsize_any n n w
  rw [decide_eq_true h] at hs
  have HS := Lib.hid hs
  have hn : 1 ≤ n ∧ n ≤ 16 := by unfold Sized at h; omega
  obtain ⟨q, hq⟩ : ∃ q : Nat, q = n * n := ⟨n * n, rfl⟩
  have ⟨hw, hq1⟩ := wrap_nn hn.2 hq
  have HQ := Lib.hid hq
  have HW := Lib.hid hw
  clear hs h hq hw
  unfold MO mv
  go_enter Try.func54, Try.ntmps54
  go_wp2_with (first | (go_at_call 51; refine (HS.out _).mono ?_; rintro e w' ⟨rfl, rfl⟩) | ((with_reducible refine make_step (n := q) ?_ (by omega) ?_); exact congrArg (Value.int .i64) HW.out))
  go_loopw [5] (fun i wr => ∃ k : Nat, k ≤ n ∧ i = .int .i64 (k : Int) ∧ Own wr w.heap.size (.slice (some ⟨w.heap.size + 1, 0, none⟩) q q) (flat n n fun a b => if a < k then idm a b else 0) ∧ wr.heap[w.heap.size]? = some (.cells #[.int .i64 0, .int .i64 0, .slice none 0 0] 26 (0, 0)) ∧ wr.heap[w.heap.size + 2]? = some (.cells #[.int .i64 n, .int .i64 n, .slice (some ⟨w.heap.size + 1, 0, none⟩) q q] 26 (0, 0)) ∧ Below w.heap.size w wr) (fun i _ => n - (intOf i).toNat)
  case atStart =>
    refine ⟨0, by omega, rfl, ?_, ?_, ?_, ?_⟩
    · have h := own_made (w.alloc (.cells #[.int .i64 0, .int .i64 0, .slice none 0 0] 26)) (base := w.heap.size) (n := q) (by simp) (by unfold maxLen; omega)
      have h2 : List.replicate q 0 = flat n n fun a b => if a < 0 then idm a b else 0 := by rw [HQ.out, flat_zero]; rfl
      rw [← h2]
      simpa using h.alloc _
    · rw [heap_alloc_old _ _ (by simp; omega), heap_alloc_old _ _ (by simp), heap_alloc_new]
    · have h := heap_alloc_new ((w.alloc (.cells #[.int .i64 0, .int .i64 0, .slice none 0 0] 26)).alloc (.cells (cellsOf (List.replicate q 0)).toArray 5)) (.cells #[.int .i64 n, .int .i64 n, .slice (some ⟨w.heap.size + 1, 0, none⟩) q q] 26)
      simpa using h
    · exact (((Below.refl _ _).alloc (Nat.le_refl _) _).alloc (by simp) _).alloc (by simp; omega) _
  case round =>
    obtain ⟨k, hk, rfl, hO, h0, h2, hB⟩ := hrel
    have HO := Lib.hid hO
    have H0 := Lib.hid h0
    have H2 := Lib.hid h2
    clear hO h0 h2
    by_cases hlt : k < n
    · obtain ⟨p, hp⟩ : ∃ p : Nat, p = k * n := ⟨_, rfl⟩
      have hpk : p + k < q := by rw [hp, HQ.out]; exact at_lt hlt hlt
      have hw2 : wrap64 ((k : Int) * (n : Int)) = (p : Int) := by
        have e : (k : Int) * (n : Int) = (p : Int) := by rw [hp]; simp
        rw [e]
        unfold wrap64
        omega
      have HP := Lib.hid hp
      clear hp
      have c2 : wr.cell? ⟨w.heap.size + 1 + 1, 2, none⟩ = some (.slice (some ⟨w.heap.size + 1, 0, none⟩) q q) := cell_of_row _ _ _ _ _ _ H2.out
      obtain ⟨q1, q2, _⟩ := own_cell HO.out (by rw [flat_length, HQ.out]) hpk
      go_wp2
      go_roundw
      case rel =>
        refine ⟨k + 1, by omega, by go_num, ?_, ?_, ?_, ?_⟩
        · have h := own_set HO.out (by rw [flat_length, HQ.out]) hpk (x := 1) (by decide)
          have h3 : (flat n n fun a b => if a < k then idm a b else 0).set (p + k) 1 = flat n n fun a b => if a < k + 1 then idm a b else 0 := by
            rw [HP.out, flat_set _ hlt]
            refine flat_ext fun a _ b _ => ?_
            simp only [idm]
            by_cases e : a = k
            · subst e
              by_cases e2 : b = a
              · rw [if_pos ⟨rfl, e2⟩, if_pos (by omega), if_pos e2.symm]
              · rw [if_neg (fun x => e2 x.2), if_neg (by omega), if_pos (by omega), if_neg (fun x => e2 x.symm)]
            · rw [if_neg (fun x => e x.1)]
              by_cases e3 : a < k
              · rw [if_pos e3, if_pos (show a < k + 1 by omega)]
              · rw [if_neg e3, if_neg (show ¬ a < k + 1 by omega)]
          rw [← h3]
          exact h
        · exact (heap_setCell_other _ _ _ _ (by simp)).trans H0.out
        · exact (heap_setCell_other _ _ _ _ (by simp)).trans H2.out
        · exact hB.setCell (by simp) _
      case measure => simp [intOf]; omega
    · obtain rfl : k = n := by omega
      go_wp2_with (first | ((with_reducible refine loadM (w.heap.size + 2) ?_ H2.out ?_); exact rfl) | ((with_reducible refine storeM w.heap.size (.int .i64 k) (.int .i64 k) (.slice (some ⟨w.heap.size + 1, 0, none⟩) q q) ?_ ?_ H0.out ?_ ?_ ?_ ?_); exact rfl; exact rfl; exact rfl; exact rfl; exact rfl))
      have h3 : (flat k k fun a b => if a < k then idm a b else 0) = flat k k idm := flat_ext fun a ha b _ => if_pos ha
      refine bodyPost_ret (results_mx rfl _ _ w.heap.size _ _ _ (0, 0) rfl (setRow_heap _ _ _ _ _ _ H0.out)) rfl ⟨⟨_, rfl, ?_⟩, below_setRow hB (Nat.le_refl _) _⟩
      rw [← h3]
      exact own_keep HO.out fun g hg => setRow_other _ _ _ _ (by
        have : w.heap.size + 1 = g := Option.some.inj hg
        omega)
set_option maxRecDepth 100000 in
theorem rvander_bad (r c : Int) (w : World) (h : ¬ Sized r c) : Calls Try.prog 29 #[.int .i64 r, .int .i64 c] w (MO w 0 0 [] 1) := by
  have hs := fun w => rsize_any r c w
  rw [decide_eq_false h] at hs
  have HS := Lib.hid hs
  clear hs h
  unfold MO mv
  go_enter Try.func29, Try.ntmps29
  go_wp2_with (go_at_call 51; refine (HS.out _).mono ?_; rintro e w' ⟨rfl, rfl⟩)
  exact bodyPost_ret (results_mx rfl _ _ w.heap.size _ _ _ (0, 0) rfl (heap_alloc_new _ _)) rfl ⟨⟨_, rfl, own_nil _ _⟩, (Below.refl _ _).alloc (Nat.le_refl _) _⟩
set_option maxRecDepth 100000 in
set_option maxHeartbeats 1600000 in
theorem rvander_good (r c : Nat) (w : World) (h : Sized r c) : Calls Try.prog 29 #[.int .i64 (r : Int), .int .i64 (c : Int)] w (MO w r c (flat r c pn) 0) := by
  have hs := fun w => rsize_any r c w
  rw [decide_eq_true h] at hs
  have HS := Lib.hid hs
  have hn : 1 ≤ r ∧ r ≤ 16 ∧ 1 ≤ c ∧ c ≤ 16 := by unfold Sized at h; omega
  clear hs h
  unfold MO mv
  go_enter Try.func29, Try.ntmps29
  go_wp2_with (first | (go_at_call 51; refine (HS.out _).mono ?_; rintro e w' ⟨rfl, rfl⟩))
  go_loopw [7] (fun i wr => ∃ (k : Nat) (sv : Value), k ≤ r ∧ i = .int .i64 (k : Int) ∧ Bld w wr w.heap.size (w.heap.size + 1) (w.heap.size + 2) r c ((flat r c pn).take (k * c)) sv) (fun i _ => r - (intOf i).toNat)
  case atStart =>
    refine ⟨0, .slice none 0 0, by omega, rfl, ?_⟩
    refine ⟨heap_alloc2_old _ _ _, heap_alloc2_new _ _ _, ?_, by simp, ((Below.refl _ _).alloc (Nat.le_refl _) _).alloc (by simp) _⟩
    rw [Nat.zero_mul, List.take_zero]
    exact own_nil _ _
  case round =>
    obtain ⟨k, sv, hk, rfl, hb⟩ := hrel
    have HB := Lib.hid hb
    clear hb
    by_cases hlt : k < r
    · go_wp2
      rename World => wo
      go_loopw [8, 9] (fun x i wr => ∃ (j : Nat) (sv : Value), j ≤ c ∧ i = .int .i64 (j : Int) ∧ x = .int .u8 ((pn k j : Nat) : Int) ∧ Bld w wr w.heap.size (w.heap.size + 1) (w.heap.size + 2) r c ((flat r c pn).take (k * c + j)) sv) (fun _ i _ => c - (intOf i).toNat)
      case atStart => exact ⟨0, sv, by omega, rfl, rfl, HB.out⟩
      case round =>
        clear HB sv
        obtain ⟨j, sv, hj, rfl, rfl, hb⟩ := hrel
        have HB := Lib.hid hb
        clear hb
        by_cases hjt : j < c
        · have hmul := fun w => rmul_any (pn k j) k w (pn_lt j) (by omega)
          have hnx : gm (pn k j) k = pn k (j + 1) := rfl
          rw [hnx] at hmul
          have htk := flat_snoc pn hlt hjt
          have hp := pn_lt (a := k) j
          have hln : ((flat r c pn).take (k * c + j)).length ≤ 256 := by
            rw [List.length_take, flat_length]
            have := Nat.mul_le_mul hn.2.1 hn.2.2.2
            omega
          generalize (flat r c pn).take (k * c + j) = L at HB htk hln
          obtain ⟨y, hy⟩ : ∃ y, y = pn k (j + 1) := ⟨_, rfl⟩
          rw [← hy] at hmul
          have HY := Lib.hid hy
          clear hy hnx
          generalize pn k j = x at hmul hp htk
          have HM := Lib.hid hmul
          have HT := Lib.hid htk
          have hw := u8_wrap k (by omega)
          have hc2 := HB.out.cell
          clear hmul htk
          have hlo := HB.out.lo
          go_wp2_with (first | (go_at_call 52; refine (HM.out _).mono ?_; rintro e w' ⟨rfl, rfl⟩) | (at_builtin; refine app_sl (dst := some 32) ?_ ?_ (HB.out.own.alloc _) (sl_one hp (heap_alloc_new _ _)) (by simp; omega) (by simp; omega) ?_; exact rfl; exact rfl; intro v1 w1 ho1 hg1; obtain ⟨av, nv, cv, hv1, -⟩ := own_form ho1; subst hv1; have HP1 := Lib.hid (HB.out.push hg1 ho1); obtain ⟨hd1, hd2⟩ := HB.out.app hg1; clear ho1 hg1))
          go_roundw
          case rel => exact ⟨j + 1, _, by omega, by go_num, by rw [HY.out], by rw [HT.out]; exact HP1.out⟩
          case measure => simp [intOf]; omega
        · obtain rfl : j = c := by omega
          go_wp2
          go_roundw
          case rel => exact ⟨k + 1, sv, by omega, by go_num, by rw [Nat.succ_mul]; exact HB.out⟩
          case measure => simp [intOf]; omega
    · obtain rfl : k = r := by omega
      have hl : (flat k c pn).take (k * c) = flat k c pn := by rw [← flat_length k c pn]; exact List.take_length
      rw [hl] at HB
      go_wp2_with (first | ((with_reducible refine loadM (w.heap.size + 1) ?_ HB.out.row ?_); exact rfl) | ((with_reducible refine storeM w.heap.size (.int .i64 k) (.int .i64 c) sv ?_ ?_ HB.out.zero ?_ ?_ ?_ ?_); exact rfl; exact rfl; exact rfl; exact rfl; exact own_one HB.out.own))
      have h8 := HB.out.done (.int .i64 k) (.int .i64 c)
      exact bodyPost_ret (results_mx rfl _ _ w.heap.size _ _ _ (0, 0) rfl (setRow_heap _ _ _ _ _ _ HB.out.zero)) rfl ⟨⟨_, rfl, h8.1⟩, h8.2⟩
end Go.Proofs.Ytppfdaiehdbafaa.Gf
