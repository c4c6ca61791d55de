/- What is proved here: bytes that have been laid block by block, in whatever order (mathematics), and copy into a block of the call's own as a step. No condition. -/
import Derived.Test.YtjpehjgcpnogiaaBk
import Derived.Laws.CopyOwn
import Derived.Lib.SmallJoins
namespace Go.Proofs.Ytjpehjgcpnogiaa.Gf
open Go Go.Joins Go.ChangeShapes Go.WideShapes Go.ChangeAt Go.RowKit Go.Deep Go.Proofs.Ytjpehjgcpnogiaa.By

theorem ext_getD {A B : List Nat} (hl : A.length = B.length) (h : ∀ i, i < A.length → A.getD i 0 = B.getD i 0) : A = B := by
  apply List.ext_getElem hl
  intro i h1 h2
  have := h i h1
  simpa [List.getD, h1, h2] using this
theorem splice_at {A C : List Nat} {off i : Nat} (h : off + C.length ≤ A.length) (_hi : i < A.length) : (splice A off C).getD i 0 = if off ≤ i ∧ i < off + C.length then C.getD (i - off) 0 else A.getD i 0 := by
  have h1 : (A.take off).length = off := by rw [List.length_take]; omega
  unfold splice
  simp only [List.getD_eq_getElem?_getD]
  by_cases e1 : i < off
  · rw [if_neg (by omega), List.getElem?_append_left (by omega), List.getElem?_take_of_lt e1]
  · rw [List.getElem?_append_right (by omega), h1]
    by_cases e2 : i < off + C.length
    · rw [if_pos (by omega), List.getElem?_append_left (by omega)]
    · rw [if_neg (by omega), List.getElem?_append_right (by omega), List.getElem?_drop, show off + C.length + (i - off - C.length) = i by omega]
theorem splice_cells (A C : List Nat) (off : Nat) : splice (cellsOf A) off (cellsOf C) = cellsOf (splice A off C) := by
  simp [splice, cellsOf, List.map_take, List.map_drop]
def cov (pre : List (Nat × Nat)) (i : Nat) : Bool := pre.any fun p => decide (p.1 ≤ i) && decide (i < p.1 + p.2)
theorem cov_snoc (pre : List (Nat × Nat)) (p : Nat × Nat) (i : Nat) : cov (pre ++ [p]) i = (cov pre i || (decide (p.1 ≤ i) && decide (i < p.1 + p.2))) := by
  simp [cov, List.any_append]
theorem cov_blk : ∀ m o i, cov (blkL o m) i = (decide (o ≤ i) && decide (i < o + m)) := by
  intro m
  induction m using Nat.strongRecOn with
  | ind m ih =>
    intro o i
    by_cases h : m = 0
    · subst h
      rw [blk_zero]
      show false = _
      refine Eq.symm (Bool.and_eq_false_iff.2 ?_)
      by_cases e : o ≤ i
      · exact Or.inr (decide_eq_false (by omega))
      · exact Or.inl (decide_eq_false e)
    · rw [blk_step h]
      show ((decide (o ≤ i) && decide (i < o + min (64 - o % 64) m)) || cov (blkL _ _) i) = _
      rw [ih _ (by omega)]
      generalize hk : min (64 - o % 64) m = k
      have hk2 : 1 ≤ k ∧ k ≤ m := by omega
      rw [Bool.eq_iff_iff]
      simp only [Bool.or_eq_true, Bool.and_eq_true, decide_eq_true_eq]
      omega
/-- A shard, of which the bytes of some blocks are there. -/
def covR (b : List Nat) (M : Nat) (pre : List (Nat × Nat)) (s : Nat) : List Nat := (List.range M).map fun a => if cov pre (posOf s a) = true then b.getD (posOf s a) 0 else 0
theorem covR_length (b : List Nat) (M : Nat) (pre : List (Nat × Nat)) (s : Nat) : (covR b M pre s).length = M := by simp [covR]
theorem covR_at (b : List Nat) {M a : Nat} (pre : List (Nat × Nat)) (s : Nat) (h : a < M) : (covR b M pre s).getD a 0 = if cov pre (posOf s a) = true then b.getD (posOf s a) 0 else 0 := by
  simp [covR, List.getD, h]
theorem covR_nil (b : List Nat) (M s : Nat) : covR b M [] s = List.replicate M 0 := by
  apply ext_getD (by simp [covR])
  intro a ha
  rw [covR_length] at ha
  rw [covR_at b [] s ha, if_neg (by simp [cov])]
  simp [List.getD, ha]
theorem covR_all (b : List Nat) (M s : Nat) : covR b M (blkL 0 b.length) s = rowL b M s := by
  apply ext_getD (by simp [covR, rowL])
  intro a ha
  rw [covR_length] at ha
  rw [covR_at b _ s ha, rowL_getD b ha, cov_blk]
  by_cases e : posOf s a < b.length
  · rw [if_pos (by simpa using e)]
  · rw [if_neg (by simpa using e)]
    exact (getD_out (by omega)).symm
theorem pos_in {s a f k : Nat} (hs : s < 4) (h1 : f % 64 + k ≤ 64) : (f ≤ posOf s a ∧ posOf s a < f + k) ↔ (s = shOf f ∧ atOf f ≤ a ∧ a < atOf f + k) := by
  unfold posOf shOf atOf
  omega
theorem pos_val {a f : Nat} (h1 : atOf f ≤ a) (h2 : a < atOf f + (64 - f % 64)) : posOf (shOf f) a = f + (a - atOf f) := by
  unfold posOf shOf atOf at *
  omega
theorem covR_other (b : List Nat) (M : Nat) (pre : List (Nat × Nat)) {p : Nat × Nat} {s : Nat} (hs : s < 4) (h1 : p.1 % 64 + p.2 ≤ 64) (h : s ≠ shOf p.1) : covR b M (pre ++ [p]) s = covR b M pre s := by
  apply ext_getD (by simp [covR])
  intro a ha
  rw [covR_length] at ha
  rw [covR_at b _ s ha, covR_at b _ s ha, cov_snoc]
  have e : (decide (p.1 ≤ posOf s a) && decide (posOf s a < p.1 + p.2)) = false := by
    rw [Bool.eq_false_iff]
    intro h2
    simp only [Bool.and_eq_true, decide_eq_true_eq] at h2
    exact h ((pos_in hs h1).1 h2).1
  rw [e, Bool.or_false]
theorem covR_step (b : List Nat) {M : Nat} (pre : List (Nat × Nat)) {p : Nat × Nat} (h1 : p.1 % 64 + p.2 ≤ 64) (h2 : p.1 + p.2 ≤ b.length) (h3 : atOf p.1 + p.2 ≤ M) : covR b M (pre ++ [p]) (shOf p.1) = splice (covR b M pre (shOf p.1)) (atOf p.1) ((b.drop p.1).take p.2) := by
  have hc : ((b.drop p.1).take p.2).length = p.2 := by rw [List.length_take, List.length_drop]; omega
  have hfit : atOf p.1 + ((b.drop p.1).take p.2).length ≤ (covR b M pre (shOf p.1)).length := by rw [hc, covR_length]; omega
  apply ext_getD (by rw [length_splice _ _ _ hfit, covR_length, covR_length])
  intro a ha
  rw [covR_length] at ha
  rw [splice_at hfit (by rw [covR_length]; exact ha), hc, covR_at b _ _ ha, covR_at b _ _ ha, cov_snoc]
  have key := pos_in (a := a) (sh_lt p.1) h1
  by_cases e : atOf p.1 ≤ a ∧ a < atOf p.1 + p.2
  · have hp := key.2 ⟨rfl, e⟩
    have hv := pos_val (f := p.1) e.1 (by omega)
    rw [if_pos e, if_pos (by simp [hp])]
    rw [hv]
    simp only [List.getD_eq_getElem?_getD]
    rw [List.getElem?_take_of_lt (by omega), List.getElem?_drop]
  · have e2 : (decide (p.1 ≤ posOf (shOf p.1) a) && decide (posOf (shOf p.1) a < p.1 + p.2)) = false := by
      rw [Bool.eq_false_iff]
      intro h4
      simp only [Bool.and_eq_true, decide_eq_true_eq] at h4
      exact e (key.1 h4).2
    rw [if_neg e, e2, Bool.or_false]
/-- A volume, of which the bytes of some blocks are there. -/
def covJ (L : List (List Nat)) (n : Nat) (pre : List (Nat × Nat)) : List Nat := (List.range n).map fun i => if cov pre i = true then (L.getD (shOf i) []).getD (atOf i) 0 else 0
theorem covJ_length (L : List (List Nat)) (n : Nat) (pre : List (Nat × Nat)) : (covJ L n pre).length = n := by simp [covJ]
theorem covJ_at (L : List (List Nat)) {n i : Nat} (pre : List (Nat × Nat)) (h : i < n) : (covJ L n pre).getD i 0 = if cov pre i = true then (L.getD (shOf i) []).getD (atOf i) 0 else 0 := by
  simp [covJ, List.getD, h]
theorem covJ_nil (L : List (List Nat)) (n : Nat) : covJ L n [] = List.replicate n 0 := by
  apply ext_getD (by simp [covJ])
  intro a ha
  rw [covJ_length] at ha
  rw [covJ_at L [] ha, if_neg (by simp [cov])]
  simp [List.getD, ha]
theorem covJ_all (L : List (List Nat)) (n : Nat) : covJ L n (blkL 0 n) = joinL L n := by
  unfold covJ joinL
  refine List.map_congr_left fun i hi => ?_
  rw [List.mem_range] at hi
  rw [cov_blk, if_pos (by simpa using hi)]
theorem covJ_step (L : List (List Nat)) {n : Nat} (pre : List (Nat × Nat)) {p : Nat × Nat} (h1 : p.1 % 64 + p.2 ≤ 64) (h2 : p.1 + p.2 ≤ n) (h3 : atOf p.1 + p.2 ≤ (L.getD (shOf p.1) []).length) : covJ L n (pre ++ [p]) = splice (covJ L n pre) p.1 (((L.getD (shOf p.1) []).drop (atOf p.1)).take p.2) := by
  have hc : (((L.getD (shOf p.1) []).drop (atOf p.1)).take p.2).length = p.2 := by rw [List.length_take, List.length_drop]; omega
  have hfit : p.1 + (((L.getD (shOf p.1) []).drop (atOf p.1)).take p.2).length ≤ (covJ L n pre).length := by rw [hc, covJ_length]; omega
  apply ext_getD (by rw [length_splice _ _ _ hfit, covJ_length, covJ_length])
  intro a ha
  rw [covJ_length] at ha
  rw [splice_at hfit (by rw [covJ_length]; exact ha), hc, covJ_at L _ ha, covJ_at L _ ha, cov_snoc]
  by_cases e : p.1 ≤ a ∧ a < p.1 + p.2
  · have e1 : shOf a = shOf p.1 := by unfold shOf; omega
    have e2 : atOf a = atOf p.1 + (a - p.1) := by unfold atOf; omega
    rw [if_pos e, if_pos (by simp [e]), e1, e2]
    simp only [List.getD_eq_getElem?_getD]
    rw [List.getElem?_take_of_lt (by omega), List.getElem?_drop]
  · have e2 : (decide (p.1 ≤ a) && decide (a < p.1 + p.2)) = false := by
      rw [Bool.eq_false_iff]
      intro h4
      simp only [Bool.and_eq_true, decide_eq_true_eq] at h4
      exact e h4
    rw [if_neg e, e2, Bool.or_false]
theorem sizeB1 : (Try.prog.info? 5).map (·.size) = some 1 := by kernel_rfl
theorem grown_setRow (w : World) (g : Nat) (cs : Array Value) : w.grownBy (w.setRow g cs) (some g) := ⟨rfl, rfl, rfl, by simp [World.setRow], fun k _ hk => setRow_other w g k cs fun e => hk (by rw [e])⟩
/-- copy(block[off:], x), where x has k bytes, at least one, and all of them fit. -/
theorem copy_blk {ops : Array Oper} {rest : List Oper} {dst : Option Tmp} {d s : Operand} {pos : String} {after : Array Edge} {ty : TypeId} {a : Act} {W : World} {Q : Exit → Act → World → Prop} {ax : Option Addr} {g off dl dc k cx : Nat} {A R : List Nat}
    (hd : a.eval d = .slice (some ⟨g, off, none⟩) dl dc) (hs : a.eval s = .slice ax k cx) (hg : W.heap[g]? = some (.cells (cellsOf A).toArray 5 (0, 0))) (hS : Sl W (.slice ax k cx) R) (hk : R.length = k) (hk1 : 1 ≤ k) (hkd : k ≤ dl) (hfit : off + k ≤ A.length)
    (h : ∀ z w', w'.heap[g]? = some (.cells (cellsOf (splice A off R)).toArray 5 (0, 0)) → W.grownBy w' (some g) → wpList Try.prog ops Q rest (a.put dst z) w') : wpList Try.prog ops Q (⟨dst, .call { callee := .builtin .copy, args := #[d, s], argTypes := #[28, 28] }, ty, pos, after, none⟩ :: rest) a W := by
  obtain ⟨b, o, cap, hv, -, -, hc⟩ := sl_cells hS (by omega)
  obtain ⟨rfl, -, rfl⟩ : ax = some ⟨b, o, none⟩ ∧ k = R.length ∧ cx = cap := by simpa using hv
  refine wpList_copy_own rfl d s 28 28 rfl 5 Try.underlying28 sizeB1 g off dl dc ⟨b, o, none⟩ k cx hd hs (cellsOf A).toArray 5 hg (cellsOf R) (by rw [cellsOf_length, hk]; exact (Nat.min_eq_left hkd).symm) (fun j v hj => ?_) (by rw [cellsOf_length, hk]; simpa [cellsOf_length] using hfit) (cellsOf_one _) (h _ _ ?_ (grown_setRow _ _ _))
  · rw [add_none]
    have hj2 : j < R.length := by
      have := (List.getElem?_eq_some_iff.1 hj).1
      rwa [cellsOf_length] at this
    rw [hc j hj2]
    simp only [cellsOf, List.getElem?_map, List.getElem?_eq_getElem hj2, Option.map_some, Option.some.injEq] at hj
    rw [← hj]
    simp [List.getD, hj2]
  · rw [setRow_heap W g _ _ _ _ hg]
    congr 3
    rw [← splice_cells]
    simp [splice]
end Go.Proofs.Ytjpehjgcpnogiaa.Gf
