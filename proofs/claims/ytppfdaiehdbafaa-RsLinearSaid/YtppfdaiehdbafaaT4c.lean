/- What is proved here: the contracts of allBut and agreeing: arrays of six bools. the contract of Locate. the contract of the reference's Locate. Condition: rows of at most 1,000,000 bytes. -/
import Derived.Test.YtppfdaiehdbafaaS4k
namespace Go.Proofs.Ytppfdaiehdbafaa.Gf
open Go Go.ChangeShapes Go.WideShapes Go.ChangeAt Go.RowKit Go.Sort Go.Proofs.Ytppfdaiehdbafaa.By Go.Proofs.Ytppfdaiehdbafaa.Qt

theorem rrestore_any (v1 v2 : Value) (S : List (List Nat)) (h : List Bool) (w : World) (s1 : Sr w v1 S) (s2 : Sb w v2 h) (hm : Small S) : Calls Try.prog 24 #[v1, v2] w (EP w (resL S h) (resE S h)) := by
  by_cases h6 : S.length = 6 ∧ h.length = 6
  · obtain ⟨b1, o1, c1, rfl, d1, d2, k1⟩ := sr_cells s1 (by omega)
    obtain ⟨b2, o2, c2, rfl, f1, f2, k2⟩ := sb_cells s2 (by omega)
    have hb := sr_byt s1
    rw [h6.1] at k1 ⊢
    rw [h6.2] at k2 ⊢
    exact rrestore_good b1 o1 c1 b2 o2 c2 S h w h6 k1 k2 hb hm
  · obtain ⟨a1, c1, rfl, -, -⟩ := sr_form s1
    obtain ⟨a2, c2, rfl, -, -⟩ := sb_form s2
    unfold resL resE
    rw [if_neg (fun x => h6 ⟨x.1, x.2.1⟩), if_neg (fun x => h6 ⟨x.1, x.2.1⟩)]
    exact rrestore_bad1 a1 a2 _ _ c1 c2 w h6
/-- Six bools. -/
def BV (f : Nat → Bool) : Array Value := #[.bool (f 0), .bool (f 1), .bool (f 2), .bool (f 3), .bool (f 4), .bool (f 5)]
theorem BV_ext {f g : Nat → Bool} (h : ∀ i, i < 6 → f i = g i) : BV f = BV g := by
  unfold BV
  rw [h 0 (by decide), h 1 (by decide), h 2 (by decide), h 3 (by decide), h 4 (by decide), h 5 (by decide)]
theorem BV_get (f : Nat → Bool) {k : Nat} (hk : k < 6) : (BV f)[k]? = some (.bool (f k)) := by
  match k, hk with
  | 0, _ => rfl
  | 1, _ => rfl
  | 2, _ => rfl
  | 3, _ => rfl
  | 4, _ => rfl
  | 5, _ => rfl
theorem BV_set (f : Nat → Bool) (z : Bool) {k : Nat} (hk : k < 6) : (BV f).setIfInBounds k (.bool z) = BV fun i => if i = k then z else f i := by
  match k, hk with
  | 0, _ => rfl
  | 1, _ => rfl
  | 2, _ => rfl
  | 3, _ => rfl
  | 4, _ => rfl
  | 5, _ => rfl
theorem sizeBV : (Try.prog.info? 77).map (·.size) = some 6 := by kernel_rfl
/-- An array of six bools is being filled: the result's block is not yet. -/
structure Fil (w wr : World) (gr g : Nat) (f : Nat → Bool) : Prop where
  zero : wr.heap[gr]? = some (.cells (BV fun _ => false) 77 (0, 0))
  row : wr.heap[g]? = some (.cells (BV f) 77 (0, 0))
  lo : w.heap.size ≤ gr ∧ w.heap.size ≤ g ∧ gr ≠ g
  b : Below w.heap.size w wr
theorem fil_start (w : World) : Fil w ((w.alloc (.cells (BV fun _ => false) 77)).alloc (.cells (BV fun _ => false) 77)) w.heap.size (w.heap.size + 1) fun _ => false := by
  obtain ⟨h1, h2, _, h4⟩ := two w (.cells (BV fun _ => false) 77) (.cells (BV fun _ => false) 77)
  exact ⟨h1, h2, by omega, h4⟩
theorem Fil.cell {w wr : World} {gr g k : Nat} {f : Nat → Bool} (h : Fil w wr gr g f) (hk : k < 6) : wr.cell? ⟨g, k, none⟩ = some (.bool (f k)) ∧ wr.frozen? ⟨g, k, none⟩ = false :=
  ⟨(cell_of_row _ _ _ _ _ _ h.row).trans (BV_get f hk), frozen_of_row _ _ _ _ _ h.row⟩
theorem Fil.later {w wr w' : World} {gr g : Nat} {f : Nat → Bool} (h : Fil w wr gr g f) (hb : Below wr.heap.size wr w') : Fil w w' gr g f := ⟨(hb.block _ (lt_of_some h.zero)).trans h.zero, (hb.block _ (lt_of_some h.row)).trans h.row, h.lo, bt h.b hb⟩
theorem Fil.set {w wr : World} {gr g k : Nat} {f : Nat → Bool} (h : Fil w wr gr g f) (hk : k < 6) (z : Bool) : Fil w (wr.setCell ⟨g, k, none⟩ (.bool z)) gr g fun i => if i = k then z else f i := by
  refine ⟨(heap_setCell_other _ _ _ _ h.lo.2.2).trans h.zero, ?_, h.lo, h.b.setCell h.lo.2.1 _⟩
  rw [heap_setCell_same wr g k _ 77 (.bool z) h.row, BV_set f z hk]
theorem Fil.ext {w wr : World} {gr g : Nat} {f f' : Nat → Bool} (h : Fil w wr gr g f) (he : ∀ i, i < 6 → f i = f' i) : Fil w wr gr g f' := ⟨h.zero, by rw [← BV_ext he]; exact h.row, h.lo, h.b⟩
theorem Fil.next {w wr : World} {gr g k : Nat} {F : Nat → Bool} (h : Fil w wr gr g fun j => if j < k then F j else false) (hk : k < 6) : Fil w (wr.setCell ⟨g, k, none⟩ (.bool (F k))) gr g fun j => if j < k + 1 then F j else false :=
  (h.set hk (F k)).ext fun i _ => by
    by_cases e : i = k
    · subst e
      rw [if_pos rfl, if_pos (by omega)]
    · rw [if_neg e]
      by_cases e2 : i < k
      · rw [if_pos e2, if_pos (by omega)]
      · rw [if_neg e2, if_neg (by omega)]
/-- A load of six bools. -/
theorem loadBV {ops : Array Oper} {rest : List Oper} {dst : Option Tmp} {x : Operand} {pos : String} {after : Array Edge} {ty : TypeId} {a : Act} {w : World} {Q : Exit → Act → World → Prop}
    (g : Nat) (f : Nat → Bool) (hx : a.eval x = .pointer (some ⟨g, 0, none⟩)) (hg : w.heap[g]? = some (.cells (BV f) 77 (0, 0)))
    (h : wpList Try.prog ops Q rest (a.put dst (.agg (BV f))) w) : wpList Try.prog ops Q (⟨dst, .load 77 x, ty, pos, after, none⟩ :: rest) a w :=
  wpList_load_row rfl 77 x rfl g hx 77 (BV f) (0, 0) _ hg Try.underlying77 rfl sizeBV h
theorem storeBV {ops : Array Oper} {rest : List Oper} {dst : Option Tmp} {x y : Operand} {pos : String} {after : Array Edge} {ty : TypeId} {a : Act} {w : World} {Q : Exit → Act → World → Prop}
    (g : Nat) (f : Nat → Bool) (old : Array Value) (ho : old.size = 6) (hx : a.eval x = .pointer (some ⟨g, 0, none⟩)) (hy : a.eval y = .agg (BV f)) (hg : w.heap[g]? = some (.cells old 77 (0, 0)))
    (h : wpList Try.prog ops Q rest (a.put dst undef) (w.setRow g (BV f))) : wpList Try.prog ops Q (⟨dst, .store 77 x y, ty, pos, after, none⟩ :: rest) a w :=
  wpList_store_row rfl 77 x y rfl g (BV f) hx hy 77 old hg sizeBV (by rw [ho]; rfl) (by simp [BV, show ∀ b, (Value.bool b).oneCell' = true from fun _ => rfl]) h
set_option maxRecDepth 100000 in
set_option maxHeartbeats 6400000 in
theorem allbut_any (i : Nat) (w : World) (_hi : i < 6) : Calls Try.prog 47 #[.int .i64 (i : Int)] w fun e w' => e = .returned (.agg (BV fun k => k != i)) ∧ Below w.heap.size w w' := by
  go_enter Try.func47, Try.ntmps47
  go_wp2_with fail
  go_loopw [5] (fun t wr => ∃ k : Nat, k ≤ 6 ∧ t = .int .i64 (k : Int) ∧ Fil w wr w.heap.size (w.heap.size + 1) fun j => if j < k then j != i else false) (fun t _ => 6 - (intOf t).toNat)
  case atStart => exact ⟨0, by omega, rfl, (fil_start w).ext fun j _ => by simp⟩
  case round =>
    obtain ⟨k, hk, rfl, hF⟩ := hrel
    by_cases hkn : k < 6
    · obtain ⟨q1, q2⟩ := hF.cell hkn
      have HN := Lib.hid (hF.next hkn)
      have HF := Lib.hid hF
      have p0 : (0 : Int) ≤ (k : Int) := by omega
      have p1 : (k : Int) < 6 := by omega
      have hne : ((k : Int) != (i : Int)) = (k != i) := by
        by_cases e : k = i
        · rw [e]; simp
        · rw [(bne_iff_ne).2 e, bne_iff_ne]; omega
      generalize hz : (k != i) = z at HN hne
      clear hF hz
      go_wp2
      go_roundw
      case rel => exact ⟨k + 1, by omega, by go_num, HN.out⟩
      case measure => simp [intOf]; omega
    · obtain rfl : k = 6 := by omega
      have HF := Lib.hid (hF.ext (f' := fun j => j != i) fun j hj => by simp [hj])
      clear hF
      go_wp2_with (first | ((with_reducible refine loadBV (w.heap.size + 1) (fun j => j != i) ?_ HF.out.row ?_); exact rfl) | ((with_reducible refine storeBV w.heap.size (fun j => j != i) (BV fun _ => false) rfl ?_ ?_ HF.out.zero ?_); exact rfl; exact rfl))
      have hd := below_setRow HF.out.b (Nat.le_refl _) (BV fun j => j != i)
      exact bodyPost_ret (results_cell_row Try.results47 _ _ w.heap.size 77 (BV fun j => j != i) (0, 0) _ rfl (setRow_heap _ _ _ _ _ _ HF.out.zero) Try.underlying77 rfl sizeBV) rfl ⟨rfl, hd⟩
set_option maxRecDepth 100000 in
set_option maxHeartbeats 6400000 in
theorem agreeing_any (b1 o1 c1 b2 o2 c2 : Nat) (A B : List (List Nat)) (w : World)
    (k1 : ∀ k, k < 6 → ∃ x, w.cell? ⟨b1, o1 + k, none⟩ = some x ∧ Sl w x (A.getD k [])) (k2 : ∀ k, k < 6 → ∃ x, w.cell? ⟨b2, o2 + k, none⟩ = some x ∧ Sl w x (B.getD k [])) :
    Calls Try.prog 48 #[.slice (some ⟨b1, o1, none⟩) 6 c1, .slice (some ⟨b2, o2, none⟩) 6 c2] w fun e w' => e = .returned (.agg (BV fun k => decide (A.getD k [] = B.getD k []))) ∧ Below w.heap.size w w' := by
  have K1 := Lib.hid k1
  have K2 := Lib.hid k2
  clear k1 k2
  generalize hF0 : (fun k => decide (A.getD k [] = B.getD k [])) = F
  have HF0 := Lib.hid hF0
  clear hF0
  go_enter Try.func48, Try.ntmps48
  go_wp2_with fail
  go_loopw [7] (fun t wr => ∃ k : Nat, k ≤ 6 ∧ t = .int .i64 (k : Int) ∧ Fil w wr w.heap.size (w.heap.size + 1) fun j => if j < k then F j else false) (fun t _ => 6 - (intOf t).toNat)
  case atStart => exact ⟨0, by omega, rfl, (fil_start w).ext fun j _ => by simp⟩
  case round =>
    obtain ⟨k, hk, rfl, hF⟩ := hrel
    by_cases hkn : k < 6
    · obtain ⟨x, e1, s1⟩ := K1.out k hkn
      obtain ⟨y, e2, s2⟩ := K2.out k hkn
      have f1 := cells_regrown ((hF.b.cell (p := ⟨b1, o1 + k, none⟩) (block_lt_of_cell e1)).trans e1)
      have f2 := cells_regrown ((hF.b.cell (p := ⟨b2, o2 + k, none⟩) (block_lt_of_cell e2)).trans e2)
      have s1' := sl_below s1 hF.b
      have s2' := sl_below s2 hF.b
      have hE : ∀ d os, Calls Try.prog 43 #[x, y] (grow (redrawn wr d) os) fun e w'' => e = .returned (.bool (F k)) ∧ ∃ p : Regrown, w'' = grow (redrawn wr p.d) p.os := fun d os => regrown_same (by
        rw [show F k = decide (A.getD k [] = B.getD k []) from (congrFun HF0.out k).symm]
        exact (beq_any x y _ _ _ (sl_below s1' (below_regrown wr d os)) (sl_below s2' (below_regrown wr d os))).mono fun _ _ h => ⟨h.1, h.2⟩)
      have HE := Lib.hid hE
      have HF := Lib.hid hF
      have p0 : (0 : Int) ≤ (k : Int) := by omega
      have p1 : (k : Int) < 6 := by omega
      clear e1 e2 s1 s2 s1' s2' hE hF
      go_wp2
      refine wp_region_bl_tail 11 (by kernel_rfl) (by kernel_rfl) ?_
      simp only [List.take_succ_cons, List.take_zero, List.drop_succ_cons, List.drop_zero]
      repeat (quiet_step ((go_at_call 43; exact HE.out _ _)))
      refine wpQuiet_nil ?_
      intro w9 hb9
      clear f1 f2
      have HF9 := Lib.hid (HF.out.later hb9)
      have HN := Lib.hid (HF9.out.next hkn)
      obtain ⟨q1, q2⟩ := HF9.out.cell hkn
      clear hb9 HF HE
      go_wp2
      go_roundw
      case rel => exact ⟨k + 1, by omega, by go_num, HN.out⟩
      case measure => simp [intOf]; omega
    · obtain rfl : k = 6 := by omega
      have HF := Lib.hid (hF.ext (f' := F) fun j hj => by simp [hj])
      clear hF
      go_wp2_with (first | ((with_reducible refine loadBV (w.heap.size + 1) F ?_ HF.out.row ?_); exact rfl) | ((with_reducible refine storeBV w.heap.size F (BV fun _ => false) rfl ?_ ?_ HF.out.zero ?_); exact rfl; exact rfl))
      have hd := below_setRow HF.out.b (Nat.le_refl _) (BV F)
      exact bodyPost_ret (results_cell_row Try.results48 _ _ w.heap.size 77 (BV F) (0, 0) _ rfl (setRow_heap _ _ _ _ _ _ HF.out.zero) Try.underlying77 rfl sizeBV) rfl ⟨rfl, hd⟩
end Go.Proofs.Ytppfdaiehdbafaa.Gf
namespace Go.Proofs.Ytppfdaiehdbafaa.Gf
open Go Go.ChangeShapes Go.WideShapes Go.ChangeAt Go.RowKit Go.Sort Go.Proofs.Ytppfdaiehdbafaa.By Go.Proofs.Ytppfdaiehdbafaa.Qt

/-- All shards but the one with the number i. -/
def others (i : Nat) : List Bool := (List.range 6).map fun k => k != i
/-- All shards but i agree with what four of them make. -/
def FitsAt (S : List (List Nat)) (i : Nat) : Prop := ∀ k, k < 6 → k ≠ i → (resL S (others i)).getD k [] = S.getD k []
instance (S : List (List Nat)) (i : Nat) : Decidable (FitsAt S i) := by unfold FitsAt; infer_instance
/-- j is the first shard that can be replaced, or 6. -/
def LocP (S : List (List Nat)) (j : Nat) : Prop := j ≤ 6 ∧ (∀ i, i < j → ¬ FitsAt S i) ∧ (j < 6 → FitsAt S j)
def locI (S : List (List Nat)) (j : Nat) : Int := if Lev S 6 then if Ver S then -1 else if j < 6 then (j : Int) else 0 else 0
def locE (S : List (List Nat)) (j : Nat) : Int := if Lev S 6 then if Ver S then 0 else if j < 6 then 0 else 5 else 1
theorem others_pres : ∀ i, i < 6 → 4 ≤ (pres (others i)).length := by decide
theorem others_len (i : Nat) : (others i).length = 6 := by simp [others]
theorem others_getD {i k : Nat} (hk : k < 6) : (others i).getD k false = (k != i) := by simp [others, List.getD, hk]
theorem pick_eql {S : List (List Nat)} {rs : List Nat} (h : Lev S 6) (hr : ∀ x ∈ rs, x < 6) : EqL (pickL rs S) := by
  have key : ∀ k, k < rs.length → ((pickL rs S).getD k []).length = (S.getD 0 []).length := fun k hk => by
    rw [pickL_getD hk]
    refine h.2 _ ?_
    rw [h.1]
    simp only [List.getD, List.getElem?_eq_getElem hk, Option.getD_some]
    exact hr _ (List.getElem_mem hk)
  intro k hk
  rw [pickL_length] at hk
  rw [key k hk, key 0 (by omega)]
theorem others_fit {S : List (List Nat)} {i : Nat} (h : Lev S 6) : Fit S (others i) := ⟨h.1, others_len i, pick_eql h (presK_lt _ 6)⟩
theorem others_res {S : List (List Nat)} {i : Nat} (hi : i < 6) (h : Lev S 6) : resE S (others i) = 0 ∧ (resL S (others i)).length = 6 := by
  unfold resE resL
  rw [if_pos (others_fit h), if_pos (others_pres i hi), if_pos (others_fit h), if_pos (others_pres i hi)]
  exact ⟨rfl, rest_length ..⟩
/-- What is restored from six level shards is a code word. -/
theorem others_code {S : List (List Nat)} {i : Nat} (hi : i < 6) (h : Lev S 6) (hb : ∀ k q, (S.getD k []).getD q 0 < 256) : ∃ m, Code6 m (resL S (others i)) := by
  unfold resL
  rw [if_pos (others_fit h), if_pos (others_pres i hi)]
  exact ⟨_, rest_code (pres_good (others_pres i hi)) (four_lv (by rw [pickL_length]; exact others_pres i hi) (others_fit h).2.2 (pick_byt hb))⟩
theorem agree_iff {S : List (List Nat)} {i : Nat} (hi : i < 6) (h : Lev S 6) (hb : ∀ k q, (S.getD k []).getD q 0 < 256) (hv : ¬ Ver S) :
    (∀ k, k < 6 → decide (S.getD k [] = (resL S (others i)).getD k []) = (k != i)) ↔ FitsAt S i := by
  constructor
  · intro h1 k hk hne
    have := h1 k hk
    rw [(bne_iff_ne).2 hne, decide_eq_true_iff] at this
    exact this.symm
  · intro h1 k hk
    by_cases e : k = i
    · subst e
      rw [show (k != k) = false by simp, decide_eq_false_iff_not]
      intro h2
      apply hv
      have hS : S = resL S (others k) := by
        apply List.ext_getElem (by rw [h.1, (others_res hi h).2])
        intro j g1 g2
        have hj : j < 6 := by rw [h.1] at g1; exact g1
        have h3 : S.getD j [] = (resL S (others k)).getD j [] := by
          by_cases e2 : j = k
          · rw [e2]; exact h2
          · exact (h1 j hj e2).symm
        simpa [List.getD, g1, g2] using h3
      rw [ver_code hb, hS]
      exact hS ▸ others_code hi h hb
    · rw [(bne_iff_ne).2 e, decide_eq_true_iff]
      exact (h1 k hk e).symm
set_option maxRecDepth 100000 in
theorem eqBV (f g : Nat → Bool) (w : World) : (Op.equalIn 10000 77 (.agg (BV f)) (.agg (BV g))).run Try.prog w = .ok (f 0 == g 0 && f 1 == g 1 && f 2 == g 2 && f 3 == g 3 && f 4 == g 4 && f 5 == g 5) w := by
  have z := Try.sizeOf4
  have a3 := Try.isAgg4
  unfold BV
  generalize f 0 = x0
  generalize f 1 = x1
  generalize f 2 = x2
  generalize f 3 = x3
  generalize f 4 = x4
  generalize f 5 = x5
  generalize g 0 = y0
  generalize g 1 = y1
  generalize g 2 = y2
  generalize g 3 = y3
  generalize g 4 = y4
  generalize g 5 = y5
  rw [show (10000 : Nat) = 9999 + 1 from rfl, Op.equalIn]
  simp only [Sem.run_bind, run_underlying Try.underlying77, Result.andThen_ok]
  simp only [Std.Legacy.Range.forIn_eq_forIn_range', Std.Legacy.Range.size, Nat.sub_zero, Nat.add_sub_cancel, Nat.div_one, List.range'_succ, List.range'_zero, List.forIn_cons, List.forIn_nil]
  go_simp
  by_cases h0 : x0 = y0
  · by_cases h1 : x1 = y1
    · by_cases h2 : x2 = y2
      · by_cases h3 : x3 = y3
        · by_cases h4 : x4 = y4
          · by_cases h5 : x5 = y5
            · simp [h0, h1, h2, h3, h4, h5]
            · simp [h0, h1, h2, h3, h4, h5]
          · simp [h0, h1, h2, h3, h4]
        · simp [h0, h1, h2, h3]
      · simp [h0, h1, h2]
    · simp [h0, h1]
  · simp [h0]
def eqB (f g : Nat → Bool) : Bool := f 0 == g 0 && f 1 == g 1 && f 2 == g 2 && f 3 == g 3 && f 4 == g 4 && f 5 == g 5
theorem eqB_iff (f g : Nat → Bool) : eqB f g = true ↔ ∀ k, k < 6 → f k = g k := by
  unfold eqB
  simp only [Bool.and_eq_true, beq_iff_eq]
  constructor
  · rintro ⟨⟨⟨⟨⟨h0, h1⟩, h2⟩, h3⟩, h4⟩, h5⟩ k hk
    match k, hk with
    | 0, _ => exact h0
    | 1, _ => exact h1
    | 2, _ => exact h2
    | 3, _ => exact h3
    | 4, _ => exact h4
    | 5, _ => exact h5
  · exact fun h => ⟨⟨⟨⟨⟨h 0 (by decide), h 1 (by decide)⟩, h 2 (by decide)⟩, h 3 (by decide)⟩, h 4 (by decide)⟩, h 5 (by decide)⟩
theorem quiet_eqBV {C : World → Prop} {K : Act → Prop} {o : Oper} {a : Act} (x y : Operand) (ho : o.op = .binOp .eql 77 x y 77) (f g : Nat → Bool) (hx : a.eval x = .agg (BV f)) (hy : a.eval y = .agg (BV g)) (h : K (a.put o.dst (.bool (eqB f g)))) : o.quiet Try.prog a C K := by
  refine ⟨_, fun w _ => ?_, h⟩
  unfold Oper.quietAt Oper.quietUpon execOp
  simp only [ho, hx, hy]
  have e := eqBV f g w
  generalize BV f = F at *
  generalize BV g = G at *
  change _ = Result.ok (eqB f g) w at e
  go_simp
theorem quiet_load_row {P : Program} {C : World → Prop} {K : Act → Prop} {o : Oper} {a : Act} (ty : TypeId) (x : Operand) (ho : o.op = .load ty x)
    (g : Nat) (hx : a.eval x = .pointer (some ⟨g, 0, none⟩)) (t : TypeId) (cs : Array Value) (fr : Nat × Nat) (d : TypeDesc) (hg : ∀ w, C w → w.heap[g]? = some (.cells cs t fr))
    (hu : P.underlying ty = some d) (hd : (match d with | .struct _ | .array _ _ => true | _ => false) = true) (hi : (P.info? ty).map (·.size) = some cs.size)
    (h : K (a.put o.dst (.agg cs))) : o.quiet P a C K := by
  refine ⟨.agg cs, fun w hw => ?_, h⟩
  unfold Oper.quietAt Oper.quietUpon execOp
  simp only [ho, hx, Instr.loadAt, Instr.sureAddr, Sem.run_bind, Sem.run_pure, Result.andThen_ok, run_loadVar_row w g t ty cs fr d (hg w hw) hu hd hi]
  exact ⟨trivial, trivial⟩
theorem regrown_bel {P : Program} {f : FuncId} {args : Array Value} {w : World} {v : Value} (h : ∀ w', Below w.heap.size w w' → Calls P f args w' fun e w'' => e = .returned v ∧ Below w'.heap.size w' w'') : ∀ d os, Calls P f args (grow (redrawn w d) os) fun e w'' => e = .returned v ∧ ∃ p : Regrown, w'' = grow (redrawn w p.d) p.os := fun d os => Calls.regrown_of (h _ (below_regrown w d os))
theorem sb_array {w : World} {g i : Nat} (hg : w.heap[g]? = some (.cells (BV fun k => k != i) 77 (0, 0))) : Sb w (.slice (some ⟨g, 0, none⟩) 6 6) (others i) := by
  refine ⟨by rw [others_len]; unfold maxLen; decide, Or.inr ⟨g, 0, 6, by rw [others_len], by rw [others_len]; exact Nat.le_refl _, by unfold maxLen; decide, fun k hk => ?_⟩⟩
  rw [others_len] at hk
  rw [Nat.zero_add, cell_of_row _ _ _ _ _ _ hg, BV_get _ hk, others_getD hk]
theorem BV_bne {f g : Nat → Bool} : (BV f = BV g) ↔ ∀ k, k < 6 → f k = g k := by
  constructor
  · intro h k hk
    have h1 := BV_get f hk
    rw [h, BV_get g hk] at h1
    simpa using h1.symm
  · exact fun h => BV_ext h
set_option maxRecDepth 100000 in
set_option maxHeartbeats 6400000 in
theorem locate_any (v : Value) (S : List (List Nat)) (j : Nat) (hj : LocP S j) (w : World) (s : Sr w v S) (hm : Small S) : Calls Try.prog 26 #[v] w fun e w' => e = .returned (.tuple #[.int .i64 (locI S j), .int .i64 (locE S j)]) ∧ Below w.heap.size w w' := by
  have EL := fun W s => eqlen_any v S W s
  have VE := fun W s => verify_any v S W s hm
  have hb := sr_byt s
  by_cases h6 : S.length = 6
  · obtain ⟨b, o, cap, rfl, d1, d2, k1⟩ := sr_cells s (by omega)
    rw [h6] at k1 d1 s EL VE ⊢
    unfold maxLen at d2
    by_cases hq : EqL S
    · have hl : Lev S 6 := ⟨h6, hq⟩
      rw [decide_eq_true hq] at EL
      by_cases hv : Ver S
      · rw [show locI S j = -1 from by unfold locI; rw [if_pos hl, if_pos hv], show locE S j = 0 from by unfold locE; rw [if_pos hl, if_pos hv]]
        rw [decide_eq_true hv] at VE
        have EL := Lib.hid EL
        have VE := Lib.hid VE
        have SS := Lib.hid s
        clear s k1 hm hb h6 hq hl hv hj
        go_enter Try.func26, Try.ntmps26
        go_wp2_with fail
        refine (EL.out w SS.out).mono ?_
        rintro e w1 ⟨rfl, rfl⟩
        go_wp2_with fail
        refine (VE.out w SS.out).mono ?_
        rintro e w1 ⟨rfl, hb1⟩
        go_wp2_with fail
        go_ret2
        exact ⟨rfl, hb1⟩
      · rw [decide_eq_false hv] at VE
        have RE := fun (i : Nat) (hi : i < 6) v2 W s1 s2 => restore_any (.slice (some ⟨b, o, none⟩) 6 cap) v2 S (others i) W s1 s2 hm
        have hfit := fun (i : Nat) (hi : i < 6) => agree_iff hi hl hb hv
        obtain ⟨I, hI⟩ : ∃ I, I = locI S j := ⟨_, rfl⟩
        obtain ⟨E, hE⟩ : ∃ E, E = locE S j := ⟨_, rfl⟩
        rw [← hI, ← hE]
        have hI2 : I = if j < 6 then (j : Int) else 0 := by rw [hI]; unfold locI; rw [if_pos hl, if_neg hv]
        have hE2 : E = if j < 6 then 0 else 5 := by rw [hE]; unfold locE; rw [if_pos hl, if_neg hv]
        have RE := Lib.hid RE
        have RR := Lib.hid fun (i : Nat) (hi : i < 6) => others_res hi hl
        have EL := Lib.hid EL
        have VE := Lib.hid VE
        have SS := Lib.hid s
        have HI := Lib.hid hI2
        have HE := Lib.hid hE2
        have FT := Lib.hid hfit
        have HJ := Lib.hid hj
        have hj6 : j ≤ 6 := hj.1
        have K1 := Lib.hid k1
        clear s k1 hm hb h6 hq hl hv hj hI hE hI2 hE2 hfit
        go_enter Try.func26, Try.ntmps26
        go_wp2_with fail
        refine (EL.out w SS.out).mono ?_
        rintro e w1 ⟨rfl, rfl⟩
        go_wp2_with fail
        refine (VE.out w SS.out).mono ?_
        rintro e w1 ⟨rfl, hb1⟩
        have B1 := Lib.hid hb1
        clear hb1
        go_wp2_with fail
        go_loopw [18] (fun t wr => ∃ k : Nat, k ≤ j ∧ t = .int .i64 (k : Int) ∧ Below w.heap.size w wr) (fun t _ => 6 - (intOf t).toNat)
        case atStart => exact ⟨0, by omega, rfl, B1.out⟩
        case round =>
          obtain ⟨k, hk, rfl, hB⟩ := hrel
          have HB := Lib.hid hB
          clear hB
          by_cases hkn : k < 6
          · have p0 : (0 : Int) ≤ (k : Int) := by omega
            have p1 : (k : Int) < 6 := by omega
            go_wp2_with fail
            refine (allbut_any k wr hkn).mono ?_
            rintro e w2 ⟨rfl, hb2⟩
            have hz := heap_alloc_new w2 (.cells #[.bool false, .bool false, .bool false, .bool false, .bool false, .bool false] 77)
            have hal := (Below.refl w2.heap.size w2).alloc (Nat.le_refl _) (.cells #[.bool false, .bool false, .bool false, .bool false, .bool false, .bool false] 77)
            have hbl : Below w.heap.size w ((w2.alloc (.cells #[.bool false, .bool false, .bool false, .bool false, .bool false, .bool false] 77)).setRow w2.heap.size (BV fun q => q != k)) := below_setRow (bt (bt HB.out hb2) hal) (bt HB.out hb2).size _
            have hrow := setRow_heap _ _ _ (BV fun q => q != k) _ _ hz
            have HZ := Lib.hid hz
            have HB2 := Lib.hid hbl
            have HR := Lib.hid hrow
            clear hz hal hbl hrow hb2
            go_wp2_with ((with_reducible refine storeBV w2.heap.size (fun q => q != k) #[.bool false, .bool false, .bool false, .bool false, .bool false, .bool false] rfl ?_ ?_ HZ.out ?_); exact rfl; exact rfl)
            clear HZ
            generalize (w2.alloc (.cells #[.bool false, .bool false, .bool false, .bool false, .bool false, .bool false] 77)).setRow w2.heap.size (BV fun q => q != k) = W2 at *
            generalize w2.heap.size = g at *
            have hre := RE.out k hkn (.slice (some ⟨g, 0, none⟩) 6 6) W2 (sr_below SS.out HB2.out) (sb_array HR.out)
            rw [(RR.out k hkn).1] at hre
            have hlen := (RR.out k hkn).2
            have hft := FT.out k hkn
            generalize resL S (others k) = X at *
            refine hre.mono ?_
            unfold EP
            rintro e w3 ⟨⟨v3, rfl, hs3⟩, hb3⟩
            clear hre
            obtain ⟨b3, o3, c3, rfl, d3, d4, k3⟩ := sr_cells hs3 (by omega)
            rw [hlen] at k3 d3 ⊢
            unfold maxLen at d4
            have HB3 := Lib.hid (bt HB2.out hb3)
            have HR3 := Lib.hid ((hb3.block _ (lt_of_some HR.out)).trans HR.out)
            have k1' : ∀ q, q < 6 → ∃ x, w3.cell? ⟨b, o + q, none⟩ = some x ∧ Sl w3 x (S.getD q []) := fun q hq => by
              obtain ⟨x, hx, hs⟩ := K1.out q hq
              exact ⟨x, (HB3.out.cell (p := ⟨b, o + q, none⟩) (block_lt_of_cell hx)).trans hx, sl_below hs HB3.out⟩
            have hag : ∀ w', Below w3.heap.size w3 w' → Calls Try.prog 48 #[.slice (some ⟨b, o, none⟩) 6 cap, .slice (some ⟨b3, o3, none⟩) 6 c3] w' fun e w'' => e = .returned (.agg (BV fun q => decide (S.getD q [] = X.getD q []))) ∧ Below w'.heap.size w' w'' := fun w' hw' =>
              agreeing_any b o cap b3 o3 c3 S X w' (fun q hq => by
                obtain ⟨x, hx, hs⟩ := k1' q hq
                exact ⟨x, (hw'.cell (p := ⟨b, o + q, none⟩) (block_lt_of_cell hx)).trans hx, sl_below hs hw'⟩) fun q hq => by
                obtain ⟨x, hx, hs⟩ := k3 q hq
                exact ⟨x, (hw'.cell (p := ⟨b3, o3 + q, none⟩) (block_lt_of_cell hx)).trans hx, sl_below hs hw'⟩
            have AG := Lib.hid (regrown_bel hag)
            clear k1' hag k3 hs3 hb3 HB2 HR HB
            go_wp2_with fail
            refine wp_region_bl (by kernel_rfl) (by kernel_rfl) ?_
            quiet_step (fail)
            quiet_step (fail)
            quiet_step ((go_at_call 48; exact AG.out _ _))
            refine wpQuiet_step (fun K hK => ?_)
            rw [if_pos (by rfl)]
            refine quiet_load_row 77 (.tmp 5) rfl g (by rfl) 77 (BV fun q => q != k) (0, 0) _ (fun w' ⟨p, hp⟩ => by rw [hp]; exact ((below_regrown w3 p.d p.os).block _ (lt_of_some HR3.out)).trans HR3.out) Try.underlying77 rfl sizeBV ?_
            refine hK _ ?_
            clear hK K
            refine wpQuiet_step (fun K hK => ?_)
            rw [if_pos (by rfl)]
            refine quiet_eqBV (.tmp 31) (.tmp 32) rfl _ _ (by rfl) (by rfl) ?_
            refine hK _ ?_
            clear hK K
            refine wpQuiet_nil ?_
            intro w4 hb4
            have HB4 := Lib.hid (bt HB3.out hb4)
            have hfin : eqB (fun q => decide (S.getD q [] = X.getD q [])) (fun q => q != k) = decide (FitsAt S k) := by
              rw [Bool.eq_iff_iff, eqB_iff, decide_eq_true_iff]
              exact hft
            generalize eqB (fun q => decide (S.getD q [] = X.getD q [])) (fun q => q != k) = z at hfin ⊢
            clear hb4 HB3 HR3 AG hft
            by_cases hkj : k < j
            · have hnf := HJ.out.2.1 k hkj
              rw [decide_eq_false hnf] at hfin
              subst hfin
              go_wp2_with fail
              go_roundw
              case rel => exact ⟨k + 1, by omega, by go_num, HB4.out⟩
              case measure => simp [intOf]; omega
            · obtain rfl : k = j := by omega
              rw [decide_eq_true (HJ.out.2.2 hkn)] at hfin
              subst hfin
              have hI3 : I = (k : Int) := HI.out.trans (if_pos hkn)
              have hE3 : E = 0 := HE.out.trans (if_pos hkn)
              subst hI3 hE3
              go_wp2_with fail
              go_ret2
              exact ⟨rfl, HB4.out⟩
          · obtain rfl : k = 6 := by omega
            obtain rfl : j = 6 := by omega
            have hI3 : I = 0 := HI.out.trans (if_neg (by decide))
            have hE3 : E = 5 := HE.out.trans (if_neg (by decide))
            subst hI3 hE3
            go_wp2_with fail
            go_ret2
            exact ⟨rfl, HB.out⟩
    · rw [show locI S j = 0 from by unfold locI; rw [if_neg fun h => hq h.2], show locE S j = 1 from by unfold locE; rw [if_neg fun h => hq h.2]]
      rw [decide_eq_false hq] at EL
      have EL := Lib.hid EL
      have SS := Lib.hid s
      clear s k1 hm hb h6 hq hj
      go_enter Try.func26, Try.ntmps26
      go_wp2_with fail
      refine (EL.out w SS.out).mono ?_
      rintro e w1 ⟨rfl, rfl⟩
      go_wp2_with fail
      go_ret2
      exact ⟨rfl, Below.refl _ _⟩
  · obtain ⟨a, cap, rfl, -, -⟩ := sr_form s
    rw [show locI S j = 0 from by unfold locI; rw [if_neg fun h => h6 h.1], show locE S j = 1 from by unfold locE; rw [if_neg fun h => h6 h.1]]
    generalize S.length = n at *
    have h2 : ((n : Int) != 6) = true := by rw [bne_iff_ne]; omega
    clear s EL VE hm hb hj
    go_enter Try.func26, Try.ntmps26
    go_wp2
    go_ret2
    exact ⟨rfl, Below.refl _ _⟩
end Go.Proofs.Ytppfdaiehdbafaa.Gf
namespace Go.Proofs.Ytppfdaiehdbafaa.Gf
open Go Go.ChangeShapes Go.WideShapes Go.ChangeAt Go.RowKit Go.Sort Go.Proofs.Ytppfdaiehdbafaa.By Go.Proofs.Ytppfdaiehdbafaa.Qt

theorem sb_block {w : World} {g i : Nat} {T : TypeId} (hg : w.heap[g]? = some (.cells (BV fun k => if k = i then false else true) T (0, 0))) : Sb w (.slice (some ⟨g, 0, none⟩) 6 6) (others i) := by
  refine ⟨by rw [others_len]; unfold maxLen; decide, Or.inr ⟨g, 0, 6, by rw [others_len], by rw [others_len]; exact Nat.le_refl _, by unfold maxLen; decide, fun k hk => ?_⟩⟩
  rw [others_len] at hk
  rw [Nat.zero_add, cell_of_row _ _ _ _ _ _ hg, BV_get _ hk, others_getD hk]
  congr 2
  by_cases e : k = i
  · rw [if_pos e, e]; simp
  · rw [if_neg e, (bne_iff_ne).2 e]
theorem set_true {k : Nat} (hk : k < 6) : ([Value.bool true, .bool true, .bool true, .bool true, .bool true, .bool true].set k (.bool false)).toArray = BV fun q => if q = k then false else true := by
  match k, hk with
  | 0, _ => rfl
  | 1, _ => rfl
  | 2, _ => rfl
  | 3, _ => rfl
  | 4, _ => rfl
  | 5, _ => rfl
set_option maxRecDepth 100000 in
set_option maxHeartbeats 6400000 in
theorem rlocate_any (v : Value) (S : List (List Nat)) (j : Nat) (hj : LocP S j) (w : World) (s : Sr w v S) (hm : Small S) : Calls Try.prog 27 #[v] w fun e w' => e = .returned (.tuple #[.int .i64 (locI S j), .int .i64 (locE S j)]) ∧ Below w.heap.size w w' := by
  have LV0 : ∀ W, Sr W v S → Calls Try.prog 40 #[v, .int .i64 6] W fun e w' => e = .returned (.bool (decide (Lev S 6))) ∧ Below W.heap.size W w' := fun W s => level_any v S 6 (by decide) W s
  have VE0 := fun W s => rverify_any v S W s hm
  have hb := sr_byt s
  by_cases hl : Lev S 6
  · rw [decide_eq_true hl] at LV0
    obtain ⟨b, o, cap, rfl, d1, d2, k1⟩ := sr_cells s (by rw [hl.1]; decide)
    rw [hl.1] at k1 d1 s LV0 VE0 ⊢
    unfold maxLen at d2
    by_cases hv : Ver S
    · rw [show locI S j = -1 from by unfold locI; rw [if_pos hl, if_pos hv], show locE S j = 0 from by unfold locE; rw [if_pos hl, if_pos hv]]
      rw [decide_eq_true hv] at VE0
      have LV := Lib.hid LV0
      have VE := Lib.hid VE0
      have SS := Lib.hid s
      clear s k1 hm hb hl hv hj LV0 VE0
      go_enter Try.func27, Try.ntmps27
      go_wp2_with fail
      refine (LV.out w SS.out).mono ?_
      rintro e w1 ⟨rfl, hb1⟩
      have s1 := sr_below SS.out hb1
      go_wp2_with fail
      refine (VE.out w1 s1).mono ?_
      rintro e w2 ⟨rfl, hb2⟩
      go_wp2_with fail
      go_ret2
      exact ⟨rfl, bt hb1 hb2⟩
    · rw [decide_eq_false hv] at VE0
      have RE0 := fun (i : Nat) (hi : i < 6) v2 W s1 s2 => rrestore_any (.slice (some ⟨b, o, none⟩) 6 cap) v2 S (others i) W s1 s2 hm
      obtain ⟨I, hI⟩ : ∃ I, I = locI S j := ⟨_, rfl⟩
      obtain ⟨E, hE⟩ : ∃ E, E = locE S j := ⟨_, rfl⟩
      rw [← hI, ← hE]
      have hI2 : I = if j < 6 then (j : Int) else 0 := by rw [hI]; unfold locI; rw [if_pos hl, if_neg hv]
      have hE2 : E = if j < 6 then 0 else 5 := by rw [hE]; unfold locE; rw [if_pos hl, if_neg hv]
      have RE := Lib.hid RE0
      have RR := Lib.hid fun (i : Nat) (hi : i < 6) => others_res hi hl
      have LV := Lib.hid LV0
      have VE := Lib.hid VE0
      have SS := Lib.hid s
      have HI := Lib.hid hI2
      have HE := Lib.hid hE2
      have HJ := Lib.hid hj
      have hj6 : j ≤ 6 := hj.1
      have K1 := Lib.hid k1
      clear s k1 hm hb hl hv hj hI hE hI2 hE2 LV0 VE0 RE0
      go_enter Try.func27, Try.ntmps27
      go_wp2_with fail
      refine (LV.out w SS.out).mono ?_
      rintro e w0 ⟨rfl, hb0⟩
      have s1 := sr_below SS.out hb0
      have HB0 := Lib.hid hb0
      clear hb0
      go_wp2_with fail
      refine (VE.out w0 s1).mono ?_
      rintro e w1 ⟨rfl, hb1⟩
      have B1 := Lib.hid (bt HB0.out hb1)
      clear hb1 s1 HB0
      go_wp2_with fail
      go_loopw [4] (fun t wr => ∃ k : Nat, k ≤ j ∧ t = .int .i64 (k : Int) ∧ Below w.heap.size w wr) (fun t _ => 6 - (intOf t).toNat)
      case atStart => exact ⟨0, by omega, rfl, B1.out⟩
      case round =>
        clear B1
        obtain ⟨k, hk, rfl, hB⟩ := hrel
        have HB := Lib.hid hB
        clear hB
        by_cases hkn : k < 6
        · have p0 : (0 : Int) ≤ (k : Int) := by omega
          have p1 : (k : Int) < 6 := by omega
          have hz := heap_alloc_new wr (.cells ([Value.bool true, .bool true, .bool true, .bool true, .bool true, .bool true].set k (.bool false)).toArray 4)
          have hbl : Below w.heap.size w (wr.alloc (.cells ([Value.bool true, .bool true, .bool true, .bool true, .bool true, .bool true].set k (.bool false)).toArray 4)) := HB.out.alloc HB.out.size _
          have hrow := hz.trans (congrArg (fun c => some (Obj.cells c 4 (0, 0))) (set_true hkn))
          have HR := Lib.hid hrow
          have HB2 := Lib.hid hbl
          clear hz hrow hbl
          go_wp2_with fail
          generalize wr.alloc (.cells ([Value.bool true, .bool true, .bool true, .bool true, .bool true, .bool true].set k (.bool false)).toArray 4) = W2 at *
          generalize wr.heap.size = g at *
          have hre := RE.out k hkn (.slice (some ⟨g, 0, none⟩) 6 6) W2 (sr_below SS.out HB2.out) (sb_block HR.out)
          rw [(RR.out k hkn).1] at hre
          have hlen := (RR.out k hkn).2
          have hnf : ∀ z : Bool, (z = true ↔ ∀ p, p < 6 → p ≠ k → (resL S (others k)).getD p [] = S.getD p []) → z = decide (FitsAt S k) := fun z hz => by
            rw [Bool.eq_iff_iff, hz, decide_eq_true_iff]
            rfl
          have HNF := Lib.hid hnf
          clear hnf
          generalize resL S (others k) = X at *
          refine hre.mono ?_
          unfold EP
          rintro e w3 ⟨⟨v3, rfl, hs3⟩, hb3⟩
          clear hre
          obtain ⟨b3, o3, c3, rfl, d3, d4, k3⟩ := sr_cells hs3 (by omega)
          rw [hlen] at k3 d3 ⊢
          unfold maxLen at d4
          have HB3 := Lib.hid (bt HB2.out hb3)
          have k1' : ∀ q, q < 6 → ∃ x, w3.cell? ⟨b, o + q, none⟩ = some x ∧ Sl w3 x (S.getD q []) := fun q hq => by
            obtain ⟨x, hx, hs⟩ := K1.out q hq
            exact ⟨x, (HB3.out.cell (p := ⟨b, o + q, none⟩) (block_lt_of_cell hx)).trans hx, sl_below hs HB3.out⟩
          have KA := Lib.hid k1'
          have KX := Lib.hid k3
          clear k1' k3 hs3 hb3 HB2 HR HB hlen
          go_wp2_with fail
          go_loopw [8, 9] (fun f t wr => ∃ (q : Nat) (z : Bool), q ≤ 6 ∧ t = .int .i64 (q : Int) ∧ f = .bool z ∧ (z = true ↔ ∀ p, p < q → p ≠ k → X.getD p [] = S.getD p []) ∧ Below w3.heap.size w3 wr) (fun _ t _ => 6 - (intOf t).toNat)
          case atStart => exact ⟨0, true, by omega, rfl, rfl, ⟨fun _ p hp => by omega, fun _ => rfl⟩, Below.refl _ _⟩
          case round =>
            obtain ⟨q, z, hq, rfl, rfl, hz, hB4⟩ := hrel
            have HZ := Lib.hid hz
            have HB4 := Lib.hid hB4
            clear hz hB4
            by_cases hqn : q < 6
            · have i0 : (0 : Int) ≤ (q : Int) := by omega
              have i1 : (q : Int) < 6 := by omega
              have hnext : ∀ z' : Bool, (z' = true ↔ (z = true ∧ (q ≠ k → X.getD q [] = S.getD q []))) → (z' = true ↔ ∀ p, p < q + 1 → p ≠ k → X.getD p [] = S.getD p []) := fun z' hz' => by
                rw [hz', HZ.out]
                constructor
                · rintro ⟨h1, h2⟩ p hp hne
                  by_cases e : p < q
                  · exact h1 p e hne
                  · obtain rfl : p = q := by omega
                    exact h2 hne
                · exact fun h1 => ⟨fun p hp hne => h1 p (by omega) hne, fun hne => h1 q (by omega) hne⟩
              have HN := Lib.hid hnext
              clear hnext
              cases z with
              | false =>
                go_wp2
                go_quiet (fail)
                go_wp2
                go_roundw
                case rel => exact ⟨q + 1, false, by omega, by go_num, rfl, HN.out false (by simp), HB4.out.trans ((below_drewN wr _).mono HB4.out.size)⟩
                case measure => simp [intOf]; omega
              | true =>
                by_cases hqk : q = k
                · subst hqk
                  have hee : ((q : Int) == (q : Int)) = true := by simp
                  go_wp2
                  go_quiet (fail)
                  go_wp2
                  go_roundw
                  case rel => exact ⟨q + 1, true, by omega, by go_num, rfl, HN.out true (by simp), HB4.out.trans ((below_drewN wr _).mono HB4.out.size)⟩
                  case measure => simp [intOf]; omega
                · have hee : ((q : Int) == (k : Int)) = false := by
                    rw [Bool.eq_false_iff]
                    intro h
                    have := eq_of_beq h
                    omega
                  obtain ⟨x, e1, s1⟩ := KX.out q hqn
                  obtain ⟨y, e2, s2⟩ := KA.out q hqn
                  have f1 := (HB4.out.cell (p := ⟨b3, o3 + q, none⟩) (block_lt_of_cell e1)).trans e1
                  have f2 := (HB4.out.cell (p := ⟨b, o + q, none⟩) (block_lt_of_cell e2)).trans e2
                  have s1' := sl_below s1 HB4.out
                  have s2' := sl_below s2 HB4.out
                  have v1 := fun n => conv_sl (sl_below s1' (below_drewN wr n))
                  have v2 := fun n => conv_sl (sl_below s2' (below_drewN wr n))
                  have hse := str_eq s1.1 s2.1
                  have HNz := Lib.hid (HN.out (decide (X.getD q [] = S.getD q [])) (by simp [hqk]))
                  generalize decide (X.getD q [] = S.getD q []) = d at hse HNz
                  generalize strOf (X.getD q []) = t1 at v1 hse
                  generalize strOf (S.getD q []) = t2 at v2 hse
                  clear e1 e2 s1 s2 s1' s2'
                  go_wp2
                  go_quiet (fail)
                  go_wp2
                  go_roundw
                  case rel => exact ⟨q + 1, d, by omega, by go_num, by first | rfl | simp [hse], HNz.out, HB4.out.trans ((below_drewN wr _).mono HB4.out.size)⟩
                  case measure => simp [intOf]; omega
            · obtain rfl : q = 6 := by omega
              have hzf := HNF.out z HZ.out
              have HB5 := Lib.hid (bt HB3.out HB4.out)
              clear HZ HNF HB4
              by_cases hkj : k < j
              · have hnf := HJ.out.2.1 k hkj
                rw [decide_eq_false hnf] at hzf
                subst hzf
                go_wp2
                go_roundw
                case rel => exact ⟨k + 1, by omega, by go_num, HB5.out⟩
                case measure => simp [intOf]; omega
              · obtain rfl : k = j := by omega
                rw [decide_eq_true (HJ.out.2.2 hkn)] at hzf
                subst hzf
                have hI3 : I = (k : Int) := HI.out.trans (if_pos hkn)
                have hE3 : E = 0 := HE.out.trans (if_pos hkn)
                subst hI3 hE3
                go_wp2
                go_ret2
                exact ⟨rfl, HB5.out⟩
        · obtain rfl : k = 6 := by omega
          obtain rfl : j = 6 := by omega
          have hI3 : I = 0 := HI.out.trans (if_neg (by decide))
          have hE3 : E = 5 := HE.out.trans (if_neg (by decide))
          subst hI3 hE3
          go_wp2_with fail
          go_ret2
          exact ⟨rfl, HB.out⟩
  · rw [decide_eq_false hl] at LV0
    rw [show locI S j = 0 from by unfold locI; rw [if_neg hl], show locE S j = 1 from by unfold locE; rw [if_neg hl]]
    have LV := Lib.hid LV0
    have SS := Lib.hid s
    clear s VE0 hm hb hl hj LV0
    go_enter Try.func27, Try.ntmps27
    go_wp2_with fail
    refine (LV.out w SS.out).mono ?_
    rintro e w1 ⟨rfl, hb1⟩
    go_wp2_with fail
    go_ret2
    exact ⟨rfl, hb1⟩
end Go.Proofs.Ytppfdaiehdbafaa.Gf
