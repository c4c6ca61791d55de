/- What is proved here: the contract of the program's Split. Condition: at most 100,000 bytes. -/
import Derived.Test.YtjpehjgcpnogiaaCv
import Derived.Test.YtjpehjgcpnogiaaQp
import Derived.Shelf.Abstract
namespace Go.Proofs.Ytjpehjgcpnogiaa.Gf
open Go Go.Joins Go.ChangeShapes Go.WideShapes Go.ChangeAt Go.RowKit Go.Deep Go.Proofs.Ytjpehjgcpnogiaa.By Go.Proofs.Ytjpehjgcpnogiaa.Rd Go.Proofs.Ytjpehjgcpnogiaa.Qt

attribute [local go_sem] Oper.semAt_some

theorem make_four {ops : Array Oper} {rest : List Oper} {dst : Option Tmp} {pos : String} {after : Array Edge} {ty : TypeId} {a : Act} {W : World} {Q : Exit → Act → World → Prop}
    (h : wpList Try.prog ops Q rest (a.put dst (.slice (some ⟨W.heap.size, 0, none⟩) 4 4)) (W.alloc (.cells (Array.replicate 4 (.slice none 0 0)) 28))) : wpList Try.prog ops Q (⟨dst, .makeSlice 31 (.const (.int .i64 4)) (.const (.int .i64 4)), ty, pos, after, none⟩ :: rest) a W := by
  refine wpList_plain rfl fun K hK => ?_
  obtain ⟨i, hi, hz0, hz1, hz2⟩ := info_parts infoS
  have hr := run_make (P := Try.prog) W 31 28 i (.slice none 0 0) Try.underlying31 hi hz0 .i64 .i64 ((4 : Nat) : Int) ((4 : Nat) : Int) (by omega) (Int.le_refl _) (by rw [hz2]; omega) (by omega)
  simp only [Int.toNat_natCast, hz1, Nat.mul_one] at hr
  have hc : madeCells (Value.slice none 0 0).cells 4 = Array.replicate 4 (.slice none 0 0) := by
    apply Array.ext'
    rw [show (Value.slice none 0 0).cells = #[Value.slice none 0 0] from rfl, toList_madeCells_one]
    simp
  rw [hc] at hr
  rw [show (((4 : Nat) : Int)) = 4 from rfl] at hr
  unfold Oper.wp execOp
  simp only [Act.eval, Sem.run_bind, Sem.run_pure, hr, Result.andThen_ok]
  exact hK _ _ h
theorem wp_make {dst : Option Tmp} {x : Operand} {pos : String} {after : Array Edge} {ty : TypeId} {gd : Option (Nat × Bool)} {a : Act} {W : World} {K : Act → World → Prop} {Q : Exit → Act → World → Prop} {n : Nat}
    (hx : a.eval x = .int .i64 (n : Int)) (hn : n ≤ 100000000)
    (h : K (a.put dst (.slice (some ⟨W.heap.size, 0, none⟩) n n)) (W.alloc (.cells (cellsOf (List.replicate n 0)).toArray 5))) : Oper.wp Try.prog ⟨dst, .makeSlice 28 x x, ty, pos, after, gd⟩ a W K Q := by
  obtain ⟨i, hi, hz0, hz1, hz2⟩ := info_parts infoB
  have hr := run_make (P := Try.prog) W 28 5 i (.int .u8 0) Try.underlying28 hi hz0 .i64 .i64 (n : Int) (n : Int) (by omega) (Int.le_refl _) (by rw [hz2]; omega) (by omega)
  simp only [Int.toNat_natCast, hz1, Nat.mul_one] at hr
  have hc : madeCells (Value.int .u8 0).cells n = (cellsOf (List.replicate n 0)).toArray := by
    apply Array.ext'
    rw [show (Value.int .u8 0).cells = #[Value.int .u8 0] from rfl, toList_madeCells_one]
    simp [cellsOf]
  rw [hc] at hr
  unfold Oper.wp execOp
  simp only [hx, Sem.run_bind, Sem.run_pure, hr, Result.andThen_ok]
  exact h
/-- Where only the normal way out is wanted. -/
def onlyN (Q : Exit → Act → World → Prop) : Exit → Act → World → Prop
  | .normal, a, w => Q .normal a w
  | _, _, _ => False
theorem wp_onlyN {P : Program} {c : Code} {Q : Exit → Act → World → Prop} {a : Act} {w : World} (h : c.wp P (onlyN Q) a w) : c.wp P Q a w :=
  Code.wp_mono (fun e a w h => by cases e <;> first | exact h | exact h.elim) h
theorem wp_region_headsS {P : Program} {id : Nat} {Q : Exit → Act → World → Prop} {a : Act} {w : World} {l : List Oper} (S : World → Prop) (hd : List Nat) (fuel : Nat) (hm : P.follows .mixedOrders = true) (hQ : ∀ c (a : Act) d v w, Q (.panic c) (a.put d v) w → Q (.panic c) a w)
    (hB : (Region.noSelect l.toArray && headsB .any l.toArray hd (Array.replicate l.toArray.size false)) = true) (hf : l.toArray.size = hd.length + fuel) (h1 : (pickOps l.toArray hd).map some = hd.map (fun t => l.toArray[t]?)) (hS : S w.drew)
    (h : wpHeads P l.toArray S (fun a' => wpAnyH P .any l.toArray Q S fuel (listAll hd (Array.replicate l.toArray.size false)) a' w.drew) (pickOps l.toArray hd) a) : (Code.region id l.toArray true).wp P Q a w := by
  simp only [Bool.and_eq_true] at hB
  refine wp_region_held (S := S) hm ?_
  have := held_heads (P := P) (md := .any) (Q := Q) hB.1 hQ hS hd _ _ a hB.2 h1 h
  rw [hf] at *
  exact this
/-- The list of the rows, of which i are made. -/
def rowsV (H M i : Nat) : Array Value := ((List.range 4).map fun j => if j < i then mkS M (H + 3 + j) else .slice none 0 0).toArray
theorem rowsV_zero (H M : Nat) : rowsV H M 0 = Array.replicate 4 (.slice none 0 0) := rfl
theorem rowsV_step (H M i : Nat) (hi : i < 4) : (rowsV H M i).setIfInBounds i (mkS M (H + 3 + i)) = rowsV H M (i + 1) := by
  match i, hi with
  | 0, _ => rfl
  | 1, _ => rfl
  | 2, _ => rfl
  | 3, _ => rfl
theorem rowsV_at (H M i j : Nat) (hj : j < 4) : (rowsV H M i)[j]? = some (if j < i then mkS M (H + 3 + j) else .slice none 0 0) := by
  simp [rowsV, hj]
/-- Split between two steps: the box of the bytes, the list of rows, its box, the rows F. -/
structure SpI (w w' : World) (v : Value) (M i : Nat) (F : Nat → List Nat) : Prop where
  below : Below w.heap.size w w'
  bb : Boxed w' w.heap.size 28 v
  rr : w'.heap[w.heap.size + 1]? = some (.cells (rowsV w.heap.size M i) 28 (0, 0))
  br : Boxed w' (w.heap.size + 1 + 1) 31 (.slice (some ⟨w.heap.size + 1, 0, none⟩) 4 4)
  row : ∀ j, j < i → w'.heap[w.heap.size + 3 + j]? = some (.cells (cellsOf (F j)).toArray 5 (0, 0))
theorem SpI.lt {w w' : World} {v : Value} {M i : Nat} {F : Nat → List Nat} (h : SpI w w' v M i F) : w.heap.size + 3 ≤ w'.heap.size := by
  have := h.br.lt
  omega
/-- Nothing of it lies in a block that is turned. -/
theorem SpI.kept {w w' w2 : World} {v : Value} {M i : Nat} {F : Nat → List Nat} (h : SpI w w' v M i F) {row : Option Nat} (hg : w'.grownBy w2 row) (hr : ∀ r, row = some r → w.heap.size + 3 + i ≤ r) : SpI w w2 v M i F := by
  have ne : ∀ k, k < w.heap.size + 3 + i → some k ≠ row := fun k hk e => by have := hr k e.symm; omega
  have k0 := h.lt
  exact ⟨h.below.grown hg h.below.size fun r e => by have := hr r e; omega, h.bb.kept hg (ne _ (by omega)), (hg.block _ (by omega) (ne _ (by omega))).trans h.rr, h.br.kept hg (ne _ (by omega)), fun j hj => (hg.block _ (lt_of_some (h.row j hj)) (ne _ (by omega))).trans (h.row j hj)⟩
/-- One of the rows is turned. -/
theorem SpI.turn {w w' w2 : World} {v : Value} {M sh : Nat} {F F2 : Nat → List Nat} (h : SpI w w' v M 4 F) (hg : w'.grownBy w2 (some (w.heap.size + 3 + sh))) (hrow : w2.heap[w.heap.size + 3 + sh]? = some (.cells (cellsOf (F2 sh)).toArray 5 (0, 0))) (hoth : ∀ s, s < 4 → s ≠ sh → F2 s = F s) : SpI w w2 v M 4 F2 := by
  have ne : ∀ k, k < w'.heap.size → k ≠ w.heap.size + 3 + sh → w2.heap[k]? = w'.heap[k]? := fun k hk e => hg.block k hk (by simpa using e)
  have k0 := h.lt
  refine ⟨h.below.grown hg h.below.size fun r e => by cases e; omega, (ne _ (by omega) (by omega)).trans h.bb, (ne _ (by omega) (by omega)).trans h.rr, (ne _ (by omega) (by omega)).trans h.br, fun j hj => ?_⟩
  by_cases e : j = sh
  · subst e
    exact hrow
  · rw [hoth j hj e]
    exact (ne _ (lt_of_some (h.row j hj)) (by omega)).trans (h.row j hj)
theorem rowL_lt {l : List Nat} (h : ∀ b ∈ l, b < 256) (M s : Nat) : ∀ b ∈ rowL l M s, b < 256 := fun b hb => by
  obtain ⟨a, -, rfl⟩ := List.mem_map.1 hb
  exact getD_lt h _
theorem SpI.sr {w w' : World} {v : Value} {l : List Nat} {M : Nat} {F : Nat → List Nat} (h : SpI w w' v M 4 F) (hl : ∀ b ∈ l, b < 256) (hM : M = szN l.length) (hm : M ≤ maxLen) (hF : ∀ s, s < 4 → F s = rowL l M s) : Sr w' (.slice (some ⟨w.heap.size + 1, 0, none⟩) 4 4) (splitL l) := by
  refine ⟨by rw [splitL_length]; unfold maxLen; omega, Or.inr ⟨w.heap.size + 1, 0, 4, by rw [splitL_length], by rw [splitL_length]; omega, by unfold maxLen; omega, fun k hk => ?_⟩⟩
  rw [splitL_length] at hk
  refine ⟨mkS M (w.heap.size + 3 + k), ?_, ?_⟩
  · rw [Nat.zero_add, cell_of_row w' (w.heap.size + 1) k _ _ _ h.rr, rowsV_at _ _ _ _ hk, if_pos hk]
  · rw [splitL_getD l hk, ← hM]
    have hr := h.row k hk
    rw [hF k hk] at hr
    exact sl_block (rowL_lt hl M k) (rowL_length _ _ _) hm rfl hr
set_option maxRecDepth 100000 in
set_option maxHeartbeats 6400000 in
theorem psplit_any (v : Value) (l : List Nat) (w : World) (s : Sl w v l) (hm : l.length ≤ 100000) : Calls Try.prog 17 #[v] w fun e w' => (∃ v, e = .returned v ∧ Sr w' v (splitL l)) ∧ Below w.heap.size w w' := by
  obtain ⟨a, c, hv, hnc, hcm⟩ := sl_form s
  obtain ⟨n, hn⟩ : ∃ n, n = l.length := ⟨_, rfl⟩
  rw [← hn] at hv hm hnc
  subst hv
  have RS := Lib.hid (fun W => psize_any (n : Int) W (by unfold I64b; omega))
  have hz := RS.out
  rw [szI_nat] at hz
  have RZ := Lib.hid hz
  have hM : szN n ≤ 100000 := by unfold szN; omega
  obtain ⟨M, hMM⟩ : ∃ M, M = szN n := ⟨_, rfl⟩
  rw [← hMM] at RZ hM
  have S := Lib.hid s
  have HN := Lib.hid hn
  have HMM := Lib.hid hMM
  clear hz s hn hMM
  refine (callsIn_wide (n := 5)).1 ?_
  refine callsIn_of_wp_marks Try.func17 rfl trivial ?_ rfl
  simp only [Try.ntmps17, List.size_toArray, List.length_cons, List.length_nil, Nat.reduceAdd, Nat.reduceSub, Array.replicate_succ, Array.replicate_zero, List.push_toArray, List.append_toArray, List.nil_append, List.cons_append]
  refine wpIn_wide.2 ?_
  go_wp2_with (with_reducible refine make_four ?_)
  have st : SpI w (((w.alloc (.cells #[.slice a n c] 28)).alloc (.cells (Array.replicate 4 (.slice none 0 0)) 28)).alloc (.cells #[.slice (some ⟨w.heap.size + 1, 0, none⟩) 4 4] 31)) (.slice a n c) M 0 (fun _ => List.replicate M 0) := by
    refine ⟨(((Below.refl _ w).alloc (Nat.le_refl _) _).alloc (by simp) _).alloc (by simp; omega) _, ((Boxed.new w _ _).alloc _).alloc _, ?_, ?_, fun j hj => by omega⟩
    · rw [rowsV_zero]
      have := World.alloc_heap_new (w.alloc (.cells #[.slice a n c] 28)) (.cells (Array.replicate 4 (.slice none 0 0)) 28)
      rw [World.size_alloc] at this
      exact (Below.heap_alloc _ _ _ (by simp)).trans this
    · have := Boxed.new ((w.alloc (.cells #[.slice a n c] 28)).alloc (.cells (Array.replicate 4 (.slice none 0 0)) 28)) 31 (.slice (some ⟨w.heap.size + 1, 0, none⟩) 4 4)
      simpa only [World.size_alloc] using this
  have hsz : (((w.alloc (.cells #[.slice a n c] 28)).alloc (.cells (Array.replicate 4 (.slice none 0 0)) 28)).alloc (.cells #[.slice (some ⟨w.heap.size + 1, 0, none⟩) 4 4] 31)).heap.size = w.heap.size + 3 + 0 := by simp
  generalize ((w.alloc (.cells #[.slice a n c] 28)).alloc (.cells (Array.replicate 4 (.slice none 0 0)) 28)).alloc (.cells #[.slice (some ⟨w.heap.size + 1, 0, none⟩) 4 4] 31) = W0 at *
  have ST := Lib.hid (And.intro hsz st)
  clear st hsz
  go_loopw [13] (fun t wr => ∃ i : Nat, i ≤ 4 ∧ t = .int .i64 (i : Int) ∧ wr.heap.size = w.heap.size + 3 + i ∧ SpI w wr (.slice a n c) M i (fun _ => List.replicate M 0)) (fun t _ => 4 - (intOf t).toNat)
  case atStart => exact ⟨0, by omega, rfl, ST.out.1, ST.out.2⟩
  case round =>
    obtain ⟨i, hi, rfl, hsz, hI⟩ := hrel
    by_cases hi4 : i < 4
    · have hl4 : decide ((i : Int) < 4) = true := decide_eq_true (by omega)
      have c1 := hI.br.cell
      have HSZ := Lib.hid hsz
      have HI := Lib.hid hI
      have hMd : M ≤ 100000000 := by omega
      have p0 : (0 : Int) ≤ (i : Int) := by omega
      have p1 : (i : Int) < 4 := by omega
      clear hsz hI
      go_wp2_with fail
      refine wp_onlyN ?_
      refine wp_region_headsS (fun w' => w'.cell? ⟨w.heap.size + 1 + 1, 0, none⟩ = some (.slice (some ⟨w.heap.size + 1, 0, none⟩) 4 4)) [0, 1, 2] 4 (by kernel_rfl) (fun _ _ _ _ _ h => h.elim) (by kernel_rfl) (by rfl) (by rfl) c1 ?_
      simp only [pickOps, List.filterMap_cons, List.filterMap_nil, List.getElem?_toArray, List.getElem?_cons_zero, List.getElem?_cons_succ]
      refine wpHeads_step (fun K hK => ?_)
      go_simp
      refine ⟨.slice (some ⟨w.heap.size + 1, 0, none⟩) 4 4, fun w' hw' => by rw [hw']; rfl, hK _ ?_⟩
      clear hK K
      refine wpHeads_step (fun K hK => ?_)
      go_simp
      refine ⟨_, fun _ _ => rfl, hK _ ?_⟩
      clear hK K
      refine wpHeads_step (fun K hK => ?_)
      go_simp
      refine ⟨_, fun _ _ => rfl, hK _ ?_⟩
      clear hK K
      refine wpHeads_nil ?_
      refine held_one 3 rfl rfl (by kernel_rfl) fun K hK => ?_
      go_simp
      go_at_call 12
      refine (RZ.out _).mono ?_
      rintro e w1 ⟨rfl, rfl⟩
      refine hK _ _ c1 ?_
      clear hK K
      refine held_one 4 rfl rfl (by kernel_rfl) fun K hK => ?_
      refine wp_make (n := M) rfl hMd ?_
      have HI2 := Lib.hid ((HI.out.kept (⟨rfl, rfl, rfl, Nat.le_refl _, fun _ _ _ => rfl⟩ : wr.grownBy wr.drew none) (fun r e => by cases e)).kept (World.grownBy_alloc wr.drew (.cells (cellsOf (List.replicate M 0)).toArray 5) none) (fun r e => by cases e))
      have hnew := World.alloc_heap_new wr.drew (.cells (cellsOf (List.replicate M 0)).toArray 5)
      have hsz2 : (wr.drew.alloc (.cells (cellsOf (List.replicate M 0)).toArray 5)).heap.size = w.heap.size + 3 + (i + 1) := by
        rw [World.size_alloc, show wr.drew.heap.size = wr.heap.size from rfl, HSZ.out]
        omega
      rw [show wr.drew.heap.size = w.heap.size + 3 + i from HSZ.out] at hnew ⊢
      refine hK _ _ HI2.out.br.cell ?_
      clear hK K
      generalize wr.drew.alloc (.cells (cellsOf (List.replicate M 0)).toArray 5) = W2 at *
      have HNEW := Lib.hid hnew
      have HSZ2 := Lib.hid hsz2
      clear hnew hsz2
      refine held_one 5 rfl rfl (by kernel_rfl) fun K hK => ?_
      go_simp
      refine hK _ _ HI2.out.br.cell ?_
      clear hK K
      have hr2 := HI2.out.rr
      have k1 := cell_of_row W2 (w.heap.size + 1) i _ _ _ hr2
      rw [rowsV_at _ _ _ _ hi4, if_neg (Nat.lt_irrefl i)] at k1
      have k2 := frozen_of_row W2 (w.heap.size + 1) i _ _ hr2
      have hset := heap_setCell_same W2 (w.heap.size + 1) i _ _ (mkS M (w.heap.size + 3 + i)) hr2
      rw [rowsV_step _ _ _ hi4] at hset
      have HSET := Lib.hid hset
      clear hset hr2
      refine held_one 6 rfl rfl (by kernel_rfl) fun K hK => ?_
      go_simp
      have hne : ∀ k, k ≠ w.heap.size + 1 → (W2.setCell ⟨w.heap.size + 1, i, none⟩ (mkS M (w.heap.size + 3 + i))).heap[k]? = W2.heap[k]? := fun k hk => heap_setCell_other _ _ _ _ hk
      have hI3 : SpI w (W2.setCell ⟨w.heap.size + 1, i, none⟩ (mkS M (w.heap.size + 3 + i))) (.slice a n c) M (i + 1) (fun _ => List.replicate M 0) := by
        refine ⟨HI2.out.below.setCell (p := ⟨w.heap.size + 1, i, none⟩) (by simp) _, (hne _ (by omega)).trans HI2.out.bb, HSET.out, (hne _ (by omega)).trans HI2.out.br, fun j hj => (hne _ (by omega)).trans ?_⟩
        by_cases e : j < i
        · exact HI2.out.row j e
        · obtain rfl : j = i := by omega
          exact HNEW.out
      have hsz3 : (W2.setCell ⟨w.heap.size + 1, i, none⟩ (mkS M (w.heap.size + 3 + i))).heap.size = w.heap.size + 3 + (i + 1) := by
        show (W2.heap.modify _ _).size = _
        rw [Array.size_modify]
        exact HSZ2.out
      unfold mkS at hI3 hsz3
      generalize W2.setCell ⟨w.heap.size + 1, i, none⟩ (.slice (some ⟨w.heap.size + 3 + i, 0, none⟩) M M) = W3 at hI3 hsz3 ⊢
      have HI3 := Lib.hid (And.intro hsz3 hI3)
      refine hK _ _ hI3.br.cell ?_
      clear hK K hne hI3 hsz3 k1 k2 HSET
      refine wpAnyH_done (by kernel_rfl) ?_ _
      unfold onlyN
      dsimp only
      go_wp2_with fail
      go_roundw
      case rel => exact ⟨i + 1, by omega, by go_num, HI3.out.1, HI3.out.2⟩
      case measure => simp [intOf]; omega
    · obtain rfl : i = 4 := by omega
      rw [show ((4 : Nat) : Int) = 4 from rfl]
      have hl4 : decide ((4 : Int) < 4) = false := by decide
      have HI := Lib.hid (And.intro hsz hI)
      clear hsz hI
      go_wp2_with (go_at_call 23; refine (blocks_any _ _ _).mono ?_; rintro e w' ⟨rfl, rfl⟩)
      have b1 := (Boxed.new wr 2 (.int .i64 0)).alloc (.cells #[.int .i64 (n : Int)] 2)
      have b2 := Boxed.new (wr.alloc (.cells #[.int .i64 0] 2)) 2 (.int .i64 (n : Int))
      rw [World.size_alloc] at b2
      have hI0 := (HI.out.2.kept (World.grownBy_alloc wr (.cells #[.int .i64 0] 2) none) (fun r e => by cases e)).kept (World.grownBy_alloc (wr.alloc (.cells #[.int .i64 0] 2)) (.cells #[.int .i64 (n : Int)] 2) none) (fun r e => by cases e)
      have hsz0 : ((wr.alloc (.cells #[.int .i64 0] 2)).alloc (.cells #[.int .i64 (n : Int)] 2)).heap.size = w.heap.size + 9 := by
        rw [World.size_alloc, World.size_alloc, HI.out.1]
      have HWR := Lib.hid HI.out.1
      generalize (wr.alloc (.cells #[.int .i64 0] 2)).alloc (.cells #[.int .i64 (n : Int)] 2) = W1 at *
      have HI0 := Lib.hid hI0
      clear hI0 HI
      refine (wpIn_wide (n := 5)).1 ?_
      refine wpIn_rangeFunc_ownH rfl (by omega) (gf := 24) (lb := #[.pointer (some ⟨wr.heap.size, 0, none⟩), .pointer (some ⟨wr.heap.size + 1, 0, none⟩)]) rfl trivial (enters_of Try.func24 (by kernel_rfl) rfl)
        (blocks_stops wr.heap.size (wr.heap.size + 1) 0 n (5 - 1) (by omega) (by omega) W1 (by have := HWR.out; omega) (by have := HWR.out; omega) b1.cell b2.cell) (fun _ _ => trivial) (fun _ _ _ _ _ _ _ _ => trivial) (Below.refl _ _) (fun _ => rfl)
        (fun (pre : List (Pz 0 n)) W => SpI w W (.slice a n c) M 4 (fun s => covR l M (valsP pre) s))
        (fun _ _ _ => False)
        (fun pre X Y row hs hg hr => hs.kept hg (fun r e => by have := (hr r e).1; omega))
        (fun _ _ _ _ _ hs _ _ => hs)
        (by
          have := HI0.out
          simpa only [covR_nil, valsP, List.map_nil] using this)
        (fun (x : Pz 0 n) a' W => ∃ Bx, w.heap.size + 7 ≤ Bx ∧ W.heap[Bx]? = some (.cells #[.int .i64 ((shOf x.1.1 : Nat) : Int), .int .i64 ((atOf x.1.1 : Nat) : Int), .int .i64 (x.1.2 : Int)] 47 (0, 0)) ∧ a' = { tmps := #[.slice a n c, .pointer (some ⟨w.heap.size, 0, none⟩), .slice none 0 0, .int .i64 (n : Int), .pointer (some ⟨w.heap.size + 1 + 1, 0, none⟩), u5, .int .i64 (x.1.1 : Int), .pointer (some ⟨Bx, 0, none⟩), .slice a n c, .int .i64 (n : Int), .slice (some ⟨w.heap.size + 1, 0, none⟩) 4 4, .slice (some ⟨w.heap.size + 1, 0, none⟩) 4 4, .int .i64 4, .int .i64 4, .bool false, u15, u16, u17, u18, u19, u20, u21, u22, .int .i64 (n : Int), .func (.func 24) #[] #[.pointer (some ⟨wr.heap.size, 0, none⟩), .pointer (some ⟨wr.heap.size + 1, 0, none⟩)], .int .i64 (x.1.1 : Int), .agg #[.int .i64 ((shOf x.1.1 : Nat) : Int), .int .i64 ((atOf x.1.1 : Nat) : Int), .int .i64 (x.1.2 : Int)], undef, undef, undef, undef, undef, undef, undef, undef, undef, undef, undef, undef, undef, undef, undef, undef, undef], defers := [] })
        (fun x a' _ X Y row hs hg hr => by
          obtain ⟨Bx, h1, h2, h3⟩ := hs
          refine ⟨Bx, h1, (hg.block Bx (Array.getElem?_eq_some_iff.1 h2).1 fun e => ?_).trans h2, h3⟩
          obtain ⟨_, ob, ho2, hc⟩ := hr Bx e.symm
          rw [h2] at ho2
          cases ho2
          cases hc)
        ?assign ?body ?done ?stop
      case assign =>
        rintro l' pre x W K hI hK
        unfold encP
        gi_wp2
        exact hK _ _ ((KeepsOthers.alloc _ _).from _) trivial (hI.kept (World.grownBy_alloc W _ none) (fun r e => by cases e)) ⟨W.heap.size, by have := lt_of_some (hI.row 3 (by omega)); omega, heap_alloc_new _ _, rfl⟩
      case body =>
        rintro l' pre x a' W _ _ hI ⟨Bx, hBx, hX, rfl⟩ hlt
        have x0 := cell_of_row W Bx 0 _ _ _ hX
        have x1 := cell_of_row W Bx 1 _ _ _ hX
        have x2 := cell_of_row W Bx 2 _ _ _ hX
        have hx := x.2
        have hsn : valsP (pre ++ [x]) = valsP pre ++ [x.1] := by simp [valsP]
        have hs4 := sh_lt x.1.1
        have hst := covR_step l (M := M) (valsP pre) (p := x.1) hx.2.1 (by rw [← HN.out]; have := hx.2.2.2; omega) (by rw [HMM.out]; have := hx.2.2.2; unfold atOf szN; omega)
        have hot := fun s (hs : s < 4) (h : s ≠ shOf x.1.1) => covR_other l M (valsP pre) (p := x.1) hs hx.2.1 h
        have hfit : atOf x.1.1 + x.1.2 ≤ M := by rw [HMM.out]; have := hx.2.2.2; unfold atOf szN; omega
        rw [← hsn] at hst hot
        obtain ⟨b, o, c', hv, -, -, hcs⟩ := sl_cells S.out (by rw [← HN.out]; have := hx.2.2; omega)
        obtain ⟨rfl, -, rfl⟩ : a = some ⟨b, o, none⟩ ∧ n = l.length ∧ c = c' := by simpa using hv
        have k1 := cell_of_row W (w.heap.size + 1) (shOf x.1.1) _ _ _ hI.rr
        rw [rowsV_at _ _ _ _ hs4, if_pos hs4] at k1
        unfold mkS at k1
        have k2 := hI.br.cell
        have k3 := hI.bb.cell
        have hcut := sl_cut (w := w) (p := x.1.1) (c := x.1.2) S.out.1 HN.out.symm hcm hnc (by rw [HN.out]; exact hcs) (by have := hx.2.2.2; omega)
        have HCUT := Lib.hid (sl_below hcut hI.below)
        have HROW := Lib.hid (hI.row (shOf x.1.1) hs4)
        have HLEN := Lib.hid (covR_length l M (valsP pre) (shOf x.1.1))
        have HSTEP := Lib.hid hst
        have HOT := Lib.hid hot
        have HI := Lib.hid hI
        have HX := Lib.hid hx
        have q0 : 1 ≤ x.1.2 ∧ x.1.1 + x.1.2 ≤ n ∧ x.1.2 ≤ 64 := by have := hx.2; omega
        have HR2 : Hid (((l.drop x.1.1).take x.1.2).length = x.1.2) := by show _ = _; rw [List.length_take, List.length_drop, ← HN.out]; omega
        clear hX hx hsn hst hot hv hcs hcut hI b1 b2 HI0
        generalize shOf x.1.1 = sh at *
        generalize atOf x.1.1 = at' at *
        generalize (l.drop x.1.1).take x.1.2 = R at *
        generalize x.1.1 = f at *
        generalize x.1.2 = k at *
        have p0 : (0 : Int) ≤ (sh : Int) := by omega
        have p1 : (sh : Int) < 4 := by omega
        have p2 : (at' : Int) ≤ (M : Int) := by omega
        obtain ⟨e, he⟩ : ∃ e, e = f + k := ⟨_, rfl⟩
        have p3 : (f : Int) ≤ (e : Int) ∧ (e : Int) ≤ (c : Int) := by omega
        have p4 : IntKind.i64.wrap ((f : Int) + (k : Int)) = (e : Int) := by
          rw [he, Int.natCast_add]
          exact IntWalk.i64_in _ (by omega)
        have p5 : ¬ M = at' := by omega
        have p6 : ¬ c = f := by omega
        have HE : Hid (e - f = k) := by show _ = _; omega
        clear he
        gi_wp2
        refine wpIn_still_tail 15 (by kernel_rfl) (by kernel_rfl) (by kernel_rfl) (fun ⟨_, _, h0⟩ => h0) ?_
        change wpStill _ _ W.drew (fun a' => wpList _ _ _ _ a' W.drew) _ _
        simp only [List.take_succ_cons, List.take_zero, List.drop_succ_cons, List.drop_zero]
        repeat still_step
        try refine wpStill_nil ?_
        refine copy_blk (dst := some 42) (k := e - f) (R := R) (A := covR l M (valsP pre) sh) (off := at') (g := w.heap.size + 3 + sh) rfl rfl HROW.out (by rw [HE.out]; exact sl_below HCUT.out (Below.refl W.heap.size W).drew) (by rw [HE.out]; exact HR2.out) (by rw [HE.out]; exact q0.1) (by have := HE.out; omega) (by rw [HE.out, HLEN.out]; omega) ?_
        intro z w3 hw3 hg3
        have hnew := ((HI.out.kept (⟨rfl, rfl, rfl, Nat.le_refl _, fun _ _ _ => rfl⟩ : W.grownBy W.drew none) (fun r e => by cases e)).turn (F2 := fun s => covR l M (valsP (pre ++ [x])) s) hg3 (by rw [HSTEP.out]; exact hw3) (fun s hs h => HOT.out s hs h))
        have hkeep : KeepsFrom W1.heap.size W w3 := ((KeepsOthers.drew W).trans (KeepsOthers.of_grownBy hg3 (fun j ob ej hj => by
          obtain rfl : w.heap.size + 3 + sh = j := by simpa using ej
          rw [show W.drew.heap[w.heap.size + 3 + sh]? = _ from HROW.out] at hj
          cases hj
          rfl))).from _
        have HNEW := Lib.hid (And.intro hkeep hnew)
        clear hnew hkeep hg3 hw3
        go_wp2
        exact ⟨HNEW.out.1, trivial, HNEW.out.2⟩
      case done =>
        rintro D ys W hD hys hI hK
        have k2 := hI.br.cell
        have HD : Hid (w.heap.size + 7 ≤ D) := by show w.heap.size + 7 ≤ D; omega
        have HII := Lib.hid hI
        have HKK := Lib.hid hK
        have HYS := Lib.hid hys
        clear hI hD hK hys b1 b2
        dsimp only
        go_wp2
        refine ⟨by simp, .inl ⟨_, _, rfl, run_takeDeferred HKK.out, ?_⟩⟩
        have hI2 := HII.out.kept (grownBy_putObj' W D (.deferred none)) (fun r e => by cases e; have := HD.out; omega)
        refine ⟨_, results_tmp rfl _ _ _, ⟨_, rfl, ?_⟩, hI2.below⟩
        refine hI2.sr S.out.1 (by rw [← HN.out]; exact HMM.out) (by unfold maxLen; omega) (fun s _ => ?_)
        rw [HYS.out, HN.out]
        exact covR_all l M s
      case stop =>
        rintro D c pre W _ _ h _
        exact h.elim
end Go.Proofs.Ytjpehjgcpnogiaa.Gf
