/- What is proved here: the contracts of the program's entry, firstKey and Encode of a journal (layer 14). Condition: the table nibbles holds its sixteen numbers. -/
import Derived.Test.YtbkhedfhnmkodaaDoorLP14a
namespace Go.Proofs.YtbkhedfhnmkodaaDoor.Gf
open Go Go.Joins Go.ChangeShapes Go.WideShapes Go.ChangeAt Go.RowKit Go.Deep Go.Proofs.YtbkhedfhnmkodaaDoor.By Go.Proofs.YtbkhedfhnmkodaaDoor.Crc Go.Proofs.YtbkhedfhnmkodaaDoor.Qt

theorem tab_below {w w' : World} (h : Tab w) (hb : Below w.heap.size w w') : Tab w' := fun i hi => (hb.cell (block_lt_of_cell (h i hi))).trans (h i hi)
theorem below_setRow {B : Nat} {a w : World} (h : Below B a w) {g : Nat} (hg : B ≤ g) (cs : Array Value) : Below B a (w.setRow g cs) :=
  h.trans ⟨rfl, rfl, rfl, by simp, fun k hk => setRow_other _ _ _ _ (by omega)⟩
/-- The array of an entry after i rounds of the first loop, and of the second. -/
def arA (k i : Nat) : List Nat := List.replicate (8 - i) 0 ++ ((beL 8 k).drop (8 - i) ++ [0, 0, 0, 0])
def arB (k s i : Nat) : List Nat := beL 8 k ++ ((leL s).take i ++ List.replicate (4 - i) 0)
theorem arA_length {k i : Nat} (h : i ≤ 8) : (arA k i).length = 12 := by simp [arA, beL_length]; omega
theorem arB_length {k s i : Nat} (h : i ≤ 4) : (arB k s i).length = 12 := by simp [arB, beL_length, leL_length]; omega
theorem arA_succ {k i p : Nat} (h : p + i = 7) : (arA k i).set p (k / 256 ^ i % 256) = arA k (i + 1) := by
  obtain rfl : p = 7 - i := by omega
  have hi : i < 8 := by omega
  match i, hi with
  | 0, _ | 1, _ | 2, _ | 3, _ | 4, _ | 5, _ | 6, _ | 7, _ => simp [arA, beL, List.range_succ, List.replicate]
theorem arB_succ {k s i : Nat} (h : i < 4) : (arB k s i).set (8 + i) (s / 256 ^ i % 256) = arB k s (i + 1) := by
  match i, h with
  | 0, _ | 1, _ | 2, _ | 3, _ => simp [arB, beL, leL, List.range_succ, List.replicate]
theorem arB_zero (k s : Nat) : arB k s 0 = arA k 8 := by simp [arA, arB, List.replicate]
theorem arB_full (k s : Nat) : arB k s 4 = beL 8 k ++ leL s := by simp [arB, leL]
theorem arA_full (k : Nat) : arA k 8 = beL 8 k ++ [0, 0, 0, 0] := by simp [arA]
theorem cellsOf_set (l : List Nat) (p v : Nat) : (cellsOf l).toArray.setIfInBounds p (.int .u8 (v : Int)) = (cellsOf (l.set p v)).toArray := by
  simp [cellsOf, List.map_set]
theorem arA_zero (k : Nat) : (cellsOf (arA k 0)).toArray = #[.int .u8 0, .int .u8 0, .int .u8 0, .int .u8 0, .int .u8 0, .int .u8 0, .int .u8 0, .int .u8 0, .int .u8 0, .int .u8 0, .int .u8 0, .int .u8 0] := by
  simp [arA, beL_length, cellsOf, List.replicate]
theorem info12 : (Tryd.prog.info? 39).map (·.size) = some 12 := by kernel_rfl
theorem load12 {ops : Array Oper} {rest : List Oper} {dst : Option Tmp} {x : Operand} {pos : String} {after : Array Edge} {ty : TypeId} {a : Act} {w : World} {Q : Exit → Act → World → Prop}
    (g : Nat) (cs : Array Value) (hx : a.eval x = .pointer (some ⟨g, 0, none⟩)) (hg : w.heap[g]? = some (.cells cs 39 (0, 0))) (hs : cs.size = 12)
    (h : wpList Tryd.prog ops Q rest (a.put dst (.agg cs)) w) : wpList Tryd.prog ops Q (⟨dst, .load 39 x, ty, pos, after, none⟩ :: rest) a w :=
  wpList_load_row rfl 39 x rfl g hx 39 cs (0, 0) _ hg Tryd.underlying39 rfl (by rw [info12, hs]) h
theorem store12 {ops : Array Oper} {rest : List Oper} {dst : Option Tmp} {x y : Operand} {pos : String} {after : Array Edge} {ty : TypeId} {a : Act} {w : World} {Q : Exit → Act → World → Prop}
    (g : Nat) (old cs : Array Value) (hx : a.eval x = .pointer (some ⟨g, 0, none⟩)) (hy : a.eval y = .agg cs) (hg : w.heap[g]? = some (.cells old 39 (0, 0))) (ho : old.size = 12) (hs : cs.size = 12) (h1 : cs.all (·.oneCell') = true)
    (h : wpList Tryd.prog ops Q rest (a.put dst undef) (w.setRow g cs)) : wpList Tryd.prog ops Q (⟨dst, .store 39 x y, ty, pos, after, none⟩ :: rest) a w :=
  wpList_store_row rfl 39 x y rfl g cs hx hy 39 old hg (by rw [info12, hs]) (by omega) h1 h
theorem cells_one (l : List Nat) : (cellsOf l).toArray.all (·.oneCell') = true := by
  rw [Array.all_eq_true_iff_forall_mem]
  intro v hv
  exact cellsOf_one l v (by simpa using hv)
theorem cells_size {l : List Nat} {n : Nat} (h : l.length = n) : (cellsOf l).toArray.size = n := by simp [cellsOf, h]
/-- A store of a byte into an array of the call's own. -/
theorem ar_set {W : World} {g p v : Nat} {l : List Nat} {T : TypeId} (hg : W.heap[g]? = some (.cells (cellsOf l).toArray T (0, 0))) : (W.setCell ⟨g, p, none⟩ (.int .u8 (v : Int))).heap[g]? = some (.cells (cellsOf (l.set p v)).toArray T (0, 0)) := by
  rw [heap_setCell_same W g p _ T _ hg, cellsOf_set]
theorem ar_cell {W : World} {g p : Nat} {l : List Nat} {T : TypeId} (hg : W.heap[g]? = some (.cells (cellsOf l).toArray T (0, 0))) (hp : p < l.length) : W.cell? ⟨g, p, none⟩ = some (.int .u8 ((l.getD p 0 : Nat) : Int)) := by
  rw [cell_of_row W g p _ T (0, 0) hg]
  simp [cellsOf, hp, List.getD]
/-- An array of bytes in a block of its own, as a slice. -/
theorem sl_array {w : World} {g n : Nat} {T : TypeId} {fr : Nat × Nat} {l : List Nat} {cs : Array Value} (hl : ∀ b ∈ l, b < 256) (hn : l.length = n) (hm : n ≤ maxLen) (hcs : cs = (cellsOf l).toArray) (hg : w.heap[g]? = some (.cells cs T fr)) :
    Sl w (.slice (some ⟨g, 0, none⟩) n n) l := by
  subst hn
  refine ⟨hl, hm, Or.inr ⟨g, 0, l.length, rfl, Nat.le_refl _, hm, fun k hk => ?_⟩⟩
  rw [Nat.zero_add, cell_of_row w g k cs T fr hg, hcs]
  simp [List.getD, hk, cellsOf]
theorem arA_lt (k : Nat) : ∀ b ∈ arA k 8, b < 256 := fun b hb => by
  rw [arA_full] at hb
  rcases List.mem_append.1 hb with h | h
  · exact beL_lt _ _ b h
  · simp only [List.mem_cons, List.not_mem_nil, or_false] at h
    omega
theorem sl_key {w : World} {g k : Nat} {T : TypeId} (hg : w.heap[g]? = some (.cells (cellsOf (arA k 8)).toArray T (0, 0))) : Sl w (.slice (some ⟨g, 0, none⟩) 8 12) (beL 8 k) := by
  have h := sl_array (arA_lt k) (arA_length (k := k) (Nat.le_refl 8)) (by unfold maxLen; decide) rfl hg
  have h2 := sl_take (l := arA k 8) (by rw [arA_length (Nat.le_refl 8)]; exact h) (n := 8) (by rw [arA_length (Nat.le_refl 8)]; decide)
  rw [arA_full, List.take_left' (beL_length 8 k)] at h2
  exact h2
set_option maxRecDepth 100000 in
set_option maxHeartbeats 3200000 in
theorem pentry_any (k : Nat) (w : World) (hk : k < 18446744073709551616) (ht : Tab w) : Calls Tryd.prog 16 #[.int .u64 (k : Int)] w fun e w' => e = .returned (.agg (cellsOf (entJ k)).toArray) ∧ Below w.heap.size w w' := by
  have HT := Lib.hid ht
  have HK := Lib.hid hk
  clear ht hk
  have HG0 := Lib.hid (show ((w.alloc (.cells (cellsOf (arA k 0)).toArray 39)).alloc (.cells (cellsOf (arA k 0)).toArray 39)).heap[w.heap.size]? = some (.cells (cellsOf (arA k 0)).toArray 39 (0, 0)) from (heap_alloc_old _ _ (by rw [World.size_alloc]; exact Nat.lt_succ_self _)).trans (heap_alloc_new _ _))
  have HG1 := Lib.hid (show ((w.alloc (.cells (cellsOf (arA k 0)).toArray 39)).alloc (.cells (cellsOf (arA k 0)).toArray 39)).heap[w.heap.size + 1]? = some (.cells (cellsOf (arA k 0)).toArray 39 (0, 0)) by have := heap_alloc_new (w.alloc (.cells (cellsOf (arA k 0)).toArray 39)) (.cells (cellsOf (arA k 0)).toArray 39); simpa using this)
  have HB := Lib.hid (bt (bel_al14 w (.cells (cellsOf (arA k 0)).toArray 39)) (bel_al14 (w.alloc (.cells (cellsOf (arA k 0)).toArray 39)) (.cells (cellsOf (arA k 0)).toArray 39)))
  go_enter Tryd.func16, Tryd.ntmps16
  go_wp2_with fail
  rw [← arA_zero k]
  generalize (w.alloc (.cells (cellsOf (arA k 0)).toArray 39)).alloc (.cells (cellsOf (arA k 0)).toArray 39) = W at *
  go_loopw [4, 7] (fun _ t wr => ∃ i : Nat, i ≤ 8 ∧ t = .int .i64 (i : Int) ∧ wr.heap[w.heap.size + 1]? = some (.cells (cellsOf (arA k i)).toArray 39 (0, 0)) ∧ wr.heap[w.heap.size]? = some (.cells (cellsOf (arA k 0)).toArray 39 (0, 0)) ∧ Below w.heap.size w wr) (fun _ t _ => 8 - (intOf t).toNat)
  case atStart => exact ⟨0, by omega, rfl, HG1.out, HG0.out, HB.out⟩
  case round =>
    obtain ⟨i, hi, rfl, h1, h0, hB⟩ := hrel
    clear HG0 HG1 HB
    rename World => wl
    by_cases hi8 : i < 8
    · obtain ⟨z, hz⟩ : ∃ z, z = k / 256 ^ i % 256 := ⟨_, rfl⟩
      have hz2 : (k : Int) / 2 ^ (8 * i) % 256 = (z : Int) := by
        rw [hz, show (256 : Nat) ^ i = 2 ^ (8 * i) by rw [Nat.pow_mul]]
        simp
      have hl := arA_length (k := k) hi
      have hc := ar_cell h1 (p := 7 - i) (by omega)
      have hf := frozen_of_row _ _ (7 - i) _ _ h1
      have HS := Lib.hid (arA_succ (k := k) (i := i) (p := 7 - i) (by omega))
      rw [← hz] at HS
      have H1 := Lib.hid h1
      have H0 := Lib.hid h0
      have HB := Lib.hid hB
      have HI := Lib.hid hi8
      generalize (arA k i).getD (7 - i) 0 = y at *
      have hg : decide ((i : Int) < 8) = true := decide_eq_true (by omega)
      clear h1 h0 hB hz hl hi
      go_wp2_with fail
      go_roundw
      case rel => exact ⟨i + 1, HI.out, by go_num, by rw [← HS.out]; exact ar_set H1.out, (heap_setCell_other _ _ _ _ (by show w.heap.size ≠ w.heap.size + 1; omega)).trans H0.out, HB.out.setCell (by show w.heap.size ≤ w.heap.size + 1; omega) _⟩
      case measure => simp [intOf]; omega
    · obtain rfl : i = 8 := by omega
      have hg : decide (((8 : Nat) : Int) < 8) = false := by decide
      rw [show ((8 : Nat) : Int) = 8 from rfl] at hg ⊢
      have H1 := Lib.hid h1
      have H0 := Lib.hid h0
      have HB := Lib.hid hB
      clear h1 h0 hB
      have SE := Lib.hid (sl_key H1.out)
      go_wp2_with (go_at_call 20; refine (sum_any _ _ _ SE.out (tab_below HT.out HB.out)).mono ?_; rintro e w2 ⟨rfl, rfl⟩)
      have HS32 := Lib.hid (ext_lt (c := 0) (by decide) (beL_lt 8 k))
      have HE := Lib.hid (show entJ k = beL 8 k ++ leL (ext 0 (beL 8 k)) from rfl)
      generalize ext 0 (beL 8 k) = S at *
      clear SE hi hi8 hg
      go_loopw [6, 21] (fun _ t wr => ∃ i : Nat, i ≤ 4 ∧ t = .int .i64 (i : Int) ∧ wr.heap[w.heap.size + 1]? = some (.cells (cellsOf (arB k S i)).toArray 39 (0, 0)) ∧ wr.heap[w.heap.size]? = some (.cells (cellsOf (arA k 0)).toArray 39 (0, 0)) ∧ Below w.heap.size w wr) (fun _ t _ => 4 - (intOf t).toNat)
      case atStart => exact ⟨0, by omega, rfl, by rw [arB_zero]; exact H1.out, H0.out, HB.out⟩
      case round =>
        obtain ⟨i, hi, rfl, h1, h0, hB⟩ := hrel
        clear H0 H1 HB
        rename World => wm
        by_cases hi4 : i < 4
        · obtain ⟨z, hz⟩ : ∃ z, z = S / 256 ^ i % 256 := ⟨_, rfl⟩
          have hz2 : (S : Int) / 2 ^ (8 * i) % 256 = (z : Int) := by
            rw [hz, show (256 : Nat) ^ i = 2 ^ (8 * i) by rw [Nat.pow_mul]]
            simp
          have hl := arB_length (k := k) (s := S) hi
          have hc := ar_cell h1 (p := 8 + i) (by omega)
          have hf := frozen_of_row _ _ (8 + i) _ _ h1
          have HS := Lib.hid (arB_succ (k := k) (s := S) (i := i) hi4)
          rw [← hz] at HS
          have H1 := Lib.hid h1
          have H0 := Lib.hid h0
          have HB := Lib.hid hB
          have HI := Lib.hid hi4
          generalize (arB k S i).getD (8 + i) 0 = y at *
          have hg : decide ((i : Int) < 4) = true := decide_eq_true (by omega)
          clear h1 h0 hB hz hl hi
          go_wp2_with fail
          go_roundw
          case rel => exact ⟨i + 1, HI.out, by go_num, by rw [← HS.out]; exact ar_set H1.out, (heap_setCell_other _ _ _ _ (by show w.heap.size ≠ w.heap.size + 1; omega)).trans H0.out, HB.out.setCell (by show w.heap.size ≤ w.heap.size + 1; omega) _⟩
          case measure => simp [intOf]; omega
        · obtain rfl : i = 4 := by omega
          have hg : decide (((4 : Nat) : Int) < 4) = false := by decide
          rw [show ((4 : Nat) : Int) = 4 from rfl] at hg ⊢
          rw [arB_full, ← HE.out] at h1
          have HSE := Lib.hid (cells_size (entJ_length k))
          have HS0 := Lib.hid (cells_size (arA_length (k := k) (i := 0) (by decide)))
          have HON := Lib.hid (cells_one (entJ k))
          obtain ⟨CS, hCS⟩ : ∃ c, c = (cellsOf (entJ k)).toArray := ⟨_, rfl⟩
          rw [← hCS] at h1 HSE HON
          have HCS := Lib.hid hCS
          clear hCS
          generalize (cellsOf (arA k 0)).toArray = C0 at *
          have H1 := Lib.hid h1
          have H0 := Lib.hid h0
          have HB := Lib.hid hB
          clear h1 h0 hB hi hi4
          go_wp2_with (first | ((with_reducible refine load12 (w.heap.size + 1) CS ?_ H1.out HSE.out ?_); exact rfl) | ((with_reducible refine store12 w.heap.size C0 CS ?_ ?_ H0.out HS0.out HSE.out HON.out ?_); exact rfl; exact rfl))
          exact bodyPost_ret (results_cell_row Tryd.results16 _ _ w.heap.size 39 _ (0, 0) _ rfl (setRow_heap _ _ _ _ _ _ H0.out) Tryd.underlying39 rfl (by rw [info12, HSE.out])) rfl ⟨by rw [HCS.out], below_setRow HB.out (Nat.le_refl _) _⟩
end Go.Proofs.YtbkhedfhnmkodaaDoor.Gf
