/- What is proved here: the contract of the reference's Find (layer 8). No condition. -/
import Derived.Test.YtihjfnlimdcmkaaDoorR8a
namespace Go.Proofs.YtihjfnlimdcmkaaDoor.Gf
open Go Go.Joins Go.ChangeShapes Go.WideShapes Go.ChangeAt Go.RowKit Go.Deep Go.Proofs.YtihjfnlimdcmkaaDoor.By

theorem lk_append (A B : List Itm) (k : Nat) : lk (A ++ B) k = (lk B k).or (lk A k) := by
  unfold lk
  rw [List.reverse_append, List.find?_append]
theorem lk_at {L : List Itm} {i k : Nat} (hi : i < L.length) (hk : (L.getD i z0).key = k) (h : ∀ m, i < m → m < L.length → (L.getD m z0).key ≠ k) : lk L k = some (L.getD i z0) := by
  have e : L = L.take (i + 1) ++ L.drop (i + 1) := (List.take_append_drop _ _).symm
  have hx : L[i] = L.getD i z0 := by simp [List.getD, hi]
  have h2 : lk (L.drop (i + 1)) k = none := lk_none.2 fun x hx => by
    obtain ⟨m, hm, rfl⟩ := List.getElem_of_mem hx
    rw [List.length_drop] at hm
    have h3 := h (i + 1 + m) (by omega) (by omega)
    rw [List.getElem_drop]
    simpa [List.getD, show i + 1 + m < L.length by omega] using h3
  have h1 : lk (L.take (i + 1)) k = some (L.getD i z0) := by
    rw [List.take_succ_eq_append_getElem hi, lk_snoc, hx, if_pos hk]
  rw [e, lk_append, h2, h1]
  simp [← e]
theorem lk_miss {L : List Itm} {k : Nat} (h : ∀ m, m < L.length → (L.getD m z0).key ≠ k) : lk L k = none := lk_none.2 fun x hx => by
  obtain ⟨m, hm, rfl⟩ := List.getElem_of_mem hx
  simpa [List.getD, hm] using h m hm
theorem set4 {W : World} {g : Nat} {a b c d k l m n : Value} {T : TypeId} (h : W.heap[g]? = some (.cells #[a, b, c, d] T (0, 0))) : ((((W.setCell ⟨g, 0, none⟩ k).setCell ⟨g, 1, none⟩ l).setCell ⟨g, 2, none⟩ m).setCell ⟨g, 3, none⟩ n).heap[g]? = some (.cells #[k, l, m, n] T (0, 0)) := by
  have h1 := heap_setCell_same W g 0 _ _ k h
  have h2 := heap_setCell_same _ g 1 _ _ l h1
  have h3 := heap_setCell_same _ g 2 _ _ m h2
  exact heap_setCell_same _ g 3 _ _ n h3
theorem below4 {B : Nat} {w W : World} {g : Nat} {k l m n : Value} (h : Below B w W) (hg : B ≤ g) : Below B w ((((W.setCell ⟨g, 0, none⟩ k).setCell ⟨g, 1, none⟩ l).setCell ⟨g, 2, none⟩ m).setCell ⟨g, 3, none⟩ n) :=
  (((h.setCell (p := ⟨g, 0, none⟩) hg _).setCell (p := ⟨g, 1, none⟩) hg _).setCell (p := ⟨g, 2, none⟩) hg _).setCell (p := ⟨g, 3, none⟩) hg _
theorem results_rt {P : Program} {fn : Func} {p q : Tmp} {S : TypeId} (h : fn.results = #[.cell p S, .tmp q]) (tmps : Array Value) (w : World) (g : Nat) (cs : Array Value) {d : TypeDesc}
    (hp : tmps.getD p undef = .pointer (some ⟨g, 0, none⟩)) (hg : w.heap[g]? = some (.cells cs S (0, 0)))
    (hu : P.underlying S = some d) (hd : (match d with | .struct _ | .array _ _ => true | _ => false) = true) (hi : (P.info? S).map (·.size) = some cs.size) :
    (results fn tmps).run P w = .ok (.tuple #[.agg cs, tmps.getD q undef]) w := by
  have hp' : tmps[p]?.getD undef = .pointer (some ⟨g, 0, none⟩) := by simpa using hp
  simp [results, h, hp', asAddr, run_loadVar_row w g S S cs (0, 0) d hg hu hd hi]
theorem bx4 {W : World} {g : Nat} {k c d e : Value} {T : TypeId} (h : W.heap[g]? = some (.cells #[k, c, d, e] T (0, 0))) : (W.cell? ⟨g, 0, none⟩ = some k ∧ W.cell? ⟨g, 1, none⟩ = some c ∧ W.cell? ⟨g, 2, none⟩ = some d ∧ W.cell? ⟨g, 3, none⟩ = some e) ∧ W.frozen? ⟨g, 0, none⟩ = false ∧ W.frozen? ⟨g, 1, none⟩ = false ∧ W.frozen? ⟨g, 2, none⟩ = false ∧ W.frozen? ⟨g, 3, none⟩ = false :=
  ⟨⟨cell_of_row W g 0 _ _ _ h, cell_of_row W g 1 _ _ _ h, cell_of_row W g 2 _ _ _ h, cell_of_row W g 3 _ _ _ h⟩, frozen_of_row W g 0 _ _ h, frozen_of_row W g 1 _ _ h, frozen_of_row W g 2 _ _ h, frozen_of_row W g 3 _ _ h⟩
def fnL (L : List Itm) (k : Nat) : Itm := (lk L k).getD z0
def hasL (L : List Itm) (k : Nat) : Bool := (lk L k).isSome
/-- What Find answers. -/
def FD (w : World) (L : List Itm) (k : Nat) (e : Ending) (w' : World) : Prop := e = .returned (.tuple #[TV (fnL L k), .bool (hasL L k)]) ∧ Below w.heap.size w w'
theorem rfind_end {R : Ending → World → Prop} {W : World} {g : Nat} {tmps : Array Value} {k c d s : Value} (hp : tmps.getD 4 undef = .pointer (some ⟨g, 0, none⟩)) (hg : W.heap[g]? = some (.cells #[k, c, d, s] 41 (0, 0)))
    (hR : R (.returned (.tuple #[.agg #[k, c, d, s], tmps.getD 5 undef])) W) : bodyPost Tryd.prog Tryd.f23 R .ret { tmps := tmps, defers := [] } W :=
  bodyPost_ret (results_rt rfl _ _ g #[k, c, d, s] hp hg Tryd.underlying41 rfl infoT4) rfl hR
set_option maxRecDepth 100000 in
set_option maxHeartbeats 6400000 in
theorem rfind8_any (v : Value) (L : List Itm) (k : Nat) (w : World) (s : It w v L) : Calls Tryd.prog 23 #[v, .int .u64 (k : Int)] w (FD w L k) := by
  have HB := Lib.hid ((Below.refl w.heap.size w).alloc (Nat.le_refl _) (.cells #[.int .u64 0, .int .u32 0, .int .i64 0, .int .i64 0] 41))
  have X0 := Lib.hid (heap_alloc_new w (.cells #[.int .u64 0, .int .u32 0, .int .i64 0, .int .i64 0] 41))
  obtain ⟨a, c, rfl, hlc, hm⟩ := it_form s
  obtain ⟨n, hn⟩ : ∃ n, n = L.length := ⟨_, rfl⟩
  have hml : n ≤ maxLen := by omega
  unfold maxLen at hml
  unfold FD
  rw [← hn]
  have N := Lib.hid hn
  have S := Lib.hid s
  rw [← hn] at S
  clear hn s hm hlc
  go_enter Tryd.func23, Tryd.ntmps23
  go_wp2_with fail
  go_loopw [6] (fun t wr => ∃ j : Nat, j ≤ n ∧ t = .int .i64 ((j : Int) - 1) ∧ (∀ m, j ≤ m → m < L.length → (L.getD m z0).key ≠ k) ∧ wr = w.alloc (.cells #[.int .u64 0, .int .u32 0, .int .i64 0, .int .i64 0] 41)) (fun t _ => (intOf t + 1).toNat)
  case atStart => exact ⟨n, by omega, by go_num, (fun m h1 h2 => by have := N.out; omega), rfl⟩
  case round =>
    obtain ⟨j, hj, rfl, hne, rfl⟩ := hrel
    by_cases h0 : 0 < j
    · obtain ⟨i, rfl⟩ : ∃ i, j = i + 1 := ⟨j - 1, by omega⟩
      rw [show ((i + 1 : Nat) : Int) - 1 = (i : Int) by omega]
      have hl4 : decide ((0 : Int) ≤ (i : Int)) = true := decide_eq_true (by omega)
      have p0 : (0 : Int) ≤ (i : Int) := by omega
      have p1 : (i : Int) < (n : Int) := by omega
      have N' := N.out
      obtain ⟨b1, o1, c1', hv1, -, -, hk1⟩ := it_cells S.out (by omega)
      obtain ⟨rfl, -, -⟩ : a = some ⟨b1, o1, none⟩ ∧ n = L.length ∧ c = c1' := by simpa using hv1
      have k1 := (hk1 i (by omega)).below HB.out
      obtain ⟨f0, f1, f2, f3⟩ := k1
      obtain ⟨-, z0', z1, z2, z3⟩ := bx4 X0.out
      by_cases hk : (L.getD i z0).key = k
      · have hl := lk_at (by omega) hk fun m h1 h2 => hne m (by omega) h2
        have HF : Hid (fnL L k = L.getD i z0) := by show _ = _; unfold fnL; rw [hl]; rfl
        have HH : Hid (hasL L k = true) := by show _ = _; unfold hasL; rw [hl]; rfl
        have hd : (((L.getD i z0).key : Int) == (k : Int)) = true := by rw [beq_iff_eq]; omega
        clear hk1 hv1 N' hne hl hk
        generalize L.getD i z0 = x at *
        go_wp2
        refine rfind_end (g := w.heap.size) rfl (heap_alloc_new w _) ⟨?_, (Below.refl _ _).alloc (Nat.le_refl _) _⟩
        rw [HF.out, HH.out]
        rfl
      · have hd : (((L.getD i z0).key : Int) == (k : Int)) = false := beq_false_of_ne (by omega)
        have hd2 : ¬ (L.getD i z0).key = k := hk
        have HN : Hid (∀ m, i ≤ m → m < L.length → (L.getD m z0).key ≠ k) := fun m h1 h2 => by
          by_cases e : m = i
          · subst e; exact hk
          · exact hne m (by omega) h2
        clear hk1 hv1 N' hne hk
        generalize L.getD i z0 = x at *
        go_wp2
        go_roundw
        case rel => exact ⟨i, by omega, by first | rfl | go_num, HN.out, by first | rfl | trivial⟩
        case measure => simp [intOf]
    · obtain rfl : j = 0 := by omega
      have HF : Hid (lk L k = none) := lk_miss fun m h => hne m (Nat.zero_le _) h
      rw [show ((0 : Nat) : Int) - 1 = -1 from rfl]
      clear hne
      obtain ⟨-, z0', z1, z2, z3⟩ := bx4 X0.out
      go_wp2
      refine rfind_end (g := w.heap.size) rfl (heap_alloc_new w _) ⟨?_, (Below.refl _ _).alloc (Nat.le_refl _) _⟩
      unfold fnL hasL
      rw [HF.out]
      rfl
end Go.Proofs.YtihjfnlimdcmkaaDoor.Gf
