/- What is proved here: the contracts of the program's Identity and Vandermonde. No condition. -/
import Derived.Test.YtcckhgadgiaofaaG3
import Derived.Test.YtcckhgadgiaofaaTc
namespace Go.Proofs.Ytcckhgadgiaofaa.Gf
open Go Go.ChangeShapes Go.WideShapes Go.ChangeAt Go.RowKit Go.Proofs.Ytcckhgadgiaofaa.By Go.Proofs.Ytcckhgadgiaofaa.Qt

/-- A matrix that is filled in place: the result's block gr, the variable's block gv, its elements' block g. -/
structure PF (w wr : World) (gr gv g : Nat) (r c : Int) (q : Nat) (l : List Nat) : Prop where
  zero : wr.heap[gr]? = some (.cells #[.int .i64 0, .int .i64 0, .slice none 0 0] 27 (0, 0))
  row : wr.heap[gv]? = some (.cells #[.int .i64 r, .int .i64 c, .slice (some ⟨g, 0, none⟩) q q] 27 (0, 0))
  own : Own wr w.heap.size (.slice (some ⟨g, 0, none⟩) q q) l
  lo : w.heap.size ≤ gr ∧ w.heap.size ≤ g ∧ w.heap.size ≤ gv ∧ gr ≠ g ∧ gv ≠ g ∧ gr ≠ gv
  bel : Below w.heap.size w wr
section
variable {w wr w' : World} {gr gv g q k x : Nat} {r c : Int} {l : List Nat}
theorem PF.cells (h : PF w wr gr gv g r c q l) : wr.cell? ⟨gv, 0, none⟩ = some (.int .i64 r) ∧ wr.cell? ⟨gv, 1, none⟩ = some (.int .i64 c) ∧ wr.cell? ⟨gv, 2, none⟩ = some (.slice (some ⟨g, 0, none⟩) q q) := row_cells h.row
theorem PF.set (h : PF w wr gr gv g r c q l) (hl : l.length = q) (hk : k < q) (hx : x < 256) : PF w (wr.setCell ⟨g, k, none⟩ (.int .u8 (x : Int))) gr gv g r c q (l.set k x) := by
  obtain ⟨h1, h2, h3, h4, h5, h6⟩ := h.lo
  exact ⟨(heap_setCell_other _ _ _ _ h4).trans h.zero, (heap_setCell_other _ _ _ _ h5).trans h.row, own_set h.own hl hk hx, h.lo, h.bel.setCell h2 _⟩
theorem lt_of_some {w : World} {k : Nat} {o : Obj} (h : w.heap[k]? = some o) : k < w.heap.size := (Array.getElem?_eq_some_iff.1 h).1
theorem PF.later (h : PF w wr gr gv g r c q l) (hb : Below wr.heap.size wr w') : PF w w' gr gv g r c q l :=
  ⟨(hb.block _ (lt_of_some h.zero)).trans h.zero, (hb.block _ (lt_of_some h.row)).trans h.row, own_below' h.own hb, h.lo, bt h.bel hb⟩
theorem PF.done (h : PF w wr gr gv g r c q l) (a b : Value) : Own (wr.setRow gr #[a, b, .slice (some ⟨g, 0, none⟩) q q]) w.heap.size (.slice (some ⟨g, 0, none⟩) q q) l ∧ Below w.heap.size w (wr.setRow gr #[a, b, .slice (some ⟨g, 0, none⟩) q q]) := by
  obtain ⟨h1, h2, h3, h4, h5, h6⟩ := h.lo
  exact ⟨own_keep h.own fun k hk => setRow_other _ _ _ _ (by
    obtain rfl : g = k := Option.some.inj hk
    omega), below_setRow h.bel h1 _⟩
theorem PF.start {w0 w1 : World} {r c : Nat} {l : List Nat} (h0 : w0 = w.alloc (.cells #[.int .i64 0, .int .i64 0, .slice none 0 0] 27)) (hb : Below w0.heap.size w0 w1) (ho : Own w1 w0.heap.size (.slice (some ⟨g, 0, none⟩) q q) l) :
    PF w (w1.alloc (.cells #[.int .i64 r, .int .i64 c, .slice (some ⟨g, 0, none⟩) q q] 27)) w.heap.size w1.heap.size g r c q l := by
  have hz : w0.heap.size = w.heap.size + 1 := by rw [h0]; simp
  have hg := ho.2.lt g rfl
  have hs := hb.size
  have hb0 : Below w.heap.size w w0 := by rw [h0]; exact (Below.refl _ _).alloc (Nat.le_refl _) _
  refine ⟨?_, heap_alloc_new _ _, own_base (by omega) (ho.alloc _), by omega, (bt hb0 hb).alloc (by omega) _⟩
  rw [heap_alloc_old _ _ (by omega), hb.block _ (by omega), h0, heap_alloc_new]
end
set_option maxRecDepth 100000 in
theorem ident_bad (n : Int) (w : World) (h : ¬ In16 n) : Calls Try.prog 14 #[.int .i64 n] w (MO w 0 0 [] 1) := by
  have hs := fun w => vsize_any n w
  rw [decide_eq_false h] at hs
  have HS := Lib.hid hs
  clear hs h
  unfold MO mv
  go_enter Try.func14, Try.ntmps14
  go_wp2_with (go_at_call 34; refine (HS.out _).mono ?_; rintro e w' ⟨rfl, rfl⟩)
  exact bodyPost_ret (results_px rfl _ _ w.heap.size _ _ _ (0, 0) rfl (heap_alloc_new _ _)) rfl ⟨⟨_, rfl, own_nil _ _⟩, (Below.refl _ _).alloc (Nat.le_refl _) _⟩
set_option maxRecDepth 100000 in
set_option maxHeartbeats 1600000 in
theorem ident_good (n : Nat) (w : World) (h : In16 n) : Calls Try.prog 14 #[.int .i64 (n : Int)] w (MO w n n (flat n n idm) 0) := by
  have hs := fun w => vsize_any n w
  rw [decide_eq_true h] at hs
  have hz := fun w => zeros_any n n w ((sized_iff _ _).2 ⟨h, h⟩)
  have HS := Lib.hid hs
  have hn : 1 ≤ n ∧ n ≤ 16 := by unfold In16 at h; omega
  obtain ⟨q, hq⟩ : ∃ q : Nat, q = n * n := ⟨n * n, rfl⟩
  have hq1 : q ≤ 256 := by rw [hq]; exact Nat.mul_le_mul hn.2 hn.2
  rw [← hq] at hz
  have HZ := Lib.hid hz
  have HQ := Lib.hid hq
  clear hs h hz hq
  unfold MO mv at *
  go_enter Try.func14, Try.ntmps14
  go_wp2_with (go_at_call 34; refine (HS.out _).mono ?_; rintro e w' ⟨rfl, rfl⟩)
  generalize hw0 : w.alloc (.cells #[.int .i64 0, .int .i64 0, .slice none 0 0] 27) = w0
  refine (HZ.out _).mono ?_
  rintro e w1 ⟨⟨g, rfl, ho⟩, hb1⟩
  have hp := PF.start (r := n) (c := n) hw0.symm hb1 ho
  have HP := Lib.hid hp
  have HW0 := Lib.hid hw0
  clear hp ho hb1 hw0
  go_wp2_with fail
  go_loopw [14] (fun i wr => ∃ k : Nat, k ≤ n ∧ i = .int .i64 (k : Int) ∧ PF w wr w.heap.size w1.heap.size g n n q (flat n n fun a b => if a < k then idm a b else 0)) (fun i _ => n - (intOf i).toNat)
  case atStart =>
    refine ⟨0, by omega, rfl, ?_⟩
    have h2 : List.replicate q 0 = flat n n fun a b => if a < 0 then idm a b else 0 := by rw [HQ.out, flat_zero]; rfl
    rw [← h2]
    exact HP.out
  case round =>
    obtain ⟨k, hk, rfl, hp⟩ := hrel
    clear HP
    have HP := Lib.hid hp
    clear hp
    by_cases hlt : k < n
    · obtain ⟨p, hp⟩ : ∃ p : Nat, p = k * n := ⟨_, rfl⟩
      have hpk : p + k < q := by rw [hp, HQ.out]; exact at_lt hlt hlt
      have hw2 : Hid (wrap64 ((k : Int) * (n : Int)) = (p : Int)) := by
        have e : (k : Int) * (n : Int) = (p : Int) := by rw [hp]; simp
        rw [Hid, e]
        exact wrap_nat (by omega)
      have HPP := Lib.hid hp
      clear hp
      have hl : (flat n n fun a b => if a < k then idm a b else 0).length = q := by rw [flat_length, HQ.out]
      have HL := Lib.hid hl
      clear hl
      obtain ⟨c0, c1, c2⟩ := HP.out.cells
      obtain ⟨q1, q2, _⟩ := own_cell HP.out.own HL.out hpk
      have hw2 := hw2.out
      go_wp2
      go_roundw
      case rel =>
        refine ⟨k + 1, by omega, by go_num, ?_⟩
        have h3 : (flat n n fun a b => if a < k then idm a b else 0).set (p + k) 1 = flat n n fun a b => if a < k + 1 then idm a b else 0 := by
          rw [HPP.out, flat_set _ hlt]
          refine flat_ext fun a _ b _ => ?_
          simp only [idm]
          by_cases e : a = k
          · subst e
            by_cases e2 : b = a
            · rw [if_pos ⟨rfl, e2⟩, if_pos (by omega), if_pos e2.symm]
            · rw [if_neg (fun x => e2 x.2), if_neg (by omega), if_pos (by omega), if_neg (fun x => e2 x.symm)]
          · rw [if_neg (fun x => e x.1)]
            by_cases e3 : a < k
            · rw [if_pos e3, if_pos (show a < k + 1 by omega)]
            · rw [if_neg e3, if_neg (show ¬ a < k + 1 by omega)]
        rw [← h3]
        exact HP.out.set HL.out hpk (x := 1) (by decide)
      case measure => simp [intOf]; omega
    · obtain rfl : k = n := by omega
      have h3 : (flat k k fun a b => if a < k then idm a b else 0) = flat k k idm := flat_ext fun a ha b _ => if_pos ha
      rw [h3] at HP
      go_wp2_with (first | ((with_reducible refine loadP w1.heap.size ?_ HP.out.row ?_); exact rfl) | ((with_reducible refine storeP w.heap.size (.int .i64 k) (.int .i64 k) (.slice (some ⟨g, 0, none⟩) q q) ?_ ?_ HP.out.zero ?_ ?_ ?_ ?_); exact rfl; exact rfl; exact rfl; exact rfl; exact rfl))
      obtain ⟨d1, d2⟩ := HP.out.done (.int .i64 k) (.int .i64 k)
      exact bodyPost_ret (results_px rfl _ _ w.heap.size _ _ _ (0, 0) rfl (setRow_heap _ _ _ _ _ _ HP.out.zero)) rfl ⟨⟨_, rfl, d1⟩, d2⟩
theorem ident_any (n : Int) (w : World) : Calls Try.prog 14 #[.int .i64 n] w (identPostS n w) := by
  unfold identPostS
  by_cases h : In16 n
  · obtain ⟨m, rfl⟩ := Int.eq_ofNat_of_zero_le (show 0 ≤ n by unfold In16 at h; omega)
    rw [if_pos ((sized_iff _ _).2 ⟨h, h⟩)]
    exact (ident_good m w h).mono fun _ _ h => h.ms
  · rw [if_neg fun x => h ((sized_iff _ _).1 x).1]
    exact (ident_bad n w h).mono fun _ _ h => h.ms
end Go.Proofs.Ytcckhgadgiaofaa.Gf
