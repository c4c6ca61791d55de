/- What is proved here: the contract of the program's rightHalf. No condition. -/
import Derived.Test.YtppfdaiehdbafaaG4e
import Derived.Test.YtppfdaiehdbafaaG3g
namespace Go.Proofs.Ytppfdaiehdbafaa.Gf
open Go Go.ChangeShapes Go.WideShapes Go.ChangeAt Go.RowKit Go.Sort Go.Proofs.Ytppfdaiehdbafaa.By Go.Proofs.Ytppfdaiehdbafaa.Qt
set_option maxRecDepth 100000

theorem half_row {n i : Nat} {A B : Nat → Nat → Nat} : (((List.range (n + n)).map (aug n A B i)).drop n).take n = (List.range n).map (B i) := by
  apply List.ext_getElem (by simp)
  intro j h1 h2
  simp [aug]
  intro h
  omega
set_option maxRecDepth 100000 in
set_option maxHeartbeats 3200000 in
theorem half_pos (n G base : Nat) (vs : List Value) (A B : Nat → Nat → Nat) (w : World) (hn : 1 ≤ n ∧ n ≤ 16) (hR : Rw w base G n vs (rowsOf n (n + n) (aug n A B))) (hA : Bd n n A) (hB : Bd n n B) :
    Calls Try.prog 38 #[.slice (some ⟨G, 0, none⟩) n n] w fun e w' => (∃ s, e = .returned (mv n n s) ∧ Own w' w.heap.size s (flat n n B)) ∧ Below w.heap.size w w' := by
  obtain ⟨N2, hN2⟩ : ∃ N2, N2 = n + n := ⟨_, rfl⟩
  have HR := Lib.hid hR
  have H2 := Lib.hid hN2
  have st := P2.start (w := w.alloc (.cells #[.int .i64 0, .int .i64 0, .slice none 0 0] 24)) n n
  have hz : (w.alloc (.cells #[.int .i64 0, .int .i64 0, .slice none 0 0] 24)).heap.size = w.heap.size + 1 := by simp
  rw [hz] at st
  have e0 := heap_alloc2_old w (.cells #[.int .i64 0, .int .i64 0, .slice none 0 0] 24) (.cells #[.int .i64 n, .int .i64 n, .slice none 0 0] 24)
  have hw : Below w.heap.size w ((w.alloc (.cells #[.int .i64 0, .int .i64 0, .slice none 0 0] 24)).alloc (.cells #[.int .i64 n, .int .i64 n, .slice none 0 0] 24)) := ((Below.refl _ _).alloc (Nat.le_refl _) _).alloc (by simp) _
  have hws : ((w.alloc (.cells #[.int .i64 0, .int .i64 0, .slice none 0 0] 24)).alloc (.cells #[.int .i64 n, .int .i64 n, .slice none 0 0] 24)).heap.size = w.heap.size + 2 := by simp
  unfold mv at *
  go_enter Try.func38, Try.ntmps38
  clear hR hN2 hz
  go_wp2
  generalize ((w.alloc (.cells #[.int .i64 0, .int .i64 0, .slice none 0 0] 24)).alloc (.cells #[.int .i64 n, .int .i64 n, .slice none 0 0] 24)) = W at *
  have ST := Lib.hid st
  have E0 := Lib.hid e0
  have HW := Lib.hid hw
  have HWS := Lib.hid hws
  clear st e0 hw hws
  go_loopw [13] (fun t wr => ∃ (i : Nat) (sv : Value), i ≤ n ∧ t = .int .i64 (i : Int) ∧ P2 W wr (w.heap.size + 1) n n ((flat n n B).take (i * n)) sv) (fun t _ => n - (intOf t).toNat)
  case atStart => exact ⟨0, .slice none 0 0, by omega, rfl, by rw [Nat.zero_mul, List.take_zero]; exact ST.out⟩
  case round =>
    clear ST
    obtain ⟨i, sv, hi, rfl, hb⟩ := hrel
    have HB := Lib.hid hb
    clear hb
    by_cases hlt : i < n
    · have hri := HR.out.rows i hlt
      rw [rowsOf_getD _ hlt] at hri
      have hbl := HB.out.below HW.out (by omega)
      obtain ⟨b, o, ci, hxi, hc1, hc2, hk1⟩ := sl_cells hri.sl (by simp; omega)
      rw [show ((List.range (n + n)).map (aug n A B i)).length = n + n by simp] at hxi hc1 hk1
      obtain ⟨gi, ci', hxi', -, -⟩ := own_some hri (by simp; omega)
      have ho : o = 0 := by
        rw [hxi] at hxi'
        simp at hxi'
        exact hxi'.1.2
      subst ho
      have hcut := sl_cut (p := n) (c := n) (n := n + n) hri.1 (by simp) hc2 hc1 (fun x hx => (hbl.cell (p := ⟨b, 0 + x, none⟩) (block_lt_of_cell (hk1 x hx))).trans (hk1 x hx)) (Nat.le_refl _)
      rw [half_row, Nat.zero_add] at hcut
      have hci := (HR.out.cell hlt).1
      rw [hxi, ← H2.out] at hci
      have f1 := (hbl.cell (p := ⟨G, i, none⟩) (block_lt_of_cell hci)).trans hci
      have htk := flat_row (c := n) B hlt
      have hln2 : ((flat n n B).take (i * n)).length ≤ 256 := by
        rw [List.length_take, flat_length]
        have := Nat.mul_le_mul hn.2 hn.2
        omega
      have hrl : ((List.range n).map (B i)).length = n := by simp
      generalize (flat n n B).take (i * n) = L at HB htk hln2
      generalize (List.range n).map (B i) = R at htk hcut hrl
      have HT := Lib.hid htk
      have HC := Lib.hid hcut
      have HBL := Lib.hid hbl
      have h2 := H2.out
      have j1 : (0 : Int) ≤ (i : Int) := by omega
      have j2 : (i : Int) < (n : Int) := by omega
      have s0 : (0 : Int) ≤ (n : Int) := by omega
      have s1 : (n : Int) ≤ (N2 : Int) := by omega
      have s2 : (N2 : Int) ≤ (ci : Int) := by omega
      have s3 : n < ci := by omega
      have s4 : ¬ (ci = n) := by omega
      have hN : N2 - n = n := by omega
      have HN := Lib.hid hN
      clear hri hxi hxi' hk1 hcut hci htk hbl h2 hN hc1 hc2
      go_wp2
      clear f1
      obtain ⟨y0, y1, y2⟩ := cells3 HB.out.row
      refine wp_region_bl_tail 6 (by kernel_rfl) (by kernel_rfl) ?_
      simp only [List.take_succ_cons, List.take_zero, List.drop_succ_cons, List.drop_zero]
      repeat (quiet_step (fail))
      refine wpQuiet_nil ?_
      intro w9 hb9
      clear y0 y1 y2
      have HB9 := Lib.hid (HB.out.later hb9)
      have HC9 := Lib.hid (sl_below HC.out hb9)
      have hsz := HB9.out.size
      clear HB HC hb9
      rw [HN.out]
      refine app_sl (dst := some 23) rfl rfl HB9.out.own HC9.out (by omega) hsz ?_
      intro v1 w3 ho1 hg1
      obtain ⟨av, nv, cv, hv1, -⟩ := own_form ho1
      subst hv1
      have HP1 := Lib.hid (HB9.out.push0 hg1 ho1)
      obtain ⟨hd1, hd2⟩ := HB9.out.app0 hg1
      clear ho1 hg1
      go_wp2
      go_roundw
      case rel => exact ⟨i + 1, _, by omega, by go_num, by rw [HT.out]; exact HP1.out⟩
      case measure => simp [intOf]; omega
    · obtain rfl : i = n := by omega
      have hl : (flat i i B).take (i * i) = flat i i B := by
        have := flat_length i i B
        rw [← this]
        exact List.take_length
      rw [hl] at HB
      have zz := (HB.out.keep (by have := HWS.out; omega) (show w.heap.size ≠ w.heap.size + 1 by omega)).trans E0.out
      have ZZ := Lib.hid zz
      clear zz
      go_wp2_with (first | ((with_reducible refine loadP (w.heap.size + 1) ?_ HB.out.row ?_); exact rfl) | ((with_reducible refine storeP w.heap.size (.int .i64 i) (.int .i64 i) sv ?_ ?_ ZZ.out ?_ ?_ ?_ ?_); exact rfl; exact rfl; exact rfl; exact rfl; exact own_one HB.out.own))
      have h8 := HB.out.done HW.out (by omega) (Nat.le_refl _) (by have := HWS.out; omega) (.int .i64 i) (.int .i64 i)
      exact bodyPost_ret (results_cell_row Try.results38 _ _ w.heap.size 24 _ (0, 0) _ rfl (setRow_heap _ _ _ _ _ _ ZZ.out) Try.underlying24 rfl size27) rfl ⟨⟨_, rfl, h8.1⟩, h8.2⟩
end Go.Proofs.Ytppfdaiehdbafaa.Gf
