/- What is proved here: the contract of the program's Mul for matrices that fit, and for all. No condition. -/
import Derived.Test.YtppfdaiehdbafaaG3e
namespace Go.Proofs.Ytppfdaiehdbafaa.Gf
open Go Go.ChangeShapes Go.WideShapes Go.ChangeAt Go.RowKit Go.Sort Go.Proofs.Ytppfdaiehdbafaa.By Go.Proofs.Ytppfdaiehdbafaa.Qt

theorem PF.start2 {w w2 w3 : World} {gr g q : Nat} {r c : Nat} {l : List Nat} (hw : Below w.heap.size w w2) (hz : w2.heap[gr]? = some (.cells #[.int .i64 0, .int .i64 0, .slice none 0 0] 24 (0, 0))) (hr : w.heap.size ≤ gr) (hb : Below w2.heap.size w2 w3) (ho : Own w3 w2.heap.size (.slice (some ⟨g, 0, none⟩) q q) l) :
    PF w (w3.alloc (.cells #[.int .i64 r, .int .i64 c, .slice (some ⟨g, 0, none⟩) q q] 24)) gr w3.heap.size g r c q l := by
  have hl := lt_of_some hz
  have hg := ho.2.lt g rfl
  have hs := hb.size
  have hws := hw.size
  refine ⟨?_, heap_alloc_new _ _, own_base (by omega) (ho.alloc _), by omega, (bt hw hb).alloc (by omega) _⟩
  rw [heap_alloc_old _ _ (by omega), hb.block _ hl, hz]
theorem cells3 {w : World} {g : Nat} {x y z : Value} {T : TypeId} {fr : Nat × Nat} (hg : w.heap[g]? = some (.cells #[x, y, z] T fr)) :
    (∀ d os, (grow (redrawn w d) os).cell? ⟨g, 0, none⟩ = some x) ∧ (∀ d os, (grow (redrawn w d) os).cell? ⟨g, 1, none⟩ = some y) ∧ ∀ d os, (grow (redrawn w d) os).cell? ⟨g, 2, none⟩ = some z := by
  obtain ⟨h0, h1, h2⟩ := row_cells hg
  exact ⟨cells_regrown h0, cells_regrown h1, cells_regrown h2⟩
set_option maxRecDepth 100000 in
set_option maxHeartbeats 3200000 in
theorem mul_good (ra ca cb : Nat) (b1 o1 b2 o2 n1 n2 c1 c2 : Nat) (la lb : List Nat) (w : World) (ha : Vd ra ca n1) (hb : Vd ca cb n2) (hc1 : n1 ≤ c1) (hm1 : c1 ≤ maxLen) (l1 : ∀ b ∈ la, b < 256) (l2 : ∀ b ∈ lb, b < 256)
    (k1 : ∀ k, k < n1 → w.cell? ⟨b1, o1 + k, none⟩ = some (.int .u8 ((la.getD k 0 : Nat) : Int))) (k2 : ∀ k, k < n2 → w.cell? ⟨b2, o2 + k, none⟩ = some (.int .u8 ((lb.getD k 0 : Nat) : Int))) :
    Calls Try.prog 50 #[mv ra ca (.slice (some ⟨b1, o1, none⟩) n1 c1), mv ca cb (.slice (some ⟨b2, o2, none⟩) n2 c2)] w (MO w ra cb (flat ra cb (mm ca (ent la ca) (ent lb cb))) 0) := by
  have hel : Hid (∀ (i k : Nat) (w' : World), i < ra → k < cb → Below w.heap.size w w' → Calls Try.prog 64 #[mv ra ca (.slice (some ⟨b1, o1, none⟩) n1 c1), mv ca cb (.slice (some ⟨b2, o2, none⟩) n2 c2), .int .i64 (i : Int), .int .i64 (k : Int)] w' fun e w'' => e = .returned (.int .u8 ((mm ca (ent la ca) (ent lb cb) i k : Nat) : Int)) ∧ Below w'.heap.size w' w'') := fun i k w' hi hk hbw =>
    elem_pos ra ca cb i k b1 o1 b2 o2 n1 n2 c1 c2 la lb w' ha hb hc1 hm1 hi hk l1 l2 (fun x hx => (hbw.cell (p := ⟨b1, o1 + x, none⟩) (block_lt_of_cell (k1 x hx))).trans (k1 x hx)) (fun x hx => (hbw.cell (p := ⟨b2, o2 + x, none⟩) (block_lt_of_cell (k2 x hx))).trans (k2 x hx))
  have hbd : Hid (∀ i k, i < ra → mm ca (ent la ca) (ent lb cb) i k < 256) := fun i k hi => bd_mm (r := ra) (p := ca) (c := k + 1) (ent_bd l1) i hi k (by omega)
  obtain ⟨a1, ha1⟩ : ∃ a : Option Addr, a = some ⟨b1, o1, none⟩ := ⟨_, rfl⟩
  obtain ⟨a2, ha2⟩ : ∃ a : Option Addr, a = some ⟨b2, o2, none⟩ := ⟨_, rfl⟩
  rw [← ha1, ← ha2] at hel ⊢
  have hn : 1 ≤ ra ∧ ra ≤ 16 ∧ 1 ≤ ca ∧ ca ≤ 16 ∧ 1 ≤ cb ∧ cb ≤ 16 := by
    have h1 := ha.1
    have h2 := hb.1
    unfold Sized at h1 h2
    omega
  have hsz : Sized ra cb := by unfold Sized; omega
  have hv1 := fun w => valid_any ra ca a1 n1 c1 w
  have hv2 := fun w => valid_any ca cb a2 n2 c2 w
  rw [decide_eq_true ha] at hv1
  rw [decide_eq_true hb] at hv2
  have hz := fun w => zeros_any ra cb w hsz
  obtain ⟨q, hq⟩ : ∃ q : Nat, q = ra * cb := ⟨_, rfl⟩
  have hq1 : q ≤ 256 := (wrap_rc hsz hq).2
  rw [← hq] at hz
  have HV1 := Lib.hid hv1
  have HV2 := Lib.hid hv2
  have HZ := Lib.hid hz
  have HQ := Lib.hid hq
  generalize mm ca (ent la ca) (ent lb cb) = F at *
  clear hv1 hv2 hz hsz ha hb hc1 hm1 l1 l2 k1 k2 ha1 ha2 hq
  unfold MO mv at *
  go_enter Try.func50, Try.ntmps50
  go_wp2_with fail
  refine (HV1.out _).mono ?_
  rintro e w1 ⟨rfl, hb1⟩
  obtain ⟨r1, r2, r3, hs, hb⟩ := three_later hb1
  obtain ⟨y0, y1, y2⟩ := row_cells r2
  have R1 := Lib.hid r1
  have R2 := Lib.hid r2
  have R3 := Lib.hid r3
  have B1 := Lib.hid hb
  clear hb1 r1 r2 r3 hb HV1
  go_wp2_with fail
  refine (HV2.out _).mono ?_
  rintro e w2 ⟨rfl, hb2⟩
  have r1 := (hb2.block _ (lt_of_some R1.out)).trans R1.out
  have r2 := (hb2.block _ (lt_of_some R2.out)).trans R2.out
  have r3 := (hb2.block _ (lt_of_some R3.out)).trans R3.out
  have hb := bt B1.out hb2
  obtain ⟨x0, x1, x2⟩ := row_cells r1
  obtain ⟨z0, z1, z2⟩ := row_cells r2
  have hs2 : w.heap.size + 3 ≤ w2.heap.size := by have := hb2.size; omega
  have R1' := Lib.hid r1
  have R2' := Lib.hid r2
  have R3' := Lib.hid r3
  have B2 := Lib.hid hb
  clear hb2 r1 r2 r3 hb y0 y1 y2 R1 R2 R3 B1 HV2 hs
  go_wp2_with fail
  refine (HZ.out _).mono ?_
  rintro e w3 ⟨⟨g, rfl, ho⟩, hb3⟩
  have hp := PF.start2 (r := ra) (c := cb) B2.out R3'.out (by omega) hb3 ho
  have hg3 : w.heap.size + 3 ≤ g := by have := (ho.2.lt g rfl).1; omega
  have hr1 := (hb3.block _ (lt_of_some R1'.out)).trans R1'.out
  have hr2 := (hb3.block _ (lt_of_some R2'.out)).trans R2'.out
  replace hr1 := (heap_alloc_old w3 (.cells #[.int .i64 ra, .int .i64 cb, .slice (some ⟨g, 0, none⟩) q q] 24) (lt_of_some hr1)).trans hr1
  replace hr2 := (heap_alloc_old w3 (.cells #[.int .i64 ra, .int .i64 cb, .slice (some ⟨g, 0, none⟩) q q] 24) (lt_of_some hr2)).trans hr2
  have HP := Lib.hid hp
  have R1 := Lib.hid hr1
  have R2 := Lib.hid hr2
  clear hp ho hb3 hr1 hr2 R1' R2' R3' B2 HZ x0 x1 x2 z0 z1 z2 hs2
  go_wp2_with fail
  generalize hW : w3.alloc (.cells #[.int .i64 ra, .int .i64 cb, .slice (some ⟨g, 0, none⟩) q q] 24) = W at *
  have HW := Lib.hid hW
  clear hW
  go_loopw [32] (fun i wr => ∃ k : Nat, k ≤ ra ∧ i = .int .i64 (k : Int) ∧ PF w wr (w.heap.size + 2) w3.heap.size g ra cb q (flat ra cb (upto F k 0)) ∧ wr.heap[w.heap.size]? = some (.cells #[.int .i64 ra, .int .i64 ca, .slice a1 n1 c1] 24 (0, 0)) ∧ wr.heap[w.heap.size + 1]? = some (.cells #[.int .i64 ca, .int .i64 cb, .slice a2 n2 c2] 24 (0, 0))) (fun i _ => ra - (intOf i).toNat)
  case atStart =>
    refine ⟨0, by omega, rfl, ?_, R1.out, R2.out⟩
    rw [← upto_none, ← HQ.out]
    exact HP.out
  case round =>
    obtain ⟨k, hk, rfl, hp, hr1, hr2⟩ := hrel
    clear HP R1 R2
    have HP := Lib.hid hp
    have R1 := Lib.hid hr1
    have R2 := Lib.hid hr2
    clear hp hr1 hr2
    obtain ⟨d0, d1, d2⟩ := HP.out.cells
    by_cases hlt : k < ra
    · go_wp2
      clear d0 d1 d2
      rename World => wo
      go_loopw [37] (fun i wr => ∃ j : Nat, j ≤ cb ∧ i = .int .i64 (j : Int) ∧ PF w wr (w.heap.size + 2) w3.heap.size g ra cb q (flat ra cb (upto F k j)) ∧ wr.heap[w.heap.size]? = some (.cells #[.int .i64 ra, .int .i64 ca, .slice a1 n1 c1] 24 (0, 0)) ∧ wr.heap[w.heap.size + 1]? = some (.cells #[.int .i64 ca, .int .i64 cb, .slice a2 n2 c2] 24 (0, 0))) (fun i _ => cb - (intOf i).toNat)
      case atStart => exact ⟨0, by omega, rfl, HP.out, R1.out, R2.out⟩
      case round =>
        clear HP R1 R2
        obtain ⟨j, hj, rfl, hp, hr1, hr2⟩ := hrel
        have HP := Lib.hid hp
        have R1 := Lib.hid hr1
        have R2 := Lib.hid hr2
        clear hp hr1 hr2
        by_cases hjt : j < cb
        · have hst := upto_set F (r := ra) (k := k) hjt
          have hx := hbd.out k j hlt
          have hE : ∀ d os, Calls Try.prog 64 #[.agg #[.int .i64 ra, .int .i64 ca, .slice a1 n1 c1], .agg #[.int .i64 ca, .int .i64 cb, .slice a2 n2 c2], .int .i64 (k : Int), .int .i64 (j : Int)] (grow (redrawn wr d) os) fun e w'' => e = .returned (.int .u8 ((F k j : Nat) : Int)) ∧ ∃ p : Regrown, w'' = grow (redrawn wr p.d) p.os := fun d os => Calls.regrown_of (hel.out k j _ hlt hjt (bt HP.out.bel (below_regrown wr d os)))
          obtain ⟨p, hp⟩ : ∃ p : Nat, p = k * cb := ⟨_, rfl⟩
          have hpk : p + j < q := by rw [hp, HQ.out]; exact at_lt hlt hjt
          have hw2 : Hid ((k : Int) * (cb : Int) = (p : Int)) := show (k : Int) * (cb : Int) = (p : Int) by rw [hp]; simp
          rw [← hp] at hst
          have hl : (flat ra cb (upto F k j)).length = q := by rw [flat_length, HQ.out]
          have HL := Lib.hid hl
          generalize F k j = x at hst hx hE
          generalize flat ra cb (upto F k j) = L at HP hst HL
          have HT := Lib.hid hst
          have HE := Lib.hid hE
          clear hst hl hp hE
          obtain ⟨d0, d1, d2⟩ := cells3 HP.out.row
          obtain ⟨e0, e1, e2⟩ := cells3 R1.out
          obtain ⟨f0, f1, f2⟩ := cells3 R2.out
          have hw2 := hw2.out
          have v1 : IntKind.i64.wrap (p : Int) = (p : Int) := IntWalk.i64_in _ (by omega)
          have v2 : IntKind.i64.wrap ((p : Int) + (j : Int)) = (p : Int) + (j : Int) := IntWalk.i64_in _ (by omega)
          have i1 : (0 : Int) ≤ (p : Int) + (j : Int) := by omega
          have i2 : (p : Int) + (j : Int) < (q : Int) := by omega
          go_wp2
          refine wp_region_bl_tail 14 (by kernel_rfl) (by kernel_rfl) ?_
          simp only [List.take_succ_cons, List.take_zero, List.drop_succ_cons, List.drop_zero]
          repeat (quiet_step ((go_at_call 64; exact HE.out _ _)))
          refine wpQuiet_nil ?_
          intro w9 hb9
          clear d0 d1 d2 e0 e1 e2 f0 f1 f2 v1 v2
          have HP9 := Lib.hid (HP.out.later hb9)
          have R19 := Lib.hid ((hb9.block _ (lt_of_some R1.out)).trans R1.out)
          have R29 := Lib.hid ((hb9.block _ (lt_of_some R2.out)).trans R2.out)
          obtain ⟨q1, q2, _⟩ := own_cell HP9.out.own HL.out hpk
          clear hb9 HP R1 R2
          go_wp2
          · exact absurd (q2.symm.trans (by assumption)) (by decide)
          go_roundw
          case rel => exact ⟨j + 1, by omega, by go_num, by rw [← HT.out]; exact HP9.out.set HL.out hpk hx, (heap_setCell_other _ _ _ _ (show w.heap.size ≠ g by omega)).trans R19.out, (heap_setCell_other _ _ _ _ (show w.heap.size + 1 ≠ g by omega)).trans R29.out⟩
          case measure => simp [intOf]; omega
        · obtain rfl : j = cb := by omega
          rw [upto_row] at HP
          go_wp2
          go_roundw
          case rel => exact ⟨k + 1, by omega, by go_num, HP.out, R1.out, R2.out⟩
          case measure => simp [intOf]; omega
    · obtain rfl : k = ra := by omega
      rw [upto_full] at HP
      go_wp2_with (first | ((with_reducible refine loadP w3.heap.size ?_ HP.out.row ?_); exact rfl) | ((with_reducible refine storeP (w.heap.size + 2) (.int .i64 k) (.int .i64 cb) (.slice (some ⟨g, 0, none⟩) q q) ?_ ?_ HP.out.zero ?_ ?_ ?_ ?_); exact rfl; exact rfl; exact rfl; exact rfl; exact rfl))
      obtain ⟨d1, d2⟩ := HP.out.done (.int .i64 k) (.int .i64 cb)
      exact bodyPost_ret (results_px rfl _ _ (w.heap.size + 2) _ _ _ (0, 0) rfl (setRow_heap _ _ _ _ _ _ HP.out.zero)) rfl ⟨⟨_, rfl, d1⟩, d2⟩
/-- The product, in all cases. -/
theorem mul3_any (ra ca rb cb : Int) (v1 v2 : Value) (la lb : List Nat) (w : World) (s1 : Sl w v1 la) (s2 : Sl w v2 lb) : Calls Try.prog 50 #[mv ra ca v1, mv rb cb v2] w (mulPostS ra ca la rb cb lb w) := by
  unfold mulPostS
  by_cases h1 : Vd ra ca la.length
  · by_cases h2 : Vd rb cb lb.length ∧ ca = rb
    · rw [if_pos ⟨h1, h2⟩]
      obtain ⟨h2, rfl⟩ := h2
      obtain ⟨R, C, rfl, rfl, p1, _, p3, _, p5⟩ := vd_prod h1
      obtain ⟨C', D, e, rfl, q1, _, q3, _, q5⟩ := vd_prod h2
      obtain rfl : C = C' := by exact_mod_cast e
      obtain ⟨b1, o1, c1, rfl, d1, d2, k1⟩ := sl_cells s1 (by rw [p5]; exact Nat.mul_pos p1 p3)
      obtain ⟨b2, o2, c2, rfl, _, _, k2⟩ := sl_cells s2 (by rw [q5]; exact Nat.mul_pos q1 q3)
      exact (mul_good R C D b1 o1 b2 o2 la.length lb.length c1 c2 la lb w h1 h2 d1 d2 s1.1 s2.1 k1 k2).mono fun _ _ h => h.ms
    · rw [if_neg fun x => h2 x.2]
      obtain ⟨a1, c1, rfl, -, -⟩ := sl_form s1
      obtain ⟨a2, c2, rfl, -, -⟩ := sl_form s2
      exact (mul_bad2 ra ca rb cb a1 a2 _ _ c1 c2 w h1 h2).mono fun _ _ h => h.ms
  · rw [if_neg fun x => h1 x.1]
    obtain ⟨a1, c1, rfl, -, -⟩ := sl_form s1
    obtain ⟨a2, c2, rfl, -, -⟩ := sl_form s2
    exact (mul_bad1 ra ca rb cb a1 a2 _ _ c1 c2 w h1).mono fun _ _ h => h.ms
end Go.Proofs.Ytppfdaiehdbafaa.Gf
