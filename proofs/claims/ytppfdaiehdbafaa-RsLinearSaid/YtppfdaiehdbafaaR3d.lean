/- What is proved here: the contract of the reference's Pick. -/
import Derived.Test.YtppfdaiehdbafaaR3b
import Derived.Test.YtppfdaiehdbafaaSi
import Derived.StillTailTactics
namespace Go.Proofs.Ytppfdaiehdbafaa.Gf
open Go Go.ChangeShapes Go.WideShapes Go.ChangeAt Go.RowKit Go.Proofs.Ytppfdaiehdbafaa.By

theorem flat_row {r c k : Nat} (f : Nat → Nat → Nat) (hk : k < r) : (flat r c f).take ((k + 1) * c) = (flat r c f).take (k * c) ++ (List.range c).map (f k) := by
  have key : ∀ j, j ≤ c → (flat r c f).take (k * c + j) = (flat r c f).take (k * c) ++ (List.range j).map (f k) := by
    intro j
    induction j with
    | zero => intro _; simp
    | succ j ih =>
      intro hj
      rw [flat_snoc f hk (by omega), ih (by omega), List.range_succ, List.map_append, List.append_assoc]
      rfl
  rw [Nat.succ_mul]
  exact key c (Nat.le_refl c)
theorem ent_row {l : List Nat} {c q : Nat} (h : (q + 1) * c ≤ l.length) : (l.drop (q * c)).take c = (List.range c).map (ent l c q) := by
  rw [Nat.succ_mul] at h
  apply List.ext_getElem (by simp; omega)
  intro i h1 h2
  have hi : i < c := by simpa using h2
  simp [ent, List.getD, show q * c + i < l.length by omega]
theorem sl_cut {w : World} {b o n cap p c : Nat} {l : List Nat} (hl : ∀ x ∈ l, x < 256) (hn : l.length = n) (hm : cap ≤ maxLen) (hc : n ≤ cap) (hk : ∀ k, k < n → w.cell? ⟨b, o + k, none⟩ = some (.int .u8 ((l.getD k 0 : Nat) : Int))) (h : p + c ≤ n) :
    Sl w (.slice (some ⟨b, o + p, none⟩) c (cap - p)) ((l.drop p).take c) := by
  have hlen : ((l.drop p).take c).length = c := by simp; omega
  refine ⟨mem_take (mem_drop hl p) c, by rw [hlen]; omega, Or.inr ⟨b, o + p, cap - p, by rw [hlen], by rw [hlen]; omega, by omega, fun k hk2 => ?_⟩⟩
  rw [hlen] at hk2
  have := hk (p + k) (by omega)
  rw [show o + p + k = o + (p + k) by omega, this]
  simp [List.getD, hk2]
theorem B2.app0 {W wr : World} {g : Nat} {r c : Int} {l : List Nat} {sv : Value} (h : B2 W wr g r c l sv) {w1 : World} (hg : wr.grownBy w1 sv.ownBlock) : w1.cell? ⟨g, 2, none⟩ = some sv ∧ w1.frozen? ⟨g, 2, none⟩ = false := by
  have h1 := h.lt
  have h2 := h.size
  have e : w1.heap[g]? = some (.cells #[.int .i64 r, .int .i64 c, sv] 26 (0, 0)) := (hg.block g (by omega) (fun x => by have := h.own.lt g x.symm; omega)).trans h.row
  exact ⟨cell_of_row _ _ _ _ _ _ e, frozen_of_row _ _ _ _ _ e⟩
theorem B2.push0 {W wr : World} {g : Nat} {r c : Int} {l : List Nat} {sv : Value} (h : B2 W wr g r c l sv) {w1 : World} {v1 : Value} {m : List Nat} (hg : wr.grownBy w1 sv.ownBlock) (ho : Own w1 W.heap.size v1 m) : B2 W (w1.setCell ⟨g, 2, none⟩ v1) g r c m v1 := by
  have h1 := h.lt
  have h2 := h.size
  have hs := hg.size
  obtain ⟨cs, hc⟩ := h.blk
  have old : ∀ k, k < W.heap.size → w1.heap[k]? = wr.heap[k]? := fun k hk => hg.block k (by omega) (fun x => by have := h.own.lt k x.symm; omega)
  have hb := h.bel.grown hg h.size (fun k hk => by have := h.own.lt k hk; omega)
  refine ⟨⟨hb.os, hb.tape, hb.output, by simp; omega, fun k hk => ?_⟩, own_keep ho fun k hk => heap_setCell_other _ _ _ _ (by have := ho.lt k hk; show k ≠ g; omega), h.blk⟩
  by_cases e : k = g
  · subst e
    rw [setRow_heap _ _ _ _ _ _ hc, heap_setCell_same w1 k 2 _ 26 _ ((old k h1).trans h.row)]
    rfl
  · rw [heap_setCell_other _ _ _ _ e, old k hk, h.keep hk e, setRow_other _ _ _ _ e]
/-- Pick's rows as a matrix. -/
def pickm (l : List Nat) (c : Nat) (zs : List Int) (i k : Nat) : Nat := ent l c (zs.getD i 0).toNat k
theorem two (w : World) (A B : Obj) : ((w.alloc A).alloc B).heap[w.heap.size]? = some A ∧ ((w.alloc A).alloc B).heap[w.heap.size + 1]? = some B ∧ ((w.alloc A).alloc B).heap.size = w.heap.size + 2 ∧ Below w.heap.size w ((w.alloc A).alloc B) :=
  ⟨heap_alloc2_old _ _ _, heap_alloc2_new _ _ _, by simp, ((Below.refl _ _).alloc (Nat.le_refl _) _).alloc (by simp) _⟩
set_option maxRecDepth 100000 in
set_option maxHeartbeats 3200000 in
theorem rpick_pos (r c : Nat) (b1 o1 c1 b2 o2 c2 n m j : Nat) (l : List Nat) (zs : List Int) (w : World) (hv : Vd r c n) (hln : l.length = n) (hzm : zs.length = m) (hm1 : 1 ≤ m) (hm2 : m ≤ 16) (l1 : ∀ b ∈ l, b < 256) (hc1 : n ≤ c1) (hc1m : c1 ≤ maxLen)
    (k1 : ∀ k, k < n → w.cell? ⟨b1, o1 + k, none⟩ = some (.int .u8 ((l.getD k 0 : Nat) : Int))) (k2 : ∀ k, k < m → w.cell? ⟨b2, o2 + k, none⟩ = some (.int .i64 (zs.getD k 0)))
    (hj : j ≤ m) (hin : ∀ i, i < j → 0 ≤ zs.getD i 0 ∧ zs.getD i 0 < r) (hout : j < m → ¬ (0 ≤ zs.getD j 0 ∧ zs.getD j 0 < r)) :
    Calls Try.prog 30 #[mv r c (.slice (some ⟨b1, o1, none⟩) n c1), .slice (some ⟨b2, o2, none⟩) m c2] w (fun e w' => (j = m → MO w m c (flat m c (pickm l c zs)) 0 e w') ∧ (j ≠ m → MO w 0 0 [] 1 e w')) := by
  have hv1 := fun w => rvalid_any r c (some ⟨b1, o1, none⟩) n c1 w
  rw [decide_eq_true hv] at hv1
  have hs := fun w => rsize_any m c w
  have hn : 1 ≤ r ∧ r ≤ 16 ∧ 1 ≤ c ∧ c ≤ 16 := by have := hv.1; unfold Sized at this; omega
  rw [decide_eq_true (show Sized (m : Int) (c : Int) from ⟨by omega, by omega, by omega, by omega⟩)] at hs
  have e1 : n = r * c := by have := hv.2; exact_mod_cast this
  have hn256 : n ≤ 256 := by rw [e1]; exact Nat.mul_le_mul hn.2.1 hn.2.2.2
  have HV1 := Lib.hid hv1
  have HS := Lib.hid hs
  have E1 := Lib.hid e1
  have K1 := Lib.hid k1
  have K2 := Lib.hid k2
  have L1 := Lib.hid l1
  have LN := Lib.hid hln
  have IN := Lib.hid hin
  have OUT := Lib.hid hout
  obtain ⟨t1, t2, ts, tb⟩ := two w (.cells #[.int .i64 r, .int .i64 c, .slice (some ⟨b1, o1, none⟩) n c1] 26) (.cells #[.int .i64 0, .int .i64 0, .slice none 0 0] 26)
  have T1 := Lib.hid t1
  have T2 := Lib.hid t2
  have TS := Lib.hid ts
  have TB := Lib.hid tb
  clear hv1 hs e1 k1 k2 l1 hln hin hout t1 t2 ts tb hv
  unfold MO mv at *
  go_enter Try.func30, Try.ntmps30
  go_wp2_with fail
  refine (HV1.out _).mono ?_
  generalize ((w.alloc (.cells #[.int .i64 r, .int .i64 c, .slice (some ⟨b1, o1, none⟩) n c1] 26)).alloc (.cells #[.int .i64 0, .int .i64 0, .slice none 0 0] 26)) = W0 at *
  rintro e w1 ⟨rfl, hB1⟩
  have r1 := (hB1.block w.heap.size (by rw [TS.out]; omega)).trans T1.out
  have r2 := (hB1.block (w.heap.size + 1) (by rw [TS.out]; omega)).trans T2.out
  have hs1 : w.heap.size + 2 ≤ w1.heap.size := by have := hB1.size; have := TS.out; omega
  have hw1 : Below w.heap.size w w1 := TB.out.trans (hB1.mono TB.out.size)
  obtain ⟨x0, x1, x2⟩ := row_cells r1
  have R1 := Lib.hid r1
  have R2 := Lib.hid r2
  have HW1 := Lib.hid hw1
  clear r1 r2 hw1 hB1 T1 T2 TS TB HV1
  go_wp2_with (go_at_call 51; refine (HS.out _).mono ?_; rintro e w' ⟨rfl, rfl⟩)
  have st := B2.start (w := w1) m c
  have r1 := (heap_alloc_old w1 (.cells #[.int .i64 m, .int .i64 c, .slice none 0 0] 26) (show w.heap.size < w1.heap.size by omega)).trans R1.out
  have r2 := (heap_alloc_old w1 (.cells #[.int .i64 m, .int .i64 c, .slice none 0 0] 26) (show w.heap.size + 1 < w1.heap.size by omega)).trans R2.out
  have hw := HW1.out.alloc HW1.out.size (.cells #[.int .i64 m, .int .i64 c, .slice none 0 0] 26)
  have hws : (w1.alloc (.cells #[.int .i64 m, .int .i64 c, .slice none 0 0] 26)).heap.size = w1.heap.size + 1 := by simp
  generalize w1.alloc (.cells #[.int .i64 m, .int .i64 c, .slice none 0 0] 26) = W at *
  have ST := Lib.hid st
  have Q1 := Lib.hid r1
  have Q2 := Lib.hid r2
  have HW := Lib.hid hw
  have HWS := Lib.hid hws
  clear st r1 r2 hw hws R1 R2 HW1 x0 x1 x2
  go_loopw [7] (fun i wr => ∃ (k : Nat) (sv : Value), k ≤ j ∧ i = .int .i64 (k : Int) ∧ B2 W wr w1.heap.size m c ((flat m c (pickm l c zs)).take (k * c)) sv) (fun i _ => m - (intOf i).toNat)
  case atStart => exact ⟨0, .slice none 0 0, by omega, rfl, by rw [Nat.zero_mul, List.take_zero]; exact ST.out⟩
  case round =>
    clear ST
    obtain ⟨k, sv, hk, rfl, hb⟩ := hrel
    have HB := Lib.hid hb
    clear hb
    by_cases hkm : k < m
    · have g2 := K2.out k hkm
      have hbl := HB.out.below HW.out (by omega)
      have f2 := (hbl.cell (p := ⟨b2, o2 + k, none⟩) (block_lt_of_cell g2)).trans g2
      obtain ⟨z0, z1, z2⟩ := row_cells ((HB.out.keep (by have := HWS.out; omega) (show w.heap.size ≠ w1.heap.size by omega)).trans Q1.out)
      have p0 : (0 : Int) ≤ (k : Int) := by omega
      have p1 : (k : Int) < (m : Int) := by omega
      by_cases hlt : k < j
      · obtain ⟨h1, h2⟩ := IN.out k hlt
        obtain ⟨q, hq⟩ := Int.eq_ofNat_of_zero_le h1
        have hqr : q < r := by omega
        have htk := flat_row (c := c) (pickm l c zs) (show k < m by omega)
        have hrow : (List.range c).map (pickm l c zs k) = (l.drop (q * c)).take c := by
          rw [ent_row (by rw [LN.out, E1.out]; exact Nat.mul_le_mul_right c hqr)]
          refine List.map_congr_left fun i _ => ?_
          simp only [pickm, hq]
          rfl
        rw [hrow] at htk
        rw [hq] at f2
        obtain ⟨pp, hpp⟩ : ∃ pp, pp = q * c := ⟨_, rfl⟩
        have hpn : pp + c ≤ n := by rw [hpp, E1.out, ← Nat.succ_mul]; exact Nat.mul_le_mul_right c hqr
        have i1 : (q : Int) * (c : Int) = (pp : Int) := by rw [hpp]; simp
        have i2 : ((q : Int) + 1) * (c : Int) = (pp : Int) + (c : Int) := by rw [Int.add_mul, i1]; omega
        rw [← hpp] at htk
        have hcut := sl_cut (p := pp) (c := c) L1.out LN.out hc1m hc1 (fun x hx => (hbl.cell (p := ⟨b1, o1 + x, none⟩) (block_lt_of_cell (K1.out x hx))).trans (K1.out x hx)) hpn
        have hcl : ((l.drop pp).take c).length ≤ 16 := by rw [List.length_take]; omega
        have hln2 : ((flat m c (pickm l c zs)).take (k * c)).length ≤ 256 := by
          rw [List.length_take, flat_length]
          have := Nat.mul_le_mul hm2 hn.2.2.2
          omega
        generalize (flat m c (pickm l c zs)).take (k * c) = L at HB htk hln2
        generalize (l.drop pp).take c = R at htk hcut hcl
        have HT := Lib.hid htk
        have HC := Lib.hid hcut
        have d1 : decide ((q : Int) < 0) = false := decide_eq_false (by omega)
        have d2 : decide ((r : Int) ≤ (q : Int)) = false := decide_eq_false (by omega)
        have w1' : IntKind.i64.wrap (pp : Int) = (pp : Int) := IntWalk.i64_in _ (by omega)
        have w2' : IntKind.i64.wrap ((q : Int) + 1) = (q : Int) + 1 := IntWalk.i64_in _ (by omega)
        have w3' : IntKind.i64.wrap ((pp : Int) + (c : Int)) = (pp : Int) + (c : Int) := IntWalk.i64_in _ (by omega)
        have hc2 := HB.out.cell
        have hsz := HB.out.size
        have hlw := HB.out.lt
        clear hcut htk hrow hbl g2 hpp hq h1 h2
        go_wp2
        go_quiet (fail)
        go_wp2
        have hdn := below_drewN wr nq
        have HBx := Lib.hid (HB.out.later hdn)
        have f2x := (hdn.cell (p := ⟨b2, o2 + k, none⟩) (block_lt_of_cell f2)).trans f2
        have HCx := Lib.hid (sl_below HC.out hdn)
        have z1x := (hdn.cell (p := ⟨w.heap.size, 1, none⟩) (block_lt_of_cell z1)).trans z1
        have z2x := (hdn.cell (p := ⟨w.heap.size, 2, none⟩) (block_lt_of_cell z2)).trans z2
        have hc2x := HBx.out.cell
        have s0 : (0 : Int) ≤ (pp : Int) := by omega
        have s1 : (pp : Int) ≤ (pp : Int) + (c : Int) := by omega
        have s2 : (pp : Int) + (c : Int) ≤ (c1 : Int) := by omega
        have hszx := HBx.out.size
        clear f2 z0 z1 z2 hc2 HB HC hsz hdn
        generalize wr.drewN nq = wx at *
        go_still_tail 20, (by kernel_rfl)
        change wpList _ _ _ _ _ wx.drew
        refine app_sl (dst := some 66) ?_ ?_ HBx.out.own.drew (sl_drew HCx.out) (by omega) (by simp; omega) ?_
        · exact rfl
        · go_simp
          exact ⟨fun h => by omega, by omega⟩
        intro v1 w3 ho1 hg1
        obtain ⟨av, nv, cv, hv1, -⟩ := own_form ho1
        subst hv1
        have HP1 := Lib.hid (HBx.out.drew.push0 hg1 ho1)
        obtain ⟨hd1, hd2⟩ := HBx.out.drew.app0 hg1
        clear ho1 hg1
        go_wp2
        go_roundw
        case rel => exact ⟨k + 1, _, by omega, by go_num, by rw [HT.out]; exact HP1.out⟩
        case measure => simp [intOf]; omega
      · obtain rfl : k = j := by omega
        have hbad := OUT.out (show k < m by omega)
        have zz := (HB.out.keep (by have := HWS.out; omega) (show w.heap.size + 1 ≠ w1.heap.size by omega)).trans Q2.out
        have hdn := fun n => below_drewN wr n
        have ZZ : Hid (∀ n, (wr.drewN n).heap[w.heap.size + 1]? = some (.cells #[.int .i64 0, .int .i64 0, .slice none 0 0] 26 (0, 0))) := fun n => ((hdn n).block _ (Array.getElem?_eq_some_iff.1 zz).1).trans zz
        have BL : Hid (∀ n, Below w.heap.size w (wr.drewN n)) := fun n => hbl.trans ((hdn n).mono hbl.size)
        clear zz hdn hbl g2
        generalize zs.getD k 0 = z at f2 hbad
        by_cases hz : z < 0
        · have d1 : decide (z < 0) = true := decide_eq_true hz
          go_wp2
          go_quiet (fail)
          go_wp2_with ((with_reducible refine storeM (w.heap.size + 1) (.int .i64 0) (.int .i64 0) (.slice none 0 0) ?_ ?_ (ZZ.out _) ?_ ?_ ?_ ?_); exact rfl; exact rfl; exact rfl; exact rfl; exact rfl)
          exact bodyPost_ret (results_mx rfl _ _ (w.heap.size + 1) _ _ _ (0, 0) rfl (setRow_heap _ _ _ _ _ _ (ZZ.out _))) rfl ⟨fun h => absurd h (by omega), fun _ => ⟨⟨_, rfl, own_nil _ _⟩, below_setRow (BL.out _) (by omega) _⟩⟩
        · have d1 : decide (z < 0) = false := decide_eq_false hz
          have hz2 : (r : Int) ≤ z := by omega
          have d2 : decide ((r : Int) ≤ z) = true := decide_eq_true hz2
          go_wp2
          go_quiet (fail)
          go_wp2_with ((with_reducible refine storeM (w.heap.size + 1) (.int .i64 0) (.int .i64 0) (.slice none 0 0) ?_ ?_ (ZZ.out _) ?_ ?_ ?_ ?_); exact rfl; exact rfl; exact rfl; exact rfl; exact rfl)
          exact bodyPost_ret (results_mx rfl _ _ (w.heap.size + 1) _ _ _ (0, 0) rfl (setRow_heap _ _ _ _ _ _ (ZZ.out _))) rfl ⟨fun h => absurd h (by omega), fun _ => ⟨⟨_, rfl, own_nil _ _⟩, below_setRow (BL.out _) (by omega) _⟩⟩
    · obtain rfl : k = m := by omega
      obtain rfl : j = k := by omega
      have hl : (flat j c (pickm l c zs)).take (j * c) = flat j c (pickm l c zs) := by
        have := flat_length j c (pickm l c zs)
        rw [← this]
        exact List.take_length
      rw [hl] at HB
      have zz := (HB.out.keep (by have := HWS.out; omega) (show w.heap.size + 1 ≠ w1.heap.size by omega)).trans Q2.out
      have ZZ := Lib.hid zz
      clear zz
      go_wp2_with (first | ((with_reducible refine loadM w1.heap.size ?_ HB.out.row ?_); exact rfl) | ((with_reducible refine storeM (w.heap.size + 1) (.int .i64 j) (.int .i64 c) sv ?_ ?_ ZZ.out ?_ ?_ ?_ ?_); exact rfl; exact rfl; exact rfl; exact rfl; exact own_one HB.out.own))
      have h8 := HB.out.done HW.out (by omega) (show w.heap.size ≤ w.heap.size + 1 by omega) (by have := HWS.out; omega) (.int .i64 j) (.int .i64 c)
      exact bodyPost_ret (results_mx rfl _ _ (w.heap.size + 1) _ _ _ (0, 0) rfl (setRow_heap _ _ _ _ _ _ ZZ.out)) rfl ⟨⟨_, rfl, h8.1⟩, h8.2⟩
/-- What Pick answers. -/
def pickPost (r c : Int) (l : List Nat) (zs : List Int) (w : World) : Ending → World → Prop :=
  if Vd r c l.length ∧ (1 ≤ zs.length ∧ zs.length ≤ 16) ∧ ∀ i, i < zs.length → 0 ≤ zs.getD i 0 ∧ zs.getD i 0 < r then MO w zs.length c (flat zs.length c.toNat (pickm l c.toNat zs)) 0 else MO w 0 0 [] 1
theorem first_bad (P : Nat → Prop) [DecidablePred P] : ∀ m, ∃ j, j ≤ m ∧ (∀ i, i < j → P i) ∧ (j < m → ¬ P j)
  | 0 => ⟨0, Nat.le_refl _, fun i hi => by omega, fun h => by omega⟩
  | m + 1 => by
    obtain ⟨j, h1, h2, h3⟩ := first_bad P m
    by_cases hj : j < m
    · exact ⟨j, by omega, h2, fun _ => h3 hj⟩
    · obtain rfl : j = m := by omega
      by_cases hp : P j
      · exact ⟨j + 1, Nat.le_refl _, fun i hi => by
          by_cases e : i = j
          · rw [e]; exact hp
          · exact h2 i (by omega), fun h => by omega⟩
      · exact ⟨j, by omega, h2, fun _ => hp⟩
set_option maxRecDepth 100000 in
set_option maxHeartbeats 1600000 in
theorem rpick_bad1 (r c : Int) (a1 a2 : Option Addr) (n1 n2 c1 c2 : Nat) (w : World) (h : ¬ Vd r c n1) :
    Calls Try.prog 30 #[mv r c (.slice a1 n1 c1), .slice a2 n2 c2] w (MO w 0 0 [] 1) := by
  have hv1 := fun w => rvalid_any r c a1 n1 c1 w
  rw [decide_eq_false h] at hv1
  have HV1 := Lib.hid hv1
  obtain ⟨t1, t2, ts, tb⟩ := two w (.cells #[.int .i64 r, .int .i64 c, .slice a1 n1 c1] 26) (.cells #[.int .i64 0, .int .i64 0, .slice none 0 0] 26)
  have T2 := Lib.hid t2
  have TS := Lib.hid ts
  have TB := Lib.hid tb
  clear hv1 t1 t2 ts tb h
  unfold MO mv at *
  go_enter Try.func30, Try.ntmps30
  go_wp2_with fail
  refine (HV1.out _).mono ?_
  generalize ((w.alloc (.cells #[.int .i64 r, .int .i64 c, .slice a1 n1 c1] 26)).alloc (.cells #[.int .i64 0, .int .i64 0, .slice none 0 0] 26)) = W0 at *
  rintro e w1 ⟨rfl, hB1⟩
  have r3 := (hB1.block (w.heap.size + 1) (by rw [TS.out]; omega)).trans T2.out
  have hb := TB.out.trans (hB1.mono TB.out.size)
  have R3 := Lib.hid r3
  clear r3
  go_wp2_with ((with_reducible refine storeM (w.heap.size + 1) (.int .i64 0) (.int .i64 0) (.slice none 0 0) ?_ ?_ R3.out ?_ ?_ ?_ ?_); exact rfl; exact rfl; exact rfl; exact rfl; exact rfl)
  exact bodyPost_ret (results_mx rfl _ _ (w.heap.size + 1) _ _ _ (0, 0) rfl (setRow_heap _ _ _ _ _ _ R3.out)) rfl ⟨⟨_, rfl, own_nil _ _⟩, below_setRow hb (by omega) _⟩
set_option maxRecDepth 100000 in
set_option maxHeartbeats 1600000 in
theorem rpick_bad2 (r c : Int) (a1 a2 : Option Addr) (n1 n2 c1 c2 : Nat) (w : World) (hv : Vd r c n1) (h : ¬ (1 ≤ n2 ∧ n2 ≤ 16)) :
    Calls Try.prog 30 #[mv r c (.slice a1 n1 c1), .slice a2 n2 c2] w (MO w 0 0 [] 1) := by
  have hv1 := fun w => rvalid_any r c a1 n1 c1 w
  rw [decide_eq_true hv] at hv1
  have HV1 := Lib.hid hv1
  have hs := fun w => rsize_any n2 c w
  rw [decide_eq_false (show ¬ Sized (n2 : Int) c from fun x => h ⟨by have := x.1; omega, by have := x.2.1; omega⟩)] at hs
  have HS := Lib.hid hs
  obtain ⟨t1, t2, ts, tb⟩ := two w (.cells #[.int .i64 r, .int .i64 c, .slice a1 n1 c1] 26) (.cells #[.int .i64 0, .int .i64 0, .slice none 0 0] 26)
  have T1 := Lib.hid t1
  have T2 := Lib.hid t2
  have TS := Lib.hid ts
  have TB := Lib.hid tb
  clear hv1 t1 t2 ts tb h hs hv
  unfold MO mv at *
  go_enter Try.func30, Try.ntmps30
  go_wp2_with fail
  refine (HV1.out _).mono ?_
  generalize ((w.alloc (.cells #[.int .i64 r, .int .i64 c, .slice a1 n1 c1] 26)).alloc (.cells #[.int .i64 0, .int .i64 0, .slice none 0 0] 26)) = W0 at *
  rintro e w1 ⟨rfl, hB1⟩
  obtain ⟨x0, x1, x2⟩ := row_cells ((hB1.block w.heap.size (by rw [TS.out]; omega)).trans T1.out)
  have r3 := (hB1.block (w.heap.size + 1) (by rw [TS.out]; omega)).trans T2.out
  have hb := TB.out.trans (hB1.mono TB.out.size)
  have R3 := Lib.hid r3
  clear r3
  go_wp2_with (first | (go_at_call 51; refine (HS.out _).mono ?_; rintro e w' ⟨rfl, rfl⟩) | ((with_reducible refine storeM (w.heap.size + 1) (.int .i64 0) (.int .i64 0) (.slice none 0 0) ?_ ?_ R3.out ?_ ?_ ?_ ?_); exact rfl; exact rfl; exact rfl; exact rfl; exact rfl))
  exact bodyPost_ret (results_mx rfl _ _ (w.heap.size + 1) _ _ _ (0, 0) rfl (setRow_heap _ _ _ _ _ _ R3.out)) rfl ⟨⟨_, rfl, own_nil _ _⟩, below_setRow hb (by omega) _⟩
theorem rpick_any (r c : Int) (v1 v2 : Value) (l : List Nat) (zs : List Int) (w : World) (s1 : Sl w v1 l) (s2 : Si w v2 zs) : Calls Try.prog 30 #[mv r c v1, v2] w (pickPost r c l zs w) := by
  unfold pickPost
  by_cases ha : Vd r c l.length
  · by_cases hm : 1 ≤ zs.length ∧ zs.length ≤ 16
    · obtain ⟨j, h1, h2, h3⟩ := first_bad (fun i => 0 ≤ zs.getD i 0 ∧ zs.getD i 0 < r) zs.length
      obtain ⟨R, C, rfl, rfl, g1, g2, g3, g4, g5⟩ := vd_prod ha
      obtain ⟨b1, o1, c1, rfl, k1, k2, k3⟩ := sl_cells s1 (by have := at_lt (show 0 < R by omega) (show 0 < C by omega); omega)
      obtain ⟨b2, o2, c2, rfl, _, _, k4⟩ := si_cells s2 (by omega)
      refine (rpick_pos R C b1 o1 c1 b2 o2 c2 _ _ j l zs w ha rfl rfl hm.1 hm.2 s1.1 k1 k2 k3 k4 h1 h2 h3).mono fun e w' h => ?_
      by_cases hj : j = zs.length
      · rw [if_pos ⟨ha, hm, fun i hi => h2 i (by omega)⟩]
        exact h.1 hj
      · rw [if_neg fun x => h3 (by omega) (x.2.2 j (by omega))]
        exact h.2 hj
    · rw [if_neg fun h => hm h.2.1]
      obtain ⟨a1, c1, rfl, _, _⟩ := sl_form s1
      obtain ⟨a2, c2, rfl, _, _⟩ := si_form s2
      exact rpick_bad2 r c a1 a2 _ _ c1 c2 w ha hm
  · rw [if_neg fun h => ha h.1]
    obtain ⟨a1, c1, rfl, _, _⟩ := sl_form s1
    obtain ⟨a2, c2, rfl, _, _⟩ := si_form s2
    exact rpick_bad1 r c a1 a2 _ _ c1 c2 w ha
end Go.Proofs.Ytppfdaiehdbafaa.Gf
