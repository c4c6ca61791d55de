/- What is proved here: the contract of the program's Pick. No condition. -/
import Derived.Test.YtppfdaiehdbafaaG3f
namespace Go.Proofs.Ytppfdaiehdbafaa.Gf
open Go Go.ChangeShapes Go.WideShapes Go.ChangeAt Go.RowKit Go.Sort Go.Proofs.Ytppfdaiehdbafaa.By Go.Proofs.Ytppfdaiehdbafaa.Qt

theorem two_later {w w1 : World} {A B : Obj} (hb : Below ((w.alloc A).alloc B).heap.size ((w.alloc A).alloc B) w1) :
    w1.heap[w.heap.size]? = some A ∧ w1.heap[w.heap.size + 1]? = some B ∧ w.heap.size + 2 ≤ w1.heap.size ∧ Below w.heap.size w w1 := by
  obtain ⟨t1, t2, ts, tb⟩ := two w A B
  have hs := hb.size
  exact ⟨(hb.block _ (by omega)).trans t1, (hb.block _ (by omega)).trans t2, by omega, bt tb hb⟩
set_option maxRecDepth 100000 in
set_option maxHeartbeats 1600000 in
theorem pick_bad (r c : Int) (a1 a2 : Option Addr) (n1 n2 c1 c2 : Nat) (w : World) (h : ¬ (Vd r c n1 ∧ In16 n2)) :
    Calls Try.prog 13 #[mv r c (.slice a1 n1 c1), .slice a2 n2 c2] w (MO w 0 0 [] 1) := by
  have hv1 := fun w => valid_any r c a1 n1 c1 w
  have hs := fun w => vsize_any n2 w
  by_cases hv : Vd r c n1
  · have h2 : ¬ In16 (n2 : Int) := fun x => h ⟨hv, x⟩
    rw [decide_eq_true hv] at hv1
    rw [decide_eq_false h2] at hs
    have HV1 := Lib.hid hv1
    have HS := Lib.hid hs
    clear hv1 hs h h2 hv
    unfold MO mv at *
    go_enter Try.func13, Try.ntmps13
    go_wp2_with fail
    refine (HV1.out _).mono ?_
    rintro e w1 ⟨rfl, hB1⟩
    obtain ⟨r1, r2, hs, hb⟩ := two_later hB1
    have R2 := Lib.hid r2
    clear r1 r2 hB1
    go_wp2_with (first | (go_at_call 34; refine (HS.out _).mono ?_; rintro e w' ⟨rfl, rfl⟩) | ((with_reducible refine storeP (w.heap.size + 1) (.int .i64 0) (.int .i64 0) (.slice none 0 0) ?_ ?_ R2.out ?_ ?_ ?_ ?_); exact rfl; exact rfl; exact rfl; exact rfl; exact rfl))
    exact bodyPost_ret (results_px rfl _ _ (w.heap.size + 1) _ _ _ (0, 0) rfl (setRow_heap _ _ _ _ _ _ R2.out)) rfl ⟨⟨_, rfl, own_nil _ _⟩, below_setRow hb (by omega) _⟩
  · rw [decide_eq_false hv] at hv1
    have HV1 := Lib.hid hv1
    clear hv1 hs h hv
    unfold MO mv at *
    go_enter Try.func13, Try.ntmps13
    go_wp2_with fail
    refine (HV1.out _).mono ?_
    rintro e w1 ⟨rfl, hB1⟩
    obtain ⟨r1, r2, hs, hb⟩ := two_later hB1
    have R2 := Lib.hid r2
    clear r1 r2 hB1
    go_wp2_with ((with_reducible refine storeP (w.heap.size + 1) (.int .i64 0) (.int .i64 0) (.slice none 0 0) ?_ ?_ R2.out ?_ ?_ ?_ ?_); exact rfl; exact rfl; exact rfl; exact rfl; exact rfl)
    exact bodyPost_ret (results_px rfl _ _ (w.heap.size + 1) _ _ _ (0, 0) rfl (setRow_heap _ _ _ _ _ _ R2.out)) rfl ⟨⟨_, rfl, own_nil _ _⟩, below_setRow hb (by omega) _⟩
set_option maxRecDepth 100000 in
set_option maxHeartbeats 3200000 in
theorem pick_pos (r c : Nat) (b1 o1 c1 b2 o2 c2 n m j : Nat) (l : List Nat) (zs : List Int) (w : World) (hv : Vd r c n) (hln : l.length = n) (hzm : zs.length = m) (hm1 : 1 ≤ m) (hm2 : m ≤ 16) (l1 : ∀ b ∈ l, b < 256) (hc1 : n ≤ c1) (hc1m : c1 ≤ maxLen)
    (k1 : ∀ k, k < n → w.cell? ⟨b1, o1 + k, none⟩ = some (.int .u8 ((l.getD k 0 : Nat) : Int))) (k2 : ∀ k, k < m → w.cell? ⟨b2, o2 + k, none⟩ = some (.int .i64 (zs.getD k 0)))
    (hj : j ≤ m) (hin : ∀ i, i < j → 0 ≤ zs.getD i 0 ∧ zs.getD i 0 < r) (hout : j < m → ¬ (0 ≤ zs.getD j 0 ∧ zs.getD j 0 < r)) :
    Calls Try.prog 13 #[mv r c (.slice (some ⟨b1, o1, none⟩) n c1), .slice (some ⟨b2, o2, none⟩) m c2] w (fun e w' => (j = m → MO w m c (flat m c (pickm l c zs)) 0 e w') ∧ (j ≠ m → MO w 0 0 [] 1 e w')) := by
  have hv1 := fun w => valid_any r c (some ⟨b1, o1, none⟩) n c1 w
  rw [decide_eq_true hv] at hv1
  have hs := fun w => vsize_any m w
  rw [decide_eq_true (show In16 (m : Int) from ⟨by omega, by omega⟩)] at hs
  have hn : 1 ≤ r ∧ r ≤ 16 ∧ 1 ≤ c ∧ c ≤ 16 := by have := hv.1; unfold Sized at this; omega
  have e1 : n = r * c := by have := hv.2; exact_mod_cast this
  have hrw : Hid (∀ (q p : Nat) (w : World), q < r → p = q * c → Calls Try.prog 35 #[mv r c (.slice (some ⟨b1, o1, none⟩) n c1), .int .i64 (q : Int)] w fun e w' => e = .returned (.slice (some ⟨b1, o1 + p, none⟩) c (c1 - p)) ∧ Below w.heap.size w w') := fun q p w hq hp => row_any r c b1 o1 n c1 q p w hv.1 e1 hc1 hc1m hq hp
  have HV1 := Lib.hid hv1
  have HS := Lib.hid hs
  have E1 := Lib.hid e1
  have K1 := Lib.hid k1
  have K2 := Lib.hid k2
  have L1 := Lib.hid l1
  have LN := Lib.hid hln
  have IN := Lib.hid hin
  have OUT := Lib.hid hout
  have HC1 := Lib.hid hc1
  have HC1M := Lib.hid hc1m
  clear hv1 hs e1 k1 k2 l1 hln hin hout hv hc1 hc1m
  unfold MO mv at *
  go_enter Try.func13, Try.ntmps13
  go_wp2_with fail
  refine (HV1.out _).mono ?_
  rintro e w1 ⟨rfl, hB1⟩
  obtain ⟨r1, r2, hs1, hw1⟩ := two_later hB1
  obtain ⟨x0, x1, x2⟩ := row_cells r1
  have R1 := Lib.hid r1
  have R2 := Lib.hid r2
  have HW1 := Lib.hid hw1
  clear r1 r2 hw1 hB1 HV1
  go_wp2_with (go_at_call 34; refine (HS.out _).mono ?_; rintro e w' ⟨rfl, rfl⟩)
  have st := P2.start (w := w1) m c
  have r1 := (heap_alloc_old w1 (.cells #[.int .i64 m, .int .i64 c, .slice none 0 0] 24) (show w.heap.size < w1.heap.size by omega)).trans R1.out
  have r2 := (heap_alloc_old w1 (.cells #[.int .i64 m, .int .i64 c, .slice none 0 0] 24) (show w.heap.size + 1 < w1.heap.size by omega)).trans R2.out
  have hw := HW1.out.alloc HW1.out.size (.cells #[.int .i64 m, .int .i64 c, .slice none 0 0] 24)
  have hws : (w1.alloc (.cells #[.int .i64 m, .int .i64 c, .slice none 0 0] 24)).heap.size = w1.heap.size + 1 := by simp
  generalize w1.alloc (.cells #[.int .i64 m, .int .i64 c, .slice none 0 0] 24) = W at *
  have ST := Lib.hid st
  have Q1 := Lib.hid r1
  have Q2 := Lib.hid r2
  have HW := Lib.hid hw
  have HWS := Lib.hid hws
  clear st r1 r2 hw hws R1 R2 HW1 x0 x1 x2
  go_loopw [26] (fun i wr => ∃ (k : Nat) (sv : Value), k ≤ j ∧ i = .int .i64 (k : Int) ∧ P2 W wr w1.heap.size m c ((flat m c (pickm l c zs)).take (k * c)) sv) (fun i _ => m - (intOf i).toNat)
  case atStart => exact ⟨0, .slice none 0 0, by omega, rfl, by rw [Nat.zero_mul, List.take_zero]; exact ST.out⟩
  case round =>
    clear ST
    obtain ⟨k, sv, hk, rfl, hb⟩ := hrel
    have HB := Lib.hid hb
    clear hb
    by_cases hkm : k < m
    · have g2 := K2.out k hkm
      have hbl := HB.out.below HW.out (by omega)
      have f2 := (hbl.cell (p := ⟨b2, o2 + k, none⟩) (block_lt_of_cell g2)).trans g2
      have hrow := (HB.out.keep (by have := HWS.out; omega) (show w.heap.size ≠ w1.heap.size by omega)).trans Q1.out
      obtain ⟨z0, z1, z2⟩ := row_cells hrow
      have HROW := Lib.hid hrow
      have p0 : (0 : Int) ≤ (k : Int) := by omega
      have p1 : (k : Int) < (m : Int) := by omega
      clear hrow
      by_cases hlt : k < j
      · obtain ⟨h1, h2⟩ := IN.out k hlt
        obtain ⟨q, hq⟩ := Int.eq_ofNat_of_zero_le h1
        have hqr : q < r := by omega
        have htk := flat_row (c := c) (pickm l c zs) (show k < m by omega)
        have hrow : (List.range c).map (pickm l c zs k) = (l.drop (q * c)).take c := by
          rw [ent_row (by rw [LN.out, E1.out]; exact Nat.mul_le_mul_right c hqr)]
          refine List.map_congr_left fun i _ => ?_
          simp only [pickm, hq]
          rfl
        rw [hrow] at htk
        rw [hq] at f2
        obtain ⟨pp, hpp⟩ : ∃ pp, pp = q * c := ⟨_, rfl⟩
        have hpn : pp + c ≤ n := by rw [hpp, E1.out, ← Nat.succ_mul]; exact Nat.mul_le_mul_right c hqr
        have hE : ∀ d os, Calls Try.prog 35 #[.agg #[.int .i64 r, .int .i64 c, .slice (some ⟨b1, o1, none⟩) n c1], .int .i64 (q : Int)] (grow (redrawn wr d) os) fun e w'' => e = .returned (.slice (some ⟨b1, o1 + pp, none⟩) c (c1 - pp)) ∧ ∃ p : Regrown, w'' = grow (redrawn wr p.d) p.os := fun d os => Calls.regrown_of (hrw.out q pp _ hqr hpp)
        rw [← hpp] at htk
        have hcut := sl_cut (p := pp) (c := c) L1.out LN.out HC1M.out HC1.out (fun x hx => (hbl.cell (p := ⟨b1, o1 + x, none⟩) (block_lt_of_cell (K1.out x hx))).trans (K1.out x hx)) hpn
        have hcl : ((l.drop pp).take c).length ≤ 16 := by rw [List.length_take]; omega
        have hln2 : ((flat m c (pickm l c zs)).take (k * c)).length ≤ 256 := by
          rw [List.length_take, flat_length]
          have := Nat.mul_le_mul hm2 hn.2.2.2
          omega
        generalize (flat m c (pickm l c zs)).take (k * c) = L at HB htk hln2
        generalize (l.drop pp).take c = R at htk hcut hcl
        have HT := Lib.hid htk
        have HC := Lib.hid hcut
        have HE := Lib.hid hE
        have d1 : decide ((q : Int) < 0) = false := decide_eq_false (by omega)
        have d2 : decide ((r : Int) ≤ (q : Int)) = false := decide_eq_false (by omega)
        clear hcut htk hrow hbl g2 hpp hq h1 h2 hE
        go_wp2
        clear z0 z1 z2 f2 d1 d2
        obtain ⟨z0, z1, z2⟩ := cells3 HROW.out
        obtain ⟨y0, y1, y2⟩ := cells3 HB.out.row
        refine wp_region_bl_tail 5 (by kernel_rfl) (by kernel_rfl) ?_
        simp only [List.take_succ_cons, List.take_zero, List.drop_succ_cons, List.drop_zero]
        repeat (quiet_step ((go_at_call 35; exact HE.out _ _)))
        refine wpQuiet_nil ?_
        intro w9 hb9
        clear z0 z1 z2 y0 y1 y2
        have HB9 := Lib.hid (HB.out.later hb9)
        have HC9 := Lib.hid (sl_below HC.out hb9)
        have hsz := HB9.out.size
        clear HB HC hb9 HE HROW
        refine app_sl (dst := some 44) rfl rfl HB9.out.own HC9.out (by omega) hsz ?_
        intro v1 w3 ho1 hg1
        obtain ⟨av, nv, cv, hv1, -⟩ := own_form ho1
        subst hv1
        have HP1 := Lib.hid (HB9.out.push0 hg1 ho1)
        obtain ⟨hd1, hd2⟩ := HB9.out.app0 hg1
        clear ho1 hg1
        go_wp2
        go_roundw
        case rel => exact ⟨k + 1, _, by omega, by go_num, by rw [HT.out]; exact HP1.out⟩
        case measure => simp [intOf]; omega
      · obtain rfl : k = j := by omega
        have hbad := OUT.out (show k < m by omega)
        have zz := (HB.out.keep (by have := HWS.out; omega) (show w.heap.size + 1 ≠ w1.heap.size by omega)).trans Q2.out
        have ZZ := Lib.hid zz
        have BL := Lib.hid hbl
        clear zz hbl g2
        generalize zs.getD k 0 = z at f2 hbad
        by_cases hz : z < 0
        · have d1 : decide (z < 0) = true := decide_eq_true hz
          go_wp2_with ((with_reducible refine storeP (w.heap.size + 1) (.int .i64 0) (.int .i64 0) (.slice none 0 0) ?_ ?_ ZZ.out ?_ ?_ ?_ ?_); exact rfl; exact rfl; exact rfl; exact rfl; exact rfl)
          exact bodyPost_ret (results_px rfl _ _ (w.heap.size + 1) _ _ _ (0, 0) rfl (setRow_heap _ _ _ _ _ _ ZZ.out)) rfl ⟨fun h => absurd h (by omega), fun _ => ⟨⟨_, rfl, own_nil _ _⟩, below_setRow BL.out (by omega) _⟩⟩
        · have d1 : decide (z < 0) = false := decide_eq_false hz
          have hz2 : (r : Int) ≤ z := by omega
          have d2 : decide ((r : Int) ≤ z) = true := decide_eq_true hz2
          go_wp2_with ((with_reducible refine storeP (w.heap.size + 1) (.int .i64 0) (.int .i64 0) (.slice none 0 0) ?_ ?_ ZZ.out ?_ ?_ ?_ ?_); exact rfl; exact rfl; exact rfl; exact rfl; exact rfl)
          exact bodyPost_ret (results_px rfl _ _ (w.heap.size + 1) _ _ _ (0, 0) rfl (setRow_heap _ _ _ _ _ _ ZZ.out)) rfl ⟨fun h => absurd h (by omega), fun _ => ⟨⟨_, rfl, own_nil _ _⟩, below_setRow BL.out (by omega) _⟩⟩
    · obtain rfl : k = m := by omega
      obtain rfl : j = k := by omega
      have hl : (flat j c (pickm l c zs)).take (j * c) = flat j c (pickm l c zs) := by
        have := flat_length j c (pickm l c zs)
        rw [← this]
        exact List.take_length
      rw [hl] at HB
      have zz := (HB.out.keep (by have := HWS.out; omega) (show w.heap.size + 1 ≠ w1.heap.size by omega)).trans Q2.out
      have ZZ := Lib.hid zz
      clear zz
      go_wp2_with (first | ((with_reducible refine loadP w1.heap.size ?_ HB.out.row ?_); exact rfl) | ((with_reducible refine storeP (w.heap.size + 1) (.int .i64 j) (.int .i64 c) sv ?_ ?_ ZZ.out ?_ ?_ ?_ ?_); exact rfl; exact rfl; exact rfl; exact rfl; exact own_one HB.out.own))
      have h8 := HB.out.done HW.out (by omega) (show w.heap.size ≤ w.heap.size + 1 by omega) (by have := HWS.out; omega) (.int .i64 j) (.int .i64 c)
      exact bodyPost_ret (results_px rfl _ _ (w.heap.size + 1) _ _ _ (0, 0) rfl (setRow_heap _ _ _ _ _ _ ZZ.out)) rfl ⟨⟨_, rfl, h8.1⟩, h8.2⟩
theorem pick_any (r c : Int) (v1 v2 : Value) (l : List Nat) (zs : List Int) (w : World) (s1 : Sl w v1 l) (s2 : Si w v2 zs) : Calls Try.prog 13 #[mv r c v1, v2] w (pickPostS r c l zs w) := by
  unfold pickPostS
  by_cases ha : Vd r c l.length
  · by_cases hm : 1 ≤ zs.length ∧ zs.length ≤ 16
    · obtain ⟨j, h1, h2, h3⟩ := first_bad (fun i => 0 ≤ zs.getD i 0 ∧ zs.getD i 0 < r) zs.length
      obtain ⟨R, C, rfl, rfl, p1, _, p3, _, p5⟩ := vd_prod ha
      obtain ⟨b1, o1, c1, rfl, d1, d2, k1⟩ := sl_cells s1 (by rw [p5]; exact Nat.mul_pos p1 p3)
      obtain ⟨b2, o2, c2, rfl, _, _, k2⟩ := si_cells s2 (by omega)
      refine (pick_pos R C b1 o1 c1 b2 o2 c2 _ _ j l zs w ha rfl rfl hm.1 hm.2 s1.1 d1 d2 k1 k2 h1 h2 h3).mono fun e w' h => ?_
      by_cases e : j = zs.length
      · rw [if_pos ⟨ha, hm, fun i hi => h2 i (by omega)⟩]
        exact (h.1 e).ms
      · rw [if_neg fun x => h3 (by omega) (x.2.2 j (by omega))]
        exact (h.2 e).ms
    · rw [if_neg fun x => hm x.2.1]
      obtain ⟨a1, c1, rfl, -, -⟩ := sl_form s1
      obtain ⟨a2, c2, rfl, -, -⟩ := si_form s2
      exact (pick_bad r c a1 a2 _ _ c1 c2 w fun x => hm (by have := x.2; unfold In16 at this; omega)).mono fun _ _ h => h.ms
  · rw [if_neg fun x => ha x.1]
    obtain ⟨a1, c1, rfl, -, -⟩ := sl_form s1
    obtain ⟨a2, c2, rfl, -, -⟩ := si_form s2
    exact (pick_bad r c a1 a2 _ _ c1 c2 w fun x => ha x.1).mono fun _ _ h => h.ms
end Go.Proofs.Ytppfdaiehdbafaa.Gf
