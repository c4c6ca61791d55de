/- What is proved here: the contract of the program's withIdentity. No condition. -/
import Derived.Test.YtppfdaiehdbafaaG4c
namespace Go.Proofs.Ytppfdaiehdbafaa.Gf
open Go Go.ChangeShapes Go.WideShapes Go.ChangeAt Go.RowKit Go.Sort Go.Proofs.Ytppfdaiehdbafaa.By Go.Proofs.Ytppfdaiehdbafaa.Qt

theorem wid_row {n k : Nat} {A : Nat → Nat → Nat} (_hk : k < n) : (((List.range n).map (A k)) ++ List.replicate n 0).set (n + k) 1 = (List.range (n + n)).map (aug n A idm k) := by
  apply List.ext_getElem
  · simp
  · intro j h1 h2
    have hj : j < n + n := by simpa using h2
    rw [List.getElem_set]
    simp only [List.getElem_map, List.getElem_range, aug, idm]
    by_cases e : n + k = j
    · rw [if_pos e, if_neg (by omega), if_pos (by omega)]
    · rw [if_neg e]
      by_cases h : j < n
      · rw [if_pos h, List.getElem_append_left (by simpa using h)]
        simp
      · rw [if_neg h, List.getElem_append_right (by simpa using h), if_neg (by omega)]
        simp
set_option maxRecDepth 100000 in
set_option maxHeartbeats 3200000 in
theorem wid_pos (n N b o cap : Nat) (l : List Nat) (w : World) (hv : Sized n n) (hN : N = n * n) (hl : l.length = N) (l1 : ∀ x ∈ l, x < 256) (hc : N ≤ cap) (hm : cap ≤ maxLen)
    (k1 : ∀ k, k < N → w.cell? ⟨b, o + k, none⟩ = some (.int .u8 ((l.getD k 0 : Nat) : Int))) :
    Calls Try.prog 36 #[mv n n (.slice (some ⟨b, o, none⟩) N cap)] w fun e w' => (∃ G vs, e = .returned (.slice (some ⟨G, 0, none⟩) n n) ∧ Rw w' w.heap.size G n vs (rowsOf n (n + n) (aug n (ent l n) idm))) ∧ Below w.heap.size w w' := by
  have hn : 1 ≤ n ∧ n ≤ 16 := by unfold Sized at hv; omega
  have hrw : Hid (∀ (q p : Nat) (w : World), q < n → p = q * n → Calls Try.prog 35 #[mv n n (.slice (some ⟨b, o, none⟩) N cap), .int .i64 (q : Int)] w fun e w' => e = .returned (.slice (some ⟨b, o + p, none⟩) n (cap - p)) ∧ Below w.heap.size w w') := fun q p w hq hp => row_any n n b o N cap q p w hv hN hc hm hq hp
  have K1 := Lib.hid k1
  have L1 := Lib.hid l1
  have LN := Lib.hid hl
  have HN := Lib.hid hN
  have HC := Lib.hid hc
  have HM := Lib.hid hm
  have E0 := Lib.hid (heap_alloc2_old w (.cells #[.int .i64 n, .int .i64 n, .slice (some ⟨b, o, none⟩) N cap] 24) (.cells (Array.replicate n (.slice none 0 0)) 22))
  have hr0 := rw_made (w.alloc (.cells #[.int .i64 n, .int .i64 n, .slice (some ⟨b, o, none⟩) N cap] 24)) (base := w.heap.size) (n := n) (by simp)
  rw [show (w.alloc (.cells #[.int .i64 n, .int .i64 n, .slice (some ⟨b, o, none⟩) N cap] 24)).heap.size = w.heap.size + 1 by simp] at hr0
  have R0 := Lib.hid hr0
  have B0 := Lib.hid (show Below w.heap.size w ((w.alloc (.cells #[.int .i64 n, .int .i64 n, .slice (some ⟨b, o, none⟩) N cap] 24)).alloc (.cells (Array.replicate n (.slice none 0 0)) 22)) from ((Below.refl _ _).alloc (Nat.le_refl _) _).alloc (by simp) _)
  clear k1 l1 hl hN hc hm hr0 hv
  unfold mv at *
  go_enter Try.func36, Try.ntmps36
  go_wp2_with ((with_reducible refine make_rows (n := n) ?_ (by omega) ?_); exact rfl)
  generalize ((w.alloc (.cells #[.int .i64 n, .int .i64 n, .slice (some ⟨b, o, none⟩) N cap] 24)).alloc (.cells (Array.replicate n (.slice none 0 0)) 22)) = W at *
  go_loopw [10] (fun i wr => ∃ (k : Nat) (vs : List Value) (L : List (List Nat)), k ≤ n ∧ i = .int .i64 (k : Int) ∧ Rw wr w.heap.size (w.heap.size + 1) n vs L ∧ (∀ j, j < n → L.getD j [] = if j < k then (List.range (n + n)).map (aug n (ent l n) idm j) else []) ∧ (∀ j, k ≤ j → j < n → vs.getD j undef = .slice none 0 0) ∧ wr.heap[w.heap.size]? = some (.cells #[.int .i64 n, .int .i64 n, .slice (some ⟨b, o, none⟩) N cap] 24 (0, 0)) ∧ Below w.heap.size w wr) (fun i _ => n - (intOf i).toNat)
  case atStart => exact ⟨0, _, _, by omega, rfl, R0.out, fun j hj => by simp [List.getD, hj], fun j _ hj => by simp [List.getD, hj], E0.out, B0.out⟩
  case round =>
    clear R0 E0 B0
    obtain ⟨k, vs, L, hk, rfl, hR, hL, hV, hE, hB⟩ := hrel
    have HR := Lib.hid hR
    have HL := Lib.hid hL
    have HV := Lib.hid hV
    have HE := Lib.hid hE
    have HB := Lib.hid hB
    clear hR hL hV hE hB
    by_cases hlt : k < n
    · obtain ⟨p, hp⟩ : ∃ p, p = k * n := ⟨_, rfl⟩
      have hpn : p + n ≤ N := by rw [hp, HN.out, ← Nat.succ_mul]; exact Nat.mul_le_mul_right n hlt
      have hrow : (l.drop p).take n = (List.range n).map (ent l n k) := by rw [hp]; exact ent_row (by rw [LN.out, HN.out]; exact Nat.mul_le_mul_right n hlt)
      go_wp2
      refine wp_region_any (by kernel_rfl) ?_
      have hd1 := (Below.refl wr.heap.size wr).drew
      change wpAny _ _ _ _ _ _ _ wr.drew
      generalize wr.drew = W1 at hd1 ⊢
      have hR1 := HR.out.later hd1
      have hB1 := bt HB.out hd1
      have hE1 := (hd1.block _ (lt_of_some HE.out)).trans HE.out
      have hcut := sl_cut (p := p) (c := n) L1.out LN.out HM.out HC.out (fun x hx => (hB1.cell (p := ⟨b, o + x, none⟩) (block_lt_of_cell (K1.out x hx))).trans (K1.out x hx)) hpn
      rw [hrow] at hcut
      have hst := Wk.start hR1 hlt (HV.out k (Nat.le_refl _) hlt)
      have hcell := (hst.cell (by have := hR1.vlen; omega)).1
      have hEr : ∀ d os, Calls Try.prog 35 #[.agg #[.int .i64 n, .int .i64 n, .slice (some ⟨b, o, none⟩) N cap], .int .i64 (k : Int)] (grow (redrawn W1 d) os) fun e w'' => e = .returned (.slice (some ⟨b, o + p, none⟩) n (cap - p)) ∧ ∃ p : Regrown, w'' = grow (redrawn W1 p.d) p.os := fun d os => Calls.regrown_of (hrw.out k p _ hlt hp)
      have HER := Lib.hid hEr
      have HR1 := Lib.hid hR1
      have HB1 := Lib.hid hB1
      have HE1 := Lib.hid hE1
      have HCUT := Lib.hid hcut
      have HST := Lib.hid hst
      have i1 : (0 : Int) ≤ (k : Int) := by omega
      have i2 : (k : Int) < (n : Int) := by omega
      clear hEr hR1 hB1 hE1 hcut hst HR HB HE hd1 hrow
      refine wpAny_take (i := 0) (v := .slice (some ⟨w.heap.size + 1, 0, none⟩) n n) rfl (by kernel_rfl) (by kernel_rfl) (by kernel_rfl) (fun _ _ _ h => h) (Or.inl ⟨by rfl, fun w => by rfl⟩) ?_
      refine wpAny_take (i := 1) (v := .int .i64 (k : Int)) rfl (by kernel_rfl) (by kernel_rfl) (by kernel_rfl) (fun _ _ _ h => h) (Or.inl ⟨by rfl, fun w => by rfl⟩) ?_
      refine any_bl_pick [2, 3, 4, 5, 6, 7, 8] 9 [10, 11] (by rfl) (by kernel_rfl) (by rfl) (by rfl) ?_
      simp only [pickOps, List.filterMap_cons, List.filterMap_nil, List.getElem?_toArray, List.getElem?_cons_zero, List.getElem?_cons_succ]
      have g0 := cells_regrown hcell
      obtain ⟨d0, d1, d2⟩ := cells3 HE1.out
      repeat (quiet_step ((go_at_call 35; exact HER.out _ _)))
      refine wpQuiet_nil ?_
      intro w9 hb9
      have hst9 := HST.out.later hb9
      have hcut9 := sl_below HCUT.out hb9
      have hvl : k < vs.length := by have := HR1.out.vlen; omega
      have BOX9 := Lib.hid ((hb9.block _ (lt_of_some HE1.out)).trans HE1.out)
      clear g0 d0 d1 d2 hcell HER HST HCUT hb9
      have hlr : ((List.range n).map (ent l n k)).length = n := by simp
      generalize hrr : (List.range n).map (ent l n k) = R at hcut9 hlr
      have HRR := Lib.hid hrr
      clear hrr
      refine app_sl (dst := some 22) rfl rfl hst9.own hcut9 (by simp; omega) hst9.size ?_
      intro v1 w3 ho1 hg1
      rw [List.nil_append] at ho1
      obtain ⟨g1, cap1, hv1, -, -⟩ := own_some ho1 (by omega)
      subst hv1
      have h3 := hst9.grow hg1 ho1
      have BOX3 := Lib.hid ((hg1.block _ (lt_of_some BOX9.out) (fun e => by cases e)).trans BOX9.out)
      obtain ⟨q1, q2⟩ := h3.cell hvl
      have H4 := Lib.hid h3.store
      have BOX4 := Lib.hid ((heap_setCell_other w3 ⟨w.heap.size + 1, k, none⟩ w.heap.size (.slice (some ⟨g1, 0, none⟩) R.length cap1) (show w.heap.size ≠ w.heap.size + 1 by omega)).trans BOX3.out)
      clear hst9 hcut9 ho1 hg1 h3 BOX3 BOX9
      generalize hlr' : R.length = nr at H4 BOX4 q1 q2 ⊢
      have hnr : n = nr := hlr.symm.trans hlr'
      subst hnr
      clear hlr'
      go_wp2
      clear q1 q2
      refine wp_region_any (by kernel_rfl) ?_
      generalize w3.setCell ⟨w.heap.size + 1, k, none⟩ (.slice (some ⟨g1, 0, none⟩) n cap1) = W4 at *
      have hd1 := (Below.refl W4.heap.size W4).drew
      change wpAny _ _ _ _ _ _ _ W4.drew
      generalize W4.drew = W5 at hd1 ⊢
      have h5 := H4.out.later hd1
      have H5 := Lib.hid h5
      have BOX5 := Lib.hid ((hd1.block _ (lt_of_some BOX4.out)).trans BOX4.out)
      clear hd1 H4 BOX4
      refine wpAny_take (i := 0) (v := .slice (some ⟨w.heap.size + 1, 0, none⟩) n n) rfl (by kernel_rfl) (by kernel_rfl) (by kernel_rfl) (fun _ _ _ h => h) (Or.inl ⟨by rfl, fun w => by rfl⟩) ?_
      refine wpAny_take (i := 1) (v := .int .i64 (k : Int)) rfl (by kernel_rfl) (by kernel_rfl) (by kernel_rfl) (fun _ _ _ h => h) (Or.inl ⟨by rfl, fun w => by rfl⟩) ?_
      refine any_bl_pick [2, 3, 4, 5, 6, 7] 8 [9, 10] (by rfl) (by kernel_rfl) (by rfl) (by rfl) ?_
      simp only [pickOps, List.filterMap_cons, List.filterMap_nil, List.getElem?_toArray, List.getElem?_cons_zero, List.getElem?_cons_succ]
      have g0 := cells_regrown (h5.cell hvl).1
      obtain ⟨d0, d1, d2⟩ := cells3 BOX5.out
      repeat (quiet_step (fail))
      refine wpQuiet_nil ?_
      intro w9 hb9
      clear g0 d0 d1 d2 h5
      have h9 := H5.out.later hb9
      have BOX9 := Lib.hid ((hb9.block _ (lt_of_some BOX5.out)).trans BOX5.out)
      clear hb9 H5 BOX5
      refine appz_sl (dst := some 32) (m := n) rfl rfl h9.own hn.1 (by omega) (by have := h9.size; exact this) ?_
      intro v1 w10 ho1 hg1
      have hlr2 : (R ++ List.replicate n 0).length = n + n := by simp [hlr]
      obtain ⟨g2, cap2, hv1, -, -⟩ := own_some ho1 (by omega)
      subst hv1
      have h10 := h9.grow hg1 ho1
      have BOX10 := Lib.hid ((hg1.block _ (lt_of_some BOX9.out) (fun e => by have := h9.own.lt _ e.symm; have := h9.lt; omega)).trans BOX9.out)
      obtain ⟨q1, q2⟩ := h10.cell hvl
      have H11 := Lib.hid h10.store
      have BOX11 := Lib.hid ((heap_setCell_other w10 ⟨w.heap.size + 1, k, none⟩ w.heap.size (.slice (some ⟨g2, 0, none⟩) (R ++ List.replicate n 0).length cap2) (show w.heap.size ≠ w.heap.size + 1 by omega)).trans BOX10.out)
      have RR2 : Hid (R ++ List.replicate n 0 = R ++ List.replicate n 0) := rfl
      clear h9 ho1 hg1 h10 BOX10 BOX9
      have hfin := wid_row (A := ent l n) hlt
      rw [HRR.out] at hfin
      generalize hR2 : R ++ List.replicate n 0 = R2 at *
      generalize hlr' : R2.length = nr at H11 BOX11 q1 q2 ⊢
      have hnr : n + n = nr := hlr2.symm.trans hlr'
      subst hnr
      clear hlr'
      go_wp2
      clear q1 q2
      generalize w10.setCell ⟨w.heap.size + 1, k, none⟩ (.slice (some ⟨g2, 0, none⟩) (n + n) cap2) = W11 at *
      have g0 := cells_regrown (H11.out.cell hvl).1
      obtain ⟨d0, d1, d2⟩ := cells3 BOX11.out
      have v1 : IntKind.i64.wrap ((n : Int) + (k : Int)) = (n : Int) + (k : Int) := IntWalk.i64_in _ (by omega)
      have j1 : (0 : Int) ≤ (n : Int) + (k : Int) := by omega
      have j2 : (n : Int) + (k : Int) < (n : Int) + (n : Int) := by omega
      refine wp_region_bl_tail 9 (by kernel_rfl) (by kernel_rfl) ?_
      simp only [List.take_succ_cons, List.take_zero, List.drop_succ_cons, List.drop_zero]
      repeat (quiet_step (fail))
      refine wpQuiet_nil ?_
      intro w12 hb12
      clear g0 d0 d1 d2 v1
      have H12 := Lib.hid (H11.out.later hb12)
      have BOX12 := Lib.hid ((hb12.block _ (lt_of_some BOX11.out)).trans BOX11.out)
      obtain ⟨q1, q2, _⟩ := own_cell H12.out.own hlr2 (show n + k < n + n by omega)
      clear hb12 H11 BOX11
      have hpk := H12.out.poke hlr2 (show n + k < n + n by omega) (z := 1) (by decide)
      have hg2 := (H12.out.own.lt g2 rfl)
      have hW1s := HB1.out.size
      have hG1 := H12.out.lt
      rw [hfin] at hpk
      have hrr := hpk.done HR1.out hlt hW1s
      have hbb := hpk.below HB1.out (by omega)
      have hbx := (heap_setCell_other w12 ⟨g2, n + k, none⟩ w.heap.size (.int .u8 ((1 : Nat) : Int)) (show w.heap.size ≠ g2 by omega)).trans BOX12.out
      have HRR2 := Lib.hid hrr
      have HBB := Lib.hid hbb
      have HBX := Lib.hid hbx
      have hllen := HR1.out.llen
      clear hpk hrr hbb hbx H12 BOX12 hfin
      go_wp2
      · exact absurd (q2.symm.trans (show _ = true by assumption)) (by decide)
      go_roundw
      case rel =>
        refine ⟨k + 1, _, _, by omega, by go_num, HRR2.out, fun j hj => ?_, fun j hj1 hj2 => ?_, HBX.out, HBB.out⟩
        · by_cases e : j = k
          · subst e
            rw [getD_set_eq (by omega), if_pos (by omega)]
          · rw [getD_set_other e, HL.out j hj]
            by_cases h : j < k
            · rw [if_pos h, if_pos (by omega)]
            · rw [if_neg h, if_neg (by omega)]
        · rw [getD_set_other (by omega)]
          exact HV.out j (by omega) hj2
      case measure => simp [intOf]; omega
    · obtain rfl : k = n := by omega
      have hL : L = rowsOf k (k + k) (aug k (ent l k) idm) := by
        have hll := HR.out.llen
        apply List.ext_getElem (by rw [hll, rowsOf_length])
        intro j h1 h2
        have hj : j < k := by omega
        have h3 := HL.out j hj
        rw [if_pos hj] at h3
        have h4 := rowsOf_getD (m := k + k) (aug k (ent l k) idm) hj
        simp only [List.getD] at h3 h4
        rw [List.getElem?_eq_getElem h1] at h3
        rw [List.getElem?_eq_getElem h2] at h4
        simp only [Option.getD_some] at h3 h4
        rw [h3, h4]
      rw [hL] at HR
      go_wp2
      go_ret
      exact ⟨⟨_, _, rfl, HR.out⟩, HB.out⟩
end Go.Proofs.Ytppfdaiehdbafaa.Gf
