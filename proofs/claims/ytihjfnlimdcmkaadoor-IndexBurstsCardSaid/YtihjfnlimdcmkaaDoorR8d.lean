/- What is proved here: the contract of the reference's Sorted (layer 8). Condition: lists of at most 1000000 items. -/
import Derived.Test.YtihjfnlimdcmkaaDoorR8c
namespace Go.Proofs.YtihjfnlimdcmkaaDoor.Gf
open Go Go.Joins Go.ChangeShapes Go.WideShapes Go.ChangeAt Go.RowKit Go.Deep Go.Proofs.YtihjfnlimdcmkaaDoor.By Go.Proofs.YtihjfnlimdcmkaaDoor.Qt

def onlyN (Q : Exit → Act → World → Prop) : Exit → Act → World → Prop
  | .normal, a, w => Q .normal a w
  | _, _, _ => False
theorem wp_onlyN {P : Program} {c : Code} {Q : Exit → Act → World → Prop} {a : Act} {w : World} (h : c.wp P (onlyN Q) a w) : c.wp P Q a w :=
  Code.wp_mono (fun e a w h => by cases e <;> first | exact h | exact h.elim) h
theorem wp_region_headsS {P : Program} {id : Nat} {Q : Exit → Act → World → Prop} {a : Act} {w : World} {l : List Oper} (S : World → Prop) (hd : List Nat) (fuel : Nat) (hm : P.follows .mixedOrders = true) (hQ : ∀ c (a : Act) d v w, Q (.panic c) (a.put d v) w → Q (.panic c) a w)
    (hB : (Region.noSelect l.toArray && headsB .any l.toArray hd (Array.replicate l.toArray.size false)) = true) (hf : l.toArray.size = hd.length + fuel) (h1 : (pickOps l.toArray hd).map some = hd.map (fun t => l.toArray[t]?)) (hS : S w.drew)
    (h : wpHeads P l.toArray S (fun a' => wpAnyH P .any l.toArray Q S fuel (listAll hd (Array.replicate l.toArray.size false)) a' w.drew) (pickOps l.toArray hd) a) : (Code.region id l.toArray true).wp P Q a w := by
  simp only [Bool.and_eq_true] at hB
  refine wp_region_held (S := S) hm ?_
  have := held_heads (P := P) (md := .any) (Q := Q) hB.1 hQ hS hd _ _ a hB.2 h1 h
  rw [hf] at *
  exact this
theorem bel_al (w : World) (o : Obj) : Below w.heap.size w (w.alloc o) := (Below.refl _ _).alloc (Nat.le_refl _) _
theorem take_snocT {L : List Itm} {i : Nat} (h : i < L.length) : L.take (i + 1) = L.take i ++ [L.getD i z0] := by
  rw [List.take_succ_eq_append_getElem h]
  simp [List.getD, h]
theorem owT_own {w : World} {base : Nat} {v : Value} {L : List Itm} (h : OwT w base v L) : ∀ k, v.ownBlock = some k → k < w.heap.size := fun k hk => (owT_lt h k hk).2
theorem owT_addr {w : World} {base n cap : Nat} {a : Option Addr} {L : List Itm} (h : OwT w base (.slice a n cap) L) : (a = none ∧ n = 0 ∧ cap = 0) ∨ ∃ g, a = some ⟨g, 0, none⟩ := by
  obtain ⟨_, _, ⟨h1, _⟩ | ⟨g, cap', cur, h1, _⟩⟩ := h
  · exact Or.inl (by simpa using h1)
  · obtain ⟨h2, -, -⟩ : a = some ⟨g, 0, none⟩ ∧ n = L.length ∧ cap = cap' := by simpa using h1
    exact Or.inr ⟨g, h2⟩
theorem sort_step {L : List Itm} {i j : Nat} (hi : i < L.length) (hj : j ≤ (sortL (L.take i)).length) (h1 : ∀ q, q < j → ((sortL (L.take i)).getD q z0).key < (L.getD i z0).key) (h2 : j < (sortL (L.take i)).length → ¬ ((sortL (L.take i)).getD j z0).key < (L.getD i z0).key) :
    sortL (L.take (i + 1)) = (sortL (L.take i)).take j ++ [L.getD i z0] ++ rstL (L.getD i z0).key ((sortL (L.take i)).drop j) := by
  rw [take_snocT hi, sortL_snoc, insL_split]
  generalize sortL (L.take i) = S at *
  generalize L.getD i z0 = x at *
  have hc : cntL x.key S = j := cntL_spec x.key S j hj (fun q hq hqj => by have := h1 q hqj; simpa [List.getD, hq] using this) (fun hq => by have := h2 hq; simpa [List.getD, hq] using this)
  rw [hc]
  simp
set_option maxRecDepth 100000 in
set_option maxHeartbeats 12800000 in
theorem rsorted_any (v : Value) (L : List Itm) (w : World) (s : It w v L) (hlen : L.length ≤ 1000000) : Calls Tryd.prog 33 #[v] w fun e w' => (∃ v', e = .returned v' ∧ OwT w' w.heap.size v' (sortL L)) ∧ Below w.heap.size w w' := by
  obtain ⟨al, cl, rfl, -, -⟩ := it_form s
  obtain ⟨n, hn⟩ : ∃ n, n = L.length := ⟨_, rfl⟩
  rw [← hn] at hlen ⊢
  have N := Lib.hid hn
  have S0 := Lib.hid s
  rw [← hn] at S0
  clear hn s
  go_enter Tryd.func33, Tryd.ntmps33
  go_wp2_with fail
  go_loopw [3, 4] (fun out t wr => ∃ i : Nat, i ≤ n ∧ t = .int .i64 (i : Int) ∧ OwT wr w.heap.size out (sortL (L.take i)) ∧ Below w.heap.size w wr) (fun _ t _ => n - (intOf t).toNat)
  case atStart => exact ⟨0, by omega, rfl, owT_nil _ _, Below.refl _ _⟩
  case round =>
    obtain ⟨i, hi, rfl, ho, hB⟩ := hrel
    by_cases hin : i < n
    case neg =>
      obtain rfl : i = n := by omega
      have hl4 : decide ((i : Int) < (i : Int)) = false := decide_eq_false (by omega)
      have HO : Hid (OwT wr w.heap.size u3 (sortL L)) := by
        rw [List.take_of_length_le (by have := N.out; omega)] at ho
        exact ho
      have HB := Lib.hid hB
      obtain ⟨ao, co, rfl, -, -⟩ := owT_form ho
      clear ho hB
      generalize (sortL (L.take i)).length = m at *
      go_wp2
      go_ret
      exact ⟨⟨_, rfl, HO.out⟩, HB.out⟩
    have hl4 : decide ((i : Int) < (n : Int)) = true := decide_eq_true (by omega)
    have p0 : (0 : Int) ≤ (i : Int) := by omega
    have p1 : (i : Int) < (n : Int) := by omega
    have N' := N.out
    obtain ⟨b1, o1, c1', hv1, -, -, hk1⟩ := it_cells S0.out (by omega)
    obtain ⟨rfl, -, -⟩ : al = some ⟨b1, o1, none⟩ ∧ n = L.length ∧ cl = c1' := by simpa using hv1
    have KX : Hid (∀ W, Below w.heap.size w W → C4 W b1 (o1 + i * 4) (L.getD i z0)) := fun W hW => (hk1 i (by omega)).below hW
    have OKX := Lib.hid (getT_ok S0.out.1 i)
    have ST := Lib.hid (fun j => sort_step (L := L) (i := i) (j := j) (by omega))
    have hSl : (sortL (L.take i)).length ≤ 1000000 := Nat.le_trans (length_sortL _) (by rw [List.length_take]; omega)
    obtain ⟨ao, co, rfl, hmc, hcm⟩ := owT_form ho
    obtain ⟨m, hm⟩ : ∃ m, m = (sortL (L.take i)).length := ⟨_, rfl⟩
    generalize sortL (L.take i) = S at *
    generalize L.getD i z0 = x at *
    rw [← hm] at ho hSl hmc ⊢
    have M := Lib.hid hm
    have HO := Lib.hid ho
    have HB := Lib.hid hB
    have MC := Lib.hid hmc
    have HCM : Hid (∀ q, co - q ≤ maxLen) := fun q => by omega
    have hmI : (m : Int) ≤ 1000000 := by omega
    clear hk1 hv1 N' ho hB hm hmc hcm
    rename World => wo
    go_wp2_with fail
    go_loopw [5] (fun t wr => ∃ j : Nat, j ≤ m ∧ t = .int .i64 (j : Int) ∧ (∀ q, q < j → (S.getD q z0).key < x.key) ∧ Below wo.heap.size wo wr) (fun t _ => m - (intOf t).toNat)
    case atStart => exact ⟨0, by omega, rfl, (fun q hq => by omega), Below.refl _ _⟩
    case round =>
      obtain ⟨j, hj, rfl, hlt, hB2⟩ := hrel
      have hB3 : Below w.heap.size w wr := bt HB.out hB2
      obtain ⟨x0, x1, x2, x3⟩ := KX.out wr hB3
      have HO2 := Lib.hid (owT_below HO.out hB2)
      have HB3 := Lib.hid hB3
      have HB2 := Lib.hid hB2
      by_cases hjm : j < m
      · have hl5 : decide ((j : Int) < (m : Int)) = true := decide_eq_true (by omega)
        have p2 : (0 : Int) ≤ (j : Int) := by omega
        have p3 : (j : Int) < (m : Int) := by omega
        have M' := M.out
        obtain ⟨b2, o2, c2', hv2, -, -, hk2⟩ := it_cells (owT_it HO2.out) (by omega)
        obtain ⟨rfl, -, -⟩ : ao = some ⟨b2, o2, none⟩ ∧ m = S.length ∧ co = c2' := by simpa using hv2
        have k2 := (hk2 j (by omega)).c0
        by_cases hky : (S.getD j z0).key < x.key
        · have d1 : decide (((S.getD j z0).key : Int) < (x.key : Int)) = true := decide_eq_true (by omega)
          have HL2 : Hid (∀ q, q < j + 1 → (S.getD q z0).key < x.key) := fun q hq => by
            by_cases e : q = j
            · subst e; exact hky
            · exact hlt q (by omega)
          clear hk2 hv2 M' hlt hB2 hB3
          generalize S.getD j z0 = y at *
          go_wp2
          go_quiet (fail)
          have hd := bt HB2.out (below_drewN wr nq)
          clear HB2 HB3 HO2 x0 x1 x2 x3 k2
          generalize wr.drewN nq = W9 at *
          go_wp2
          go_roundw
          case rel => exact ⟨j + 1, by omega, by go_num, HL2.out, hd⟩
          case measure => simp [intOf]; omega
        · have d1 : decide (((S.getD j z0).key : Int) < (x.key : Int)) = false := decide_eq_false (by omega)
          have d1' : ¬ (S.getD j z0).key < x.key := hky
          have HST := Lib.hid (ST.out j (by omega) hlt fun _ => hky)
          have hdr : S.drop j = S.getD j z0 :: S.drop (j + 1) := by
            rw [List.drop_eq_getElem_cons (by omega : j < S.length)]
            simp [List.getD, show j < S.length by omega]
          have HDR := Lib.hid hdr
          clear hk2 hv2 M' hlt hB2 hB3 hdr
          generalize S.getD j z0 = y at *
          go_wp2
          go_quiet (fail)
          have hdn := below_drewN wr nq
          have HB4 := Lib.hid (bt HB2.out hdn)
          have HB5 := Lib.hid (bt HB3.out hdn)
          have HO5 := Lib.hid (owT_below HO2.out hdn)
          clear HB2 HB3 HO2 x0 x1 x2 x3 k2 hdn
          generalize wr.drewN nq = W5 at *
          have OE := Lib.hid (owT_empty W5 (base := W5.heap.size) (Nat.le_refl _))
          have BA := Lib.hid (bel_al W5 (.cells #[] 41))
          have q1 : ¬ co = j := by have := MC.out; omega
          have HDL : Hid (m - j = (S.drop j).length) := by show _ = _; rw [List.length_drop]; have := M.out; omega
          have hf := it_cut (it_below (owT_it HO5.out) BA.out) j (m - j) (by have := M.out; omega)
          rw [List.take_of_length_le (by rw [List.length_drop]; have := M.out; omega)] at hf
          have HF := Lib.hid hf
          have HLD : Hid (([] : List Itm).length + (S.drop j).length ≤ 100000000) := by show _ ≤ _; have := M.out; simp; omega
          clear hf
          go_wp2_with (at_builtin; refine app_it (dst := some 36) ?_ ?_ OE.out HF.out HLD.out (by simp) ?_; exact rfl; exact rfl; intro vr w6 ho6 hg6; have B6 := Lib.hid (below_grownT BA.out hg6 OE.out (Nat.le_of_lt (by simp)) (Nat.le_refl _)); rw [List.nil_append] at ho6; obtain ⟨ar, cr, hvr, -, -⟩ := owT_form ho6; rw [← HDL.out] at hvr; subst hvr; have HO6 := Lib.hid ho6; clear ho6 hg6)
          have HRI := Lib.hid (owT_it HO6.out)
          have HAP6 := Lib.hid (ap_own HO6.out)
          have hdl := HDL.out
          have hpos : 0 < (S.drop j).length := by omega
          obtain ⟨br, or, cr', hvr, hcr1, hcr2, hkr⟩ := it_cells HRI.out hpos
          obtain ⟨rfl, -, rfl⟩ : ar = some ⟨br, or, none⟩ ∧ m - j = (S.drop j).length ∧ cr = cr' := by simpa using hvr
          have r0 := (hkr 0 hpos).c0
          rw [show (S.drop j).getD 0 z0 = y by rw [HDR.out]; rfl, Nat.zero_mul, Nat.add_zero] at r0
          obtain ⟨x0, x1, x2, x3⟩ := KX.out w6 (bt HB5.out B6.out)
          obtain ⟨mj, hmj⟩ : ∃ mj, mj = m - j := ⟨_, rfl⟩
          rw [← hmj] at hdl HRI HAP6 HO6 HDL ⊢
          have g1 : decide ((0 : Int) < (mj : Int)) = true := decide_eq_true (by omega)
          have g2 : (0 : Int) < (mj : Int) := by omega
          have g3 : mj ≤ cr := by omega
          have g4 : 0 < mj := by omega
          have g5 : j ≤ co := by have := MC.out; omega
          have g6 : (j : Int) ≤ (co : Int) := by omega
          have HMJ := Lib.hid hmj
          have HCR := Lib.hid hcr2
          clear hvr hkr hpos hdl hmj hcr1 hcr2
          by_cases hye : y.key = x.key
          · have e1 : ((y.key : Int) == (x.key : Int)) = true := by rw [beq_iff_eq]; omega
            have e2 : y.key = x.key := hye
            have hrm : rstL x.key (S.drop j) = S.drop (j + 1) := by rw [HDR.out]; exact if_pos hye
            have hdd : (S.drop j).drop 1 = S.drop (j + 1) := by rw [List.drop_drop]
            by_cases hc1 : cr = 1
            · obtain rfl : mj = 1 := by omega
              have HRM : Hid (rstL x.key (S.drop j) = ([] : List Itm)) := by
                show _ = _
                rw [hrm, ← hdd]
                exact List.drop_of_length_le (by rw [← HDL.out]; exact Nat.le_refl _)
              clear hrm hdd
              subst hc1
              go_wp2_with fail
              go_quiet (fail)
              have hd7 := below_drewN w6 nq
              have HO7 := Lib.hid (owT_below (owT_below HO5.out B6.out) hd7)
              have HB7 := Lib.hid (bt (bt HB5.out B6.out) hd7)
              have HG7 := Lib.hid (owT_own (owT_take HO5.out (k := j) (by have := M.out; omega)))
              have HAP7 : Hid (∀ q k c, Ap (.slice (some ⟨br, q, none⟩) k c) W5.heap.size) := fun q k c a n c2 e => by
                have h := HAP6.out _ _ _ rfl
                obtain ⟨e1, -⟩ : (⟨br, q, none⟩ : Addr) = a ∧ _ := by simpa using e
                rw [← e1]
                exact h
              have HR7 := Lib.hid (it_empty (w := w6.drewN nq) (some ⟨br, or, none⟩) 0 (Nat.zero_le _))
              have HRL : Hid (([] : List Itm).length ≤ 1000000) := by show _ ≤ _; simp
              clear hd7 HO6 B6 HB5 HO5 HRI x0 x1 x2 x3 r0
              generalize w6.drewN nq = W7 at *
              go_wp2_with fail
              refine wp_onlyN ?_
              refine wp_region_headsS (fun w' => Below w.heap.size w w') [0, 1, 2, 3, 4, 5, 6, 9] 4 (by kernel_rfl) (fun _ _ _ _ _ h => h.elim) (by kernel_rfl) (by rfl) (by rfl) HB7.out.drew ?_
              simp only [pickOps, List.filterMap_cons, List.filterMap_nil, List.getElem?_toArray, List.getElem?_cons_zero, List.getElem?_cons_succ]
              refine wpHeads_step (fun K hK => ?_)
              go_simp
              refine ⟨_, fun _ _ => rfl, hK _ ?_⟩
              clear hK K
              refine wpHeads_step (fun K hK => ?_)
              go_simp
              refine ⟨_, fun _ _ => rfl, hK _ ?_⟩
              clear hK K
              refine wpHeads_step (fun K hK => ?_)
              go_simp
              refine ⟨_, fun _ _ => rfl, hK _ ?_⟩
              clear hK K
              refine wpHeads_step (fun K hK => ?_)
              go_simp
              refine ⟨_, fun _ _ => rfl, hK _ ?_⟩
              clear hK K
              refine wpHeads_step (fun K hK => ?_)
              go_simp
              refine ⟨_, fun _ _ => rfl, hK _ ?_⟩
              clear hK K
              refine wpHeads_step (fun K hK => ?_)
              go_simp
              refine ⟨_, fun _ _ => rfl, hK _ ?_⟩
              clear hK K
              refine wpHeads_step (fun K hK => ?_)
              go_simp
              refine ⟨.agg #[.int .u64 (x.key : Int), .int .u32 (x.ck : Int), .int .i64 x.off, .int .i64 x.sz], fun w' hw' => by obtain ⟨u0, u1, u2, u3⟩ := KX.out w' hw'; simp [u0, u1, u2, u3], hK _ ?_⟩
              clear hK K
              refine wpHeads_step (fun K hK => ?_)
              go_simp
              refine ⟨_, fun _ _ => rfl, hK _ ?_⟩
              clear hK K
              refine wpHeads_nil ?_
              have HO8 := Lib.hid (owT_below HO7.out ((Below.refl _ W7).drew))
              have HR8 := Lib.hid (it_below HR7.out ((Below.refl _ W7).drew))
              have HB8 := Lib.hid HB7.out.drew
              clear HO7 HR7 HB7
              generalize W7.drew = W8 at *
              refine held_one 7 rfl rfl (by kernel_rfl) fun K hK => ?_
              go_simp
              have B9 := Lib.hid (bel_al W8 (.cells #[.int .u64 (x.key : Int), .int .u32 (x.ck : Int), .int .i64 x.off, .int .i64 x.sz] 41))
              have HO9 := Lib.hid (owT_take (owT_below HO8.out B9.out) (k := j) (by have := M.out; omega))
              have HX9 := Lib.hid (it_one OKX.out (heap_alloc_new W8 (.cells #[.int .u64 (x.key : Int), .int .u32 (x.ck : Int), .int .i64 x.off, .int .i64 x.sz] 41)))
              have HR9 := Lib.hid (it_below HR8.out B9.out)
              have HB9 := Lib.hid (bt HB8.out B9.out)
              clear HO8 HR8 HB8
              refine hK _ _ HB9.out ?_
              clear hK K B9
              generalize W8.heap.size = g8 at *
              generalize W8.alloc (.cells #[.int .u64 (x.key : Int), .int .u32 (x.ck : Int), .int .i64 x.off, .int .i64 x.sz] 41) = W9 at *
              refine held_one 8 rfl rfl (by kernel_rfl) fun K hK => ?_
              refine wp_app_it rfl rfl HO9.out HX9.out (by have := M.out; simp only [List.length_take, List.length_cons, List.length_nil]; omega) HB9.out.size ?_
              intro v10 W10 ho10 hg10
              have HB10 := Lib.hid (below_grownT HB9.out hg10 HO9.out HB9.out.size (Nat.le_refl _))
              have HR10 := Lib.hid (it_grown2 HR9.out hg10 HG7.out (HAP7.out _ _ _))
              have HO10 := Lib.hid ho10
              obtain ⟨a10, c10, rfl, -, -⟩ := owT_form ho10
              refine hK _ _ HB10.out ?_
              clear hK K ho10 hg10 HO9 HX9 HR9 HB9
              refine held_one 10 rfl rfl (by kernel_rfl) fun K hK => ?_
              refine wp_app_it rfl rfl HO10.out HR10.out (by have := M.out; have := HRL.out; simp only [List.length_take, List.length_append, List.length_cons, List.length_nil] at *; omega) HB10.out.size ?_
              intro v11 W11 ho11 hg11
              have HB11 := Lib.hid (below_grownT HB10.out hg11 HO10.out HB10.out.size (Nat.le_refl _))
              have HO11 := Lib.hid ho11
              obtain ⟨a11, c11, hv11, -, -⟩ := owT_form ho11
              obtain ⟨n11, hn11⟩ : ∃ q, q = (S.take j ++ [x] ++ ([] : List Itm)).length := ⟨_, rfl⟩
              rw [← hn11] at hv11
              subst hv11
              clear hn11
              refine hK _ _ HB11.out ?_
              clear hK K ho11 hg11 HO10 HR10 HB10
              refine held_one 11 rfl rfl (by kernel_rfl) fun K hK => ?_
              go_simp
              refine hK _ _ HB11.out ?_
              clear hK K
              refine wpAnyH_done (by kernel_rfl) ?_ _
              unfold onlyN
              dsimp only
              go_wp2
              go_roundw
              case rel => exact ⟨i + 1, by omega, by go_num, by rw [HST.out, HRM.out]; exact HO11.out, HB11.out⟩
              case measure => simp [intOf]; omega
            · have HRM := Lib.hid hrm
              have hcut := it_cut HRI.out 1 (mj - 1) (by rw [← HDL.out]; omega)
              rw [Nat.one_mul, hdd, List.take_of_length_le (by rw [List.length_drop]; have := HMJ.out; have := M.out; omega)] at hcut
              have HCUT := Lib.hid hcut
              have g7 : (1 : Int) ≤ (mj : Int) := by omega
              have g8 : (1 : Int) ≤ (cr : Int) := by omega
              clear hrm hdd hcut
              go_wp2_with fail
              go_quiet (fail)
              have hd7 := below_drewN w6 nq
              have HO7 := Lib.hid (owT_below (owT_below HO5.out B6.out) hd7)
              have HB7 := Lib.hid (bt (bt HB5.out B6.out) hd7)
              have HG7 := Lib.hid (owT_own (owT_take HO5.out (k := j) (by have := M.out; omega)))
              have HAP7 : Hid (∀ q k c, Ap (.slice (some ⟨br, q, none⟩) k c) W5.heap.size) := fun q k c a n c2 e => by
                have h := HAP6.out _ _ _ rfl
                obtain ⟨e1, -⟩ : (⟨br, q, none⟩ : Addr) = a ∧ _ := by simpa using e
                rw [← e1]
                exact h
              have HR7 := Lib.hid (it_below HCUT.out hd7)
              have HRL : Hid ((S.drop (j + 1)).length ≤ 1000000) := by show _ ≤ _; have := M.out; simp; omega
              clear hd7 HO6 B6 HB5 HO5 HRI HCUT x0 x1 x2 x3 r0
              generalize w6.drewN nq = W7 at *
              go_wp2_with fail
              refine wp_onlyN ?_
              refine wp_region_headsS (fun w' => Below w.heap.size w w') [0, 1, 2, 3, 4, 5, 6, 9] 4 (by kernel_rfl) (fun _ _ _ _ _ h => h.elim) (by kernel_rfl) (by rfl) (by rfl) HB7.out.drew ?_
              simp only [pickOps, List.filterMap_cons, List.filterMap_nil, List.getElem?_toArray, List.getElem?_cons_zero, List.getElem?_cons_succ]
              refine wpHeads_step (fun K hK => ?_)
              go_simp
              refine ⟨_, fun _ _ => rfl, hK _ ?_⟩
              clear hK K
              refine wpHeads_step (fun K hK => ?_)
              go_simp
              refine ⟨_, fun _ _ => rfl, hK _ ?_⟩
              clear hK K
              refine wpHeads_step (fun K hK => ?_)
              go_simp
              refine ⟨_, fun _ _ => rfl, hK _ ?_⟩
              clear hK K
              refine wpHeads_step (fun K hK => ?_)
              go_simp
              refine ⟨_, fun _ _ => rfl, hK _ ?_⟩
              clear hK K
              refine wpHeads_step (fun K hK => ?_)
              go_simp
              refine ⟨_, fun _ _ => rfl, hK _ ?_⟩
              clear hK K
              refine wpHeads_step (fun K hK => ?_)
              go_simp
              refine ⟨_, fun _ _ => rfl, hK _ ?_⟩
              clear hK K
              refine wpHeads_step (fun K hK => ?_)
              go_simp
              refine ⟨.agg #[.int .u64 (x.key : Int), .int .u32 (x.ck : Int), .int .i64 x.off, .int .i64 x.sz], fun w' hw' => by obtain ⟨u0, u1, u2, u3⟩ := KX.out w' hw'; simp [u0, u1, u2, u3], hK _ ?_⟩
              clear hK K
              refine wpHeads_step (fun K hK => ?_)
              go_simp
              refine ⟨_, fun _ _ => rfl, hK _ ?_⟩
              clear hK K
              refine wpHeads_nil ?_
              have HO8 := Lib.hid (owT_below HO7.out ((Below.refl _ W7).drew))
              have HR8 := Lib.hid (it_below HR7.out ((Below.refl _ W7).drew))
              have HB8 := Lib.hid HB7.out.drew
              clear HO7 HR7 HB7
              generalize W7.drew = W8 at *
              refine held_one 7 rfl rfl (by kernel_rfl) fun K hK => ?_
              go_simp
              have B9 := Lib.hid (bel_al W8 (.cells #[.int .u64 (x.key : Int), .int .u32 (x.ck : Int), .int .i64 x.off, .int .i64 x.sz] 41))
              have HO9 := Lib.hid (owT_take (owT_below HO8.out B9.out) (k := j) (by have := M.out; omega))
              have HX9 := Lib.hid (it_one OKX.out (heap_alloc_new W8 (.cells #[.int .u64 (x.key : Int), .int .u32 (x.ck : Int), .int .i64 x.off, .int .i64 x.sz] 41)))
              have HR9 := Lib.hid (it_below HR8.out B9.out)
              have HB9 := Lib.hid (bt HB8.out B9.out)
              clear HO8 HR8 HB8
              refine hK _ _ HB9.out ?_
              clear hK K B9
              generalize W8.heap.size = g8 at *
              generalize W8.alloc (.cells #[.int .u64 (x.key : Int), .int .u32 (x.ck : Int), .int .i64 x.off, .int .i64 x.sz] 41) = W9 at *
              refine held_one 8 rfl rfl (by kernel_rfl) fun K hK => ?_
              refine wp_app_it rfl rfl HO9.out HX9.out (by have := M.out; simp only [List.length_take, List.length_cons, List.length_nil]; omega) HB9.out.size ?_
              intro v10 W10 ho10 hg10
              have HB10 := Lib.hid (below_grownT HB9.out hg10 HO9.out HB9.out.size (Nat.le_refl _))
              have HR10 := Lib.hid (it_grown2 HR9.out hg10 HG7.out (HAP7.out _ _ _))
              have HO10 := Lib.hid ho10
              obtain ⟨a10, c10, rfl, -, -⟩ := owT_form ho10
              refine hK _ _ HB10.out ?_
              clear hK K ho10 hg10 HO9 HX9 HR9 HB9
              refine held_one 10 rfl rfl (by kernel_rfl) fun K hK => ?_
              refine wp_app_it rfl rfl HO10.out HR10.out (by have := M.out; have := HRL.out; simp only [List.length_take, List.length_append, List.length_cons, List.length_nil] at *; omega) HB10.out.size ?_
              intro v11 W11 ho11 hg11
              have HB11 := Lib.hid (below_grownT HB10.out hg11 HO10.out HB10.out.size (Nat.le_refl _))
              have HO11 := Lib.hid ho11
              obtain ⟨a11, c11, hv11, -, -⟩ := owT_form ho11
              obtain ⟨n11, hn11⟩ : ∃ q, q = (S.take j ++ [x] ++ S.drop (j + 1)).length := ⟨_, rfl⟩
              rw [← hn11] at hv11
              subst hv11
              clear hn11
              refine hK _ _ HB11.out ?_
              clear hK K ho11 hg11 HO10 HR10 HB10
              refine held_one 11 rfl rfl (by kernel_rfl) fun K hK => ?_
              go_simp
              refine hK _ _ HB11.out ?_
              clear hK K
              refine wpAnyH_done (by kernel_rfl) ?_ _
              unfold onlyN
              dsimp only
              go_wp2
              go_roundw
              case rel => exact ⟨i + 1, by omega, by go_num, by rw [HST.out, HRM.out]; exact HO11.out, HB11.out⟩
              case measure => simp [intOf]; omega
          · have e1 : ((y.key : Int) == (x.key : Int)) = false := beq_false_of_ne (by omega)
            have e2 : ¬ y.key = x.key := hye
            go_wp2_with fail
            go_quiet (fail)
            have hd7 := below_drewN w6 nq
            have HO7 := Lib.hid (owT_below (owT_below HO5.out B6.out) hd7)
            have HB7 := Lib.hid (bt (bt HB5.out B6.out) hd7)
            have HG7 := Lib.hid (owT_own (owT_take HO5.out (k := j) (by have := M.out; omega)))
            have HAP7 := Lib.hid HAP6.out
            have HR7 := Lib.hid (it_below HRI.out hd7)
            have HRL : Hid ((S.drop j).length ≤ 1000000) := by show _ ≤ _; have := M.out; simp; omega
            have HRM : Hid (rstL x.key (S.drop j) = S.drop j) := by show _ = _; rw [HDR.out]; exact if_neg hye
            clear hd7 HO6 B6 HB5 HO5 HRI x0 x1 x2 x3 r0
            generalize w6.drewN nq = W7 at *
            go_wp2_with fail
            refine wp_onlyN ?_
            refine wp_region_headsS (fun w' => Below w.heap.size w w') [0, 1, 2, 3, 4, 5, 6, 9] 4 (by kernel_rfl) (fun _ _ _ _ _ h => h.elim) (by kernel_rfl) (by rfl) (by rfl) HB7.out.drew ?_
            simp only [pickOps, List.filterMap_cons, List.filterMap_nil, List.getElem?_toArray, List.getElem?_cons_zero, List.getElem?_cons_succ]
            refine wpHeads_step (fun K hK => ?_)
            go_simp
            refine ⟨_, fun _ _ => rfl, hK _ ?_⟩
            clear hK K
            refine wpHeads_step (fun K hK => ?_)
            go_simp
            refine ⟨_, fun _ _ => rfl, hK _ ?_⟩
            clear hK K
            refine wpHeads_step (fun K hK => ?_)
            go_simp
            refine ⟨_, fun _ _ => rfl, hK _ ?_⟩
            clear hK K
            refine wpHeads_step (fun K hK => ?_)
            go_simp
            refine ⟨_, fun _ _ => rfl, hK _ ?_⟩
            clear hK K
            refine wpHeads_step (fun K hK => ?_)
            go_simp
            refine ⟨_, fun _ _ => rfl, hK _ ?_⟩
            clear hK K
            refine wpHeads_step (fun K hK => ?_)
            go_simp
            refine ⟨_, fun _ _ => rfl, hK _ ?_⟩
            clear hK K
            refine wpHeads_step (fun K hK => ?_)
            go_simp
            refine ⟨.agg #[.int .u64 (x.key : Int), .int .u32 (x.ck : Int), .int .i64 x.off, .int .i64 x.sz], fun w' hw' => by obtain ⟨u0, u1, u2, u3⟩ := KX.out w' hw'; simp [u0, u1, u2, u3], hK _ ?_⟩
            clear hK K
            refine wpHeads_step (fun K hK => ?_)
            go_simp
            refine ⟨_, fun _ _ => rfl, hK _ ?_⟩
            clear hK K
            refine wpHeads_nil ?_
            have HO8 := Lib.hid (owT_below HO7.out ((Below.refl _ W7).drew))
            have HR8 := Lib.hid (it_below HR7.out ((Below.refl _ W7).drew))
            have HB8 := Lib.hid HB7.out.drew
            clear HO7 HR7 HB7
            generalize W7.drew = W8 at *
            refine held_one 7 rfl rfl (by kernel_rfl) fun K hK => ?_
            go_simp
            have B9 := Lib.hid (bel_al W8 (.cells #[.int .u64 (x.key : Int), .int .u32 (x.ck : Int), .int .i64 x.off, .int .i64 x.sz] 41))
            have HO9 := Lib.hid (owT_take (owT_below HO8.out B9.out) (k := j) (by have := M.out; omega))
            have HX9 := Lib.hid (it_one OKX.out (heap_alloc_new W8 (.cells #[.int .u64 (x.key : Int), .int .u32 (x.ck : Int), .int .i64 x.off, .int .i64 x.sz] 41)))
            have HR9 := Lib.hid (it_below HR8.out B9.out)
            have HB9 := Lib.hid (bt HB8.out B9.out)
            clear HO8 HR8 HB8
            refine hK _ _ HB9.out ?_
            clear hK K B9
            generalize W8.heap.size = g8 at *
            generalize W8.alloc (.cells #[.int .u64 (x.key : Int), .int .u32 (x.ck : Int), .int .i64 x.off, .int .i64 x.sz] 41) = W9 at *
            refine held_one 8 rfl rfl (by kernel_rfl) fun K hK => ?_
            refine wp_app_it rfl rfl HO9.out HX9.out (by have := M.out; simp only [List.length_take, List.length_cons, List.length_nil]; omega) HB9.out.size ?_
            intro v10 W10 ho10 hg10
            have HB10 := Lib.hid (below_grownT HB9.out hg10 HO9.out HB9.out.size (Nat.le_refl _))
            have HR10 := Lib.hid (it_grown2 HR9.out hg10 HG7.out HAP7.out)
            have HO10 := Lib.hid ho10
            obtain ⟨a10, c10, rfl, -, -⟩ := owT_form ho10
            refine hK _ _ HB10.out ?_
            clear hK K ho10 hg10 HO9 HX9 HR9 HB9
            refine held_one 10 rfl rfl (by kernel_rfl) fun K hK => ?_
            refine wp_app_it rfl rfl HO10.out HR10.out (by have := M.out; have := HRL.out; simp only [List.length_take, List.length_append, List.length_cons, List.length_nil] at *; omega) HB10.out.size ?_
            intro v11 W11 ho11 hg11
            have HB11 := Lib.hid (below_grownT HB10.out hg11 HO10.out HB10.out.size (Nat.le_refl _))
            have HO11 := Lib.hid ho11
            obtain ⟨a11, c11, hv11, -, -⟩ := owT_form ho11
            obtain ⟨n11, hn11⟩ : ∃ q, q = (S.take j ++ [x] ++ S.drop j).length := ⟨_, rfl⟩
            rw [← hn11] at hv11
            subst hv11
            clear hn11
            refine hK _ _ HB11.out ?_
            clear hK K ho11 hg11 HO10 HR10 HB10
            refine held_one 11 rfl rfl (by kernel_rfl) fun K hK => ?_
            go_simp
            refine hK _ _ HB11.out ?_
            clear hK K
            refine wpAnyH_done (by kernel_rfl) ?_ _
            unfold onlyN
            dsimp only
            go_wp2
            go_roundw
            case rel => exact ⟨i + 1, by omega, by go_num, by rw [HST.out, HRM.out]; exact HO11.out, HB11.out⟩
            case measure => simp [intOf]; omega
      · obtain rfl : j = m := by omega
        have hl5 : decide ((j : Int) < (j : Int)) = false := decide_eq_false (by omega)
        have HST := Lib.hid (ST.out j (by have := M.out; omega) hlt fun h => absurd h (by have := M.out; omega))
        have HDR : Hid (S.drop j = []) := by show _ = _; exact List.drop_of_length_le (by have := M.out; omega)
        clear hlt hB2 hB3
        rcases owT_addr HO2.out with ⟨rfl, rfl, rfl⟩ | ⟨g2, rfl⟩
        · go_wp2
          go_quiet (fail)
          have hdn := below_drewN wr nq
          have HB5 := Lib.hid (bt HB3.out hdn)
          have HO5 := Lib.hid (owT_below HO2.out hdn)
          clear HB2 HB3 HO2 x0 x1 x2 x3 hdn
          generalize wr.drewN nq = W5 at *
          have OE := Lib.hid (owT_empty W5 (base := W5.heap.size) (Nat.le_refl _))
          have BA := Lib.hid (bel_al W5 (.cells #[] 41))
          go_wp2_with (at_builtin; refine app_it (dst := some 36) ?_ ?_ OE.out (it_empty ?panil ?pcnil ?phnil) (by simp) (by simp) ?_; exact rfl; exact rfl; (first | exact HCM.out j | exact HCM.out 0 | exact Nat.zero_le _); intro vr w6 ho6 hg6; have B6 := Lib.hid (below_grownT BA.out hg6 OE.out (Nat.le_of_lt (by simp)) (Nat.le_refl _)); rw [List.nil_append] at ho6; obtain ⟨ar, cr, hvr, -, -⟩ := owT_form ho6; rw [List.length_nil] at hvr; subst hvr; have HO6 := Lib.hid ho6; clear ho6 hg6)
          go_quiet (fail)
          have hd7 := below_drewN w6 nq
          have HO7 := Lib.hid (owT_below (owT_below HO5.out B6.out) hd7)
          have HB7 := Lib.hid (bt (bt HB5.out B6.out) hd7)
          have HG7 := Lib.hid (owT_own (owT_take HO5.out (k := 0) (by have := M.out; omega)))
          have HAP7 := Lib.hid (ap_own HO6.out)
          have HR7 := Lib.hid (it_below (owT_it HO6.out) hd7)
          have HRL : Hid (([] : List Itm).length ≤ 1000000) := by show _ ≤ _; simp
          have HRM : Hid (rstL x.key (S.drop 0) = []) := by show _ = _; rw [HDR.out]; rfl
          clear hd7 HO6 B6 HB5 HO5
          generalize w6.drewN nq = W7 at *
          go_wp2_with fail
          refine wp_onlyN ?_
          refine wp_region_headsS (fun w' => Below w.heap.size w w') [0, 1, 2, 3, 4, 5, 6, 9] 4 (by kernel_rfl) (fun _ _ _ _ _ h => h.elim) (by kernel_rfl) (by rfl) (by rfl) HB7.out.drew ?_
          simp only [pickOps, List.filterMap_cons, List.filterMap_nil, List.getElem?_toArray, List.getElem?_cons_zero, List.getElem?_cons_succ]
          refine wpHeads_step (fun K hK => ?_)
          go_simp
          refine ⟨_, fun _ _ => rfl, hK _ ?_⟩
          clear hK K
          refine wpHeads_step (fun K hK => ?_)
          go_simp
          refine ⟨_, fun _ _ => rfl, hK _ ?_⟩
          clear hK K
          refine wpHeads_step (fun K hK => ?_)
          go_simp
          refine ⟨_, fun _ _ => rfl, hK _ ?_⟩
          clear hK K
          refine wpHeads_step (fun K hK => ?_)
          go_simp
          refine ⟨_, fun _ _ => rfl, hK _ ?_⟩
          clear hK K
          refine wpHeads_step (fun K hK => ?_)
          go_simp
          refine ⟨_, fun _ _ => rfl, hK _ ?_⟩
          clear hK K
          refine wpHeads_step (fun K hK => ?_)
          go_simp
          refine ⟨_, fun _ _ => rfl, hK _ ?_⟩
          clear hK K
          refine wpHeads_step (fun K hK => ?_)
          go_simp
          refine ⟨.agg #[.int .u64 (x.key : Int), .int .u32 (x.ck : Int), .int .i64 x.off, .int .i64 x.sz], fun w' hw' => by obtain ⟨u0, u1, u2, u3⟩ := KX.out w' hw'; simp [u0, u1, u2, u3], hK _ ?_⟩
          clear hK K
          refine wpHeads_step (fun K hK => ?_)
          go_simp
          refine ⟨_, fun _ _ => rfl, hK _ ?_⟩
          clear hK K
          refine wpHeads_nil ?_
          have HO8 := Lib.hid (owT_below HO7.out ((Below.refl _ W7).drew))
          have HR8 := Lib.hid (it_below HR7.out ((Below.refl _ W7).drew))
          have HB8 := Lib.hid HB7.out.drew
          clear HO7 HR7 HB7
          generalize W7.drew = W8 at *
          refine held_one 7 rfl rfl (by kernel_rfl) fun K hK => ?_
          go_simp
          have B9 := Lib.hid (bel_al W8 (.cells #[.int .u64 (x.key : Int), .int .u32 (x.ck : Int), .int .i64 x.off, .int .i64 x.sz] 41))
          have HO9 := Lib.hid (owT_take (owT_below HO8.out B9.out) (k := 0) (by have := M.out; omega))
          have HX9 := Lib.hid (it_one OKX.out (heap_alloc_new W8 (.cells #[.int .u64 (x.key : Int), .int .u32 (x.ck : Int), .int .i64 x.off, .int .i64 x.sz] 41)))
          have HR9 := Lib.hid (it_below HR8.out B9.out)
          have HB9 := Lib.hid (bt HB8.out B9.out)
          clear HO8 HR8 HB8
          refine hK _ _ HB9.out ?_
          clear hK K B9
          generalize W8.heap.size = g8 at *
          generalize W8.alloc (.cells #[.int .u64 (x.key : Int), .int .u32 (x.ck : Int), .int .i64 x.off, .int .i64 x.sz] 41) = W9 at *
          refine held_one 8 rfl rfl (by kernel_rfl) fun K hK => ?_
          refine wp_app_it rfl rfl HO9.out HX9.out (by have := M.out; simp only [List.length_take, List.length_cons, List.length_nil]; omega) HB9.out.size ?_
          intro v10 W10 ho10 hg10
          have HB10 := Lib.hid (below_grownT HB9.out hg10 HO9.out HB9.out.size (Nat.le_refl _))
          have HR10 := Lib.hid (it_grown2 HR9.out hg10 HG7.out HAP7.out)
          have HO10 := Lib.hid ho10
          obtain ⟨a10, c10, rfl, -, -⟩ := owT_form ho10
          refine hK _ _ HB10.out ?_
          clear hK K ho10 hg10 HO9 HX9 HR9 HB9
          refine held_one 10 rfl rfl (by kernel_rfl) fun K hK => ?_
          refine wp_app_it rfl rfl HO10.out HR10.out (by have := M.out; have := HRL.out; simp only [List.length_take, List.length_append, List.length_cons, List.length_nil] at *; omega) HB10.out.size ?_
          intro v11 W11 ho11 hg11
          have HB11 := Lib.hid (below_grownT HB10.out hg11 HO10.out HB10.out.size (Nat.le_refl _))
          have HO11 := Lib.hid ho11
          obtain ⟨a11, c11, hv11, -, -⟩ := owT_form ho11
          obtain ⟨n11, hn11⟩ : ∃ q, q = (S.take 0 ++ [x] ++ ([] : List Itm)).length := ⟨_, rfl⟩
          rw [← hn11] at hv11
          subst hv11
          clear hn11
          refine hK _ _ HB11.out ?_
          clear hK K ho11 hg11 HO10 HR10 HB10
          refine held_one 11 rfl rfl (by kernel_rfl) fun K hK => ?_
          go_simp
          refine hK _ _ HB11.out ?_
          clear hK K
          refine wpAnyH_done (by kernel_rfl) ?_ _
          unfold onlyN
          dsimp only
          go_wp2
          go_roundw
          case rel => exact ⟨i + 1, by omega, by go_num, by rw [HST.out, HRM.out]; exact HO11.out, HB11.out⟩
          case measure => simp [intOf]; omega
        by_cases hcj : co = j
        · subst hcj
          go_wp2
          go_quiet (fail)
          have hdn := below_drewN wr nq
          have HB5 := Lib.hid (bt HB3.out hdn)
          have HO5 := Lib.hid (owT_below HO2.out hdn)
          clear HB2 HB3 HO2 x0 x1 x2 x3 hdn
          generalize wr.drewN nq = W5 at *
          have OE := Lib.hid (owT_empty W5 (base := W5.heap.size) (Nat.le_refl _))
          have BA := Lib.hid (bel_al W5 (.cells #[] 41))
          go_wp2_with (at_builtin; refine app_it (dst := some 36) ?_ ?_ OE.out (it_empty ?pafull ?pcfull ?phfull) (by simp) (by simp) ?_; exact rfl; exact rfl; (first | exact HCM.out j | exact HCM.out 0 | exact Nat.zero_le _); intro vr w6 ho6 hg6; have B6 := Lib.hid (below_grownT BA.out hg6 OE.out (Nat.le_of_lt (by simp)) (Nat.le_refl _)); rw [List.nil_append] at ho6; obtain ⟨ar, cr, hvr, -, -⟩ := owT_form ho6; rw [List.length_nil] at hvr; subst hvr; have HO6 := Lib.hid ho6; clear ho6 hg6)
          go_quiet (fail)
          have hd7 := below_drewN w6 nq
          have HO7 := Lib.hid (owT_below (owT_below HO5.out B6.out) hd7)
          have HB7 := Lib.hid (bt (bt HB5.out B6.out) hd7)
          have HG7 := Lib.hid (owT_own (owT_take HO5.out (k := co) (by have := M.out; omega)))
          have HAP7 := Lib.hid (ap_own HO6.out)
          have HR7 := Lib.hid (it_below (owT_it HO6.out) hd7)
          have HRL : Hid (([] : List Itm).length ≤ 1000000) := by show _ ≤ _; simp
          have HRM : Hid (rstL x.key (S.drop co) = []) := by show _ = _; rw [HDR.out]; rfl
          clear hd7 HO6 B6 HB5 HO5
          generalize w6.drewN nq = W7 at *
          go_wp2_with fail
          refine wp_onlyN ?_
          refine wp_region_headsS (fun w' => Below w.heap.size w w') [0, 1, 2, 3, 4, 5, 6, 9] 4 (by kernel_rfl) (fun _ _ _ _ _ h => h.elim) (by kernel_rfl) (by rfl) (by rfl) HB7.out.drew ?_
          simp only [pickOps, List.filterMap_cons, List.filterMap_nil, List.getElem?_toArray, List.getElem?_cons_zero, List.getElem?_cons_succ]
          refine wpHeads_step (fun K hK => ?_)
          go_simp
          refine ⟨_, fun _ _ => rfl, hK _ ?_⟩
          clear hK K
          refine wpHeads_step (fun K hK => ?_)
          go_simp
          refine ⟨_, fun _ _ => rfl, hK _ ?_⟩
          clear hK K
          refine wpHeads_step (fun K hK => ?_)
          go_simp
          refine ⟨_, fun _ _ => rfl, hK _ ?_⟩
          clear hK K
          refine wpHeads_step (fun K hK => ?_)
          go_simp
          refine ⟨_, fun _ _ => rfl, hK _ ?_⟩
          clear hK K
          refine wpHeads_step (fun K hK => ?_)
          go_simp
          refine ⟨_, fun _ _ => rfl, hK _ ?_⟩
          clear hK K
          refine wpHeads_step (fun K hK => ?_)
          go_simp
          refine ⟨_, fun _ _ => rfl, hK _ ?_⟩
          clear hK K
          refine wpHeads_step (fun K hK => ?_)
          go_simp
          refine ⟨.agg #[.int .u64 (x.key : Int), .int .u32 (x.ck : Int), .int .i64 x.off, .int .i64 x.sz], fun w' hw' => by obtain ⟨u0, u1, u2, u3⟩ := KX.out w' hw'; simp [u0, u1, u2, u3], hK _ ?_⟩
          clear hK K
          refine wpHeads_step (fun K hK => ?_)
          go_simp
          refine ⟨_, fun _ _ => rfl, hK _ ?_⟩
          clear hK K
          refine wpHeads_nil ?_
          have HO8 := Lib.hid (owT_below HO7.out ((Below.refl _ W7).drew))
          have HR8 := Lib.hid (it_below HR7.out ((Below.refl _ W7).drew))
          have HB8 := Lib.hid HB7.out.drew
          clear HO7 HR7 HB7
          generalize W7.drew = W8 at *
          refine held_one 7 rfl rfl (by kernel_rfl) fun K hK => ?_
          go_simp
          have B9 := Lib.hid (bel_al W8 (.cells #[.int .u64 (x.key : Int), .int .u32 (x.ck : Int), .int .i64 x.off, .int .i64 x.sz] 41))
          have HO9 := Lib.hid (owT_take (owT_below HO8.out B9.out) (k := co) (by have := M.out; omega))
          have HX9 := Lib.hid (it_one OKX.out (heap_alloc_new W8 (.cells #[.int .u64 (x.key : Int), .int .u32 (x.ck : Int), .int .i64 x.off, .int .i64 x.sz] 41)))
          have HR9 := Lib.hid (it_below HR8.out B9.out)
          have HB9 := Lib.hid (bt HB8.out B9.out)
          clear HO8 HR8 HB8
          refine hK _ _ HB9.out ?_
          clear hK K B9
          generalize W8.heap.size = g8 at *
          generalize W8.alloc (.cells #[.int .u64 (x.key : Int), .int .u32 (x.ck : Int), .int .i64 x.off, .int .i64 x.sz] 41) = W9 at *
          refine held_one 8 rfl rfl (by kernel_rfl) fun K hK => ?_
          refine wp_app_it rfl rfl HO9.out HX9.out (by have := M.out; simp only [List.length_take, List.length_cons, List.length_nil]; omega) HB9.out.size ?_
          intro v10 W10 ho10 hg10
          have HB10 := Lib.hid (below_grownT HB9.out hg10 HO9.out HB9.out.size (Nat.le_refl _))
          have HR10 := Lib.hid (it_grown2 HR9.out hg10 HG7.out HAP7.out)
          have HO10 := Lib.hid ho10
          obtain ⟨a10, c10, rfl, -, -⟩ := owT_form ho10
          refine hK _ _ HB10.out ?_
          clear hK K ho10 hg10 HO9 HX9 HR9 HB9
          refine held_one 10 rfl rfl (by kernel_rfl) fun K hK => ?_
          refine wp_app_it rfl rfl HO10.out HR10.out (by have := M.out; have := HRL.out; simp only [List.length_take, List.length_append, List.length_cons, List.length_nil] at *; omega) HB10.out.size ?_
          intro v11 W11 ho11 hg11
          have HB11 := Lib.hid (below_grownT HB10.out hg11 HO10.out HB10.out.size (Nat.le_refl _))
          have HO11 := Lib.hid ho11
          obtain ⟨a11, c11, hv11, -, -⟩ := owT_form ho11
          obtain ⟨n11, hn11⟩ : ∃ q, q = (S.take co ++ [x] ++ ([] : List Itm)).length := ⟨_, rfl⟩
          rw [← hn11] at hv11
          subst hv11
          clear hn11
          refine hK _ _ HB11.out ?_
          clear hK K ho11 hg11 HO10 HR10 HB10
          refine held_one 11 rfl rfl (by kernel_rfl) fun K hK => ?_
          go_simp
          refine hK _ _ HB11.out ?_
          clear hK K
          refine wpAnyH_done (by kernel_rfl) ?_ _
          unfold onlyN
          dsimp only
          go_wp2
          go_roundw
          case rel => exact ⟨i + 1, by omega, by go_num, by rw [HST.out, HRM.out]; exact HO11.out, HB11.out⟩
          case measure => simp [intOf]; omega
        · go_wp2
          go_quiet (fail)
          have hdn := below_drewN wr nq
          have HB5 := Lib.hid (bt HB3.out hdn)
          have HO5 := Lib.hid (owT_below HO2.out hdn)
          clear HB2 HB3 HO2 x0 x1 x2 x3 hdn
          generalize wr.drewN nq = W5 at *
          have OE := Lib.hid (owT_empty W5 (base := W5.heap.size) (Nat.le_refl _))
          have BA := Lib.hid (bel_al W5 (.cells #[] 41))
          go_wp2_with (at_builtin; refine app_it (dst := some 36) ?_ ?_ OE.out (it_empty ?paroom ?pcroom ?phroom) (by simp) (by simp) ?_; exact rfl; exact rfl; (first | exact HCM.out j | exact HCM.out 0 | exact Nat.zero_le _); intro vr w6 ho6 hg6; have B6 := Lib.hid (below_grownT BA.out hg6 OE.out (Nat.le_of_lt (by simp)) (Nat.le_refl _)); rw [List.nil_append] at ho6; obtain ⟨ar, cr, hvr, -, -⟩ := owT_form ho6; rw [List.length_nil] at hvr; subst hvr; have HO6 := Lib.hid ho6; clear ho6 hg6)
          go_quiet (fail)
          have hd7 := below_drewN w6 nq
          have HO7 := Lib.hid (owT_below (owT_below HO5.out B6.out) hd7)
          have HB7 := Lib.hid (bt (bt HB5.out B6.out) hd7)
          have HG7 := Lib.hid (owT_own (owT_take HO5.out (k := j) (by have := M.out; omega)))
          have HAP7 := Lib.hid (ap_own HO6.out)
          have HR7 := Lib.hid (it_below (owT_it HO6.out) hd7)
          have HRL : Hid (([] : List Itm).length ≤ 1000000) := by show _ ≤ _; simp
          have HRM : Hid (rstL x.key (S.drop j) = []) := by show _ = _; rw [HDR.out]; rfl
          have g5 : j ≤ co := by have := MC.out; omega
          clear hd7 HO6 B6 HB5 HO5
          generalize w6.drewN nq = W7 at *
          go_wp2_with fail
          refine wp_onlyN ?_
          refine wp_region_headsS (fun w' => Below w.heap.size w w') [0, 1, 2, 3, 4, 5, 6, 9] 4 (by kernel_rfl) (fun _ _ _ _ _ h => h.elim) (by kernel_rfl) (by rfl) (by rfl) HB7.out.drew ?_
          simp only [pickOps, List.filterMap_cons, List.filterMap_nil, List.getElem?_toArray, List.getElem?_cons_zero, List.getElem?_cons_succ]
          refine wpHeads_step (fun K hK => ?_)
          go_simp
          refine ⟨_, fun _ _ => rfl, hK _ ?_⟩
          clear hK K
          refine wpHeads_step (fun K hK => ?_)
          go_simp
          refine ⟨_, fun _ _ => rfl, hK _ ?_⟩
          clear hK K
          refine wpHeads_step (fun K hK => ?_)
          go_simp
          refine ⟨_, fun _ _ => rfl, hK _ ?_⟩
          clear hK K
          refine wpHeads_step (fun K hK => ?_)
          go_simp
          refine ⟨_, fun _ _ => rfl, hK _ ?_⟩
          clear hK K
          refine wpHeads_step (fun K hK => ?_)
          go_simp
          refine ⟨_, fun _ _ => rfl, hK _ ?_⟩
          clear hK K
          refine wpHeads_step (fun K hK => ?_)
          go_simp
          refine ⟨_, fun _ _ => rfl, hK _ ?_⟩
          clear hK K
          refine wpHeads_step (fun K hK => ?_)
          go_simp
          refine ⟨.agg #[.int .u64 (x.key : Int), .int .u32 (x.ck : Int), .int .i64 x.off, .int .i64 x.sz], fun w' hw' => by obtain ⟨u0, u1, u2, u3⟩ := KX.out w' hw'; simp [u0, u1, u2, u3], hK _ ?_⟩
          clear hK K
          refine wpHeads_step (fun K hK => ?_)
          go_simp
          refine ⟨_, fun _ _ => rfl, hK _ ?_⟩
          clear hK K
          refine wpHeads_nil ?_
          have HO8 := Lib.hid (owT_below HO7.out ((Below.refl _ W7).drew))
          have HR8 := Lib.hid (it_below HR7.out ((Below.refl _ W7).drew))
          have HB8 := Lib.hid HB7.out.drew
          clear HO7 HR7 HB7
          generalize W7.drew = W8 at *
          refine held_one 7 rfl rfl (by kernel_rfl) fun K hK => ?_
          go_simp
          have B9 := Lib.hid (bel_al W8 (.cells #[.int .u64 (x.key : Int), .int .u32 (x.ck : Int), .int .i64 x.off, .int .i64 x.sz] 41))
          have HO9 := Lib.hid (owT_take (owT_below HO8.out B9.out) (k := j) (by have := M.out; omega))
          have HX9 := Lib.hid (it_one OKX.out (heap_alloc_new W8 (.cells #[.int .u64 (x.key : Int), .int .u32 (x.ck : Int), .int .i64 x.off, .int .i64 x.sz] 41)))
          have HR9 := Lib.hid (it_below HR8.out B9.out)
          have HB9 := Lib.hid (bt HB8.out B9.out)
          clear HO8 HR8 HB8
          refine hK _ _ HB9.out ?_
          clear hK K B9
          generalize W8.heap.size = g8 at *
          generalize W8.alloc (.cells #[.int .u64 (x.key : Int), .int .u32 (x.ck : Int), .int .i64 x.off, .int .i64 x.sz] 41) = W9 at *
          refine held_one 8 rfl rfl (by kernel_rfl) fun K hK => ?_
          refine wp_app_it rfl rfl HO9.out HX9.out (by have := M.out; simp only [List.length_take, List.length_cons, List.length_nil]; omega) HB9.out.size ?_
          intro v10 W10 ho10 hg10
          have HB10 := Lib.hid (below_grownT HB9.out hg10 HO9.out HB9.out.size (Nat.le_refl _))
          have HR10 := Lib.hid (it_grown2 HR9.out hg10 HG7.out HAP7.out)
          have HO10 := Lib.hid ho10
          obtain ⟨a10, c10, rfl, -, -⟩ := owT_form ho10
          refine hK _ _ HB10.out ?_
          clear hK K ho10 hg10 HO9 HX9 HR9 HB9
          refine held_one 10 rfl rfl (by kernel_rfl) fun K hK => ?_
          refine wp_app_it rfl rfl HO10.out HR10.out (by have := M.out; have := HRL.out; simp only [List.length_take, List.length_append, List.length_cons, List.length_nil] at *; omega) HB10.out.size ?_
          intro v11 W11 ho11 hg11
          have HB11 := Lib.hid (below_grownT HB10.out hg11 HO10.out HB10.out.size (Nat.le_refl _))
          have HO11 := Lib.hid ho11
          obtain ⟨a11, c11, hv11, -, -⟩ := owT_form ho11
          obtain ⟨n11, hn11⟩ : ∃ q, q = (S.take j ++ [x] ++ ([] : List Itm)).length := ⟨_, rfl⟩
          rw [← hn11] at hv11
          subst hv11
          clear hn11
          refine hK _ _ HB11.out ?_
          clear hK K ho11 hg11 HO10 HR10 HB10
          refine held_one 11 rfl rfl (by kernel_rfl) fun K hK => ?_
          go_simp
          refine hK _ _ HB11.out ?_
          clear hK K
          refine wpAnyH_done (by kernel_rfl) ?_ _
          unfold onlyN
          dsimp only
          go_wp2
          go_roundw
          case rel => exact ⟨i + 1, by omega, by go_num, by rw [HST.out, HRM.out]; exact HO11.out, HB11.out⟩
          case measure => simp [intOf]; omega
end Go.Proofs.YtihjfnlimdcmkaaDoor.Gf
