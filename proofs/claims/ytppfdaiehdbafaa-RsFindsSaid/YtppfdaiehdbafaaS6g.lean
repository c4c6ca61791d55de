/- What is proved here: the walk of the law RsFinds. No condition. -/
import Derived.Test.YtppfdaiehdbafaaS6a
namespace Go.Proofs.Ytppfdaiehdbafaa.Gf
open Go Go.ChangeShapes Go.WideShapes Go.ChangeAt Go.RowKit Go.Sort Go.Proofs.Ytppfdaiehdbafaa.By Go.Proofs.Ytppfdaiehdbafaa.Qt

theorem code_width {m m' q : Nat} {S R : List (List Nat)} (hS : Code6 m S) (hR : Code6 m' R) (hq : q < 6) (h : R.getD q [] = S.getD q []) : m' = m := by
  rw [← (code_lv hR).row q hq, h, (code_lv hS).row q hq]
/-- Code words that agree in all places but x and y. -/
theorem code_two {m m' x y : Nat} {S R : List (List Nat)} (hS : Code6 m S) (hR : Code6 m' R) (hx : x < 6) (hy : y < 6) (hne : y ≠ x) (h : ∀ q, q < 6 → q ≠ x → q ≠ y → R.getD q [] = S.getD q []) : R = S := by
  have hg := skip2_good x hx y hy hne
  have hmem : ∀ q ∈ skip2 x y 6, q < 6 ∧ q ≠ x ∧ q ≠ y := fun q hq => by
    unfold skip2 at hq
    simpa using hq
  have h0 := hmem _ (show (skip2 x y 6).getD 0 0 ∈ skip2 x y 6 by
    have := good_length hg
    simp only [List.getD, List.getElem?_eq_getElem (show 0 < (skip2 x y 6).length by omega), Option.getD_some]
    exact List.getElem_mem _)
  have hm := code_width hS hR h0.1 (h _ h0.1 h0.2.1 h0.2.2)
  subst hm
  refine code_same hg hR hS ?_
  unfold pickL
  exact List.map_congr_left fun q hq => h q (hmem q hq).1 (hmem q hq).2.1 (hmem q hq).2.2
theorem set_lev {m k : Nat} {S : List (List Nat)} {M : List Nat} (hS : Code6 m S) (hM : M.length = m) : Lev (S.set k M) 6 := by
  have hl := code_lv hS
  have key : ∀ q, q < 6 → ((S.set k M).getD q []).length = m := fun q hq => by
    by_cases e : q = k
    · rw [e, getD_set_eq (by rw [hl.len]; omega), hM]
    · rw [getD_set_other e, hl.row q hq]
  refine ⟨by rw [List.length_set, hl.len], fun q hq => ?_⟩
  rw [List.length_set, hl.len] at hq
  rw [key q hq, key 0 (by decide)]
theorem set_byt {k : Nat} {S : List (List Nat)} {M : List Nat} (hS : ∀ k q, (S.getD k []).getD q 0 < 256) (hM : ∀ b ∈ M, b < 256) : ∀ j q, ((S.set k M).getD j []).getD q 0 < 256 := fun j q => by
  by_cases e : j = k
  · subst e
    by_cases hj : j < S.length
    · rw [getD_set_eq hj]
      exact getD_lt hM q
    · rw [getD_outL (by simp; omega)]
      simp
  · rw [getD_set_other e]
    exact hS j q
/-- A single damaged shard is found. -/
theorem finds_math {m k : Nat} {S : List (List Nat)} {M : List Nat} (hS : Code6 m S) (hk : k < 6) (hM : M.length = m) (hb : ∀ b ∈ M, b < 256) (hne : M ≠ S.getD k []) : LocP (S.set k M) k ∧ ¬ Ver (S.set k M) := by
  have hl := code_lv hS
  have hlev := set_lev (k := k) hS hM
  have hby := set_byt (k := k) hl.byt hb
  have hkk : (S.set k M).getD k [] = M := getD_set_eq (by rw [hl.len]; exact hk)
  have hfix : resL (S.set k M) (others k) = S := by
    have hg := pres_good (others_pres k hk)
    have hlt : ∀ q ∈ pres (others k), q ≠ k := fun q hq => by
      unfold pres at hq
      simp only [List.mem_filter, List.mem_range] at hq
      have := hq.2
      rw [others_getD hq.1] at this
      simpa using this
    have hp : ∀ rs : List Nat, (∀ q ∈ rs, q ≠ k) → pickL rs (S.set k M) = pickL rs S := fun rs h => by
      unfold pickL
      exact List.map_congr_left fun q hq => getD_set_other (h q hq)
    have hlv := pickL_lv hg hl
    unfold resL
    rw [if_pos (others_fit hlev), if_pos (others_pres k hk), pickL_take, hp _ fun q hq => hlt q (List.mem_of_mem_take hq)]
    have hw : wid (pickL (pres (others k)) (S.set k M)) = m := by
      rw [hp _ hlt]
      unfold wid
      have h4 := others_pres k hk
      rw [pickL_getD (by omega)]
      exact hl.row _ (pres_getD (by omega)).1
    rw [hw, code_rest hg hS]
  refine ⟨⟨by omega, fun i hi hf => ?_, fun _ q hq hqk => ?_⟩, fun hv => ?_⟩
  · obtain ⟨m', hc⟩ := others_code (show i < 6 by omega) hlev hby
    have h1 : resL (S.set k M) (others i) = S := code_two hS hc (show i < 6 by omega) hk (by omega) fun q hq h1 h2 => by
      rw [hf q hq h1, getD_set_other h2]
    have h2 := hf k hk (by omega)
    rw [h1, hkk] at h2
    exact hne h2.symm
  · rw [hfix, getD_set_other hqk]
  · obtain ⟨m', hc⟩ := (ver_code hby).1 hv
    have hx : ∃ x, x < 6 ∧ x ≠ k := ⟨if k = 0 then 1 else 0, by split <;> omega, by split <;> omega⟩
    obtain ⟨x, hx, hxk⟩ := hx
    have h1 : S.set k M = S := code_two hS hc hk hx hxk fun q _ h1 _ => getD_set_other h1
    rw [h1] at hkk
    exact hne hkk.symm
theorem set_same {k : Nat} {S : List (List Nat)} {M : List Nat} (hk : k < S.length) (h : M = S.getD k []) : S.set k M = S := by
  subst h
  apply List.ext_getElem (by simp)
  intro i h1 h2
  simp only [List.getElem_set]
  by_cases e : k = i
  · subst e; simp [List.getD, hk]
  · simp [e]
set_option maxRecDepth 100000 in
set_option maxHeartbeats 6400000 in
theorem finds_walk (v0 : Value) (l0 : List Nat) (n1 n2 : Int) (v3 : Value) (l3 : List Nat) (w : World) (s0 : Sl w v0 l0) (s3 : Sl w v3 l3) : Calls Try.prog 9 #[v0, .int .i64 n1, .int .i64 n2, v3] w fun e w' => e = .returned (.bool true) ∧ Below w.heap.size w w' := by
  obtain ⟨a3, c3, hv3, -, -⟩ := sl_form s3
  obtain ⟨m3, hm3⟩ : ∃ q, q = l3.length := ⟨_, rfl⟩
  rw [← hm3] at hv3
  subst hv3
  have FU := Lib.hid (full_any v0 l0 n1 w s0)
  have S3 := Lib.hid s3
  have HM3 := Lib.hid hm3
  clear s0 s3 hm3
  go_enter Try.func9, Try.ntmps9
  go_wp2_with fail
  refine FU.out.mono ?_
  rintro e w1 ⟨⟨v1, vs, S, rfl, hO, hC⟩, hb1⟩
  have hlv := code_lv hC
  obtain ⟨gS, cS, rfl, -, -, hgS, -⟩ := ownk_form hO hlv.len (by decide)
  obtain ⟨ti, k, h1, h2, h3, h4, h5⟩ := rmd6 n2
  have i0 : (0 : Int) ≤ (k : Int) := by omega
  have i1 : (k : Int) < 6 := by omega
  obtain ⟨q1, -⟩ := ownk_cell hO hlv.len h5
  have hrow := hlv.row k h5
  have hkp := (hO.kp k (by rw [hlv.len]; exact h5)).sl
  obtain ⟨ya, yc, hy, -, -⟩ := sl_form hkp
  rw [hrow] at hy
  rw [hy] at q1 hkp
  have hal := (Below.refl w1.heap.size w1).alloc (Nat.le_refl _) (.cells #[] 5)
  have q1' := (hal.cell (p := ⟨gS, k, none⟩) (block_lt_of_cell q1)).trans q1
  have hnew := own_empty w1 (base := w1.heap.size) (Nat.le_refl _)
  have HNEW := Lib.hid hnew
  have HSRC := Lib.hid (sl_below hkp hal)
  have HROW := Lib.hid hrow
  have HK := kk_lt n1
  generalize kk n1 = K at *
  have B1 := Lib.hid hb1
  have HO := Lib.hid hO
  have HC := Lib.hid hC
  have HGS := Lib.hid hgS
  have hsy0 := hkp
  clear FU hO hC hb1 hkp hy hrow hnew hal hgS hlv
  go_wp2_with (at_builtin; refine app_sl (dst := some 34) ?_ ?_ HNEW.out HSRC.out (by rw [HROW.out]; simp; omega) (by simp) ?_; exact rfl; exact rfl; intro v5 w5 ho5 hg5; rw [List.nil_append] at ho5; obtain ⟨sa, sn, sc, hv5, hsn⟩ := own_form ho5; rw [HROW.out] at hsn; rw [hsn] at hv5; clear hsn; subst hv5; have HO5 := Lib.hid ho5; have HG5 := Lib.hid hg5; clear ho5 hg5)
  have hB5 : Below w1.heap.size w1 w5 := (((Below.refl w1.heap.size w1).alloc (Nat.le_refl _) (.cells #[] 5))).grown HG5.out (by simp) fun q hq => HNEW.out.lt q hq
  have HB5 := Lib.hid hB5
  have Q1 := Lib.hid q1
  have HY := Lib.hid hsy0
  clear hB5 HG5 HNEW HSRC q1' q1 hsy0
  go_loopw [13] (fun t wr => ∃ (i : Nat) (M : List Nat), i ≤ K ∧ i ≤ m3 ∧ t = .int .i64 (i : Int) ∧ Own wr w1.heap.size (.slice sa K sc) M ∧ M.length = K ∧ Below w1.heap.size w1 wr) (fun t _ => K - (intOf t).toNat)
  case atStart => exact ⟨0, _, by omega, by omega, rfl, HO5.out, HROW.out, HB5.out⟩
  case round =>
    obtain ⟨i, M, hi, hi3, rfl, hM, hMl, hB⟩ := hrel
    by_cases hiK : i < K
    · by_cases him : i < m3
      · obtain ⟨g5, c5, hv5, hg5, -⟩ := own_some hM (by omega)
        obtain ⟨rfl, -, rfl⟩ : sa = some ⟨g5, 0, none⟩ ∧ K = M.length ∧ sc = c5 := by simpa using hv5
        obtain ⟨b3, o3, c3', hv3, -, -, k3⟩ := sl_cells S3.out (by have := HM3.out; omega)
        obtain ⟨rfl, -, rfl⟩ : a3 = some ⟨b3, o3, none⟩ ∧ m3 = l3.length ∧ c3 = c3' := by simpa using hv3
        have f2 := k3 i (by have := HM3.out; omega)
        have f2 := ((bt B1.out hB).cell (p := ⟨b3, o3 + i, none⟩) (block_lt_of_cell f2)).trans f2
        obtain ⟨f1, f3, -⟩ := own_cell hM hMl hiK
        have z1 := getD_lt hM.1 i
        have z2 := getD_lt S3.out.1 i
        have hset := own_set (x := M.getD i 0 ^^^ l3.getD i 0) (hM.drew) hMl hiK (xor_lt z1 z2)
        have y1 := u8_xor_nat (M.getD i 0) (l3.getD i 0) z1 z2
        have hB2 := hB.drew.setCell (p := ⟨g5, i, none⟩) hg5 (.int .u8 ((M.getD i 0 ^^^ l3.getD i 0 : Nat) : Int))
        have HSET := Lib.hid hset
        have HB2 := Lib.hid hB2
        have HML := Lib.hid hMl
        generalize M.getD i 0 ^^^ l3.getD i 0 = z at *
        generalize M.getD i 0 = x1 at *
        generalize l3.getD i 0 = x2 at *
        have p0 : (0 : Int) ≤ (i : Int) := by omega
        have p1 : (i : Int) < (K : Int) := by omega
        have p2 : (i : Int) < (m3 : Int) := by omega
        clear hv5 hv3 k3 hM hMl hB hset hB2
        go_wp2
        go_still_tail 9, (by kernel_rfl)
        go_wp2
        go_roundw
        case rel => exact ⟨i + 1, _, by omega, by omega, by go_num, HSET.out, by rw [List.length_set]; exact HML.out, HB2.out⟩
        case measure => simp [intOf]; omega
      · obtain rfl : i = m3 := by omega
        have hlt1 : (i : Int) < (K : Int) := by omega
        have tB := bt B1.out hB
        have hs5 := hM.sl
        have y1 := (hB.cell (p := ⟨gS, k, none⟩) (block_lt_of_cell Q1.out)).trans Q1.out
        have hsy := sl_below HY.out hB
        have u1 := fun n => conv_sl (sl_below hs5 (below_drewN wr n))
        have u2 := fun n => conv_sl (sl_below hsy (below_drewN wr n))
        have hse := str_eq hs5.1 hsy.1
        have hO2 := HO.out.later hB
        have HS5 := Lib.hid hM
        have HB := Lib.hid hB
        have HO2 := Lib.hid hO2
        have HML := Lib.hid hMl
        clear hs5 hsy hM hB hO2 hMl
        generalize strOf M = t1 at u1 hse
        generalize strOf (S.getD k []) = t2 at u2 hse
        by_cases hsame : M = S.getD k []
        · rw [decide_eq_true hsame] at hse
          have hne : (t1.toList != t2.toList) = false := by rw [bne, hse]; rfl
          have HSAME := Lib.hid hsame
          clear hsame
          go_wp2
          go_quiet (fail)
          clear u1 u2 y1 hse
          have hd := below_drewN wr nq
          have hq := HO2.out.later hd
          have hx := own_below' HS5.out hd
          have hbq := bt HB.out hd
          clear HO2 HS5 HB
          generalize wr.drewN nq = W9 at *
          have HO3 := Lib.hid (ownk_set (x := .slice sa K sc) (l := M) hq (code_lv HC.out).len h5 (Or.inl (own_base B1.out.size hx)))
          obtain ⟨q3, q4⟩ := ownk_cell hq (code_lv HC.out).len h5
          have HB9 := Lib.hid ((bt B1.out hbq).setCell (p := ⟨gS, k, none⟩) HGS.out (.slice sa K sc))
          have HX := Lib.hid hx
          clear hq hx hbq hd tB
          have hss := set_same (k := k) (S := S) (M := M) (by rw [(code_lv HC.out).len]; exact h5) HSAME.out
          have hver : Ver S := (ver_code (code_lv HC.out).byt).2 ⟨_, HC.out⟩
          obtain ⟨j, hj1, hj2, hj3⟩ := first_bad (fun i => ¬ FitsAt S i) 6
          have hloc := locate_any (.slice (some ⟨gS, 0, none⟩) 6 cS) S j ⟨hj1, hj2, fun h => Decidable.of_not_not (hj3 h)⟩ (W9.setCell ⟨gS, k, none⟩ (.slice sa K sc)) (hss ▸ HO3.out.sr) (lv_small (code_lv HC.out) (by omega))
          rw [show locI S j = -1 from by unfold locI; rw [if_pos hver.1, if_pos hver], show locE S j = 0 from by unfold locE; rw [if_pos hver.1, if_pos hver]] at hloc
          have HLOC := Lib.hid hloc
          clear hss hver hj1 hj2 hj3 hloc
          go_wp2_with fail
          refine HLOC.out.mono ?_
          rintro e w8 ⟨rfl, hb8⟩
          have B8 := Lib.hid (bt HB9.out hb8)
          clear hb8
          go_wp2_with fail
          refine (awake4_any w8).mono ?_
          rintro e w11 ⟨rfl, hb11⟩
          go_wp2_with fail
          go_ret
          exact ⟨rfl, bt B8.out hb11⟩
        · rw [decide_eq_false hsame] at hse
          have hne : (t1.toList != t2.toList) = true := by rw [bne, hse]; rfl
          have HSAME := Lib.hid hsame
          clear hsame
          go_wp2
          go_quiet (fail)
          clear u1 u2 y1 hse
          have hd := below_drewN wr nq
          have hq := HO2.out.later hd
          have hx := own_below' HS5.out hd
          have hbq := bt HB.out hd
          clear HO2 HS5 HB
          generalize wr.drewN nq = W9 at *
          have HO3 := Lib.hid (ownk_set (x := .slice sa K sc) (l := M) hq (code_lv HC.out).len h5 (Or.inl (own_base B1.out.size hx)))
          obtain ⟨q3, q4⟩ := ownk_cell hq (code_lv HC.out).len h5
          have HB9 := Lib.hid ((bt B1.out hbq).setCell (p := ⟨gS, k, none⟩) HGS.out (.slice sa K sc))
          have HX := Lib.hid hx
          clear hq hx hbq hd tB
          have hmath := finds_math (M := M) HC.out h5 HML.out HX.out.1 HSAME.out
          have hlev := set_lev (k := k) HC.out HML.out
          have hsm : Small (S.set k M) := fun q => by
            have hS := lv_small (code_lv HC.out) (show K ≤ 1000000 by omega)
            by_cases e : q = k
            · rw [e, getD_set_eq (by rw [(code_lv HC.out).len]; exact h5), HML.out]; omega
            · rw [getD_set_other e]; exact hS q
          have hloc := locate_any (.slice (some ⟨gS, 0, none⟩) 6 cS) (S.set k M) k hmath.1 (W9.setCell ⟨gS, k, none⟩ (.slice sa K sc)) HO3.out.sr hsm
          rw [show locI (S.set k M) k = (k : Int) from by unfold locI; rw [if_pos hlev, if_neg hmath.2, if_pos h5], show locE (S.set k M) k = 0 from by unfold locE; rw [if_pos hlev, if_neg hmath.2, if_pos h5]] at hloc
          have HLOC := Lib.hid hloc
          have HSM := Lib.hid hsm
          have HNV := Lib.hid hmath.2
          have hkk : ((k : Int) == (k : Int)) = true := by simp
          clear hmath hlev hsm hloc
          go_wp2_with fail
          refine HLOC.out.mono ?_
          rintro e w8 ⟨rfl, hb8⟩
          have hve := verify_any (.slice (some ⟨gS, 0, none⟩) 6 cS) (S.set k M) w8 (sr_below HO3.out.sr hb8) HSM.out
          rw [decide_eq_false HNV.out] at hve
          have VE := Lib.hid hve
          have B8 := Lib.hid (bt HB9.out hb8)
          clear hb8 hve
          go_wp2_with fail
          refine VE.out.mono ?_
          rintro e w10 ⟨rfl, hb10⟩
          have B10 := Lib.hid (bt B8.out hb10)
          clear hb10
          go_wp2_with fail
          refine (awake4_any w10).mono ?_
          rintro e w11 ⟨rfl, hb11⟩
          go_wp2_with fail
          go_ret
          exact ⟨rfl, bt B10.out hb11⟩
    · obtain rfl : K = i := by omega
      have tB := bt B1.out hB
      have hs5 := hM.sl
      have y1 := (hB.cell (p := ⟨gS, k, none⟩) (block_lt_of_cell Q1.out)).trans Q1.out
      have hsy := sl_below HY.out hB
      have u1 := fun n => conv_sl (sl_below hs5 (below_drewN wr n))
      have u2 := fun n => conv_sl (sl_below hsy (below_drewN wr n))
      have hse := str_eq hs5.1 hsy.1
      have hO2 := HO.out.later hB
      have HS5 := Lib.hid hM
      have HB := Lib.hid hB
      have HO2 := Lib.hid hO2
      have HML := Lib.hid hMl
      clear hs5 hsy hM hB hO2 hMl
      generalize strOf M = t1 at u1 hse
      generalize strOf (S.getD k []) = t2 at u2 hse
      by_cases hsame : M = S.getD k []
      · rw [decide_eq_true hsame] at hse
        have hne : (t1.toList != t2.toList) = false := by rw [bne, hse]; rfl
        have HSAME := Lib.hid hsame
        clear hsame
        go_wp2
        go_quiet (fail)
        clear u1 u2 y1 hse
        have hd := below_drewN wr nq
        have hq := HO2.out.later hd
        have hx := own_below' HS5.out hd
        have hbq := bt HB.out hd
        clear HO2 HS5 HB
        generalize wr.drewN nq = W9 at *
        have HO3 := Lib.hid (ownk_set (x := .slice sa K sc) (l := M) hq (code_lv HC.out).len h5 (Or.inl (own_base B1.out.size hx)))
        obtain ⟨q3, q4⟩ := ownk_cell hq (code_lv HC.out).len h5
        have HB9 := Lib.hid ((bt B1.out hbq).setCell (p := ⟨gS, k, none⟩) HGS.out (.slice sa K sc))
        have HX := Lib.hid hx
        clear hq hx hbq hd tB
        have hss := set_same (k := k) (S := S) (M := M) (by rw [(code_lv HC.out).len]; exact h5) HSAME.out
        have hver : Ver S := (ver_code (code_lv HC.out).byt).2 ⟨_, HC.out⟩
        obtain ⟨j, hj1, hj2, hj3⟩ := first_bad (fun i => ¬ FitsAt S i) 6
        have hloc := locate_any (.slice (some ⟨gS, 0, none⟩) 6 cS) S j ⟨hj1, hj2, fun h => Decidable.of_not_not (hj3 h)⟩ (W9.setCell ⟨gS, k, none⟩ (.slice sa K sc)) (hss ▸ HO3.out.sr) (lv_small (code_lv HC.out) (by omega))
        rw [show locI S j = -1 from by unfold locI; rw [if_pos hver.1, if_pos hver], show locE S j = 0 from by unfold locE; rw [if_pos hver.1, if_pos hver]] at hloc
        have HLOC := Lib.hid hloc
        clear hss hver hj1 hj2 hj3 hloc
        go_wp2_with fail
        refine HLOC.out.mono ?_
        rintro e w8 ⟨rfl, hb8⟩
        have B8 := Lib.hid (bt HB9.out hb8)
        clear hb8
        go_wp2_with fail
        refine (awake4_any w8).mono ?_
        rintro e w11 ⟨rfl, hb11⟩
        go_wp2_with fail
        go_ret
        exact ⟨rfl, bt B8.out hb11⟩
      · rw [decide_eq_false hsame] at hse
        have hne : (t1.toList != t2.toList) = true := by rw [bne, hse]; rfl
        have HSAME := Lib.hid hsame
        clear hsame
        go_wp2
        go_quiet (fail)
        clear u1 u2 y1 hse
        have hd := below_drewN wr nq
        have hq := HO2.out.later hd
        have hx := own_below' HS5.out hd
        have hbq := bt HB.out hd
        clear HO2 HS5 HB
        generalize wr.drewN nq = W9 at *
        have HO3 := Lib.hid (ownk_set (x := .slice sa K sc) (l := M) hq (code_lv HC.out).len h5 (Or.inl (own_base B1.out.size hx)))
        obtain ⟨q3, q4⟩ := ownk_cell hq (code_lv HC.out).len h5
        have HB9 := Lib.hid ((bt B1.out hbq).setCell (p := ⟨gS, k, none⟩) HGS.out (.slice sa K sc))
        have HX := Lib.hid hx
        clear hq hx hbq hd tB
        have hmath := finds_math (M := M) HC.out h5 HML.out HX.out.1 HSAME.out
        have hlev := set_lev (k := k) HC.out HML.out
        have hsm : Small (S.set k M) := fun q => by
          have hS := lv_small (code_lv HC.out) (show K ≤ 1000000 by omega)
          by_cases e : q = k
          · rw [e, getD_set_eq (by rw [(code_lv HC.out).len]; exact h5), HML.out]; omega
          · rw [getD_set_other e]; exact hS q
        have hloc := locate_any (.slice (some ⟨gS, 0, none⟩) 6 cS) (S.set k M) k hmath.1 (W9.setCell ⟨gS, k, none⟩ (.slice sa K sc)) HO3.out.sr hsm
        rw [show locI (S.set k M) k = (k : Int) from by unfold locI; rw [if_pos hlev, if_neg hmath.2, if_pos h5], show locE (S.set k M) k = 0 from by unfold locE; rw [if_pos hlev, if_neg hmath.2, if_pos h5]] at hloc
        have HLOC := Lib.hid hloc
        have HSM := Lib.hid hsm
        have HNV := Lib.hid hmath.2
        have hkk : ((k : Int) == (k : Int)) = true := by simp
        clear hmath hlev hsm hloc
        go_wp2_with fail
        refine HLOC.out.mono ?_
        rintro e w8 ⟨rfl, hb8⟩
        have hve := verify_any (.slice (some ⟨gS, 0, none⟩) 6 cS) (S.set k M) w8 (sr_below HO3.out.sr hb8) HSM.out
        rw [decide_eq_false HNV.out] at hve
        have VE := Lib.hid hve
        have B8 := Lib.hid (bt HB9.out hb8)
        clear hb8 hve
        go_wp2_with fail
        refine VE.out.mono ?_
        rintro e w10 ⟨rfl, hb10⟩
        have B10 := Lib.hid (bt B8.out hb10)
        clear hb10
        go_wp2_with fail
        refine (awake4_any w10).mono ?_
        rintro e w11 ⟨rfl, hb11⟩
        go_wp2_with fail
        go_ret
        exact ⟨rfl, bt B10.out hb11⟩
end Go.Proofs.Ytppfdaiehdbafaa.Gf
