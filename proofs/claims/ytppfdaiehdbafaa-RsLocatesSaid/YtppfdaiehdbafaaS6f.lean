/- What is proved here: the walk of the law RsLocates. No condition. -/
import Derived.Test.YtppfdaiehdbafaaS6a
import Derived.Test.YtppfdaiehdbafaaS6c
namespace Go.Proofs.Ytppfdaiehdbafaa.Gf
open Go Go.ChangeShapes Go.WideShapes Go.ChangeAt Go.RowKit Go.Sort Go.Proofs.Ytppfdaiehdbafaa.By Go.Proofs.Ytppfdaiehdbafaa.Qt

theorem nat_and7 (x : Nat) : x &&& 7 = x % 8 := Nat.and_two_pow_sub_one_eq_mod x 3
theorem i64_and7 (r : Int) : bits .and .i64 r 7 = r % 8 := by
  have e1 : (BitVec.ofInt 64 r).toNat = (r % 18446744073709551616).toNat := by rw [BitVec.toNat_ofInt]; rfl
  have e2 : (BitVec.ofInt 64 (7 : Int)).toNat = 7 := rfl
  have e3 : (BitVec.ofInt 64 r &&& BitVec.ofInt 64 7).toNat = (r % 18446744073709551616).toNat % 8 := by rw [BitVec.toNat_and, e1, e2, nat_and7]
  show IntKind.i64.wrap ((BitVec.ofInt 64 r &&& BitVec.ofInt 64 7).toNat : Int) = _
  rw [e3, IntKind.wrap_i64]
  omega
theorem pick_number (r : Int) : ∃ a k : Nat, bits .and .i64 r 7 = (a : Int) ∧ a < 8 ∧ (a : Int).tmod 6 = (k : Int) ∧ k < 6 := by
  refine ⟨(r % 8).toNat, (r % 8).toNat % 6, by rw [i64_and7]; omega, by omega, ?_, by omega⟩
  rw [Int.tmod_eq_emod_of_nonneg (by omega)]
  omega
theorem lv_set {c m k : Nat} {S : List (List Nat)} {M : List Nat} (h : Lv c m S) (hM : M.length = m) (hb : ∀ b ∈ M, b < 256) (hk : k < c) : Lv c m (S.set k M) where
  len := by rw [List.length_set, h.len]
  row := fun j hj => by
    by_cases e : j = k
    · rw [e, getD_set_eq (by rw [h.len]; exact hk), hM]
    · rw [getD_set_other e, h.row j hj]
  byt := fun j q => by
    by_cases e : j = k
    · rw [e, getD_set_eq (by rw [h.len]; exact hk)]
      exact getD_lt hb q
    · rw [getD_set_other e]
      exact h.byt j q
theorem lv_app {a b m : Nat} {L P : List (List Nat)} (h : Lv a m L) (h2 : Lv b m P) : Lv (a + b) m (L ++ P) where
  len := by rw [List.length_append, h.len, h2.len]
  row := fun j hj => by
    by_cases e : j < a
    · have : (L ++ P).getD j [] = L.getD j [] := by simp [List.getD, List.getElem?_append, h.len, e]
      rw [this, h.row j e]
    · have : (L ++ P).getD j [] = P.getD (j - a) [] := by simp [List.getD, List.getElem?_append, h.len, e]
      rw [this, h2.row _ (by omega)]
  byt := fun j q => by
    by_cases e : j < a
    · have : (L ++ P).getD j [] = L.getD j [] := by simp [List.getD, List.getElem?_append, h.len, e]
      rw [this]
      exact h.byt j q
    · have : (L ++ P).getD j [] = P.getD (j - a) [] := by simp [List.getD, List.getElem?_append, h.len, e]
      rw [this]
      exact h2.byt _ q
theorem loc_below {wr w5 : World} (hN : Own (wr.alloc (.cells #[] 5)) wr.heap.size (.slice (some ⟨wr.heap.size, 0, none⟩) 0 0) []) (hg : (wr.alloc (.cells #[] 5)).grownBy w5 (Value.slice (some ⟨wr.heap.size, 0, none⟩) 0 0).ownBlock) : Below wr.heap.size wr w5 :=
  ((Below.refl wr.heap.size wr).alloc (Nat.le_refl _) (.cells #[] 5)).grown hg (by simp) fun q hq => hN.lt q hq
theorem loc_app {wr w2 w5 : World} {g4 c4 k K : Nat} {sa : Option Addr} {sc : Nat} {vs : List Value} {S : List (List Nat)} {M : List Nat} (hO : OwnK wr w2.heap.size (.slice (some ⟨g4, 0, none⟩) 6 c4) vs S) (hl : S.length = 6) (hk : k < 6) (hB : Below w2.heap.size w2 wr) (hgb : w2.heap.size ≤ g4)
    (hN : Own (wr.alloc (.cells #[] 5)) wr.heap.size (.slice (some ⟨wr.heap.size, 0, none⟩) 0 0) []) (hg : (wr.alloc (.cells #[] 5)).grownBy w5 (Value.slice (some ⟨wr.heap.size, 0, none⟩) 0 0).ownBlock) (h5 : Own w5 wr.heap.size (.slice sa K sc) M) :
    w5.cell? ⟨g4, k, none⟩ = some (vs.getD k undef) ∧ w5.frozen? ⟨g4, k, none⟩ = false ∧ OwnK (w5.setCell ⟨g4, k, none⟩ (.slice sa K sc)) w2.heap.size (.slice (some ⟨g4, 0, none⟩) 6 c4) (vs.set k (.slice sa K sc)) (S.set k M) ∧ Below w2.heap.size w2 (w5.setCell ⟨g4, k, none⟩ (.slice sa K sc)) := by
  have hB5 := loc_below hN hg
  have hq := hO.later hB5
  obtain ⟨r1, r2⟩ := ownk_cell hq hl hk
  exact ⟨r1, r2, ownk_set hq hl hk (Or.inl (own_base hB.size h5)), (bt hB hB5).setCell (p := ⟨g4, k, none⟩) hgb _⟩
theorem si_bd {w : World} {v : Value} {l : List Int} (h : Si w v l) (k : Nat) : -9223372036854775808 ≤ l.getD k 0 ∧ l.getD k 0 ≤ 9223372036854775807 := by
  by_cases hk : k < l.length
  · simp only [List.getD, List.getElem?_eq_getElem hk, Option.getD_some]
    exact h.1 _ (List.getElem_mem hk)
  · simp [List.getD, List.getElem?_eq_none (show l.length ≤ k by omega)]
theorem loc_ex (S : List (List Nat)) : ∃ j, LocP S j := by
  obtain ⟨j, h1, h2, h3⟩ := first_bad (fun i => ¬ FitsAt S i) 6
  exact ⟨j, h1, h2, fun h => Decidable.of_not_not (h3 h)⟩
set_option maxRecDepth 100000 in
set_option maxHeartbeats 6400000 in
theorem locates_walk (v0 v1 v3 : Value) (l0 : List (List Nat)) (l1 : List Nat) (n2 : Int) (l3 : List Int) (w : World) (s0 : Sr w v0 l0) (s1 : Sl w v1 l1) (s3 : Si w v3 l3) : Calls Try.prog 8 #[v0, v1, .int .i64 n2, v3] w fun e w' => e = .returned (.bool true) ∧ Below w.heap.size w w' := by
  obtain ⟨a3, c3, hv3, -, -⟩ := si_form s3
  obtain ⟨m3, hm3⟩ : ∃ q, q = l3.length := ⟨_, rfl⟩
  rw [← hm3] at hv3
  subst hv3
  have LI := Lib.hid (light_any _ l0 w s0)
  have S0 := Lib.hid s0
  have S1 := Lib.hid s1
  have S3 := Lib.hid s3
  have HM3 := Lib.hid hm3
  have HML : Hid (m3 ≤ maxLen) := by have := s3.2.1; rw [← hm3] at this; exact this
  clear s0 s1 s3 hm3
  go_enter Try.func8, Try.ntmps8
  go_wp2_with fail
  refine LI.out.mono ?_
  rintro e w0 ⟨rfl, rfl⟩
  by_cases hl : Lgt l0
  · rw [decide_eq_true hl]
    have hsm := hl.small
    have HK := kk_lt n2
    go_wp2_with fail
    refine (data_any v1 l1 n2 w S1.out).mono ?_
    rintro e w1 ⟨⟨d1, vs1, L1, rfl, hO1, hL1⟩, hb1⟩
    have hen := rencode_any d1 L1 w1 hO1.sr (lv_small hL1 (by omega))
    rw [(enc_lv hL1).1, (enc_lv hL1).2] at hen
    have hX : Lv 2 (kk n2) (encW L1 (kk n2)) := appR_lv (fun i hi k hk => bd_vx [0, 1, 2, 3] (i + 4) (by omega) k hk) hL1
    generalize encW L1 (kk n2) = X at *
    have HE := Lib.hid hen
    have B1 := Lib.hid hb1
    clear hen hO1 hL1 hb1 hl
    go_wp2_with fail
    refine HE.out.mono ?_
    unfold EP
    rintro e w2 ⟨⟨x2, rfl, hs2⟩, hb2⟩
    obtain ⟨xa, xc, hx2, -, -⟩ := sr_form hs2
    rw [hX.len] at hx2
    subst hx2
    have B2 := Lib.hid (bt B1.out hb2)
    have X2 := Lib.hid hs2
    clear HE B1 hb2 hs2
    go_wp2_with fail
    refine (data_any v1 l1 n2 w2 (sl_below S1.out B2.out)).mono ?_
    rintro e w3 ⟨⟨d3, vs3, L3, rfl, hO3, hL3⟩, hb3⟩
    obtain ⟨oa, oc, hv⟩ := ownsRow_form hO3.row
    obtain ⟨on, hon⟩ : ∃ q, q = vs3.length := ⟨_, rfl⟩
    rw [← hon] at hv
    subst hv
    have hsrc := X2.out.src (by rw [hX.len]; decide) (Nat.le_refl _) hb3
    generalize kk n2 = K at *
    have HLV := Lib.hid (lv_app hL3 hX)
    have HSRC := Lib.hid hsrc
    have HO3 := Lib.hid hO3
    have HB3 := Lib.hid hb3
    have HX := Lib.hid hX.len
    have HL3 := Lib.hid hL3.len
    clear hsrc hO3 hb3 hL3 hX hon X2 S1
    go_wp2_with (at_builtin; refine app_rows (dst := some 37) (n := 4) (P := X) ?_ ?_ HO3.out HL3.out HSRC.out (by rw [HX.out]; decide) HB3.out.size ?_; exact rfl; exact rfl; intro v4 w4 ys ho4 hg4; obtain ⟨g4, c4, hv4, -, -, hg4b, -⟩ := ownk_form ho4 HLV.out.len (by decide); subst hv4; have HO4 := Lib.hid ho4; have HG4 := Lib.hid hg4; have HGB := Lib.hid hg4b; clear ho4 hg4 hg4b)
    have tB := HB3.out.grown HG4.out HB3.out.size fun q hq => (HO3.out.row.lt q hq).1
    have HB4 := Lib.hid tB
    have HM := Lib.hid hsm
    clear tB HG4 HSRC HO3 HB3 HX HL3 hsm
    generalize vs3 ++ ys = vs4 at *
    generalize L3 ++ X = S4 at *
    go_loopw [11] (fun t wr => ∃ (i : Nat) (vs : List Value) (S : List (List Nat)), i ≤ 7 ∧ t = .int .i64 (i : Int) ∧ OwnK wr w2.heap.size (.slice (some ⟨g4, 0, none⟩) 6 c4) vs S ∧ Lv 6 K S ∧ Below w2.heap.size w2 wr) (fun t _ => 8 - (intOf t).toNat)
    case atStart => exact ⟨0, _, _, by omega, rfl, HO4.out, HLV.out, HB4.out⟩
    case round =>
      clear HO4 HLV HB4
      obtain ⟨i, vs, S, hi, rfl, hO, hLv, hB⟩ := hrel
      have HO := Lib.hid hO
      have HLV := Lib.hid hLv
      have HB := Lib.hid hB
      clear hO hLv hB
      have hml := HML.out
      unfold maxLen at hml
      by_cases him : i + 1 < m3
      · have hlt1 : (i : Int) + 1 < (m3 : Int) := by omega
        by_cases hi6 : i < 6
        · have hlt2 : (i : Int) < 6 := by omega
          obtain ⟨b3, o3, c3', hv3, -, -, k3⟩ := si_cells S3.out (by have := HM3.out; omega)
          obtain ⟨rfl, -, rfl⟩ : a3 = some ⟨b3, o3, none⟩ ∧ m3 = l3.length ∧ c3 = c3' := by simpa using hv3
          have f1 := k3 i (by have := HM3.out; omega)
          have f2 := k3 (i + 1) (by have := HM3.out; omega)
          have f1 := ((bt B2.out HB.out).cell (p := ⟨b3, o3 + i, none⟩) (block_lt_of_cell f1)).trans f1
          have f2 := ((bt B2.out HB.out).cell (p := ⟨b3, o3 + (i + 1), none⟩) (block_lt_of_cell f2)).trans f2
          have z1 := si_bd S3.out i
          have z2 := si_bd S3.out (i + 1)
          have F1 := Lib.hid f1
          have F2 := Lib.hid f2
          clear f1 f2 k3 hv3
          generalize l3.getD i 0 = y1 at *
          generalize l3.getD (i + 1) 0 = y2 at *
          obtain ⟨aa, k, e1, e2, e3, e4⟩ := pick_number y1
          have i0 : (0 : Int) ≤ (k : Int) := by omega
          have i1 : (k : Int) < 6 := by omega
          have p0 : (0 : Int) ≤ (i : Int) := by omega
          have p1 : (i : Int) < (m3 : Int) := by omega
          obtain ⟨q1, -⟩ := ownk_cell HO.out HLV.out.len e4
          have hrow := HLV.out.row k e4
          have hkp := (HO.out.kp k (by rw [HLV.out.len]; exact e4)).sl
          obtain ⟨ya, yc, hy, -, -⟩ := sl_form hkp
          rw [hrow] at hy
          rw [hy] at q1 hkp
          have hal := (Below.refl wr.heap.size wr).alloc (Nat.le_refl _) (.cells #[] 5)
          have q1' := (hal.cell (p := ⟨g4, k, none⟩) (block_lt_of_cell q1)).trans q1
          have hnew := own_empty wr (base := wr.heap.size) (Nat.le_refl _)
          have HNEW := Lib.hid hnew
          have HSRC := Lib.hid (sl_below hkp hal)
          have HROW := Lib.hid hrow
          have f1 := F1.out
          clear hkp hy hrow hnew hal q1
          by_cases hK0 : K = 0
          · have hgt : ¬ (0 : Int) < (K : Int) := by omega
            clear hK0
            go_wp2_with (at_builtin; refine app_sl (dst := some 60) ?_ ?_ HNEW.out HSRC.out (by rw [HROW.out]; simp; omega) (by simp) ?_; exact rfl; exact rfl; intro v5 w5 ho5 hg5; rw [List.nil_append] at ho5; obtain ⟨sa, sn, sc, hv5, hsn⟩ := own_form ho5; rw [HROW.out] at hsn; rw [hsn] at hv5; clear hsn; subst hv5; obtain ⟨r1, r2, hset, hb9⟩ := loc_app HO.out HLV.out.len e4 HB.out HGB.out HNEW.out hg5 ho5; have HSET := Lib.hid hset; have HB9 := Lib.hid hb9; have HM5 := Lib.hid ho5.1; clear ho5 hg5 hset hb9)
            go_roundw
            case rel => exact ⟨i + 2, _, _, by omega, by go_num, HSET.out, lv_set HLV.out HROW.out HM5.out e4, HB9.out⟩
            case measure => simp [intOf]; omega
          · have hgt : (0 : Int) < (K : Int) := by omega
            have hK1 : 1 ≤ K := by omega
            go_wp2_with (at_builtin; refine app_sl (dst := some 60) ?_ ?_ HNEW.out HSRC.out (by rw [HROW.out]; simp; omega) (by simp) ?_; exact rfl; exact rfl; intro v5 w5 ho5 hg5; rw [List.nil_append] at ho5; obtain ⟨sa, sn, sc, hv5, hsn⟩ := own_form ho5; rw [HROW.out] at hsn; rw [hsn] at hv5; clear hsn; subst hv5; have HO5 := Lib.hid ho5; have HG5 := Lib.hid hg5; clear ho5 hg5)
            have hB5 := loc_below HNEW.out HG5.out
            obtain ⟨g5, c5, hv5, hg5, -⟩ := own_some HO5.out (by rw [HROW.out]; omega)
            rw [HROW.out] at hv5
            obtain ⟨rfl, rfl⟩ : sa = some ⟨g5, 0, none⟩ ∧ sc = c5 := by simpa using hv5
            obtain ⟨t, p, t1, t2, t3, t4, t5⟩ : ∃ (t : Int) (p : Nat), y2.tmod (K : Int) = t ∧ -(K : Int) < t ∧ t < (K : Int) ∧ (t + (K : Int)).tmod (K : Int) = (p : Int) ∧ p < K := ⟨_, _, rfl, (rmd_eq y2 hK1).2.1, (rmd_eq y2 hK1).2.2, (rmd_eq y2 hK1).1, rmd_lt y2 hK1⟩
            obtain ⟨cc, c1, c2⟩ : ∃ cc : Nat, y1 / 8 % 256 = (cc : Int) ∧ cc < 256 := ⟨(y1 / 8 % 256).toNat, by omega, by omega⟩
            obtain ⟨f3, f4, -⟩ := own_cell HO5.out HROW.out t5
            have f2 := (hB5.cell (p := ⟨b3, o3 + (i + 1), none⟩) (block_lt_of_cell F2.out)).trans F2.out
            obtain ⟨j, hj⟩ : ∃ j, j = i + 1 := ⟨_, rfl⟩
            rw [← hj] at f2
            have o1 : IntKind.i64.wrap ((i : Int) + 1) = (j : Int) := (IntWalk.i64_in _ (by omega)).trans (by omega)
            have o2 : IntKind.i64.wrap (t + (K : Int)) = t + (K : Int) := IntWalk.i64_in _ (by omega)
            have o4 : IntKind.i64.wrap t = t := IntWalk.i64_in _ (by omega)
            have o5 : IntKind.i64.wrap (p : Int) = (p : Int) := IntWalk.i64_in _ (by omega)
            have o6 : ¬ (K : Int) = 0 := by omega
            have o7 : (0 : Int) ≤ (j : Int) := by omega
            have o8 : (j : Int) < (m3 : Int) := by omega
            have f1 := (hB5.cell (p := ⟨b3, o3 + i, none⟩) (block_lt_of_cell F1.out)).trans F1.out
            clear hj
            have z3 := getD_lt HO5.out.1 p
            have x1 := u8_xor_nat ((S.getD k []).getD p 0) cc z3 c2
            have hset := own_set (x := (S.getD k []).getD p 0 ^^^ cc) HO5.out.drew HROW.out t5 (xor_lt z3 c2)
            have hB6 := hB5.drew.setCell (p := ⟨g5, p, none⟩) hg5 (.int .u8 (((S.getD k []).getD p 0 ^^^ cc : Nat) : Int))
            have HMB := Lib.hid hset.1
            have HML := Lib.hid (show ((S.getD k []).set p ((S.getD k []).getD p 0 ^^^ cc)).length = K by rw [List.length_set]; exact HROW.out)
            obtain ⟨r1, r2⟩ := ownk_cell (HO.out.later (hB5.setCell (p := ⟨g5, p, none⟩) hg5 (.int .u8 (((S.getD k []).getD p 0 ^^^ cc : Nat) : Int)))) HLV.out.len e4
            have hq := HO.out.later hB6
            have HST := Lib.hid (ownk_set (x := .slice (some ⟨g5, 0, none⟩) K sc) hq HLV.out.len e4 (Or.inl (own_base HB.out.size hset)))
            have HBT := Lib.hid ((bt HB.out hB6).setCell (p := ⟨g4, k, none⟩) HGB.out (.slice (some ⟨g5, 0, none⟩) K sc))
            generalize (S.getD k []).getD p 0 ^^^ cc = z at *
            generalize (S.getD k []).getD p 0 = xx at *
            have p2 : (0 : Int) ≤ (p : Int) := by omega
            have p3 : (p : Int) < (K : Int) := by omega
            clear hv5 hset hB6 hB5 HG5 HNEW HSRC q1' hq
            go_still_tail 24, (by kernel_rfl)
            go_wp2
            go_roundw
            case rel => exact ⟨i + 2, _, _, by omega, by go_num, HST.out, lv_set HLV.out HML.out HMB.out e4, HBT.out⟩
            case measure => simp [intOf]; omega
        · have hlt2 : ¬ (i : Int) < 6 := by omega
          obtain ⟨j, hj⟩ := loc_ex l0
          obtain ⟨j', hj'⟩ := loc_ex S
          have B := Lib.hid (bt B2.out HB.out)
          have h1 := fun W s => locate_any v0 l0 j hj W s HM.out
          have h2 := fun W s => rlocate_any v0 l0 j hj W s HM.out
          have h3 := fun W s => locate_any (.slice (some ⟨g4, 0, none⟩) 6 c4) S j' hj' W s (lv_small HLV.out (by omega))
          have h4 := fun W s => rlocate_any (.slice (some ⟨g4, 0, none⟩) 6 c4) S j' hj' W s (lv_small HLV.out (by omega))
          generalize locI l0 j = I1 at *
          generalize locE l0 j = E1 at *
          generalize locI S j' = I2 at *
          generalize locE S j' = E2 at *
          have H1 := Lib.hid h1
          have H2 := Lib.hid h2
          have H3 := Lib.hid h3
          have H4 := Lib.hid h4
          have SS := Lib.hid HO.out.sr
          have SL := Lib.hid (sr_below S0.out B.out)
          have x1 : (I1 == I1) = true := by simp
          have x2 : (E1 == E1) = true := by simp
          have x3 : (I2 == I2) = true := by simp
          have x4 : (E2 == E2) = true := by simp
          clear h1 h2 h3 h4 hj hj' HO HLV HB
          go_wp2_with fail
          refine (H1.out wr SL.out).mono ?_
          rintro e w5 ⟨rfl, hb5⟩
          have B5 := Lib.hid hb5
          clear hb5
          go_wp2_with fail
          refine (H2.out w5 (sr_below SL.out B5.out)).mono ?_
          rintro e w6 ⟨rfl, hb6⟩
          have B6 := Lib.hid (bt B5.out hb6)
          clear hb6
          go_wp2_with fail
          refine (H3.out w6 (sr_below SS.out B6.out)).mono ?_
          rintro e w7 ⟨rfl, hb7⟩
          have B7 := Lib.hid (bt B6.out hb7)
          clear hb7
          go_wp2_with fail
          refine (H4.out w7 (sr_below SS.out B7.out)).mono ?_
          rintro e w8 ⟨rfl, hb8⟩
          have B8 := Lib.hid (bt B.out (bt B7.out hb8))
          clear hb8
          go_wp2_with fail
          refine (awake4_any w8).mono ?_
          rintro e w9 ⟨rfl, hb9⟩
          go_wp2_with fail
          go_ret
          exact ⟨rfl, bt B8.out hb9⟩
      · have hlt1 : ¬ (i : Int) + 1 < (m3 : Int) := by omega
        obtain ⟨j, hj⟩ := loc_ex l0
        obtain ⟨j', hj'⟩ := loc_ex S
        have B := Lib.hid (bt B2.out HB.out)
        have h1 := fun W s => locate_any v0 l0 j hj W s HM.out
        have h2 := fun W s => rlocate_any v0 l0 j hj W s HM.out
        have h3 := fun W s => locate_any (.slice (some ⟨g4, 0, none⟩) 6 c4) S j' hj' W s (lv_small HLV.out (by omega))
        have h4 := fun W s => rlocate_any (.slice (some ⟨g4, 0, none⟩) 6 c4) S j' hj' W s (lv_small HLV.out (by omega))
        generalize locI l0 j = I1 at *
        generalize locE l0 j = E1 at *
        generalize locI S j' = I2 at *
        generalize locE S j' = E2 at *
        have H1 := Lib.hid h1
        have H2 := Lib.hid h2
        have H3 := Lib.hid h3
        have H4 := Lib.hid h4
        have SS := Lib.hid HO.out.sr
        have SL := Lib.hid (sr_below S0.out B.out)
        have x1 : (I1 == I1) = true := by simp
        have x2 : (E1 == E1) = true := by simp
        have x3 : (I2 == I2) = true := by simp
        have x4 : (E2 == E2) = true := by simp
        clear h1 h2 h3 h4 hj hj' HO HLV HB
        go_wp2_with fail
        refine (H1.out wr SL.out).mono ?_
        rintro e w5 ⟨rfl, hb5⟩
        have B5 := Lib.hid hb5
        clear hb5
        go_wp2_with fail
        refine (H2.out w5 (sr_below SL.out B5.out)).mono ?_
        rintro e w6 ⟨rfl, hb6⟩
        have B6 := Lib.hid (bt B5.out hb6)
        clear hb6
        go_wp2_with fail
        refine (H3.out w6 (sr_below SS.out B6.out)).mono ?_
        rintro e w7 ⟨rfl, hb7⟩
        have B7 := Lib.hid (bt B6.out hb7)
        clear hb7
        go_wp2_with fail
        refine (H4.out w7 (sr_below SS.out B7.out)).mono ?_
        rintro e w8 ⟨rfl, hb8⟩
        have B8 := Lib.hid (bt B.out (bt B7.out hb8))
        clear hb8
        go_wp2_with fail
        refine (awake4_any w8).mono ?_
        rintro e w9 ⟨rfl, hb9⟩
        go_wp2_with fail
        go_ret
        exact ⟨rfl, bt B8.out hb9⟩
  · rw [decide_eq_false hl]
    go_wp2_with fail
    refine (awake4_any w).mono ?_
    rintro e w9 ⟨rfl, hb9⟩
    go_wp2_with fail
    go_ret
    exact ⟨rfl, hb9⟩
end Go.Proofs.Ytppfdaiehdbafaa.Gf
