/- What is proved here: the walk of the law ScanSalvages, over what it asks of the program. No condition. -/
import Derived.Test.YtlnccofanicihaaDoorQ9k
namespace Go.Proofs.YtlnccofanicihaaDoor.Gf
open Go Go.Joins Go.ChangeShapes Go.WideShapes Go.ChangeAt Go.RowKit Go.Deep Go.Proofs.YtlnccofanicihaaDoor.By Go.Proofs.YtlnccofanicihaaDoor.Crc Go.Proofs.YtlnccofanicihaaDoor.Qt

/-- A remainder that is not negative, in the law's way. -/
theorem mod_two (n0 : Int) {m : Nat} (hm : 0 < m) (h2 : m ≤ 1000000) : ∃ (A s : Int) (k : Nat), n0.tmod (m : Int) = A ∧ wrap64 (A + (m : Int)) = s ∧ s.tmod (m : Int) = (k : Int) ∧ k < m := by
  have h1 := Int.tmod_lt_of_pos n0 (b := (m : Int)) (by omega)
  have h2' := Int.lt_tmod_of_pos n0 (b := (m : Int)) (by omega)
  have h3 := Int.emod_lt_of_pos (n0.tmod (m : Int) + (m : Int)) (show (0 : Int) < (m : Int) by omega)
  have h4 := Int.emod_nonneg (n0.tmod (m : Int) + (m : Int)) (show (m : Int) ≠ 0 by omega)
  obtain ⟨t, ht⟩ : ∃ t, t = n0.tmod (m : Int) := ⟨_, rfl⟩
  rw [← ht] at h1 h2' h3 h4
  obtain ⟨c, hc⟩ : ∃ c : Nat, (c : Int) = (t + (m : Int)) % (m : Int) := ⟨((t + (m : Int)) % (m : Int)).toNat, Int.toNat_of_nonneg h4⟩
  rw [← hc] at h3 h4
  refine ⟨t, t + (m : Int), c, ht.symm, ?_, ?_, by omega⟩
  · clear ht hc
    unfold wrap64; omega
  · rw [Int.tmod_eq_emod_of_nonneg (by omega), ← hc]
theorem own_at {w : World} {base : Nat} {v : Value} {l : List Nat} (h : Own w base v l) (hl : 0 < l.length) : ∃ g cap cur, v = .slice (some ⟨g, 0, none⟩) l.length cap ∧ base ≤ g ∧ w.heap[g]? = some (.cells cur 5 (0, 0)) := by
  obtain ⟨_, _, ⟨rfl, h2⟩ | ⟨g, cap, cur, rfl, hg, hb, hn, hm, hsz, ht⟩⟩ := h
  · omega
  · exact ⟨g, cap, cur, rfl, hg, hb⟩
/-- A store of a byte leaves a list of numbers. -/
theorem row_set {w : World} {base n g o : Nat} {v y : Value} {xs : List Value} {cur : Array Value} (h : w.ownsRow base 2 1 v n xs) (hg : w.heap[g]? = some (.cells cur 5 (0, 0))) : (w.setCell ⟨g, o, none⟩ y).ownsRow base 2 1 v n xs := by
  obtain ⟨h1, h2 | ⟨q, cap, cq, rfl, hq, hb, h3⟩⟩ := h
  · exact ⟨h1, Or.inl h2⟩
  · refine ⟨h1, Or.inr ⟨q, cap, cq, rfl, hq, (heap_setCell_other _ _ _ _ ?_).trans hb, h3⟩⟩
    show q ≠ g
    intro e
    rw [e, hg] at hb
    simp at hb
set_option maxRecDepth 100000 in
set_option maxHeartbeats 12800000 in
theorem salv9_walk {Ok : World → Prop} (P : PC9 Ok) (v : Value) (L : List Ndl) (n1 n2 : Int) (c : Nat) (w : World) (hw : Ok w) (s : Ns w v L) (_h1 : (Lit.int .i64 n1).wf = true) (_h2 : (Lit.int .i64 n2).wf = true) (hc : c < 256) : Calls Tryd.prog 9 #[v, .int .i64 n1, .int .i64 n2, .int .u8 (c : Int)] w fun e w' => e = .returned (.bool true) ∧ Below w.heap.size w w' := by
  have SM := Lib.hid (small_any v L w s)
  have HG := Lib.hid (good_small s)
  have HKL := Lib.hid (smL_length L)
  obtain ⟨al, cl, rfl, -, -⟩ := ns_form s
  generalize L.length = n at *
  generalize smL L = K at *
  have AW := Lib.hid (fun W (h : Ok W) => awake9_any P W h)
  have ST := Lib.hid (fun (W W' : World) => P.st (w := W) (w' := W'))
  have HP := Lib.hid P
  have HBF := Lib.hid (bodF_le K HG.out)
  obtain ⟨k1, hk1⟩ : ∃ z, z = K.length := ⟨_, rfl⟩
  have HK1 := Lib.hid hk1
  have hk12 : k1 ≤ 12 := by have := HKL.out; omega
  have HC := Lib.hid hc
  have HW0 := Lib.hid hw
  clear s P hk1 hc
  go_enter Tryd.func9, Tryd.ntmps9
  go_wp2_with fail
  refine SM.out.mono ?_
  rintro e w1 ⟨⟨v1, rfl, hn1⟩, hb1⟩
  have hw1 := Lib.hid (ST.out _ _ hw hb1)
  have B1 := Lib.hid hb1
  have FA := Lib.hid (file_any v1 K w1 hn1 HG.out (by have := HKL.out; omega))
  unfold FO at FA
  have NS1 := Lib.hid hn1
  obtain ⟨a1, c1, rfl, -, -⟩ := ns_form hn1
  rw [← HK1.out] at NS1 FA ⊢
  clear hn1 hb1 SM hw
  by_cases hk0 : k1 = 0
  · subst hk0
    go_wp2_with fail
    refine (AW.out _ hw1.out).mono ?_
    rintro e w5 ⟨rfl, hb5⟩
    have B5 := Lib.hid (bt B1.out hb5)
    clear hb5
    go_wp2
    go_ret
    exact ⟨rfl, B5.out⟩
  have g1 : ((k1 : Int) == 0) = false := beq_false_of_ne (by omega)
  have g2 : decide ((k1 : Int) = 0) = false := decide_eq_false (by omega)
  by_cases hc0 : c = 0
  · have g3 : ((c : Int) == 0) = true := by rw [hc0]; rfl
    have g4 : decide ((c : Int) = 0) = true := by rw [hc0]; rfl
    have HC0 := Lib.hid hc0
    clear hc0
    go_wp2_with fail
    refine (AW.out _ hw1.out).mono ?_
    rintro e w5 ⟨rfl, hb5⟩
    have B5 := Lib.hid (bt B1.out hb5)
    clear hb5
    go_wp2
    go_ret
    exact ⟨rfl, B5.out⟩
  have g3 : ((c : Int) == 0) = false := beq_false_of_ne (by omega)
  have g4 : decide ((c : Int) = 0) = false := decide_eq_false (by omega)
  have HC0 := Lib.hid hc0
  go_wp2_with fail
  refine FA.out.mono ?_
  rintro e w2 ⟨⟨v2, t2, rfl, ho2, hr2⟩, hb2⟩
  have hw2 := Lib.hid (ST.out _ _ hw1.out hb2)
  have B2 := Lib.hid (bt B1.out hb2)
  have BW2 := Lib.hid hb2
  have ER2 := Lib.hid hr2
  have EI2 := Lib.hid (ei_row (w := w2) (base := w1.heap.size) (v := t2) (l := endsL K k1) (by rw [endsL_length]; exact hr2))
  obtain ⟨g, cg, cur, rfl, hgb, hgh⟩ := own_at ho2 (by rw [filL_length]; omega)
  obtain ⟨m2, hm2⟩ : ∃ z, z = (filL K).length := ⟨_, rfl⟩
  rw [← hm2] at ho2 ⊢
  have HM2 := Lib.hid hm2
  have O2 := Lib.hid ho2
  have HGB := Lib.hid hgb
  have HGH := Lib.hid hgh
  obtain ⟨ta, tc, rfl, -, -⟩ := ei_form EI2.out
  rw [endsL_length] at EI2 ER2 ⊢
  have HLN : Hid (16 ≤ m2 ∧ m2 ≤ 60000) := Lib.hid (by have h1 := HM2.out; rw [filL_length] at h1; have h2 := HBF.out; have h3 := HKL.out; omega)
  clear ho2 hr2 hb2 FA hm2 hgb hgh
  -- the record that is damaged
  obtain ⟨A1, s1, i, t1, t2, t3, hik⟩ := mod_two n1 (m := k1) (by omega) (by omega)
  have hil : i < K.length := by rw [← HK1.out]; exact hik
  have HIL := Lib.hid hil
  have hx := (good_get HG.out hil)
  have HX := Lib.hid hx
  have hsucc := bod_succ hil
  have hge := szR_ge (K.getD i nd0).data.length
  have hbl : (bodF (K.take (i + 1))).length ≤ (bodF K).length := by have h1 := bod_mono K (i := i + 1) (j := K.length) (by omega); rw [bod_all] at h1; exact h1
  obtain ⟨fr, hfr⟩ : ∃ z, z = 16 + (bodF (K.take i)).length := ⟨_, rfl⟩
  obtain ⟨en, hen⟩ : ∃ z, z = 16 + (bodF (K.take (i + 1))).length := ⟨_, rfl⟩
  obtain ⟨r, hr⟩ : ∃ z, z = szR (K.getD i nd0).data.length := ⟨_, rfl⟩
  rw [← hr] at hsucc hge
  have hfe : fr + r = en := by omega
  have hem : en ≤ m2 := by have := HM2.out; rw [filL_length] at this; omega
  have HFR := Lib.hid hfr
  have HEN := Lib.hid hen
  have HR := Lib.hid hr
  have HFE := Lib.hid hfe
  have HEM := Lib.hid hem
  have hm6 := HLN.out.2
  obtain ⟨A2, s2, q, u1, u2, u3, hqr⟩ := mod_two n2 (m := r) (by omega) (by omega)
  have HQR := Lib.hid hqr
  obtain ⟨ix, hix⟩ : ∃ z, z = fr + q := ⟨_, rfl⟩
  have HIX := Lib.hid hix
  have HGE := Lib.hid hge
  have HIK := Lib.hid hik
  have u5 : ((r : Int) == 0) = false := beq_false_of_ne (by clear t2 u2; omega)
  have u6 : ¬ r = 0 := by clear t2 u2; omega
  have x1 : wrap64 ((en : Int) - (fr : Int)) = (r : Int) := by clear t2 u2 t1 t3 u1 u3; unfold wrap64; omega
  have x2 : wrap64 ((fr : Int) + (q : Int)) = (ix : Int) := by clear t2 u2 t1 t3 u1 u3 x1; unfold wrap64; omega
  have x3 : wrap64 ((fr : Int) + 8) = ((fr + 8 : Nat) : Int) := by clear t2 u2 t1 t3 u1 u3 x1 x2; unfold wrap64; omega
  have HXX := Lib.hid (And.intro x1 (And.intro x2 x3))
  have i1 : (0 : Int) ≤ (i : Int) := by clear t2 u2 x1 x2 x3; omega
  have i2 : (i : Int) < (k1 : Int) := by clear t2 u2 x1 x2 x3; omega
  have j1 : (0 : Int) ≤ (ix : Int) := by clear t2 u2 x1 x2 x3; omega
  have j2 : (ix : Int) < (m2 : Int) := by clear t2 u2 x1 x2 x3; omega
  have hixm : ix < m2 := by clear t2 u2 x1 x2 x3; omega
  -- the cells
  have hkl := HK1.out
  obtain ⟨b3, o3, c3', hv3, q3⟩ := ei_cells EI2.out (by rw [endsL_length]; clear t2 u2 x1 x2 x3; omega)
  rw [endsL_length] at hv3
  obtain ⟨rfl, -⟩ : ta = some ⟨b3, o3, none⟩ ∧ tc = c3' := by simpa using hv3
  have E0 := q3 i (by rw [endsL_length]; exact hik)
  rw [ends_get hik, ← hen] at E0
  obtain ⟨y0, y1, -⟩ := own_cell O2.out HM2.out.symm hixm
  have hy0 := getD_lt O2.out.1 ix
  obtain ⟨yv, hyv⟩ : ∃ z, z = (filL K).getD ix 0 := ⟨_, rfl⟩
  rw [← hyv] at y0 hy0
  have HYV := Lib.hid hyv
  have xo := u8_xor_nat yv c hy0 HC.out
  have HXL := Lib.hid (xor_lt8 hy0 HC.out)
  obtain ⟨nv, hnv⟩ : ∃ z, z = yv ^^^ c := ⟨_, rfl⟩
  rw [← hnv] at xo HXL
  have HNV := Lib.hid hnv
  have O3 := Lib.hid (own_set O2.out HM2.out.symm hixm HXL.out)
  have ER3 := Lib.hid (row_set (o := ix) (y := .int .u8 (nv : Int)) ER2.out HGH.out)
  have BW3 := Lib.hid (BW2.out.setCell (p := ⟨g, ix, none⟩) HGB.out (.int .u8 (nv : Int)))
  have hq3 := q3
  have HE1 : Hid (0 < i → w2.cell? ⟨b3, o3 + (i - 1), none⟩ = some (.int .i64 (fr : Int))) := Lib.hid fun hi => by
    have h := hq3 (i - 1) (by rw [endsL_length]; omega)
    rwa [ends_get (by omega), show i - 1 + 1 = i by omega, ← HFR.out] at h
  have H0 : Hid (i = 0 → fr = 16) := Lib.hid fun hi => by rw [HFR.out, hi]; simp [bodF]
  have T2 := Lib.hid t2
  have U2 := Lib.hid u2
  clear q3 hq3 hv3 hkl hyv hnv hy0 hm6 hqr hix hge hik hsucc hbl hfe hem hfr hen hr hx hil hixm x1 x2 x3
  -- ARMS
  by_cases hi0 : i = 0
  · have hf := H0.out hi0
    have x1 : wrap64 ((en : Int) - 16) = (r : Int) := by have h := HXX.out.1; rw [hf] at h; exact h
    have x2 : wrap64 (16 + (q : Int)) = (ix : Int) := by have h := HXX.out.2.1; rw [hf] at h; exact h
    have HF16 := Lib.hid hf
    have l3 : decide ((i : Int) > 0) = false := decide_eq_false (by clear x1 x2 t2 u2; omega)
    have l4 : decide (0 < (i : Int)) = false := decide_eq_false (by clear x1 x2 t2 u2; omega)
    have l5 : ¬ 0 < i := by clear x1 x2 t2 u2; omega
    clear hf hi0
    have hq3 : (16 ≤ q ∧ q < 20) ∨ q < 16 ∨ (16 ≤ q ∧ 20 ≤ q) := by clear x1 x2 t2 u2; omega
    rcases hq3 with ⟨m1, m2'⟩ | m1 | ⟨m1, m2'⟩
    · have m3 : decide ((q : Int) ≥ 16) = true := decide_eq_true (by clear x1 x2 t2 u2; omega)
      have m4 : decide (16 ≤ (q : Int)) = true := decide_eq_true (by clear x1 x2 t2 u2; omega)
      have m5 : decide ((q : Int) < 20) = true := decide_eq_true (by clear x1 x2 t2 u2; omega)
      clear m1 m2'
      go_wp2_with fail
      refine (AW.out _ hw2.out).mono ?_
      rintro e w5 ⟨rfl, hb5⟩
      have B5 := Lib.hid (bt B2.out hb5)
      clear hb5
      go_wp2
      go_ret
      exact ⟨rfl, B5.out⟩
    · have m3 : decide ((q : Int) ≥ 16) = false := decide_eq_false (by clear x1 x2 t2 u2; omega)
      have m4 : decide (16 ≤ (q : Int)) = false := decide_eq_false (by clear x1 x2 t2 u2; omega)
      have m5 : decide ((q : Int) < 20) = true := decide_eq_true (by clear x1 x2 t2 u2; omega)
      have HNE : Hid (q < 16 ∨ 20 ≤ q) := Lib.hid (by clear x1 x2 t2 u2; omega)
      clear m1
      go_wp2_with fail
      have EI3 := Lib.hid (ei_row (base := w1.heap.size) (v := .slice (some ⟨b3, o3, none⟩) k1 tc) (l := endsL K k1) (by rw [endsL_length]; exact ER3.out))
      have NS3 := Lib.hid (ns_below NS1.out BW3.out)
      have B3 := Lib.hid (bt B1.out BW3.out)
      have hw3 := Lib.hid (ST.out _ _ HW0.out B3.out)
      obtain ⟨F2, hF2⟩ : ∃ z, z = (filL K).set ix nv := ⟨_, rfl⟩
      rw [← hF2] at O3
      have HF2 := Lib.hid hF2
      have L2 : Hid (F2.length = m2) := Lib.hid (by rw [hF2, List.length_set, HM2.out])
      clear E0 y0 y1 xo j1 j2 t1 t2 t3 u1 u2 u3 hF2 ER3 BW3 m3 m4 m5 x1 x2 l3 l4 l5
      generalize w2.setCell ⟨g, ix, none⟩ (.int .u8 (nv : Int)) = W3 at *
      obtain ⟨b3', o3', c3'', hv3, q3⟩ := ei_cells EI3.out (by rw [endsL_length]; omega)
      obtain ⟨⟨rfl, rfl⟩, -⟩ : (b3 = b3' ∧ o3 = o3') ∧ tc = c3'' := by simpa [endsL_length] using hv3
      have E0 := q3 i (by rw [endsL_length]; exact HIK.out)
      rw [ends_get HIK.out, ← HEN.out] at E0
      clear q3 hv3
      go_loopw [16] (fun t wr => ∃ z : Nat, t = .int .i64 ((fr + 8 + 8 * z : Nat) : Int) ∧ fr + 8 + 8 * z ≤ en + 8 ∧ Hid (∀ y, y < z → F2.getD (fr + 8 + 8 * y) 0 ≠ 78) ∧ wr = W3) (fun t _ => en + 8 - (intOf t).toNat)
      case atStart => exact ⟨0, by show Value.int .i64 _ = Value.int .i64 _; rw [HF16.out]; rfl, by have h1 := HFE.out; have h2 := HGE.out; omega, Lib.hid (fun y hy => by omega), rfl⟩
      case round =>
        obtain ⟨z, rfl, hz, HZ, hW⟩ := hrel
        subst hW
        obtain ⟨pv, hpv⟩ : ∃ x, x = fr + 8 + 8 * z := ⟨_, rfl⟩
        rw [← hpv] at hz ⊢
        have HPV := Lib.hid hpv
        have hem := HEM.out
        have hln := HLN.out.2
        clear hpv
        by_cases hlt : pv < en
        · have l1 : decide ((pv : Int) < (en : Int)) = true := decide_eq_true (by omega)
          have p1 : (0 : Int) ≤ (pv : Int) := by omega
          have p2 : (pv : Int) < (m2 : Int) := by omega
          have hcell := (own_cell O3.out L2.out (q := pv) (by omega)).1
          obtain ⟨yb, hyb⟩ : ∃ x, x = F2.getD pv 0 := ⟨_, rfl⟩
          rw [← hyb] at hcell
          have HYB := Lib.hid hyb
          have HLT := Lib.hid hlt
          clear hyb hem
          by_cases h78 : yb = 78
          · have g5 : ((yb : Int) == 78) = true := by rw [h78]; rfl
            have g6 : decide ((yb : Int) = 78) = true := by rw [h78]; rfl
            clear h78
            go_wp2_with fail
            refine (AW.out _ hw3.out).mono ?_
            rintro e w5 ⟨rfl, hb5⟩
            have B5 := Lib.hid (bt B3.out hb5)
            clear hb5
            go_wp2
            go_ret
            exact ⟨rfl, B5.out⟩
          · have g5 : ((yb : Int) == 78) = false := beq_false_of_ne (by omega)
            have g6 : decide ((yb : Int) = 78) = false := decide_eq_false (by omega)
            have H78 := Lib.hid h78
            have x4 : wrap64 ((pv : Int) + 8) = ((pv + 8 : Nat) : Int) := by unfold wrap64; omega
            go_wp2
            go_roundw
            case rel =>
              clear x4
              refine ⟨z + 1, by rw [HPV.out]; rfl, by have := HPV.out; have := HLT.out; omega, Lib.hid (fun y hy => ?_), trivial⟩
              by_cases hyz : y < z
              · exact HZ.out y hyz
              · obtain rfl : y = z := by omega
                rw [← HPV.out, ← HYB.out]
                exact H78.out
            case measure =>
              clear x4
              have h1 := HLT.out
              simp [intOf]
              omega
        · have l1 : decide ((pv : Int) < (en : Int)) = false := decide_eq_false (by omega)
          have h78' : ∀ p, fr < p → p < en → (p - fr) % 8 = 0 → F2.getD p 0 ≠ 78 := fun p h1 h2 h3 => by
            have h4 := HPV.out
            have h := HZ.out ((p - fr) / 8 - 1) (by omega)
            rwa [show fr + 8 + 8 * ((p - fr) / 8 - 1) = p by omega] at h
          have HD : slv F2 16 = rcs 16 (K.take i) ++ rcs en (K.drop (i + 1)) := by
            rw [HF2.out, HNV.out, HYV.out, HIX.out, HEN.out, HFR.out] at h78'
            rw [HF2.out, HNV.out, HYV.out, HIX.out, HEN.out, HFR.out]
            exact fil_dmg HG.out HIL.out (by rw [← HR.out]; exact HQR.out) HC.out HC0.out (by have := HNE.out; omega) h78'
          have OP := Lib.hid (HP.out.slvg _ F2 _ hw3.out O3.out.sl (by rw [L2.out]; omega))
          have HL2 := Lib.hid (two_length HIL.out 16 en)
          have HXR := Lib.hid (fun j => rcs_two HIL.out 16 en j)
          unfold SO at OP
          rw [HD] at OP
          obtain ⟨RR, hRR⟩ : ∃ z, z = rcs 16 (K.take i) ++ rcs en (K.drop (i + 1)) := ⟨_, rfl⟩
          rw [← hRR] at OP HL2 HXR
          obtain ⟨km, hkm⟩ : ∃ z, z = k1 - 1 := ⟨_, rfl⟩
          rw [← HK1.out, ← hkm] at HL2
          have hk0' := HIK.out
          have HKM : Hid (km + 1 = k1) := Lib.hid (by omega)
          have x5 : ((km : Int) != (k1 : Int) - 1) = false := by rw [bne_eq_false_iff_eq]; omega
          clear h78' HD hRR hkm hk0' hem hln hz HZ HPV
          go_wp2_with fail
          refine OP.out.mono ?_
          rintro e w7 ⟨⟨v7, rfl, ho7⟩, hb7⟩
          have RS8 := Lib.hid (owR_rs ho7)
          have B8 := Lib.hid (bt B3.out hb7)
          have hw8 := Lib.hid (ST.out _ _ hw3.out hb7)
          have NS8 := Lib.hid (ns_below NS3.out hb7)
          obtain ⟨a7, c7, rfl, -, -⟩ := owR_form ho7
          rw [HL2.out] at RS8 ⊢
          clear ho7 hb7 OP NS3 hw3 B3 EI3 O3 E0 hlt l1
          go_wp2_with fail
          rename World => wo
          go_loopw [107] (fun t wr => ∃ p : Nat, p ≤ km ∧ t = .int .i64 (p : Int) ∧ Hid (Below wo.heap.size wo wr)) (fun t _ => km - (intOf t).toNat)
          case atStart => exact ⟨0, by omega, rfl, Lib.hid (Below.refl _ _)⟩
          case round =>
            clear x5
            obtain ⟨p, hp, rfl, HB⟩ := hrel
            have hkm12 : km ≤ 12 := by have := HKM.out; omega
            by_cases hpk : p < km
            · have l5 : decide ((p : Int) < (km : Int)) = true := decide_eq_true (by omega)
              have p0 : (0 : Int) ≤ (p : Int) := by omega
              have p1 : (p : Int) < (km : Int) := by omega
              have hkl := HK1.out
              have hik := HIK.out
              have hrl := HL2.out
              have hkm' := HKM.out
              have hxr := HXR.out p (by omega)
              obtain ⟨b1, o1, c1', hv1, -, -, q1⟩ := rs_cells RS8.out (by omega)
              obtain ⟨rfl, -, -⟩ : a7 = some ⟨b1, o1, none⟩ ∧ km = RR.length ∧ c7 = c1' := by simpa using hv1
              obtain ⟨d, C0⟩ := q1 p (by omega)
              obtain ⟨b4, o4, c2', hv2, -, -, q2⟩ := ns_cells NS8.out (by omega)
              obtain ⟨rfl, -, -⟩ : a1 = some ⟨b4, o4, none⟩ ∧ k1 = K.length ∧ c1 = c2' := by simpa using hv2
              obtain ⟨f0, f1, f2, f3, f4, okr, sd⟩ := C0.below HB.out
              rw [hxr] at f1 f2 f3 sd okr
              clear hxr
              by_cases hpi : p < i
              · have l6 : decide ((p : Int) ≥ (i : Int)) = false := decide_eq_false (by omega)
                have l7 : decide ((i : Int) ≤ (p : Int)) = false := decide_eq_false (by omega)
                have l8 : ¬ i ≤ p := by omega
                have p2 : (p : Int) < (k1 : Int) := by omega
                rw [if_pos hpi] at f1 f2 f3 sd okr
                obtain ⟨d2, D0⟩ := q2 p (by omega)
                obtain ⟨g0, g1, g2, g3, okr2, sd2⟩ := D0.below HB.out
                clear hkm'
                generalize K.getD p nd0 = x at *
                have RS := Lib.hid (fun W (hW : Below wr.heap.size wr W) => rsame_any (.agg #[.int .u64 (x.key : Int), .int .u32 (x.cookie : Int), .bool x.del, d]) (.agg #[.int .u64 (x.key : Int), .int .u32 (x.cookie : Int), .bool x.del, d2]) x x W ⟨d, rfl, okr.key, okr.ck, sl_below sd hW⟩ ⟨d2, rfl, okr2.key, okr2.ck, sl_below sd2 hW⟩)
                rw [sameB_self] at RS
                obtain ⟨ad, cd, rfl, -, -⟩ := sl_form sd
                obtain ⟨ad2, cd2, rfl, -, -⟩ := sl_form sd2
                generalize x.data.length = nd at *
                clear C0 D0 q1 q2 hv1 hv2 hkl hik hrl sd sd2 okr okr2 f0
                go_wp2_with fail
                have x1 := cells_regrown f1
                have x2 := cells_regrown f2
                have x3 := cells_regrown f3
                have x4 := cells_regrown f4
                have y0 := cells_regrown g0
                have y1 := cells_regrown g1
                have y2 := cells_regrown g2
                have y3 := cells_regrown g3
                have G1 := Lib.hid (regrown_bel (w := wr) RS.out)
                clear f1 f2 f3 f4 g0 g1 g2 g3
                refine wp_region_bl (by kernel_rfl) (by kernel_rfl) ?_
                repeat (go_big_quiet_step (fail))
                go_big_quiet_step ((go_at_call 25; with_reducible exact G1.out _ _))
                repeat (go_big_quiet_step (fail))
                refine wpQuiet_nil ?_
                intro w9 hb9
                have B10 := Lib.hid (bt HB.out hb9)
                clear x1 x2 x3 x4 y0 y1 y2 y3 G1 hb9 RS
                go_wp2
                go_roundw
                case rel => exact ⟨p + 1, by omega, by go_num, B10⟩
                case measure => simp [intOf]; omega
              · have l6 : decide ((p : Int) ≥ (i : Int)) = true := decide_eq_true (by omega)
                have l7 : decide ((i : Int) ≤ (p : Int)) = true := decide_eq_true (by omega)
                have l8 : i ≤ p := by omega
                rw [if_neg hpi] at f1 f2 f3 sd okr
                obtain ⟨d2, D0⟩ := q2 (p + 1) (by omega)
                obtain ⟨g0, g1, g2, g3, okr2, sd2⟩ := D0.below HB.out
                have x6 : wrap64 ((p : Int) + 1) = ((p + 1 : Nat) : Int) := by unfold wrap64; omega
                have p2 : ((p + 1 : Nat) : Int) < (k1 : Int) := by clear x6; omega
                have p3 : (0 : Int) ≤ ((p + 1 : Nat) : Int) := by clear x6; omega
                clear hkm'
                generalize K.getD (p + 1) nd0 = x at *
                have RS := Lib.hid (fun W (hW : Below wr.heap.size wr W) => rsame_any (.agg #[.int .u64 (x.key : Int), .int .u32 (x.cookie : Int), .bool x.del, d]) (.agg #[.int .u64 (x.key : Int), .int .u32 (x.cookie : Int), .bool x.del, d2]) x x W ⟨d, rfl, okr.key, okr.ck, sl_below sd hW⟩ ⟨d2, rfl, okr2.key, okr2.ck, sl_below sd2 hW⟩)
                rw [sameB_self] at RS
                obtain ⟨ad, cd, rfl, -, -⟩ := sl_form sd
                obtain ⟨ad2, cd2, rfl, -, -⟩ := sl_form sd2
                generalize x.data.length = nd at *
                clear C0 D0 q1 q2 hv1 hv2 hkl hik hrl sd sd2 okr okr2 f0
                go_wp2_with fail
                have x1 := cells_regrown f1
                have x2 := cells_regrown f2
                have x3 := cells_regrown f3
                have x4 := cells_regrown f4
                have y0 := cells_regrown g0
                have y1 := cells_regrown g1
                have y2 := cells_regrown g2
                have y3 := cells_regrown g3
                have G1 := Lib.hid (regrown_bel (w := wr) RS.out)
                clear f1 f2 f3 f4 g0 g1 g2 g3
                refine wp_region_bl (by kernel_rfl) (by kernel_rfl) ?_
                repeat (go_big_quiet_step (fail))
                go_big_quiet_step ((go_at_call 25; with_reducible exact G1.out _ _))
                repeat (go_big_quiet_step (fail))
                refine wpQuiet_nil ?_
                intro w9 hb9
                have B10 := Lib.hid (bt HB.out hb9)
                clear x1 x2 x3 x4 y0 y1 y2 y3 G1 hb9 RS x6 p2 p3
                go_wp2
                go_roundw
                case rel => exact ⟨p + 1, by omega, by go_num, B10⟩
                case measure => simp [intOf]; omega
            · obtain rfl : p = km := by omega
              have l5 : decide ((p : Int) < (p : Int)) = false := decide_eq_false (by omega)
              have hw10 := Lib.hid (ST.out _ _ hw8.out HB.out)
              have B10 := Lib.hid (bt B8.out HB.out)
              go_wp2_with fail
              refine (AW.out _ hw10.out).mono ?_
              rintro e w5 ⟨rfl, hb5⟩
              have B5 := Lib.hid (bt B10.out hb5)
              clear hb5
              go_wp2
              go_ret
              exact ⟨rfl, B5.out⟩
    · have m3 : decide ((q : Int) ≥ 16) = true := decide_eq_true (by clear x1 x2 t2 u2; omega)
      have m4 : decide (16 ≤ (q : Int)) = true := decide_eq_true (by clear x1 x2 t2 u2; omega)
      have m5 : decide ((q : Int) < 20) = false := decide_eq_false (by clear x1 x2 t2 u2; omega)
      have HNE : Hid (q < 16 ∨ 20 ≤ q) := Lib.hid (by clear x1 x2 t2 u2; omega)
      clear m1 m2'
      go_wp2_with fail
      have EI3 := Lib.hid (ei_row (base := w1.heap.size) (v := .slice (some ⟨b3, o3, none⟩) k1 tc) (l := endsL K k1) (by rw [endsL_length]; exact ER3.out))
      have NS3 := Lib.hid (ns_below NS1.out BW3.out)
      have B3 := Lib.hid (bt B1.out BW3.out)
      have hw3 := Lib.hid (ST.out _ _ HW0.out B3.out)
      obtain ⟨F2, hF2⟩ : ∃ z, z = (filL K).set ix nv := ⟨_, rfl⟩
      rw [← hF2] at O3
      have HF2 := Lib.hid hF2
      have L2 : Hid (F2.length = m2) := Lib.hid (by rw [hF2, List.length_set, HM2.out])
      clear E0 y0 y1 xo j1 j2 t1 t2 t3 u1 u2 u3 hF2 ER3 BW3 m3 m4 m5 x1 x2 l3 l4 l5
      generalize w2.setCell ⟨g, ix, none⟩ (.int .u8 (nv : Int)) = W3 at *
      obtain ⟨b3', o3', c3'', hv3, q3⟩ := ei_cells EI3.out (by rw [endsL_length]; omega)
      obtain ⟨⟨rfl, rfl⟩, -⟩ : (b3 = b3' ∧ o3 = o3') ∧ tc = c3'' := by simpa [endsL_length] using hv3
      have E0 := q3 i (by rw [endsL_length]; exact HIK.out)
      rw [ends_get HIK.out, ← HEN.out] at E0
      clear q3 hv3
      go_loopw [16] (fun t wr => ∃ z : Nat, t = .int .i64 ((fr + 8 + 8 * z : Nat) : Int) ∧ fr + 8 + 8 * z ≤ en + 8 ∧ Hid (∀ y, y < z → F2.getD (fr + 8 + 8 * y) 0 ≠ 78) ∧ wr = W3) (fun t _ => en + 8 - (intOf t).toNat)
      case atStart => exact ⟨0, by show Value.int .i64 _ = Value.int .i64 _; rw [HF16.out]; rfl, by have h1 := HFE.out; have h2 := HGE.out; omega, Lib.hid (fun y hy => by omega), rfl⟩
      case round =>
        obtain ⟨z, rfl, hz, HZ, hW⟩ := hrel
        subst hW
        obtain ⟨pv, hpv⟩ : ∃ x, x = fr + 8 + 8 * z := ⟨_, rfl⟩
        rw [← hpv] at hz ⊢
        have HPV := Lib.hid hpv
        have hem := HEM.out
        have hln := HLN.out.2
        clear hpv
        by_cases hlt : pv < en
        · have l1 : decide ((pv : Int) < (en : Int)) = true := decide_eq_true (by omega)
          have p1 : (0 : Int) ≤ (pv : Int) := by omega
          have p2 : (pv : Int) < (m2 : Int) := by omega
          have hcell := (own_cell O3.out L2.out (q := pv) (by omega)).1
          obtain ⟨yb, hyb⟩ : ∃ x, x = F2.getD pv 0 := ⟨_, rfl⟩
          rw [← hyb] at hcell
          have HYB := Lib.hid hyb
          have HLT := Lib.hid hlt
          clear hyb hem
          by_cases h78 : yb = 78
          · have g5 : ((yb : Int) == 78) = true := by rw [h78]; rfl
            have g6 : decide ((yb : Int) = 78) = true := by rw [h78]; rfl
            clear h78
            go_wp2_with fail
            refine (AW.out _ hw3.out).mono ?_
            rintro e w5 ⟨rfl, hb5⟩
            have B5 := Lib.hid (bt B3.out hb5)
            clear hb5
            go_wp2
            go_ret
            exact ⟨rfl, B5.out⟩
          · have g5 : ((yb : Int) == 78) = false := beq_false_of_ne (by omega)
            have g6 : decide ((yb : Int) = 78) = false := decide_eq_false (by omega)
            have H78 := Lib.hid h78
            have x4 : wrap64 ((pv : Int) + 8) = ((pv + 8 : Nat) : Int) := by unfold wrap64; omega
            go_wp2
            go_roundw
            case rel =>
              clear x4
              refine ⟨z + 1, by rw [HPV.out]; rfl, by have := HPV.out; have := HLT.out; omega, Lib.hid (fun y hy => ?_), trivial⟩
              by_cases hyz : y < z
              · exact HZ.out y hyz
              · obtain rfl : y = z := by omega
                rw [← HPV.out, ← HYB.out]
                exact H78.out
            case measure =>
              clear x4
              have h1 := HLT.out
              simp [intOf]
              omega
        · have l1 : decide ((pv : Int) < (en : Int)) = false := decide_eq_false (by omega)
          have h78' : ∀ p, fr < p → p < en → (p - fr) % 8 = 0 → F2.getD p 0 ≠ 78 := fun p h1 h2 h3 => by
            have h4 := HPV.out
            have h := HZ.out ((p - fr) / 8 - 1) (by omega)
            rwa [show fr + 8 + 8 * ((p - fr) / 8 - 1) = p by omega] at h
          have HD : slv F2 16 = rcs 16 (K.take i) ++ rcs en (K.drop (i + 1)) := by
            rw [HF2.out, HNV.out, HYV.out, HIX.out, HEN.out, HFR.out] at h78'
            rw [HF2.out, HNV.out, HYV.out, HIX.out, HEN.out, HFR.out]
            exact fil_dmg HG.out HIL.out (by rw [← HR.out]; exact HQR.out) HC.out HC0.out (by have := HNE.out; omega) h78'
          have OP := Lib.hid (HP.out.slvg _ F2 _ hw3.out O3.out.sl (by rw [L2.out]; omega))
          have HL2 := Lib.hid (two_length HIL.out 16 en)
          have HXR := Lib.hid (fun j => rcs_two HIL.out 16 en j)
          unfold SO at OP
          rw [HD] at OP
          obtain ⟨RR, hRR⟩ : ∃ z, z = rcs 16 (K.take i) ++ rcs en (K.drop (i + 1)) := ⟨_, rfl⟩
          rw [← hRR] at OP HL2 HXR
          obtain ⟨km, hkm⟩ : ∃ z, z = k1 - 1 := ⟨_, rfl⟩
          rw [← HK1.out, ← hkm] at HL2
          have hk0' := HIK.out
          have HKM : Hid (km + 1 = k1) := Lib.hid (by omega)
          have x5 : ((km : Int) != (k1 : Int) - 1) = false := by rw [bne_eq_false_iff_eq]; omega
          clear h78' HD hRR hkm hk0' hem hln hz HZ HPV
          go_wp2_with fail
          refine OP.out.mono ?_
          rintro e w7 ⟨⟨v7, rfl, ho7⟩, hb7⟩
          have RS8 := Lib.hid (owR_rs ho7)
          have B8 := Lib.hid (bt B3.out hb7)
          have hw8 := Lib.hid (ST.out _ _ hw3.out hb7)
          have NS8 := Lib.hid (ns_below NS3.out hb7)
          obtain ⟨a7, c7, rfl, -, -⟩ := owR_form ho7
          rw [HL2.out] at RS8 ⊢
          clear ho7 hb7 OP NS3 hw3 B3 EI3 O3 E0 hlt l1
          go_wp2_with fail
          rename World => wo
          go_loopw [107] (fun t wr => ∃ p : Nat, p ≤ km ∧ t = .int .i64 (p : Int) ∧ Hid (Below wo.heap.size wo wr)) (fun t _ => km - (intOf t).toNat)
          case atStart => exact ⟨0, by omega, rfl, Lib.hid (Below.refl _ _)⟩
          case round =>
            clear x5
            obtain ⟨p, hp, rfl, HB⟩ := hrel
            have hkm12 : km ≤ 12 := by have := HKM.out; omega
            by_cases hpk : p < km
            · have l5 : decide ((p : Int) < (km : Int)) = true := decide_eq_true (by omega)
              have p0 : (0 : Int) ≤ (p : Int) := by omega
              have p1 : (p : Int) < (km : Int) := by omega
              have hkl := HK1.out
              have hik := HIK.out
              have hrl := HL2.out
              have hkm' := HKM.out
              have hxr := HXR.out p (by omega)
              obtain ⟨b1, o1, c1', hv1, -, -, q1⟩ := rs_cells RS8.out (by omega)
              obtain ⟨rfl, -, -⟩ : a7 = some ⟨b1, o1, none⟩ ∧ km = RR.length ∧ c7 = c1' := by simpa using hv1
              obtain ⟨d, C0⟩ := q1 p (by omega)
              obtain ⟨b4, o4, c2', hv2, -, -, q2⟩ := ns_cells NS8.out (by omega)
              obtain ⟨rfl, -, -⟩ : a1 = some ⟨b4, o4, none⟩ ∧ k1 = K.length ∧ c1 = c2' := by simpa using hv2
              obtain ⟨f0, f1, f2, f3, f4, okr, sd⟩ := C0.below HB.out
              rw [hxr] at f1 f2 f3 sd okr
              clear hxr
              by_cases hpi : p < i
              · have l6 : decide ((p : Int) ≥ (i : Int)) = false := decide_eq_false (by omega)
                have l7 : decide ((i : Int) ≤ (p : Int)) = false := decide_eq_false (by omega)
                have l8 : ¬ i ≤ p := by omega
                have p2 : (p : Int) < (k1 : Int) := by omega
                rw [if_pos hpi] at f1 f2 f3 sd okr
                obtain ⟨d2, D0⟩ := q2 p (by omega)
                obtain ⟨g0, g1, g2, g3, okr2, sd2⟩ := D0.below HB.out
                clear hkm'
                generalize K.getD p nd0 = x at *
                have RS := Lib.hid (fun W (hW : Below wr.heap.size wr W) => rsame_any (.agg #[.int .u64 (x.key : Int), .int .u32 (x.cookie : Int), .bool x.del, d]) (.agg #[.int .u64 (x.key : Int), .int .u32 (x.cookie : Int), .bool x.del, d2]) x x W ⟨d, rfl, okr.key, okr.ck, sl_below sd hW⟩ ⟨d2, rfl, okr2.key, okr2.ck, sl_below sd2 hW⟩)
                rw [sameB_self] at RS
                obtain ⟨ad, cd, rfl, -, -⟩ := sl_form sd
                obtain ⟨ad2, cd2, rfl, -, -⟩ := sl_form sd2
                generalize x.data.length = nd at *
                clear C0 D0 q1 q2 hv1 hv2 hkl hik hrl sd sd2 okr okr2 f0
                go_wp2_with fail
                have x1 := cells_regrown f1
                have x2 := cells_regrown f2
                have x3 := cells_regrown f3
                have x4 := cells_regrown f4
                have y0 := cells_regrown g0
                have y1 := cells_regrown g1
                have y2 := cells_regrown g2
                have y3 := cells_regrown g3
                have G1 := Lib.hid (regrown_bel (w := wr) RS.out)
                clear f1 f2 f3 f4 g0 g1 g2 g3
                refine wp_region_bl (by kernel_rfl) (by kernel_rfl) ?_
                repeat (go_big_quiet_step (fail))
                go_big_quiet_step ((go_at_call 25; with_reducible exact G1.out _ _))
                repeat (go_big_quiet_step (fail))
                refine wpQuiet_nil ?_
                intro w9 hb9
                have B10 := Lib.hid (bt HB.out hb9)
                clear x1 x2 x3 x4 y0 y1 y2 y3 G1 hb9 RS
                go_wp2
                go_roundw
                case rel => exact ⟨p + 1, by omega, by go_num, B10⟩
                case measure => simp [intOf]; omega
              · have l6 : decide ((p : Int) ≥ (i : Int)) = true := decide_eq_true (by omega)
                have l7 : decide ((i : Int) ≤ (p : Int)) = true := decide_eq_true (by omega)
                have l8 : i ≤ p := by omega
                rw [if_neg hpi] at f1 f2 f3 sd okr
                obtain ⟨d2, D0⟩ := q2 (p + 1) (by omega)
                obtain ⟨g0, g1, g2, g3, okr2, sd2⟩ := D0.below HB.out
                have x6 : wrap64 ((p : Int) + 1) = ((p + 1 : Nat) : Int) := by unfold wrap64; omega
                have p2 : ((p + 1 : Nat) : Int) < (k1 : Int) := by clear x6; omega
                have p3 : (0 : Int) ≤ ((p + 1 : Nat) : Int) := by clear x6; omega
                clear hkm'
                generalize K.getD (p + 1) nd0 = x at *
                have RS := Lib.hid (fun W (hW : Below wr.heap.size wr W) => rsame_any (.agg #[.int .u64 (x.key : Int), .int .u32 (x.cookie : Int), .bool x.del, d]) (.agg #[.int .u64 (x.key : Int), .int .u32 (x.cookie : Int), .bool x.del, d2]) x x W ⟨d, rfl, okr.key, okr.ck, sl_below sd hW⟩ ⟨d2, rfl, okr2.key, okr2.ck, sl_below sd2 hW⟩)
                rw [sameB_self] at RS
                obtain ⟨ad, cd, rfl, -, -⟩ := sl_form sd
                obtain ⟨ad2, cd2, rfl, -, -⟩ := sl_form sd2
                generalize x.data.length = nd at *
                clear C0 D0 q1 q2 hv1 hv2 hkl hik hrl sd sd2 okr okr2 f0
                go_wp2_with fail
                have x1 := cells_regrown f1
                have x2 := cells_regrown f2
                have x3 := cells_regrown f3
                have x4 := cells_regrown f4
                have y0 := cells_regrown g0
                have y1 := cells_regrown g1
                have y2 := cells_regrown g2
                have y3 := cells_regrown g3
                have G1 := Lib.hid (regrown_bel (w := wr) RS.out)
                clear f1 f2 f3 f4 g0 g1 g2 g3
                refine wp_region_bl (by kernel_rfl) (by kernel_rfl) ?_
                repeat (go_big_quiet_step (fail))
                go_big_quiet_step ((go_at_call 25; with_reducible exact G1.out _ _))
                repeat (go_big_quiet_step (fail))
                refine wpQuiet_nil ?_
                intro w9 hb9
                have B10 := Lib.hid (bt HB.out hb9)
                clear x1 x2 x3 x4 y0 y1 y2 y3 G1 hb9 RS x6 p2 p3
                go_wp2
                go_roundw
                case rel => exact ⟨p + 1, by omega, by go_num, B10⟩
                case measure => simp [intOf]; omega
            · obtain rfl : p = km := by omega
              have l5 : decide ((p : Int) < (p : Int)) = false := decide_eq_false (by omega)
              have hw10 := Lib.hid (ST.out _ _ hw8.out HB.out)
              have B10 := Lib.hid (bt B8.out HB.out)
              go_wp2_with fail
              refine (AW.out _ hw10.out).mono ?_
              rintro e w5 ⟨rfl, hb5⟩
              have B5 := Lib.hid (bt B10.out hb5)
              clear hb5
              go_wp2
              go_ret
              exact ⟨rfl, B5.out⟩
  · have hip : 0 < i := by clear t2 u2; omega
    have e4 := HE1.out hip
    obtain ⟨x1, x2, x3⟩ := HXX.out
    have l3 : decide ((i : Int) > 0) = true := decide_eq_true (by clear x1 x2 x3 t2 u2; omega)
    have l4 : decide (0 < (i : Int)) = true := decide_eq_true (by clear x1 x2 x3 t2 u2; omega)
    have i4 : (0 : Int) ≤ (i : Int) - 1 := by clear x1 x2 x3 t2 u2; omega
    have i5 : (i : Int) - 1 < (k1 : Int) := by clear x1 x2 x3 t2 u2; omega
    clear hi0
    have hq3 : (16 ≤ q ∧ q < 20) ∨ q < 16 ∨ (16 ≤ q ∧ 20 ≤ q) := by clear x1 x2 x3 t2 u2; omega
    rcases hq3 with ⟨m1, m2'⟩ | m1 | ⟨m1, m2'⟩
    · have m3 : decide ((q : Int) ≥ 16) = true := decide_eq_true (by clear x1 x2 x3 t2 u2; omega)
      have m4 : decide (16 ≤ (q : Int)) = true := decide_eq_true (by clear x1 x2 x3 t2 u2; omega)
      have m5 : decide ((q : Int) < 20) = true := decide_eq_true (by clear x1 x2 x3 t2 u2; omega)
      clear m1 m2'
      go_wp2_with fail
      refine (AW.out _ hw2.out).mono ?_
      rintro e w5 ⟨rfl, hb5⟩
      have B5 := Lib.hid (bt B2.out hb5)
      clear hb5
      go_wp2
      go_ret
      exact ⟨rfl, B5.out⟩
    · have m3 : decide ((q : Int) ≥ 16) = false := decide_eq_false (by clear x1 x2 x3 t2 u2; omega)
      have m4 : decide (16 ≤ (q : Int)) = false := decide_eq_false (by clear x1 x2 x3 t2 u2; omega)
      have m5 : decide ((q : Int) < 20) = true := decide_eq_true (by clear x1 x2 x3 t2 u2; omega)
      have HNE : Hid (q < 16 ∨ 20 ≤ q) := Lib.hid (by clear x1 x2 x3 t2 u2; omega)
      clear m1
      go_wp2_with fail
      have EI3 := Lib.hid (ei_row (base := w1.heap.size) (v := .slice (some ⟨b3, o3, none⟩) k1 tc) (l := endsL K k1) (by rw [endsL_length]; exact ER3.out))
      have NS3 := Lib.hid (ns_below NS1.out BW3.out)
      have B3 := Lib.hid (bt B1.out BW3.out)
      have hw3 := Lib.hid (ST.out _ _ HW0.out B3.out)
      obtain ⟨F2, hF2⟩ : ∃ z, z = (filL K).set ix nv := ⟨_, rfl⟩
      rw [← hF2] at O3
      have HF2 := Lib.hid hF2
      have L2 : Hid (F2.length = m2) := Lib.hid (by rw [hF2, List.length_set, HM2.out])
      clear E0 y0 y1 xo j1 j2 t1 t2 t3 u1 u2 u3 hF2 ER3 BW3 m3 m4 m5 x1 x2 x3 l3 l4 e4 i4 i5
      generalize w2.setCell ⟨g, ix, none⟩ (.int .u8 (nv : Int)) = W3 at *
      obtain ⟨b3', o3', c3'', hv3, q3⟩ := ei_cells EI3.out (by rw [endsL_length]; omega)
      obtain ⟨⟨rfl, rfl⟩, -⟩ : (b3 = b3' ∧ o3 = o3') ∧ tc = c3'' := by simpa [endsL_length] using hv3
      have E0 := q3 i (by rw [endsL_length]; exact HIK.out)
      rw [ends_get HIK.out, ← HEN.out] at E0
      clear q3 hv3
      go_loopw [16] (fun t wr => ∃ z : Nat, t = .int .i64 ((fr + 8 + 8 * z : Nat) : Int) ∧ fr + 8 + 8 * z ≤ en + 8 ∧ Hid (∀ y, y < z → F2.getD (fr + 8 + 8 * y) 0 ≠ 78) ∧ wr = W3) (fun t _ => en + 8 - (intOf t).toNat)
      case atStart => exact ⟨0, by show Value.int .i64 _ = Value.int .i64 _; rw [HXX.out.2.2], by have h1 := HFE.out; have h2 := HGE.out; omega, Lib.hid (fun y hy => by omega), rfl⟩
      case round =>
        obtain ⟨z, rfl, hz, HZ, hW⟩ := hrel
        subst hW
        obtain ⟨pv, hpv⟩ : ∃ x, x = fr + 8 + 8 * z := ⟨_, rfl⟩
        rw [← hpv] at hz ⊢
        have HPV := Lib.hid hpv
        have hem := HEM.out
        have hln := HLN.out.2
        clear hpv
        by_cases hlt : pv < en
        · have l1 : decide ((pv : Int) < (en : Int)) = true := decide_eq_true (by omega)
          have p1 : (0 : Int) ≤ (pv : Int) := by omega
          have p2 : (pv : Int) < (m2 : Int) := by omega
          have hcell := (own_cell O3.out L2.out (q := pv) (by omega)).1
          obtain ⟨yb, hyb⟩ : ∃ x, x = F2.getD pv 0 := ⟨_, rfl⟩
          rw [← hyb] at hcell
          have HYB := Lib.hid hyb
          have HLT := Lib.hid hlt
          clear hyb hem
          by_cases h78 : yb = 78
          · have g5 : ((yb : Int) == 78) = true := by rw [h78]; rfl
            have g6 : decide ((yb : Int) = 78) = true := by rw [h78]; rfl
            clear h78
            go_wp2_with fail
            refine (AW.out _ hw3.out).mono ?_
            rintro e w5 ⟨rfl, hb5⟩
            have B5 := Lib.hid (bt B3.out hb5)
            clear hb5
            go_wp2
            go_ret
            exact ⟨rfl, B5.out⟩
          · have g5 : ((yb : Int) == 78) = false := beq_false_of_ne (by omega)
            have g6 : decide ((yb : Int) = 78) = false := decide_eq_false (by omega)
            have H78 := Lib.hid h78
            have x4 : wrap64 ((pv : Int) + 8) = ((pv + 8 : Nat) : Int) := by unfold wrap64; omega
            go_wp2
            go_roundw
            case rel =>
              clear x4
              refine ⟨z + 1, by rw [HPV.out]; rfl, by have := HPV.out; have := HLT.out; omega, Lib.hid (fun y hy => ?_), trivial⟩
              by_cases hyz : y < z
              · exact HZ.out y hyz
              · obtain rfl : y = z := by omega
                rw [← HPV.out, ← HYB.out]
                exact H78.out
            case measure =>
              clear x4
              have h1 := HLT.out
              simp [intOf]
              omega
        · have l1 : decide ((pv : Int) < (en : Int)) = false := decide_eq_false (by omega)
          have h78' : ∀ p, fr < p → p < en → (p - fr) % 8 = 0 → F2.getD p 0 ≠ 78 := fun p h1 h2 h3 => by
            have h4 := HPV.out
            have h := HZ.out ((p - fr) / 8 - 1) (by omega)
            rwa [show fr + 8 + 8 * ((p - fr) / 8 - 1) = p by omega] at h
          have HD : slv F2 16 = rcs 16 (K.take i) ++ rcs en (K.drop (i + 1)) := by
            rw [HF2.out, HNV.out, HYV.out, HIX.out, HEN.out, HFR.out] at h78'
            rw [HF2.out, HNV.out, HYV.out, HIX.out, HEN.out, HFR.out]
            exact fil_dmg HG.out HIL.out (by rw [← HR.out]; exact HQR.out) HC.out HC0.out (by have := HNE.out; omega) h78'
          have OP := Lib.hid (HP.out.slvg _ F2 _ hw3.out O3.out.sl (by rw [L2.out]; omega))
          have HL2 := Lib.hid (two_length HIL.out 16 en)
          have HXR := Lib.hid (fun j => rcs_two HIL.out 16 en j)
          unfold SO at OP
          rw [HD] at OP
          obtain ⟨RR, hRR⟩ : ∃ z, z = rcs 16 (K.take i) ++ rcs en (K.drop (i + 1)) := ⟨_, rfl⟩
          rw [← hRR] at OP HL2 HXR
          obtain ⟨km, hkm⟩ : ∃ z, z = k1 - 1 := ⟨_, rfl⟩
          rw [← HK1.out, ← hkm] at HL2
          have hk0' := HIK.out
          have HKM : Hid (km + 1 = k1) := Lib.hid (by omega)
          have x5 : ((km : Int) != (k1 : Int) - 1) = false := by rw [bne_eq_false_iff_eq]; omega
          clear h78' HD hRR hkm hk0' hem hln hz HZ HPV
          go_wp2_with fail
          refine OP.out.mono ?_
          rintro e w7 ⟨⟨v7, rfl, ho7⟩, hb7⟩
          have RS8 := Lib.hid (owR_rs ho7)
          have B8 := Lib.hid (bt B3.out hb7)
          have hw8 := Lib.hid (ST.out _ _ hw3.out hb7)
          have NS8 := Lib.hid (ns_below NS3.out hb7)
          obtain ⟨a7, c7, rfl, -, -⟩ := owR_form ho7
          rw [HL2.out] at RS8 ⊢
          clear ho7 hb7 OP NS3 hw3 B3 EI3 O3 E0 hlt l1
          go_wp2_with fail
          rename World => wo
          go_loopw [107] (fun t wr => ∃ p : Nat, p ≤ km ∧ t = .int .i64 (p : Int) ∧ Hid (Below wo.heap.size wo wr)) (fun t _ => km - (intOf t).toNat)
          case atStart => exact ⟨0, by omega, rfl, Lib.hid (Below.refl _ _)⟩
          case round =>
            clear x5
            obtain ⟨p, hp, rfl, HB⟩ := hrel
            have hkm12 : km ≤ 12 := by have := HKM.out; omega
            by_cases hpk : p < km
            · have l5 : decide ((p : Int) < (km : Int)) = true := decide_eq_true (by omega)
              have p0 : (0 : Int) ≤ (p : Int) := by omega
              have p1 : (p : Int) < (km : Int) := by omega
              have hkl := HK1.out
              have hik := HIK.out
              have hrl := HL2.out
              have hkm' := HKM.out
              have hxr := HXR.out p (by omega)
              obtain ⟨b1, o1, c1', hv1, -, -, q1⟩ := rs_cells RS8.out (by omega)
              obtain ⟨rfl, -, -⟩ : a7 = some ⟨b1, o1, none⟩ ∧ km = RR.length ∧ c7 = c1' := by simpa using hv1
              obtain ⟨d, C0⟩ := q1 p (by omega)
              obtain ⟨b4, o4, c2', hv2, -, -, q2⟩ := ns_cells NS8.out (by omega)
              obtain ⟨rfl, -, -⟩ : a1 = some ⟨b4, o4, none⟩ ∧ k1 = K.length ∧ c1 = c2' := by simpa using hv2
              obtain ⟨f0, f1, f2, f3, f4, okr, sd⟩ := C0.below HB.out
              rw [hxr] at f1 f2 f3 sd okr
              clear hxr
              by_cases hpi : p < i
              · have l6 : decide ((p : Int) ≥ (i : Int)) = false := decide_eq_false (by omega)
                have l7 : decide ((i : Int) ≤ (p : Int)) = false := decide_eq_false (by omega)
                have l8 : ¬ i ≤ p := by omega
                have p2 : (p : Int) < (k1 : Int) := by omega
                rw [if_pos hpi] at f1 f2 f3 sd okr
                obtain ⟨d2, D0⟩ := q2 p (by omega)
                obtain ⟨g0, g1, g2, g3, okr2, sd2⟩ := D0.below HB.out
                clear hkm'
                generalize K.getD p nd0 = x at *
                have RS := Lib.hid (fun W (hW : Below wr.heap.size wr W) => rsame_any (.agg #[.int .u64 (x.key : Int), .int .u32 (x.cookie : Int), .bool x.del, d]) (.agg #[.int .u64 (x.key : Int), .int .u32 (x.cookie : Int), .bool x.del, d2]) x x W ⟨d, rfl, okr.key, okr.ck, sl_below sd hW⟩ ⟨d2, rfl, okr2.key, okr2.ck, sl_below sd2 hW⟩)
                rw [sameB_self] at RS
                obtain ⟨ad, cd, rfl, -, -⟩ := sl_form sd
                obtain ⟨ad2, cd2, rfl, -, -⟩ := sl_form sd2
                generalize x.data.length = nd at *
                clear C0 D0 q1 q2 hv1 hv2 hkl hik hrl sd sd2 okr okr2 f0
                go_wp2_with fail
                have x1 := cells_regrown f1
                have x2 := cells_regrown f2
                have x3 := cells_regrown f3
                have x4 := cells_regrown f4
                have y0 := cells_regrown g0
                have y1 := cells_regrown g1
                have y2 := cells_regrown g2
                have y3 := cells_regrown g3
                have G1 := Lib.hid (regrown_bel (w := wr) RS.out)
                clear f1 f2 f3 f4 g0 g1 g2 g3
                refine wp_region_bl (by kernel_rfl) (by kernel_rfl) ?_
                repeat (go_big_quiet_step (fail))
                go_big_quiet_step ((go_at_call 25; with_reducible exact G1.out _ _))
                repeat (go_big_quiet_step (fail))
                refine wpQuiet_nil ?_
                intro w9 hb9
                have B10 := Lib.hid (bt HB.out hb9)
                clear x1 x2 x3 x4 y0 y1 y2 y3 G1 hb9 RS
                go_wp2
                go_roundw
                case rel => exact ⟨p + 1, by omega, by go_num, B10⟩
                case measure => simp [intOf]; omega
              · have l6 : decide ((p : Int) ≥ (i : Int)) = true := decide_eq_true (by omega)
                have l7 : decide ((i : Int) ≤ (p : Int)) = true := decide_eq_true (by omega)
                have l8 : i ≤ p := by omega
                rw [if_neg hpi] at f1 f2 f3 sd okr
                obtain ⟨d2, D0⟩ := q2 (p + 1) (by omega)
                obtain ⟨g0, g1, g2, g3, okr2, sd2⟩ := D0.below HB.out
                have x6 : wrap64 ((p : Int) + 1) = ((p + 1 : Nat) : Int) := by unfold wrap64; omega
                have p2 : ((p + 1 : Nat) : Int) < (k1 : Int) := by clear x6; omega
                have p3 : (0 : Int) ≤ ((p + 1 : Nat) : Int) := by clear x6; omega
                clear hkm'
                generalize K.getD (p + 1) nd0 = x at *
                have RS := Lib.hid (fun W (hW : Below wr.heap.size wr W) => rsame_any (.agg #[.int .u64 (x.key : Int), .int .u32 (x.cookie : Int), .bool x.del, d]) (.agg #[.int .u64 (x.key : Int), .int .u32 (x.cookie : Int), .bool x.del, d2]) x x W ⟨d, rfl, okr.key, okr.ck, sl_below sd hW⟩ ⟨d2, rfl, okr2.key, okr2.ck, sl_below sd2 hW⟩)
                rw [sameB_self] at RS
                obtain ⟨ad, cd, rfl, -, -⟩ := sl_form sd
                obtain ⟨ad2, cd2, rfl, -, -⟩ := sl_form sd2
                generalize x.data.length = nd at *
                clear C0 D0 q1 q2 hv1 hv2 hkl hik hrl sd sd2 okr okr2 f0
                go_wp2_with fail
                have x1 := cells_regrown f1
                have x2 := cells_regrown f2
                have x3 := cells_regrown f3
                have x4 := cells_regrown f4
                have y0 := cells_regrown g0
                have y1 := cells_regrown g1
                have y2 := cells_regrown g2
                have y3 := cells_regrown g3
                have G1 := Lib.hid (regrown_bel (w := wr) RS.out)
                clear f1 f2 f3 f4 g0 g1 g2 g3
                refine wp_region_bl (by kernel_rfl) (by kernel_rfl) ?_
                repeat (go_big_quiet_step (fail))
                go_big_quiet_step ((go_at_call 25; with_reducible exact G1.out _ _))
                repeat (go_big_quiet_step (fail))
                refine wpQuiet_nil ?_
                intro w9 hb9
                have B10 := Lib.hid (bt HB.out hb9)
                clear x1 x2 x3 x4 y0 y1 y2 y3 G1 hb9 RS x6 p2 p3
                go_wp2
                go_roundw
                case rel => exact ⟨p + 1, by omega, by go_num, B10⟩
                case measure => simp [intOf]; omega
            · obtain rfl : p = km := by omega
              have l5 : decide ((p : Int) < (p : Int)) = false := decide_eq_false (by omega)
              have hw10 := Lib.hid (ST.out _ _ hw8.out HB.out)
              have B10 := Lib.hid (bt B8.out HB.out)
              go_wp2_with fail
              refine (AW.out _ hw10.out).mono ?_
              rintro e w5 ⟨rfl, hb5⟩
              have B5 := Lib.hid (bt B10.out hb5)
              clear hb5
              go_wp2
              go_ret
              exact ⟨rfl, B5.out⟩
    · have m3 : decide ((q : Int) ≥ 16) = true := decide_eq_true (by clear x1 x2 x3 t2 u2; omega)
      have m4 : decide (16 ≤ (q : Int)) = true := decide_eq_true (by clear x1 x2 x3 t2 u2; omega)
      have m5 : decide ((q : Int) < 20) = false := decide_eq_false (by clear x1 x2 x3 t2 u2; omega)
      have HNE : Hid (q < 16 ∨ 20 ≤ q) := Lib.hid (by clear x1 x2 x3 t2 u2; omega)
      clear m1 m2'
      go_wp2_with fail
      have EI3 := Lib.hid (ei_row (base := w1.heap.size) (v := .slice (some ⟨b3, o3, none⟩) k1 tc) (l := endsL K k1) (by rw [endsL_length]; exact ER3.out))
      have NS3 := Lib.hid (ns_below NS1.out BW3.out)
      have B3 := Lib.hid (bt B1.out BW3.out)
      have hw3 := Lib.hid (ST.out _ _ HW0.out B3.out)
      obtain ⟨F2, hF2⟩ : ∃ z, z = (filL K).set ix nv := ⟨_, rfl⟩
      rw [← hF2] at O3
      have HF2 := Lib.hid hF2
      have L2 : Hid (F2.length = m2) := Lib.hid (by rw [hF2, List.length_set, HM2.out])
      clear E0 y0 y1 xo j1 j2 t1 t2 t3 u1 u2 u3 hF2 ER3 BW3 m3 m4 m5 x1 x2 x3 l3 l4 e4 i4 i5
      generalize w2.setCell ⟨g, ix, none⟩ (.int .u8 (nv : Int)) = W3 at *
      obtain ⟨b3', o3', c3'', hv3, q3⟩ := ei_cells EI3.out (by rw [endsL_length]; omega)
      obtain ⟨⟨rfl, rfl⟩, -⟩ : (b3 = b3' ∧ o3 = o3') ∧ tc = c3'' := by simpa [endsL_length] using hv3
      have E0 := q3 i (by rw [endsL_length]; exact HIK.out)
      rw [ends_get HIK.out, ← HEN.out] at E0
      clear q3 hv3
      go_loopw [16] (fun t wr => ∃ z : Nat, t = .int .i64 ((fr + 8 + 8 * z : Nat) : Int) ∧ fr + 8 + 8 * z ≤ en + 8 ∧ Hid (∀ y, y < z → F2.getD (fr + 8 + 8 * y) 0 ≠ 78) ∧ wr = W3) (fun t _ => en + 8 - (intOf t).toNat)
      case atStart => exact ⟨0, by show Value.int .i64 _ = Value.int .i64 _; rw [HXX.out.2.2], by have h1 := HFE.out; have h2 := HGE.out; omega, Lib.hid (fun y hy => by omega), rfl⟩
      case round =>
        obtain ⟨z, rfl, hz, HZ, hW⟩ := hrel
        subst hW
        obtain ⟨pv, hpv⟩ : ∃ x, x = fr + 8 + 8 * z := ⟨_, rfl⟩
        rw [← hpv] at hz ⊢
        have HPV := Lib.hid hpv
        have hem := HEM.out
        have hln := HLN.out.2
        clear hpv
        by_cases hlt : pv < en
        · have l1 : decide ((pv : Int) < (en : Int)) = true := decide_eq_true (by omega)
          have p1 : (0 : Int) ≤ (pv : Int) := by omega
          have p2 : (pv : Int) < (m2 : Int) := by omega
          have hcell := (own_cell O3.out L2.out (q := pv) (by omega)).1
          obtain ⟨yb, hyb⟩ : ∃ x, x = F2.getD pv 0 := ⟨_, rfl⟩
          rw [← hyb] at hcell
          have HYB := Lib.hid hyb
          have HLT := Lib.hid hlt
          clear hyb hem
          by_cases h78 : yb = 78
          · have g5 : ((yb : Int) == 78) = true := by rw [h78]; rfl
            have g6 : decide ((yb : Int) = 78) = true := by rw [h78]; rfl
            clear h78
            go_wp2_with fail
            refine (AW.out _ hw3.out).mono ?_
            rintro e w5 ⟨rfl, hb5⟩
            have B5 := Lib.hid (bt B3.out hb5)
            clear hb5
            go_wp2
            go_ret
            exact ⟨rfl, B5.out⟩
          · have g5 : ((yb : Int) == 78) = false := beq_false_of_ne (by omega)
            have g6 : decide ((yb : Int) = 78) = false := decide_eq_false (by omega)
            have H78 := Lib.hid h78
            have x4 : wrap64 ((pv : Int) + 8) = ((pv + 8 : Nat) : Int) := by unfold wrap64; omega
            go_wp2
            go_roundw
            case rel =>
              clear x4
              refine ⟨z + 1, by rw [HPV.out]; rfl, by have := HPV.out; have := HLT.out; omega, Lib.hid (fun y hy => ?_), trivial⟩
              by_cases hyz : y < z
              · exact HZ.out y hyz
              · obtain rfl : y = z := by omega
                rw [← HPV.out, ← HYB.out]
                exact H78.out
            case measure =>
              clear x4
              have h1 := HLT.out
              simp [intOf]
              omega
        · have l1 : decide ((pv : Int) < (en : Int)) = false := decide_eq_false (by omega)
          have h78' : ∀ p, fr < p → p < en → (p - fr) % 8 = 0 → F2.getD p 0 ≠ 78 := fun p h1 h2 h3 => by
            have h4 := HPV.out
            have h := HZ.out ((p - fr) / 8 - 1) (by omega)
            rwa [show fr + 8 + 8 * ((p - fr) / 8 - 1) = p by omega] at h
          have HD : slv F2 16 = rcs 16 (K.take i) ++ rcs en (K.drop (i + 1)) := by
            rw [HF2.out, HNV.out, HYV.out, HIX.out, HEN.out, HFR.out] at h78'
            rw [HF2.out, HNV.out, HYV.out, HIX.out, HEN.out, HFR.out]
            exact fil_dmg HG.out HIL.out (by rw [← HR.out]; exact HQR.out) HC.out HC0.out (by have := HNE.out; omega) h78'
          have OP := Lib.hid (HP.out.slvg _ F2 _ hw3.out O3.out.sl (by rw [L2.out]; omega))
          have HL2 := Lib.hid (two_length HIL.out 16 en)
          have HXR := Lib.hid (fun j => rcs_two HIL.out 16 en j)
          unfold SO at OP
          rw [HD] at OP
          obtain ⟨RR, hRR⟩ : ∃ z, z = rcs 16 (K.take i) ++ rcs en (K.drop (i + 1)) := ⟨_, rfl⟩
          rw [← hRR] at OP HL2 HXR
          obtain ⟨km, hkm⟩ : ∃ z, z = k1 - 1 := ⟨_, rfl⟩
          rw [← HK1.out, ← hkm] at HL2
          have hk0' := HIK.out
          have HKM : Hid (km + 1 = k1) := Lib.hid (by omega)
          have x5 : ((km : Int) != (k1 : Int) - 1) = false := by rw [bne_eq_false_iff_eq]; omega
          clear h78' HD hRR hkm hk0' hem hln hz HZ HPV
          go_wp2_with fail
          refine OP.out.mono ?_
          rintro e w7 ⟨⟨v7, rfl, ho7⟩, hb7⟩
          have RS8 := Lib.hid (owR_rs ho7)
          have B8 := Lib.hid (bt B3.out hb7)
          have hw8 := Lib.hid (ST.out _ _ hw3.out hb7)
          have NS8 := Lib.hid (ns_below NS3.out hb7)
          obtain ⟨a7, c7, rfl, -, -⟩ := owR_form ho7
          rw [HL2.out] at RS8 ⊢
          clear ho7 hb7 OP NS3 hw3 B3 EI3 O3 E0 hlt l1
          go_wp2_with fail
          rename World => wo
          go_loopw [107] (fun t wr => ∃ p : Nat, p ≤ km ∧ t = .int .i64 (p : Int) ∧ Hid (Below wo.heap.size wo wr)) (fun t _ => km - (intOf t).toNat)
          case atStart => exact ⟨0, by omega, rfl, Lib.hid (Below.refl _ _)⟩
          case round =>
            clear x5
            obtain ⟨p, hp, rfl, HB⟩ := hrel
            have hkm12 : km ≤ 12 := by have := HKM.out; omega
            by_cases hpk : p < km
            · have l5 : decide ((p : Int) < (km : Int)) = true := decide_eq_true (by omega)
              have p0 : (0 : Int) ≤ (p : Int) := by omega
              have p1 : (p : Int) < (km : Int) := by omega
              have hkl := HK1.out
              have hik := HIK.out
              have hrl := HL2.out
              have hkm' := HKM.out
              have hxr := HXR.out p (by omega)
              obtain ⟨b1, o1, c1', hv1, -, -, q1⟩ := rs_cells RS8.out (by omega)
              obtain ⟨rfl, -, -⟩ : a7 = some ⟨b1, o1, none⟩ ∧ km = RR.length ∧ c7 = c1' := by simpa using hv1
              obtain ⟨d, C0⟩ := q1 p (by omega)
              obtain ⟨b4, o4, c2', hv2, -, -, q2⟩ := ns_cells NS8.out (by omega)
              obtain ⟨rfl, -, -⟩ : a1 = some ⟨b4, o4, none⟩ ∧ k1 = K.length ∧ c1 = c2' := by simpa using hv2
              obtain ⟨f0, f1, f2, f3, f4, okr, sd⟩ := C0.below HB.out
              rw [hxr] at f1 f2 f3 sd okr
              clear hxr
              by_cases hpi : p < i
              · have l6 : decide ((p : Int) ≥ (i : Int)) = false := decide_eq_false (by omega)
                have l7 : decide ((i : Int) ≤ (p : Int)) = false := decide_eq_false (by omega)
                have l8 : ¬ i ≤ p := by omega
                have p2 : (p : Int) < (k1 : Int) := by omega
                rw [if_pos hpi] at f1 f2 f3 sd okr
                obtain ⟨d2, D0⟩ := q2 p (by omega)
                obtain ⟨g0, g1, g2, g3, okr2, sd2⟩ := D0.below HB.out
                clear hkm'
                generalize K.getD p nd0 = x at *
                have RS := Lib.hid (fun W (hW : Below wr.heap.size wr W) => rsame_any (.agg #[.int .u64 (x.key : Int), .int .u32 (x.cookie : Int), .bool x.del, d]) (.agg #[.int .u64 (x.key : Int), .int .u32 (x.cookie : Int), .bool x.del, d2]) x x W ⟨d, rfl, okr.key, okr.ck, sl_below sd hW⟩ ⟨d2, rfl, okr2.key, okr2.ck, sl_below sd2 hW⟩)
                rw [sameB_self] at RS
                obtain ⟨ad, cd, rfl, -, -⟩ := sl_form sd
                obtain ⟨ad2, cd2, rfl, -, -⟩ := sl_form sd2
                generalize x.data.length = nd at *
                clear C0 D0 q1 q2 hv1 hv2 hkl hik hrl sd sd2 okr okr2 f0
                go_wp2_with fail
                have x1 := cells_regrown f1
                have x2 := cells_regrown f2
                have x3 := cells_regrown f3
                have x4 := cells_regrown f4
                have y0 := cells_regrown g0
                have y1 := cells_regrown g1
                have y2 := cells_regrown g2
                have y3 := cells_regrown g3
                have G1 := Lib.hid (regrown_bel (w := wr) RS.out)
                clear f1 f2 f3 f4 g0 g1 g2 g3
                refine wp_region_bl (by kernel_rfl) (by kernel_rfl) ?_
                repeat (go_big_quiet_step (fail))
                go_big_quiet_step ((go_at_call 25; with_reducible exact G1.out _ _))
                repeat (go_big_quiet_step (fail))
                refine wpQuiet_nil ?_
                intro w9 hb9
                have B10 := Lib.hid (bt HB.out hb9)
                clear x1 x2 x3 x4 y0 y1 y2 y3 G1 hb9 RS
                go_wp2
                go_roundw
                case rel => exact ⟨p + 1, by omega, by go_num, B10⟩
                case measure => simp [intOf]; omega
              · have l6 : decide ((p : Int) ≥ (i : Int)) = true := decide_eq_true (by omega)
                have l7 : decide ((i : Int) ≤ (p : Int)) = true := decide_eq_true (by omega)
                have l8 : i ≤ p := by omega
                rw [if_neg hpi] at f1 f2 f3 sd okr
                obtain ⟨d2, D0⟩ := q2 (p + 1) (by omega)
                obtain ⟨g0, g1, g2, g3, okr2, sd2⟩ := D0.below HB.out
                have x6 : wrap64 ((p : Int) + 1) = ((p + 1 : Nat) : Int) := by unfold wrap64; omega
                have p2 : ((p + 1 : Nat) : Int) < (k1 : Int) := by clear x6; omega
                have p3 : (0 : Int) ≤ ((p + 1 : Nat) : Int) := by clear x6; omega
                clear hkm'
                generalize K.getD (p + 1) nd0 = x at *
                have RS := Lib.hid (fun W (hW : Below wr.heap.size wr W) => rsame_any (.agg #[.int .u64 (x.key : Int), .int .u32 (x.cookie : Int), .bool x.del, d]) (.agg #[.int .u64 (x.key : Int), .int .u32 (x.cookie : Int), .bool x.del, d2]) x x W ⟨d, rfl, okr.key, okr.ck, sl_below sd hW⟩ ⟨d2, rfl, okr2.key, okr2.ck, sl_below sd2 hW⟩)
                rw [sameB_self] at RS
                obtain ⟨ad, cd, rfl, -, -⟩ := sl_form sd
                obtain ⟨ad2, cd2, rfl, -, -⟩ := sl_form sd2
                generalize x.data.length = nd at *
                clear C0 D0 q1 q2 hv1 hv2 hkl hik hrl sd sd2 okr okr2 f0
                go_wp2_with fail
                have x1 := cells_regrown f1
                have x2 := cells_regrown f2
                have x3 := cells_regrown f3
                have x4 := cells_regrown f4
                have y0 := cells_regrown g0
                have y1 := cells_regrown g1
                have y2 := cells_regrown g2
                have y3 := cells_regrown g3
                have G1 := Lib.hid (regrown_bel (w := wr) RS.out)
                clear f1 f2 f3 f4 g0 g1 g2 g3
                refine wp_region_bl (by kernel_rfl) (by kernel_rfl) ?_
                repeat (go_big_quiet_step (fail))
                go_big_quiet_step ((go_at_call 25; with_reducible exact G1.out _ _))
                repeat (go_big_quiet_step (fail))
                refine wpQuiet_nil ?_
                intro w9 hb9
                have B10 := Lib.hid (bt HB.out hb9)
                clear x1 x2 x3 x4 y0 y1 y2 y3 G1 hb9 RS x6 p2 p3
                go_wp2
                go_roundw
                case rel => exact ⟨p + 1, by omega, by go_num, B10⟩
                case measure => simp [intOf]; omega
            · obtain rfl : p = km := by omega
              have l5 : decide ((p : Int) < (p : Int)) = false := decide_eq_false (by omega)
              have hw10 := Lib.hid (ST.out _ _ hw8.out HB.out)
              have B10 := Lib.hid (bt B8.out HB.out)
              go_wp2_with fail
              refine (AW.out _ hw10.out).mono ?_
              rintro e w5 ⟨rfl, hb5⟩
              have B5 := Lib.hid (bt B10.out hb5)
              clear hb5
              go_wp2
              go_ret
              exact ⟨rfl, B5.out⟩
end Go.Proofs.YtlnccofanicihaaDoor.Gf
