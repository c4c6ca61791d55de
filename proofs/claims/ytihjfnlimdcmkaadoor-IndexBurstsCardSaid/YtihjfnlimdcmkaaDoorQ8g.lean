/- What is proved here: IndexBursts returns true, over what the laws ask of the program. No condition. -/
import Derived.Test.YtihjfnlimdcmkaaDoorQ8f
import Derived.Test.YtihjfnlimdcmkaaDoorB8
namespace Go.Proofs.YtihjfnlimdcmkaaDoor.Gf
open Go Go.Joins Go.ChangeShapes Go.WideShapes Go.ChangeAt Go.RowKit Go.Deep Go.Sort Go.Proofs.YtihjfnlimdcmkaaDoor.By Go.Proofs.YtihjfnlimdcmkaaDoor.Crc Go.Proofs.YtihjfnlimdcmkaaDoor.Qt

theorem and1_shift (f i : Nat) (hf : f < 4294967296) : bits .and .u32 ((f : Int) / 2 ^ i) 1 = ((f / 2 ^ i % 2 : Nat) : Int) := by
  have e : ((f : Int) / 2 ^ i) = ((f / 2 ^ i : Nat) : Int) := by simp
  have h := Nat.div_le_self f (2 ^ i)
  rw [e, and1 _ (by omega)]
theorem xor_lt8 {y z : Nat} (hy : y < 256) (hz : z < 256) : y ^^^ z < 256 := Nat.xor_lt_two_pow (n := 8) hy hz
theorem own_pos {w : World} {base : Nat} {v : Value} {l : List Nat} (h : Own w base v l) (hl : 0 < l.length) : ∃ g c, v = .slice (some ⟨g, 0, none⟩) l.length c ∧ base ≤ g := by
  obtain ⟨_, _, ⟨rfl, h0⟩ | ⟨g, cap, _, rfl, hg, _⟩⟩ := h
  · omega
  · exact ⟨g, cap, rfl, hg⟩
/-- n % m, brought into 0 .. m-1 as the law does it. -/
theorem mod_twice (n0 : Int) (m : Nat) (hm : 0 < m) : ∃ (A : Int) (K : Nat), n0.tmod (m : Int) = A ∧ -(m : Int) < A ∧ A < (m : Int) ∧ (A + (m : Int)).tmod (m : Int) = (K : Int) ∧ K < m := by
  have h1 := Int.tmod_lt_of_pos n0 (b := (m : Int)) (by omega)
  have h2 := Int.lt_tmod_of_pos n0 (b := (m : Int)) (by omega)
  refine ⟨_, ((n0.tmod (m : Int) + (m : Int)) % (m : Int)).toNat, rfl, by omega, h1, ?_, ?_⟩
  · rw [Int.tmod_eq_emod_of_nonneg (by omega), Int.toNat_of_nonneg (Int.emod_nonneg _ (by omega))]
  · have h3 := Int.emod_lt_of_pos (n0.tmod (m : Int) + (m : Int)) (show (0 : Int) < (m : Int) by omega)
    have h4 := Int.emod_nonneg (n0.tmod (m : Int) + (m : Int)) (show (m : Int) ≠ 0 by omega)
    omega
theorem flip_fits {f I K : Nat} (h : K + I ≤ 192) : f % 2 ^ I * 2 ^ K < 2 ^ 192 := by
  have h1 : f % 2 ^ I < 2 ^ I := Nat.mod_lt _ (Nat.two_pow_pos I)
  have h2 : f % 2 ^ I * 2 ^ K < 2 ^ I * 2 ^ K := Nat.mul_lt_mul_of_pos_right h1 (Nat.two_pow_pos K)
  rw [← Nat.pow_add] at h2
  exact Nat.lt_of_lt_of_le h2 (Nat.pow_le_pow_right (by decide) (by omega))
set_option maxRecDepth 100000 in
set_option maxHeartbeats 12800000 in
theorem bursts8_walk {Ok : World → Prop} (P : PC8a Ok) (va : Value) (LA : List Itm) (wi n0 : Int) (flip : Nat) (hf : flip < 4294967296) (w : World) (hw : Ok w) (sa : It w va LA) : Calls Tryd.prog 10 #[va, .int .i64 wi, .int .i64 n0, .int .u32 (flip : Int)] w fun e w' => e = .returned (.bool true) ∧ Below w.heap.size w w' := by
  have PE := Lib.hid (fun v M W (h : Ok W) a b => P.enc v M W h a b)
  have PD := Lib.hid (fun v l W (h : Ok W) a b => P.dec v l W h a b)
  have ST := Lib.hid (fun (W W' : World) => P.st (w := W) (w' := W'))
  have AW := Lib.hid (awake8_any P)
  have MDA := Lib.hid (fun W v (h : It W v LA) => made_any v LA W h)
  clear P
  unfold EW at PE
  unfold LW at PD
  unfold LO at MDA
  have hma := made_length LA
  have oka := made_ok LA
  generalize madeL LA = M at *
  have K0 := Lib.hid hw
  have B0 := Lib.hid (Below.refl w.heap.size w)
  have SA := Lib.hid sa
  have HFL := Lib.hid hf
  clear hw hf
  obtain ⟨aa, ca, rfl, -, -⟩ := it_form sa
  generalize LA.length = na at *
  clear sa
  go_enter Tryd.func10, Tryd.ntmps10
  go_wp2_with fail
  refine (MDA.out _ _ SA.out).mono ?_
  rintro e w1 ⟨⟨v1, rfl, ho1⟩, hb2⟩
  have K3 := Lib.hid (ST.out _ _ K0.out hb2)
  have B4 := Lib.hid (bt B0.out hb2)
  have S5 := Lib.hid (it_below SA.out hb2)
  clear SA
  have hrg : ∀ x ∈ M, ItR x := fun x hx => ⟨(ho1.1 x hx).key, (ho1.1 x hx).ck⟩
  have HRG := Lib.hid hrg
  clear hrg
  obtain ⟨a1, c1, hv1, -, -⟩ := owT_form ho1
  obtain ⟨m1, hm1⟩ : ∃ q, q = M.length := ⟨_, rfl⟩
  rw [← hm1] at hv1
  subst hv1
  have S1 := Lib.hid (owT_it ho1)
  have HM1 := Lib.hid hm1
  clear ho1 hm1
  go_wp2_with fail
  refine (PE.out _ M _ K3.out S1.out (by omega)).mono ?_
  rintro e w6 ⟨⟨v2, rfl, hs2⟩, hb7⟩
  have K8 := Lib.hid (ST.out _ _ K3.out hb7)
  have B9 := Lib.hid (bt B4.out hb7)
  have S10 := Lib.hid (it_below S1.out hb7)
  clear S1
  rw [show eT M = encT M from if_pos oka] at hs2
  rw [show eE M = 0 from if_pos oka]
  obtain ⟨a11, cc12, hv15, -, -⟩ := sl_form (hs2)
  obtain ⟨m13, hm16⟩ : ∃ q, q = (encT M).length := ⟨_, rfl⟩
  rw [← hm16] at hv15
  subst hv15
  have T14 := Lib.hid (hs2)
  have HM17 := Lib.hid hm16
  clear hs2 hm16
  have HLB : Hid (m13 = 24 * m1) := by show _ = _; rw [HM17.out, encT_length, HM1.out]
  have hmb : m1 ≤ 40 := by have := HM1.out; omega
  have hw24 : wrap64 (24 * (m1 : Int)) = (m13 : Int) := by have := HLB.out; unfold wrap64; omega
  have hne : ((m13 : Int) != (m13 : Int)) = false := by simp
  have hne2 : ((m13 : Int) != 24 * (m1 : Int)) = false := by have := HLB.out; simp; omega
  by_cases hm0 : m1 = 0
  · subst hm0
    go_wp2_with fail
    refine (AW.out _ K8.out).mono ?_
    rintro e w18 ⟨rfl, hb19⟩
    have K20 := Lib.hid (ST.out _ _ K8.out hb19)
    have B21 := Lib.hid (bt B9.out hb19)
    have S22 := Lib.hid (it_below S10.out hb19)
    clear S10
    have T23 := Lib.hid (sl_below T14.out hb19)
    clear T14
    go_wp2
    go_ret
    exact ⟨rfl, B21.out⟩
  · have hm2 : ((m1 : Int) == 0) = false := beq_false_of_ne (by omega)
    have hm3 : ¬ (m1 : Int) = 0 := by omega
    obtain ⟨A, e, hA, hA1, hA2, hE, hEl⟩ := mod_twice wi m1 (by omega)
    obtain ⟨A2, K, hB, hB1, hB2, hK, hKl⟩ := mod_twice n0 192 (by decide)
    have hA' : wrap64 (A + (m1 : Int)) = A + (m1 : Int) := by unfold wrap64; omega
    have hB' : wrap64 (A2 + 192) = A2 + 192 := by unfold wrap64; omega
    obtain ⟨F, hF⟩ : ∃ q, q = 192 * e := ⟨_, rfl⟩
    have hF' : wrap64 (192 * (e : Int)) = (F : Int) := by unfold wrap64; omega
    have hF3 : wrap64 (F : Int) = (F : Int) := by unfold wrap64; omega
    have hF2 : (192 : Int) * (e : Int) = (F : Int) := by omega
    have HEF := Lib.hid (And.intro hEl (And.intro hF hKl))
    have hB0 : n0.tmod 192 = A2 := hB
    have hK0 : (A2 + 192).tmod 192 = (K : Int) := hK
    have HSB := Lib.hid T14.out
    have OE := Lib.hid (own_empty w6 (Nat.le_refl w6.heap.size))
    have BE := Lib.hid ((Below.refl w6.heap.size w6).alloc (Nat.le_refl _) (.cells #[] 5))
    have HL0 : Hid ((encT M).length = m13 ∧ 0 < m13 ∧ m13 ≤ 960) := by have h1 := HM17.out; have h2 := HLB.out; exact ⟨h1.symm, by omega, by omega⟩
    clear hA1 hA2 hEl hB1 hB2 hKl hF hB hK hm0
    have F18 := Lib.hid (fun W' (h : Below w6.heap.size w6 W') => ST.out _ _ K8.out h)
    have F19 := Lib.hid (fun W' (h : Below w6.heap.size w6 W') => bt B9.out h)
    have F20 := Lib.hid (fun W' (h : Below w6.heap.size w6 W') => it_below S10.out h)
    have F21 := Lib.hid (fun W' (h : Below w6.heap.size w6 W') => sl_below T14.out h)
    go_wp2_with (at_builtin; refine app_sl (dst := some 56) ?_ ?_ OE.out (sl_below HSB.out BE.out) (by have := HL0.out; simp; omega) (by simp) ?_; exact rfl; exact rfl; intro v5 w5 ho5 hg5; rw [List.nil_append] at ho5; have B5 := Lib.hid (BE.out.grown hg5 BE.out.size fun q hq => by have := OE.out.lt q hq; omega); obtain ⟨g5, c5, hv5, -⟩ := own_pos ho5 (by have := HL0.out; omega); rw [HL0.out.1] at hv5; subst hv5; have O5 := Lib.hid ho5; clear ho5 hg5)
    clear hA hE hA' hB0 hK0 hB' hF' hF2 hF3
    go_loopw [15] (fun i wr => ∃ (I : Nat) (C : List Nat), I ≤ 32 ∧ K + I ≤ 192 ∧ i = .int .i64 I ∧ C.length = m13 ∧ num C = num (encT M) ^^^ (flip % 2 ^ I) * 2 ^ (F + K) ∧ Own wr w6.heap.size (.slice (some ⟨g5, 0, none⟩) m13 c5) C ∧ Below w6.heap.size w6 wr) (fun i _ => 32 - (intOf i).toNat)
    case atStart => exact ⟨0, encT M, by omega, by have := HEF.out; omega, rfl, HL0.out.1, by simp [Nat.mod_one], O5.out, B5.out⟩
    case round =>
      obtain ⟨I, C, hI, hKI, rfl, hM, hnum, hO, hB⟩ := hrel
      have HN := Lib.hid hnum
      have HM := Lib.hid hM
      have HO := Lib.hid hO
      have hMl : ∀ b ∈ C, b < 256 := hO.1
      have HMl := Lib.hid hMl
      clear hnum hM hMl hO
      by_cases hlt : I < 32 ∧ K + I < 192
      · obtain ⟨i1, i2⟩ := hlt
        have hql : (F + K + I) / 8 < m13 := by have h1 := HEF.out; have h2 := HLB.out; omega
        have h8 : (F + K + I) % 8 = (K + I) % 8 := by have h1 := HEF.out; omega
        have hFb : F ≤ 8000 := by have h1 := HEF.out; omega
        obtain ⟨hc, hfz, hbg⟩ := own_cell HO.out HM.out hql
        have hy := getD_lt HMl.out ((F + K + I) / 8)
        have b1 := and1_shift flip I HFL.out
        have hbt : flip / 2 ^ I % 2 < 2 := Nat.mod_lt _ (by decide)
        obtain ⟨bt, hbte⟩ : ∃ bt, bt = flip / 2 ^ I % 2 := ⟨_, rfl⟩
        obtain ⟨y, hye⟩ : ∃ y, y = C.getD ((F + K + I) / 8) 0 := ⟨_, rfl⟩
        rw [← hbte] at b1 hbt
        rw [← hye] at hc hy
        have HBT := Lib.hid hbte
        have HY := Lib.hid hye
        have H8 := Lib.hid h8
        clear hbte hye h8
        go_wp2
        go_roundw
        case rel =>
          refine ⟨I + 1, C.set ((F + K + I) / 8) (C.getD ((F + K + I) / 8) 0 ^^^ flip / 2 ^ I % 2 * 2 ^ ((F + K + I) % 8)), by omega, by omega, by go_num, by simpa using HM.out, ?_, ?_, hB.setCell hbg _⟩
          · exact num_step C (num (encT M)) flip (F + K) I HMl.out (by rw [HM.out]; exact hql) HN.out
          · have e2 : 2 ^ ((K + I) % 8) ≤ 2 ^ 7 := Nat.pow_le_pow_right (by decide) (by omega)
            have e3 : bt * 2 ^ ((K + I) % 8) < 256 := by
              have := Nat.mul_le_mul (show bt ≤ 1 by omega) e2
              omega
            have e4 : ((bt : Int) * 2 ^ ((K + I) % 8) % 256) = ((bt * 2 ^ ((K + I) % 8) : Nat) : Int) := by
              have : ((bt : Int) * 2 ^ ((K + I) % 8)) = ((bt * 2 ^ ((K + I) % 8) : Nat) : Int) := by simp
              rw [this]
              generalize bt * 2 ^ ((K + I) % 8) = z at e3
              omega
            rw [e4, u8_xor_nat _ _ hy e3, HY.out, HBT.out, ← H8.out]
            rw [HBT.out, ← H8.out] at e3
            exact own_set HO.out HM.out hql (by rw [← HY.out]; exact xor_lt8 hy e3)
        case measure => simp [intOf]; omega
      · have B4 := Lib.hid hB
        have hF : flip % 2 ^ I < 4294967296 := Nat.lt_of_le_of_lt (Nat.mod_le _ _) HFL.out
        have hiff := burst_iff oka HRG.out HMl.out (by rw [HM.out, HLB.out, HM1.out]) (by have h1 := HEF.out; have h2 := HM1.out; omega : e < M.length) hF (flip_fits hKI) (by rw [HN.out, HEF.out.2.1])
        have he := str_eq HSB.out.1 HMl.out
        obtain ⟨D, hD⟩ : ∃ D, decide (encT M = C) = D := ⟨_, rfl⟩
        rw [hD] at he
        have HDE : Hid ((((dE8 C : Nat) : Int) == 0) = D) := by
          show _ = _
          by_cases h : encT M = C
          · rw [← hD, decide_eq_true h, hiff.1 h]; rfl
          · rw [← hD, decide_eq_false h]
            exact beq_false_of_ne fun e => h (hiff.2 (by omega))
        have HEQ := Lib.hid he
        have hex : (¬ I < 32) ∨ (I < 32 ∧ decide ((K : Int) + (I : Int) < 192) = false) := by
          by_cases h32 : I < 32
          · exact Or.inr ⟨h32, decide_eq_false (by omega)⟩
          · exact Or.inl h32
        have hKb : K ≤ 192 := by omega
        have K22 := Lib.hid (F18.out wr hB)
        have B23 := Lib.hid (F19.out wr hB)
        have S24 := Lib.hid (F20.out wr hB)
        have T25 := Lib.hid (F21.out wr hB)
        have R26 := Lib.hid hB
        clear hlt hiff he hD hF hB hKI
        rcases hex with hx1 | ⟨hx1, hx2⟩
        all_goals
          go_wp2_with fail
          have T27 := Lib.hid HO.out.sl
          refine (PD.out _ C _ K22.out T27.out (by have h1 := HM.out; have h2 := HL0.out; omega)).mono ?_
          rintro e w28 ⟨⟨v6, rfl, hs6⟩, hb29⟩
          have K30 := Lib.hid (ST.out _ _ K22.out hb29)
          have B31 := Lib.hid (bt B23.out hb29)
          have S32 := Lib.hid (it_below S24.out hb29)
          clear S24
          have T33 := Lib.hid (sl_below T25.out hb29)
          clear T25
          have T34 := Lib.hid (sl_below T27.out hb29)
          clear T27
          have R35 := Lib.hid (bt R26.out hb29)
          clear R26
          obtain ⟨a36, cc37, hv40, -, -⟩ := it_form (hs6)
          obtain ⟨m38, hm41⟩ : ∃ q, q = (dL8 C).length := ⟨_, rfl⟩
          rw [← hm41] at hv40
          subst hv40
          have S39 := Lib.hid (hs6)
          clear hs6 hm41
          have q1 := conv_sl T33.out
          have q2 := conv_sl T34.out
          have q3 := HEQ.out
          have q4 := HDE.out
          have q5 : (D == D) = true := by simp
          generalize strOf (encT M) = T1 at *
          generalize strOf C = T2 at *
          generalize dE8 C = E9 at *
          go_wp2_with fail
          refine (AW.out _ K30.out).mono ?_
          rintro e w42 ⟨rfl, hb43⟩
          have K44 := Lib.hid (ST.out _ _ K30.out hb43)
          have B45 := Lib.hid (bt B31.out hb43)
          have S46 := Lib.hid (it_below S32.out hb43)
          clear S32
          have S47 := Lib.hid (it_below S39.out hb43)
          clear S39
          have T48 := Lib.hid (sl_below T33.out hb43)
          clear T33
          have T49 := Lib.hid (sl_below T34.out hb43)
          clear T34
          have R50 := Lib.hid (bt R35.out hb43)
          clear R35
          go_wp2_with fail
          go_ret
          exact ⟨rfl, B45.out⟩
end Go.Proofs.YtihjfnlimdcmkaaDoor.Gf
