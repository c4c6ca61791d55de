/- What is proved here: IndexEncodes and IndexBack return true, over what the laws ask of the program. No condition. -/
import Derived.Test.YtihjfnlimdcmkaaDoorQ8d
import Derived.Test.YtihjfnlimdcmkaaDoorR8j
namespace Go.Proofs.YtihjfnlimdcmkaaDoor.Gf
open Go Go.Joins Go.ChangeShapes Go.WideShapes Go.ChangeAt Go.RowKit Go.Deep Go.Sort Go.Proofs.YtihjfnlimdcmkaaDoor.By Go.Proofs.YtihjfnlimdcmkaaDoor.Crc Go.Proofs.YtihjfnlimdcmkaaDoor.Qt

set_option maxRecDepth 100000 in
set_option maxHeartbeats 12800000 in
theorem encodes8_walk {Ok : World → Prop} (P : PC8a Ok) (va : Value) (LA : List Itm) (w : World) (hw : Ok w) (sa : It w va LA) : Calls Tryd.prog 4 #[va] w fun e w' => e = .returned (.bool true) ∧ Below w.heap.size w w' := by
  have PE := Lib.hid (fun v M W (h : Ok W) a b => P.enc v M W h a b)
  have ST := Lib.hid (fun (W W' : World) => P.st (w := W) (w' := W'))
  have AW := Lib.hid (awake8_any P)
  clear P
  unfold EW at PE
  have hma := made_length LA
  have hla := take40 LA
  have K0 := Lib.hid hw
  have B0 := Lib.hid (Below.refl w.heap.size w)
  have LBD := Lib.hid (And.intro hma hla)
  have SA := Lib.hid sa
  clear hma hla hw
  obtain ⟨aa, ca, rfl, -, -⟩ := it_form sa
  generalize LA.length = na at *
  clear sa
  go_enter Tryd.func4, Tryd.ntmps4
  go_wp2_with fail
  refine (cut8_any _ LA _ SA.out).mono ?_
  rintro e w1 ⟨⟨v1, rfl, hs1⟩, rfl⟩
  obtain ⟨a1, cc2, hv5, -, -⟩ := it_form (hs1)
  obtain ⟨m3, hm6⟩ : ∃ q, q = (LA.take 40).length := ⟨_, rfl⟩
  rw [← hm6] at hv5
  subst hv5
  have S4 := Lib.hid (hs1)
  clear hs1 hm6
  go_wp2_with fail
  refine (made_any _ LA _ SA.out).mono ?_
  rintro e w7 ⟨⟨v2, rfl, ho2⟩, hb8⟩
  have K9 := Lib.hid (ST.out _ _ K0.out hb8)
  have B10 := Lib.hid (bt B0.out hb8)
  have S11 := Lib.hid (it_below SA.out hb8)
  clear SA
  have S12 := Lib.hid (it_below S4.out hb8)
  clear S4
  obtain ⟨a13, cc14, hv17, -, -⟩ := it_form (owT_it ho2)
  obtain ⟨m15, hm18⟩ : ∃ q, q = (madeL LA).length := ⟨_, rfl⟩
  rw [← hm18] at hv17
  subst hv17
  have S16 := Lib.hid (owT_it ho2)
  clear ho2 hm18
  have hb19 := bel_al w7 (.cells #[.slice a1 m3 cc2, .slice a13 m15 cc14] 22)
  have Y20 := Lib.hid (row_at (heap_alloc_new w7 (.cells #[.slice a1 m3 cc2, .slice a13 m15 cc14] 22)))
  have K21 := Lib.hid (ST.out _ _ K9.out hb19)
  have B22 := Lib.hid (bt B10.out hb19)
  have S23 := Lib.hid (it_below S11.out hb19)
  clear S11
  have S24 := Lib.hid (it_below S12.out hb19)
  clear S12
  have S25 := Lib.hid (it_below S16.out hb19)
  clear S16
  clear hb19
  go_wp2_with fail
  generalize w7.alloc (.cells #[.slice a1 m3 cc2, .slice a13 m15 cc14] 22) = WA at *
  generalize w7.heap.size = g26 at *
  have F27 := Lib.hid (fun W' (h : Below WA.heap.size WA W') => ST.out _ _ K21.out h)
  have F28 := Lib.hid (fun W' (h : Below WA.heap.size WA W') => bt B22.out h)
  have F29 := Lib.hid (fun W' (h : Below WA.heap.size WA W') => it_below S23.out h)
  have F30 := Lib.hid (fun W' (h : Below WA.heap.size WA W') => it_below S24.out h)
  have F31 := Lib.hid (fun W' (h : Below WA.heap.size WA W') => it_below S25.out h)
  have F32 := Lib.hid (fun W' (h : Below WA.heap.size WA W') => (fun q z hz => (h.cell (block_lt_of_cell (Y20.out q z hz))).trans (Y20.out q z hz)))
  go_loopw [15] (fun t wr => ∃ i : Nat, i ≤ 2 ∧ t = .int .i64 (i : Int) ∧ Below WA.heap.size WA wr) (fun t _ => 2 - (intOf t).toNat)
  case atStart => exact ⟨0, by omega, rfl, Below.refl _ _⟩
  case round =>
    obtain ⟨i, hi, rfl, hB⟩ := hrel
    by_cases hi2 : i < 2
    · have hl4 : decide ((i : Int) < 2) = true := decide_eq_true (by omega)
      have p0 : (0 : Int) ≤ (i : Int) := by omega
      have p1 : (i : Int) < 2 := by omega
      have K33 := Lib.hid (F27.out wr hB)
      have B34 := Lib.hid (F28.out wr hB)
      have S35 := Lib.hid (F29.out wr hB)
      have S36 := Lib.hid (F30.out wr hB)
      have S37 := Lib.hid (F31.out wr hB)
      have Y38 := Lib.hid (F32.out wr hB)
      have R39 := Lib.hid hB
      clear hB
      obtain ⟨sv, lv, hrow, hsv, hlv⟩ := two_lists S36.out S37.out LBD.out.2 LBD.out.1 hi2
      have hc := Y38.out i sv hrow
      have HLV := Lib.hid hlv
      clear hlv hrow
      obtain ⟨a40, cc41, hv44, -, -⟩ := it_form (hsv)
      obtain ⟨m42, hm45⟩ : ∃ q, q = (lv).length := ⟨_, rfl⟩
      rw [← hm45] at hv44
      subst hv44
      have S43 := Lib.hid (hsv)
      clear hsv hm45
      go_wp2_with fail
      refine (PE.out _ lv _ K33.out S43.out (by have := HLV.out; omega)).mono ?_
      rintro e w46 ⟨⟨v3, rfl, hs3⟩, hb47⟩
      have K48 := Lib.hid (ST.out _ _ K33.out hb47)
      have B49 := Lib.hid (bt B34.out hb47)
      have S50 := Lib.hid (it_below S35.out hb47)
      clear S35
      have S51 := Lib.hid (it_below S36.out hb47)
      clear S36
      have S52 := Lib.hid (it_below S37.out hb47)
      clear S37
      have S53 := Lib.hid (it_below S43.out hb47)
      clear S43
      have R54 := Lib.hid (bt R39.out hb47)
      clear R39
      have Y55 := Lib.hid (fun q z hz => (hb47.cell (block_lt_of_cell (Y38.out q z hz))).trans (Y38.out q z hz))
      clear Y38
      obtain ⟨a56, cc57, hv60, -, -⟩ := sl_form (hs3)
      obtain ⟨m58, hm61⟩ : ∃ q, q = (eT lv).length := ⟨_, rfl⟩
      rw [← hm61] at hv60
      subst hv60
      have T59 := Lib.hid (hs3)
      have HM62 := Lib.hid hm61
      clear hs3 hm61
      clear hc
      go_wp2_with fail
      have RE := Lib.hid (rencode8_any _ lv _ S53.out (by have := HLV.out; omega))
      unfold EW at RE
      refine (RE.out).mono ?_
      rintro e w63 ⟨⟨v4, rfl, hs4⟩, hb64⟩
      have K65 := Lib.hid (ST.out _ _ K48.out hb64)
      have B66 := Lib.hid (bt B49.out hb64)
      have S67 := Lib.hid (it_below S50.out hb64)
      clear S50
      have S68 := Lib.hid (it_below S51.out hb64)
      clear S51
      have S69 := Lib.hid (it_below S52.out hb64)
      clear S52
      have S70 := Lib.hid (it_below S53.out hb64)
      clear S53
      have T71 := Lib.hid (sl_below T59.out hb64)
      clear T59
      have R72 := Lib.hid (bt R54.out hb64)
      clear R54
      have Y73 := Lib.hid (fun q z hz => (hb64.cell (block_lt_of_cell (Y55.out q z hz))).trans (Y55.out q z hz))
      clear Y55
      obtain ⟨a74, cc75, hv78, -, -⟩ := sl_form (hs4)
      obtain ⟨m76, hm79⟩ : ∃ q, q = (eT lv).length := ⟨_, rfl⟩
      rw [← hm79] at hv78
      subst hv78
      have T77 := Lib.hid (hs4)
      have HM80 := Lib.hid hm79
      clear hs4 hm79
      have k1 := conv_sl T71.out
      have k2 := conv_sl T77.out
      have hq1 : (((eE lv : Nat) : Int) != ((eE lv : Nat) : Int)) = false := by simp
      have hq2 : ((strOf (eT lv)).toList == (strOf (eT lv)).toList) = true := by simp
      clear RE
      generalize strOf (eT lv) = TT at *
      generalize eE lv = EE at *
      go_wp2
      go_roundw
      case rel => exact ⟨i + 1, by omega, by go_num, R72.out⟩
      case measure => simp [intOf]; omega
    · obtain rfl : i = 2 := by omega
      rw [show ((2 : Nat) : Int) = 2 from rfl]
      have K33 := Lib.hid (F27.out wr hB)
      have B34 := Lib.hid (F28.out wr hB)
      have S35 := Lib.hid (F29.out wr hB)
      have S36 := Lib.hid (F30.out wr hB)
      have S37 := Lib.hid (F31.out wr hB)
      have Y38 := Lib.hid (F32.out wr hB)
      have R39 := Lib.hid hB
      clear hB
      go_wp2_with fail
      refine (AW.out _ K33.out).mono ?_
      rintro e w40 ⟨rfl, hb41⟩
      have K42 := Lib.hid (ST.out _ _ K33.out hb41)
      have B43 := Lib.hid (bt B34.out hb41)
      have S44 := Lib.hid (it_below S35.out hb41)
      clear S35
      have S45 := Lib.hid (it_below S36.out hb41)
      clear S36
      have S46 := Lib.hid (it_below S37.out hb41)
      clear S37
      have R47 := Lib.hid (bt R39.out hb41)
      clear R39
      have Y48 := Lib.hid (fun q z hz => (hb41.cell (block_lt_of_cell (Y38.out q z hz))).trans (Y38.out q z hz))
      clear Y38
      go_wp2
      go_ret
      exact ⟨rfl, B43.out⟩
/-- What is accepted is a valid list, and these are its bytes. -/
theorem dec8_ok {l : List Nat} (hl : ∀ b ∈ l, b < 256) (h : dE8 l = 0) : okT (dL8 l) ∧ encT (dL8 l) = l ∧ (dL8 l).length ≤ l.length := by
  unfold dE8 at h
  by_cases h1 : (dcT l.length l).1 ≠ 0
  · rw [if_pos h1] at h; exact absurd h h1
  · rw [if_neg h1] at h
    by_cases h2 : okT (dcT l.length l).2
    · have e : dL8 l = (dcT l.length l).2 := by unfold dL8 dE8; rw [if_neg h1, if_pos h2, if_pos rfl]
      have he := enc_dcT l.length l (Nat.le_refl _) hl (by simpa using h1)
      rw [e]
      refine ⟨h2, he, ?_⟩
      have := encT_length (dcT l.length l).2
      rw [he] at this
      omega
    · rw [if_neg h2] at h; cases h
theorem dec8_enc {L : List Itm} (h : okT L) (hr : ∀ x ∈ L, ItR x) : dE8 (encT L) = 0 ∧ dL8 (encT L) = L := by
  have h1 := dcT_enc L hr h.1 (encT L).length (Nat.le_refl _)
  have e : dE8 (encT L) = 0 := by unfold dE8; rw [h1, if_neg (fun h => h rfl), if_pos h]
  exact ⟨e, by unfold dL8; rw [e, if_pos rfl, h1]⟩
theorem sl_cut500 {w : World} {v : Value} {l : List Nat} (h : Sl w v l) (hl : 500 < l.length) : ∃ b o c, v = .slice (some ⟨b, o, none⟩) l.length c ∧ l.length ≤ c ∧ Sl w (.slice (some ⟨b, o, none⟩) 500 c) (l.take 500) := by
  obtain ⟨b, o, c, hv, h1, h2, h3⟩ := sl_cells h (by omega)
  have hc := sl_cut (w := w) (p := 0) (c := 500) h.1 rfl h2 h1 h3 (by omega)
  rw [Nat.add_zero, Nat.sub_zero, List.drop_zero] at hc
  exact ⟨b, o, c, hv, h1, hc⟩
set_option maxRecDepth 100000 in
set_option maxHeartbeats 12800000 in
theorem back8_walk {Ok : World → Prop} (P : PC8a Ok) (va : Value) (LA : List Itm) (vr : Value) (R : List Nat) (w : World) (hw : Ok w) (sa : It w va LA) (sr : Sl w vr R) : Calls Tryd.prog 6 #[va, vr] w fun e w' => e = .returned (.bool true) ∧ Below w.heap.size w w' := by
  have PE := Lib.hid (fun v M W (h : Ok W) a b => P.enc v M W h a b)
  have PD := Lib.hid (fun v l W (h : Ok W) a b => P.dec v l W h a b)
  have ST := Lib.hid (fun (W W' : World) => P.st (w := W) (w' := W'))
  have AW := Lib.hid (awake8_any P)
  have MDA := Lib.hid (fun W v (h : It W v LA) => made_any v LA W h)
  clear P
  unfold EW at PE
  unfold LW at PD
  unfold LO at MDA
  have hma := made_length LA
  have oka := made_ok LA
  generalize madeL LA = M at *
  have K0 := Lib.hid hw
  have B0 := Lib.hid (Below.refl w.heap.size w)
  have SA := Lib.hid sa
  have SR := Lib.hid sr
  clear hw
  obtain ⟨aa, ca, rfl, -, -⟩ := it_form sa
  generalize LA.length = na at *
  clear sa
  by_cases hg : 500 < R.length
  · obtain ⟨br, or, cr, rfl, hrc, hsu⟩ := sl_cut500 sr hg
    have SRC := Lib.hid hsu
    have HR500 : Hid ((R.take 500).length ≤ 500) := by show _ ≤ _; rw [List.length_take]; omega
    have hl0 : decide ((500 : Int) < (R.length : Int)) = true := decide_eq_true (by omega)
    have hl1 : (500 : Int) ≤ (cr : Int) := by omega
    have hl2 : ¬ cr = 500 := by omega
    generalize R.take 500 = R2 at *
    generalize R.length = nr at *
    clear sr hsu hg hrc SR
    go_enter Tryd.func6, Tryd.ntmps6
    go_wp2_with fail
    refine (MDA.out _ _ SA.out).mono ?_
    rintro e w1 ⟨⟨v1, rfl, ho1⟩, hb2⟩
    have K3 := Lib.hid (ST.out _ _ K0.out hb2)
    have B4 := Lib.hid (bt B0.out hb2)
    have S5 := Lib.hid (it_below SA.out hb2)
    clear SA
    have T6 := Lib.hid (sl_below SRC.out hb2)
    clear SRC
    have hrg : ∀ x ∈ M, ItR x := fun x hx => ⟨(ho1.1 x hx).key, (ho1.1 x hx).ck⟩
    have HDE := Lib.hid (dec8_enc oka hrg)
    clear hrg
    obtain ⟨a1, c1, hv1, -, -⟩ := owT_form ho1
    obtain ⟨m1, hm1⟩ : ∃ q, q = M.length := ⟨_, rfl⟩
    rw [← hm1] at hv1
    subst hv1
    have S1 := Lib.hid (owT_it ho1)
    have HM1 := Lib.hid hm1
    clear ho1 hm1
    go_wp2_with fail
    refine (PE.out _ M _ K3.out S1.out (by omega)).mono ?_
    rintro e w7 ⟨⟨v2, rfl, hs2⟩, hb8⟩
    have K9 := Lib.hid (ST.out _ _ K3.out hb8)
    have B10 := Lib.hid (bt B4.out hb8)
    have S11 := Lib.hid (it_below S1.out hb8)
    clear S1
    have T12 := Lib.hid (sl_below T6.out hb8)
    clear T6
    rw [show eT M = encT M from if_pos oka] at hs2
    rw [show eE M = 0 from if_pos oka]
    obtain ⟨a13, cc14, hv17, -, -⟩ := sl_form (hs2)
    obtain ⟨m15, hm18⟩ : ∃ q, q = (encT M).length := ⟨_, rfl⟩
    rw [← hm18] at hv17
    subst hv17
    have T16 := Lib.hid (hs2)
    have HM19 := Lib.hid hm18
    clear hs2 hm18
    have HLB : Hid (m15 = 24 * m1) := by show _ = _; rw [HM19.out, encT_length, HM1.out]
    go_wp2_with fail
    refine (PD.out _ (encT M) _ K9.out T16.out (by rw [encT_length]; omega)).mono ?_
    rintro e w20 ⟨⟨v3, rfl, hs3⟩, hb21⟩
    have K22 := Lib.hid (ST.out _ _ K9.out hb21)
    have B23 := Lib.hid (bt B10.out hb21)
    have S24 := Lib.hid (it_below S11.out hb21)
    clear S11
    have T25 := Lib.hid (sl_below T12.out hb21)
    clear T12
    have T26 := Lib.hid (sl_below T16.out hb21)
    clear T16
    rw [HDE.out.2] at hs3
    rw [HDE.out.1]
    obtain ⟨a27, cc28, hv31, -, -⟩ := it_form (hs3)
    obtain ⟨m29, hm32⟩ : ∃ q, q = (M).length := ⟨_, rfl⟩
    rw [← hm32] at hv31
    subst hv31
    have S30 := Lib.hid (hs3)
    clear hs3 hm32
    go_wp2_with fail
    refine (rsame8_any _ _ _ _ _ S30.out S24.out).mono ?_
    rintro e w33 ⟨rfl, hb34⟩
    have K35 := Lib.hid (ST.out _ _ K22.out hb34)
    have B36 := Lib.hid (bt B23.out hb34)
    have S37 := Lib.hid (it_below S24.out hb34)
    clear S24
    have S38 := Lib.hid (it_below S30.out hb34)
    clear S30
    have T39 := Lib.hid (sl_below T25.out hb34)
    clear T25
    have T40 := Lib.hid (sl_below T26.out hb34)
    clear T26
    rw [decide_eq_true rfl]
    have hmb : m1 ≤ 40 := by have := HM1.out; omega
    have hw24 : wrap64 (24 * (m1 : Int)) = (m15 : Int) := by have := HLB.out; unfold wrap64; omega
    have hne : ((m15 : Int) != (m15 : Int)) = false := by simp
    have hne2 : ((m15 : Int) != 24 * (m1 : Int)) = false := by have := HLB.out; simp; omega
    go_wp2_with fail
    refine (PD.out _ R2 _ K35.out T39.out (by have := HR500.out; omega)).mono ?_
    rintro e w41 ⟨⟨v5, rfl, hs5⟩, hb42⟩
    have K43 := Lib.hid (ST.out _ _ K35.out hb42)
    have B44 := Lib.hid (bt B36.out hb42)
    have S45 := Lib.hid (it_below S37.out hb42)
    clear S37
    have S46 := Lib.hid (it_below S38.out hb42)
    clear S38
    have T47 := Lib.hid (sl_below T39.out hb42)
    clear T39
    have T48 := Lib.hid (sl_below T40.out hb42)
    clear T40
    obtain ⟨a49, cc50, hv53, -, -⟩ := it_form (hs5)
    obtain ⟨m51, hm54⟩ : ∃ q, q = (dL8 R2).length := ⟨_, rfl⟩
    rw [← hm54] at hv53
    subst hv53
    have S52 := Lib.hid (hs5)
    clear hs5 hm54
    by_cases he : dE8 R2 = 0
    · obtain ⟨o1, o2, o3⟩ := dec8_ok T47.out.1 he
      rw [he]
      have O := Lib.hid (And.intro o1 (And.intro o2 o3))
      clear o1 o2 o3 he
      go_wp2_with fail
      refine (PE.out _ (dL8 R2) _ K43.out S52.out (by have := O.out.2.2; have := HR500.out; omega)).mono ?_
      rintro e w55 ⟨⟨v6, rfl, hs6⟩, hb56⟩
      have K57 := Lib.hid (ST.out _ _ K43.out hb56)
      have B58 := Lib.hid (bt B44.out hb56)
      have S59 := Lib.hid (it_below S45.out hb56)
      clear S45
      have S60 := Lib.hid (it_below S46.out hb56)
      clear S46
      have S61 := Lib.hid (it_below S52.out hb56)
      clear S52
      have T62 := Lib.hid (sl_below T47.out hb56)
      clear T47
      have T63 := Lib.hid (sl_below T48.out hb56)
      clear T48
      rw [show eT (dL8 R2) = R2 from (if_pos O.out.1).trans O.out.2.1] at hs6
      rw [show eE (dL8 R2) = 0 from if_pos O.out.1]
      obtain ⟨a64, cc65, hv68, -, -⟩ := sl_form (hs6)
      obtain ⟨m66, hm69⟩ : ∃ q, q = (R2).length := ⟨_, rfl⟩
      rw [← hm69] at hv68
      subst hv68
      have T67 := Lib.hid (hs6)
      have HM70 := Lib.hid hm69
      clear hs6 hm69
      have k1 := conv_sl T67.out
      have k2 := conv_sl T62.out
      have hq2 : ((strOf R2).toList == (strOf R2).toList) = true := by simp
      generalize strOf R2 = TT at *
      go_wp2_with fail
      refine (AW.out _ K57.out).mono ?_
      rintro e w71 ⟨rfl, hb72⟩
      have K73 := Lib.hid (ST.out _ _ K57.out hb72)
      have B74 := Lib.hid (bt B58.out hb72)
      have S75 := Lib.hid (it_below S59.out hb72)
      clear S59
      have S76 := Lib.hid (it_below S60.out hb72)
      clear S60
      have S77 := Lib.hid (it_below S61.out hb72)
      clear S61
      have T78 := Lib.hid (sl_below T62.out hb72)
      clear T62
      have T79 := Lib.hid (sl_below T63.out hb72)
      clear T63
      have T80 := Lib.hid (sl_below T67.out hb72)
      clear T67
      go_wp2
      go_ret
      exact ⟨rfl, B74.out⟩
    · have hq : (((dE8 R2 : Nat) : Int) != 0) = true := by rw [bne_iff_ne]; omega
      have hq1 : ¬ dE8 R2 = 0 := he
      clear he
      generalize dE8 R2 = EE at *
      go_wp2_with fail
      refine (AW.out _ K43.out).mono ?_
      rintro e w55 ⟨rfl, hb56⟩
      have K57 := Lib.hid (ST.out _ _ K43.out hb56)
      have B58 := Lib.hid (bt B44.out hb56)
      have S59 := Lib.hid (it_below S45.out hb56)
      clear S45
      have S60 := Lib.hid (it_below S46.out hb56)
      clear S46
      have S61 := Lib.hid (it_below S52.out hb56)
      clear S52
      have T62 := Lib.hid (sl_below T47.out hb56)
      clear T47
      have T63 := Lib.hid (sl_below T48.out hb56)
      clear T48
      go_wp2
      go_ret
      exact ⟨rfl, B58.out⟩
  · obtain ⟨ar, cr, rfl, hrc, -⟩ := sl_form sr
    have SRC := Lib.hid sr
    have HR500 : Hid (R.length ≤ 500) := by show _ ≤ _; omega
    have hl0 : decide ((500 : Int) < (R.length : Int)) = false := decide_eq_false (by omega)
    obtain ⟨nr, hnr⟩ : ∃ q, q = R.length := ⟨_, rfl⟩
    rw [← hnr] at SRC hl0 ⊢
    clear sr hg hrc SR hnr
    go_enter Tryd.func6, Tryd.ntmps6
    go_wp2_with fail
    refine (MDA.out _ _ SA.out).mono ?_
    rintro e w1 ⟨⟨v1, rfl, ho1⟩, hb2⟩
    have K3 := Lib.hid (ST.out _ _ K0.out hb2)
    have B4 := Lib.hid (bt B0.out hb2)
    have S5 := Lib.hid (it_below SA.out hb2)
    clear SA
    have T6 := Lib.hid (sl_below SRC.out hb2)
    clear SRC
    have hrg : ∀ x ∈ M, ItR x := fun x hx => ⟨(ho1.1 x hx).key, (ho1.1 x hx).ck⟩
    have HDE := Lib.hid (dec8_enc oka hrg)
    clear hrg
    obtain ⟨a1, c1, hv1, -, -⟩ := owT_form ho1
    obtain ⟨m1, hm1⟩ : ∃ q, q = M.length := ⟨_, rfl⟩
    rw [← hm1] at hv1
    subst hv1
    have S1 := Lib.hid (owT_it ho1)
    have HM1 := Lib.hid hm1
    clear ho1 hm1
    go_wp2_with fail
    refine (PE.out _ M _ K3.out S1.out (by omega)).mono ?_
    rintro e w7 ⟨⟨v2, rfl, hs2⟩, hb8⟩
    have K9 := Lib.hid (ST.out _ _ K3.out hb8)
    have B10 := Lib.hid (bt B4.out hb8)
    have S11 := Lib.hid (it_below S1.out hb8)
    clear S1
    have T12 := Lib.hid (sl_below T6.out hb8)
    clear T6
    rw [show eT M = encT M from if_pos oka] at hs2
    rw [show eE M = 0 from if_pos oka]
    obtain ⟨a13, cc14, hv17, -, -⟩ := sl_form (hs2)
    obtain ⟨m15, hm18⟩ : ∃ q, q = (encT M).length := ⟨_, rfl⟩
    rw [← hm18] at hv17
    subst hv17
    have T16 := Lib.hid (hs2)
    have HM19 := Lib.hid hm18
    clear hs2 hm18
    have HLB : Hid (m15 = 24 * m1) := by show _ = _; rw [HM19.out, encT_length, HM1.out]
    go_wp2_with fail
    refine (PD.out _ (encT M) _ K9.out T16.out (by rw [encT_length]; omega)).mono ?_
    rintro e w20 ⟨⟨v3, rfl, hs3⟩, hb21⟩
    have K22 := Lib.hid (ST.out _ _ K9.out hb21)
    have B23 := Lib.hid (bt B10.out hb21)
    have S24 := Lib.hid (it_below S11.out hb21)
    clear S11
    have T25 := Lib.hid (sl_below T12.out hb21)
    clear T12
    have T26 := Lib.hid (sl_below T16.out hb21)
    clear T16
    rw [HDE.out.2] at hs3
    rw [HDE.out.1]
    obtain ⟨a27, cc28, hv31, -, -⟩ := it_form (hs3)
    obtain ⟨m29, hm32⟩ : ∃ q, q = (M).length := ⟨_, rfl⟩
    rw [← hm32] at hv31
    subst hv31
    have S30 := Lib.hid (hs3)
    clear hs3 hm32
    go_wp2_with fail
    refine (rsame8_any _ _ _ _ _ S30.out S24.out).mono ?_
    rintro e w33 ⟨rfl, hb34⟩
    have K35 := Lib.hid (ST.out _ _ K22.out hb34)
    have B36 := Lib.hid (bt B23.out hb34)
    have S37 := Lib.hid (it_below S24.out hb34)
    clear S24
    have S38 := Lib.hid (it_below S30.out hb34)
    clear S30
    have T39 := Lib.hid (sl_below T25.out hb34)
    clear T25
    have T40 := Lib.hid (sl_below T26.out hb34)
    clear T26
    rw [decide_eq_true rfl]
    have hmb : m1 ≤ 40 := by have := HM1.out; omega
    have hw24 : wrap64 (24 * (m1 : Int)) = (m15 : Int) := by have := HLB.out; unfold wrap64; omega
    have hne : ((m15 : Int) != (m15 : Int)) = false := by simp
    have hne2 : ((m15 : Int) != 24 * (m1 : Int)) = false := by have := HLB.out; simp; omega
    go_wp2_with fail
    refine (PD.out _ R _ K35.out T39.out (by have := HR500.out; omega)).mono ?_
    rintro e w41 ⟨⟨v5, rfl, hs5⟩, hb42⟩
    have K43 := Lib.hid (ST.out _ _ K35.out hb42)
    have B44 := Lib.hid (bt B36.out hb42)
    have S45 := Lib.hid (it_below S37.out hb42)
    clear S37
    have S46 := Lib.hid (it_below S38.out hb42)
    clear S38
    have T47 := Lib.hid (sl_below T39.out hb42)
    clear T39
    have T48 := Lib.hid (sl_below T40.out hb42)
    clear T40
    obtain ⟨a49, cc50, hv53, -, -⟩ := it_form (hs5)
    obtain ⟨m51, hm54⟩ : ∃ q, q = (dL8 R).length := ⟨_, rfl⟩
    rw [← hm54] at hv53
    subst hv53
    have S52 := Lib.hid (hs5)
    clear hs5 hm54
    by_cases he : dE8 R = 0
    · obtain ⟨o1, o2, o3⟩ := dec8_ok T47.out.1 he
      rw [he]
      have O := Lib.hid (And.intro o1 (And.intro o2 o3))
      clear o1 o2 o3 he
      go_wp2_with fail
      refine (PE.out _ (dL8 R) _ K43.out S52.out (by have := O.out.2.2; have := HR500.out; omega)).mono ?_
      rintro e w55 ⟨⟨v6, rfl, hs6⟩, hb56⟩
      have K57 := Lib.hid (ST.out _ _ K43.out hb56)
      have B58 := Lib.hid (bt B44.out hb56)
      have S59 := Lib.hid (it_below S45.out hb56)
      clear S45
      have S60 := Lib.hid (it_below S46.out hb56)
      clear S46
      have S61 := Lib.hid (it_below S52.out hb56)
      clear S52
      have T62 := Lib.hid (sl_below T47.out hb56)
      clear T47
      have T63 := Lib.hid (sl_below T48.out hb56)
      clear T48
      rw [show eT (dL8 R) = R from (if_pos O.out.1).trans O.out.2.1] at hs6
      rw [show eE (dL8 R) = 0 from if_pos O.out.1]
      obtain ⟨a64, cc65, hv68, -, -⟩ := sl_form (hs6)
      obtain ⟨m66, hm69⟩ : ∃ q, q = (R).length := ⟨_, rfl⟩
      rw [← hm69] at hv68
      subst hv68
      have T67 := Lib.hid (hs6)
      have HM70 := Lib.hid hm69
      clear hs6 hm69
      have k1 := conv_sl T67.out
      have k2 := conv_sl T62.out
      have hq2 : ((strOf R).toList == (strOf R).toList) = true := by simp
      generalize strOf R = TT at *
      go_wp2_with fail
      refine (AW.out _ K57.out).mono ?_
      rintro e w71 ⟨rfl, hb72⟩
      have K73 := Lib.hid (ST.out _ _ K57.out hb72)
      have B74 := Lib.hid (bt B58.out hb72)
      have S75 := Lib.hid (it_below S59.out hb72)
      clear S59
      have S76 := Lib.hid (it_below S60.out hb72)
      clear S60
      have S77 := Lib.hid (it_below S61.out hb72)
      clear S61
      have T78 := Lib.hid (sl_below T62.out hb72)
      clear T62
      have T79 := Lib.hid (sl_below T63.out hb72)
      clear T63
      have T80 := Lib.hid (sl_below T67.out hb72)
      clear T67
      go_wp2
      go_ret
      exact ⟨rfl, B74.out⟩
    · have hq : (((dE8 R : Nat) : Int) != 0) = true := by rw [bne_iff_ne]; omega
      have hq1 : ¬ dE8 R = 0 := he
      clear he
      generalize dE8 R = EE at *
      go_wp2_with fail
      refine (AW.out _ K43.out).mono ?_
      rintro e w55 ⟨rfl, hb56⟩
      have K57 := Lib.hid (ST.out _ _ K43.out hb56)
      have B58 := Lib.hid (bt B44.out hb56)
      have S59 := Lib.hid (it_below S45.out hb56)
      clear S45
      have S60 := Lib.hid (it_below S46.out hb56)
      clear S46
      have S61 := Lib.hid (it_below S52.out hb56)
      clear S52
      have T62 := Lib.hid (sl_below T47.out hb56)
      clear T47
      have T63 := Lib.hid (sl_below T48.out hb56)
      clear T48
      go_wp2
      go_ret
      exact ⟨rfl, B58.out⟩
end Go.Proofs.YtihjfnlimdcmkaaDoor.Gf
