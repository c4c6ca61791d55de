/- What is proved here: the walk of the law JournalBursts, over what it asks of the program. No condition. -/
import Derived.Test.YtbkhedfhnmkodaaDoorLP14c
import Derived.Test.YtbkhedfhnmkodaaDoorMath3
namespace Go.Proofs.YtbkhedfhnmkodaaDoor.Gf
open Go Go.Joins Go.ChangeShapes Go.WideShapes Go.ChangeAt Go.RowKit Go.Deep Go.Proofs.YtbkhedfhnmkodaaDoor.By Go.Proofs.YtbkhedfhnmkodaaDoor.Crc Go.Proofs.YtbkhedfhnmkodaaDoor.Qt

theorem and1_shift (f i : Nat) (hf : f < 4294967296) : bits .and .u32 ((f : Int) / 2 ^ i) 1 = ((f / 2 ^ i % 2 : Nat) : Int) := by
  have e : ((f : Int) / 2 ^ i) = ((f / 2 ^ i : Nat) : Int) := by simp
  have h := Nat.div_le_self f (2 ^ i)
  rw [e, and1 _ (by omega)]
theorem own_pos {w : World} {base : Nat} {v : Value} {l : List Nat} (h : Own w base v l) (hl : 0 < l.length) : ∃ g c, v = .slice (some ⟨g, 0, none⟩) l.length c ∧ base ≤ g := by
  obtain ⟨_, _, ⟨rfl, h0⟩ | ⟨g, cap, _, rfl, hg, _⟩⟩ := h
  · omega
  · exact ⟨g, cap, rfl, hg⟩
theorem idx_at (n0 : Int) {n : Nat} (h0 : 1 ≤ n) (h1 : n ≤ 100) : ∃ (i : Nat) (t x : Int), n0.tmod (n : Int) = t ∧ wrap64 t = t ∧ wrap64 (t + (n : Int)) = x ∧ x.tmod (n : Int) = (i : Int) ∧ wrap64 (i : Int) = (i : Int) ∧ i < n := by
  have h1 := Int.tmod_lt_of_pos n0 (b := (n : Int)) (by omega)
  have h2 := Int.lt_tmod_of_pos n0 (b := (n : Int)) (by omega)
  have h3 := Int.emod_lt_of_pos (n0.tmod (n : Int) + (n : Int)) (show (0 : Int) < (n : Int) by omega)
  have h4 := Int.emod_nonneg (n0.tmod (n : Int) + (n : Int)) (show (n : Int) ≠ 0 by omega)
  obtain ⟨t, ht⟩ : ∃ t, t = n0.tmod (n : Int) := ⟨_, rfl⟩
  rw [← ht] at h1 h2 h3 h4
  obtain ⟨c, hc⟩ : ∃ c : Nat, (c : Int) = (t + (n : Int)) % (n : Int) := ⟨((t + (n : Int)) % (n : Int)).toNat, Int.toNat_of_nonneg h4⟩
  rw [← hc] at h3 h4
  refine ⟨c, t, t + (n : Int), ht.symm, ?_, ?_, ?_, ?_, by omega⟩
  · clear ht hc
    unfold wrap64; omega
  · clear ht hc
    unfold wrap64; omega
  · rw [Int.tmod_eq_emod_of_nonneg (by omega), ← hc]
  · clear ht hc
    unfold wrap64; omega
theorem meas32 (I : Nat) (h : I < 32) : 32 - (intOf (.int .i64 ((I : Int) + 1))).toNat < 32 - (intOf (.int .i64 (I : Int))).toNat := by
  show 32 - ((I : Int) + 1).toNat < 32 - (I : Int).toNat
  omega
theorem file_at {K : List Nat} {i : Nat} (h : i < K.length) : encJ K = encJ (K.take i) ++ (entJ (K.getD i 0) ++ encJ (K.drop (i + 1))) := by
  rw [← List.append_assoc, ← encJ_take_succ h, ← encJ_app, List.take_append_drop]
theorem mid_getD {A E D : List Nat} {p q n : Nat} (hA : A.length = n) (hp : p = n + q) (hq : q < E.length) : (A ++ (E ++ D)).getD p 0 = E.getD q 0 := by
  subst hp
  rw [List.getD_eq_getElem?_getD, List.getElem?_append_right (by omega), show n + q - A.length = q by omega, List.getElem?_append_left hq, List.getD_eq_getElem?_getD]
theorem mid_set {A E D : List Nat} {p q n x : Nat} (hA : A.length = n) (hp : p = n + q) (hq : q < E.length) : (A ++ (E ++ D)).set p x = A ++ (E.set q x ++ D) := by
  subst hp
  rw [List.set_append_right _ _ (by omega), show n + q - A.length = q by omega, List.set_append_left _ _ hq]
set_option maxRecDepth 100000 in
set_option maxHeartbeats 12800000 in
theorem bursts14_walk {Ok : World → Prop} (P : PC14 Ok) (v : Value) (l : List Nat) (n1 n2 : Int) (flip : Nat) (hf : flip < 4294967296) (w : World) (hw : Ok w) (s : UL w v l) : Calls Tryd.prog 6 #[v, .int .i64 n1, .int .i64 n2, .int .u32 (flip : Int)] w fun e w' => e = .returned (.bool true) ∧ Below w.heap.size w w' := by
  have CU := Lib.hid (cut_any v l w s)
  have HKL := Lib.hid (cutL_le l)
  have AW := Lib.hid (fun W (h : Ok W) => awake14_any P W h)
  have ENC := Lib.hid (fun v l W (h : Ok W) (s : UL W v l) (hl : l.length ≤ 1000) => P.enc v l W h s hl)
  have DEC := Lib.hid (fun v l W (h : Ok W) (s : Sl W v l) (hl : l.length ≤ 1000000) => P.dec v l W h s hl)
  have ST := Lib.hid (fun (W W' : World) => P.st (w := W) (w' := W'))
  have HW := Lib.hid hw
  have HFL := Lib.hid hf
  obtain ⟨a, c, rfl, -, -⟩ := ul_form s
  generalize l.length = ln at *
  generalize cutL l = K at *
  clear P s hw hf
  go_enter Tryd.func6, Tryd.ntmps6
  go_wp2_with fail
  refine CU.out.mono ?_
  rintro e w0 ⟨⟨v2, rfl, hv2⟩, rfl⟩
  have SK := Lib.hid hv2
  have HLT := Lib.hid (ul_lt hv2)
  obtain ⟨ak, ck, rfl, hkc, -⟩ := ul_form hv2
  have HCK := Lib.hid hkc
  obtain ⟨kn, hkn⟩ : ∃ n, n = K.length := ⟨_, rfl⟩
  have HKN := Lib.hid hkn
  rw [← hkn] at SK ⊢
  clear hv2 hkc hkn CU
  go_wp2_with fail
  refine (ENC.out _ K w HW.out SK.out (by have := HKL.out; omega)).mono ?_
  rintro e w1 ⟨⟨v1, rfl, ho1⟩, hb1⟩
  have SE := Lib.hid ho1.sl
  have SK1 := Lib.hid (ul_below SK.out hb1)
  have B1 := Lib.hid hb1
  have OK1 := Lib.hid (ST.out _ _ HW.out hb1)
  obtain ⟨ab, cb, rfl, -, -⟩ := sl_form ho1.sl
  rw [show (encJ K).length = 12 * kn by rw [encJ_length, ← HKN.out]] at SE ⊢
  clear ho1 hb1 SK
  by_cases hk0 : kn = 0
  case pos =>
    subst hk0
    clear SE SK1 ENC DEC
    go_wp2_with fail
    refine (AW.out w1 OK1.out).mono ?_
    rintro e w4 ⟨rfl, hb4⟩
    go_wp2_with fail
    go_ret
    exact ⟨rfl, bt B1.out hb4⟩
  case neg =>
    obtain ⟨L, hL⟩ : ∃ n, n = 12 * kn := ⟨_, rfl⟩
    have HL := Lib.hid (show L = 12 * kn ∧ 1 ≤ kn ∧ kn ≤ 60 from ⟨hL, by omega, by rw [HKN.out]; exact HKL.out⟩)
    rw [← hL] at SE ⊢
    have k0 : ((kn : Int) == 0) = false := beq_false_of_ne (by omega)
    have k1 : ¬ kn = 0 := hk0
    have m2 : ((L : Int) != (L : Int)) = false := by simp
    clear hL hk0
    obtain ⟨i, t, x, u1, u2, u3, u4, u5, hi⟩ := idx_at n1 (n := kn) HL.out.2.1 (by have := HL.out; omega)
    have HU := Lib.hid (And.intro u1 (And.intro u2 (And.intro u3 (And.intro u4 u5))))
    clear u1 u2 u3 u4 u5
    obtain ⟨B, t2, x2, q1, q2, q3, q4, q5, hB⟩ := idx_at n2 (n := 96) (by decide) (by decide)
    rw [show ((96 : Nat) : Int) = 96 from rfl] at q1 q3 q4
    have HQ := Lib.hid (And.intro q1 (And.intro q2 (And.intro q3 (And.intro q4 q5))))
    clear q1 q2 q3 q4 q5
    have HI := Lib.hid (show i < kn from hi)
    have HBB := Lib.hid (show B < 96 from hB)
    have OE := Lib.hid (own_empty w1 (Nat.le_refl w1.heap.size))
    have BE := Lib.hid (bel_al14 w1 (.cells #[] 5))
    have HP : Hid (0 < (encJ K).length) := by show 0 < _; rw [encJ_length, ← HKN.out]; have := HL.out; omega
    have HEL : Hid ((encJ K).length = L) := by show _ = _; rw [encJ_length, ← HKN.out]; exact HL.out.1.symm
    have HLE : Hid (([] : List Nat).length + (encJ K).length ≤ 100000000) := by show _ ≤ _; rw [HEL.out]; have := HL.out; simp; omega
    have m1 := mul12 HL.out.1 HL.out.2.2
    clear hi hB
    obtain ⟨u1, u2, u3, u4, u5⟩ := HU.out
    obtain ⟨q1, q2, q3, q4, q5⟩ := HQ.out
    go_wp2_with (at_builtin; refine app_sl (dst := some 54) ?_ ?_ OE.out (sl_below SE.out BE.out) HLE.out BE.out.size ?_; exact rfl; exact rfl; intro v5 w5 ho5 hg5; rw [List.nil_append] at ho5; have B5 := Lib.hid (BE.out.grown hg5 BE.out.size fun q hq => OE.out.lt q hq); obtain ⟨g5, c5, hv5, hg⟩ := own_pos ho5 HP.out; rw [HEL.out] at hv5; subst hv5; have O5 := Lib.hid ho5; clear ho5 hg5)
    clear u1 u2 u3 u4 u5 q1 q2 q3 q4 q5 m1 m2 k0 k1
    have HFE := Lib.hid (file_at (K := K) (i := i) (by have h1 := HKN.out; have h2 := HI.out; omega))
    have HAL : Hid ((encJ (K.take i)).length = 12 * i) := by show _ = _; rw [encJ_length, List.length_take]; have h1 := HKN.out; have h2 := HI.out; omega
    obtain ⟨E0, hE0⟩ : ∃ E, E = entJ (K.getD i 0) := ⟨_, rfl⟩
    have HE0 := Lib.hid (show E0.length = 12 ∧ ∀ b ∈ E0, b < 256 from ⟨by rw [hE0]; exact entJ_length _, by rw [hE0]; exact entJ_lt _⟩)
    have HEE := Lib.hid hE0
    rw [← hE0] at HFE
    obtain ⟨A, hA⟩ : ∃ A, A = encJ (K.take i) := ⟨_, rfl⟩
    obtain ⟨D, hD⟩ : ∃ D, D = encJ (K.drop (i + 1)) := ⟨_, rfl⟩
    have HA := Lib.hid hA
    rw [← hA] at HAL HFE
    rw [← hD] at HFE
    rw [HFE.out] at O5
    clear hE0 hA hD
    go_loopw [14] (fun r wr => ∃ (I : Nat) (E : List Nat), I ≤ 32 ∧ B + I ≤ 96 ∧ r = .int .i64 I ∧ Hid (E.length = 12 ∧ ∀ b ∈ E, b < 256) ∧ Hid (num E = num E0 ^^^ (flip % 2 ^ I) * 2 ^ B) ∧ Hid (Own wr w1.heap.size (.slice (some ⟨g5, 0, none⟩) L c5) (A ++ (E ++ D))) ∧ Hid (Below w1.heap.size w1 wr)) (fun r _ => 32 - (intOf r).toNat)
    case atStart => exact ⟨0, E0, by omega, by have := HBB.out; omega, rfl, HE0, by show _ = _; simp [Nat.mod_one], O5, B5⟩
    case round =>
      clear O5 B5
      obtain ⟨I, E, hI, hKI, rfl, HM, HN, HO, HB⟩ := hrel
      rename World => wl
      have hi60 : i < 60 := by have h1 := HI.out; have h2 := HL.out; omega
      by_cases hlt : I < 32 ∧ B + I < 96
      · obtain ⟨i1, i2⟩ := hlt
        obtain ⟨p, hp⟩ : ∃ p, p = 12 * i + (B + I) / 8 := ⟨_, rfl⟩
        have hq : (B + I) / 8 < E.length := by rw [HM.out.1]; omega
        have hLF : (A ++ (E ++ D)).length = L := by rw [← HEL.out, HFE.out]; simp [HM.out.1, HE0.out.1]
        have hpl : p < L := by have h1 := HL.out; have h2 := HI.out; omega
        obtain ⟨hc, hfz, hbg⟩ := own_cell HO.out hLF hpl
        rw [mid_getD HAL.out hp hq] at hc
        have hy := getD_lt HM.out.2 ((B + I) / 8)
        have HC := Lib.hid hc
        have HFZ := Lib.hid hfz
        have b1 := and1_shift flip I HFL.out
        have hbt : flip / 2 ^ I % 2 < 2 := Nat.mod_lt _ (by decide)
        obtain ⟨bt, hbte⟩ : ∃ bt, bt = flip / 2 ^ I % 2 := ⟨_, rfl⟩
        obtain ⟨y, hye⟩ : ∃ y, y = E.getD ((B + I) / 8) 0 := ⟨_, rfl⟩
        rw [← hbte] at b1 hbt
        rw [← hye] at hc hy
        rw [hp] at hc hfz
        have HBT := Lib.hid hbte
        have HY := Lib.hid hye
        have HPL := Lib.hid (And.intro hp hpl)
        have r0 : (0 : Int) ≤ 12 * (i : Int) + ((B : Int) + (I : Int)) / 8 := by omega
        have r1 : 12 * (i : Int) + ((B : Int) + (I : Int)) / 8 < (L : Int) := by omega
        clear hbte hye hp hpl hLF hq
        go_wp2
        have e2 : 2 ^ ((B + I) % 8) ≤ 2 ^ 7 := Nat.pow_le_pow_right (by decide) (by omega)
        have e3 : bt * 2 ^ ((B + I) % 8) < 256 := by
          have := Nat.mul_le_mul (show bt ≤ 1 by omega) e2
          omega
        have e4 : ((bt : Int) * 2 ^ ((B + I) % 8) % 256) = ((bt * 2 ^ ((B + I) % 8) : Nat) : Int) := by
          have : ((bt : Int) * 2 ^ ((B + I) % 8)) = ((bt * 2 ^ ((B + I) % 8) : Nat) : Int) := by simp
          rw [this]
          generalize bt * 2 ^ ((B + I) % 8) = z at e3
          omega
        have hxy := xor_lt8 hy e3
        have hq : (B + I) / 8 < E.length := by rw [HM.out.1]; omega
        rw [e4, u8_xor_nat _ _ hy e3]
        refine ⟨⟨I + 1, E.set ((B + I) / 8) (y ^^^ bt * 2 ^ ((B + I) % 8)), by omega, by omega, by go_num, ⟨by simpa using HM.out.1, fun b hb => (List.mem_or_eq_of_mem_set hb).elim (HM.out.2 b) (fun e => e ▸ hxy)⟩, ?_, ?_, HB.out.setCell hbg _⟩, meas32 I i1⟩
        · have h := num_step E (num E0) flip B I HM.out.2 hq HN.out
          rw [← HY.out, ← HBT.out] at h
          exact h
        · have h := own_set (q := 12 * i + (B + I) / 8) HO.out (by rw [← HEL.out, HFE.out]; simp [HM.out.1, HE0.out.1]) (by rw [← HPL.out.1]; exact HPL.out.2) hxy
          rw [mid_set HAL.out rfl hq] at h
          exact h
      · have B4 := Lib.hid (bt B1.out HB.out)
        have OK4 := Lib.hid (ST.out _ _ HW.out B4.out)
        have SX := Lib.hid HO.out.sl
        have SB := Lib.hid (sl_below SE.out HB.out)
        have SKl := Lib.hid (ul_below SK1.out HB.out)
        have HKk := Lib.hid HKN.out
        have he := str_eq SE.out.1 HO.out.sl.1
        have hF : flip % 2 ^ I < 4294967296 := Nat.lt_of_le_of_lt (Nat.mod_le _ _) HFL.out
        have HXL : Hid ((A ++ (E ++ D)).length ≤ 1000000) := by show _ ≤ _; rw [show (A ++ (E ++ D)).length = (encJ K).length by rw [HFE.out]; simp [HM.out.1, HE0.out.1], HEL.out]; have := HL.out; omega
        have hex : (¬ I < 32) ∨ (I < 32 ∧ decide ((B : Int) + (I : Int) < 96) = false) := by
          by_cases h32 : I < 32
          · exact Or.inr ⟨h32, decide_eq_false (by omega)⟩
          · exact Or.inl h32
        have hKb : B ≤ 96 := by omega
        by_cases hEE : E = E0
        case pos =>
          have hX : A ++ (E ++ D) = encJ K := by rw [hEE, HFE.out]
          have DT := Lib.hid (decJ_full (ks := K) HLT.out)
          rw [hX] at SX he HXL
          rw [decide_eq_true rfl] at he
          have HHE := Lib.hid he
          clear hEE hX he hF hlt hKI HM HN HO HB
          rcases hex with hx1 | ⟨hx1, hx2⟩
          all_goals
            go_wp2_with fail
            refine (DEC.out _ _ wl OK4.out SX.out HXL.out).mono ?_
            rintro e w6 ⟨⟨n, v6, rfl, hd, ho⟩, hb⟩
            obtain rfl := decJ_uniq hd DT.out.1
            rw [DT.out.2] at ho
            have U6 := Lib.hid (owu_ul ho)
            obtain ⟨a6, c6, rfl⟩ := owu_form ho
            rw [← HKk.out] at U6 ⊢
            have B6 := Lib.hid (bt B4.out hb)
            have OK6 := Lib.hid (ST.out _ _ OK4.out hb)
            have UK6 := Lib.hid (ul_below SKl.out hb)
            have q1 := conv_sl (sl_below SB.out hb)
            have q2 := conv_sl (sl_below SX.out hb)
            have q3 := HHE.out
            generalize strOf (encJ K) = T1 at *
            clear ho hb hd
            go_wp2_with fail
            refine (rsame14_any _ _ _ _ w6 U6.out UK6.out).mono ?_
            rintro e w7 ⟨rfl, hb7⟩
            rw [decide_eq_true rfl]
            have B7 := Lib.hid (bt B6.out hb7)
            have OK7 := Lib.hid (ST.out _ _ OK6.out hb7)
            clear hb7 q1 q2
            go_wp2_with fail
            refine (AW.out w7 OK7.out).mono ?_
            rintro e w8 ⟨rfl, hb8⟩
            have B8 := Lib.hid (bt B7.out hb8)
            clear hb8
            go_wp2_with fail
            go_ret
            exact ⟨rfl, B8.out⟩
        case neg =>
          have hne : ¬ encJ K = A ++ (E ++ D) := fun h => by
            rw [HFE.out] at h
            have h2 := List.append_cancel_left h
            exact hEE (List.append_inj_left h2 (by rw [HE0.out.1, HM.out.1])).symm
          have DT := Lib.hid (decJ_burst (A := A) (e := E) (D := D) (ks := K) (i := i) (f := flip % 2 ^ I) (b := B) (by rw [← HKN.out]; exact HI.out) HLT.out HA.out HM.out.2 HM.out.1 hF hKb (by rw [← HEE.out]; exact HN.out) (by rw [← HEE.out]; exact hEE))
          rw [decide_eq_false hne] at he
          have HHE := Lib.hid he
          have p2 : (0 : Int) ≤ (i : Int) := by omega
          have p3 : (i : Int) ≤ (ck : Int) := by have h1 := HCK.out; have h2 := HI.out; have h3 := HKN.out; omega
          have HLK : Hid ((K.take i).length = i) := by show _ = _; rw [List.length_take]; have h1 := HI.out; have h2 := HKN.out; omega
          have UT := Lib.hid (ul_take (m := i) SKl.out (by have h1 := HI.out; have h2 := HKN.out; omega))
          have m3 := mul12 (n := i) (L := 12 * i) rfl (by omega)
          generalize A ++ (E ++ D) = X at *
          clear hEE hne he hF hlt hKI HM HN HO HB
          rcases hex with hx1 | ⟨hx1, hx2⟩
          all_goals
            go_wp2_with fail
            refine (DEC.out _ _ wl OK4.out SX.out HXL.out).mono ?_
            rintro e w6 ⟨⟨n, v6, rfl, hd, ho⟩, hb⟩
            obtain rfl := decJ_uniq hd DT.out.1
            rw [DT.out.2] at ho
            have U6 := Lib.hid (owu_ul ho)
            obtain ⟨a6, c6, rfl⟩ := owu_form ho
            rw [HLK.out] at U6 ⊢
            have B6 := Lib.hid (bt B4.out hb)
            have OK6 := Lib.hid (ST.out _ _ OK4.out hb)
            have UK6 := Lib.hid (ul_below UT.out hb)
            have q1 := conv_sl (sl_below SB.out hb)
            have q2 := conv_sl (sl_below SX.out hb)
            have q3 := HHE.out
            generalize strOf (encJ K) = T1 at *
            generalize strOf X = T2 at *
            clear ho hb hd
            go_wp2_with fail
            refine (rsame14_any _ _ _ _ w6 U6.out UK6.out).mono ?_
            rintro e w7 ⟨rfl, hb7⟩
            rw [decide_eq_true rfl]
            have B7 := Lib.hid (bt B6.out hb7)
            have OK7 := Lib.hid (ST.out _ _ OK6.out hb7)
            clear hb7 q1 q2
            go_wp2_with fail
            refine (AW.out w7 OK7.out).mono ?_
            rintro e w8 ⟨rfl, hb8⟩
            have B8 := Lib.hid (bt B7.out hb8)
            clear hb8
            go_wp2_with fail
            go_ret
            exact ⟨rfl, B8.out⟩
end Go.Proofs.YtbkhedfhnmkodaaDoor.Gf
