/- What is proved here: a change of up to 32 bits within an entry is found. No program text. What is proved here: IndexBursts returns true, over what the laws ask of the program. No condition. What is proved here: copy into a slice of the call's own. No condition. What is proved here: the walk of the law IndexDecodes, over what it asks of the program. No condition. -/
import Derived.Test.YtihjfnlimdcmkaaDoorC8
import Derived.Test.YtihjfnlimdcmkaaDoorQ8f
import Derived.Laws.CopyOwn
import Derived.Test.YtihjfnlimdcmkaaDoorR8j
namespace Go.Proofs.YtihjfnlimdcmkaaDoor.Gf
open Go Go.Proofs.YtihjfnlimdcmkaaDoor.Crc

theorem burst_rec {x : Itm} {c : List Nat} {f k : Nat} (hc : ∀ b ∈ c, b < 256) (hlen : c.length = 24) (hf : f < 4294967296) (hn : num c = num (recT x) ^^^ f * 2 ^ k) (h0 : ckT c) : c = recT x := by
  have hcut : c = c.take 20 ++ leL (ext 0 (c.take 20)) := by
    rw [show leL (ext 0 (c.take 20)) = (c.drop 20).take 4 from h0, show (c.drop 20).take 4 = c.drop 20 from List.take_of_length_le (by rw [List.length_drop, hlen]; decide), List.take_append_drop]
  have hct : ∀ b ∈ c.take 20, b < 256 := fun b hb => hc b (List.mem_of_mem_take hb)
  refine num_inj (by rw [hlen, recT_length]) hc (recT_lt x) ?_
  have cx := run_check (bodT_lt x)
  have cy := run_check hct
  rw [← hcut] at cy
  rw [show bodT x ++ leL (ext 0 (bodT x)) = recT x from rfl] at cx
  rw [run_num _ _ (recT_lt x), recT_length] at cx
  rw [run_num _ _ hc, hlen, hn] at cy
  have lA := num_lt _ (recT_lt x)
  have lC := num_lt _ hc
  rw [recT_length, show (256 : Nat) = 2 ^ 8 from rfl, ← Nat.pow_mul] at lA
  rw [hlen, show (256 : Nat) = 2 ^ 8 from rfl, ← Nat.pow_mul] at lC
  generalize num (recT x) = A at *
  have e : sgn (8 * 24) (f * 2 ^ k) = 0 := by
    rw [← Nat.xor_assoc, sgn_xor, cx] at cy
    have := congrArg (fun z => sgn 32 4294967295 ^^^ z) cy
    simpa [xor_self_left] using this
  have hz : f * 2 ^ k = 0 := by
    by_cases hk : k ≤ 192
    · rw [show 8 * 24 = k + (192 - k) by omega, sgn_add, Nat.mul_comm f, sgn_pow] at e
      rw [sgn_inj hf e, Nat.zero_mul]
    · have h3 : f * 2 ^ k < 2 ^ (8 * 24) := by
        have := Nat.xor_lt_two_pow lA lC
        rwa [hn, xor_self_left] at this
      have h4 : 2 ^ (8 * 24) ≤ 2 ^ k := Nat.pow_le_pow_right (by decide) (by omega)
      match f with
      | 0 => exact Nat.zero_mul _
      | f + 1 =>
        rw [Nat.add_mul, Nat.one_mul] at h3
        omega
  rw [hn, hz, Nat.xor_zero]
theorem num_app : ∀ (X Y : List Nat), num (X ++ Y) = 2 ^ (8 * X.length) * num Y + num X
  | [], Y => by simp [num]
  | b :: X, Y => by
    have ih := num_app X Y
    rw [List.cons_append, num, ih, num, List.length_cons, show 8 * (X.length + 1) = 8 * X.length + 8 by omega, Nat.pow_add]
    generalize 2 ^ (8 * X.length) = P
    rw [show (2 : Nat) ^ 8 = 256 from rfl, Nat.mul_add, ← Nat.mul_assoc, Nat.mul_comm 256 P]
    omega
theorem xor_high {a b d p : Nat} (ha : a < 2 ^ p) : (2 ^ p * b + a) ^^^ (2 ^ p * d) = 2 ^ p * (b ^^^ d) + a := by
  refine Nat.eq_of_testBit_eq fun j => ?_
  rw [Nat.testBit_xor, Nat.testBit_two_pow_mul_add _ ha, Nat.testBit_two_pow_mul_add _ ha, Nat.testBit_two_pow_mul]
  by_cases h : j < p
  · simp [h, Nat.not_le.2 h]
  · simp [h, Nat.not_lt.1 h, Nat.testBit_xor]
theorem xor_low {r t d q : Nat} (hr : r < 2 ^ q) (hd : d < 2 ^ q) : (2 ^ q * t + r) ^^^ d = 2 ^ q * t + (r ^^^ d) := by
  have hx := Nat.xor_lt_two_pow hr hd
  refine Nat.eq_of_testBit_eq fun j => ?_
  rw [Nat.testBit_xor, Nat.testBit_two_pow_mul_add _ hr, Nat.testBit_two_pow_mul_add _ hx]
  by_cases h : j < q
  · simp [h, Nat.testBit_xor]
  · have : d.testBit j = false := Nat.testBit_lt_two_pow (Nat.lt_of_lt_of_le hd (Nat.pow_le_pow_right (by decide) (by omega)))
    simp [h, this]
theorem parts_uniq {P a a' b b' : Nat} (ha : a < P) (ha' : a' < P) (h : P * b + a = P * b' + a') : a = a' ∧ b = b' := by
  have h1 : (P * b + a) % P = (P * b' + a') % P := by rw [h]
  have h2 : (P * b + a) / P = (P * b' + a') / P := by rw [h]
  have hP : 0 < P := by omega
  rw [Nat.mul_add_mod, Nat.mul_add_mod, Nat.mod_eq_of_lt ha, Nat.mod_eq_of_lt ha'] at h1
  rw [Nat.mul_add_div hP, Nat.mul_add_div hP, Nat.div_eq_of_lt ha, Nat.div_eq_of_lt ha'] at h2
  omega
theorem chunk_ok : ∀ (e n : Nat) (l : List Nat), l.length ≤ n → (dcT n l).1 = 0 → 24 * e + 24 ≤ l.length → ckT (l.drop (24 * e))
  | 0, n, l, hn, h0, hl => by
    rw [Nat.mul_zero, List.drop_zero]
    by_cases h : ckT l
    · exact h
    · rw [dcT_bad (by omega) h hn] at h0; cases h0
  | e + 1, n, l, hn, h0, hl => by
    by_cases h : ckT l
    · rw [dcT_good (by omega) h hn] at h0
      have := chunk_ok e n (l.drop 24) (by rw [List.length_drop]; omega) h0 (by rw [List.length_drop]; omega)
      rwa [List.drop_drop, show 24 + 24 * e = 24 * (e + 1) by omega] at this
    · rw [dcT_bad (by omega) h hn] at h0; cases h0
theorem num_lt2 {l : List Nat} (h : ∀ b ∈ l, b < 256) : num l < 2 ^ (8 * l.length) := by
  have := num_lt l h
  rwa [show (256 : Nat) = 2 ^ 8 from rfl, ← Nat.pow_mul] at this
theorem enc_split (M : List Itm) (e : Nat) (he : e < M.length) : encT M = encT (M.take e) ++ (recT (M.getD e z0) ++ encT (M.drop (e + 1))) := by
  have h : M = M.take e ++ (M.getD e z0 :: M.drop (e + 1)) := by
    simp [List.getD, he]
  conv => lhs; rw [h]
  rw [encT_append, encT_cons]
/-- A burst within an entry, in a list of bytes that is accepted, is none. -/
theorem burst8 {M : List Itm} {C : List Nat} {e bit F : Nat} (hC : ∀ b ∈ C, b < 256) (hl : C.length = 24 * M.length) (he : e < M.length) (hF : F < 4294967296) (hFb : F * 2 ^ bit < 2 ^ 192) (hn : num C = num (encT M) ^^^ F * 2 ^ (192 * e + bit)) (h0 : (dcT C.length C).1 = 0) : C = encT M := by
  have hs := enc_split M e he
  have lA : (encT (M.take e)).length = 24 * e := by rw [encT_length, List.length_take]; omega
  have lT : (encT (M.drop (e + 1))).length = 24 * (M.length - (e + 1)) := by rw [encT_length, List.length_drop]
  have cs : C = C.take (24 * e) ++ ((C.drop (24 * e)).take 24 ++ C.drop (24 * e + 24)) := by
    rw [← List.drop_drop, List.take_append_drop, List.take_append_drop]
  have l1 : (C.take (24 * e)).length = 24 * e := by rw [List.length_take]; omega
  have l2 : ((C.drop (24 * e)).take 24).length = 24 := by rw [List.length_take, List.length_drop]; omega
  have l3 : (C.drop (24 * e + 24)).length = 24 * (M.length - (e + 1)) := by rw [List.length_drop]; omega
  have b1 : ∀ b ∈ C.take (24 * e), b < 256 := fun b hb => hC b (List.mem_of_mem_take hb)
  have b2 : ∀ b ∈ (C.drop (24 * e)).take 24, b < 256 := fun b hb => hC b (List.mem_of_mem_drop (List.mem_of_mem_take hb))
  have b3 : ∀ b ∈ C.drop (24 * e + 24), b < 256 := fun b hb => hC b (List.mem_of_mem_drop hb)
  have n1 := num_lt2 b1
  have n2 := num_lt2 b2
  have nA := num_lt2 (encT_lt (M.take e))
  have nR := num_lt2 (recT_lt (M.getD e z0))
  have hk := chunk_ok e C.length C (Nat.le_refl _) h0 (by omega)
  have hk2 : ckT ((C.drop (24 * e)).take 24) := by
    have h := hk
    unfold ckT at h ⊢
    rw [List.take_take, show min 20 24 = 20 from rfl, List.drop_take, show 24 - 20 = 4 from rfl, List.take_take, show min 4 4 = 4 from rfl]
    exact h
  rw [cs, hs, num_app, num_app, num_app, num_app, l1, l2, lA, recT_length] at hn
  rw [l1] at n1
  rw [l2] at n2
  rw [lA] at nA
  rw [recT_length] at nR
  rw [show F * 2 ^ (192 * e + bit) = 2 ^ (8 * (24 * e)) * (F * 2 ^ bit) by rw [Nat.pow_add, show 8 * (24 * e) = 192 * e by omega, ← Nat.mul_assoc, Nat.mul_comm F, Nat.mul_assoc], xor_high nA] at hn
  obtain ⟨p1, p2⟩ := parts_uniq n1 nA hn
  rw [xor_low nR (by rw [show 8 * 24 = 192 from rfl]; exact hFb)] at p2
  obtain ⟨p3, p4⟩ := parts_uniq n2 (Nat.xor_lt_two_pow nR (by rw [show 8 * 24 = 192 from rfl]; exact hFb)) p2
  have q2 := burst_rec b2 l2 hF p3 hk2
  have q1 := num_inj (l1.trans lA.symm) b1 (encT_lt _) p1
  have q3 := num_inj (l3.trans lT.symm) b3 (encT_lt _) p4
  rw [cs, hs, q1, q2, q3]
theorem burst_iff {M : List Itm} (ok : okT M) (hr : ∀ x ∈ M, ItR x) {C : List Nat} {e bit F : Nat} (hC : ∀ b ∈ C, b < 256) (hl : C.length = 24 * M.length) (he : e < M.length) (hF : F < 4294967296) (hFb : F * 2 ^ bit < 2 ^ 192) (hn : num C = num (encT M) ^^^ F * 2 ^ (192 * e + bit)) : (encT M = C) ↔ dE8 C = 0 := by
  constructor
  · intro h
    rw [← h]
    have h1 := dcT_enc M hr ok.1 (encT M).length (Nat.le_refl _)
    unfold dE8
    rw [h1, if_neg (fun h => h rfl), if_pos ok]
  · intro h
    refine (burst8 hC hl he hF hFb hn ?_).symm
    unfold dE8 at h
    by_cases h1 : (dcT C.length C).1 ≠ 0
    · rw [if_pos h1] at h; exact absurd h h1
    · simpa using h1
end Go.Proofs.YtihjfnlimdcmkaaDoor.Gf
namespace Go.Proofs.YtihjfnlimdcmkaaDoor.Gf
open Go Go.Joins Go.ChangeShapes Go.WideShapes Go.ChangeAt Go.RowKit Go.Deep Go.Sort Go.Proofs.YtihjfnlimdcmkaaDoor.By Go.Proofs.YtihjfnlimdcmkaaDoor.Crc Go.Proofs.YtihjfnlimdcmkaaDoor.Qt

theorem and1_shift (f i : Nat) (hf : f < 4294967296) : bits .and .u32 ((f : Int) / 2 ^ i) 1 = ((f / 2 ^ i % 2 : Nat) : Int) := by
  have e : ((f : Int) / 2 ^ i) = ((f / 2 ^ i : Nat) : Int) := by simp
  have h := Nat.div_le_self f (2 ^ i)
  rw [e, and1 _ (by omega)]
theorem xor_lt8 {y z : Nat} (hy : y < 256) (hz : z < 256) : y ^^^ z < 256 := Nat.xor_lt_two_pow (n := 8) hy hz
theorem own_pos {w : World} {base : Nat} {v : Value} {l : List Nat} (h : Own w base v l) (hl : 0 < l.length) : ∃ g c, v = .slice (some ⟨g, 0, none⟩) l.length c ∧ base ≤ g := by
  obtain ⟨_, _, ⟨rfl, h0⟩ | ⟨g, cap, _, rfl, hg, _⟩⟩ := h
  · omega
  · exact ⟨g, cap, rfl, hg⟩
/-- n % m, brought into 0 .. m-1 as the law does it. -/
theorem mod_twice (n0 : Int) (m : Nat) (hm : 0 < m) : ∃ (A : Int) (K : Nat), n0.tmod (m : Int) = A ∧ -(m : Int) < A ∧ A < (m : Int) ∧ (A + (m : Int)).tmod (m : Int) = (K : Int) ∧ K < m := by
  have h1 := Int.tmod_lt_of_pos n0 (b := (m : Int)) (by omega)
  have h2 := Int.lt_tmod_of_pos n0 (b := (m : Int)) (by omega)
  refine ⟨_, ((n0.tmod (m : Int) + (m : Int)) % (m : Int)).toNat, rfl, by omega, h1, ?_, ?_⟩
  · rw [Int.tmod_eq_emod_of_nonneg (by omega), Int.toNat_of_nonneg (Int.emod_nonneg _ (by omega))]
  · have h3 := Int.emod_lt_of_pos (n0.tmod (m : Int) + (m : Int)) (show (0 : Int) < (m : Int) by omega)
    have h4 := Int.emod_nonneg (n0.tmod (m : Int) + (m : Int)) (show (m : Int) ≠ 0 by omega)
    omega
theorem flip_fits {f I K : Nat} (h : K + I ≤ 192) : f % 2 ^ I * 2 ^ K < 2 ^ 192 := by
  have h1 : f % 2 ^ I < 2 ^ I := Nat.mod_lt _ (Nat.two_pow_pos I)
  have h2 : f % 2 ^ I * 2 ^ K < 2 ^ I * 2 ^ K := Nat.mul_lt_mul_of_pos_right h1 (Nat.two_pow_pos K)
  rw [← Nat.pow_add] at h2
  exact Nat.lt_of_lt_of_le h2 (Nat.pow_le_pow_right (by decide) (by omega))
set_option maxRecDepth 100000 in
set_option maxHeartbeats 12800000 in
theorem bursts8_walk {Ok : World → Prop} (P : PC8a Ok) (va : Value) (LA : List Itm) (wi n0 : Int) (flip : Nat) (hf : flip < 4294967296) (w : World) (hw : Ok w) (sa : It w va LA) : Calls Tryd.prog 10 #[va, .int .i64 wi, .int .i64 n0, .int .u32 (flip : Int)] w fun e w' => e = .returned (.bool true) ∧ Below w.heap.size w w' := by
  have PE := Lib.hid (fun v M W (h : Ok W) a b => P.enc v M W h a b)
  have PD := Lib.hid (fun v l W (h : Ok W) a b => P.dec v l W h a b)
  have ST := Lib.hid (fun (W W' : World) => P.st (w := W) (w' := W'))
  have AW := Lib.hid (awake8_any P)
  have MDA := Lib.hid (fun W v (h : It W v LA) => made_any v LA W h)
  clear P
  unfold EW at PE
  unfold LW at PD
  unfold LO at MDA
  have hma := made_length LA
  have oka := made_ok LA
  generalize madeL LA = M at *
  have K0 := Lib.hid hw
  have B0 := Lib.hid (Below.refl w.heap.size w)
  have SA := Lib.hid sa
  have HFL := Lib.hid hf
  clear hw hf
  obtain ⟨aa, ca, rfl, -, -⟩ := it_form sa
  generalize LA.length = na at *
  clear sa
  go_enter Tryd.func10, Tryd.ntmps10
  go_wp2_with fail
  refine (MDA.out _ _ SA.out).mono ?_
  rintro e w1 ⟨⟨v1, rfl, ho1⟩, hb2⟩
  have K3 := Lib.hid (ST.out _ _ K0.out hb2)
  have B4 := Lib.hid (bt B0.out hb2)
  have S5 := Lib.hid (it_below SA.out hb2)
  clear SA
  have hrg : ∀ x ∈ M, ItR x := fun x hx => ⟨(ho1.1 x hx).key, (ho1.1 x hx).ck⟩
  have HRG := Lib.hid hrg
  clear hrg
  obtain ⟨a1, c1, hv1, -, -⟩ := owT_form ho1
  obtain ⟨m1, hm1⟩ : ∃ q, q = M.length := ⟨_, rfl⟩
  rw [← hm1] at hv1
  subst hv1
  have S1 := Lib.hid (owT_it ho1)
  have HM1 := Lib.hid hm1
  clear ho1 hm1
  go_wp2_with fail
  refine (PE.out _ M _ K3.out S1.out (by omega)).mono ?_
  rintro e w6 ⟨⟨v2, rfl, hs2⟩, hb7⟩
  have K8 := Lib.hid (ST.out _ _ K3.out hb7)
  have B9 := Lib.hid (bt B4.out hb7)
  have S10 := Lib.hid (it_below S1.out hb7)
  clear S1
  rw [show eT M = encT M from if_pos oka] at hs2
  rw [show eE M = 0 from if_pos oka]
  obtain ⟨a11, cc12, hv15, -, -⟩ := sl_form (hs2)
  obtain ⟨m13, hm16⟩ : ∃ q, q = (encT M).length := ⟨_, rfl⟩
  rw [← hm16] at hv15
  subst hv15
  have T14 := Lib.hid (hs2)
  have HM17 := Lib.hid hm16
  clear hs2 hm16
  have HLB : Hid (m13 = 24 * m1) := by show _ = _; rw [HM17.out, encT_length, HM1.out]
  have hmb : m1 ≤ 40 := by have := HM1.out; omega
  have hw24 : wrap64 (24 * (m1 : Int)) = (m13 : Int) := by have := HLB.out; unfold wrap64; omega
  have hne : ((m13 : Int) != (m13 : Int)) = false := by simp
  have hne2 : ((m13 : Int) != 24 * (m1 : Int)) = false := by have := HLB.out; simp; omega
  by_cases hm0 : m1 = 0
  · subst hm0
    go_wp2_with fail
    refine (AW.out _ K8.out).mono ?_
    rintro e w18 ⟨rfl, hb19⟩
    have K20 := Lib.hid (ST.out _ _ K8.out hb19)
    have B21 := Lib.hid (bt B9.out hb19)
    have S22 := Lib.hid (it_below S10.out hb19)
    clear S10
    have T23 := Lib.hid (sl_below T14.out hb19)
    clear T14
    go_wp2
    go_ret
    exact ⟨rfl, B21.out⟩
  · have hm2 : ((m1 : Int) == 0) = false := beq_false_of_ne (by omega)
    have hm3 : ¬ (m1 : Int) = 0 := by omega
    obtain ⟨A, e, hA, hA1, hA2, hE, hEl⟩ := mod_twice wi m1 (by omega)
    obtain ⟨A2, K, hB, hB1, hB2, hK, hKl⟩ := mod_twice n0 192 (by decide)
    have hA' : wrap64 (A + (m1 : Int)) = A + (m1 : Int) := by unfold wrap64; omega
    have hB' : wrap64 (A2 + 192) = A2 + 192 := by unfold wrap64; omega
    obtain ⟨F, hF⟩ : ∃ q, q = 192 * e := ⟨_, rfl⟩
    have hF' : wrap64 (192 * (e : Int)) = (F : Int) := by unfold wrap64; omega
    have hF3 : wrap64 (F : Int) = (F : Int) := by unfold wrap64; omega
    have hF2 : (192 : Int) * (e : Int) = (F : Int) := by omega
    have HEF := Lib.hid (And.intro hEl (And.intro hF hKl))
    have hB0 : n0.tmod 192 = A2 := hB
    have hK0 : (A2 + 192).tmod 192 = (K : Int) := hK
    have HSB := Lib.hid T14.out
    have OE := Lib.hid (own_empty w6 (Nat.le_refl w6.heap.size))
    have BE := Lib.hid ((Below.refl w6.heap.size w6).alloc (Nat.le_refl _) (.cells #[] 5))
    have HL0 : Hid ((encT M).length = m13 ∧ 0 < m13 ∧ m13 ≤ 960) := by have h1 := HM17.out; have h2 := HLB.out; exact ⟨h1.symm, by omega, by omega⟩
    clear hA1 hA2 hEl hB1 hB2 hKl hF hB hK hm0
    have F18 := Lib.hid (fun W' (h : Below w6.heap.size w6 W') => ST.out _ _ K8.out h)
    have F19 := Lib.hid (fun W' (h : Below w6.heap.size w6 W') => bt B9.out h)
    have F20 := Lib.hid (fun W' (h : Below w6.heap.size w6 W') => it_below S10.out h)
    have F21 := Lib.hid (fun W' (h : Below w6.heap.size w6 W') => sl_below T14.out h)
    go_wp2_with (at_builtin; refine app_sl (dst := some 56) ?_ ?_ OE.out (sl_below HSB.out BE.out) (by have := HL0.out; simp; omega) (by simp) ?_; exact rfl; exact rfl; intro v5 w5 ho5 hg5; rw [List.nil_append] at ho5; have B5 := Lib.hid (BE.out.grown hg5 BE.out.size fun q hq => by have := OE.out.lt q hq; omega); obtain ⟨g5, c5, hv5, -⟩ := own_pos ho5 (by have := HL0.out; omega); rw [HL0.out.1] at hv5; subst hv5; have O5 := Lib.hid ho5; clear ho5 hg5)
    clear hA hE hA' hB0 hK0 hB' hF' hF2 hF3
    go_loopw [15] (fun i wr => ∃ (I : Nat) (C : List Nat), I ≤ 32 ∧ K + I ≤ 192 ∧ i = .int .i64 I ∧ C.length = m13 ∧ num C = num (encT M) ^^^ (flip % 2 ^ I) * 2 ^ (F + K) ∧ Own wr w6.heap.size (.slice (some ⟨g5, 0, none⟩) m13 c5) C ∧ Below w6.heap.size w6 wr) (fun i _ => 32 - (intOf i).toNat)
    case atStart => exact ⟨0, encT M, by omega, by have := HEF.out; omega, rfl, HL0.out.1, by simp [Nat.mod_one], O5.out, B5.out⟩
    case round =>
      obtain ⟨I, C, hI, hKI, rfl, hM, hnum, hO, hB⟩ := hrel
      have HN := Lib.hid hnum
      have HM := Lib.hid hM
      have HO := Lib.hid hO
      have hMl : ∀ b ∈ C, b < 256 := hO.1
      have HMl := Lib.hid hMl
      clear hnum hM hMl hO
      by_cases hlt : I < 32 ∧ K + I < 192
      · obtain ⟨i1, i2⟩ := hlt
        have hql : (F + K + I) / 8 < m13 := by have h1 := HEF.out; have h2 := HLB.out; omega
        have h8 : (F + K + I) % 8 = (K + I) % 8 := by have h1 := HEF.out; omega
        have hFb : F ≤ 8000 := by have h1 := HEF.out; omega
        obtain ⟨hc, hfz, hbg⟩ := own_cell HO.out HM.out hql
        have hy := getD_lt HMl.out ((F + K + I) / 8)
        have b1 := and1_shift flip I HFL.out
        have hbt : flip / 2 ^ I % 2 < 2 := Nat.mod_lt _ (by decide)
        obtain ⟨bt, hbte⟩ : ∃ bt, bt = flip / 2 ^ I % 2 := ⟨_, rfl⟩
        obtain ⟨y, hye⟩ : ∃ y, y = C.getD ((F + K + I) / 8) 0 := ⟨_, rfl⟩
        rw [← hbte] at b1 hbt
        rw [← hye] at hc hy
        have HBT := Lib.hid hbte
        have HY := Lib.hid hye
        have H8 := Lib.hid h8
        clear hbte hye h8
        go_wp2
        go_roundw
        case rel =>
          refine ⟨I + 1, C.set ((F + K + I) / 8) (C.getD ((F + K + I) / 8) 0 ^^^ flip / 2 ^ I % 2 * 2 ^ ((F + K + I) % 8)), by omega, by omega, by go_num, by simpa using HM.out, ?_, ?_, hB.setCell hbg _⟩
          · exact num_step C (num (encT M)) flip (F + K) I HMl.out (by rw [HM.out]; exact hql) HN.out
          · have e2 : 2 ^ ((K + I) % 8) ≤ 2 ^ 7 := Nat.pow_le_pow_right (by decide) (by omega)
            have e3 : bt * 2 ^ ((K + I) % 8) < 256 := by
              have := Nat.mul_le_mul (show bt ≤ 1 by omega) e2
              omega
            have e4 : ((bt : Int) * 2 ^ ((K + I) % 8) % 256) = ((bt * 2 ^ ((K + I) % 8) : Nat) : Int) := by
              have : ((bt : Int) * 2 ^ ((K + I) % 8)) = ((bt * 2 ^ ((K + I) % 8) : Nat) : Int) := by simp
              rw [this]
              generalize bt * 2 ^ ((K + I) % 8) = z at e3
              omega
            rw [e4, u8_xor_nat _ _ hy e3, HY.out, HBT.out, ← H8.out]
            rw [HBT.out, ← H8.out] at e3
            exact own_set HO.out HM.out hql (by rw [← HY.out]; exact xor_lt8 hy e3)
        case measure => simp [intOf]; omega
      · have B4 := Lib.hid hB
        have hF : flip % 2 ^ I < 4294967296 := Nat.lt_of_le_of_lt (Nat.mod_le _ _) HFL.out
        have hiff := burst_iff oka HRG.out HMl.out (by rw [HM.out, HLB.out, HM1.out]) (by have h1 := HEF.out; have h2 := HM1.out; omega : e < M.length) hF (flip_fits hKI) (by rw [HN.out, HEF.out.2.1])
        have he := str_eq HSB.out.1 HMl.out
        obtain ⟨D, hD⟩ : ∃ D, decide (encT M = C) = D := ⟨_, rfl⟩
        rw [hD] at he
        have HDE : Hid ((((dE8 C : Nat) : Int) == 0) = D) := by
          show _ = _
          by_cases h : encT M = C
          · rw [← hD, decide_eq_true h, hiff.1 h]; rfl
          · rw [← hD, decide_eq_false h]
            exact beq_false_of_ne fun e => h (hiff.2 (by omega))
        have HEQ := Lib.hid he
        have hex : (¬ I < 32) ∨ (I < 32 ∧ decide ((K : Int) + (I : Int) < 192) = false) := by
          by_cases h32 : I < 32
          · exact Or.inr ⟨h32, decide_eq_false (by omega)⟩
          · exact Or.inl h32
        have hKb : K ≤ 192 := by omega
        have K22 := Lib.hid (F18.out wr hB)
        have B23 := Lib.hid (F19.out wr hB)
        have S24 := Lib.hid (F20.out wr hB)
        have T25 := Lib.hid (F21.out wr hB)
        have R26 := Lib.hid hB
        clear hlt hiff he hD hF hB hKI
        rcases hex with hx1 | ⟨hx1, hx2⟩
        all_goals
          go_wp2_with fail
          have T27 := Lib.hid HO.out.sl
          refine (PD.out _ C _ K22.out T27.out (by have h1 := HM.out; have h2 := HL0.out; omega)).mono ?_
          rintro e w28 ⟨⟨v6, rfl, hs6⟩, hb29⟩
          have K30 := Lib.hid (ST.out _ _ K22.out hb29)
          have B31 := Lib.hid (bt B23.out hb29)
          have S32 := Lib.hid (it_below S24.out hb29)
          clear S24
          have T33 := Lib.hid (sl_below T25.out hb29)
          clear T25
          have T34 := Lib.hid (sl_below T27.out hb29)
          clear T27
          have R35 := Lib.hid (bt R26.out hb29)
          clear R26
          obtain ⟨a36, cc37, hv40, -, -⟩ := it_form (hs6)
          obtain ⟨m38, hm41⟩ : ∃ q, q = (dL8 C).length := ⟨_, rfl⟩
          rw [← hm41] at hv40
          subst hv40
          have S39 := Lib.hid (hs6)
          clear hs6 hm41
          have q1 := conv_sl T33.out
          have q2 := conv_sl T34.out
          have q3 := HEQ.out
          have q4 := HDE.out
          have q5 : (D == D) = true := by simp
          generalize strOf (encT M) = T1 at *
          generalize strOf C = T2 at *
          generalize dE8 C = E9 at *
          go_wp2_with fail
          refine (AW.out _ K30.out).mono ?_
          rintro e w42 ⟨rfl, hb43⟩
          have K44 := Lib.hid (ST.out _ _ K30.out hb43)
          have B45 := Lib.hid (bt B31.out hb43)
          have S46 := Lib.hid (it_below S32.out hb43)
          clear S32
          have S47 := Lib.hid (it_below S39.out hb43)
          clear S39
          have T48 := Lib.hid (sl_below T33.out hb43)
          clear T33
          have T49 := Lib.hid (sl_below T34.out hb43)
          clear T34
          have R50 := Lib.hid (bt R35.out hb43)
          clear R35
          go_wp2_with fail
          go_ret
          exact ⟨rfl, B45.out⟩
end Go.Proofs.YtihjfnlimdcmkaaDoor.Gf
namespace Go.Proofs.YtihjfnlimdcmkaaDoor.Gf
open Go Go.Joins Go.ChangeShapes Go.WideShapes Go.ChangeAt Go.RowKit Go.Deep Go.Proofs.YtihjfnlimdcmkaaDoor.By Go.Proofs.YtihjfnlimdcmkaaDoor.Crc Go.Proofs.YtihjfnlimdcmkaaDoor.Qt

theorem sizeB1 : (Tryd.prog.info? 5).map (·.size) = some 1 := by kernel_rfl
theorem copy_into {ops : Array Oper} {rest : List Oper} {dst : Option Tmp} {d s : Operand} {pos : String} {after : Array Edge} {ty : TypeId} {a : Act} {W : World} {Q : Exit → Act → World → Prop} {ax : Option Addr} {base g n c off dl dc k cx : Nat} {L R : List Nat}
    (hd : a.eval d = .slice (some ⟨g, off, none⟩) dl dc) (hs : a.eval s = .slice ax k cx) (hO : Own W base (.slice (some ⟨g, 0, none⟩) n c) L) (hn : L.length = n) (hS : Sl W (.slice ax k cx) R) (hk : R.length = k) (hk1 : 1 ≤ k) (hkd : k ≤ dl) (hfit : off + k ≤ n)
    (h : ∀ z w', Own w' base (.slice (some ⟨g, 0, none⟩) n c) (L.take off ++ (R ++ L.drop (off + k))) → W.grownBy w' (some g) → wpList Tryd.prog ops Q rest (a.put dst z) w') : wpList Tryd.prog ops Q (⟨dst, .call { callee := .builtin .copy, args := #[d, s], argTypes := #[27, 27] }, ty, pos, after, none⟩ :: rest) a W := by
  subst hn
  obtain ⟨b, o, cap, hv, -, -, hc⟩ := sl_cells hS (by omega)
  obtain ⟨rfl, -, rfl⟩ : ax = some ⟨b, o, none⟩ ∧ k = R.length ∧ cx = cap := by simpa using hv
  subst hk
  obtain ⟨hl, h1, h2⟩ := hO
  rcases h2 with ⟨h3, _⟩ | ⟨g2, cp, cur, h3, hg, hb, hnc, hm, hsz, ht⟩
  · cases h3
  cases h3
  rw [Nat.mul_one] at ht hsz
  have hcur : cur.toList = cellsOf L ++ cur.toList.drop L.length := by
    conv => lhs; rw [← List.take_append_drop L.length cur.toList]
    rw [ht]
  have hlen : (L.take off ++ (R ++ L.drop (off + R.length))).length = L.length := by simp; omega
  have hN : cur.toList.take off ++ (cellsOf R ++ cur.toList.drop (off + (cellsOf R).length)) = cellsOf (L.take off ++ (R ++ L.drop (off + R.length))) ++ cur.toList.drop L.length := by
    rw [cellsOf_length]
    conv => lhs; rw [hcur]
    rw [List.take_append_of_le_length (by rw [cellsOf_length]; omega), List.drop_append_of_le_length (by rw [cellsOf_length]; omega)]
    simp only [cellsOf, List.map_append, List.map_take, List.map_drop, List.append_assoc]
  refine wpList_copy_own rfl d s 27 27 rfl 5 Tryd.underlying27 sizeB1 g off dl dc ⟨b, o, none⟩ R.length cx hd hs cur 5 hb (cellsOf R) (by rw [cellsOf_length]; exact (Nat.min_eq_left hkd).symm) (fun j v hj => ?_) (by rw [cellsOf_length]; omega) (cellsOf_one _) (h _ _ ⟨?_, ?_⟩ ⟨rfl, rfl, rfl, by simp, fun q _ hq => setRow_other W g q _ (fun e => hq (by rw [e]))⟩)
  · have hj2 : j < R.length := by
      have := (List.getElem?_eq_some_iff.1 hj).1
      rwa [cellsOf_length] at this
    rw [Addr.add_lit, hc j hj2]
    simp only [cellsOf, List.getElem?_map] at hj
    simpa [List.getD, hj2] using hj
  · intro x hx
    rcases List.mem_append.1 hx with hx | hx
    · exact hl x (List.mem_of_mem_take hx)
    · rcases List.mem_append.1 hx with hx | hx
      · exact hS.1 x hx
      · exact hl x (List.mem_of_mem_drop hx)
  · rw [hlen, hN]
    refine ⟨by rw [cellsOf_length, hlen, Nat.mul_one], Or.inr ⟨g, c, _, rfl, hg, setRow_heap W g cur _ 5 _ hb, hnc, hm, ?_, ?_⟩⟩
    · simp only [List.size_toArray, List.length_append, cellsOf_length, hlen, List.length_drop, Array.length_toList]
      omega
    · rw [Nat.mul_one]
      have e : (cellsOf (L.take off ++ (R ++ L.drop (off + R.length)))).length = L.length := by rw [cellsOf_length, hlen]
      rw [← e]
      exact List.take_left
end Go.Proofs.YtihjfnlimdcmkaaDoor.Gf
namespace Go.Proofs.YtihjfnlimdcmkaaDoor.Gf
open Go Go.Joins Go.ChangeShapes Go.WideShapes Go.ChangeAt Go.RowKit Go.Deep Go.Sort Go.Proofs.YtihjfnlimdcmkaaDoor.By Go.Proofs.YtihjfnlimdcmkaaDoor.Crc Go.Proofs.YtihjfnlimdcmkaaDoor.Qt

theorem own_capl {w : World} {base g n c : Nat} {l : List Nat} (h : Own w base (.slice (some ⟨g, 0, none⟩) n c) l) : l.length ≤ c ∧ c ≤ maxLen := by
  obtain ⟨_, _, ⟨h0, _⟩ | ⟨g', cap, _, h0, _, _, h1, h2, _⟩⟩ := h
  · cases h0
  · cases h0
    exact ⟨h1, h2⟩
theorem entry_fits {N p : Nat} (h : N % 24 = 0) (hp : p < N) : p / 24 * 24 + 24 ≤ N := by omega
theorem own_empty' (W : World) {k : Nat} (hk : W.heap.size = k) : Own (W.alloc (.cells #[] 5)) W.heap.size (.slice (some ⟨k, 0, none⟩) 0 0) [] := by
  subst hk
  exact own_empty W (Nat.le_refl _)
theorem sl_own_mid {w : World} {base g n c p k : Nat} {l : List Nat} (h : Own w base (.slice (some ⟨g, 0, none⟩) n c) l) (hn : l.length = n) (hp : p + k ≤ n) : Sl w (.slice (some ⟨g, p, none⟩) k (c - p)) ((l.drop p).take k) := by
  have hc := own_capl h
  have := sl_cut (w := w) (b := g) (o := 0) (n := n) (cap := c) (p := p) (c := k) h.1 hn hc.2 (by omega) (fun j hj => by have := (own_cell h hn hj).1; simpa using this) hp
  simpa using this
set_option maxRecDepth 100000 in
set_option maxHeartbeats 12800000 in
theorem decodes8_walk {Ok : World → Prop} (P : PC8a Ok) (u va : Value) (RL : List Nat) (LA : List Itm) (n0 : Int) (cb : Nat) (hcb : cb < 256) (fx : Bool) (w : World) (hw : Ok w) (hu : Sl w u RL) (sa : It w va LA) : Calls Tryd.prog 5 #[u, va, .int .i64 n0, .int .u8 (cb : Int), .bool fx] w fun e w' => e = .returned (.bool true) ∧ Below w.heap.size w w' := by
  have PD := Lib.hid (fun v l W (h : Ok W) a b => P.dec v l W h a b)
  have ST := Lib.hid (fun (W W' : World) => P.st (w := W) (w' := W'))
  have AW := Lib.hid (awake8_any P)
  have MDA := Lib.hid (fun W v (h : It W v LA) => made_any v LA W h)
  clear P
  unfold LW at PD
  unfold LO at MDA
  have hma := made_length LA
  have oka := made_ok LA
  generalize madeL LA = M at *
  have HCB := Lib.hid hcb
  have HB0 := Lib.hid (Below.refl w.heap.size w)
  have SL0 := Lib.hid (fun W (h : Below w.heap.size w W) => it_below sa h)
  obtain ⟨aa, ca, rfl, -, -⟩ := it_form sa
  generalize LA.length = na at *
  clear sa hcb
  by_cases hbig : 500 < RL.length
  · obtain ⟨ub, uo, uc, hv, hc1, hc2, -⟩ := sl_cells hu (by omega)
    subst hv
    have HRL0 := (fun W (hB : Below w.heap.size w W) => sl_take (n := 500) (sl_below hu hB) (by omega))
    obtain ⟨un, hun⟩ : ∃ n, n = RL.length := ⟨_, rfl⟩
    have hrn : (RL.take 500).length ≤ 500 := by simp; omega
    rw [← hun] at hbig hc1 ⊢
    have g6 : decide ((500 : Int) < (un : Int)) = true := decide_eq_true (by omega)
    have p6 : (500 : Int) ≤ (uc : Int) := by omega
    clear hu hun hbig hc1 hc2
    generalize RL.take 500 = RL at *
    have HRL := Lib.hid HRL0
    have HRN := Lib.hid hrn
    clear HRL0 hrn
    go_enter Tryd.func5, Tryd.ntmps5
    go_wp2_with fail
    refine (MDA.out _ _ (SL0.out _ HB0.out)).mono ?_
    rintro e w1 ⟨⟨v1, rfl, ho1⟩, hb1⟩
    obtain ⟨a1, c1, hv1, -, -⟩ := owT_form ho1
    obtain ⟨m1, hm1⟩ : ∃ q, q = M.length := ⟨_, rfl⟩
    rw [← hm1] at hv1
    subst hv1
    have B1 := Lib.hid (bt HB0.out hb1)
    have S1 := Lib.hid (owT_it ho1)
    have HM1 := Lib.hid hm1
    clear hm1 hb1 ho1
    go_wp2_with fail
    refine (rencode8_own _ M _ S1.out oka (by omega)).mono ?_
    rintro e w2 ⟨⟨v2, rfl, ho⟩, hb2⟩
    have B2 := Lib.hid (bt B1.out hb2)
    have HL : Hid ((encT M).length = 24 * m1) := by show _ = _; rw [encT_length, HM1.out]
    have hm40 : m1 ≤ 40 := by have := HM1.out; omega
    have HM40 := Lib.hid hm40
    have HGE0 := Lib.hid B1.out.size
    clear hb2 S1
    generalize encT M = L at *
    by_cases hm0 : m1 = 0
    · subst hm0
      obtain ⟨ab, nb, cb2, hv, hn⟩ := own_form ho
      rw [HL.out] at hn
      obtain rfl : nb = 0 := by omega
      subst hv
      have SB := Lib.hid ho.sl
      have HBL : Hid (L.length = 0 ∧ 0 ≤ 960) := by have := HL.out; exact ⟨by omega, by omega⟩
      have BT := B2
      clear ho
      have HR0 := Lib.hid (HRL.out _ BT.out)
      have OE := Lib.hid (own_empty w2 (Nat.le_refl w2.heap.size))
      have BE := Lib.hid ((Below.refl w2.heap.size w2).alloc (Nat.le_refl _) (.cells #[] 5))
      go_wp2_with (first
        | (at_builtin; refine app_sl (dst := some 68) ?_ ?_ OE.out (sl_below SB.out BE.out) (by rw [List.length_nil, HBL.out.1]; have := HBL.out.2; omega) BE.out.size ?_; exact rfl; exact rfl; intro v9 w9 ho9 hg9; rw [List.nil_append] at ho9; have B9 := Lib.hid (BE.out.grown hg9 BE.out.size fun q hq => by have := OE.out.lt q hq; omega); obtain ⟨a9, n9, c9, rfl, -⟩ := own_form ho9; have O9 := Lib.hid ho9; clear ho9 hg9)
        | (at_builtin; refine app_sl (dst := some 70) ?_ ?_ O9.out (sl_below HR0.out B9.out) (by have := HBL.out; have := HRN.out; omega) B9.out.size ?_; exact rfl; exact rfl; intro v10 w10 ho10 hg10; have B10 := Lib.hid (B9.out.grown hg10 B9.out.size fun q hq => by have := O9.out.lt q hq; omega); obtain ⟨a10, n10, c10, rfl, -⟩ := own_form ho10; have O10 := Lib.hid ho10; clear ho10 hg10))
      have AQ := (Below.refl w10.heap.size w10).alloc (Nat.le_refl _) (.cells #[.slice (some ⟨ub, uo, none⟩) 500 uc, .slice ab 0 cb2, .slice a10 n10 c10] 27)
      have XQ := Lib.hid (heap_alloc_new w10 (.cells #[.slice (some ⟨ub, uo, none⟩) 500 uc, .slice ab 0 cb2, .slice a10 n10 c10] 27))
      have BQ := bt B10.out AQ
      have BQ0 := Lib.hid (bt BT.out BQ)
      have S0 := Lib.hid (sl_below HR0.out BQ)
      have S1 := Lib.hid (sl_below SB.out BQ)
      have S4 := Lib.hid (sl_below O10.out.sl AQ)
      clear AQ BQ B9 B10 O9 O10 BE OE SB
      generalize w10.alloc (.cells #[.slice (some ⟨ub, uo, none⟩) 500 uc, .slice ab 0 cb2, .slice a10 n10 c10] 27) = W0 at *
      generalize w10.heap.size = q at *
      clear HR0 BT
      go_loopw [16, 17, 18, 19, 20, 73] (fun _ _ _ _ _ t wr => ∃ i : Nat, i ≤ 3 ∧ t = .int .i64 (i : Int) ∧ Below W0.heap.size W0 wr) (fun _ _ _ _ _ t _ => 3 - (intOf t).toNat)
      case atStart => exact ⟨0, by omega, rfl, Below.refl _ _⟩
      case round =>
        obtain ⟨i, hi, rfl, hB⟩ := hrel
        by_cases hi2 : i < 3
        · obtain ⟨sv, lv, hc, hs, hln⟩ : ∃ sv lv, wr.cell? ⟨q, i, none⟩ = some sv ∧ (∀ W, Below W0.heap.size W0 W → Sl W sv lv) ∧ lv.length ≤ 10000 := by
            have hx := (hB.block q (lt_of_some XQ.out)).trans XQ.out
            have h1 := HBL.out
            have h2 := HRN.out
            rcases (show i = 0 ∨ i = 1 ∨ i = 2 by omega) with rfl | rfl | rfl
            · exact ⟨_, _, cell_of_row wr q 0 _ _ _ hx, fun W hW => sl_below S0.out hW, by omega⟩
            · exact ⟨_, _, cell_of_row wr q 1 _ _ _ hx, fun W hW => sl_below S1.out hW, by omega⟩
            · exact ⟨_, _, cell_of_row wr q 2 _ _ _ hx, fun W hW => sl_below S4.out hW, by rw [List.length_append]; omega⟩
          obtain ⟨la, lc, rfl, -, -⟩ := sl_form (hs wr hB)
          have HS := Lib.hid hs
          have HB := Lib.hid hB
          have D1 := Lib.hid (PD.out _ lv wr (ST.out _ _ hw (bt BQ0.out HB.out)) (HS.out _ HB.out) hln)
          have RD := Lib.hid (fun W (hW : Below W0.heap.size W0 W) => rdecode8_any _ lv W (HS.out W hW) hln)
          unfold LW at D1 RD
          clear hln hs hB
          generalize lv.length = ln at *
          generalize dE8 lv = E at *
          generalize dL8 lv = X at *
          have g0' : decide ((i : Int) < 3) = true := decide_eq_true (by omega)
          have p0 : (0 : Int) ≤ (i : Int) := by omega
          have p1 : (i : Int) < 3 := by omega
          go_wp2_with fail
          refine D1.out.mono ?_
          rintro e w3 ⟨⟨v3, rfl, hs3⟩, hb3⟩
          obtain ⟨a3, c3, hv3, -, -⟩ := it_form hs3
          obtain ⟨m3, hm3⟩ : ∃ z, z = X.length := ⟨_, rfl⟩
          rw [← hm3] at hv3
          subst hv3
          have S3 := Lib.hid hs3
          have B3 := Lib.hid (bt HB.out hb3)
          have HM3 := Lib.hid hm3
          clear hs3 hb3 D1 hm3
          go_wp2_with fail
          refine (RD.out _ B3.out).mono ?_
          rintro e w5 ⟨⟨v5, rfl, hs5⟩, hb5⟩
          obtain ⟨a5, c5, hv5, -, -⟩ := it_form hs5
          rw [← HM3.out] at hv5
          subst hv5
          have S5 := Lib.hid hs5
          have S3' := Lib.hid (it_below S3.out hb5)
          have B5 := Lib.hid (bt B3.out hb5)
          have HQ := Lib.hid (rsame8_any _ _ X X _ S3'.out S5.out)
          rw [show decide (X = X) = true from decide_eq_true rfl] at HQ
          have q5 : (E == E) = true := by simp
          clear hs5 hb5 RD S3
          go_wp2_with fail
          refine HQ.out.mono ?_
          rintro e w6 ⟨rfl, hb6⟩
          have B6 := Lib.hid (bt B5.out hb6)
          clear hb6 HQ
          go_wp2_with fail
          go_roundw
          case rel => exact ⟨i + 1, by omega, by go_num, B6.out⟩
          case measure => simp [intOf]; omega
        · obtain rfl : i = 3 := by omega
          have HB := Lib.hid hB
          clear hB hi hi2
          go_wp2_with fail
          refine (AW.out _ (ST.out _ _ hw (bt BQ0.out HB.out))).mono ?_
          rintro e w4 ⟨rfl, hb4⟩
          have B4 := Lib.hid (bt (bt BQ0.out HB.out) hb4)
          clear hb4 HB
          go_wp2_with fail
          go_ret
          exact ⟨rfl, B4.out⟩
    · obtain ⟨gb, c, hv, hge⟩ := own_pos ho (by rw [HL.out]; omega)
      obtain ⟨N, hN⟩ : ∃ N, N = 24 * m1 := ⟨_, rfl⟩
      have HLN : Hid (L.length = N) := by show _ = _; rw [HL.out, hN]
      rw [HLN.out] at hv
      subst hv
      have hcap := (own_capl ho).1
      rw [HLN.out] at hcap
      have HCAP := Lib.hid hcap
      have HGE := Lib.hid (Nat.le_trans HGE0.out hge)
      have hNp : 0 < N := by omega
      have hNb : N ≤ 960 := by omega
      have hN24 : N % 24 = 0 := by omega
      obtain ⟨A, p, hA, hA1, hA2, hP, hp⟩ := mod_twice n0 N hNp
      have hAw : wrap64 (A + (N : Int)) = A + (N : Int) := by unfold wrap64; omega
      have hNz : ((N : Int) == 0) = false := beq_false_of_ne (by omega)
      have hNz2 : ¬ (N : Int) = 0 := by omega
      have hNz3 : decide ((0 : Int) < (N : Int)) = true := decide_eq_true (by omega)
      have hNz4 : 0 < (N : Int) := by omega
      obtain ⟨y0, y1, -⟩ := own_cell ho HLN.out hp
      have O3 := Lib.hid (own_base (Nat.le_trans HGE0.out (Nat.le_refl _)) (own_set ho HLN.out hp HCB.out))
      have B3 := Lib.hid (B2.out.setCell (p := ⟨gb, p, none⟩) HGE.out (.int .u8 (cb : Int)))
      have q1 : (p : Int) < (N : Int) := by omega
      have q0 : (0 : Int) ≤ (p : Int) := by omega
      have HL3 : Hid ((L.set p cb).length = N) := by show _ = _; rw [List.length_set]; exact HLN.out
      obtain ⟨E, hE⟩ : ∃ E, E = p / 24 * 24 := ⟨_, rfl⟩
      obtain ⟨E0, hE0⟩ : ∃ E0, E0 = p / 24 := ⟨_, rfl⟩
      have d1 : (p : Int) / 24 = (E0 : Int) := by omega
      have d1' : (p : Int).tdiv 24 = (E0 : Int) := by rw [Int.tdiv_eq_ediv_of_nonneg (by omega)]; exact d1
      have d2 : (E0 : Int) * 24 = (E : Int) := by omega
      have d3 : wrap64 (E : Int) = (E : Int) := by unfold wrap64; omega
      have d4 : wrap64 (E0 : Int) = (E0 : Int) := by unfold wrap64; omega
      have hEN : E + 24 ≤ N := by rw [hE]; exact entry_fits hN24 hp
      have HX := Lib.hid (And.intro hNb (And.intro hEN hp))
      clear hA1 hA2 ho hge hcap hE hE0 hN hm0 hN24 hEN hNb hp hm40 hma
      cases fx
      · have BT := B3
        have SB := Lib.hid O3.out.sl
        have HBL : Hid ((L.set p cb).length = N ∧ N ≤ 960) := ⟨HL3.out, HX.out.1⟩
        clear O3 B3
        have HR0 := Lib.hid (HRL.out _ BT.out)
        have OE := Lib.hid (own_empty' (w2.setCell ⟨gb, p, none⟩ (.int .u8 (cb : Int))) (k := w2.heap.size) (by simp))
        have BE := Lib.hid ((Below.refl (w2.setCell ⟨gb, p, none⟩ (.int .u8 (cb : Int))).heap.size (w2.setCell ⟨gb, p, none⟩ (.int .u8 (cb : Int)))).alloc (Nat.le_refl _) (.cells #[] 5))
        go_wp2_with (first
          | (at_builtin; refine app_sl (dst := some 68) ?_ ?_ OE.out (sl_below SB.out BE.out) (by rw [List.length_nil, HBL.out.1]; have := HBL.out.2; omega) BE.out.size ?_; exact rfl; exact rfl; intro v9 w9 ho9 hg9; rw [List.nil_append] at ho9; have B9 := Lib.hid (BE.out.grown hg9 BE.out.size fun q hq => by have := OE.out.lt q hq; omega); obtain ⟨a9, n9, c9, rfl, -⟩ := own_form ho9; have O9 := Lib.hid ho9; clear ho9 hg9)
          | (at_builtin; refine app_sl (dst := some 70) ?_ ?_ O9.out (sl_below HR0.out B9.out) (by have := HBL.out; have := HRN.out; omega) B9.out.size ?_; exact rfl; exact rfl; intro v10 w10 ho10 hg10; have B10 := Lib.hid (B9.out.grown hg10 B9.out.size fun q hq => by have := O9.out.lt q hq; omega); obtain ⟨a10, n10, c10, rfl, -⟩ := own_form ho10; have O10 := Lib.hid ho10; clear ho10 hg10))
        have AQ := (Below.refl w10.heap.size w10).alloc (Nat.le_refl _) (.cells #[.slice (some ⟨ub, uo, none⟩) 500 uc, .slice (some ⟨gb, 0, none⟩) N c, .slice a10 n10 c10] 27)
        have XQ := Lib.hid (heap_alloc_new w10 (.cells #[.slice (some ⟨ub, uo, none⟩) 500 uc, .slice (some ⟨gb, 0, none⟩) N c, .slice a10 n10 c10] 27))
        have BQ := bt B10.out AQ
        have BQ0 := Lib.hid (bt BT.out BQ)
        have S0 := Lib.hid (sl_below HR0.out BQ)
        have S1 := Lib.hid (sl_below SB.out BQ)
        have S4 := Lib.hid (sl_below O10.out.sl AQ)
        clear AQ BQ B9 B10 O9 O10 BE OE SB
        generalize w10.alloc (.cells #[.slice (some ⟨ub, uo, none⟩) 500 uc, .slice (some ⟨gb, 0, none⟩) N c, .slice a10 n10 c10] 27) = W0 at *
        generalize w10.heap.size = q at *
        clear HR0 BT
        go_loopw [16, 17, 18, 19, 20, 73] (fun _ _ _ _ _ t wr => ∃ i : Nat, i ≤ 3 ∧ t = .int .i64 (i : Int) ∧ Below W0.heap.size W0 wr) (fun _ _ _ _ _ t _ => 3 - (intOf t).toNat)
        case atStart => exact ⟨0, by omega, rfl, Below.refl _ _⟩
        case round =>
          obtain ⟨i, hi, rfl, hB⟩ := hrel
          by_cases hi2 : i < 3
          · obtain ⟨sv, lv, hc, hs, hln⟩ : ∃ sv lv, wr.cell? ⟨q, i, none⟩ = some sv ∧ (∀ W, Below W0.heap.size W0 W → Sl W sv lv) ∧ lv.length ≤ 10000 := by
              have hx := (hB.block q (lt_of_some XQ.out)).trans XQ.out
              have h1 := HBL.out
              have h2 := HRN.out
              rcases (show i = 0 ∨ i = 1 ∨ i = 2 by omega) with rfl | rfl | rfl
              · exact ⟨_, _, cell_of_row wr q 0 _ _ _ hx, fun W hW => sl_below S0.out hW, by omega⟩
              · exact ⟨_, _, cell_of_row wr q 1 _ _ _ hx, fun W hW => sl_below S1.out hW, by omega⟩
              · exact ⟨_, _, cell_of_row wr q 2 _ _ _ hx, fun W hW => sl_below S4.out hW, by rw [List.length_append]; omega⟩
            obtain ⟨la, lc, rfl, -, -⟩ := sl_form (hs wr hB)
            have HS := Lib.hid hs
            have HB := Lib.hid hB
            have D1 := Lib.hid (PD.out _ lv wr (ST.out _ _ hw (bt BQ0.out HB.out)) (HS.out _ HB.out) hln)
            have RD := Lib.hid (fun W (hW : Below W0.heap.size W0 W) => rdecode8_any _ lv W (HS.out W hW) hln)
            unfold LW at D1 RD
            clear hln hs hB
            generalize lv.length = ln at *
            generalize dE8 lv = E at *
            generalize dL8 lv = X at *
            have g0' : decide ((i : Int) < 3) = true := decide_eq_true (by omega)
            have p0 : (0 : Int) ≤ (i : Int) := by omega
            have p1 : (i : Int) < 3 := by omega
            go_wp2_with fail
            refine D1.out.mono ?_
            rintro e w3 ⟨⟨v3, rfl, hs3⟩, hb3⟩
            obtain ⟨a3, c3, hv3, -, -⟩ := it_form hs3
            obtain ⟨m3, hm3⟩ : ∃ z, z = X.length := ⟨_, rfl⟩
            rw [← hm3] at hv3
            subst hv3
            have S3 := Lib.hid hs3
            have B3 := Lib.hid (bt HB.out hb3)
            have HM3 := Lib.hid hm3
            clear hs3 hb3 D1 hm3
            go_wp2_with fail
            refine (RD.out _ B3.out).mono ?_
            rintro e w5 ⟨⟨v5, rfl, hs5⟩, hb5⟩
            obtain ⟨a5, c5, hv5, -, -⟩ := it_form hs5
            rw [← HM3.out] at hv5
            subst hv5
            have S5 := Lib.hid hs5
            have S3' := Lib.hid (it_below S3.out hb5)
            have B5 := Lib.hid (bt B3.out hb5)
            have HQ := Lib.hid (rsame8_any _ _ X X _ S3'.out S5.out)
            rw [show decide (X = X) = true from decide_eq_true rfl] at HQ
            have q5 : (E == E) = true := by simp
            clear hs5 hb5 RD S3
            go_wp2_with fail
            refine HQ.out.mono ?_
            rintro e w6 ⟨rfl, hb6⟩
            have B6 := Lib.hid (bt B5.out hb6)
            clear hb6 HQ
            go_wp2_with fail
            go_roundw
            case rel => exact ⟨i + 1, by omega, by go_num, B6.out⟩
            case measure => simp [intOf]; omega
          · obtain rfl : i = 3 := by omega
            have HB := Lib.hid hB
            clear hB hi hi2
            go_wp2_with fail
            refine (AW.out _ (ST.out _ _ hw (bt BQ0.out HB.out))).mono ?_
            rintro e w4 ⟨rfl, hb4⟩
            have B4 := Lib.hid (bt (bt BQ0.out HB.out) hb4)
            clear hb4 HB
            go_wp2_with fail
            go_ret
            exact ⟨rfl, B4.out⟩
      · go_wp2_with fail
        clear y0 y1 q1 q0 hA hP hAw hNz hNz2 hNz3 hNz4 d1 d1' d2 d4
        refine wp_region_any (by kernel_rfl) ?_
        change wpAny _ _ _ _ _ _ _ (w2.setCell ⟨gb, p, none⟩ (.int .u8 (cb : Int))).drew
        have O4 := Lib.hid O3.out.drew
        have B4 := Lib.hid B3.out.drew
        generalize (w2.setCell ⟨gb, p, none⟩ (.int .u8 (cb : Int))).drew = W4 at *
        generalize L.set p cb = L3 at *
        obtain ⟨F, hF⟩ : ∃ F, F = E + 20 := ⟨_, rfl⟩
        have HY : Hid (F + 4 ≤ N) := by have := HX.out; show _ ≤ _; omega
        obtain ⟨x1, x2, x3⟩ := HX.out
        have x4 := HCAP.out
        have f1 : (E : Int) + 20 = (F : Int) := by omega
        have f2 : wrap64 (F : Int) = (F : Int) := by unfold wrap64; omega
        have f2' : IntKind.i64.wrap (F : Int) = (F : Int) := IntWalk.i64_in _ (by omega)
        have f3 : (0 : Int) ≤ (F : Int) := by omega
        have f4 : (F : Int) ≤ (N : Int) := by omega
        have f5 : (N : Int) ≤ (c : Int) := by omega
        have f6 : (0 : Int) ≤ (E : Int) := by omega
        have f7 : (E : Int) ≤ (F : Int) := by omega
        have f8 : (F : Int) ≤ (c : Int) := by omega
        have f9 : F - E = 20 := by omega
        have f10 : ¬ c = F := by omega
        have f11 : ¬ c = E := by omega
        clear x1 x2 x3 x4 hF
        have FF := Lib.hid (And.intro f7 (And.intro f4 f9))
        refine wpAny_take (i := 0) (v := .slice (some ⟨gb, 0, none⟩) N c) rfl (by kernel_rfl) (by kernel_rfl) (by kernel_rfl) (fun _ _ _ h => h) (Or.inl ⟨by kernel_rfl, fun w => by go_simp⟩) ?_
        refine wpAny_take (i := 1) (v := .int .i64 (E : Int)) rfl (by kernel_rfl) (by kernel_rfl) (by kernel_rfl) (fun _ _ _ h => h) (Or.inl ⟨by kernel_rfl, fun w => by go_simp⟩) ?_
        refine wpAny_take (i := 2) (v := .int .i64 (F : Int)) rfl (by kernel_rfl) (by kernel_rfl) (by kernel_rfl) (fun _ _ _ h => h) (Or.inl ⟨by kernel_rfl, fun w => by go_simp⟩) ?_
        refine wpAny_take (i := 3) (v := .slice (some ⟨gb, F, none⟩) (N - F) (c - F)) rfl (by kernel_rfl) (by kernel_rfl) (by kernel_rfl) (fun _ _ _ h => h) (Or.inl ⟨by kernel_rfl, fun w => by go_simp⟩) ?_
        refine wpAny_take (i := 4) (v := .slice (some ⟨gb, 0, none⟩) N c) rfl (by kernel_rfl) (by kernel_rfl) (by kernel_rfl) (fun _ _ _ h => h) (Or.inl ⟨by kernel_rfl, fun w => by go_simp⟩) ?_
        refine wpAny_take (i := 5) (v := .int .i64 (E : Int)) rfl (by kernel_rfl) (by kernel_rfl) (by kernel_rfl) (fun _ _ _ h => h) (Or.inl ⟨by kernel_rfl, fun w => by go_simp⟩) ?_
        refine wpAny_take (i := 6) (v := .int .i64 (E : Int)) rfl (by kernel_rfl) (by kernel_rfl) (by kernel_rfl) (fun _ _ _ h => h) (Or.inl ⟨by kernel_rfl, fun w => by go_simp⟩) ?_
        refine wpAny_take (i := 7) (v := .int .i64 (F : Int)) rfl (by kernel_rfl) (by kernel_rfl) (by kernel_rfl) (fun _ _ _ h => h) (Or.inl ⟨by kernel_rfl, fun w => by go_simp⟩) ?_
        refine wpAny_take (i := 8) (v := .slice (some ⟨gb, E, none⟩) 20 (c - E)) rfl (by kernel_rfl) (by kernel_rfl) (by kernel_rfl) (fun _ _ _ h => h) (Or.inl ⟨by kernel_rfl, fun w => by go_simp⟩) ?_
        refine any_tail 9 (by kernel_rfl) ?_
        simp only [List.drop_succ_cons, List.drop_zero]
        have SE := Lib.hid (sl_own_mid O4.out HL3.out (p := E) (k := 20) (by have := FF.out; have := HX.out; omega))
        have HBL : Hid ((L3.take F ++ (leL (ext 0 ((L3.drop E).take 20)) ++ L3.drop (F + 4))).length = N ∧ N ≤ 960) := by
          have := HL3.out
          have := HY.out
          refine ⟨?_, HX.out.1⟩
          simp only [List.length_append, List.length_take, List.length_drop, leL_length]
          omega
        go_wp2_with (first
          | (go_at_call 18; refine (check_any _ _ _ SE.out).mono ?_; rintro e w5 ⟨⟨s5, rfl, ho5⟩, hb5⟩; obtain ⟨a5, n5, c5, rfl, hn5⟩ := own_form ho5; rw [leL_length] at hn5; subst hn5; have S5 := Lib.hid ho5.sl; have O5 := Lib.hid (own_below' O4.out hb5); have B5 := Lib.hid (bt B4.out hb5); clear ho5 hb5)
          | (refine copy_into (dst := some 63) (off := F) (k := 4) (dl := N - F) (dc := c - F) (n := N) (R := leL (ext 0 ((L3.drop E).take 20))) ?_ ?_ O5.out HL3.out S5.out (leL_length _) (by decide) (by have := HY.out; omega) (by have := HY.out; omega) ?_; exact rfl; exact rfl; intro z6 w6 ho6 hg6; have SB := Lib.hid ho6.sl; have BT := Lib.hid (B5.out.grown hg6 B5.out.size (fun q hq => by cases hq; exact HGE.out)); clear ho6 hg6; have HR0 := Lib.hid (HRL.out _ BT.out); have OE := Lib.hid (own_empty w6 (Nat.le_refl w6.heap.size)); have BE := Lib.hid ((Below.refl w6.heap.size w6).alloc (Nat.le_refl _) (.cells #[] 5)))
          | (at_builtin; refine app_sl (dst := some 68) ?_ ?_ OE.out (sl_below SB.out BE.out) (by rw [List.length_nil, HBL.out.1]; have := HBL.out.2; omega) BE.out.size ?_; exact rfl; exact rfl; intro v9 w9 ho9 hg9; rw [List.nil_append] at ho9; have B9 := Lib.hid (BE.out.grown hg9 BE.out.size fun q hq => by have := OE.out.lt q hq; omega); obtain ⟨a9, n9, c9, rfl, -⟩ := own_form ho9; have O9 := Lib.hid ho9; clear ho9 hg9)
          | (at_builtin; refine app_sl (dst := some 70) ?_ ?_ O9.out (sl_below HR0.out B9.out) (by have := HBL.out; have := HRN.out; omega) B9.out.size ?_; exact rfl; exact rfl; intro v10 w10 ho10 hg10; have B10 := Lib.hid (B9.out.grown hg10 B9.out.size fun q hq => by have := O9.out.lt q hq; omega); obtain ⟨a10, n10, c10, rfl, -⟩ := own_form ho10; have O10 := Lib.hid ho10; clear ho10 hg10))
        have AQ := (Below.refl w10.heap.size w10).alloc (Nat.le_refl _) (.cells #[.slice (some ⟨ub, uo, none⟩) 500 uc, .slice (some ⟨gb, 0, none⟩) N c, .slice a10 n10 c10] 27)
        have XQ := Lib.hid (heap_alloc_new w10 (.cells #[.slice (some ⟨ub, uo, none⟩) 500 uc, .slice (some ⟨gb, 0, none⟩) N c, .slice a10 n10 c10] 27))
        have BQ := bt B10.out AQ
        have BQ0 := Lib.hid (bt BT.out BQ)
        have S0 := Lib.hid (sl_below HR0.out BQ)
        have S1 := Lib.hid (sl_below SB.out BQ)
        have S4 := Lib.hid (sl_below O10.out.sl AQ)
        clear AQ BQ B9 B10 O9 O10 BE OE SB
        generalize w10.alloc (.cells #[.slice (some ⟨ub, uo, none⟩) 500 uc, .slice (some ⟨gb, 0, none⟩) N c, .slice a10 n10 c10] 27) = W0 at *
        generalize w10.heap.size = q at *
        clear HR0 BT
        go_loopw [16, 17, 18, 19, 20, 73] (fun _ _ _ _ _ t wr => ∃ i : Nat, i ≤ 3 ∧ t = .int .i64 (i : Int) ∧ Below W0.heap.size W0 wr) (fun _ _ _ _ _ t _ => 3 - (intOf t).toNat)
        case atStart => exact ⟨0, by omega, rfl, Below.refl _ _⟩
        case round =>
          obtain ⟨i, hi, rfl, hB⟩ := hrel
          by_cases hi2 : i < 3
          · obtain ⟨sv, lv, hc, hs, hln⟩ : ∃ sv lv, wr.cell? ⟨q, i, none⟩ = some sv ∧ (∀ W, Below W0.heap.size W0 W → Sl W sv lv) ∧ lv.length ≤ 10000 := by
              have hx := (hB.block q (lt_of_some XQ.out)).trans XQ.out
              have h1 := HBL.out
              have h2 := HRN.out
              rcases (show i = 0 ∨ i = 1 ∨ i = 2 by omega) with rfl | rfl | rfl
              · exact ⟨_, _, cell_of_row wr q 0 _ _ _ hx, fun W hW => sl_below S0.out hW, by omega⟩
              · exact ⟨_, _, cell_of_row wr q 1 _ _ _ hx, fun W hW => sl_below S1.out hW, by omega⟩
              · exact ⟨_, _, cell_of_row wr q 2 _ _ _ hx, fun W hW => sl_below S4.out hW, by rw [List.length_append]; omega⟩
            obtain ⟨la, lc, rfl, -, -⟩ := sl_form (hs wr hB)
            have HS := Lib.hid hs
            have HB := Lib.hid hB
            have D1 := Lib.hid (PD.out _ lv wr (ST.out _ _ hw (bt BQ0.out HB.out)) (HS.out _ HB.out) hln)
            have RD := Lib.hid (fun W (hW : Below W0.heap.size W0 W) => rdecode8_any _ lv W (HS.out W hW) hln)
            unfold LW at D1 RD
            clear hln hs hB
            generalize lv.length = ln at *
            generalize dE8 lv = E at *
            generalize dL8 lv = X at *
            have g0' : decide ((i : Int) < 3) = true := decide_eq_true (by omega)
            have p0 : (0 : Int) ≤ (i : Int) := by omega
            have p1 : (i : Int) < 3 := by omega
            go_wp2_with fail
            refine D1.out.mono ?_
            rintro e w3 ⟨⟨v3, rfl, hs3⟩, hb3⟩
            obtain ⟨a3, c3, hv3, -, -⟩ := it_form hs3
            obtain ⟨m3, hm3⟩ : ∃ z, z = X.length := ⟨_, rfl⟩
            rw [← hm3] at hv3
            subst hv3
            have S3 := Lib.hid hs3
            have B3 := Lib.hid (bt HB.out hb3)
            have HM3 := Lib.hid hm3
            clear hs3 hb3 D1 hm3
            go_wp2_with fail
            refine (RD.out _ B3.out).mono ?_
            rintro e w5 ⟨⟨v5, rfl, hs5⟩, hb5⟩
            obtain ⟨a5, c5, hv5, -, -⟩ := it_form hs5
            rw [← HM3.out] at hv5
            subst hv5
            have S5 := Lib.hid hs5
            have S3' := Lib.hid (it_below S3.out hb5)
            have B5 := Lib.hid (bt B3.out hb5)
            have HQ := Lib.hid (rsame8_any _ _ X X _ S3'.out S5.out)
            rw [show decide (X = X) = true from decide_eq_true rfl] at HQ
            have q5 : (E == E) = true := by simp
            clear hs5 hb5 RD S3
            go_wp2_with fail
            refine HQ.out.mono ?_
            rintro e w6 ⟨rfl, hb6⟩
            have B6 := Lib.hid (bt B5.out hb6)
            clear hb6 HQ
            go_wp2_with fail
            go_roundw
            case rel => exact ⟨i + 1, by omega, by go_num, B6.out⟩
            case measure => simp [intOf]; omega
          · obtain rfl : i = 3 := by omega
            have HB := Lib.hid hB
            clear hB hi hi2
            go_wp2_with fail
            refine (AW.out _ (ST.out _ _ hw (bt BQ0.out HB.out))).mono ?_
            rintro e w4 ⟨rfl, hb4⟩
            have B4 := Lib.hid (bt (bt BQ0.out HB.out) hb4)
            clear hb4 HB
            go_wp2_with fail
            go_ret
            exact ⟨rfl, B4.out⟩
  · obtain ⟨ua, uc, rfl, -, -⟩ := sl_form hu
    have HRN : Hid (RL.length ≤ 500) := by show _ ≤ _; omega
    obtain ⟨un, hun⟩ : ∃ n, n = RL.length := ⟨_, rfl⟩
    rw [← hun] at hbig hu ⊢
    have HRL := Lib.hid (fun W (hB : Below w.heap.size w W) => sl_below hu hB)
    have g6 : decide ((500 : Int) < (un : Int)) = false := decide_eq_false (by omega)
    clear hu hun hbig
    go_enter Tryd.func5, Tryd.ntmps5
    go_wp2_with fail
    refine (MDA.out _ _ (SL0.out _ HB0.out)).mono ?_
    rintro e w1 ⟨⟨v1, rfl, ho1⟩, hb1⟩
    obtain ⟨a1, c1, hv1, -, -⟩ := owT_form ho1
    obtain ⟨m1, hm1⟩ : ∃ q, q = M.length := ⟨_, rfl⟩
    rw [← hm1] at hv1
    subst hv1
    have B1 := Lib.hid (bt HB0.out hb1)
    have S1 := Lib.hid (owT_it ho1)
    have HM1 := Lib.hid hm1
    clear hm1 hb1 ho1
    go_wp2_with fail
    refine (rencode8_own _ M _ S1.out oka (by omega)).mono ?_
    rintro e w2 ⟨⟨v2, rfl, ho⟩, hb2⟩
    have B2 := Lib.hid (bt B1.out hb2)
    have HL : Hid ((encT M).length = 24 * m1) := by show _ = _; rw [encT_length, HM1.out]
    have hm40 : m1 ≤ 40 := by have := HM1.out; omega
    have HM40 := Lib.hid hm40
    have HGE0 := Lib.hid B1.out.size
    clear hb2 S1
    generalize encT M = L at *
    by_cases hm0 : m1 = 0
    · subst hm0
      obtain ⟨ab, nb, cb2, hv, hn⟩ := own_form ho
      rw [HL.out] at hn
      obtain rfl : nb = 0 := by omega
      subst hv
      have SB := Lib.hid ho.sl
      have HBL : Hid (L.length = 0 ∧ 0 ≤ 960) := by have := HL.out; exact ⟨by omega, by omega⟩
      have BT := B2
      clear ho
      have HR0 := Lib.hid (HRL.out _ BT.out)
      have OE := Lib.hid (own_empty w2 (Nat.le_refl w2.heap.size))
      have BE := Lib.hid ((Below.refl w2.heap.size w2).alloc (Nat.le_refl _) (.cells #[] 5))
      go_wp2_with (first
        | (at_builtin; refine app_sl (dst := some 68) ?_ ?_ OE.out (sl_below SB.out BE.out) (by rw [List.length_nil, HBL.out.1]; have := HBL.out.2; omega) BE.out.size ?_; exact rfl; exact rfl; intro v9 w9 ho9 hg9; rw [List.nil_append] at ho9; have B9 := Lib.hid (BE.out.grown hg9 BE.out.size fun q hq => by have := OE.out.lt q hq; omega); obtain ⟨a9, n9, c9, rfl, -⟩ := own_form ho9; have O9 := Lib.hid ho9; clear ho9 hg9)
        | (at_builtin; refine app_sl (dst := some 70) ?_ ?_ O9.out (sl_below HR0.out B9.out) (by have := HBL.out; have := HRN.out; omega) B9.out.size ?_; exact rfl; exact rfl; intro v10 w10 ho10 hg10; have B10 := Lib.hid (B9.out.grown hg10 B9.out.size fun q hq => by have := O9.out.lt q hq; omega); obtain ⟨a10, n10, c10, rfl, -⟩ := own_form ho10; have O10 := Lib.hid ho10; clear ho10 hg10))
      have AQ := (Below.refl w10.heap.size w10).alloc (Nat.le_refl _) (.cells #[.slice ua un uc, .slice ab 0 cb2, .slice a10 n10 c10] 27)
      have XQ := Lib.hid (heap_alloc_new w10 (.cells #[.slice ua un uc, .slice ab 0 cb2, .slice a10 n10 c10] 27))
      have BQ := bt B10.out AQ
      have BQ0 := Lib.hid (bt BT.out BQ)
      have S0 := Lib.hid (sl_below HR0.out BQ)
      have S1 := Lib.hid (sl_below SB.out BQ)
      have S4 := Lib.hid (sl_below O10.out.sl AQ)
      clear AQ BQ B9 B10 O9 O10 BE OE SB
      generalize w10.alloc (.cells #[.slice ua un uc, .slice ab 0 cb2, .slice a10 n10 c10] 27) = W0 at *
      generalize w10.heap.size = q at *
      clear HR0 BT
      go_loopw [16, 17, 18, 19, 20, 73] (fun _ _ _ _ _ t wr => ∃ i : Nat, i ≤ 3 ∧ t = .int .i64 (i : Int) ∧ Below W0.heap.size W0 wr) (fun _ _ _ _ _ t _ => 3 - (intOf t).toNat)
      case atStart => exact ⟨0, by omega, rfl, Below.refl _ _⟩
      case round =>
        obtain ⟨i, hi, rfl, hB⟩ := hrel
        by_cases hi2 : i < 3
        · obtain ⟨sv, lv, hc, hs, hln⟩ : ∃ sv lv, wr.cell? ⟨q, i, none⟩ = some sv ∧ (∀ W, Below W0.heap.size W0 W → Sl W sv lv) ∧ lv.length ≤ 10000 := by
            have hx := (hB.block q (lt_of_some XQ.out)).trans XQ.out
            have h1 := HBL.out
            have h2 := HRN.out
            rcases (show i = 0 ∨ i = 1 ∨ i = 2 by omega) with rfl | rfl | rfl
            · exact ⟨_, _, cell_of_row wr q 0 _ _ _ hx, fun W hW => sl_below S0.out hW, by omega⟩
            · exact ⟨_, _, cell_of_row wr q 1 _ _ _ hx, fun W hW => sl_below S1.out hW, by omega⟩
            · exact ⟨_, _, cell_of_row wr q 2 _ _ _ hx, fun W hW => sl_below S4.out hW, by rw [List.length_append]; omega⟩
          obtain ⟨la, lc, rfl, -, -⟩ := sl_form (hs wr hB)
          have HS := Lib.hid hs
          have HB := Lib.hid hB
          have D1 := Lib.hid (PD.out _ lv wr (ST.out _ _ hw (bt BQ0.out HB.out)) (HS.out _ HB.out) hln)
          have RD := Lib.hid (fun W (hW : Below W0.heap.size W0 W) => rdecode8_any _ lv W (HS.out W hW) hln)
          unfold LW at D1 RD
          clear hln hs hB
          generalize lv.length = ln at *
          generalize dE8 lv = E at *
          generalize dL8 lv = X at *
          have g0' : decide ((i : Int) < 3) = true := decide_eq_true (by omega)
          have p0 : (0 : Int) ≤ (i : Int) := by omega
          have p1 : (i : Int) < 3 := by omega
          go_wp2_with fail
          refine D1.out.mono ?_
          rintro e w3 ⟨⟨v3, rfl, hs3⟩, hb3⟩
          obtain ⟨a3, c3, hv3, -, -⟩ := it_form hs3
          obtain ⟨m3, hm3⟩ : ∃ z, z = X.length := ⟨_, rfl⟩
          rw [← hm3] at hv3
          subst hv3
          have S3 := Lib.hid hs3
          have B3 := Lib.hid (bt HB.out hb3)
          have HM3 := Lib.hid hm3
          clear hs3 hb3 D1 hm3
          go_wp2_with fail
          refine (RD.out _ B3.out).mono ?_
          rintro e w5 ⟨⟨v5, rfl, hs5⟩, hb5⟩
          obtain ⟨a5, c5, hv5, -, -⟩ := it_form hs5
          rw [← HM3.out] at hv5
          subst hv5
          have S5 := Lib.hid hs5
          have S3' := Lib.hid (it_below S3.out hb5)
          have B5 := Lib.hid (bt B3.out hb5)
          have HQ := Lib.hid (rsame8_any _ _ X X _ S3'.out S5.out)
          rw [show decide (X = X) = true from decide_eq_true rfl] at HQ
          have q5 : (E == E) = true := by simp
          clear hs5 hb5 RD S3
          go_wp2_with fail
          refine HQ.out.mono ?_
          rintro e w6 ⟨rfl, hb6⟩
          have B6 := Lib.hid (bt B5.out hb6)
          clear hb6 HQ
          go_wp2_with fail
          go_roundw
          case rel => exact ⟨i + 1, by omega, by go_num, B6.out⟩
          case measure => simp [intOf]; omega
        · obtain rfl : i = 3 := by omega
          have HB := Lib.hid hB
          clear hB hi hi2
          go_wp2_with fail
          refine (AW.out _ (ST.out _ _ hw (bt BQ0.out HB.out))).mono ?_
          rintro e w4 ⟨rfl, hb4⟩
          have B4 := Lib.hid (bt (bt BQ0.out HB.out) hb4)
          clear hb4 HB
          go_wp2_with fail
          go_ret
          exact ⟨rfl, B4.out⟩
    · obtain ⟨gb, c, hv, hge⟩ := own_pos ho (by rw [HL.out]; omega)
      obtain ⟨N, hN⟩ : ∃ N, N = 24 * m1 := ⟨_, rfl⟩
      have HLN : Hid (L.length = N) := by show _ = _; rw [HL.out, hN]
      rw [HLN.out] at hv
      subst hv
      have hcap := (own_capl ho).1
      rw [HLN.out] at hcap
      have HCAP := Lib.hid hcap
      have HGE := Lib.hid (Nat.le_trans HGE0.out hge)
      have hNp : 0 < N := by omega
      have hNb : N ≤ 960 := by omega
      have hN24 : N % 24 = 0 := by omega
      obtain ⟨A, p, hA, hA1, hA2, hP, hp⟩ := mod_twice n0 N hNp
      have hAw : wrap64 (A + (N : Int)) = A + (N : Int) := by unfold wrap64; omega
      have hNz : ((N : Int) == 0) = false := beq_false_of_ne (by omega)
      have hNz2 : ¬ (N : Int) = 0 := by omega
      have hNz3 : decide ((0 : Int) < (N : Int)) = true := decide_eq_true (by omega)
      have hNz4 : 0 < (N : Int) := by omega
      obtain ⟨y0, y1, -⟩ := own_cell ho HLN.out hp
      have O3 := Lib.hid (own_base (Nat.le_trans HGE0.out (Nat.le_refl _)) (own_set ho HLN.out hp HCB.out))
      have B3 := Lib.hid (B2.out.setCell (p := ⟨gb, p, none⟩) HGE.out (.int .u8 (cb : Int)))
      have q1 : (p : Int) < (N : Int) := by omega
      have q0 : (0 : Int) ≤ (p : Int) := by omega
      have HL3 : Hid ((L.set p cb).length = N) := by show _ = _; rw [List.length_set]; exact HLN.out
      obtain ⟨E, hE⟩ : ∃ E, E = p / 24 * 24 := ⟨_, rfl⟩
      obtain ⟨E0, hE0⟩ : ∃ E0, E0 = p / 24 := ⟨_, rfl⟩
      have d1 : (p : Int) / 24 = (E0 : Int) := by omega
      have d1' : (p : Int).tdiv 24 = (E0 : Int) := by rw [Int.tdiv_eq_ediv_of_nonneg (by omega)]; exact d1
      have d2 : (E0 : Int) * 24 = (E : Int) := by omega
      have d3 : wrap64 (E : Int) = (E : Int) := by unfold wrap64; omega
      have d4 : wrap64 (E0 : Int) = (E0 : Int) := by unfold wrap64; omega
      have hEN : E + 24 ≤ N := by rw [hE]; exact entry_fits hN24 hp
      have HX := Lib.hid (And.intro hNb (And.intro hEN hp))
      clear hA1 hA2 ho hge hcap hE hE0 hN hm0 hN24 hEN hNb hp hm40 hma
      cases fx
      · have BT := B3
        have SB := Lib.hid O3.out.sl
        have HBL : Hid ((L.set p cb).length = N ∧ N ≤ 960) := ⟨HL3.out, HX.out.1⟩
        clear O3 B3
        have HR0 := Lib.hid (HRL.out _ BT.out)
        have OE := Lib.hid (own_empty' (w2.setCell ⟨gb, p, none⟩ (.int .u8 (cb : Int))) (k := w2.heap.size) (by simp))
        have BE := Lib.hid ((Below.refl (w2.setCell ⟨gb, p, none⟩ (.int .u8 (cb : Int))).heap.size (w2.setCell ⟨gb, p, none⟩ (.int .u8 (cb : Int)))).alloc (Nat.le_refl _) (.cells #[] 5))
        go_wp2_with (first
          | (at_builtin; refine app_sl (dst := some 68) ?_ ?_ OE.out (sl_below SB.out BE.out) (by rw [List.length_nil, HBL.out.1]; have := HBL.out.2; omega) BE.out.size ?_; exact rfl; exact rfl; intro v9 w9 ho9 hg9; rw [List.nil_append] at ho9; have B9 := Lib.hid (BE.out.grown hg9 BE.out.size fun q hq => by have := OE.out.lt q hq; omega); obtain ⟨a9, n9, c9, rfl, -⟩ := own_form ho9; have O9 := Lib.hid ho9; clear ho9 hg9)
          | (at_builtin; refine app_sl (dst := some 70) ?_ ?_ O9.out (sl_below HR0.out B9.out) (by have := HBL.out; have := HRN.out; omega) B9.out.size ?_; exact rfl; exact rfl; intro v10 w10 ho10 hg10; have B10 := Lib.hid (B9.out.grown hg10 B9.out.size fun q hq => by have := O9.out.lt q hq; omega); obtain ⟨a10, n10, c10, rfl, -⟩ := own_form ho10; have O10 := Lib.hid ho10; clear ho10 hg10))
        have AQ := (Below.refl w10.heap.size w10).alloc (Nat.le_refl _) (.cells #[.slice ua un uc, .slice (some ⟨gb, 0, none⟩) N c, .slice a10 n10 c10] 27)
        have XQ := Lib.hid (heap_alloc_new w10 (.cells #[.slice ua un uc, .slice (some ⟨gb, 0, none⟩) N c, .slice a10 n10 c10] 27))
        have BQ := bt B10.out AQ
        have BQ0 := Lib.hid (bt BT.out BQ)
        have S0 := Lib.hid (sl_below HR0.out BQ)
        have S1 := Lib.hid (sl_below SB.out BQ)
        have S4 := Lib.hid (sl_below O10.out.sl AQ)
        clear AQ BQ B9 B10 O9 O10 BE OE SB
        generalize w10.alloc (.cells #[.slice ua un uc, .slice (some ⟨gb, 0, none⟩) N c, .slice a10 n10 c10] 27) = W0 at *
        generalize w10.heap.size = q at *
        clear HR0 BT
        go_loopw [16, 17, 18, 19, 20, 73] (fun _ _ _ _ _ t wr => ∃ i : Nat, i ≤ 3 ∧ t = .int .i64 (i : Int) ∧ Below W0.heap.size W0 wr) (fun _ _ _ _ _ t _ => 3 - (intOf t).toNat)
        case atStart => exact ⟨0, by omega, rfl, Below.refl _ _⟩
        case round =>
          obtain ⟨i, hi, rfl, hB⟩ := hrel
          by_cases hi2 : i < 3
          · obtain ⟨sv, lv, hc, hs, hln⟩ : ∃ sv lv, wr.cell? ⟨q, i, none⟩ = some sv ∧ (∀ W, Below W0.heap.size W0 W → Sl W sv lv) ∧ lv.length ≤ 10000 := by
              have hx := (hB.block q (lt_of_some XQ.out)).trans XQ.out
              have h1 := HBL.out
              have h2 := HRN.out
              rcases (show i = 0 ∨ i = 1 ∨ i = 2 by omega) with rfl | rfl | rfl
              · exact ⟨_, _, cell_of_row wr q 0 _ _ _ hx, fun W hW => sl_below S0.out hW, by omega⟩
              · exact ⟨_, _, cell_of_row wr q 1 _ _ _ hx, fun W hW => sl_below S1.out hW, by omega⟩
              · exact ⟨_, _, cell_of_row wr q 2 _ _ _ hx, fun W hW => sl_below S4.out hW, by rw [List.length_append]; omega⟩
            obtain ⟨la, lc, rfl, -, -⟩ := sl_form (hs wr hB)
            have HS := Lib.hid hs
            have HB := Lib.hid hB
            have D1 := Lib.hid (PD.out _ lv wr (ST.out _ _ hw (bt BQ0.out HB.out)) (HS.out _ HB.out) hln)
            have RD := Lib.hid (fun W (hW : Below W0.heap.size W0 W) => rdecode8_any _ lv W (HS.out W hW) hln)
            unfold LW at D1 RD
            clear hln hs hB
            generalize lv.length = ln at *
            generalize dE8 lv = E at *
            generalize dL8 lv = X at *
            have g0' : decide ((i : Int) < 3) = true := decide_eq_true (by omega)
            have p0 : (0 : Int) ≤ (i : Int) := by omega
            have p1 : (i : Int) < 3 := by omega
            go_wp2_with fail
            refine D1.out.mono ?_
            rintro e w3 ⟨⟨v3, rfl, hs3⟩, hb3⟩
            obtain ⟨a3, c3, hv3, -, -⟩ := it_form hs3
            obtain ⟨m3, hm3⟩ : ∃ z, z = X.length := ⟨_, rfl⟩
            rw [← hm3] at hv3
            subst hv3
            have S3 := Lib.hid hs3
            have B3 := Lib.hid (bt HB.out hb3)
            have HM3 := Lib.hid hm3
            clear hs3 hb3 D1 hm3
            go_wp2_with fail
            refine (RD.out _ B3.out).mono ?_
            rintro e w5 ⟨⟨v5, rfl, hs5⟩, hb5⟩
            obtain ⟨a5, c5, hv5, -, -⟩ := it_form hs5
            rw [← HM3.out] at hv5
            subst hv5
            have S5 := Lib.hid hs5
            have S3' := Lib.hid (it_below S3.out hb5)
            have B5 := Lib.hid (bt B3.out hb5)
            have HQ := Lib.hid (rsame8_any _ _ X X _ S3'.out S5.out)
            rw [show decide (X = X) = true from decide_eq_true rfl] at HQ
            have q5 : (E == E) = true := by simp
            clear hs5 hb5 RD S3
            go_wp2_with fail
            refine HQ.out.mono ?_
            rintro e w6 ⟨rfl, hb6⟩
            have B6 := Lib.hid (bt B5.out hb6)
            clear hb6 HQ
            go_wp2_with fail
            go_roundw
            case rel => exact ⟨i + 1, by omega, by go_num, B6.out⟩
            case measure => simp [intOf]; omega
          · obtain rfl : i = 3 := by omega
            have HB := Lib.hid hB
            clear hB hi hi2
            go_wp2_with fail
            refine (AW.out _ (ST.out _ _ hw (bt BQ0.out HB.out))).mono ?_
            rintro e w4 ⟨rfl, hb4⟩
            have B4 := Lib.hid (bt (bt BQ0.out HB.out) hb4)
            clear hb4 HB
            go_wp2_with fail
            go_ret
            exact ⟨rfl, B4.out⟩
      · go_wp2_with fail
        clear y0 y1 q1 q0 hA hP hAw hNz hNz2 hNz3 hNz4 d1 d1' d2 d4
        refine wp_region_any (by kernel_rfl) ?_
        change wpAny _ _ _ _ _ _ _ (w2.setCell ⟨gb, p, none⟩ (.int .u8 (cb : Int))).drew
        have O4 := Lib.hid O3.out.drew
        have B4 := Lib.hid B3.out.drew
        generalize (w2.setCell ⟨gb, p, none⟩ (.int .u8 (cb : Int))).drew = W4 at *
        generalize L.set p cb = L3 at *
        obtain ⟨F, hF⟩ : ∃ F, F = E + 20 := ⟨_, rfl⟩
        have HY : Hid (F + 4 ≤ N) := by have := HX.out; show _ ≤ _; omega
        obtain ⟨x1, x2, x3⟩ := HX.out
        have x4 := HCAP.out
        have f1 : (E : Int) + 20 = (F : Int) := by omega
        have f2 : wrap64 (F : Int) = (F : Int) := by unfold wrap64; omega
        have f2' : IntKind.i64.wrap (F : Int) = (F : Int) := IntWalk.i64_in _ (by omega)
        have f3 : (0 : Int) ≤ (F : Int) := by omega
        have f4 : (F : Int) ≤ (N : Int) := by omega
        have f5 : (N : Int) ≤ (c : Int) := by omega
        have f6 : (0 : Int) ≤ (E : Int) := by omega
        have f7 : (E : Int) ≤ (F : Int) := by omega
        have f8 : (F : Int) ≤ (c : Int) := by omega
        have f9 : F - E = 20 := by omega
        have f10 : ¬ c = F := by omega
        have f11 : ¬ c = E := by omega
        clear x1 x2 x3 x4 hF
        have FF := Lib.hid (And.intro f7 (And.intro f4 f9))
        refine wpAny_take (i := 0) (v := .slice (some ⟨gb, 0, none⟩) N c) rfl (by kernel_rfl) (by kernel_rfl) (by kernel_rfl) (fun _ _ _ h => h) (Or.inl ⟨by kernel_rfl, fun w => by go_simp⟩) ?_
        refine wpAny_take (i := 1) (v := .int .i64 (E : Int)) rfl (by kernel_rfl) (by kernel_rfl) (by kernel_rfl) (fun _ _ _ h => h) (Or.inl ⟨by kernel_rfl, fun w => by go_simp⟩) ?_
        refine wpAny_take (i := 2) (v := .int .i64 (F : Int)) rfl (by kernel_rfl) (by kernel_rfl) (by kernel_rfl) (fun _ _ _ h => h) (Or.inl ⟨by kernel_rfl, fun w => by go_simp⟩) ?_
        refine wpAny_take (i := 3) (v := .slice (some ⟨gb, F, none⟩) (N - F) (c - F)) rfl (by kernel_rfl) (by kernel_rfl) (by kernel_rfl) (fun _ _ _ h => h) (Or.inl ⟨by kernel_rfl, fun w => by go_simp⟩) ?_
        refine wpAny_take (i := 4) (v := .slice (some ⟨gb, 0, none⟩) N c) rfl (by kernel_rfl) (by kernel_rfl) (by kernel_rfl) (fun _ _ _ h => h) (Or.inl ⟨by kernel_rfl, fun w => by go_simp⟩) ?_
        refine wpAny_take (i := 5) (v := .int .i64 (E : Int)) rfl (by kernel_rfl) (by kernel_rfl) (by kernel_rfl) (fun _ _ _ h => h) (Or.inl ⟨by kernel_rfl, fun w => by go_simp⟩) ?_
        refine wpAny_take (i := 6) (v := .int .i64 (E : Int)) rfl (by kernel_rfl) (by kernel_rfl) (by kernel_rfl) (fun _ _ _ h => h) (Or.inl ⟨by kernel_rfl, fun w => by go_simp⟩) ?_
        refine wpAny_take (i := 7) (v := .int .i64 (F : Int)) rfl (by kernel_rfl) (by kernel_rfl) (by kernel_rfl) (fun _ _ _ h => h) (Or.inl ⟨by kernel_rfl, fun w => by go_simp⟩) ?_
        refine wpAny_take (i := 8) (v := .slice (some ⟨gb, E, none⟩) 20 (c - E)) rfl (by kernel_rfl) (by kernel_rfl) (by kernel_rfl) (fun _ _ _ h => h) (Or.inl ⟨by kernel_rfl, fun w => by go_simp⟩) ?_
        refine any_tail 9 (by kernel_rfl) ?_
        simp only [List.drop_succ_cons, List.drop_zero]
        have SE := Lib.hid (sl_own_mid O4.out HL3.out (p := E) (k := 20) (by have := FF.out; have := HX.out; omega))
        have HBL : Hid ((L3.take F ++ (leL (ext 0 ((L3.drop E).take 20)) ++ L3.drop (F + 4))).length = N ∧ N ≤ 960) := by
          have := HL3.out
          have := HY.out
          refine ⟨?_, HX.out.1⟩
          simp only [List.length_append, List.length_take, List.length_drop, leL_length]
          omega
        go_wp2_with (first
          | (go_at_call 18; refine (check_any _ _ _ SE.out).mono ?_; rintro e w5 ⟨⟨s5, rfl, ho5⟩, hb5⟩; obtain ⟨a5, n5, c5, rfl, hn5⟩ := own_form ho5; rw [leL_length] at hn5; subst hn5; have S5 := Lib.hid ho5.sl; have O5 := Lib.hid (own_below' O4.out hb5); have B5 := Lib.hid (bt B4.out hb5); clear ho5 hb5)
          | (refine copy_into (dst := some 63) (off := F) (k := 4) (dl := N - F) (dc := c - F) (n := N) (R := leL (ext 0 ((L3.drop E).take 20))) ?_ ?_ O5.out HL3.out S5.out (leL_length _) (by decide) (by have := HY.out; omega) (by have := HY.out; omega) ?_; exact rfl; exact rfl; intro z6 w6 ho6 hg6; have SB := Lib.hid ho6.sl; have BT := Lib.hid (B5.out.grown hg6 B5.out.size (fun q hq => by cases hq; exact HGE.out)); clear ho6 hg6; have HR0 := Lib.hid (HRL.out _ BT.out); have OE := Lib.hid (own_empty w6 (Nat.le_refl w6.heap.size)); have BE := Lib.hid ((Below.refl w6.heap.size w6).alloc (Nat.le_refl _) (.cells #[] 5)))
          | (at_builtin; refine app_sl (dst := some 68) ?_ ?_ OE.out (sl_below SB.out BE.out) (by rw [List.length_nil, HBL.out.1]; have := HBL.out.2; omega) BE.out.size ?_; exact rfl; exact rfl; intro v9 w9 ho9 hg9; rw [List.nil_append] at ho9; have B9 := Lib.hid (BE.out.grown hg9 BE.out.size fun q hq => by have := OE.out.lt q hq; omega); obtain ⟨a9, n9, c9, rfl, -⟩ := own_form ho9; have O9 := Lib.hid ho9; clear ho9 hg9)
          | (at_builtin; refine app_sl (dst := some 70) ?_ ?_ O9.out (sl_below HR0.out B9.out) (by have := HBL.out; have := HRN.out; omega) B9.out.size ?_; exact rfl; exact rfl; intro v10 w10 ho10 hg10; have B10 := Lib.hid (B9.out.grown hg10 B9.out.size fun q hq => by have := O9.out.lt q hq; omega); obtain ⟨a10, n10, c10, rfl, -⟩ := own_form ho10; have O10 := Lib.hid ho10; clear ho10 hg10))
        have AQ := (Below.refl w10.heap.size w10).alloc (Nat.le_refl _) (.cells #[.slice ua un uc, .slice (some ⟨gb, 0, none⟩) N c, .slice a10 n10 c10] 27)
        have XQ := Lib.hid (heap_alloc_new w10 (.cells #[.slice ua un uc, .slice (some ⟨gb, 0, none⟩) N c, .slice a10 n10 c10] 27))
        have BQ := bt B10.out AQ
        have BQ0 := Lib.hid (bt BT.out BQ)
        have S0 := Lib.hid (sl_below HR0.out BQ)
        have S1 := Lib.hid (sl_below SB.out BQ)
        have S4 := Lib.hid (sl_below O10.out.sl AQ)
        clear AQ BQ B9 B10 O9 O10 BE OE SB
        generalize w10.alloc (.cells #[.slice ua un uc, .slice (some ⟨gb, 0, none⟩) N c, .slice a10 n10 c10] 27) = W0 at *
        generalize w10.heap.size = q at *
        clear HR0 BT
        go_loopw [16, 17, 18, 19, 20, 73] (fun _ _ _ _ _ t wr => ∃ i : Nat, i ≤ 3 ∧ t = .int .i64 (i : Int) ∧ Below W0.heap.size W0 wr) (fun _ _ _ _ _ t _ => 3 - (intOf t).toNat)
        case atStart => exact ⟨0, by omega, rfl, Below.refl _ _⟩
        case round =>
          obtain ⟨i, hi, rfl, hB⟩ := hrel
          by_cases hi2 : i < 3
          · obtain ⟨sv, lv, hc, hs, hln⟩ : ∃ sv lv, wr.cell? ⟨q, i, none⟩ = some sv ∧ (∀ W, Below W0.heap.size W0 W → Sl W sv lv) ∧ lv.length ≤ 10000 := by
              have hx := (hB.block q (lt_of_some XQ.out)).trans XQ.out
              have h1 := HBL.out
              have h2 := HRN.out
              rcases (show i = 0 ∨ i = 1 ∨ i = 2 by omega) with rfl | rfl | rfl
              · exact ⟨_, _, cell_of_row wr q 0 _ _ _ hx, fun W hW => sl_below S0.out hW, by omega⟩
              · exact ⟨_, _, cell_of_row wr q 1 _ _ _ hx, fun W hW => sl_below S1.out hW, by omega⟩
              · exact ⟨_, _, cell_of_row wr q 2 _ _ _ hx, fun W hW => sl_below S4.out hW, by rw [List.length_append]; omega⟩
            obtain ⟨la, lc, rfl, -, -⟩ := sl_form (hs wr hB)
            have HS := Lib.hid hs
            have HB := Lib.hid hB
            have D1 := Lib.hid (PD.out _ lv wr (ST.out _ _ hw (bt BQ0.out HB.out)) (HS.out _ HB.out) hln)
            have RD := Lib.hid (fun W (hW : Below W0.heap.size W0 W) => rdecode8_any _ lv W (HS.out W hW) hln)
            unfold LW at D1 RD
            clear hln hs hB
            generalize lv.length = ln at *
            generalize dE8 lv = E at *
            generalize dL8 lv = X at *
            have g0' : decide ((i : Int) < 3) = true := decide_eq_true (by omega)
            have p0 : (0 : Int) ≤ (i : Int) := by omega
            have p1 : (i : Int) < 3 := by omega
            go_wp2_with fail
            refine D1.out.mono ?_
            rintro e w3 ⟨⟨v3, rfl, hs3⟩, hb3⟩
            obtain ⟨a3, c3, hv3, -, -⟩ := it_form hs3
            obtain ⟨m3, hm3⟩ : ∃ z, z = X.length := ⟨_, rfl⟩
            rw [← hm3] at hv3
            subst hv3
            have S3 := Lib.hid hs3
            have B3 := Lib.hid (bt HB.out hb3)
            have HM3 := Lib.hid hm3
            clear hs3 hb3 D1 hm3
            go_wp2_with fail
            refine (RD.out _ B3.out).mono ?_
            rintro e w5 ⟨⟨v5, rfl, hs5⟩, hb5⟩
            obtain ⟨a5, c5, hv5, -, -⟩ := it_form hs5
            rw [← HM3.out] at hv5
            subst hv5
            have S5 := Lib.hid hs5
            have S3' := Lib.hid (it_below S3.out hb5)
            have B5 := Lib.hid (bt B3.out hb5)
            have HQ := Lib.hid (rsame8_any _ _ X X _ S3'.out S5.out)
            rw [show decide (X = X) = true from decide_eq_true rfl] at HQ
            have q5 : (E == E) = true := by simp
            clear hs5 hb5 RD S3
            go_wp2_with fail
            refine HQ.out.mono ?_
            rintro e w6 ⟨rfl, hb6⟩
            have B6 := Lib.hid (bt B5.out hb6)
            clear hb6 HQ
            go_wp2_with fail
            go_roundw
            case rel => exact ⟨i + 1, by omega, by go_num, B6.out⟩
            case measure => simp [intOf]; omega
          · obtain rfl : i = 3 := by omega
            have HB := Lib.hid hB
            clear hB hi hi2
            go_wp2_with fail
            refine (AW.out _ (ST.out _ _ hw (bt BQ0.out HB.out))).mono ?_
            rintro e w4 ⟨rfl, hb4⟩
            have B4 := Lib.hid (bt (bt BQ0.out HB.out) hb4)
            clear hb4 HB
            go_wp2_with fail
            go_ret
            exact ⟨rfl, B4.out⟩
end Go.Proofs.YtihjfnlimdcmkaaDoor.Gf
