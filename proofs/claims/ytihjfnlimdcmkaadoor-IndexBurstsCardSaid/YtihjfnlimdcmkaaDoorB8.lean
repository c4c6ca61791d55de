/- What is proved here: a change of up to 32 bits within an entry is found. No program text. -/
import Derived.Test.YtihjfnlimdcmkaaDoorC8
namespace Go.Proofs.YtihjfnlimdcmkaaDoor.Gf
open Go Go.Proofs.YtihjfnlimdcmkaaDoor.Crc

theorem burst_rec {x : Itm} {c : List Nat} {f k : Nat} (hc : ∀ b ∈ c, b < 256) (hlen : c.length = 24) (hf : f < 4294967296) (hn : num c = num (recT x) ^^^ f * 2 ^ k) (h0 : ckT c) : c = recT x := by
  have hcut : c = c.take 20 ++ leL (ext 0 (c.take 20)) := by
    rw [show leL (ext 0 (c.take 20)) = (c.drop 20).take 4 from h0, show (c.drop 20).take 4 = c.drop 20 from List.take_of_length_le (by rw [List.length_drop, hlen]; decide), List.take_append_drop]
  have hct : ∀ b ∈ c.take 20, b < 256 := fun b hb => hc b (List.mem_of_mem_take hb)
  refine num_inj (by rw [hlen, recT_length]) hc (recT_lt x) ?_
  have cx := run_check (bodT_lt x)
  have cy := run_check hct
  rw [← hcut] at cy
  rw [show bodT x ++ leL (ext 0 (bodT x)) = recT x from rfl] at cx
  rw [run_num _ _ (recT_lt x), recT_length] at cx
  rw [run_num _ _ hc, hlen, hn] at cy
  have lA := num_lt _ (recT_lt x)
  have lC := num_lt _ hc
  rw [recT_length, show (256 : Nat) = 2 ^ 8 from rfl, ← Nat.pow_mul] at lA
  rw [hlen, show (256 : Nat) = 2 ^ 8 from rfl, ← Nat.pow_mul] at lC
  generalize num (recT x) = A at *
  have e : sgn (8 * 24) (f * 2 ^ k) = 0 := by
    rw [← Nat.xor_assoc, sgn_xor, cx] at cy
    have := congrArg (fun z => sgn 32 4294967295 ^^^ z) cy
    simpa [xor_self_left] using this
  have hz : f * 2 ^ k = 0 := by
    by_cases hk : k ≤ 192
    · rw [show 8 * 24 = k + (192 - k) by omega, sgn_add, Nat.mul_comm f, sgn_pow] at e
      rw [sgn_inj hf e, Nat.zero_mul]
    · have h3 : f * 2 ^ k < 2 ^ (8 * 24) := by
        have := Nat.xor_lt_two_pow lA lC
        rwa [hn, xor_self_left] at this
      have h4 : 2 ^ (8 * 24) ≤ 2 ^ k := Nat.pow_le_pow_right (by decide) (by omega)
      match f with
      | 0 => exact Nat.zero_mul _
      | f + 1 =>
        rw [Nat.add_mul, Nat.one_mul] at h3
        omega
  rw [hn, hz, Nat.xor_zero]
theorem num_app : ∀ (X Y : List Nat), num (X ++ Y) = 2 ^ (8 * X.length) * num Y + num X
  | [], Y => by simp [num]
  | b :: X, Y => by
    have ih := num_app X Y
    rw [List.cons_append, num, ih, num, List.length_cons, show 8 * (X.length + 1) = 8 * X.length + 8 by omega, Nat.pow_add]
    generalize 2 ^ (8 * X.length) = P
    rw [show (2 : Nat) ^ 8 = 256 from rfl, Nat.mul_add, ← Nat.mul_assoc, Nat.mul_comm 256 P]
    omega
theorem xor_high {a b d p : Nat} (ha : a < 2 ^ p) : (2 ^ p * b + a) ^^^ (2 ^ p * d) = 2 ^ p * (b ^^^ d) + a := by
  refine Nat.eq_of_testBit_eq fun j => ?_
  rw [Nat.testBit_xor, Nat.testBit_two_pow_mul_add _ ha, Nat.testBit_two_pow_mul_add _ ha, Nat.testBit_two_pow_mul]
  by_cases h : j < p
  · simp [h, Nat.not_le.2 h]
  · simp [h, Nat.not_lt.1 h, Nat.testBit_xor]
theorem xor_low {r t d q : Nat} (hr : r < 2 ^ q) (hd : d < 2 ^ q) : (2 ^ q * t + r) ^^^ d = 2 ^ q * t + (r ^^^ d) := by
  have hx := Nat.xor_lt_two_pow hr hd
  refine Nat.eq_of_testBit_eq fun j => ?_
  rw [Nat.testBit_xor, Nat.testBit_two_pow_mul_add _ hr, Nat.testBit_two_pow_mul_add _ hx]
  by_cases h : j < q
  · simp [h, Nat.testBit_xor]
  · have : d.testBit j = false := Nat.testBit_lt_two_pow (Nat.lt_of_lt_of_le hd (Nat.pow_le_pow_right (by decide) (by omega)))
    simp [h, this]
theorem parts_uniq {P a a' b b' : Nat} (ha : a < P) (ha' : a' < P) (h : P * b + a = P * b' + a') : a = a' ∧ b = b' := by
  have h1 : (P * b + a) % P = (P * b' + a') % P := by rw [h]
  have h2 : (P * b + a) / P = (P * b' + a') / P := by rw [h]
  have hP : 0 < P := by omega
  rw [Nat.mul_add_mod, Nat.mul_add_mod, Nat.mod_eq_of_lt ha, Nat.mod_eq_of_lt ha'] at h1
  rw [Nat.mul_add_div hP, Nat.mul_add_div hP, Nat.div_eq_of_lt ha, Nat.div_eq_of_lt ha'] at h2
  omega
theorem chunk_ok : ∀ (e n : Nat) (l : List Nat), l.length ≤ n → (dcT n l).1 = 0 → 24 * e + 24 ≤ l.length → ckT (l.drop (24 * e))
  | 0, n, l, hn, h0, hl => by
    rw [Nat.mul_zero, List.drop_zero]
    by_cases h : ckT l
    · exact h
    · rw [dcT_bad (by omega) h hn] at h0; cases h0
  | e + 1, n, l, hn, h0, hl => by
    by_cases h : ckT l
    · rw [dcT_good (by omega) h hn] at h0
      have := chunk_ok e n (l.drop 24) (by rw [List.length_drop]; omega) h0 (by rw [List.length_drop]; omega)
      rwa [List.drop_drop, show 24 + 24 * e = 24 * (e + 1) by omega] at this
    · rw [dcT_bad (by omega) h hn] at h0; cases h0
theorem num_lt2 {l : List Nat} (h : ∀ b ∈ l, b < 256) : num l < 2 ^ (8 * l.length) := by
  have := num_lt l h
  rwa [show (256 : Nat) = 2 ^ 8 from rfl, ← Nat.pow_mul] at this
theorem enc_split (M : List Itm) (e : Nat) (he : e < M.length) : encT M = encT (M.take e) ++ (recT (M.getD e z0) ++ encT (M.drop (e + 1))) := by
  have h : M = M.take e ++ (M.getD e z0 :: M.drop (e + 1)) := by
    simp [List.getD, he]
  conv => lhs; rw [h]
  rw [encT_append, encT_cons]
/-- A burst within an entry, in a list of bytes that is accepted, is none. -/
theorem burst8 {M : List Itm} {C : List Nat} {e bit F : Nat} (hC : ∀ b ∈ C, b < 256) (hl : C.length = 24 * M.length) (he : e < M.length) (hF : F < 4294967296) (hFb : F * 2 ^ bit < 2 ^ 192) (hn : num C = num (encT M) ^^^ F * 2 ^ (192 * e + bit)) (h0 : (dcT C.length C).1 = 0) : C = encT M := by
  have hs := enc_split M e he
  have lA : (encT (M.take e)).length = 24 * e := by rw [encT_length, List.length_take]; omega
  have lT : (encT (M.drop (e + 1))).length = 24 * (M.length - (e + 1)) := by rw [encT_length, List.length_drop]
  have cs : C = C.take (24 * e) ++ ((C.drop (24 * e)).take 24 ++ C.drop (24 * e + 24)) := by
    rw [← List.drop_drop, List.take_append_drop, List.take_append_drop]
  have l1 : (C.take (24 * e)).length = 24 * e := by rw [List.length_take]; omega
  have l2 : ((C.drop (24 * e)).take 24).length = 24 := by rw [List.length_take, List.length_drop]; omega
  have l3 : (C.drop (24 * e + 24)).length = 24 * (M.length - (e + 1)) := by rw [List.length_drop]; omega
  have b1 : ∀ b ∈ C.take (24 * e), b < 256 := fun b hb => hC b (List.mem_of_mem_take hb)
  have b2 : ∀ b ∈ (C.drop (24 * e)).take 24, b < 256 := fun b hb => hC b (List.mem_of_mem_drop (List.mem_of_mem_take hb))
  have b3 : ∀ b ∈ C.drop (24 * e + 24), b < 256 := fun b hb => hC b (List.mem_of_mem_drop hb)
  have n1 := num_lt2 b1
  have n2 := num_lt2 b2
  have nA := num_lt2 (encT_lt (M.take e))
  have nR := num_lt2 (recT_lt (M.getD e z0))
  have hk := chunk_ok e C.length C (Nat.le_refl _) h0 (by omega)
  have hk2 : ckT ((C.drop (24 * e)).take 24) := by
    have h := hk
    unfold ckT at h ⊢
    rw [List.take_take, show min 20 24 = 20 from rfl, List.drop_take, show 24 - 20 = 4 from rfl, List.take_take, show min 4 4 = 4 from rfl]
    exact h
  rw [cs, hs, num_app, num_app, num_app, num_app, l1, l2, lA, recT_length] at hn
  rw [l1] at n1
  rw [l2] at n2
  rw [lA] at nA
  rw [recT_length] at nR
  rw [show F * 2 ^ (192 * e + bit) = 2 ^ (8 * (24 * e)) * (F * 2 ^ bit) by rw [Nat.pow_add, show 8 * (24 * e) = 192 * e by omega, ← Nat.mul_assoc, Nat.mul_comm F, Nat.mul_assoc], xor_high nA] at hn
  obtain ⟨p1, p2⟩ := parts_uniq n1 nA hn
  rw [xor_low nR (by rw [show 8 * 24 = 192 from rfl]; exact hFb)] at p2
  obtain ⟨p3, p4⟩ := parts_uniq n2 (Nat.xor_lt_two_pow nR (by rw [show 8 * 24 = 192 from rfl]; exact hFb)) p2
  have q2 := burst_rec b2 l2 hF p3 hk2
  have q1 := num_inj (l1.trans lA.symm) b1 (encT_lt _) p1
  have q3 := num_inj (l3.trans lT.symm) b3 (encT_lt _) p4
  rw [cs, hs, q1, q2, q3]
theorem burst_iff {M : List Itm} (ok : okT M) (hr : ∀ x ∈ M, ItR x) {C : List Nat} {e bit F : Nat} (hC : ∀ b ∈ C, b < 256) (hl : C.length = 24 * M.length) (he : e < M.length) (hF : F < 4294967296) (hFb : F * 2 ^ bit < 2 ^ 192) (hn : num C = num (encT M) ^^^ F * 2 ^ (192 * e + bit)) : (encT M = C) ↔ dE8 C = 0 := by
  constructor
  · intro h
    rw [← h]
    have h1 := dcT_enc M hr ok.1 (encT M).length (Nat.le_refl _)
    unfold dE8
    rw [h1, if_neg (fun h => h rfl), if_pos ok]
  · intro h
    refine (burst8 hC hl he hF hFb hn ?_).symm
    unfold dE8 at h
    by_cases h1 : (dcT C.length C).1 ≠ 0
    · rw [if_pos h1] at h; exact absurd h h1
    · simpa using h1
end Go.Proofs.YtihjfnlimdcmkaaDoor.Gf
