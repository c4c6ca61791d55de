/- What is proved here: a record is read back whatever follows it; what is read is the record that is written; a record cut short is too short; a changed burst is noticed. No program text. -/
import Derived.Test.YtbkhedfhnmkodaaDoorN6
import Derived.Test.YtbkhedfhnmkodaaDoorMath2
import Derived.Test.YtbkhedfhnmkodaaDoorMath3
namespace Go.Proofs.YtbkhedfhnmkodaaDoor.Gf
open Go.Proofs.YtbkhedfhnmkodaaDoor.Crc

theorem seg {A B C : List Nat} {n m : Nat} (hA : A.length = n) (hB : B.length = m) : ((A ++ (B ++ C)).drop n).take m = B := by
  subst hA
  subst hB
  simp
/-- A needle as Go has it. -/
def NdOk (x : Ndl) : Prop := x.key < 18446744073709551616 ∧ x.cookie < 4294967296 ∧ ∀ b ∈ x.data, b < 256
theorem enc_ok {x : Ndl} (h : encE x = 0) : x.data.length ≤ 4096 ∧ (x.del = true → x.data.length = 0) := by
  unfold encE at h
  by_cases h1 : 4096 < x.data.length
  · rw [if_pos h1] at h; cases h
  · rw [if_neg h1] at h
    refine ⟨by omega, fun hd => ?_⟩
    by_cases h2 : 0 < x.data.length
    · rw [if_pos ⟨hd, h2⟩] at h; cases h
    · omega
theorem enc_of {x : Ndl} (h1 : x.data.length ≤ 4096) (h2 : x.del = true → x.data.length = 0) : encE x = 0 := by
  unfold encE
  rw [if_neg (by omega), if_neg (fun h => by have := h2 h.1; omega)]
/-- The header read back. -/
theorem hd_read {x : Ndl} (ok : NdOk x) (h : encE x = 0) (T : List Nat) : hdOk (hdL x ++ T) ∧ lenR (hdL x ++ T) = x.data.length ∧ valL (((hdL x ++ T).drop 8).take 8) = x.key ∧ valL (((hdL x ++ T).drop 4).take 4) = x.cookie ∧ (hdL x ++ T).getD 2 0 = (if x.del then 1 else 0) := by
  obtain ⟨e1, e2⟩ := enc_ok h
  have hf : ∀ D, ([78, 165, D, 0] : List Nat).length = 4 := fun _ => rfl
  have hl : lenR (hdL x ++ T) = x.data.length := by
    unfold lenR hdL
    rw [List.append_assoc _ (beL 4 x.data.length) T, seg (by simp [beL_length]) (beL_length _ _), val_beL _ _ (by omega)]
  have hk : valL (((hdL x ++ T).drop 8).take 8) = x.key := by
    unfold hdL
    rw [List.append_assoc _ (beL 4 x.data.length) T, List.append_assoc _ (beL 8 x.key), seg (by simp [beL_length]) (beL_length _ _), val_beL _ _ (by simpa using ok.1)]
  have hc : valL (((hdL x ++ T).drop 4).take 4) = x.cookie := by
    unfold hdL
    rw [List.append_assoc _ (beL 4 x.data.length) T, List.append_assoc _ (beL 8 x.key), List.append_assoc _ (beL 4 x.cookie), seg (hf _) (beL_length _ _), val_beL _ _ (by simpa using ok.2.1)]
  have g : ∀ k, (hdL x ++ T).getD k 0 = ([78, 165, if x.del then 1 else 0, 0] ++ (beL 4 x.cookie ++ (beL 8 x.key ++ (beL 4 x.data.length ++ T)))).getD k 0 := fun k => by
    unfold hdL
    simp only [List.append_assoc]
  have g0 : (hdL x ++ T).getD 0 0 = 78 := by rw [g]; rfl
  have g1 : (hdL x ++ T).getD 1 0 = 165 := by rw [g]; rfl
  have g2 : (hdL x ++ T).getD 2 0 = (if x.del then 1 else 0) := by rw [g]; rfl
  have g3 : (hdL x ++ T).getD 3 0 = 0 := by rw [g]; rfl
  refine ⟨⟨g0, g1, ?_, g3, by omega, fun hh => ?_⟩, hl, hk, hc, g2⟩
  · rw [g2]; split <;> omega
  · rw [g2, hl] at hh
    by_cases hd : x.del = true
    · have := e2 hd
      omega
    · rw [if_neg hd] at hh
      omega
theorem rec_cut (x : Ndl) (T : List Nat) : recL x ++ T = hdL x ++ (x.data ++ (leL (ext 0 (bodyL x)) ++ (List.replicate (szR x.data.length - (24 + x.data.length)) 0 ++ T))) := by
  unfold recL bodyL
  simp only [List.append_assoc]
/-- A record is read back, whatever follows it. -/
theorem dec_rec {x : Ndl} (ok : NdOk x) (h : encE x = 0) (T : List Nat) : decE (recL x ++ T) = 0 ∧ decX (recL x ++ T) = x ∧ decN (recL x ++ T) = szR x.data.length := by
  obtain ⟨h2, hl, hk, hc, hd⟩ := hd_read ok h (x.data ++ (leL (ext 0 (bodyL x)) ++ (List.replicate (szR x.data.length - (24 + x.data.length)) 0 ++ T)))
  rw [← rec_cut] at h2 hl hk hc hd
  have hlen : (recL x ++ T).length = szR x.data.length + T.length := by rw [List.length_append, recL_length]
  have hge := szR_ge x.data.length
  have h4 : ckOk (recL x ++ T) := by
    unfold ckOk
    rw [hl]
    have e : recL x ++ T = bodyL x ++ (leL (ext 0 (bodyL x)) ++ (List.replicate (szR x.data.length - (24 + x.data.length)) 0 ++ T)) := by
      unfold recL
      simp only [List.append_assoc]
    rw [e, ← bodyL_length x, List.take_left, seg rfl (leL_length _)]
  have h5 : pdOk (recL x ++ T) := by
    intro i hi hi2
    rw [hl] at hi hi2
    have e : recL x ++ T = (bodyL x ++ leL (ext 0 (bodyL x))) ++ (List.replicate (szR x.data.length - (24 + x.data.length)) 0 ++ T) := by
      unfold recL
      simp only [List.append_assoc]
    have e2 : (bodyL x ++ leL (ext 0 (bodyL x))).length = 24 + x.data.length := by rw [List.length_append, bodyL_length, leL_length]; omega
    rw [e, List.getD_eq_getElem?_getD, List.getElem?_append_right (by omega), e2, List.getElem?_append_left (by rw [List.length_replicate]; omega), List.getElem?_replicate, if_pos (by omega)]
    rfl
  have h0 := dec_ok (l := recL x ++ T) (by omega) h2 (by rw [hl, hlen]; omega) h4 h5
  refine ⟨h0, ?_, ?_⟩
  · unfold decX
    rw [if_pos h0, hk, hc, hd, hl]
    have e : ((recL x ++ T).drop 20).take x.data.length = x.data := by
      rw [rec_cut, seg (hdL_length x) rfl]
    rw [e]
    obtain ⟨k, c, d, l⟩ := x
    cases d <;> rfl
  · unfold decN
    rw [if_pos h0, hl]
theorem take_add' (l : List Nat) (a b : Nat) : l.take (a + b) = l.take a ++ (l.drop a).take b := List.take_add ..
theorem take4 {l : List Nat} {a b c d : Nat} (h : 4 ≤ l.length) (h0 : l.getD 0 0 = a) (h1 : l.getD 1 0 = b) (h2 : l.getD 2 0 = c) (h3 : l.getD 3 0 = d) : l.take 4 = [a, b, c, d] := by
  match l, h with
  | p :: q :: r :: s :: t, _ =>
    simp only [List.getD_cons_zero, List.getD_cons_succ] at h0 h1 h2 h3
    subst h0; subst h1; subst h2; subst h3
    rfl
theorem mem_seg {l : List Nat} (h : ∀ b ∈ l, b < 256) (a n : Nat) : ∀ b ∈ (l.drop a).take n, b < 256 := fun b hb => h b (List.mem_of_mem_drop (List.mem_of_mem_take hb))
/-- What is read of bytes fits a needle. -/
theorem dec_nd {l : List Nat} (hl : ∀ b ∈ l, b < 256) : NdOk (decX l) := by
  unfold decX
  split
  · refine ⟨?_, ?_, mem_seg hl _ _⟩
    · have h := valL_lt _ (mem_seg hl 8 8)
      have h2 : ((l.drop 8).take 8).length ≤ 8 := by rw [List.length_take]; omega
      exact Nat.lt_of_lt_of_le h (by have := Nat.pow_le_pow_right (n := 256) (by decide) h2; simpa using this)
    · have h := valL_lt _ (mem_seg hl 4 4)
      have h2 : ((l.drop 4).take 4).length ≤ 4 := by rw [List.length_take]; omega
      exact Nat.lt_of_lt_of_le h (by have := Nat.pow_le_pow_right (n := 256) (by decide) h2; simpa using this)
  · exact ⟨by decide, by decide, by simp⟩
/-- What is read of bytes is the record that is written. -/
theorem dec_unique {l : List Nat} (hl : ∀ b ∈ l, b < 256) (h : decE l = 0) : encE (decX l) = 0 ∧ recL (decX l) = l.take (decN l) ∧ decN l ≤ l.length ∧ (decX l).data.length = lenR l := by
  obtain ⟨h1, ⟨g0, g1, g2, g3, g4, g5⟩, h3, h4, h5⟩ := dec_of h
  have hge := szR_ge (lenR l)
  have hdl : (decX l).data = (l.drop 20).take (lenR l) := by unfold decX; rw [if_pos h]
  have hn : (decX l).data.length = lenR l := by rw [hdl, List.length_take, List.length_drop]; omega
  have hN : decN l = szR (lenR l) := by unfold decN; rw [if_pos h]
  have he : encE (decX l) = 0 := by
    refine enc_of (by omega) fun hd => ?_
    unfold decX at hd
    rw [if_pos h] at hd
    have : l.getD 2 0 = 1 := by simpa using hd
    omega
  have hlen : ∀ a n, a + n ≤ l.length → ((l.drop a).take n).length = n := fun a n h => by rw [List.length_take, List.length_drop]; omega
  have b4 : ∀ a, a + 4 ≤ l.length → beL 4 (valL ((l.drop a).take 4)) = (l.drop a).take 4 := fun a ha => by
    have e := beL_val _ (mem_seg hl a 4)
    rwa [hlen a 4 ha] at e
  have b8 : beL 8 (valL ((l.drop 8).take 8)) = (l.drop 8).take 8 := by
    have e := beL_val _ (mem_seg hl 8 8)
    rwa [hlen 8 8 (by omega)] at e
  have hhd : hdL (decX l) = l.take 20 := by
    have ek : (decX l).key = valL ((l.drop 8).take 8) := by unfold decX; rw [if_pos h]
    have ec : (decX l).cookie = valL ((l.drop 4).take 4) := by unfold decX; rw [if_pos h]
    have ed : (if (decX l).del then 1 else 0) = l.getD 2 0 := by
      unfold decX
      rw [if_pos h]
      by_cases e : l.getD 2 0 = 1
      · rw [e]; rfl
      · have e2 : l.getD 2 0 = 0 := by omega
        rw [e2]; rfl
    unfold hdL
    rw [ek, ec, ed, hn, b4 4 (by omega), b8, show lenR l = valL ((l.drop 16).take 4) from rfl, b4 16 (by omega), show (20 : Nat) = ((4 + 4) + 8) + 4 from rfl, take_add', take_add', take_add', take4 (by omega) g0 g1 rfl g3]
  have hbody : bodyL (decX l) = l.take (20 + lenR l) := by
    unfold bodyL
    rw [hhd, hdl, take_add']
  refine ⟨he, ?_, by omega, hn⟩
  rw [hN]
  unfold recL
  rw [hbody, hn]
  unfold ckOk at h4
  rw [h4, show szR (lenR l) = (20 + lenR l + 4) + (szR (lenR l) - (24 + lenR l)) by omega, take_add' l (20 + lenR l + 4), take_add' l (20 + lenR l)]
  congr 1
  have hz : 20 + lenR l + 4 + (szR (lenR l) - (24 + lenR l)) - (24 + lenR l) = szR (lenR l) - (24 + lenR l) := by omega
  rw [hz]
  apply List.ext_getElem
  · rw [List.length_replicate, List.length_take, List.length_drop]; omega
  · intro i i1 i2
    rw [List.length_replicate] at i1
    rw [List.getElem_replicate, List.getElem_take, List.getElem_drop]
    have := h5 (20 + lenR l + 4 + i) (by omega) (by omega)
    rw [List.getD_eq_getElem?_getD, List.getElem?_eq_getElem (by omega)] at this
    exact this.symm
/-- A record of which bytes are missing is too short. -/
theorem dec_short {x : Ndl} (ok : NdOk x) (h : encE x = 0) {m : Nat} (hm : m < szR x.data.length) : decE ((recL x).take m) = 4 := by
  have hlen : ((recL x).take m).length = m := by rw [List.length_take, recL_length]; omega
  by_cases h1 : m < 20
  · unfold decE
    rw [if_pos (by omega)]
  · have e : (recL x).take m = hdL x ++ ((x.data ++ (leL (ext 0 (bodyL x)) ++ List.replicate (szR x.data.length - (24 + x.data.length)) 0)).take (m - 20)) := by
      have e0 := rec_cut x []
      rw [List.append_nil, List.append_nil] at e0
      rw [e0, List.take_append, hdL_length, List.take_of_length_le (by rw [hdL_length]; omega)]
    have hr := hd_read ok h ((x.data ++ (leL (ext 0 (bodyL x)) ++ List.replicate (szR x.data.length - (24 + x.data.length)) 0)).take (m - 20))
    rw [← e] at hr
    unfold decE
    rw [if_neg (by omega), if_neg (not_not_intro hr.1), if_pos (by rw [hlen, hr.2.1]; exact hm)]
theorem num_zeros (A : List Nat) (n : Nat) : num (A ++ List.replicate n 0) = num A := by
  induction A with
  | nil =>
    induction n with
    | zero => rfl
    | succ n ih =>
      rw [List.nil_append] at ih
      rw [List.nil_append, List.replicate_succ]
      show 0 + 256 * num (List.replicate n 0) = 0
      rw [ih]
      rfl
  | cons a A ih => rw [List.cons_append, num, num, ih]
theorem num_lt : ∀ (l : List Nat), (∀ b ∈ l, b < 256) → num l < 256 ^ l.length
  | [], _ => by decide
  | b :: l, h => by
    have h1 := num_lt l fun c hc => h c (by simp [hc])
    have h2 := h b (by simp)
    rw [List.length_cons, Nat.pow_succ]
    show b + 256 * num l < _
    omega
theorem num_leL {s : Nat} (h : s < 4294967296) : num (leL s) = s := by
  simp only [leL, num]
  omega
/-- The register behind a body and its checksum. -/
theorem run_check {B : List Nat} (hB : ∀ b ∈ B, b < 256) : run 4294967295 (B ++ leL (ext 0 B)) = sgn 32 4294967295 := by
  have hs : ext 0 B < 4294967296 := by
    unfold ext
    exact Nat.xor_lt_two_pow (n := 32) (by decide) (run_lt (by decide) hB)
  rw [run_append, run_num _ _ (leL_lt _), leL_length, num_leL hs]
  congr 1
  unfold ext
  rw [show 4294967295 ^^^ 0 = 4294967295 from rfl, Nat.xor_comm 4294967295 (run 4294967295 B), ← Nat.xor_assoc, Nat.xor_self, Nat.zero_xor]
/-- A burst of up to 32 bits in a record is noticed. -/
theorem dec_burst {x : Ndl} (ok : NdOk x) (h : encE x = 0) {c : List Nat} {f k : Nat} (hc : ∀ b ∈ c, b < 256) (hlen : c.length = (recL x).length) (hf : f < 4294967296) (hn : num c = num (recL x) ^^^ f * 2 ^ k) (hm : (c.drop 16).take 4 = ((recL x).drop 16).take 4) (h0 : decE c = 0) : c = recL x := by
  obtain ⟨u1, u2, u3, u4⟩ := dec_unique hc h0
  have r := hd_read ok h (x.data ++ (leL (ext 0 (bodyL x)) ++ (List.replicate (szR x.data.length - (24 + x.data.length)) 0 ++ [])))
  rw [← rec_cut, List.append_nil] at r
  have hl : lenR c = x.data.length := by
    rw [← r.2.1]
    unfold lenR
    rw [hm]
  have hN : decN c = szR (lenR c) := by unfold decN; rw [if_pos h0]
  rw [hN, hl, List.take_of_length_le (by rw [hlen, recL_length]; exact Nat.le_refl _)] at u2
  rw [hl] at u4
  have hy := dec_nd hc
  generalize decX c = y at *
  refine num_inj hlen hc (recL_lt ok.2.2) ?_
  rw [← u2] at hn ⊢
  unfold recL at hn ⊢
  rw [num_zeros, num_zeros] at hn ⊢
  have cx := run_check (bodyL_lt ok.2.2)
  have cy := run_check (bodyL_lt hy.2.2)
  have lx : (bodyL x ++ leL (ext 0 (bodyL x))).length = 24 + x.data.length := by rw [List.length_append, bodyL_length, leL_length]; omega
  have ly : (bodyL y ++ leL (ext 0 (bodyL y))).length = 24 + x.data.length := by rw [List.length_append, bodyL_length, leL_length, u4]; omega
  have bx : ∀ b ∈ bodyL x ++ leL (ext 0 (bodyL x)), b < 256 := fun b hb => (List.mem_append.1 hb).elim (bodyL_lt ok.2.2 b) (leL_lt _ b)
  have by' : ∀ b ∈ bodyL y ++ leL (ext 0 (bodyL y)), b < 256 := fun b hb => (List.mem_append.1 hb).elim (bodyL_lt hy.2.2 b) (leL_lt _ b)
  generalize bodyL x ++ leL (ext 0 (bodyL x)) = A at *
  generalize bodyL y ++ leL (ext 0 (bodyL y)) = C at *
  rw [run_num _ _ bx, lx] at cx
  rw [run_num _ _ by', ly, hn] at cy
  have e : sgn (8 * (24 + x.data.length)) (f * 2 ^ k) = 0 := by
    rw [← Nat.xor_assoc, sgn_xor, cx] at cy
    have := congrArg (fun z => sgn 32 4294967295 ^^^ z) cy
    simpa [xor_self_left] using this
  have hz : f * 2 ^ k = 0 := by
    by_cases hk : k ≤ 8 * (24 + x.data.length)
    · rw [show 8 * (24 + x.data.length) = k + (8 * (24 + x.data.length) - k) by omega, sgn_add, Nat.mul_comm f, sgn_pow] at e
      rw [sgn_inj hf e, Nat.zero_mul]
    · have h1 : num A < 2 ^ (8 * (24 + x.data.length)) := by
        have := num_lt _ bx
        rwa [lx, show (256 : Nat) = 2 ^ 8 from rfl, ← Nat.pow_mul] at this
      have h2 : num C < 2 ^ (8 * (24 + x.data.length)) := by
        have := num_lt _ by'
        rwa [ly, show (256 : Nat) = 2 ^ 8 from rfl, ← Nat.pow_mul] at this
      have h3 : f * 2 ^ k < 2 ^ (8 * (24 + x.data.length)) := by
        have := Nat.xor_lt_two_pow h1 h2
        rwa [hn, xor_self_left] at this
      have h4 : 2 ^ (8 * (24 + x.data.length)) ≤ 2 ^ k := Nat.pow_le_pow_right (by decide) (by omega)
      match f with
      | 0 => exact Nat.zero_mul _
      | f + 1 =>
        rw [Nat.add_mul, Nat.one_mul] at h3
        omega
  rw [hn, hz, Nat.xor_zero]
end Go.Proofs.YtbkhedfhnmkodaaDoor.Gf
