/- What is proved here: the plain mathematics of Salvage: a record with one changed byte is not found, and what stands around it is. No program text. -/
import Derived.Test.YtlnccofanicihaaDoorM9a
namespace Go.Proofs.YtlnccofanicihaaDoor.Gf
open Go Go.Proofs.YtlnccofanicihaaDoor.Crc

theorem getD_front {c T : List Nat} {i : Nat} (h : i < c.length) : (c ++ T).getD i 0 = c.getD i 0 := by
  simp [List.getD_eq_getElem?_getD, List.getElem?_append_left h]
theorem seg_front {c T : List Nat} {i n : Nat} (h : i + n ≤ c.length) : ((c ++ T).drop i).take n = (c.drop i).take n := by
  rw [List.drop_append_of_le_length (by omega), List.take_append_of_le_length (by rw [List.length_drop]; omega)]
/-- What Decode finds in front does not hang on what stands behind. -/
theorem dec_front {c T : List Nat} (hc : 24 ≤ c.length) (hl : c.length = szR (lenR c)) (h : decE (c ++ T) = 0) : decE c = 0 := by
  obtain ⟨_, h2, _, h4, h5⟩ := dec_of h
  have e : lenR (c ++ T) = lenR c := by
    unfold lenR
    rw [seg_front (by omega)]
  have hge := szR_ge (lenR c)
  refine dec_ok (by omega) ?_ (by omega) ?_ ?_
  · unfold hdOk at h2 ⊢
    rw [e, getD_front (by omega), getD_front (by omega), getD_front (by omega), getD_front (by omega)] at h2
    exact h2
  · unfold ckOk at h4 ⊢
    rw [e, List.take_append_of_le_length (by omega), seg_front (by omega)] at h4
    exact h4
  · unfold pdOk at h5 ⊢
    intro i h6 h7
    have h8 := h5 i (by rw [e]; exact h6) (by rw [e]; exact h7)
    rw [getD_front (by omega)] at h8
    exact h8
theorem getD_set_ne {l : List Nat} {q i v : Nat} (h : q ≠ i) : (l.set q v).getD i 0 = l.getD i 0 := by
  simp [List.getD_eq_getElem?_getD, List.getElem?_set_ne h]
theorem getD_set_eq9 {l : List Nat} {q v : Nat} (h : q < l.length) : (l.set q v).getD q 0 = v := by
  simp [List.getD_eq_getElem?_getD, List.getElem?_set_self h]
/-- The bytes of a record's length stand at 16 to 19. -/
theorem seg_set {l : List Nat} {q v : Nat} (h : q < 16 ∨ 20 ≤ q) : ((l.set q v).drop 16).take 4 = (l.drop 16).take 4 := by
  apply List.ext_getElem?
  intro i
  by_cases hi : i < 4
  · rw [List.getElem?_take_of_lt hi, List.getElem?_take_of_lt hi, List.getElem?_drop, List.getElem?_drop, List.getElem?_set_ne (by omega)]
  · rw [List.getElem?_eq_none (by rw [List.length_take]; omega), List.getElem?_eq_none (by rw [List.length_take]; omega)]
/-- A record with one changed byte, not in its length, is no record. -/
theorem dmg_err {x : Ndl} (ok : NdOk x) (he : encE x = 0) {q y : Nat} (hq : q < szR x.data.length) (hy : y < 256) (hy0 : y ≠ 0) (hne : q < 16 ∨ 20 ≤ q) (T : List Nat) : decE ((recL x).set q ((recL x).getD q 0 ^^^ y) ++ T) ≠ 0 := fun h => by
  have hb := recL_lt ok.2.2
  have hlen : ((recL x).set q ((recL x).getD q 0 ^^^ y)).length = (recL x).length := List.length_set
  have hr := recL_length x
  have hge := szR_ge x.data.length
  have hm := seg_set (l := recL x) (v := (recL x).getD q 0 ^^^ y) hne
  have hlr : lenR ((recL x).set q ((recL x).getD q 0 ^^^ y)) = x.data.length := by
    unfold lenR
    rw [hm]
    have h2 := (hd_read ok he (x.data ++ (leL (ext 0 (bodyL x)) ++ (List.replicate (szR x.data.length - (24 + x.data.length)) 0 ++ [])))).2.1
    rw [← rec_cut, List.append_nil] at h2
    exact h2
  have hq2 : q < (recL x).length := by omega
  have hg : (recL x).getD q 0 < 256 := by
    rw [List.getD_eq_getElem?_getD, List.getElem?_eq_getElem hq2]
    exact hb _ (List.getElem_mem _)
  have hx : (recL x).getD q 0 ^^^ y < 256 := Nat.xor_lt_two_pow (n := 8) hg hy
  have h0 := dec_front (by rw [hlen]; omega) (by rw [hlen, hlr, hr]) h
  have hall : ∀ b ∈ (recL x).set q ((recL x).getD q 0 ^^^ y), b < 256 := fun b hb2 => by
    rcases List.mem_or_eq_of_mem_set hb2 with h1 | h1
    · exact hb b h1
    · rw [h1]; exact hx
  have heq := dec_burst ok he hall hlen (f := y) (by omega) (num_set (recL x) q y hb hy hq2) hm h0
  have h9 := congrArg (fun l => l.getD q 0) heq
  simp only [getD_set_eq9 hq2] at h9
  have h10 := xor_self_left ((recL x).getD q 0) y
  rw [h9, Nat.xor_self] at h10
  exact hy0 h10.symm
/-- No record begins without its mark. -/
theorem dec_mark {l : List Nat} (h : l.getD 0 0 ≠ 78) : decE l ≠ 0 := fun h0 => h (dec_of h0).2.1.1
theorem drop_getD (b : List Nat) (p : Nat) : (b.drop p).getD 0 0 = b.getD p 0 := by
  simp [List.getD_eq_getElem?_getD]
/-- Salvage goes over places without a mark. -/
theorem slv_over (b : List Nat) (p : Nat) : ∀ (n : Nat), (∀ i, i < n → decE (b.drop (p + 8 * i)) ≠ 0) → slv b p = slv b (p + 8 * n)
  | 0, _ => rfl
  | n + 1, h => by
    rw [slv_over b p n fun i hi => h i (by omega), slv_err (h n (by omega)), Nat.add_assoc]
    rfl
theorem goodN_append {k m : List Ndl} : GoodN (k ++ m) ↔ GoodN k ∧ GoodN m := by
  unfold GoodN
  constructor
  · exact fun h => ⟨fun x hx => h x (List.mem_append_left _ hx), fun x hx => h x (List.mem_append_right _ hx)⟩
  · rintro ⟨h1, h2⟩ x hx
    rcases List.mem_append.1 hx with h | h
    · exact h1 x h
    · exact h2 x h
theorem slv_dmg {P : List Nat} {k m : List Ndl} {x : Ndl} {q y : Nat} (hk : GoodN k) (hm : GoodN m) (ok : NdOk x) (he : encE x = 0) (hq : q < szR x.data.length) (hy : y < 256) (hy0 : y ≠ 0) (hne : q < 16 ∨ 20 ≤ q)
    (h78 : ∀ i, 0 < i → 8 * i < szR x.data.length → ((recL x).set q ((recL x).getD q 0 ^^^ y)).getD (8 * i) 0 ≠ 78) :
    slv (P ++ (bodF k ++ ((recL x).set q ((recL x).getD q 0 ^^^ y) ++ bodF m))) P.length = rcs P.length k ++ rcs (P.length + (bodF k).length + szR x.data.length) m := by
  rw [slv_file k P _ hk]
  congr 1
  generalize hc : (recL x).set q ((recL x).getD q 0 ^^^ y) = c at *
  have hlen : c.length = szR x.data.length := by rw [← hc, List.length_set, recL_length]
  have h8 : szR x.data.length = 8 * (szR x.data.length / 8) := by unfold szR; omega
  have e1 : P ++ (bodF k ++ (c ++ bodF m)) = (P ++ bodF k) ++ (c ++ bodF m) := by rw [List.append_assoc]
  have e2 : P.length + (bodF k).length = (P ++ bodF k).length := by rw [List.length_append]
  rw [e1, e2]
  generalize P ++ bodF k = A
  rw [slv_over _ A.length (szR x.data.length / 8) ?_]
  · have e3 : A ++ (c ++ bodF m) = (A ++ c) ++ (bodF m ++ []) := by rw [List.append_assoc, List.append_nil]
    have e4 : A.length + 8 * (szR x.data.length / 8) = (A ++ c).length := by rw [List.length_append, hlen]; omega
    rw [e3, e4, slv_file m (A ++ c) [] hm, slv_end (by simp only [List.length_append, List.length_nil]; omega), List.append_nil, ← e4, ← h8]
  · intro i hi
    rcases Nat.eq_zero_or_pos i with rfl | hp
    · rw [show A.length + 8 * 0 = A.length from rfl, drop_app9, ← hc]
      exact dmg_err ok he hq hy hy0 hne _
    · refine dec_mark ?_
      rw [drop_getD]
      have e5 : (A ++ (c ++ bodF m)).getD (A.length + 8 * i) 0 = c.getD (8 * i) 0 := by
        rw [List.getD_eq_getElem?_getD, List.getElem?_append_right (by omega), show A.length + 8 * i - A.length = 8 * i by omega, List.getElem?_append_left (by omega), ← List.getD_eq_getElem?_getD]
      rw [e5]
      exact h78 i hp (by omega)
end Go.Proofs.YtlnccofanicihaaDoor.Gf
