/- What is proved here: the plain mathematics of the laws of layer 9: where the records of a file stand, what a torn file has, what a changed byte leaves, the last record of a key. No program text. -/
import Derived.Test.YtlnccofanicihaaDoorR9f
import Derived.Test.YtlnccofanicihaaDoorM9b
import Derived.Test.YtlnccofanicihaaDoorM9c
namespace Go.Proofs.YtlnccofanicihaaDoor.Gf
open Go Go.Proofs.YtlnccofanicihaaDoor.Crc

theorem getD_eqn {k : List Ndl} {i : Nat} (h : i < k.length) : k.getD i nd0 = k[i] := by
  rw [List.getD_eq_getElem?_getD, List.getElem?_eq_getElem h]
  rfl
theorem rcs_get : ∀ (k : List Ndl) (p i : Nat), i < k.length → (rcs p k).getD i rc0 = ⟨((p + (bodF (k.take i)).length : Nat) : Int), k.getD i nd0⟩
  | [], _, _, h => by simp at h
  | x :: k, p, 0, _ => by simp [rcs, bodF]
  | x :: k, p, i + 1, h => by
    have ih := rcs_get k (p + szR x.data.length) i (by simpa using h)
    rw [rcs, List.getD_cons_succ, ih, List.take_succ_cons, bodF_cons, List.length_append, recL_length, List.getD_cons_succ, Nat.add_assoc]
theorem bod_succ {k : List Ndl} {i : Nat} (h : i < k.length) : (bodF (k.take (i + 1))).length = (bodF (k.take i)).length + szR (k.getD i nd0).data.length := by
  rw [take_snocN h, bodF_append, List.length_append]
  simp [bodF, recL_length]
theorem fil_take (k : List Ndl) (i : Nat) : (filL (k.take i)).length = 16 + (bodF (k.take i)).length := by
  unfold filL
  rw [List.length_append, encS_length]
theorem ends_get {k : List Ndl} {n i : Nat} (h : i < n) : (endsL k n).getD i 0 = 16 + (bodF (k.take (i + 1))).length := by
  unfold endsL
  rw [List.getD_eq_getElem?_getD, List.getElem?_map, List.getElem?_range h, ← fil_take]
  rfl
theorem bod_mono (k : List Ndl) {i j : Nat} (h : i ≤ j) : (bodF (k.take i)).length ≤ (bodF (k.take j)).length := by
  rw [show j = i + (j - i) by omega, List.take_add, bodF_append, List.length_append]
  omega
theorem bod_all (k : List Ndl) : bodF (k.take k.length) = bodF k := by rw [List.take_length]
theorem good_get {k : List Ndl} (hk : GoodN k) {i : Nat} (h : i < k.length) : NdOk (k.getD i nd0) ∧ encE (k.getD i nd0) = 0 := hk _ (by rw [getD_eqn h]; exact List.getElem_mem _)
theorem endsL_length (k : List Ndl) (n : Nat) : (endsL k n).length = n := by simp [endsL]
theorem endsV_get (l : List Nat) {i : Nat} (h : i < l.length) : (endsV l)[i]? = some (.int .i64 ((l.getD i 0 : Nat) : Int)) := by
  unfold endsV
  rw [List.getElem?_map, List.getElem?_eq_getElem h, List.getD_eq_getElem?_getD, List.getElem?_eq_getElem h]
  rfl
/-- A file that is cut off. -/
theorem fil_torn {k : List Ndl} (hk : GoodN k) {n : Nat} (hn : 16 ≤ n) : ∃ j T, j ≤ k.length ∧ (filL k).take n = filL (k.take j) ++ T ∧ decE T ≠ 0 ∧ (∀ i, i < k.length → ((endsL k k.length).getD i 0 ≤ n ↔ i < j)) := by
  obtain ⟨j, T, h1, h2, h3, h4, h5⟩ := torn k (n - 16) hk
  refine ⟨j, T, h1, ?_, h3, fun i hi => ?_⟩
  · unfold filL
    rw [List.take_append, encS_length, List.take_of_length_le (by rw [encS_length]; exact hn), h2, List.append_assoc]
  · rw [ends_get hi]
    constructor
    · intro h
      refine Nat.lt_of_not_le fun c => ?_
      have h6 := h5 (by omega)
      have h7 := bod_mono k (i := j + 1) (j := i + 1) (by omega)
      omega
    · intro h
      have h7 := bod_mono k (i := i + 1) (j := j) (by omega)
      omega
theorem goodN_take {k : List Ndl} (h : GoodN k) (n : Nat) : GoodN (k.take n) := fun x hx => h x (List.mem_of_mem_take hx)
theorem goodN_drop {k : List Ndl} (h : GoodN k) (n : Nat) : GoodN (k.drop n) := fun x hx => h x (List.mem_of_mem_drop hx)
theorem take_getD {k : List Ndl} {i j : Nat} (h : i < j) : (k.take j).getD i nd0 = k.getD i nd0 := by
  rw [List.getD_eq_getElem?_getD, List.getElem?_take_of_lt h, List.getD_eq_getElem?_getD]
/-- The last needle with a key. -/
def lastF (k : List Ndl) (key : Nat) : Nat → Int
  | 0 => -1
  | n + 1 => if (k.getD n nd0).key = key then (n : Int) else lastF k key n
theorem lastF_lt (k : List Ndl) (key : Nat) : ∀ n, -1 ≤ lastF k key n ∧ lastF k key n < n
  | 0 => by simp [lastF]
  | n + 1 => by
    have h := lastF_lt k key n
    unfold lastF
    split <;> omega
/-- The items of a file, by the last record of a key. -/
theorem lk_lastF (k : List Ndl) (key : Nat) : ∀ n, n ≤ k.length → lk (itemsL ((rcs 16 k).take n)) key = if lastF k key n < 0 then none else if (k.getD (lastF k key n).toNat nd0).del then none else some (itmOf ((rcs 16 k).getD (lastF k key n).toNat rc0))
  | 0, _ => by simp [lastF, itemsL, lk]
  | n + 1, h => by
    have ih := lk_lastF k key n (by omega)
    have hr := rcs_length k 16
    rw [take_snocR (by omega), lk_itemsL, rcs_get k 16 n (by omega), ih]
    by_cases c : (k.getD n nd0).key = key
    · rw [show lastF k key (n + 1) = (n : Int) by rw [lastF, if_pos c], if_neg (show ¬ (n : Int) < 0 by omega), show ((n : Int)).toNat = n from Int.toNat_natCast n, rcs_get k 16 n (by omega)]
      dsimp only
      rw [if_pos c]
    · rw [show lastF k key (n + 1) = lastF k key n by rw [lastF, if_neg c]]
      dsimp only
      rw [if_neg c]
theorem lk_last (k : List Ndl) (key : Nat) : lk (itemsL (rcs 16 k)) key = if lastF k key k.length < 0 then none else if (k.getD (lastF k key k.length).toNat nd0).del then none else some (itmOf ((rcs 16 k).getD (lastF k key k.length).toNat rc0)) := by
  have h := lk_lastF k key k.length (Nat.le_refl _)
  rw [List.take_of_length_le (by rw [rcs_length]; exact Nat.le_refl _)] at h
  exact h
/-- How many of the first n items have a key. -/
def cntF (L : List Itm) (key : Nat) : Nat → Nat
  | 0 => 0
  | n + 1 => if (L.getD n z0).key = key then cntF L key n + 1 else cntF L key n
theorem cntF_le (L : List Itm) (key : Nat) : ∀ n, cntF L key n ≤ n
  | 0 => Nat.le_refl _
  | n + 1 => by
    have h := cntF_le L key n
    unfold cntF
    split <;> omega
theorem cntF_zero {L : List Itm} {key : Nat} (h : ∀ x ∈ L, x.key ≠ key) : ∀ n, n ≤ L.length → cntF L key n = 0
  | 0, _ => rfl
  | n + 1, hn => by
    unfold cntF
    rw [if_neg (h _ (getT_mem (by omega))), cntF_zero h n (by omega)]
theorem asc_getD {L : List Itm} (h : Asc L) {i j : Nat} (hij : i < j) (hj : j < L.length) : (L.getD i z0).key < (L.getD j z0).key := by
  rw [List.getD_eq_getElem?_getD, List.getD_eq_getElem?_getD, List.getElem?_eq_getElem hj, List.getElem?_eq_getElem (by omega)]
  exact (List.pairwise_iff_getElem.1 h) i j (by omega) hj hij
theorem cntF_at {L : List Itm} (hA : Asc L) {key i : Nat} (hi : i < L.length) (hk : (L.getD i z0).key = key) : ∀ n, n ≤ L.length → cntF L key n = if i < n then 1 else 0
  | 0, _ => by simp [cntF]
  | n + 1, hn => by
    have ih := cntF_at hA hi hk n (by omega)
    unfold cntF
    rcases Nat.lt_trichotomy i n with c | c | c
    · have := asc_getD hA c (by omega)
      rw [if_neg (by omega), ih, if_pos c, if_pos (by omega)]
    · subst c
      rw [if_pos hk, ih, if_neg (Nat.lt_irrefl _), if_pos (by omega)]
    · have := asc_getD hA c hi
      rw [if_neg (by omega), ih, if_neg (by omega), if_neg (by omega)]
/-- A key has one item if its last record is no tombstone, and else none. -/
theorem cnt_items (k : List Ndl) (key : Nat) : cntF (itemsL (rcs 16 k)) key (itemsL (rcs 16 k)).length = if lastF k key k.length < 0 then 0 else if (k.getD (lastF k key k.length).toNat nd0).del then 0 else 1 := by
  have h := lk_last k key
  have hA := asc_itemsL (rcs 16 k)
  generalize itemsL (rcs 16 k) = L at *
  split at h
  · rename_i c
    rw [if_pos c]
    exact cntF_zero (lk_none.1 h) _ (Nat.le_refl _)
  · rename_i c
    rw [if_neg c]
    split at h
    · rename_i d
      rw [if_pos d]
      exact cntF_zero (lk_none.1 h) _ (Nat.le_refl _)
    · rename_i d
      rw [if_neg d]
      obtain ⟨hm, he⟩ := lk_some h
      obtain ⟨i, hi, e⟩ := List.getElem_of_mem hm
      have hg : L.getD i z0 = L[i] := by
        rw [List.getD_eq_getElem?_getD, List.getElem?_eq_getElem hi]
        rfl
      rw [cntF_at hA hi (by rw [hg, e]; exact he) _ (Nat.le_refl _), if_pos hi]
/-- An item of a file is that of the last record of its key. -/
theorem item_last {k : List Ndl} {i : Nat} (hi : i < (itemsL (rcs 16 k)).length) : 0 ≤ lastF k ((itemsL (rcs 16 k)).getD i z0).key k.length ∧ (itemsL (rcs 16 k)).getD i z0 = itmOf ((rcs 16 k).getD (lastF k ((itemsL (rcs 16 k)).getD i z0).key k.length).toNat rc0) := by
  have hA := asc_itemsL (rcs 16 k)
  have h := lk_last k ((itemsL (rcs 16 k)).getD i z0).key
  rw [(asc_lk hA).2 ⟨getT_mem hi, rfl⟩] at h
  split at h
  · cases h
  · split at h
    · cases h
    · refine ⟨by omega, ?_⟩
      simpa using h
/-- What a file is around one of its records. -/
theorem fil_split {k : List Ndl} {i : Nat} (h : i < k.length) : filL k = encS 0 1 0 ++ (bodF (k.take i) ++ (recL (k.getD i nd0) ++ bodF (k.drop (i + 1)))) := by
  unfold filL
  congr 1
  rw [← bodF_cons, ← bodF_append]
  congr 1
  rw [getD_eqn h, List.getElem_cons_drop, List.take_append_drop]
theorem set_mid {A B C : List Nat} {q v : Nat} (h : q < B.length) : (A ++ (B ++ C)).set (A.length + q) v = A ++ (B.set q v ++ C) := by
  rw [List.set_append_right _ _ (by omega), show A.length + q - A.length = q by omega, List.set_append_left _ _ h]
theorem get_mid {A B C : List Nat} {q : Nat} (h : q < B.length) : (A ++ (B ++ C)).getD (A.length + q) 0 = B.getD q 0 := by
  rw [List.getD_eq_getElem?_getD, List.getElem?_append_right (by omega), show A.length + q - A.length = q by omega, List.getElem?_append_left h, ← List.getD_eq_getElem?_getD]
/-- What Salvage finds in a file with one changed byte. -/
theorem fil_dmg {k : List Ndl} (hk : GoodN k) {i q y : Nat} (h : i < k.length) (hq : q < szR (k.getD i nd0).data.length) (hy : y < 256) (hy0 : y ≠ 0) (hne : q < 16 ∨ 20 ≤ q)
    (h78 : ∀ p, 16 + (bodF (k.take i)).length < p → p < 16 + (bodF (k.take (i + 1))).length → (p - (16 + (bodF (k.take i)).length)) % 8 = 0 → ((filL k).set (16 + (bodF (k.take i)).length + q) ((filL k).getD (16 + (bodF (k.take i)).length + q) 0 ^^^ y)).getD p 0 ≠ 78) :
    slv ((filL k).set (16 + (bodF (k.take i)).length + q) ((filL k).getD (16 + (bodF (k.take i)).length + q) 0 ^^^ y)) 16 = rcs 16 (k.take i) ++ rcs (16 + (bodF (k.take (i + 1))).length) (k.drop (i + 1)) := by
  obtain ⟨ok, he⟩ := good_get hk h
  have e1 : filL k = (encS 0 1 0 ++ bodF (k.take i)) ++ (recL (k.getD i nd0) ++ bodF (k.drop (i + 1))) := by rw [fil_split h, List.append_assoc]
  have e2 : 16 + (bodF (k.take i)).length = (encS 0 1 0 ++ bodF (k.take i)).length := by rw [List.length_append, encS_length]
  have hr := recL_length (k.getD i nd0)
  have hs := bod_succ h
  rw [e1, e2, get_mid (by omega), set_mid (by omega)] at h78 ⊢
  have e3 : slv (encS 0 1 0 ++ (bodF (k.take i) ++ ((recL (k.getD i nd0)).set q ((recL (k.getD i nd0)).getD q 0 ^^^ y) ++ bodF (k.drop (i + 1))))) (encS 0 1 0).length = _ := slv_dmg (goodN_take hk i) (goodN_drop hk (i + 1)) ok he hq hy hy0 hne fun p hp h8 => by
    have h9 := h78 ((encS 0 1 0 ++ bodF (k.take i)).length + 8 * p) (by omega) (by rw [← e2, hs]; omega) (by rw [show ((encS 0 1 0 ++ bodF (k.take i)).length + 8 * p - (encS 0 1 0 ++ bodF (k.take i)).length) = 8 * p by omega]; omega)
    rwa [get_mid (by rw [List.length_set, hr]; exact h8)] at h9
  rw [encS_length] at e3
  rw [List.append_assoc, e3, hs, Nat.add_assoc]
theorem rcs_two {k : List Ndl} {i : Nat} (h : i < k.length) (p q j : Nat) (hj : j < k.length - 1) : ((rcs p (k.take i) ++ rcs q (k.drop (i + 1))).getD j rc0).x = k.getD (if j < i then j else j + 1) nd0 := by
  have h1 : (rcs p (k.take i)).length = i := by rw [rcs_length, List.length_take]; omega
  by_cases c : j < i
  · rw [if_pos c, List.getD_eq_getElem?_getD, List.getElem?_append_left (by omega), ← List.getD_eq_getElem?_getD, rcs_get _ _ _ (by rw [List.length_take]; omega)]
    exact take_getD c
  · rw [if_neg c, List.getD_eq_getElem?_getD, List.getElem?_append_right (by omega), h1, ← List.getD_eq_getElem?_getD, rcs_get _ _ _ (by rw [List.length_drop]; omega)]
    show (k.drop (i + 1)).getD (j - i) nd0 = _
    rw [List.getD_eq_getElem?_getD, List.getElem?_drop, show i + 1 + (j - i) = j + 1 by omega, List.getD_eq_getElem?_getD]
theorem two_length {k : List Ndl} {i : Nat} (h : i < k.length) (p q : Nat) : (rcs p (k.take i) ++ rcs q (k.drop (i + 1))).length = k.length - 1 := by
  rw [List.length_append, rcs_length, rcs_length, List.length_take, List.length_drop]
  omega
end Go.Proofs.YtlnccofanicihaaDoor.Gf
