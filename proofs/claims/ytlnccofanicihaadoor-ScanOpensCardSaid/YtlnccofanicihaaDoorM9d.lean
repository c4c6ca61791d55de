/- What is proved here: the plain mathematics of the live records: the last ones of their keys that are no tombstones. No program text. -/
import Derived.Test.YtlnccofanicihaaDoorM9b
import Derived.Test.YtlnccofanicihaaDoorI9
import Derived.Maps.OwnSet
namespace Go.Proofs.YtlnccofanicihaaDoor.Gf
open Go Go.Maps Go.Proofs.YtlnccofanicihaaDoor.Crc

/-- The place of the last record with a key. -/
def lastN (R : List Rc) (k : Nat) : Nat := R.zipIdx.foldl (fun a p => if p.1.x.key = k then p.2 else a) 0
theorem lastN_snoc (R : List Rc) (r : Rc) (k : Nat) : lastN (R ++ [r]) k = if r.x.key = k then R.length else lastN R k := by
  simp [lastN, List.zipIdx_append]
/-- The places of the last records, as the map's reading. -/
def lastD (R : List Rc) : DataW Unit := R.zipIdx.foldl (fun D p => D.put (.int .u64 (p.1.x.key : Int)) (.lit (.int .i64 (p.2 : Int)))) (.map [])
theorem lastD_snoc (R : List Rc) (r : Rc) : lastD (R ++ [r]) = (lastD R).put (.int .u64 (r.x.key : Int)) (.lit (.int .i64 (R.length : Int))) := by
  simp [lastD, List.zipIdx_append]
theorem lastD_map : ∀ (R : List Rc), IsMap (lastD R) := rcRev isMap_empty fun l b ih => by rw [lastD_snoc]; exact ih.put _ _
theorem lastD_at (k : Nat) : ∀ (R : List Rc), (lastD R).atKey (.int .u64 (k : Int)) (.lit (.int .i64 0)) = .lit (.int .i64 ((lastN R k : Nat) : Int)) := rcRev rfl fun l b ih => by
  rw [lastD_snoc, lastN_snoc]
  by_cases c : b.x.key = k
  · rw [if_pos c, c, atKey_put_same (lastD_map _) (show WideAt.IsKeyLit (.int .u64 _) from trivial)]
  · rw [if_neg c, atKey_put_other (by simp; omega), ih]
/-- The live records among the first n, and the others. -/
def divF (R : List Rc) : Nat → List Rc × List Rc
  | 0 => ([], [])
  | n + 1 => if lastN R (R.getD n rc0).x.key = n ∧ (R.getD n rc0).x.del = false then ((divF R n).1 ++ [R.getD n rc0], (divF R n).2) else ((divF R n).1, (divF R n).2 ++ [R.getD n rc0])
theorem divF_succ (R : List Rc) (n : Nat) : divF R (n + 1) = if lastN R (R.getD n rc0).x.key = n ∧ (R.getD n rc0).x.del = false then ((divF R n).1 ++ [R.getD n rc0], (divF R n).2) else ((divF R n).1, (divF R n).2 ++ [R.getD n rc0]) := rfl
theorem divF_length (R : List Rc) : ∀ (n : Nat), (divF R n).1.length + (divF R n).2.length = n
  | 0 => rfl
  | n + 1 => by
    have := divF_length R n
    rw [divF_succ]
    split <;> simp <;> omega
theorem allL_take {R : List Rc} {n : Nat} (h : n < R.length) : allL (R.take (n + 1)) = allL (R.take n) + szW (((R.getD n rc0).x.data.length : Nat) : Int) := by
  rw [List.take_succ_eq_append_getElem h, allL_snoc]
  simp [List.getD, h]
theorem divF_sum (R : List Rc) : ∀ (n : Nat), n ≤ R.length → allL (divF R n).1 + allL (divF R n).2 = allL (R.take n)
  | 0, _ => rfl
  | n + 1, h => by
    have ih := divF_sum R n (by omega)
    rw [allL_take (by omega), divF_succ]
    split
    · dsimp only
      rw [allL_snoc]
      omega
    · dsimp only
      rw [allL_snoc]
      omega
theorem divF_mem {R : List Rc} {z : Rc} : ∀ (n : Nat), n ≤ R.length → (z ∈ (divF R n).1 ∨ z ∈ (divF R n).2) → z ∈ R
  | 0, _, h => by rcases h with h | h <;> simp [divF] at h
  | n + 1, hn, h => by
    have ih := divF_mem (R := R) (z := z) n (by omega)
    have hm : R.getD n rc0 ∈ R := by
      rw [List.getD_eq_getElem?_getD, List.getElem?_eq_getElem (by omega)]
      exact List.getElem_mem _
    rw [divF_succ] at h
    split at h
    · dsimp only at h
      rw [List.mem_append, List.mem_singleton] at h
      rcases h with (h | h) | h
      · exact ih (Or.inl h)
      · rw [h]; exact hm
      · exact ih (Or.inr h)
    · dsimp only at h
      rw [List.mem_append, List.mem_singleton] at h
      rcases h with h | h | h
      · exact ih (Or.inl h)
      · exact ih (Or.inr h)
      · rw [h]; exact hm
def lkR (R : List Rc) (n k : Nat) : Option Itm := if lastN R k < n ∧ (R.getD (lastN R k) rc0).x.key = k ∧ (R.getD (lastN R k) rc0).x.del = false then some (itmOf (R.getD (lastN R k) rc0)) else none
theorem lk_divF (R : List Rc) (k : Nat) : ∀ (n : Nat), lk ((divF R n).1.map itmOf) k = lkR R n k
  | 0 => by simp [divF, lk_nil, lkR]
  | n + 1 => by
    have ih := lk_divF R k n
    rw [divF_succ]
    unfold lkR at ih ⊢
    by_cases c : lastN R (R.getD n rc0).x.key = n ∧ (R.getD n rc0).x.del = false
    · rw [if_pos c]
      dsimp only
      rw [List.map_append, List.map_singleton, lk_snoc, ih]
      show (if (R.getD n rc0).x.key = k then _ else _) = _
      by_cases d : (R.getD n rc0).x.key = k
      · have e : lastN R k = n := by rw [← d]; exact c.1
        rw [if_pos d, e, if_pos ⟨by omega, d, c.2⟩]
      · rw [if_neg d]
        by_cases e : lastN R k = n
        · rw [e, if_neg (by omega), if_neg fun h => d h.2.1]
        · by_cases f : lastN R k < n
          · simp only [f, show lastN R k < n + 1 by omega]
          · rw [if_neg (by omega), if_neg (by omega)]
    · rw [if_neg c]
      dsimp only
      rw [ih]
      by_cases e : lastN R k = n
      · rw [e, if_neg (by omega), if_neg fun h => c ⟨by rw [h.2.1]; exact e, h.2.2⟩]
      · by_cases f : lastN R k < n
        · simp only [f, show lastN R k < n + 1 by omega]
        · rw [if_neg (by omega), if_neg (by omega)]
theorem getD_front' {R : List Rc} {r : Rc} {i : Nat} (h : i < R.length) : (R ++ [r]).getD i rc0 = R.getD i rc0 := by
  simp [List.getD_eq_getElem?_getD, List.getElem?_append_left h]
theorem getD_last' {R : List Rc} {r : Rc} : (R ++ [r]).getD R.length rc0 = r := by
  simp [List.getD_eq_getElem?_getD]
theorem lk_items (k : Nat) : ∀ (R : List Rc), lk (itemsL R) k = lkR R R.length k := rcRev (by simp [itemsL, lk_nil, lkR]) fun l b ih => by
  rw [lk_itemsL, ih]
  unfold lkR
  rw [lastN_snoc, List.length_append, List.length_singleton]
  by_cases c : b.x.key = k
  · rw [if_pos c, if_pos c, getD_last']
    by_cases d : b.x.del = true
    · rw [if_pos d, if_neg fun h => by rw [d] at h; cases h.2.2]
    · rw [if_neg d, if_pos ⟨by omega, c, by simpa using d⟩]
  · rw [if_neg c, if_neg c]
    by_cases e : lastN l k < l.length
    · rw [getD_front' e]
      simp only [e, show lastN l k < l.length + 1 by omega]
    · rw [if_neg fun h => e h.1]
      by_cases f : lastN l k = l.length
      · rw [f, getD_last', if_neg fun h => c h.2.1]
      · rw [if_neg (by omega)]
theorem sort_divF (R : List Rc) : sortL ((divF R R.length).1.map itmOf) = itemsL R := asc_ext (asc_sortL _) (asc_itemsL R) fun k => by rw [lk_sortL, lk_divF, lk_items]
theorem merge_nil (F : List Itm) : mergeL [] F [] = sortL F := asc_ext (asc_mergeL _ _ _) (asc_sortL _) fun k => by
  rw [lk_mergeL, lk_sortL]
  cases lk F k <;> simp [lk_nil]
/-- What Items answers: the live records' items, in order. -/
theorem merge_divF (R : List Rc) : mergeL [] ((divF R R.length).1.map itmOf) [] = itemsL R := by rw [merge_nil, sort_divF]
theorem liveL_new {x : Itm} : ∀ {L : List Itm}, (∀ y ∈ L, y.key ≠ x.key) → liveL (insL x L) = liveL L + szW x.sz
  | [], _ => by simp [insL, liveL]
  | y :: r, h => by
    have ih := liveL_new (x := x) (L := r) fun z hz => h z (List.mem_cons_of_mem _ hz)
    unfold insL
    split
    · rw [liveL_cons, liveL_cons]; omega
    · rw [if_neg (h y (List.mem_cons_self ..)), liveL_cons, liveL_cons]; omega
theorem live_sort (R : List Rc) : ∀ (n : Nat), liveL (sortL ((divF R n).1.map itmOf)) = allL (divF R n).1
  | 0 => rfl
  | n + 1 => by
    have ih := live_sort R n
    rw [divF_succ]
    split
    · rename_i c
      dsimp only
      rw [List.map_append, List.map_singleton, sortL_snoc, allL_snoc, liveL_new, ih]
      · rfl
      · refine lk_none.1 ?_
        rw [lk_sortL, lk_divF]
        unfold lkR
        rw [if_neg]
        rintro ⟨h1, -⟩
        have := c.1
        change lastN R (R.getD n rc0).x.key < n at h1
        omega
    · exact ih
/-- The live records are as long as the items say. -/
theorem live_divF (R : List Rc) : allL (divF R R.length).1 = liveL (itemsL R) := by rw [← live_sort, sort_divF]
theorem others_divF (R : List Rc) : allL (divF R R.length).2 = allL R - liveL (itemsL R) := by
  have := divF_sum R R.length (Nat.le_refl _)
  rw [List.take_of_length_le (Nat.le_refl _), live_divF] at this
  omega
end Go.Proofs.YtlnccofanicihaaDoor.Gf
