/- What is proved here: the plain mathematics of the items of a list of records, and of the sums of their lengths. No program text. -/
import Derived.Test.YtlnccofanicihaaDoorM9a
import Derived.Test.YtlnccofanicihaaDoorK8
namespace Go.Proofs.YtlnccofanicihaaDoor.Gf
open Go Go.Proofs.YtlnccofanicihaaDoor.Crc

def itmOf (r : Rc) : Itm := ⟨r.x.key, r.x.cookie, r.off, ((r.x.data.length : Nat) : Int)⟩
def stepI (o : List Itm) (r : Rc) : List Itm := if r.x.del then dropL o r.x.key else putL o (itmOf r)
/-- The items of records. -/
def itemsL (R : List Rc) : List Itm := R.foldl stepI []
theorem itemsL_snoc (R : List Rc) (r : Rc) : itemsL (R ++ [r]) = stepI (itemsL R) r := by simp [itemsL]
theorem rcRev {P : List Rc → Prop} (h0 : P []) (h1 : ∀ l b, P l → P (l ++ [b])) (l : List Rc) : P l := by
  have : ∀ m : List Rc, P m.reverse := fun m => by
    induction m with
    | nil => exact h0
    | cons b m ih => rw [List.reverse_cons]; exact h1 _ _ ih
  simpa using this l.reverse
theorem asc_stepI {o : List Itm} (r : Rc) : Asc (stepI o r) := by
  unfold stepI
  split
  · exact asc_delL _ (asc_sortL _)
  · exact asc_insL (asc_sortL _)
theorem asc_itemsL : ∀ (R : List Rc), Asc (itemsL R) := rcRev List.Pairwise.nil fun l b _ => by rw [itemsL_snoc]; exact asc_stepI b
theorem lk_itemsL (R : List Rc) (r : Rc) (k : Nat) : lk (itemsL (R ++ [r])) k = if r.x.key = k then (if r.x.del then none else some (itmOf r)) else lk (itemsL R) k := by
  rw [itemsL_snoc]
  unfold stepI
  by_cases c : r.x.del = true
  · rw [if_pos c]
    unfold dropL
    rw [lk_delL (asc_sortL _), lk_sortL, if_pos c]
    by_cases d : r.x.key = k
    · rw [if_pos d.symm, if_pos d]
    · rw [if_neg fun e => d e.symm, if_neg d]
  · rw [if_neg c]
    unfold putL
    rw [lk_insL (asc_sortL _), lk_sortL, if_neg c]
    rfl
theorem length_stepI (o : List Itm) (r : Rc) : (stepI o r).length ≤ o.length + 1 := by
  unfold stepI
  have h := length_sortL o
  split
  · exact Nat.le_trans (List.length_filter_le _ _) (by omega)
  · exact Nat.le_trans (length_insL _ _) (by omega)
theorem length_itemsL : ∀ (R : List Rc), (itemsL R).length ≤ R.length := rcRev (Nat.le_refl _) fun l b ih => by
  rw [itemsL_snoc, List.length_append, List.length_singleton]
  exact Nat.le_trans (length_stepI _ _) (by omega)
theorem mem_itemsL {z : Itm} : ∀ (R : List Rc), z ∈ itemsL R → ∃ r ∈ R, r.x.del = false ∧ z = itmOf r := rcRev (fun h => by simp [itemsL] at h) fun l b ih h => by
  rw [itemsL_snoc] at h
  unfold stepI at h
  by_cases c : b.x.del = true
  · rw [if_pos c] at h
    obtain ⟨r, h1, h2⟩ := ih (mem_dropL h)
    exact ⟨r, List.mem_append_left _ h1, h2⟩
  · rw [if_neg c] at h
    rcases mem_putL h with h | h
    · exact ⟨b, by simp, by simpa using c, h⟩
    · obtain ⟨r, h1, h2⟩ := ih h
      exact ⟨r, List.mem_append_left _ h1, h2⟩
/-- The length of a record, by the number of its bytes of data. -/
def szW (n : Int) : Int := if n < 0 ∨ 4096 < n then 0 else (n + 31) / 8 * 8
theorem szW_ge (n : Int) : 0 ≤ szW n := by
  unfold szW
  split <;> omega
theorem szW_le (n : Int) : szW n ≤ 4120 := by
  unfold szW
  split <;> omega
def liveL (L : List Itm) : Int := (L.map fun x => szW x.sz).sum
def allL (R : List Rc) : Int := (R.map fun r => szW ((r.x.data.length : Nat) : Int)).sum
theorem liveL_cons (x : Itm) (L : List Itm) : liveL (x :: L) = szW x.sz + liveL L := by simp [liveL]
theorem liveL_snoc (L : List Itm) (x : Itm) : liveL (L ++ [x]) = liveL L + szW x.sz := by simp [liveL]
theorem allL_snoc (R : List Rc) (r : Rc) : allL (R ++ [r]) = allL R + szW ((r.x.data.length : Nat) : Int) := by simp [allL]
theorem allL_cons (r : Rc) (R : List Rc) : allL (r :: R) = szW ((r.x.data.length : Nat) : Int) + allL R := by simp [allL]
theorem liveL_ge : ∀ (L : List Itm), 0 ≤ liveL L
  | [] => by simp [liveL]
  | x :: L => by
    rw [liveL_cons]
    have := liveL_ge L
    have := szW_ge x.sz
    omega
theorem liveL_bound : ∀ (L : List Itm), liveL L ≤ 4120 * (L.length : Int)
  | [] => by simp [liveL]
  | x :: L => by
    rw [liveL_cons, List.length_cons]
    have := liveL_bound L
    have := szW_le x.sz
    omega
theorem allL_ge : ∀ (R : List Rc), 0 ≤ allL R
  | [] => by simp [allL]
  | r :: R => by
    rw [allL_cons]
    have := allL_ge R
    have := szW_ge ((r.x.data.length : Nat) : Int)
    omega
theorem allL_bound : ∀ (R : List Rc), allL R ≤ 4120 * (R.length : Int)
  | [] => by simp [allL]
  | r :: R => by
    rw [allL_cons, List.length_cons]
    have := allL_bound R
    have := szW_le ((r.x.data.length : Nat) : Int)
    omega
theorem liveL_ins (x : Itm) : ∀ (L : List Itm), liveL (insL x L) ≤ liveL L + szW x.sz
  | [] => by simp [insL, liveL]
  | y :: r => by
    have h := liveL_ins x r
    have h2 := szW_ge y.sz
    unfold insL
    split
    · rw [liveL_cons, liveL_cons]; omega
    · split
      · rw [liveL_cons, liveL_cons]; omega
      · rw [liveL_cons, liveL_cons]; omega
theorem liveL_del (k : Nat) : ∀ (L : List Itm), liveL (delL k L) ≤ liveL L
  | [] => Int.le_refl _
  | y :: r => by
    have h := liveL_del k r
    have h2 := szW_ge y.sz
    unfold delL at h ⊢
    rw [List.filter_cons]
    split
    · rw [liveL_cons, liveL_cons]; omega
    · rw [liveL_cons]; omega
theorem live_le : ∀ (R : List Rc), liveL (itemsL R) ≤ allL R := rcRev (by simp [itemsL, liveL, allL]) fun l b ih => by
  rw [itemsL_snoc, allL_snoc]
  unfold stepI
  have h0 := szW_ge ((b.x.data.length : Nat) : Int)
  split
  · unfold dropL
    rw [sort_asc (asc_itemsL l)]
    have := liveL_del b.x.key (itemsL l)
    omega
  · unfold putL
    rw [sort_asc (asc_itemsL l)]
    have := liveL_ins (itmOf b) (itemsL l)
    have e : szW (itmOf b).sz = szW ((b.x.data.length : Nat) : Int) := rfl
    omega
/-- The records of a file are as long as the file. -/
theorem allL_rcs : ∀ (k : List Ndl) (p : Nat), GoodN k → allL (rcs p k) = (((bodF k).length : Nat) : Int)
  | [], _, _ => rfl
  | x :: k, p, hk => by
    obtain ⟨_, he⟩ := hk x (List.mem_cons_self ..)
    have h4 := (enc_ok he).1
    rw [rcs, allL_cons, allL_rcs k _ fun y hy => hk y (List.mem_cons_of_mem _ hy), bodF_cons, List.length_append, recL_length]
    have e : szW (((Rc.mk (p : Int) x).x.data.length : Nat) : Int) = ((szR x.data.length : Nat) : Int) := by
      show szW ((x.data.length : Nat) : Int) = _
      unfold szW szR
      rw [if_neg (by omega)]
      omega
    rw [e]
    omega
end Go.Proofs.YtlnccofanicihaaDoor.Gf
