/- What is proved here: what layer 11 leans on, out of the older layers. -/
import Derived.Test.YtbmlpafbdbhaiaaGreatDoorVa
import Derived.OwnWalk
import Derived.IntWalk
import Derived.BigQuiet
import Derived.StillTailTactics
import Derived.Lib.SmallJoins
import Derived.Deep.Slices
import Derived.Deep.Fields
import Derived.ChangeSame
namespace Go.Proofs.YtbmlpafbdbhaiaaGreatDoor.Gf
open Go Go.ChangeAt Go.ChangeShapes Go.Deep Go.Joins Go.Proofs.YtbmlpafbdbhaiaaGreatDoor.By Go.Proofs.YtbmlpafbdbhaiaaGreatDoor.Qt Go.RowKit Go.Sort Go.WideShapes
set_option maxRecDepth 100000
set_option maxHeartbeats 204800000
/-- An item. -/
structure Itm where
 key : Nat
 ck : Nat
 off : Int
 sz : Int
theorem itm_ext {x y : Itm} (h1 : x.key = y.key) (h2 : x.ck = y.ck) (h3 : x.off = y.off) (h4 : x.sz = y.sz) : x = y := by
 cases x; cases y; simp_all
def Asc (L : List Itm) : Prop := L.Pairwise fun a b => a.key < b.key
theorem asc_cons {x : Itm} {L : List Itm} : Asc (x :: L) ↔ (∀ y ∈ L, x.key < y.key) ∧ Asc L := List.pairwise_cons
/-- The last item with a key. -/
def lk (L : List Itm) (k : Nat) : Option Itm := L.reverse.find? fun x => x.key == k
theorem lk_nil (k : Nat) : lk [] k = none := rfl
theorem lk_snoc (L : List Itm) (x : Itm) (k : Nat) : lk (L ++ [x]) k = if x.key = k then some x else lk L k := by
 unfold lk
 rw [List.reverse_append, List.reverse_singleton, List.singleton_append, List.find?_cons]
 by_cases h : x.key = k
 ·rw [if_pos h, beq_iff_eq.2 h]
 ·rw [if_neg h, beq_false_of_ne h]
theorem lk_some {L : List Itm} {k : Nat} {x : Itm} (h : lk L k = some x) : x ∈ L ∧ x.key = k := by
 unfold lk at h
 exact ⟨List.mem_reverse.1 (List.mem_of_find?_eq_some h), by simpa using List.find?_some h⟩
theorem lk_none {L : List Itm} {k : Nat} : lk L k = none ↔ ∀ x ∈ L, x.key ≠ k := by
 unfold lk
 rw [List.find?_eq_none]
 simp
theorem asc_inj {L : List Itm} (h : Asc L) : ∀ {x y : Itm}, x ∈ L → y ∈ L → x.key = y.key → x = y := by
 induction L with
 | nil => intro x y hx; cases hx
 | cons a L ih =>
  obtain ⟨h1, h2⟩ := asc_cons.1 h
  intro x y hx hy he
  rcases List.mem_cons.1 hx with ex | mx
  ·rcases List.mem_cons.1 hy with ey | my
   ·rw [ex, ey]
   ·have := h1 _ my; rw [ex] at he; omega
  ·rcases List.mem_cons.1 hy with ey | my
   ·have := h1 _ mx; rw [ey] at he; omega
   ·exact ih h2 mx my he
theorem asc_lk {L : List Itm} (h : Asc L) {k : Nat} {x : Itm} : lk L k = some x ↔ x ∈ L ∧ x.key = k := by
 refine ⟨lk_some, fun ⟨hx, hk⟩ => ?_⟩
 cases he : lk L k with
 | none => exact absurd hk (lk_none.1 he x hx)
 | some y =>
  obtain ⟨hy, hky⟩ := lk_some he
  rw [asc_inj h hy hx (by omega)]
theorem opt_ext {α : Type} {a b : Option α} (h : ∀ x, a = some x ↔ b = some x) : a = b := by
 cases a with
 | none =>
  cases b with
  | none => rfl
  | some y => exact absurd ((h y).2 rfl) (by simp)
 | some x => exact ((h x).1 rfl).symm
theorem asc_ext' : ∀ {L M : List Itm}, Asc L → Asc M → (∀ x, x ∈ L ↔ x ∈ M) → L = M
 | [], [], _, _, _ => rfl
 | [], y :: M, _, _, h => absurd ((h y).2 (by simp)) (by simp)
 | x :: L, [], _, _, h => absurd ((h x).1 (by simp)) (by simp)
 | x :: L, y :: M, hL, hM, h => by
  obtain ⟨l1, l2⟩ := asc_cons.1 hL
  obtain ⟨m1, m2⟩ := asc_cons.1 hM
  have hxy : x = y := by
   rcases List.mem_cons.1 ((h x).1 (by simp)) with e | e
   ·exact e
   ·rcases List.mem_cons.1 ((h y).2 (by simp)) with e2 | e2
    ·exact e2.symm
    ·have := m1 _ e; have := l1 _ e2; omega
  subst hxy
  rw [asc_ext' l2 m2 fun z => ?_]
  constructor
  ·intro hz
   rcases List.mem_cons.1 ((h z).1 (by simp [hz])) with e | e
   ·subst e; have := l1 _ hz; omega
   ·exact e
  ·intro hz
   rcases List.mem_cons.1 ((h z).2 (by simp [hz])) with e | e
   ·subst e; have := m1 _ hz; omega
   ·exact e
theorem asc_ext {L M : List Itm} (hL : Asc L) (hM : Asc M) (h : ∀ k, lk L k = lk M k) : L = M :=
 asc_ext' hL hM fun x => by
  have e := h x.key
  constructor
  ·intro hx
   rw [(asc_lk hL).2 ⟨hx, rfl⟩] at e
   exact (lk_some e.symm).1
  ·intro hx
   rw [(asc_lk hM).2 ⟨hx, rfl⟩] at e
   exact (lk_some e).1
/-- The list with x in its place. -/
def insL (x : Itm) : List Itm → List Itm
 | [] => [x]
 | y :: r => if y.key < x.key then y :: insL x r else if y.key = x.key then x :: r else x :: y :: r
theorem mem_insL {x : Itm} : ∀ {L : List Itm}, Asc L → ∀ z, z ∈ insL x L ↔ z = x ∨ (z ∈ L ∧ z.key ≠ x.key)
 | [], _, z => by simp [insL]
 | y :: r, h, z => by
  obtain ⟨h1, h2⟩ := asc_cons.1 h
  unfold insL
  by_cases c1 : y.key < x.key
  ·rw [if_pos c1, List.mem_cons, mem_insL h2, List.mem_cons]
   constructor
   ·rintro (rfl | rfl | ⟨h3, h4⟩)
    ·exact Or.inr ⟨Or.inl rfl, by omega⟩
    ·exact Or.inl rfl
    ·exact Or.inr ⟨Or.inr h3, h4⟩
   ·rintro (rfl | ⟨rfl | h3, h4⟩)
    ·exact Or.inr (Or.inl rfl)
    ·exact Or.inl rfl
    ·exact Or.inr (Or.inr ⟨h3, h4⟩)
  ·rw [if_neg c1]
   by_cases c2 : y.key = x.key
   ·rw [if_pos c2, List.mem_cons, List.mem_cons]
    constructor
    ·rintro (rfl | h3)
     ·exact Or.inl rfl
     ·exact Or.inr ⟨Or.inr h3, by have := h1 _ h3; omega⟩
    ·rintro (rfl | ⟨rfl | h3, h4⟩)
     ·exact Or.inl rfl
     ·exact absurd c2 h4
     ·exact Or.inr h3
   ·rw [if_neg c2, List.mem_cons, List.mem_cons]
    constructor
    ·rintro (rfl | rfl | h3)
     ·exact Or.inl rfl
     ·exact Or.inr ⟨Or.inl rfl, c2⟩
     ·exact Or.inr ⟨Or.inr h3, by have := h1 _ h3; omega⟩
    ·rintro (rfl | ⟨rfl | h3, h4⟩)
     ·exact Or.inl rfl
     ·exact Or.inr (Or.inl rfl)
     ·exact Or.inr (Or.inr h3)
theorem asc_insL {x : Itm} : ∀ {L : List Itm}, Asc L → Asc (insL x L)
 | [], _ => asc_cons.2 ⟨by simp, List.Pairwise.nil⟩
 | y :: r, h => by
  obtain ⟨h1, h2⟩ := asc_cons.1 h
  unfold insL
  by_cases c1 : y.key < x.key
  ·rw [if_pos c1]
   refine asc_cons.2 ⟨fun z hz => ?_, asc_insL h2⟩
   rcases (mem_insL h2 z).1 hz with rfl | ⟨h3, -⟩
   ·exact c1
   ·exact h1 _ h3
  ·rw [if_neg c1]
   by_cases c2 : y.key = x.key
   ·rw [if_pos c2]
    exact asc_cons.2 ⟨fun z hz => by have := h1 _ hz; omega, h2⟩
   ·rw [if_neg c2]
    refine asc_cons.2 ⟨fun z hz => ?_, h⟩
    rcases List.mem_cons.1 hz with rfl | h3
    ·omega
    ·have := h1 _ h3; omega
theorem lk_insL {x : Itm} {L : List Itm} (h : Asc L) (k : Nat) : lk (insL x L) k = if x.key = k then some x else lk L k := by
 refine opt_ext fun z => ?_
 rw [asc_lk (asc_insL h), mem_insL h]
 by_cases c : x.key = k
 ·rw [if_pos c]
  simp only [Option.some.injEq]
  constructor
  ·rintro ⟨rfl | ⟨_, h4⟩, h5⟩
   ·rfl
   ·omega
  ·rintro rfl
   exact ⟨Or.inl rfl, c⟩
 ·rw [if_neg c, asc_lk h]
  constructor
  ·rintro ⟨rfl | ⟨h3, _⟩, h5⟩
   ·exact absurd h5 c
   ·exact ⟨h3, h5⟩
  ·rintro ⟨h3, h5⟩
   exact ⟨Or.inr ⟨h3, by omega⟩, h5⟩
/-- The items in ascending order of keys, of each key the last one. -/
def sortL (L : List Itm) : List Itm := L.foldl (fun o x => insL x o) []
theorem sortL_snoc (L : List Itm) (x : Itm) : sortL (L ++ [x]) = insL x (sortL L) := by simp [sortL]
theorem listRev {P : List Itm → Prop} (h0 : P []) (h1 : ∀ l b, P l → P (l ++ [b])) (l : List Itm) : P l := by
 rw [← List.reverse_reverse l]
 induction l.reverse with
 | nil => exact h0
 | cons b m ih => rw [List.reverse_cons]; exact h1 _ _ ih
theorem asc_sortL : ∀ (L : List Itm), Asc (sortL L) := listRev List.Pairwise.nil fun l b h => by rw [sortL_snoc]; exact asc_insL h
theorem lk_sortL (k : Nat) : ∀ (L : List Itm), lk (sortL L) k = lk L k := listRev rfl fun l b h => by rw [sortL_snoc, lk_insL (asc_sortL l), lk_snoc, h]
theorem sort_asc {L : List Itm} (h : Asc L) : sortL L = L := asc_ext (asc_sortL L) h fun k => lk_sortL k L
theorem mem_sortL : ∀ (L : List Itm) (z : Itm), z ∈ sortL L → z ∈ L := listRev (fun _ h => h) fun l b ih z hz => by
 rw [sortL_snoc] at hz
 rcases (mem_insL (asc_sortL l) z).1 hz with rfl | ⟨h, -⟩
 ·simp
 ·exact List.mem_append_left _ (ih z h)
theorem length_insL (x : Itm) : ∀ (L : List Itm), (insL x L).length ≤ L.length + 1
 | [] => by simp [insL]
 | y :: r => by
  have := length_insL x r
  unfold insL
  split
  ·simp; omega
  ·split <;> simp
theorem length_sortL : ∀ (L : List Itm), (sortL L).length ≤ L.length := listRev (Nat.le_refl _) fun l b ih => by
 rw [sortL_snoc, List.length_append, List.length_singleton]
 exact Nat.le_trans (length_insL _ _) (by omega)
/-- How many keys stand before key. -/
def cntL (key : Nat) : List Itm → Nat
 | [] => 0
 | y :: r => if y.key < key then cntL key r + 1 else 0
def rstL (key : Nat) : List Itm → List Itm
 | [] => []
 | y :: r => if y.key = key then r else y :: r
theorem cntL_le (key : Nat) : ∀ (L : List Itm), cntL key L ≤ L.length
 | [] => Nat.le_refl _
 | y :: r => by
  have := cntL_le key r
  unfold cntL
  split
  ·simp; omega
  ·simp
theorem insL_split (x : Itm) : ∀ (L : List Itm), insL x L = L.take (cntL x.key L) ++ x :: rstL x.key (L.drop (cntL x.key L))
 | [] => rfl
 | y :: r => by
  unfold insL cntL
  by_cases c1 : y.key < x.key
  ·rw [if_pos c1, if_pos c1, List.take_succ_cons, List.drop_succ_cons, List.cons_append, ← insL_split x r]
  ·rw [if_neg c1, if_neg c1, List.take_zero, List.drop_zero, List.nil_append]
   by_cases c2 : y.key = x.key
   ·rw [if_pos c2, show rstL x.key (y :: r) = r from if_pos c2]
   ·rw [if_neg c2, show rstL x.key (y :: r) = y :: r from if_neg c2]
/-- Where the count stands: all before are smaller, and the next one is not. -/
theorem cntL_spec (key : Nat) : ∀ (L : List Itm) (j : Nat), j ≤ L.length → (∀ i, (h : i < L.length) → i < j → L[i].key < key) → ((h : j < L.length) → ¬ L[j].key < key) → cntL key L = j
 | [], j, hj, _, _ => by simp at hj; simp [cntL, hj]
 | y :: r, 0, _, _, h => by
  have h3 : ¬ y.key < key := h (by simp)
  unfold cntL
  rw [if_neg h3]
 | y :: r, j + 1, hj, h1, h2 => by
  unfold cntL
  have h3 : y.key < key := h1 0 (by simp) (by omega)
  rw [if_pos h3]
  rw [cntL_spec key r j (by simpa using hj) (fun i hi hij => h1 (i + 1) (by simpa using hi) (by omega)) (fun h => h2 (by simpa using h))]
/-- One round of Put. -/
def stp (x : Itm) (s : List Itm × Bool) (y : Itm) : List Itm × Bool :=
 let t := if s.2 = false ∧ x.key ≤ y.key then (s.1 ++ [x], true) else s
 if y.key = x.key then t else (t.1 ++ [y], t.2)
def putF (x : Itm) (S : List Itm) : List Itm := let s := S.foldl (stp x) ([], false); if s.2 then s.1 else s.1 ++ [x]
theorem stp_done (x : Itm) : ∀ (S : List Itm) (A : List Itm), (∀ y ∈ S, y.key ≠ x.key) → S.foldl (stp x) (A, true) = (A ++ S, true)
 | [], A, _ => by simp
 | y :: S, A, h => by
  rw [List.foldl_cons]
  have e : stp x (A, true) y = (A ++ [y], true) := by
   unfold stp
   simp [h y (by simp)]
  rw [e, stp_done x S _ fun z hz => h z (by simp [hz])]
  simp
theorem stp_all (x : Itm) : ∀ (S : List Itm) (A : List Itm), Asc S → (let s := S.foldl (stp x) (A, false); if s.2 then s.1 else s.1 ++ [x]) = A ++ insL x S
 | [], A, _ => by simp [insL]
 | y :: S, A, h => by
  obtain ⟨h1, h2⟩ := asc_cons.1 h
  rw [List.foldl_cons]
  unfold insL
  by_cases c1 : y.key < x.key
  ·have e : stp x (A, false) y = (A ++ [y], false) := by
    unfold stp
    simp [show ¬ x.key ≤ y.key by omega, show ¬ y.key = x.key by omega]
   rw [e, if_pos c1, stp_all x S _ h2]
   simp
  ·rw [if_neg c1]
   by_cases c2 : y.key = x.key
   ·have e : stp x (A, false) y = (A ++ [x], true) := by
     unfold stp
     simp [c2]
    rw [e, if_pos c2, stp_done x S _ fun z hz => by have := h1 _ hz; omega]
    simp
   ·have e : stp x (A, false) y = (A ++ [x] ++ [y], true) := by
     unfold stp
     simp [show x.key ≤ y.key by omega, c2]
    rw [e, if_neg c2, stp_done x S _ fun z hz => by have := h1 _ hz; omega]
    simp
theorem putF_eq (x : Itm) {S : List Itm} (h : Asc S) : putF x S = insL x S := by
 have := stp_all x S [] h
 simpa [putF] using this
def putL (L : List Itm) (x : Itm) : List Itm := insL x (sortL L)
def delL (k : Nat) (S : List Itm) : List Itm := S.filter fun x => x.key != k
def dropL (L : List Itm) (k : Nat) : List Itm := delL k (sortL L)
theorem asc_delL {S : List Itm} (k : Nat) (h : Asc S) : Asc (delL k S) := List.Pairwise.filter _ h
theorem lk_delL {S : List Itm} (h : Asc S) (k j : Nat) : lk (delL k S) j = if j = k then none else lk S j := by
 refine opt_ext fun z => ?_
 rw [asc_lk (asc_delL k h)]
 unfold delL
 rw [List.mem_filter]
 simp only [bne_iff_ne, ne_eq]
 by_cases c : j = k
 ·rw [if_pos c]
  constructor
  ·rintro ⟨⟨_, h3⟩, h4⟩; omega
  ·intro h; cases h
 ·rw [if_neg c, asc_lk h]
  constructor
  ·rintro ⟨⟨h2, _⟩, h4⟩; exact ⟨h2, h4⟩
  ·rintro ⟨h2, h4⟩; exact ⟨⟨h2, by omega⟩, h4⟩
def mergeL (old fresh : List Itm) (gone : List Nat) : List Itm := (sortL fresh).foldl (fun o x => insL x o) (gone.foldl (fun o g => delL g o) (sortL old))
theorem asc_gone : ∀ (gone : List Nat) (S : List Itm), Asc S → Asc (gone.foldl (fun o g => delL g o) S)
 | [], _, h => h
 | g :: gone, _, h => asc_gone gone _ (asc_delL g h)
theorem lk_gone (k : Nat) : ∀ (gone : List Nat) (S : List Itm), Asc S → lk (gone.foldl (fun o g => delL g o) S) k = if k ∈ gone then none else lk S k
 | [], _, _ => by simp
 | g :: gone, S, h => by
  rw [List.foldl_cons, lk_gone k gone _ (asc_delL g h), lk_delL h]
  by_cases c1 : k ∈ gone
  ·simp [c1]
  ·by_cases c2 : k = g <;> simp [c1, c2]
theorem asc_put : ∀ (F : List Itm) (S : List Itm), Asc S → Asc (F.foldl (fun o x => insL x o) S)
 | [], _, h => h
 | _ :: F, _, h => asc_put F _ (asc_insL h)
theorem lk_put (k : Nat) {S : List Itm} (h : Asc S) : ∀ (F : List Itm), lk (F.foldl (fun o x => insL x o) S) k = (match lk F k with | some x => some x | none => lk S k) := by
 refine listRev rfl fun l b ih => ?_
 rw [List.foldl_append, List.foldl_cons, List.foldl_nil, lk_insL (asc_put l S h), lk_snoc, ih]
 by_cases c : b.key = k
 ·simp [c]
 ·simp [c]
theorem asc_mergeL (old fresh : List Itm) (gone : List Nat) : Asc (mergeL old fresh gone) := asc_put _ _ (asc_gone _ _ (asc_sortL old))
theorem lk_mergeL (old fresh : List Itm) (gone : List Nat) (k : Nat) : lk (mergeL old fresh gone) k = (match lk fresh k with | some x => some x | none => if k ∈ gone then none else lk old k) := by
 unfold mergeL
 rw [lk_put k (asc_gone _ _ (asc_sortL old)), lk_sortL, lk_gone k gone _ (asc_sortL old), lk_sortL]
theorem mem_delL {k : Nat} {S : List Itm} {z : Itm} (h : z ∈ delL k S) : z ∈ S := (List.mem_filter.1 h).1
/-- An item is valid. -/
def okI (x : Itm) : Prop := 16 ≤ x.off ∧ x.off ≤ 1048576 ∧ x.off.tmod 8 = 0 ∧ 0 ≤ x.sz ∧ x.sz ≤ 4096
instance (x : Itm) : Decidable (okI x) := by unfold okI; infer_instance
def okT (L : List Itm) : Prop := (∀ x ∈ L, okI x) ∧ Asc L
instance (L : List Itm) : Decidable (okT L) := by unfold okT Asc; infer_instance
def z0 : Itm := ⟨0, 0, 0, 0⟩
theorem getT_mem {L : List Itm} {k : Nat} (h : k < L.length) : L.getD k z0 ∈ L := by
 simp [List.getD, h]
theorem okT_iff (L : List Itm) : okT L ↔ ∀ i, i < L.length → okI (L.getD i z0) ∧ (0 < i → (L.getD (i - 1) z0).key < (L.getD i z0).key) := by
 constructor
 ·rintro ⟨h1, h2⟩ i hi
  refine ⟨h1 _ (getT_mem hi), fun h0 => ?_⟩
  have := List.pairwise_iff_getElem.1 h2 (i - 1) i (by omega) hi (by omega)
  simpa [List.getD, hi, show i - 1 < L.length by omega] using this
 ·intro h
  refine ⟨fun x hx => ?_, ?_⟩
  ·obtain ⟨i, hi, rfl⟩ := List.getElem_of_mem hx
   have := (h i hi).1
   simpa [List.getD, hi] using this
  ·refine List.pairwise_iff_getElem.2 fun i j hi hj hij => ?_
   have step : ∀ d, (hd : i + 1 + d < L.length) → L[i].key < (L[i + 1 + d]).key := by
    intro d
    induction d with
    | zero =>
     intro hd
     have := (h (i + 1) hd).2 (by omega)
     have hd' : i + 1 < L.length := hd
     simpa [List.getD, hd', hi] using this
    | succ d ih =>
     intro hd
     have h1 := ih (by omega)
     have h2 := (h (i + 1 + (d + 1)) hd).2 (by omega)
     have hd1 : i + 1 + d < L.length := by omega
     have hd2 : i + 1 + (d + 1) < L.length := hd
     rw [show i + 1 + (d + 1) - 1 = i + 1 + d by omega] at h2
     have h3 : (L[i + 1 + d]).key < (L[i + 1 + (d + 1)]).key := by simpa [List.getD, hd1, hd2] using h2
     omega
   have := step (j - (i + 1)) (by omega)
   simpa [show i + 1 + (j - (i + 1)) = j by omega] using this
theorem infoT : (Tryz.prog.info? 56).map (fun i => (i.zero, i.size, i.bytes)) = some (some (.agg #[.int .u64 0, .int .u32 0, .int .i64 0, .int .i64 0]), 4, 32) := by kernel_rfl
theorem infoT4 : (Tryz.prog.info? 56).map (·.size) = some 4 := by kernel_rfl
def J64 (n : Int) : Prop := -9223372036854775808 ≤ n ∧ n ≤ 9223372036854775807
structure ItOk (x : Itm) : Prop where
 key : x.key < 18446744073709551616
 ck : x.ck < 4294967296
 off : J64 x.off
 sz : J64 x.sz
theorem z0_ok : ItOk z0 := ⟨by decide, by decide, by unfold J64; decide, by unfold J64; decide⟩
def itV (x : Itm) : List Value := [.int .u64 (x.key : Int), .int .u32 (x.ck : Int), .int .i64 x.off, .int .i64 x.sz]
/-- An item as a value. -/
def TV (x : Itm) : Value := .agg #[.int .u64 (x.key : Int), .int .u32 (x.ck : Int), .int .i64 x.off, .int .i64 x.sz]
def cellsT (L : List Itm) : List Value := L.flatMap itV
theorem cellsT_append (L M : List Itm) : cellsT (L ++ M) = cellsT L ++ cellsT M := by simp [cellsT]
theorem cellsT_cons (x : Itm) (L : List Itm) : cellsT (x :: L) = itV x ++ cellsT L := by simp [cellsT]
theorem cellsT_length : ∀ (L : List Itm), (cellsT L).length = L.length * 4
 | [] => rfl
 | x :: L => by rw [cellsT_cons, List.length_append, cellsT_length L, List.length_cons]; simp [itV]; omega
theorem cellsT_one : ∀ (L : List Itm), ∀ u ∈ cellsT L, u.oneCell' = true := fun L u hu => by
 simp only [cellsT, List.mem_flatMap] at hu
 obtain ⟨x, -, hx⟩ := hu
 simp only [itV, List.mem_cons, List.not_mem_nil, or_false] at hx
 rcases hx with rfl | rfl | rfl | rfl <;> rfl
theorem cellsT_at : ∀ (L : List Itm) (k j : Nat), k < L.length → j < 4 → (cellsT L)[k * 4 + j]? = (itV (L.getD k z0))[j]?
 | [], k, _, h, _ => by simp at h
 | x :: L, 0, j, _, hj => by
  rw [cellsT_cons, Nat.zero_mul, Nat.zero_add, List.getElem?_append_left (by simpa [itV] using hj)]
  rfl
 | x :: L, k + 1, j, h, hj => by
  have ih := cellsT_at L k j (by simpa using h) hj
  rw [cellsT_cons, List.getElem?_append_right (by simp [itV]; omega), show (k + 1) * 4 + j - (itV x).length = k * 4 + j by simp [itV]; omega, ih]
  rfl
theorem cellsT_drop : ∀ (L : List Itm) (p : Nat), (cellsT L).drop (p * 4) = cellsT (L.drop p)
 | [], p => by simp [cellsT]
 | x :: L, 0 => by simp
 | x :: L, p + 1 => by
  rw [cellsT_cons, List.drop_succ_cons, ← cellsT_drop L p, show (p + 1) * 4 = 4 + p * 4 by omega, ← List.drop_drop]
  rfl
theorem cellsT_take : ∀ (L : List Itm) (p : Nat), (cellsT L).take (p * 4) = cellsT (L.take p)
 | [], p => by simp [cellsT]
 | x :: L, 0 => by simp [cellsT]
 | x :: L, p + 1 => by
  rw [cellsT_cons, List.take_succ_cons, cellsT_cons, ← cellsT_take L p, show (p + 1) * 4 = 4 + p * 4 by omega]
  exact List.take_length_add_append (l₁ := itV x) (p * 4)
/-- The slice value v reads as the items L. -/
def It (w : World) (v : Value) (L : List Itm) : Prop :=
 (∀ x ∈ L, ItOk x) ∧ ∃ a cap, v = .slice a L.length cap ∧ L.length ≤ cap ∧ cap ≤ maxLen ∧ (0 < L.length → ∃ b off, a = some ⟨b, off, none⟩ ∧ ∀ j u, (cellsT L)[j]? = some u → w.cell? ⟨b, off + j, none⟩ = some u)
theorem it_nil (w : World) : It w (.slice none 0 0) [] := ⟨by simp, none, 0, rfl, Nat.le_refl _, by simp, fun h => by simp at h⟩
theorem it_form {w : World} {v : Value} {L : List Itm} (h : It w v L) : ∃ a cap, v = .slice a L.length cap ∧ L.length ≤ cap ∧ cap ≤ maxLen := by
 obtain ⟨_, a, cap, h1, h2, h3, _⟩ := h
 exact ⟨a, cap, h1, h2, h3⟩
theorem it_below {w w' : World} {v : Value} {L : List Itm} (h : It w v L) (hB : Below w.heap.size w w') : It w' v L := by
 obtain ⟨h0, a, cap, h1, h2, h3, h4⟩ := h
 refine ⟨h0, a, cap, h1, h2, h3, fun hp => ?_⟩
 obtain ⟨b, off, e, hc⟩ := h4 hp
 exact ⟨b, off, e, fun j u hu => (hB.cell (block_lt_of_cell (hc j u hu))).trans (hc j u hu)⟩
theorem getT_ok {L : List Itm} (h : ∀ x ∈ L, ItOk x) (k : Nat) : ItOk (L.getD k z0) := by
 by_cases hk : k < L.length
 ·exact h _ (getT_mem hk)
 ·rw [show L.getD k z0 = z0 by simp [List.getD, hk]]; exact z0_ok
/-- The four cells of an item. -/
structure C4 (w : World) (b o : Nat) (x : Itm) : Prop where
 c0 : w.cell? ⟨b, o, none⟩ = some (.int .u64 (x.key : Int))
 c1 : w.cell? ⟨b, o + 1, none⟩ = some (.int .u32 (x.ck : Int))
 c2 : w.cell? ⟨b, o + 2, none⟩ = some (.int .i64 x.off)
 c3 : w.cell? ⟨b, o + 3, none⟩ = some (.int .i64 x.sz)
theorem C4.below {w w' : World} {b o : Nat} {x : Itm} (h : C4 w b o x) (hB : Below w.heap.size w w') : C4 w' b o x :=
 ⟨(hB.cell (block_lt_of_cell h.c0)).trans h.c0, (hB.cell (block_lt_of_cell h.c1)).trans h.c1, (hB.cell (block_lt_of_cell h.c2)).trans h.c2, (hB.cell (block_lt_of_cell h.c3)).trans h.c3⟩
theorem it_cells {w : World} {v : Value} {L : List Itm} (h : It w v L) (hp : 0 < L.length) : ∃ b off cap, v = .slice (some ⟨b, off, none⟩) L.length cap ∧ L.length ≤ cap ∧ cap ≤ maxLen ∧ ∀ k, k < L.length → C4 w b (off + k * 4) (L.getD k z0) := by
 obtain ⟨_, a, cap, h1, h2, h3, h4⟩ := h
 obtain ⟨b, off, rfl, hc⟩ := h4 hp
 refine ⟨b, off, cap, h1, h2, h3, fun k hk => ?_⟩
 have f : ∀ j u, j < 4 → (itV (L.getD k z0))[j]? = some u → w.cell? ⟨b, off + (k * 4 + j), none⟩ = some u := fun j u hj hu => hc _ u (by rw [cellsT_at L k j hk hj]; exact hu)
 exact ⟨f 0 _ (by decide) rfl, by rw [Nat.add_assoc]; exact f 1 _ (by decide) rfl, by rw [Nat.add_assoc]; exact f 2 _ (by decide) rfl, by rw [Nat.add_assoc]; exact f 3 _ (by decide) rfl⟩
/-- A part of a list. -/
theorem it_cut {w : World} {b o n cap : Nat} {L : List Itm} (h : It w (.slice (some ⟨b, o, none⟩) n cap) L) (p c : Nat) (hpc : p + c ≤ L.length) : It w (.slice (some ⟨b, o + p * 4, none⟩) c (cap - p)) ((L.drop p).take c) := by
 obtain ⟨h0, a, cap', h1, h2, h3, h4⟩ := h
 obtain ⟨rfl, rfl, rfl⟩ : a = some ⟨b, o, none⟩ ∧ n = L.length ∧ cap' = cap := by simpa [eq_comm] using h1
 have hl : ((L.drop p).take c).length = c := by rw [List.length_take, List.length_drop]; omega
 refine ⟨fun x hx => h0 x (List.mem_of_mem_drop (List.mem_of_mem_take hx)), _, _, by rw [hl], by rw [hl]; omega, by omega, fun hp => ?_⟩
 rw [hl] at hp
 obtain ⟨b', o', e, hc⟩ := h4 (by omega)
 obtain ⟨rfl, rfl⟩ : b = b' ∧ o = o' := by simpa using e
 refine ⟨b, o + p * 4, rfl, fun j u hu => ?_⟩
 rw [Nat.add_assoc]
 refine hc _ u ?_
 rw [← cellsT_take, ← cellsT_drop] at hu
 rw [List.getElem?_take] at hu
 split at hu
 ·rwa [List.getElem?_drop] at hu
 ·cases hu
theorem it_empty {w : World} (a : Option Addr) (cap : Nat) (h : cap ≤ maxLen) : It w (.slice a 0 cap) [] := ⟨by simp, a, cap, rfl, Nat.zero_le _, h, fun h => by simp at h⟩
theorem it_one {w : World} {g : Nat} {x : Itm} {fr : Nat × Nat} (hx : ItOk x) (hg : w.heap[g]? = some (.cells #[.int .u64 (x.key : Int), .int .u32 (x.ck : Int), .int .i64 x.off, .int .i64 x.sz] 56 fr)) : It w (.slice (some ⟨g, 0, none⟩) 1 1) [x] := by
 refine ⟨by simpa using hx, _, _, rfl, Nat.le_refl _, by unfold maxLen; decide, fun _ => ⟨g, 0, rfl, fun j u hu => ?_⟩⟩
 rw [Nat.zero_add, cell_of_row w g j _ _ _ hg]
 simpa [cellsT, itV] using hu
/-- The slice v is the call's own and holds the items L. -/
def OwT (w : World) (base : Nat) (v : Value) (L : List Itm) : Prop := (∀ x ∈ L, ItOk x) ∧ w.ownsRow base 56 4 v L.length (cellsT L)
theorem owT_nil (w : World) (base : Nat) : OwT w base (.slice none 0 0) [] := ⟨by simp, World.ownsRow_nil _ _ _ _⟩
theorem owT_it {w : World} {base : Nat} {v : Value} {L : List Itm} (h : OwT w base v L) : It w v L := by
 obtain ⟨h0, _, ⟨rfl, h1⟩ | ⟨g, cap, cur, rfl, hg, hb, hn, hm, hsz, ht⟩⟩ := h
 ·obtain rfl := List.eq_nil_of_length_eq_zero h1
  exact it_nil w
 ·refine ⟨h0, _, _, rfl, hn, hm, fun _ => ⟨g, 0, rfl, fun j u hu => ?_⟩⟩
  rw [Nat.zero_add, cell_of_row w g j cur _ (0, 0) hb]
  rw [← ht, List.getElem?_take] at hu
  split at hu
  ·simpa using hu
  ·cases hu
theorem owT_form {w : World} {base : Nat} {v : Value} {L : List Itm} (h : OwT w base v L) : ∃ a cap, v = .slice a L.length cap ∧ L.length ≤ cap ∧ cap ≤ maxLen := it_form (owT_it h)
theorem owT_lt {w : World} {base : Nat} {v : Value} {L : List Itm} (h : OwT w base v L) : ∀ k, v.ownBlock = some k → base ≤ k ∧ k < w.heap.size := h.2.lt
theorem owT_keep {w w' : World} {base : Nat} {v : Value} {L : List Itm} (h : OwT w base v L) (hk : ∀ k, v.ownBlock = some k → w'.heap[k]? = w.heap[k]?) : OwT w' base v L := by
 obtain ⟨h0, h1, h2 | ⟨g, cap, cur, rfl, hg, hb, h3⟩⟩ := h
 ·exact ⟨h0, h1, Or.inl h2⟩
 ·exact ⟨h0, h1, Or.inr ⟨g, cap, cur, rfl, hg, (hk g rfl).trans hb, h3⟩⟩
theorem owT_below {w w' : World} {base : Nat} {v : Value} {L : List Itm} (h : OwT w base v L) (hB : Below w.heap.size w w') : OwT w' base v L := owT_keep h fun k hk => hB.block _ (owT_lt h k hk).2
theorem owT_base {w : World} {base b2 : Nat} {v : Value} {L : List Itm} (h : OwT w base v L) (hb : b2 ≤ base) : OwT w b2 v L := by
 obtain ⟨h0, h1, h2 | ⟨g, cap, cur, rfl, hg, h3⟩⟩ := h
 ·exact ⟨h0, h1, Or.inl h2⟩
 ·exact ⟨h0, h1, Or.inr ⟨g, cap, cur, rfl, by omega, h3⟩⟩
/-- The first k items of one's own slice, which go on having its room. -/
theorem owT_take {w : World} {base n cap k : Nat} {a : Option Addr} {L : List Itm} (h : OwT w base (.slice a n cap) L) (hk : k ≤ L.length) : OwT w base (.slice a k cap) (L.take k) := by
 have hl : (L.take k).length = k := by rw [List.length_take]; omega
 obtain ⟨h0, h1, ⟨h2, h3⟩ | ⟨g, cap', cur, h2, hg, hb, hn, hm, hsz, ht⟩⟩ := h
 ·obtain rfl : k = 0 := by omega
  obtain ⟨rfl, rfl, rfl⟩ : a = none ∧ n = 0 ∧ cap = 0 := by simpa using h2
  rw [List.take_zero]
  exact owT_nil w base
 ·obtain ⟨rfl, rfl, rfl⟩ : a = some ⟨g, 0, none⟩ ∧ n = L.length ∧ cap = cap' := by simpa using h2
  refine ⟨fun x hx => h0 x (List.mem_of_mem_take hx), by rw [cellsT_length], Or.inr ⟨g, cap, cur, by rw [hl], hg, hb, by rw [hl]; omega, hm, hsz, ?_⟩⟩
  rw [hl, ← cellsT_take, ← ht, List.take_take, Nat.min_eq_left (by omega)]
/-- append of items. -/
theorem run_app_it {W : World} {base : Nat} {v y : Value} {L M : List Itm} (ty : TypeId) (hv : OwT W base v L) (hx : It W y M) (hlm : L.length + M.length ≤ 100000000) (hb : base ≤ W.heap.size) :
 ∃ v' w', (Builtin.append_ #[38, 38] ty #[v, y]).run Tryz.prog W = .ok v' w' ∧ OwT w' base v' (L ++ M) ∧ W.grownBy w' v.ownBlock := by
 obtain ⟨i, hi, hz0, hz1, hz2⟩ := info_parts infoT
 obtain ⟨hl, hown⟩ := hv
 obtain ⟨hm, a, cp, rfl, hcp, hcm, hcell⟩ := hx
 have hall : ∀ x ∈ L ++ M, ItOk x := fun x hx => (List.mem_append.1 hx).elim (hl x) (hm x)
 have some_case : ∀ (a : Addr), (∀ j u, (cellsT M)[j]? = some u → W.cell? (a.add j) = some u) →
  ∃ v' w', (Builtin.append_ #[38, 38] ty #[v, .slice (some a) M.length cp]).run Tryz.prog W = .ok v' w' ∧ OwT w' base v' (L ++ M) ∧ W.grownBy w' v.ownBlock := fun a hc => by
  obtain ⟨v', w', hr, ho, hg, _⟩ := run_append_own (P := Tryz.prog) W base 38 ty 56 i _ 4 32 Tryz.underlying38 hi hz0 hz1 hz2 rfl (by decide) _ _ _ hown a M.length cp (cellsT M) (cellsT_length M) hc (cellsT_one M) (by unfold maxLen; omega) (by omega) hb
  exact ⟨v', w', hr, ⟨hall, by rw [List.length_append, cellsT_append]; exact ho⟩, hg⟩
 cases a with
 | some a =>
  by_cases hp : 0 < M.length
  ·obtain ⟨b, off, e, hc⟩ := hcell hp
   obtain rfl : a = ⟨b, off, none⟩ := by simpa using e
   exact some_case _ fun j u hu => by rw [add_none]; exact hc j u hu
  ·obtain rfl : M = [] := List.eq_nil_of_length_eq_zero (by omega)
   exact some_case a fun j u hu => by simp [cellsT] at hu
 | none =>
  have h0 : M = [] := by
   by_cases hp : 0 < M.length
   ·obtain ⟨b, off, e, _⟩ := hcell hp
    cases e
   ·exact List.eq_nil_of_length_eq_zero (by omega)
  subst h0
  have hsame : W.grownBy W v.ownBlock := ⟨rfl, rfl, rfl, Nat.le_refl _, fun _ _ _ => rfl⟩
  rcases hown.2 with ⟨rfl, h0⟩ | ⟨g', cap, cur, rfl, hg, hbk, hn, hcm, hsz, ht⟩
  ·obtain rfl := List.eq_nil_of_length_eq_zero h0
   refine ⟨.slice none 0 0, W, ?_, owT_nil W base, hsame⟩
   simp [Builtin.append_, run_underlying Tryz.underlying38, sizeOf, typeInfo, hi, Builtin.lenOf, Builtin.firstCells]
  ·refine ⟨_, W, ?_, by rw [List.append_nil]; exact ⟨hl, hown⟩, hsame⟩
   simp [Builtin.append_, run_underlying Tryz.underlying38, sizeOf, typeInfo, hi, Builtin.lenOf, Builtin.firstCells, loadCells, storeCells, hn]
theorem wp_app_it {dst : Option Tmp} {s x : Operand} {pos : String} {after : Array Edge} {ty : TypeId} {gd : Option (Nat × Bool)} {a : Act} {W : World} {K : Act → World → Prop} {Q : Exit → Act → World → Prop}
 {base : Nat} {v y : Value} {L M : List Itm} (hs : a.eval s = v) (hy : a.eval x = y) (hv : OwT W base v L) (hx : It W y M) (hlm : L.length + M.length ≤ 100000000) (hb : base ≤ W.heap.size)
 (h : ∀ v' w', OwT w' base v' (L ++ M) → W.grownBy w' v.ownBlock → K (a.put dst v') w') : Oper.wp Tryz.prog ⟨dst, .call { callee := .builtin .append, args := #[s, x], argTypes := #[38, 38] }, ty, pos, after, gd⟩ a W K Q := by
 obtain ⟨v', w', hr, h2, h3⟩ := run_app_it ty hv hx hlm hb
 unfold Oper.wp execOp
 simp only [resolve, invoke, builtin, Sem.run_bind, Sem.run_pure, Result.andThen_ok, List.map_toArray, List.map_cons, List.map_nil, hs, hy, hr]
 exact h v' w' h2 h3
theorem app_it {ops : Array Oper} {rest : List Oper} {dst : Option Tmp} {s x : Operand} {pos : String} {after : Array Edge} {ty : TypeId} {a : Act} {W : World} {Q : Exit → Act → World → Prop}
 {base : Nat} {v y : Value} {L M : List Itm} (hs : a.eval s = v) (hy : a.eval x = y) (hv : OwT W base v L) (hx : It W y M) (hlm : L.length + M.length ≤ 100000000) (hb : base ≤ W.heap.size)
 (h : ∀ v' w', OwT w' base v' (L ++ M) → W.grownBy w' v.ownBlock → wpList Tryz.prog ops Q rest (a.put dst v') w') : wpList Tryz.prog ops Q (⟨dst, .call { callee := .builtin .append, args := #[s, x], argTypes := #[38, 38] }, ty, pos, after, none⟩ :: rest) a W :=
 wpList_plain rfl fun _ hK => wp_app_it hs hy hv hx hlm hb fun v' w' h2 h3 => hK _ _ (h v' w' h2 h3)
/-- What stays of a world behind an append. -/
theorem below_grownT {B : Nat} {a w w' : World} {base : Nat} {v : Value} {L : List Itm} (h : Below B a w) (hg : w.grownBy w' v.ownBlock) (ho : OwT w base v L) (hB : B ≤ w.heap.size) (hb : B ≤ base) : Below B a w' :=
 h.grown hg hB (fun k hk => Nat.le_trans hb (owT_lt ho k hk).1)
theorem run_neqT (x y : Itm) (W : World) : (binOp .neq 56 (TV x) (TV y)).run Tryz.prog W = .ok (.bool (!(((x.key : Int) == y.key && (x.ck : Int) == y.ck) && x.off == y.off && x.sz == y.sz))) W := by
 unfold TV
 by_cases e0 : (x.key : Int) = y.key <;> by_cases e1 : (x.ck : Int) = y.ck <;> by_cases e2 : x.off = y.off <;> by_cases e3 : x.sz = y.sz
 all_goals
  go_simp
theorem itm_iff {x y : Itm} : x = y ↔ x.key = y.key ∧ x.ck = y.ck ∧ x.off = y.off ∧ x.sz = y.sz :=
 ⟨fun h => by subst h; exact ⟨rfl, rfl, rfl, rfl⟩, fun ⟨h1, h2, h3, h4⟩ => itm_ext h1 h2 h3 h4⟩
instance : DecidableEq Itm := fun _ _ => decidable_of_iff _ itm_iff.symm
theorem itm_beq (x y : Itm) : (((x.key : Int) == y.key && (x.ck : Int) == y.ck) && x.off == y.off && x.sz == y.sz) = decide (x = y) := by
 rw [Bool.eq_iff_iff]
 simp only [Bool.and_eq_true, beq_iff_eq, decide_eq_true_eq, itm_iff]
 omega
theorem neqT (x y : Itm) (W : World) : (binOp .neq 56 (TV x) (TV y)).run Tryz.prog W = .ok (.bool (!decide (x = y))) W := by
 rw [run_neqT, itm_beq]
theorem list_take_eq {L M : List Itm} {i : Nat} (hl : i < L.length) (hm : i < M.length) (h : L.take i = M.take i) (he : L.getD i z0 = M.getD i z0) : L.take (i + 1) = M.take (i + 1) := by
 rw [List.take_succ_eq_append_getElem hl, List.take_succ_eq_append_getElem hm, h]
 simp [List.getD, hl, hm] at he
 rw [he]
theorem rsame8_any (v1 v2 : Value) (L1 L2 : List Itm) (w : World) (s1 : It w v1 L1) (s2 : It w v2 L2) : Calls Tryz.prog 38 #[v1, v2] w fun e w' => e = .returned (.bool (decide (L1 = L2))) ∧ Below w.heap.size w w' := by
 obtain ⟨a1, c1, rfl, -, -⟩ := it_form s1
 obtain ⟨a2, c2, rfl, -, hm2⟩ := it_form s2
 by_cases hn : L1.length = L2.length
 case neg =>
  rw [decide_eq_false (fun h => hn (by rw [h]))]
  have hb : ((L1.length : Int) != (L2.length : Int)) = true := by rw [bne_iff_ne]; omega
  generalize L1.length = n1 at *
  generalize L2.length = n2 at *
  clear hn s1 s2 hm2
  go_enter Tryz.func38, Tryz.ntmps38
  go_wp2
  go_ret
  exact ⟨rfl, Below.refl _ _⟩
 obtain ⟨n, hn2⟩ : ∃ n, n = L2.length := ⟨_, rfl⟩
 have hn1 : n = L1.length := by omega
 have hbn : ((n : Int) != (n : Int)) = false := by simp
 have hm : n ≤ maxLen := by
  obtain ⟨_, _, h, h1, h2⟩ := it_form s2
  omega
 unfold maxLen at hm
 rw [← hn2, ← hn1]
 have N1 := Lh hn1
 have N2 := Lh hn2
 have S1 := Lh s1
 have S2 := Lh s2
 rw [← hn1] at S1
 rw [← hn2] at S2
 clear hn hn1 hn2 s1 s2 hm2
 go_enter Tryz.func38, Tryz.ntmps38
 go_wp2_with fail
 go_loopw [5] (fun t wr => ∃ i : Nat, i ≤ n ∧ t = .int .i64 (i : Int) ∧ L1.take i = L2.take i ∧ Below w.heap.size w wr) (fun t _ => n - (intOf t).toNat)
 case atStart => exact ⟨0, by omega, rfl, rfl, Below.refl _ _⟩
 case round =>
  obtain ⟨i, hi, rfl, htk, hB⟩ := hrel
  by_cases hin : i < n
  ·have hl4 : decide ((i : Int) < (n : Int)) = true := decide_eq_true (by omega)
   have p0 : (0 : Int) ≤ (i : Int) := by omega
   have p1 : (i : Int) < (n : Int) := by omega
   have N1' := N1.out
   have N2' := N2.out
   obtain ⟨b1, o1, c1', hv1, -, -, hk1⟩ := it_cells S1.out (by omega)
   obtain ⟨b2, o2, c2', hv2, -, -, hk2⟩ := it_cells S2.out (by omega)
   obtain ⟨rfl, -, -⟩ : a1 = some ⟨b1, o1, none⟩ ∧ n = L1.length ∧ c1 = c1' := by simpa using hv1
   obtain ⟨rfl, -, -⟩ : a2 = some ⟨b2, o2, none⟩ ∧ n = L2.length ∧ c2 = c2' := by simpa using hv2
   have k1 := (hk1 i (by omega)).below hB
   have k2 := (hk2 i (by omega)).below hB
   have HTK := Lh (fun he => list_take_eq (by omega : i < L1.length) (by omega : i < L2.length) htk he)
   have HNE : Hid (¬ L1.getD i z0 = L2.getD i z0 → ¬ L1 = L2) := fun h e => h (by rw [e])
   have hq := neqT (L1.getD i z0) (L2.getD i z0)
   generalize L1.getD i z0 = x at *
   generalize L2.getD i z0 = y at *
   obtain ⟨f0, f1, f2, f3⟩ := k1
   obtain ⟨g0, g1, g2, g3⟩ := k2
   have HB := Lh hB
   clear hk1 hk2 hv1 hv2 N1' N2' htk hB
   unfold TV at hq
   by_cases hxy : x = y
   ·rw [decide_eq_true hxy] at hq
    have HX := Lh (HTK.out hxy)
    clear HTK HNE hxy
    go_wp2
    go_quiet (fail)
    have hd := bt HB.out (below_drewN wr nq)
    clear HB f0 f1 f2 f3 g0 g1 g2 g3
    generalize wr.drewN nq = W9 at *
    go_wp2
    go_roundw
    case rel => exact ⟨i + 1, by omega, by go_num, HX.out, hd⟩
    case measure => simp [intOf]; omega
   ·rw [decide_eq_false hxy] at hq
    have HX := Lh (HNE.out hxy)
    clear HTK HNE hxy
    go_wp2
    go_quiet (fail)
    have hd := bt HB.out (below_drewN wr nq)
    clear HB f0 f1 f2 f3 g0 g1 g2 g3
    generalize wr.drewN nq = W9 at *
    go_wp2
    go_ret
    exact ⟨by rw [decide_eq_false HX.out]; rfl, hd⟩
  ·obtain rfl : i = n := by omega
   have hl4 : decide ((i : Int) < (i : Int)) = false := decide_eq_false (by omega)
   have HE : Hid (L1 = L2) := by
    show L1 = L2
    have h1 : L1.take i = L1 := List.take_of_length_le (by have := N1.out; omega)
    have h2 : L2.take i = L2 := List.take_of_length_le (by have := N2.out; omega)
    rw [← h1, ← h2]
    exact htk
   have HB := Lh hB
   clear htk hB
   go_wp2
   go_ret
   exact ⟨by rw [decide_eq_true HE.out]; rfl, HB.out⟩
theorem rvitem_any (x : Itm) (w : World) : Calls Tryz.prog 51 #[TV x] w fun e w' => e = .returned (.bool (decide (okI x))) ∧ Below w.heap.size w w' := by
 have HB := Lh ((Below.refl w.heap.size w).alloc (Nat.le_refl _) (.cells #[.int .u64 (x.key : Int), .int .u32 (x.ck : Int), .int .i64 x.off, .int .i64 x.sz] 56))
 have hd : decide (okI x) = (decide (16 ≤ x.off) && decide (x.off ≤ 1048576) && (x.off.tmod 8 == 0) && decide (0 ≤ x.sz) && decide (x.sz ≤ 4096)) := by
  rw [Bool.eq_iff_iff, decide_eq_true_iff]
  unfold okI
  simp only [decide_eq_true_eq, Bool.and_eq_true, beq_iff_eq]
  constructor
  ·rintro ⟨h1, h2, h3, h4, h5⟩; exact ⟨⟨⟨⟨h1, h2⟩, h3⟩, h4⟩, h5⟩
  ·rintro ⟨⟨⟨⟨h1, h2⟩, h3⟩, h4⟩, h5⟩; exact ⟨h1, h2, h3, h4, h5⟩
 rw [hd]
 clear hd
 unfold TV
 generalize x.off = off at *
 generalize x.sz = sz at *
 obtain ⟨d1, hd1⟩ : ∃ b, decide (16 ≤ off) = b := ⟨_, rfl⟩
 obtain ⟨d2, hd2⟩ : ∃ b, decide (off ≤ 1048576) = b := ⟨_, rfl⟩
 obtain ⟨d3, hd3⟩ : ∃ b, (off.tmod 8 == 0) = b := ⟨_, rfl⟩
 obtain ⟨d4, hd4⟩ : ∃ b, decide (0 ≤ sz) = b := ⟨_, rfl⟩
 obtain ⟨d5, hd5⟩ : ∃ b, decide (sz ≤ 4096) = b := ⟨_, rfl⟩
 rw [hd1, hd2, hd3, hd4, hd5]
 cases d1
 ·clear hd2 hd3 hd4 hd5
  go_enter Tryz.func51, Tryz.ntmps51
  go_wp2
  go_ret
  exact ⟨rfl, HB.out⟩
 cases d2
 ·clear hd3 hd4 hd5
  go_enter Tryz.func51, Tryz.ntmps51
  go_wp2
  go_ret
  exact ⟨rfl, HB.out⟩
 cases d3
 ·clear hd4 hd5
  go_enter Tryz.func51, Tryz.ntmps51
  go_wp2
  go_ret
  exact ⟨rfl, HB.out⟩
 cases d4
 ·clear hd5
  go_enter Tryz.func51, Tryz.ntmps51
  go_wp2
  go_ret
  exact ⟨rfl, HB.out⟩
 cases d5
 all_goals
  go_enter Tryz.func51, Tryz.ntmps51
  go_wp2
  go_ret
  exact ⟨rfl, HB.out⟩
theorem regrown_bel {P : Program} {f : FuncId} {args : Array Value} {w : World} {v : Value} (h : ∀ w', Below w.heap.size w w' → Calls P f args w' fun e w'' => e = .returned v ∧ Below w'.heap.size w' w'') : ∀ d os, Calls P f args (grow (redrawn w d) os) fun e w'' => e = .returned v ∧ ∃ p : Regrown, w'' = grow (redrawn w p.d) p.os := fun d os => Calls.regrown_of (h _ (below_regrown w d os))
theorem C4.re {w : World} {b o : Nat} {x : Itm} (h : C4 w b o x) : (∀ d os, (grow (redrawn w d) os).cell? ⟨b, o, none⟩ = some (.int .u64 (x.key : Int))) ∧ (∀ d os, (grow (redrawn w d) os).cell? ⟨b, o + 1, none⟩ = some (.int .u32 (x.ck : Int))) ∧ (∀ d os, (grow (redrawn w d) os).cell? ⟨b, o + 2, none⟩ = some (.int .i64 x.off)) ∧ (∀ d os, (grow (redrawn w d) os).cell? ⟨b, o + 3, none⟩ = some (.int .i64 x.sz)) :=
 ⟨cells_regrown h.c0, cells_regrown h.c1, cells_regrown h.c2, cells_regrown h.c3⟩
/-- Valid, up to the i-th item. -/
def okTo (L : List Itm) (i : Nat) : Prop := ∀ j, j < i → okI (L.getD j z0) ∧ (0 < j → (L.getD (j - 1) z0).key < (L.getD j z0).key)
theorem okTo_succ {L : List Itm} {i : Nat} (h : okTo L i) (h1 : okI (L.getD i z0)) (h2 : 0 < i → (L.getD (i - 1) z0).key < (L.getD i z0).key) : okTo L (i + 1) := fun j hj => by
 by_cases e : j = i
 ·subst e; exact ⟨h1, h2⟩
 ·exact h j (by omega)
theorem rvalid8_any (v : Value) (L : List Itm) (w : World) (s : It w v L) : Calls Tryz.prog 89 #[v] w fun e w' => e = .returned (.bool (decide (okT L))) ∧ Below w.heap.size w w' := by
 obtain ⟨a, c, rfl, -, hm⟩ := it_form s
 obtain ⟨n, hn⟩ : ∃ n, n = L.length := ⟨_, rfl⟩
 have hml : n ≤ maxLen := by
  obtain ⟨_, _, h, h1, h2⟩ := it_form s
  omega
 unfold maxLen at hml
 rw [← hn]
 have N := Lh hn
 have S := Lh s
 rw [← hn] at S
 clear hn s hm
 go_enter Tryz.func89, Tryz.ntmps89
 go_wp2_with fail
 go_loopw [3] (fun t wr => ∃ i : Nat, i ≤ n ∧ t = .int .i64 (i : Int) ∧ okTo L i ∧ Below w.heap.size w wr) (fun t _ => n - (intOf t).toNat)
 case atStart => exact ⟨0, by omega, rfl, (fun j hj => by omega), Below.refl _ _⟩
 case round =>
  obtain ⟨i, hi, rfl, hok, hB⟩ := hrel
  by_cases hin : i < n
  ·have hl4 : decide ((i : Int) < (n : Int)) = true := decide_eq_true (by omega)
   have p0 : (0 : Int) ≤ (i : Int) := by omega
   have p1 : (i : Int) < (n : Int) := by omega
   have N' := N.out
   obtain ⟨b1, o1, c1', hv1, -, -, hk1⟩ := it_cells S.out (by omega)
   obtain ⟨rfl, -, -⟩ : a = some ⟨b1, o1, none⟩ ∧ n = L.length ∧ c = c1' := by simpa using hv1
   have k1 := (hk1 i (by omega)).below hB
   have hbad : (¬ okI (L.getD i z0) ∨ (0 < i ∧ ¬ (L.getD (i - 1) z0).key < (L.getD i z0).key)) → ¬ okT L := fun h e => by
    have h2 := (okT_iff L).1 e i (by omega)
    rcases h with h | ⟨h3, h4⟩
    ·exact h h2.1
    ·exact h4 (h2.2 h3)
   have HBAD := Lh hbad
   have HOK := Lh (okTo_succ hok)
   have HB := Lh hB
   obtain ⟨f0, f1, f2, f3⟩ := k1.re
   have G1 := Lh (regrown_bel (w := wr) fun w' _ => rvitem_any (L.getD i z0) w')
   by_cases c1 : okI (L.getD i z0)
   case neg =>
    have HX := Lh (HBAD.out (Or.inl c1))
    rw [decide_eq_false c1] at G1
    unfold TV at G1
    clear HBAD HOK hbad hok hk1 hv1 N' k1 hB c1
    generalize L.getD i z0 = x at *
    go_wp2_with fail
    refine wp_region_bl (by kernel_rfl) (by kernel_rfl) ?_
    iterate 4 (go_big_quiet_step (fail))
    go_big_quiet_step ((go_at_call 51; exact G1.out _ _))
    repeat (go_big_quiet_step (fail))
    refine wpQuiet_nil ?_
    intro w9 hb9
    go_wp2_with fail
    go_ret
    exact ⟨by rw [decide_eq_false HX.out]; rfl, bt HB.out hb9⟩
   rw [decide_eq_true c1] at G1
   unfold TV at G1
   by_cases hi0 : 0 < i
   ·have d0 : decide ((0 : Int) < (i : Int)) = true := decide_eq_true (by omega)
    have k0 := (hk1 (i - 1) (by omega)).below hB
    obtain ⟨j, hj⟩ : ∃ j, j = i - 1 := ⟨_, rfl⟩
    rw [← hj] at k0 HOK HBAD
    have e1 : IntKind.i64.wrap ((i : Int) - 1) = (j : Int) := by rw [IntWalk.i64_in _ (by omega)]; omega
    have p2 : (0 : Int) ≤ (j : Int) := by omega
    have p3 : (j : Int) < (n : Int) := by omega
    obtain ⟨e0, -, -, -⟩ := k0.re
    by_cases c2 : (L.getD j z0).key < (L.getD i z0).key
    ·have d2 : decide (((L.getD i z0).key : Int) ≤ ((L.getD j z0).key : Int)) = false := decide_eq_false (by omega)
     have d3 : ¬ (L.getD i z0).key ≤ (L.getD j z0).key := by omega
     have HX := Lh (HOK.out c1 fun _ => c2)
     clear HBAD HOK hbad hok hk1 hv1 N' k1 k0 hB c1 c2 hj
     generalize L.getD i z0 = x at *
     generalize L.getD j z0 = y at *
     go_wp2_with fail
     refine wp_region_bl (by kernel_rfl) (by kernel_rfl) ?_
     iterate 4 (go_big_quiet_step (fail))
     go_big_quiet_step ((go_at_call 51; exact G1.out _ _))
     repeat (go_big_quiet_step (fail))
     refine wpQuiet_nil ?_
     intro w9 hb9
     have hd := bt HB.out hb9
     clear hb9 HB
     go_wp2
     all_goals
      refine ⟨⟨i + 1, by omega, by go_num, HX.out, hd⟩, ?_⟩
      simp [intOf]
      omega
    ·have d2 : decide (((L.getD i z0).key : Int) ≤ ((L.getD j z0).key : Int)) = true := decide_eq_true (by omega)
     have d3 : (L.getD i z0).key ≤ (L.getD j z0).key := by omega
     have HX := Lh (HBAD.out (Or.inr ⟨hi0, c2⟩))
     clear HBAD HOK hbad hok hk1 hv1 N' k1 k0 hB c1 c2 hj
     generalize L.getD i z0 = x at *
     generalize L.getD j z0 = y at *
     go_wp2_with fail
     refine wp_region_bl (by kernel_rfl) (by kernel_rfl) ?_
     iterate 4 (go_big_quiet_step (fail))
     go_big_quiet_step ((go_at_call 51; exact G1.out _ _))
     repeat (go_big_quiet_step (fail))
     refine wpQuiet_nil ?_
     intro w9 hb9
     go_wp2_with fail
     go_ret
     exact ⟨by rw [decide_eq_false HX.out]; rfl, bt HB.out hb9⟩
   ·have d0 : decide ((0 : Int) < (i : Int)) = false := decide_eq_false (by omega)
    have HX := Lh (HOK.out c1 fun h => absurd h hi0)
    clear HBAD HOK hbad hok hk1 hv1 N' k1 hB c1
    generalize L.getD i z0 = x at *
    go_wp2_with fail
    refine wp_region_bl (by kernel_rfl) (by kernel_rfl) ?_
    iterate 4 (go_big_quiet_step (fail))
    go_big_quiet_step ((go_at_call 51; exact G1.out _ _))
    repeat (go_big_quiet_step (fail))
    refine wpQuiet_nil ?_
    intro w9 hb9
    have hd := bt HB.out hb9
    clear hb9 HB
    go_wp2
    all_goals
     refine ⟨⟨i + 1, by omega, by go_num, HX.out, hd⟩, ?_⟩
     simp [intOf]
     omega
  ·obtain rfl : i = n := by omega
   have hl4 : decide ((i : Int) < (i : Int)) = false := decide_eq_false (by omega)
   have HE : Hid (okT L) := (okT_iff L).2 fun j hj => hok j (by have := N.out; omega)
   have HB := Lh hB
   clear hok hB
   go_wp2
   go_ret
   exact ⟨by rw [decide_eq_true HE.out]; rfl, HB.out⟩
theorem lk_append (A B : List Itm) (k : Nat) : lk (A ++ B) k = (lk B k).or (lk A k) := by
 unfold lk
 rw [List.reverse_append, List.find?_append]
theorem lk_at {L : List Itm} {i k : Nat} (hi : i < L.length) (hk : (L.getD i z0).key = k) (h : ∀ m, i < m → m < L.length → (L.getD m z0).key ≠ k) : lk L k = some (L.getD i z0) := by
 have e : L = L.take (i + 1) ++ L.drop (i + 1) := (List.take_append_drop _ _).symm
 have hx : L[i] = L.getD i z0 := by simp [List.getD, hi]
 have h2 : lk (L.drop (i + 1)) k = none := lk_none.2 fun x hx => by
  obtain ⟨m, hm, rfl⟩ := List.getElem_of_mem hx
  rw [List.length_drop] at hm
  have h3 := h (i + 1 + m) (by omega) (by omega)
  rw [List.getElem_drop]
  simpa [List.getD, show i + 1 + m < L.length by omega] using h3
 have h1 : lk (L.take (i + 1)) k = some (L.getD i z0) := by
  rw [List.take_succ_eq_append_getElem hi, lk_snoc, hx, if_pos hk]
 rw [e, lk_append, h2, h1]
 simp [← e]
theorem lk_miss {L : List Itm} {k : Nat} (h : ∀ m, m < L.length → (L.getD m z0).key ≠ k) : lk L k = none := lk_none.2 fun x hx => by
 obtain ⟨m, hm, rfl⟩ := List.getElem_of_mem hx
 simpa [List.getD, hm] using h m hm
theorem results_rt {P : Program} {fn : Func} {p q : Tmp} {S : TypeId} (h : fn.results = #[.cell p S, .tmp q]) (tmps : Array Value) (w : World) (g : Nat) (cs : Array Value) {d : TypeDesc}
 (hp : tmps.getD p undef = .pointer (some ⟨g, 0, none⟩)) (hg : w.heap[g]? = some (.cells cs S (0, 0)))
 (hu : P.underlying S = some d) (hd : (match d with | .struct _ | .array _ _ => true | _ => false) = true) (hi : (P.info? S).map (·.size) = some cs.size) :
 (results fn tmps).run P w = .ok (.tuple #[.agg cs, tmps.getD q undef]) w := by
 have hp' : tmps[p]?.getD undef = .pointer (some ⟨g, 0, none⟩) := by simpa using hp
 simp [results, h, hp', asAddr, run_loadVar_row w g S S cs (0, 0) d hg hu hd hi]
theorem bx4 {W : World} {g : Nat} {k c d e : Value} {T : TypeId} (h : W.heap[g]? = some (.cells #[k, c, d, e] T (0, 0))) : (W.cell? ⟨g, 0, none⟩ = some k ∧ W.cell? ⟨g, 1, none⟩ = some c ∧ W.cell? ⟨g, 2, none⟩ = some d ∧ W.cell? ⟨g, 3, none⟩ = some e) ∧ W.frozen? ⟨g, 0, none⟩ = false ∧ W.frozen? ⟨g, 1, none⟩ = false ∧ W.frozen? ⟨g, 2, none⟩ = false ∧ W.frozen? ⟨g, 3, none⟩ = false :=
 ⟨⟨cell_of_row W g 0 _ _ _ h, cell_of_row W g 1 _ _ _ h, cell_of_row W g 2 _ _ _ h, cell_of_row W g 3 _ _ _ h⟩, frozen_of_row W g 0 _ _ h, frozen_of_row W g 1 _ _ h, frozen_of_row W g 2 _ _ h, frozen_of_row W g 3 _ _ h⟩
def fnL (L : List Itm) (k : Nat) : Itm := (lk L k).getD z0
def hasL (L : List Itm) (k : Nat) : Bool := (lk L k).isSome
/-- What Find answers. -/
def FD (w : World) (L : List Itm) (k : Nat) (e : Ending) (w' : World) : Prop := e = .returned (.tuple #[TV (fnL L k), .bool (hasL L k)]) ∧ Below w.heap.size w w'
theorem rfind_end {R : Ending → World → Prop} {W : World} {g : Nat} {tmps : Array Value} {k c d s : Value} (hp : tmps.getD 4 undef = .pointer (some ⟨g, 0, none⟩)) (hg : W.heap[g]? = some (.cells #[k, c, d, s] 56 (0, 0)))
 (hR : R (.returned (.tuple #[.agg #[k, c, d, s], tmps.getD 5 undef])) W) : bodyPost Tryz.prog Tryz.f92 R .ret { tmps := tmps, defers := [] } W :=
 bodyPost_ret (results_rt rfl _ _ g #[k, c, d, s] hp hg Tryz.underlying56 rfl infoT4) rfl hR
theorem rfind8_any (v : Value) (L : List Itm) (k : Nat) (w : World) (s : It w v L) : Calls Tryz.prog 92 #[v, .int .u64 (k : Int)] w (FD w L k) := by
 have HB := Lh ((Below.refl w.heap.size w).alloc (Nat.le_refl _) (.cells #[.int .u64 0, .int .u32 0, .int .i64 0, .int .i64 0] 56))
 have X0 := Lh (heap_alloc_new w (.cells #[.int .u64 0, .int .u32 0, .int .i64 0, .int .i64 0] 56))
 obtain ⟨a, c, rfl, hlc, hm⟩ := it_form s
 obtain ⟨n, hn⟩ : ∃ n, n = L.length := ⟨_, rfl⟩
 have hml : n ≤ maxLen := by omega
 unfold maxLen at hml
 unfold FD
 rw [← hn]
 have N := Lh hn
 have S := Lh s
 rw [← hn] at S
 clear hn s hm hlc
 go_enter Tryz.func92, Tryz.ntmps92
 go_wp2_with fail
 go_loopw [6] (fun t wr => ∃ j : Nat, j ≤ n ∧ t = .int .i64 ((j : Int) - 1) ∧ (∀ m, j ≤ m → m < L.length → (L.getD m z0).key ≠ k) ∧ wr = w.alloc (.cells #[.int .u64 0, .int .u32 0, .int .i64 0, .int .i64 0] 56)) (fun t _ => (intOf t + 1).toNat)
 case atStart => exact ⟨n, by omega, by go_num, (fun m h1 h2 => by have := N.out; omega), rfl⟩
 case round =>
  obtain ⟨j, hj, rfl, hne, rfl⟩ := hrel
  by_cases h0 : 0 < j
  ·obtain ⟨i, rfl⟩ : ∃ i, j = i + 1 := ⟨j - 1, by omega⟩
   rw [show ((i + 1 : Nat) : Int) - 1 = (i : Int) by omega]
   have hl4 : decide ((0 : Int) ≤ (i : Int)) = true := decide_eq_true (by omega)
   have p0 : (0 : Int) ≤ (i : Int) := by omega
   have p1 : (i : Int) < (n : Int) := by omega
   have N' := N.out
   obtain ⟨b1, o1, c1', hv1, -, -, hk1⟩ := it_cells S.out (by omega)
   obtain ⟨rfl, -, -⟩ : a = some ⟨b1, o1, none⟩ ∧ n = L.length ∧ c = c1' := by simpa using hv1
   have k1 := (hk1 i (by omega)).below HB.out
   obtain ⟨f0, f1, f2, f3⟩ := k1
   obtain ⟨-, z0', z1, z2, z3⟩ := bx4 X0.out
   by_cases hk : (L.getD i z0).key = k
   ·have hl := lk_at (by omega) hk fun m h1 h2 => hne m (by omega) h2
    have HF : Hid (fnL L k = L.getD i z0) := by show _ = _; unfold fnL; rw [hl]; rfl
    have HH : Hid (hasL L k = true) := by show _ = _; unfold hasL; rw [hl]; rfl
    have hd : (((L.getD i z0).key : Int) == (k : Int)) = true := by rw [beq_iff_eq]; omega
    clear hk1 hv1 N' hne hl hk
    generalize L.getD i z0 = x at *
    go_wp2
    refine rfind_end (g := w.heap.size) rfl (heap_alloc_new w _) ⟨?_, (Below.refl _ _).alloc (Nat.le_refl _) _⟩
    rw [HF.out, HH.out]
    rfl
   ·have hd : (((L.getD i z0).key : Int) == (k : Int)) = false := beq_false_of_ne (by omega)
    have hd2 : ¬ (L.getD i z0).key = k := hk
    have HN : Hid (∀ m, i ≤ m → m < L.length → (L.getD m z0).key ≠ k) := fun m h1 h2 => by
     by_cases e : m = i
     ·subst e; exact hk
     ·exact hne m (by omega) h2
    clear hk1 hv1 N' hne hk
    generalize L.getD i z0 = x at *
    go_wp2
    go_roundw
    case rel => exact ⟨i, by omega, by first | rfl | go_num, HN.out, by first | rfl | trivial⟩
    case measure => simp [intOf]
  ·obtain rfl : j = 0 := by omega
   have HF : Hid (lk L k = none) := lk_miss fun m h => hne m (Nat.zero_le _) h
   rw [show ((0 : Nat) : Int) - 1 = -1 from rfl]
   clear hne
   obtain ⟨-, z0', z1, z2, z3⟩ := bx4 X0.out
   go_wp2
   refine rfind_end (g := w.heap.size) rfl (heap_alloc_new w _) ⟨?_, (Below.refl _ _).alloc (Nat.le_refl _) _⟩
   unfold fnL hasL
   rw [HF.out]
   rfl
theorem elemT : Tryz.prog.underlying 38 = some (.slice (Tryz.prog.elem 38)) := by kernel_rfl
theorem run_fromT (W : World) (a : Option Addr) {n cap l : Nat} (h1 : l ≤ n) : (Instr.sliceAt 38 (.slice a n cap) (some (.int .i64 (l : Int))) none none).run Tryz.prog W = .ok (.slice (if cap = l then a else a.map (·.add (l * 4))) (n - l) (cap - l)) W := by
 rw [run_sliceAt_slice (h := elemT)]
 simp [Instr.slice, Instr.sliceBounds, Instr.sliceBound, run_underlying Tryz.underlying38, asIntOf, h1]
theorem run_toT (W : World) (a : Option Addr) {n cap l : Nat} (h2 : l ≤ cap) : (Instr.sliceAt 38 (.slice a n cap) none (some (.int .i64 (l : Int))) none).run Tryz.prog W = .ok (.slice a l cap) W := by
 rw [run_sliceAt_slice (h := elemT)]
 cases a with
 | none => simp [Instr.slice, Instr.sliceBounds, Instr.sliceBound, run_underlying Tryz.underlying38, asIntOf, h2]
 | some a => simp [Instr.slice, Instr.sliceBounds, Instr.sliceBound, run_underlying Tryz.underlying38, asIntOf, h2]; intro; cases a; simp [Addr.add]
/-- What lies behind the l-th item. -/
theorem it_from {W : World} {a : Option Addr} {n cap l : Nat} {L : List Itm} (h : It W (.slice a n cap) L) (hl : l ≤ n) : It W (.slice (if cap = l then a else a.map (·.add (l * 4))) (n - l) (cap - l)) (L.drop l) := by
 obtain ⟨a', cap', hv, h2, h3⟩ := it_form h
 obtain ⟨rfl, rfl, rfl⟩ : a = a' ∧ n = L.length ∧ cap = cap' := by simpa using hv
 by_cases e : l = L.length
 ·rw [List.drop_of_length_le (by omega), show L.length - l = 0 by omega]
  exact it_empty _ _ (by omega)
 ·obtain ⟨b, o, c, hv', -, -, -⟩ := it_cells h (by omega)
  obtain ⟨rfl, -⟩ : a = some ⟨b, o, none⟩ ∧ cap = c := by simpa using hv'
  have hc := it_cut h l (L.length - l) (by omega)
  rw [List.take_of_length_le (by rw [List.length_drop]; exact Nat.le_refl _)] at hc
  rw [if_neg (by omega)]
  simpa [add_none] using hc
/-- The slice's block, if it has one, is numbered from B on. -/
def Ap (v : Value) (B : Nat) : Prop := ∀ a n c, v = .slice (some a) n c → B ≤ a.block
theorem ap_own {w : World} {base : Nat} {v : Value} {L : List Itm} (h : OwT w base v L) : Ap v base := fun a n c hv => by
 subst hv
 exact (owT_lt h a.block rfl).1
theorem it_grown2 {w w' : World} {B : Nat} {v y : Value} {M : List Itm} (h : It w y M) (hg : w.grownBy w' v.ownBlock) (hv : ∀ k, v.ownBlock = some k → k < B) (hy : Ap y B) : It w' y M := by
 obtain ⟨h0, a, cap, h1, h2, h3, h4⟩ := h
 refine ⟨h0, a, cap, h1, h2, h3, fun hp => ?_⟩
 obtain ⟨b, off, e, hc⟩ := h4 hp
 subst e
 have hlt := hy _ _ _ h1
 refine ⟨b, off, rfl, fun j u hu => ?_⟩
 have c := hc j u hu
 have hbk := hg.block b (block_lt_of_cell c) (fun e => by have := hv _ e.symm; simp at hlt; omega)
 rw [← c]
 simp only [World.cell?, hbk]
/-- An empty slice of the call's own that is not nil. -/
theorem owT_empty (w : World) {base : Nat} (hb : base ≤ w.heap.size) : OwT (w.alloc (.cells #[] 56)) base (.slice (some ⟨w.heap.size, 0, none⟩) 0 0) [] :=
 ⟨by simp, ⟨by simp [cellsT], Or.inr ⟨w.heap.size, 0, #[], rfl, hb, heap_alloc_new _ _, by simp, by simp, rfl, rfl⟩⟩⟩
/-- l[k:], as a step. -/
theorem from_step {ops : Array Oper} {rest : List Oper} {dst : Option Tmp} {s x : Operand} {pos : String} {after : Array Edge} {ty : TypeId} {a : Act} {W : World} {Q : Exit → Act → World → Prop}
 {p : Option Addr} {n cap l : Nat} (hs : a.eval s = .slice p n cap) (hx : a.eval x = .int .i64 (l : Int)) (h1 : l ≤ n)
 (h : wpList Tryz.prog ops Q rest (a.put dst (.slice (if cap = l then p else p.map (·.add (l * 4))) (n - l) (cap - l))) W) : wpList Tryz.prog ops Q (⟨dst, .slice 38 s (some x) none none, ty, pos, after, none⟩ :: rest) a W := by
 refine wpList_plain rfl fun K hK => ?_
 unfold Oper.wp execOp
 simp only [hs, hx, Option.map_some, Option.map_none, Sem.run_bind, Sem.run_pure, Result.andThen_ok, run_fromT W p h1]
 exact hK _ _ h
def onlyN (Q : Exit → Act → World → Prop) : Exit → Act → World → Prop
 | .normal, a, w => Q .normal a w
 | _, _, _ => False
theorem wp_onlyN {P : Program} {c : Code} {Q : Exit → Act → World → Prop} {a : Act} {w : World} (h : c.wp P (onlyN Q) a w) : c.wp P Q a w :=
 Code.wp_mono (fun e a w h => by cases e <;> first | exact h | exact h.elim) h
theorem wp_region_headsS {P : Program} {id : Nat} {Q : Exit → Act → World → Prop} {a : Act} {w : World} {l : List Oper} (S : World → Prop) (hd : List Nat) (fuel : Nat) (hm : P.follows .mixedOrders = true) (hQ : ∀ c (a : Act) d v w, Q (.panic c) (a.put d v) w → Q (.panic c) a w)
 (hB : (Region.noSelect l.toArray && headsB .any l.toArray hd (Array.replicate l.toArray.size false)) = true) (hf : l.toArray.size = hd.length + fuel) (h1 : (pickOps l.toArray hd).map some = hd.map (fun t => l.toArray[t]?)) (hS : S w.drew)
 (h : wpHeads P l.toArray S (fun a' => wpAnyH P .any l.toArray Q S fuel (listAll hd (Array.replicate l.toArray.size false)) a' w.drew) (pickOps l.toArray hd) a) : (Code.region id l.toArray true).wp P Q a w := by
 simp only [Bool.and_eq_true] at hB
 refine wp_region_held (S := S) hm ?_
 have := held_heads (P := P) (md := .any) (Q := Q) hB.1 hQ hS hd _ _ a hB.2 h1 h
 rw [hf] at *
 exact this
theorem bel_al (w : World) (o : Obj) : Below w.heap.size w (w.alloc o) := (Below.refl _ _).alloc (Nat.le_refl _) _
theorem take_snocT {L : List Itm} {i : Nat} (h : i < L.length) : L.take (i + 1) = L.take i ++ [L.getD i z0] := by
 rw [List.take_succ_eq_append_getElem h]
 simp [List.getD, h]
theorem owT_own {w : World} {base : Nat} {v : Value} {L : List Itm} (h : OwT w base v L) : ∀ k, v.ownBlock = some k → k < w.heap.size := fun k hk => (owT_lt h k hk).2
theorem owT_addr {w : World} {base n cap : Nat} {a : Option Addr} {L : List Itm} (h : OwT w base (.slice a n cap) L) : (a = none ∧ n = 0 ∧ cap = 0) ∨ ∃ g, a = some ⟨g, 0, none⟩ := by
 obtain ⟨_, _, ⟨h1, _⟩ | ⟨g, cap', cur, h1, _⟩⟩ := h
 ·exact Or.inl (by simpa using h1)
 ·obtain ⟨h2, -, -⟩ : a = some ⟨g, 0, none⟩ ∧ n = L.length ∧ cap = cap' := by simpa using h1
  exact Or.inr ⟨g, h2⟩
theorem sort_step {L : List Itm} {i j : Nat} (hi : i < L.length) (hj : j ≤ (sortL (L.take i)).length) (h1 : ∀ q, q < j → ((sortL (L.take i)).getD q z0).key < (L.getD i z0).key) (h2 : j < (sortL (L.take i)).length → ¬ ((sortL (L.take i)).getD j z0).key < (L.getD i z0).key) :
 sortL (L.take (i + 1)) = (sortL (L.take i)).take j ++ [L.getD i z0] ++ rstL (L.getD i z0).key ((sortL (L.take i)).drop j) := by
 rw [take_snocT hi, sortL_snoc, insL_split]
 generalize sortL (L.take i) = S at *
 generalize L.getD i z0 = x at *
 have hc : cntL x.key S = j := cntL_spec x.key S j hj (fun q hq hqj => by have := h1 q hqj; simpa [List.getD, hq] using this) (fun hq => by have := h2 hq; simpa [List.getD, hq] using this)
 rw [hc]
 simp
theorem rsorted_any (v : Value) (L : List Itm) (w : World) (s : It w v L) (hlen : L.length ≤ 1000000) : Calls Tryz.prog 93 #[v] w fun e w' => (∃ v', e = .returned v' ∧ OwT w' w.heap.size v' (sortL L)) ∧ Below w.heap.size w w' := by
 obtain ⟨al, cl, rfl, -, -⟩ := it_form s
 obtain ⟨n, hn⟩ : ∃ n, n = L.length := ⟨_, rfl⟩
 rw [← hn] at hlen ⊢
 have N := Lh hn
 have S0 := Lh s
 rw [← hn] at S0
 clear hn s
 go_enter Tryz.func93, Tryz.ntmps93
 go_wp2_with fail
 go_loopw [3, 4] (fun out t wr => ∃ i : Nat, i ≤ n ∧ t = .int .i64 (i : Int) ∧ OwT wr w.heap.size out (sortL (L.take i)) ∧ Below w.heap.size w wr) (fun _ t _ => n - (intOf t).toNat)
 case atStart => exact ⟨0, by omega, rfl, owT_nil _ _, Below.refl _ _⟩
 case round =>
  obtain ⟨i, hi, rfl, ho, hB⟩ := hrel
  by_cases hin : i < n
  case neg =>
   obtain rfl : i = n := by omega
   have hl4 : decide ((i : Int) < (i : Int)) = false := decide_eq_false (by omega)
   have HO : Hid (OwT wr w.heap.size u3 (sortL L)) := by
    rw [List.take_of_length_le (by have := N.out; omega)] at ho
    exact ho
   have HB := Lh hB
   obtain ⟨ao, co, rfl, -, -⟩ := owT_form ho
   clear ho hB
   generalize (sortL (L.take i)).length = m at *
   go_wp2
   go_ret
   exact ⟨⟨_, rfl, HO.out⟩, HB.out⟩
  have hl4 : decide ((i : Int) < (n : Int)) = true := decide_eq_true (by omega)
  have p0 : (0 : Int) ≤ (i : Int) := by omega
  have p1 : (i : Int) < (n : Int) := by omega
  have N' := N.out
  obtain ⟨b1, o1, c1', hv1, -, -, hk1⟩ := it_cells S0.out (by omega)
  obtain ⟨rfl, -, -⟩ : al = some ⟨b1, o1, none⟩ ∧ n = L.length ∧ cl = c1' := by simpa using hv1
  have KX : Hid (∀ W, Below w.heap.size w W → C4 W b1 (o1 + i * 4) (L.getD i z0)) := fun W hW => (hk1 i (by omega)).below hW
  have OKX := Lh (getT_ok S0.out.1 i)
  have ST := Lh (fun j => sort_step (L := L) (i := i) (j := j) (by omega))
  have hSl : (sortL (L.take i)).length ≤ 1000000 := Nat.le_trans (length_sortL _) (by rw [List.length_take]; omega)
  obtain ⟨ao, co, rfl, hmc, hcm⟩ := owT_form ho
  obtain ⟨m, hm⟩ : ∃ m, m = (sortL (L.take i)).length := ⟨_, rfl⟩
  generalize sortL (L.take i) = S at *
  generalize L.getD i z0 = x at *
  rw [← hm] at ho hSl hmc ⊢
  have M := Lh hm
  have HO := Lh ho
  have HB := Lh hB
  have MC := Lh hmc
  have HCM : Hid (∀ q, co - q ≤ maxLen) := fun q => by omega
  have hmI : (m : Int) ≤ 1000000 := by omega
  clear hk1 hv1 N' ho hB hm hmc hcm
  rename World => wo
  go_wp2_with fail
  go_loopw [5] (fun t wr => ∃ j : Nat, j ≤ m ∧ t = .int .i64 (j : Int) ∧ (∀ q, q < j → (S.getD q z0).key < x.key) ∧ Below wo.heap.size wo wr) (fun t _ => m - (intOf t).toNat)
  case atStart => exact ⟨0, by omega, rfl, (fun q hq => by omega), Below.refl _ _⟩
  case round =>
   obtain ⟨j, hj, rfl, hlt, hB2⟩ := hrel
   have hB3 : Below w.heap.size w wr := bt HB.out hB2
   obtain ⟨x0, x1, x2, x3⟩ := KX.out wr hB3
   have HO2 := Lh (owT_below HO.out hB2)
   have HB3 := Lh hB3
   have HB2 := Lh hB2
   by_cases hjm : j < m
   ·have hl5 : decide ((j : Int) < (m : Int)) = true := decide_eq_true (by omega)
    have p2 : (0 : Int) ≤ (j : Int) := by omega
    have p3 : (j : Int) < (m : Int) := by omega
    have M' := M.out
    obtain ⟨b2, o2, c2', hv2, -, -, hk2⟩ := it_cells (owT_it HO2.out) (by omega)
    obtain ⟨rfl, -, -⟩ : ao = some ⟨b2, o2, none⟩ ∧ m = S.length ∧ co = c2' := by simpa using hv2
    have k2 := (hk2 j (by omega)).c0
    by_cases hky : (S.getD j z0).key < x.key
    ·have d1 : decide (((S.getD j z0).key : Int) < (x.key : Int)) = true := decide_eq_true (by omega)
     have HL2 : Hid (∀ q, q < j + 1 → (S.getD q z0).key < x.key) := fun q hq => by
      by_cases e : q = j
      ·subst e; exact hky
      ·exact hlt q (by omega)
     clear hk2 hv2 M' hlt hB2 hB3
     generalize S.getD j z0 = y at *
     go_wp2
     go_quiet (fail)
     have hd := bt HB2.out (below_drewN wr nq)
     clear HB2 HB3 HO2 x0 x1 x2 x3 k2
     generalize wr.drewN nq = W9 at *
     go_wp2
     go_roundw
     case rel => exact ⟨j + 1, by omega, by go_num, HL2.out, hd⟩
     case measure => simp [intOf]; omega
    ·have d1 : decide (((S.getD j z0).key : Int) < (x.key : Int)) = false := decide_eq_false (by omega)
     have d1' : ¬ (S.getD j z0).key < x.key := hky
     have HST := Lh (ST.out j (by omega) hlt fun _ => hky)
     have hdr : S.drop j = S.getD j z0 :: S.drop (j + 1) := by
      rw [List.drop_eq_getElem_cons (by omega : j < S.length)]
      simp [List.getD, show j < S.length by omega]
     have HDR := Lh hdr
     clear hk2 hv2 M' hlt hB2 hB3 hdr
     generalize S.getD j z0 = y at *
     go_wp2
     go_quiet (fail)
     have hdn := below_drewN wr nq
     have HB4 := Lh (bt HB2.out hdn)
     have HB5 := Lh (bt HB3.out hdn)
     have HO5 := Lh (owT_below HO2.out hdn)
     clear HB2 HB3 HO2 x0 x1 x2 x3 k2 hdn
     generalize wr.drewN nq = W5 at *
     have OE := Lh (owT_empty W5 (base := W5.heap.size) (Nat.le_refl _))
     have BA := Lh (bel_al W5 (.cells #[] 56))
     have q1 : ¬ co = j := by have := MC.out; omega
     have HDL : Hid (m - j = (S.drop j).length) := by show _ = _; rw [List.length_drop]; have := M.out; omega
     have hf := it_cut (it_below (owT_it HO5.out) BA.out) j (m - j) (by have := M.out; omega)
     rw [List.take_of_length_le (by rw [List.length_drop]; have := M.out; omega)] at hf
     have HF := Lh hf
     have HLD : Hid (([] : List Itm).length + (S.drop j).length ≤ 100000000) := by show _ ≤ _; have := M.out; simp; omega
     clear hf
     go_wp2_with (at_builtin; refine app_it (dst := some 36) ?_ ?_ OE.out HF.out HLD.out (by simp) ?_; exact rfl; exact rfl; intro vr w6 ho6 hg6; have B6 := Lh (below_grownT BA.out hg6 OE.out (Nat.le_of_lt (by simp)) (Nat.le_refl _)); rw [List.nil_append] at ho6; obtain ⟨ar, cr, hvr, -, -⟩ := owT_form ho6; rw [← HDL.out] at hvr; subst hvr; have HO6 := Lh ho6; clear ho6 hg6)
     have HRI := Lh (owT_it HO6.out)
     have HAP6 := Lh (ap_own HO6.out)
     have hdl := HDL.out
     have hpos : 0 < (S.drop j).length := by omega
     obtain ⟨br, or, cr', hvr, hcr1, hcr2, hkr⟩ := it_cells HRI.out hpos
     obtain ⟨rfl, -, rfl⟩ : ar = some ⟨br, or, none⟩ ∧ m - j = (S.drop j).length ∧ cr = cr' := by simpa using hvr
     have r0 := (hkr 0 hpos).c0
     rw [show (S.drop j).getD 0 z0 = y by rw [HDR.out]; rfl, Nat.zero_mul, Nat.add_zero] at r0
     obtain ⟨x0, x1, x2, x3⟩ := KX.out w6 (bt HB5.out B6.out)
     obtain ⟨mj, hmj⟩ : ∃ mj, mj = m - j := ⟨_, rfl⟩
     rw [← hmj] at hdl HRI HAP6 HO6 HDL ⊢
     have g1 : decide ((0 : Int) < (mj : Int)) = true := decide_eq_true (by omega)
     have g2 : (0 : Int) < (mj : Int) := by omega
     have g3 : mj ≤ cr := by omega
     have g4 : 0 < mj := by omega
     have g5 : j ≤ co := by have := MC.out; omega
     have g6 : (j : Int) ≤ (co : Int) := by omega
     have HMJ := Lh hmj
     have HCR := Lh hcr2
     clear hvr hkr hpos hdl hmj hcr1 hcr2
     by_cases hye : y.key = x.key
     ·have e1 : ((y.key : Int) == (x.key : Int)) = true := by rw [beq_iff_eq]; omega
      have e2 : y.key = x.key := hye
      have hrm : rstL x.key (S.drop j) = S.drop (j + 1) := by rw [HDR.out]; exact if_pos hye
      have hdd : (S.drop j).drop 1 = S.drop (j + 1) := by rw [List.drop_drop]
      by_cases hc1 : cr = 1
      ·obtain rfl : mj = 1 := by omega
       have HRM : Hid (rstL x.key (S.drop j) = ([] : List Itm)) := by
        show _ = _
        rw [hrm, ← hdd]
        exact List.drop_of_length_le (by rw [← HDL.out]; exact Nat.le_refl _)
       clear hrm hdd
       subst hc1
       go_wp2_with fail
       go_quiet (fail)
       have hd7 := below_drewN w6 nq
       have HO7 := Lh (owT_below (owT_below HO5.out B6.out) hd7)
       have HB7 := Lh (bt (bt HB5.out B6.out) hd7)
       have HG7 := Lh (owT_own (owT_take HO5.out (k := j) (by have := M.out; omega)))
       have HAP7 : Hid (∀ q k c, Ap (.slice (some ⟨br, q, none⟩) k c) W5.heap.size) := fun q k c a n c2 e => by
        have h := HAP6.out _ _ _ rfl
        obtain ⟨e1, -⟩ : (⟨br, q, none⟩ : Addr) = a ∧ _ := by simpa using e
        rw [← e1]
        exact h
       have HR7 := Lh (it_empty (w := w6.drewN nq) (some ⟨br, or, none⟩) 0 (Nat.zero_le _))
       have HRL : Hid (([] : List Itm).length ≤ 1000000) := by show _ ≤ _; simp
       clear hd7 HO6 B6 HB5 HO5 HRI x0 x1 x2 x3 r0
       generalize w6.drewN nq = W7 at *
       go_wp2_with fail
       refine wp_onlyN ?_
       refine wp_region_headsS (fun w' => Below w.heap.size w w') [0, 1, 2, 3, 4, 5, 6, 9] 4 (by kernel_rfl) (fun _ _ _ _ _ h => h.elim) (by kernel_rfl) (by rfl) (by rfl) HB7.out.drew ?_
       simp only [pickOps, List.filterMap_cons, List.filterMap_nil, List.getElem?_toArray, List.getElem?_cons_zero, List.getElem?_cons_succ]
       refine wpHeads_step (fun K hK => ?_)
       go_simp
       refine ⟨_, fun _ _ => rfl, hK _ ?_⟩
       clear hK K
       refine wpHeads_step (fun K hK => ?_)
       go_simp
       refine ⟨_, fun _ _ => rfl, hK _ ?_⟩
       clear hK K
       refine wpHeads_step (fun K hK => ?_)
       go_simp
       refine ⟨_, fun _ _ => rfl, hK _ ?_⟩
       clear hK K
       refine wpHeads_step (fun K hK => ?_)
       go_simp
       refine ⟨_, fun _ _ => rfl, hK _ ?_⟩
       clear hK K
       refine wpHeads_step (fun K hK => ?_)
       go_simp
       refine ⟨_, fun _ _ => rfl, hK _ ?_⟩
       clear hK K
       refine wpHeads_step (fun K hK => ?_)
       go_simp
       refine ⟨_, fun _ _ => rfl, hK _ ?_⟩
       clear hK K
       refine wpHeads_step (fun K hK => ?_)
       go_simp
       refine ⟨.agg #[.int .u64 (x.key : Int), .int .u32 (x.ck : Int), .int .i64 x.off, .int .i64 x.sz], fun w' hw' => by obtain ⟨u0, u1, u2, u3⟩ := KX.out w' hw'; simp [u0, u1, u2, u3], hK _ ?_⟩
       clear hK K
       refine wpHeads_step (fun K hK => ?_)
       go_simp
       refine ⟨_, fun _ _ => rfl, hK _ ?_⟩
       clear hK K
       refine wpHeads_nil ?_
       have HO8 := Lh (owT_below HO7.out ((Below.refl _ W7).drew))
       have HR8 := Lh (it_below HR7.out ((Below.refl _ W7).drew))
       have HB8 := Lh HB7.out.drew
       clear HO7 HR7 HB7
       generalize W7.drew = W8 at *
       refine held_one 7 rfl rfl (by kernel_rfl) fun K hK => ?_
       go_simp
       have B9 := Lh (bel_al W8 (.cells #[.int .u64 (x.key : Int), .int .u32 (x.ck : Int), .int .i64 x.off, .int .i64 x.sz] 56))
       have HO9 := Lh (owT_take (owT_below HO8.out B9.out) (k := j) (by have := M.out; omega))
       have HX9 := Lh (it_one OKX.out (heap_alloc_new W8 (.cells #[.int .u64 (x.key : Int), .int .u32 (x.ck : Int), .int .i64 x.off, .int .i64 x.sz] 56)))
       have HR9 := Lh (it_below HR8.out B9.out)
       have HB9 := Lh (bt HB8.out B9.out)
       clear HO8 HR8 HB8
       refine hK _ _ HB9.out ?_
       clear hK K B9
       generalize W8.heap.size = g8 at *
       generalize W8.alloc (.cells #[.int .u64 (x.key : Int), .int .u32 (x.ck : Int), .int .i64 x.off, .int .i64 x.sz] 56) = W9 at *
       refine held_one 8 rfl rfl (by kernel_rfl) fun K hK => ?_
       refine wp_app_it rfl rfl HO9.out HX9.out (by have := M.out; simp only [List.length_take, List.length_cons, List.length_nil]; omega) HB9.out.size ?_
       intro v10 W10 ho10 hg10
       have HB10 := Lh (below_grownT HB9.out hg10 HO9.out HB9.out.size (Nat.le_refl _))
       have HR10 := Lh (it_grown2 HR9.out hg10 HG7.out (HAP7.out _ _ _))
       have HO10 := Lh ho10
       obtain ⟨a10, c10, rfl, -, -⟩ := owT_form ho10
       refine hK _ _ HB10.out ?_
       clear hK K ho10 hg10 HO9 HX9 HR9 HB9
       refine held_one 10 rfl rfl (by kernel_rfl) fun K hK => ?_
       refine wp_app_it rfl rfl HO10.out HR10.out (by have := M.out; have := HRL.out; simp only [List.length_take, List.length_append, List.length_cons, List.length_nil] at *; omega) HB10.out.size ?_
       intro v11 W11 ho11 hg11
       have HB11 := Lh (below_grownT HB10.out hg11 HO10.out HB10.out.size (Nat.le_refl _))
       have HO11 := Lh ho11
       obtain ⟨a11, c11, hv11, -, -⟩ := owT_form ho11
       obtain ⟨n11, hn11⟩ : ∃ q, q = (S.take j ++ [x] ++ ([] : List Itm)).length := ⟨_, rfl⟩
       rw [← hn11] at hv11
       subst hv11
       clear hn11
       refine hK _ _ HB11.out ?_
       clear hK K ho11 hg11 HO10 HR10 HB10
       refine held_one 11 rfl rfl (by kernel_rfl) fun K hK => ?_
       go_simp
       refine hK _ _ HB11.out ?_
       clear hK K
       refine wpAnyH_done (by kernel_rfl) ?_ _
       unfold onlyN
       dsimp only
       go_wp2
       go_roundw
       case rel => exact ⟨i + 1, by omega, by go_num, by rw [HST.out, HRM.out]; exact HO11.out, HB11.out⟩
       case measure => simp [intOf]; omega
      ·have HRM := Lh hrm
       have hcut := it_cut HRI.out 1 (mj - 1) (by rw [← HDL.out]; omega)
       rw [Nat.one_mul, hdd, List.take_of_length_le (by rw [List.length_drop]; have := HMJ.out; have := M.out; omega)] at hcut
       have HCUT := Lh hcut
       have g7 : (1 : Int) ≤ (mj : Int) := by omega
       have g8 : (1 : Int) ≤ (cr : Int) := by omega
       clear hrm hdd hcut
       go_wp2_with fail
       go_quiet (fail)
       have hd7 := below_drewN w6 nq
       have HO7 := Lh (owT_below (owT_below HO5.out B6.out) hd7)
       have HB7 := Lh (bt (bt HB5.out B6.out) hd7)
       have HG7 := Lh (owT_own (owT_take HO5.out (k := j) (by have := M.out; omega)))
       have HAP7 : Hid (∀ q k c, Ap (.slice (some ⟨br, q, none⟩) k c) W5.heap.size) := fun q k c a n c2 e => by
        have h := HAP6.out _ _ _ rfl
        obtain ⟨e1, -⟩ : (⟨br, q, none⟩ : Addr) = a ∧ _ := by simpa using e
        rw [← e1]
        exact h
       have HR7 := Lh (it_below HCUT.out hd7)
       have HRL : Hid ((S.drop (j + 1)).length ≤ 1000000) := by show _ ≤ _; have := M.out; simp; omega
       clear hd7 HO6 B6 HB5 HO5 HRI HCUT x0 x1 x2 x3 r0
       generalize w6.drewN nq = W7 at *
       go_wp2_with fail
       refine wp_onlyN ?_
       refine wp_region_headsS (fun w' => Below w.heap.size w w') [0, 1, 2, 3, 4, 5, 6, 9] 4 (by kernel_rfl) (fun _ _ _ _ _ h => h.elim) (by kernel_rfl) (by rfl) (by rfl) HB7.out.drew ?_
       simp only [pickOps, List.filterMap_cons, List.filterMap_nil, List.getElem?_toArray, List.getElem?_cons_zero, List.getElem?_cons_succ]
       refine wpHeads_step (fun K hK => ?_)
       go_simp
       refine ⟨_, fun _ _ => rfl, hK _ ?_⟩
       clear hK K
       refine wpHeads_step (fun K hK => ?_)
       go_simp
       refine ⟨_, fun _ _ => rfl, hK _ ?_⟩
       clear hK K
       refine wpHeads_step (fun K hK => ?_)
       go_simp
       refine ⟨_, fun _ _ => rfl, hK _ ?_⟩
       clear hK K
       refine wpHeads_step (fun K hK => ?_)
       go_simp
       refine ⟨_, fun _ _ => rfl, hK _ ?_⟩
       clear hK K
       refine wpHeads_step (fun K hK => ?_)
       go_simp
       refine ⟨_, fun _ _ => rfl, hK _ ?_⟩
       clear hK K
       refine wpHeads_step (fun K hK => ?_)
       go_simp
       refine ⟨_, fun _ _ => rfl, hK _ ?_⟩
       clear hK K
       refine wpHeads_step (fun K hK => ?_)
       go_simp
       refine ⟨.agg #[.int .u64 (x.key : Int), .int .u32 (x.ck : Int), .int .i64 x.off, .int .i64 x.sz], fun w' hw' => by obtain ⟨u0, u1, u2, u3⟩ := KX.out w' hw'; simp [u0, u1, u2, u3], hK _ ?_⟩
       clear hK K
       refine wpHeads_step (fun K hK => ?_)
       go_simp
       refine ⟨_, fun _ _ => rfl, hK _ ?_⟩
       clear hK K
       refine wpHeads_nil ?_
       have HO8 := Lh (owT_below HO7.out ((Below.refl _ W7).drew))
       have HR8 := Lh (it_below HR7.out ((Below.refl _ W7).drew))
       have HB8 := Lh HB7.out.drew
       clear HO7 HR7 HB7
       generalize W7.drew = W8 at *
       refine held_one 7 rfl rfl (by kernel_rfl) fun K hK => ?_
       go_simp
       have B9 := Lh (bel_al W8 (.cells #[.int .u64 (x.key : Int), .int .u32 (x.ck : Int), .int .i64 x.off, .int .i64 x.sz] 56))
       have HO9 := Lh (owT_take (owT_below HO8.out B9.out) (k := j) (by have := M.out; omega))
       have HX9 := Lh (it_one OKX.out (heap_alloc_new W8 (.cells #[.int .u64 (x.key : Int), .int .u32 (x.ck : Int), .int .i64 x.off, .int .i64 x.sz] 56)))
       have HR9 := Lh (it_below HR8.out B9.out)
       have HB9 := Lh (bt HB8.out B9.out)
       clear HO8 HR8 HB8
       refine hK _ _ HB9.out ?_
       clear hK K B9
       generalize W8.heap.size = g8 at *
       generalize W8.alloc (.cells #[.int .u64 (x.key : Int), .int .u32 (x.ck : Int), .int .i64 x.off, .int .i64 x.sz] 56) = W9 at *
       refine held_one 8 rfl rfl (by kernel_rfl) fun K hK => ?_
       refine wp_app_it rfl rfl HO9.out HX9.out (by have := M.out; simp only [List.length_take, List.length_cons, List.length_nil]; omega) HB9.out.size ?_
       intro v10 W10 ho10 hg10
       have HB10 := Lh (below_grownT HB9.out hg10 HO9.out HB9.out.size (Nat.le_refl _))
       have HR10 := Lh (it_grown2 HR9.out hg10 HG7.out (HAP7.out _ _ _))
       have HO10 := Lh ho10
       obtain ⟨a10, c10, rfl, -, -⟩ := owT_form ho10
       refine hK _ _ HB10.out ?_
       clear hK K ho10 hg10 HO9 HX9 HR9 HB9
       refine held_one 10 rfl rfl (by kernel_rfl) fun K hK => ?_
       refine wp_app_it rfl rfl HO10.out HR10.out (by have := M.out; have := HRL.out; simp only [List.length_take, List.length_append, List.length_cons, List.length_nil] at *; omega) HB10.out.size ?_
       intro v11 W11 ho11 hg11
       have HB11 := Lh (below_grownT HB10.out hg11 HO10.out HB10.out.size (Nat.le_refl _))
       have HO11 := Lh ho11
       obtain ⟨a11, c11, hv11, -, -⟩ := owT_form ho11
       obtain ⟨n11, hn11⟩ : ∃ q, q = (S.take j ++ [x] ++ S.drop (j + 1)).length := ⟨_, rfl⟩
       rw [← hn11] at hv11
       subst hv11
       clear hn11
       refine hK _ _ HB11.out ?_
       clear hK K ho11 hg11 HO10 HR10 HB10
       refine held_one 11 rfl rfl (by kernel_rfl) fun K hK => ?_
       go_simp
       refine hK _ _ HB11.out ?_
       clear hK K
       refine wpAnyH_done (by kernel_rfl) ?_ _
       unfold onlyN
       dsimp only
       go_wp2
       go_roundw
       case rel => exact ⟨i + 1, by omega, by go_num, by rw [HST.out, HRM.out]; exact HO11.out, HB11.out⟩
       case measure => simp [intOf]; omega
     ·have e1 : ((y.key : Int) == (x.key : Int)) = false := beq_false_of_ne (by omega)
      have e2 : ¬ y.key = x.key := hye
      go_wp2_with fail
      go_quiet (fail)
      have hd7 := below_drewN w6 nq
      have HO7 := Lh (owT_below (owT_below HO5.out B6.out) hd7)
      have HB7 := Lh (bt (bt HB5.out B6.out) hd7)
      have HG7 := Lh (owT_own (owT_take HO5.out (k := j) (by have := M.out; omega)))
      have HAP7 := Lh HAP6.out
      have HR7 := Lh (it_below HRI.out hd7)
      have HRL : Hid ((S.drop j).length ≤ 1000000) := by show _ ≤ _; have := M.out; simp; omega
      have HRM : Hid (rstL x.key (S.drop j) = S.drop j) := by show _ = _; rw [HDR.out]; exact if_neg hye
      clear hd7 HO6 B6 HB5 HO5 HRI x0 x1 x2 x3 r0
      generalize w6.drewN nq = W7 at *
      go_wp2_with fail
      refine wp_onlyN ?_
      refine wp_region_headsS (fun w' => Below w.heap.size w w') [0, 1, 2, 3, 4, 5, 6, 9] 4 (by kernel_rfl) (fun _ _ _ _ _ h => h.elim) (by kernel_rfl) (by rfl) (by rfl) HB7.out.drew ?_
      simp only [pickOps, List.filterMap_cons, List.filterMap_nil, List.getElem?_toArray, List.getElem?_cons_zero, List.getElem?_cons_succ]
      refine wpHeads_step (fun K hK => ?_)
      go_simp
      refine ⟨_, fun _ _ => rfl, hK _ ?_⟩
      clear hK K
      refine wpHeads_step (fun K hK => ?_)
      go_simp
      refine ⟨_, fun _ _ => rfl, hK _ ?_⟩
      clear hK K
      refine wpHeads_step (fun K hK => ?_)
      go_simp
      refine ⟨_, fun _ _ => rfl, hK _ ?_⟩
      clear hK K
      refine wpHeads_step (fun K hK => ?_)
      go_simp
      refine ⟨_, fun _ _ => rfl, hK _ ?_⟩
      clear hK K
      refine wpHeads_step (fun K hK => ?_)
      go_simp
      refine ⟨_, fun _ _ => rfl, hK _ ?_⟩
      clear hK K
      refine wpHeads_step (fun K hK => ?_)
      go_simp
      refine ⟨_, fun _ _ => rfl, hK _ ?_⟩
      clear hK K
      refine wpHeads_step (fun K hK => ?_)
      go_simp
      refine ⟨.agg #[.int .u64 (x.key : Int), .int .u32 (x.ck : Int), .int .i64 x.off, .int .i64 x.sz], fun w' hw' => by obtain ⟨u0, u1, u2, u3⟩ := KX.out w' hw'; simp [u0, u1, u2, u3], hK _ ?_⟩
      clear hK K
      refine wpHeads_step (fun K hK => ?_)
      go_simp
      refine ⟨_, fun _ _ => rfl, hK _ ?_⟩
      clear hK K
      refine wpHeads_nil ?_
      have HO8 := Lh (owT_below HO7.out ((Below.refl _ W7).drew))
      have HR8 := Lh (it_below HR7.out ((Below.refl _ W7).drew))
      have HB8 := Lh HB7.out.drew
      clear HO7 HR7 HB7
      generalize W7.drew = W8 at *
      refine held_one 7 rfl rfl (by kernel_rfl) fun K hK => ?_
      go_simp
      have B9 := Lh (bel_al W8 (.cells #[.int .u64 (x.key : Int), .int .u32 (x.ck : Int), .int .i64 x.off, .int .i64 x.sz] 56))
      have HO9 := Lh (owT_take (owT_below HO8.out B9.out) (k := j) (by have := M.out; omega))
      have HX9 := Lh (it_one OKX.out (heap_alloc_new W8 (.cells #[.int .u64 (x.key : Int), .int .u32 (x.ck : Int), .int .i64 x.off, .int .i64 x.sz] 56)))
      have HR9 := Lh (it_below HR8.out B9.out)
      have HB9 := Lh (bt HB8.out B9.out)
      clear HO8 HR8 HB8
      refine hK _ _ HB9.out ?_
      clear hK K B9
      generalize W8.heap.size = g8 at *
      generalize W8.alloc (.cells #[.int .u64 (x.key : Int), .int .u32 (x.ck : Int), .int .i64 x.off, .int .i64 x.sz] 56) = W9 at *
      refine held_one 8 rfl rfl (by kernel_rfl) fun K hK => ?_
      refine wp_app_it rfl rfl HO9.out HX9.out (by have := M.out; simp only [List.length_take, List.length_cons, List.length_nil]; omega) HB9.out.size ?_
      intro v10 W10 ho10 hg10
      have HB10 := Lh (below_grownT HB9.out hg10 HO9.out HB9.out.size (Nat.le_refl _))
      have HR10 := Lh (it_grown2 HR9.out hg10 HG7.out HAP7.out)
      have HO10 := Lh ho10
      obtain ⟨a10, c10, rfl, -, -⟩ := owT_form ho10
      refine hK _ _ HB10.out ?_
      clear hK K ho10 hg10 HO9 HX9 HR9 HB9
      refine held_one 10 rfl rfl (by kernel_rfl) fun K hK => ?_
      refine wp_app_it rfl rfl HO10.out HR10.out (by have := M.out; have := HRL.out; simp only [List.length_take, List.length_append, List.length_cons, List.length_nil] at *; omega) HB10.out.size ?_
      intro v11 W11 ho11 hg11
      have HB11 := Lh (below_grownT HB10.out hg11 HO10.out HB10.out.size (Nat.le_refl _))
      have HO11 := Lh ho11
      obtain ⟨a11, c11, hv11, -, -⟩ := owT_form ho11
      obtain ⟨n11, hn11⟩ : ∃ q, q = (S.take j ++ [x] ++ S.drop j).length := ⟨_, rfl⟩
      rw [← hn11] at hv11
      subst hv11
      clear hn11
      refine hK _ _ HB11.out ?_
      clear hK K ho11 hg11 HO10 HR10 HB10
      refine held_one 11 rfl rfl (by kernel_rfl) fun K hK => ?_
      go_simp
      refine hK _ _ HB11.out ?_
      clear hK K
      refine wpAnyH_done (by kernel_rfl) ?_ _
      unfold onlyN
      dsimp only
      go_wp2
      go_roundw
      case rel => exact ⟨i + 1, by omega, by go_num, by rw [HST.out, HRM.out]; exact HO11.out, HB11.out⟩
      case measure => simp [intOf]; omega
   ·obtain rfl : j = m := by omega
    have hl5 : decide ((j : Int) < (j : Int)) = false := decide_eq_false (by omega)
    have HST := Lh (ST.out j (by have := M.out; omega) hlt fun h => absurd h (by have := M.out; omega))
    have HDR : Hid (S.drop j = []) := by show _ = _; exact List.drop_of_length_le (by have := M.out; omega)
    clear hlt hB2 hB3
    rcases owT_addr HO2.out with ⟨rfl, rfl, rfl⟩ | ⟨g2, rfl⟩
    ·go_wp2
     go_quiet (fail)
     have hdn := below_drewN wr nq
     have HB5 := Lh (bt HB3.out hdn)
     have HO5 := Lh (owT_below HO2.out hdn)
     clear HB2 HB3 HO2 x0 x1 x2 x3 hdn
     generalize wr.drewN nq = W5 at *
     have OE := Lh (owT_empty W5 (base := W5.heap.size) (Nat.le_refl _))
     have BA := Lh (bel_al W5 (.cells #[] 56))
     go_wp2_with (at_builtin; refine app_it (dst := some 36) ?_ ?_ OE.out (it_empty ?panil ?pcnil ?phnil) (by simp) (by simp) ?_; exact rfl; exact rfl; (first | exact HCM.out j | exact HCM.out 0 | exact Nat.zero_le _); intro vr w6 ho6 hg6; have B6 := Lh (below_grownT BA.out hg6 OE.out (Nat.le_of_lt (by simp)) (Nat.le_refl _)); rw [List.nil_append] at ho6; obtain ⟨ar, cr, hvr, -, -⟩ := owT_form ho6; rw [List.length_nil] at hvr; subst hvr; have HO6 := Lh ho6; clear ho6 hg6)
     go_quiet (fail)
     have hd7 := below_drewN w6 nq
     have HO7 := Lh (owT_below (owT_below HO5.out B6.out) hd7)
     have HB7 := Lh (bt (bt HB5.out B6.out) hd7)
     have HG7 := Lh (owT_own (owT_take HO5.out (k := 0) (by have := M.out; omega)))
     have HAP7 := Lh (ap_own HO6.out)
     have HR7 := Lh (it_below (owT_it HO6.out) hd7)
     have HRL : Hid (([] : List Itm).length ≤ 1000000) := by show _ ≤ _; simp
     have HRM : Hid (rstL x.key (S.drop 0) = []) := by show _ = _; rw [HDR.out]; rfl
     clear hd7 HO6 B6 HB5 HO5
     generalize w6.drewN nq = W7 at *
     go_wp2_with fail
     refine wp_onlyN ?_
     refine wp_region_headsS (fun w' => Below w.heap.size w w') [0, 1, 2, 3, 4, 5, 6, 9] 4 (by kernel_rfl) (fun _ _ _ _ _ h => h.elim) (by kernel_rfl) (by rfl) (by rfl) HB7.out.drew ?_
     simp only [pickOps, List.filterMap_cons, List.filterMap_nil, List.getElem?_toArray, List.getElem?_cons_zero, List.getElem?_cons_succ]
     refine wpHeads_step (fun K hK => ?_)
     go_simp
     refine ⟨_, fun _ _ => rfl, hK _ ?_⟩
     clear hK K
     refine wpHeads_step (fun K hK => ?_)
     go_simp
     refine ⟨_, fun _ _ => rfl, hK _ ?_⟩
     clear hK K
     refine wpHeads_step (fun K hK => ?_)
     go_simp
     refine ⟨_, fun _ _ => rfl, hK _ ?_⟩
     clear hK K
     refine wpHeads_step (fun K hK => ?_)
     go_simp
     refine ⟨_, fun _ _ => rfl, hK _ ?_⟩
     clear hK K
     refine wpHeads_step (fun K hK => ?_)
     go_simp
     refine ⟨_, fun _ _ => rfl, hK _ ?_⟩
     clear hK K
     refine wpHeads_step (fun K hK => ?_)
     go_simp
     refine ⟨_, fun _ _ => rfl, hK _ ?_⟩
     clear hK K
     refine wpHeads_step (fun K hK => ?_)
     go_simp
     refine ⟨.agg #[.int .u64 (x.key : Int), .int .u32 (x.ck : Int), .int .i64 x.off, .int .i64 x.sz], fun w' hw' => by obtain ⟨u0, u1, u2, u3⟩ := KX.out w' hw'; simp [u0, u1, u2, u3], hK _ ?_⟩
     clear hK K
     refine wpHeads_step (fun K hK => ?_)
     go_simp
     refine ⟨_, fun _ _ => rfl, hK _ ?_⟩
     clear hK K
     refine wpHeads_nil ?_
     have HO8 := Lh (owT_below HO7.out ((Below.refl _ W7).drew))
     have HR8 := Lh (it_below HR7.out ((Below.refl _ W7).drew))
     have HB8 := Lh HB7.out.drew
     clear HO7 HR7 HB7
     generalize W7.drew = W8 at *
     refine held_one 7 rfl rfl (by kernel_rfl) fun K hK => ?_
     go_simp
     have B9 := Lh (bel_al W8 (.cells #[.int .u64 (x.key : Int), .int .u32 (x.ck : Int), .int .i64 x.off, .int .i64 x.sz] 56))
     have HO9 := Lh (owT_take (owT_below HO8.out B9.out) (k := 0) (by have := M.out; omega))
     have HX9 := Lh (it_one OKX.out (heap_alloc_new W8 (.cells #[.int .u64 (x.key : Int), .int .u32 (x.ck : Int), .int .i64 x.off, .int .i64 x.sz] 56)))
     have HR9 := Lh (it_below HR8.out B9.out)
     have HB9 := Lh (bt HB8.out B9.out)
     clear HO8 HR8 HB8
     refine hK _ _ HB9.out ?_
     clear hK K B9
     generalize W8.heap.size = g8 at *
     generalize W8.alloc (.cells #[.int .u64 (x.key : Int), .int .u32 (x.ck : Int), .int .i64 x.off, .int .i64 x.sz] 56) = W9 at *
     refine held_one 8 rfl rfl (by kernel_rfl) fun K hK => ?_
     refine wp_app_it rfl rfl HO9.out HX9.out (by have := M.out; simp only [List.length_take, List.length_cons, List.length_nil]; omega) HB9.out.size ?_
     intro v10 W10 ho10 hg10
     have HB10 := Lh (below_grownT HB9.out hg10 HO9.out HB9.out.size (Nat.le_refl _))
     have HR10 := Lh (it_grown2 HR9.out hg10 HG7.out HAP7.out)
     have HO10 := Lh ho10
     obtain ⟨a10, c10, rfl, -, -⟩ := owT_form ho10
     refine hK _ _ HB10.out ?_
     clear hK K ho10 hg10 HO9 HX9 HR9 HB9
     refine held_one 10 rfl rfl (by kernel_rfl) fun K hK => ?_
     refine wp_app_it rfl rfl HO10.out HR10.out (by have := M.out; have := HRL.out; simp only [List.length_take, List.length_append, List.length_cons, List.length_nil] at *; omega) HB10.out.size ?_
     intro v11 W11 ho11 hg11
     have HB11 := Lh (below_grownT HB10.out hg11 HO10.out HB10.out.size (Nat.le_refl _))
     have HO11 := Lh ho11
     obtain ⟨a11, c11, hv11, -, -⟩ := owT_form ho11
     obtain ⟨n11, hn11⟩ : ∃ q, q = (S.take 0 ++ [x] ++ ([] : List Itm)).length := ⟨_, rfl⟩
     rw [← hn11] at hv11
     subst hv11
     clear hn11
     refine hK _ _ HB11.out ?_
     clear hK K ho11 hg11 HO10 HR10 HB10
     refine held_one 11 rfl rfl (by kernel_rfl) fun K hK => ?_
     go_simp
     refine hK _ _ HB11.out ?_
     clear hK K
     refine wpAnyH_done (by kernel_rfl) ?_ _
     unfold onlyN
     dsimp only
     go_wp2
     go_roundw
     case rel => exact ⟨i + 1, by omega, by go_num, by rw [HST.out, HRM.out]; exact HO11.out, HB11.out⟩
     case measure => simp [intOf]; omega
    by_cases hcj : co = j
    ·subst hcj
     go_wp2
     go_quiet (fail)
     have hdn := below_drewN wr nq
     have HB5 := Lh (bt HB3.out hdn)
     have HO5 := Lh (owT_below HO2.out hdn)
     clear HB2 HB3 HO2 x0 x1 x2 x3 hdn
     generalize wr.drewN nq = W5 at *
     have OE := Lh (owT_empty W5 (base := W5.heap.size) (Nat.le_refl _))
     have BA := Lh (bel_al W5 (.cells #[] 56))
     go_wp2_with (at_builtin; refine app_it (dst := some 36) ?_ ?_ OE.out (it_empty ?pafull ?pcfull ?phfull) (by simp) (by simp) ?_; exact rfl; exact rfl; (first | exact HCM.out j | exact HCM.out 0 | exact Nat.zero_le _); intro vr w6 ho6 hg6; have B6 := Lh (below_grownT BA.out hg6 OE.out (Nat.le_of_lt (by simp)) (Nat.le_refl _)); rw [List.nil_append] at ho6; obtain ⟨ar, cr, hvr, -, -⟩ := owT_form ho6; rw [List.length_nil] at hvr; subst hvr; have HO6 := Lh ho6; clear ho6 hg6)
     go_quiet (fail)
     have hd7 := below_drewN w6 nq
     have HO7 := Lh (owT_below (owT_below HO5.out B6.out) hd7)
     have HB7 := Lh (bt (bt HB5.out B6.out) hd7)
     have HG7 := Lh (owT_own (owT_take HO5.out (k := co) (by have := M.out; omega)))
     have HAP7 := Lh (ap_own HO6.out)
     have HR7 := Lh (it_below (owT_it HO6.out) hd7)
     have HRL : Hid (([] : List Itm).length ≤ 1000000) := by show _ ≤ _; simp
     have HRM : Hid (rstL x.key (S.drop co) = []) := by show _ = _; rw [HDR.out]; rfl
     clear hd7 HO6 B6 HB5 HO5
     generalize w6.drewN nq = W7 at *
     go_wp2_with fail
     refine wp_onlyN ?_
     refine wp_region_headsS (fun w' => Below w.heap.size w w') [0, 1, 2, 3, 4, 5, 6, 9] 4 (by kernel_rfl) (fun _ _ _ _ _ h => h.elim) (by kernel_rfl) (by rfl) (by rfl) HB7.out.drew ?_
     simp only [pickOps, List.filterMap_cons, List.filterMap_nil, List.getElem?_toArray, List.getElem?_cons_zero, List.getElem?_cons_succ]
     refine wpHeads_step (fun K hK => ?_)
     go_simp
     refine ⟨_, fun _ _ => rfl, hK _ ?_⟩
     clear hK K
     refine wpHeads_step (fun K hK => ?_)
     go_simp
     refine ⟨_, fun _ _ => rfl, hK _ ?_⟩
     clear hK K
     refine wpHeads_step (fun K hK => ?_)
     go_simp
     refine ⟨_, fun _ _ => rfl, hK _ ?_⟩
     clear hK K
     refine wpHeads_step (fun K hK => ?_)
     go_simp
     refine ⟨_, fun _ _ => rfl, hK _ ?_⟩
     clear hK K
     refine wpHeads_step (fun K hK => ?_)
     go_simp
     refine ⟨_, fun _ _ => rfl, hK _ ?_⟩
     clear hK K
     refine wpHeads_step (fun K hK => ?_)
     go_simp
     refine ⟨_, fun _ _ => rfl, hK _ ?_⟩
     clear hK K
     refine wpHeads_step (fun K hK => ?_)
     go_simp
     refine ⟨.agg #[.int .u64 (x.key : Int), .int .u32 (x.ck : Int), .int .i64 x.off, .int .i64 x.sz], fun w' hw' => by obtain ⟨u0, u1, u2, u3⟩ := KX.out w' hw'; simp [u0, u1, u2, u3], hK _ ?_⟩
     clear hK K
     refine wpHeads_step (fun K hK => ?_)
     go_simp
     refine ⟨_, fun _ _ => rfl, hK _ ?_⟩
     clear hK K
     refine wpHeads_nil ?_
     have HO8 := Lh (owT_below HO7.out ((Below.refl _ W7).drew))
     have HR8 := Lh (it_below HR7.out ((Below.refl _ W7).drew))
     have HB8 := Lh HB7.out.drew
     clear HO7 HR7 HB7
     generalize W7.drew = W8 at *
     refine held_one 7 rfl rfl (by kernel_rfl) fun K hK => ?_
     go_simp
     have B9 := Lh (bel_al W8 (.cells #[.int .u64 (x.key : Int), .int .u32 (x.ck : Int), .int .i64 x.off, .int .i64 x.sz] 56))
     have HO9 := Lh (owT_take (owT_below HO8.out B9.out) (k := co) (by have := M.out; omega))
     have HX9 := Lh (it_one OKX.out (heap_alloc_new W8 (.cells #[.int .u64 (x.key : Int), .int .u32 (x.ck : Int), .int .i64 x.off, .int .i64 x.sz] 56)))
     have HR9 := Lh (it_below HR8.out B9.out)
     have HB9 := Lh (bt HB8.out B9.out)
     clear HO8 HR8 HB8
     refine hK _ _ HB9.out ?_
     clear hK K B9
     generalize W8.heap.size = g8 at *
     generalize W8.alloc (.cells #[.int .u64 (x.key : Int), .int .u32 (x.ck : Int), .int .i64 x.off, .int .i64 x.sz] 56) = W9 at *
     refine held_one 8 rfl rfl (by kernel_rfl) fun K hK => ?_
     refine wp_app_it rfl rfl HO9.out HX9.out (by have := M.out; simp only [List.length_take, List.length_cons, List.length_nil]; omega) HB9.out.size ?_
     intro v10 W10 ho10 hg10
     have HB10 := Lh (below_grownT HB9.out hg10 HO9.out HB9.out.size (Nat.le_refl _))
     have HR10 := Lh (it_grown2 HR9.out hg10 HG7.out HAP7.out)
     have HO10 := Lh ho10
     obtain ⟨a10, c10, rfl, -, -⟩ := owT_form ho10
     refine hK _ _ HB10.out ?_
     clear hK K ho10 hg10 HO9 HX9 HR9 HB9
     refine held_one 10 rfl rfl (by kernel_rfl) fun K hK => ?_
     refine wp_app_it rfl rfl HO10.out HR10.out (by have := M.out; have := HRL.out; simp only [List.length_take, List.length_append, List.length_cons, List.length_nil] at *; omega) HB10.out.size ?_
     intro v11 W11 ho11 hg11
     have HB11 := Lh (below_grownT HB10.out hg11 HO10.out HB10.out.size (Nat.le_refl _))
     have HO11 := Lh ho11
     obtain ⟨a11, c11, hv11, -, -⟩ := owT_form ho11
     obtain ⟨n11, hn11⟩ : ∃ q, q = (S.take co ++ [x] ++ ([] : List Itm)).length := ⟨_, rfl⟩
     rw [← hn11] at hv11
     subst hv11
     clear hn11
     refine hK _ _ HB11.out ?_
     clear hK K ho11 hg11 HO10 HR10 HB10
     refine held_one 11 rfl rfl (by kernel_rfl) fun K hK => ?_
     go_simp
     refine hK _ _ HB11.out ?_
     clear hK K
     refine wpAnyH_done (by kernel_rfl) ?_ _
     unfold onlyN
     dsimp only
     go_wp2
     go_roundw
     case rel => exact ⟨i + 1, by omega, by go_num, by rw [HST.out, HRM.out]; exact HO11.out, HB11.out⟩
     case measure => simp [intOf]; omega
    ·go_wp2
     go_quiet (fail)
     have hdn := below_drewN wr nq
     have HB5 := Lh (bt HB3.out hdn)
     have HO5 := Lh (owT_below HO2.out hdn)
     clear HB2 HB3 HO2 x0 x1 x2 x3 hdn
     generalize wr.drewN nq = W5 at *
     have OE := Lh (owT_empty W5 (base := W5.heap.size) (Nat.le_refl _))
     have BA := Lh (bel_al W5 (.cells #[] 56))
     go_wp2_with (at_builtin; refine app_it (dst := some 36) ?_ ?_ OE.out (it_empty ?paroom ?pcroom ?phroom) (by simp) (by simp) ?_; exact rfl; exact rfl; (first | exact HCM.out j | exact HCM.out 0 | exact Nat.zero_le _); intro vr w6 ho6 hg6; have B6 := Lh (below_grownT BA.out hg6 OE.out (Nat.le_of_lt (by simp)) (Nat.le_refl _)); rw [List.nil_append] at ho6; obtain ⟨ar, cr, hvr, -, -⟩ := owT_form ho6; rw [List.length_nil] at hvr; subst hvr; have HO6 := Lh ho6; clear ho6 hg6)
     go_quiet (fail)
     have hd7 := below_drewN w6 nq
     have HO7 := Lh (owT_below (owT_below HO5.out B6.out) hd7)
     have HB7 := Lh (bt (bt HB5.out B6.out) hd7)
     have HG7 := Lh (owT_own (owT_take HO5.out (k := j) (by have := M.out; omega)))
     have HAP7 := Lh (ap_own HO6.out)
     have HR7 := Lh (it_below (owT_it HO6.out) hd7)
     have HRL : Hid (([] : List Itm).length ≤ 1000000) := by show _ ≤ _; simp
     have HRM : Hid (rstL x.key (S.drop j) = []) := by show _ = _; rw [HDR.out]; rfl
     have g5 : j ≤ co := by have := MC.out; omega
     clear hd7 HO6 B6 HB5 HO5
     generalize w6.drewN nq = W7 at *
     go_wp2_with fail
     refine wp_onlyN ?_
     refine wp_region_headsS (fun w' => Below w.heap.size w w') [0, 1, 2, 3, 4, 5, 6, 9] 4 (by kernel_rfl) (fun _ _ _ _ _ h => h.elim) (by kernel_rfl) (by rfl) (by rfl) HB7.out.drew ?_
     simp only [pickOps, List.filterMap_cons, List.filterMap_nil, List.getElem?_toArray, List.getElem?_cons_zero, List.getElem?_cons_succ]
     refine wpHeads_step (fun K hK => ?_)
     go_simp
     refine ⟨_, fun _ _ => rfl, hK _ ?_⟩
     clear hK K
     refine wpHeads_step (fun K hK => ?_)
     go_simp
     refine ⟨_, fun _ _ => rfl, hK _ ?_⟩
     clear hK K
     refine wpHeads_step (fun K hK => ?_)
     go_simp
     refine ⟨_, fun _ _ => rfl, hK _ ?_⟩
     clear hK K
     refine wpHeads_step (fun K hK => ?_)
     go_simp
     refine ⟨_, fun _ _ => rfl, hK _ ?_⟩
     clear hK K
     refine wpHeads_step (fun K hK => ?_)
     go_simp
     refine ⟨_, fun _ _ => rfl, hK _ ?_⟩
     clear hK K
     refine wpHeads_step (fun K hK => ?_)
     go_simp
     refine ⟨_, fun _ _ => rfl, hK _ ?_⟩
     clear hK K
     refine wpHeads_step (fun K hK => ?_)
     go_simp
     refine ⟨.agg #[.int .u64 (x.key : Int), .int .u32 (x.ck : Int), .int .i64 x.off, .int .i64 x.sz], fun w' hw' => by obtain ⟨u0, u1, u2, u3⟩ := KX.out w' hw'; simp [u0, u1, u2, u3], hK _ ?_⟩
     clear hK K
     refine wpHeads_step (fun K hK => ?_)
     go_simp
     refine ⟨_, fun _ _ => rfl, hK _ ?_⟩
     clear hK K
     refine wpHeads_nil ?_
     have HO8 := Lh (owT_below HO7.out ((Below.refl _ W7).drew))
     have HR8 := Lh (it_below HR7.out ((Below.refl _ W7).drew))
     have HB8 := Lh HB7.out.drew
     clear HO7 HR7 HB7
     generalize W7.drew = W8 at *
     refine held_one 7 rfl rfl (by kernel_rfl) fun K hK => ?_
     go_simp
     have B9 := Lh (bel_al W8 (.cells #[.int .u64 (x.key : Int), .int .u32 (x.ck : Int), .int .i64 x.off, .int .i64 x.sz] 56))
     have HO9 := Lh (owT_take (owT_below HO8.out B9.out) (k := j) (by have := M.out; omega))
     have HX9 := Lh (it_one OKX.out (heap_alloc_new W8 (.cells #[.int .u64 (x.key : Int), .int .u32 (x.ck : Int), .int .i64 x.off, .int .i64 x.sz] 56)))
     have HR9 := Lh (it_below HR8.out B9.out)
     have HB9 := Lh (bt HB8.out B9.out)
     clear HO8 HR8 HB8
     refine hK _ _ HB9.out ?_
     clear hK K B9
     generalize W8.heap.size = g8 at *
     generalize W8.alloc (.cells #[.int .u64 (x.key : Int), .int .u32 (x.ck : Int), .int .i64 x.off, .int .i64 x.sz] 56) = W9 at *
     refine held_one 8 rfl rfl (by kernel_rfl) fun K hK => ?_
     refine wp_app_it rfl rfl HO9.out HX9.out (by have := M.out; simp only [List.length_take, List.length_cons, List.length_nil]; omega) HB9.out.size ?_
     intro v10 W10 ho10 hg10
     have HB10 := Lh (below_grownT HB9.out hg10 HO9.out HB9.out.size (Nat.le_refl _))
     have HR10 := Lh (it_grown2 HR9.out hg10 HG7.out HAP7.out)
     have HO10 := Lh ho10
     obtain ⟨a10, c10, rfl, -, -⟩ := owT_form ho10
     refine hK _ _ HB10.out ?_
     clear hK K ho10 hg10 HO9 HX9 HR9 HB9
     refine held_one 10 rfl rfl (by kernel_rfl) fun K hK => ?_
     refine wp_app_it rfl rfl HO10.out HR10.out (by have := M.out; have := HRL.out; simp only [List.length_take, List.length_append, List.length_cons, List.length_nil] at *; omega) HB10.out.size ?_
     intro v11 W11 ho11 hg11
     have HB11 := Lh (below_grownT HB10.out hg11 HO10.out HB10.out.size (Nat.le_refl _))
     have HO11 := Lh ho11
     obtain ⟨a11, c11, hv11, -, -⟩ := owT_form ho11
     obtain ⟨n11, hn11⟩ : ∃ q, q = (S.take j ++ [x] ++ ([] : List Itm)).length := ⟨_, rfl⟩
     rw [← hn11] at hv11
     subst hv11
     clear hn11
     refine hK _ _ HB11.out ?_
     clear hK K ho11 hg11 HO10 HR10 HB10
     refine held_one 11 rfl rfl (by kernel_rfl) fun K hK => ?_
     go_simp
     refine hK _ _ HB11.out ?_
     clear hK K
     refine wpAnyH_done (by kernel_rfl) ?_ _
     unfold onlyN
     dsimp only
     go_wp2
     go_roundw
     case rel => exact ⟨i + 1, by omega, by go_num, by rw [HST.out, HRM.out]; exact HO11.out, HB11.out⟩
     case measure => simp [intOf]; omega
/-- A call that answers a list of its own. -/
def LO (w : World) (L : List Itm) (e : Ending) (w' : World) : Prop := (∃ v, e = .returned v ∧ OwT w' w.heap.size v L) ∧ Below w.heap.size w w'
theorem delL_snoc (k : Nat) (S : List Itm) (x : Itm) : delL k (S ++ [x]) = if x.key = k then delL k S else delL k S ++ [x] := by
 unfold delL
 rw [List.filter_append]
 by_cases h : x.key = k <;> simp [h]
theorem length_delL (k : Nat) (S : List Itm) : (delL k S).length ≤ S.length := List.length_filter_le _ _
theorem rdrop_any (v : Value) (L : List Itm) (k : Nat) (w : World) (s : It w v L) (hlen : L.length ≤ 1000000) : Calls Tryz.prog 101 #[v, .int .u64 (k : Int)] w (LO w (dropL L k)) := by
 unfold LO dropL
 have RS := Lh (rsorted_any v L w s hlen)
 have hSl : (sortL L).length ≤ 1000000 := Nat.le_trans (length_sortL L) hlen
 obtain ⟨al, cl, rfl, -, -⟩ := it_form s
 generalize L.length = n0 at *
 generalize sortL L = S at *
 clear s hlen
 go_enter Tryz.func101, Tryz.ntmps101
 go_wp2_with fail
 refine RS.out.mono ?_
 rintro e w1 ⟨⟨v1, rfl, ho1⟩, hb1⟩
 obtain ⟨a1, c1, rfl, -, -⟩ := owT_form ho1
 obtain ⟨n, hn⟩ : ∃ n, n = S.length := ⟨_, rfl⟩
 rw [← hn] at ho1 hSl ⊢
 have N := Lh hn
 have O1 := Lh ho1
 have B1 := Lh hb1
 clear ho1 hb1 hn RS
 go_wp2_with fail
 go_loopw [5, 6] (fun out t wr => ∃ i : Nat, i ≤ n ∧ t = .int .i64 (i : Int) ∧ OwT wr w1.heap.size out (delL k (S.take i)) ∧ Below w1.heap.size w1 wr) (fun _ t _ => n - (intOf t).toNat)
 case atStart => exact ⟨0, by omega, rfl, owT_nil _ _, Below.refl _ _⟩
 case round =>
  obtain ⟨i, hi, rfl, ho, hB⟩ := hrel
  by_cases hin : i < n
  ·have hl4 : decide ((i : Int) < (n : Int)) = true := decide_eq_true (by omega)
   have p0 : (0 : Int) ≤ (i : Int) := by omega
   have p1 : (i : Int) < (n : Int) := by omega
   have N' := N.out
   have hsn : delL k (S.take (i + 1)) = if (S.getD i z0).key = k then delL k (S.take i) else delL k (S.take i) ++ [S.getD i z0] := by rw [take_snocT (by omega), delL_snoc]
   have hle : (delL k (S.take i)).length ≤ 1000000 := Nat.le_trans (length_delL _ _) (by rw [List.length_take]; omega)
   obtain ⟨b1, o1, c1', hv1, -, -, hk1⟩ := it_cells (owT_it O1.out) (by omega)
   obtain ⟨rfl, -, -⟩ : a1 = some ⟨b1, o1, none⟩ ∧ n = S.length ∧ c1 = c1' := by simpa using hv1
   obtain ⟨f0, f1, f2, f3⟩ := (hk1 i (by omega)).below hB
   have OKX := Lh (getT_ok O1.out.1 i)
   generalize delL k (S.take i) = D at *
   generalize S.getD i z0 = x at *
   obtain ⟨ao, co, rfl, -, -⟩ := owT_form ho
   obtain ⟨m, hm⟩ : ∃ m, m = D.length := ⟨_, rfl⟩
   rw [← hm] at ho hle ⊢
   have HO := Lh ho
   have HB := Lh hB
   have HM := Lh hm
   have HLE := Lh hle
   clear hk1 hv1 N' ho hB hm hle
   by_cases hx : x.key = k
   ·have d1 : ((x.key : Int) != (k : Int)) = false := by simp; omega
    have d2 : x.key = k := hx
    rw [if_pos hx] at hsn
    have HS := Lh hsn
    clear hsn hx
    go_wp2
    go_roundw
    case rel => exact ⟨i + 1, by omega, by go_num, by rw [HS.out]; exact HO.out, HB.out⟩
    case measure => simp [intOf]; omega
   ·have d1 : ((x.key : Int) != (k : Int)) = true := by rw [bne_iff_ne]; omega
    have d2 : ¬ x.key = k := hx
    rw [if_neg hx] at hsn
    have HS := Lh hsn
    have HL : Hid (D.length + [x].length ≤ 100000000) := by show _ ≤ _; have := HM.out; have := HLE.out; simp; omega
    have HA := Lh (bel_al wr (.cells #[.int .u64 (x.key : Int), .int .u32 (x.ck : Int), .int .i64 x.off, .int .i64 x.sz] 56))
    have HX := Lh (it_one OKX.out (heap_alloc_new wr (.cells #[.int .u64 (x.key : Int), .int .u32 (x.ck : Int), .int .i64 x.off, .int .i64 x.sz] 56)))
    clear hsn hx
    go_wp2_with (at_builtin; refine app_it (dst := some 28) ?_ ?_ (owT_below HO.out HA.out) HX.out HL.out (by have h1 := HB.out.size; have h2 := HA.out.size; omega) ?_; exact rfl; exact rfl; intro v5 w5 ho5 hg5; have B5 := Lh (below_grownT (bt HB.out HA.out) hg5 (owT_below HO.out HA.out) (by have h1 := HB.out.size; have h2 := HA.out.size; omega) (Nat.le_refl _)); have HO5 := Lh ho5; obtain ⟨a5, c5, hv5, -, -⟩ := owT_form ho5; obtain ⟨n5, hn5⟩ : ∃ q, q = (D ++ [x]).length := ⟨_, rfl⟩; rw [← hn5] at hv5; subst hv5; clear ho5 hg5 hn5)
    go_roundw
    case rel => exact ⟨i + 1, by omega, by go_num, by rw [HS.out]; exact HO5.out, B5.out⟩
    case measure => simp [intOf]; omega
  ·obtain rfl : i = n := by omega
   have hl4 : decide ((i : Int) < (i : Int)) = false := decide_eq_false (by omega)
   rw [List.take_of_length_le (by have := N.out; omega)] at ho
   have HO := Lh ho
   obtain ⟨ao, co, rfl, -, -⟩ := owT_form ho
   generalize (delL k S).length = m at *
   have HB := Lh hB
   clear ho hB
   go_wp2
   go_ret
   exact ⟨⟨_, rfl, owT_base HO.out B1.out.size⟩, bt B1.out HB.out⟩
def foT (x : Itm) (S : List Itm) (i : Nat) : List Itm × Bool := (S.take i).foldl (stp x) ([], false)
theorem foT_succ {x : Itm} {S : List Itm} {i : Nat} (h : i < S.length) : foT x S (i + 1) = stp x (foT x S i) (S.getD i z0) := by
 unfold foT
 rw [take_snocT h, List.foldl_append, List.foldl_cons, List.foldl_nil]
theorem foT_all {x : Itm} {S : List Itm} {i : Nat} (h : S.length ≤ i) : (if (foT x S i).2 then (foT x S i).1 else (foT x S i).1 ++ [x]) = putF x S := by
 unfold foT
 rw [List.take_of_length_le h]
 rfl
theorem stp_len (x : Itm) (s : List Itm × Bool) (y : Itm) : (stp x s y).1.length ≤ s.1.length + 2 := by
 unfold stp
 dsimp only
 split <;> split <;> simp
theorem foT_len (x : Itm) (S : List Itm) : ∀ i, i ≤ S.length → (foT x S i).1.length ≤ 2 * i
 | 0, _ => by simp [foT]
 | i + 1, h => by
  have h1 := foT_len x S i (by omega)
  rw [foT_succ (by omega)]
  have := stp_len x (foT x S i) (S.getD i z0)
  omega
theorem rput_any (v : Value) (L : List Itm) (x : Itm) (okx : ItOk x) (w : World) (s : It w v L) (hlen : L.length ≤ 1000000) : Calls Tryz.prog 55 #[v, TV x] w (LO w (putL L x)) := by
 unfold LO putL
 have HB0 := Lh (bel_al w (.cells #[.int .u64 (x.key : Int), .int .u32 (x.ck : Int), .int .i64 x.off, .int .i64 x.sz] 56))
 have X0 := Lh (heap_alloc_new w (.cells #[.int .u64 (x.key : Int), .int .u32 (x.ck : Int), .int .i64 x.off, .int .i64 x.sz] 56))
 have RS := Lh (fun W (h : Below w.heap.size w W) => rsorted_any v L W (it_below s h) hlen)
 have hSl : (sortL L).length ≤ 1000000 := Nat.le_trans (length_sortL L) hlen
 have PF := Lh (putF_eq x (asc_sortL L))
 have OKX := Lh okx
 obtain ⟨al, cl, rfl, -, -⟩ := it_form s
 generalize L.length = n0 at *
 generalize sortL L = S at *
 clear s hlen okx
 unfold TV
 go_enter Tryz.func55, Tryz.ntmps55
 go_wp2_with fail
 refine (RS.out _ HB0.out).mono ?_
 rintro e w1 ⟨⟨v1, rfl, ho1⟩, hb1⟩
 have hx1 : w1.heap[w.heap.size]? = _ := (hb1.block _ (lt_of_some X0.out)).trans X0.out
 have hbw := bt HB0.out hb1
 have hb0 : w.heap.size ≤ (w.alloc (.cells #[.int .u64 (x.key : Int), .int .u32 (x.ck : Int), .int .i64 x.off, .int .i64 x.sz] 56)).heap.size := HB0.out.size
 have hs1 := hb1.size
 generalize w.alloc (.cells #[.int .u64 (x.key : Int), .int .u32 (x.ck : Int), .int .i64 x.off, .int .i64 x.sz] 56) = w0 at *
 obtain ⟨a1, c1, rfl, -, -⟩ := owT_form ho1
 obtain ⟨n, hn⟩ : ∃ n, n = S.length := ⟨_, rfl⟩
 rw [← hn] at ho1 hSl ⊢
 have N := Lh hn
 have O1 := Lh ho1
 have BW := Lh hbw
 have X1 := Lh hx1
 have HSZ : Hid (w.heap.size ≤ w1.heap.size) := Nat.le_trans hb0 hs1
 clear ho1 hb1 hn RS hx1 hbw hb0 hs1
 go_wp2_with fail
 go_loopw [5, 6, 7] (fun out d t wr => ∃ i : Nat, i ≤ n ∧ t = .int .i64 (i : Int) ∧ d = .bool (foT x S i).2 ∧ OwT wr w1.heap.size out (foT x S i).1 ∧ Below w1.heap.size w1 wr) (fun _ _ t _ => n - (intOf t).toNat)
 case atStart => exact ⟨0, by omega, rfl, rfl, owT_nil _ _, Below.refl _ _⟩
 case round =>
  obtain ⟨i, hi, rfl, rfl, ho, hB⟩ := hrel
  have X2 := Lh ((hB.block _ (lt_of_some X1.out)).trans X1.out)
  obtain ⟨⟨x0, x1, x2, x3⟩, -, -, -, -⟩ := bx4 X2.out
  by_cases hin : i < n
  ·have hl4 : decide ((i : Int) < (n : Int)) = true := decide_eq_true (by omega)
   have p0 : (0 : Int) ≤ (i : Int) := by omega
   have p1 : (i : Int) < (n : Int) := by omega
   have N' := N.out
   have hsn : foT x S (i + 1) = stp x (foT x S i) (S.getD i z0) := foT_succ (by omega)
   have hle := foT_len x S i (by omega)
   obtain ⟨b1, o1, c1', hv1, -, -, hk1⟩ := it_cells (owT_it O1.out) (by omega)
   obtain ⟨rfl, -, -⟩ : a1 = some ⟨b1, o1, none⟩ ∧ n = S.length ∧ c1 = c1' := by simpa using hv1
   have k1 := (hk1 i (by omega)).below hB
   obtain ⟨f0, f1, f2, f3⟩ := k1
   have K1 : Hid (∀ W, Below w1.heap.size w1 W → C4 W b1 (o1 + i * 4) (S.getD i z0)) := fun W hW => (hk1 i (by omega)).below hW
   have OKY := Lh (getT_ok O1.out.1 i)
   obtain ⟨D, d, hD⟩ : ∃ D d, foT x S i = (D, d) := ⟨_, _, rfl⟩
   rw [hD] at ho hle hsn ⊢
   dsimp only at ho hle ⊢
   generalize S.getD i z0 = y at *
   obtain ⟨ao, co, rfl, -, -⟩ := owT_form ho
   obtain ⟨m, hm⟩ : ∃ m, m = D.length := ⟨_, rfl⟩
   rw [← hm] at ho hle ⊢
   have HO := Lh ho
   have HB := Lh hB
   have HM := Lh hm
   have HLE : Hid (m ≤ 2000000) := by show _ ≤ _; omega
   clear hk1 hv1 N' ho hB hm hle hD
   cases d
   ·by_cases hr : y.key < x.key
    ·have d1 : decide ((x.key : Int) ≤ (y.key : Int)) = false := decide_eq_false (by omega)
     have d2 : ¬ x.key ≤ y.key := by omega
     have d3 : ((y.key : Int) != (x.key : Int)) = true := by rw [bne_iff_ne]; omega
     have d4 : ¬ y.key = x.key := by omega
     have HS : Hid (foT x S (i + 1) = (D ++ [y], false)) := by
      show _ = _
      rw [hsn]
      unfold stp
      simp [show ¬ x.key ≤ y.key by omega, show ¬ y.key = x.key by omega]
     clear hsn
     go_wp2
     go_quiet (fail)
     have hd := below_drewN wr nq
     have HOa := Lh (owT_below HO.out hd)
     have HBa := Lh (bt HB.out hd)
     have X2a := Lh ((hd.block _ (lt_of_some X2.out)).trans X2.out)
     clear HO HB X2 x0 x1 x2 x3 f0 f1 f2 f3 hd
     generalize wr.drewN nq = Wa at *
     obtain ⟨⟨x0, x1, x2, x3⟩, -, -, -, -⟩ := bx4 X2a.out
     obtain ⟨f0, f1, f2, f3⟩ := K1.out Wa HBa.out
     go_wp2_with fail
     go_quiet (fail)
     have hd := below_drewN Wa nq
     have HOb := Lh (owT_below HOa.out hd)
     have HBb := Lh (bt HBa.out hd)
     clear x0 x1 x2 x3 f0 f1 f2 f3 hd
     generalize Wa.drewN nq = Wb at *
     obtain ⟨f0, f1, f2, f3⟩ := K1.out Wb HBb.out
     obtain ⟨⟨x0, x1, x2, x3⟩, -, -, -, -⟩ := bx4 ((HBb.out.block _ (lt_of_some X1.out)).trans X1.out)
     have HAq := Lh (bel_al Wb (.cells #[.int .u64 (y.key : Int), .int .u32 (y.ck : Int), .int .i64 y.off, .int .i64 y.sz] 56))
     have HEq := Lh (it_one OKY.out (heap_alloc_new Wb (.cells #[.int .u64 (y.key : Int), .int .u32 (y.ck : Int), .int .i64 y.off, .int .i64 y.sz] 56)))
     have HLq : Hid ((D).length + [y].length ≤ 100000000) := by show _ ≤ _; have := HM.out; have := HLE.out; simp; omega
     go_wp2_with (at_builtin; refine app_it (dst := some 46) ?_ ?_ (owT_below HOb.out HAq.out) HEq.out HLq.out (by have h1 := HBb.out.size; have h2 := HAq.out.size; omega) ?_; exact rfl; exact rfl; intro vq wq hoq hgq; have Bq := Lh (below_grownT (bt HBb.out HAq.out) hgq (owT_below HOb.out HAq.out) (by have h1 := HBb.out.size; have h2 := HAq.out.size; omega) (Nat.le_refl _)); have Oq := Lh hoq; obtain ⟨aq, cq, hvq, -, -⟩ := owT_form hoq; obtain ⟨nq, hnq⟩ : ∃ q, q = (D ++ [y]).length := ⟨_, rfl⟩; rw [← hnq] at hvq; subst hvq; have Xq := Lh ((Bq.out.block _ (lt_of_some X1.out)).trans X1.out); clear hoq hgq hnq x0 x1 x2 x3 f0 f1 f2 f3; obtain ⟨⟨x0, x1, x2, x3⟩, -, -, -, -⟩ := bx4 Xq.out; obtain ⟨f0, f1, f2, f3⟩ := K1.out wq Bq.out)
     go_roundw
     case rel => exact ⟨i + 1, by omega, by go_num, by rw [HS.out], by rw [HS.out]; exact Oq.out, Bq.out⟩
     case measure => simp [intOf]; omega
    ·by_cases hr : y.key = x.key
     ·have d1 : decide ((x.key : Int) ≤ (y.key : Int)) = true := decide_eq_true (by omega)
      have d2 : x.key ≤ y.key := by omega
      have d3 : ((y.key : Int) != (x.key : Int)) = false := by simp; omega
      have d4 : y.key = x.key := hr
      have HS : Hid (foT x S (i + 1) = (D ++ [x], true)) := by
       show _ = _
       rw [hsn]
       unfold stp
       simp [hr]
      clear hsn
      go_wp2
      go_quiet (fail)
      have hd := below_drewN wr nq
      have HOa := Lh (owT_below HO.out hd)
      have HBa := Lh (bt HB.out hd)
      have X2a := Lh ((hd.block _ (lt_of_some X2.out)).trans X2.out)
      clear HO HB X2 x0 x1 x2 x3 f0 f1 f2 f3 hd
      generalize wr.drewN nq = Wa at *
      obtain ⟨⟨x0, x1, x2, x3⟩, -, -, -, -⟩ := bx4 X2a.out
      obtain ⟨f0, f1, f2, f3⟩ := K1.out Wa HBa.out
      have HAp := Lh (bel_al Wa (.cells #[.int .u64 (x.key : Int), .int .u32 (x.ck : Int), .int .i64 x.off, .int .i64 x.sz] 56))
      have HEp := Lh (it_one OKX.out (heap_alloc_new Wa (.cells #[.int .u64 (x.key : Int), .int .u32 (x.ck : Int), .int .i64 x.off, .int .i64 x.sz] 56)))
      have HLp : Hid ((D).length + [x].length ≤ 100000000) := by show _ ≤ _; have := HM.out; have := HLE.out; simp; omega
      go_wp2_with (at_builtin; refine app_it (dst := some 31) ?_ ?_ (owT_below HOa.out HAp.out) HEp.out HLp.out (by have h1 := HBa.out.size; have h2 := HAp.out.size; omega) ?_; exact rfl; exact rfl; intro vp wp hop hgp; have Bp := Lh (below_grownT (bt HBa.out HAp.out) hgp (owT_below HOa.out HAp.out) (by have h1 := HBa.out.size; have h2 := HAp.out.size; omega) (Nat.le_refl _)); have Op := Lh hop; obtain ⟨ap, cp, hvp, -, -⟩ := owT_form hop; obtain ⟨np, hnp⟩ : ∃ q, q = (D ++ [x]).length := ⟨_, rfl⟩; rw [← hnp] at hvp; subst hvp; have Xp := Lh ((Bp.out.block _ (lt_of_some X1.out)).trans X1.out); clear hop hgp hnp x0 x1 x2 x3 f0 f1 f2 f3; obtain ⟨⟨x0, x1, x2, x3⟩, -, -, -, -⟩ := bx4 Xp.out; obtain ⟨f0, f1, f2, f3⟩ := K1.out wp Bp.out)
      go_quiet (fail)
      have hd := below_drewN wp nq
      have HOb := Lh (owT_below Op.out hd)
      have HBb := Lh (bt Bp.out hd)
      clear x0 x1 x2 x3 f0 f1 f2 f3 hd
      generalize wp.drewN nq = Wb at *
      obtain ⟨f0, f1, f2, f3⟩ := K1.out Wb HBb.out
      obtain ⟨⟨x0, x1, x2, x3⟩, -, -, -, -⟩ := bx4 ((HBb.out.block _ (lt_of_some X1.out)).trans X1.out)
      go_wp2
      go_roundw
      case rel => exact ⟨i + 1, by omega, by go_num, by rw [HS.out], by rw [HS.out]; exact HOb.out, HBb.out⟩
      case measure => simp [intOf]; omega
     ·have d1 : decide ((x.key : Int) ≤ (y.key : Int)) = true := decide_eq_true (by omega)
      have d2 : x.key ≤ y.key := by omega
      have d3 : ((y.key : Int) != (x.key : Int)) = true := by rw [bne_iff_ne]; omega
      have d4 : ¬ y.key = x.key := by omega
      have HS : Hid (foT x S (i + 1) = (D ++ [x] ++ [y], true)) := by
       show _ = _
       rw [hsn]
       unfold stp
       simp [show x.key ≤ y.key by omega, show ¬ y.key = x.key by omega]
      clear hsn
      go_wp2
      go_quiet (fail)
      have hd := below_drewN wr nq
      have HOa := Lh (owT_below HO.out hd)
      have HBa := Lh (bt HB.out hd)
      have X2a := Lh ((hd.block _ (lt_of_some X2.out)).trans X2.out)
      clear HO HB X2 x0 x1 x2 x3 f0 f1 f2 f3 hd
      generalize wr.drewN nq = Wa at *
      obtain ⟨⟨x0, x1, x2, x3⟩, -, -, -, -⟩ := bx4 X2a.out
      obtain ⟨f0, f1, f2, f3⟩ := K1.out Wa HBa.out
      have HAp := Lh (bel_al Wa (.cells #[.int .u64 (x.key : Int), .int .u32 (x.ck : Int), .int .i64 x.off, .int .i64 x.sz] 56))
      have HEp := Lh (it_one OKX.out (heap_alloc_new Wa (.cells #[.int .u64 (x.key : Int), .int .u32 (x.ck : Int), .int .i64 x.off, .int .i64 x.sz] 56)))
      have HLp : Hid ((D).length + [x].length ≤ 100000000) := by show _ ≤ _; have := HM.out; have := HLE.out; simp; omega
      go_wp2_with (at_builtin; refine app_it (dst := some 31) ?_ ?_ (owT_below HOa.out HAp.out) HEp.out HLp.out (by have h1 := HBa.out.size; have h2 := HAp.out.size; omega) ?_; exact rfl; exact rfl; intro vp wp hop hgp; have Bp := Lh (below_grownT (bt HBa.out HAp.out) hgp (owT_below HOa.out HAp.out) (by have h1 := HBa.out.size; have h2 := HAp.out.size; omega) (Nat.le_refl _)); have Op := Lh hop; obtain ⟨ap, cp, hvp, -, -⟩ := owT_form hop; obtain ⟨np, hnp⟩ : ∃ q, q = (D ++ [x]).length := ⟨_, rfl⟩; rw [← hnp] at hvp; subst hvp; have Xp := Lh ((Bp.out.block _ (lt_of_some X1.out)).trans X1.out); clear hop hgp hnp x0 x1 x2 x3 f0 f1 f2 f3; obtain ⟨⟨x0, x1, x2, x3⟩, -, -, -, -⟩ := bx4 Xp.out; obtain ⟨f0, f1, f2, f3⟩ := K1.out wp Bp.out)
      go_quiet (fail)
      have hd := below_drewN wp nq
      have HOb := Lh (owT_below Op.out hd)
      have HBb := Lh (bt Bp.out hd)
      clear x0 x1 x2 x3 f0 f1 f2 f3 hd
      generalize wp.drewN nq = Wb at *
      obtain ⟨f0, f1, f2, f3⟩ := K1.out Wb HBb.out
      obtain ⟨⟨x0, x1, x2, x3⟩, -, -, -, -⟩ := bx4 ((HBb.out.block _ (lt_of_some X1.out)).trans X1.out)
      have HAq := Lh (bel_al Wb (.cells #[.int .u64 (y.key : Int), .int .u32 (y.ck : Int), .int .i64 y.off, .int .i64 y.sz] 56))
      have HEq := Lh (it_one OKY.out (heap_alloc_new Wb (.cells #[.int .u64 (y.key : Int), .int .u32 (y.ck : Int), .int .i64 y.off, .int .i64 y.sz] 56)))
      have HLq : Hid ((D ++ [x]).length + [y].length ≤ 100000000) := by show _ ≤ _; have := HM.out; have := HLE.out; simp; omega
      go_wp2_with (at_builtin; refine app_it (dst := some 46) ?_ ?_ (owT_below HOb.out HAq.out) HEq.out HLq.out (by have h1 := HBb.out.size; have h2 := HAq.out.size; omega) ?_; exact rfl; exact rfl; intro vq wq hoq hgq; have Bq := Lh (below_grownT (bt HBb.out HAq.out) hgq (owT_below HOb.out HAq.out) (by have h1 := HBb.out.size; have h2 := HAq.out.size; omega) (Nat.le_refl _)); have Oq := Lh hoq; obtain ⟨aq, cq, hvq, -, -⟩ := owT_form hoq; obtain ⟨nq, hnq⟩ : ∃ q, q = (D ++ [x] ++ [y]).length := ⟨_, rfl⟩; rw [← hnq] at hvq; subst hvq; have Xq := Lh ((Bq.out.block _ (lt_of_some X1.out)).trans X1.out); clear hoq hgq hnq x0 x1 x2 x3 f0 f1 f2 f3; obtain ⟨⟨x0, x1, x2, x3⟩, -, -, -, -⟩ := bx4 Xq.out; obtain ⟨f0, f1, f2, f3⟩ := K1.out wq Bq.out)
      go_roundw
      case rel => exact ⟨i + 1, by omega, by go_num, by rw [HS.out], by rw [HS.out]; exact Oq.out, Bq.out⟩
      case measure => simp [intOf]; omega
   ·by_cases hr : y.key = x.key
    ·have d1 : decide ((x.key : Int) ≤ (y.key : Int)) = true := decide_eq_true (by omega)
     have d2 : x.key ≤ y.key := by omega
     have d3 : ((y.key : Int) != (x.key : Int)) = false := by simp; omega
     have d4 : y.key = x.key := hr
     have HS : Hid (foT x S (i + 1) = (D, true)) := by
      show _ = _
      rw [hsn]
      unfold stp
      simp [hr]
     clear hsn
     go_wp2
     go_quiet (fail)
     have hd := below_drewN wr nq
     have HOa := Lh (owT_below HO.out hd)
     have HBa := Lh (bt HB.out hd)
     have X2a := Lh ((hd.block _ (lt_of_some X2.out)).trans X2.out)
     clear HO HB X2 x0 x1 x2 x3 f0 f1 f2 f3 hd
     generalize wr.drewN nq = Wa at *
     obtain ⟨⟨x0, x1, x2, x3⟩, -, -, -, -⟩ := bx4 X2a.out
     obtain ⟨f0, f1, f2, f3⟩ := K1.out Wa HBa.out
     go_wp2_with fail
     go_quiet (fail)
     have hd := below_drewN Wa nq
     have HOb := Lh (owT_below HOa.out hd)
     have HBb := Lh (bt HBa.out hd)
     clear x0 x1 x2 x3 f0 f1 f2 f3 hd
     generalize Wa.drewN nq = Wb at *
     obtain ⟨f0, f1, f2, f3⟩ := K1.out Wb HBb.out
     obtain ⟨⟨x0, x1, x2, x3⟩, -, -, -, -⟩ := bx4 ((HBb.out.block _ (lt_of_some X1.out)).trans X1.out)
     go_wp2
     go_roundw
     case rel => exact ⟨i + 1, by omega, by go_num, by rw [HS.out], by rw [HS.out]; exact HOb.out, HBb.out⟩
     case measure => simp [intOf]; omega
    ·have d3 : ((y.key : Int) != (x.key : Int)) = true := by rw [bne_iff_ne]; omega
     have d4 : ¬ y.key = x.key := hr
     have HS : Hid (foT x S (i + 1) = (D ++ [y], true)) := by
      show _ = _
      rw [hsn]
      unfold stp
      simp [show ¬ y.key = x.key by omega]
     clear hsn
     go_wp2
     go_quiet (fail)
     have hd := below_drewN wr nq
     have HOa := Lh (owT_below HO.out hd)
     have HBa := Lh (bt HB.out hd)
     have X2a := Lh ((hd.block _ (lt_of_some X2.out)).trans X2.out)
     clear HO HB X2 x0 x1 x2 x3 f0 f1 f2 f3 hd
     generalize wr.drewN nq = Wa at *
     obtain ⟨⟨x0, x1, x2, x3⟩, -, -, -, -⟩ := bx4 X2a.out
     obtain ⟨f0, f1, f2, f3⟩ := K1.out Wa HBa.out
     go_wp2_with fail
     go_quiet (fail)
     have hd := below_drewN Wa nq
     have HOb := Lh (owT_below HOa.out hd)
     have HBb := Lh (bt HBa.out hd)
     clear x0 x1 x2 x3 f0 f1 f2 f3 hd
     generalize Wa.drewN nq = Wb at *
     obtain ⟨f0, f1, f2, f3⟩ := K1.out Wb HBb.out
     obtain ⟨⟨x0, x1, x2, x3⟩, -, -, -, -⟩ := bx4 ((HBb.out.block _ (lt_of_some X1.out)).trans X1.out)
     have HAq := Lh (bel_al Wb (.cells #[.int .u64 (y.key : Int), .int .u32 (y.ck : Int), .int .i64 y.off, .int .i64 y.sz] 56))
     have HEq := Lh (it_one OKY.out (heap_alloc_new Wb (.cells #[.int .u64 (y.key : Int), .int .u32 (y.ck : Int), .int .i64 y.off, .int .i64 y.sz] 56)))
     have HLq : Hid ((D).length + [y].length ≤ 100000000) := by show _ ≤ _; have := HM.out; have := HLE.out; simp; omega
     go_wp2_with (at_builtin; refine app_it (dst := some 46) ?_ ?_ (owT_below HOb.out HAq.out) HEq.out HLq.out (by have h1 := HBb.out.size; have h2 := HAq.out.size; omega) ?_; exact rfl; exact rfl; intro vq wq hoq hgq; have Bq := Lh (below_grownT (bt HBb.out HAq.out) hgq (owT_below HOb.out HAq.out) (by have h1 := HBb.out.size; have h2 := HAq.out.size; omega) (Nat.le_refl _)); have Oq := Lh hoq; obtain ⟨aq, cq, hvq, -, -⟩ := owT_form hoq; obtain ⟨nq, hnq⟩ : ∃ q, q = (D ++ [y]).length := ⟨_, rfl⟩; rw [← hnq] at hvq; subst hvq; have Xq := Lh ((Bq.out.block _ (lt_of_some X1.out)).trans X1.out); clear hoq hgq hnq x0 x1 x2 x3 f0 f1 f2 f3; obtain ⟨⟨x0, x1, x2, x3⟩, -, -, -, -⟩ := bx4 Xq.out; obtain ⟨f0, f1, f2, f3⟩ := K1.out wq Bq.out)
     go_roundw
     case rel => exact ⟨i + 1, by omega, by go_num, by rw [HS.out], by rw [HS.out]; exact Oq.out, Bq.out⟩
     case measure => simp [intOf]; omega
  ·obtain rfl : i = n := by omega
   have hl4 : decide ((i : Int) < (i : Int)) = false := decide_eq_false (by omega)
   have hfin := foT_all (x := x) (S := S) (i := i) (by have := N.out; omega)
   have hle := foT_len x S i (by have := N.out; omega)
   rw [PF.out] at hfin
   obtain ⟨D, d, hD⟩ : ∃ D d, foT x S i = (D, d) := ⟨_, _, rfl⟩
   rw [hD] at ho hle hfin ⊢
   dsimp only at ho hle hfin ⊢
   obtain ⟨ao, co, rfl, -, -⟩ := owT_form ho
   obtain ⟨m, hm⟩ : ∃ m, m = D.length := ⟨_, rfl⟩
   rw [← hm] at ho hle ⊢
   have HO := Lh ho
   have HB := Lh hB
   have HM := Lh hm
   have HLE : Hid (m ≤ 2000000) := by show _ ≤ _; omega
   clear ho hB hm hle hD
   cases d
   ·rw [if_neg (by decide)] at hfin
    have HF := Lh hfin
    clear hfin
    have HAp := Lh (bel_al wr (.cells #[.int .u64 (x.key : Int), .int .u32 (x.ck : Int), .int .i64 x.off, .int .i64 x.sz] 56))
    have HEp := Lh (it_one OKX.out (heap_alloc_new wr (.cells #[.int .u64 (x.key : Int), .int .u32 (x.ck : Int), .int .i64 x.off, .int .i64 x.sz] 56)))
    have HLp : Hid (D.length + [x].length ≤ 100000000) := by show _ ≤ _; have := HM.out; have := HLE.out; simp; omega
    go_wp2_with (at_builtin; refine app_it (dst := some 52) ?_ ?_ (owT_below HO.out HAp.out) HEp.out HLp.out (by have h1 := HB.out.size; have h2 := HAp.out.size; omega) ?_; exact rfl; exact rfl; intro vp wp hop hgp; have Bp := Lh (below_grownT (bt HB.out HAp.out) hgp (owT_below HO.out HAp.out) (by have h1 := HB.out.size; have h2 := HAp.out.size; omega) (Nat.le_refl _)); have Op := Lh hop; obtain ⟨ap, cp, hvp, -, -⟩ := owT_form hop; obtain ⟨np, hnp⟩ : ∃ q, q = (D ++ [x]).length := ⟨_, rfl⟩; rw [← hnp] at hvp; subst hvp; clear hop hgp hnp)
    go_ret
    exact ⟨⟨_, rfl, by rw [← HF.out]; exact owT_base Op.out HSZ.out⟩, bt BW.out Bp.out⟩
   ·rw [if_pos rfl] at hfin
    have HF := Lh hfin
    clear hfin
    go_wp2
    go_ret
    exact ⟨⟨_, rfl, by rw [← HF.out]; exact owT_base HO.out HSZ.out⟩, bt BW.out HB.out⟩
/-- The slice value v reads as the numbers G. -/
def Su (w : World) (v : Value) (G : List Nat) : Prop :=
 (∀ g ∈ G, g < 18446744073709551616) ∧ ∃ a cap, v = .slice a G.length cap ∧ G.length ≤ cap ∧ cap ≤ maxLen ∧ (0 < G.length → ∃ b off, a = some ⟨b, off, none⟩ ∧ ∀ k, k < G.length → w.cell? ⟨b, off + k, none⟩ = some (.int .u64 ((G.getD k 0 : Nat) : Int)))
theorem su_form {w : World} {v : Value} {G : List Nat} (h : Su w v G) : ∃ a cap, v = .slice a G.length cap ∧ G.length ≤ cap ∧ cap ≤ maxLen := by
 obtain ⟨_, a, cap, h1, h2, h3, _⟩ := h
 exact ⟨a, cap, h1, h2, h3⟩
theorem su_cells {w : World} {v : Value} {G : List Nat} (h : Su w v G) (hp : 0 < G.length) : ∃ b off cap, v = .slice (some ⟨b, off, none⟩) G.length cap ∧ G.length ≤ cap ∧ cap ≤ maxLen ∧ ∀ k, k < G.length → w.cell? ⟨b, off + k, none⟩ = some (.int .u64 ((G.getD k 0 : Nat) : Int)) := by
 obtain ⟨_, a, cap, h1, h2, h3, h4⟩ := h
 obtain ⟨b, off, rfl, hc⟩ := h4 hp
 exact ⟨b, off, cap, h1, h2, h3, hc⟩
end Go.Proofs.YtbmlpafbdbhaiaaGreatDoor.Gf
