/- What is proved here: the plain mathematics of lists of items as maps. No program text. -/
import Derived.Test.YtihjfnlimdcmkaaDoorM6
namespace Go.Proofs.YtihjfnlimdcmkaaDoor.Gf
open Go Go.Proofs.YtihjfnlimdcmkaaDoor.Crc

/-- An item. -/
structure Itm where
  key : Nat
  ck : Nat
  off : Int
  sz : Int
theorem itm_ext {x y : Itm} (h1 : x.key = y.key) (h2 : x.ck = y.ck) (h3 : x.off = y.off) (h4 : x.sz = y.sz) : x = y := by
  cases x; cases y; simp_all
def Asc (L : List Itm) : Prop := L.Pairwise fun a b => a.key < b.key
theorem asc_cons {x : Itm} {L : List Itm} : Asc (x :: L) ↔ (∀ y ∈ L, x.key < y.key) ∧ Asc L := List.pairwise_cons
/-- The last item with a key. -/
def lk (L : List Itm) (k : Nat) : Option Itm := L.reverse.find? fun x => x.key == k
theorem lk_nil (k : Nat) : lk [] k = none := rfl
theorem lk_snoc (L : List Itm) (x : Itm) (k : Nat) : lk (L ++ [x]) k = if x.key = k then some x else lk L k := by
  unfold lk
  rw [List.reverse_append, List.reverse_singleton, List.singleton_append, List.find?_cons]
  by_cases h : x.key = k
  · rw [if_pos h, beq_iff_eq.2 h]
  · rw [if_neg h, beq_false_of_ne h]
theorem lk_some {L : List Itm} {k : Nat} {x : Itm} (h : lk L k = some x) : x ∈ L ∧ x.key = k := by
  unfold lk at h
  exact ⟨List.mem_reverse.1 (List.mem_of_find?_eq_some h), by simpa using List.find?_some h⟩
theorem lk_none {L : List Itm} {k : Nat} : lk L k = none ↔ ∀ x ∈ L, x.key ≠ k := by
  unfold lk
  rw [List.find?_eq_none]
  simp
theorem asc_inj {L : List Itm} (h : Asc L) : ∀ {x y : Itm}, x ∈ L → y ∈ L → x.key = y.key → x = y := by
  induction L with
  | nil => intro x y hx; cases hx
  | cons a L ih =>
    obtain ⟨h1, h2⟩ := asc_cons.1 h
    intro x y hx hy he
    rcases List.mem_cons.1 hx with ex | mx
    · rcases List.mem_cons.1 hy with ey | my
      · rw [ex, ey]
      · have := h1 _ my; rw [ex] at he; omega
    · rcases List.mem_cons.1 hy with ey | my
      · have := h1 _ mx; rw [ey] at he; omega
      · exact ih h2 mx my he
theorem asc_lk {L : List Itm} (h : Asc L) {k : Nat} {x : Itm} : lk L k = some x ↔ x ∈ L ∧ x.key = k := by
  refine ⟨lk_some, fun ⟨hx, hk⟩ => ?_⟩
  cases he : lk L k with
  | none => exact absurd hk (lk_none.1 he x hx)
  | some y =>
    obtain ⟨hy, hky⟩ := lk_some he
    rw [asc_inj h hy hx (by omega)]
theorem opt_ext {α : Type} {a b : Option α} (h : ∀ x, a = some x ↔ b = some x) : a = b := by
  cases a with
  | none =>
    cases b with
    | none => rfl
    | some y => exact absurd ((h y).2 rfl) (by simp)
  | some x => exact ((h x).1 rfl).symm
theorem asc_ext' : ∀ {L M : List Itm}, Asc L → Asc M → (∀ x, x ∈ L ↔ x ∈ M) → L = M
  | [], [], _, _, _ => rfl
  | [], y :: M, _, _, h => absurd ((h y).2 (by simp)) (by simp)
  | x :: L, [], _, _, h => absurd ((h x).1 (by simp)) (by simp)
  | x :: L, y :: M, hL, hM, h => by
    obtain ⟨l1, l2⟩ := asc_cons.1 hL
    obtain ⟨m1, m2⟩ := asc_cons.1 hM
    have hxy : x = y := by
      rcases List.mem_cons.1 ((h x).1 (by simp)) with e | e
      · exact e
      · rcases List.mem_cons.1 ((h y).2 (by simp)) with e2 | e2
        · exact e2.symm
        · have := m1 _ e; have := l1 _ e2; omega
    subst hxy
    rw [asc_ext' l2 m2 fun z => ?_]
    constructor
    · intro hz
      rcases List.mem_cons.1 ((h z).1 (by simp [hz])) with e | e
      · subst e; have := l1 _ hz; omega
      · exact e
    · intro hz
      rcases List.mem_cons.1 ((h z).2 (by simp [hz])) with e | e
      · subst e; have := m1 _ hz; omega
      · exact e
theorem asc_ext {L M : List Itm} (hL : Asc L) (hM : Asc M) (h : ∀ k, lk L k = lk M k) : L = M :=
  asc_ext' hL hM fun x => by
    have e := h x.key
    constructor
    · intro hx
      rw [(asc_lk hL).2 ⟨hx, rfl⟩] at e
      exact (lk_some e.symm).1
    · intro hx
      rw [(asc_lk hM).2 ⟨hx, rfl⟩] at e
      exact (lk_some e).1
/-- The list with x in its place. -/
def insL (x : Itm) : List Itm → List Itm
  | [] => [x]
  | y :: r => if y.key < x.key then y :: insL x r else if y.key = x.key then x :: r else x :: y :: r
theorem mem_insL {x : Itm} : ∀ {L : List Itm}, Asc L → ∀ z, z ∈ insL x L ↔ z = x ∨ (z ∈ L ∧ z.key ≠ x.key)
  | [], _, z => by simp [insL]
  | y :: r, h, z => by
    obtain ⟨h1, h2⟩ := asc_cons.1 h
    unfold insL
    by_cases c1 : y.key < x.key
    · rw [if_pos c1, List.mem_cons, mem_insL h2, List.mem_cons]
      constructor
      · rintro (rfl | rfl | ⟨h3, h4⟩)
        · exact Or.inr ⟨Or.inl rfl, by omega⟩
        · exact Or.inl rfl
        · exact Or.inr ⟨Or.inr h3, h4⟩
      · rintro (rfl | ⟨rfl | h3, h4⟩)
        · exact Or.inr (Or.inl rfl)
        · exact Or.inl rfl
        · exact Or.inr (Or.inr ⟨h3, h4⟩)
    · rw [if_neg c1]
      by_cases c2 : y.key = x.key
      · rw [if_pos c2, List.mem_cons, List.mem_cons]
        constructor
        · rintro (rfl | h3)
          · exact Or.inl rfl
          · exact Or.inr ⟨Or.inr h3, by have := h1 _ h3; omega⟩
        · rintro (rfl | ⟨rfl | h3, h4⟩)
          · exact Or.inl rfl
          · exact absurd c2 h4
          · exact Or.inr h3
      · rw [if_neg c2, List.mem_cons, List.mem_cons]
        constructor
        · rintro (rfl | rfl | h3)
          · exact Or.inl rfl
          · exact Or.inr ⟨Or.inl rfl, c2⟩
          · exact Or.inr ⟨Or.inr h3, by have := h1 _ h3; omega⟩
        · rintro (rfl | ⟨rfl | h3, h4⟩)
          · exact Or.inl rfl
          · exact Or.inr (Or.inl rfl)
          · exact Or.inr (Or.inr h3)
theorem asc_insL {x : Itm} : ∀ {L : List Itm}, Asc L → Asc (insL x L)
  | [], _ => asc_cons.2 ⟨by simp, List.Pairwise.nil⟩
  | y :: r, h => by
    obtain ⟨h1, h2⟩ := asc_cons.1 h
    unfold insL
    by_cases c1 : y.key < x.key
    · rw [if_pos c1]
      refine asc_cons.2 ⟨fun z hz => ?_, asc_insL h2⟩
      rcases (mem_insL h2 z).1 hz with rfl | ⟨h3, -⟩
      · exact c1
      · exact h1 _ h3
    · rw [if_neg c1]
      by_cases c2 : y.key = x.key
      · rw [if_pos c2]
        exact asc_cons.2 ⟨fun z hz => by have := h1 _ hz; omega, h2⟩
      · rw [if_neg c2]
        refine asc_cons.2 ⟨fun z hz => ?_, h⟩
        rcases List.mem_cons.1 hz with rfl | h3
        · omega
        · have := h1 _ h3; omega
theorem lk_insL {x : Itm} {L : List Itm} (h : Asc L) (k : Nat) : lk (insL x L) k = if x.key = k then some x else lk L k := by
  refine opt_ext fun z => ?_
  rw [asc_lk (asc_insL h), mem_insL h]
  by_cases c : x.key = k
  · rw [if_pos c]
    simp only [Option.some.injEq]
    constructor
    · rintro ⟨rfl | ⟨_, h4⟩, h5⟩
      · rfl
      · omega
    · rintro rfl
      exact ⟨Or.inl rfl, c⟩
  · rw [if_neg c, asc_lk h]
    constructor
    · rintro ⟨rfl | ⟨h3, _⟩, h5⟩
      · exact absurd h5 c
      · exact ⟨h3, h5⟩
    · rintro ⟨h3, h5⟩
      exact ⟨Or.inr ⟨h3, by omega⟩, h5⟩
/-- The items in ascending order of keys, of each key the last one. -/
def sortL (L : List Itm) : List Itm := L.foldl (fun o x => insL x o) []
theorem sortL_snoc (L : List Itm) (x : Itm) : sortL (L ++ [x]) = insL x (sortL L) := by simp [sortL]
theorem listRev {P : List Itm → Prop} (h0 : P []) (h1 : ∀ l b, P l → P (l ++ [b])) (l : List Itm) : P l := by
  rw [← List.reverse_reverse l]
  induction l.reverse with
  | nil => exact h0
  | cons b m ih => rw [List.reverse_cons]; exact h1 _ _ ih
theorem asc_sortL : ∀ (L : List Itm), Asc (sortL L) := listRev List.Pairwise.nil fun l b h => by rw [sortL_snoc]; exact asc_insL h
theorem lk_sortL (k : Nat) : ∀ (L : List Itm), lk (sortL L) k = lk L k := listRev rfl fun l b h => by rw [sortL_snoc, lk_insL (asc_sortL l), lk_snoc, h]
theorem sort_asc {L : List Itm} (h : Asc L) : sortL L = L := asc_ext (asc_sortL L) h fun k => lk_sortL k L
theorem mem_sortL : ∀ (L : List Itm) (z : Itm), z ∈ sortL L → z ∈ L := listRev (fun _ h => h) fun l b ih z hz => by
  rw [sortL_snoc] at hz
  rcases (mem_insL (asc_sortL l) z).1 hz with rfl | ⟨h, -⟩
  · simp
  · exact List.mem_append_left _ (ih z h)
theorem length_insL (x : Itm) : ∀ (L : List Itm), (insL x L).length ≤ L.length + 1
  | [] => by simp [insL]
  | y :: r => by
    have := length_insL x r
    unfold insL
    split
    · simp; omega
    · split <;> simp
theorem length_sortL : ∀ (L : List Itm), (sortL L).length ≤ L.length := listRev (Nat.le_refl _) fun l b ih => by
  rw [sortL_snoc, List.length_append, List.length_singleton]
  exact Nat.le_trans (length_insL _ _) (by omega)
/-- How many keys stand before key. -/
def cntL (key : Nat) : List Itm → Nat
  | [] => 0
  | y :: r => if y.key < key then cntL key r + 1 else 0
def rstL (key : Nat) : List Itm → List Itm
  | [] => []
  | y :: r => if y.key = key then r else y :: r
theorem cntL_le (key : Nat) : ∀ (L : List Itm), cntL key L ≤ L.length
  | [] => Nat.le_refl _
  | y :: r => by
    have := cntL_le key r
    unfold cntL
    split
    · simp; omega
    · simp
theorem insL_split (x : Itm) : ∀ (L : List Itm), insL x L = L.take (cntL x.key L) ++ x :: rstL x.key (L.drop (cntL x.key L))
  | [] => rfl
  | y :: r => by
    unfold insL cntL
    by_cases c1 : y.key < x.key
    · rw [if_pos c1, if_pos c1, List.take_succ_cons, List.drop_succ_cons, List.cons_append, ← insL_split x r]
    · rw [if_neg c1, if_neg c1, List.take_zero, List.drop_zero, List.nil_append]
      by_cases c2 : y.key = x.key
      · rw [if_pos c2, show rstL x.key (y :: r) = r from if_pos c2]
      · rw [if_neg c2, show rstL x.key (y :: r) = y :: r from if_neg c2]
/-- Where the count stands: all before are smaller, and the next one is not. -/
theorem cntL_spec (key : Nat) : ∀ (L : List Itm) (j : Nat), j ≤ L.length → (∀ i, (h : i < L.length) → i < j → L[i].key < key) → ((h : j < L.length) → ¬ L[j].key < key) → cntL key L = j
  | [], j, hj, _, _ => by simp at hj; simp [cntL, hj]
  | y :: r, 0, _, _, h => by
    have h3 : ¬ y.key < key := h (by simp)
    unfold cntL
    rw [if_neg h3]
  | y :: r, j + 1, hj, h1, h2 => by
    unfold cntL
    have h3 : y.key < key := h1 0 (by simp) (by omega)
    rw [if_pos h3]
    rw [cntL_spec key r j (by simpa using hj) (fun i hi hij => h1 (i + 1) (by simpa using hi) (by omega)) (fun h => h2 (by simpa using h))]
/-- One round of Put. -/
def stp (x : Itm) (s : List Itm × Bool) (y : Itm) : List Itm × Bool :=
  let t := if s.2 = false ∧ x.key ≤ y.key then (s.1 ++ [x], true) else s
  if y.key = x.key then t else (t.1 ++ [y], t.2)
def putF (x : Itm) (S : List Itm) : List Itm := let s := S.foldl (stp x) ([], false); if s.2 then s.1 else s.1 ++ [x]
theorem stp_done (x : Itm) : ∀ (S : List Itm) (A : List Itm), (∀ y ∈ S, y.key ≠ x.key) → S.foldl (stp x) (A, true) = (A ++ S, true)
  | [], A, _ => by simp
  | y :: S, A, h => by
    rw [List.foldl_cons]
    have e : stp x (A, true) y = (A ++ [y], true) := by
      unfold stp
      simp [h y (by simp)]
    rw [e, stp_done x S _ fun z hz => h z (by simp [hz])]
    simp
theorem stp_all (x : Itm) : ∀ (S : List Itm) (A : List Itm), Asc S → (let s := S.foldl (stp x) (A, false); if s.2 then s.1 else s.1 ++ [x]) = A ++ insL x S
  | [], A, _ => by simp [insL]
  | y :: S, A, h => by
    obtain ⟨h1, h2⟩ := asc_cons.1 h
    rw [List.foldl_cons]
    unfold insL
    by_cases c1 : y.key < x.key
    · have e : stp x (A, false) y = (A ++ [y], false) := by
        unfold stp
        simp [show ¬ x.key ≤ y.key by omega, show ¬ y.key = x.key by omega]
      rw [e, if_pos c1, stp_all x S _ h2]
      simp
    · rw [if_neg c1]
      by_cases c2 : y.key = x.key
      · have e : stp x (A, false) y = (A ++ [x], true) := by
          unfold stp
          simp [c2]
        rw [e, if_pos c2, stp_done x S _ fun z hz => by have := h1 _ hz; omega]
        simp
      · have e : stp x (A, false) y = (A ++ [x] ++ [y], true) := by
          unfold stp
          simp [show x.key ≤ y.key by omega, c2]
        rw [e, if_neg c2, stp_done x S _ fun z hz => by have := h1 _ hz; omega]
        simp
theorem putF_eq (x : Itm) {S : List Itm} (h : Asc S) : putF x S = insL x S := by
  have := stp_all x S [] h
  simpa [putF] using this
def putL (L : List Itm) (x : Itm) : List Itm := insL x (sortL L)
def delL (k : Nat) (S : List Itm) : List Itm := S.filter fun x => x.key != k
def dropL (L : List Itm) (k : Nat) : List Itm := delL k (sortL L)
theorem asc_delL {S : List Itm} (k : Nat) (h : Asc S) : Asc (delL k S) := List.Pairwise.filter _ h
theorem lk_delL {S : List Itm} (h : Asc S) (k j : Nat) : lk (delL k S) j = if j = k then none else lk S j := by
  refine opt_ext fun z => ?_
  rw [asc_lk (asc_delL k h)]
  unfold delL
  rw [List.mem_filter]
  simp only [bne_iff_ne, ne_eq]
  by_cases c : j = k
  · rw [if_pos c]
    constructor
    · rintro ⟨⟨_, h3⟩, h4⟩; omega
    · intro h; cases h
  · rw [if_neg c, asc_lk h]
    constructor
    · rintro ⟨⟨h2, _⟩, h4⟩; exact ⟨h2, h4⟩
    · rintro ⟨h2, h4⟩; exact ⟨⟨h2, by omega⟩, h4⟩
def mergeL (old fresh : List Itm) (gone : List Nat) : List Itm := (sortL fresh).foldl (fun o x => insL x o) (gone.foldl (fun o g => delL g o) (sortL old))
theorem asc_gone : ∀ (gone : List Nat) (S : List Itm), Asc S → Asc (gone.foldl (fun o g => delL g o) S)
  | [], _, h => h
  | g :: gone, _, h => asc_gone gone _ (asc_delL g h)
theorem lk_gone (k : Nat) : ∀ (gone : List Nat) (S : List Itm), Asc S → lk (gone.foldl (fun o g => delL g o) S) k = if k ∈ gone then none else lk S k
  | [], _, _ => by simp
  | g :: gone, S, h => by
    rw [List.foldl_cons, lk_gone k gone _ (asc_delL g h), lk_delL h]
    by_cases c1 : k ∈ gone
    · simp [c1]
    · by_cases c2 : k = g <;> simp [c1, c2]
theorem asc_put : ∀ (F : List Itm) (S : List Itm), Asc S → Asc (F.foldl (fun o x => insL x o) S)
  | [], _, h => h
  | _ :: F, _, h => asc_put F _ (asc_insL h)
theorem lk_put (k : Nat) {S : List Itm} (h : Asc S) : ∀ (F : List Itm), lk (F.foldl (fun o x => insL x o) S) k = (match lk F k with | some x => some x | none => lk S k) := by
  refine listRev rfl fun l b ih => ?_
  rw [List.foldl_append, List.foldl_cons, List.foldl_nil, lk_insL (asc_put l S h), lk_snoc, ih]
  by_cases c : b.key = k
  · simp [c]
  · simp [c]
theorem asc_mergeL (old fresh : List Itm) (gone : List Nat) : Asc (mergeL old fresh gone) := asc_put _ _ (asc_gone _ _ (asc_sortL old))
theorem lk_mergeL (old fresh : List Itm) (gone : List Nat) (k : Nat) : lk (mergeL old fresh gone) k = (match lk fresh k with | some x => some x | none => if k ∈ gone then none else lk old k) := by
  unfold mergeL
  rw [lk_put k (asc_gone _ _ (asc_sortL old)), lk_sortL, lk_gone k gone _ (asc_sortL old), lk_sortL]
theorem mem_delL {k : Nat} {S : List Itm} {z : Itm} (h : z ∈ delL k S) : z ∈ S := (List.mem_filter.1 h).1
theorem mem_gone {z : Itm} : ∀ (gone : List Nat) (S : List Itm), z ∈ gone.foldl (fun o g => delL g o) S → z ∈ S
  | [], _, h => h
  | _ :: gone, _, h => mem_delL (mem_gone gone _ h)
theorem mem_put {z : Itm} : ∀ (F : List Itm) (S : List Itm), Asc S → z ∈ F.foldl (fun o x => insL x o) S → z ∈ F ∨ z ∈ S
  | [], _, _, h => Or.inr h
  | _ :: F, _, hs, h => by
    rcases mem_put F _ (asc_insL hs) h with h | h
    · exact Or.inl (by simp [h])
    · rcases (mem_insL hs z).1 h with rfl | ⟨h, -⟩
      · exact Or.inl (by simp)
      · exact Or.inr h
theorem mem_mergeL {old fresh : List Itm} {gone : List Nat} {z : Itm} (h : z ∈ mergeL old fresh gone) : z ∈ fresh ∨ z ∈ old := by
  rcases mem_put _ _ (asc_gone _ _ (asc_sortL old)) h with h | h
  · exact Or.inl (mem_sortL _ _ h)
  · exact Or.inr (mem_sortL _ _ (mem_gone _ _ h))
theorem mem_putL {L : List Itm} {x z : Itm} (h : z ∈ putL L x) : z = x ∨ z ∈ L := by
  rcases (mem_insL (asc_sortL L) z).1 h with rfl | ⟨h, -⟩
  · exact Or.inl rfl
  · exact Or.inr (mem_sortL _ _ h)
theorem mem_dropL {L : List Itm} {k : Nat} {z : Itm} (h : z ∈ dropL L k) : z ∈ L := mem_sortL _ _ (mem_delL h)
/-- An item is valid. -/
def okI (x : Itm) : Prop := 16 ≤ x.off ∧ x.off ≤ 1048576 ∧ x.off.tmod 8 = 0 ∧ 0 ≤ x.sz ∧ x.sz ≤ 4096
instance (x : Itm) : Decidable (okI x) := by unfold okI; infer_instance
def okT (L : List Itm) : Prop := (∀ x ∈ L, okI x) ∧ Asc L
instance (L : List Itm) : Decidable (okT L) := by unfold okT Asc; infer_instance
def z0 : Itm := ⟨0, 0, 0, 0⟩
theorem getT_mem {L : List Itm} {k : Nat} (h : k < L.length) : L.getD k z0 ∈ L := by
  simp [List.getD, h]
theorem okT_iff (L : List Itm) : okT L ↔ ∀ i, i < L.length → okI (L.getD i z0) ∧ (0 < i → (L.getD (i - 1) z0).key < (L.getD i z0).key) := by
  constructor
  · rintro ⟨h1, h2⟩ i hi
    refine ⟨h1 _ (getT_mem hi), fun h0 => ?_⟩
    have := List.pairwise_iff_getElem.1 h2 (i - 1) i (by omega) hi (by omega)
    simpa [List.getD, hi, show i - 1 < L.length by omega] using this
  · intro h
    refine ⟨fun x hx => ?_, ?_⟩
    · obtain ⟨i, hi, rfl⟩ := List.getElem_of_mem hx
      have := (h i hi).1
      simpa [List.getD, hi] using this
    · refine List.pairwise_iff_getElem.2 fun i j hi hj hij => ?_
      have step : ∀ d, (hd : i + 1 + d < L.length) → L[i].key < (L[i + 1 + d]).key := by
        intro d
        induction d with
        | zero =>
          intro hd
          have := (h (i + 1) hd).2 (by omega)
          have hd' : i + 1 < L.length := hd
          simpa [List.getD, hd', hi] using this
        | succ d ih =>
          intro hd
          have h1 := ih (by omega)
          have h2 := (h (i + 1 + (d + 1)) hd).2 (by omega)
          have hd1 : i + 1 + d < L.length := by omega
          have hd2 : i + 1 + (d + 1) < L.length := hd
          rw [show i + 1 + (d + 1) - 1 = i + 1 + d by omega] at h2
          have h3 : (L[i + 1 + d]).key < (L[i + 1 + (d + 1)]).key := by simpa [List.getD, hd1, hd2] using h2
          omega
      have := step (j - (i + 1)) (by omega)
      simpa [show i + 1 + (j - (i + 1)) = j by omega] using this
/-- What made makes of an item. -/
def fixI (x : Itm) : Itm := { x with off := 16 + 8 * (x.off % 4096), sz := x.sz % 4096 }
def madeL (L : List Itm) : List Itm := (sortL (L.take 40)).map fixI
theorem fix_ok (x : Itm) : okI (fixI x) := by
  unfold okI fixI
  have h1 := Int.emod_nonneg x.off (show (4096 : Int) ≠ 0 by decide)
  have h2 := Int.emod_lt_of_pos x.off (show (0 : Int) < 4096 by decide)
  have h3 := Int.emod_nonneg x.sz (show (4096 : Int) ≠ 0 by decide)
  have h4 := Int.emod_lt_of_pos x.sz (show (0 : Int) < 4096 by decide)
  dsimp only
  refine ⟨by omega, by omega, ?_, by omega, by omega⟩
  rw [Int.tmod_eq_emod_of_nonneg (by omega)]
  omega
theorem made_ok (L : List Itm) : okT (madeL L) := by
  refine ⟨fun x hx => ?_, ?_⟩
  · obtain ⟨y, -, rfl⟩ := List.mem_map.1 hx
    exact fix_ok y
  · refine List.pairwise_map.2 ?_
    exact asc_sortL (L.take 40)
theorem made_length (L : List Itm) : (madeL L).length ≤ 40 := by
  unfold madeL
  rw [List.length_map]
  refine Nat.le_trans (length_sortL _) ?_
  rw [List.length_take]
  omega
end Go.Proofs.YtihjfnlimdcmkaaDoor.Gf
