/- What is proved here: what layer 11 leans on, out of the older layers. -/
import Derived.Test.YtempgcnpfjhacaaB11
import Derived.OwnWalk
import Derived.IntWalk
import Derived.BigQuiet
import Derived.StillTailTactics
import Derived.Lib.SmallJoins
import Derived.Deep.Slices
import Derived.Deep.Fields
import Derived.ChangeSame
namespace Go.Proofs.Ytempgcnpfjhacaa.Gf
open Go Go.ChangeAt Go.ChangeShapes Go.Deep Go.Joins Go.Proofs.Ytempgcnpfjhacaa.By Go.Proofs.Ytempgcnpfjhacaa.Qt Go.RowKit Go.Sort Go.WideShapes
/-- An item. -/
structure Itm where
  key : Nat
  ck : Nat
  off : Int
  sz : Int
theorem itm_ext {x y : Itm} (h1 : x.key = y.key) (h2 : x.ck = y.ck) (h3 : x.off = y.off) (h4 : x.sz = y.sz) : x = y := by
  cases x; cases y; simp_all
def Asc (L : List Itm) : Prop := L.Pairwise fun a b => a.key < b.key
theorem asc_cons {x : Itm} {L : List Itm} : Asc (x :: L) ↔ (∀ y ∈ L, x.key < y.key) ∧ Asc L := List.pairwise_cons
/-- The last item with a key. -/
def lk (L : List Itm) (k : Nat) : Option Itm := L.reverse.find? fun x => x.key == k
theorem lk_snoc (L : List Itm) (x : Itm) (k : Nat) : lk (L ++ [x]) k = if x.key = k then some x else lk L k := by
  unfold lk
  rw [List.reverse_append, List.reverse_singleton, List.singleton_append, List.find?_cons]
  by_cases h : x.key = k
  · rw [if_pos h, beq_iff_eq.2 h]
  · rw [if_neg h, beq_false_of_ne h]
theorem lk_some {L : List Itm} {k : Nat} {x : Itm} (h : lk L k = some x) : x ∈ L ∧ x.key = k := by
  unfold lk at h
  exact ⟨List.mem_reverse.1 (List.mem_of_find?_eq_some h), by simpa using List.find?_some h⟩
theorem lk_none {L : List Itm} {k : Nat} : lk L k = none ↔ ∀ x ∈ L, x.key ≠ k := by
  unfold lk
  rw [List.find?_eq_none]
  simp
theorem asc_inj {L : List Itm} (h : Asc L) : ∀ {x y : Itm}, x ∈ L → y ∈ L → x.key = y.key → x = y := by
  induction L with
  | nil => intro x y hx; cases hx
  | cons a L ih =>
    obtain ⟨h1, h2⟩ := asc_cons.1 h
    intro x y hx hy he
    rcases List.mem_cons.1 hx with ex | mx
    · rcases List.mem_cons.1 hy with ey | my
      · rw [ex, ey]
      · have := h1 _ my; rw [ex] at he; omega
    · rcases List.mem_cons.1 hy with ey | my
      · have := h1 _ mx; rw [ey] at he; omega
      · exact ih h2 mx my he
theorem asc_lk {L : List Itm} (h : Asc L) {k : Nat} {x : Itm} : lk L k = some x ↔ x ∈ L ∧ x.key = k := by
  refine ⟨lk_some, fun ⟨hx, hk⟩ => ?_⟩
  cases he : lk L k with
  | none => exact absurd hk (lk_none.1 he x hx)
  | some y =>
    obtain ⟨hy, hky⟩ := lk_some he
    rw [asc_inj h hy hx (by omega)]
theorem opt_ext {α : Type} {a b : Option α} (h : ∀ x, a = some x ↔ b = some x) : a = b := by
  cases a with
  | none =>
    cases b with
    | none => rfl
    | some y => exact absurd ((h y).2 rfl) (by simp)
  | some x => exact ((h x).1 rfl).symm
theorem asc_ext' : ∀ {L M : List Itm}, Asc L → Asc M → (∀ x, x ∈ L ↔ x ∈ M) → L = M
  | [], [], _, _, _ => rfl
  | [], y :: M, _, _, h => absurd ((h y).2 (by simp)) (by simp)
  | x :: L, [], _, _, h => absurd ((h x).1 (by simp)) (by simp)
  | x :: L, y :: M, hL, hM, h => by
    obtain ⟨l1, l2⟩ := asc_cons.1 hL
    obtain ⟨m1, m2⟩ := asc_cons.1 hM
    have hxy : x = y := by
      rcases List.mem_cons.1 ((h x).1 (by simp)) with e | e
      · exact e
      · rcases List.mem_cons.1 ((h y).2 (by simp)) with e2 | e2
        · exact e2.symm
        · have := m1 _ e; have := l1 _ e2; omega
    subst hxy
    rw [asc_ext' l2 m2 fun z => ?_]
    constructor
    · intro hz
      rcases List.mem_cons.1 ((h z).1 (by simp [hz])) with e | e
      · subst e; have := l1 _ hz; omega
      · exact e
    · intro hz
      rcases List.mem_cons.1 ((h z).2 (by simp [hz])) with e | e
      · subst e; have := m1 _ hz; omega
      · exact e
theorem asc_ext {L M : List Itm} (hL : Asc L) (hM : Asc M) (h : ∀ k, lk L k = lk M k) : L = M :=
  asc_ext' hL hM fun x => by
    have e := h x.key
    constructor
    · intro hx
      rw [(asc_lk hL).2 ⟨hx, rfl⟩] at e
      exact (lk_some e.symm).1
    · intro hx
      rw [(asc_lk hM).2 ⟨hx, rfl⟩] at e
      exact (lk_some e).1
/-- The list with x in its place. -/
def insL (x : Itm) : List Itm → List Itm
  | [] => [x]
  | y :: r => if y.key < x.key then y :: insL x r else if y.key = x.key then x :: r else x :: y :: r
theorem mem_insL {x : Itm} : ∀ {L : List Itm}, Asc L → ∀ z, z ∈ insL x L ↔ z = x ∨ (z ∈ L ∧ z.key ≠ x.key)
  | [], _, z => by simp [insL]
  | y :: r, h, z => by
    obtain ⟨h1, h2⟩ := asc_cons.1 h
    unfold insL
    by_cases c1 : y.key < x.key
    · rw [if_pos c1, List.mem_cons, mem_insL h2, List.mem_cons]
      constructor
      · rintro (rfl | rfl | ⟨h3, h4⟩)
        · exact Or.inr ⟨Or.inl rfl, by omega⟩
        · exact Or.inl rfl
        · exact Or.inr ⟨Or.inr h3, h4⟩
      · rintro (rfl | ⟨rfl | h3, h4⟩)
        · exact Or.inr (Or.inl rfl)
        · exact Or.inl rfl
        · exact Or.inr (Or.inr ⟨h3, h4⟩)
    · rw [if_neg c1]
      by_cases c2 : y.key = x.key
      · rw [if_pos c2, List.mem_cons, List.mem_cons]
        constructor
        · rintro (rfl | h3)
          · exact Or.inl rfl
          · exact Or.inr ⟨Or.inr h3, by have := h1 _ h3; omega⟩
        · rintro (rfl | ⟨rfl | h3, h4⟩)
          · exact Or.inl rfl
          · exact absurd c2 h4
          · exact Or.inr h3
      · rw [if_neg c2, List.mem_cons, List.mem_cons]
        constructor
        · rintro (rfl | rfl | h3)
          · exact Or.inl rfl
          · exact Or.inr ⟨Or.inl rfl, c2⟩
          · exact Or.inr ⟨Or.inr h3, by have := h1 _ h3; omega⟩
        · rintro (rfl | ⟨rfl | h3, h4⟩)
          · exact Or.inl rfl
          · exact Or.inr (Or.inl rfl)
          · exact Or.inr (Or.inr h3)
theorem asc_insL {x : Itm} : ∀ {L : List Itm}, Asc L → Asc (insL x L)
  | [], _ => asc_cons.2 ⟨by simp, List.Pairwise.nil⟩
  | y :: r, h => by
    obtain ⟨h1, h2⟩ := asc_cons.1 h
    unfold insL
    by_cases c1 : y.key < x.key
    · rw [if_pos c1]
      refine asc_cons.2 ⟨fun z hz => ?_, asc_insL h2⟩
      rcases (mem_insL h2 z).1 hz with rfl | ⟨h3, -⟩
      · exact c1
      · exact h1 _ h3
    · rw [if_neg c1]
      by_cases c2 : y.key = x.key
      · rw [if_pos c2]
        exact asc_cons.2 ⟨fun z hz => by have := h1 _ hz; omega, h2⟩
      · rw [if_neg c2]
        refine asc_cons.2 ⟨fun z hz => ?_, h⟩
        rcases List.mem_cons.1 hz with rfl | h3
        · omega
        · have := h1 _ h3; omega
theorem lk_insL {x : Itm} {L : List Itm} (h : Asc L) (k : Nat) : lk (insL x L) k = if x.key = k then some x else lk L k := by
  refine opt_ext fun z => ?_
  rw [asc_lk (asc_insL h), mem_insL h]
  by_cases c : x.key = k
  · rw [if_pos c]
    simp only [Option.some.injEq]
    constructor
    · rintro ⟨rfl | ⟨_, h4⟩, h5⟩
      · rfl
      · omega
    · rintro rfl
      exact ⟨Or.inl rfl, c⟩
  · rw [if_neg c, asc_lk h]
    constructor
    · rintro ⟨rfl | ⟨h3, _⟩, h5⟩
      · exact absurd h5 c
      · exact ⟨h3, h5⟩
    · rintro ⟨h3, h5⟩
      exact ⟨Or.inr ⟨h3, by omega⟩, h5⟩
/-- The items in ascending order of keys, of each key the last one. -/
def sortL (L : List Itm) : List Itm := L.foldl (fun o x => insL x o) []
theorem sortL_snoc (L : List Itm) (x : Itm) : sortL (L ++ [x]) = insL x (sortL L) := by simp [sortL]
theorem listRev {P : List Itm → Prop} (h0 : P []) (h1 : ∀ l b, P l → P (l ++ [b])) (l : List Itm) : P l := by
  rw [← List.reverse_reverse l]
  induction l.reverse with
  | nil => exact h0
  | cons b m ih => rw [List.reverse_cons]; exact h1 _ _ ih
theorem asc_sortL : ∀ (L : List Itm), Asc (sortL L) := listRev List.Pairwise.nil fun l b h => by rw [sortL_snoc]; exact asc_insL h
theorem lk_sortL (k : Nat) : ∀ (L : List Itm), lk (sortL L) k = lk L k := listRev rfl fun l b h => by rw [sortL_snoc, lk_insL (asc_sortL l), lk_snoc, h]
theorem sort_asc {L : List Itm} (h : Asc L) : sortL L = L := asc_ext (asc_sortL L) h fun k => lk_sortL k L
theorem mem_sortL : ∀ (L : List Itm) (z : Itm), z ∈ sortL L → z ∈ L := listRev (fun _ h => h) fun l b ih z hz => by
  rw [sortL_snoc] at hz
  rcases (mem_insL (asc_sortL l) z).1 hz with rfl | ⟨h, -⟩
  · simp
  · exact List.mem_append_left _ (ih z h)
theorem length_insL (x : Itm) : ∀ (L : List Itm), (insL x L).length ≤ L.length + 1
  | [] => by simp [insL]
  | y :: r => by
    have := length_insL x r
    unfold insL
    split
    · simp; omega
    · split <;> simp
theorem length_sortL : ∀ (L : List Itm), (sortL L).length ≤ L.length := listRev (Nat.le_refl _) fun l b ih => by
  rw [sortL_snoc, List.length_append, List.length_singleton]
  exact Nat.le_trans (length_insL _ _) (by omega)
/-- How many keys stand before key. -/
def cntL (key : Nat) : List Itm → Nat
  | [] => 0
  | y :: r => if y.key < key then cntL key r + 1 else 0
theorem cntL_le (key : Nat) : ∀ (L : List Itm), cntL key L ≤ L.length
  | [] => Nat.le_refl _
  | y :: r => by
    have := cntL_le key r
    unfold cntL
    split
    · simp; omega
    · simp
/-- Where the count stands: all before are smaller, and the next one is not. -/
theorem cntL_spec (key : Nat) : ∀ (L : List Itm) (j : Nat), j ≤ L.length → (∀ i, (h : i < L.length) → i < j → L[i].key < key) → ((h : j < L.length) → ¬ L[j].key < key) → cntL key L = j
  | [], j, hj, _, _ => by simp at hj; simp [cntL, hj]
  | y :: r, 0, _, _, h => by
    have h3 : ¬ y.key < key := h (by simp)
    unfold cntL
    rw [if_neg h3]
  | y :: r, j + 1, hj, h1, h2 => by
    unfold cntL
    have h3 : y.key < key := h1 0 (by simp) (by omega)
    rw [if_pos h3]
    rw [cntL_spec key r j (by simpa using hj) (fun i hi hij => h1 (i + 1) (by simpa using hi) (by omega)) (fun h => h2 (by simpa using h))]
def delL (k : Nat) (S : List Itm) : List Itm := S.filter fun x => x.key != k
theorem asc_delL {S : List Itm} (k : Nat) (h : Asc S) : Asc (delL k S) := List.Pairwise.filter _ h
theorem lk_delL {S : List Itm} (h : Asc S) (k j : Nat) : lk (delL k S) j = if j = k then none else lk S j := by
  refine opt_ext fun z => ?_
  rw [asc_lk (asc_delL k h)]
  unfold delL
  rw [List.mem_filter]
  simp only [bne_iff_ne, ne_eq]
  by_cases c : j = k
  · rw [if_pos c]
    constructor
    · rintro ⟨⟨_, h3⟩, h4⟩; omega
    · intro h; cases h
  · rw [if_neg c, asc_lk h]
    constructor
    · rintro ⟨⟨h2, _⟩, h4⟩; exact ⟨h2, h4⟩
    · rintro ⟨h2, h4⟩; exact ⟨⟨h2, by omega⟩, h4⟩
def mergeL (old fresh : List Itm) (gone : List Nat) : List Itm := (sortL fresh).foldl (fun o x => insL x o) (gone.foldl (fun o g => delL g o) (sortL old))
theorem asc_gone : ∀ (gone : List Nat) (S : List Itm), Asc S → Asc (gone.foldl (fun o g => delL g o) S)
  | [], _, h => h
  | g :: gone, _, h => asc_gone gone _ (asc_delL g h)
theorem lk_gone (k : Nat) : ∀ (gone : List Nat) (S : List Itm), Asc S → lk (gone.foldl (fun o g => delL g o) S) k = if k ∈ gone then none else lk S k
  | [], _, _ => by simp
  | g :: gone, S, h => by
    rw [List.foldl_cons, lk_gone k gone _ (asc_delL g h), lk_delL h]
    by_cases c1 : k ∈ gone
    · simp [c1]
    · by_cases c2 : k = g <;> simp [c1, c2]
theorem asc_put : ∀ (F : List Itm) (S : List Itm), Asc S → Asc (F.foldl (fun o x => insL x o) S)
  | [], _, h => h
  | _ :: F, _, h => asc_put F _ (asc_insL h)
theorem lk_put (k : Nat) {S : List Itm} (h : Asc S) : ∀ (F : List Itm), lk (F.foldl (fun o x => insL x o) S) k = (match lk F k with | some x => some x | none => lk S k) := by
  refine listRev rfl fun l b ih => ?_
  rw [List.foldl_append, List.foldl_cons, List.foldl_nil, lk_insL (asc_put l S h), lk_snoc, ih]
  by_cases c : b.key = k
  · simp [c]
  · simp [c]
theorem asc_mergeL (old fresh : List Itm) (gone : List Nat) : Asc (mergeL old fresh gone) := asc_put _ _ (asc_gone _ _ (asc_sortL old))
theorem lk_mergeL (old fresh : List Itm) (gone : List Nat) (k : Nat) : lk (mergeL old fresh gone) k = (match lk fresh k with | some x => some x | none => if k ∈ gone then none else lk old k) := by
  unfold mergeL
  rw [lk_put k (asc_gone _ _ (asc_sortL old)), lk_sortL, lk_gone k gone _ (asc_sortL old), lk_sortL]
/-- An item is valid. -/
def okI (x : Itm) : Prop := 16 ≤ x.off ∧ x.off ≤ 1048576 ∧ x.off.tmod 8 = 0 ∧ 0 ≤ x.sz ∧ x.sz ≤ 4096
instance (x : Itm) : Decidable (okI x) := by unfold okI; infer_instance
def okT (L : List Itm) : Prop := (∀ x ∈ L, okI x) ∧ Asc L
instance (L : List Itm) : Decidable (okT L) := by unfold okT Asc; infer_instance
def z0 : Itm := ⟨0, 0, 0, 0⟩
theorem getT_mem {L : List Itm} {k : Nat} (h : k < L.length) : L.getD k z0 ∈ L := by
  simp [List.getD, h]
theorem infoT : (Try.prog.info? 35).map (fun i => (i.zero, i.size, i.bytes)) = some (some (.agg #[.int .u64 0, .int .u32 0, .int .i64 0, .int .i64 0]), 4, 32) := by kernel_rfl
theorem infoT4 : (Try.prog.info? 35).map (·.size) = some 4 := by kernel_rfl
def J64 (n : Int) : Prop := -9223372036854775808 ≤ n ∧ n ≤ 9223372036854775807
structure ItOk (x : Itm) : Prop where
  key : x.key < 18446744073709551616
  ck : x.ck < 4294967296
  off : J64 x.off
  sz : J64 x.sz
theorem z0_ok : ItOk z0 := ⟨by decide, by decide, by unfold J64; decide, by unfold J64; decide⟩
def itV (x : Itm) : List Value := [.int .u64 (x.key : Int), .int .u32 (x.ck : Int), .int .i64 x.off, .int .i64 x.sz]
/-- An item as a value. -/
def TV (x : Itm) : Value := .agg #[.int .u64 (x.key : Int), .int .u32 (x.ck : Int), .int .i64 x.off, .int .i64 x.sz]
def cellsT (L : List Itm) : List Value := L.flatMap itV
theorem cellsT_append (L M : List Itm) : cellsT (L ++ M) = cellsT L ++ cellsT M := by simp [cellsT]
theorem cellsT_cons (x : Itm) (L : List Itm) : cellsT (x :: L) = itV x ++ cellsT L := by simp [cellsT]
theorem cellsT_length : ∀ (L : List Itm), (cellsT L).length = L.length * 4
  | [] => rfl
  | x :: L => by rw [cellsT_cons, List.length_append, cellsT_length L, List.length_cons]; simp [itV]; omega
theorem cellsT_one : ∀ (L : List Itm), ∀ u ∈ cellsT L, u.oneCell' = true := fun L u hu => by
  simp only [cellsT, List.mem_flatMap] at hu
  obtain ⟨x, -, hx⟩ := hu
  simp only [itV, List.mem_cons, List.not_mem_nil, or_false] at hx
  rcases hx with rfl | rfl | rfl | rfl <;> rfl
theorem cellsT_at : ∀ (L : List Itm) (k j : Nat), k < L.length → j < 4 → (cellsT L)[k * 4 + j]? = (itV (L.getD k z0))[j]?
  | [], k, _, h, _ => by simp at h
  | x :: L, 0, j, _, hj => by
    rw [cellsT_cons, Nat.zero_mul, Nat.zero_add, List.getElem?_append_left (by simpa [itV] using hj)]
    rfl
  | x :: L, k + 1, j, h, hj => by
    have ih := cellsT_at L k j (by simpa using h) hj
    rw [cellsT_cons, List.getElem?_append_right (by simp [itV]; omega), show (k + 1) * 4 + j - (itV x).length = k * 4 + j by simp [itV]; omega, ih]
    rfl
theorem cellsT_drop : ∀ (L : List Itm) (p : Nat), (cellsT L).drop (p * 4) = cellsT (L.drop p)
  | [], p => by simp [cellsT]
  | x :: L, 0 => by simp
  | x :: L, p + 1 => by
    rw [cellsT_cons, List.drop_succ_cons, ← cellsT_drop L p, show (p + 1) * 4 = 4 + p * 4 by omega, ← List.drop_drop]
    rfl
theorem cellsT_take : ∀ (L : List Itm) (p : Nat), (cellsT L).take (p * 4) = cellsT (L.take p)
  | [], p => by simp [cellsT]
  | x :: L, 0 => by simp [cellsT]
  | x :: L, p + 1 => by
    rw [cellsT_cons, List.take_succ_cons, cellsT_cons, ← cellsT_take L p, show (p + 1) * 4 = 4 + p * 4 by omega]
    exact List.take_length_add_append (l₁ := itV x) (p * 4)
/-- The slice value v reads as the items L. -/
def It (w : World) (v : Value) (L : List Itm) : Prop :=
  (∀ x ∈ L, ItOk x) ∧ ∃ a cap, v = .slice a L.length cap ∧ L.length ≤ cap ∧ cap ≤ maxLen ∧ (0 < L.length → ∃ b off, a = some ⟨b, off, none⟩ ∧ ∀ j u, (cellsT L)[j]? = some u → w.cell? ⟨b, off + j, none⟩ = some u)
theorem it_nil (w : World) : It w (.slice none 0 0) [] := ⟨by simp, none, 0, rfl, Nat.le_refl _, by simp, fun h => by simp at h⟩
theorem it_form {w : World} {v : Value} {L : List Itm} (h : It w v L) : ∃ a cap, v = .slice a L.length cap ∧ L.length ≤ cap ∧ cap ≤ maxLen := by
  obtain ⟨_, a, cap, h1, h2, h3, _⟩ := h
  exact ⟨a, cap, h1, h2, h3⟩
theorem it_below {w w' : World} {v : Value} {L : List Itm} (h : It w v L) (hB : Below w.heap.size w w') : It w' v L := by
  obtain ⟨h0, a, cap, h1, h2, h3, h4⟩ := h
  refine ⟨h0, a, cap, h1, h2, h3, fun hp => ?_⟩
  obtain ⟨b, off, e, hc⟩ := h4 hp
  exact ⟨b, off, e, fun j u hu => (hB.cell (block_lt_of_cell (hc j u hu))).trans (hc j u hu)⟩
theorem getT_ok {L : List Itm} (h : ∀ x ∈ L, ItOk x) (k : Nat) : ItOk (L.getD k z0) := by
  by_cases hk : k < L.length
  · exact h _ (getT_mem hk)
  · rw [show L.getD k z0 = z0 by simp [List.getD, hk]]; exact z0_ok
/-- The four cells of an item. -/
structure C4 (w : World) (b o : Nat) (x : Itm) : Prop where
  c0 : w.cell? ⟨b, o, none⟩ = some (.int .u64 (x.key : Int))
  c1 : w.cell? ⟨b, o + 1, none⟩ = some (.int .u32 (x.ck : Int))
  c2 : w.cell? ⟨b, o + 2, none⟩ = some (.int .i64 x.off)
  c3 : w.cell? ⟨b, o + 3, none⟩ = some (.int .i64 x.sz)
theorem C4.below {w w' : World} {b o : Nat} {x : Itm} (h : C4 w b o x) (hB : Below w.heap.size w w') : C4 w' b o x :=
  ⟨(hB.cell (block_lt_of_cell h.c0)).trans h.c0, (hB.cell (block_lt_of_cell h.c1)).trans h.c1, (hB.cell (block_lt_of_cell h.c2)).trans h.c2, (hB.cell (block_lt_of_cell h.c3)).trans h.c3⟩
theorem it_cells {w : World} {v : Value} {L : List Itm} (h : It w v L) (hp : 0 < L.length) : ∃ b off cap, v = .slice (some ⟨b, off, none⟩) L.length cap ∧ L.length ≤ cap ∧ cap ≤ maxLen ∧ ∀ k, k < L.length → C4 w b (off + k * 4) (L.getD k z0) := by
  obtain ⟨_, a, cap, h1, h2, h3, h4⟩ := h
  obtain ⟨b, off, rfl, hc⟩ := h4 hp
  refine ⟨b, off, cap, h1, h2, h3, fun k hk => ?_⟩
  have f : ∀ j u, j < 4 → (itV (L.getD k z0))[j]? = some u → w.cell? ⟨b, off + (k * 4 + j), none⟩ = some u := fun j u hj hu => hc _ u (by rw [cellsT_at L k j hk hj]; exact hu)
  exact ⟨f 0 _ (by decide) rfl, by rw [Nat.add_assoc]; exact f 1 _ (by decide) rfl, by rw [Nat.add_assoc]; exact f 2 _ (by decide) rfl, by rw [Nat.add_assoc]; exact f 3 _ (by decide) rfl⟩
/-- A part of a list. -/
theorem it_cut {w : World} {b o n cap : Nat} {L : List Itm} (h : It w (.slice (some ⟨b, o, none⟩) n cap) L) (p c : Nat) (hpc : p + c ≤ L.length) : It w (.slice (some ⟨b, o + p * 4, none⟩) c (cap - p)) ((L.drop p).take c) := by
  obtain ⟨h0, a, cap', h1, h2, h3, h4⟩ := h
  obtain ⟨rfl, rfl, rfl⟩ : a = some ⟨b, o, none⟩ ∧ n = L.length ∧ cap' = cap := by simpa [eq_comm] using h1
  have hl : ((L.drop p).take c).length = c := by rw [List.length_take, List.length_drop]; omega
  refine ⟨fun x hx => h0 x (List.mem_of_mem_drop (List.mem_of_mem_take hx)), _, _, by rw [hl], by rw [hl]; omega, by omega, fun hp => ?_⟩
  rw [hl] at hp
  obtain ⟨b', o', e, hc⟩ := h4 (by omega)
  obtain ⟨rfl, rfl⟩ : b = b' ∧ o = o' := by simpa using e
  refine ⟨b, o + p * 4, rfl, fun j u hu => ?_⟩
  rw [Nat.add_assoc]
  refine hc _ u ?_
  rw [← cellsT_take, ← cellsT_drop] at hu
  rw [List.getElem?_take] at hu
  split at hu
  · rwa [List.getElem?_drop] at hu
  · cases hu
theorem it_empty {w : World} (a : Option Addr) (cap : Nat) (h : cap ≤ maxLen) : It w (.slice a 0 cap) [] := ⟨by simp, a, cap, rfl, Nat.zero_le _, h, fun h => by simp at h⟩
theorem it_one {w : World} {g : Nat} {x : Itm} {fr : Nat × Nat} (hx : ItOk x) (hg : w.heap[g]? = some (.cells #[.int .u64 (x.key : Int), .int .u32 (x.ck : Int), .int .i64 x.off, .int .i64 x.sz] 35 fr)) : It w (.slice (some ⟨g, 0, none⟩) 1 1) [x] := by
  refine ⟨by simpa using hx, _, _, rfl, Nat.le_refl _, by unfold maxLen; decide, fun _ => ⟨g, 0, rfl, fun j u hu => ?_⟩⟩
  rw [Nat.zero_add, cell_of_row w g j _ _ _ hg]
  simpa [cellsT, itV] using hu
/-- The slice v is the call's own and holds the items L. -/
def OwT (w : World) (base : Nat) (v : Value) (L : List Itm) : Prop := (∀ x ∈ L, ItOk x) ∧ w.ownsRow base 35 4 v L.length (cellsT L)
theorem owT_nil (w : World) (base : Nat) : OwT w base (.slice none 0 0) [] := ⟨by simp, World.ownsRow_nil _ _ _ _⟩
theorem owT_it {w : World} {base : Nat} {v : Value} {L : List Itm} (h : OwT w base v L) : It w v L := by
  obtain ⟨h0, _, ⟨rfl, h1⟩ | ⟨g, cap, cur, rfl, hg, hb, hn, hm, hsz, ht⟩⟩ := h
  · obtain rfl := List.eq_nil_of_length_eq_zero h1
    exact it_nil w
  · refine ⟨h0, _, _, rfl, hn, hm, fun _ => ⟨g, 0, rfl, fun j u hu => ?_⟩⟩
    rw [Nat.zero_add, cell_of_row w g j cur _ (0, 0) hb]
    rw [← ht, List.getElem?_take] at hu
    split at hu
    · simpa using hu
    · cases hu
theorem owT_form {w : World} {base : Nat} {v : Value} {L : List Itm} (h : OwT w base v L) : ∃ a cap, v = .slice a L.length cap ∧ L.length ≤ cap ∧ cap ≤ maxLen := it_form (owT_it h)
theorem owT_lt {w : World} {base : Nat} {v : Value} {L : List Itm} (h : OwT w base v L) : ∀ k, v.ownBlock = some k → base ≤ k ∧ k < w.heap.size := h.2.lt
theorem owT_keep {w w' : World} {base : Nat} {v : Value} {L : List Itm} (h : OwT w base v L) (hk : ∀ k, v.ownBlock = some k → w'.heap[k]? = w.heap[k]?) : OwT w' base v L := by
  obtain ⟨h0, h1, h2 | ⟨g, cap, cur, rfl, hg, hb, h3⟩⟩ := h
  · exact ⟨h0, h1, Or.inl h2⟩
  · exact ⟨h0, h1, Or.inr ⟨g, cap, cur, rfl, hg, (hk g rfl).trans hb, h3⟩⟩
theorem owT_below {w w' : World} {base : Nat} {v : Value} {L : List Itm} (h : OwT w base v L) (hB : Below w.heap.size w w') : OwT w' base v L := owT_keep h fun k hk => hB.block _ (owT_lt h k hk).2
/-- append of items. -/
theorem run_app_it {W : World} {base : Nat} {v y : Value} {L M : List Itm} (ty : TypeId) (hv : OwT W base v L) (hx : It W y M) (hlm : L.length + M.length ≤ 100000000) (hb : base ≤ W.heap.size) :
    ∃ v' w', (Builtin.append_ #[41, 41] ty #[v, y]).run Try.prog W = .ok v' w' ∧ OwT w' base v' (L ++ M) ∧ W.grownBy w' v.ownBlock := by
  obtain ⟨i, hi, hz0, hz1, hz2⟩ := info_parts infoT
  obtain ⟨hl, hown⟩ := hv
  obtain ⟨hm, a, cp, rfl, hcp, hcm, hcell⟩ := hx
  have hall : ∀ x ∈ L ++ M, ItOk x := fun x hx => (List.mem_append.1 hx).elim (hl x) (hm x)
  have some_case : ∀ (a : Addr), (∀ j u, (cellsT M)[j]? = some u → W.cell? (a.add j) = some u) →
      ∃ v' w', (Builtin.append_ #[41, 41] ty #[v, .slice (some a) M.length cp]).run Try.prog W = .ok v' w' ∧ OwT w' base v' (L ++ M) ∧ W.grownBy w' v.ownBlock := fun a hc => by
    obtain ⟨v', w', hr, ho, hg, _⟩ := run_append_own (P := Try.prog) W base 41 ty 35 i _ 4 32 Try.underlying41 hi hz0 hz1 hz2 rfl (by decide) _ _ _ hown a M.length cp (cellsT M) (cellsT_length M) hc (cellsT_one M) (by unfold maxLen; omega) (by omega) hb
    exact ⟨v', w', hr, ⟨hall, by rw [List.length_append, cellsT_append]; exact ho⟩, hg⟩
  cases a with
  | some a =>
    by_cases hp : 0 < M.length
    · obtain ⟨b, off, e, hc⟩ := hcell hp
      obtain rfl : a = ⟨b, off, none⟩ := by simpa using e
      exact some_case _ fun j u hu => by rw [add_none]; exact hc j u hu
    · obtain rfl : M = [] := List.eq_nil_of_length_eq_zero (by omega)
      exact some_case a fun j u hu => by simp [cellsT] at hu
  | none =>
    have h0 : M = [] := by
      by_cases hp : 0 < M.length
      · obtain ⟨b, off, e, _⟩ := hcell hp
        cases e
      · exact List.eq_nil_of_length_eq_zero (by omega)
    subst h0
    have hsame : W.grownBy W v.ownBlock := ⟨rfl, rfl, rfl, Nat.le_refl _, fun _ _ _ => rfl⟩
    rcases hown.2 with ⟨rfl, h0⟩ | ⟨g', cap, cur, rfl, hg, hbk, hn, hcm, hsz, ht⟩
    · obtain rfl := List.eq_nil_of_length_eq_zero h0
      refine ⟨.slice none 0 0, W, ?_, owT_nil W base, hsame⟩
      simp [Builtin.append_, run_underlying Try.underlying41, sizeOf, typeInfo, hi, Builtin.lenOf, Builtin.firstCells]
    · refine ⟨_, W, ?_, by rw [List.append_nil]; exact ⟨hl, hown⟩, hsame⟩
      simp [Builtin.append_, run_underlying Try.underlying41, sizeOf, typeInfo, hi, Builtin.lenOf, Builtin.firstCells, loadCells, storeCells, hn]
theorem wp_app_it {dst : Option Tmp} {s x : Operand} {pos : String} {after : Array Edge} {ty : TypeId} {gd : Option (Nat × Bool)} {a : Act} {W : World} {K : Act → World → Prop} {Q : Exit → Act → World → Prop}
    {base : Nat} {v y : Value} {L M : List Itm} (hs : a.eval s = v) (hy : a.eval x = y) (hv : OwT W base v L) (hx : It W y M) (hlm : L.length + M.length ≤ 100000000) (hb : base ≤ W.heap.size)
    (h : ∀ v' w', OwT w' base v' (L ++ M) → W.grownBy w' v.ownBlock → K (a.put dst v') w') : Oper.wp Try.prog ⟨dst, .call { callee := .builtin .append, args := #[s, x], argTypes := #[41, 41] }, ty, pos, after, gd⟩ a W K Q := by
  obtain ⟨v', w', hr, h2, h3⟩ := run_app_it ty hv hx hlm hb
  unfold Oper.wp execOp
  simp only [resolve, invoke, builtin, Sem.run_bind, Sem.run_pure, Result.andThen_ok, List.map_toArray, List.map_cons, List.map_nil, hs, hy, hr]
  exact h v' w' h2 h3
theorem app_it {ops : Array Oper} {rest : List Oper} {dst : Option Tmp} {s x : Operand} {pos : String} {after : Array Edge} {ty : TypeId} {a : Act} {W : World} {Q : Exit → Act → World → Prop}
    {base : Nat} {v y : Value} {L M : List Itm} (hs : a.eval s = v) (hy : a.eval x = y) (hv : OwT W base v L) (hx : It W y M) (hlm : L.length + M.length ≤ 100000000) (hb : base ≤ W.heap.size)
    (h : ∀ v' w', OwT w' base v' (L ++ M) → W.grownBy w' v.ownBlock → wpList Try.prog ops Q rest (a.put dst v') w') : wpList Try.prog ops Q (⟨dst, .call { callee := .builtin .append, args := #[s, x], argTypes := #[41, 41] }, ty, pos, after, none⟩ :: rest) a W :=
  wpList_plain rfl fun _ hK => wp_app_it hs hy hv hx hlm hb fun v' w' h2 h3 => hK _ _ (h v' w' h2 h3)
/-- What stays of a world behind an append. -/
theorem below_grownT {B : Nat} {a w w' : World} {base : Nat} {v : Value} {L : List Itm} (h : Below B a w) (hg : w.grownBy w' v.ownBlock) (ho : OwT w base v L) (hB : B ≤ w.heap.size) (hb : B ≤ base) : Below B a w' :=
  h.grown hg hB (fun k hk => Nat.le_trans hb (owT_lt ho k hk).1)
theorem itm_iff {x y : Itm} : x = y ↔ x.key = y.key ∧ x.ck = y.ck ∧ x.off = y.off ∧ x.sz = y.sz :=
  ⟨fun h => by subst h; exact ⟨rfl, rfl, rfl, rfl⟩, fun ⟨h1, h2, h3, h4⟩ => itm_ext h1 h2 h3 h4⟩
instance : DecidableEq Itm := fun _ _ => decidable_of_iff _ itm_iff.symm
theorem regrown_bel {P : Program} {f : FuncId} {args : Array Value} {w : World} {v : Value} (h : ∀ w', Below w.heap.size w w' → Calls P f args w' fun e w'' => e = .returned v ∧ Below w'.heap.size w' w'') : ∀ d os, Calls P f args (grow (redrawn w d) os) fun e w'' => e = .returned v ∧ ∃ p : Regrown, w'' = grow (redrawn w p.d) p.os := fun d os => Calls.regrown_of (h _ (below_regrown w d os))
theorem results_rt {P : Program} {fn : Func} {p q : Tmp} {S : TypeId} (h : fn.results = #[.cell p S, .tmp q]) (tmps : Array Value) (w : World) (g : Nat) (cs : Array Value) {d : TypeDesc}
    (hp : tmps.getD p undef = .pointer (some ⟨g, 0, none⟩)) (hg : w.heap[g]? = some (.cells cs S (0, 0)))
    (hu : P.underlying S = some d) (hd : (match d with | .struct _ | .array _ _ => true | _ => false) = true) (hi : (P.info? S).map (·.size) = some cs.size) :
    (results fn tmps).run P w = .ok (.tuple #[.agg cs, tmps.getD q undef]) w := by
  have hp' : tmps[p]?.getD undef = .pointer (some ⟨g, 0, none⟩) := by simpa using hp
  simp [results, h, hp', asAddr, run_loadVar_row w g S S cs (0, 0) d hg hu hd hi]
theorem bx4 {W : World} {g : Nat} {k c d e : Value} {T : TypeId} (h : W.heap[g]? = some (.cells #[k, c, d, e] T (0, 0))) : (W.cell? ⟨g, 0, none⟩ = some k ∧ W.cell? ⟨g, 1, none⟩ = some c ∧ W.cell? ⟨g, 2, none⟩ = some d ∧ W.cell? ⟨g, 3, none⟩ = some e) ∧ W.frozen? ⟨g, 0, none⟩ = false ∧ W.frozen? ⟨g, 1, none⟩ = false ∧ W.frozen? ⟨g, 2, none⟩ = false ∧ W.frozen? ⟨g, 3, none⟩ = false :=
  ⟨⟨cell_of_row W g 0 _ _ _ h, cell_of_row W g 1 _ _ _ h, cell_of_row W g 2 _ _ _ h, cell_of_row W g 3 _ _ _ h⟩, frozen_of_row W g 0 _ _ h, frozen_of_row W g 1 _ _ h, frozen_of_row W g 2 _ _ h, frozen_of_row W g 3 _ _ h⟩
def fnL (L : List Itm) (k : Nat) : Itm := (lk L k).getD z0
def hasL (L : List Itm) (k : Nat) : Bool := (lk L k).isSome
/-- What Find answers. -/
def FD (w : World) (L : List Itm) (k : Nat) (e : Ending) (w' : World) : Prop := e = .returned (.tuple #[TV (fnL L k), .bool (hasL L k)]) ∧ Below w.heap.size w w'
theorem elemT : Try.prog.underlying 41 = some (.slice (Try.prog.elem 41)) := by kernel_rfl
theorem run_fromT (W : World) (a : Option Addr) {n cap l : Nat} (h1 : l ≤ n) : (Instr.sliceAt 41 (.slice a n cap) (some (.int .i64 (l : Int))) none none).run Try.prog W = .ok (.slice (if cap = l then a else a.map (·.add (l * 4))) (n - l) (cap - l)) W := by
  rw [run_sliceAt_slice (h := elemT)]
  simp [Instr.slice, Instr.sliceBounds, Instr.sliceBound, run_underlying Try.underlying41, asIntOf, h1]
theorem run_toT (W : World) (a : Option Addr) {n cap l : Nat} (h2 : l ≤ cap) : (Instr.sliceAt 41 (.slice a n cap) none (some (.int .i64 (l : Int))) none).run Try.prog W = .ok (.slice a l cap) W := by
  rw [run_sliceAt_slice (h := elemT)]
  cases a with
  | none => simp [Instr.slice, Instr.sliceBounds, Instr.sliceBound, run_underlying Try.underlying41, asIntOf, h2]
  | some a => simp [Instr.slice, Instr.sliceBounds, Instr.sliceBound, run_underlying Try.underlying41, asIntOf, h2]; intro; cases a; simp [Addr.add]
/-- What lies behind the l-th item. -/
theorem it_from {W : World} {a : Option Addr} {n cap l : Nat} {L : List Itm} (h : It W (.slice a n cap) L) (hl : l ≤ n) : It W (.slice (if cap = l then a else a.map (·.add (l * 4))) (n - l) (cap - l)) (L.drop l) := by
  obtain ⟨a', cap', hv, h2, h3⟩ := it_form h
  obtain ⟨rfl, rfl, rfl⟩ : a = a' ∧ n = L.length ∧ cap = cap' := by simpa using hv
  by_cases e : l = L.length
  · rw [List.drop_of_length_le (by omega), show L.length - l = 0 by omega]
    exact it_empty _ _ (by omega)
  · obtain ⟨b, o, c, hv', -, -, -⟩ := it_cells h (by omega)
    obtain ⟨rfl, -⟩ : a = some ⟨b, o, none⟩ ∧ cap = c := by simpa using hv'
    have hc := it_cut h l (L.length - l) (by omega)
    rw [List.take_of_length_le (by rw [List.length_drop]; exact Nat.le_refl _)] at hc
    rw [if_neg (by omega)]
    simpa [add_none] using hc
/-- An empty slice of the call's own that is not nil. -/
theorem owT_empty (w : World) {base : Nat} (hb : base ≤ w.heap.size) : OwT (w.alloc (.cells #[] 35)) base (.slice (some ⟨w.heap.size, 0, none⟩) 0 0) [] :=
  ⟨by simp, ⟨by simp [cellsT], Or.inr ⟨w.heap.size, 0, #[], rfl, hb, heap_alloc_new _ _, by simp, by simp, rfl, rfl⟩⟩⟩
/-- l[k:], as a step. -/
theorem from_step {ops : Array Oper} {rest : List Oper} {dst : Option Tmp} {s x : Operand} {pos : String} {after : Array Edge} {ty : TypeId} {a : Act} {W : World} {Q : Exit → Act → World → Prop}
    {p : Option Addr} {n cap l : Nat} (hs : a.eval s = .slice p n cap) (hx : a.eval x = .int .i64 (l : Int)) (h1 : l ≤ n)
    (h : wpList Try.prog ops Q rest (a.put dst (.slice (if cap = l then p else p.map (·.add (l * 4))) (n - l) (cap - l))) W) : wpList Try.prog ops Q (⟨dst, .slice 41 s (some x) none none, ty, pos, after, none⟩ :: rest) a W := by
  refine wpList_plain rfl fun K hK => ?_
  unfold Oper.wp execOp
  simp only [hs, hx, Option.map_some, Option.map_none, Sem.run_bind, Sem.run_pure, Result.andThen_ok, run_fromT W p h1]
  exact hK _ _ h
def onlyN (Q : Exit → Act → World → Prop) : Exit → Act → World → Prop
  | .normal, a, w => Q .normal a w
  | _, _, _ => False
theorem wp_onlyN {P : Program} {c : Code} {Q : Exit → Act → World → Prop} {a : Act} {w : World} (h : c.wp P (onlyN Q) a w) : c.wp P Q a w :=
  Code.wp_mono (fun e a w h => by cases e <;> first | exact h | exact h.elim) h
theorem wp_region_headsS {P : Program} {id : Nat} {Q : Exit → Act → World → Prop} {a : Act} {w : World} {l : List Oper} (S : World → Prop) (hd : List Nat) (fuel : Nat) (hm : P.follows .mixedOrders = true) (hQ : ∀ c (a : Act) d v w, Q (.panic c) (a.put d v) w → Q (.panic c) a w)
    (hB : (Region.noSelect l.toArray && headsB .any l.toArray hd (Array.replicate l.toArray.size false)) = true) (hf : l.toArray.size = hd.length + fuel) (h1 : (pickOps l.toArray hd).map some = hd.map (fun t => l.toArray[t]?)) (hS : S w.drew)
    (h : wpHeads P l.toArray S (fun a' => wpAnyH P .any l.toArray Q S fuel (listAll hd (Array.replicate l.toArray.size false)) a' w.drew) (pickOps l.toArray hd) a) : (Code.region id l.toArray true).wp P Q a w := by
  simp only [Bool.and_eq_true] at hB
  refine wp_region_held (S := S) hm ?_
  have := held_heads (P := P) (md := .any) (Q := Q) hB.1 hQ hS hd _ _ a hB.2 h1 h
  rw [hf] at *
  exact this
theorem bel_al (w : World) (o : Obj) : Below w.heap.size w (w.alloc o) := (Below.refl _ _).alloc (Nat.le_refl _) _
theorem take_snocT {L : List Itm} {i : Nat} (h : i < L.length) : L.take (i + 1) = L.take i ++ [L.getD i z0] := by
  rw [List.take_succ_eq_append_getElem h]
  simp [List.getD, h]
/-- The slice value v reads as the numbers G. -/
def Su (w : World) (v : Value) (G : List Nat) : Prop :=
  (∀ g ∈ G, g < 18446744073709551616) ∧ ∃ a cap, v = .slice a G.length cap ∧ G.length ≤ cap ∧ cap ≤ maxLen ∧ (0 < G.length → ∃ b off, a = some ⟨b, off, none⟩ ∧ ∀ k, k < G.length → w.cell? ⟨b, off + k, none⟩ = some (.int .u64 ((G.getD k 0 : Nat) : Int)))
theorem su_form {w : World} {v : Value} {G : List Nat} (h : Su w v G) : ∃ a cap, v = .slice a G.length cap ∧ G.length ≤ cap ∧ cap ≤ maxLen := by
  obtain ⟨_, a, cap, h1, h2, h3, _⟩ := h
  exact ⟨a, cap, h1, h2, h3⟩
theorem su_cells {w : World} {v : Value} {G : List Nat} (h : Su w v G) (hp : 0 < G.length) : ∃ b off cap, v = .slice (some ⟨b, off, none⟩) G.length cap ∧ G.length ≤ cap ∧ cap ≤ maxLen ∧ ∀ k, k < G.length → w.cell? ⟨b, off + k, none⟩ = some (.int .u64 ((G.getD k 0 : Nat) : Int)) := by
  obtain ⟨_, a, cap, h1, h2, h3, h4⟩ := h
  obtain ⟨b, off, rfl, hc⟩ := h4 hp
  exact ⟨b, off, cap, h1, h2, h3, hc⟩
end Go.Proofs.Ytempgcnpfjhacaa.Gf
