/- What is proved here: mathematics of contents and sorted lists; contracts of the program (disk): names, sound, Valid. Conditions: see each. -/
import Derived.Test.YtpipgbjkkiheaaaM10
import Derived.Sort.Walk0
import Derived.Lib.Strings
import Derived.Test.YtpipgbjkkiheaaaK10B
import Derived.Lib.MinMax
import Derived.Laws.Cover1
import Derived.Deep.LoopGhost
namespace Go.Proofs.Ytpipgbjkkiheaaa.Gf
open Go

/-- Where the shortest cut of a list of writes ends. -/
def minC : List Wr → Nat
  | [] => 1048576
  | w :: r => if w.2.2 then min (minC r) w.1.toNat else minC r
/-- What a write makes of a function of places, as far as e. -/
def stp (w : Wr) (e : Nat) (f : Nat → Nat) (p : Nat) : Nat := if w.1.toNat ≤ p ∧ p < min (w.1.toNat + w.2.1.length) e then w.2.1.getD (p - w.1.toNat) 0 else f p
def pst (l : List Wr) : Nat → Nat → Nat
  | 0 => fun _ => 0
  | i + 1 => stp (l.getD i wr0) (minC (l.drop (i + 1))) (pst l i)
def paint : List Wr → (Nat → Nat) → Nat → Nat
  | [], f => f
  | w :: r, f => paint r (stp w (minC r) f)
theorem minC_le : ∀ l : List Wr, minC l ≤ 1048576
  | [] => Nat.le_refl _
  | w :: r => by
    have := minC_le r
    unfold minC
    split
    · omega
    · exact this
theorem pst_paint (l : List Wr) : ∀ k, k ≤ l.length → paint (l.drop (l.length - k)) (pst l (l.length - k)) = paint l (fun _ => 0) := by
  have h : ∀ i, i ≤ l.length → paint (l.drop i) (pst l i) = paint l (fun _ => 0) := fun i => by
    induction i with
    | zero => intro _; rfl
    | succ i ih =>
      intro hi
      rw [← ih (by omega), List.drop_eq_getElem_cons (show i < l.length by omega), paint, pst, show l.getD i wr0 = l[i] by simp [List.getD, show i < l.length by omega]]
  exact fun k _ => h _ (by omega)
theorem pst_all (l : List Wr) : pst l l.length = paint l (fun _ => 0) := by
  have h := pst_paint l 0 (Nat.zero_le _)
  rw [Nat.sub_zero, List.drop_length] at h
  exact h
theorem getD_take0 (b : List Nat) (n p : Nat) : (b.take n).getD p 0 = if p < n then b.getD p 0 else 0 := by
  rw [List.getD_eq_getElem?_getD, List.getElem?_take]
  split
  · rfl
  · rfl
theorem getD_padL (b : List Nat) (n p : Nat) : (padL b n).getD p 0 = b.getD p 0 := by
  unfold padL
  rw [List.getD_eq_getElem?_getD, List.getD_eq_getElem?_getD, List.getElem?_append]
  split
  · rfl
  · rename_i h
    rw [List.getElem?_eq_none (l := b) (by omega), List.getElem?_replicate]
    split <;> rfl
theorem getD_apW (b : List Nat) (w : Wr) (p : Nat) : (apW b w).getD p 0 = if w.2.2 then (if p < w.1.toNat then b.getD p 0 else 0) else if w.1.toNat ≤ p ∧ p < w.1.toNat + w.2.1.length then w.2.1.getD (p - w.1.toNat) 0 else b.getD p 0 := by
  unfold apW
  split
  · exact getD_take0 b _ p
  · have hl : ((padL b w.1.toNat).take w.1.toNat).length = w.1.toNat := by rw [List.length_take, padL_length]; omega
    rw [List.getD_eq_getElem?_getD, List.getElem?_append, hl]
    split
    · rename_i h
      rw [if_neg (by omega), ← List.getD_eq_getElem?_getD, getD_take0, if_pos h, getD_padL]
    · rename_i h
      rw [List.getElem?_append]
      split
      · rename_i h2
        rw [if_pos (by omega), ← List.getD_eq_getElem?_getD]
      · rename_i h2
        rw [if_neg (by omega), List.getElem?_drop, ← List.getD_eq_getElem?_getD, show w.1.toNat + w.2.1.length + (p - w.1.toNat - w.2.1.length) = p by omega, getD_padL]
theorem paint_eq : ∀ (r : List Wr) (b : List Nat) (f : Nat → Nat), (∀ w ∈ r, w.2.2 = true → w.2.1 = []) → (∀ p, p < 1048576 → f p = if p < minC r then b.getD p 0 else 0) → ∀ p, p < 1048576 → paint r f p = (apL b r).getD p 0
  | [], b, f, _, hf, p, hp => by
    rw [paint, hf p hp, if_pos (by simpa [minC] using hp)]
    rfl
  | w :: r, b, f, hc, hf, p, hp => by
    rw [paint, apL_cons]
    refine paint_eq r (apW b w) _ (fun x hx => hc x (List.mem_cons_of_mem _ hx)) (fun q hq => ?_) p hp
    have h := hf q hq
    have hd := hc w (List.mem_cons_self ..)
    rw [getD_apW]
    unfold stp
    unfold minC at h
    by_cases c : w.2.2 = true
    · rw [if_pos c] at h
      rw [if_pos c, hd c, if_neg (by simp; omega), h]
      by_cases h1 : q < minC r
      · by_cases h2 : q < w.1.toNat
        · rw [if_pos (by omega), if_pos h1, if_pos h2]
        · rw [if_neg (by omega), if_pos h1, if_neg h2]
      · rw [if_neg (by omega), if_neg h1]
    · rw [if_neg c] at h
      rw [if_neg c, h]
      by_cases h1 : q < minC r
      · rw [if_pos h1, if_pos h1]
        by_cases h2 : w.1.toNat ≤ q ∧ q < w.1.toNat + w.2.1.length
        · rw [if_pos h2, if_pos (by omega)]
        · rw [if_neg h2, if_neg (by omega)]
      · rw [if_neg h1, if_neg h1, if_neg (by omega)]
/-- The buffer behind the first i writes: the places from off on. -/
def bufL (l : List Wr) (i off m : Nat) : List Nat := (List.range m).map fun k => pst l i (off + k)
theorem bufL_length (l : List Wr) (i off m : Nat) : (bufL l i off m).length = m := by simp [bufL]
theorem bufL_zero (l : List Wr) (off m : Nat) : bufL l 0 off m = List.replicate m 0 := by
  have h : bufL l 0 off m = (List.range m).map (fun _ => 0) := rfl
  rw [h]
  refine List.ext_getElem? fun k => ?_
  rw [List.getElem?_map, List.getElem?_replicate]
  by_cases hk : k < m
  · rw [List.getElem?_range hk, if_pos hk]
    rfl
  · rw [List.getElem?_eq_none (by simpa using hk), if_neg hk]
    rfl
theorem bufL_get (l : List Wr) (i off m k : Nat) (hk : k < m) : (bufL l i off m)[k]? = some (pst l i (off + k)) := by
  unfold bufL
  rw [List.getElem?_map, List.getElem?_range hk]
  rfl
/-- A round that copies. -/
theorem bufL_copy {l : List Wr} {i off m a z : Nat} (ho : off ≤ a) (hz : z ≤ off + m) (haz : a < z) (hw : (l.getD i wr0).1.toNat ≤ a) (hd : z ≤ (l.getD i wr0).1.toNat + (l.getD i wr0).2.1.length)
    (hc : ∀ p, off ≤ p → p < off + m → ((a ≤ p ∧ p < z) ↔ ((l.getD i wr0).1.toNat ≤ p ∧ p < min ((l.getD i wr0).1.toNat + (l.getD i wr0).2.1.length) (minC (l.drop (i + 1)))))) :
    bufL l (i + 1) off m = (bufL l i off m).take (a - off) ++ ((((l.getD i wr0).2.1.drop (a - (l.getD i wr0).1.toNat)).take (z - a)) ++ (bufL l i off m).drop (z - off)) := by
  refine List.ext_getElem? fun k => ?_
  have hl := bufL_length l i off m
  have hl1 : ((bufL l i off m).take (a - off)).length = a - off := by rw [List.length_take, hl]; omega
  have hl2 : (((l.getD i wr0).2.1.drop (a - (l.getD i wr0).1.toNat)).take (z - a)).length = z - a := by rw [List.length_take, List.length_drop]; omega
  by_cases hk : k < m
  · rw [bufL_get _ _ _ _ _ hk, pst, stp]
    have hcc := hc (off + k) (by omega) (by omega)
    by_cases h : k < a - off
    · rw [if_neg (fun h2 => by have := hcc.2 h2; omega), List.getElem?_append_left (by omega), List.getElem?_take, if_pos h, bufL_get _ _ _ _ _ hk]
    · rw [List.getElem?_append_right (by omega), hl1]
      by_cases h2 : k - (a - off) < z - a
      · rw [if_pos (hcc.1 (by omega)), List.getElem?_append_left (by omega), List.getElem?_take, if_pos h2, List.getElem?_drop, List.getD_eq_getElem?_getD, show off + k - (l.getD i wr0).1.toNat = a - (l.getD i wr0).1.toNat + (k - (a - off)) by omega]
        rw [List.getElem?_eq_getElem (show a - (l.getD i wr0).1.toNat + (k - (a - off)) < (l.getD i wr0).2.1.length by omega)]
        rfl
      · rw [if_neg (fun h3 => by have := hcc.2 h3; omega), List.getElem?_append_right (by omega), hl2, List.getElem?_drop, show z - off + (k - (a - off) - (z - a)) = k by omega, bufL_get _ _ _ _ _ hk]
  · rw [List.getElem?_eq_none (by rw [bufL_length]; omega), List.getElem?_eq_none (by rw [List.length_append, List.length_append, hl1, hl2, List.length_drop, hl]; omega)]
/-- A round that copies nothing. -/
theorem bufL_skip {l : List Wr} {i off m : Nat} (hc : ∀ p, off ≤ p → p < off + m → ¬ ((l.getD i wr0).1.toNat ≤ p ∧ p < min ((l.getD i wr0).1.toNat + (l.getD i wr0).2.1.length) (minC (l.drop (i + 1))))) : bufL l (i + 1) off m = bufL l i off m := by
  refine List.ext_getElem? fun k => ?_
  by_cases hk : k < m
  · rw [bufL_get _ _ _ _ _ hk, bufL_get _ _ _ _ _ hk, pst, stp, if_neg (hc _ (by omega) (by omega))]
  · rw [List.getElem?_eq_none (by rw [bufL_length]; omega), List.getElem?_eq_none (by rw [bufL_length]; omega)]
theorem okP_cut : ∀ (p : List Wr) (b : List Nat), okP b p = true → ∀ w ∈ p, w.2.2 = true → w.2.1 = []
  | [], _, _ => by simp
  | x :: p, b, h => by
    rw [okP, Bool.and_eq_true, Bool.and_eq_true] at h
    intro w hw hc
    rcases List.mem_cons.1 hw with rfl | hw
    · have h1 := h.1.1
      unfold wOk at h1
      simp only [Bool.and_eq_true, Bool.not_eq_true', Bool.and_eq_false_iff, hc, decide_eq_false_iff_not] at h1
      have h2 := h1.1.2
      simp at h2
      exact h2
    · exact okP_cut p (apW b x) h.2 w hw hc
/-- The buffer behind all writes is the content's part. -/
theorem bufL_all {b : List Nat} {p : List Wr} {off m : Nat} (h : flB b p = true) (hm : off + m ≤ (apL b p).length) : bufL ((0, b, false) :: p) (p.length + 1) off m = ((apL b p).drop off).take m := by
  unfold flB at h
  rw [Bool.and_eq_true] at h
  have hle := okP_le _ _ h.2 (by simpa using h.1)
  refine List.ext_getElem? fun k => ?_
  by_cases hk : k < m
  · rw [bufL_get _ _ _ _ _ hk, List.getElem?_take, if_pos hk, List.getElem?_drop]
    have e := pst_all ((0, b, false) :: p)
    rw [List.length_cons] at e
    have e2 := paint_eq ((0, b, false) :: p) [] (fun _ => 0) (fun w hw hc => by
      rcases List.mem_cons.1 hw with rfl | hw
      · cases hc
      · exact okP_cut p b h.2 w hw hc) (fun q _ => by simp) (off + k) (by omega)
    rw [e, e2, apL_cons]
    have e3 : apW [] (0, b, false) = b := by simp [apW, padL]
    rw [e3, List.getElem?_eq_getElem (by omega), List.getD_eq_getElem?_getD, List.getElem?_eq_getElem (by omega)]
    rfl
  · rw [List.getElem?_eq_none (by rw [bufL_length]; omega), List.getElem?_take, if_neg hk]
/-- The length of a content. -/
def growN (n : Nat) (w : Wr) : Nat := if w.2.2 then min n w.1.toNat else max n (w.1.toNat + w.2.1.length)
theorem growN_apW (b : List Nat) (w : Wr) : (apW b w).length = growN b.length w := apW_length b w
def lenN (n : Nat) (p : List Wr) : Nat := p.foldl growN n
theorem lenN_apL : ∀ (p : List Wr) (b : List Nat), lenN b.length p = (apL b p).length
  | [], _ => rfl
  | w :: p, b => by
    show lenN (growN b.length w) p = _
    rw [← growN_apW, lenN_apL p, apL_cons]
end Go.Proofs.Ytpipgbjkkiheaaa.Gf
namespace Go.Proofs.Ytpipgbjkkiheaaa.Gf
open Go

def ltS (a b : ByteArray) : Bool := Op.bytesLess a.toList b.toList
theorem ltS_eq (a b : ByteArray) : ltS a b = decide (a.toList < b.toList) := Proofs.bytesLess_eq _ _
theorem ltS_irr (a : ByteArray) : ltS a a = false := by
  rw [ltS_eq]
  exact decide_eq_false (List.lt_irrefl _)
theorem ltS_trans {a b c : ByteArray} (h1 : ltS a b = true) (h2 : ltS b c = true) : ltS a c = true := by
  rw [ltS_eq, decide_eq_true_eq] at *
  exact List.lt_trans h1 h2
theorem ltS_asymm {a b : ByteArray} (h1 : ltS a b = true) : ltS b a = false := by
  cases h : ltS b a with
  | false => rfl
  | true => have := ltS_trans h1 h; rw [ltS_irr] at this; cases this
theorem nmEq_iff {a b : ByteArray} : nmEq a b = true ↔ a = b := by
  unfold nmEq
  rw [beq_iff_eq]
  refine ⟨fun h => ?_, fun h => by rw [h]⟩
  rw [Lib.toList_data, Lib.toList_data] at h
  cases a with | mk a => cases b with | mk b => rw [show a = b from Array.toList_inj.1 h]
theorem nmEq_refl (a : ByteArray) : nmEq a a = true := nmEq_iff.2 rfl
theorem ltS_eqS {a b : ByteArray} (h1 : ltS a b = false) (h2 : ltS b a = false) : a = b := by
  rw [ltS_eq, decide_eq_false_iff_not] at *
  have e : a.toList = b.toList := List.le_antisymm (List.not_lt.1 h2) (List.not_lt.1 h1)
  exact nmEq_iff.1 (by unfold nmEq; rw [e]; exact beq_self_eq_true _)
theorem nmEq_lt {a b : ByteArray} (h : ltS a b = true) : nmEq a b = false := by
  cases e : nmEq a b with
  | false => rfl
  | true => rw [nmEq_iff.1 e, ltS_irr] at h; cases h
theorem nmEq_gt {a b : ByteArray} (h : ltS b a = true) : nmEq a b = false := by
  cases e : nmEq a b with
  | false => rfl
  | true => rw [nmEq_iff.1 e, ltS_irr] at h; cases h
theorem nmLe_false {a b : ByteArray} : nmLe a b = false ↔ ltS b a = true := by
  unfold nmLe
  rw [Bool.or_eq_false_iff]
  refine ⟨fun h => ?_, fun h => ⟨ltS_asymm h, nmEq_gt h⟩⟩
  cases e : ltS b a with
  | true => rfl
  | false => have := ltS_eqS (a := a) (b := b) h.1 e; subst this; have h2 := h.2; rw [beq_self_eq_true] at h2; cases h2
theorem nmGe_ltS (a b : ByteArray) : (!(Op.bytesLess a.toList b.toList)) = !ltS a b := rfl
/-- The place of a name in a sorted list: how many names are less. -/
def lbG {α : Type} (nm : α → ByteArray) (L : List α) (s : ByteArray) : Nat := (L.takeWhile fun x => ltS (nm x) s).length
def hasG {α : Type} (nm : α → ByteArray) (L : List α) (s : ByteArray) : Bool := match L[lbG nm L s]? with
  | some x => nmEq (nm x) s
  | none => false
theorem lbG_le {α : Type} (nm : α → ByteArray) (L : List α) (s : ByteArray) : lbG nm L s ≤ L.length := by
  unfold lbG
  exact (List.takeWhile_sublist _).length_le
theorem lbG_of {α : Type} {nm : α → ByteArray} {s : ByteArray} : ∀ {L : List α} {j : Nat}, j ≤ L.length → (∀ i x, L[i]? = some x → i < j → ltS (nm x) s = true) → (∀ x, L[j]? = some x → ltS (nm x) s = false) → lbG nm L s = j
  | [], j, hj, _, _ => by
    have : j = 0 := by simpa using hj
    subst this
    rfl
  | x :: L, 0, _, _, h2 => by
    unfold lbG
    rw [List.takeWhile_cons, if_neg (by rw [h2 x rfl]; decide)]
    rfl
  | x :: L, j + 1, hj, h1, h2 => by
    have ih := lbG_of (nm := nm) (s := s) (L := L) (j := j) (by simpa using hj) (fun i y hy hi => h1 (i + 1) y (by simpa using hy) (by omega)) (fun y hy => h2 y (by simpa using hy))
    unfold lbG at ih ⊢
    rw [List.takeWhile_cons, if_pos (h1 0 x rfl (by omega)), List.length_cons, ih]
theorem lbG_cons {α : Type} (nm : α → ByteArray) (x : α) (L : List α) (s : ByteArray) : lbG nm (x :: L) s = if ltS (nm x) s = true then lbG nm L s + 1 else 0 := by
  unfold lbG
  split
  · rename_i h
    rw [List.takeWhile_cons, if_pos h, List.length_cons]
  · rename_i h
    rw [List.takeWhile_cons, if_neg h, List.length_nil]
theorem hasG_cons {α : Type} (nm : α → ByteArray) (x : α) (L : List α) (s : ByteArray) : hasG nm (x :: L) s = if ltS (nm x) s = true then hasG nm L s else nmEq (nm x) s := by
  unfold hasG
  rw [lbG_cons]
  by_cases h : ltS (nm x) s = true
  · rw [if_pos h, if_pos h, List.getElem?_cons_succ]
  · rw [if_neg h, if_neg h]
    rfl
/-- Sorted, no name twice. -/
def SrtN {α : Type} (nm : α → ByteArray) (L : List α) : Prop := L.Pairwise fun x y => ltS (nm x) (nm y) = true
abbrev SrtF (L : List Fl) : Prop := SrtN (fun f : Fl => f.1) L
def dropG {α : Type} (nm : α → ByteArray) (L : List α) (s : ByteArray) : List α := if hasG nm L s = true then L.take (lbG nm L s) ++ L.drop (lbG nm L s + 1) else L
def insG {α : Type} (nm : α → ByteArray) (L : List α) (f : α) : List α := L.take (lbG nm L (nm f)) ++ ([f] ++ L.drop (lbG nm L (nm f)))
def putG {α : Type} (nm : α → ByteArray) (L : List α) (f : α) : List α := insG nm (dropG nm L (nm f)) f
/-- Putting in, by recursion. -/
def insR {α : Type} (nm : α → ByteArray) : List α → α → List α
  | [], f => [f]
  | x :: L, f => if ltS (nm x) (nm f) = true then x :: insR nm L f else if nmEq (nm x) (nm f) = true then f :: L else f :: x :: L
theorem dropG_cons {α : Type} (nm : α → ByteArray) (x : α) (L : List α) (s : ByteArray) : dropG nm (x :: L) s = if ltS (nm x) s = true then x :: dropG nm L s else if nmEq (nm x) s = true then L else x :: L := by
  unfold dropG
  rw [hasG_cons, lbG_cons]
  by_cases h : ltS (nm x) s = true
  · rw [if_pos h, if_pos h, if_pos h]
    split
    · rw [List.take_succ_cons, List.drop_succ_cons, List.cons_append]
    · rfl
  · rw [if_neg h, if_neg h, if_neg h]
    split
    · rw [List.take_zero, List.nil_append, List.drop_succ_cons, List.drop_zero]
    · rfl
theorem insG_cons {α : Type} (nm : α → ByteArray) (x : α) (L : List α) (f : α) : insG nm (x :: L) f = if ltS (nm x) (nm f) = true then x :: insG nm L f else f :: x :: L := by
  unfold insG
  rw [lbG_cons]
  split
  · rw [List.take_succ_cons, List.drop_succ_cons, List.cons_append]
  · rw [List.take_zero, List.nil_append, List.drop_zero]
    rfl
theorem putG_insR {α : Type} (nm : α → ByteArray) (f : α) : ∀ {L : List α}, SrtN nm L → putG nm L f = insR nm L f
  | [], _ => by
    unfold putG dropG hasG insG insR
    simp [lbG]
  | x :: L, h => by
    have ih := putG_insR nm f (L := L) (List.pairwise_cons.1 h).2
    unfold putG at ih ⊢
    rw [dropG_cons, insR]
    by_cases h1 : ltS (nm x) (nm f) = true
    · rw [if_pos h1, if_pos h1, insG_cons, if_pos h1, ih]
    · rw [if_neg h1, if_neg h1]
      by_cases h2 : nmEq (nm x) (nm f) = true
      · rw [if_pos h2, if_pos h2]
        cases L with
        | nil => simp [insG, lbG]
        | cons y L =>
          have hy := (List.pairwise_cons.1 h).1 y (List.mem_cons_self ..)
          rw [insG_cons, if_neg]
          rw [← nmEq_iff.1 h2, ltS_asymm hy]
          decide
      · rw [if_neg h2, if_neg h2, insG_cons, if_neg h1]
theorem insR_mem {α : Type} (nm : α → ByteArray) (f : α) : ∀ (L : List α) (y : α), y ∈ insR nm L f → y = f ∨ y ∈ L
  | [], y, h => Or.inl (by simpa [insR] using h)
  | x :: L, y, h => by
    rw [insR] at h
    split at h
    · rcases List.mem_cons.1 h with rfl | h
      · exact Or.inr (List.mem_cons_self ..)
      · rcases insR_mem nm f L y h with h | h
        · exact Or.inl h
        · exact Or.inr (List.mem_cons_of_mem _ h)
    · split at h
      · rcases List.mem_cons.1 h with h | h
        · exact Or.inl h
        · exact Or.inr (List.mem_cons_of_mem _ h)
      · rcases List.mem_cons.1 h with h | h
        · exact Or.inl h
        · exact Or.inr h
theorem insR_srt {α : Type} (nm : α → ByteArray) (f : α) : ∀ {L : List α}, SrtN nm L → SrtN nm (insR nm L f)
  | [], _ => List.pairwise_singleton _ _
  | x :: L, h => by
    obtain ⟨h1, h2⟩ := List.pairwise_cons.1 h
    rw [insR]
    split
    · rename_i c
      refine List.pairwise_cons.2 ⟨fun y hy => ?_, insR_srt nm f h2⟩
      rcases insR_mem nm f L y hy with rfl | hy
      · exact c
      · exact h1 y hy
    · rename_i c
      split
      · rename_i e
        exact List.pairwise_cons.2 ⟨fun y hy => by rw [← nmEq_iff.1 e]; exact h1 y hy, h2⟩
      · rename_i e
        have hfx : ltS (nm f) (nm x) = true := by
          cases c2 : ltS (nm f) (nm x) with
          | true => rfl
          | false => exact absurd (nmEq_iff.2 (ltS_eqS (by simpa using c) c2)) e
        exact List.pairwise_cons.2 ⟨fun y hy => by
          rcases List.mem_cons.1 hy with rfl | hy
          · exact hfx
          · exact ltS_trans hfx (h1 y hy), h⟩
theorem dropG_srt {α : Type} {nm : α → ByteArray} {L : List α} {s : ByteArray} (h : SrtN nm L) : SrtN nm (dropG nm L s) := by
  unfold dropG
  split
  · refine List.Pairwise.sublist ?_ h
    have e := (List.Sublist.refl (L.take (lbG nm L s))).append (List.drop_sublist 1 (L.drop (lbG nm L s)))
    rw [List.take_append_drop, List.drop_drop] at e
    exact e
  · exact h
/-- Files that a valid disk has are sorted. -/
theorem srt_of {L : List Fl} (h : FilesOk L L.length) : SrtF L := by
  refine List.pairwise_iff_getElem.2 fun i j hi hj hij => ?_
  have st : ∀ k, (h : k + 1 < L.length) → ltS (L[k]'(by omega)).1 (L[k + 1]).1 = true := fun k hk => by
    have := (h (k + 1) hk).2 (by omega)
    rw [nmLe_false, Nat.add_sub_cancel] at this
    simpa [List.getD, hk, show k < L.length by omega] using this
  have go : ∀ d, (hd : i + d + 1 < L.length) → ltS (L[i]'hi).1 (L[i + d + 1]'hd).1 = true := fun d => by
    induction d with
    | zero => intro hd; exact st i hd
    | succ d ih => intro hd; exact ltS_trans (ih (by omega)) (st (i + d + 1) hd)
  have := go (j - i - 1) (by omega)
  simpa [show i + (j - i - 1) + 1 = j by omega] using this
theorem ok_of {L : List Fl} (h : SrtF L) (hf : ∀ f ∈ L, fileB f = true) : FilesOk L L.length := fun i hi => by
  have e : L.getD i fl0 = L[i] := by simp [List.getD, hi]
  refine ⟨by rw [e]; exact hf _ (List.getElem_mem hi), fun hp => ?_⟩
  have e2 : L.getD (i - 1) fl0 = L[i - 1] := by simp [List.getD, show i - 1 < L.length by omega]
  rw [nmLe_false, e, e2]
  exact List.pairwise_iff_getElem.1 h (i - 1) i (by omega) hi (by omega)
theorem ok_mem {L : List Fl} (h : FilesOk L L.length) : ∀ f ∈ L, fileB f = true := fun f hf => by
  obtain ⟨i, hi, rfl⟩ := List.getElem_of_mem hf
  have := (h i hi).1
  simpa [List.getD, hi] using this
/-- The place that the search finds is that of the first file with the name. -/
theorem fnd_lb : ∀ {L : List Fl} {s : ByteArray}, SrtF L → fndL L s = if hasG (fun f : Fl => f.1) L s = true then ((lbG (fun f : Fl => f.1) L s : Nat) : Int) else -1
  | [], s, _ => by simp [fndL, hasG, lbG]
  | x :: L, s, h => by
    have ih := fnd_lb (L := L) (s := s) (List.pairwise_cons.1 h).2
    rw [hasG_cons, lbG_cons]
    by_cases h1 : ltS x.1 s = true
    · have hx : nmEq x.1 s = false := nmEq_lt h1
      rw [if_pos h1, if_pos h1]
      unfold fndL at ih ⊢
      rw [List.findIdx?_cons, hx]
      cases e : L.findIdx? (fun f => nmEq f.1 s) with
      | none =>
        rw [e] at ih
        have ih' : (-1 : Int) = _ := ih
        show (-1 : Int) = _
        split at ih'
        · omega
        · rename_i c
          rw [if_neg c]
      | some i =>
        rw [e] at ih
        have ih' : (i : Int) = _ := ih
        show ((i + 1 : Nat) : Int) = _
        split at ih'
        · rename_i c
          rw [if_pos c]
          omega
        · omega
    · rw [if_neg h1, if_neg h1]
      unfold fndL
      by_cases h2 : nmEq x.1 s = true
      · rw [if_pos h2, List.findIdx?_cons, h2]
        rfl
      · have e : (x :: L).findIdx? (fun f => nmEq f.1 s) = none := List.findIdx?_eq_none_iff.2 fun y hy => by
          rcases List.mem_cons.1 hy with rfl | hy
          · simpa using h2
          · have hl : ltS s x.1 = true := by
              cases c : ltS s x.1 with
              | true => rfl
              | false => exact absurd (nmEq_iff.2 (ltS_eqS (by simpa using h1) c)) h2
            exact nmEq_gt (ltS_trans hl ((List.pairwise_cons.1 h).1 y hy))
        rw [if_neg h2, e]
theorem set_insR {f : Fl} : ∀ {L : List Fl}, SrtF L → hasG (fun f : Fl => f.1) L f.1 = true → L.set (lbG (fun f : Fl => f.1) L f.1) f = insR (fun f : Fl => f.1) L f
  | [], _, h => by simp [hasG, lbG] at h
  | x :: L, h, hh => by
    rw [hasG_cons] at hh
    rw [lbG_cons, insR]
    by_cases h1 : ltS x.1 f.1 = true
    · rw [if_pos h1] at hh ⊢
      rw [if_pos h1, List.set_cons_succ, set_insR (List.pairwise_cons.1 h).2 hh]
    · rw [if_neg h1] at hh ⊢
      rw [if_neg h1, if_pos hh, List.set_cons_zero]
end Go.Proofs.Ytpipgbjkkiheaaa.Gf
namespace Go.Proofs.Ytpipgbjkkiheaaa.Gf
open Go Go.Joins Go.ChangeShapes Go.WideShapes Go.ChangeAt Go.RowKit Go.Deep Go.Proofs.Ytpipgbjkkiheaaa.By Go.Proofs.Ytpipgbjkkiheaaa.Qt

set_option maxRecDepth 100000 in
set_option maxHeartbeats 6400000 in
theorem pnb_any (c : Nat) (hc : c < 256) (w : World) : Calls Try.prog 48 #[.int .u8 (c : Int)] w fun e w' => e = .returned (.bool (chB c)) ∧ w = w' := by
  have hcs : (97 ≤ c ∧ c ≤ 122) ∨ (48 ≤ c ∧ c ≤ 57) ∨ c = 46 ∨ c = 45 ∨ c < 45 ∨ c = 47 ∨ (58 ≤ c ∧ c ≤ 96) ∨ 123 ≤ c := by omega
  rcases hcs with hq | hq | hq | hq | hq | hq | hq | hq
  · have e0 : decide ((c : Int) ≥ 97) = true := decide_eq_true (by omega)
    have e1 : decide (97 ≤ (c : Int)) = true := decide_eq_true (by omega)
    have e2 : decide ((c : Int) ≥ 48) = true := decide_eq_true (by omega)
    have e3 : decide (48 ≤ (c : Int)) = true := decide_eq_true (by omega)
    have e4 : decide ((c : Int) ≤ 122) = true := decide_eq_true (by omega)
    have e5 : decide ((c : Int) ≤ 57) = false := decide_eq_false (by omega)
    have e6 : decide ((c : Int) = 46) = false := decide_eq_false (by omega)
    have e7 : ((c : Int) == 46) = false := beq_false_of_ne (by omega)
    have e8 : decide ((c : Int) = 45) = false := decide_eq_false (by omega)
    have e9 : ((c : Int) == 45) = false := beq_false_of_ne (by omega)
    have HK : Hid (chB c = true) := Lib.hid (by unfold chB; simp; omega)
    clear hq hc
    go_enter Try.func48, Try.ntmps48
    go_wp2
    go_ret
    rw [HK.out]
    exact ⟨rfl, rfl⟩
  · have e0 : decide ((c : Int) ≥ 97) = false := decide_eq_false (by omega)
    have e1 : decide (97 ≤ (c : Int)) = false := decide_eq_false (by omega)
    have e2 : decide ((c : Int) ≥ 48) = true := decide_eq_true (by omega)
    have e3 : decide (48 ≤ (c : Int)) = true := decide_eq_true (by omega)
    have e4 : decide ((c : Int) ≤ 122) = true := decide_eq_true (by omega)
    have e5 : decide ((c : Int) ≤ 57) = true := decide_eq_true (by omega)
    have e6 : decide ((c : Int) = 46) = false := decide_eq_false (by omega)
    have e7 : ((c : Int) == 46) = false := beq_false_of_ne (by omega)
    have e8 : decide ((c : Int) = 45) = false := decide_eq_false (by omega)
    have e9 : ((c : Int) == 45) = false := beq_false_of_ne (by omega)
    have HK : Hid (chB c = true) := Lib.hid (by unfold chB; simp; omega)
    clear hq hc
    go_enter Try.func48, Try.ntmps48
    go_wp2
    go_ret
    rw [HK.out]
    exact ⟨rfl, rfl⟩
  · have e0 : decide ((c : Int) ≥ 97) = false := decide_eq_false (by omega)
    have e1 : decide (97 ≤ (c : Int)) = false := decide_eq_false (by omega)
    have e2 : decide ((c : Int) ≥ 48) = false := decide_eq_false (by omega)
    have e3 : decide (48 ≤ (c : Int)) = false := decide_eq_false (by omega)
    have e4 : decide ((c : Int) ≤ 122) = true := decide_eq_true (by omega)
    have e5 : decide ((c : Int) ≤ 57) = true := decide_eq_true (by omega)
    have e6 : decide ((c : Int) = 46) = true := decide_eq_true (by omega)
    have e7 : ((c : Int) == 46) = true := by rw [beq_iff_eq]; omega
    have e8 : decide ((c : Int) = 45) = false := decide_eq_false (by omega)
    have e9 : ((c : Int) == 45) = false := beq_false_of_ne (by omega)
    have HK : Hid (chB c = true) := Lib.hid (by unfold chB; simp; omega)
    clear hq hc
    go_enter Try.func48, Try.ntmps48
    go_wp2
    go_ret
    rw [HK.out]
    exact ⟨rfl, rfl⟩
  · have e0 : decide ((c : Int) ≥ 97) = false := decide_eq_false (by omega)
    have e1 : decide (97 ≤ (c : Int)) = false := decide_eq_false (by omega)
    have e2 : decide ((c : Int) ≥ 48) = false := decide_eq_false (by omega)
    have e3 : decide (48 ≤ (c : Int)) = false := decide_eq_false (by omega)
    have e4 : decide ((c : Int) ≤ 122) = true := decide_eq_true (by omega)
    have e5 : decide ((c : Int) ≤ 57) = true := decide_eq_true (by omega)
    have e6 : decide ((c : Int) = 46) = false := decide_eq_false (by omega)
    have e7 : ((c : Int) == 46) = false := beq_false_of_ne (by omega)
    have e8 : decide ((c : Int) = 45) = true := decide_eq_true (by omega)
    have e9 : ((c : Int) == 45) = true := by rw [beq_iff_eq]; omega
    have HK : Hid (chB c = true) := Lib.hid (by unfold chB; simp; omega)
    clear hq hc
    go_enter Try.func48, Try.ntmps48
    go_wp2
    go_ret
    rw [HK.out]
    exact ⟨rfl, rfl⟩
  · have e0 : decide ((c : Int) ≥ 97) = false := decide_eq_false (by omega)
    have e1 : decide (97 ≤ (c : Int)) = false := decide_eq_false (by omega)
    have e2 : decide ((c : Int) ≥ 48) = false := decide_eq_false (by omega)
    have e3 : decide (48 ≤ (c : Int)) = false := decide_eq_false (by omega)
    have e4 : decide ((c : Int) ≤ 122) = true := decide_eq_true (by omega)
    have e5 : decide ((c : Int) ≤ 57) = true := decide_eq_true (by omega)
    have e6 : decide ((c : Int) = 46) = false := decide_eq_false (by omega)
    have e7 : ((c : Int) == 46) = false := beq_false_of_ne (by omega)
    have e8 : decide ((c : Int) = 45) = false := decide_eq_false (by omega)
    have e9 : ((c : Int) == 45) = false := beq_false_of_ne (by omega)
    have HK : Hid (chB c = false) := Lib.hid (by unfold chB; simp; omega)
    clear hq hc
    go_enter Try.func48, Try.ntmps48
    go_wp2
    go_ret
    rw [HK.out]
    exact ⟨rfl, rfl⟩
  · have e0 : decide ((c : Int) ≥ 97) = false := decide_eq_false (by omega)
    have e1 : decide (97 ≤ (c : Int)) = false := decide_eq_false (by omega)
    have e2 : decide ((c : Int) ≥ 48) = false := decide_eq_false (by omega)
    have e3 : decide (48 ≤ (c : Int)) = false := decide_eq_false (by omega)
    have e4 : decide ((c : Int) ≤ 122) = true := decide_eq_true (by omega)
    have e5 : decide ((c : Int) ≤ 57) = true := decide_eq_true (by omega)
    have e6 : decide ((c : Int) = 46) = false := decide_eq_false (by omega)
    have e7 : ((c : Int) == 46) = false := beq_false_of_ne (by omega)
    have e8 : decide ((c : Int) = 45) = false := decide_eq_false (by omega)
    have e9 : ((c : Int) == 45) = false := beq_false_of_ne (by omega)
    have HK : Hid (chB c = false) := Lib.hid (by unfold chB; simp; omega)
    clear hq hc
    go_enter Try.func48, Try.ntmps48
    go_wp2
    go_ret
    rw [HK.out]
    exact ⟨rfl, rfl⟩
  · have e0 : decide ((c : Int) ≥ 97) = false := decide_eq_false (by omega)
    have e1 : decide (97 ≤ (c : Int)) = false := decide_eq_false (by omega)
    have e2 : decide ((c : Int) ≥ 48) = true := decide_eq_true (by omega)
    have e3 : decide (48 ≤ (c : Int)) = true := decide_eq_true (by omega)
    have e4 : decide ((c : Int) ≤ 122) = true := decide_eq_true (by omega)
    have e5 : decide ((c : Int) ≤ 57) = false := decide_eq_false (by omega)
    have e6 : decide ((c : Int) = 46) = false := decide_eq_false (by omega)
    have e7 : ((c : Int) == 46) = false := beq_false_of_ne (by omega)
    have e8 : decide ((c : Int) = 45) = false := decide_eq_false (by omega)
    have e9 : ((c : Int) == 45) = false := beq_false_of_ne (by omega)
    have HK : Hid (chB c = false) := Lib.hid (by unfold chB; simp; omega)
    clear hq hc
    go_enter Try.func48, Try.ntmps48
    go_wp2
    go_ret
    rw [HK.out]
    exact ⟨rfl, rfl⟩
  · have e0 : decide ((c : Int) ≥ 97) = true := decide_eq_true (by omega)
    have e1 : decide (97 ≤ (c : Int)) = true := decide_eq_true (by omega)
    have e2 : decide ((c : Int) ≥ 48) = true := decide_eq_true (by omega)
    have e3 : decide (48 ≤ (c : Int)) = true := decide_eq_true (by omega)
    have e4 : decide ((c : Int) ≤ 122) = false := decide_eq_false (by omega)
    have e5 : decide ((c : Int) ≤ 57) = false := decide_eq_false (by omega)
    have e6 : decide ((c : Int) = 46) = false := decide_eq_false (by omega)
    have e7 : ((c : Int) == 46) = false := beq_false_of_ne (by omega)
    have e8 : decide ((c : Int) = 45) = false := decide_eq_false (by omega)
    have e9 : ((c : Int) == 45) = false := beq_false_of_ne (by omega)
    have HK : Hid (chB c = false) := Lib.hid (by unfold chB; simp; omega)
    clear hq hc
    go_enter Try.func48, Try.ntmps48
    go_wp2
    go_ret
    rw [HK.out]
    exact ⟨rfl, rfl⟩
set_option maxRecDepth 100000 in
set_option maxHeartbeats 6400000 in
theorem pname_any (s : ByteArray) (hs : s.size ≤ maxLen) (w : World) : Calls Try.prog 23 #[.string s] w fun e w' => e = .returned (.bool (nameB s)) ∧ w = w' := by
  obtain ⟨n, hn⟩ : ∃ z, z = s.size := ⟨_, rfl⟩
  have HN := Lib.hid hn
  have HS : Hid (n ≤ 9223372036854775807) := Lib.hid (by unfold maxLen at hs; omega)
  have NB := Lib.hid pnb_any
  have hsz : s.size = n := hn.symm
  clear hs hn
  by_cases h0 : n = 0
  · have HB : Hid (nameB s = false) := Lib.hid (by unfold nameB; rw [hsz, h0]; simp)
    have e0 : ((n : Int) == 0) = true := by rw [beq_iff_eq]; omega
    have e1 : decide ((n : Int) = 0) = true := decide_eq_true (by omega)
    clear h0
    go_enter Try.func23, Try.ntmps23
    go_wp2
    go_ret
    rw [HB.out]
    exact ⟨rfl, rfl⟩
  have e0 : ((n : Int) == 0) = false := beq_false_of_ne (by omega)
  have e1 : decide ((n : Int) = 0) = false := decide_eq_false (by omega)
  by_cases h40 : 40 < n
  · have HB : Hid (nameB s = false) := Lib.hid (by unfold nameB; rw [hsz, decide_eq_false (show ¬ n ≤ 40 by omega)]; simp)
    have e2 : decide ((n : Int) > 40) = true := decide_eq_true (by omega)
    have e3 : decide (40 < (n : Int)) = true := decide_eq_true (by omega)
    clear h0 h40
    go_enter Try.func23, Try.ntmps23
    go_wp2
    go_ret
    rw [HB.out]
    exact ⟨rfl, rfl⟩
  have e2 : decide ((n : Int) > 40) = false := decide_eq_false (by omega)
  have e3 : decide (40 < (n : Int)) = false := decide_eq_false (by omega)
  have HR : Hid (nameB s = chsB s) := Lib.hid (by unfold nameB; rw [hsz, decide_eq_true (show 1 ≤ n by omega), decide_eq_true (show n ≤ 40 by omega)]; simp)
  clear h0 h40
  go_enter Try.func23, Try.ntmps23
  go_wp2_with fail
  clear e0 e1 e2 e3 hsz
  go_loopw [14] (fun t wr => ∃ i : Nat, i ≤ n ∧ t = .int .i64 (i : Int) ∧ Hid (∀ j, j < i → chB (byteAt s j) = true) ∧ wr = w) (fun t _ => n - (intOf t).toNat)
  case atStart => exact ⟨0, by omega, rfl, Lib.hid (fun j hj => by omega), rfl⟩
  case round =>
    obtain ⟨i, hi, rfl, HC, hW⟩ := hrel
    subst hW
    have hs' := HS.out
    have hsz : s.size = n := HN.out.symm
    by_cases hin : i < n
    · have hin' : i < s.size := by rw [← HN.out]; exact hin
      have l1 : decide ((i : Int) < (n : Int)) = true := decide_eq_true (by omega)
      have p0 : (0 : Int) ≤ (i : Int) := by omega
      have p1 : (i : Int) < (n : Int) := by omega
      have hb := byteAt_eq hin'
      have NB1 := Lib.hid (NB.out (byteAt s i) (byteAt_lt s i) wr)
      obtain ⟨c, hc⟩ : ∃ z, z = byteAt s i := ⟨_, rfl⟩
      rw [← hc] at hb NB1
      have HB := Lib.hid hc
      clear hc hin
      cases hch : chB c
      · rw [hch] at NB1
        have HK := Lib.hid hch
        clear hch
        go_wp2_with fail
        refine NB1.out.mono ?_
        rintro e w2 ⟨rfl, rfl⟩
        go_wp2
        go_ret
        have hne : nameB s = false := by
          rw [HR.out]
          exact decide_eq_false fun h => by have h2 := h i hin'; rw [← HB.out, HK.out] at h2; cases h2
        rw [hne]
        exact ⟨rfl, rfl⟩
      · rw [hch] at NB1
        have HK := Lib.hid hch
        clear hch
        go_wp2_with fail
        refine NB1.out.mono ?_
        rintro e w2 ⟨rfl, rfl⟩
        go_wp2
        go_roundw
        case rel =>
          refine ⟨i + 1, by omega, by go_num, Lib.hid (fun j hj => ?_), by first | rfl | trivial⟩
          by_cases hji : j < i
          · exact HC.out j hji
          · obtain rfl : j = i := by omega
            rw [← HB.out]
            exact HK.out
        case measure => simp [intOf]; omega
    · obtain rfl : i = n := by omega
      have l1 : decide ((i : Int) < (i : Int)) = false := decide_eq_false (by omega)
      have hch : chsB s = true := decide_eq_true (by rw [hsz]; exact HC.out)
      have HNB := Lib.hid (HR.out.trans hch)
      clear hch
      go_wp2
      go_ret
      rw [HNB.out]
      exact ⟨rfl, rfl⟩
set_option maxRecDepth 100000 in
set_option maxHeartbeats 6400000 in
theorem pgrown_any (n o nd : Nat) (ad : Option Addr) (cd : Nat) (cut : Bool) (w : World) (ho : o ≤ 1048576) (hd : nd ≤ 1099511627776) : Calls Try.prog 77 #[.int .i64 (n : Int), .agg #[.int .i64 (o : Int), .slice ad nd cd, .bool cut]] w fun e w' => e = .returned (.int .i64 (((if cut then min n o else max n (o + nd) : Nat)) : Int)) ∧ Below w.heap.size w w' := by
  have BX := Lib.hid (bel_al0 w (.cells #[.int .i64 (o : Int), .slice ad nd cd, .bool cut] 96))
  have HX := Lib.hid (heap_alloc_new w (.cells #[.int .i64 (o : Int), .slice ad nd cd, .bool cut] 96))
  obtain ⟨x0, x1, x2⟩ := box3c HX.out
  have p1 : wrap64 ((o : Int) + (nd : Int)) = (o : Int) + (nd : Int) := by unfold wrap64; omega
  have HM : Hid ((min (n : Int) (o : Int)) = ((min n o : Nat) : Int) ∧ (max (n : Int) ((o : Int) + (nd : Int))) = ((max n (o + nd) : Nat) : Int)) := Lib.hid ⟨by omega, by omega⟩
  clear ho hd
  cases cut
  · go_enter Try.func77, Try.ntmps77
    go_wp2
    go_ret
    rw [HM.out.2]
    exact ⟨rfl, BX.out⟩
  · go_enter Try.func77, Try.ntmps77
    go_wp2
    go_ret
    rw [HM.out.1]
    exact ⟨rfl, BX.out⟩
end Go.Proofs.Ytpipgbjkkiheaaa.Gf
namespace Go.Proofs.Ytpipgbjkkiheaaa.Gf
open Go Go.Joins Go.ChangeShapes Go.WideShapes Go.ChangeAt Go.RowKit Go.Deep Go.Proofs.Ytpipgbjkkiheaaa.By Go.Proofs.Ytpipgbjkkiheaaa.Qt

theorem pgrown_w (n : Nat) (x : Wr) (dv : Value) (nd : Nat) (w : World) (sd : Sl w dv x.2.1) (hnd : nd = x.2.1.length) (ho : 0 ≤ x.1) (ho2 : x.1 ≤ 1048576) (hsm : nd ≤ 1099511627776) : Calls Try.prog 77 #[.int .i64 (n : Int), .agg #[.int .i64 x.1, dv, .bool x.2.2]] w fun e w' => e = .returned (.int .i64 ((growN n x : Nat) : Int)) ∧ Below w.heap.size w w' := by
  obtain ⟨off, data, cut⟩ := x
  obtain ⟨a, c, rfl, h1, h2⟩ := sl_form sd
  obtain ⟨o, rfl⟩ : ∃ o : Nat, off = (o : Int) := ⟨off.toNat, by dsimp only at ho; omega⟩
  subst hnd
  dsimp only at ho ho2 h1 h2 ⊢
  refine (pgrown_any n o data.length a c cut w (by omega) hsm).mono ?_
  rintro e w' ⟨rfl, hb⟩
  exact ⟨rfl, hb⟩
set_option maxRecDepth 100000 in
set_option maxHeartbeats 6400000 in
theorem psound_any (s : ByteArray) (bv pv : Value) (b : List Nat) (p : List Wr) (w : World) (sb : Sl w bv b) (sp : Rd (fun _ => True) w (.sl tyW) [pv] p) (hsm : ∀ x ∈ p, x.2.1.length ≤ 1099511627776) : Calls Try.prog 46 #[.agg #[.string s, bv, pv]] w fun e w' => e = .returned (.bool (flB b p)) ∧ Below w.heap.size w w' := by
  obtain ⟨ab, cb, rfl, -, -⟩ := sl_form sb
  obtain ⟨ap, cp, rfl, hp1, hp2⟩ := rd_sl sp
  obtain ⟨nb, hnb⟩ : ∃ z, z = b.length := ⟨_, rfl⟩
  obtain ⟨np, hnp⟩ : ∃ z, z = p.length := ⟨_, rfl⟩
  rw [← hnb] at sb ⊢
  rw [← hnp] at sp hp1 ⊢
  have HNB := Lib.hid hnb
  have HNP := Lib.hid hnp
  have SP := Lib.hid sp
  have HSM := Lib.hid hsm
  have HCP : Hid (np ≤ 9223372036854775807) := Lib.hid (by unfold maxLen at hp2; omega)
  have BX := Lib.hid (bel_al0 w (.cells #[.string s, .slice ab nb cb, .slice ap np cp] 59))
  have HX := Lib.hid (heap_alloc_new w (.cells #[.string s, .slice ab nb cb, .slice ap np cp] 59))
  obtain ⟨x0, x1, x2⟩ := box3c HX.out
  clear sb sp hnb hnp hp1 hp2 hsm
  go_enter Try.func46, Try.ntmps46
  by_cases hbl : 1048576 < nb
  · have l1 : decide ((nb : Int) > 1048576) = true := decide_eq_true (by omega)
    have l2 : decide (1048576 < (nb : Int)) = true := decide_eq_true (by omega)
    have HF : Hid (flB b p = false) := Lib.hid (by unfold flB; rw [← HNB.out, decide_eq_false (by omega)]; rfl)
    clear hbl
    go_wp2
    go_ret
    rw [HF.out]
    exact ⟨rfl, BX.out⟩
  have l1 : decide ((nb : Int) > 1048576) = false := decide_eq_false (by omega)
  have l2 : decide (1048576 < (nb : Int)) = false := decide_eq_false (by omega)
  have HBL := Lib.hid hbl
  have HF : Hid (flB b p = okP b p) := Lib.hid (by unfold flB; rw [← HNB.out, decide_eq_true (by omega)]; rfl)
  clear hbl
  go_wp2_with fail
  clear l1 l2 x0 x1 x2
  go_loopw [3, 14] (fun nn t wr => ∃ i q : Nat, i ≤ np ∧ t = .int .i64 (i : Int) ∧ nn = .int .i64 (q : Int) ∧ Hid (q = (apL b (p.take i)).length) ∧ Hid (okP b (p.take i) = true) ∧ Hid (q ≤ 1048576) ∧ Hid (wr.heap[w.heap.size]? = some (.cells #[.string s, .slice ab nb cb, .slice ap np cp] 59 (0, 0))) ∧ Hid (Below w.heap.size w wr)) (fun _ t _ => np - (intOf t).toNat)
  case atStart => exact ⟨0, nb, by omega, rfl, rfl, Lib.hid (by have h2 := HNB.out; show nb = b.length; omega), Lib.hid rfl, Lib.hid (by have h1 := HBL.out; omega), HX, BX⟩
  case round =>
    obtain ⟨i, q, hi, rfl, rfl, HQ, HO, HL, HG, HBB⟩ := hrel
    obtain ⟨x0, x1, x2⟩ := box3c HG.out
    have hcp := HCP.out
    by_cases hin : i < np
    · have l1 : decide ((i : Int) < (np : Int)) = true := decide_eq_true (by omega)
      have p0 : (0 : Int) ≤ (i : Int) := by omega
      have p1 : (i : Int) < (np : Int) := by omega
      have hip : i < p.length := by rw [← HNP.out]; exact hin
      obtain ⟨b1, o1, c1, dv, hv, k0, k1, k2, hr, hd⟩ := rd_wat (rd_below SP.out HBB.out) hip
      obtain ⟨rfl, -, -⟩ : ap = some ⟨b1, o1, none⟩ ∧ np = p.length ∧ cp = c1 := by simpa using hv
      have SD := Lib.hid (rd8_sl hd)
      have H1 := Lib.hid (okP_bad1 (b := b) hip)
      have H2 := Lib.hid (okP_bad2 (b := b) hip)
      have H3 := Lib.hid (okP_next (b := b) hip HO.out)
      have H4 := Lib.hid (apL_take (b := b) hip)
      have H5 := Lib.hid (growN_apW (apL b (p.take i)) (p.getD i wr0))
      rw [← HQ.out] at H5
      have HSX := Lib.hid (HSM.out (p.getD i wr0) (by rw [List.getD_eq_getElem?_getD, List.getElem?_eq_getElem hip]; exact List.getElem_mem hip))
      obtain ⟨x, hx⟩ : ∃ z, z = p.getD i wr0 := ⟨_, rfl⟩
      rw [← hx] at k0 k2 hr SD H1 H2 H3 H4 H5 HSX
      obtain ⟨off, data, cut⟩ := x
      dsimp only at k0 k2 hr SD
      obtain ⟨ad, cd, rfl, -, -⟩ := sl_form SD.out
      obtain ⟨nd, hnd⟩ : ∃ z, z = data.length := ⟨_, rfl⟩
      rw [← hnd] at SD k1
      have HND := Lib.hid hnd
      have BA1 := Lib.hid (bel_al0 wr (.cells #[.int .i64 off, .slice ad nd cd, .bool cut] 96))
      have HB1 := Lib.hid (heap_alloc_new wr (.cells #[.int .i64 off, .slice ad nd cd, .bool cut] 96))
      obtain ⟨y0, y1, y2⟩ := box3c HB1.out
      have HI := Lib.hid hin
      have B7 := Lib.hid (btA HBB.out BA1.out)
      have GR := Lib.hid (fun h1 h2 => pgrown_w q (off, data, cut) (.slice ad nd cd) nd _ (sl_below SD.out BA1.out) HND.out h1 h2 (by rw [HND.out]; exact HSX.out))
      dsimp only at GR
      clear hip hv hr hd hx hnd hin
      by_cases h1 : off < 0
      · have e1 : decide (off < 0) = true := decide_eq_true h1
        have HK := Lib.hid (H1.out (by unfold wOk; dsimp only; rw [decide_eq_false (by omega : ¬ 0 ≤ off)]; rfl))
        clear h1
        go_wp2
        go_ret
        rw [HF.out, HK.out]
        exact ⟨rfl, B7.out⟩
      have e1 : decide (off < 0) = false := decide_eq_false h1
      by_cases h2 : 1048576 < off
      · have e2 : decide (off > 1048576) = true := decide_eq_true h2
        have e3 : decide (1048576 < off) = true := decide_eq_true h2
        have HK := Lib.hid (H1.out (by unfold wOk; dsimp only; rw [decide_eq_false (by omega : ¬ off ≤ 1048576)]; simp))
        clear h1 h2
        go_wp2
        go_ret
        rw [HF.out, HK.out]
        exact ⟨rfl, B7.out⟩
      have e2 : decide (off > 1048576) = false := decide_eq_false h2
      have e3 : decide (1048576 < off) = false := decide_eq_false h2
      have HOF := Lib.hid (And.intro h1 h2)
      have GR2 := Lib.hid (GR.out (by omega) (by omega))
      have HW : Hid (¬ (cut = true ∧ 0 < nd) → nd ≤ 1048576 → wOk (off, data, cut) = true) := Lib.hid (fun g1 g2 => by
        unfold wOk
        dsimp only
        rw [decide_eq_true (by omega : 0 ≤ off), decide_eq_true (by omega : off ≤ 1048576), ← HND.out, decide_eq_true g2]
        cases cut
        · simp
        · have : nd = 0 := by simp at g1; omega
          rw [this]; rfl)
      have HGL : Hid (growN q (off, data, cut) ≤ 1048576 → cut = false → nd ≤ 1048576) := Lib.hid (fun g1 g2 => by
        subst g2
        have g3 : max q (off.toNat + data.length) ≤ 1048576 := g1
        rw [← HND.out] at g3
        omega)
      clear h1 h2 GR
      by_cases h3 : cut = true ∧ 0 < nd
      · obtain ⟨rfl, h3⟩ := h3
        have e6 : decide ((nd : Int) > 0) = true := decide_eq_true (by omega)
        have e7 : decide (0 < (nd : Int)) = true := decide_eq_true (by omega)
        have HK := Lib.hid (H1.out (by unfold wOk; dsimp only; rw [← HND.out, decide_eq_true h3]; simp))
        clear GR2 HW HGL
        go_wp2
        go_ret
        rw [HF.out, HK.out]
        exact ⟨rfl, B7.out⟩
      have e6 : cut = true → decide ((nd : Int) > 0) = false := fun h => decide_eq_false (by intro h4; exact h3 ⟨h, by omega⟩)
      have e7 : cut = true → decide (0 < (nd : Int)) = false := fun h => decide_eq_false (by intro h4; exact h3 ⟨h, by omega⟩)
      have e10 : cut = true → ¬ 0 < nd := fun h g => h3 ⟨h, g⟩
      have HW2 := Lib.hid (HW.out h3)
      have H0C : Hid (cut = true → nd = 0) := Lib.hid (fun h => by
        rcases Nat.eq_zero_or_pos nd with g | g
        · exact g
        · exact absurd ⟨h, g⟩ h3)
      clear h3 HW
      obtain ⟨r, hr⟩ : ∃ z, z = growN q (off, data, cut) := ⟨_, rfl⟩
      rw [← hr] at GR2 HGL H5
      clear hr
      have HG7 := Lib.hid ((BA1.out.block _ (lt_of_some0 HG.out)).trans HG.out)
      by_cases h6 : 1048576 < r
      · have f1 : decide ((r : Int) > 1048576) = true := decide_eq_true (by omega)
        have f2 : decide (1048576 < (r : Int)) = true := decide_eq_true (by omega)
        have HK := Lib.hid (H2.out (by rw [H5.out]; omega))
        clear h6
        cases cut
        all_goals
          try have e8 := e6 rfl
          try have e9 := e7 rfl
          try have e11 := e10 rfl
          clear e6 e7 e10
          go_wp2_with fail
          refine GR2.out.mono ?_
          rintro e w6 ⟨rfl, hb6⟩
          go_wp2
          go_ret
          rw [HF.out, HK.out]
          exact ⟨rfl, btA B7.out hb6⟩
      have f1 : decide ((r : Int) > 1048576) = false := decide_eq_false (by omega)
      have f2 : decide (1048576 < (r : Int)) = false := decide_eq_false (by omega)
      have HR6 : Hid (r ≤ 1048576) := Lib.hid (by omega)
      have HW3 := Lib.hid (HW2.out (by
        cases cut
        · exact HGL.out HR6.out rfl
        · rw [H0C.out rfl]; omega))
      have HO2 := Lib.hid (H3.out HW3.out (by rw [H5.out]; exact HR6.out))
      have HQ2 : Hid (r = (apL b (p.take (i + 1))).length) := Lib.hid (by rw [H4.out, H5.out])
      clear h6
      cases cut
      all_goals
        try have e8 := e6 rfl
        try have e9 := e7 rfl
        try have e11 := e10 rfl
        clear e6 e7 e10
        go_wp2_with fail
        refine GR2.out.mono ?_
        rintro e w6 ⟨rfl, hb6⟩
        have B8 := Lib.hid (btA B7.out hb6)
        have HG8 := Lib.hid ((hb6.block _ (lt_of_some0 HG7.out)).trans HG7.out)
        clear hb6 x0 x1 x2 y0 y1 y2 k0 k1 k2
        go_wp2
        go_roundw
        case rel =>
          have hi2 := HI.out
          exact ⟨i + 1, r, by omega, by go_num, rfl, HQ2, HO2, HR6, HG8, B8⟩
        case measure =>
          have hi2 := HI.out
          simp [intOf]
          omega
    · obtain rfl : i = np := by omega
      have l1 : decide ((i : Int) < (i : Int)) = false := decide_eq_false (by omega)
      have ht : p.take i = p := List.take_of_length_le (by rw [HNP.out]; exact Nat.le_refl _)
      rw [ht] at HO
      clear ht
      go_wp2
      go_ret
      rw [HF.out, HO.out]
      exact ⟨rfl, HBB.out⟩
theorem wOk_off {x : Wr} (h : wOk x = true) : 0 ≤ x.1 ∧ x.1 ≤ 1048576 ∧ x.2.1.length ≤ 1048576 := by
  unfold wOk at h
  simp only [Bool.and_eq_true, decide_eq_true_eq] at h
  exact ⟨h.1.1.1, h.1.1.2, h.2⟩
set_option maxRecDepth 100000 in
set_option maxHeartbeats 6400000 in
theorem plength_any (s : ByteArray) (bv pv : Value) (b : List Nat) (p : List Wr) (w : World) (sb : Sl w bv b) (sp : Rd (fun _ => True) w (.sl tyW) [pv] p) (hf : flB b p = true) : Calls Try.prog 50 #[.agg #[.string s, bv, pv]] w fun e w' => e = .returned (.int .i64 (((contL (s, b, p)).length : Nat) : Int)) ∧ Below w.heap.size w w' := by
  have HC : Hid (contL (s, b, p) = apL b p) := Lib.hid (by unfold contL; rw [if_pos hf])
  have hok : okP b p = true := by unfold flB at hf; rw [Bool.and_eq_true] at hf; exact hf.2
  have HOK := Lib.hid hok
  rw [HC.out]
  obtain ⟨ab, cb, rfl, -, -⟩ := sl_form sb
  obtain ⟨ap, cp, rfl, hp1, hp2⟩ := rd_sl sp
  obtain ⟨nb, hnb⟩ : ∃ z, z = b.length := ⟨_, rfl⟩
  obtain ⟨np, hnp⟩ : ∃ z, z = p.length := ⟨_, rfl⟩
  obtain ⟨rr, hrr⟩ : ∃ z, z = (apL b p).length := ⟨_, rfl⟩
  rw [← hnb] at sb ⊢
  rw [← hrr]
  rw [← hnp] at sp hp1 ⊢
  have HNB := Lib.hid hnb
  have HNP := Lib.hid hnp
  have HRR := Lib.hid hrr
  have SP := Lib.hid sp
  have HCP : Hid (np ≤ 9223372036854775807) := Lib.hid (by unfold maxLen at hp2; omega)
  have BX := Lib.hid (bel_al0 w (.cells #[.string s, .slice ab nb cb, .slice ap np cp] 59))
  have HX := Lib.hid (heap_alloc_new w (.cells #[.string s, .slice ab nb cb, .slice ap np cp] 59))
  obtain ⟨x0, x1, x2⟩ := box3c HX.out
  clear sb sp hnb hnp hp1 hp2 hf hok hrr
  go_enter Try.func50, Try.ntmps50
  go_wp2_with fail
  clear x0 x1 x2
  go_loopw [3, 12] (fun nn t wr => ∃ i q : Nat, i ≤ np ∧ t = .int .i64 (i : Int) ∧ nn = .int .i64 (q : Int) ∧ Hid (q = (apL b (p.take i)).length) ∧ Hid (wr.heap[w.heap.size]? = some (.cells #[.string s, .slice ab nb cb, .slice ap np cp] 59 (0, 0))) ∧ Hid (Below w.heap.size w wr)) (fun _ t _ => np - (intOf t).toNat)
  case atStart => exact ⟨0, nb, by omega, rfl, rfl, Lib.hid (by have h2 := HNB.out; show nb = b.length; omega), HX, BX⟩
  case round =>
    obtain ⟨i, q, hi, rfl, rfl, HQ, HG, HBB⟩ := hrel
    obtain ⟨x0, x1, x2⟩ := box3c HG.out
    have hcp := HCP.out
    by_cases hin : i < np
    · have l1 : decide ((i : Int) < (np : Int)) = true := decide_eq_true (by omega)
      have p0 : (0 : Int) ≤ (i : Int) := by omega
      have p1 : (i : Int) < (np : Int) := by omega
      have hip : i < p.length := by rw [← HNP.out]; exact hin
      obtain ⟨b1, o1, c1, dv, hv, k0, k1, k2, hr, hd⟩ := rd_wat (rd_below SP.out HBB.out) hip
      obtain ⟨rfl, -, -⟩ : ap = some ⟨b1, o1, none⟩ ∧ np = p.length ∧ cp = c1 := by simpa using hv
      have SD := Lib.hid (rd8_sl hd)
      have H4 := Lib.hid (apL_take (b := b) hip)
      have H5 := Lib.hid (growN_apW (apL b (p.take i)) (p.getD i wr0))
      rw [← HQ.out] at H5
      have HW := Lib.hid (wOk_off (wOk_at HOK.out hip))
      obtain ⟨x, hx⟩ : ∃ z, z = p.getD i wr0 := ⟨_, rfl⟩
      rw [← hx] at k0 k2 hr SD H4 H5 HW
      obtain ⟨off, data, cut⟩ := x
      dsimp only at k0 k2 hr SD
      obtain ⟨ad, cd, rfl, -, -⟩ := sl_form SD.out
      obtain ⟨nd, hnd⟩ : ∃ z, z = data.length := ⟨_, rfl⟩
      rw [← hnd] at SD k1
      have HND := Lib.hid hnd
      have BA1 := Lib.hid (bel_al0 wr (.cells #[.int .i64 off, .slice ad nd cd, .bool cut] 96))
      have HB1 := Lib.hid (heap_alloc_new wr (.cells #[.int .i64 off, .slice ad nd cd, .bool cut] 96))
      obtain ⟨y0, y1, y2⟩ := box3c HB1.out
      have HI := Lib.hid hin
      have B7 := Lib.hid (btA HBB.out BA1.out)
      have GR2 := Lib.hid (pgrown_w q (off, data, cut) (.slice ad nd cd) nd _ (sl_below SD.out BA1.out) HND.out HW.out.1 HW.out.2.1 (by rw [HND.out]; exact Nat.le_trans HW.out.2.2 (by decide)))
      dsimp only at GR2
      obtain ⟨r, hr2⟩ : ∃ z, z = growN q (off, data, cut) := ⟨_, rfl⟩
      rw [← hr2] at GR2 H5
      have HQ2 : Hid (r = (apL b (p.take (i + 1))).length) := Lib.hid (by rw [H4.out, H5.out])
      have HG7 := Lib.hid ((BA1.out.block _ (lt_of_some0 HG.out)).trans HG.out)
      clear hip hv hr hd hx hnd hin hr2
      go_wp2_with fail
      refine GR2.out.mono ?_
      rintro e w6 ⟨rfl, hb6⟩
      have B8 := Lib.hid (btA B7.out hb6)
      have HG8 := Lib.hid ((hb6.block _ (lt_of_some0 HG7.out)).trans HG7.out)
      clear hb6 x0 x1 x2 y0 y1 y2 k0 k1 k2
      go_wp2
      go_roundw
      case rel =>
        have hi2 := HI.out
        exact ⟨i + 1, r, by omega, by go_num, rfl, HQ2, HG8, B8⟩
      case measure =>
        have hi2 := HI.out
        simp [intOf]
        omega
    · obtain rfl : i = np := by omega
      have l1 : decide ((i : Int) < (i : Int)) = false := decide_eq_false (by omega)
      have ht : p.take i = p := List.take_of_length_le (by rw [HNP.out]; exact Nat.le_refl _)
      rw [ht, ← HRR.out] at HQ
      have hq := HQ.out
      subst hq
      clear ht
      go_wp2
      go_ret
      exact ⟨rfl, HBB.out⟩
end Go.Proofs.Ytpipgbjkkiheaaa.Gf
namespace Go.Proofs.Ytpipgbjkkiheaaa.Gf
open Go Go.Joins Go.ChangeShapes Go.WideShapes Go.ChangeAt Go.RowKit Go.Deep Go.Proofs.Ytpipgbjkkiheaaa.By Go.Proofs.Ytpipgbjkkiheaaa.Qt Go.Sort

/-- No data of a write is longer than any memory. -/
def SmD (d : Dk) : Prop := ∀ f ∈ d.2.2, ∀ x ∈ f.2.2, x.2.1.length ≤ 1099511627776
theorem regrown_eq0 {P : Program} {f : FuncId} {args : Array Value} {w : World} {v : Value} (h : ∀ w', Calls P f args w' fun e w'' => e = .returned v ∧ w' = w'') : ∀ d os, Calls P f args (grow (redrawn w d) os) fun e w'' => e = .returned v ∧ ∃ p : Regrown, w'' = grow (redrawn w p.d) p.os := fun d os => (h _).mono fun _ _ h2 => ⟨h2.1, ⟨d, os⟩, h2.2.symm⟩
theorem nmLe_ltS (a b : ByteArray) : (!(Op.bytesLess b.toList a.toList)) = nmLe a b := by
  cases h : nmLe a b with
  | false => have := nmLe_false.1 h; unfold ltS at this; rw [this]; rfl
  | true =>
    cases h2 : Op.bytesLess b.toList a.toList with
    | false => rfl
    | true => have h3 : nmLe a b = false := nmLe_false.2 h2; rw [h] at h3; cases h3
set_option maxRecDepth 100000 in
set_option maxHeartbeats 6400000 in
theorem pvalid10_any (v : Value) (d : Dk) (w : World) (s : Dv w v d) (hsm : SmD d) : Calls Try.prog 16 #[v] w fun e w' => e = .returned (.bool (validB d)) ∧ Below w.heap.size w w' := by
  obtain ⟨fv, rfl, ⟨hr1, hr2⟩, sf⟩ := s
  obtain ⟨af, cf, rfl, hc1, hc2⟩ := rd_sl sf
  obtain ⟨cap, left, L⟩ := d
  dsimp only at hr1 hr2 sf hc1 ⊢
  obtain ⟨n, hn⟩ : ∃ z, z = L.length := ⟨_, rfl⟩
  rw [← hn] at sf hc1 ⊢
  have HN := Lib.hid hn
  have SF := Lib.hid sf
  have HSM : Hid (∀ f ∈ L, ∀ x ∈ f.2.2, x.2.1.length ≤ 1099511627776) := Lib.hid hsm
  have BX := Lib.hid (bel_al0 w (.cells #[.int .i64 cap, .int .i64 left, .slice af n cf] 33))
  have HX := Lib.hid (heap_alloc_new w (.cells #[.int .i64 cap, .int .i64 left, .slice af n cf] 33))
  have BAD := Lib.hid (fun i => validB_bad (d := (cap, left, L)) (i := i))
  obtain ⟨x0, x1, x2⟩ := box3c HX.out
  clear sf hn hc1 hc2 hr1 hr2 hsm
  go_enter Try.func16, Try.ntmps16
  by_cases h1 : cap < 0
  · have e1 : decide (cap < 0) = true := decide_eq_true h1
    have HV : Hid (validB (cap, left, L) = false) := Lib.hid (by unfold validB; rw [decide_eq_false (show ¬ 0 ≤ cap by omega)]; rfl)
    clear h1
    go_wp2
    go_ret
    rw [HV.out]
    exact ⟨rfl, BX.out⟩
  have e1 : decide (cap < 0) = false := decide_eq_false h1
  by_cases h2 : left < -1
  · have e2 : decide (left < -1) = true := decide_eq_true h2
    have HV : Hid (validB (cap, left, L) = false) := Lib.hid (by unfold validB; dsimp only; rw [decide_eq_false (show ¬ -1 ≤ left by omega)]; simp)
    clear h1 h2
    go_wp2
    go_ret
    rw [HV.out]
    exact ⟨rfl, BX.out⟩
  have e2 : decide (left < -1) = false := decide_eq_false h2
  by_cases h3 : 256 < n
  · have e3 : decide ((n : Int) > 256) = true := decide_eq_true (by omega)
    have e4 : decide (256 < (n : Int)) = true := decide_eq_true (by omega)
    have HV : Hid (validB (cap, left, L) = false) := Lib.hid (by unfold validB; dsimp only; rw [← HN.out, decide_eq_false (show ¬ n ≤ 256 by omega)]; simp)
    clear h1 h2 h3
    go_wp2
    go_ret
    rw [HV.out]
    exact ⟨rfl, BX.out⟩
  have e3 : decide ((n : Int) > 256) = false := decide_eq_false (by omega)
  have e4 : decide (256 < (n : Int)) = false := decide_eq_false (by omega)
  have HV : Hid (FilesOk L n → validB (cap, left, L) = true) := Lib.hid fun h => by
    unfold validB
    dsimp only
    rw [← HN.out, decide_eq_true h, decide_eq_true (show 0 ≤ cap by omega), decide_eq_true (show -1 ≤ left by omega), decide_eq_true (show n ≤ 256 by omega)]
    rfl
  have HN256 := Lib.hid h3
  clear h1 h2 h3
  go_wp2_with fail
  clear x0 x1 x2 e1 e2 e3 e4
  go_loopw [22] (fun t wr => ∃ i : Nat, i ≤ n ∧ t = .int .i64 (i : Int) ∧ Hid (FilesOk L i) ∧ Hid (wr.heap[w.heap.size]? = some (.cells #[.int .i64 cap, .int .i64 left, .slice af n cf] 33 (0, 0))) ∧ Hid (Below w.heap.size w wr)) (fun t _ => n - (intOf t).toNat)
  case atStart => exact ⟨0, by omega, rfl, Lib.hid (fun j hj => by omega), HX, BX⟩
  case round =>
    obtain ⟨i, hi, rfl, HF, HG, HBB⟩ := hrel
    obtain ⟨x0, x1, x2⟩ := box3c HG.out
    have hn256 := HN256.out
    by_cases hin : i < n
    · have l1 : decide ((i : Int) < (n : Int)) = true := decide_eq_true (by omega)
      have p0 : (0 : Int) ≤ (i : Int) := by omega
      have p1 : (i : Int) < (n : Int) := by omega
      have hip : i < L.length := by rw [← HN.out]; exact hin
      obtain ⟨b1, o1, c1, bv, pv, hv, k0, k1, k2, hsz, hb, hp⟩ := rd_fat (rd_below SF.out HBB.out) hip
      obtain ⟨rfl, -, -⟩ : af = some ⟨b1, o1, none⟩ ∧ n = L.length ∧ cf = c1 := by simpa using hv
      have BA1 := Lib.hid (bel_al0 wr (.cells #[.string (L.getD i fl0).1, bv, pv] 59))
      have HB1 := Lib.hid (heap_alloc_new wr (.cells #[.string (L.getD i fl0).1, bv, pv] 59))
      have RV := Lib.hid (regrown_bel0 (w := wr.alloc (.cells #[.string (L.getD i fl0).1, bv, pv] 59)) fun W hW => psound_any (L.getD i fl0).1 bv pv (L.getD i fl0).2.1 (L.getD i fl0).2.2 W (sl_below (rd8_sl hb) (btA BA1.out hW)) (rd_below hp (btA BA1.out hW)) (HSM.out _ (by rw [getD_F hip]; exact List.getElem_mem hip)))
      have RN := Lib.hid (regrown_eq0 (w := wr.alloc (.cells #[.string (L.getD i fl0).1, bv, pv] 59)) fun W => pname_any (L.getD i fl0).1 hsz W)
      have BADI := Lib.hid (BAD.out i hip)
      have NXT := Lib.hid (filesOk_succ HF.out)
      have HFB : Hid (fileB (L.getD i fl0) = (nameB (L.getD i fl0).1 && flB (L.getD i fl0).2.1 (L.getD i fl0).2.2)) := Lib.hid rfl
      generalize fileB (L.getD i fl0) = fb at *
      generalize nameB (L.getD i fl0).1 = nb0 at *
      generalize flB (L.getD i fl0).2.1 (L.getD i fl0).2.2 = fl1 at *
      have B7 := Lib.hid (btA HBB.out BA1.out)
      have HG7 := Lib.hid ((BA1.out.block _ (lt_of_some0 HG.out)).trans HG.out)
      have HP := Lib.hid (fun (h : 0 < i) => (rd_fat (rd_below SF.out B7.out) (i := i - 1) (by have := HN.out; omega)))
      obtain ⟨sa, hsa⟩ : ∃ z, z = (L.getD i fl0).1 := ⟨_, rfl⟩
      rw [← hsa] at RV RN BADI NXT k0 BA1 HB1 B7 HG7 HP
      obtain ⟨ab, cb, rfl, -, -⟩ := sl_form (rd8_sl hb)
      obtain ⟨ap, cp, rfl, -, -⟩ := rd_sl hp
      generalize (L.getD i fl0).2.1.length = nb at *
      generalize (L.getD i fl0).2.2.length = np at *
      have HI := Lib.hid hin
      clear hv hip hb hp hsz hsa x0 x1 x2 HG
      go_wp2_with fail
      clear k0 k1 k2 p0 p1 l1
      generalize wr.alloc (.cells #[.string sa, .slice ab nb cb, .slice ap np cp] 59) = W1 at *
      have w1 : wrap64 ((i : Int) + 1) = ((i + 1 : Nat) : Int) := by unfold wrap64; omega
      have W1' := Lib.hid w1
      clear w1
      obtain ⟨y0, y1, y2⟩ := box3c HB1.out
      obtain ⟨-, -, x2⟩ := box3c HG7.out
      have c0 := cells_regrown y0
      have c1 := cells_regrown y1
      have c2 := cells_regrown y2
      have d2 := cells_regrown x2
      clear y0 y1 y2 x2
      cases nb0
      · have HB0 := Lib.hid (BADI.out (by rw [HFB.out]; simp))
        clear BADI NXT HFB hin HP
        refine wp_region_bl (by kernel_rfl) (by kernel_rfl) ?_
        repeat (go_big_quiet_step (fail))
        go_big_quiet_step ((go_at_call 23; with_reducible exact RN.out _ _))
        repeat (go_big_quiet_step (fail))
        refine wpQuiet_nil ?_
        intro w9 hb9
        go_wp2
        go_ret
        rw [HB0.out]
        exact ⟨rfl, btA B7.out hb9⟩
      cases fl1
      · have HB0 := Lib.hid (BADI.out (by rw [HFB.out]; simp))
        clear BADI NXT HFB hin HP
        refine wp_region_bl (by kernel_rfl) (by kernel_rfl) ?_
        repeat (go_big_quiet_step (fail))
        go_big_quiet_step ((go_at_call 23; with_reducible exact RN.out _ _))
        repeat (go_big_quiet_step (fail))
        go_big_quiet_step ((go_at_call 46; with_reducible exact RV.out _ _))
        repeat (go_big_quiet_step (fail))
        refine wpQuiet_nil ?_
        intro w9 hb9
        go_wp2
        go_ret
        rw [HB0.out]
        exact ⟨rfl, btA B7.out hb9⟩
      have hfb : fb = true := HFB.out
      subst hfb
      clear HFB
      by_cases hi0 : i = 0
      · have l2 : decide ((i : Int) > 0) = false := decide_eq_false (by omega)
        have l3 : decide (0 < (i : Int)) = false := decide_eq_false (by omega)
        have l4 : ¬ 0 < i := by omega
        have HF1 := Lib.hid (NXT.out rfl (fun h => absurd h l4))
        clear hi0 BADI NXT HP hin
        refine wp_region_bl (by kernel_rfl) (by kernel_rfl) ?_
        repeat (go_big_quiet_step (fail))
        go_big_quiet_step ((go_at_call 23; with_reducible exact RN.out _ _))
        repeat (go_big_quiet_step (fail))
        go_big_quiet_step ((go_at_call 46; with_reducible exact RV.out _ _))
        repeat (go_big_quiet_step (fail))
        refine wpQuiet_nil ?_
        intro w9 hb9
        have HG9 := Lib.hid ((hb9.block _ (lt_of_some0 HG7.out)).trans HG7.out)
        have B9 := Lib.hid (btA B7.out hb9)
        clear c0 c1 c2 d2 l2 l3 l4 hb9
        go_wp2
        go_roundw
        case rel => have hi2 := HI.out; exact ⟨i + 1, by omega, by go_num, HF1, HG9, B9⟩
        case measure => have hi2 := HI.out; simp [intOf]; omega
      · have l2 : decide ((i : Int) > 0) = true := decide_eq_true (by omega)
        have l3 : decide (0 < (i : Int)) = true := decide_eq_true (by omega)
        have l4 : 0 < i := by omega
        obtain ⟨b2, o2, c3, bv2, pv2, hv2, m0, -, -, -, -, -⟩ := HP.out l4
        obtain ⟨⟨rfl, rfl⟩, -, -⟩ : (b1 = b2 ∧ o1 = o2) ∧ n = L.length ∧ cf = c3 := by simpa using hv2
        have c4 := cells_regrown m0
        have p2 : (0 : Int) ≤ (i : Int) - 1 := by omega
        have p3 : (i : Int) - 1 < (n : Int) := by omega
        have p4 : wrap64 ((i : Int) - 1) = (i : Int) - 1 := by unfold wrap64; omega
        have p5 : IntKind.i64.wrap ((i : Int) - 1) = (i : Int) - 1 := IntWalk.i64_in _ (by clear p4; omega)
        have p6 : ((i : Int) - 1).toNat = i - 1 := by clear p4 p5; omega
        generalize (L.getD (i - 1) fl0).1 = sb at *
        have hle : (!(Op.bytesLess sb.toList sa.toList)) = nmLe sa sb := nmLe_ltS sa sb
        obtain ⟨le, hLE⟩ : ∃ z, z = nmLe sa sb := ⟨_, rfl⟩
        rw [← hLE] at hle BADI NXT
        have hrun : ∀ W, (binOp .geq 9 (.string sb) (.string sa)).run Try.prog W = .ok (.bool le) W := fun W => by rw [binOp_string_geq, hle]; rfl
        clear hv2 hi0 hLE m0 hin HP
        cases le
        · have HF1 := Lib.hid (NXT.out rfl fun _ => rfl)
          clear BADI NXT
          refine wp_region_bl (by kernel_rfl) (by kernel_rfl) ?_
          repeat (go_big_quiet_step (fail))
          go_big_quiet_step ((go_at_call 23; with_reducible exact RN.out _ _))
          repeat (go_big_quiet_step (fail))
          go_big_quiet_step ((go_at_call 46; with_reducible exact RV.out _ _))
          repeat (go_big_quiet_step (fail))
          refine wpQuiet_nil ?_
          intro w9 hb9
          have HG9 := Lib.hid ((hb9.block _ (lt_of_some0 HG7.out)).trans HG7.out)
          have B9 := Lib.hid (btA B7.out hb9)
          clear c0 c1 c2 d2 l2 l3 l4 hb9 c4 p2 p3 p4 p5 p6
          go_wp2
          go_roundw
          case rel => have hi2 := HI.out; exact ⟨i + 1, by omega, by go_num, HF1, HG9, B9⟩
          case measure => have hi2 := HI.out; simp [intOf]; omega
        · have HB0 := Lib.hid (BADI.out (by simp [l4]))
          clear BADI NXT
          refine wp_region_bl (by kernel_rfl) (by kernel_rfl) ?_
          repeat (go_big_quiet_step (fail))
          go_big_quiet_step ((go_at_call 23; with_reducible exact RN.out _ _))
          repeat (go_big_quiet_step (fail))
          go_big_quiet_step ((go_at_call 46; with_reducible exact RV.out _ _))
          repeat (go_big_quiet_step (fail))
          refine wpQuiet_nil ?_
          intro w9 hb9
          clear c0 c1 c2 d2 l2 l3 l4 c4 p2 p3 p4 p5 p6
          go_wp2
          go_ret
          rw [HB0.out]
          exact ⟨rfl, btA B7.out hb9⟩
    · obtain rfl : i = n := by omega
      have l1 : decide ((i : Int) < (i : Int)) = false := decide_eq_false (by omega)
      go_wp2
      go_ret
      rw [HV.out HF.out]
      exact ⟨rfl, HBB.out⟩
end Go.Proofs.Ytpipgbjkkiheaaa.Gf
namespace Go.Proofs.Ytpipgbjkkiheaaa.Gf
open Go Go.Joins Go.ChangeShapes Go.WideShapes Go.ChangeAt Go.RowKit Go.Deep Go.Lib Go.Proofs.Ytpipgbjkkiheaaa.By Go.Proofs.Ytpipgbjkkiheaaa.Qt

/-- What a comparison of names answers. -/
def cmpS (a b : ByteArray) : Int := if ltS a b = true then -1 else if ltS b a = true then 1 else 0
theorem cmpS_lt {a b : ByteArray} : cmpS a b < 0 ↔ ltS a b = true := by
  unfold cmpS
  split
  · simp_all
  · split <;> simp_all
theorem cmpS_eq {a b : ByteArray} : cmpS a b = 0 ↔ nmEq a b = true := by
  unfold cmpS
  split
  · rename_i h
    simp [nmEq_lt h]
  · rename_i h
    split
    · rename_i h2
      simp [nmEq_gt h2]
    · rename_i h2
      simp [nmEq_iff.2 (ltS_eqS (by simpa using h) (by simpa using h2))]
set_option maxRecDepth 100000 in
set_option maxHeartbeats 6400000 in
theorem pcmps_any (a b : ByteArray) (w : World) : Calls Try.prog 73 #[.string a, .string b] w fun e w' => e = .returned (.int .i64 (cmpS a b)) ∧ w = w' := by
  have hc : ltS a b = true ∨ (ltS a b = false ∧ ltS b a = true) ∨ a = b := by
    cases h : ltS a b
    · cases h2 : ltS b a
      · exact Or.inr (Or.inr (ltS_eqS h h2))
      · exact Or.inr (Or.inl ⟨rfl, rfl⟩)
    · exact Or.inl rfl
  rcases hc with h | ⟨h, h2⟩ | rfl
  · have n1 : (!(a.toList == a.toList)) = false := by simp
    have n2 : (!(b.toList == b.toList)) = false := by simp
    have n3 : Op.bytesLess a.toList b.toList = true := h
    have HR : Hid (cmpS a b = -1) := Lib.hid (by unfold cmpS; rw [if_pos h])
    rw [HR.out]
    clear h
    go_enter Try.func73, Try.ntmps73
    go_wp2
    go_ret
    exact ⟨rfl, rfl⟩
  · have n1 : (!(a.toList == a.toList)) = false := by simp
    have n2 : (!(b.toList == b.toList)) = false := by simp
    have n3 : Op.bytesLess a.toList b.toList = false := h
    have n4 : (a.toList == b.toList) = false := nmEq_gt h2
    have n5 : ¬ a.toList = b.toList := by simpa using n4
    have HR : Hid (cmpS a b = 1) := Lib.hid (by unfold cmpS; rw [if_neg (by rw [h]; decide), if_pos h2])
    rw [HR.out]
    clear h h2
    go_enter Try.func73, Try.ntmps73
    go_wp2
    go_ret
    exact ⟨rfl, rfl⟩
  · have n1 : (!(a.toList == a.toList)) = false := by simp
    have n3 : Op.bytesLess a.toList a.toList = false := ltS_irr a
    have HR : Hid (cmpS a a = 0) := Lib.hid (by unfold cmpS; rw [if_neg (by rw [ltS_irr]; decide), if_neg (by rw [ltS_irr]; decide)])
    rw [HR.out]
    go_enter Try.func73, Try.ntmps73
    go_wp2
    go_ret
    exact ⟨rfl, rfl⟩
set_option maxRecDepth 100000 in
set_option maxHeartbeats 6400000 in
theorem pfname_any (s : ByteArray) (bv pv : Value) (w : World) : Calls Try.prog 121 #[.agg #[.string s, bv, pv]] w fun e w' => e = .returned (.string s) ∧ Below w.heap.size w w' := by
  have BX := Lib.hid (bel_al0 w (.cells #[.string s, bv, pv] 59))
  have HX := Lib.hid (heap_alloc_new w (.cells #[.string s, bv, pv] 59))
  obtain ⟨x0, -, -⟩ := box3c HX.out
  go_enter Try.func121, Try.ntmps121
  go_wp2
  go_ret
  exact ⟨rfl, BX.out⟩
set_option maxRecDepth 100000 in
set_option maxHeartbeats 6400000 in
theorem pfcmp_any (s t : ByteArray) (bv pv : Value) (w : World) : Calls Try.prog 99 #[.agg #[.string s, bv, pv], .string t] w fun e w' => e = .returned (.int .i64 (cmpS s t)) ∧ Below w.heap.size w w' := by
  have BX := Lib.hid (bel_al0 w (.cells #[.string s, bv, pv] 59))
  have HX := Lib.hid (heap_alloc_new w (.cells #[.string s, bv, pv] 59))
  obtain ⟨x0, x1, x2⟩ := box3c HX.out
  have NM := Lib.hid (pfname_any s bv pv)
  have CM := Lib.hid (pcmps_any s t)
  generalize cmpS s t = r at *
  go_enter Try.func99, Try.ntmps99
  have hm : ∀ (v : Value) (W : World), (method 274 59 v "needlestore/disk.name").run Try.prog W = .ok (121, v) W := fun _ _ => by kernel_rfl
  go_wp2_with fail
  refine (NM.out _).mono ?_
  rintro e w2 ⟨rfl, hb2⟩
  have B2 := Lib.hid (btA BX.out hb2)
  clear x0 x1 x2 hb2
  go_wp2_with fail
  refine (CM.out _).mono ?_
  rintro e w3 ⟨rfl, rfl⟩
  go_wp2
  go_ret
  exact ⟨rfl, B2.out⟩
end Go.Proofs.Ytpipgbjkkiheaaa.Gf
