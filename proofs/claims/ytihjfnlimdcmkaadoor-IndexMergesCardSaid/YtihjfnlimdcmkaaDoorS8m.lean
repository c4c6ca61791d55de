/- What is proved here: plain mathematics of a stable sort by merging: no program text. -/
import Derived.Test.YtihjfnlimdcmkaaDoorM8
import Derived.Sort.LotA
namespace Go.Proofs.YtihjfnlimdcmkaaDoor.Gf
open Go Go.Sort Go.Proofs.YtihjfnlimdcmkaaDoor.Crc

instance : Inhabited Itm := ⟨z0⟩
/-- The keys ascend; equal ones may follow one another. -/
def Srt (L : List Itm) : Prop := L.Pairwise fun a b => a.key ≤ b.key
/-- The same items for each key, in the same order. -/
def Kq (L M : List Itm) : Prop := ∀ k : Nat, L.filter (fun x => x.key == k) = M.filter (fun x => x.key == k)
theorem Kq.refl (L : List Itm) : Kq L L := fun _ => rfl
theorem Kq.symm {L M : List Itm} (h : Kq L M) : Kq M L := fun k => (h k).symm
theorem Kq.trans {L M N : List Itm} (h : Kq L M) (h2 : Kq M N) : Kq L N := fun k => (h k).trans (h2 k)
theorem Kq.app {A B C D : List Itm} (h : Kq A B) (h2 : Kq C D) : Kq (A ++ C) (B ++ D) := fun k => by rw [List.filter_append, List.filter_append, h k, h2 k]
theorem Kq.mem {L M : List Itm} (h : Kq L M) {x : Itm} (hx : x ∈ L) : x ∈ M := by
  have : x ∈ L.filter fun y => y.key == x.key := List.mem_filter.2 ⟨hx, by simp⟩
  rw [h x.key] at this
  exact (List.mem_filter.1 this).1
theorem Kq.swap {X Y : List Itm} (h : ∀ x ∈ X, ∀ y ∈ Y, x.key ≠ y.key) : Kq (X ++ Y) (Y ++ X) := fun k => by
  rw [List.filter_append, List.filter_append]
  by_cases c : ∃ x ∈ X, x.key = k
  · obtain ⟨x, hx, rfl⟩ := c
    have e : Y.filter (fun y => y.key == x.key) = [] := List.filter_eq_nil_iff.2 fun y hy => by have := h x hx y hy; simp; omega
    rw [e]; simp
  · have e : X.filter (fun y => y.key == k) = [] := List.filter_eq_nil_iff.2 fun y hy => by simp; exact fun e => c ⟨y, hy, e⟩
    rw [e]; simp
theorem lk_filter (L : List Itm) (k : Nat) : lk L k = (L.filter fun x => x.key == k).getLast? := by
  unfold lk
  rw [← List.head?_filter, List.filter_reverse, List.head?_reverse]
/-- The exchange of two places, as lists. -/
theorem swp_list {d : Array Itm} {P Q R : List Itm} {x y : Itm} (h : d.toList = P ++ x :: (Q ++ y :: R)) {i j : Nat} (hi : i = P.length) (hj : j = P.length + 1 + Q.length) : (swp d i j).toList = P ++ y :: (Q ++ x :: R) := by
  subst hi hj
  obtain rfl : d = (P ++ x :: (Q ++ y :: R)).toArray := by rw [← h]
  have g1 : (P ++ x :: (Q ++ y :: R)).toArray[P.length]! = x := by simp
  have g2 : (P ++ x :: (Q ++ y :: R)).toArray[P.length + 1 + Q.length]! = y := by
    simp only [getElem!_def, List.getElem?_toArray]
    rw [List.getElem?_append_right (by omega), show P.length + 1 + Q.length - P.length = Q.length + 1 by omega, List.getElem?_cons_succ, List.getElem?_append_right (by omega)]
    simp
  unfold swp
  rw [g1, g2]
  simp only [List.setIfInBounds_toArray]
  rw [List.set_append_right _ _ (by omega), Nat.sub_self, List.set_cons_zero, List.set_append_right _ _ (by omega), show P.length + 1 + Q.length - P.length = Q.length + 1 by omega, List.set_cons_succ, List.set_append_right _ _ (by omega)]
  simp
theorem swp_list' {d : Array Itm} {P Q R : List Itm} {x y : Itm} (h : d.toList = P ++ x :: (Q ++ y :: R)) {i j : Nat} (hi : i = P.length + 1 + Q.length) (hj : j = P.length) : (swp d i j).toList = P ++ y :: (Q ++ x :: R) := by
  have e : swp d i j = swp d j i := by
    have hs : d.size = P.length + 1 + Q.length + 1 + R.length := by rw [← Array.length_toList, h]; simp; omega
    refine Array.ext (by rw [swp_size, swp_size]) fun t h1 h2 => ?_
    have a := swp_get d (i := i) (j := j) (by omega) (by omega) t
    have b := swp_get d (i := j) (j := i) (by omega) (by omega) t
    rw [getElem!_pos _ t h1] at a
    rw [getElem!_pos _ t h2] at b
    rw [a, b]
    by_cases c1 : t = j
    · by_cases c2 : t = i
      · rw [if_pos c1, if_pos c2, ← c1, ← c2]
      · rw [if_pos c1, if_neg c2, if_pos c1]
    · rw [if_neg c1]
      by_cases c2 : t = i
      · rw [if_pos c2, if_pos c2]
      · rw [if_neg c2, if_neg c2, if_neg c1]
  rw [e]
  exact swp_list h hj hi
/-- An item of the array by its place in a list of parts. -/
theorem at_list {d : Array Itm} {P R : List Itm} {x : Itm} (h : d.toList = P ++ x :: R) {i : Nat} (hi : i = P.length) : d[i]! = x := by
  subst hi
  obtain rfl : d = (P ++ x :: R).toArray := by rw [← h]
  simp
theorem size_list {d : Array Itm} {L : List Itm} (h : d.toList = L) : d.size = L.length := by rw [← h, Array.length_toList]
theorem srt_app {X Y : List Itm} : Srt (X ++ Y) ↔ Srt X ∧ Srt Y ∧ ∀ x ∈ X, ∀ y ∈ Y, x.key ≤ y.key := List.pairwise_append
theorem srt_cons {x : Itm} {L : List Itm} : Srt (x :: L) ↔ (∀ y ∈ L, x.key ≤ y.key) ∧ Srt L := List.pairwise_cons
/-- A list cut at a place. -/
theorem cut_at {L : List Itm} {i : Nat} (h : i < L.length) : L = L.take i ++ L[i] :: L.drop (i + 1) := by
  rw [← List.drop_eq_getElem_cons h, List.take_append_drop]
/-- What the two places of a sorted list say of the parts that they bound. -/
theorem srt_le {L : List Itm} (h : Srt L) {i : Nat} (hi : i < L.length) : (∀ x ∈ L.take (i + 1), x.key ≤ L[i].key) ∧ (∀ y ∈ L.drop i, L[i].key ≤ y.key) := by
  have e := cut_at hi
  rw [e] at h
  obtain ⟨h1, h2, h3⟩ := srt_app.1 h
  constructor
  · intro x hx
    rw [List.take_succ_eq_append_getElem hi] at hx
    rcases List.mem_append.1 hx with m | m
    · exact h3 x m _ (List.mem_cons_self ..)
    · rw [List.mem_singleton.1 m]; exact Nat.le_refl _
  · intro y hy
    rw [List.drop_eq_getElem_cons hi] at hy
    rcases List.mem_cons.1 hy with m | m
    · rw [m]; exact Nat.le_refl _
    · exact (srt_cons.1 h2).1 y m
theorem srt_part {L : List Itm} (h : Srt L) (i : Nat) : Srt (L.take i) ∧ Srt (L.drop i) := ⟨h.sublist (List.take_sublist _ _), h.sublist (List.drop_sublist _ _)⟩
/-- Merging: where the first parts stand before the second ones. -/
theorem merge_kq {X1 X2 Y1 Y2 Z1 Z2 : List Itm} (h1 : Kq Z1 (X1 ++ Y1)) (h2 : Kq Z2 (X2 ++ Y2)) (hs1 : Srt Z1) (hs2 : Srt Z2) (hx : ∀ x ∈ X2, ∀ y ∈ Y1, y.key < x.key) (hxy : ∀ x ∈ X1, ∀ y ∈ Y2, x.key ≤ y.key) (hX : Srt (X1 ++ X2)) (hY : Srt (Y1 ++ Y2)) :
    Srt (Z1 ++ Z2) ∧ Kq (Z1 ++ Z2) ((X1 ++ X2) ++ (Y1 ++ Y2)) := by
  refine ⟨srt_app.2 ⟨hs1, hs2, fun x hx1 y hy1 => ?_⟩, ?_⟩
  · have a := h1.mem hx1
    have b := h2.mem hy1
    rcases List.mem_append.1 a with a | a <;> rcases List.mem_append.1 b with b | b
    · exact (srt_app.1 hX).2.2 x a y b
    · exact hxy x a y b
    · exact Nat.le_of_lt (hx y b x a)
    · exact (srt_app.1 hY).2.2 x a y b
  · refine (h1.app h2).trans ?_
    have e : Kq (Y1 ++ X2) (X2 ++ Y1) := Kq.swap fun y hy x hx' => by have := hx x hx' y hy; omega
    have := ((Kq.refl X1).app e).app (Kq.refl Y2)
    simpa [List.append_assoc] using this
/-- Each stretch of s items is sorted. -/
def Bl (s : Nat) (L : List Itm) : Prop := ∀ t, Srt ((L.drop (t * s)).take s)
theorem bl_all {s : Nat} {L : List Itm} (h : Bl s L) (hs : L.length ≤ s) : Srt L := by
  have := h 0
  rwa [Nat.zero_mul, List.drop_zero, List.take_of_length_le hs] at this
theorem srt_nil : Srt [] := List.Pairwise.nil
/-- Stretches of s2 below the place t * s2, stretches of s from there on. -/
structure Two (s2 s t : Nat) (L : List Itm) : Prop where
  lo : ∀ u, u < t → Srt ((L.drop (u * s2)).take s2)
  hi : ∀ v, t * s2 ≤ v * s → Srt ((L.drop (v * s)).take s)
/-- One stretch of s2 items is sorted anew. -/
theorem Two.step {s2 s t : Nat} {A X Z B : List Itm} (h : Two s2 s t (A ++ (X ++ B))) (hA : A.length = t * s2) (hX : X.length = s2) (hZ : Z.length = s2) (hs : Srt Z) : Two s2 s (t + 1) (A ++ (Z ++ B)) := by
  constructor
  · intro u hu
    by_cases c : u = t
    · subst c
      rw [List.drop_append_of_le_length (by omega), List.drop_of_length_le (by omega), List.nil_append, List.take_append_of_le_length (by omega), List.take_of_length_le (by omega)]
      exact hs
    · have h1 := h.lo u (by omega)
      have hle : u * s2 + s2 ≤ A.length := by
        rw [hA]
        have := Nat.mul_le_mul_right s2 (show u + 1 ≤ t by omega)
        rwa [Nat.add_mul, Nat.one_mul] at this
      rw [List.drop_append_of_le_length (by omega), List.take_append_of_le_length (by rw [List.length_drop]; omega)] at h1 ⊢
      exact h1
  · intro v hv
    rw [Nat.add_mul, Nat.one_mul] at hv
    have h1 := h.hi v (by omega)
    have e : ∀ Y : List Itm, Y.length = s2 → (A ++ (Y ++ B)).drop (v * s) = B.drop (v * s - (t * s2 + s2)) := fun Y hY => by
      rw [← List.append_assoc, List.drop_append, List.drop_of_length_le (by rw [List.length_append]; omega), List.nil_append, List.length_append, hA, hY]
    rw [e X hX] at h1
    rw [e Z hZ]
    exact h1
/-- The last stretch, which may be shorter. -/
theorem Two.last {s2 s t : Nat} {A X Z : List Itm} (h : Two s2 s t (A ++ X)) (hA : A.length = t * s2) (hX : X.length ≤ s2) (hZ : Z.length = X.length) (hs : Srt Z) : Bl s2 (A ++ Z) := by
  intro u
  by_cases c : u < t
  · have h1 := h.lo u c
    have hle : u * s2 + s2 ≤ A.length := by
      rw [hA]
      have := Nat.mul_le_mul_right s2 (show u + 1 ≤ t by omega)
      rwa [Nat.add_mul, Nat.one_mul] at this
    rw [List.drop_append_of_le_length (by omega), List.take_append_of_le_length (by rw [List.length_drop]; omega)] at h1 ⊢
    exact h1
  · have hle : t * s2 ≤ u * s2 := Nat.mul_le_mul_right s2 (by omega)
    rw [List.drop_append, List.drop_of_length_le (by omega), List.nil_append]
    exact hs.sublist ((List.take_sublist _ _).trans (List.drop_sublist _ _))
theorem two_start {s2 s : Nat} {L : List Itm} (h : Bl s L) : Two s2 s 0 L := ⟨fun _ hu => absurd hu (Nat.not_lt_zero _), fun v _ => h v⟩
/-- A list cut in three. -/
theorem cut3 (L : List Itm) (a n : Nat) : L = L.take a ++ ((L.drop a).take n ++ L.drop (a + n)) := by
  rw [← List.drop_drop, List.take_append_drop, List.take_append_drop]
/-- One of each run of equal keys: the first. -/
def cp : Option Nat → List Itm → List Itm
  | _, [] => []
  | p, x :: r => if p = some x.key then cp (some x.key) r else x :: cp (some x.key) r
theorem cp_snoc (x : Itm) : ∀ (p : Option Nat) (L : List Itm), cp p (L ++ [x]) = if (match L.getLast? with | some y => some y.key | none => p) = some x.key then cp p L else cp p L ++ [x]
  | p, [] => by
    show (if p = some x.key then cp (some x.key) [] else x :: cp (some x.key) []) = if p = some x.key then [] else [x]
    rfl
  | p, y :: r => by
    rw [List.cons_append, cp, cp, cp_snoc x (some y.key) r]
    have e : (match (y :: r).getLast? with | some z => some z.key | none => p) = (match r.getLast? with | some z => some z.key | none => some y.key) := by
      cases r with
      | nil => rfl
      | cons z r => rw [List.getLast?_cons_cons]; cases h : (z :: r).getLast? with
        | none => simp at h
        | some u => rfl
    rw [e]
    generalize (match r.getLast? with | some z => some z.key | none => some y.key) = o
    by_cases c1 : p = some y.key <;> by_cases c2 : o = some x.key <;> simp [c1, c2]
theorem cp_mem : ∀ (p : Option Nat) (L : List Itm) (z : Itm), z ∈ cp p L → z ∈ L
  | _, [], _, h => by simp [cp] at h
  | p, x :: r, z, h => by
    unfold cp at h
    split at h
    · exact List.mem_cons_of_mem _ (cp_mem _ r z h)
    · rcases List.mem_cons.1 h with h | h
      · rw [h]; simp
      · exact List.mem_cons_of_mem _ (cp_mem _ r z h)
theorem cp_gt : ∀ (p : Nat) (L : List Itm), Srt L → (∀ x ∈ L, p ≤ x.key) → ∀ z ∈ cp (some p) L, p < z.key
  | _, [], _, _, z, h => by simp [cp] at h
  | p, x :: r, hs, hp, z, h => by
    obtain ⟨h1, h2⟩ := srt_cons.1 hs
    have hpx := hp x (by simp)
    unfold cp at h
    split at h
    · next e => have e' : p = x.key := by simpa using e
                have := cp_gt x.key r h2 h1 z h
                omega
    · next e =>
      have e' : p ≠ x.key := fun c => e (by rw [c])
      rcases List.mem_cons.1 h with h | h
      · rw [h]; omega
      · have := cp_gt x.key r h2 h1 z h
        omega
theorem cp_asc : ∀ (p : Option Nat) (L : List Itm), Srt L → Asc (cp p L)
  | _, [], _ => List.Pairwise.nil
  | p, x :: r, hs => by
    obtain ⟨h1, h2⟩ := srt_cons.1 hs
    unfold cp
    split
    · exact cp_asc _ r h2
    · exact asc_cons.2 ⟨fun y hy => cp_gt x.key r h2 h1 y hy, cp_asc _ r h2⟩
theorem cp_lk : ∀ (p : Option Nat) (L : List Itm), Srt L → ∀ k, p ≠ some k → (∀ q, p = some q → ∀ x ∈ L, q ≤ x.key) → ∀ z, z ∈ cp p L ∧ z.key = k ↔ (L.filter fun x => x.key == k).head? = some z
  | _, [], _, k, _, _, z => by simp [cp]
  | p, x :: r, hs, k, hp, hq, z => by
    obtain ⟨h1, h2⟩ := srt_cons.1 hs
    unfold cp
    by_cases c : x.key = k
    · rw [if_neg (fun e => hp (by rw [e, c])), List.filter_cons_of_pos (by simpa using c), List.head?_cons]
      constructor
      · rintro ⟨m, hk⟩
        rcases List.mem_cons.1 m with m | m
        · rw [m]
        · have := cp_gt x.key r h2 h1 z m; omega
      · intro e
        obtain rfl : x = z := by simpa using e
        exact ⟨by simp, c⟩
    · rw [List.filter_cons_of_neg (by simpa using c), ← cp_lk (some x.key) r h2 k (fun e => c (by simpa using e)) (fun q e y hy => (Option.some.inj e) ▸ h1 y hy) z]
      split
      · rfl
      · constructor
        · rintro ⟨m, hk⟩
          rcases List.mem_cons.1 m with m | m
          · rw [m] at hk; exact absurd hk c
          · exact ⟨m, hk⟩
        · rintro ⟨m, hk⟩
          exact ⟨List.mem_cons_of_mem _ m, hk⟩
/-- Turned round, sorted with equal ones in their order, and of each key the first: of each key the last. -/
theorem ordered_eq {L S : List Itm} (hs : Srt S) (hk : Kq S L.reverse) : cp none S = sortL L := by
  refine asc_ext (cp_asc none S hs) (asc_sortL L) fun k => ?_
  rw [lk_sortL]
  refine opt_ext fun z => ?_
  rw [asc_lk (cp_asc none S hs), cp_lk none S hs k (by simp) (fun q e => by cases e), hk k, List.head?_filter]
  unfold lk
  rfl
end Go.Proofs.YtihjfnlimdcmkaaDoor.Gf
