/- What is proved here: what layer 11 leans on, out of the older layers. -/
import Derived.Test.YtbmlpafbdbhaiaaGreatDoorL11
import Derived.Sort.LotA
import Derived.Shelf.SlSortCmp.KitK
import Derived.Sort.WalkB2
import Derived.Sort.WalkB12
import Derived.Deep.LoopGhost
import Derived.Deep.Cut
namespace Go.Proofs.YtbmlpafbdbhaiaaGreatDoor.Gf
open Go Go.Lib Go.Proofs Go.RowKit Go.Shelf Go.Sort
set_option maxRecDepth 100000
set_option maxHeartbeats 204800000
instance : Inhabited Itm := ⟨z0⟩
/-- The keys ascend; equal ones may follow one another. -/
def Srt (L : List Itm) : Prop := L.Pairwise fun a b => a.key ≤ b.key
/-- The same items for each key, in the same order. -/
def Kq (L M : List Itm) : Prop := ∀ k : Nat, L.filter (fun x => x.key == k) = M.filter (fun x => x.key == k)
theorem Kq.refl (L : List Itm) : Kq L L := fun _ => rfl
theorem Kq.symm {L M : List Itm} (h : Kq L M) : Kq M L := fun k => (h k).symm
theorem Kq.trans {L M N : List Itm} (h : Kq L M) (h2 : Kq M N) : Kq L N := fun k => (h k).trans (h2 k)
theorem Kq.app {A B C D : List Itm} (h : Kq A B) (h2 : Kq C D) : Kq (A ++ C) (B ++ D) := fun k => by rw [List.filter_append, List.filter_append, h k, h2 k]
theorem Kq.mem {L M : List Itm} (h : Kq L M) {x : Itm} (hx : x ∈ L) : x ∈ M := by
  have : x ∈ L.filter fun y => y.key == x.key := List.mem_filter.2 ⟨hx, by simp⟩
  rw [h x.key] at this
  exact (List.mem_filter.1 this).1
theorem Kq.swap {X Y : List Itm} (h : ∀ x ∈ X, ∀ y ∈ Y, x.key ≠ y.key) : Kq (X ++ Y) (Y ++ X) := fun k => by
  rw [List.filter_append, List.filter_append]
  by_cases c : ∃ x ∈ X, x.key = k
  · obtain ⟨x, hx, rfl⟩ := c
    have e : Y.filter (fun y => y.key == x.key) = [] := List.filter_eq_nil_iff.2 fun y hy => by have := h x hx y hy; simp; omega
    rw [e]; simp
  · have e : X.filter (fun y => y.key == k) = [] := List.filter_eq_nil_iff.2 fun y hy => by simp; exact fun e => c ⟨y, hy, e⟩
    rw [e]; simp
/-- The exchange of two places, as lists. -/
theorem swp_list {d : Array Itm} {P Q R : List Itm} {x y : Itm} (h : d.toList = P ++ x :: (Q ++ y :: R)) {i j : Nat} (hi : i = P.length) (hj : j = P.length + 1 + Q.length) : (swp d i j).toList = P ++ y :: (Q ++ x :: R) := by
  subst hi hj
  obtain rfl : d = (P ++ x :: (Q ++ y :: R)).toArray := by rw [← h]
  have g1 : (P ++ x :: (Q ++ y :: R)).toArray[P.length]! = x := by simp
  have g2 : (P ++ x :: (Q ++ y :: R)).toArray[P.length + 1 + Q.length]! = y := by
    simp only [getElem!_def, List.getElem?_toArray]
    rw [List.getElem?_append_right (by omega), show P.length + 1 + Q.length - P.length = Q.length + 1 by omega, List.getElem?_cons_succ, List.getElem?_append_right (by omega)]
    simp
  unfold swp
  rw [g1, g2]
  simp only [List.setIfInBounds_toArray]
  rw [List.set_append_right _ _ (by omega), Nat.sub_self, List.set_cons_zero, List.set_append_right _ _ (by omega), show P.length + 1 + Q.length - P.length = Q.length + 1 by omega, List.set_cons_succ, List.set_append_right _ _ (by omega)]
  simp
theorem swp_list' {d : Array Itm} {P Q R : List Itm} {x y : Itm} (h : d.toList = P ++ x :: (Q ++ y :: R)) {i j : Nat} (hi : i = P.length + 1 + Q.length) (hj : j = P.length) : (swp d i j).toList = P ++ y :: (Q ++ x :: R) := by
  have e : swp d i j = swp d j i := by
    have hs : d.size = P.length + 1 + Q.length + 1 + R.length := by rw [← Array.length_toList, h]; simp; omega
    refine Array.ext (by rw [swp_size, swp_size]) fun t h1 h2 => ?_
    have a := swp_get d (i := i) (j := j) (by omega) (by omega) t
    have b := swp_get d (i := j) (j := i) (by omega) (by omega) t
    rw [getElem!_pos _ t h1] at a
    rw [getElem!_pos _ t h2] at b
    rw [a, b]
    by_cases c1 : t = j
    · by_cases c2 : t = i
      · rw [if_pos c1, if_pos c2, ← c1, ← c2]
      · rw [if_pos c1, if_neg c2, if_pos c1]
    · rw [if_neg c1]
      by_cases c2 : t = i
      · rw [if_pos c2, if_pos c2]
      · rw [if_neg c2, if_neg c2, if_neg c1]
  rw [e]
  exact swp_list h hj hi
/-- An item of the array by its place in a list of parts. -/
theorem at_list {d : Array Itm} {P R : List Itm} {x : Itm} (h : d.toList = P ++ x :: R) {i : Nat} (hi : i = P.length) : d[i]! = x := by
  subst hi
  obtain rfl : d = (P ++ x :: R).toArray := by rw [← h]
  simp
theorem size_list {d : Array Itm} {L : List Itm} (h : d.toList = L) : d.size = L.length := by rw [← h, Array.length_toList]
theorem srt_app {X Y : List Itm} : Srt (X ++ Y) ↔ Srt X ∧ Srt Y ∧ ∀ x ∈ X, ∀ y ∈ Y, x.key ≤ y.key := List.pairwise_append
theorem srt_cons {x : Itm} {L : List Itm} : Srt (x :: L) ↔ (∀ y ∈ L, x.key ≤ y.key) ∧ Srt L := List.pairwise_cons
/-- A list cut at a place. -/
theorem cut_at {L : List Itm} {i : Nat} (h : i < L.length) : L = L.take i ++ L[i] :: L.drop (i + 1) := by
  rw [← List.drop_eq_getElem_cons h, List.take_append_drop]
/-- What the two places of a sorted list say of the parts that they bound. -/
theorem srt_le {L : List Itm} (h : Srt L) {i : Nat} (hi : i < L.length) : (∀ x ∈ L.take (i + 1), x.key ≤ L[i].key) ∧ (∀ y ∈ L.drop i, L[i].key ≤ y.key) := by
  have e := cut_at hi
  rw [e] at h
  obtain ⟨h1, h2, h3⟩ := srt_app.1 h
  constructor
  · intro x hx
    rw [List.take_succ_eq_append_getElem hi] at hx
    rcases List.mem_append.1 hx with m | m
    · exact h3 x m _ (List.mem_cons_self ..)
    · rw [List.mem_singleton.1 m]; exact Nat.le_refl _
  · intro y hy
    rw [List.drop_eq_getElem_cons hi] at hy
    rcases List.mem_cons.1 hy with m | m
    · rw [m]; exact Nat.le_refl _
    · exact (srt_cons.1 h2).1 y m
/-- Merging: where the first parts stand before the second ones. -/
theorem merge_kq {X1 X2 Y1 Y2 Z1 Z2 : List Itm} (h1 : Kq Z1 (X1 ++ Y1)) (h2 : Kq Z2 (X2 ++ Y2)) (hs1 : Srt Z1) (hs2 : Srt Z2) (hx : ∀ x ∈ X2, ∀ y ∈ Y1, y.key < x.key) (hxy : ∀ x ∈ X1, ∀ y ∈ Y2, x.key ≤ y.key) (hX : Srt (X1 ++ X2)) (hY : Srt (Y1 ++ Y2)) :
    Srt (Z1 ++ Z2) ∧ Kq (Z1 ++ Z2) ((X1 ++ X2) ++ (Y1 ++ Y2)) := by
  refine ⟨srt_app.2 ⟨hs1, hs2, fun x hx1 y hy1 => ?_⟩, ?_⟩
  · have a := h1.mem hx1
    have b := h2.mem hy1
    rcases List.mem_append.1 a with a | a <;> rcases List.mem_append.1 b with b | b
    · exact (srt_app.1 hX).2.2 x a y b
    · exact hxy x a y b
    · exact Nat.le_of_lt (hx y b x a)
    · exact (srt_app.1 hY).2.2 x a y b
  · refine (h1.app h2).trans ?_
    have e : Kq (Y1 ++ X2) (X2 ++ Y1) := Kq.swap fun y hy x hx' => by have := hx x hx' y hy; omega
    have := ((Kq.refl X1).app e).app (Kq.refl Y2)
    simpa [List.append_assoc] using this
/-- Each stretch of s items is sorted. -/
def Bl (s : Nat) (L : List Itm) : Prop := ∀ t, Srt ((L.drop (t * s)).take s)
theorem bl_all {s : Nat} {L : List Itm} (h : Bl s L) (hs : L.length ≤ s) : Srt L := by
  have := h 0
  rwa [Nat.zero_mul, List.drop_zero, List.take_of_length_le hs] at this
theorem srt_nil : Srt [] := List.Pairwise.nil
/-- Stretches of s2 below the place t * s2, stretches of s from there on. -/
structure Two (s2 s t : Nat) (L : List Itm) : Prop where
  lo : ∀ u, u < t → Srt ((L.drop (u * s2)).take s2)
  hi : ∀ v, t * s2 ≤ v * s → Srt ((L.drop (v * s)).take s)
/-- One stretch of s2 items is sorted anew. -/
theorem Two.step {s2 s t : Nat} {A X Z B : List Itm} (h : Two s2 s t (A ++ (X ++ B))) (hA : A.length = t * s2) (hX : X.length = s2) (hZ : Z.length = s2) (hs : Srt Z) : Two s2 s (t + 1) (A ++ (Z ++ B)) := by
  constructor
  · intro u hu
    by_cases c : u = t
    · subst c
      rw [List.drop_append_of_le_length (by omega), List.drop_of_length_le (by omega), List.nil_append, List.take_append_of_le_length (by omega), List.take_of_length_le (by omega)]
      exact hs
    · have h1 := h.lo u (by omega)
      have hle : u * s2 + s2 ≤ A.length := by
        rw [hA]
        have := Nat.mul_le_mul_right s2 (show u + 1 ≤ t by omega)
        rwa [Nat.add_mul, Nat.one_mul] at this
      rw [List.drop_append_of_le_length (by omega), List.take_append_of_le_length (by rw [List.length_drop]; omega)] at h1 ⊢
      exact h1
  · intro v hv
    rw [Nat.add_mul, Nat.one_mul] at hv
    have h1 := h.hi v (by omega)
    have e : ∀ Y : List Itm, Y.length = s2 → (A ++ (Y ++ B)).drop (v * s) = B.drop (v * s - (t * s2 + s2)) := fun Y hY => by
      rw [← List.append_assoc, List.drop_append, List.drop_of_length_le (by rw [List.length_append]; omega), List.nil_append, List.length_append, hA, hY]
    rw [e X hX] at h1
    rw [e Z hZ]
    exact h1
/-- The last stretch, which may be shorter. -/
theorem Two.last {s2 s t : Nat} {A X Z : List Itm} (h : Two s2 s t (A ++ X)) (hA : A.length = t * s2) (hX : X.length ≤ s2) (hZ : Z.length = X.length) (hs : Srt Z) : Bl s2 (A ++ Z) := by
  intro u
  by_cases c : u < t
  · have h1 := h.lo u c
    have hle : u * s2 + s2 ≤ A.length := by
      rw [hA]
      have := Nat.mul_le_mul_right s2 (show u + 1 ≤ t by omega)
      rwa [Nat.add_mul, Nat.one_mul] at this
    rw [List.drop_append_of_le_length (by omega), List.take_append_of_le_length (by rw [List.length_drop]; omega)] at h1 ⊢
    exact h1
  · have hle : t * s2 ≤ u * s2 := Nat.mul_le_mul_right s2 (by omega)
    rw [List.drop_append, List.drop_of_length_le (by omega), List.nil_append]
    exact hs.sublist ((List.take_sublist _ _).trans (List.drop_sublist _ _))
theorem two_start {s2 s : Nat} {L : List Itm} (h : Bl s L) : Two s2 s 0 L := ⟨fun _ hu => absurd hu (Nat.not_lt_zero _), fun v _ => h v⟩
/-- A list cut in three. -/
theorem cut3 (L : List Itm) (a n : Nat) : L = L.take a ++ ((L.drop a).take n ++ L.drop (a + n)) := by
  rw [← List.drop_drop, List.take_append_drop, List.take_append_drop]
/-- One of each run of equal keys: the first. -/
def cp : Option Nat → List Itm → List Itm
  | _, [] => []
  | p, x :: r => if p = some x.key then cp (some x.key) r else x :: cp (some x.key) r
theorem cp_snoc (x : Itm) : ∀ (p : Option Nat) (L : List Itm), cp p (L ++ [x]) = if (match L.getLast? with | some y => some y.key | none => p) = some x.key then cp p L else cp p L ++ [x]
  | p, [] => by
    show (if p = some x.key then cp (some x.key) [] else x :: cp (some x.key) []) = if p = some x.key then [] else [x]
    rfl
  | p, y :: r => by
    rw [List.cons_append, cp, cp, cp_snoc x (some y.key) r]
    have e : (match (y :: r).getLast? with | some z => some z.key | none => p) = (match r.getLast? with | some z => some z.key | none => some y.key) := by
      cases r with
      | nil => rfl
      | cons z r => rw [List.getLast?_cons_cons]; cases h : (z :: r).getLast? with
        | none => simp at h
        | some u => rfl
    rw [e]
    generalize (match r.getLast? with | some z => some z.key | none => some y.key) = o
    by_cases c1 : p = some y.key <;> by_cases c2 : o = some x.key <;> simp [c1, c2]
theorem cp_gt : ∀ (p : Nat) (L : List Itm), Srt L → (∀ x ∈ L, p ≤ x.key) → ∀ z ∈ cp (some p) L, p < z.key
  | _, [], _, _, z, h => by simp [cp] at h
  | p, x :: r, hs, hp, z, h => by
    obtain ⟨h1, h2⟩ := srt_cons.1 hs
    have hpx := hp x (by simp)
    unfold cp at h
    split at h
    · next e => have e' : p = x.key := by simpa using e
                have := cp_gt x.key r h2 h1 z h
                omega
    · next e =>
      have e' : p ≠ x.key := fun c => e (by rw [c])
      rcases List.mem_cons.1 h with h | h
      · rw [h]; omega
      · have := cp_gt x.key r h2 h1 z h
        omega
theorem cp_asc : ∀ (p : Option Nat) (L : List Itm), Srt L → Asc (cp p L)
  | _, [], _ => List.Pairwise.nil
  | p, x :: r, hs => by
    obtain ⟨h1, h2⟩ := srt_cons.1 hs
    unfold cp
    split
    · exact cp_asc _ r h2
    · exact asc_cons.2 ⟨fun y hy => cp_gt x.key r h2 h1 y hy, cp_asc _ r h2⟩
theorem cp_lk : ∀ (p : Option Nat) (L : List Itm), Srt L → ∀ k, p ≠ some k → (∀ q, p = some q → ∀ x ∈ L, q ≤ x.key) → ∀ z, z ∈ cp p L ∧ z.key = k ↔ (L.filter fun x => x.key == k).head? = some z
  | _, [], _, k, _, _, z => by simp [cp]
  | p, x :: r, hs, k, hp, hq, z => by
    obtain ⟨h1, h2⟩ := srt_cons.1 hs
    unfold cp
    by_cases c : x.key = k
    · rw [if_neg (fun e => hp (by rw [e, c])), List.filter_cons_of_pos (by simpa using c), List.head?_cons]
      constructor
      · rintro ⟨m, hk⟩
        rcases List.mem_cons.1 m with m | m
        · rw [m]
        · have := cp_gt x.key r h2 h1 z m; omega
      · intro e
        obtain rfl : x = z := by simpa using e
        exact ⟨by simp, c⟩
    · rw [List.filter_cons_of_neg (by simpa using c), ← cp_lk (some x.key) r h2 k (fun e => c (by simpa using e)) (fun q e y hy => (Option.some.inj e) ▸ h1 y hy) z]
      split
      · rfl
      · constructor
        · rintro ⟨m, hk⟩
          rcases List.mem_cons.1 m with m | m
          · rw [m] at hk; exact absurd hk c
          · exact ⟨m, hk⟩
        · rintro ⟨m, hk⟩
          exact ⟨List.mem_cons_of_mem _ m, hk⟩
/-- Turned round, sorted with equal ones in their order, and of each key the first: of each key the last. -/
theorem ordered_eq {L S : List Itm} (hs : Srt S) (hk : Kq S L.reverse) : cp none S = sortL L := by
  refine asc_ext (cp_asc none S hs) (asc_sortL L) fun k => ?_
  rw [lk_sortL]
  refine opt_ext fun z => ?_
  rw [asc_lk (cp_asc none S hs), cp_lk none S hs k (by simp) (fun q e => by cases e), hk k, List.head?_filter]
  unfold lk
  rfl
/-- Which key is less. -/
def cfK (x y : Itm) : Int := if x.key < y.key then -1 else if y.key < x.key then 1 else 0
theorem cfK_lt {x y : Itm} : cfK x y < 0 ↔ x.key < y.key := by
  unfold cfK
  split
  · simp_all
  · split
    · simp_all
    · simp_all
/-- What a program of this text bears of the sort's family, its items k cells each. -/
structure LG (P : Program) (k : Nat) : Prop where
  mixed : P.follows .mixedOrders = true
  fstable : P.funcs[155]? = some Tryz.f155
  fins : P.funcs[145]? = some Tryz.f145
  fsym : P.funcs[175]? = some Tryz.f175
  frot : P.funcs[187]? = some Tryz.f187
  fswr : P.funcs[192]? = some Tryz.f192
  t0 : P.underlying 0 = some (TypeDesc.tuple #[])
  a0 : ∀ w, (isAgg 0).run P w = .ok false w
  z0 : ∀ w, (Go.sizeOf 0).run P w = .ok 1 w
  v0 : ∀ w, (zeroValue 0).run P w = .ok (Value.tuple #[]) w
  t3 : P.underlying 3 = some (TypeDesc.int IntKind.i64)
  a3 : ∀ w, (isAgg 3).run P w = .ok false w
  z3 : ∀ w, (Go.sizeOf 3).run P w = .ok 1 w
  v3 : ∀ w, (zeroValue 3).run P w = .ok (Value.int IntKind.i64 0) w
  t4 : P.underlying 4 = some (TypeDesc.bool)
  a4 : ∀ w, (isAgg 4).run P w = .ok false w
  z4 : ∀ w, (Go.sizeOf 4).run P w = .ok 1 w
  v4 : ∀ w, (zeroValue 4).run P w = .ok (Value.bool false) w
  t22 : P.underlying 38 = some (TypeDesc.slice 56)
  a22 : ∀ w, (isAgg 38).run P w = .ok false w
  z22 : ∀ w, (Go.sizeOf 38).run P w = .ok 1 w
  v22 : ∀ w, (zeroValue 38).run P w = .ok (Value.slice none 0 0) w
  t51 : P.underlying 156 = some (TypeDesc.int IntKind.u64)
  a51 : ∀ w, (isAgg 156).run P w = .ok false w
  z51 : ∀ w, (Go.sizeOf 156).run P w = .ok 1 w
  v51 : ∀ w, (zeroValue 156).run P w = .ok (Value.int IntKind.u64 0) w
  t72 : P.underlying 141 = some (TypeDesc.func #[56, 56] #[3] false)
  a72 : ∀ w, (isAgg 141).run P w = .ok false w
  z72 : ∀ w, (Go.sizeOf 141).run P w = .ok 1 w
  v72 : ∀ w, (zeroValue 141).run P w = .ok (Value.nilFunc) w
  aE : ∀ w, (isAgg 56).run P w = .ok true w
  zE : ∀ w, (Go.sizeOf 56).run P w = .ok k w
theorem lgP : LG Tryz.prog 4 where
  mixed := by kernel_rfl
  fstable := Tryz.func155
  fins := Tryz.func145
  fsym := Tryz.func175
  frot := Tryz.func187
  fswr := Tryz.func192
  t0 := Tryz.underlying0
  a0 := Tryz.isAgg0
  z0 := Tryz.sizeOf0
  v0 := Tryz.zeroValue0
  t3 := Tryz.underlying3
  a3 := Tryz.isAgg3
  z3 := Tryz.sizeOf3
  v3 := Tryz.zeroValue3
  t4 := Tryz.underlying4
  a4 := Tryz.isAgg4
  z4 := Tryz.sizeOf4
  v4 := Tryz.zeroValue4
  t22 := Tryz.underlying38
  a22 := Tryz.isAgg38
  z22 := Tryz.sizeOf38
  v22 := Tryz.zeroValue38
  t51 := Tryz.underlying156
  a51 := Tryz.isAgg156
  z51 := Tryz.sizeOf156
  v51 := Tryz.zeroValue156
  t72 := Tryz.underlying141
  a72 := Tryz.isAgg141
  z72 := Tryz.sizeOf141
  v72 := Tryz.zeroValue141
  aE := Tryz.isAgg56
  zE := Tryz.sizeOf56
set_option maxRecDepth 1000000 in
theorem swr_any {P : Program} {k : Nat} (L : LG P k) (g : Nat) (cb : Array Value) (blk off cap a b n : Nat) (d0 d : Array Itm) (w0 w : World) (R : RowK itV k w0 blk off d0) (hs : d0.size = d.size) (S : SWK itV k w0 blk off d w) (A X M Y B : List Itm) (hd : d.toList = A ++ (X ++ (M ++ (Y ++ B)))) (ha : a = A.length) (hX : X.length = n) (hY : Y.length = n) (hb : b = a + n + M.length) (hsz : d.size < 4611686018427387904) :
    Calls P 192 #[.slice (some ⟨blk, off, none⟩) d.size cap, .int .i64 a, .int .i64 b, .int .i64 n, .func (.func g) #[] cb] w fun e w' => e = .returned (.tuple #[]) ∧ ∃ d' : Array Itm, d'.size = d.size ∧ d'.toList = A ++ (Y ++ (M ++ (X ++ B))) ∧ SWK itV k w0 blk off d' w' := by
  have mixed := L.mixed
  have t0 := L.t0; have a0 := L.a0; have z0 := L.z0; have v0 := L.v0
  have t3 := L.t3; have a3 := L.a3; have z3 := L.z3; have v3 := L.v3
  have t4 := L.t4; have a4 := L.a4; have z4 := L.z4; have v4 := L.v4
  have t22 := L.t22; have a22 := L.a22; have z22 := L.z22; have v22 := L.v22
  have t51 := L.t51; have a51 := L.a51; have z51 := L.z51; have v51 := L.v51
  have t72 := L.t72; have a72 := L.a72; have z72 := L.z72; have v72 := L.v72
  have u22 := run_underlying L.t22; have u51 := run_underlying L.t51; have u3 := run_underlying L.t3
  have aE := L.aE; have zE := L.zE
  have hlen : d.size = A.length + (n + (M.length + (n + B.length))) := by rw [size_list hd]; simp [hX, hY]
  have S0 : Aside (SWK itV k w0 blk off d w) := S
  have HX : Aside (X.length = n ∧ Y.length = n ∧ a = A.length ∧ b = a + n + M.length) := ⟨hX, hY, ha, hb⟩
  have HD : Aside (d.toList = A ++ (X ++ (M ++ (Y ++ B)))) := hd
  have hbn : b + n ≤ d.size := by omega
  have han : a + n ≤ d.size := by omega
  clear S hd hX hY ha hb hlen
  go_enter L.fswr, Tryz.ntmps192
  go_wp2
  go_loopg [10] n (fun kx s10 wr => ∃ (i : Nat) (dk X1 X2 Y1 Y2 : List Itm) (da : Array Itm), s10 = .int .i64 i ∧ i ≤ n ∧ n - i ≤ kx ∧ da.size = d.size ∧ Aside (SWK itV k w0 blk off da wr) ∧ Aside (da.toList = dk ∧ X = X1 ++ X2 ∧ Y = Y1 ++ Y2 ∧ X1.length = i ∧ Y1.length = i ∧ dk = A ++ (Y1 ++ (X2 ++ (M ++ (X1 ++ (Y2 ++ B)))))))
  case atStart => exact ⟨0, _, [], X, [], Y, d, rfl, Nat.zero_le _, Nat.le_refl _, rfl, S0, ⟨rfl, rfl, rfl, rfl, rfl, HD.out⟩⟩
  case round =>
    clear S0
    obtain ⟨i, dk, X1, X2, Y1, Y2, da, rfl, hin, hkx, hds, S1, H1⟩ := hrel
    by_cases hlt : i < n
    · have hltz : (i : Int) < (n : Int) := by omega
      obtain ⟨h1, h2, h3, h4, h5, h6⟩ := H1.out
      have hX2 : X2.length = n - i := by have := congrArg List.length h2; rw [List.length_append, HX.out.1] at this; omega
      have hY2 : Y2.length = n - i := by have := congrArg List.length h3; rw [List.length_append, HX.out.2.1] at this; omega
      obtain ⟨x, X2', rfl⟩ : ∃ x X', X2 = x :: X' := by cases X2 with | nil => simp at hX2; omega | cons x r => exact ⟨x, r, rfl⟩
      obtain ⟨y, Y2', rfl⟩ : ∃ x X', Y2 = x :: X' := by cases Y2 with | nil => simp at hY2; omega | cons x r => exact ⟨x, r, rfl⟩
      have hda : da.toList = (A ++ Y1) ++ x :: ((X2' ++ (M ++ X1)) ++ y :: (Y2' ++ B)) := by rw [h1, h6]; simp
      have hX2' : X2'.length = n - i - 1 := by simp at hX2; omega
      have HL : Aside ((swp da (a + i) (b + i)).toList = (A ++ Y1) ++ y :: ((X2' ++ (M ++ X1)) ++ x :: (Y2' ++ B))) := swp_list hda (by simp [h5, HX.out.2.2.1]) (by
        simp only [List.length_append, h5, h4, hX2']
        have := HX.out.2.2
        omega)
      have H2 : Aside (X = (X1 ++ [x]) ++ X2' ∧ Y = (Y1 ++ [y]) ++ Y2' ∧ (X1 ++ [x]).length = i + 1 ∧ (Y1 ++ [y]).length = i + 1) := ⟨by rw [h2]; simp, by rw [h3]; simp, by simp [h4], by simp [h5]⟩
      clear h1 h2 h3 h4 h5 h6 hX2 hY2 hda hX2' H1
      go_wp2_with fail
      have ea4i : (((a : Int) + (i : Int))).toNat = a + i := by omega
      have pa4i : (0 : Int) ≤ ((a : Int) + (i : Int)) := by omega
      have ba4i : ((a : Int) + (i : Int)) < (d.size : Int) := by omega
      have ra4i : IntKind.i64.wrap (((a : Int) + (i : Int))) = ((a : Int) + (i : Int)) := by rw [IntKind.wrap_i64]; omega
      have ea4j : (((b : Int) + (i : Int))).toNat = b + i := by omega
      have pa4j : (0 : Int) ≤ ((b : Int) + (i : Int)) := by omega
      have ba4j : ((b : Int) + (i : Int)) < (d.size : Int) := by omega
      have ra4j : IntKind.i64.wrap (((b : Int) + (i : Int))) = ((b : Int) + (i : Int)) := by rw [IntKind.wrap_i64]; omega
      have S2 : Aside (SWK itV k w0 blk off (swp da (a + i) (b + i)) ((wr.drew.setCells blk (off + (a + i) * k) (itV da[b + i]!)).setCells blk (off + (b + i) * k) (itV da[a + i]!))) := S1.out.swapped R (a + i) (b + i) (by omega) (by omega)
      have l4a := S1.out.ld1 R (by omega) P (a + i) (by omega)
      have l4b := S1.out.ld1 R (by omega) P (b + i) (by omega)
      have s4a := S1.out.st1 R (by omega) P (a + i) (by omega) da[b + i]!
      have s4b := S1.out.st2 R (by omega) P (a + i) (b + i) (by omega) (by omega) da[b + i]! da[a + i]!
      have n4a : (itV da[a + i]!).length = k := R.hk _
      have n4b : (itV da[b + i]!).length = k := R.hk _
      generalize itV da[a + i]! = cI4 at S2 l4a s4b n4a
      generalize itV da[b + i]! = cJ4 at S2 l4b s4a s4b n4b
      clear S1
      go_wp2_with fail
      go_big_region_o
      clear l4a l4b s4a s4b
      generalize (wr.drew.setCells blk (off + (a + i) * k) cJ4).setCells blk (off + (b + i) * k) cI4 = w2 at S2 ⊢
      go_wp2
      go_roundg (n - (i + 1))
      case measure => omega
      case rel => exact ⟨i + 1, _, X1 ++ [x], X2', Y1 ++ [y], Y2', swp da (a + i) (b + i), by simp, by omega, Nat.le_refl _, by rw [size_swp]; exact hds, S2, ⟨rfl, H2.out.1, H2.out.2.1, H2.out.2.2.1, H2.out.2.2.2, by rw [HL.out]; simp⟩⟩
    · obtain rfl : i = n := by omega
      have hltz : ¬ (i : Int) < (i : Int) := by omega
      go_wp2
      go_end0
      obtain ⟨h1, h2, h3, h4, h5, h6⟩ := H1.out
      have hX2 : X2 = [] := List.eq_nil_of_length_eq_zero (by have := congrArg List.length h2; rw [List.length_append, HX.out.1] at this; omega)
      have hY2 : Y2 = [] := List.eq_nil_of_length_eq_zero (by have := congrArg List.length h3; rw [List.length_append, HX.out.2.1] at this; omega)
      subst hX2 hY2
      exact ⟨rfl, da, hds, by rw [h1, h6, h2, h3]; simp, S1.out⟩
set_option maxRecDepth 1000000 in
theorem rot_any {P : Program} {k : Nat} (L : LG P k) (g : Nat) (cb : Array Value) (blk off cap a m b : Nat) (d0 d : Array Itm) (w0 w : World) (R : RowK itV k w0 blk off d0) (hs : d0.size = d.size) (S : SWK itV k w0 blk off d w) (A X Y B : List Itm) (hd : d.toList = A ++ (X ++ (Y ++ B))) (ha : A.length = a) (hX : a + X.length = m) (hY : m + Y.length = b) (hx0 : 0 < X.length) (hy0 : 0 < Y.length) (hsz : d.size < 4611686018427387904) :
    Calls P 187 #[.slice (some ⟨blk, off, none⟩) d.size cap, .int .i64 a, .int .i64 m, .int .i64 b, .func (.func g) #[] cb] w fun e w' => e = .returned (.tuple #[]) ∧ ∃ d' : Array Itm, d'.size = d.size ∧ d'.toList = A ++ (Y ++ (X ++ B)) ∧ SWK itV k w0 blk off d' w' := by
  have mixed := L.mixed
  have t0 := L.t0; have a0 := L.a0; have z0 := L.z0; have v0 := L.v0
  have t3 := L.t3; have a3 := L.a3; have z3 := L.z3; have v3 := L.v3
  have t4 := L.t4; have a4 := L.a4; have z4 := L.z4; have v4 := L.v4
  have t22 := L.t22; have a22 := L.a22; have z22 := L.z22; have v22 := L.v22
  have t51 := L.t51; have a51 := L.a51; have z51 := L.z51; have v51 := L.v51
  have t72 := L.t72; have a72 := L.a72; have z72 := L.z72; have v72 := L.v72
  have u22 := run_underlying L.t22; have u51 := run_underlying L.t51; have u3 := run_underlying L.t3
  have aE := L.aE; have zE := L.zE
  have eswr : ∀ args w, (callFunc 192 args).run P w = .ok (.enter 192 args) w := enters_of L.fswr (by kernel_rfl) rfl
  have hlen : d.size = A.length + (X.length + (Y.length + B.length)) := by rw [size_list hd]; simp
  have STEP := fun (a b n : Nat) (dd : Array Itm) (W : World) (h1 : d0.size = dd.size) (h2 : SWK itV k w0 blk off dd W) (A X M Y B : List Itm) h3 h4 h5 h6 h7 h8 => swr_any L g cb blk off cap a b n d0 dd w0 W R h1 h2 A X M Y B h3 h4 h5 h6 h7 h8
  have ST : Aside _ := STEP
  have S0 : Aside (SWK itV k w0 blk off d w ∧ d.toList = A ++ (X ++ (Y ++ B))) := ⟨S, hd⟩
  have e1 : IntKind.i64.wrap ((m : Int) - (a : Int)) = (X.length : Int) := by rw [IntKind.wrap_i64]; omega
  have e2 : IntKind.i64.wrap ((b : Int) - (m : Int)) = (Y.length : Int) := by rw [IntKind.wrap_i64]; omega
  have hLX : Aside (A.length + X.length = m ∧ 0 < X.length ∧ 0 < Y.length) := ⟨by omega, hx0, hy0⟩
  obtain ⟨nx, hnx⟩ : ∃ n, n = X.length := ⟨_, rfl⟩
  obtain ⟨ny, hny⟩ : ∃ n, n = Y.length := ⟨_, rfl⟩
  rw [← hnx] at e1
  rw [← hny] at e2
  have hmb : m + ny ≤ d.size := by omega
  have hmx : nx ≤ m := by omega
  have NN : Aside (nx = X.length ∧ ny = Y.length) := ⟨hnx, hny⟩
  clear STEP hd S ha hX hY hx0 hy0 hnx hny hlen
  go_enter L.frot, Tryz.ntmps187
  go_wp2_with fail
  go_loopg [10, 11] (nx + ny) (fun kx s10 s11 wr => ∃ (i j : Nat) (da : Array Itm) (A' X' Y' B' : List Itm), s10 = .int .i64 i ∧ s11 = .int .i64 j ∧ 0 < i ∧ 0 < j ∧ i ≤ m ∧ m + j ≤ d.size ∧ i + j ≤ kx ∧ da.size = d.size ∧ Aside (SWK itV k w0 blk off da wr) ∧ Aside (da.toList = A' ++ (X' ++ (Y' ++ B')) ∧ A'.length + i = m ∧ X'.length = i ∧ Y'.length = j ∧ A' ++ (Y' ++ (X' ++ B')) = A ++ (Y ++ (X ++ B))))
  case atStart =>
    obtain ⟨q1, q2, q3⟩ := hLX.out
    obtain ⟨q4, q5⟩ := NN.out
    exact ⟨nx, ny, d, A, X, Y, B, rfl, rfl, by omega, by omega, hmx, hmb, Nat.le_refl _, rfl, S0.out.1, ⟨S0.out.2, by omega, by omega, by omega, rfl⟩⟩
  case round =>
    clear S0 e1 e2 hmb hmx hLX NN
    obtain ⟨i, j, da, A', X', Y', B', rfl, rfl, hi0, hj0, him, hmj, hkx, hds, S1, H1⟩ := hrel
    have ra1 : IntKind.i64.wrap ((m : Int) - (i : Int)) = (m : Int) - (i : Int) := by rw [IntKind.wrap_i64]; omega
    rcases Nat.lt_trichotomy i j with hlt | rfl | hgt
    · have t1 : ((i : Int) != (j : Int)) = true := by rw [bne_iff_ne]; omega
      have t2 : ¬ (j : Int) < (i : Int) := by omega
      have t3 : ¬ j < i := by omega
      have t4 : ¬ i = j := by omega
      have ra2 : IntKind.i64.wrap ((m : Int) + (j : Int)) = (m : Int) + (j : Int) := by rw [IntKind.wrap_i64]; omega
      have ra3 : IntKind.i64.wrap ((m : Int) + (j : Int) - (i : Int)) = (m : Int) + (j : Int) - (i : Int) := by rw [IntKind.wrap_i64]; omega
      have ra4 : IntKind.i64.wrap ((j : Int) - (i : Int)) = (j : Int) - (i : Int) := by rw [IntKind.wrap_i64]; omega
      obtain ⟨h1, h2, h3, h4, h5⟩ := H1.out
      have ey : Y' = Y'.take (j - i) ++ Y'.drop (j - i) := (List.take_append_drop _ _).symm
      have l1 : (Y'.take (j - i)).length = j - i := by rw [List.length_take]; omega
      have l2 : (Y'.drop (j - i)).length = i := by rw [List.length_drop]; omega
      generalize Y'.take (j - i) = Y1 at ey l1
      generalize Y'.drop (j - i) = Y2 at ey l2
      subst ey
      have hc := ST.out (m - i) (m + j - i) i da wr (by omega) S1.out A' X' Y1 Y2 B' (by rw [h1]; simp) (by omega) h3 l2 (by omega) (by omega)
      rw [hds, show ((m - i : Nat) : Int) = (m : Int) - (i : Int) by omega, show ((m + j - i : Nat) : Int) = (m : Int) + (j : Int) - (i : Int) by omega] at hc
      have H2 : Aside (A'.length + i = m ∧ Y2.length = i ∧ Y1.length = j - i ∧ A' ++ (Y1 ++ (Y2 ++ (X' ++ B'))) = A ++ (Y ++ (X ++ B))) := ⟨h2, l2, l1, by rw [← h5]; simp⟩
      clear h1 h2 h3 h4 h5 l1 l2 H1 S1
      go_wp2_with (go_at_fn 192; refine hc.mono ?_; rintro e w2 ⟨rfl, d2, hs2, hl2, hS2⟩)
      have S2 : Aside (SWK itV k w0 blk off d2 w2 ∧ d2.toList = A' ++ (Y2 ++ (Y1 ++ (X' ++ B')))) := ⟨hS2, hl2⟩
      clear hS2 hl2 hc
      go_wp2
      go_roundg (i + (j - i))
      case measure => omega
      case rel => exact ⟨i, j - i, d2, A', Y2, Y1, X' ++ B', rfl, by congr 1; omega, hi0, by omega, him, by omega, Nat.le_refl _, by omega, S2.out.1, ⟨S2.out.2, H2.out.1, H2.out.2.1, H2.out.2.2.1, H2.out.2.2.2⟩⟩
    · have t1 : ((i : Int) != (i : Int)) = false := by simp
      obtain ⟨h1, h2, h3, h4, h5⟩ := H1.out
      have hc := ST.out (m - i) m i da wr (by omega) S1.out A' X' [] Y' B' (by rw [h1]; simp) (by omega) h3 h4 (by simp; omega) (by omega)
      rw [hds, show ((m - i : Nat) : Int) = (m : Int) - (i : Int) by omega] at hc
      have H2 : Aside (A' ++ (Y' ++ (X' ++ B')) = A ++ (Y ++ (X ++ B))) := h5
      clear h1 h2 h3 h4 h5 H1 S1
      go_wp2_with (go_at_fn 192; refine hc.mono ?_; rintro e w2 ⟨rfl, d2, hs2, hl2, hS2⟩)
      go_end0
      exact ⟨rfl, d2, by omega, by rw [hl2, ← H2.out]; simp, hS2⟩
    · have t1 : ((i : Int) != (j : Int)) = true := by rw [bne_iff_ne]; omega
      have t2 : (j : Int) < (i : Int) := by omega
      have t4 : ¬ i = j := by omega
      have ra4 : IntKind.i64.wrap ((i : Int) - (j : Int)) = (i : Int) - (j : Int) := by rw [IntKind.wrap_i64]; omega
      obtain ⟨h1, h2, h3, h4, h5⟩ := H1.out
      have ey : X' = X'.take j ++ X'.drop j := (List.take_append_drop _ _).symm
      have l1 : (X'.take j).length = j := by rw [List.length_take]; omega
      have l2 : (X'.drop j).length = i - j := by rw [List.length_drop]; omega
      generalize X'.take j = X1 at ey l1
      generalize X'.drop j = X2 at ey l2
      subst ey
      have hc := ST.out (m - i) m j da wr (by omega) S1.out A' X1 X2 Y' B' (by rw [h1]; simp) (by omega) l1 h4 (by omega) (by omega)
      rw [hds, show ((m - i : Nat) : Int) = (m : Int) - (i : Int) by omega] at hc
      have H2 : Aside ((A' ++ Y').length + (i - j) = m ∧ X2.length = i - j ∧ X1.length = j ∧ (A' ++ Y') ++ (X1 ++ (X2 ++ B')) = A ++ (Y ++ (X ++ B))) := ⟨by rw [List.length_append]; omega, l2, l1, by rw [← h5]; simp⟩
      clear h1 h2 h3 h4 h5 l1 l2 H1 S1
      go_wp2_with (go_at_fn 192; refine hc.mono ?_; rintro e w2 ⟨rfl, d2, hs2, hl2, hS2⟩)
      have S2 : Aside (SWK itV k w0 blk off d2 w2 ∧ d2.toList = A' ++ (Y' ++ (X2 ++ (X1 ++ B')))) := ⟨hS2, hl2⟩
      clear hS2 hl2 hc
      go_wp2
      go_roundg ((i - j) + j)
      case measure => omega
      case rel => exact ⟨i - j, j, d2, A' ++ Y', X2, X1, B', by congr 1; omega, rfl, by omega, hj0, by omega, hmj, Nat.le_refl _, by omega, S2.out.1, ⟨by rw [S2.out.2]; simp, H2.out.1, H2.out.2.1, H2.out.2.2.1, H2.out.2.2.2⟩⟩
theorem ins_math {P Q : List Itm} {x : Itm} (h : Srt (P ++ Q)) (hq : ∀ q ∈ Q, x.key < q.key) (hp : ∀ p ∈ P, p.key ≤ x.key) : Srt (P ++ x :: Q) ∧ Kq (P ++ x :: Q) ((P ++ Q) ++ [x]) := by
  obtain ⟨h1, h2, h3⟩ := srt_app.1 h
  refine ⟨srt_app.2 ⟨h1, srt_cons.2 ⟨fun y hy => Nat.le_of_lt (hq y hy), h2⟩, fun a ha y hy => ?_⟩, ?_⟩
  · rcases List.mem_cons.1 hy with m | m
    · rw [m]; exact hp a ha
    · exact h3 a ha y m
  · have := (Kq.refl P).app (Kq.swap (X := [x]) (Y := Q) fun a ha y hy => by rw [List.mem_singleton.1 ha]; have := hq y hy; omega)
    simpa using this
theorem last_le {P : List Itm} {p : Itm} {n : Nat} (h : Srt (P ++ [p])) (hp : p.key ≤ n) : ∀ x ∈ P ++ [p], x.key ≤ n := fun x hx => by
  rcases List.mem_append.1 hx with m | m
  · have := (srt_app.1 h).2.2 x m p (by simp); omega
  · rw [List.mem_singleton.1 m]; exact hp
theorem snoc_of {L : List Itm} (h : 0 < L.length) : ∃ P p, L = P ++ [p] := ⟨L.dropLast, L.getLast (by intro e; subst e; simp at h), (List.dropLast_concat_getLast _).symm⟩
set_option maxRecDepth 1000000 in
theorem ins_any {P : Program} {k : Nat} (L : LG P k) (g : Nat) (cb : Array Value) (blk off cap a b : Nat) (d0 d : Array Itm) (w0 w : World) (R : RowK itV k w0 blk off d0) (hs : d0.size = d.size) (S : SWK itV k w0 blk off d w) (eg : ∀ args w, (callFunc g args).run P w = .ok (.enter g args) w) (hcmp : CmpLays P g cb itV k cfK blk off d0.size w0) (A X B : List Itm) (hd : d.toList = A ++ (X ++ B)) (ha : A.length = a) (hX : a + X.length = b) (hsz : d.size < 4611686018427387904) :
    Calls P 145 #[.slice (some ⟨blk, off, none⟩) d.size cap, .int .i64 a, .int .i64 b, .func (.func g) #[] cb] w fun e w' => e = .returned (.tuple #[]) ∧ ∃ (d' : Array Itm) (Z : List Itm), d'.size = d.size ∧ d'.toList = A ++ (Z ++ B) ∧ Srt Z ∧ Kq Z X ∧ SWK itV k w0 blk off d' w' := by
  have mixed := L.mixed
  have t0 := L.t0; have a0 := L.a0; have z0 := L.z0; have v0 := L.v0
  have t3 := L.t3; have a3 := L.a3; have z3 := L.z3; have v3 := L.v3
  have t4 := L.t4; have a4 := L.a4; have z4 := L.z4; have v4 := L.v4
  have t22 := L.t22; have a22 := L.a22; have z22 := L.z22; have v22 := L.v22
  have t51 := L.t51; have a51 := L.a51; have z51 := L.z51; have v51 := L.v51
  have t72 := L.t72; have a72 := L.a72; have z72 := L.z72; have v72 := L.v72
  have u22 := run_underlying L.t22; have u51 := run_underlying L.t51; have u3 := run_underlying L.t3
  have aE := L.aE; have zE := L.zE
  have hlen : d.size = A.length + (X.length + B.length) := by rw [size_list hd]; simp
  have HC : Aside _ := hcmp
  have S0 : Aside (SWK itV k w0 blk off d w) := S
  have hab : a ≤ b := by omega
  have hb : b ≤ d.size := by omega
  have AL : Aside (A.length = a ∧ a + X.length = b) := ⟨ha, hX⟩
  have H0 : Aside (∃ Z1 X2, d.toList = A ++ (Z1 ++ (X2 ++ B)) ∧ Srt Z1 ∧ Kq (Z1 ++ X2) X ∧ Z1.length + X2.length = X.length ∧ (a + 1 ≤ b → Z1.length = 1) ∧ (b < a + 1 → X2 = [])) := by
    cases X with
    | nil => exact ⟨[], [], by rw [hd]; simp, srt_nil, Kq.refl _, rfl, fun h => by simp at hX; omega, fun _ => rfl⟩
    | cons x r => exact ⟨[x], r, by rw [hd]; simp, List.pairwise_singleton _ _, Kq.refl _, by simp; omega, fun _ => rfl, fun h => by simp at hX; omega⟩
  clear hcmp S hd ha hX hlen
  go_enter L.fins, Tryz.ntmps145
  go_wp2
  go_loopg [8] (b - a) (fun g1 vi wr => ∃ (i : Nat) (dk : Array Itm), vi = .int .i64 i ∧ a < i ∧ i ≤ b + 1 ∧ b + 1 - i ≤ g1 + 1 ∧ dk.size = d.size ∧ Aside (SWK itV k w0 blk off dk wr) ∧ Aside (∃ Z1 X2, dk.toList = A ++ (Z1 ++ (X2 ++ B)) ∧ Srt Z1 ∧ Kq (Z1 ++ X2) X ∧ Z1.length + X2.length = X.length ∧ (i ≤ b → Z1.length = i - a) ∧ (b < i → X2 = [])))
  case atStart =>
    obtain ⟨Z1, X2, q1, q2, q3, q4, q5, q6⟩ := H0.out
    exact ⟨a + 1, d, by go_num, by omega, by omega, by omega, rfl, S0, ⟨Z1, X2, q1, q2, q3, q4, fun h => by rw [q5 h]; omega, q6⟩⟩
  case round =>
    clear S0 H0
    obtain ⟨i, dk, rfl, hai, hib, hg1, hsk, S1, H1⟩ := hrel
    by_cases hlt : i < b
    · have hltz : (i : Int) < (b : Int) := by omega
      obtain ⟨Z1, X2, q1, q2, q3, q4, q5, q6⟩ := H1.out
      have hZ1 := q5 (by omega)
      have AO := AL.out
      obtain ⟨x, X2', rfl⟩ : ∃ x X', X2 = x :: X' := by cases X2 with | nil => simp at q4; omega | cons x r => exact ⟨x, r, rfl⟩
      have HZ : Aside (Srt Z1 ∧ Kq (Z1 ++ x :: X2') X ∧ Z1.length + (X2'.length + 1) = X.length ∧ Z1.length = i - a) := ⟨q2, q3, by simpa using q4, hZ1⟩
      have HI0 : Aside (dk.toList = A ++ (Z1 ++ x :: ([] ++ (X2' ++ B))) ∧ a + Z1.length = i ∧ A.length = a ∧ Z1 ++ [] = Z1 ∧ ∀ q ∈ ([] : List Itm), x.key < q.key) := ⟨by rw [q1]; simp, by omega, AO.1, by simp, by simp⟩
      clear q1 q2 q3 q4 q5 q6 hZ1 AO H1
      go_wp2
      go_loopg [9] i (fun g2 vj wr2 => ∃ (j : Nat) (dj : Array Itm) (P Q : List Itm), vj = .int .i64 j ∧ a ≤ j ∧ j ≤ i ∧ j ≤ g2 ∧ dj.size = d.size ∧ Aside (SWK itV k w0 blk off dj wr2) ∧ Aside (dj.toList = A ++ (P ++ x :: (Q ++ (X2' ++ B))) ∧ a + P.length = j ∧ A.length = a ∧ P ++ Q = Z1 ∧ ∀ q ∈ Q, x.key < q.key))
      case atStart => exact ⟨i, dk, Z1, [], rfl, by omega, Nat.le_refl _, Nat.le_refl _, hsk, S1, HI0⟩
      case round =>
        clear S1 HI0
        obtain ⟨j, dj, P, Q, rfl, haj, hji, hg2, hsj, S2, HI⟩ := hrel
        by_cases hja : a < j
        · have hjaz : (a : Int) < (j : Int) := by omega
          obtain ⟨jp, rfl⟩ : ∃ jp, j = jp + 1 := ⟨j - 1, by omega⟩
          have hjaz' : (a : Int) < (jp : Int) + 1 := by omega
          obtain ⟨P', p, rfl⟩ := snoc_of (L := P) (by have := HI.out.2.1; omega)
          have hl := HI.out.1
          have hP' : a + P'.length = jp := by have := HI.out.2.1; simp at this; omega
          have g1x : dj[jp + 1]! = x := at_list (P := A ++ (P' ++ [p])) (R := Q ++ (X2' ++ B)) (by rw [hl]; simp) (by have := HI.out.2.2.1; simp; omega)
          have g1p : dj[jp]! = p := at_list (P := A ++ P') (R := x :: (Q ++ (X2' ++ B))) (by rw [hl]; simp) (by have := HI.out.2.2.1; simp; omega)
          by_cases hlv : x.key < p.key
          · have hcv : cfK dj[jp + 1]! dj[jp]! < 0 := by rw [g1x, g1p]; exact cfK_lt.2 hlv
            have HL : Aside ((swp dj (jp + 1) jp).toList = A ++ (P' ++ x :: ((p :: Q) ++ (X2' ++ B)))) := by
              have := swp_list' (d := dj) (P := A ++ P') (Q := []) (R := Q ++ (X2' ++ B)) (x := p) (y := x) (by rw [hl]; simp) (i := jp + 1) (j := jp) (by have := HI.out.2.2.1; simp; omega) (by have := HI.out.2.2.1; simp; omega)
              show _ = _
              rw [this]; simp
            have HJ : Aside (a + P'.length = jp ∧ A.length = a ∧ P' ++ (p :: Q) = Z1 ∧ ∀ q ∈ p :: Q, x.key < q.key) := ⟨hP', HI.out.2.2.1, by rw [← HI.out.2.2.2.1]; simp, fun q hq => by
              rcases List.mem_cons.1 hq with m | m
              · rw [m]; exact hlv
              · exact HI.out.2.2.2.2 q m⟩
            clear HI hl hP' g1x g1p
            have ea5i : (((jp : Int) + 1)).toNat = jp + 1 := by omega
            have pa5i : (0 : Int) ≤ ((jp : Int) + 1) := by omega
            have ba5i : ((jp : Int) + 1) < (d.size : Int) := by omega
            have ra5i : IntKind.i64.wrap (((jp : Int) + 1)) = ((jp : Int) + 1) := by rw [IntKind.wrap_i64]; omega
            have ea5j : ((jp : Int)).toNat = jp := by omega
            have pa5j : (0 : Int) ≤ (jp : Int) := by omega
            have ba5j : (jp : Int) < (d.size : Int) := by omega
            have ra5j : IntKind.i64.wrap ((jp : Int)) = (jp : Int) := by rw [IntKind.wrap_i64]; omega
            obtain ⟨x5, hx5⟩ : ∃ x, x = dj[jp + 1]! := ⟨_, rfl⟩
            obtain ⟨y5, hy5⟩ : ∃ x, x = dj[jp]! := ⟨_, rfl⟩
            have l5a := S2.out.ld R (by omega) P (jp + 1) (by omega)
            have l5b := S2.out.ld R (by omega) P (jp) (by omega)
            rw [← hx5] at l5a hcv
            rw [← hy5] at l5b hcv
            have hc5 := S2.out.cmp HC.out (by omega) x5 y5
            have hd5 : decide (cfK x5 y5 < 0) = true := decide_eq_true hcv
            clear hx5 hy5
            go_wp2_with fail
            go_quiet_grown (first | (go_at_fn g; refine Calls.grown_of (hc5 _ _)))
            have S3 : Aside (SWK itV k w0 blk off dj (grow (wr.drewN nq) osq)) := S2.out.grown nq osq
            clear l5a l5b hc5 S2
            generalize grow (wr.drewN nq) osq = w2 at S3 ⊢
            clear nq osq
            clear ea5i pa5i ba5i ra5i ea5j pa5j ba5j ra5j
            have ea6i : (((jp : Int) + 1)).toNat = jp + 1 := by omega
            have pa6i : (0 : Int) ≤ ((jp : Int) + 1) := by omega
            have ba6i : ((jp : Int) + 1) < (d.size : Int) := by omega
            have ra6i : IntKind.i64.wrap (((jp : Int) + 1)) = ((jp : Int) + 1) := by rw [IntKind.wrap_i64]; omega
            have ea6j : ((jp : Int)).toNat = jp := by omega
            have pa6j : (0 : Int) ≤ (jp : Int) := by omega
            have ba6j : (jp : Int) < (d.size : Int) := by omega
            have ra6j : IntKind.i64.wrap ((jp : Int)) = (jp : Int) := by rw [IntKind.wrap_i64]; omega
            have S4 : Aside (SWK itV k w0 blk off (swp dj (jp + 1) (jp)) ((w2.drew.setCells blk (off + (jp + 1) * k) (itV dj[jp]!)).setCells blk (off + (jp) * k) (itV dj[jp + 1]!))) := S3.out.swapped R (jp + 1) (jp) (by omega) (by omega)
            have l6a := S3.out.ld1 R (by omega) P (jp + 1) (by omega)
            have l6b := S3.out.ld1 R (by omega) P (jp) (by omega)
            have s6a := S3.out.st1 R (by omega) P (jp + 1) (by omega) dj[jp]!
            have s6b := S3.out.st2 R (by omega) P (jp + 1) (jp) (by omega) (by omega) dj[jp]! dj[jp + 1]!
            have n6a : (itV dj[jp + 1]!).length = k := R.hk _
            have n6b : (itV dj[jp]!).length = k := R.hk _
            generalize itV dj[jp + 1]! = cI6 at S4 l6a s6b n6a
            generalize itV dj[jp]! = cJ6 at S4 l6b s6a s6b n6b
            clear S3
            go_wp2_with fail
            go_big_region_o
            clear l6a l6b s6a s6b
            generalize (w2.drew.setCells blk (off + (jp + 1) * k) cJ6).setCells blk (off + (jp) * k) cI6 = w3 at S4 ⊢
            go_wp2
            go_roundg jp
            case measure => omega
            case rel => exact ⟨jp, swp dj (jp + 1) jp, P', p :: Q, by first | rfl | go_num | (congr 1; omega), by omega, by omega, Nat.le_refl _, by rw [size_swp]; exact hsj, S4, ⟨HL.out, HJ.out.1, HJ.out.2.1, HJ.out.2.2.1, HJ.out.2.2.2⟩⟩
          · have hcv : ¬ cfK dj[jp + 1]! dj[jp]! < 0 := by rw [g1x, g1p, cfK_lt]; exact hlv
            have HM : Aside (Srt ((P' ++ [p]) ++ x :: Q) ∧ Kq ((P' ++ [p]) ++ x :: Q) (((P' ++ [p]) ++ Q) ++ [x])) := ins_math (by rw [HI.out.2.2.2.1]; exact HZ.out.1) HI.out.2.2.2.2 (last_le (srt_app.1 (by rw [HI.out.2.2.2.1]; exact HZ.out.1 : Srt ((P' ++ [p]) ++ Q))).1 (by omega))
            have HJ : Aside (dj.toList = A ++ (((P' ++ [p]) ++ x :: Q) ++ (X2' ++ B)) ∧ Kq (((P' ++ [p]) ++ x :: Q) ++ X2') X ∧ ((P' ++ [p]) ++ x :: Q).length = i + 1 - a ∧ ((P' ++ [p]) ++ x :: Q).length + X2'.length = X.length) := by
              have e := HI.out.2.2.2.1
              have e2 := congrArg List.length e
              have z := HZ.out
              refine ⟨by rw [hl]; simp, (HM.out.2.app (Kq.refl X2')).trans (by rw [e]; simpa using z.2.1), ?_, ?_⟩
              · simp at e2 z ⊢; omega
              · simp at e2 z ⊢; omega
            clear HI hl hP' g1x g1p
            have ea7i : (((jp : Int) + 1)).toNat = jp + 1 := by omega
            have pa7i : (0 : Int) ≤ ((jp : Int) + 1) := by omega
            have ba7i : ((jp : Int) + 1) < (d.size : Int) := by omega
            have ra7i : IntKind.i64.wrap (((jp : Int) + 1)) = ((jp : Int) + 1) := by rw [IntKind.wrap_i64]; omega
            have ea7j : ((jp : Int)).toNat = jp := by omega
            have pa7j : (0 : Int) ≤ (jp : Int) := by omega
            have ba7j : (jp : Int) < (d.size : Int) := by omega
            have ra7j : IntKind.i64.wrap ((jp : Int)) = (jp : Int) := by rw [IntKind.wrap_i64]; omega
            obtain ⟨x7, hx7⟩ : ∃ x, x = dj[jp + 1]! := ⟨_, rfl⟩
            obtain ⟨y7, hy7⟩ : ∃ x, x = dj[jp]! := ⟨_, rfl⟩
            have l7a := S2.out.ld R (by omega) P (jp + 1) (by omega)
            have l7b := S2.out.ld R (by omega) P (jp) (by omega)
            rw [← hx7] at l7a hcv
            rw [← hy7] at l7b hcv
            have hc7 := S2.out.cmp HC.out (by omega) x7 y7
            have hd7 : decide (cfK x7 y7 < 0) = false := decide_eq_false hcv
            clear hx7 hy7
            go_wp2_with fail
            go_quiet_grown (first | (go_at_fn g; refine Calls.grown_of (hc7 _ _)))
            have S3 : Aside (SWK itV k w0 blk off dj (grow (wr.drewN nq) osq)) := S2.out.grown nq osq
            clear l7a l7b hc7 S2
            generalize grow (wr.drewN nq) osq = w2 at S3 ⊢
            clear nq osq
            go_wp2
            go_roundg (b - (i + 1))
            case measure => omega
            case rel => exact ⟨i + 1, dj, by go_num, by omega, by omega, by omega, hsj, S3, ⟨_, X2', HJ.out.1, HM.out.1, HJ.out.2.1, HJ.out.2.2.2, fun _ => HJ.out.2.2.1, fun h => absurd h (by omega)⟩⟩
        · have hjaz : decide ((j : Int) > (a : Int)) = false := decide_eq_false (by omega)
          have hjaz' : ¬ (a : Int) < (j : Int) := by omega
          have hP : P = [] := List.eq_nil_of_length_eq_zero (by have := HI.out.2.1; omega)
          subst hP
          have HM : Aside (Srt ([] ++ x :: Q) ∧ Kq ([] ++ x :: Q) (([] ++ Q) ++ [x])) := ins_math (by rw [HI.out.2.2.2.1]; exact HZ.out.1) HI.out.2.2.2.2 (by simp)
          have HJ : Aside (dj.toList = A ++ (([] ++ x :: Q) ++ (X2' ++ B)) ∧ Kq (([] ++ x :: Q) ++ X2') X ∧ ([] ++ x :: Q).length = i + 1 - a ∧ ([] ++ x :: Q).length + X2'.length = X.length) := by
            have e := HI.out.2.2.2.1
            have e2 := congrArg List.length e
            have z := HZ.out
            refine ⟨by rw [HI.out.1]; simp, (HM.out.2.app (Kq.refl X2')).trans (by rw [e]; simpa using z.2.1), ?_, ?_⟩
            · simp at e2 z ⊢; omega
            · simp at e2 z ⊢; omega
          have S3 : Aside (SWK itV k w0 blk off dj wr.drew) := S2.out.drew
          clear HI S2
          go_wp2_with fail
          go_big_region_o
          all_goals go_wp2
          go_roundg (b - (i + 1))
          case measure => omega
          case rel => exact ⟨i + 1, dj, by go_num, by omega, by omega, by omega, hsj, S3, ⟨_, X2', HJ.out.1, HM.out.1, HJ.out.2.1, HJ.out.2.2.2, fun _ => HJ.out.2.2.1, fun h => absurd h (by omega)⟩⟩
    · have hltz : ¬ (i : Int) < (b : Int) := by omega
      go_wp2
      go_end0
      obtain ⟨Z1, X2, q1, q2, q3, q4, q5, q6⟩ := H1.out
      have hX2 : X2 = [] := by
        by_cases c : b < i
        · exact q6 c
        · have := q5 (by omega); exact List.eq_nil_of_length_eq_zero (by have := AL.out; omega)
      subst hX2
      exact ⟨rfl, dk, hsk, Z1, by rw [q1]; simp, q2, by simpa using q3, S1.out⟩
theorem ins_math2 {P Q : List Itm} {x : Itm} (h : Srt (P ++ Q)) (hp : ∀ p ∈ P, p.key < x.key) (hq : ∀ q ∈ Q, x.key ≤ q.key) : Srt (P ++ x :: Q) ∧ Kq (P ++ x :: Q) ([x] ++ (P ++ Q)) := by
  obtain ⟨h1, h2, h3⟩ := srt_app.1 h
  refine ⟨srt_app.2 ⟨h1, srt_cons.2 ⟨hq, h2⟩, fun a ha y hy => ?_⟩, ?_⟩
  · rcases List.mem_cons.1 hy with m | m
    · rw [m]; exact Nat.le_of_lt (hp a ha)
    · exact h3 a ha y m
  · have := (Kq.swap (X := P) (Y := [x]) fun a ha y hy => by rw [List.mem_singleton.1 hy]; have := hp a ha; omega).app (Kq.refl Q)
    simpa using this
theorem take_grow {X : List Itm} (h : Srt X) {h0 : Nat} (hi : h0 < X.length) {n : Nat} (hn : (X.getD h0 z0).key ≤ n) : ∀ x ∈ X.take (h0 + 1), x.key ≤ n := fun x hx => by
  have := (srt_le h hi).1 x hx
  have e : X.getD h0 z0 = X[h0] := by simp [List.getD, hi]
  rw [e] at hn
  omega
theorem drop_grow {X : List Itm} (h : Srt X) {h0 : Nat} (hi : h0 < X.length) {n : Nat} (hn : n ≤ (X.getD h0 z0).key) : ∀ x ∈ X.drop h0, n ≤ x.key := fun x hx => by
  have := (srt_le h hi).2 x hx
  have e : X.getD h0 z0 = X[h0] := by simp [List.getD, hi]
  rw [e] at hn
  omega
/-- An item of a part of the array. -/
theorem at_part {d : Array Itm} {A X R : List Itm} (h : d.toList = A ++ (X ++ R)) {a i : Nat} (ha : A.length = a) (h1 : a ≤ i) (h2 : i < a + X.length) : d[i]! = X.getD (i - a) z0 := by
  obtain rfl : d = (A ++ (X ++ R)).toArray := by rw [← h]
  simp only [getElem!_def, List.getElem?_toArray]
  rw [List.getElem?_append_right (by omega), List.getElem?_append_left (by omega), ha]
  simp [List.getD, show i - a < X.length by omega]
theorem srt_getD {X : List Itm} (h : Srt X) {i j : Nat} (h1 : i ≤ j) (h2 : j < X.length) : (X.getD i z0).key ≤ (X.getD j z0).key := by
  have := (srt_le h h2).1 (X.getD i z0) (by
    rw [show X.getD i z0 = X[i] by simp [List.getD, show i < X.length by omega]]
    exact List.mem_take_iff_getElem.2 ⟨i, by omega, rfl⟩)
  rwa [show X[j] = X.getD j z0 by simp [List.getD, h2]] at this
/-- Where symMerge cuts. -/
structure Cutp (X Y : List Itm) (a m b mid st r0 s : Nat) : Prop where
  f1 : ∀ c, st ≤ c → c < s → (X.getD (c - a) z0).key ≤ (Y.getD (mid + m - 1 - c - m) z0).key
  f2 : ∀ c, s ≤ c → c < r0 → (Y.getD (mid + m - 1 - c - m) z0).key < (X.getD (c - a) z0).key
  hmid : mid = (a + b) / 2
  hst : (mid < m ∧ st = mid + m - b ∧ r0 = mid) ∨ (m ≤ mid ∧ st = a ∧ r0 = m)
  hs : st ≤ s ∧ s ≤ r0
theorem cutp_math {X Y : List Itm} {a m b mid st r0 s : Nat} (h : Cutp X Y a m b mid st r0 s) (hX : Srt X) (hY : Srt Y) (h1 : a + X.length = m) (h2 : m + Y.length = b) (hx0 : 0 < X.length) (hy0 : 0 < Y.length) :
    (∀ x ∈ X.drop (s - a), ∀ y ∈ Y.take (mid - s), y.key < x.key) ∧ (∀ x ∈ X.take (s - a), ∀ y ∈ Y.drop (mid - s), x.key ≤ y.key) ∧ a ≤ s ∧ s ≤ m ∧ s ≤ mid ∧ mid - s ≤ Y.length := by
  obtain ⟨f1, f2, hmid, hst, hs⟩ := h
  have ha : a ≤ s ∧ s ≤ m ∧ s ≤ mid ∧ mid - s ≤ Y.length := by omega
  refine ⟨fun x hx y hy => ?_, fun x hx y hy => ?_, ha⟩
  · obtain ⟨i, hi, rfl⟩ := List.getElem_of_mem hx
    obtain ⟨j, hj, rfl⟩ := List.getElem_of_mem hy
    rw [List.length_drop] at hi
    rw [List.length_take] at hj
    have f := f2 s (Nat.le_refl _) (by omega)
    have u := srt_getD hX (i := s - a) (j := s - a + i) (by omega) (by omega)
    have v := srt_getD hY (i := j) (j := mid + m - 1 - s - m) (by omega) (by omega)
    have eu : X.getD (s - a + i) z0 = (X.drop (s - a))[i]'(by rw [List.length_drop]; omega) := by simp [List.getD, show s - a + i < X.length by omega]
    have ev : Y.getD j z0 = (Y.take (mid - s))[j]'(by rw [List.length_take]; omega) := by simp [List.getD, show j < Y.length by omega]
    rw [eu] at u
    rw [ev] at v
    omega
  · obtain ⟨i, hi, rfl⟩ := List.getElem_of_mem hx
    obtain ⟨j, hj, rfl⟩ := List.getElem_of_mem hy
    rw [List.length_take] at hi
    rw [List.length_drop] at hj
    have f := f1 (s - 1) (by omega) (by omega)
    have u := srt_getD hX (i := i) (j := s - 1 - a) (by omega) (by omega)
    have v := srt_getD hY (i := mid + m - 1 - (s - 1) - m) (j := mid - s + j) (by omega) (by omega)
    have eu : X.getD i z0 = (X.take (s - a))[i]'(by rw [List.length_take]; omega) := by simp [List.getD, show i < X.length by omega]
    have ev : Y.getD (mid - s + j) z0 = (Y.drop (mid - s))[j]'(by rw [List.length_drop]; omega) := by simp [List.getD, show mid - s + j < Y.length by omega]
    rw [eu] at u
    rw [ev] at v
    omega
set_option maxRecDepth 1000000 in
theorem sym_x1 {P : Program} {k : Nat} (L : LG P k) (g : Nat) (cb : Array Value) (blk off cap a m b : Nat) (d0 d : Array Itm) (w0 w : World) (R : RowK itV k w0 blk off d0) (hs : d0.size = d.size) (S : SWK itV k w0 blk off d w)
    (eg : ∀ args w, (callFunc g args).run P w = .ok (.enter g args) w) (hcmp : CmpLays P g cb itV k cfK blk off d0.size w0) (A X Y B : List Itm) (hd : d.toList = A ++ (X ++ (Y ++ B))) (ha : A.length = a) (hX : a + X.length = m) (hY : m + Y.length = b) (hx0 : 0 < X.length) (hy0 : 0 < Y.length) (sX : Srt X) (sY : Srt Y) (x1 : X.length = 1) (hsz : d.size < 4611686018427387904) :
    Calls P 175 #[.slice (some ⟨blk, off, none⟩) d.size cap, .int .i64 a, .int .i64 m, .int .i64 b, .func (.func g) #[] cb] w fun e w' => e = .returned (.tuple #[]) ∧ ∃ (d' : Array Itm) (Z : List Itm), d'.size = d.size ∧ d'.toList = A ++ (Z ++ B) ∧ Srt Z ∧ Kq Z (X ++ Y) ∧ SWK itV k w0 blk off d' w' := by
  have mixed := L.mixed
  have t0 := L.t0; have ag0 := L.a0; have zt0 := L.z0; have vt0 := L.v0
  have t3 := L.t3; have ag3 := L.a3; have zt3 := L.z3; have vt3 := L.v3
  have t4 := L.t4; have ag4 := L.a4; have zt4 := L.z4; have vt4 := L.v4
  have t22 := L.t22; have ag22 := L.a22; have zt22 := L.z22; have vt22 := L.v22
  have t51 := L.t51; have ag51 := L.a51; have zt51 := L.z51; have vt51 := L.v51
  have t72 := L.t72; have ag72 := L.a72; have zt72 := L.z72; have vt72 := L.v72
  have u22 := run_underlying L.t22; have u51 := run_underlying L.t51; have u3 := run_underlying L.t3
  have aE := L.aE; have zE := L.zE
  have hlen : d.size = A.length + (X.length + (Y.length + B.length)) := by rw [size_list hd]; simp
  have HC : Aside _ := hcmp
  have S0 : Aside (SWK itV k w0 blk off d w) := S
  obtain ⟨x, rfl⟩ : ∃ x, X = [x] := List.length_eq_one_iff.1 x1
  have hma : a + 1 ≤ m := by simp at hX; omega
  have hma2 : m ≤ a + 1 := by simp at hX; omega
  have hbs : b ≤ d.size := by simp at hlen; omega
  have hmb : m < b := by omega
  have Gx : Aside (d[a]! = x) := at_list (P := A) (R := Y ++ B) (by rw [hd]; simp) ha.symm
  have GY : Aside (∀ i, m ≤ i → i < b → d[i]! = Y.getD (i - m) z0) := fun i h1 h2 => at_part (A := A ++ [x]) (X := Y) (R := B) (by rw [hd]; simp) (by simp; omega) h1 (by omega)
  have ALL : Aside (d.toList = A ++ (x :: (Y ++ B)) ∧ A.length = a ∧ m + Y.length = b ∧ Srt Y) := ⟨by rw [hd]; simp, ha, hY, sY⟩
  have t1 : ((m : Int) - (a : Int) == 1) = true := by rw [beq_iff_eq]; omega
  have t2 : (m : Int) - (a : Int) = 1 := by omega
  clear hcmp S hd ha hX hY hx0 hy0 sX sY x1 hlen
  go_enter L.fsym, Tryz.ntmps175
  go_wp2_with fail
  go_loopg [10, 11, 12] (b - m) (fun kx s10 s11 s12 wr => ∃ (lo hi : Nat), s10 = .int .i64 lo ∧ s11 = .int .i64 hi ∧ m ≤ lo ∧ lo ≤ hi ∧ hi ≤ b ∧ hi - lo ≤ kx ∧ Aside (SWK itV k w0 blk off d wr) ∧ Aside ((∀ y ∈ Y.take (lo - m), y.key < x.key) ∧ (∀ y ∈ Y.drop (hi - m), x.key ≤ y.key)))
  case atStart => exact ⟨m, b, rfl, rfl, Nat.le_refl _, by omega, Nat.le_refl _, Nat.le_refl _, S0, ⟨by simp, fun y hy => by rw [List.drop_of_length_le (by have := ALL.out.2.2.1; omega)] at hy; cases hy⟩⟩
  case round =>
    clear S0 t1 t2
    obtain ⟨lo, hi, rfl, rfl, hml, hlh, hhb, hkx, S1, I⟩ := hrel
    by_cases hlt : lo < hi
    · have hltz : (lo : Int) < (hi : Int) := by omega
      have G2 := GY.out ((lo + hi) / 2) (by omega) (by omega)
      by_cases hlv : (Y.getD ((lo + hi) / 2 - m) z0).key < x.key
      · have hcv : cfK d[(lo + hi) / 2]! d[a]! < 0 := by rw [G2, Gx.out]; exact cfK_lt.2 hlv
        have I2 : Aside ((∀ y ∈ Y.take ((lo + hi) / 2 + 1 - m), y.key < x.key) ∧ (∀ y ∈ Y.drop (hi - m), x.key ≤ y.key)) := ⟨fun y hy => by
          rw [show (lo + hi) / 2 + 1 - m = (lo + hi) / 2 - m + 1 by omega] at hy
          have := take_grow ALL.out.2.2.2 (by have := ALL.out.2.2.1; omega) (Nat.le_refl _) y hy
          omega, I.out.2⟩
        clear I G2 hlv
        have ea1i : (((((lo : Nat) : Int) + ((hi : Nat) : Int)) / 2)).toNat = (lo + hi) / 2 := by omega
        have pa1i : (0 : Int) ≤ ((((lo : Nat) : Int) + ((hi : Nat) : Int)) / 2) := by omega
        have ba1i : ((((lo : Nat) : Int) + ((hi : Nat) : Int)) / 2) < (d.size : Int) := by omega
        have ra1i : IntKind.i64.wrap (((((lo : Nat) : Int) + ((hi : Nat) : Int)) / 2)) = ((((lo : Nat) : Int) + ((hi : Nat) : Int)) / 2) := by rw [IntKind.wrap_i64]; omega
        have ea1j : ((a : Int)).toNat = a := by omega
        have pa1j : (0 : Int) ≤ (a : Int) := by omega
        have ba1j : (a : Int) < (d.size : Int) := by omega
        have ra1j : IntKind.i64.wrap ((a : Int)) = (a : Int) := by rw [IntKind.wrap_i64]; omega
        obtain ⟨x1, hx1⟩ : ∃ x, x = d[(lo + hi) / 2]! := ⟨_, rfl⟩
        obtain ⟨y1, hy1⟩ : ∃ x, x = d[a]! := ⟨_, rfl⟩
        have l1a := S1.out.ld R (by omega) P ((lo + hi) / 2) (by omega)
        have l1b := S1.out.ld R (by omega) P (a) (by omega)
        rw [← hx1] at l1a hcv
        rw [← hy1] at l1b hcv
        have hc1 := S1.out.cmp HC.out (by omega) x1 y1
        have hd1 : decide (cfK x1 y1 < 0) = true := decide_eq_true hcv
        clear hx1 hy1
        go_wp2_with fail
        go_quiet_grown (first | (go_at_fn g; refine Calls.grown_of (hc1 _ _)))
        have S2 : Aside (SWK itV k w0 blk off d (grow (wr.drewN nq) osq)) := S1.out.grown nq osq
        clear l1a l1b hc1 S1
        generalize grow (wr.drewN nq) osq = w2 at S2 ⊢
        clear nq osq
        go_wp2
        go_roundg (hi - ((lo + hi) / 2 + 1))
        case measure => omega
        case rel => exact ⟨(lo + hi) / 2 + 1, hi, by rw [show ((lo : Int) + (hi : Int)) / 2 + 1 = (((lo + hi) / 2 + 1 : Nat) : Int) by omega], rfl, by omega, by omega, hhb, Nat.le_refl _, S2, I2⟩
      · have hcv : ¬ cfK d[(lo + hi) / 2]! d[a]! < 0 := by rw [G2, Gx.out, cfK_lt]; exact hlv
        have I2 : Aside ((∀ y ∈ Y.take (lo - m), y.key < x.key) ∧ (∀ y ∈ Y.drop ((lo + hi) / 2 - m), x.key ≤ y.key)) := ⟨I.out.1, drop_grow ALL.out.2.2.2 (by have := ALL.out.2.2.1; omega) (by omega)⟩
        clear I G2 hlv
        have ea2i : (((((lo : Nat) : Int) + ((hi : Nat) : Int)) / 2)).toNat = (lo + hi) / 2 := by omega
        have pa2i : (0 : Int) ≤ ((((lo : Nat) : Int) + ((hi : Nat) : Int)) / 2) := by omega
        have ba2i : ((((lo : Nat) : Int) + ((hi : Nat) : Int)) / 2) < (d.size : Int) := by omega
        have ra2i : IntKind.i64.wrap (((((lo : Nat) : Int) + ((hi : Nat) : Int)) / 2)) = ((((lo : Nat) : Int) + ((hi : Nat) : Int)) / 2) := by rw [IntKind.wrap_i64]; omega
        have ea2j : ((a : Int)).toNat = a := by omega
        have pa2j : (0 : Int) ≤ (a : Int) := by omega
        have ba2j : (a : Int) < (d.size : Int) := by omega
        have ra2j : IntKind.i64.wrap ((a : Int)) = (a : Int) := by rw [IntKind.wrap_i64]; omega
        obtain ⟨x2, hx2⟩ : ∃ x, x = d[(lo + hi) / 2]! := ⟨_, rfl⟩
        obtain ⟨y2, hy2⟩ : ∃ x, x = d[a]! := ⟨_, rfl⟩
        have l2a := S1.out.ld R (by omega) P ((lo + hi) / 2) (by omega)
        have l2b := S1.out.ld R (by omega) P (a) (by omega)
        rw [← hx2] at l2a hcv
        rw [← hy2] at l2b hcv
        have hc2 := S1.out.cmp HC.out (by omega) x2 y2
        have hd2 : decide (cfK x2 y2 < 0) = false := decide_eq_false hcv
        clear hx2 hy2
        go_wp2_with fail
        go_quiet_grown (first | (go_at_fn g; refine Calls.grown_of (hc2 _ _)))
        have S2 : Aside (SWK itV k w0 blk off d (grow (wr.drewN nq) osq)) := S1.out.grown nq osq
        clear l2a l2b hc2 S1
        generalize grow (wr.drewN nq) osq = w2 at S2 ⊢
        clear nq osq
        go_wp2
        go_roundg ((lo + hi) / 2 - lo)
        case measure => omega
        case rel => exact ⟨lo, (lo + hi) / 2, rfl, by rw [show ((lo : Int) + (hi : Int)) / 2 = (((lo + hi) / 2 : Nat) : Int) by omega], hml, by omega, by omega, Nat.le_refl _, S2, I2⟩
    · obtain rfl : hi = lo := by omega
      have hltz : ¬ (hi : Int) < (hi : Int) := by omega
      obtain ⟨Y1, Y2, hY12, hl1, i1, i2⟩ : ∃ Y1 Y2, Y = Y1 ++ Y2 ∧ Y1.length = hi - m ∧ (∀ y ∈ Y1, y.key < x.key) ∧ (∀ y ∈ Y2, x.key ≤ y.key) := ⟨_, _, (List.take_append_drop (hi - m) Y).symm, by rw [List.length_take]; have := ALL.out.2.2.1; omega, I.out.1, I.out.2⟩
      have J : Aside (Y = Y1 ++ Y2 ∧ Y1.length = hi - m ∧ (∀ y ∈ Y1, y.key < x.key) ∧ (∀ y ∈ Y2, x.key ≤ y.key)) := ⟨hY12, hl1, i1, i2⟩
      have K0 : Aside (d.toList = A ++ ([] ++ x :: (Y1 ++ (Y2 ++ B))) ∧ A.length = a ∧ [] ++ Y1 = Y1) := ⟨by rw [ALL.out.1, hY12]; simp, ALL.out.2.1, rfl⟩
      have w1 : IntKind.i64.wrap ((hi : Int) - 1) = (hi : Int) - 1 := by rw [IntKind.wrap_i64]; omega
      clear I hY12 hl1 i1 i2
      go_wp2_with fail
      go_loopg [13] (hi - 1 - a) (fun kx s13 wr => ∃ (q : Nat) (dk : Array Itm) (P1 Q : List Itm), s13 = .int .i64 q ∧ a ≤ q ∧ q ≤ hi - 1 ∧ hi - 1 - q ≤ kx ∧ dk.size = d.size ∧ Aside (SWK itV k w0 blk off dk wr) ∧ Aside (dk.toList = A ++ (P1 ++ x :: (Q ++ (Y2 ++ B))) ∧ P1.length = q - a ∧ P1 ++ Q = Y1))
      case atStart => exact ⟨a, d, [], Y1, rfl, Nat.le_refl _, by omega, Nat.le_refl _, rfl, S1, ⟨K0.out.1, by simp, rfl⟩⟩
      case round =>
        clear S1 K0
        obtain ⟨q, dk, P1, Q, rfl, haq, hqh, hkx2, hds, S1, H1⟩ := hrel
        by_cases hlt2 : q < hi - 1
        · have hltz2 : (q : Int) < (hi : Int) - 1 := by omega
          obtain ⟨h1, h2, h3⟩ := H1.out
          have hql : Q.length = hi - m - (q - a) := by have := congrArg List.length h3; rw [List.length_append, J.out.2.1] at this; omega
          obtain ⟨z, Q', rfl⟩ : ∃ z Q', Q = z :: Q' := by cases Q with | nil => simp at hql; omega | cons z r => exact ⟨z, r, rfl⟩
          have HL : Aside ((swp dk q (q + 1)).toList = A ++ ((P1 ++ [z]) ++ x :: (Q' ++ (Y2 ++ B))) ∧ (P1 ++ [z]).length = q + 1 - a ∧ (P1 ++ [z]) ++ Q' = Y1) := by
            have := swp_list (d := dk) (P := A ++ P1) (Q := []) (R := Q' ++ (Y2 ++ B)) (x := x) (y := z) (by rw [h1]; simp) (i := q) (j := q + 1) (by have := ALL.out.2.1; simp; omega) (by have := ALL.out.2.1; simp; omega)
            exact ⟨by rw [this]; simp, by simp; omega, by rw [← h3]; simp⟩
          clear h1 h2 h3 hql H1
          go_wp2_with fail
          have ea3i : ((q : Int)).toNat = q := by omega
          have pa3i : (0 : Int) ≤ (q : Int) := by omega
          have ba3i : (q : Int) < (d.size : Int) := by omega
          have ra3i : IntKind.i64.wrap ((q : Int)) = (q : Int) := by rw [IntKind.wrap_i64]; omega
          have ea3j : (((q : Int) + 1)).toNat = q + 1 := by omega
          have pa3j : (0 : Int) ≤ ((q : Int) + 1) := by omega
          have ba3j : ((q : Int) + 1) < (d.size : Int) := by omega
          have ra3j : IntKind.i64.wrap (((q : Int) + 1)) = ((q : Int) + 1) := by rw [IntKind.wrap_i64]; omega
          have S2 : Aside (SWK itV k w0 blk off (swp dk (q) (q + 1)) ((wr.drew.setCells blk (off + (q) * k) (itV dk[q + 1]!)).setCells blk (off + (q + 1) * k) (itV dk[q]!))) := S1.out.swapped R (q) (q + 1) (by omega) (by omega)
          have l3a := S1.out.ld1 R (by omega) P (q) (by omega)
          have l3b := S1.out.ld1 R (by omega) P (q + 1) (by omega)
          have s3a := S1.out.st1 R (by omega) P (q) (by omega) dk[q + 1]!
          have s3b := S1.out.st2 R (by omega) P (q) (q + 1) (by omega) (by omega) dk[q + 1]! dk[q]!
          have n3a : (itV dk[q]!).length = k := R.hk _
          have n3b : (itV dk[q + 1]!).length = k := R.hk _
          generalize itV dk[q]! = cI3 at S2 l3a s3b n3a
          generalize itV dk[q + 1]! = cJ3 at S2 l3b s3a s3b n3b
          clear S1
          go_wp2_with fail
          go_big_region_o
          clear l3a l3b s3a s3b
          generalize (wr.drew.setCells blk (off + (q) * k) cJ3).setCells blk (off + (q + 1) * k) cI3 = w2 at S2 ⊢
          go_wp2
          go_roundg (hi - 1 - (q + 1))
          case measure => omega
          case rel => exact ⟨q + 1, swp dk q (q + 1), P1 ++ [z], Q', by go_num, by omega, by omega, Nat.le_refl _, by rw [size_swp]; exact hds, S2, HL⟩
        · have hltz2 : ¬ (q : Int) < (hi : Int) - 1 := by omega
          go_wp2
          (try simp only [Exit.inBlock, Exit.then]); refine bodyPost_ret (results_none rfl _ _ _) rfl ?_
          obtain ⟨h1, h2, h3⟩ := H1.out
          obtain ⟨j1, j2, j3, j4⟩ := J.out
          have hql : Q = [] := List.eq_nil_of_length_eq_zero (by have := congrArg List.length h3; rw [List.length_append, j2] at this; omega)
          subst hql
          rw [List.append_nil] at h3
          subst h3
          have hm := ins_math2 (x := x) (by rw [← j1]; exact ALL.out.2.2.2) j3 j4
          exact ⟨rfl, dk, hds, P1 ++ x :: Y2, by rw [h1]; simp, hm.1, by rw [j1]; exact hm.2, S1.out⟩
set_option maxRecDepth 1000000 in
theorem sym_y1 {P : Program} {k : Nat} (L : LG P k) (g : Nat) (cb : Array Value) (blk off cap a m b : Nat) (d0 d : Array Itm) (w0 w : World) (R : RowK itV k w0 blk off d0) (hs : d0.size = d.size) (S : SWK itV k w0 blk off d w)
    (eg : ∀ args w, (callFunc g args).run P w = .ok (.enter g args) w) (hcmp : CmpLays P g cb itV k cfK blk off d0.size w0) (A X Y B : List Itm) (hd : d.toList = A ++ (X ++ (Y ++ B))) (ha : A.length = a) (hX : a + X.length = m) (hY : m + Y.length = b) (hx0 : 0 < X.length) (hy0 : 0 < Y.length) (sX : Srt X) (sY : Srt Y) (x1 : X.length ≠ 1) (y1 : Y.length = 1) (hsz : d.size < 4611686018427387904) :
    Calls P 175 #[.slice (some ⟨blk, off, none⟩) d.size cap, .int .i64 a, .int .i64 m, .int .i64 b, .func (.func g) #[] cb] w fun e w' => e = .returned (.tuple #[]) ∧ ∃ (d' : Array Itm) (Z : List Itm), d'.size = d.size ∧ d'.toList = A ++ (Z ++ B) ∧ Srt Z ∧ Kq Z (X ++ Y) ∧ SWK itV k w0 blk off d' w' := by
  have mixed := L.mixed
  have t0 := L.t0; have ag0 := L.a0; have zt0 := L.z0; have vt0 := L.v0
  have t3 := L.t3; have ag3 := L.a3; have zt3 := L.z3; have vt3 := L.v3
  have t4 := L.t4; have ag4 := L.a4; have zt4 := L.z4; have vt4 := L.v4
  have t22 := L.t22; have ag22 := L.a22; have zt22 := L.z22; have vt22 := L.v22
  have t51 := L.t51; have ag51 := L.a51; have zt51 := L.z51; have vt51 := L.v51
  have t72 := L.t72; have ag72 := L.a72; have zt72 := L.z72; have vt72 := L.v72
  have u22 := run_underlying L.t22; have u51 := run_underlying L.t51; have u3 := run_underlying L.t3
  have aE := L.aE; have zE := L.zE
  have hlen : d.size = A.length + (X.length + (Y.length + B.length)) := by rw [size_list hd]; simp
  have HC : Aside _ := hcmp
  have S0 : Aside (SWK itV k w0 blk off d w) := S
  obtain ⟨y, rfl⟩ : ∃ y, Y = [y] := List.length_eq_one_iff.1 y1
  have hbm : m + 1 ≤ b := by simp at hY; omega
  have hbm2 : b ≤ m + 1 := by simp at hY; omega
  have hbs : b ≤ d.size := by simp at hlen; omega
  have ham : a < m := by omega
  have Gy : Aside (d[m]! = y) := at_list (P := A ++ X) (R := B) (by rw [hd]; simp) (by simp; omega)
  have GX : Aside (∀ i, a ≤ i → i < m → d[i]! = X.getD (i - a) z0) := fun i h1 h2 => at_part (A := A) (X := X) (R := [y] ++ B) (by rw [hd]) ha h1 (by omega)
  have ALL : Aside (d.toList = A ++ (X ++ (y :: B)) ∧ A.length = a ∧ a + X.length = m ∧ Srt X) := ⟨by rw [hd]; simp, ha, hX, sX⟩
  have t1 : ((m : Int) - (a : Int) == 1) = false := by rw [beq_eq_false_iff_ne]; omega
  have t2 : ¬ (m : Int) - (a : Int) = 1 := by omega
  have t3 : ((b : Int) - (m : Int) == 1) = true := by rw [beq_iff_eq]; omega
  have t4 : (b : Int) - (m : Int) = 1 := by omega
  clear hcmp S hd ha hX hY hx0 hy0 sX sY x1 y1 hlen
  go_enter L.fsym, Tryz.ntmps175
  go_wp2_with fail
  go_loopg [14, 15, 16] (m - a) (fun kx s14 s15 s16 wr => ∃ (lo hi : Nat), s14 = .int .i64 lo ∧ s15 = .int .i64 hi ∧ a ≤ lo ∧ lo ≤ hi ∧ hi ≤ m ∧ hi - lo ≤ kx ∧ Aside (SWK itV k w0 blk off d wr) ∧ Aside ((∀ x ∈ X.take (lo - a), x.key ≤ y.key) ∧ (∀ x ∈ X.drop (hi - a), y.key < x.key)))
  case atStart => exact ⟨a, m, rfl, rfl, Nat.le_refl _, by omega, Nat.le_refl _, Nat.le_refl _, S0, ⟨by simp, fun x hx => by rw [List.drop_of_length_le (by have := ALL.out.2.2.1; omega)] at hx; cases hx⟩⟩
  case round =>
    clear S0 t1 t2 t3 t4
    obtain ⟨lo, hi, rfl, rfl, hml, hlh, hhb, hkx, S1, I⟩ := hrel
    by_cases hlt : lo < hi
    · have hltz : (lo : Int) < (hi : Int) := by omega
      have G2 := GX.out ((lo + hi) / 2) (by omega) (by omega)
      by_cases hlv : y.key < (X.getD ((lo + hi) / 2 - a) z0).key
      · have hcv : cfK d[m]! d[(lo + hi) / 2]! < 0 := by rw [G2, Gy.out]; exact cfK_lt.2 hlv
        have I2 : Aside ((∀ x ∈ X.take (lo - a), x.key ≤ y.key) ∧ (∀ x ∈ X.drop ((lo + hi) / 2 - a), y.key < x.key)) := ⟨I.out.1, drop_grow (n := y.key + 1) ALL.out.2.2.2 (by have := ALL.out.2.2.1; omega) (by omega)⟩
        clear I G2 hlv
        have ea1i : ((m : Int)).toNat = m := by omega
        have pa1i : (0 : Int) ≤ (m : Int) := by omega
        have ba1i : (m : Int) < (d.size : Int) := by omega
        have ra1i : IntKind.i64.wrap ((m : Int)) = (m : Int) := by rw [IntKind.wrap_i64]; omega
        have ea1j : (((((lo : Nat) : Int) + ((hi : Nat) : Int)) / 2)).toNat = (lo + hi) / 2 := by omega
        have pa1j : (0 : Int) ≤ ((((lo : Nat) : Int) + ((hi : Nat) : Int)) / 2) := by omega
        have ba1j : ((((lo : Nat) : Int) + ((hi : Nat) : Int)) / 2) < (d.size : Int) := by omega
        have ra1j : IntKind.i64.wrap (((((lo : Nat) : Int) + ((hi : Nat) : Int)) / 2)) = ((((lo : Nat) : Int) + ((hi : Nat) : Int)) / 2) := by rw [IntKind.wrap_i64]; omega
        obtain ⟨x1, hx1⟩ : ∃ x, x = d[m]! := ⟨_, rfl⟩
        obtain ⟨y1, hy1⟩ : ∃ x, x = d[(lo + hi) / 2]! := ⟨_, rfl⟩
        have l1a := S1.out.ld R (by omega) P (m) (by omega)
        have l1b := S1.out.ld R (by omega) P ((lo + hi) / 2) (by omega)
        rw [← hx1] at l1a hcv
        rw [← hy1] at l1b hcv
        have hc1 := S1.out.cmp HC.out (by omega) x1 y1
        have hd1 : decide (cfK x1 y1 < 0) = true := decide_eq_true hcv
        clear hx1 hy1
        go_wp2_with fail
        go_quiet_grown (first | (go_at_fn g; refine Calls.grown_of (hc1 _ _)))
        have S2 : Aside (SWK itV k w0 blk off d (grow (wr.drewN nq) osq)) := S1.out.grown nq osq
        clear l1a l1b hc1 S1
        generalize grow (wr.drewN nq) osq = w2 at S2 ⊢
        clear nq osq
        go_wp2
        go_roundg ((lo + hi) / 2 - lo)
        case measure => omega
        case rel => exact ⟨lo, (lo + hi) / 2, rfl, by rw [show ((lo : Int) + (hi : Int)) / 2 = (((lo + hi) / 2 : Nat) : Int) by omega], hml, by omega, by omega, Nat.le_refl _, S2, I2⟩
      · have hcv : ¬ cfK d[m]! d[(lo + hi) / 2]! < 0 := by rw [G2, Gy.out, cfK_lt]; exact hlv
        have I2 : Aside ((∀ x ∈ X.take ((lo + hi) / 2 + 1 - a), x.key ≤ y.key) ∧ (∀ x ∈ X.drop (hi - a), y.key < x.key)) := ⟨by
          rw [show (lo + hi) / 2 + 1 - a = (lo + hi) / 2 - a + 1 by omega]
          exact take_grow ALL.out.2.2.2 (by have := ALL.out.2.2.1; omega) (by omega), I.out.2⟩
        clear I G2 hlv
        have ea2i : ((m : Int)).toNat = m := by omega
        have pa2i : (0 : Int) ≤ (m : Int) := by omega
        have ba2i : (m : Int) < (d.size : Int) := by omega
        have ra2i : IntKind.i64.wrap ((m : Int)) = (m : Int) := by rw [IntKind.wrap_i64]; omega
        have ea2j : (((((lo : Nat) : Int) + ((hi : Nat) : Int)) / 2)).toNat = (lo + hi) / 2 := by omega
        have pa2j : (0 : Int) ≤ ((((lo : Nat) : Int) + ((hi : Nat) : Int)) / 2) := by omega
        have ba2j : ((((lo : Nat) : Int) + ((hi : Nat) : Int)) / 2) < (d.size : Int) := by omega
        have ra2j : IntKind.i64.wrap (((((lo : Nat) : Int) + ((hi : Nat) : Int)) / 2)) = ((((lo : Nat) : Int) + ((hi : Nat) : Int)) / 2) := by rw [IntKind.wrap_i64]; omega
        obtain ⟨x2, hx2⟩ : ∃ x, x = d[m]! := ⟨_, rfl⟩
        obtain ⟨y2, hy2⟩ : ∃ x, x = d[(lo + hi) / 2]! := ⟨_, rfl⟩
        have l2a := S1.out.ld R (by omega) P (m) (by omega)
        have l2b := S1.out.ld R (by omega) P ((lo + hi) / 2) (by omega)
        rw [← hx2] at l2a hcv
        rw [← hy2] at l2b hcv
        have hc2 := S1.out.cmp HC.out (by omega) x2 y2
        have hd2 : decide (cfK x2 y2 < 0) = false := decide_eq_false hcv
        clear hx2 hy2
        go_wp2_with fail
        go_quiet_grown (first | (go_at_fn g; refine Calls.grown_of (hc2 _ _)))
        have S2 : Aside (SWK itV k w0 blk off d (grow (wr.drewN nq) osq)) := S1.out.grown nq osq
        clear l2a l2b hc2 S1
        generalize grow (wr.drewN nq) osq = w2 at S2 ⊢
        clear nq osq
        go_wp2
        go_roundg (hi - ((lo + hi) / 2 + 1))
        case measure => omega
        case rel => exact ⟨(lo + hi) / 2 + 1, hi, by rw [show ((lo : Int) + (hi : Int)) / 2 + 1 = (((lo + hi) / 2 + 1 : Nat) : Int) by omega], rfl, by omega, by omega, hhb, Nat.le_refl _, S2, I2⟩
    · obtain rfl : hi = lo := by omega
      have hltz : ¬ (hi : Int) < (hi : Int) := by omega
      obtain ⟨X1, X2, hX12, hl1, i1, i2⟩ : ∃ X1 X2, X = X1 ++ X2 ∧ X1.length = hi - a ∧ (∀ x ∈ X1, x.key ≤ y.key) ∧ (∀ x ∈ X2, y.key < x.key) := ⟨_, _, (List.take_append_drop (hi - a) X).symm, by rw [List.length_take]; have := ALL.out.2.2.1; omega, I.out.1, I.out.2⟩
      have J : Aside (X = X1 ++ X2 ∧ X1.length = hi - a ∧ (∀ x ∈ X1, x.key ≤ y.key) ∧ (∀ x ∈ X2, y.key < x.key)) := ⟨hX12, hl1, i1, i2⟩
      have K0 : Aside (d.toList = (A ++ X1) ++ (X2 ++ y :: ([] ++ B)) ∧ (A ++ X1).length = hi ∧ X2.length = m - hi) := ⟨by rw [ALL.out.1, hX12]; simp, by have := ALL.out.2.1; simp; omega, by have := ALL.out.2.2.1; rw [hX12] at this; simp at this; omega⟩
      clear I hX12 hl1 i1 i2
      go_wp2_with fail
      go_loopg [17] (m - hi) (fun kx s17 wr => ∃ (q : Nat) (dk : Array Itm) (P1 Q : List Itm), s17 = .int .i64 q ∧ hi ≤ q ∧ q ≤ m ∧ q - hi ≤ kx ∧ dk.size = d.size ∧ Aside (SWK itV k w0 blk off dk wr) ∧ Aside (dk.toList = (A ++ X1) ++ (P1 ++ y :: (Q ++ B)) ∧ (A ++ X1).length = hi ∧ P1.length = q - hi ∧ P1 ++ Q = X2))
      case atStart => exact ⟨m, d, X2, [], rfl, by omega, Nat.le_refl _, Nat.le_refl _, rfl, S1, ⟨K0.out.1, K0.out.2.1, K0.out.2.2, by simp⟩⟩
      case round =>
        clear S1 K0
        obtain ⟨q, dk, P1, Q, rfl, haq, hqh, hkx2, hds, S1, H1⟩ := hrel
        by_cases hlt2 : hi < q
        · obtain ⟨qp, rfl⟩ : ∃ qp, q = qp + 1 := ⟨q - 1, by omega⟩
          have hltz2 : (hi : Int) < (qp : Int) + 1 := by omega
          obtain ⟨h1, h2, h3, h4⟩ := H1.out
          obtain ⟨P', z, rfl⟩ := snoc_of (L := P1) (by omega)
          rw [List.length_append, List.length_singleton] at h3
          have HL : Aside ((swp dk (qp + 1) qp).toList = (A ++ X1) ++ (P' ++ y :: ((z :: Q) ++ B)) ∧ (A ++ X1).length = hi ∧ P'.length = qp - hi ∧ P' ++ (z :: Q) = X2) := by
            have := swp_list' (d := dk) (P := (A ++ X1) ++ P') (Q := []) (R := Q ++ B) (x := z) (y := y) (by rw [h1]; simp) (i := qp + 1) (j := qp) (by rw [List.length_append, h2]; simp; omega) (by rw [List.length_append, h2]; omega)
            exact ⟨by rw [this]; simp, h2, by omega, by rw [← h4]; simp⟩
          clear h1 h2 h3 h4 H1
          go_wp2_with fail
          have ea3i : (((qp : Int) + 1)).toNat = qp + 1 := by omega
          have pa3i : (0 : Int) ≤ ((qp : Int) + 1) := by omega
          have ba3i : ((qp : Int) + 1) < (d.size : Int) := by omega
          have ra3i : IntKind.i64.wrap (((qp : Int) + 1)) = ((qp : Int) + 1) := by rw [IntKind.wrap_i64]; omega
          have ea3j : ((qp : Int)).toNat = qp := by omega
          have pa3j : (0 : Int) ≤ (qp : Int) := by omega
          have ba3j : (qp : Int) < (d.size : Int) := by omega
          have ra3j : IntKind.i64.wrap ((qp : Int)) = (qp : Int) := by rw [IntKind.wrap_i64]; omega
          have S2 : Aside (SWK itV k w0 blk off (swp dk (qp + 1) (qp)) ((wr.drew.setCells blk (off + (qp + 1) * k) (itV dk[qp]!)).setCells blk (off + (qp) * k) (itV dk[qp + 1]!))) := S1.out.swapped R (qp + 1) (qp) (by omega) (by omega)
          have l3a := S1.out.ld1 R (by omega) P (qp + 1) (by omega)
          have l3b := S1.out.ld1 R (by omega) P (qp) (by omega)
          have s3a := S1.out.st1 R (by omega) P (qp + 1) (by omega) dk[qp]!
          have s3b := S1.out.st2 R (by omega) P (qp + 1) (qp) (by omega) (by omega) dk[qp]! dk[qp + 1]!
          have n3a : (itV dk[qp + 1]!).length = k := R.hk _
          have n3b : (itV dk[qp]!).length = k := R.hk _
          generalize itV dk[qp + 1]! = cI3 at S2 l3a s3b n3a
          generalize itV dk[qp]! = cJ3 at S2 l3b s3a s3b n3b
          clear S1
          go_wp2_with fail
          go_big_region_o
          clear l3a l3b s3a s3b
          generalize (wr.drew.setCells blk (off + (qp + 1) * k) cJ3).setCells blk (off + (qp) * k) cI3 = w2 at S2 ⊢
          go_wp2
          go_roundg (qp - hi)
          case measure => omega
          case rel => exact ⟨qp, swp dk (qp + 1) qp, P', z :: Q, by first | rfl | go_num | (congr 1; omega), by omega, by omega, Nat.le_refl _, by rw [size_swp]; exact hds, S2, HL⟩
        · have hltz2 : ¬ (hi : Int) < (q : Int) := by omega
          go_wp2
          (try simp only [Exit.inBlock, Exit.then]); refine bodyPost_ret (results_none rfl _ _ _) rfl ?_
          obtain ⟨h1, h2, h3, h4⟩ := H1.out
          obtain ⟨j1, j2, j3, j4⟩ := J.out
          have hql : P1 = [] := List.eq_nil_of_length_eq_zero (by omega)
          subst hql
          rw [List.nil_append] at h4
          subst h4
          have hm := ins_math (P := X1) (Q := Q) (x := y) (by rw [← j1]; exact ALL.out.2.2.2) j4 j3
          exact ⟨rfl, dk, hds, X1 ++ y :: Q, by rw [h1]; simp, hm.1, by rw [j1]; exact hm.2, S1.out⟩
end Go.Proofs.YtbmlpafbdbhaiaaGreatDoor.Gf
