/- What is proved here: the mathematics of a needle map: its stripes are what its items are, parted. No program text. -/
/- What is proved here: the mathematics of a needle map: its stripes are what its items are, parted. No program text. -/
import Derived.Test.YtimoinfjinmamaaGreatL11
namespace Go.Proofs.YtimoinfjinmamaaGreat.Gf
open Go
def sp (k : Nat) : Nat := (k * 11400714819323198485 % 18446744073709551616) / 2305843009213693952
theorem sp_lt (k : Nat) : sp k < 8 := by unfold sp; omega
def szT (x : Itm) : Int := szI6 x.sz
def byT (L : List Itm) : Int := (L.map szT).sum
theorem byT_nil : byT [] = 0 := rfl
theorem jxy (x : Itm) (L : List Itm) : byT (x :: L) = szT x + byT L := by simp [byT]
theorem byT_append (A B : List Itm) : byT (A ++ B) = byT A + byT B := by simp [byT, List.sum_append]
theorem szT_bd (x : Itm) : 0 ≤ szT x ∧ szT x ≤ 4200 := by unfold szT szI6; split <;> omega
theorem byT_bd : ∀ L : List Itm, 0 ≤ byT L ∧ byT L ≤ 4200 * (L.length : Int)
 | [] => by simp [byT_nil]
 | x :: L => by
  have := byT_bd L;have := szT_bd x;rw [jxy, List.length_cons]
  push_cast
  omega
structure Mp where
 st : List (List Itm)
 live : Int
 garb : Int
def ms (m : Mp) (s : Nat) : List Itm := m.st.getD s []
structure okM (m : Mp) : Prop where
 ok : ∀ s, s < 8 → okT (ms m s)
 sp : ∀ s, s < 8 → ∀ x ∈ ms m s, sp x.key = s
 live : m.live = byT m.st.flatten
 lo : 0 ≤ m.garb
 hi : m.garb ≤ 1099511627776
def fS (s : Nat) (L : List Itm) : List Itm := L.filter fun x => sp x.key == s
def jwp (L : List Itm) : List (List Itm) := (List.range 8).map fun s => fS s L
def mp0 : Mp := ⟨List.replicate 8 [], 0, 0⟩
def iL (m : Mp) : List Itm := jqx m.st.flatten
theorem jxc (L : List Itm) : (jwp L).length = 8 := by simp [jwp]
theorem jwr (L : List Itm) {s : Nat} (h : s < 8) : (jwp L).getD s [] = fS s L := by
 unfold jwp;rw [List.getD_eq_getElem?_getD, List.getElem?_map, List.getElem?_range h];rfl
theorem lk_app (A B : List Itm) (k : Nat) : lk (A ++ B) k = (lk B k).or (lk A k) := by
 unfold lk;rw [List.reverse_append, List.find?_append]
theorem ms_of {m : Mp} {s : Nat} (h : s < m.st.length) : ms m s = m.st[s] := by
 unfold ms;rw [List.getD_eq_getElem?_getD, List.getElem?_eq_getElem h];rfl
theorem lk_stripe {m : Mp} (h : okM m) {s : Nat} (hs : s < 8) (k : Nat) (hk : sp k ≠ s) : lk (ms m s) k = none := jxs.2 fun x hx e => hk (by rw [← e]; exact h.sp s hs x hx)
theorem lk_flat {m : Mp} (h : okM m) (hl : m.st.length = 8) (k : Nat) : ∀ s, s ≤ 8 → lk (m.st.take s).flatten k = if sp k < s then lk (ms m (sp k)) k else none
 | 0, _ => by simp [lk_nil]
 | s + 1, hs => by
  have ih := lk_flat h hl k s (by omega);rw [List.take_succ_eq_append_getElem (by omega), List.flatten_append, lk_app, ih, ← ms_of (by omega)];rw [show [ms m s].flatten = ms m s by simp]
  by_cases c : sp k = s
  ·subst c
   rw [if_neg (by omega), if_pos (by omega)];simp
  ·rw [lk_stripe h (by omega) k c]
   by_cases c2 : sp k < s
   ·rw [if_pos c2, if_pos (by omega)]; rfl
   ·rw [if_neg c2, if_neg (by omega)]; rfl
theorem lk_iL {m : Mp} (h : okM m) (hl : m.st.length = 8) (k : Nat) : lk (iL m) k = lk (ms m (sp k)) k := by
 have := lk_flat h hl k 8 (Nat.le_refl _);rw [List.take_of_length_le (by omega), if_pos (sp_lt k)] at this;unfold iL;rw [jws, this]
theorem asc_iL (m : Mp) : Asc (iL m) := jq3 _
theorem st_ext {A B : List (List Itm)} (ha : A.length = 8) (hb : B.length = 8) (h : ∀ s, s < 8 → A.getD s [] = B.getD s []) : A = B := by
 refine List.ext_getElem (by omega) fun s h1 h2 => ?_;have := h s (by omega);rw [List.getD_eq_getElem?_getD, List.getD_eq_getElem?_getD, List.getElem?_eq_getElem h1, List.getElem?_eq_getElem h2] at this;exact this
def G40 : Int := 1099511627776
open Classical in
noncomputable def jwn (m : Mp) : List Itm := if okM m then iL m else []
open Classical in
noncomputable def jxg (l : List Itm) (g : Int) : Mp := if (∀ x ∈ l, okI x) ∧ 0 ≤ g ∧ g ≤ G40 then ⟨jwp (jqx l), byT (jqx l), g⟩ else mp0
def oldT (L : List Itm) (k : Nat) : Int := ((lk L k).map szT).getD 0
open Classical in
noncomputable def putM (m : Mp) (x : Itm) : Mp := if okM m ∧ okI x then (if G40 < m.garb + oldT (iL m) x.key then m else jxg (putL (iL m) x) (m.garb + oldT (iL m) x.key)) else m
open Classical in
noncomputable def delM (m : Mp) (k : Nat) : Mp := if okM m ∧ (lk (iL m) k).isSome then (if G40 < m.garb + oldT (iL m) k then m else jxg (dropL (iL m) k) (m.garb + oldT (iL m) k)) else m
open Classical in
noncomputable def jwk (m : Mp) (n : Int) : Mp := if okM m ∧ 0 ≤ n ∧ n ≤ G40 - m.garb then ⟨m.st, m.live, m.garb + n⟩ else m
theorem oldT_bd (L : List Itm) (k : Nat) : 0 ≤ oldT L k ∧ oldT L k ≤ 4200 := by
 unfold oldT
 cases lk L k with
 | none => simp
 | some x => exact szT_bd x
theorem iL_ok {m : Mp} (h : okM m) (hl : m.st.length = 8) : ∀ x ∈ iL m, okI x := fun x hx => by
 have h1 : lk (iL m) x.key = some x := (asc_lk (asc_iL m)).2 ⟨hx, rfl⟩;rw [lk_iL h hl] at h1;exact (h.ok _ (sp_lt _)).1 x (lk_some h1).1
theorem sort_iL (m : Mp) : jqx (iL m) = iL m := sort_asc (asc_iL m)
theorem nodup_flat {m : Mp} (h : okM m) (hl : m.st.length = 8) : ∀ s, s ≤ 8 → ((m.st.take s).flatten.map (·.key)).Nodup
 | 0, _ => by simp
 | s + 1, hs => by
  have ih := nodup_flat h hl s (by omega);rw [List.take_succ_eq_append_getElem (by omega), List.flatten_append, List.map_append, ← ms_of (by omega), show [ms m s].flatten = ms m s by simp];refine List.nodup_append.2 ⟨ih, ?_, ?_⟩
  ·exact List.Pairwise.map _ (fun a b (h : a.key < b.key) => by show a.key ≠ b.key; omega) (h.ok s (by omega)).2
  ·intro a ha b hb e
   subst e;obtain ⟨x, hx, rfl⟩ := List.mem_map.1 ha;obtain ⟨y, hy, e⟩ := List.mem_map.1 hb;have h1 := h.sp s (by omega) y hy;obtain ⟨l, hl1, hl2⟩ := List.mem_flatten.1 hx;obtain ⟨i, hi, rfl⟩ := List.getElem_of_mem hl1;rw [List.length_take] at hi;rw [List.getElem_take, ← ms_of (by omega)] at hl2;have h2 := h.sp i (by omega) x hl2;rw [e] at h1;omega
theorem flat_split (L : List Itm) : (jwp L).flatten.length = L.length ∧ byT (jwp L).flatten = byT L := by
 have key : ∀ (f : Itm → Int) (n : Nat) (L : List Itm), ((((List.range n).map fun s => fS s L).flatten).map f).sum = ((L.filter fun x => decide (sp x.key < n)).map f).sum := by
  intro f n L
  induction n with
  | zero =>
   rw [List.filter_eq_nil_iff.2 (by simp)];simp
  | succ n ih =>
   rw [List.range_succ, List.map_append, List.flatten_append, List.map_append, List.sum_append, ih];rw [show (List.map (fun s => fS s L) [n]).flatten = fS n L by simp];clear ih
   induction L with
   | nil => simp [fS]
   | cons x L ih =>
    unfold fS at ih ⊢;rcases Nat.lt_trichotomy (sp x.key) n with h | h | h
    ·rw [List.filter_cons_of_pos (by simpa using h), List.filter_cons_of_neg (by simp; omega), List.filter_cons_of_pos (by simp; omega)]
     simp only [List.map_cons, List.sum_cons];omega
    ·rw [List.filter_cons_of_neg (by simp; omega), List.filter_cons_of_pos (by simpa using h), List.filter_cons_of_pos (by simp; omega)]
     simp only [List.map_cons, List.sum_cons];omega
    ·rw [List.filter_cons_of_neg (by simp; omega), List.filter_cons_of_neg (by simp; omega), List.filter_cons_of_neg (by simp; omega)]
     exact ih
 have hall : L.filter (fun x => decide (sp x.key < 8)) = L := List.filter_eq_self.2 fun x _ => by simpa using sp_lt x.key
 constructor
 ·have := key (fun _ => 1) 8 L
  rw [hall] at this;have one : ∀ L : List Itm, (L.map (fun _ => (1 : Int))).sum = (L.length : Int) := fun L => by
   induction L with
   | nil => rfl
   | cons x L ih => rw [List.map_cons, List.sum_cons, ih, List.length_cons]; push_cast; omega
  rw [one, one] at this;unfold jwp;omega
 ·have := key szT 8 L
  rw [hall] at this;exact this
end Go.Proofs.YtimoinfjinmamaaGreat.Gf
namespace Go.Proofs.YtimoinfjinmamaaGreat.Gf
open Go
theorem mp0_ok : okM mp0 ∧ mp0.st.length = 8 := by
 refine ⟨⟨fun s hs => ?_, fun s hs x hx => ?_, rfl, by decide, by decide⟩, rfl⟩
 ·have e : ms mp0 s = [] := by
   unfold ms mp0;rw [List.getD_eq_getElem?_getD, List.getElem?_replicate];split <;> rfl
  rw [e];exact ⟨by simp, List.Pairwise.nil⟩
 ·have e : ms mp0 s = [] := by
   unfold ms mp0;rw [List.getD_eq_getElem?_getD, List.getElem?_replicate];split <;> rfl
  rw [e] at hx
  cases hx
def FewN (m : Mp) (n : Nat) : Prop := ∀ k, k < 8 → (ms m k).length ≤ n
theorem merge_step (F B : List Itm) : mergeL (jqx F) B [] = jqx (F ++ B) := by
 refine asc_ext (asc_mergeL _ _ _) (jq3 _) fun k => ?_;rw [lk_mergeL, jws, jws, lk_app]
 cases lk B k with
 | none => simp
 | some x => rfl
end Go.Proofs.YtimoinfjinmamaaGreat.Gf
namespace Go.Proofs.YtimoinfjinmamaaGreat.Gf
def djT (x y : Itm) : Prop := x.off + szT x ≤ y.off ∨ y.off + szT y ≤ x.off
def apL (L : List Itm) (n : Int) : Prop := (∀ x ∈ L, x.off + szT x ≤ n) ∧ L.Pairwise djT
theorem djT_symm {x y : Itm} (h : djT x y) : djT y x := h.symm
theorem apL_perm {L M : List Itm} (h : L.Perm M) (n : Int) : apL L n ↔ apL M n :=
 and_congr ⟨fun H x hx => H x (h.mem_iff.2 hx), fun H x hx => H x (h.mem_iff.1 hx)⟩ (h.pairwise_iff fun {_ _} => djT_symm)
def nxL (L : List Itm) (n : Int) (i : Nat) : Int := if i + 1 < L.length then (L.getD (i + 1) z0).off else n
theorem jw5 {L : List Itm} {i : Nat} (h : i < L.length) : L.getD i z0 = L[i] := by simp [List.getD, h]
theorem ap_chain {L : List Itm} {n : Int} (hs : ∀ i j, i < j → j < L.length → (L.getD i z0).off ≤ (L.getD j z0).off) (hp : ∀ x ∈ L, 0 < szT x) : apL L n ↔ ∀ i, i < L.length → (L.getD i z0).off + szT (L.getD i z0) ≤ nxL L n i := by
 have hpi : ∀ i, i < L.length → 0 < szT (L.getD i z0) := fun i hi => by rw [jw5 hi]; exact hp _ (List.getElem_mem hi)
 constructor
 ·rintro ⟨h1, h2⟩ i hi
  unfold nxL;split
  ·rename_i h3
   have h4 := List.pairwise_iff_getElem.1 h2 i (i + 1) hi h3 (Nat.lt_succ_self i);rw [← jw5 hi, ← jw5 h3] at h4;have h5 := hs i (i + 1) (Nat.lt_succ_self i) h3;have h6 := hpi (i + 1) h3;rcases h4 with h4 | h4
   ·exact h4
   ·omega
  ·rw [jw5 hi]
   exact h1 _ (List.getElem_mem hi)
 ·intro h
  have hlt : ∀ i j, i < j → j < L.length → (L.getD i z0).off + szT (L.getD i z0) ≤ (L.getD j z0).off := fun i j hij hj => by
   have h1 := h i (by omega);unfold nxL at h1;rw [if_pos (by omega)] at h1
   by_cases e : i + 1 = j
   ·rw [e] at h1; exact h1
   ·have := hs (i + 1) j (by omega) hj
    omega
  refine ⟨fun x hx => ?_, List.pairwise_iff_getElem.2 fun i j hi hj hij => ?_⟩
  ·obtain ⟨i, hi, rfl⟩ := List.getElem_of_mem hx
   rw [← jw5 hi];have hl := h (L.length - 1) (by omega);unfold nxL at hl;rw [if_neg (by omega)] at hl
   by_cases e : i = L.length - 1
   ·rw [e]; exact hl
   ·have h1 := hlt i (L.length - 1) (by omega) (by omega)
    have h2 := hpi (L.length - 1) (by omega);omega
  ·rw [← jw5 hi, ← jw5 hj]
   exact Or.inl (hlt i j hij hj)
def endsP (L : List Itm) (n : Int) : Prop := ∀ i, i < L.length → (L.getD i z0).off + szT (L.getD i z0) ≤ n ∧ ∀ k, k < L.length → ¬ (k ≠ i ∧ (L.getD i z0).off ≤ (L.getD k z0).off ∧ (L.getD k z0).off < (L.getD i z0).off + szT (L.getD i z0))
theorem ap_ends {L : List Itm} {n : Int} (hp : ∀ x ∈ L, 0 < szT x) : apL L n ↔ endsP L n := by
 have hpi : ∀ i, i < L.length → 0 < szT (L.getD i z0) := fun i hi => by rw [jw5 hi]; exact hp _ (List.getElem_mem hi)
 constructor
 ·rintro ⟨h1, h2⟩ i hi
  refine ⟨by rw [jw5 hi]; exact h1 _ (List.getElem_mem hi), fun k hk ⟨hne, h3, h4⟩ => ?_⟩;have h5 : djT (L.getD i z0) (L.getD k z0) := by
   rcases Nat.lt_or_gt_of_ne hne with h | h
   ·have := List.pairwise_iff_getElem.1 h2 k i hk hi h
    rw [← jw5 hi, ← jw5 hk] at this;exact djT_symm this
   ·have := List.pairwise_iff_getElem.1 h2 i k hi hk h
    rw [← jw5 hi, ← jw5 hk] at this;exact this
  have h6 := hpi k hk;rcases h5 with h5 | h5 <;> omega
 ·intro h
  refine ⟨fun x hx => ?_, List.pairwise_iff_getElem.2 fun i j hi hj hij => ?_⟩
  ·obtain ⟨i, hi, rfl⟩ := List.getElem_of_mem hx
   rw [← jw5 hi];exact (h i hi).1
  ·rw [← jw5 hi, ← jw5 hj]
   have h1 := (h i hi).2 j hj;have h2 := (h j hj).2 i hi;unfold djT
   by_cases e : (L.getD i z0).off ≤ (L.getD j z0).off
   ·left
    rcases Int.lt_or_le (L.getD j z0).off ((L.getD i z0).off + szT (L.getD i z0)) with h3 | h3
    ·exact absurd ⟨by omega, e, h3⟩ h1
    ·exact h3
   ·right
    rcases Int.lt_or_le (L.getD i z0).off ((L.getD j z0).off + szT (L.getD j z0)) with h3 | h3
    ·exact absurd ⟨by omega, by omega, h3⟩ h2
    ·exact h3
structure Ge where
 num : Int
 rev : Int
 mode : Int
 size : Int
 m : Mp
structure okGh (g : Ge) : Prop where
 n1 : 1 ≤ g.num
 n8 : g.num ≤ 8
 r0 : 0 ≤ g.rev
 r1 : g.rev ≤ 4294967295
 m1 : 1 ≤ g.mode
 m3 : g.mode ≤ 3
 s0 : 16 ≤ g.size
 s1 : g.size ≤ 1048576
 s8 : g.size.tmod 8 = 0
structure okGe (g : Ge) : Prop where
 hd : okGh g
 ok : okM g.m
 eq : g.size = 16 + g.m.live + g.m.garb
 ap : apL (iL g.m) g.size
open Classical in
noncomputable def okGb (g : Ge) : Bool := decide (okGe g)
theorem okGb_t {g : Ge} (h : okGe g) : okGb g = true := by unfold okGb; exact @decide_eq_true _ (Classical.propDecidable _) h
theorem jw0 {g : Ge} (h : ¬ okGe g) : okGb g = false := by unfold okGb; exact @decide_eq_false _ (Classical.propDecidable _) h
end Go.Proofs.YtimoinfjinmamaaGreat.Gf
