/- What is proved here: the mathematics of a needle map: its stripes are what its items are, parted. No program text. -/
import Derived.Test.YtbmlpafbdbhaiaaGreatDoorL11
namespace Go.Proofs.YtbmlpafbdbhaiaaGreatDoor.Gf
open Go

/-- The stripe of a key. -/
def sp (k : Nat) : Nat := (k * 11400714819323198485 % 18446744073709551616) / 2305843009213693952
theorem sp_lt (k : Nat) : sp k < 8 := by unfold sp; omega
def szT (x : Itm) : Int := szI6 x.sz
def byT (L : List Itm) : Int := (L.map szT).sum
theorem byT_nil : byT [] = 0 := rfl
theorem byT_cons (x : Itm) (L : List Itm) : byT (x :: L) = szT x + byT L := by simp [byT]
theorem byT_append (A B : List Itm) : byT (A ++ B) = byT A + byT B := by simp [byT, List.sum_append]
theorem szT_bd (x : Itm) : 0 ≤ szT x ∧ szT x ≤ 4200 := by unfold szT szI6; split <;> omega
theorem byT_bd : ∀ L : List Itm, 0 ≤ byT L ∧ byT L ≤ 4200 * (L.length : Int)
 | [] => by simp [byT_nil]
 | x :: L => by
  have := byT_bd L
  have := szT_bd x
  rw [byT_cons, List.length_cons]
  push_cast
  omega
/-- A needle map. -/
structure Mp where
 st : List (List Itm)
 live : Int
 garb : Int
def ms (m : Mp) (s : Nat) : List Itm := m.st.getD s []
structure okM (m : Mp) : Prop where
 ok : ∀ s, s < 8 → okT (ms m s)
 sp : ∀ s, s < 8 → ∀ x ∈ ms m s, sp x.key = s
 live : m.live = byT m.st.flatten
 lo : 0 ≤ m.garb
 hi : m.garb ≤ 1099511627776
/-- The items of one stripe. -/
def fS (s : Nat) (L : List Itm) : List Itm := L.filter fun x => sp x.key == s
def splitM (L : List Itm) : List (List Itm) := (List.range 8).map fun s => fS s L
def mp0 : Mp := ⟨List.replicate 8 [], 0, 0⟩
def iL (m : Mp) : List Itm := sortL m.st.flatten
theorem split_len (L : List Itm) : (splitM L).length = 8 := by simp [splitM]
theorem split_get (L : List Itm) {s : Nat} (h : s < 8) : (splitM L).getD s [] = fS s L := by
 unfold splitM
 rw [List.getD_eq_getElem?_getD, List.getElem?_map, List.getElem?_range h]
 rfl
theorem asc_fS {L : List Itm} (s : Nat) (h : Asc L) : Asc (fS s L) := List.Pairwise.filter _ h
theorem mem_fS {L : List Itm} {s : Nat} {x : Itm} : x ∈ fS s L ↔ x ∈ L ∧ sp x.key = s := by
 unfold fS
 rw [List.mem_filter]
 simp
theorem lk_fS (L : List Itm) (s k : Nat) : lk (fS s L) k = if sp k = s then lk L k else none := by
 revert L
 refine listRev ?_ ?_
 ·simp [fS, lk_nil]
 ·intro L x ih
  unfold fS at ih ⊢
  rw [List.filter_append, lk_snoc]
  by_cases c : sp x.key = s
  ·rw [List.filter_cons_of_pos (by simpa using c), List.filter_nil, lk_snoc, ih]
   by_cases e : x.key = k
   ·rw [if_pos e, if_pos (by rw [← e]; exact c), if_pos e]
   ·rw [if_neg e, if_neg e]
  ·rw [List.filter_cons_of_neg (by simpa using c), List.filter_nil, List.append_nil, ih]
   by_cases e : x.key = k
   ·rw [if_neg (by rw [← e]; exact c), if_neg (by rw [← e]; exact c)]
   ·rw [if_neg e]
theorem lk_app (A B : List Itm) (k : Nat) : lk (A ++ B) k = (lk B k).or (lk A k) := by
 unfold lk
 rw [List.reverse_append, List.find?_append]
theorem ms_of {m : Mp} {s : Nat} (h : s < m.st.length) : ms m s = m.st[s] := by
 unfold ms
 rw [List.getD_eq_getElem?_getD, List.getElem?_eq_getElem h]
 rfl
theorem lk_stripe {m : Mp} (h : okM m) {s : Nat} (hs : s < 8) (k : Nat) (hk : sp k ≠ s) : lk (ms m s) k = none := lk_none.2 fun x hx e => hk (by rw [← e]; exact h.sp s hs x hx)
theorem lk_flat {m : Mp} (h : okM m) (hl : m.st.length = 8) (k : Nat) : ∀ s, s ≤ 8 → lk (m.st.take s).flatten k = if sp k < s then lk (ms m (sp k)) k else none
 | 0, _ => by simp [lk_nil]
 | s + 1, hs => by
  have ih := lk_flat h hl k s (by omega)
  rw [List.take_succ_eq_append_getElem (by omega), List.flatten_append, lk_app, ih, ← ms_of (by omega)]
  rw [show [ms m s].flatten = ms m s by simp]
  by_cases c : sp k = s
  ·subst c
   rw [if_neg (by omega), if_pos (by omega)]
   simp
  ·rw [lk_stripe h (by omega) k c]
   by_cases c2 : sp k < s
   ·rw [if_pos c2, if_pos (by omega)]; rfl
   ·rw [if_neg c2, if_neg (by omega)]; rfl
/-- The item of a key is that of its stripe. -/
theorem lk_iL {m : Mp} (h : okM m) (hl : m.st.length = 8) (k : Nat) : lk (iL m) k = lk (ms m (sp k)) k := by
 have := lk_flat h hl k 8 (Nat.le_refl _)
 rw [List.take_of_length_le (by omega), if_pos (sp_lt k)] at this
 unfold iL
 rw [lk_sortL, this]
theorem asc_iL (m : Mp) : Asc (iL m) := asc_sortL _
/-- The stripes are the items, parted. -/
theorem fS_iL {m : Mp} (h : okM m) (hl : m.st.length = 8) {s : Nat} (hs : s < 8) : fS s (iL m) = ms m s := by
 refine asc_ext (asc_fS s (asc_iL m)) (h.ok s hs).2 fun k => ?_
 rw [lk_fS, lk_iL h hl]
 by_cases c : sp k = s
 ·rw [if_pos c, c]
 ·rw [if_neg c, lk_stripe h hs k c]
theorem st_ext {A B : List (List Itm)} (ha : A.length = 8) (hb : B.length = 8) (h : ∀ s, s < 8 → A.getD s [] = B.getD s []) : A = B := by
 refine List.ext_getElem (by omega) fun s h1 h2 => ?_
 have := h s (by omega)
 rw [List.getD_eq_getElem?_getD, List.getD_eq_getElem?_getD, List.getElem?_eq_getElem h1, List.getElem?_eq_getElem h2] at this
 exact this
theorem byT_ins {x : Itm} {S : List Itm} (h : Asc S) : byT (insL x S) + ((lk S x.key).map szT).getD 0 = byT S + szT x := by
 induction S with
 | nil => simp [insL, byT_cons, byT_nil, lk_nil]
 | cons y S ih =>
  obtain ⟨h1, h2⟩ := asc_cons.1 h
  have ih := ih h2
  have hl : lk (y :: S) x.key = if y.key = x.key then some y else lk S x.key := by
   have := lk_app [y] S x.key
   rw [List.singleton_append] at this
   rw [this]
   have e1 : lk [y] x.key = if y.key = x.key then some y else none := by
    have := lk_snoc [] y x.key
    rw [List.nil_append] at this
    rw [this, lk_nil]
   rw [e1]
   by_cases c : y.key = x.key
   ·rw [if_pos c, if_pos c]
    have : lk S x.key = none := lk_none.2 fun z hz e => by have := h1 z hz; omega
    rw [this]
    rfl
   ·rw [if_neg c, if_neg c]
    cases lk S x.key <;> rfl
  unfold insL
  split
  ·rename_i c
   rw [hl, if_neg (by omega), byT_cons, byT_cons]
   omega
  ·split
   ·rename_i c
    rw [hl, if_pos c, byT_cons, byT_cons]
    simp
    omega
   ·have hn : lk (y :: S) x.key = none := lk_none.2 fun z hz e => by
     rcases List.mem_cons.1 hz with rfl | hz
     ·omega
     ·have := h1 z hz; omega
    rw [hn, byT_cons, byT_cons]
    simp
    omega
/-- The bytes of items with different keys, in any order. -/
theorem byT_sort : ∀ {L : List Itm}, (L.map (·.key)).Nodup → byT (sortL L) = byT L := by
 intro L
 refine listRev (P := fun L => (L.map (·.key)).Nodup → byT (sortL L) = byT L) ?_ ?_ L
 ·intro _; rfl
 ·intro L x ih h
  rw [List.map_append, List.nodup_append] at h
  obtain ⟨h1, -, h3⟩ := h
  rw [sortL_snoc, byT_append, ← ih h1, byT_cons, byT_nil]
  have e := byT_ins (x := x) (asc_sortL L)
  rw [lk_sortL, lk_none.2 (fun z hz e => h3 z.key (List.mem_map.2 ⟨z, hz, rfl⟩) x.key (by simp) e)] at e
  simp at e
  omega
theorem byT_del {k : Nat} {S : List Itm} (h : Asc S) : byT (delL k S) + ((lk S k).map szT).getD 0 = byT S := by
 induction S with
 | nil => simp [delL, byT_nil, lk_nil]
 | cons y S ih =>
  obtain ⟨h1, h2⟩ := asc_cons.1 h
  have ih := ih h2
  have hl : lk (y :: S) k = (lk S k).or (if y.key = k then some y else none) := by
   have := lk_app [y] S k
   rw [List.singleton_append] at this
   rw [this]
   have e1 : lk [y] k = if y.key = k then some y else none := by
    have := lk_snoc [] y k
    rw [List.nil_append] at this
    rw [this, lk_nil]
   rw [e1]
  unfold delL at ih ⊢
  by_cases c : y.key = k
  ·rw [hl, if_pos c, List.filter_cons_of_neg (by simpa using c), byT_cons]
   have : lk S k = none := lk_none.2 fun z hz e => by have := h1 z hz; omega
   rw [this] at ih ⊢
   simp at ih ⊢
   omega
  ·rw [hl, if_neg c, List.filter_cons_of_pos (by simpa using c), byT_cons, byT_cons]
   cases e : lk S k with
   | none => rw [e] at ih; simp at ih ⊢; omega
   | some z => rw [e] at ih; simp at ih ⊢; omega
/-- What the reference answers. -/
def G40 : Int := 1099511627776
open Classical in
noncomputable def itemsL (m : Mp) : List Itm := if okM m then iL m else []
open Classical in
noncomputable def fromL (l : List Itm) (g : Int) : Mp := if (∀ x ∈ l, okI x) ∧ 0 ≤ g ∧ g ≤ G40 then ⟨splitM (sortL l), byT (sortL l), g⟩ else mp0
def oldT (L : List Itm) (k : Nat) : Int := ((lk L k).map szT).getD 0
open Classical in
noncomputable def putM (m : Mp) (x : Itm) : Mp := if okM m ∧ okI x then (if G40 < m.garb + oldT (iL m) x.key then m else fromL (putL (iL m) x) (m.garb + oldT (iL m) x.key)) else m
open Classical in
noncomputable def delM (m : Mp) (k : Nat) : Mp := if okM m ∧ (lk (iL m) k).isSome then (if G40 < m.garb + oldT (iL m) k then m else fromL (dropL (iL m) k) (m.garb + oldT (iL m) k)) else m
open Classical in
noncomputable def wasteM (m : Mp) (n : Int) : Mp := if okM m ∧ 0 ≤ n ∧ n ≤ G40 - m.garb then ⟨m.st, m.live, m.garb + n⟩ else m
theorem oldT_bd (L : List Itm) (k : Nat) : 0 ≤ oldT L k ∧ oldT L k ≤ 4200 := by
 unfold oldT
 cases lk L k with
 | none => simp
 | some x => exact szT_bd x
theorem iL_ok {m : Mp} (h : okM m) (hl : m.st.length = 8) : ∀ x ∈ iL m, okI x := fun x hx => by
 have h1 : lk (iL m) x.key = some x := (asc_lk (asc_iL m)).2 ⟨hx, rfl⟩
 rw [lk_iL h hl] at h1
 exact (h.ok _ (sp_lt _)).1 x (lk_some h1).1
theorem old_stripe {m : Mp} (h : okM m) (hl : m.st.length = 8) (k : Nat) : oldT (iL m) k = oldT (ms m (sp k)) k := by unfold oldT; rw [lk_iL h hl]
theorem sort_iL (m : Mp) : sortL (iL m) = iL m := sort_asc (asc_iL m)
theorem nodup_flat {m : Mp} (h : okM m) (hl : m.st.length = 8) : ∀ s, s ≤ 8 → ((m.st.take s).flatten.map (·.key)).Nodup
 | 0, _ => by simp
 | s + 1, hs => by
  have ih := nodup_flat h hl s (by omega)
  rw [List.take_succ_eq_append_getElem (by omega), List.flatten_append, List.map_append, ← ms_of (by omega), show [ms m s].flatten = ms m s by simp]
  refine List.nodup_append.2 ⟨ih, ?_, ?_⟩
  ·exact List.Pairwise.map _ (fun a b (h : a.key < b.key) => by show a.key ≠ b.key; omega) (h.ok s (by omega)).2
  ·intro a ha b hb e
   subst e
   obtain ⟨x, hx, rfl⟩ := List.mem_map.1 ha
   obtain ⟨y, hy, e⟩ := List.mem_map.1 hb
   have h1 := h.sp s (by omega) y hy
   obtain ⟨l, hl1, hl2⟩ := List.mem_flatten.1 hx
   obtain ⟨i, hi, rfl⟩ := List.getElem_of_mem hl1
   rw [List.length_take] at hi
   rw [List.getElem_take, ← ms_of (by omega)] at hl2
   have h2 := h.sp i (by omega) x hl2
   rw [e] at h1
   omega
theorem byT_flat {m : Mp} (h : okM m) (hl : m.st.length = 8) : byT (iL m) = m.live := by
 rw [h.live]
 have e : ∀ s, s ≤ 8 → byT (sortL (m.st.take s).flatten) = byT (m.st.take s).flatten ∧ ∀ x ∈ (m.st.take s).flatten, sp x.key < s := by
  intro s
  induction s with
  | zero => intro _; exact ⟨rfl, by simp⟩
  | succ s ih =>
   intro hs
   obtain ⟨-, h2⟩ := ih (by omega)
   have hx : ∀ x ∈ (m.st.take (s + 1)).flatten, sp x.key < s + 1 := by
    rw [List.take_succ_eq_append_getElem (by omega), List.flatten_append, ← ms_of (by omega)]
    intro x hx
    rcases List.mem_append.1 hx with hx | hx
    ·have := h2 x hx; omega
    ·have := h.sp s (by omega) x (by simpa using hx); omega
   exact ⟨byT_sort (nodup_flat h hl (s + 1) hs), hx⟩
 have := (e 8 (Nat.le_refl _)).1
 rw [List.take_of_length_le (by omega)] at this
 exact this
/-- A put of the reference is one of the stripe. -/
theorem put_eq {m : Mp} (h : okM m) (hl : m.st.length = 8) {x : Itm} (hx : okI x) (hg : m.garb + oldT (ms m (sp x.key)) x.key ≤ G40) : putM m x = ⟨m.st.set (sp x.key) (putL (ms m (sp x.key)) x), m.live + szT x - oldT (ms m (sp x.key)) x.key, m.garb + oldT (ms m (sp x.key)) x.key⟩ := by
 have ho := oldT_bd (iL m) x.key
 have ha := asc_iL m
 have hs8 := sp_lt x.key
 unfold putM
 rw [if_pos ⟨h, hx⟩, if_neg (by rw [old_stripe h hl]; omega)]
 unfold fromL
 have hp : putL (iL m) x = insL x (iL m) := by unfold putL; rw [sort_iL]
 have hsp : sortL (putL (iL m) x) = insL x (iL m) := by rw [hp]; exact sort_asc (asc_insL ha)
 rw [if_pos ⟨fun y hy => by
  rw [hp] at hy
  rcases (mem_insL ha y).1 hy with rfl | h2
  ·exact hx
  ·exact iL_ok h hl y h2.1, by have := h.lo; omega, by rw [old_stripe h hl]; exact hg⟩, hsp]
 have e1 : splitM (insL x (iL m)) = m.st.set (sp x.key) (putL (ms m (sp x.key)) x) := by
  refine st_ext (split_len _) (by rw [List.length_set]; exact hl) fun s hs => ?_
  rw [split_get _ hs]
  by_cases c : sp x.key = s
  ·have e2 : (m.st.set (sp x.key) (putL (ms m (sp x.key)) x)).getD s [] = putL (ms m (sp x.key)) x := by
    rw [List.getD_eq_getElem?_getD, c, List.getElem?_set_self (by omega)]
    rfl
   rw [e2]
   have hA : Asc (putL (ms m (sp x.key)) x) := asc_insL (asc_sortL _)
   refine asc_ext (asc_fS s (asc_insL ha)) hA fun k => ?_
   have hm : Asc (ms m (sp x.key)) := (h.ok _ (by omega)).2
   unfold putL
   rw [lk_fS, lk_insL ha, lk_insL (asc_sortL _), lk_sortL, lk_iL h hl]
   by_cases e : x.key = k
   ·rw [if_pos e, if_pos e, if_pos (by rw [← e]; exact c)]
   ·rw [if_neg e, if_neg e]
    by_cases c3 : sp k = s
    ·rw [if_pos c3, c3, c]
    ·rw [if_neg c3, lk_stripe h hs8 k (by omega)]
  ·have e2 : (m.st.set (sp x.key) (putL (ms m (sp x.key)) x)).getD s [] = ms m s := by
    rw [List.getD_eq_getElem?_getD, List.getElem?_set_ne c]
    rfl
   rw [e2, ← fS_iL h hl hs]
   refine asc_ext (asc_fS s (asc_insL ha)) (asc_fS s ha) fun k => ?_
   rw [lk_fS, lk_fS, lk_insL ha]
   by_cases c3 : sp k = s
   ·rw [if_pos c3, if_pos c3, if_neg (by intro e; rw [e] at c; exact c c3)]
   ·rw [if_neg c3, if_neg c3]
 rw [e1]
 have e3 := byT_ins (x := x) ha
 have e4 := byT_flat h hl
 have e5 := old_stripe h hl x.key
 unfold oldT at e5 ⊢
 rw [e5] at e3
 congr 1
 ·omega
 ·rw [e5]
theorem del_none {m : Mp} (h : okM m) (hl : m.st.length = 8) {k : Nat} (hg : lk (ms m (sp k)) k = none) : delM m k = m := by
 unfold delM
 rw [if_neg]
 rintro ⟨-, h2⟩
 rw [lk_iL h hl, hg] at h2
 cases h2
theorem del_eq {m : Mp} (h : okM m) (hl : m.st.length = 8) {k : Nat} (hs : (lk (ms m (sp k)) k).isSome) (hg : m.garb + oldT (ms m (sp k)) k ≤ G40) : delM m k = ⟨m.st.set (sp k) (dropL (ms m (sp k)) k), m.live - oldT (ms m (sp k)) k, m.garb + oldT (ms m (sp k)) k⟩ := by
 have ho := oldT_bd (iL m) k
 have ha := asc_iL m
 have hs8 := sp_lt k
 unfold delM
 rw [if_pos ⟨h, by rw [lk_iL h hl]; exact hs⟩, if_neg (by rw [old_stripe h hl]; omega)]
 unfold fromL
 have hp : dropL (iL m) k = delL k (iL m) := by unfold dropL; rw [sort_iL]
 have hsp : sortL (dropL (iL m) k) = delL k (iL m) := by rw [hp]; exact sort_asc (asc_delL k ha)
 rw [if_pos ⟨fun y hy => by
  rw [hp] at hy
  exact iL_ok h hl y (mem_delL hy), by have := h.lo; omega, by rw [old_stripe h hl]; exact hg⟩, hsp]
 have e1 : splitM (delL k (iL m)) = m.st.set (sp k) (dropL (ms m (sp k)) k) := by
  refine st_ext (split_len _) (by rw [List.length_set]; exact hl) fun s hs => ?_
  rw [split_get _ hs]
  by_cases c : sp k = s
  ·have e2 : (m.st.set (sp k) (dropL (ms m (sp k)) k)).getD s [] = dropL (ms m (sp k)) k := by
    rw [List.getD_eq_getElem?_getD, c, List.getElem?_set_self (by omega)]
    rfl
   rw [e2]
   refine asc_ext (asc_fS s (asc_delL k ha)) (asc_delL k (asc_sortL _)) fun j => ?_
   unfold dropL
   rw [lk_fS, lk_delL ha, lk_delL (asc_sortL _), lk_sortL, lk_iL h hl]
   by_cases e : j = k
   ·rw [if_pos e, if_pos e]; split <;> rfl
   ·rw [if_neg e, if_neg e]
    by_cases c3 : sp j = s
    ·rw [if_pos c3, c3, c]
    ·rw [if_neg c3, lk_stripe h hs8 j (by omega)]
  ·have e2 : (m.st.set (sp k) (dropL (ms m (sp k)) k)).getD s [] = ms m s := by
    rw [List.getD_eq_getElem?_getD, List.getElem?_set_ne c]
    rfl
   rw [e2, ← fS_iL h hl hs]
   refine asc_ext (asc_fS s (asc_delL k ha)) (asc_fS s ha) fun j => ?_
   rw [lk_fS, lk_fS, lk_delL ha]
   by_cases c3 : sp j = s
   ·rw [if_pos c3, if_pos c3, if_neg (by intro e; rw [e] at c3; exact c c3)]
   ·rw [if_neg c3, if_neg c3]
 rw [e1]
 have e3 := byT_del (k := k) ha
 have e4 := byT_flat h hl
 have e5 := old_stripe h hl k
 unfold oldT at e5 ⊢
 rw [e5] at e3
 congr 1
 ·omega
 ·rw [e5]
/-- The stripes of a list, each sorted, are those of the sorted list. -/
theorem split_sort (L : List Itm) (s : Nat) : sortL (fS s L) = fS s (sortL L) := asc_ext (asc_sortL _) (asc_fS s (asc_sortL L)) fun k => by
 rw [lk_sortL, lk_fS, lk_fS, lk_sortL]
theorem flat_split (L : List Itm) : (splitM L).flatten.length = L.length ∧ byT (splitM L).flatten = byT L := by
 have key : ∀ (f : Itm → Int) (n : Nat) (L : List Itm), ((((List.range n).map fun s => fS s L).flatten).map f).sum = ((L.filter fun x => decide (sp x.key < n)).map f).sum := by
  intro f n L
  induction n with
  | zero =>
   rw [List.filter_eq_nil_iff.2 (by simp)]
   simp
  | succ n ih =>
   rw [List.range_succ, List.map_append, List.flatten_append, List.map_append, List.sum_append, ih]
   rw [show (List.map (fun s => fS s L) [n]).flatten = fS n L by simp]
   clear ih
   induction L with
   | nil => simp [fS]
   | cons x L ih =>
    unfold fS at ih ⊢
    rcases Nat.lt_trichotomy (sp x.key) n with h | h | h
    ·rw [List.filter_cons_of_pos (by simpa using h), List.filter_cons_of_neg (by simp; omega), List.filter_cons_of_pos (by simp; omega)]
     simp only [List.map_cons, List.sum_cons]
     omega
    ·rw [List.filter_cons_of_neg (by simp; omega), List.filter_cons_of_pos (by simpa using h), List.filter_cons_of_pos (by simp; omega)]
     simp only [List.map_cons, List.sum_cons]
     omega
    ·rw [List.filter_cons_of_neg (by simp; omega), List.filter_cons_of_neg (by simp; omega), List.filter_cons_of_neg (by simp; omega)]
     exact ih
 have hall : L.filter (fun x => decide (sp x.key < 8)) = L := List.filter_eq_self.2 fun x _ => by simpa using sp_lt x.key
 constructor
 ·have := key (fun _ => 1) 8 L
  rw [hall] at this
  have one : ∀ L : List Itm, (L.map (fun _ => (1 : Int))).sum = (L.length : Int) := fun L => by
   induction L with
   | nil => rfl
   | cons x L ih => rw [List.map_cons, List.sum_cons, ih, List.length_cons]; push_cast; omega
  rw [one, one] at this
  unfold splitM
  omega
 ·have := key szT 8 L
  rw [hall] at this
  exact this
end Go.Proofs.YtbmlpafbdbhaiaaGreatDoor.Gf
namespace Go.Proofs.YtbmlpafbdbhaiaaGreatDoor.Gf
open Go

theorem fromL_ok {l : List Itm} {g : Int} (h : ∀ x ∈ l, okI x) (h0 : 0 ≤ g) (h1 : g ≤ G40) : okM ⟨splitM (sortL l), byT (sortL l), g⟩ where
 ok := fun s hs => by
  show okT ((splitM (sortL l)).getD s [])
  rw [split_get _ hs]
  exact ⟨fun x hx => h x (mem_sortL _ _ (mem_fS.1 hx).1), asc_fS s (asc_sortL l)⟩
 sp := fun s hs x hx => by
  have hx2 : x ∈ (splitM (sortL l)).getD s [] := hx
  rw [split_get _ hs] at hx2
  exact (mem_fS.1 hx2).2
 live := (flat_split (sortL l)).2.symm
 lo := h0
 hi := h1
theorem putM_ok {m : Mp} (h : okM m) (hl : m.st.length = 8) {x : Itm} (hx : okI x) : okM (putM m x) ∧ (putM m x).st.length = 8 := by
 unfold putM
 rw [if_pos ⟨h, hx⟩]
 split
 ·exact ⟨h, hl⟩
 ·rename_i hg
  have ha := asc_iL m
  have hp : putL (iL m) x = insL x (iL m) := by unfold putL; rw [sort_iL]
  have hall : ∀ y ∈ putL (iL m) x, okI y := fun y hy => by
   rw [hp] at hy
   rcases (mem_insL ha y).1 hy with rfl | h2
   ·exact hx
   ·exact iL_ok h hl y h2.1
  have ho := oldT_bd (iL m) x.key
  have hlo := h.lo
  unfold fromL
  rw [if_pos ⟨hall, by omega, by omega⟩]
  exact ⟨fromL_ok hall (by omega) (by omega), split_len _⟩
theorem delM_ok {m : Mp} (h : okM m) (hl : m.st.length = 8) (k : Nat) : okM (delM m k) ∧ (delM m k).st.length = 8 := by
 unfold delM
 split
 ·split
  ·exact ⟨h, hl⟩
  ·rename_i hg
   have hp : dropL (iL m) k = delL k (iL m) := by unfold dropL; rw [sort_iL]
   have hall : ∀ y ∈ dropL (iL m) k, okI y := fun y hy => by
    rw [hp] at hy
    exact iL_ok h hl y (mem_delL hy)
   have ho := oldT_bd (iL m) k
   have hlo := h.lo
   unfold fromL
   rw [if_pos ⟨hall, by omega, by omega⟩]
   exact ⟨fromL_ok hall (by omega) (by omega), split_len _⟩
 ·exact ⟨h, hl⟩
theorem wasteM_ok {m : Mp} (h : okM m) (hl : m.st.length = 8) (n : Int) : okM (wasteM m n) ∧ (wasteM m n).st.length = 8 := by
 unfold wasteM
 split
 ·rename_i c
  have hlo := h.lo
  refine ⟨⟨h.ok, h.sp, h.live, ?_, ?_⟩, hl⟩
  ·show 0 ≤ m.garb + n; omega
  ·show m.garb + n ≤ 1099511627776
   have := c.2.2
   unfold G40 at this
   omega
 ·exact ⟨h, hl⟩
theorem mp0_ok : okM mp0 ∧ mp0.st.length = 8 := by
 refine ⟨⟨fun s hs => ?_, fun s hs x hx => ?_, rfl, by decide, by decide⟩, rfl⟩
 ·have e : ms mp0 s = [] := by
   unfold ms mp0
   rw [List.getD_eq_getElem?_getD, List.getElem?_replicate]
   split <;> rfl
  rw [e]
  exact ⟨by simp, List.Pairwise.nil⟩
 ·have e : ms mp0 s = [] := by
   unfold ms mp0
   rw [List.getD_eq_getElem?_getD, List.getElem?_replicate]
   split <;> rfl
  rw [e] at hx
  cases hx
/-- The lengths of the stripes. -/
def FewN (m : Mp) (n : Nat) : Prop := ∀ k, k < 8 → (ms m k).length ≤ n
theorem few_set {m : Mp} {n u : Nat} {L : List Itm} {l g : Int} (h : FewN m n) (hL : L.length ≤ n) : FewN ⟨m.st.set u L, l, g⟩ n := fun k hk => by
 show ((m.st.set u L).getD k []).length ≤ n
 rw [List.getD_eq_getElem?_getD]
 by_cases e : u = k
 ·subst e
  by_cases hu : u < m.st.length
  ·rw [List.getElem?_set_self hu]; exact hL
  ·rw [List.set_eq_of_length_le (by omega), ← List.getD_eq_getElem?_getD]; exact h u hk
 ·rw [List.getElem?_set_ne e, ← List.getD_eq_getElem?_getD]
  exact h k hk
/-- What a put counts. -/
theorem put_cnt {m : Mp} (h : okM m) (hl : m.st.length = 8) {x : Itm} (hx : okI x) {n : Nat} (hf : FewN m n) {g : Int} (hg : m.garb ≤ g) (hg2 : g ≤ 1000000000) : (putM m x).live + (putM m x).garb = m.live + m.garb + szT x ∧ (putM m x).garb ≤ g + 4200 ∧ FewN (putM m x) (n + 1) := by
 have ho := oldT_bd (ms m (sp x.key)) x.key
 rw [put_eq h hl hx (by unfold G40; omega)]
 refine ⟨by show m.live + szT x - _ + (m.garb + _) = _; omega, by show m.garb + _ ≤ _; omega, few_set (fun k hk => by have := hf k hk; omega) ?_⟩
 have h1 := length_insL x (sortL (ms m (sp x.key)))
 have h2 := length_sortL (ms m (sp x.key))
 have h3 := hf _ (sp_lt x.key)
 show (insL x (sortL (ms m (sp x.key)))).length ≤ n + 1
 omega
/-- What a delete counts. -/
theorem del_cnt {m : Mp} (h : okM m) (hl : m.st.length = 8) (k : Nat) {n : Nat} (hf : FewN m n) {g : Int} (hg : m.garb ≤ g) (hg2 : g ≤ 1000000000) : (delM m k).live + (delM m k).garb = m.live + m.garb ∧ (delM m k).garb ≤ g + 4200 ∧ FewN (delM m k) n := by
 have ho := oldT_bd (ms m (sp k)) k
 cases e : lk (ms m (sp k)) k with
 | none =>
  rw [del_none h hl e]
  exact ⟨rfl, by omega, hf⟩
 | some y =>
  rw [del_eq h hl (by rw [e]; rfl) (by unfold G40; omega)]
  refine ⟨by show m.live - _ + (m.garb + _) = _; omega, by show m.garb + _ ≤ _; omega, few_set hf ?_⟩
  have h1 := length_sortL (ms m (sp k))
  have h3 := hf _ (sp_lt k)
  have h2 : (delL k (sortL (ms m (sp k)))).length ≤ (sortL (ms m (sp k))).length := List.length_filter_le _ _
  show (delL k (sortL (ms m (sp k)))).length ≤ n
  omega
/-- What a waste counts. -/
theorem waste_cnt {m : Mp} (h : okM m) {a : Int} (ha : 0 ≤ a) (ha2 : a ≤ 65535) {n : Nat} (hf : FewN m n) {g : Int} (hg : m.garb ≤ g) (hg2 : g ≤ 1000000000) : (wasteM m a).live + (wasteM m a).garb = m.live + m.garb + a ∧ (wasteM m a).garb ≤ g + 65535 ∧ FewN (wasteM m a) n := by
 unfold wasteM
 rw [if_pos ⟨h, ha, by unfold G40; omega⟩]
 exact ⟨by show m.live + (m.garb + a) = _; omega, by show m.garb + a ≤ _; omega, hf⟩
/-- The items, one stripe after the other. -/
theorem merge_step (F B : List Itm) : mergeL (sortL F) B [] = sortL (F ++ B) := by
 refine asc_ext (asc_mergeL _ _ _) (asc_sortL _) fun k => ?_
 rw [lk_mergeL, lk_sortL, lk_sortL, lk_app]
 cases lk B k with
 | none => simp
 | some x => rfl
end Go.Proofs.YtbmlpafbdbhaiaaGreatDoor.Gf
namespace Go.Proofs.YtbmlpafbdbhaiaaGreatDoor.Gf
open Go

/-- The item of a key of a valid map. -/
def gO (m : Mp) (q : Nat) : Option Itm := lk (ms m (sp q)) q
theorem ms_set_get {m : Mp} (hl : m.st.length = 8) {u s : Nat} {L : List Itm} {l g : Int} (hu : u < 8) : ms ⟨m.st.set u L, l, g⟩ s = if u = s then L else ms m s := by
 show (m.st.set u L).getD s [] = _
 rw [List.getD_eq_getElem?_getD]
 by_cases e : u = s
 ·subst e
  rw [if_pos rfl, List.getElem?_set_self (by omega)]
  rfl
 ·rw [if_neg e, List.getElem?_set_ne e]
  rfl
theorem gO_put {m : Mp} (h : okM m) (hl : m.st.length = 8) {x : Itm} (hx : okI x) (hg : m.garb ≤ 1000000000) (q : Nat) : gO (putM m x) q = if x.key = q then some x else gO m q := by
 have ho := oldT_bd (ms m (sp x.key)) x.key
 rw [put_eq h hl hx (by unfold G40; omega)]
 unfold gO
 rw [ms_set_get hl (sp_lt _)]
 by_cases e : sp x.key = sp q
 ·rw [if_pos e, ← e]
  unfold putL
  rw [lk_insL (asc_sortL _), lk_sortL]
 ·rw [if_neg e, if_neg (fun h => e (by rw [h]))]
theorem gO_del {m : Mp} (h : okM m) (hl : m.st.length = 8) (k : Nat) (hg : m.garb ≤ 1000000000) (q : Nat) : gO (delM m k) q = if k = q then none else gO m q := by
 have ho := oldT_bd (ms m (sp k)) k
 cases e : lk (ms m (sp k)) k with
 | none =>
  rw [del_none h hl e]
  by_cases c : k = q
  ·subst c; rw [if_pos rfl]; exact e
  ·rw [if_neg c]
 | some y =>
  rw [del_eq h hl (by rw [e]; rfl) (by unfold G40; omega)]
  unfold gO
  rw [ms_set_get hl (sp_lt _)]
  by_cases c : sp k = sp q
  ·rw [if_pos c, ← c]
   unfold dropL
   rw [lk_delL (asc_sortL _), lk_sortL]
   by_cases d : k = q
   ·rw [if_pos d.symm, if_pos d]
   ·rw [if_neg (fun h => d h.symm), if_neg d]
  ·rw [if_neg c, if_neg (fun h => c (by rw [h]))]
end Go.Proofs.YtbmlpafbdbhaiaaGreatDoor.Gf
namespace Go.Proofs.YtbmlpafbdbhaiaaGreatDoor.Gf

/-- Two records do not overlap. -/
def djT (x y : Itm) : Prop := x.off + szT x ≤ y.off ∨ y.off + szT y ≤ x.off
/-- The records of the items end at most at n and do not overlap. -/
def apL (L : List Itm) (n : Int) : Prop := (∀ x ∈ L, x.off + szT x ≤ n) ∧ L.Pairwise djT
theorem djT_symm {x y : Itm} (h : djT x y) : djT y x := h.symm
theorem apL_perm {L M : List Itm} (h : L.Perm M) (n : Int) : apL L n ↔ apL M n :=
 and_congr ⟨fun H x hx => H x (h.mem_iff.2 hx), fun H x hx => H x (h.mem_iff.1 hx)⟩ (h.pairwise_iff fun {_ _} => djT_symm)
/-- Where the record behind the i-th one begins. -/
def nxL (L : List Itm) (n : Int) (i : Nat) : Int := if i + 1 < L.length then (L.getD (i + 1) z0).off else n
theorem getD_itm {L : List Itm} {i : Nat} (h : i < L.length) : L.getD i z0 = L[i] := by simp [List.getD, h]
/-- Of a list that ascends by place. -/
theorem ap_chain {L : List Itm} {n : Int} (hs : ∀ i j, i < j → j < L.length → (L.getD i z0).off ≤ (L.getD j z0).off) (hp : ∀ x ∈ L, 0 < szT x) : apL L n ↔ ∀ i, i < L.length → (L.getD i z0).off + szT (L.getD i z0) ≤ nxL L n i := by
 have hpi : ∀ i, i < L.length → 0 < szT (L.getD i z0) := fun i hi => by rw [getD_itm hi]; exact hp _ (List.getElem_mem hi)
 constructor
 ·rintro ⟨h1, h2⟩ i hi
  unfold nxL
  split
  ·rename_i h3
   have h4 := List.pairwise_iff_getElem.1 h2 i (i + 1) hi h3 (Nat.lt_succ_self i)
   rw [← getD_itm hi, ← getD_itm h3] at h4
   have h5 := hs i (i + 1) (Nat.lt_succ_self i) h3
   have h6 := hpi (i + 1) h3
   rcases h4 with h4 | h4
   ·exact h4
   ·omega
  ·rw [getD_itm hi]
   exact h1 _ (List.getElem_mem hi)
 ·intro h
  have hlt : ∀ i j, i < j → j < L.length → (L.getD i z0).off + szT (L.getD i z0) ≤ (L.getD j z0).off := fun i j hij hj => by
   have h1 := h i (by omega)
   unfold nxL at h1
   rw [if_pos (by omega)] at h1
   by_cases e : i + 1 = j
   ·rw [e] at h1; exact h1
   ·have := hs (i + 1) j (by omega) hj
    omega
  refine ⟨fun x hx => ?_, List.pairwise_iff_getElem.2 fun i j hi hj hij => ?_⟩
  ·obtain ⟨i, hi, rfl⟩ := List.getElem_of_mem hx
   rw [← getD_itm hi]
   have hl := h (L.length - 1) (by omega)
   unfold nxL at hl
   rw [if_neg (by omega)] at hl
   by_cases e : i = L.length - 1
   ·rw [e]; exact hl
   ·have h1 := hlt i (L.length - 1) (by omega) (by omega)
    have h2 := hpi (L.length - 1) (by omega)
    omega
  ·rw [← getD_itm hi, ← getD_itm hj]
   exact Or.inl (hlt i j hij hj)
/-- As the reference says it. -/
def endsP (L : List Itm) (n : Int) : Prop := ∀ i, i < L.length → (L.getD i z0).off + szT (L.getD i z0) ≤ n ∧ ∀ k, k < L.length → ¬ (k ≠ i ∧ (L.getD i z0).off ≤ (L.getD k z0).off ∧ (L.getD k z0).off < (L.getD i z0).off + szT (L.getD i z0))
theorem ap_ends {L : List Itm} {n : Int} (hp : ∀ x ∈ L, 0 < szT x) : apL L n ↔ endsP L n := by
 have hpi : ∀ i, i < L.length → 0 < szT (L.getD i z0) := fun i hi => by rw [getD_itm hi]; exact hp _ (List.getElem_mem hi)
 constructor
 ·rintro ⟨h1, h2⟩ i hi
  refine ⟨by rw [getD_itm hi]; exact h1 _ (List.getElem_mem hi), fun k hk ⟨hne, h3, h4⟩ => ?_⟩
  have h5 : djT (L.getD i z0) (L.getD k z0) := by
   rcases Nat.lt_or_gt_of_ne hne with h | h
   ·have := List.pairwise_iff_getElem.1 h2 k i hk hi h
    rw [← getD_itm hi, ← getD_itm hk] at this
    exact djT_symm this
   ·have := List.pairwise_iff_getElem.1 h2 i k hi hk h
    rw [← getD_itm hi, ← getD_itm hk] at this
    exact this
  have h6 := hpi k hk
  rcases h5 with h5 | h5 <;> omega
 ·intro h
  refine ⟨fun x hx => ?_, List.pairwise_iff_getElem.2 fun i j hi hj hij => ?_⟩
  ·obtain ⟨i, hi, rfl⟩ := List.getElem_of_mem hx
   rw [← getD_itm hi]
   exact (h i hi).1
  ·rw [← getD_itm hi, ← getD_itm hj]
   have h1 := (h i hi).2 j hj
   have h2 := (h j hj).2 i hi
   unfold djT
   by_cases e : (L.getD i z0).off ≤ (L.getD j z0).off
   ·left
    rcases Int.lt_or_le (L.getD j z0).off ((L.getD i z0).off + szT (L.getD i z0)) with h3 | h3
    ·exact absurd ⟨by omega, e, h3⟩ h1
    ·exact h3
   ·right
    rcases Int.lt_or_le (L.getD i z0).off ((L.getD j z0).off + szT (L.getD j z0)) with h3 | h3
    ·exact absurd ⟨by omega, by omega, h3⟩ h2
    ·exact h3
/-- A generation as plain values. -/
structure Ge where
 num : Int
 rev : Int
 mode : Int
 size : Int
 m : Mp
/-- What a valid generation is, but for its map. -/
structure okGh (g : Ge) : Prop where
 n1 : 1 ≤ g.num
 n8 : g.num ≤ 8
 r0 : 0 ≤ g.rev
 r1 : g.rev ≤ 4294967295
 m1 : 1 ≤ g.mode
 m3 : g.mode ≤ 3
 s0 : 16 ≤ g.size
 s1 : g.size ≤ 1048576
 s8 : g.size.tmod 8 = 0
structure okGe (g : Ge) : Prop where
 hd : okGh g
 ok : okM g.m
 eq : g.size = 16 + g.m.live + g.m.garb
 ap : apL (iL g.m) g.size
open Classical in
noncomputable def okGb (g : Ge) : Bool := decide (okGe g)
theorem okGb_t {g : Ge} (h : okGe g) : okGb g = true := by unfold okGb; exact @decide_eq_true _ (Classical.propDecidable _) h
theorem okGb_f {g : Ge} (h : ¬ okGe g) : okGb g = false := by unfold okGb; exact @decide_eq_false _ (Classical.propDecidable _) h
end Go.Proofs.YtbmlpafbdbhaiaaGreatDoor.Gf
