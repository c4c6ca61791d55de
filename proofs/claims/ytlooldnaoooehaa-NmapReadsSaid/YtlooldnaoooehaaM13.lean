/- What is proved here: what a map has after puts and deletes, and how many keys. No program text. For NmapKeys. -/
import Derived.Test.YtlooldnaoooehaaM12
namespace Go.Proofs.Ytlooldnaoooehaa.Gf
open Go

/-- The item of a key of a valid map. -/
def gO (m : Mp) (q : Nat) : Option Itm := lk (ms m (sp q)) q
theorem gO_mp0 (q : Nat) : gO mp0 q = none := by
  have e : ms mp0 (sp q) = [] := by
    unfold ms mp0
    rw [List.getD_eq_getElem?_getD, List.getElem?_replicate]
    split <;> rfl
  unfold gO
  rw [e, lk_nil]
theorem ms_set_get {m : Mp} (hl : m.st.length = 8) {u s : Nat} {L : List Itm} {l g : Int} (hu : u < 8) : ms ⟨m.st.set u L, l, g⟩ s = if u = s then L else ms m s := by
  show (m.st.set u L).getD s [] = _
  rw [List.getD_eq_getElem?_getD]
  by_cases e : u = s
  · subst e
    rw [if_pos rfl, List.getElem?_set_self (by omega)]
    rfl
  · rw [if_neg e, List.getElem?_set_ne e]
    rfl
theorem gO_put {m : Mp} (h : okM m) (hl : m.st.length = 8) {x : Itm} (hx : okI x) (hg : m.garb ≤ 1000000000) (q : Nat) : gO (putM m x) q = if x.key = q then some x else gO m q := by
  have ho := oldT_bd (ms m (sp x.key)) x.key
  rw [put_eq h hl hx (by unfold G40; omega)]
  unfold gO
  rw [ms_set_get hl (sp_lt _)]
  by_cases e : sp x.key = sp q
  · rw [if_pos e, ← e]
    unfold putL
    rw [lk_insL (asc_sortL _), lk_sortL]
  · rw [if_neg e, if_neg (fun h => e (by rw [h]))]
theorem gO_del {m : Mp} (h : okM m) (hl : m.st.length = 8) (k : Nat) (hg : m.garb ≤ 1000000000) (q : Nat) : gO (delM m k) q = if k = q then none else gO m q := by
  have ho := oldT_bd (ms m (sp k)) k
  cases e : lk (ms m (sp k)) k with
  | none =>
    rw [del_none h hl e]
    by_cases c : k = q
    · subst c; rw [if_pos rfl]; exact e
    · rw [if_neg c]
  | some y =>
    rw [del_eq h hl (by rw [e]; rfl) (by unfold G40; omega)]
    unfold gO
    rw [ms_set_get hl (sp_lt _)]
    by_cases c : sp k = sp q
    · rw [if_pos c, ← c]
      unfold dropL
      rw [lk_delL (asc_sortL _), lk_sortL]
      by_cases d : k = q
      · rw [if_pos d.symm, if_pos d]
      · rw [if_neg (fun h => d h.symm), if_neg d]
    · rw [if_neg c, if_neg (fun h => c (by rw [h]))]
/-- Whether the i-th is deleted behind its put. -/
def dl (D : List Bool) (i : Nat) : Bool := D.getD i false
/-- What the law's map has of a key after i rounds. -/
def gK (K : List Itm) (D : List Bool) (q : Nat) : Nat → Option Itm
  | 0 => none
  | i + 1 => if (K.getD i z0).key = q then (if dl D i then none else some (K.getD i z0)) else gK K D q i
theorem gK_mem {K : List Itm} {D : List Bool} {q : Nat} : ∀ {i : Nat}, (gK K D q i).isSome = true → ∃ j, j < i ∧ (K.getD j z0).key = q
  | 0, h => by simp [gK] at h
  | i + 1, h => by
    unfold gK at h
    by_cases e : (K.getD i z0).key = q
    · exact ⟨i, by omega, e⟩
    · rw [if_neg e] at h
      obtain ⟨j, h1, h2⟩ := gK_mem h
      exact ⟨j, by omega, h2⟩
/-- Whether a key was seen ahead of the j-th. -/
def sn (K : List Itm) (q j : Nat) : Bool := decide (∃ i, i < j ∧ (K.getD i z0).key = q)
/-- The keys that the law counts. -/
def fk (K : List Itm) (P : Nat → Bool) : Nat → List Nat
  | 0 => []
  | j + 1 => fk K P j ++ (if P (K.getD j z0).key && !sn K (K.getD j z0).key j then [(K.getD j z0).key] else [])
theorem fk_mem {K : List Itm} {P : Nat → Bool} : ∀ {j q : Nat}, q ∈ fk K P j ↔ P q = true ∧ ∃ i, i < j ∧ (K.getD i z0).key = q
  | 0, q => by simp [fk]
  | j + 1, q => by
    unfold fk
    rw [List.mem_append, fk_mem]
    constructor
    · rintro (⟨h1, i, h2, h3⟩ | h)
      · exact ⟨h1, i, by omega, h3⟩
      · split at h
        · rename_i c
          rw [Bool.and_eq_true] at c
          obtain rfl := List.mem_singleton.1 h
          exact ⟨c.1, j, by omega, rfl⟩
        · cases h
    · rintro ⟨h1, i, h2, h3⟩
      by_cases hs : ∃ i, i < j ∧ (K.getD i z0).key = q
      · exact Or.inl ⟨h1, hs⟩
      · obtain rfl : i = j := by
          rcases Nat.lt_or_ge i j with h | h
          · exact absurd ⟨i, h, h3⟩ hs
          · omega
        right
        have e : sn K q i = false := by unfold sn; exact decide_eq_false hs
        rw [h3, h1, e]
        simp
theorem fk_nodup {K : List Itm} {P : Nat → Bool} : ∀ j : Nat, (fk K P j).Nodup
  | 0 => List.nodup_nil
  | j + 1 => by
    unfold fk
    refine List.nodup_append.2 ⟨fk_nodup j, by split <;> simp, fun a ha b hb e => ?_⟩
    subst e
    split at hb
    · rename_i c
      rw [Bool.and_eq_true] at c
      obtain rfl := List.mem_singleton.1 hb
      have h2 := (fk_mem.1 ha).2
      have e : sn K (K.getD j z0).key j = true := by unfold sn; exact decide_eq_true h2
      rw [e] at c
      simp at c
    · cases hb
theorem flat_mem {m : Mp} (h : okM m) (hl : m.st.length = 8) (q : Nat) : q ∈ m.st.flatten.map (·.key) ↔ (gO m q).isSome = true := by
  have e := lk_flat h hl q 8 (Nat.le_refl _)
  rw [List.take_of_length_le (by omega), if_pos (sp_lt q)] at e
  unfold gO
  rw [← e]
  constructor
  · intro hq
    obtain ⟨x, hx, rfl⟩ := List.mem_map.1 hq
    cases c : lk m.st.flatten x.key with
    | none => exact absurd rfl (lk_none.1 c x hx)
    | some y => rfl
  · intro hq
    cases c : lk m.st.flatten q with
    | none => rw [c] at hq; cases hq
    | some y =>
      obtain ⟨h1, h2⟩ := lk_some c
      exact List.mem_map.2 ⟨y, h1, h2⟩
/-- The law's count is the number of items. -/
theorem many_len {m : Mp} (h : okM m) (hl : m.st.length = 8) {K : List Itm} {D : List Bool} (hg : ∀ q, gO m q = gK K D q K.length) : (fk K (fun q => (gK K D q K.length).isSome) K.length).length = m.st.flatten.length := by
  have hn := nodup_flat h hl 8 (Nat.le_refl _)
  rw [List.take_of_length_le (by omega)] at hn
  have hp : (fk K (fun q => (gK K D q K.length).isSome) K.length).Perm (m.st.flatten.map (·.key)) := by
    refine (List.perm_ext_iff_of_nodup (fk_nodup _) hn).2 fun q => ?_
    rw [fk_mem, flat_mem h hl, hg]
    exact ⟨fun h => h.1, fun h => ⟨h, gK_mem h⟩⟩
  rw [hp.length_eq, List.length_map]
end Go.Proofs.Ytlooldnaoooehaa.Gf
