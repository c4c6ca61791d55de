/- What is proved here: the maps that puts, deletes and wastes make are valid, and what they count. No program text. -/
import Derived.Test.YtlooldnaoooehaaM11
namespace Go.Proofs.Ytlooldnaoooehaa.Gf
open Go

theorem fromL_ok {l : List Itm} {g : Int} (h : ∀ x ∈ l, okI x) (h0 : 0 ≤ g) (h1 : g ≤ G40) : okM ⟨splitM (sortL l), byT (sortL l), g⟩ where
  ok := fun s hs => by
    show okT ((splitM (sortL l)).getD s [])
    rw [split_get _ hs]
    exact ⟨fun x hx => h x (mem_sortL _ _ (mem_fS.1 hx).1), asc_fS s (asc_sortL l)⟩
  sp := fun s hs x hx => by
    have hx2 : x ∈ (splitM (sortL l)).getD s [] := hx
    rw [split_get _ hs] at hx2
    exact (mem_fS.1 hx2).2
  live := (flat_split (sortL l)).2.symm
  lo := h0
  hi := h1
theorem putM_ok {m : Mp} (h : okM m) (hl : m.st.length = 8) {x : Itm} (hx : okI x) : okM (putM m x) ∧ (putM m x).st.length = 8 := by
  unfold putM
  rw [if_pos ⟨h, hx⟩]
  split
  · exact ⟨h, hl⟩
  · rename_i hg
    have ha := asc_iL m
    have hp : putL (iL m) x = insL x (iL m) := by unfold putL; rw [sort_iL]
    have hall : ∀ y ∈ putL (iL m) x, okI y := fun y hy => by
      rw [hp] at hy
      rcases (mem_insL ha y).1 hy with rfl | h2
      · exact hx
      · exact iL_ok h hl y h2.1
    have ho := oldT_bd (iL m) x.key
    have hlo := h.lo
    unfold fromL
    rw [if_pos ⟨hall, by omega, by omega⟩]
    exact ⟨fromL_ok hall (by omega) (by omega), split_len _⟩
theorem delM_ok {m : Mp} (h : okM m) (hl : m.st.length = 8) (k : Nat) : okM (delM m k) ∧ (delM m k).st.length = 8 := by
  unfold delM
  split
  · split
    · exact ⟨h, hl⟩
    · rename_i hg
      have hp : dropL (iL m) k = delL k (iL m) := by unfold dropL; rw [sort_iL]
      have hall : ∀ y ∈ dropL (iL m) k, okI y := fun y hy => by
        rw [hp] at hy
        exact iL_ok h hl y (mem_delL hy)
      have ho := oldT_bd (iL m) k
      have hlo := h.lo
      unfold fromL
      rw [if_pos ⟨hall, by omega, by omega⟩]
      exact ⟨fromL_ok hall (by omega) (by omega), split_len _⟩
  · exact ⟨h, hl⟩
theorem wasteM_ok {m : Mp} (h : okM m) (hl : m.st.length = 8) (n : Int) : okM (wasteM m n) ∧ (wasteM m n).st.length = 8 := by
  unfold wasteM
  split
  · rename_i c
    have hlo := h.lo
    refine ⟨⟨h.ok, h.sp, h.live, ?_, ?_⟩, hl⟩
    · show 0 ≤ m.garb + n; omega
    · show m.garb + n ≤ 1099511627776
      have := c.2.2
      unfold G40 at this
      omega
  · exact ⟨h, hl⟩
theorem mp0_ok : okM mp0 ∧ mp0.st.length = 8 := by
  refine ⟨⟨fun s hs => ?_, fun s hs x hx => ?_, rfl, by decide, by decide⟩, rfl⟩
  · have e : ms mp0 s = [] := by
      unfold ms mp0
      rw [List.getD_eq_getElem?_getD, List.getElem?_replicate]
      split <;> rfl
    rw [e]
    exact ⟨by simp, List.Pairwise.nil⟩
  · have e : ms mp0 s = [] := by
      unfold ms mp0
      rw [List.getD_eq_getElem?_getD, List.getElem?_replicate]
      split <;> rfl
    rw [e] at hx
    cases hx
/-- The lengths of the stripes. -/
def FewN (m : Mp) (n : Nat) : Prop := ∀ k, k < 8 → (ms m k).length ≤ n
theorem few_set {m : Mp} {n u : Nat} {L : List Itm} {l g : Int} (h : FewN m n) (hL : L.length ≤ n) : FewN ⟨m.st.set u L, l, g⟩ n := fun k hk => by
  show ((m.st.set u L).getD k []).length ≤ n
  rw [List.getD_eq_getElem?_getD]
  by_cases e : u = k
  · subst e
    by_cases hu : u < m.st.length
    · rw [List.getElem?_set_self hu]; exact hL
    · rw [List.set_eq_of_length_le (by omega), ← List.getD_eq_getElem?_getD]; exact h u hk
  · rw [List.getElem?_set_ne e, ← List.getD_eq_getElem?_getD]
    exact h k hk
/-- What a put counts. -/
theorem put_cnt {m : Mp} (h : okM m) (hl : m.st.length = 8) {x : Itm} (hx : okI x) {n : Nat} (hf : FewN m n) {g : Int} (hg : m.garb ≤ g) (hg2 : g ≤ 1000000000) : (putM m x).live + (putM m x).garb = m.live + m.garb + szT x ∧ (putM m x).garb ≤ g + 4200 ∧ FewN (putM m x) (n + 1) := by
  have ho := oldT_bd (ms m (sp x.key)) x.key
  rw [put_eq h hl hx (by unfold G40; omega)]
  refine ⟨by show m.live + szT x - _ + (m.garb + _) = _; omega, by show m.garb + _ ≤ _; omega, few_set (fun k hk => by have := hf k hk; omega) ?_⟩
  have h1 := length_insL x (sortL (ms m (sp x.key)))
  have h2 := length_sortL (ms m (sp x.key))
  have h3 := hf _ (sp_lt x.key)
  show (insL x (sortL (ms m (sp x.key)))).length ≤ n + 1
  omega
/-- What a delete counts. -/
theorem del_cnt {m : Mp} (h : okM m) (hl : m.st.length = 8) (k : Nat) {n : Nat} (hf : FewN m n) {g : Int} (hg : m.garb ≤ g) (hg2 : g ≤ 1000000000) : (delM m k).live + (delM m k).garb = m.live + m.garb ∧ (delM m k).garb ≤ g + 4200 ∧ FewN (delM m k) n := by
  have ho := oldT_bd (ms m (sp k)) k
  cases e : lk (ms m (sp k)) k with
  | none =>
    rw [del_none h hl e]
    exact ⟨rfl, by omega, hf⟩
  | some y =>
    rw [del_eq h hl (by rw [e]; rfl) (by unfold G40; omega)]
    refine ⟨by show m.live - _ + (m.garb + _) = _; omega, by show m.garb + _ ≤ _; omega, few_set hf ?_⟩
    have h1 := length_sortL (ms m (sp k))
    have h3 := hf _ (sp_lt k)
    have h2 : (delL k (sortL (ms m (sp k)))).length ≤ (sortL (ms m (sp k))).length := List.length_filter_le _ _
    show (delL k (sortL (ms m (sp k)))).length ≤ n
    omega
/-- What a waste counts. -/
theorem waste_cnt {m : Mp} (h : okM m) {a : Int} (ha : 0 ≤ a) (ha2 : a ≤ 65535) {n : Nat} (hf : FewN m n) {g : Int} (hg : m.garb ≤ g) (hg2 : g ≤ 1000000000) : (wasteM m a).live + (wasteM m a).garb = m.live + m.garb + a ∧ (wasteM m a).garb ≤ g + 65535 ∧ FewN (wasteM m a) n := by
  unfold wasteM
  rw [if_pos ⟨h, ha, by unfold G40; omega⟩]
  exact ⟨by show m.live + (m.garb + a) = _; omega, by show m.garb + a ≤ _; omega, hf⟩
/-- The items, one stripe after the other. -/
theorem merge_step (F B : List Itm) : mergeL (sortL F) B [] = sortL (F ++ B) := by
  refine asc_ext (asc_mergeL _ _ _) (asc_sortL _) fun k => ?_
  rw [lk_mergeL, lk_sortL, lk_sortL, lk_app]
  cases lk B k with
  | none => simp
  | some x => rfl
end Go.Proofs.Ytlooldnaoooehaa.Gf
