/- What is proved here: the plain mathematics of merging two ascending lists of items by cuts, and of a set of keys as a map. No program text. -/
import Derived.Test.YtihjfnlimdcmkaaDoorP8e
import Derived.Maps.OwnSet
namespace Go.Proofs.YtihjfnlimdcmkaaDoor.Gf
open Go Go.Maps

/-- What the loop of Merge makes: the items of F in their places between those of O, without the keys of O that F has or that are gone. -/
def mgF (G : List Nat) : List Itm → List Itm → List Itm
  | [], F => F
  | x :: r, F => F.take (cntL x.key F) ++ ((if (lk F x.key).isSome ∨ x.key ∈ G then [] else [x]) ++ mgF G r (F.drop (cntL x.key F)))
theorem spl_cnt {L : List Itm} {k j m : Nat} (h : Spl L k j m) : cntL k L = j := by
  have hle := h.le
  refine cntL_spec k L j (by omega) (fun i hi hij => ?_) (fun hj hlt => ?_)
  · exact h.lo _ (List.mem_take_iff_getElem.2 ⟨i, by omega, rfl⟩)
  · rcases h.mid with ⟨hm, he⟩ | ⟨hm, y, hy, hk⟩
    · have := h.hi L[j] (by rw [hm, Nat.add_zero, List.drop_eq_getElem_cons hj]; exact List.mem_cons_self ..)
      omega
    · rw [hm, List.drop_eq_getElem_cons hj, List.take_succ_cons, List.take_zero] at hy
      have : L[j] = y := by simpa using hy
      rw [this] at hlt
      omega
theorem cnt_lo (k : Nat) : ∀ (L : List Itm), ∀ x ∈ L.take (cntL k L), x.key < k
  | [], x, h => by simp at h
  | y :: r, x, h => by
    unfold cntL at h
    by_cases c : y.key < k
    · rw [if_pos c, List.take_succ_cons] at h
      rcases List.mem_cons.1 h with h | h
      · rw [h]; exact c
      · exact cnt_lo k r x h
    · rw [if_neg c, List.take_zero] at h; cases h
theorem cnt_hi {k : Nat} : ∀ {L : List Itm}, Asc L → ∀ x ∈ L.drop (cntL k L), k ≤ x.key
  | [], _, x, h => by simp at h
  | y :: r, hA, x, h => by
    obtain ⟨h1, h2⟩ := asc_cons.1 hA
    unfold cntL at h
    by_cases c : y.key < k
    · rw [if_pos c, List.drop_succ_cons] at h
      exact cnt_hi h2 x h
    · rw [if_neg c, List.drop_zero] at h
      rcases List.mem_cons.1 h with h | h
      · rw [h]; omega
      · have := h1 x h; omega
theorem asc_part {L : List Itm} (h : Asc L) (j : Nat) : Asc (L.take j) ∧ Asc (L.drop j) := ⟨h.sublist (List.take_sublist _ _), h.sublist (List.drop_sublist _ _)⟩
theorem mem_parts {L : List Itm} {j : Nat} {z : Itm} : z ∈ L ↔ z ∈ L.take j ∨ z ∈ L.drop j := by
  conv => lhs; rw [← List.take_append_drop j L]
  exact List.mem_append
/-- What the loop makes holds. -/
theorem mem_mgF (G : List Nat) (z : Itm) : ∀ (O F : List Itm), Asc O → Asc F → (z ∈ mgF G O F ↔ z ∈ F ∨ (z ∈ O ∧ z.key ∉ G ∧ lk F z.key = none))
  | [], F, _, _ => by simp [mgF]
  | x :: r, F, hO, hF => by
    obtain ⟨o1, o2⟩ := asc_cons.1 hO
    have hd := (asc_part hF (cntL x.key F)).2
    have ih := mem_mgF G z r (F.drop (cntL x.key F)) o2 hd
    have hlk : ∀ y ∈ r, (lk (F.drop (cntL x.key F)) y.key = none ↔ lk F y.key = none) := fun y hy => by
      have hxy := o1 y hy
      rw [lk_none, lk_none]
      constructor
      · intro h u hu
        rcases (mem_parts (j := cntL x.key F)).1 hu with m | m
        · have := cnt_lo x.key F u m; omega
        · exact h u m
      · intro h u hu
        exact h u (List.mem_of_mem_drop hu)
    unfold mgF
    rw [List.mem_append, List.mem_append, ih, mem_parts (L := F) (j := cntL x.key F)]
    constructor
    · rintro (h | h | h | ⟨h1, h2, h3⟩)
      · exact Or.inl (Or.inl h)
      · split at h
        · cases h
        · next c =>
          have e := List.mem_singleton.1 h
          rw [e]
          refine Or.inr ⟨List.mem_cons_self .., fun hg => c (Or.inr hg), ?_⟩
          cases hl : lk F x.key with
          | none => rfl
          | some y => exact absurd (Or.inl (by rw [hl]; rfl)) c
      · exact Or.inl (Or.inr h)
      · exact Or.inr ⟨List.mem_cons_of_mem _ h1, h2, (hlk z h1).1 h3⟩
    · rintro ((h | h) | ⟨h1, h2, h3⟩)
      · exact Or.inl h
      · exact Or.inr (Or.inr (Or.inl h))
      · rcases List.mem_cons.1 h1 with e | h1
        · refine Or.inr (Or.inl ?_)
          rw [if_neg ?_, e]
          · simp
          · rintro (c | c)
            · rw [← e, h3] at c; cases c
            · exact h2 (by rw [e]; exact c)
        · exact Or.inr (Or.inr (Or.inr ⟨h1, h2, (hlk z h1).2 h3⟩))
theorem asc_mgF (G : List Nat) : ∀ (O F : List Itm), Asc O → Asc F → Asc (mgF G O F)
  | [], F, _, hF => by unfold mgF; exact hF
  | x :: r, F, hO, hF => by
    obtain ⟨o1, o2⟩ := asc_cons.1 hO
    obtain ⟨h1, hd⟩ := asc_part hF (cntL x.key F)
    have ih := asc_mgF G r (F.drop (cntL x.key F)) o2 hd
    have big : ∀ z ∈ mgF G r (F.drop (cntL x.key F)), x.key ≤ z.key := fun z hz => by
      rcases (mem_mgF G z r _ o2 hd).1 hz with h | ⟨h, -⟩
      · exact cnt_hi hF z h
      · exact Nat.le_of_lt (o1 z h)
    unfold mgF
    refine List.pairwise_append.2 ⟨h1, ?_, fun a ha b hb => ?_⟩
    · split
      · exact ih
      · next c =>
        refine asc_cons.2 ⟨fun z hz => ?_, ih⟩
        have h2 := big z hz
        rcases (mem_mgF G z r _ o2 hd).1 hz with h | ⟨h, -⟩
        · have : z.key ≠ x.key := fun e => c (Or.inl (by rw [(asc_lk hF).2 ⟨List.mem_of_mem_drop h, e⟩]; rfl))
          omega
        · exact o1 z h
    · have h3 := cnt_lo x.key F a ha
      rcases List.mem_append.1 hb with h | h
      · split at h
        · cases h
        · rw [List.mem_singleton.1 h]; exact h3
      · have := big b h; omega
theorem mgF_eq (O F : List Itm) (G : List Nat) : mgF G (sortL O) (sortL F) = mergeL O F G := by
  have hA := asc_mgF G _ _ (asc_sortL O) (asc_sortL F)
  refine asc_ext hA (asc_mergeL O F G) fun k => opt_ext fun z => ?_
  rw [asc_lk hA, mem_mgF G z _ _ (asc_sortL O) (asc_sortL F), lk_mergeL]
  constructor
  · rintro ⟨h | ⟨h1, h2, h3⟩, hk⟩
    · have := (asc_lk (asc_sortL F)).2 ⟨h, hk⟩
      rw [lk_sortL] at this
      rw [this]
    · rw [lk_sortL, hk] at h3
      rw [h3]
      have := (asc_lk (asc_sortL O)).2 ⟨h1, hk⟩
      rw [lk_sortL] at this
      rw [hk] at h2
      simp [h2, this]
  · intro h
    cases hf : lk F k with
    | some y =>
      rw [hf] at h
      obtain rfl : y = z := by simpa using h
      rw [← lk_sortL] at hf
      have := (asc_lk (asc_sortL F)).1 hf
      exact ⟨Or.inl this.1, this.2⟩
    | none =>
      rw [hf] at h
      dsimp only at h
      split at h
      · cases h
      · next c =>
        rw [← lk_sortL] at h
        have := (asc_lk (asc_sortL O)).1 h
        refine ⟨Or.inr ⟨this.1, by rw [this.2]; exact c, by rw [lk_sortL, this.2]; exact hf⟩, this.2⟩
/-- The set of keys that are gone, as the map's reading. -/
def goneD (G : List Nat) : DataW Unit := G.foldl (fun D (g : Nat) => D.put (.int .u64 (g : Int)) (.lit (.bool true))) (.map [])
theorem goneD_snoc (G : List Nat) (g : Nat) : goneD (G ++ [g]) = (goneD G).put (.int .u64 (g : Int)) (.lit (.bool true)) := by simp [goneD]
theorem goneD_map : ∀ (G : List Nat), IsMap (goneD G) := by
  intro G
  rw [← List.reverse_reverse G]
  induction G.reverse with
  | nil => exact isMap_empty
  | cons g r ih => rw [List.reverse_cons, goneD_snoc]; exact ih.put _ _
theorem goneD_at (k : Nat) (G : List Nat) : (goneD G).atKey (.int .u64 (k : Int)) (.lit (.bool false)) = .lit (.bool (decide (k ∈ G))) := by
  rw [← List.reverse_reverse G]
  induction G.reverse with
  | nil => rfl
  | cons g r ih =>
    rw [List.reverse_cons, goneD_snoc]
    by_cases c : k = g
    · subst c
      rw [atKey_put_same (goneD_map _) (show WideAt.IsKeyLit (.int .u64 _) from trivial)]
      simp
    · rw [atKey_put_other (by simp; omega), ih]
      simp [c]
theorem plainElem_bool_inv {P : Program} {e : TypeId} (he : P.underlying e = some .bool) {v : Value} {z : DataW Unit × List MemPlace} (h : plainElem P e v = some z) : ∃ x, v = .bool x ∧ z = (.lit (.bool x), []) := by
  unfold plainElem at h
  rw [he] at h
  cases v <;> simp at h
  exact ⟨_, rfl, h.symm⟩
theorem lookup_bool {P : Program} {w : World} {t k e : TypeId} {b n : Nat} {D : DataW Unit} (h : w.ownsMap P k (plainElem P e) b n D) (K : Keyed P k) (ht : P.underlying t = some (.map k e)) (he : P.underlying e = some .bool) (hz : (zeroValue e).run P w = .ok (.bool false) w)
    {key : Value} {kl : Lit} (hkey : keyOf P k key = some kl) {c : Bool} (hc : D.atKey kl (.lit (.bool false)) = .lit (.bool c)) : (Instr.lookup t (.map (some b)) key false).run P w = .ok (.bool c) w := by
  obtain ⟨v, ps, hrun, hv⟩ := h.lookup K ht hz (plainElem_bool he false) hkey
  obtain ⟨x, rfl, hx⟩ := plainElem_bool_inv he hv
  simp only [Prod.mk.injEq] at hx
  rw [hx.1] at hc
  have : x = c := by simpa using hc
  rw [← this]
  exact hrun
end Go.Proofs.YtihjfnlimdcmkaaDoor.Gf
