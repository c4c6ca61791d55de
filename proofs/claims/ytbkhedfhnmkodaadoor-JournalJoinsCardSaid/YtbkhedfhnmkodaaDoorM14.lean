/- What is proved here: mathematics of journals: entries, what is read of bytes; a journal cut short, two journals one after the other, a changed burst. No program text. -/
import Derived.Test.YtbkhedfhnmkodaaDoorM6
namespace Go.Proofs.YtbkhedfhnmkodaaDoor.Gf
open Go.Proofs.YtbkhedfhnmkodaaDoor.Crc

/-- The entry of a key. -/
def entJ (k : Nat) : List Nat := beL 8 k ++ leL (ext 0 (beL 8 k))
/-- The entries of keys. -/
def encJ (ks : List Nat) : List Nat := ks.flatMap entJ
/-- There is an entry at place i. -/
def okJ (l : List Nat) (i : Nat) : Prop := 12 * i + 12 ≤ l.length ∧ leL (ext 0 ((l.drop (12 * i)).take 8)) = (l.drop (12 * i + 8)).take 4
instance (l : List Nat) (i : Nat) : Decidable (okJ l i) := inferInstanceAs (Decidable (_ ∧ _))
/-- The key at place i. -/
def keyJ (l : List Nat) (i : Nat) : Nat := valL ((l.drop (12 * i)).take 8)
/-- The bytes begin with n entries. -/
def DecJ (l : List Nat) (n : Nat) : Prop := (∀ i, i < n → okJ l i) ∧ ¬ okJ l n
def keysJ (l : List Nat) (n : Nat) : List Nat := (List.range n).map (keyJ l)
theorem decJ_uniq {l : List Nat} {n m : Nat} (h : DecJ l n) (h' : DecJ l m) : n = m := by
  rcases Nat.lt_trichotomy n m with h1 | h1 | h1
  · exact absurd (h'.1 n h1) h.2
  · exact h1
  · exact absurd (h.1 m h1) h'.2
theorem keysJ_length (l : List Nat) (n : Nat) : (keysJ l n).length = n := by simp [keysJ]
theorem keysJ_succ (l : List Nat) (n : Nat) : keysJ l (n + 1) = keysJ l n ++ [keyJ l n] := by simp [keysJ, List.range_succ]
theorem decJ_le {l : List Nat} {n : Nat} (h : ∀ i, i < n → okJ l i) : 12 * n ≤ l.length := by
  cases n with
  | zero => omega
  | succ n => have := (h n (Nat.lt_succ_self n)).1; omega
theorem entJ_length (k : Nat) : (entJ k).length = 12 := by simp [entJ, beL_length, leL_length]
theorem entJ_lt (k : Nat) : ∀ b ∈ entJ k, b < 256 := fun b hb => (List.mem_append.1 hb).elim (beL_lt _ _ b) (leL_lt _ b)
theorem encJ_length (ks : List Nat) : (encJ ks).length = 12 * ks.length := by
  induction ks with
  | nil => rfl
  | cons k ks ih => rw [encJ, List.flatMap_cons, List.length_append, entJ_length]; rw [encJ] at ih; rw [ih, List.length_cons]; omega
theorem encJ_lt (ks : List Nat) : ∀ b ∈ encJ ks, b < 256 := fun b hb => by
  obtain ⟨k, -, hk⟩ := List.mem_flatMap.1 hb
  exact entJ_lt k b hk
theorem encJ_app (a b : List Nat) : encJ (a ++ b) = encJ a ++ encJ b := List.flatMap_append
theorem encJ_one (k : Nat) : encJ [k] = entJ k := by simp [encJ]
theorem encJ_take_succ {ks : List Nat} {i : Nat} (h : i < ks.length) : encJ (ks.take (i + 1)) = encJ (ks.take i) ++ entJ (ks.getD i 0) := by
  rw [List.take_add_one, List.getElem?_eq_getElem h, encJ_app, List.getD_eq_getElem?_getD, List.getElem?_eq_getElem h]
  simp [encJ]
theorem encJ_drop {ks : List Nat} {i : Nat} (h : i < ks.length) : (encJ ks).drop (12 * i) = entJ (ks.getD i 0) ++ encJ (ks.drop (i + 1)) := by
  have e : encJ ks = encJ (ks.take i) ++ (entJ (ks.getD i 0) ++ encJ (ks.drop (i + 1))) := by
    rw [← List.append_assoc, ← encJ_take_succ h, ← encJ_app, List.take_append_drop]
  rw [e]
  exact List.drop_left' (by rw [encJ_length, List.length_take]; omega)
theorem okJ_of {l T : List Nat} {i k : Nat} (h : l.drop (12 * i) = entJ k ++ T) : okJ l i := by
  have hl : l.length - 12 * i = 12 + T.length := by rw [← List.length_drop, h, List.length_append, entJ_length]
  refine ⟨by omega, ?_⟩
  rw [show 12 * i + 8 = 12 * i + 8 from rfl, ← List.drop_drop, h]
  unfold entJ
  rw [List.append_assoc, List.take_left' (beL_length 8 k), List.drop_left' (beL_length 8 k), List.take_left' (leL_length _)]
theorem keyJ_of {l T : List Nat} {i k : Nat} (h : l.drop (12 * i) = entJ k ++ T) (hk : k < 18446744073709551616) : keyJ l i = k := by
  unfold keyJ
  rw [h]
  unfold entJ
  rw [List.append_assoc, List.take_left' (beL_length 8 k)]
  exact val_beL 8 k hk
/-- The first n entries of bytes that begin with entries of ks. -/
theorem okJ_pre {l ks T : List Nat} (h : l = encJ ks ++ T) : ∀ i, i < ks.length → okJ l i := fun i hi => by
  subst h
  refine okJ_of (k := ks.getD i 0) (T := encJ (ks.drop (i + 1)) ++ T) ?_
  rw [List.drop_append_of_le_length (by rw [encJ_length]; omega), encJ_drop hi, List.append_assoc]
theorem keysJ_pre {l ks T : List Nat} (h : l = encJ ks ++ T) (hk : ∀ k ∈ ks, k < 18446744073709551616) : keysJ l ks.length = ks := by
  refine List.ext_getElem (keysJ_length _ _) fun i h1 h2 => ?_
  have e : keyJ l i = ks.getD i 0 := by
    subst h
    refine keyJ_of (T := encJ (ks.drop (i + 1)) ++ T) ?_ ?_
    · rw [List.drop_append_of_le_length (by rw [encJ_length]; omega), encJ_drop h2, List.append_assoc]
    · rw [List.getD_eq_getElem?_getD, List.getElem?_eq_getElem h2]; exact hk _ (List.getElem_mem h2)
  simp only [keysJ, List.getElem_map, List.getElem_range]
  rw [e, List.getD_eq_getElem?_getD, List.getElem?_eq_getElem h2]
  rfl
/-- A journal of which bytes are missing at the end. -/
theorem torn_form {ks : List Nat} {m : Nat} (h : m ≤ 12 * ks.length) : ∃ T, (encJ ks).take m = encJ (ks.take (m / 12)) ++ T ∧ T.length < 12 := by
  have h1 : m / 12 ≤ ks.length := by omega
  refine ⟨((encJ ks).take m).drop (12 * (m / 12)), ?_, ?_⟩
  · have e : encJ (ks.take (m / 12)) = ((encJ ks).take m).take (12 * (m / 12)) := by
      have hs : encJ ks = encJ (ks.take (m / 12)) ++ encJ (ks.drop (m / 12)) := by rw [← encJ_app, List.take_append_drop]
      rw [List.take_take, Nat.min_eq_left (by omega), hs, List.take_left' (by rw [encJ_length, List.length_take]; omega)]
    rw [e, List.take_append_drop]
  · rw [List.length_drop, List.length_take, encJ_length]
    omega
theorem decJ_short {l ks T : List Nat} (h : l = encJ ks ++ T) (hT : T.length < 12) : DecJ l ks.length := ⟨okJ_pre h, fun ⟨h1, _⟩ => by
  rw [h, List.length_append, encJ_length] at h1
  omega⟩
theorem decJ_torn {ks : List Nat} {m : Nat} (h : m ≤ 12 * ks.length) (hk : ∀ k ∈ ks, k < 18446744073709551616) : DecJ ((encJ ks).take m) (m / 12) ∧ keysJ ((encJ ks).take m) (m / 12) = ks.take (m / 12) := by
  obtain ⟨T, e, hT⟩ := torn_form h
  have hl : (ks.take (m / 12)).length = m / 12 := by rw [List.length_take]; omega
  have h1 := decJ_short e hT
  have h2 := keysJ_pre e (fun k hk' => hk k (List.mem_of_mem_take hk'))
  rw [hl] at h1 h2
  exact ⟨h1, h2⟩
theorem decJ_full {ks : List Nat} (hk : ∀ k ∈ ks, k < 18446744073709551616) : DecJ (encJ ks) ks.length ∧ keysJ (encJ ks) ks.length = ks :=
  ⟨decJ_short (T := []) (List.append_nil _).symm (by decide), keysJ_pre (T := []) (List.append_nil _).symm hk⟩
/-- A burst of up to 32 bits in an entry is noticed. -/
theorem ent_burst {k f b : Nat} {e : List Nat} (he : ∀ x ∈ e, x < 256) (hl : e.length = 12) (hf : f < 4294967296) (hb : b ≤ 96) (hn : num e = num (entJ k) ^^^ f * 2 ^ b) (hok : leL (ext 0 (e.take 8)) = (e.drop 8).take 4) : e = entJ k := by
  have h8 : ∀ x ∈ e.take 8, x < 256 := fun x hx => he x (List.mem_of_mem_take hx)
  have e0 : (e.drop 8).take 4 = e.drop 8 := List.take_of_length_le (by rw [List.length_drop]; omega)
  have e1 : e.take 8 ++ leL (ext 0 (e.take 8)) = e := by rw [hok, e0, List.take_append_drop]
  have c1 : run 4294967295 e = sgn 32 4294967295 := by
    have h := run_check h8
    rwa [e1] at h
  have c2 : run 4294967295 (entJ k) = sgn 32 4294967295 := run_check (beL_lt 8 k)
  have hs : ext 0 (entJ k) = ext 0 e := by unfold ext; rw [show 4294967295 ^^^ 0 = 4294967295 from rfl, c1, c2]
  have h := noticed (by rw [hl, entJ_length]) (entJ_lt k) he hf (by rw [entJ_length]; exact hb) hn
  exact (h.1.2 (h.2.1 hs)).symm
/-- Entries ahead of a changed one stay; the changed one ends the journal. -/
theorem decJ_burst {A e D : List Nat} {ks : List Nat} {i f b : Nat} (hi : i < ks.length) (hk : ∀ k ∈ ks, k < 18446744073709551616) (hA : A = encJ (ks.take i)) (he : ∀ x ∈ e, x < 256) (hl : e.length = 12) (hf : f < 4294967296) (hb : b ≤ 96) (hn : num e = num (entJ (ks.getD i 0)) ^^^ f * 2 ^ b) (hne : e ≠ entJ (ks.getD i 0)) : DecJ (A ++ (e ++ D)) i ∧ keysJ (A ++ (e ++ D)) i = ks.take i := by
  have hti : (ks.take i).length = i := by rw [List.length_take]; omega
  have h1 := okJ_pre (l := A ++ (e ++ D)) (ks := ks.take i) (T := e ++ D) (by rw [hA])
  have h2 := keysJ_pre (l := A ++ (e ++ D)) (ks := ks.take i) (T := e ++ D) (by rw [hA]) (fun k hk' => hk k (List.mem_of_mem_take hk'))
  rw [hti] at h1 h2
  refine ⟨⟨h1, fun ⟨_, h4⟩ => hne (ent_burst he hl hf hb hn ?_)⟩, h2⟩
  have hAl : A.length = 12 * i := by rw [hA, encJ_length, hti]
  rw [← List.drop_drop, List.drop_left' hAl, List.take_append_of_le_length (by omega), List.drop_append_of_le_length (by omega), List.take_append_of_le_length (by rw [List.length_drop]; omega)] at h4
  exact h4
end Go.Proofs.YtbkhedfhnmkodaaDoor.Gf
