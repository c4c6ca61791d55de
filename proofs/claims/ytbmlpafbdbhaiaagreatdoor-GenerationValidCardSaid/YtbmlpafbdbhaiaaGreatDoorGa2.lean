/- What is proved here: a valid generation that has room is valid after records have been appended. No program text. -/
import Derived.Test.YtbmlpafbdbhaiaaGreatDoorGm7
import Derived.Test.YtbmlpafbdbhaiaaGreatDoorGt2
namespace Go.Proofs.YtbmlpafbdbhaiaaGreatDoor.Gf
open Go Go.Joins Go.ChangeShapes Go.WideShapes Go.ChangeAt Go.RowKit Go.Deep Go.Proofs.YtbmlpafbdbhaiaaGreatDoor.By Go.Proofs.YtbmlpafbdbhaiaaGreatDoor.Qt
set_option maxRecDepth 100000
set_option maxHeartbeats 204800000
theorem asc_nodup : ∀ {L : List Itm}, Asc L → (L.map (·.key)).Nodup := fun {L} h => by
  unfold List.Nodup
  rw [List.pairwise_map]
  exact (show L.Pairwise (fun a b => a.key < b.key) from h).imp fun h => Nat.ne_of_lt h
theorem mem_iL_gO {m : Mp} (h : okM m) (hl : m.st.length = 8) {x : Itm} : x ∈ iL m ↔ gO m x.key = some x := by
  unfold gO
  rw [← lk_iL h hl]
  exact ⟨fun hx => lk_nodup (asc_nodup (asc_iL m)) hx, fun hx => (lk_some hx).1⟩
theorem pw_any {R : Itm → Itm → Prop} (hs : ∀ x y, R x y → R y x) : ∀ {L : List Itm}, L.Pairwise R → ∀ {x y : Itm}, x ∈ L → y ∈ L → x ≠ y → R x y
  | [], _, _, _, hx, _, _ => by cases hx
  | z :: L, h, x, y, hx, hy, hne => by
    rw [List.pairwise_cons] at h
    rcases List.mem_cons.1 hx with e1 | h1
    · rcases List.mem_cons.1 hy with e2 | h2
      · exact absurd (e1.trans e2.symm) hne
      · exact e1 ▸ h.1 y h2
    · rcases List.mem_cons.1 hy with e2 | h2
      · exact e2 ▸ hs _ _ (h.1 x h1)
      · exact pw_any hs h.2 h1 h2 hne
theorem ok_addR {g : Ge} {n : Nat} (h : okGe g) (hl : g.m.st.length = 8) (hf : g.m.st.flatten.length ≤ n) (hn : n + 1 ≤ 1000) {x : Rcd} (hx : okR x) (ht : g.size + szI6 x.sz ≤ 1048576) :
    okGe { g with size := g.size + szI6 x.sz, m := (addR (g.m, g.size) x).1 } ∧ (addR (g.m, g.size) x).1.st.length = 8 ∧ (addR (g.m, g.size) x).1.st.flatten.length ≤ n + 1 := by
  have hs : GdS g.m g.size n := ⟨⟨h.ok, hl, hf⟩, by have := h.eq; omega, h.hd.s1, by omega⟩
  obtain ⟨h1, h2, h3⟩ := gdS_add hs hn h.hd.s8 h.hd.s0 hx ht
  have hz := szI6_bd x.sz
  obtain ⟨M, hM⟩ : ∃ M, M = (addR (g.m, g.size) x).1 := ⟨_, rfl⟩
  rw [← hM] at h1 h3 ⊢
  have hsum := h1.sum
  have hmem : ∀ y, y ∈ iL M → (y ∈ iL g.m ∨ (y.off = g.size ∧ y.off + szT y = g.size + szI6 x.sz)) := fun y hy => by
    rw [mem_iL_gO h1.gd.ok h1.gd.len, h3] at hy
    by_cases e : x.key = y.key
    · rw [if_pos e] at hy
      cases hd : x.del with
      | true => rw [hd, if_pos rfl] at hy; cases hy
      | false =>
        rw [hd, if_neg (by decide)] at hy
        obtain rfl := Option.some.inj hy
        exact Or.inr ⟨rfl, rfl⟩
    · rw [if_neg e] at hy
      exact Or.inl ((mem_iL_gO h.ok hl).2 hy)
  refine ⟨⟨⟨h.hd.n1, h.hd.n8, h.hd.r0, h.hd.r1, h.hd.m1, h.hd.m3, (by show 16 ≤ g.size + szI6 x.sz; have := h.hd.s0; omega), ht, h2⟩, h1.gd.ok, (by show g.size + szI6 x.sz = 16 + M.live + M.garb; omega), ?_, ?_⟩, h1.gd.len, h1.gd.flat⟩
  · intro y hy
    show y.off + szT y ≤ g.size + szI6 x.sz
    rcases hmem y hy with h4 | h4
    · have := h.ap.1 y h4
      omega
    · omega
  · refine List.Pairwise.imp_of_mem ?_ (asc_iL M)
    intro a b ha hb (hab : a.key < b.key)
    rcases hmem a ha with h4 | h4
    · rcases hmem b hb with h5 | h5
      · exact pw_any (fun _ _ => djT_symm) h.ap.2 h4 h5 (fun e => by rw [e] at hab; omega)
      · exact Or.inl (by have := h.ap.1 a h4; omega)
    · rcases hmem b hb with h5 | h5
      · exact Or.inr (by have := h.ap.1 b h5; omega)
      · exfalso
        rw [mem_iL_gO h1.gd.ok h1.gd.len, h3] at ha hb
        by_cases e : x.key = a.key
        · rw [if_neg (by omega)] at hb
          have h6 := h.ap.1 b ((mem_iL_gO h.ok hl).2 hb)
          have h7 := szT_pos (iL_ok h.ok hl b ((mem_iL_gO h.ok hl).2 hb))
          omega
        · rw [if_neg e] at ha
          have h6 := h.ap.1 a ((mem_iL_gO h.ok hl).2 ha)
          have h7 := szT_pos (iL_ok h.ok hl a ((mem_iL_gO h.ok hl).2 ha))
          omega
theorem ok_addL : ∀ (l : List Rcd) {g : Ge} {n : Nat}, okGe g → g.m.st.length = 8 → g.m.st.flatten.length ≤ n → n + l.length ≤ 1000 → (∀ x ∈ l, okR x) → g.size + sumR l ≤ 1048576 →
    okGe { g with size := g.size + sumR l, m := (addL g.m g.size l).1 } ∧ (addL g.m g.size l).1.st.length = 8 ∧ (addL g.m g.size l).1.st.flatten.length ≤ n + l.length
  | [], g, n, h, hl, hf, _, _, _ => by
    have e : g.size + sumR [] = g.size := by simp [sumR]
    rw [e]
    exact ⟨h, hl, hf⟩
  | x :: l, g, n, h, hl, hf, hn, hx, ht => by
    simp only [List.length_cons] at hn
    have h0 := sumR_lo l
    have e : sumR (x :: l) = szI6 x.sz + sumR l := by simp [sumR]
    obtain ⟨h1, h2, h3⟩ := ok_addR h hl hf (by omega) (hx x (List.mem_cons_self ..)) (by omega)
    obtain ⟨h4, h5, h6⟩ := ok_addL l (g := { g with size := g.size + szI6 x.sz, m := (addR (g.m, g.size) x).1 }) h1 h2 h3 (by omega) (fun y hy => hx y (List.mem_cons_of_mem _ hy)) (by show g.size + szI6 x.sz + sumR l ≤ _; omega)
    have e2 : g.size + sumR (x :: l) = g.size + szI6 x.sz + sumR l := by omega
    rw [e2]
    exact ⟨h4, h5, by simp only [List.length_cons]; have : (addL g.m g.size (x :: l)).1.st.flatten.length ≤ n + 1 + l.length := h6; omega⟩
/-- A generation behind some records. -/
noncomputable def gAdd (g : Ge) (l : List Rcd) : Ge := { g with size := g.size + sumR l, m := (addL g.m g.size l).1 }
theorem gAdd_nil (g : Ge) : gAdd g [] = g := by
  unfold gAdd
  have e : g.size + sumR [] = g.size := by simp [sumR]
  rw [e]
  rfl
theorem gAdd_snoc (g : Ge) (l : List Rcd) (x : Rcd) : gAdd (gAdd g l) [x] = gAdd g (l ++ [x]) := by
  unfold gAdd
  have e : g.size + sumR l + sumR [x] = g.size + sumR (l ++ [x]) := by rw [sumR_snoc]; simp [sumR]; omega
  have e2 : (addL (addL g.m g.size l).1 (g.size + sumR l) [x]).1 = (addL g.m g.size (l ++ [x])).1 := by
    rw [addL_snoc, ← addL_sz l g.m g.size]
    rfl
  simp only
  rw [e, e2]
/-- What the laws' generations are: valid, writable, small. -/
structure OkA (g : Ge) (n : Nat) (z : Int) : Prop where
  ok : okGe g
  st : g.m.st.length = 8
  fl : g.m.st.flatten.length ≤ n
  md : g.mode = 1
  sz : g.size ≤ z
theorem OkA.lge {g : Ge} {n : Nat} {z : Int} (h : OkA g n z) (hn : n ≤ 900) : LGe g := ⟨few_of h.st (Nat.le_trans h.fl (by omega)), Nat.le_trans h.fl hn⟩
theorem okA_add {g : Ge} {n : Nat} {z : Int} (h : OkA g n z) {l : List Rcd} (hn : n + l.length ≤ 900) (hx : ∀ x ∈ l, okR x) {y : Int} (hy : sumR l ≤ y) (ht : z + y ≤ 1048576) : OkA (gAdd g l) (n + l.length) (z + y) ∧ addC g l = 0 ∧ addT g l = gAdd g l := by
  have hs := h.sz
  obtain ⟨h1, h2, h3⟩ := ok_addL l h.ok h.st h.fl (by omega) hx (by omega)
  have hc : addC g l = 0 := by unfold addC; rw [if_pos ⟨h.ok, hx⟩, if_pos h.md, if_pos (by omega)]
  exact ⟨⟨h1, h2, h3, h.md, by show g.size + sumR l ≤ _; omega⟩, hc, by unfold addT; rw [if_pos hc]; rfl⟩
theorem okA_fr {n : Int} (h1 : 1 ≤ n) (h8 : n ≤ 8) : OkA (frG n) 0 16 := ⟨frG_ok h1 h8, by show mp0.st.length = 8; decide, by show mp0.st.flatten.length ≤ 0; decide, rfl, by show (16 : Int) ≤ 16; decide⟩
end Go.Proofs.YtbmlpafbdbhaiaaGreatDoor.Gf
