/- What is proved here: bytes as data of a shape, and the other way round. No program text of its own. -/
import Derived.Test.YtbkhedfhnmkodaaDoorGn
import Derived.Test.YtbkhedfhnmkodaaDoorRo
namespace Go.Proofs.YtbkhedfhnmkodaaDoor.Gf
open Go Go.Joins Go.ChangeShapes Go.WideShapes Go.ChangeAt Go.RowKit Go.Proofs.YtbkhedfhnmkodaaDoor.By

theorem flat8 : ∀ (l : List Nat), (l.map fun (x : Nat) => ([Value.int .u8 (x : Int)], x)).flatMap Prod.fst = cellsOf l
  | [] => rfl
  | x :: l => by
    rw [List.map_cons, List.flatMap_cons, flat8 l]
    rfl
theorem rd8_of {B : Nat → Prop} {w : World} {a : Option Addr} {n cap : Nat} {l : List Nat} (hb : ∀ x ∈ l, x < 256) (hn : n = l.length) (hc : n ≤ cap) (hm : cap ≤ maxLen) (hk : 0 < n → ∃ b off, a = some ⟨b, off, none⟩ ∧ B b ∧ ∀ k, k < n → w.cell? ⟨b, off + k, none⟩ = some (.int .u8 ((l.getD k 0 : Nat) : Int))) : Rd B w (.sl .u8) [.slice a n cap] l := by
  subst hn
  refine ⟨l.map fun (x : Nat) => ([Value.int .u8 (x : Int)], x), a, cap, by rw [List.length_map], by rw [List.map_map]; simp [Function.comp_def], by rw [List.length_map]; exact hc, hm, fun p hp => ?_, fun hp => ?_⟩
  · obtain ⟨x, hx, rfl⟩ := List.mem_map.1 hp
    exact ⟨hb x hx, rfl⟩
  · rw [List.length_map] at hp
    obtain ⟨b, off, e, h1, h2⟩ := hk hp
    refine ⟨b, off, e, h1, fun j u hu => ?_⟩
    rw [flat8] at hu
    have hj : j < l.length := by have := (List.getElem?_eq_some_iff.1 hu).1; rwa [cellsOf_length] at this
    rw [h2 j hj, ← hu]
    simp [cellsOf, List.getD, hj]
/-- Bytes that can be read. -/
theorem sl_rd8 {w : World} {v : Value} {l : List Nat} (h : Sl w v l) : Rd (fun _ => True) w (.sl .u8) [v] l := by
  obtain ⟨a, cap, rfl, h1, h2⟩ := sl_form h
  refine rd8_of h.1 rfl h1 h2 fun hp => ?_
  obtain ⟨b, off, c, e, _, _, hk⟩ := sl_cells h hp
  obtain ⟨rfl, -⟩ : a = some ⟨b, off, none⟩ ∧ cap = c := by simpa using e
  exact ⟨b, off, rfl, trivial, hk⟩
theorem rd8_sl {B : Nat → Prop} {w : World} {v : Value} {l : List Nat} (h : Rd B w (.sl .u8) [v] l) : Sl w v l := by
  have h' := h
  obtain ⟨L, a, cap, h1, h2, h3, h4, h5, h6⟩ := h'
  have hl : L.length = l.length := by rw [← h2, List.length_map]
  have hb : ∀ x ∈ l, x < 256 := fun x hx => by
    rw [← h2] at hx
    obtain ⟨p, hp, rfl⟩ := List.mem_map.1 hx
    exact (h5 p hp).1
  obtain rfl : v = .slice a L.length cap := by simpa using h1
  refine ⟨hb, by omega, ?_⟩
  by_cases hp : 0 < l.length
  · obtain ⟨b, off, c, e, h7, h8, h9, h10⟩ := rd_cells h hp
    obtain ⟨rfl, -, rfl⟩ : a = some ⟨b, off, none⟩ ∧ L.length = l.length ∧ cap = c := by simpa using e
    refine Or.inr ⟨b, off, cap, by rw [hl], by omega, h4, fun k hk => ?_⟩
    obtain ⟨c, hc, hcell⟩ := h10 k _ (List.getElem?_eq_getElem hk)
    have e2 := hcell 0 Nat.one_pos
    rw [show off + (k * Ty.u8.n + 0) = off + k by show off + (k * 1 + 0) = _; omega] at e2
    rw [e2, hc.2, List.getD_eq_getElem?_getD, List.getElem?_eq_getElem hk]
    rfl
  · have hl0 : l = [] := List.eq_nil_of_length_eq_zero (by omega)
    exact Or.inl ⟨a, cap, by rw [hl, hl0]; rfl, hl0, h4⟩
/-- Bytes of the call's own. -/
theorem own_rd8 {w : World} {base : Nat} {v : Value} {l : List Nat} (h : Own w base v l) : Rd (fun b => base ≤ b) w (.sl .u8) [v] l := by
  have hs := h.sl
  obtain ⟨hb, _, ⟨rfl, h2⟩ | ⟨g, cap, cur, rfl, hg, hk, hn, hm, hsz, ht⟩⟩ := h
  · obtain rfl := List.eq_nil_of_length_eq_zero h2
    exact rd_nil _ _ _
  · refine rd8_of hb (by rfl) hn hm fun hp => ⟨g, 0, rfl, hg, ?_⟩
    obtain ⟨b, off, c, e, _, _, hc⟩ := sl_cells hs hp
    obtain ⟨⟨rfl, rfl⟩, -⟩ : (g = b ∧ 0 = off) ∧ cap = c := by simpa using e
    exact hc
end Go.Proofs.YtbkhedfhnmkodaaDoor.Gf
