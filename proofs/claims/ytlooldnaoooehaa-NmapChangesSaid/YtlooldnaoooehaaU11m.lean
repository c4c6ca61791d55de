/- What is proved here: a map that came in as an argument. -/
import Derived.Test.YtlooldnaoooehaaU11
import Derived.Test.YtlooldnaoooehaaP11b
import Derived.Deep.Slices
import Derived.Deep.Fields
namespace Go.Proofs.Ytlooldnaoooehaa.Gf
open Go Go.Joins Go.ChangeShapes Go.WideShapes Go.ChangeAt Go.RowKit Go.Deep Go.Proofs.Ytlooldnaoooehaa.By

set_option maxRecDepth 100000 in
/-- A slot that was read as a slice of items. -/
theorem it_read {H : Type} {enc : TypeId × Value → H} {W : World} {fuel : Nat} {c : Value} {y : DataW H × List MemPlace} (hf : DataW.trod enc Try.prog W 0 (fun _ => true) true fuel 22 [c] = some y) : ∃ L, It W c L := by
  rcases open_slice Try.underlying22 hf with ⟨hcs, _⟩ | ⟨x, len, cap, m, n, D, Pl, hcs, _, hl, hm, hmm, -, hi⟩
  · obtain rfl : c = _ := by simpa using hcs

    exact ⟨[], it_nil W⟩
  · obtain rfl : c = _ := by simpa using hcs
    have hmc : m = cap := by simpa using hmm
    subst hmc
    obtain ⟨b, off, spot⟩ := x
    have hspot : 0 < len → spot = none := fun h0 => by
      obtain ⟨cs', hc, ht⟩ := hi 0 (by omega)
      rw [cellsItem] at hc
      obtain ⟨c0, c1, c2, c3, rfl, e0, e1, e2, e3⟩ := four_cells hc
      simpa [Addr.add] using World.cell?_spot e0
    have hx : ∀ i, ∃ y : Itm, i < len → ItOk y ∧ spot = none ∧ C4 W b (off + i * 4) y := fun i => by
      by_cases h1 : i < len
      · obtain ⟨cs', hc, ht⟩ := hi i (by omega)
        rw [cellsItem] at hc
        obtain ⟨c0, c1, c2, c3, rfl, e0, e1, e2, e3⟩ := four_cells hc
        obtain ⟨y, oky, rfl, rfl, rfl, rfl⟩ := item_read ht
        obtain rfl := hspot (by omega)
        simp only [add_none] at e0 e1 e2 e3
        exact ⟨y, fun _ => ⟨oky, rfl, e0, e1, e2, e3⟩⟩
      · exact ⟨z0, fun h => absurd h h1⟩
    obtain ⟨f, hf'⟩ := Classical.axiomOfChoice hx
    have hlen : ((List.range len).map f).length = len := by simp
    have hget : ∀ i, i < len → ((List.range len).map f).getD i z0 = f i := fun i h1 => by simp [List.getD, h1]
    refine ⟨(List.range len).map f, fun y hy => ?_, some ⟨b, off, spot⟩, m, by rw [hlen], by rw [hlen]; exact hl, hm, fun hp => ?_⟩
    · obtain ⟨i, hi2, rfl⟩ := List.mem_map.1 hy
      exact (hf' i (List.mem_range.1 hi2)).1
    · rw [hlen] at hp
      refine ⟨b, off, by rw [(hf' 0 hp).2.1], fun j u hu => ?_⟩
      have hj : j < len * 4 := by
        have := (List.getElem?_eq_some_iff.1 hu).1
        rw [cellsT_length, hlen] at this
        exact this
      have hc := (hf' (j / 4) (by omega)).2.2
      have e := cellsT_at ((List.range len).map f) (j / 4) (j % 4) (by rw [hlen]; omega) (by omega)
      rw [show j / 4 * 4 + j % 4 = j by omega, hu, hget _ (by omega)] at e
      rw [show off + j = off + j / 4 * 4 + j % 4 by omega]
      obtain ⟨e0, e1, e2, e3⟩ := hc
      have hr : j % 4 = 0 ∨ j % 4 = 1 ∨ j % 4 = 2 ∨ j % 4 = 3 := by omega
      rcases hr with hr | hr | hr | hr
      all_goals
        rw [hr] at e ⊢
        have e' : u = _ := Option.some.inj e
        subst e'
        first | exact e0 | exact e1 | exact e2 | exact e3
theorem ten_list {α : Type} {l : List α} (h : l.length = 10) : ∃ c0 c1 c2 c3 c4 c5 c6 c7 c8 c9, l = [c0, c1, c2, c3, c4, c5, c6, c7, c8, c9] := by
  match l, h with
  | [c0, c1, c2, c3, c4, c5, c6, c7, c8, c9], _ => exact ⟨c0, c1, c2, c3, c4, c5, c6, c7, c8, c9, rfl⟩
theorem cells_map : Try.prog.cellsOf 25 = 10 := by kernel_rfl
theorem cells_st : Try.prog.cellsOf 23 = 8 := by kernel_rfl
theorem cells_its : Try.prog.cellsOf 22 = 1 := by kernel_rfl
theorem cells_i64m : Try.prog.cellsOf 2 = 1 := by kernel_rfl
set_option maxRecDepth 100000 in
theorem mp_open {H : Type} {enc : TypeId × Value → H} {W : World} {base : Nat} {v : Value} {d : DataW H} {p : List MemPlace} (hv : Value.okWide Try.prog W .any base 25 v) (h : DataW.Trod enc Try.prog W 0 (fun _ => true) true 25 v d p) : ∃ m, Mv W v m := by
  obtain ⟨cs, rfl, hsz⟩ := okWide_struct Try.underlying25 hv
  obtain ⟨fuel, hf⟩ := h
  rw [cells_map] at hsz
  obtain ⟨l⟩ := cs
  obtain ⟨c0, c1, c2, c3, c4, c5, c6, c7, c8, c9, rfl⟩ := ten_list (show l.length = 10 by simpa using hsz)
  obtain ⟨ys, m, _, _, _, hl, hfl⟩ := DataW.trod_struct Try.underlying25 hf
  have h0 : DataW.trod enc Try.prog W 0 (fun _ => true) true m 23 (([c0, c1, c2, c3, c4, c5, c6, c7, c8, c9].drop 0).take (Try.prog.cellsOf 23)) = ys[0]? := hfl 0 _ rfl
  have h1 : DataW.trod enc Try.prog W 0 (fun _ => true) true m 2 (([c0, c1, c2, c3, c4, c5, c6, c7, c8, c9].drop 8).take (Try.prog.cellsOf 2)) = ys[1]? := hfl 1 _ rfl
  have h2 : DataW.trod enc Try.prog W 0 (fun _ => true) true m 2 (([c0, c1, c2, c3, c4, c5, c6, c7, c8, c9].drop 9).take (Try.prog.cellsOf 2)) = ys[2]? := hfl 2 _ rfl
  rw [cells_st] at h0
  rw [cells_i64m] at h1 h2
  have hl3 : ys.length = 3 := hl
  match ys, hl3 with
  | [y0, y1, y2], _ =>
    have h0 : DataW.trod enc Try.prog W 0 (fun _ => true) true m 23 [c0, c1, c2, c3, c4, c5, c6, c7] = some y0 := h0
    obtain ⟨o, ho, _, wo⟩ := DataW.trod_int Try.underlying2 (show DataW.trod enc Try.prog W 0 (fun _ => true) true m 2 [c8] = some y1 from h1)
    obtain ⟨z, hz, _, wz⟩ := DataW.trod_int Try.underlying2 (show DataW.trod enc Try.prog W 0 (fun _ => true) true m 2 [c9] = some y2 from h2)
    obtain rfl : c8 = .int .i64 o := by simpa using ho
    obtain rfl : c9 = .int .i64 z := by simpa using hz
    obtain ⟨xs, m2, _, _, _, hx, ha⟩ := DataW.trod_array Try.underlying23 h0
    rw [cells_its] at ha
    have hk : ∀ (i : Nat) (c : Value), i < 8 → ([c0, c1, c2, c3, c4, c5, c6, c7].drop (i * 1)).take 1 = [c] → ∃ L, It W c L := fun i c hi hc => by
      have h3 := ha i hi
      have h4 : DataW.trod enc Try.prog W 0 (fun _ => true) true m2 22 (([c0, c1, c2, c3, c4, c5, c6, c7].drop (i * 1)).take 1) = xs[i]? := h3
      rw [hc, List.getElem?_eq_getElem (by omega)] at h4
      exact it_read h4
    obtain ⟨L0, s0⟩ := hk 0 c0 (by decide) rfl
    obtain ⟨L1, s1⟩ := hk 1 c1 (by decide) rfl
    obtain ⟨L2, s2⟩ := hk 2 c2 (by decide) rfl
    obtain ⟨L3, s3⟩ := hk 3 c3 (by decide) rfl
    obtain ⟨L4, s4⟩ := hk 4 c4 (by decide) rfl
    obtain ⟨L5, s5⟩ := hk 5 c5 (by decide) rfl
    obtain ⟨L6, s6⟩ := hk 6 c6 (by decide) rfl
    obtain ⟨L7, s7⟩ := hk 7 c7 (by decide) rfl
    refine ⟨⟨[L0, L1, L2, L3, L4, L5, L6, L7], o, z⟩, c0, c1, c2, c3, c4, c5, c6, c7, rfl, rfl, j64_wf wo, j64_wf wz, fun k hk8 => ?_⟩
    have hc : k = 0 ∨ k = 1 ∨ k = 2 ∨ k = 3 ∨ k = 4 ∨ k = 5 ∨ k = 6 ∨ k = 7 := by omega
    rcases hc with rfl | rfl | rfl | rfl | rfl | rfl | rfl | rfl
    · obtain ⟨a, q, he, -, -⟩ := it_form s0
      refine ⟨a, q, congrArg some he, ?_⟩
      rw [he] at s0
      exact s0
    · obtain ⟨a, q, he, -, -⟩ := it_form s1
      refine ⟨a, q, congrArg some he, ?_⟩
      rw [he] at s1
      exact s1
    · obtain ⟨a, q, he, -, -⟩ := it_form s2
      refine ⟨a, q, congrArg some he, ?_⟩
      rw [he] at s2
      exact s2
    · obtain ⟨a, q, he, -, -⟩ := it_form s3
      refine ⟨a, q, congrArg some he, ?_⟩
      rw [he] at s3
      exact s3
    · obtain ⟨a, q, he, -, -⟩ := it_form s4
      refine ⟨a, q, congrArg some he, ?_⟩
      rw [he] at s4
      exact s4
    · obtain ⟨a, q, he, -, -⟩ := it_form s5
      refine ⟨a, q, congrArg some he, ?_⟩
      rw [he] at s5
      exact s5
    · obtain ⟨a, q, he, -, -⟩ := it_form s6
      refine ⟨a, q, congrArg some he, ?_⟩
      rw [he] at s6
      exact s6
    · obtain ⟨a, q, he, -, -⟩ := it_form s7
      refine ⟨a, q, congrArg some he, ?_⟩
      rw [he] at s7
      exact s7
end Go.Proofs.Ytlooldnaoooehaa.Gf
