/- What is proved here: slices of items and of numbers that came in as arguments. No condition. -/
import Derived.Test.YtihjfnlimdcmkaaDoorR8f
import Derived.Lib.SmallJoins
import Derived.Deep.Slices
import Derived.Deep.Fields
import Derived.ChangeSame
namespace Go.Proofs.YtihjfnlimdcmkaaDoor.Gf
open Go Go.Joins Go.ChangeShapes Go.WideShapes Go.ChangeAt Go.RowKit Go.Deep Go.Proofs.YtihjfnlimdcmkaaDoor.By

theorem j64_wf {n : Int} (h : (Lit.int .i64 n).wf = true) : J64 n := by
  simp [Lit.wf, IntKind.min, IntKind.max, IntKind.signed, IntKind.bits] at h
  unfold J64; omega
theorem cellsU64 : Tryd.prog.cellsOf 38 = 1 := by kernel_rfl
theorem cellsU32 : Tryd.prog.cellsOf 39 = 1 := by kernel_rfl
theorem cellsI64 : Tryd.prog.cellsOf 2 = 1 := by kernel_rfl
theorem cellsInt : Tryd.prog.cellsOf 3 = 1 := by kernel_rfl
theorem cellsItem : Tryd.prog.cellsOf 41 = 4 := by kernel_rfl
theorem four_cells {W : World} {base : Nat} {a : Addr} {cs : List Value} (h : W.cells? base a 4 = some cs) : ∃ c0 c1 c2 c3, cs = [c0, c1, c2, c3] ∧ W.cell? a = some c0 ∧ W.cell? (a.add 1) = some c1 ∧ W.cell? (a.add 2) = some c2 ∧ W.cell? (a.add 3) = some c3 := by
  obtain ⟨_, hl, hat⟩ := World.cells?_some h
  match cs, hl with
  | [c0, c1, c2, c3], _ =>
    exact ⟨c0, c1, c2, c3, rfl, by simpa [Addr.add] using hat 0 (by decide), hat 1 (by decide), hat 2 (by decide), hat 3 (by decide)⟩
/-- An item that was read. -/
theorem item_read {H : Type} {enc : TypeId × Value → H} {W : World} {base : Nat} {sp : Nat → Bool} {hd : Bool} {n : Nat} {c0 c1 c2 c3 : Value} {y : DataW H × List MemPlace} (h : DataW.trod enc Tryd.prog W base sp hd n 41 [c0, c1, c2, c3] = some y) :
    ∃ x : Itm, ItOk x ∧ c0 = .int .u64 (x.key : Int) ∧ c1 = .int .u32 (x.ck : Int) ∧ c2 = .int .i64 x.off ∧ c3 = .int .i64 x.sz := by
  obtain ⟨ys, m, _, _, _, hl, hf⟩ := DataW.trod_struct Tryd.underlying41 h
  have h0 : DataW.trod enc Tryd.prog W base sp hd m 38 (([c0, c1, c2, c3].drop 0).take (Tryd.prog.cellsOf 38)) = ys[0]? := hf 0 _ rfl
  have h1 : DataW.trod enc Tryd.prog W base sp hd m 39 (([c0, c1, c2, c3].drop 1).take (Tryd.prog.cellsOf 39)) = ys[1]? := hf 1 _ rfl
  have h2 : DataW.trod enc Tryd.prog W base sp hd m 2 (([c0, c1, c2, c3].drop 2).take (Tryd.prog.cellsOf 2)) = ys[2]? := hf 2 _ rfl
  have h3 : DataW.trod enc Tryd.prog W base sp hd m 3 (([c0, c1, c2, c3].drop 3).take (Tryd.prog.cellsOf 3)) = ys[3]? := hf 3 _ rfl
  match ys, hl with
  | [y0, y1, y2, y3], _ =>
    rw [cellsU64] at h0
    rw [cellsU32] at h1
    rw [cellsI64] at h2
    rw [cellsInt] at h3
    obtain ⟨k, hk, _, wk⟩ := DataW.trod_int Tryd.underlying38 (show DataW.trod enc Tryd.prog W base sp hd m 38 [c0] = some y0 from h0)
    obtain ⟨c, hc, _, wc⟩ := DataW.trod_int Tryd.underlying39 (show DataW.trod enc Tryd.prog W base sp hd m 39 [c1] = some y1 from h1)
    obtain ⟨o, ho, _, wo⟩ := DataW.trod_int Tryd.underlying2 (show DataW.trod enc Tryd.prog W base sp hd m 2 [c2] = some y2 from h2)
    obtain ⟨z, hz, _, wz⟩ := DataW.trod_int Tryd.underlying3 (show DataW.trod enc Tryd.prog W base sp hd m 3 [c3] = some y3 from h3)
    obtain rfl : c0 = .int .u64 k := by simpa using hk
    obtain rfl : c1 = .int .u32 c := by simpa using hc
    obtain rfl : c2 = .int .i64 o := by simpa using ho
    obtain rfl : c3 = .int .i64 z := by simpa using hz
    have jo := j64_wf wo
    have jz := j64_wf wz
    simp [Lit.wf, IntKind.min, IntKind.max, IntKind.signed, IntKind.bits] at wk wc
    exact ⟨⟨k.toNat, c.toNat, o, z⟩, ⟨by show k.toNat < _; omega, by show c.toNat < _; omega, jo, jz⟩, by rw [Int.toNat_of_nonneg (by omega)], by rw [Int.toNat_of_nonneg (by omega)], rfl, rfl⟩
/-- A slice of items that came in reads as a list. -/
theorem it_open {H : Type} {enc : TypeId × Value → H} {W : World} {base : Nat} {v : Value} {d : DataW H} {p : List MemPlace} (hv : Value.okWide Tryd.prog W .any base 22 v) (h : DataW.Trod enc Tryd.prog W 0 (fun _ => true) true 22 v d p) : ∃ L, It W v L := by
  obtain ⟨a, len, cap, rfl⟩ := okWide_slice Tryd.underlying22 hv
  obtain ⟨fuel, hf⟩ := h
  rcases open_slice Tryd.underlying22 hf with ⟨hcs, _⟩ | ⟨x, len', cap', m, n, D, Pl, hcs, _, hl, hm, hmm, -, hi⟩
  · simp [Value.cells] at hcs
    obtain ⟨rfl, rfl, rfl⟩ := hcs
    exact ⟨[], it_nil W⟩
  · simp [Value.cells] at hcs
    obtain ⟨rfl, rfl, rfl⟩ := hcs
    have hmc : m = cap := by simpa using hmm
    subst hmc
    obtain ⟨b, off, spot⟩ := x
    have hspot : 0 < len → spot = none := fun h0 => by
      obtain ⟨cs', hc, ht⟩ := hi 0 (by omega)
      rw [cellsItem] at hc
      obtain ⟨c0, c1, c2, c3, rfl, e0, e1, e2, e3⟩ := four_cells hc
      simpa [Addr.add] using World.cell?_spot e0
    have hx : ∀ i, ∃ y : Itm, i < len → ItOk y ∧ spot = none ∧ C4 W b (off + i * 4) y := fun i => by
      by_cases h1 : i < len
      · obtain ⟨cs', hc, ht⟩ := hi i (by omega)
        rw [cellsItem] at hc
        obtain ⟨c0, c1, c2, c3, rfl, e0, e1, e2, e3⟩ := four_cells hc
        obtain ⟨y, oky, rfl, rfl, rfl, rfl⟩ := item_read ht
        obtain rfl := hspot (by omega)
        simp only [add_none] at e0 e1 e2 e3
        exact ⟨y, fun _ => ⟨oky, rfl, e0, e1, e2, e3⟩⟩
      · exact ⟨z0, fun h => absurd h h1⟩
    obtain ⟨f, hf'⟩ := Classical.axiomOfChoice hx
    have hlen : ((List.range len).map f).length = len := by simp
    have hget : ∀ i, i < len → ((List.range len).map f).getD i z0 = f i := fun i h1 => by simp [List.getD, h1]
    refine ⟨(List.range len).map f, fun y hy => ?_, some ⟨b, off, spot⟩, m, by rw [hlen], by rw [hlen]; exact hl, hm, fun hp => ?_⟩
    · obtain ⟨i, hi2, rfl⟩ := List.mem_map.1 hy
      exact (hf' i (List.mem_range.1 hi2)).1
    · rw [hlen] at hp
      refine ⟨b, off, by rw [(hf' 0 hp).2.1], fun j u hu => ?_⟩
      have hj : j < len * 4 := by
        have := (List.getElem?_eq_some_iff.1 hu).1
        rw [cellsT_length, hlen] at this
        exact this
      have hc := (hf' (j / 4) (by omega)).2.2
      have e := cellsT_at ((List.range len).map f) (j / 4) (j % 4) (by rw [hlen]; omega) (by omega)
      rw [show j / 4 * 4 + j % 4 = j by omega, hu, hget _ (by omega)] at e
      rw [show off + j = off + j / 4 * 4 + j % 4 by omega]
      obtain ⟨e0, e1, e2, e3⟩ := hc
      have hr : j % 4 = 0 ∨ j % 4 = 1 ∨ j % 4 = 2 ∨ j % 4 = 3 := by omega
      rcases hr with hr | hr | hr | hr
      all_goals
        rw [hr] at e ⊢
        have e' : u = _ := Option.some.inj e
        subst e'
        first | exact e0 | exact e1 | exact e2 | exact e3
/-- The slice value v reads as the numbers G. -/
def Su (w : World) (v : Value) (G : List Nat) : Prop :=
  (∀ g ∈ G, g < 18446744073709551616) ∧ ∃ a cap, v = .slice a G.length cap ∧ G.length ≤ cap ∧ cap ≤ maxLen ∧ (0 < G.length → ∃ b off, a = some ⟨b, off, none⟩ ∧ ∀ k, k < G.length → w.cell? ⟨b, off + k, none⟩ = some (.int .u64 ((G.getD k 0 : Nat) : Int)))
theorem su_form {w : World} {v : Value} {G : List Nat} (h : Su w v G) : ∃ a cap, v = .slice a G.length cap ∧ G.length ≤ cap ∧ cap ≤ maxLen := by
  obtain ⟨_, a, cap, h1, h2, h3, _⟩ := h
  exact ⟨a, cap, h1, h2, h3⟩
theorem su_below {w w' : World} {v : Value} {G : List Nat} (h : Su w v G) (hB : Below w.heap.size w w') : Su w' v G := by
  obtain ⟨h0, a, cap, h1, h2, h3, h4⟩ := h
  refine ⟨h0, a, cap, h1, h2, h3, fun hp => ?_⟩
  obtain ⟨b, off, e, hc⟩ := h4 hp
  exact ⟨b, off, e, fun k hk => (hB.cell (p := ⟨b, off + k, none⟩) (block_lt_of_cell (hc k hk))).trans (hc k hk)⟩
theorem su_cells {w : World} {v : Value} {G : List Nat} (h : Su w v G) (hp : 0 < G.length) : ∃ b off cap, v = .slice (some ⟨b, off, none⟩) G.length cap ∧ G.length ≤ cap ∧ cap ≤ maxLen ∧ ∀ k, k < G.length → w.cell? ⟨b, off + k, none⟩ = some (.int .u64 ((G.getD k 0 : Nat) : Int)) := by
  obtain ⟨_, a, cap, h1, h2, h3, h4⟩ := h
  obtain ⟨b, off, rfl, hc⟩ := h4 hp
  exact ⟨b, off, cap, h1, h2, h3, hc⟩
theorem su_one {w : World} {g x : Nat} {fr : Nat × Nat} (hx : x < 18446744073709551616) (hg : w.heap[g]? = some (.cells #[.int .u64 (x : Int)] 38 fr)) : Su w (.slice (some ⟨g, 0, none⟩) 1 1) [x] := by
  refine ⟨by simpa using hx, _, _, rfl, Nat.le_refl _, by unfold maxLen; decide, fun _ => ⟨g, 0, rfl, fun k hk => ?_⟩⟩
  obtain rfl : k = 0 := by simpa using hk
  exact cell_of_row w g 0 _ _ _ hg
/-- A slice of numbers that came in. -/
theorem su_open {H : Type} {enc : TypeId × Value → H} {W : World} {base : Nat} {v : Value} {d : DataW H} {p : List MemPlace} (hv : Value.okWide Tryd.prog W .any base 42 v) (h : DataW.Trod enc Tryd.prog W 0 (fun _ => true) true 42 v d p) : ∃ G, Su W v G := by
  obtain ⟨a, len, cap, rfl⟩ := okWide_slice Tryd.underlying42 hv
  obtain ⟨fuel, hf⟩ := h
  rcases open_ints Tryd.underlying42 Tryd.underlying38 cellsU64 hf with ⟨hcs, _⟩ | ⟨x, l, c, zs, hcs, _, hl, hm, hz, _, hcell, hwz⟩
  · simp [Value.cells] at hcs
    obtain ⟨rfl, rfl, rfl⟩ := hcs
    exact ⟨[], by simp, none, 0, rfl, Nat.le_refl _, by simp, fun h => by simp at h⟩
  · simp [Value.cells] at hcs
    obtain ⟨rfl, rfl, rfl⟩ := hcs
    have hz' : zs.length = cap := by simpa using hz
    have hb : ∀ n ∈ zs, 0 ≤ n ∧ n < 18446744073709551616 := fun n hn => by
      have := hwz n hn
      simp [Lit.wf, IntKind.min, IntKind.max, IntKind.signed, IntKind.bits] at this
      omega
    have hlen : ((zs.take len).map Int.toNat).length = len := by simp; omega
    obtain ⟨b, off, spot⟩ := x
    refine ⟨(zs.take len).map Int.toNat, fun y hy => ?_, some ⟨b, off, spot⟩, cap, by rw [hlen], by rw [hlen]; exact hl, hm, fun hp => ?_⟩
    · obtain ⟨n, hn, rfl⟩ := List.mem_map.1 hy
      have := hb n (List.mem_of_mem_take hn)
      omega
    · rw [hlen] at hp
      have hc0 := hcell 0 (by omega)
      have hspot : spot = none := by simpa [Addr.add] using World.cell?_spot hc0
      subst hspot
      refine ⟨b, off, rfl, fun k hk => ?_⟩
      rw [hlen] at hk
      have hck := hcell k (by omega)
      rw [add_none] at hck
      rw [hck]
      have hkz : k < zs.length := by omega
      have hpos := (hb _ (List.getElem_mem hkz)).1
      simp [List.getD, hk, hkz, Int.toNat_of_nonneg hpos]
end Go.Proofs.YtihjfnlimdcmkaaDoor.Gf
