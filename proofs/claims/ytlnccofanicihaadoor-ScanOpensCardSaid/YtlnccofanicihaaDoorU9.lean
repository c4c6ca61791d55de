/- What is proved here: slices of needles and of records that came in as arguments. No condition. -/
import Derived.Test.YtlnccofanicihaaDoorN9
import Derived.Lib.SmallJoins
import Derived.Deep.Slices
import Derived.Deep.Fields
import Derived.ChangeSame
namespace Go.Proofs.YtlnccofanicihaaDoor.Gf
open Go Go.Joins Go.ChangeShapes Go.WideShapes Go.ChangeAt Go.RowKit Go.Deep Go.Proofs.YtlnccofanicihaaDoor.By

theorem i64_wf9 {n : Int} (h : (Lit.int .i64 n).wf = true) : -9223372036854775808 ≤ n ∧ n ≤ 9223372036854775807 := by
  simp [Lit.wf, IntKind.min, IntKind.max, IntKind.signed, IntKind.bits] at h
  omega
theorem c9U64 : Tryd.prog.cellsOf 53 = 1 := by kernel_rfl
theorem c9U32 : Tryd.prog.cellsOf 54 = 1 := by kernel_rfl
theorem c9I64 : Tryd.prog.cellsOf 2 = 1 := by kernel_rfl
theorem c9Bool : Tryd.prog.cellsOf 4 = 1 := by kernel_rfl
theorem c9Bytes : Tryd.prog.cellsOf 22 = 1 := by kernel_rfl
theorem c9Needle : Tryd.prog.cellsOf 56 = 4 := by kernel_rfl
theorem c9Record : Tryd.prog.cellsOf 77 = 5 := by kernel_rfl
theorem four_cells9 {W : World} {base : Nat} {a : Addr} {cs : List Value} (h : W.cells? base a 4 = some cs) : ∃ c0 c1 c2 c3, cs = [c0, c1, c2, c3] ∧ W.cell? a = some c0 ∧ W.cell? (a.add 1) = some c1 ∧ W.cell? (a.add 2) = some c2 ∧ W.cell? (a.add 3) = some c3 := by
  obtain ⟨_, hl, hat⟩ := World.cells?_some h
  match cs, hl with
  | [c0, c1, c2, c3], _ =>
    exact ⟨c0, c1, c2, c3, rfl, by simpa [Addr.add] using hat 0 (by decide), hat 1 (by decide), hat 2 (by decide), hat 3 (by decide)⟩
theorem five_cells9 {W : World} {base : Nat} {a : Addr} {cs : List Value} (h : W.cells? base a 5 = some cs) : ∃ c0 c1 c2 c3 c4, cs = [c0, c1, c2, c3, c4] ∧ W.cell? a = some c0 ∧ W.cell? (a.add 1) = some c1 ∧ W.cell? (a.add 2) = some c2 ∧ W.cell? (a.add 3) = some c3 ∧ W.cell? (a.add 4) = some c4 := by
  obtain ⟨_, hl, hat⟩ := World.cells?_some h
  match cs, hl with
  | [c0, c1, c2, c3, c4], _ =>
    exact ⟨c0, c1, c2, c3, c4, rfl, by simpa [Addr.add] using hat 0 (by decide), hat 1 (by decide), hat 2 (by decide), hat 3 (by decide), hat 4 (by decide)⟩
/-- A needle that was read. -/
theorem needle_read {H : Type} {enc : TypeId × Value → H} {W : World} {n : Nat} {c0 c1 c2 c3 : Value} {y : DataW H × List MemPlace} (h : DataW.trod enc Tryd.prog W 0 (fun _ => true) true n 56 [c0, c1, c2, c3] = some y) :
    ∃ x : Ndl, NvOk ⟨x, c3⟩ ∧ Sl W c3 x.data ∧ c0 = .int .u64 (x.key : Int) ∧ c1 = .int .u32 (x.cookie : Int) ∧ c2 = .bool x.del := by
  obtain ⟨ys, m, _, _, _, hl, hf⟩ := DataW.trod_struct Tryd.underlying56 h
  have h0 : DataW.trod enc Tryd.prog W 0 (fun _ => true) true m 53 (([c0, c1, c2, c3].drop 0).take (Tryd.prog.cellsOf 53)) = ys[0]? := hf 0 _ rfl
  have h1 : DataW.trod enc Tryd.prog W 0 (fun _ => true) true m 54 (([c0, c1, c2, c3].drop 1).take (Tryd.prog.cellsOf 54)) = ys[1]? := hf 1 _ rfl
  have h2 : DataW.trod enc Tryd.prog W 0 (fun _ => true) true m 4 (([c0, c1, c2, c3].drop 2).take (Tryd.prog.cellsOf 4)) = ys[2]? := hf 2 _ rfl
  have h3 : DataW.trod enc Tryd.prog W 0 (fun _ => true) true m 22 (([c0, c1, c2, c3].drop 3).take (Tryd.prog.cellsOf 22)) = ys[3]? := hf 3 _ rfl
  match ys, hl with
  | [y0, y1, y2, y3], _ =>
    rw [c9U64] at h0
    rw [c9U32] at h1
    rw [c9Bool] at h2
    rw [c9Bytes] at h3
    obtain ⟨k, hk, _, wk⟩ := DataW.trod_int Tryd.underlying53 (show DataW.trod enc Tryd.prog W 0 (fun _ => true) true m 53 [c0] = some y0 from h0)
    obtain ⟨c, hc, _, wc⟩ := DataW.trod_int Tryd.underlying54 (show DataW.trod enc Tryd.prog W 0 (fun _ => true) true m 54 [c1] = some y1 from h1)
    obtain ⟨b, hb, _⟩ := DataW.trod_bool Tryd.underlying4 (show DataW.trod enc Tryd.prog W 0 (fun _ => true) true m 4 [c2] = some y2 from h2)
    obtain ⟨l, hl⟩ := sl_trod (show DataW.trod enc Tryd.prog W 0 (fun _ => true) true m 22 [c3] = some y3 from h3)
    obtain rfl : c0 = .int .u64 k := by simpa using hk
    obtain rfl : c1 = .int .u32 c := by simpa using hc
    obtain rfl : c2 = .bool b := by simpa using hb
    simp [Lit.wf, IntKind.min, IntKind.max, IntKind.signed, IntKind.bits] at wk wc
    obtain ⟨a3, p3, rfl, -, -⟩ := sl_form hl
    exact ⟨⟨k.toNat, c.toNat, b, l⟩, ⟨by show k.toNat < _; omega, by show c.toNat < _; omega, _, _, _, rfl⟩, hl, by rw [Int.toNat_of_nonneg (by omega)], by rw [Int.toNat_of_nonneg (by omega)], rfl⟩
/-- A record that was read. -/
theorem record_read {H : Type} {enc : TypeId × Value → H} {W : World} {n : Nat} {c0 c1 c2 c3 c4 : Value} {y : DataW H × List MemPlace} (h : DataW.trod enc Tryd.prog W 0 (fun _ => true) true n 77 [c0, c1, c2, c3, c4] = some y) :
    ∃ r : Rc, RvOk ⟨r.off, r.x, c4⟩ ∧ Sl W c4 r.x.data ∧ c0 = .int .i64 r.off ∧ c1 = .int .u64 (r.x.key : Int) ∧ c2 = .int .u32 (r.x.cookie : Int) ∧ c3 = .bool r.x.del := by
  obtain ⟨y0, y1, m, _, _, h0, h1⟩ := trod_struct2 Tryd.underlying77 h
  replace h0 : DataW.trod enc Tryd.prog W 0 (fun _ => true) true m 2 (([c0, c1, c2, c3, c4].drop 0).take (Tryd.prog.cellsOf 2)) = some y0 := h0
  replace h1 : DataW.trod enc Tryd.prog W 0 (fun _ => true) true m 56 (([c0, c1, c2, c3, c4].drop 1).take (Tryd.prog.cellsOf 56)) = some y1 := h1
  rw [c9I64] at h0
  rw [c9Needle] at h1
  obtain ⟨o, ho, _, wo⟩ := DataW.trod_int Tryd.underlying2 (show DataW.trod enc Tryd.prog W 0 (fun _ => true) true m 2 [c0] = some y0 from h0)
  obtain ⟨x, ok, sl, rfl, rfl, rfl⟩ := needle_read (show DataW.trod enc Tryd.prog W 0 (fun _ => true) true m 56 [c1, c2, c3, c4] = some y1 from h1)
  obtain rfl : c0 = .int .i64 o := by simpa using ho
  exact ⟨⟨o, x⟩, ⟨i64_wf9 wo, ok.key, ok.ck, ok.sl⟩, sl, rfl, rfl, rfl, rfl⟩
set_option maxRecDepth 100000 in
/-- A slice of needles that came in. -/
theorem ns_open {H : Type} {enc : TypeId × Value → H} {W : World} {base : Nat} {v : Value} {d : DataW H} {p : List MemPlace} (hv : Value.okWide Tryd.prog W .any base 23 v) (h : DataW.Trod enc Tryd.prog W 0 (fun _ => true) true 23 v d p) : ∃ L, Ns W v L := by
  obtain ⟨a, len, cap, rfl⟩ := okWide_slice Tryd.underlying23 hv
  obtain ⟨fuel, hf⟩ := h
  rcases open_slice Tryd.underlying23 hf with ⟨hcs, _⟩ | ⟨x, len', cap', m, n, D, Pl, hcs, _, hl, hm, hmm, -, hi⟩
  · simp [Value.cells] at hcs
    obtain ⟨rfl, rfl, rfl⟩ := hcs
    exact ⟨[], ns_nil W⟩
  · simp [Value.cells] at hcs
    obtain ⟨rfl, rfl, rfl⟩ := hcs
    have hmc : m = cap := by simpa using hmm
    subst hmc
    obtain ⟨b, off, spot⟩ := x
    have hspot : 0 < len → spot = none := fun h0 => by
      obtain ⟨cs', hc, ht⟩ := hi 0 (by omega)
      rw [c9Needle] at hc
      obtain ⟨c0, c1, c2, c3, rfl, e0, e1, e2, e3⟩ := four_cells9 hc
      simpa [Addr.add] using World.cell?_spot e0
    have hx : ∀ i, ∃ y : NV, i < len → NvOk y ∧ Sl W y.s y.x.data ∧ spot = none ∧ ∀ j u, (nvV y)[j]? = some u → W.cell? ⟨b, off + i * 4 + j, none⟩ = some u := fun i => by
      by_cases h1 : i < len
      · obtain ⟨cs', hc, ht⟩ := hi i (by omega)
        rw [c9Needle] at hc
        obtain ⟨c0, c1, c2, c3, rfl, e0, e1, e2, e3⟩ := four_cells9 hc
        obtain ⟨y, ok, sl, rfl, rfl, rfl⟩ := needle_read ht
        obtain rfl := hspot (by omega)
        simp only [add_none] at e0 e1 e2 e3
        refine ⟨⟨y, c3⟩, fun _ => ⟨ok, sl, rfl, fun j u hu => ?_⟩⟩
        match j with
        | 0 => obtain rfl : _ = u := Option.some.inj hu; exact e0
        | 1 => obtain rfl : _ = u := Option.some.inj hu; exact e1
        | 2 => obtain rfl : _ = u := Option.some.inj hu; exact e2
        | 3 => obtain rfl : _ = u := Option.some.inj hu; exact e3
        | j + 4 => cases hu
      · exact ⟨nv0, fun h => absurd h h1⟩
    obtain ⟨f, hf'⟩ := Classical.axiomOfChoice hx
    have hlen : ((List.range len).map f).length = len := by simp
    have hget : ∀ i, i < len → ((List.range len).map f).getD i nv0 = f i := fun i h1 => by simp [List.getD, h1]
    refine ⟨((List.range len).map f).map NV.x, (List.range len).map f, rfl, ⟨fun y hy => ?_, some ⟨b, off, spot⟩, m, by rw [hlen], by rw [hlen]; exact hl, hm, fun hp => ?_⟩, fun y hy => ?_⟩
    · obtain ⟨i, hi2, rfl⟩ := List.mem_map.1 hy
      exact (hf' i (List.mem_range.1 hi2)).1
    · rw [hlen] at hp
      refine ⟨b, off, by rw [(hf' 0 hp).2.2.1], fun j u hu => ?_⟩
      have hj : j < len * 4 := by
        have := (List.getElem?_eq_some_iff.1 hu).1
        rw [cellsN_length, hlen] at this
        exact this
      have hc := (hf' (j / 4) (by omega)).2.2.2
      have e := cellsN_at ((List.range len).map f) (j / 4) (j % 4) (by rw [hlen]; omega) (by omega)
      rw [show j / 4 * 4 + j % 4 = j by omega, hu, hget _ (by omega)] at e
      rw [show off + j = off + j / 4 * 4 + j % 4 by omega]
      exact hc _ _ e.symm
    · obtain ⟨i, hi2, rfl⟩ := List.mem_map.1 hy
      exact (hf' i (List.mem_range.1 hi2)).2.1
set_option maxRecDepth 100000 in
/-- A slice of records that came in. -/
theorem rs_open {H : Type} {enc : TypeId × Value → H} {W : World} {base : Nat} {v : Value} {d : DataW H} {p : List MemPlace} (hv : Value.okWide Tryd.prog W .any base 35 v) (h : DataW.Trod enc Tryd.prog W 0 (fun _ => true) true 35 v d p) : ∃ R, Rs W v R := by
  obtain ⟨a, len, cap, rfl⟩ := okWide_slice Tryd.underlying35 hv
  obtain ⟨fuel, hf⟩ := h
  rcases open_slice Tryd.underlying35 hf with ⟨hcs, _⟩ | ⟨x, len', cap', m, n, D, Pl, hcs, _, hl, hm, hmm, -, hi⟩
  · simp [Value.cells] at hcs
    obtain ⟨rfl, rfl, rfl⟩ := hcs
    exact ⟨[], rs_nil W⟩
  · simp [Value.cells] at hcs
    obtain ⟨rfl, rfl, rfl⟩ := hcs
    have hmc : m = cap := by simpa using hmm
    subst hmc
    obtain ⟨b, off, spot⟩ := x
    have hspot : 0 < len → spot = none := fun h0 => by
      obtain ⟨cs', hc, ht⟩ := hi 0 (by omega)
      rw [c9Record] at hc
      obtain ⟨c0, c1, c2, c3, c4, rfl, e0, e1, e2, e3, e4⟩ := five_cells9 hc
      simpa [Addr.add] using World.cell?_spot e0
    have hx : ∀ i, ∃ y : RV, i < len → RvOk y ∧ Sl W y.s y.x.data ∧ spot = none ∧ ∀ j u, (rvV y)[j]? = some u → W.cell? ⟨b, off + i * 5 + j, none⟩ = some u := fun i => by
      by_cases h1 : i < len
      · obtain ⟨cs', hc, ht⟩ := hi i (by omega)
        rw [c9Record] at hc
        obtain ⟨c0, c1, c2, c3, c4, rfl, e0, e1, e2, e3, e4⟩ := five_cells9 hc
        obtain ⟨y, ok, sl, rfl, rfl, rfl, rfl⟩ := record_read ht
        obtain rfl := hspot (by omega)
        simp only [add_none] at e0 e1 e2 e3 e4
        refine ⟨⟨y.off, y.x, c4⟩, fun _ => ⟨ok, sl, rfl, fun j u hu => ?_⟩⟩
        match j with
        | 0 => obtain rfl : _ = u := Option.some.inj hu; exact e0
        | 1 => obtain rfl : _ = u := Option.some.inj hu; exact e1
        | 2 => obtain rfl : _ = u := Option.some.inj hu; exact e2
        | 3 => obtain rfl : _ = u := Option.some.inj hu; exact e3
        | 4 => obtain rfl : _ = u := Option.some.inj hu; exact e4
        | j + 5 => cases hu
      · exact ⟨rv0, fun h => absurd h h1⟩
    obtain ⟨f, hf'⟩ := Classical.axiomOfChoice hx
    have hlen : ((List.range len).map f).length = len := by simp
    have hget : ∀ i, i < len → ((List.range len).map f).getD i rv0 = f i := fun i h1 => by simp [List.getD, h1]
    refine ⟨((List.range len).map f).map RV.rc, (List.range len).map f, rfl, ⟨fun y hy => ?_, some ⟨b, off, spot⟩, m, by rw [hlen], by rw [hlen]; exact hl, hm, fun hp => ?_⟩, fun y hy => ?_⟩
    · obtain ⟨i, hi2, rfl⟩ := List.mem_map.1 hy
      exact (hf' i (List.mem_range.1 hi2)).1
    · rw [hlen] at hp
      refine ⟨b, off, by rw [(hf' 0 hp).2.2.1], fun j u hu => ?_⟩
      have hj : j < len * 5 := by
        have := (List.getElem?_eq_some_iff.1 hu).1
        rw [cellsR_length, hlen] at this
        exact this
      have hc := (hf' (j / 5) (by omega)).2.2.2
      have e := cellsR_at ((List.range len).map f) (j / 5) (j % 5) (by rw [hlen]; omega) (by omega)
      rw [show j / 5 * 5 + j % 5 = j by omega, hu, hget _ (by omega)] at e
      rw [show off + j = off + j / 5 * 5 + j % 5 by omega]
      exact hc _ _ e.symm
    · obtain ⟨i, hi2, rfl⟩ := List.mem_map.1 hy
      exact (hf' i (List.mem_range.1 hi2)).2.1
end Go.Proofs.YtlnccofanicihaaDoor.Gf
