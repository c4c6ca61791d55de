/- What is proved here: a generation that came in as an argument. No condition. -/
import Derived.Test.YtbmlpafbdbhaiaaGreatDoorVu
import Derived.Test.YtbmlpafbdbhaiaaGreatDoorGt1
namespace Go.Proofs.YtbmlpafbdbhaiaaGreatDoor.Gf
open Go Go.Joins Go.ChangeShapes Go.WideShapes Go.ChangeAt Go.RowKit Go.Deep Go.Proofs.YtbmlpafbdbhaiaaGreatDoor.By Go.Proofs.YtbmlpafbdbhaiaaGreatDoor.Qt
set_option maxRecDepth 100000
set_option maxHeartbeats 204800000
/-- Fourteen cells are a generation. -/
def GC (w : World) (cs : List Value) (g : Ge) : Prop := ∃ s0 s1 s2 s3 s4 s5 s6 s7, cs = [.int .i64 g.num, .int .i64 g.rev, .int .i64 g.mode, .int .i64 g.size, s0, s1, s2, s3, s4, s5, s6, s7, .int .i64 g.m.live, .int .i64 g.m.garb] ∧ Ms w [s0, s1, s2, s3, s4, s5, s6, s7] g.m ∧ (J64 g.num ∧ J64 g.rev ∧ J64 g.mode ∧ J64 g.size)
theorem j64_wf {n : Int} (h : (Lit.int .i64 n).wf = true) : J64 n := by
 simp [Lit.wf, IntKind.min, IntKind.max, IntKind.signed, IntKind.bits] at h
 unfold J64; omega
theorem cellsU64 : Tryz.prog.cellsOf 53 = 1 := by kernel_rfl
theorem cellsU32 : Tryz.prog.cellsOf 54 = 1 := by kernel_rfl
theorem cellsI64 : Tryz.prog.cellsOf 2 = 1 := by kernel_rfl
theorem cellsInt : Tryz.prog.cellsOf 3 = 1 := by kernel_rfl
theorem cellsItem : Tryz.prog.cellsOf 56 = 4 := by kernel_rfl
theorem four_cells13 {W : World} {base : Nat} {a : Addr} {cs : List Value} (h : W.cells? base a 4 = some cs) : ∃ c0 c1 c2 c3, cs = [c0, c1, c2, c3] ∧ W.cell? a = some c0 ∧ W.cell? (a.add 1) = some c1 ∧ W.cell? (a.add 2) = some c2 ∧ W.cell? (a.add 3) = some c3 := by
 obtain ⟨_, hl, hat⟩ := World.cells?_some h
 match cs, hl with
 | [c0, c1, c2, c3], _ =>
  exact ⟨c0, c1, c2, c3, rfl, by simpa [Addr.add] using hat 0 (by decide), hat 1 (by decide), hat 2 (by decide), hat 3 (by decide)⟩
/-- An item that was read. -/
theorem item_read {H : Type} {enc : TypeId × Value → H} {W : World} {base : Nat} {sp : Nat → Bool} {hd : Bool} {n : Nat} {c0 c1 c2 c3 : Value} {y : DataW H × List MemPlace} (h : DataW.trod enc Tryz.prog W base sp hd n 56 [c0, c1, c2, c3] = some y) :
 ∃ x : Itm, ItOk x ∧ c0 = .int .u64 (x.key : Int) ∧ c1 = .int .u32 (x.ck : Int) ∧ c2 = .int .i64 x.off ∧ c3 = .int .i64 x.sz := by
 obtain ⟨ys, m, _, _, _, hl, hf⟩ := DataW.trod_struct Tryz.underlying56 h
 have h0 : DataW.trod enc Tryz.prog W base sp hd m 53 (([c0, c1, c2, c3].drop 0).take (Tryz.prog.cellsOf 53)) = ys[0]? := hf 0 _ rfl
 have h1 : DataW.trod enc Tryz.prog W base sp hd m 54 (([c0, c1, c2, c3].drop 1).take (Tryz.prog.cellsOf 54)) = ys[1]? := hf 1 _ rfl
 have h2 : DataW.trod enc Tryz.prog W base sp hd m 2 (([c0, c1, c2, c3].drop 2).take (Tryz.prog.cellsOf 2)) = ys[2]? := hf 2 _ rfl
 have h3 : DataW.trod enc Tryz.prog W base sp hd m 3 (([c0, c1, c2, c3].drop 3).take (Tryz.prog.cellsOf 3)) = ys[3]? := hf 3 _ rfl
 match ys, hl with
 | [y0, y1, y2, y3], _ =>
  rw [cellsU64] at h0
  rw [cellsU32] at h1
  rw [cellsI64] at h2
  rw [cellsInt] at h3
  obtain ⟨k, hk, _, wk⟩ := DataW.trod_int Tryz.underlying53 (show DataW.trod enc Tryz.prog W base sp hd m 53 [c0] = some y0 from h0)
  obtain ⟨c, hc, _, wc⟩ := DataW.trod_int Tryz.underlying54 (show DataW.trod enc Tryz.prog W base sp hd m 54 [c1] = some y1 from h1)
  obtain ⟨o, ho, _, wo⟩ := DataW.trod_int Tryz.underlying2 (show DataW.trod enc Tryz.prog W base sp hd m 2 [c2] = some y2 from h2)
  obtain ⟨z, hz, _, wz⟩ := DataW.trod_int Tryz.underlying3 (show DataW.trod enc Tryz.prog W base sp hd m 3 [c3] = some y3 from h3)
  obtain rfl : c0 = .int .u64 k := by simpa using hk
  obtain rfl : c1 = .int .u32 c := by simpa using hc
  obtain rfl : c2 = .int .i64 o := by simpa using ho
  obtain rfl : c3 = .int .i64 z := by simpa using hz
  have jo := j64_wf wo
  have jz := j64_wf wz
  simp [Lit.wf, IntKind.min, IntKind.max, IntKind.signed, IntKind.bits] at wk wc
  exact ⟨⟨k.toNat, c.toNat, o, z⟩, ⟨by show k.toNat < _; omega, by show c.toNat < _; omega, jo, jz⟩, by rw [Int.toNat_of_nonneg (by omega)], by rw [Int.toNat_of_nonneg (by omega)], rfl, rfl⟩
/-- A slot that was read as a slice of items. -/
theorem it_read {H : Type} {enc : TypeId × Value → H} {W : World} {fuel : Nat} {c : Value} {y : DataW H × List MemPlace} (hf : DataW.trod enc Tryz.prog W 0 (fun _ => true) true fuel 38 [c] = some y) : ∃ L, It W c L := by
 rcases open_slice Tryz.underlying38 hf with ⟨hcs, _⟩ | ⟨x, len, cap, m, n, D, Pl, hcs, _, hl, hm, hmm, -, hi⟩
 ·obtain rfl : c = _ := by simpa using hcs

  exact ⟨[], it_nil W⟩
 ·obtain rfl : c = _ := by simpa using hcs
  have hmc : m = cap := by simpa using hmm
  subst hmc
  obtain ⟨b, off, spot⟩ := x
  have hspot : 0 < len → spot = none := fun h0 => by
   obtain ⟨cs', hc, ht⟩ := hi 0 (by omega)
   rw [cellsItem] at hc
   obtain ⟨c0, c1, c2, c3, rfl, e0, e1, e2, e3⟩ := four_cells13 hc
   simpa [Addr.add] using World.cell?_spot e0
  have hx : ∀ i, ∃ y : Itm, i < len → ItOk y ∧ spot = none ∧ C4 W b (off + i * 4) y := fun i => by
   by_cases h1 : i < len
   ·obtain ⟨cs', hc, ht⟩ := hi i (by omega)
    rw [cellsItem] at hc
    obtain ⟨c0, c1, c2, c3, rfl, e0, e1, e2, e3⟩ := four_cells13 hc
    obtain ⟨y, oky, rfl, rfl, rfl, rfl⟩ := item_read ht
    obtain rfl := hspot (by omega)
    simp only [add_none] at e0 e1 e2 e3
    exact ⟨y, fun _ => ⟨oky, rfl, e0, e1, e2, e3⟩⟩
   ·exact ⟨z0, fun h => absurd h h1⟩
  obtain ⟨f, hf'⟩ := Classical.axiomOfChoice hx
  have hlen : ((List.range len).map f).length = len := by simp
  have hget : ∀ i, i < len → ((List.range len).map f).getD i z0 = f i := fun i h1 => by simp [List.getD, h1]
  refine ⟨(List.range len).map f, fun y hy => ?_, some ⟨b, off, spot⟩, m, by rw [hlen], by rw [hlen]; exact hl, hm, fun hp => ?_⟩
  ·obtain ⟨i, hi2, rfl⟩ := List.mem_map.1 hy
   exact (hf' i (List.mem_range.1 hi2)).1
  ·rw [hlen] at hp
   refine ⟨b, off, by rw [(hf' 0 hp).2.1], fun j u hu => ?_⟩
   have hj : j < len * 4 := by
    have := (List.getElem?_eq_some_iff.1 hu).1
    rw [cellsT_length, hlen] at this
    exact this
   have hc := (hf' (j / 4) (by omega)).2.2
   have e := cellsT_at ((List.range len).map f) (j / 4) (j % 4) (by rw [hlen]; omega) (by omega)
   rw [show j / 4 * 4 + j % 4 = j by omega, hu, hget _ (by omega)] at e
   rw [show off + j = off + j / 4 * 4 + j % 4 by omega]
   obtain ⟨e0, e1, e2, e3⟩ := hc
   have hr : j % 4 = 0 ∨ j % 4 = 1 ∨ j % 4 = 2 ∨ j % 4 = 3 := by omega
   rcases hr with hr | hr | hr | hr
   all_goals
    rw [hr] at e ⊢
    have e' : u = _ := Option.some.inj e
    subst e'
    first | exact e0 | exact e1 | exact e2 | exact e3
theorem cells_map : Tryz.prog.cellsOf 41 = 10 := by kernel_rfl
theorem cells_st : Tryz.prog.cellsOf 39 = 8 := by kernel_rfl
theorem cells_its : Tryz.prog.cellsOf 38 = 1 := by kernel_rfl
theorem cells_i64m : Tryz.prog.cellsOf 2 = 1 := by kernel_rfl
theorem mp_read {H : Type} {enc : TypeId × Value → H} {W : World} {fuel : Nat} {c0 c1 c2 c3 c4 c5 c6 c7 c8 c9 : Value} {y : DataW H × List MemPlace} (hf : DataW.trod enc Tryz.prog W 0 (fun _ => true) true fuel 41 [c0, c1, c2, c3, c4, c5, c6, c7, c8, c9] = some y) : ∃ m : Mp, Ms W [c0, c1, c2, c3, c4, c5, c6, c7] m ∧ c8 = .int .i64 m.live ∧ c9 = .int .i64 m.garb := by
 obtain ⟨ys, m, _, _, _, hl, hfl⟩ := DataW.trod_struct Tryz.underlying41 hf
 have h0 : DataW.trod enc Tryz.prog W 0 (fun _ => true) true m 39 (([c0, c1, c2, c3, c4, c5, c6, c7, c8, c9].drop 0).take (Tryz.prog.cellsOf 39)) = ys[0]? := hfl 0 _ rfl
 have h1 : DataW.trod enc Tryz.prog W 0 (fun _ => true) true m 2 (([c0, c1, c2, c3, c4, c5, c6, c7, c8, c9].drop 8).take (Tryz.prog.cellsOf 2)) = ys[1]? := hfl 1 _ rfl
 have h2 : DataW.trod enc Tryz.prog W 0 (fun _ => true) true m 2 (([c0, c1, c2, c3, c4, c5, c6, c7, c8, c9].drop 9).take (Tryz.prog.cellsOf 2)) = ys[2]? := hfl 2 _ rfl
 rw [cells_st] at h0
 rw [cells_i64m] at h1 h2
 have hl3 : ys.length = 3 := hl
 match ys, hl3 with
 | [y0, y1, y2], _ =>
  have h0 : DataW.trod enc Tryz.prog W 0 (fun _ => true) true m 39 [c0, c1, c2, c3, c4, c5, c6, c7] = some y0 := h0
  obtain ⟨o, ho, _, wo⟩ := DataW.trod_int Tryz.underlying2 (show DataW.trod enc Tryz.prog W 0 (fun _ => true) true m 2 [c8] = some y1 from h1)
  obtain ⟨z, hz, _, wz⟩ := DataW.trod_int Tryz.underlying2 (show DataW.trod enc Tryz.prog W 0 (fun _ => true) true m 2 [c9] = some y2 from h2)
  obtain rfl : c8 = .int .i64 o := by simpa using ho
  obtain rfl : c9 = .int .i64 z := by simpa using hz
  obtain ⟨xs, m2, _, _, _, hx, ha⟩ := DataW.trod_array Tryz.underlying39 h0
  rw [cells_its] at ha
  have hk : ∀ (i : Nat) (c : Value), i < 8 → ([c0, c1, c2, c3, c4, c5, c6, c7].drop (i * 1)).take 1 = [c] → ∃ L, It W c L := fun i c hi hc => by
   have h3 := ha i hi
   have h4 : DataW.trod enc Tryz.prog W 0 (fun _ => true) true m2 38 (([c0, c1, c2, c3, c4, c5, c6, c7].drop (i * 1)).take 1) = xs[i]? := h3
   rw [hc, List.getElem?_eq_getElem (by omega)] at h4
   exact it_read h4
  obtain ⟨L0, s0⟩ := hk 0 c0 (by decide) rfl
  obtain ⟨L1, s1⟩ := hk 1 c1 (by decide) rfl
  obtain ⟨L2, s2⟩ := hk 2 c2 (by decide) rfl
  obtain ⟨L3, s3⟩ := hk 3 c3 (by decide) rfl
  obtain ⟨L4, s4⟩ := hk 4 c4 (by decide) rfl
  obtain ⟨L5, s5⟩ := hk 5 c5 (by decide) rfl
  obtain ⟨L6, s6⟩ := hk 6 c6 (by decide) rfl
  obtain ⟨L7, s7⟩ := hk 7 c7 (by decide) rfl
  refine ⟨⟨[L0, L1, L2, L3, L4, L5, L6, L7], o, z⟩, ⟨rfl, j64_wf wo, j64_wf wz, fun k hk8 => ?_⟩, rfl, rfl⟩
  have hc : k = 0 ∨ k = 1 ∨ k = 2 ∨ k = 3 ∨ k = 4 ∨ k = 5 ∨ k = 6 ∨ k = 7 := by omega
  rcases hc with rfl | rfl | rfl | rfl | rfl | rfl | rfl | rfl
  ·obtain ⟨a, q, he, -, -⟩ := it_form s0
   refine ⟨a, q, congrArg some he, ?_⟩
   rw [he] at s0
   exact s0
  ·obtain ⟨a, q, he, -, -⟩ := it_form s1
   refine ⟨a, q, congrArg some he, ?_⟩
   rw [he] at s1
   exact s1
  ·obtain ⟨a, q, he, -, -⟩ := it_form s2
   refine ⟨a, q, congrArg some he, ?_⟩
   rw [he] at s2
   exact s2
  ·obtain ⟨a, q, he, -, -⟩ := it_form s3
   refine ⟨a, q, congrArg some he, ?_⟩
   rw [he] at s3
   exact s3
  ·obtain ⟨a, q, he, -, -⟩ := it_form s4
   refine ⟨a, q, congrArg some he, ?_⟩
   rw [he] at s4
   exact s4
  ·obtain ⟨a, q, he, -, -⟩ := it_form s5
   refine ⟨a, q, congrArg some he, ?_⟩
   rw [he] at s5
   exact s5
  ·obtain ⟨a, q, he, -, -⟩ := it_form s6
   refine ⟨a, q, congrArg some he, ?_⟩
   rw [he] at s6
   exact s6
  ·obtain ⟨a, q, he, -, -⟩ := it_form s7
   refine ⟨a, q, congrArg some he, ?_⟩
   rw [he] at s7
   exact s7
theorem fourteen_list {α : Type} {l : List α} (h : l.length = 14) : ∃ c0 c1 c2 c3 c4 c5 c6 c7 c8 c9 c10 c11 c12 c13, l = [c0, c1, c2, c3, c4, c5, c6, c7, c8, c9, c10, c11, c12, c13] := by
 match l, h with
 | [c0, c1, c2, c3, c4, c5, c6, c7, c8, c9, c10, c11, c12, c13], _ => exact ⟨c0, c1, c2, c3, c4, c5, c6, c7, c8, c9, c10, c11, c12, c13, rfl⟩
theorem cells_gen : Tryz.prog.cellsOf 43 = 14 := by kernel_rfl
theorem cells_int13 : Tryz.prog.cellsOf 3 = 1 := by kernel_rfl
theorem gc_read {H : Type} {enc : TypeId × Value → H} {W : World} {fuel : Nat} {cs : List Value} {y : DataW H × List MemPlace} (hl14 : cs.length = 14) (hf : DataW.trod enc Tryz.prog W 0 (fun _ => true) true fuel 43 cs = some y) : ∃ g, GC W cs g := by
 obtain ⟨c0, c1, c2, c3, c4, c5, c6, c7, c8, c9, c10, c11, c12, c13, rfl⟩ := fourteen_list hl14
 obtain ⟨ys, m, _, _, _, hl, hfl⟩ := DataW.trod_struct Tryz.underlying43 hf
 have h0 : DataW.trod enc Tryz.prog W 0 (fun _ => true) true m 3 (([c0, c1, c2, c3, c4, c5, c6, c7, c8, c9, c10, c11, c12, c13].drop 0).take (Tryz.prog.cellsOf 3)) = ys[0]? := hfl 0 _ rfl
 have h1 : DataW.trod enc Tryz.prog W 0 (fun _ => true) true m 2 (([c0, c1, c2, c3, c4, c5, c6, c7, c8, c9, c10, c11, c12, c13].drop 1).take (Tryz.prog.cellsOf 2)) = ys[1]? := hfl 1 _ rfl
 have h2 : DataW.trod enc Tryz.prog W 0 (fun _ => true) true m 3 (([c0, c1, c2, c3, c4, c5, c6, c7, c8, c9, c10, c11, c12, c13].drop 2).take (Tryz.prog.cellsOf 3)) = ys[2]? := hfl 2 _ rfl
 have h3 : DataW.trod enc Tryz.prog W 0 (fun _ => true) true m 2 (([c0, c1, c2, c3, c4, c5, c6, c7, c8, c9, c10, c11, c12, c13].drop 3).take (Tryz.prog.cellsOf 2)) = ys[3]? := hfl 3 _ rfl
 have h4 : DataW.trod enc Tryz.prog W 0 (fun _ => true) true m 41 (([c0, c1, c2, c3, c4, c5, c6, c7, c8, c9, c10, c11, c12, c13].drop 4).take (Tryz.prog.cellsOf 41)) = ys[4]? := hfl 4 _ rfl
 rw [cells_int13] at h0 h2
 rw [cells_i64m] at h1 h3
 rw [cells_map] at h4
 have hl5 : ys.length = 5 := hl
 match ys, hl5 with
 | [y0, y1, y2, y3, y4], _ =>
  obtain ⟨x0, e0, _, w0⟩ := DataW.trod_int Tryz.underlying3 (show DataW.trod enc Tryz.prog W 0 (fun _ => true) true m 3 [c0] = some y0 from h0)
  obtain ⟨x1, e1, _, w1⟩ := DataW.trod_int Tryz.underlying2 (show DataW.trod enc Tryz.prog W 0 (fun _ => true) true m 2 [c1] = some y1 from h1)
  obtain ⟨x2, e2, _, w2⟩ := DataW.trod_int Tryz.underlying3 (show DataW.trod enc Tryz.prog W 0 (fun _ => true) true m 3 [c2] = some y2 from h2)
  obtain ⟨x3, e3, _, w3⟩ := DataW.trod_int Tryz.underlying2 (show DataW.trod enc Tryz.prog W 0 (fun _ => true) true m 2 [c3] = some y3 from h3)
  obtain rfl : c0 = .int .i64 x0 := by simpa using e0
  obtain rfl : c1 = .int .i64 x1 := by simpa using e1
  obtain rfl : c2 = .int .i64 x2 := by simpa using e2
  obtain rfl : c3 = .int .i64 x3 := by simpa using e3
  obtain ⟨mm, hm, rfl, rfl⟩ := mp_read (show DataW.trod enc Tryz.prog W 0 (fun _ => true) true m 41 [c4, c5, c6, c7, c8, c9, c10, c11, c12, c13] = some y4 from h4)
  exact ⟨⟨x0, x1, x2, x3, mm⟩, c4, c5, c6, c7, c8, c9, c10, c11, rfl, hm, j64_wf w0, j64_wf w1, j64_wf w2, j64_wf w3⟩
/-- A generation that came in as an argument. -/
theorem gv_open {H : Type} {enc : TypeId × Value → H} {W : World} {base : Nat} {v : Value} {d : DataW H} {p : List MemPlace} (hv : Value.okWide Tryz.prog W .any base 43 v) (h : DataW.Trod enc Tryz.prog W 0 (fun _ => true) true 43 v d p) : ∃ g, Gv W v g := by
 obtain ⟨cs, rfl, hsz⟩ := okWide_struct Tryz.underlying43 hv
 obtain ⟨fuel, hf⟩ := h
 rw [cells_gen] at hsz
 obtain ⟨l⟩ := cs
 have hl : l.length = 14 := by simpa using hsz
 obtain ⟨g, hg⟩ := gc_read hl (show DataW.trod enc Tryz.prog W 0 (fun _ => true) true fuel 43 l = some _ from hf)
 obtain ⟨s0, s1, s2, s3, s4, s5, s6, s7, rfl, hm, hj⟩ := hg
 exact ⟨g, s0, s1, s2, s3, s4, s5, s6, s7, rfl, hm, hj⟩
end Go.Proofs.YtbmlpafbdbhaiaaGreatDoor.Gf
