/- What is proved here: the program's Valid of a generation, for every generation with few items. -/
import Derived.Test.YtbmlpafbdbhaiaaGreatDoorGs4
import Derived.Test.YtbmlpafbdbhaiaaGreatDoorVq
namespace Go.Proofs.YtbmlpafbdbhaiaaGreatDoor.Gf
open Go Go.Joins Go.ChangeShapes Go.WideShapes Go.ChangeAt Go.RowKit Go.Deep Go.Proofs.YtbmlpafbdbhaiaaGreatDoor.By Go.Proofs.YtbmlpafbdbhaiaaGreatDoor.Qt
set_option maxRecDepth 100000
set_option maxHeartbeats 204800000

theorem bx14 {w : World} {g : Nat} {c0 c1 c2 c3 c4 c5 c6 c7 c8 c9 c10 c11 c12 c13 : Value} {T : TypeId} {fr : Nat × Nat} (h : w.heap[g]? = some (.cells #[c0, c1, c2, c3, c4, c5, c6, c7, c8, c9, c10, c11, c12, c13] T fr)) : w.cell? ⟨g, 0, none⟩ = some c0 ∧ w.cell? ⟨g, 1, none⟩ = some c1 ∧ w.cell? ⟨g, 2, none⟩ = some c2 ∧ w.cell? ⟨g, 3, none⟩ = some c3 ∧ w.cell? ⟨g, 4, none⟩ = some c4 ∧ w.cell? ⟨g, 5, none⟩ = some c5 ∧ w.cell? ⟨g, 6, none⟩ = some c6 ∧ w.cell? ⟨g, 7, none⟩ = some c7 ∧ w.cell? ⟨g, 8, none⟩ = some c8 ∧ w.cell? ⟨g, 9, none⟩ = some c9 ∧ w.cell? ⟨g, 10, none⟩ = some c10 ∧ w.cell? ⟨g, 11, none⟩ = some c11 ∧ w.cell? ⟨g, 12, none⟩ = some c12 ∧ w.cell? ⟨g, 13, none⟩ = some c13 := by
 refine ⟨?_, ?_, ?_, ?_, ?_, ?_, ?_, ?_, ?_, ?_, ?_, ?_, ?_, ?_⟩ <;> rw [cell_of_row w g _ _ _ _ h] <;> rfl
theorem pvalidNumber_any (n : Int) (w : World) : Calls Tryz.prog 47 #[.int .i64 n] w fun e w' => e = .returned (.bool (decide (1 ≤ n ∧ n ≤ 8))) ∧ w = w' := by
 rcases Classical.em (1 ≤ n) with h1 | h1
 ·rcases Classical.em (n ≤ 8) with h2 | h2
  ·rw [decide_eq_true (And.intro h1 h2)]
   have d1 := decide_eq_true h1
   have d2 := decide_eq_true h2
   go_enter Tryz.func47, Tryz.ntmps47
   go_wp2
   go_ret
   exact ⟨rfl, rfl⟩
  ·rw [decide_eq_false (fun h => h2 h.2)]
   have d1 := decide_eq_true h1
   have d2 := decide_eq_false h2
   go_enter Tryz.func47, Tryz.ntmps47
   go_wp2
   go_ret
   exact ⟨rfl, rfl⟩
 ·rw [decide_eq_false (fun h => h1 h.1)]
  have d1 := decide_eq_false h1
  go_enter Tryz.func47, Tryz.ntmps47
  go_wp2
  go_ret
  exact ⟨rfl, rfl⟩
theorem ge_sum {m : Mp} (hn : m.st.flatten.length ≤ 1000) (h : okM m) : IntKind.i64.wrap (16 + m.live) = 16 + m.live ∧ IntKind.i64.wrap (16 + m.live + m.garb) = 16 + m.live + m.garb := by
 have h1 := byT_bd m.st.flatten
 rw [← h.live] at h1
 have h2 := h.lo
 have h3 := h.hi
 exact ⟨IntWalk.i64_in _ (by omega), IntWalk.i64_in _ (by omega)⟩
theorem il_len {m : Mp} (_hf : Few m) (hn : m.st.flatten.length ≤ 1000) (_h : okM m) (_hl : m.st.length = 8) : (iL m).length ≤ 10000 := by
 have h1 : (iL m).length ≤ m.st.flatten.length := length_sortL m.st.flatten
 omega
/-- A generation in memory: a value of fourteen cells. -/
def Gv (w : World) (v : Value) (g : Ge) : Prop := ∃ s0 s1 s2 s3 s4 s5 s6 s7, v = .agg #[.int .i64 g.num, .int .i64 g.rev, .int .i64 g.mode, .int .i64 g.size, s0, s1, s2, s3, s4, s5, s6, s7, .int .i64 g.m.live, .int .i64 g.m.garb] ∧ Ms w [s0, s1, s2, s3, s4, s5, s6, s7] g.m ∧ (J64 g.num ∧ J64 g.rev ∧ J64 g.mode ∧ J64 g.size)
theorem pgvalid_x (s0 s1 s2 s3 s4 s5 s6 s7 : Value) (nm rv md sz : Int) (m : Mp) (w : World) (hms : Ms w [s0, s1, s2, s3, s4, s5, s6, s7] m) (hj : J64 sz) (hf : Few m) (hn : m.st.flatten.length ≤ 1000) : Calls Tryz.prog 18 #[.agg #[.int .i64 nm, .int .i64 rv, .int .i64 md, .int .i64 sz, s0, s1, s2, s3, s4, s5, s6, s7, .int .i64 m.live, .int .i64 m.garb]] w fun e w' => e = .returned (.bool (okGb ⟨nm, rv, md, sz, m⟩)) ∧ Below w.heap.size w w' := by
 have HF := Lh hf
 have HN8 := Lh hn
 have HL8 := Lh hms.1
 have HJ := Lh hj
 have B0 := Lh (bel_al w (.cells #[.int .i64 nm, .int .i64 rv, .int .i64 md, .int .i64 sz, s0, s1, s2, s3, s4, s5, s6, s7, .int .i64 m.live, .int .i64 m.garb] 50))
 have HG := Lh (heap_alloc_new w (.cells #[.int .i64 nm, .int .i64 rv, .int .i64 md, .int .i64 sz, s0, s1, s2, s3, s4, s5, s6, s7, .int .i64 m.live, .int .i64 m.garb] 50))
 have MS := Lh (ms_below hms B0.out)
 have PVM := Lh (fun W (h : Ms W [s0, s1, s2, s3, s4, s5, s6, s7] m) => pvalid11_any (.agg #[s0, s1, s2, s3, s4, s5, s6, s7, .int .i64 m.live, .int .i64 m.garb]) m W ⟨s0, s1, s2, s3, s4, s5, s6, s7, rfl, h⟩ hf)
 have PI := Lh (fun W (h : Ms W [s0, s1, s2, s3, s4, s5, s6, s7] m) => pitems11_any (.agg #[s0, s1, s2, s3, s4, s5, s6, s7, .int .i64 m.live, .int .i64 m.garb]) m W ⟨s0, s1, s2, s3, s4, s5, s6, s7, rfl, h⟩ hf hn)
 clear hms hf hn hj
 go_enter Tryz.func18, Tryz.ntmps18
 go_upto_region 1 with fail
 generalize w.alloc (.cells #[.int .i64 nm, .int .i64 rv, .int .i64 md, .int .i64 sz, s0, s1, s2, s3, s4, s5, s6, s7, .int .i64 m.live, .int .i64 m.garb] 50) = W0 at *
 refine wp_onlyN ?_
 refine wp_region_headsS (fun W' => Below W0.heap.size W0 W') [0, 1] 64 (by kernel_rfl) (fun _ _ _ _ _ h => h.elim) (by kernel_rfl) (by rfl) (by rfl) (Below.refl W0.heap.size W0).drew ?_
 simp only [pickOps, List.filterMap_cons, List.filterMap_nil, List.getElem?_toArray]
 refine wpHeads_step (fun K hK => ?_)
 go_simp
 refine ⟨_, fun _ _ => rfl, hK _ ?_⟩
 clear hK K
 refine wpHeads_step (fun K hK => ?_)
 go_simp
 refine ⟨.int .i64 nm, fun w' hw' => by
  obtain ⟨x0, x1, x2, x3, x4, x5, x6, x7, x8, x9, x10, x11, x12, x13⟩ := bx14 ((hw'.block _ (lt_of_some HG.out)).trans HG.out)
  go_simp, hK _ ?_⟩
 clear hK K
 refine wpHeads_nil ?_
 have SD := Lh (Below.refl W0.heap.size W0).drew
 generalize W0.drew = WD at *
 rcases Classical.em (¬ (1 ≤ nm ∧ nm ≤ 8)) with h1 | h1
 ·have HNO := Lh (okGb_f (g := ⟨nm, rv, md, sz, m⟩) (fun h => h1 ⟨h.hd.n1, h.hd.n8⟩))
  have PN := fun W => pvalidNumber_any nm W
  rw [decide_eq_false h1] at PN
  clear h1
  refine gwq 2 fun K hK => ?_
  go_simp
  go_at_call 47
  refine (PN WD).mono ?_
  rintro e V1 ⟨rfl, rfl⟩
  refine hK _ _ SD.out ?_
  clear hK K
  clear PN
  refine gwq 3 fun K hK => ?_
  go_simp
  refine hK _ _ SD.out ?_
  clear hK K
  refine tkn 4 SD.out ?_
  refine tkn 5 SD.out ?_
  refine tkn 6 SD.out ?_
  refine gwq 7 fun K hK => ?_
  go_simp
  refine hK _ _ SD.out ?_
  clear hK K
  refine gwq 8 fun K hK => ?_
  go_simp
  refine hK _ _ SD.out ?_
  clear hK K
  refine tkn 9 SD.out ?_
  refine tkn 10 SD.out ?_
  refine tkn 11 SD.out ?_
  refine gwq 12 fun K hK => ?_
  go_simp
  refine hK _ _ SD.out ?_
  clear hK K
  refine gwq 13 fun K hK => ?_
  go_simp
  refine hK _ _ SD.out ?_
  clear hK K
  refine tkn 14 SD.out ?_
  refine tkn 15 SD.out ?_
  refine tkn 16 SD.out ?_
  refine gwq 17 fun K hK => ?_
  go_simp
  refine hK _ _ SD.out ?_
  clear hK K
  refine gwq 18 fun K hK => ?_
  go_simp
  refine hK _ _ SD.out ?_
  clear hK K
  refine tkn 19 SD.out ?_
  refine tkn 20 SD.out ?_
  refine tkn 21 SD.out ?_
  refine gwq 22 fun K hK => ?_
  go_simp
  refine hK _ _ SD.out ?_
  clear hK K
  refine gwq 23 fun K hK => ?_
  go_simp
  refine hK _ _ SD.out ?_
  clear hK K
  refine tkn 24 SD.out ?_
  refine tkn 25 SD.out ?_
  refine tkn 26 SD.out ?_
  refine gwq 27 fun K hK => ?_
  go_simp
  refine hK _ _ SD.out ?_
  clear hK K
  refine gwq 28 fun K hK => ?_
  go_simp
  refine hK _ _ SD.out ?_
  clear hK K
  refine tkn 29 SD.out ?_
  refine tkn 30 SD.out ?_
  refine tkn 31 SD.out ?_
  refine gwq 32 fun K hK => ?_
  go_simp
  refine hK _ _ SD.out ?_
  clear hK K
  refine gwq 33 fun K hK => ?_
  go_simp
  refine hK _ _ SD.out ?_
  clear hK K
  refine tkn 34 SD.out ?_
  refine tkn 35 SD.out ?_
  refine tkn 36 SD.out ?_
  refine tkn 37 SD.out ?_
  refine gwq 38 fun K hK => ?_
  go_simp
  refine hK _ _ SD.out ?_
  clear hK K
  refine gwq 39 fun K hK => ?_
  go_simp
  refine hK _ _ SD.out ?_
  clear hK K
  refine tkn 40 SD.out ?_
  refine tkn 41 SD.out ?_
  refine tkn 42 SD.out ?_
  refine gwq 43 fun K hK => ?_
  go_simp
  refine hK _ _ SD.out ?_
  clear hK K
  refine gwq 44 fun K hK => ?_
  go_simp
  refine hK _ _ SD.out ?_
  clear hK K
  refine tkn 45 SD.out ?_
  refine tkn 46 SD.out ?_
  refine tkn 47 SD.out ?_
  refine tkn 48 SD.out ?_
  refine tkn 49 SD.out ?_
  refine tkn 50 SD.out ?_
  refine tkn 51 SD.out ?_
  refine tkn 52 SD.out ?_
  refine tkn 53 SD.out ?_
  refine tkn 54 SD.out ?_
  refine tkn 55 SD.out ?_
  refine gwq 56 fun K hK => ?_
  go_simp
  refine hK _ _ SD.out ?_
  clear hK K
  refine gwq 57 fun K hK => ?_
  go_simp
  refine hK _ _ SD.out ?_
  clear hK K
  refine tkn 58 SD.out ?_
  refine tkn 59 SD.out ?_
  refine tkn 60 SD.out ?_
  refine tkn 61 SD.out ?_
  refine tkn 62 SD.out ?_
  refine tkn 63 SD.out ?_
  refine gwq 64 fun K hK => ?_
  go_simp
  refine hK _ _ SD.out ?_
  clear hK K
  refine gwq 65 fun K hK => ?_
  go_simp
  refine hK _ _ SD.out ?_
  clear hK K
  refine wpAnyH_done (by kernel_rfl) ?_ _
  unfold onlyN
  dsimp only
  go_wp2
  go_ret
  exact ⟨by rw [HNO.out]; rfl, B0.out.trans (SD.out.mono B0.out.size)⟩
 have C1 := Lh (Classical.not_not.1 h1)
 have PN := fun W => pvalidNumber_any nm W
 rw [decide_eq_true C1.out] at PN
 clear h1
 refine gwq 2 fun K hK => ?_
 go_simp
 go_at_call 47
 refine (PN WD).mono ?_
 rintro e V1 ⟨rfl, rfl⟩
 refine hK _ _ SD.out ?_
 clear hK K
 clear PN
 obtain ⟨x0, x1, x2, x3, x4, x5, x6, x7, x8, x9, x10, x11, x12, x13⟩ := bx14 ((SD.out.block _ (lt_of_some HG.out)).trans HG.out)
 refine gwq 3 fun K hK => ?_
 go_simp
 refine hK _ _ SD.out ?_
 clear hK K
 rcases Classical.em (¬ (0 ≤ rv)) with h1 | h1
 ·have HNO := Lh (okGb_f (g := ⟨nm, rv, md, sz, m⟩) (fun h => h1 h.hd.r0))
  have d1 : decide (0 ≤ rv) = false := decide_eq_false h1
  clear h1
  refine gwq 4 fun K hK => ?_
  go_simp
  refine hK _ _ SD.out ?_
  clear hK K
  refine gwq 5 fun K hK => ?_
  go_simp
  refine hK _ _ SD.out ?_
  clear hK K
  refine gwq 6 fun K hK => ?_
  go_simp
  refine hK _ _ SD.out ?_
  clear hK K
  clear d1
  clear x0 x1 x2 x3 x4 x5 x6 x7 x8 x9 x10 x11 x12 x13
  refine gwq 7 fun K hK => ?_
  go_simp
  refine hK _ _ SD.out ?_
  clear hK K
  refine gwq 8 fun K hK => ?_
  go_simp
  refine hK _ _ SD.out ?_
  clear hK K
  refine tkn 9 SD.out ?_
  refine tkn 10 SD.out ?_
  refine tkn 11 SD.out ?_
  refine gwq 12 fun K hK => ?_
  go_simp
  refine hK _ _ SD.out ?_
  clear hK K
  refine gwq 13 fun K hK => ?_
  go_simp
  refine hK _ _ SD.out ?_
  clear hK K
  refine tkn 14 SD.out ?_
  refine tkn 15 SD.out ?_
  refine tkn 16 SD.out ?_
  refine gwq 17 fun K hK => ?_
  go_simp
  refine hK _ _ SD.out ?_
  clear hK K
  refine gwq 18 fun K hK => ?_
  go_simp
  refine hK _ _ SD.out ?_
  clear hK K
  refine tkn 19 SD.out ?_
  refine tkn 20 SD.out ?_
  refine tkn 21 SD.out ?_
  refine gwq 22 fun K hK => ?_
  go_simp
  refine hK _ _ SD.out ?_
  clear hK K
  refine gwq 23 fun K hK => ?_
  go_simp
  refine hK _ _ SD.out ?_
  clear hK K
  refine tkn 24 SD.out ?_
  refine tkn 25 SD.out ?_
  refine tkn 26 SD.out ?_
  refine gwq 27 fun K hK => ?_
  go_simp
  refine hK _ _ SD.out ?_
  clear hK K
  refine gwq 28 fun K hK => ?_
  go_simp
  refine hK _ _ SD.out ?_
  clear hK K
  refine tkn 29 SD.out ?_
  refine tkn 30 SD.out ?_
  refine tkn 31 SD.out ?_
  refine gwq 32 fun K hK => ?_
  go_simp
  refine hK _ _ SD.out ?_
  clear hK K
  refine gwq 33 fun K hK => ?_
  go_simp
  refine hK _ _ SD.out ?_
  clear hK K
  refine tkn 34 SD.out ?_
  refine tkn 35 SD.out ?_
  refine tkn 36 SD.out ?_
  refine tkn 37 SD.out ?_
  refine gwq 38 fun K hK => ?_
  go_simp
  refine hK _ _ SD.out ?_
  clear hK K
  refine gwq 39 fun K hK => ?_
  go_simp
  refine hK _ _ SD.out ?_
  clear hK K
  refine tkn 40 SD.out ?_
  refine tkn 41 SD.out ?_
  refine tkn 42 SD.out ?_
  refine gwq 43 fun K hK => ?_
  go_simp
  refine hK _ _ SD.out ?_
  clear hK K
  refine gwq 44 fun K hK => ?_
  go_simp
  refine hK _ _ SD.out ?_
  clear hK K
  refine tkn 45 SD.out ?_
  refine tkn 46 SD.out ?_
  refine tkn 47 SD.out ?_
  refine tkn 48 SD.out ?_
  refine tkn 49 SD.out ?_
  refine tkn 50 SD.out ?_
  refine tkn 51 SD.out ?_
  refine tkn 52 SD.out ?_
  refine tkn 53 SD.out ?_
  refine tkn 54 SD.out ?_
  refine tkn 55 SD.out ?_
  refine gwq 56 fun K hK => ?_
  go_simp
  refine hK _ _ SD.out ?_
  clear hK K
  refine gwq 57 fun K hK => ?_
  go_simp
  refine hK _ _ SD.out ?_
  clear hK K
  refine tkn 58 SD.out ?_
  refine tkn 59 SD.out ?_
  refine tkn 60 SD.out ?_
  refine tkn 61 SD.out ?_
  refine tkn 62 SD.out ?_
  refine tkn 63 SD.out ?_
  refine gwq 64 fun K hK => ?_
  go_simp
  refine hK _ _ SD.out ?_
  clear hK K
  refine gwq 65 fun K hK => ?_
  go_simp
  refine hK _ _ SD.out ?_
  clear hK K
  refine wpAnyH_done (by kernel_rfl) ?_ _
  unfold onlyN
  dsimp only
  go_wp2
  go_ret
  exact ⟨by rw [HNO.out]; rfl, B0.out.trans (SD.out.mono B0.out.size)⟩
 have C2 := Lh (Classical.not_not.1 h1)
 have d1 : decide (0 ≤ rv) = true := decide_eq_true C2.out
 clear h1
 refine gwq 4 fun K hK => ?_
 go_simp
 refine hK _ _ SD.out ?_
 clear hK K
 refine gwq 5 fun K hK => ?_
 go_simp
 refine hK _ _ SD.out ?_
 clear hK K
 refine gwq 6 fun K hK => ?_
 go_simp
 refine hK _ _ SD.out ?_
 clear hK K
 clear d1
 refine gwq 7 fun K hK => ?_
 go_simp
 refine hK _ _ SD.out ?_
 clear hK K
 refine gwq 8 fun K hK => ?_
 go_simp
 refine hK _ _ SD.out ?_
 clear hK K
 rcases Classical.em (¬ (rv ≤ 4294967295)) with h1 | h1
 ·have HNO := Lh (okGb_f (g := ⟨nm, rv, md, sz, m⟩) (fun h => h1 h.hd.r1))
  have d1 : decide (rv ≤ 4294967295) = false := decide_eq_false h1
  clear h1
  refine gwq 9 fun K hK => ?_
  go_simp
  refine hK _ _ SD.out ?_
  clear hK K
  refine gwq 10 fun K hK => ?_
  go_simp
  refine hK _ _ SD.out ?_
  clear hK K
  refine gwq 11 fun K hK => ?_
  go_simp
  refine hK _ _ SD.out ?_
  clear hK K
  clear d1
  clear x0 x1 x2 x3 x4 x5 x6 x7 x8 x9 x10 x11 x12 x13
  refine gwq 12 fun K hK => ?_
  go_simp
  refine hK _ _ SD.out ?_
  clear hK K
  refine gwq 13 fun K hK => ?_
  go_simp
  refine hK _ _ SD.out ?_
  clear hK K
  refine tkn 14 SD.out ?_
  refine tkn 15 SD.out ?_
  refine tkn 16 SD.out ?_
  refine gwq 17 fun K hK => ?_
  go_simp
  refine hK _ _ SD.out ?_
  clear hK K
  refine gwq 18 fun K hK => ?_
  go_simp
  refine hK _ _ SD.out ?_
  clear hK K
  refine tkn 19 SD.out ?_
  refine tkn 20 SD.out ?_
  refine tkn 21 SD.out ?_
  refine gwq 22 fun K hK => ?_
  go_simp
  refine hK _ _ SD.out ?_
  clear hK K
  refine gwq 23 fun K hK => ?_
  go_simp
  refine hK _ _ SD.out ?_
  clear hK K
  refine tkn 24 SD.out ?_
  refine tkn 25 SD.out ?_
  refine tkn 26 SD.out ?_
  refine gwq 27 fun K hK => ?_
  go_simp
  refine hK _ _ SD.out ?_
  clear hK K
  refine gwq 28 fun K hK => ?_
  go_simp
  refine hK _ _ SD.out ?_
  clear hK K
  refine tkn 29 SD.out ?_
  refine tkn 30 SD.out ?_
  refine tkn 31 SD.out ?_
  refine gwq 32 fun K hK => ?_
  go_simp
  refine hK _ _ SD.out ?_
  clear hK K
  refine gwq 33 fun K hK => ?_
  go_simp
  refine hK _ _ SD.out ?_
  clear hK K
  refine tkn 34 SD.out ?_
  refine tkn 35 SD.out ?_
  refine tkn 36 SD.out ?_
  refine tkn 37 SD.out ?_
  refine gwq 38 fun K hK => ?_
  go_simp
  refine hK _ _ SD.out ?_
  clear hK K
  refine gwq 39 fun K hK => ?_
  go_simp
  refine hK _ _ SD.out ?_
  clear hK K
  refine tkn 40 SD.out ?_
  refine tkn 41 SD.out ?_
  refine tkn 42 SD.out ?_
  refine gwq 43 fun K hK => ?_
  go_simp
  refine hK _ _ SD.out ?_
  clear hK K
  refine gwq 44 fun K hK => ?_
  go_simp
  refine hK _ _ SD.out ?_
  clear hK K
  refine tkn 45 SD.out ?_
  refine tkn 46 SD.out ?_
  refine tkn 47 SD.out ?_
  refine tkn 48 SD.out ?_
  refine tkn 49 SD.out ?_
  refine tkn 50 SD.out ?_
  refine tkn 51 SD.out ?_
  refine tkn 52 SD.out ?_
  refine tkn 53 SD.out ?_
  refine tkn 54 SD.out ?_
  refine tkn 55 SD.out ?_
  refine gwq 56 fun K hK => ?_
  go_simp
  refine hK _ _ SD.out ?_
  clear hK K
  refine gwq 57 fun K hK => ?_
  go_simp
  refine hK _ _ SD.out ?_
  clear hK K
  refine tkn 58 SD.out ?_
  refine tkn 59 SD.out ?_
  refine tkn 60 SD.out ?_
  refine tkn 61 SD.out ?_
  refine tkn 62 SD.out ?_
  refine tkn 63 SD.out ?_
  refine gwq 64 fun K hK => ?_
  go_simp
  refine hK _ _ SD.out ?_
  clear hK K
  refine gwq 65 fun K hK => ?_
  go_simp
  refine hK _ _ SD.out ?_
  clear hK K
  refine wpAnyH_done (by kernel_rfl) ?_ _
  unfold onlyN
  dsimp only
  go_wp2
  go_ret
  exact ⟨by rw [HNO.out]; rfl, B0.out.trans (SD.out.mono B0.out.size)⟩
 have C3 := Lh (Classical.not_not.1 h1)
 have d1 : decide (rv ≤ 4294967295) = true := decide_eq_true C3.out
 clear h1
 refine gwq 9 fun K hK => ?_
 go_simp
 refine hK _ _ SD.out ?_
 clear hK K
 refine gwq 10 fun K hK => ?_
 go_simp
 refine hK _ _ SD.out ?_
 clear hK K
 refine gwq 11 fun K hK => ?_
 go_simp
 refine hK _ _ SD.out ?_
 clear hK K
 clear d1
 refine gwq 12 fun K hK => ?_
 go_simp
 refine hK _ _ SD.out ?_
 clear hK K
 refine gwq 13 fun K hK => ?_
 go_simp
 refine hK _ _ SD.out ?_
 clear hK K
 rcases Classical.em (¬ (1 ≤ md)) with h1 | h1
 ·have HNO := Lh (okGb_f (g := ⟨nm, rv, md, sz, m⟩) (fun h => h1 h.hd.m1))
  have d1 : decide (1 ≤ md) = false := decide_eq_false h1
  clear h1
  refine gwq 14 fun K hK => ?_
  go_simp
  refine hK _ _ SD.out ?_
  clear hK K
  refine gwq 15 fun K hK => ?_
  go_simp
  refine hK _ _ SD.out ?_
  clear hK K
  refine gwq 16 fun K hK => ?_
  go_simp
  refine hK _ _ SD.out ?_
  clear hK K
  clear d1
  clear x0 x1 x2 x3 x4 x5 x6 x7 x8 x9 x10 x11 x12 x13
  refine gwq 17 fun K hK => ?_
  go_simp
  refine hK _ _ SD.out ?_
  clear hK K
  refine gwq 18 fun K hK => ?_
  go_simp
  refine hK _ _ SD.out ?_
  clear hK K
  refine tkn 19 SD.out ?_
  refine tkn 20 SD.out ?_
  refine tkn 21 SD.out ?_
  refine gwq 22 fun K hK => ?_
  go_simp
  refine hK _ _ SD.out ?_
  clear hK K
  refine gwq 23 fun K hK => ?_
  go_simp
  refine hK _ _ SD.out ?_
  clear hK K
  refine tkn 24 SD.out ?_
  refine tkn 25 SD.out ?_
  refine tkn 26 SD.out ?_
  refine gwq 27 fun K hK => ?_
  go_simp
  refine hK _ _ SD.out ?_
  clear hK K
  refine gwq 28 fun K hK => ?_
  go_simp
  refine hK _ _ SD.out ?_
  clear hK K
  refine tkn 29 SD.out ?_
  refine tkn 30 SD.out ?_
  refine tkn 31 SD.out ?_
  refine gwq 32 fun K hK => ?_
  go_simp
  refine hK _ _ SD.out ?_
  clear hK K
  refine gwq 33 fun K hK => ?_
  go_simp
  refine hK _ _ SD.out ?_
  clear hK K
  refine tkn 34 SD.out ?_
  refine tkn 35 SD.out ?_
  refine tkn 36 SD.out ?_
  refine tkn 37 SD.out ?_
  refine gwq 38 fun K hK => ?_
  go_simp
  refine hK _ _ SD.out ?_
  clear hK K
  refine gwq 39 fun K hK => ?_
  go_simp
  refine hK _ _ SD.out ?_
  clear hK K
  refine tkn 40 SD.out ?_
  refine tkn 41 SD.out ?_
  refine tkn 42 SD.out ?_
  refine gwq 43 fun K hK => ?_
  go_simp
  refine hK _ _ SD.out ?_
  clear hK K
  refine gwq 44 fun K hK => ?_
  go_simp
  refine hK _ _ SD.out ?_
  clear hK K
  refine tkn 45 SD.out ?_
  refine tkn 46 SD.out ?_
  refine tkn 47 SD.out ?_
  refine tkn 48 SD.out ?_
  refine tkn 49 SD.out ?_
  refine tkn 50 SD.out ?_
  refine tkn 51 SD.out ?_
  refine tkn 52 SD.out ?_
  refine tkn 53 SD.out ?_
  refine tkn 54 SD.out ?_
  refine tkn 55 SD.out ?_
  refine gwq 56 fun K hK => ?_
  go_simp
  refine hK _ _ SD.out ?_
  clear hK K
  refine gwq 57 fun K hK => ?_
  go_simp
  refine hK _ _ SD.out ?_
  clear hK K
  refine tkn 58 SD.out ?_
  refine tkn 59 SD.out ?_
  refine tkn 60 SD.out ?_
  refine tkn 61 SD.out ?_
  refine tkn 62 SD.out ?_
  refine tkn 63 SD.out ?_
  refine gwq 64 fun K hK => ?_
  go_simp
  refine hK _ _ SD.out ?_
  clear hK K
  refine gwq 65 fun K hK => ?_
  go_simp
  refine hK _ _ SD.out ?_
  clear hK K
  refine wpAnyH_done (by kernel_rfl) ?_ _
  unfold onlyN
  dsimp only
  go_wp2
  go_ret
  exact ⟨by rw [HNO.out]; rfl, B0.out.trans (SD.out.mono B0.out.size)⟩
 have C4 := Lh (Classical.not_not.1 h1)
 have d1 : decide (1 ≤ md) = true := decide_eq_true C4.out
 clear h1
 refine gwq 14 fun K hK => ?_
 go_simp
 refine hK _ _ SD.out ?_
 clear hK K
 refine gwq 15 fun K hK => ?_
 go_simp
 refine hK _ _ SD.out ?_
 clear hK K
 refine gwq 16 fun K hK => ?_
 go_simp
 refine hK _ _ SD.out ?_
 clear hK K
 clear d1
 refine gwq 17 fun K hK => ?_
 go_simp
 refine hK _ _ SD.out ?_
 clear hK K
 refine gwq 18 fun K hK => ?_
 go_simp
 refine hK _ _ SD.out ?_
 clear hK K
 rcases Classical.em (¬ (md ≤ 3)) with h1 | h1
 ·have HNO := Lh (okGb_f (g := ⟨nm, rv, md, sz, m⟩) (fun h => h1 h.hd.m3))
  have d1 : decide (md ≤ 3) = false := decide_eq_false h1
  clear h1
  refine gwq 19 fun K hK => ?_
  go_simp
  refine hK _ _ SD.out ?_
  clear hK K
  refine gwq 20 fun K hK => ?_
  go_simp
  refine hK _ _ SD.out ?_
  clear hK K
  refine gwq 21 fun K hK => ?_
  go_simp
  refine hK _ _ SD.out ?_
  clear hK K
  clear d1
  clear x0 x1 x2 x3 x4 x5 x6 x7 x8 x9 x10 x11 x12 x13
  refine gwq 22 fun K hK => ?_
  go_simp
  refine hK _ _ SD.out ?_
  clear hK K
  refine gwq 23 fun K hK => ?_
  go_simp
  refine hK _ _ SD.out ?_
  clear hK K
  refine tkn 24 SD.out ?_
  refine tkn 25 SD.out ?_
  refine tkn 26 SD.out ?_
  refine gwq 27 fun K hK => ?_
  go_simp
  refine hK _ _ SD.out ?_
  clear hK K
  refine gwq 28 fun K hK => ?_
  go_simp
  refine hK _ _ SD.out ?_
  clear hK K
  refine tkn 29 SD.out ?_
  refine tkn 30 SD.out ?_
  refine tkn 31 SD.out ?_
  refine gwq 32 fun K hK => ?_
  go_simp
  refine hK _ _ SD.out ?_
  clear hK K
  refine gwq 33 fun K hK => ?_
  go_simp
  refine hK _ _ SD.out ?_
  clear hK K
  refine tkn 34 SD.out ?_
  refine tkn 35 SD.out ?_
  refine tkn 36 SD.out ?_
  refine tkn 37 SD.out ?_
  refine gwq 38 fun K hK => ?_
  go_simp
  refine hK _ _ SD.out ?_
  clear hK K
  refine gwq 39 fun K hK => ?_
  go_simp
  refine hK _ _ SD.out ?_
  clear hK K
  refine tkn 40 SD.out ?_
  refine tkn 41 SD.out ?_
  refine tkn 42 SD.out ?_
  refine gwq 43 fun K hK => ?_
  go_simp
  refine hK _ _ SD.out ?_
  clear hK K
  refine gwq 44 fun K hK => ?_
  go_simp
  refine hK _ _ SD.out ?_
  clear hK K
  refine tkn 45 SD.out ?_
  refine tkn 46 SD.out ?_
  refine tkn 47 SD.out ?_
  refine tkn 48 SD.out ?_
  refine tkn 49 SD.out ?_
  refine tkn 50 SD.out ?_
  refine tkn 51 SD.out ?_
  refine tkn 52 SD.out ?_
  refine tkn 53 SD.out ?_
  refine tkn 54 SD.out ?_
  refine tkn 55 SD.out ?_
  refine gwq 56 fun K hK => ?_
  go_simp
  refine hK _ _ SD.out ?_
  clear hK K
  refine gwq 57 fun K hK => ?_
  go_simp
  refine hK _ _ SD.out ?_
  clear hK K
  refine tkn 58 SD.out ?_
  refine tkn 59 SD.out ?_
  refine tkn 60 SD.out ?_
  refine tkn 61 SD.out ?_
  refine tkn 62 SD.out ?_
  refine tkn 63 SD.out ?_
  refine gwq 64 fun K hK => ?_
  go_simp
  refine hK _ _ SD.out ?_
  clear hK K
  refine gwq 65 fun K hK => ?_
  go_simp
  refine hK _ _ SD.out ?_
  clear hK K
  refine wpAnyH_done (by kernel_rfl) ?_ _
  unfold onlyN
  dsimp only
  go_wp2
  go_ret
  exact ⟨by rw [HNO.out]; rfl, B0.out.trans (SD.out.mono B0.out.size)⟩
 have C5 := Lh (Classical.not_not.1 h1)
 have d1 : decide (md ≤ 3) = true := decide_eq_true C5.out
 clear h1
 refine gwq 19 fun K hK => ?_
 go_simp
 refine hK _ _ SD.out ?_
 clear hK K
 refine gwq 20 fun K hK => ?_
 go_simp
 refine hK _ _ SD.out ?_
 clear hK K
 refine gwq 21 fun K hK => ?_
 go_simp
 refine hK _ _ SD.out ?_
 clear hK K
 clear d1
 refine gwq 22 fun K hK => ?_
 go_simp
 refine hK _ _ SD.out ?_
 clear hK K
 refine gwq 23 fun K hK => ?_
 go_simp
 refine hK _ _ SD.out ?_
 clear hK K
 rcases Classical.em (¬ (16 ≤ sz)) with h1 | h1
 ·have HNO := Lh (okGb_f (g := ⟨nm, rv, md, sz, m⟩) (fun h => h1 h.hd.s0))
  have d1 : decide (16 ≤ sz) = false := decide_eq_false h1
  clear h1
  refine gwq 24 fun K hK => ?_
  go_simp
  refine hK _ _ SD.out ?_
  clear hK K
  refine gwq 25 fun K hK => ?_
  go_simp
  refine hK _ _ SD.out ?_
  clear hK K
  refine gwq 26 fun K hK => ?_
  go_simp
  refine hK _ _ SD.out ?_
  clear hK K
  clear d1
  clear x0 x1 x2 x3 x4 x5 x6 x7 x8 x9 x10 x11 x12 x13
  refine gwq 27 fun K hK => ?_
  go_simp
  refine hK _ _ SD.out ?_
  clear hK K
  refine gwq 28 fun K hK => ?_
  go_simp
  refine hK _ _ SD.out ?_
  clear hK K
  refine tkn 29 SD.out ?_
  refine tkn 30 SD.out ?_
  refine tkn 31 SD.out ?_
  refine gwq 32 fun K hK => ?_
  go_simp
  refine hK _ _ SD.out ?_
  clear hK K
  refine gwq 33 fun K hK => ?_
  go_simp
  refine hK _ _ SD.out ?_
  clear hK K
  refine tkn 34 SD.out ?_
  refine tkn 35 SD.out ?_
  refine tkn 36 SD.out ?_
  refine tkn 37 SD.out ?_
  refine gwq 38 fun K hK => ?_
  go_simp
  refine hK _ _ SD.out ?_
  clear hK K
  refine gwq 39 fun K hK => ?_
  go_simp
  refine hK _ _ SD.out ?_
  clear hK K
  refine tkn 40 SD.out ?_
  refine tkn 41 SD.out ?_
  refine tkn 42 SD.out ?_
  refine gwq 43 fun K hK => ?_
  go_simp
  refine hK _ _ SD.out ?_
  clear hK K
  refine gwq 44 fun K hK => ?_
  go_simp
  refine hK _ _ SD.out ?_
  clear hK K
  refine tkn 45 SD.out ?_
  refine tkn 46 SD.out ?_
  refine tkn 47 SD.out ?_
  refine tkn 48 SD.out ?_
  refine tkn 49 SD.out ?_
  refine tkn 50 SD.out ?_
  refine tkn 51 SD.out ?_
  refine tkn 52 SD.out ?_
  refine tkn 53 SD.out ?_
  refine tkn 54 SD.out ?_
  refine tkn 55 SD.out ?_
  refine gwq 56 fun K hK => ?_
  go_simp
  refine hK _ _ SD.out ?_
  clear hK K
  refine gwq 57 fun K hK => ?_
  go_simp
  refine hK _ _ SD.out ?_
  clear hK K
  refine tkn 58 SD.out ?_
  refine tkn 59 SD.out ?_
  refine tkn 60 SD.out ?_
  refine tkn 61 SD.out ?_
  refine tkn 62 SD.out ?_
  refine tkn 63 SD.out ?_
  refine gwq 64 fun K hK => ?_
  go_simp
  refine hK _ _ SD.out ?_
  clear hK K
  refine gwq 65 fun K hK => ?_
  go_simp
  refine hK _ _ SD.out ?_
  clear hK K
  refine wpAnyH_done (by kernel_rfl) ?_ _
  unfold onlyN
  dsimp only
  go_wp2
  go_ret
  exact ⟨by rw [HNO.out]; rfl, B0.out.trans (SD.out.mono B0.out.size)⟩
 have C6 := Lh (Classical.not_not.1 h1)
 have d1 : decide (16 ≤ sz) = true := decide_eq_true C6.out
 clear h1
 refine gwq 24 fun K hK => ?_
 go_simp
 refine hK _ _ SD.out ?_
 clear hK K
 refine gwq 25 fun K hK => ?_
 go_simp
 refine hK _ _ SD.out ?_
 clear hK K
 refine gwq 26 fun K hK => ?_
 go_simp
 refine hK _ _ SD.out ?_
 clear hK K
 clear d1
 refine gwq 27 fun K hK => ?_
 go_simp
 refine hK _ _ SD.out ?_
 clear hK K
 refine gwq 28 fun K hK => ?_
 go_simp
 refine hK _ _ SD.out ?_
 clear hK K
 rcases Classical.em (¬ (sz ≤ 1048576)) with h1 | h1
 ·have HNO := Lh (okGb_f (g := ⟨nm, rv, md, sz, m⟩) (fun h => h1 h.hd.s1))
  have d1 : decide (sz ≤ 1048576) = false := decide_eq_false h1
  clear h1
  refine gwq 29 fun K hK => ?_
  go_simp
  refine hK _ _ SD.out ?_
  clear hK K
  refine gwq 30 fun K hK => ?_
  go_simp
  refine hK _ _ SD.out ?_
  clear hK K
  refine gwq 31 fun K hK => ?_
  go_simp
  refine hK _ _ SD.out ?_
  clear hK K
  clear d1
  clear x0 x1 x2 x3 x4 x5 x6 x7 x8 x9 x10 x11 x12 x13
  refine gwq 32 fun K hK => ?_
  go_simp
  refine hK _ _ SD.out ?_
  clear hK K
  refine gwq 33 fun K hK => ?_
  go_simp
  refine hK _ _ SD.out ?_
  clear hK K
  refine tkn 34 SD.out ?_
  refine tkn 35 SD.out ?_
  refine tkn 36 SD.out ?_
  refine tkn 37 SD.out ?_
  refine gwq 38 fun K hK => ?_
  go_simp
  refine hK _ _ SD.out ?_
  clear hK K
  refine gwq 39 fun K hK => ?_
  go_simp
  refine hK _ _ SD.out ?_
  clear hK K
  refine tkn 40 SD.out ?_
  refine tkn 41 SD.out ?_
  refine tkn 42 SD.out ?_
  refine gwq 43 fun K hK => ?_
  go_simp
  refine hK _ _ SD.out ?_
  clear hK K
  refine gwq 44 fun K hK => ?_
  go_simp
  refine hK _ _ SD.out ?_
  clear hK K
  refine tkn 45 SD.out ?_
  refine tkn 46 SD.out ?_
  refine tkn 47 SD.out ?_
  refine tkn 48 SD.out ?_
  refine tkn 49 SD.out ?_
  refine tkn 50 SD.out ?_
  refine tkn 51 SD.out ?_
  refine tkn 52 SD.out ?_
  refine tkn 53 SD.out ?_
  refine tkn 54 SD.out ?_
  refine tkn 55 SD.out ?_
  refine gwq 56 fun K hK => ?_
  go_simp
  refine hK _ _ SD.out ?_
  clear hK K
  refine gwq 57 fun K hK => ?_
  go_simp
  refine hK _ _ SD.out ?_
  clear hK K
  refine tkn 58 SD.out ?_
  refine tkn 59 SD.out ?_
  refine tkn 60 SD.out ?_
  refine tkn 61 SD.out ?_
  refine tkn 62 SD.out ?_
  refine tkn 63 SD.out ?_
  refine gwq 64 fun K hK => ?_
  go_simp
  refine hK _ _ SD.out ?_
  clear hK K
  refine gwq 65 fun K hK => ?_
  go_simp
  refine hK _ _ SD.out ?_
  clear hK K
  refine wpAnyH_done (by kernel_rfl) ?_ _
  unfold onlyN
  dsimp only
  go_wp2
  go_ret
  exact ⟨by rw [HNO.out]; rfl, B0.out.trans (SD.out.mono B0.out.size)⟩
 have C7 := Lh (Classical.not_not.1 h1)
 have d1 : decide (sz ≤ 1048576) = true := decide_eq_true C7.out
 clear h1
 refine gwq 29 fun K hK => ?_
 go_simp
 refine hK _ _ SD.out ?_
 clear hK K
 refine gwq 30 fun K hK => ?_
 go_simp
 refine hK _ _ SD.out ?_
 clear hK K
 refine gwq 31 fun K hK => ?_
 go_simp
 refine hK _ _ SD.out ?_
 clear hK K
 clear d1
 refine gwq 32 fun K hK => ?_
 go_simp
 refine hK _ _ SD.out ?_
 clear hK K
 refine gwq 33 fun K hK => ?_
 go_simp
 refine hK _ _ SD.out ?_
 clear hK K
 rcases Classical.em (¬ (sz.tmod 8 = 0)) with h1 | h1
 ·have HNO := Lh (okGb_f (g := ⟨nm, rv, md, sz, m⟩) (fun h => h1 h.hd.s8))
  have d1 : decide (sz.tmod 8 = 0) = false := decide_eq_false h1
  have d2 : (sz.tmod 8 == 0) = false := beq_false_of_ne h1
  clear h1
  refine gwq 34 fun K hK => ?_
  go_simp
  refine hK _ _ SD.out ?_
  clear hK K
  refine gwq 35 fun K hK => ?_
  go_simp
  refine hK _ _ SD.out ?_
  clear hK K
  refine gwq 36 fun K hK => ?_
  go_simp
  refine hK _ _ SD.out ?_
  clear hK K
  refine gwq 37 fun K hK => ?_
  go_simp
  refine hK _ _ SD.out ?_
  clear hK K
  clear d1
  clear d2
  clear x0 x1 x2 x3 x4 x5 x6 x7 x8 x9 x10 x11 x12 x13
  refine gwq 38 fun K hK => ?_
  go_simp
  refine hK _ _ SD.out ?_
  clear hK K
  refine gwq 39 fun K hK => ?_
  go_simp
  refine hK _ _ SD.out ?_
  clear hK K
  refine tkn 40 SD.out ?_
  refine tkn 41 SD.out ?_
  refine tkn 42 SD.out ?_
  refine gwq 43 fun K hK => ?_
  go_simp
  refine hK _ _ SD.out ?_
  clear hK K
  refine gwq 44 fun K hK => ?_
  go_simp
  refine hK _ _ SD.out ?_
  clear hK K
  refine tkn 45 SD.out ?_
  refine tkn 46 SD.out ?_
  refine tkn 47 SD.out ?_
  refine tkn 48 SD.out ?_
  refine tkn 49 SD.out ?_
  refine tkn 50 SD.out ?_
  refine tkn 51 SD.out ?_
  refine tkn 52 SD.out ?_
  refine tkn 53 SD.out ?_
  refine tkn 54 SD.out ?_
  refine tkn 55 SD.out ?_
  refine gwq 56 fun K hK => ?_
  go_simp
  refine hK _ _ SD.out ?_
  clear hK K
  refine gwq 57 fun K hK => ?_
  go_simp
  refine hK _ _ SD.out ?_
  clear hK K
  refine tkn 58 SD.out ?_
  refine tkn 59 SD.out ?_
  refine tkn 60 SD.out ?_
  refine tkn 61 SD.out ?_
  refine tkn 62 SD.out ?_
  refine tkn 63 SD.out ?_
  refine gwq 64 fun K hK => ?_
  go_simp
  refine hK _ _ SD.out ?_
  clear hK K
  refine gwq 65 fun K hK => ?_
  go_simp
  refine hK _ _ SD.out ?_
  clear hK K
  refine wpAnyH_done (by kernel_rfl) ?_ _
  unfold onlyN
  dsimp only
  go_wp2
  go_ret
  exact ⟨by rw [HNO.out]; rfl, B0.out.trans (SD.out.mono B0.out.size)⟩
 have C8 := Lh (Classical.not_not.1 h1)
 have d1 : decide (sz.tmod 8 = 0) = true := decide_eq_true C8.out
 have d2 : (sz.tmod 8 == 0) = true := beq_iff_eq.2 C8.out
 clear h1
 refine gwq 34 fun K hK => ?_
 go_simp
 refine hK _ _ SD.out ?_
 clear hK K
 refine gwq 35 fun K hK => ?_
 go_simp
 refine hK _ _ SD.out ?_
 clear hK K
 refine gwq 36 fun K hK => ?_
 go_simp
 refine hK _ _ SD.out ?_
 clear hK K
 refine gwq 37 fun K hK => ?_
 go_simp
 refine hK _ _ SD.out ?_
 clear hK K
 clear d1
 clear d2
 refine gwq 38 fun K hK => ?_
 go_simp
 refine hK _ _ SD.out ?_
 clear hK K
 refine gwq 39 fun K hK => ?_
 go_simp
 refine hK _ _ SD.out ?_
 clear hK K
 clear x0 x1 x2 x3 x4 x5 x6 x7 x8 x9 x10 x11 x12 x13
 obtain ⟨x0, x1, x2, x3, x4, x5, x6, x7, x8, x9, x10, x11, x12, x13⟩ := bx14 ((SD.out.block _ (lt_of_some HG.out)).trans HG.out)
 refine gwq 40 fun K hK => ?_
 go_simp
 refine hK _ _ SD.out ?_
 clear hK K
 refine gwq 41 fun K hK => ?_
 go_simp
 refine hK _ _ SD.out ?_
 clear hK K
 clear x0 x1 x2 x3 x4 x5 x6 x7 x8 x9 x10 x11 x12 x13
 rcases Classical.em (¬ okM m) with h1 | h1
 ·have HNO := Lh (okGb_f (g := ⟨nm, rv, md, sz, m⟩) (fun h => h1 h.ok))
  have PV := fun W h => PVM.out W h
  rw [okMb_f h1] at PV
  clear h1
  refine gwq 42 fun K hK => ?_
  go_simp
  go_at_call 48
  refine (PV WD (ms_below MS.out SD.out)).mono ?_
  rintro e V2 ⟨rfl, hb⟩
  refine hK _ _ (SD.out.trans (hb.mono SD.out.size)) ?_
  clear hK K
  have S1 := Lh (SD.out.trans (hb.mono SD.out.size))
  clear hb SD
  clear PV
  refine gwq 43 fun K hK => ?_
  go_simp
  refine hK _ _ S1.out ?_
  clear hK K
  refine gwq 44 fun K hK => ?_
  go_simp
  refine hK _ _ S1.out ?_
  clear hK K
  refine tkn 45 S1.out ?_
  refine tkn 46 S1.out ?_
  refine tkn 47 S1.out ?_
  refine tkn 48 S1.out ?_
  refine tkn 49 S1.out ?_
  refine tkn 50 S1.out ?_
  refine tkn 51 S1.out ?_
  refine tkn 52 S1.out ?_
  refine tkn 53 S1.out ?_
  refine tkn 54 S1.out ?_
  refine tkn 55 S1.out ?_
  refine gwq 56 fun K hK => ?_
  go_simp
  refine hK _ _ S1.out ?_
  clear hK K
  refine gwq 57 fun K hK => ?_
  go_simp
  refine hK _ _ S1.out ?_
  clear hK K
  refine tkn 58 S1.out ?_
  refine tkn 59 S1.out ?_
  refine tkn 60 S1.out ?_
  refine tkn 61 S1.out ?_
  refine tkn 62 S1.out ?_
  refine tkn 63 S1.out ?_
  refine gwq 64 fun K hK => ?_
  go_simp
  refine hK _ _ S1.out ?_
  clear hK K
  refine gwq 65 fun K hK => ?_
  go_simp
  refine hK _ _ S1.out ?_
  clear hK K
  refine wpAnyH_done (by kernel_rfl) ?_ _
  unfold onlyN
  dsimp only
  go_wp2
  go_ret
  exact ⟨by rw [HNO.out]; rfl, B0.out.trans (S1.out.mono B0.out.size)⟩
 have C9 := Lh (Classical.not_not.1 h1)
 have PV := fun W h => PVM.out W h
 rw [okMb_t C9.out] at PV
 clear h1
 refine gwq 42 fun K hK => ?_
 go_simp
 go_at_call 48
 refine (PV WD (ms_below MS.out SD.out)).mono ?_
 rintro e V2 ⟨rfl, hb⟩
 refine hK _ _ (SD.out.trans (hb.mono SD.out.size)) ?_
 clear hK K
 have S1 := Lh (SD.out.trans (hb.mono SD.out.size))
 clear hb SD
 clear PV
 refine gwq 43 fun K hK => ?_
 go_simp
 refine hK _ _ S1.out ?_
 clear hK K
 refine gwq 44 fun K hK => ?_
 go_simp
 refine hK _ _ S1.out ?_
 clear hK K
 have E16 := Lh (ge_sum HN8.out C9.out)
 refine tky 45 (.pointer (some ⟨w.heap.size, 3, none⟩)) rfl (fun w' hw' => by
  skip
  go_simp) S1.out ?_
 refine tky 46 (.int .i64 sz) rfl (fun w' hw' => by
  obtain ⟨x0, x1, x2, x3, x4, x5, x6, x7, x8, x9, x10, x11, x12, x13⟩ := bx14 ((hw'.block _ (lt_of_some HG.out)).trans HG.out)
  go_simp) S1.out ?_
 refine tky 47 (.pointer (some ⟨w.heap.size, 4, none⟩)) rfl (fun w' hw' => by
  skip
  go_simp) S1.out ?_
 refine tky 48 (.pointer (some ⟨w.heap.size, 12, none⟩)) rfl (fun w' hw' => by
  skip
  go_simp) S1.out ?_
 refine tky 49 (.int .i64 m.live) rfl (fun w' hw' => by
  obtain ⟨x0, x1, x2, x3, x4, x5, x6, x7, x8, x9, x10, x11, x12, x13⟩ := bx14 ((hw'.block _ (lt_of_some HG.out)).trans HG.out)
  go_simp) S1.out ?_
 refine tky 50 (.int .i64 (16 + m.live)) rfl (fun w' hw' => by
  have e16 := E16.out.1
  go_simp) S1.out ?_
 refine tky 51 (.pointer (some ⟨w.heap.size, 4, none⟩)) rfl (fun w' hw' => by
  skip
  go_simp) S1.out ?_
 refine tky 52 (.pointer (some ⟨w.heap.size, 13, none⟩)) rfl (fun w' hw' => by
  skip
  go_simp) S1.out ?_
 refine tky 53 (.int .i64 m.garb) rfl (fun w' hw' => by
  obtain ⟨x0, x1, x2, x3, x4, x5, x6, x7, x8, x9, x10, x11, x12, x13⟩ := bx14 ((hw'.block _ (lt_of_some HG.out)).trans HG.out)
  go_simp) S1.out ?_
 obtain ⟨E, hE⟩ : ∃ E, E = 16 + m.live + m.garb := ⟨_, rfl⟩
 have HE := Lh hE.symm
 have e17 : IntKind.i64.wrap (16 + m.live + m.garb) = E := E16.out.2.trans hE.symm
 clear hE
 refine gwq 54 fun K hK => ?_
 go_simp
 refine hK _ _ S1.out ?_
 clear hK K
 clear e17
 rcases Classical.em (¬ (sz = E)) with h1 | h1
 ·have HNO := Lh (okGb_f (g := ⟨nm, rv, md, sz, m⟩) (fun h => h1 (by rw [← HE.out]; exact h.eq)))
  have d1 : decide (sz = E) = false := decide_eq_false h1
  have d2 : (sz == E) = false := beq_false_of_ne h1
  clear h1
  refine gwq 55 fun K hK => ?_
  go_simp
  refine hK _ _ S1.out ?_
  clear hK K
  clear d1 d2
  refine gwq 56 fun K hK => ?_
  go_simp
  refine hK _ _ S1.out ?_
  clear hK K
  refine gwq 57 fun K hK => ?_
  go_simp
  refine hK _ _ S1.out ?_
  clear hK K
  refine tkn 58 S1.out ?_
  refine tkn 59 S1.out ?_
  refine tkn 60 S1.out ?_
  refine tkn 61 S1.out ?_
  refine tkn 62 S1.out ?_
  refine tkn 63 S1.out ?_
  refine gwq 64 fun K hK => ?_
  go_simp
  refine hK _ _ S1.out ?_
  clear hK K
  refine gwq 65 fun K hK => ?_
  go_simp
  refine hK _ _ S1.out ?_
  clear hK K
  refine wpAnyH_done (by kernel_rfl) ?_ _
  unfold onlyN
  dsimp only
  go_wp2
  go_ret
  exact ⟨by rw [HNO.out]; rfl, B0.out.trans (S1.out.mono B0.out.size)⟩
 have C10 := Lh (Classical.not_not.1 h1)
 have d1 : decide (sz = E) = true := decide_eq_true C10.out
 have d2 : (sz == E) = true := beq_iff_eq.2 C10.out
 clear h1
 refine gwq 55 fun K hK => ?_
 go_simp
 refine hK _ _ S1.out ?_
 clear hK K
 clear d1 d2
 refine gwq 56 fun K hK => ?_
 go_simp
 refine hK _ _ S1.out ?_
 clear hK K
 refine gwq 57 fun K hK => ?_
 go_simp
 refine hK _ _ S1.out ?_
 clear hK K
 refine tky 58 (.pointer (some ⟨w.heap.size, 4, none⟩)) rfl (fun w' hw' => by
  skip
  go_simp) S1.out ?_
 refine tky 59 (.agg #[s0, s1, s2, s3, s4, s5, s6, s7, .int .i64 m.live, .int .i64 m.garb]) rfl (fun w' hw' => by
  obtain ⟨x0, x1, x2, x3, x4, x5, x6, x7, x8, x9, x10, x11, x12, x13⟩ := bx14 ((hw'.block _ (lt_of_some HG.out)).trans HG.out)
  go_simp) S1.out ?_
 refine tky 61 (.pointer (some ⟨w.heap.size, 3, none⟩)) rfl (fun w' hw' => by
  skip
  go_simp) S1.out ?_
 refine tky 62 (.int .i64 sz) rfl (fun w' hw' => by
  obtain ⟨x0, x1, x2, x3, x4, x5, x6, x7, x8, x9, x10, x11, x12, x13⟩ := bx14 ((hw'.block _ (lt_of_some HG.out)).trans HG.out)
  go_simp) S1.out ?_
 refine gwq 60 fun K hK => ?_
 go_simp
 go_at_call 39
 refine (PI.out V2 (ms_below MS.out S1.out)).mono ?_
 rintro e V3 ⟨⟨v2, rfl, hit⟩, hb⟩
 refine hK _ _ (S1.out.trans (hb.mono S1.out.size)) ?_
 clear hK K
 rw [show itemsL m = iL m by unfold itemsL; rw [if_pos C9.out]] at hit
 have PA := papart_any v2 (iL m) sz V3 (il_len HF.out HN8.out C9.out HL8.out) (iL_ok C9.out HL8.out) HJ.out hit
 obtain ⟨ai, ci, rfl, -, -⟩ := it_form hit
 have HII := Lh hit
 clear hit
 have S2 := Lh (S1.out.trans (hb.mono S1.out.size))
 clear hb S1
 rcases Classical.em (¬ apL (iL m) sz) with h1 | h1
 ·have HNO := Lh (okGb_f (g := ⟨nm, rv, md, sz, m⟩) (fun h => h1 h.ap))
  rw [apB_f h1] at PA
  clear h1
  refine gwq 63 fun K hK => ?_
  go_simp
  go_at_call 49
  refine PA.mono ?_
  rintro e V4 ⟨rfl, hb⟩
  refine hK _ _ (S2.out.trans (hb.mono S2.out.size)) ?_
  clear hK K
  have S9 := Lh (S2.out.trans (hb.mono S2.out.size))
  clear hb S2
  clear PA HII
  refine gwq 64 fun K hK => ?_
  go_simp
  refine hK _ _ S9.out ?_
  clear hK K
  refine gwq 65 fun K hK => ?_
  go_simp
  refine hK _ _ S9.out ?_
  clear hK K
  refine wpAnyH_done (by kernel_rfl) ?_ _
  unfold onlyN
  dsimp only
  go_wp2
  go_ret
  exact ⟨by rw [HNO.out]; rfl, B0.out.trans (S9.out.mono B0.out.size)⟩
 have C11 := Lh (Classical.not_not.1 h1)
 rw [apB_t C11.out] at PA
 clear h1
 refine gwq 63 fun K hK => ?_
 go_simp
 go_at_call 49
 refine PA.mono ?_
 rintro e V4 ⟨rfl, hb⟩
 refine hK _ _ (S2.out.trans (hb.mono S2.out.size)) ?_
 clear hK K
 have S9 := Lh (S2.out.trans (hb.mono S2.out.size))
 clear hb S2
 clear PA HII
 refine gwq 64 fun K hK => ?_
 go_simp
 refine hK _ _ S9.out ?_
 clear hK K
 refine gwq 65 fun K hK => ?_
 go_simp
 refine hK _ _ S9.out ?_
 clear hK K
 refine wpAnyH_done (by kernel_rfl) ?_ _
 unfold onlyN
 dsimp only
 go_wp2
 go_ret
 exact ⟨by rw [okGb_t ⟨⟨C1.out.1, C1.out.2, C2.out, C3.out, C4.out, C5.out, C6.out, C7.out, C8.out⟩, C9.out, by show sz = _; rw [C10.out, HE.out], C11.out⟩]; rfl, B0.out.trans (S9.out.mono B0.out.size)⟩
theorem pgvalid_any (v : Value) (g : Ge) (w : World) (hv : Gv w v g) (hf : Few g.m) (hn : g.m.st.flatten.length ≤ 1000) : Calls Tryz.prog 18 #[v] w fun e w' => e = .returned (.bool (okGb g)) ∧ Below w.heap.size w w' := by
 obtain ⟨s0, s1, s2, s3, s4, s5, s6, s7, rfl, hm, -, -, -, hj⟩ := hv
 exact pgvalid_x s0 s1 s2 s3 s4 s5 s6 s7 g.num g.rev g.mode g.size g.m w hm hj hf hn
end Go.Proofs.YtbmlpafbdbhaiaaGreatDoor.Gf
