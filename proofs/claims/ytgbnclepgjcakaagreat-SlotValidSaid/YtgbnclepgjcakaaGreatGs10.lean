/- What is proved here: the program's Valid of a slot, for every slot of few items. -/
import Derived.Test.YtgbnclepgjcakaaGreatGs9
namespace Go.Proofs.YtgbnclepgjcakaaGreat.Gf
open Go Go.Joins Go.ChangeShapes Go.WideShapes Go.ChangeAt Go.RowKit Go.Deep Go.Proofs.YtgbnclepgjcakaaGreat.By Go.Proofs.YtgbnclepgjcakaaGreat.Qt
set_option maxRecDepth 100000
set_option maxHeartbeats 204800000

theorem getD_mem {n k : Nat} {L : List Ge} (h : k < n) (hn : n = L.length) : L.getD k g0 ∈ L := by
 subst hn
 rw [List.getD_eq_getElem?_getD, List.getElem?_eq_getElem h]
 exact List.getElem_mem h
structure okS (s : Slt) : Prop where
 i0 : 0 ≤ s.id
 i4 : s.id < 4
 l0 : 4136 ≤ s.limit
 l1 : s.limit ≤ 262144
 n1 : 1 ≤ s.gens.length
 n8 : s.gens.length ≤ 8
 od : ∀ i, i < s.gens.length → ordAt s.gens i
 rm : roomP s.limit s.gens
noncomputable def okSb (s : Slt) : Bool := @decide (okS s) (Classical.propDecidable _)
theorem okSb_t {s : Slt} (h : okS s) : okSb s = true := by unfold okSb; exact @decide_eq_true _ (Classical.propDecidable _) h
theorem okSb_f {s : Slt} (h : ¬ okS s) : okSb s = false := by unfold okSb; exact @decide_eq_false _ (Classical.propDecidable _) h
theorem psvalid_x (id lim : Int) (ro : Bool) (a : Option Addr) (n c : Nat) (L : List Ge) (w : World) (hn : n = L.length) (hl : Gl w (.slice a n c) L) (hlen : n ≤ 10000) (hf : ∀ g ∈ L, LGe g) : Calls Tryz.prog 12 #[.agg #[.int .i64 id, .int .i64 lim, .bool ro, .slice a n c]] w fun e w' => e = .returned (.bool (okSb ⟨id, lim, ro, L⟩)) ∧ Below w.heap.size w w' := by
 have HF := Lh hf
 have HN := Lh hn
 have HLN := Lh hlen
 have B0 := Lh (bel_al w (.cells #[.int .i64 id, .int .i64 lim, .bool ro, .slice a n c] 33))
 have HG := Lh (heap_alloc_new w (.cells #[.int .i64 id, .int .i64 lim, .bool ro, .slice a n c] 33))
 have GL := Lh (gl_below hl B0.out)
 have POR := Lh (fun W (h : Gl W (.slice a n c) L) => porderly_any (.slice a n c) L W h (by rw [← hn]; exact hlen) hf)
 clear hl hf hn hlen
 go_enter Tryz.func12, Tryz.ntmps12
 go_upto_region 1 with fail
 generalize w.alloc (.cells #[.int .i64 id, .int .i64 lim, .bool ro, .slice a n c] 33) = W0 at *
 refine wp_onlyN ?_
 refine wp_region_headsS (fun W' => Below W0.heap.size W0 W') [0, 1] 40 (by kernel_rfl) (fun _ _ _ _ _ h => h.elim) (by kernel_rfl) (by rfl) (by rfl) (Below.refl W0.heap.size W0).drew ?_
 simp only [pickOps, List.filterMap_cons, List.filterMap_nil, List.getElem?_toArray]
 refine wpHeads_step (fun K hK => ?_)
 go_simp
 refine ⟨_, fun _ _ => rfl, hK _ ?_⟩
 clear hK K
 refine wpHeads_step (fun K hK => ?_)
 go_simp
 refine ⟨.int .i64 id, fun w' hw' => by
  obtain ⟨⟨y0, y1, y2, y3⟩, -⟩ := bx4 ((hw'.block _ (lt_of_some HG.out)).trans HG.out)
  go_simp, hK _ ?_⟩
 clear hK K
 refine wpHeads_nil ?_
 have SD := Lh (Below.refl W0.heap.size W0).drew
 generalize W0.drew = WD at *
 obtain ⟨⟨y0, y1, y2, y3⟩, -⟩ := bx4 ((SD.out.block _ (lt_of_some HG.out)).trans HG.out)
 rcases Classical.em (¬ (0 ≤ id)) with h1 | h1
 ·have HNO := Lh (okSb_f (s := ⟨id, lim, ro, L⟩) (fun h => h1 h.i0))
  have d1 : decide (0 ≤ id) = false := decide_eq_false h1
  clear h1
  refine gwq 2 rfl (by kernel_rfl) fun K hK => ?_
  go_simp
  refine hK _ _ SD.out ?_
  clear hK K
  clear d1
  clear y0 y1 y2 y3
  refine gwq 3 rfl (by kernel_rfl) fun K hK => ?_
  go_simp
  refine hK _ _ SD.out ?_
  clear hK K
  refine tkq 4 undef rfl (by kernel_rfl) (Or.inr ⟨by kernel_rfl, rfl⟩) SD.out ?_
  refine tkq 5 undef rfl (by kernel_rfl) (Or.inr ⟨by kernel_rfl, rfl⟩) SD.out ?_
  refine tkq 6 undef rfl (by kernel_rfl) (Or.inr ⟨by kernel_rfl, rfl⟩) SD.out ?_
  refine gwq 7 rfl (by kernel_rfl) fun K hK => ?_
  go_simp
  refine hK _ _ SD.out ?_
  clear hK K
  refine gwq 8 rfl (by kernel_rfl) fun K hK => ?_
  go_simp
  refine hK _ _ SD.out ?_
  clear hK K
  refine tkq 9 undef rfl (by kernel_rfl) (Or.inr ⟨by kernel_rfl, rfl⟩) SD.out ?_
  refine tkq 10 undef rfl (by kernel_rfl) (Or.inr ⟨by kernel_rfl, rfl⟩) SD.out ?_
  refine tkq 11 undef rfl (by kernel_rfl) (Or.inr ⟨by kernel_rfl, rfl⟩) SD.out ?_
  refine tkq 12 undef rfl (by kernel_rfl) (Or.inr ⟨by kernel_rfl, rfl⟩) SD.out ?_
  refine tkq 13 undef rfl (by kernel_rfl) (Or.inr ⟨by kernel_rfl, rfl⟩) SD.out ?_
  refine gwq 14 rfl (by kernel_rfl) fun K hK => ?_
  go_simp
  refine hK _ _ SD.out ?_
  clear hK K
  refine gwq 15 rfl (by kernel_rfl) fun K hK => ?_
  go_simp
  refine hK _ _ SD.out ?_
  clear hK K
  refine tkq 16 undef rfl (by kernel_rfl) (Or.inr ⟨by kernel_rfl, rfl⟩) SD.out ?_
  refine tkq 17 undef rfl (by kernel_rfl) (Or.inr ⟨by kernel_rfl, rfl⟩) SD.out ?_
  refine tkq 18 undef rfl (by kernel_rfl) (Or.inr ⟨by kernel_rfl, rfl⟩) SD.out ?_
  refine gwq 19 rfl (by kernel_rfl) fun K hK => ?_
  go_simp
  refine hK _ _ SD.out ?_
  clear hK K
  refine gwq 20 rfl (by kernel_rfl) fun K hK => ?_
  go_simp
  refine hK _ _ SD.out ?_
  clear hK K
  refine tkq 21 undef rfl (by kernel_rfl) (Or.inr ⟨by kernel_rfl, rfl⟩) SD.out ?_
  refine tkq 22 undef rfl (by kernel_rfl) (Or.inr ⟨by kernel_rfl, rfl⟩) SD.out ?_
  refine tkq 23 undef rfl (by kernel_rfl) (Or.inr ⟨by kernel_rfl, rfl⟩) SD.out ?_
  refine tkq 24 undef rfl (by kernel_rfl) (Or.inr ⟨by kernel_rfl, rfl⟩) SD.out ?_
  refine gwq 25 rfl (by kernel_rfl) fun K hK => ?_
  go_simp
  refine hK _ _ SD.out ?_
  clear hK K
  refine gwq 26 rfl (by kernel_rfl) fun K hK => ?_
  go_simp
  refine hK _ _ SD.out ?_
  clear hK K
  refine tkq 27 undef rfl (by kernel_rfl) (Or.inr ⟨by kernel_rfl, rfl⟩) SD.out ?_
  refine tkq 28 undef rfl (by kernel_rfl) (Or.inr ⟨by kernel_rfl, rfl⟩) SD.out ?_
  refine tkq 29 undef rfl (by kernel_rfl) (Or.inr ⟨by kernel_rfl, rfl⟩) SD.out ?_
  refine tkq 30 undef rfl (by kernel_rfl) (Or.inr ⟨by kernel_rfl, rfl⟩) SD.out ?_
  refine gwq 31 rfl (by kernel_rfl) fun K hK => ?_
  go_simp
  refine hK _ _ SD.out ?_
  clear hK K
  refine gwq 32 rfl (by kernel_rfl) fun K hK => ?_
  go_simp
  refine hK _ _ SD.out ?_
  clear hK K
  refine tkq 33 undef rfl (by kernel_rfl) (Or.inr ⟨by kernel_rfl, rfl⟩) SD.out ?_
  refine tkq 34 undef rfl (by kernel_rfl) (Or.inr ⟨by kernel_rfl, rfl⟩) SD.out ?_
  refine tkq 35 undef rfl (by kernel_rfl) (Or.inr ⟨by kernel_rfl, rfl⟩) SD.out ?_
  refine gwq 36 rfl (by kernel_rfl) fun K hK => ?_
  go_simp
  refine hK _ _ SD.out ?_
  clear hK K
  refine gwq 37 rfl (by kernel_rfl) fun K hK => ?_
  go_simp
  refine hK _ _ SD.out ?_
  clear hK K
  refine tkq 38 undef rfl (by kernel_rfl) (Or.inr ⟨by kernel_rfl, rfl⟩) SD.out ?_
  refine tkq 39 undef rfl (by kernel_rfl) (Or.inr ⟨by kernel_rfl, rfl⟩) SD.out ?_
  refine gwq 40 rfl (by kernel_rfl) fun K hK => ?_
  go_simp
  refine hK _ _ SD.out ?_
  clear hK K
  refine gwq 41 rfl (by kernel_rfl) fun K hK => ?_
  go_simp
  refine hK _ _ SD.out ?_
  clear hK K
  refine wpAnyH_done (by kernel_rfl) ?_ _
  unfold onlyN
  dsimp only
  go_wp2
  go_ret
  exact ⟨by rw [HNO.out]; rfl, B0.out.trans (SD.out.mono B0.out.size)⟩
 have C1 := Lh (Classical.not_not.1 h1)
 have d1 : decide (0 ≤ id) = true := decide_eq_true C1.out
 clear h1
 refine gwq 2 rfl (by kernel_rfl) fun K hK => ?_
 go_simp
 refine hK _ _ SD.out ?_
 clear hK K
 clear d1
 refine gwq 3 rfl (by kernel_rfl) fun K hK => ?_
 go_simp
 refine hK _ _ SD.out ?_
 clear hK K
 rcases Classical.em (¬ (id < 4)) with h1 | h1
 ·have HNO := Lh (okSb_f (s := ⟨id, lim, ro, L⟩) (fun h => h1 h.i4))
  have d1 : decide (id < 4) = false := decide_eq_false h1
  clear h1
  refine gwq 4 rfl (by kernel_rfl) fun K hK => ?_
  go_simp
  refine hK _ _ SD.out ?_
  clear hK K
  refine gwq 5 rfl (by kernel_rfl) fun K hK => ?_
  go_simp
  refine hK _ _ SD.out ?_
  clear hK K
  refine gwq 6 rfl (by kernel_rfl) fun K hK => ?_
  go_simp
  refine hK _ _ SD.out ?_
  clear hK K
  clear d1
  clear y0 y1 y2 y3
  refine gwq 7 rfl (by kernel_rfl) fun K hK => ?_
  go_simp
  refine hK _ _ SD.out ?_
  clear hK K
  refine gwq 8 rfl (by kernel_rfl) fun K hK => ?_
  go_simp
  refine hK _ _ SD.out ?_
  clear hK K
  refine tkq 9 undef rfl (by kernel_rfl) (Or.inr ⟨by kernel_rfl, rfl⟩) SD.out ?_
  refine tkq 10 undef rfl (by kernel_rfl) (Or.inr ⟨by kernel_rfl, rfl⟩) SD.out ?_
  refine tkq 11 undef rfl (by kernel_rfl) (Or.inr ⟨by kernel_rfl, rfl⟩) SD.out ?_
  refine tkq 12 undef rfl (by kernel_rfl) (Or.inr ⟨by kernel_rfl, rfl⟩) SD.out ?_
  refine tkq 13 undef rfl (by kernel_rfl) (Or.inr ⟨by kernel_rfl, rfl⟩) SD.out ?_
  refine gwq 14 rfl (by kernel_rfl) fun K hK => ?_
  go_simp
  refine hK _ _ SD.out ?_
  clear hK K
  refine gwq 15 rfl (by kernel_rfl) fun K hK => ?_
  go_simp
  refine hK _ _ SD.out ?_
  clear hK K
  refine tkq 16 undef rfl (by kernel_rfl) (Or.inr ⟨by kernel_rfl, rfl⟩) SD.out ?_
  refine tkq 17 undef rfl (by kernel_rfl) (Or.inr ⟨by kernel_rfl, rfl⟩) SD.out ?_
  refine tkq 18 undef rfl (by kernel_rfl) (Or.inr ⟨by kernel_rfl, rfl⟩) SD.out ?_
  refine gwq 19 rfl (by kernel_rfl) fun K hK => ?_
  go_simp
  refine hK _ _ SD.out ?_
  clear hK K
  refine gwq 20 rfl (by kernel_rfl) fun K hK => ?_
  go_simp
  refine hK _ _ SD.out ?_
  clear hK K
  refine tkq 21 undef rfl (by kernel_rfl) (Or.inr ⟨by kernel_rfl, rfl⟩) SD.out ?_
  refine tkq 22 undef rfl (by kernel_rfl) (Or.inr ⟨by kernel_rfl, rfl⟩) SD.out ?_
  refine tkq 23 undef rfl (by kernel_rfl) (Or.inr ⟨by kernel_rfl, rfl⟩) SD.out ?_
  refine tkq 24 undef rfl (by kernel_rfl) (Or.inr ⟨by kernel_rfl, rfl⟩) SD.out ?_
  refine gwq 25 rfl (by kernel_rfl) fun K hK => ?_
  go_simp
  refine hK _ _ SD.out ?_
  clear hK K
  refine gwq 26 rfl (by kernel_rfl) fun K hK => ?_
  go_simp
  refine hK _ _ SD.out ?_
  clear hK K
  refine tkq 27 undef rfl (by kernel_rfl) (Or.inr ⟨by kernel_rfl, rfl⟩) SD.out ?_
  refine tkq 28 undef rfl (by kernel_rfl) (Or.inr ⟨by kernel_rfl, rfl⟩) SD.out ?_
  refine tkq 29 undef rfl (by kernel_rfl) (Or.inr ⟨by kernel_rfl, rfl⟩) SD.out ?_
  refine tkq 30 undef rfl (by kernel_rfl) (Or.inr ⟨by kernel_rfl, rfl⟩) SD.out ?_
  refine gwq 31 rfl (by kernel_rfl) fun K hK => ?_
  go_simp
  refine hK _ _ SD.out ?_
  clear hK K
  refine gwq 32 rfl (by kernel_rfl) fun K hK => ?_
  go_simp
  refine hK _ _ SD.out ?_
  clear hK K
  refine tkq 33 undef rfl (by kernel_rfl) (Or.inr ⟨by kernel_rfl, rfl⟩) SD.out ?_
  refine tkq 34 undef rfl (by kernel_rfl) (Or.inr ⟨by kernel_rfl, rfl⟩) SD.out ?_
  refine tkq 35 undef rfl (by kernel_rfl) (Or.inr ⟨by kernel_rfl, rfl⟩) SD.out ?_
  refine gwq 36 rfl (by kernel_rfl) fun K hK => ?_
  go_simp
  refine hK _ _ SD.out ?_
  clear hK K
  refine gwq 37 rfl (by kernel_rfl) fun K hK => ?_
  go_simp
  refine hK _ _ SD.out ?_
  clear hK K
  refine tkq 38 undef rfl (by kernel_rfl) (Or.inr ⟨by kernel_rfl, rfl⟩) SD.out ?_
  refine tkq 39 undef rfl (by kernel_rfl) (Or.inr ⟨by kernel_rfl, rfl⟩) SD.out ?_
  refine gwq 40 rfl (by kernel_rfl) fun K hK => ?_
  go_simp
  refine hK _ _ SD.out ?_
  clear hK K
  refine gwq 41 rfl (by kernel_rfl) fun K hK => ?_
  go_simp
  refine hK _ _ SD.out ?_
  clear hK K
  refine wpAnyH_done (by kernel_rfl) ?_ _
  unfold onlyN
  dsimp only
  go_wp2
  go_ret
  exact ⟨by rw [HNO.out]; rfl, B0.out.trans (SD.out.mono B0.out.size)⟩
 have C2 := Lh (Classical.not_not.1 h1)
 have d1 : decide (id < 4) = true := decide_eq_true C2.out
 clear h1
 refine gwq 4 rfl (by kernel_rfl) fun K hK => ?_
 go_simp
 refine hK _ _ SD.out ?_
 clear hK K
 refine gwq 5 rfl (by kernel_rfl) fun K hK => ?_
 go_simp
 refine hK _ _ SD.out ?_
 clear hK K
 refine gwq 6 rfl (by kernel_rfl) fun K hK => ?_
 go_simp
 refine hK _ _ SD.out ?_
 clear hK K
 clear d1
 refine gwq 7 rfl (by kernel_rfl) fun K hK => ?_
 go_simp
 refine hK _ _ SD.out ?_
 clear hK K
 refine gwq 8 rfl (by kernel_rfl) fun K hK => ?_
 go_simp
 refine hK _ _ SD.out ?_
 clear hK K
 rcases Classical.em (¬ (4136 ≤ lim)) with h1 | h1
 ·have HNO := Lh (okSb_f (s := ⟨id, lim, ro, L⟩) (fun h => h1 h.l0))
  have d1 : decide (4136 ≤ lim) = false := decide_eq_false h1
  clear h1
  refine tkq 9 (.pointer (some ⟨w.heap.size, 1, none⟩)) rfl (by kernel_rfl) (Or.inl ⟨by kernel_rfl, fun w' hw' => by
   skip
   go_simp⟩) SD.out ?_
  refine tkq 10 (.int .i64 lim) rfl (by kernel_rfl) (Or.inl ⟨by kernel_rfl, fun w' hw' => by
   obtain ⟨⟨y0, y1, y2, y3⟩, -⟩ := bx4 ((hw'.block _ (lt_of_some HG.out)).trans HG.out)
   go_simp⟩) SD.out ?_
  refine gwq 11 rfl (by kernel_rfl) fun K hK => ?_
  go_simp
  go_at_call 41
  refine (psrec_any 4096 (by unfold I64b; decide) WD).mono ?_
  rintro e V1 ⟨rfl, rfl⟩
  refine hK _ _ SD.out ?_
  clear hK K
  rw [show szI6 4096 = 4120 by decide]
  have e16 : IntKind.i64.wrap 4136 = 4136 := by decide
  refine gwq 12 rfl (by kernel_rfl) fun K hK => ?_
  go_simp
  refine hK _ _ SD.out ?_
  clear hK K
  clear e16
  refine gwq 13 rfl (by kernel_rfl) fun K hK => ?_
  go_simp
  refine hK _ _ SD.out ?_
  clear hK K
  clear d1
  clear y0 y1 y2 y3
  refine gwq 14 rfl (by kernel_rfl) fun K hK => ?_
  go_simp
  refine hK _ _ SD.out ?_
  clear hK K
  refine gwq 15 rfl (by kernel_rfl) fun K hK => ?_
  go_simp
  refine hK _ _ SD.out ?_
  clear hK K
  refine tkq 16 undef rfl (by kernel_rfl) (Or.inr ⟨by kernel_rfl, rfl⟩) SD.out ?_
  refine tkq 17 undef rfl (by kernel_rfl) (Or.inr ⟨by kernel_rfl, rfl⟩) SD.out ?_
  refine tkq 18 undef rfl (by kernel_rfl) (Or.inr ⟨by kernel_rfl, rfl⟩) SD.out ?_
  refine gwq 19 rfl (by kernel_rfl) fun K hK => ?_
  go_simp
  refine hK _ _ SD.out ?_
  clear hK K
  refine gwq 20 rfl (by kernel_rfl) fun K hK => ?_
  go_simp
  refine hK _ _ SD.out ?_
  clear hK K
  refine tkq 21 undef rfl (by kernel_rfl) (Or.inr ⟨by kernel_rfl, rfl⟩) SD.out ?_
  refine tkq 22 undef rfl (by kernel_rfl) (Or.inr ⟨by kernel_rfl, rfl⟩) SD.out ?_
  refine tkq 23 undef rfl (by kernel_rfl) (Or.inr ⟨by kernel_rfl, rfl⟩) SD.out ?_
  refine tkq 24 undef rfl (by kernel_rfl) (Or.inr ⟨by kernel_rfl, rfl⟩) SD.out ?_
  refine gwq 25 rfl (by kernel_rfl) fun K hK => ?_
  go_simp
  refine hK _ _ SD.out ?_
  clear hK K
  refine gwq 26 rfl (by kernel_rfl) fun K hK => ?_
  go_simp
  refine hK _ _ SD.out ?_
  clear hK K
  refine tkq 27 undef rfl (by kernel_rfl) (Or.inr ⟨by kernel_rfl, rfl⟩) SD.out ?_
  refine tkq 28 undef rfl (by kernel_rfl) (Or.inr ⟨by kernel_rfl, rfl⟩) SD.out ?_
  refine tkq 29 undef rfl (by kernel_rfl) (Or.inr ⟨by kernel_rfl, rfl⟩) SD.out ?_
  refine tkq 30 undef rfl (by kernel_rfl) (Or.inr ⟨by kernel_rfl, rfl⟩) SD.out ?_
  refine gwq 31 rfl (by kernel_rfl) fun K hK => ?_
  go_simp
  refine hK _ _ SD.out ?_
  clear hK K
  refine gwq 32 rfl (by kernel_rfl) fun K hK => ?_
  go_simp
  refine hK _ _ SD.out ?_
  clear hK K
  refine tkq 33 undef rfl (by kernel_rfl) (Or.inr ⟨by kernel_rfl, rfl⟩) SD.out ?_
  refine tkq 34 undef rfl (by kernel_rfl) (Or.inr ⟨by kernel_rfl, rfl⟩) SD.out ?_
  refine tkq 35 undef rfl (by kernel_rfl) (Or.inr ⟨by kernel_rfl, rfl⟩) SD.out ?_
  refine gwq 36 rfl (by kernel_rfl) fun K hK => ?_
  go_simp
  refine hK _ _ SD.out ?_
  clear hK K
  refine gwq 37 rfl (by kernel_rfl) fun K hK => ?_
  go_simp
  refine hK _ _ SD.out ?_
  clear hK K
  refine tkq 38 undef rfl (by kernel_rfl) (Or.inr ⟨by kernel_rfl, rfl⟩) SD.out ?_
  refine tkq 39 undef rfl (by kernel_rfl) (Or.inr ⟨by kernel_rfl, rfl⟩) SD.out ?_
  refine gwq 40 rfl (by kernel_rfl) fun K hK => ?_
  go_simp
  refine hK _ _ SD.out ?_
  clear hK K
  refine gwq 41 rfl (by kernel_rfl) fun K hK => ?_
  go_simp
  refine hK _ _ SD.out ?_
  clear hK K
  refine wpAnyH_done (by kernel_rfl) ?_ _
  unfold onlyN
  dsimp only
  go_wp2
  go_ret
  exact ⟨by rw [HNO.out]; rfl, B0.out.trans (SD.out.mono B0.out.size)⟩
 have C3 := Lh (Classical.not_not.1 h1)
 have d1 : decide (4136 ≤ lim) = true := decide_eq_true C3.out
 clear h1
 refine tkq 9 (.pointer (some ⟨w.heap.size, 1, none⟩)) rfl (by kernel_rfl) (Or.inl ⟨by kernel_rfl, fun w' hw' => by
  skip
  go_simp⟩) SD.out ?_
 refine tkq 10 (.int .i64 lim) rfl (by kernel_rfl) (Or.inl ⟨by kernel_rfl, fun w' hw' => by
  obtain ⟨⟨y0, y1, y2, y3⟩, -⟩ := bx4 ((hw'.block _ (lt_of_some HG.out)).trans HG.out)
  go_simp⟩) SD.out ?_
 refine gwq 11 rfl (by kernel_rfl) fun K hK => ?_
 go_simp
 go_at_call 41
 refine (psrec_any 4096 (by unfold I64b; decide) WD).mono ?_
 rintro e V1 ⟨rfl, rfl⟩
 refine hK _ _ SD.out ?_
 clear hK K
 rw [show szI6 4096 = 4120 by decide]
 have e16 : IntKind.i64.wrap 4136 = 4136 := by decide
 refine gwq 12 rfl (by kernel_rfl) fun K hK => ?_
 go_simp
 refine hK _ _ SD.out ?_
 clear hK K
 clear e16
 refine gwq 13 rfl (by kernel_rfl) fun K hK => ?_
 go_simp
 refine hK _ _ SD.out ?_
 clear hK K
 clear d1
 refine gwq 14 rfl (by kernel_rfl) fun K hK => ?_
 go_simp
 refine hK _ _ SD.out ?_
 clear hK K
 refine gwq 15 rfl (by kernel_rfl) fun K hK => ?_
 go_simp
 refine hK _ _ SD.out ?_
 clear hK K
 rcases Classical.em (¬ (lim ≤ 262144)) with h1 | h1
 ·have HNO := Lh (okSb_f (s := ⟨id, lim, ro, L⟩) (fun h => h1 h.l1))
  have d1 : decide (lim ≤ 262144) = false := decide_eq_false h1
  clear h1
  refine gwq 16 rfl (by kernel_rfl) fun K hK => ?_
  go_simp
  refine hK _ _ SD.out ?_
  clear hK K
  refine gwq 17 rfl (by kernel_rfl) fun K hK => ?_
  go_simp
  refine hK _ _ SD.out ?_
  clear hK K
  refine gwq 18 rfl (by kernel_rfl) fun K hK => ?_
  go_simp
  refine hK _ _ SD.out ?_
  clear hK K
  clear d1
  clear y0 y1 y2 y3
  refine gwq 19 rfl (by kernel_rfl) fun K hK => ?_
  go_simp
  refine hK _ _ SD.out ?_
  clear hK K
  refine gwq 20 rfl (by kernel_rfl) fun K hK => ?_
  go_simp
  refine hK _ _ SD.out ?_
  clear hK K
  refine tkq 21 undef rfl (by kernel_rfl) (Or.inr ⟨by kernel_rfl, rfl⟩) SD.out ?_
  refine tkq 22 undef rfl (by kernel_rfl) (Or.inr ⟨by kernel_rfl, rfl⟩) SD.out ?_
  refine tkq 23 undef rfl (by kernel_rfl) (Or.inr ⟨by kernel_rfl, rfl⟩) SD.out ?_
  refine tkq 24 undef rfl (by kernel_rfl) (Or.inr ⟨by kernel_rfl, rfl⟩) SD.out ?_
  refine gwq 25 rfl (by kernel_rfl) fun K hK => ?_
  go_simp
  refine hK _ _ SD.out ?_
  clear hK K
  refine gwq 26 rfl (by kernel_rfl) fun K hK => ?_
  go_simp
  refine hK _ _ SD.out ?_
  clear hK K
  refine tkq 27 undef rfl (by kernel_rfl) (Or.inr ⟨by kernel_rfl, rfl⟩) SD.out ?_
  refine tkq 28 undef rfl (by kernel_rfl) (Or.inr ⟨by kernel_rfl, rfl⟩) SD.out ?_
  refine tkq 29 undef rfl (by kernel_rfl) (Or.inr ⟨by kernel_rfl, rfl⟩) SD.out ?_
  refine tkq 30 undef rfl (by kernel_rfl) (Or.inr ⟨by kernel_rfl, rfl⟩) SD.out ?_
  refine gwq 31 rfl (by kernel_rfl) fun K hK => ?_
  go_simp
  refine hK _ _ SD.out ?_
  clear hK K
  refine gwq 32 rfl (by kernel_rfl) fun K hK => ?_
  go_simp
  refine hK _ _ SD.out ?_
  clear hK K
  refine tkq 33 undef rfl (by kernel_rfl) (Or.inr ⟨by kernel_rfl, rfl⟩) SD.out ?_
  refine tkq 34 undef rfl (by kernel_rfl) (Or.inr ⟨by kernel_rfl, rfl⟩) SD.out ?_
  refine tkq 35 undef rfl (by kernel_rfl) (Or.inr ⟨by kernel_rfl, rfl⟩) SD.out ?_
  refine gwq 36 rfl (by kernel_rfl) fun K hK => ?_
  go_simp
  refine hK _ _ SD.out ?_
  clear hK K
  refine gwq 37 rfl (by kernel_rfl) fun K hK => ?_
  go_simp
  refine hK _ _ SD.out ?_
  clear hK K
  refine tkq 38 undef rfl (by kernel_rfl) (Or.inr ⟨by kernel_rfl, rfl⟩) SD.out ?_
  refine tkq 39 undef rfl (by kernel_rfl) (Or.inr ⟨by kernel_rfl, rfl⟩) SD.out ?_
  refine gwq 40 rfl (by kernel_rfl) fun K hK => ?_
  go_simp
  refine hK _ _ SD.out ?_
  clear hK K
  refine gwq 41 rfl (by kernel_rfl) fun K hK => ?_
  go_simp
  refine hK _ _ SD.out ?_
  clear hK K
  refine wpAnyH_done (by kernel_rfl) ?_ _
  unfold onlyN
  dsimp only
  go_wp2
  go_ret
  exact ⟨by rw [HNO.out]; rfl, B0.out.trans (SD.out.mono B0.out.size)⟩
 have C4 := Lh (Classical.not_not.1 h1)
 have d1 : decide (lim ≤ 262144) = true := decide_eq_true C4.out
 clear h1
 refine gwq 16 rfl (by kernel_rfl) fun K hK => ?_
 go_simp
 refine hK _ _ SD.out ?_
 clear hK K
 refine gwq 17 rfl (by kernel_rfl) fun K hK => ?_
 go_simp
 refine hK _ _ SD.out ?_
 clear hK K
 refine gwq 18 rfl (by kernel_rfl) fun K hK => ?_
 go_simp
 refine hK _ _ SD.out ?_
 clear hK K
 clear d1
 refine gwq 19 rfl (by kernel_rfl) fun K hK => ?_
 go_simp
 refine hK _ _ SD.out ?_
 clear hK K
 refine gwq 20 rfl (by kernel_rfl) fun K hK => ?_
 go_simp
 refine hK _ _ SD.out ?_
 clear hK K
 rcases Classical.em (¬ (1 ≤ (n : Int))) with h1 | h1
 ·have HNO := Lh (okSb_f (s := ⟨id, lim, ro, L⟩) (fun h => h1 (by have := h.n1; have := HN.out; simp only at *; omega)))
  have d1 : decide (1 ≤ (n : Int)) = false := decide_eq_false h1
  clear h1
  refine gwq 21 rfl (by kernel_rfl) fun K hK => ?_
  go_simp
  refine hK _ _ SD.out ?_
  clear hK K
  refine gwq 22 rfl (by kernel_rfl) fun K hK => ?_
  go_simp
  refine hK _ _ SD.out ?_
  clear hK K
  refine gwq 23 rfl (by kernel_rfl) fun K hK => ?_
  go_simp
  refine hK _ _ SD.out ?_
  clear hK K
  refine gwq 24 rfl (by kernel_rfl) fun K hK => ?_
  go_simp
  refine hK _ _ SD.out ?_
  clear hK K
  clear d1
  clear y0 y1 y2 y3
  refine gwq 25 rfl (by kernel_rfl) fun K hK => ?_
  go_simp
  refine hK _ _ SD.out ?_
  clear hK K
  refine gwq 26 rfl (by kernel_rfl) fun K hK => ?_
  go_simp
  refine hK _ _ SD.out ?_
  clear hK K
  refine tkq 27 undef rfl (by kernel_rfl) (Or.inr ⟨by kernel_rfl, rfl⟩) SD.out ?_
  refine tkq 28 undef rfl (by kernel_rfl) (Or.inr ⟨by kernel_rfl, rfl⟩) SD.out ?_
  refine tkq 29 undef rfl (by kernel_rfl) (Or.inr ⟨by kernel_rfl, rfl⟩) SD.out ?_
  refine tkq 30 undef rfl (by kernel_rfl) (Or.inr ⟨by kernel_rfl, rfl⟩) SD.out ?_
  refine gwq 31 rfl (by kernel_rfl) fun K hK => ?_
  go_simp
  refine hK _ _ SD.out ?_
  clear hK K
  refine gwq 32 rfl (by kernel_rfl) fun K hK => ?_
  go_simp
  refine hK _ _ SD.out ?_
  clear hK K
  refine tkq 33 undef rfl (by kernel_rfl) (Or.inr ⟨by kernel_rfl, rfl⟩) SD.out ?_
  refine tkq 34 undef rfl (by kernel_rfl) (Or.inr ⟨by kernel_rfl, rfl⟩) SD.out ?_
  refine tkq 35 undef rfl (by kernel_rfl) (Or.inr ⟨by kernel_rfl, rfl⟩) SD.out ?_
  refine gwq 36 rfl (by kernel_rfl) fun K hK => ?_
  go_simp
  refine hK _ _ SD.out ?_
  clear hK K
  refine gwq 37 rfl (by kernel_rfl) fun K hK => ?_
  go_simp
  refine hK _ _ SD.out ?_
  clear hK K
  refine tkq 38 undef rfl (by kernel_rfl) (Or.inr ⟨by kernel_rfl, rfl⟩) SD.out ?_
  refine tkq 39 undef rfl (by kernel_rfl) (Or.inr ⟨by kernel_rfl, rfl⟩) SD.out ?_
  refine gwq 40 rfl (by kernel_rfl) fun K hK => ?_
  go_simp
  refine hK _ _ SD.out ?_
  clear hK K
  refine gwq 41 rfl (by kernel_rfl) fun K hK => ?_
  go_simp
  refine hK _ _ SD.out ?_
  clear hK K
  refine wpAnyH_done (by kernel_rfl) ?_ _
  unfold onlyN
  dsimp only
  go_wp2
  go_ret
  exact ⟨by rw [HNO.out]; rfl, B0.out.trans (SD.out.mono B0.out.size)⟩
 have C5 := Lh (Classical.not_not.1 h1)
 have d1 : decide (1 ≤ (n : Int)) = true := decide_eq_true C5.out
 clear h1
 refine gwq 21 rfl (by kernel_rfl) fun K hK => ?_
 go_simp
 refine hK _ _ SD.out ?_
 clear hK K
 refine gwq 22 rfl (by kernel_rfl) fun K hK => ?_
 go_simp
 refine hK _ _ SD.out ?_
 clear hK K
 refine gwq 23 rfl (by kernel_rfl) fun K hK => ?_
 go_simp
 refine hK _ _ SD.out ?_
 clear hK K
 refine gwq 24 rfl (by kernel_rfl) fun K hK => ?_
 go_simp
 refine hK _ _ SD.out ?_
 clear hK K
 clear d1
 refine gwq 25 rfl (by kernel_rfl) fun K hK => ?_
 go_simp
 refine hK _ _ SD.out ?_
 clear hK K
 refine gwq 26 rfl (by kernel_rfl) fun K hK => ?_
 go_simp
 refine hK _ _ SD.out ?_
 clear hK K
 rcases Classical.em (¬ ((n : Int) ≤ 8)) with h1 | h1
 ·have HNO := Lh (okSb_f (s := ⟨id, lim, ro, L⟩) (fun h => h1 (by have := h.n8; have := HN.out; simp only at *; omega)))
  have d1 : decide ((n : Int) ≤ 8) = false := decide_eq_false h1
  clear h1
  refine gwq 27 rfl (by kernel_rfl) fun K hK => ?_
  go_simp
  refine hK _ _ SD.out ?_
  clear hK K
  refine gwq 28 rfl (by kernel_rfl) fun K hK => ?_
  go_simp
  refine hK _ _ SD.out ?_
  clear hK K
  refine gwq 29 rfl (by kernel_rfl) fun K hK => ?_
  go_simp
  refine hK _ _ SD.out ?_
  clear hK K
  refine gwq 30 rfl (by kernel_rfl) fun K hK => ?_
  go_simp
  refine hK _ _ SD.out ?_
  clear hK K
  clear d1
  clear y0 y1 y2 y3
  refine gwq 31 rfl (by kernel_rfl) fun K hK => ?_
  go_simp
  refine hK _ _ SD.out ?_
  clear hK K
  refine gwq 32 rfl (by kernel_rfl) fun K hK => ?_
  go_simp
  refine hK _ _ SD.out ?_
  clear hK K
  refine tkq 33 undef rfl (by kernel_rfl) (Or.inr ⟨by kernel_rfl, rfl⟩) SD.out ?_
  refine tkq 34 undef rfl (by kernel_rfl) (Or.inr ⟨by kernel_rfl, rfl⟩) SD.out ?_
  refine tkq 35 undef rfl (by kernel_rfl) (Or.inr ⟨by kernel_rfl, rfl⟩) SD.out ?_
  refine gwq 36 rfl (by kernel_rfl) fun K hK => ?_
  go_simp
  refine hK _ _ SD.out ?_
  clear hK K
  refine gwq 37 rfl (by kernel_rfl) fun K hK => ?_
  go_simp
  refine hK _ _ SD.out ?_
  clear hK K
  refine tkq 38 undef rfl (by kernel_rfl) (Or.inr ⟨by kernel_rfl, rfl⟩) SD.out ?_
  refine tkq 39 undef rfl (by kernel_rfl) (Or.inr ⟨by kernel_rfl, rfl⟩) SD.out ?_
  refine gwq 40 rfl (by kernel_rfl) fun K hK => ?_
  go_simp
  refine hK _ _ SD.out ?_
  clear hK K
  refine gwq 41 rfl (by kernel_rfl) fun K hK => ?_
  go_simp
  refine hK _ _ SD.out ?_
  clear hK K
  refine wpAnyH_done (by kernel_rfl) ?_ _
  unfold onlyN
  dsimp only
  go_wp2
  go_ret
  exact ⟨by rw [HNO.out]; rfl, B0.out.trans (SD.out.mono B0.out.size)⟩
 have C6 := Lh (Classical.not_not.1 h1)
 have d1 : decide ((n : Int) ≤ 8) = true := decide_eq_true C6.out
 clear h1
 refine gwq 27 rfl (by kernel_rfl) fun K hK => ?_
 go_simp
 refine hK _ _ SD.out ?_
 clear hK K
 refine gwq 28 rfl (by kernel_rfl) fun K hK => ?_
 go_simp
 refine hK _ _ SD.out ?_
 clear hK K
 refine gwq 29 rfl (by kernel_rfl) fun K hK => ?_
 go_simp
 refine hK _ _ SD.out ?_
 clear hK K
 refine gwq 30 rfl (by kernel_rfl) fun K hK => ?_
 go_simp
 refine hK _ _ SD.out ?_
 clear hK K
 clear d1
 refine gwq 31 rfl (by kernel_rfl) fun K hK => ?_
 go_simp
 refine hK _ _ SD.out ?_
 clear hK K
 refine gwq 32 rfl (by kernel_rfl) fun K hK => ?_
 go_simp
 refine hK _ _ SD.out ?_
 clear hK K
 refine gwq 33 rfl (by kernel_rfl) fun K hK => ?_
 go_simp
 refine hK _ _ SD.out ?_
 clear hK K
 refine gwq 34 rfl (by kernel_rfl) fun K hK => ?_
 go_simp
 refine hK _ _ SD.out ?_
 clear hK K
 clear y0 y1 y2 y3
 rcases Classical.em (¬ ∀ i, i < L.length → ordAt L i) with h1 | h1
 ·have HNO := Lh (okSb_f (s := ⟨id, lim, ro, L⟩) (fun h => h1 h.od))
  have PO := fun W h => POR.out W h
  rw [ordB_f h1] at PO
  clear h1
  refine gwq 35 rfl (by kernel_rfl) fun K hK => ?_
  go_simp
  go_at_call 42
  refine (PO WD (gl_below GL.out SD.out)).mono ?_
  rintro e V2 ⟨rfl, hb⟩
  refine hK _ _ (SD.out.trans (hb.mono SD.out.size)) ?_
  clear hK K
  have S1 := Lh (SD.out.trans (hb.mono SD.out.size))
  clear hb SD
  clear PO
  refine gwq 36 rfl (by kernel_rfl) fun K hK => ?_
  go_simp
  refine hK _ _ S1.out ?_
  clear hK K
  refine gwq 37 rfl (by kernel_rfl) fun K hK => ?_
  go_simp
  refine hK _ _ S1.out ?_
  clear hK K
  refine tkq 38 undef rfl (by kernel_rfl) (Or.inr ⟨by kernel_rfl, rfl⟩) S1.out ?_
  refine tkq 39 undef rfl (by kernel_rfl) (Or.inr ⟨by kernel_rfl, rfl⟩) S1.out ?_
  refine gwq 40 rfl (by kernel_rfl) fun K hK => ?_
  go_simp
  refine hK _ _ S1.out ?_
  clear hK K
  refine gwq 41 rfl (by kernel_rfl) fun K hK => ?_
  go_simp
  refine hK _ _ S1.out ?_
  clear hK K
  refine wpAnyH_done (by kernel_rfl) ?_ _
  unfold onlyN
  dsimp only
  go_wp2
  go_ret
  exact ⟨by rw [HNO.out]; rfl, B0.out.trans (S1.out.mono B0.out.size)⟩
 have C7 := Lh (Classical.not_not.1 h1)
 have PO := fun W h => POR.out W h
 rw [ordB_t C7.out] at PO
 clear h1
 refine gwq 35 rfl (by kernel_rfl) fun K hK => ?_
 go_simp
 go_at_call 42
 refine (PO WD (gl_below GL.out SD.out)).mono ?_
 rintro e V2 ⟨rfl, hb⟩
 refine hK _ _ (SD.out.trans (hb.mono SD.out.size)) ?_
 clear hK K
 have S1 := Lh (SD.out.trans (hb.mono SD.out.size))
 clear hb SD
 clear PO
 refine gwq 36 rfl (by kernel_rfl) fun K hK => ?_
 go_simp
 refine hK _ _ S1.out ?_
 clear hK K
 refine gwq 37 rfl (by kernel_rfl) fun K hK => ?_
 go_simp
 refine hK _ _ S1.out ?_
 clear hK K
 obtain ⟨⟨y0, y1, y2, y3⟩, -⟩ := bx4 ((S1.out.block _ (lt_of_some HG.out)).trans HG.out)
 refine gwq 38 rfl (by kernel_rfl) fun K hK => ?_
 go_simp
 refine hK _ _ S1.out ?_
 clear hK K
 clear y0 y1 y2 y3
 have PM := proomy_any id lim ro a n c L V2 HN.out (gl_below GL.out S1.out) (by have := C5.out; omega) (by have := C6.out; omega) ⟨by have := C3.out; omega, by have := C4.out; omega⟩ (fun k hk => HF.out _ (getD_mem hk HN.out)) (fun k hk => (C7.out k (by rw [← HN.out]; exact hk)).ok)
 rcases Classical.em (¬ roomP lim L) with h1 | h1
 ·have HNO := Lh (okSb_f (s := ⟨id, lim, ro, L⟩) (fun h => h1 h.rm))
  rw [roomB_f h1] at PM
  clear h1
  refine gwq 39 rfl (by kernel_rfl) fun K hK => ?_
  go_simp
  go_at_call 43
  refine PM.mono ?_
  rintro e V3 ⟨rfl, hb⟩
  refine hK _ _ (S1.out.trans (hb.mono S1.out.size)) ?_
  clear hK K
  have S9 := Lh (S1.out.trans (hb.mono S1.out.size))
  clear hb S1
  clear PM
  refine gwq 40 rfl (by kernel_rfl) fun K hK => ?_
  go_simp
  refine hK _ _ S9.out ?_
  clear hK K
  refine gwq 41 rfl (by kernel_rfl) fun K hK => ?_
  go_simp
  refine hK _ _ S9.out ?_
  clear hK K
  refine wpAnyH_done (by kernel_rfl) ?_ _
  unfold onlyN
  dsimp only
  go_wp2
  go_ret
  exact ⟨by rw [HNO.out]; rfl, B0.out.trans (S9.out.mono B0.out.size)⟩
 have C8 := Lh (Classical.not_not.1 h1)
 rw [roomB_t C8.out] at PM
 clear h1
 refine gwq 39 rfl (by kernel_rfl) fun K hK => ?_
 go_simp
 go_at_call 43
 refine PM.mono ?_
 rintro e V3 ⟨rfl, hb⟩
 refine hK _ _ (S1.out.trans (hb.mono S1.out.size)) ?_
 clear hK K
 have S9 := Lh (S1.out.trans (hb.mono S1.out.size))
 clear hb S1
 clear PM
 refine gwq 40 rfl (by kernel_rfl) fun K hK => ?_
 go_simp
 refine hK _ _ S9.out ?_
 clear hK K
 refine gwq 41 rfl (by kernel_rfl) fun K hK => ?_
 go_simp
 refine hK _ _ S9.out ?_
 clear hK K
 refine wpAnyH_done (by kernel_rfl) ?_ _
 unfold onlyN
 dsimp only
 go_wp2
 go_ret
 exact ⟨by rw [okSb_t (s := ⟨id, lim, ro, L⟩) ⟨C1.out, C2.out, C3.out, C4.out, by have := C5.out; have := HN.out; simp only; omega, by have := C6.out; have := HN.out; simp only; omega, C7.out, C8.out⟩]; rfl, B0.out.trans (S9.out.mono B0.out.size)⟩
/-- A slot of few items. -/
def LSl (s : Slt) : Prop := s.gens.length ≤ 10000 ∧ ∀ g ∈ s.gens, LGe g
theorem psvalid_any (v : Value) (s : Slt) (w : World) (hv : Sv w v s) (hf : LSl s) : Calls Tryz.prog 12 #[v] w fun e w' => e = .returned (.bool (okSb s)) ∧ Below w.heap.size w w' := by
 obtain ⟨gv, rfl, hg, -, -⟩ := hv
 obtain ⟨a, c, rfl, -, -⟩ := gl_form hg
 exact psvalid_x s.id s.limit s.ro a s.gens.length c s.gens w rfl hg hf.1 hf.2
end Go.Proofs.YtgbnclepgjcakaaGreat.Gf
