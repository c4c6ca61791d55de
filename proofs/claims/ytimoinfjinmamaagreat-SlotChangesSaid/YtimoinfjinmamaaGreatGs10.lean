/- What is proved here: the program's Valid of a slot, for every slot of few items. -/
/- What is proved here: the program's Valid of a slot, for every slot of few items. -/
import Derived.Test.YtimoinfjinmamaaGreatGs9
namespace Go.Proofs.YtimoinfjinmamaaGreat.Gf
open Joins ChangeShapes WideShapes ChangeAt RowKit Deep By Qt
set_option maxRecDepth 100000
set_option maxHeartbeats 204800000
theorem getD_mem {n k : Nat} {L : List Ge} (h : k < n) (hn : n = L.length) : L.getD k g0 ∈ L := by
 subst hn;rw [List.getD_eq_getElem?_getD, List.getElem?_eq_getElem h];exact List.getElem_mem h
structure okS (s : Slt) : Prop where
 i0 : 0 ≤ s.id
 i4 : s.id < 4
 l0 : 4136 ≤ s.limit
 l1 : s.limit ≤ 262144
 n1 : 1 ≤ s.gens.length
 n8 : s.gens.length ≤ 8
 od : ∀ i, i < s.gens.length → ordAt s.gens i
 rm : roomP s.limit s.gens
noncomputable def okSb (s : Slt) : Bool := @decide (okS s) (Classical.propDecidable _)
theorem jwm {s : Slt} (h : okS s) : okSb s = true := by unfold okSb; exact @decide_eq_true _ (Classical.propDecidable _) h
theorem jwf {s : Slt} (h : ¬ okS s) : okSb s = false := by unfold okSb; exact @decide_eq_false _ (Classical.propDecidable _) h
theorem psvalid_x (id lim : Int) (ro : Bool) (a : Option Addr) (n c : Nat) (L : List Ge) (w : World) (hn : n = L.length) (hl : Gl w (.slice a n c) L) (hlen : n ≤ 10000) (hf : ∀ g ∈ L, LGe g) : Calls Tryz.prog 46 #[.agg #[.int .i64 id, .int .i64 lim, .bool ro, .slice a n c]] w fun e w' => e = .returned (.bool (okSb ⟨id, lim, ro, L⟩)) ∧ Below w.heap.size w w' := by
 have HF := Lh hf;have HN := Lh hn;have HLN := Lh hlen;have B0 := Lh (jqg w (.cells #[.int .i64 id, .int .i64 lim, .bool ro, .slice a n c] 39));have HG := Lh (heap_alloc_new w (.cells #[.int .i64 id, .int .i64 lim, .bool ro, .slice a n c] 39));have GL := Lh (jqj hl B0.out);have POR := Lh (fun W (h : Gl W (.slice a n c) L) => porderly_any (.slice a n c) L W h (by rw [← hn]; exact hlen) hf);clear hl hf hn hlen
 go_enter Tryz.func46, Tryz.ntmps46
 go_upto_region 1 with fail
 generalize w.alloc (.cells #[.int .i64 id, .int .i64 lim, .bool ro, .slice a n c] 39) = W0 at *;refine jq0 ?_;refine jqh (fun W' => Below W0.heap.size W0 W') [0, 1] 40 (by kernel_rfl) (fun _ _ _ _ _ h => h.elim) (by kernel_rfl) (by rfl) (by rfl) (Below.refl W0.heap.size W0).drew ?_;simp only [jq2, List.filterMap_cons, List.filterMap_nil, List.getElem?_toArray];refine jqc (fun K hK => ?_);go_simp;refine ⟨_, fun _ _ => rfl, hK _ ?_⟩;clear hK K;refine jqc (fun K hK => ?_);go_simp;refine ⟨.int .i64 id, fun w' hw' => by
  obtain ⟨⟨y0, y1, y2, y3⟩, -⟩ := bx4 ((hw'.block _ (jqb HG.out)).trans HG.out);go_simp, hK _ ?_⟩
 clear hK K;refine jqp ?_;have SD := Lh (Below.refl W0.heap.size W0).drew;generalize W0.drew = WD at *;obtain ⟨⟨y0, y1, y2, y3⟩, -⟩ := bx4 ((SD.out.block _ (jqb HG.out)).trans HG.out);rcases Classical.em (¬ (0 ≤ id)) with h1 | h1
 ·have HNO := Lh (jwf (s := ⟨id, lim, ro, L⟩) (fun h => h1 h.i0))
  have d1 : decide (0 ≤ id) = false := decide_eq_false h1;clear h1;refine gwq 2 fun K hK => ?_;go_simp;refine hK _ _ SD.out ?_;clear hK K;clear d1;clear y0 y1 y2 y3;refine gwq 3 fun K hK => ?_;go_simp;refine hK _ _ SD.out ?_;clear hK K;refine tkn 4 SD.out ?_;refine tkn 5 SD.out ?_;refine tkn 6 SD.out ?_;refine gwq 7 fun K hK => ?_;go_simp;refine hK _ _ SD.out ?_;clear hK K;refine gwq 8 fun K hK => ?_;go_simp;refine hK _ _ SD.out ?_;clear hK K;refine tkn 9 SD.out ?_;refine tkn 10 SD.out ?_;refine tkn 11 SD.out ?_;refine tkn 12 SD.out ?_;refine tkn 13 SD.out ?_;refine gwq 14 fun K hK => ?_;go_simp;refine hK _ _ SD.out ?_;clear hK K;refine gwq 15 fun K hK => ?_;go_simp;refine hK _ _ SD.out ?_;clear hK K;refine tkn 16 SD.out ?_;refine tkn 17 SD.out ?_;refine tkn 18 SD.out ?_;refine gwq 19 fun K hK => ?_;go_simp;refine hK _ _ SD.out ?_;clear hK K;refine gwq 20 fun K hK => ?_;go_simp;refine hK _ _ SD.out ?_;clear hK K;refine tkn 21 SD.out ?_;refine tkn 22 SD.out ?_;refine tkn 23 SD.out ?_;refine tkn 24 SD.out ?_;refine gwq 25 fun K hK => ?_;go_simp;refine hK _ _ SD.out ?_;clear hK K;refine gwq 26 fun K hK => ?_;go_simp;refine hK _ _ SD.out ?_;clear hK K;refine tkn 27 SD.out ?_;refine tkn 28 SD.out ?_;refine tkn 29 SD.out ?_;refine tkn 30 SD.out ?_;refine gwq 31 fun K hK => ?_;go_simp;refine hK _ _ SD.out ?_;clear hK K;refine gwq 32 fun K hK => ?_;go_simp;refine hK _ _ SD.out ?_;clear hK K;refine tkn 33 SD.out ?_;refine tkn 34 SD.out ?_;refine tkn 35 SD.out ?_;refine gwq 36 fun K hK => ?_;go_simp;refine hK _ _ SD.out ?_;clear hK K;refine gwq 37 fun K hK => ?_;go_simp;refine hK _ _ SD.out ?_;clear hK K;refine tkn 38 SD.out ?_;refine tkn 39 SD.out ?_;refine gwq 40 fun K hK => ?_;go_simp;refine hK _ _ SD.out ?_;clear hK K;refine gwq 41 fun K hK => ?_;go_simp;refine hK _ _ SD.out ?_;clear hK K;refine wpAnyH_done (by kernel_rfl) ?_ _;unfold jqw;dsimp only
  go_wp2
  go_ret
  exact ⟨by rw [HNO.out]; rfl, B0.out.trans (SD.out.mono B0.out.size)⟩
 have C1 := Lh (Classical.not_not.1 h1);have d1 : decide (0 ≤ id) = true := decide_eq_true C1.out;clear h1;refine gwq 2 fun K hK => ?_;go_simp;refine hK _ _ SD.out ?_;clear hK K;clear d1;refine gwq 3 fun K hK => ?_;go_simp;refine hK _ _ SD.out ?_;clear hK K;rcases Classical.em (¬ (id < 4)) with h1 | h1
 ·have HNO := Lh (jwf (s := ⟨id, lim, ro, L⟩) (fun h => h1 h.i4))
  have d1 : decide (id < 4) = false := decide_eq_false h1;clear h1;refine gwq 4 fun K hK => ?_;go_simp;refine hK _ _ SD.out ?_;clear hK K;refine gwq 5 fun K hK => ?_;go_simp;refine hK _ _ SD.out ?_;clear hK K;refine gwq 6 fun K hK => ?_;go_simp;refine hK _ _ SD.out ?_;clear hK K;clear d1;clear y0 y1 y2 y3;refine gwq 7 fun K hK => ?_;go_simp;refine hK _ _ SD.out ?_;clear hK K;refine gwq 8 fun K hK => ?_;go_simp;refine hK _ _ SD.out ?_;clear hK K;refine tkn 9 SD.out ?_;refine tkn 10 SD.out ?_;refine tkn 11 SD.out ?_;refine tkn 12 SD.out ?_;refine tkn 13 SD.out ?_;refine gwq 14 fun K hK => ?_;go_simp;refine hK _ _ SD.out ?_;clear hK K;refine gwq 15 fun K hK => ?_;go_simp;refine hK _ _ SD.out ?_;clear hK K;refine tkn 16 SD.out ?_;refine tkn 17 SD.out ?_;refine tkn 18 SD.out ?_;refine gwq 19 fun K hK => ?_;go_simp;refine hK _ _ SD.out ?_;clear hK K;refine gwq 20 fun K hK => ?_;go_simp;refine hK _ _ SD.out ?_;clear hK K;refine tkn 21 SD.out ?_;refine tkn 22 SD.out ?_;refine tkn 23 SD.out ?_;refine tkn 24 SD.out ?_;refine gwq 25 fun K hK => ?_;go_simp;refine hK _ _ SD.out ?_;clear hK K;refine gwq 26 fun K hK => ?_;go_simp;refine hK _ _ SD.out ?_;clear hK K;refine tkn 27 SD.out ?_;refine tkn 28 SD.out ?_;refine tkn 29 SD.out ?_;refine tkn 30 SD.out ?_;refine gwq 31 fun K hK => ?_;go_simp;refine hK _ _ SD.out ?_;clear hK K;refine gwq 32 fun K hK => ?_;go_simp;refine hK _ _ SD.out ?_;clear hK K;refine tkn 33 SD.out ?_;refine tkn 34 SD.out ?_;refine tkn 35 SD.out ?_;refine gwq 36 fun K hK => ?_;go_simp;refine hK _ _ SD.out ?_;clear hK K;refine gwq 37 fun K hK => ?_;go_simp;refine hK _ _ SD.out ?_;clear hK K;refine tkn 38 SD.out ?_;refine tkn 39 SD.out ?_;refine gwq 40 fun K hK => ?_;go_simp;refine hK _ _ SD.out ?_;clear hK K;refine gwq 41 fun K hK => ?_;go_simp;refine hK _ _ SD.out ?_;clear hK K;refine wpAnyH_done (by kernel_rfl) ?_ _;unfold jqw;dsimp only
  go_wp2
  go_ret
  exact ⟨by rw [HNO.out]; rfl, B0.out.trans (SD.out.mono B0.out.size)⟩
 have C2 := Lh (Classical.not_not.1 h1);have d1 : decide (id < 4) = true := decide_eq_true C2.out;clear h1;refine gwq 4 fun K hK => ?_;go_simp;refine hK _ _ SD.out ?_;clear hK K;refine gwq 5 fun K hK => ?_;go_simp;refine hK _ _ SD.out ?_;clear hK K;refine gwq 6 fun K hK => ?_;go_simp;refine hK _ _ SD.out ?_;clear hK K;clear d1;refine gwq 7 fun K hK => ?_;go_simp;refine hK _ _ SD.out ?_;clear hK K;refine gwq 8 fun K hK => ?_;go_simp;refine hK _ _ SD.out ?_;clear hK K;rcases Classical.em (¬ (4136 ≤ lim)) with h1 | h1
 ·have HNO := Lh (jwf (s := ⟨id, lim, ro, L⟩) (fun h => h1 h.l0))
  have d1 : decide (4136 ≤ lim) = false := decide_eq_false h1;clear h1;refine tky 9 (.pointer (some ⟨w.heap.size, 1, none⟩)) rfl (fun w' hw' => by
   skip
   go_simp) SD.out ?_
  refine tky 10 (.int .i64 lim) rfl (fun w' hw' => by
   obtain ⟨⟨y0, y1, y2, y3⟩, -⟩ := bx4 ((hw'.block _ (jqb HG.out)).trans HG.out);go_simp) SD.out ?_
  refine gwq 11 fun K hK => ?_;go_simp
  go_at_call 60
  refine (psrec_any 4096 (by unfold I64b; decide) WD).mono ?_;rintro e V1 ⟨rfl, rfl⟩;refine hK _ _ SD.out ?_;clear hK K;rw [show szI6 4096 = 4120 by decide];have e16 : IntKind.i64.wrap 4136 = 4136 := by decide
  refine gwq 12 fun K hK => ?_;go_simp;refine hK _ _ SD.out ?_;clear hK K;clear e16;refine gwq 13 fun K hK => ?_;go_simp;refine hK _ _ SD.out ?_;clear hK K;clear d1;clear y0 y1 y2 y3;refine gwq 14 fun K hK => ?_;go_simp;refine hK _ _ SD.out ?_;clear hK K;refine gwq 15 fun K hK => ?_;go_simp;refine hK _ _ SD.out ?_;clear hK K;refine tkn 16 SD.out ?_;refine tkn 17 SD.out ?_;refine tkn 18 SD.out ?_;refine gwq 19 fun K hK => ?_;go_simp;refine hK _ _ SD.out ?_;clear hK K;refine gwq 20 fun K hK => ?_;go_simp;refine hK _ _ SD.out ?_;clear hK K;refine tkn 21 SD.out ?_;refine tkn 22 SD.out ?_;refine tkn 23 SD.out ?_;refine tkn 24 SD.out ?_;refine gwq 25 fun K hK => ?_;go_simp;refine hK _ _ SD.out ?_;clear hK K;refine gwq 26 fun K hK => ?_;go_simp;refine hK _ _ SD.out ?_;clear hK K;refine tkn 27 SD.out ?_;refine tkn 28 SD.out ?_;refine tkn 29 SD.out ?_;refine tkn 30 SD.out ?_;refine gwq 31 fun K hK => ?_;go_simp;refine hK _ _ SD.out ?_;clear hK K;refine gwq 32 fun K hK => ?_;go_simp;refine hK _ _ SD.out ?_;clear hK K;refine tkn 33 SD.out ?_;refine tkn 34 SD.out ?_;refine tkn 35 SD.out ?_;refine gwq 36 fun K hK => ?_;go_simp;refine hK _ _ SD.out ?_;clear hK K;refine gwq 37 fun K hK => ?_;go_simp;refine hK _ _ SD.out ?_;clear hK K;refine tkn 38 SD.out ?_;refine tkn 39 SD.out ?_;refine gwq 40 fun K hK => ?_;go_simp;refine hK _ _ SD.out ?_;clear hK K;refine gwq 41 fun K hK => ?_;go_simp;refine hK _ _ SD.out ?_;clear hK K;refine wpAnyH_done (by kernel_rfl) ?_ _;unfold jqw;dsimp only
  go_wp2
  go_ret
  exact ⟨by rw [HNO.out]; rfl, B0.out.trans (SD.out.mono B0.out.size)⟩
 have C3 := Lh (Classical.not_not.1 h1);have d1 : decide (4136 ≤ lim) = true := decide_eq_true C3.out;clear h1;refine tky 9 (.pointer (some ⟨w.heap.size, 1, none⟩)) rfl (fun w' hw' => by
  skip
  go_simp) SD.out ?_
 refine tky 10 (.int .i64 lim) rfl (fun w' hw' => by
  obtain ⟨⟨y0, y1, y2, y3⟩, -⟩ := bx4 ((hw'.block _ (jqb HG.out)).trans HG.out);go_simp) SD.out ?_
 refine gwq 11 fun K hK => ?_;go_simp
 go_at_call 60
 refine (psrec_any 4096 (by unfold I64b; decide) WD).mono ?_;rintro e V1 ⟨rfl, rfl⟩;refine hK _ _ SD.out ?_;clear hK K;rw [show szI6 4096 = 4120 by decide];have e16 : IntKind.i64.wrap 4136 = 4136 := by decide
 refine gwq 12 fun K hK => ?_;go_simp;refine hK _ _ SD.out ?_;clear hK K;clear e16;refine gwq 13 fun K hK => ?_;go_simp;refine hK _ _ SD.out ?_;clear hK K;clear d1;refine gwq 14 fun K hK => ?_;go_simp;refine hK _ _ SD.out ?_;clear hK K;refine gwq 15 fun K hK => ?_;go_simp;refine hK _ _ SD.out ?_;clear hK K;rcases Classical.em (¬ (lim ≤ 262144)) with h1 | h1
 ·have HNO := Lh (jwf (s := ⟨id, lim, ro, L⟩) (fun h => h1 h.l1))
  have d1 : decide (lim ≤ 262144) = false := decide_eq_false h1;clear h1;refine gwq 16 fun K hK => ?_;go_simp;refine hK _ _ SD.out ?_;clear hK K;refine gwq 17 fun K hK => ?_;go_simp;refine hK _ _ SD.out ?_;clear hK K;refine gwq 18 fun K hK => ?_;go_simp;refine hK _ _ SD.out ?_;clear hK K;clear d1;clear y0 y1 y2 y3;refine gwq 19 fun K hK => ?_;go_simp;refine hK _ _ SD.out ?_;clear hK K;refine gwq 20 fun K hK => ?_;go_simp;refine hK _ _ SD.out ?_;clear hK K;refine tkn 21 SD.out ?_;refine tkn 22 SD.out ?_;refine tkn 23 SD.out ?_;refine tkn 24 SD.out ?_;refine gwq 25 fun K hK => ?_;go_simp;refine hK _ _ SD.out ?_;clear hK K;refine gwq 26 fun K hK => ?_;go_simp;refine hK _ _ SD.out ?_;clear hK K;refine tkn 27 SD.out ?_;refine tkn 28 SD.out ?_;refine tkn 29 SD.out ?_;refine tkn 30 SD.out ?_;refine gwq 31 fun K hK => ?_;go_simp;refine hK _ _ SD.out ?_;clear hK K;refine gwq 32 fun K hK => ?_;go_simp;refine hK _ _ SD.out ?_;clear hK K;refine tkn 33 SD.out ?_;refine tkn 34 SD.out ?_;refine tkn 35 SD.out ?_;refine gwq 36 fun K hK => ?_;go_simp;refine hK _ _ SD.out ?_;clear hK K;refine gwq 37 fun K hK => ?_;go_simp;refine hK _ _ SD.out ?_;clear hK K;refine tkn 38 SD.out ?_;refine tkn 39 SD.out ?_;refine gwq 40 fun K hK => ?_;go_simp;refine hK _ _ SD.out ?_;clear hK K;refine gwq 41 fun K hK => ?_;go_simp;refine hK _ _ SD.out ?_;clear hK K;refine wpAnyH_done (by kernel_rfl) ?_ _;unfold jqw;dsimp only
  go_wp2
  go_ret
  exact ⟨by rw [HNO.out]; rfl, B0.out.trans (SD.out.mono B0.out.size)⟩
 have C4 := Lh (Classical.not_not.1 h1);have d1 : decide (lim ≤ 262144) = true := decide_eq_true C4.out;clear h1;refine gwq 16 fun K hK => ?_;go_simp;refine hK _ _ SD.out ?_;clear hK K;refine gwq 17 fun K hK => ?_;go_simp;refine hK _ _ SD.out ?_;clear hK K;refine gwq 18 fun K hK => ?_;go_simp;refine hK _ _ SD.out ?_;clear hK K;clear d1;refine gwq 19 fun K hK => ?_;go_simp;refine hK _ _ SD.out ?_;clear hK K;refine gwq 20 fun K hK => ?_;go_simp;refine hK _ _ SD.out ?_;clear hK K;rcases Classical.em (¬ (1 ≤ (n : Int))) with h1 | h1
 ·have HNO := Lh (jwf (s := ⟨id, lim, ro, L⟩) (fun h => h1 (by have := h.n1; have := HN.out; simp only at *; omega)))
  have d1 : decide (1 ≤ (n : Int)) = false := decide_eq_false h1;clear h1;refine gwq 21 fun K hK => ?_;go_simp;refine hK _ _ SD.out ?_;clear hK K;refine gwq 22 fun K hK => ?_;go_simp;refine hK _ _ SD.out ?_;clear hK K;refine gwq 23 fun K hK => ?_;go_simp;refine hK _ _ SD.out ?_;clear hK K;refine gwq 24 fun K hK => ?_;go_simp;refine hK _ _ SD.out ?_;clear hK K;clear d1;clear y0 y1 y2 y3;refine gwq 25 fun K hK => ?_;go_simp;refine hK _ _ SD.out ?_;clear hK K;refine gwq 26 fun K hK => ?_;go_simp;refine hK _ _ SD.out ?_;clear hK K;refine tkn 27 SD.out ?_;refine tkn 28 SD.out ?_;refine tkn 29 SD.out ?_;refine tkn 30 SD.out ?_;refine gwq 31 fun K hK => ?_;go_simp;refine hK _ _ SD.out ?_;clear hK K;refine gwq 32 fun K hK => ?_;go_simp;refine hK _ _ SD.out ?_;clear hK K;refine tkn 33 SD.out ?_;refine tkn 34 SD.out ?_;refine tkn 35 SD.out ?_;refine gwq 36 fun K hK => ?_;go_simp;refine hK _ _ SD.out ?_;clear hK K;refine gwq 37 fun K hK => ?_;go_simp;refine hK _ _ SD.out ?_;clear hK K;refine tkn 38 SD.out ?_;refine tkn 39 SD.out ?_;refine gwq 40 fun K hK => ?_;go_simp;refine hK _ _ SD.out ?_;clear hK K;refine gwq 41 fun K hK => ?_;go_simp;refine hK _ _ SD.out ?_;clear hK K;refine wpAnyH_done (by kernel_rfl) ?_ _;unfold jqw;dsimp only
  go_wp2
  go_ret
  exact ⟨by rw [HNO.out]; rfl, B0.out.trans (SD.out.mono B0.out.size)⟩
 have C5 := Lh (Classical.not_not.1 h1);have d1 : decide (1 ≤ (n : Int)) = true := decide_eq_true C5.out;clear h1;refine gwq 21 fun K hK => ?_;go_simp;refine hK _ _ SD.out ?_;clear hK K;refine gwq 22 fun K hK => ?_;go_simp;refine hK _ _ SD.out ?_;clear hK K;refine gwq 23 fun K hK => ?_;go_simp;refine hK _ _ SD.out ?_;clear hK K;refine gwq 24 fun K hK => ?_;go_simp;refine hK _ _ SD.out ?_;clear hK K;clear d1;refine gwq 25 fun K hK => ?_;go_simp;refine hK _ _ SD.out ?_;clear hK K;refine gwq 26 fun K hK => ?_;go_simp;refine hK _ _ SD.out ?_;clear hK K;rcases Classical.em (¬ ((n : Int) ≤ 8)) with h1 | h1
 ·have HNO := Lh (jwf (s := ⟨id, lim, ro, L⟩) (fun h => h1 (by have := h.n8; have := HN.out; simp only at *; omega)))
  have d1 : decide ((n : Int) ≤ 8) = false := decide_eq_false h1;clear h1;refine gwq 27 fun K hK => ?_;go_simp;refine hK _ _ SD.out ?_;clear hK K;refine gwq 28 fun K hK => ?_;go_simp;refine hK _ _ SD.out ?_;clear hK K;refine gwq 29 fun K hK => ?_;go_simp;refine hK _ _ SD.out ?_;clear hK K;refine gwq 30 fun K hK => ?_;go_simp;refine hK _ _ SD.out ?_;clear hK K;clear d1;clear y0 y1 y2 y3;refine gwq 31 fun K hK => ?_;go_simp;refine hK _ _ SD.out ?_;clear hK K;refine gwq 32 fun K hK => ?_;go_simp;refine hK _ _ SD.out ?_;clear hK K;refine tkn 33 SD.out ?_;refine tkn 34 SD.out ?_;refine tkn 35 SD.out ?_;refine gwq 36 fun K hK => ?_;go_simp;refine hK _ _ SD.out ?_;clear hK K;refine gwq 37 fun K hK => ?_;go_simp;refine hK _ _ SD.out ?_;clear hK K;refine tkn 38 SD.out ?_;refine tkn 39 SD.out ?_;refine gwq 40 fun K hK => ?_;go_simp;refine hK _ _ SD.out ?_;clear hK K;refine gwq 41 fun K hK => ?_;go_simp;refine hK _ _ SD.out ?_;clear hK K;refine wpAnyH_done (by kernel_rfl) ?_ _;unfold jqw;dsimp only
  go_wp2
  go_ret
  exact ⟨by rw [HNO.out]; rfl, B0.out.trans (SD.out.mono B0.out.size)⟩
 have C6 := Lh (Classical.not_not.1 h1);have d1 : decide ((n : Int) ≤ 8) = true := decide_eq_true C6.out;clear h1;refine gwq 27 fun K hK => ?_;go_simp;refine hK _ _ SD.out ?_;clear hK K;refine gwq 28 fun K hK => ?_;go_simp;refine hK _ _ SD.out ?_;clear hK K;refine gwq 29 fun K hK => ?_;go_simp;refine hK _ _ SD.out ?_;clear hK K;refine gwq 30 fun K hK => ?_;go_simp;refine hK _ _ SD.out ?_;clear hK K;clear d1;refine gwq 31 fun K hK => ?_;go_simp;refine hK _ _ SD.out ?_;clear hK K;refine gwq 32 fun K hK => ?_;go_simp;refine hK _ _ SD.out ?_;clear hK K;refine gwq 33 fun K hK => ?_;go_simp;refine hK _ _ SD.out ?_;clear hK K;refine gwq 34 fun K hK => ?_;go_simp;refine hK _ _ SD.out ?_;clear hK K;clear y0 y1 y2 y3;rcases Classical.em (¬ ∀ i, i < L.length → ordAt L i) with h1 | h1
 ·have HNO := Lh (jwf (s := ⟨id, lim, ro, L⟩) (fun h => h1 h.od))
  have PO := fun W h => POR.out W h;rw [ordB_f h1] at PO;clear h1;refine gwq 35 fun K hK => ?_;go_simp
  go_at_call 75
  refine (PO WD (jqj GL.out SD.out)).mono ?_;rintro e V2 ⟨rfl, hb⟩;refine hK _ _ (SD.out.trans (hb.mono SD.out.size)) ?_;clear hK K;have S1 := Lh (SD.out.trans (hb.mono SD.out.size));clear hb SD;clear PO;refine gwq 36 fun K hK => ?_;go_simp;refine hK _ _ S1.out ?_;clear hK K;refine gwq 37 fun K hK => ?_;go_simp;refine hK _ _ S1.out ?_;clear hK K;refine tkn 38 S1.out ?_;refine tkn 39 S1.out ?_;refine gwq 40 fun K hK => ?_;go_simp;refine hK _ _ S1.out ?_;clear hK K;refine gwq 41 fun K hK => ?_;go_simp;refine hK _ _ S1.out ?_;clear hK K;refine wpAnyH_done (by kernel_rfl) ?_ _;unfold jqw;dsimp only
  go_wp2
  go_ret
  exact ⟨by rw [HNO.out]; rfl, B0.out.trans (S1.out.mono B0.out.size)⟩
 have C7 := Lh (Classical.not_not.1 h1);have PO := fun W h => POR.out W h;rw [ordB_t C7.out] at PO;clear h1;refine gwq 35 fun K hK => ?_;go_simp
 go_at_call 75
 refine (PO WD (jqj GL.out SD.out)).mono ?_;rintro e V2 ⟨rfl, hb⟩;refine hK _ _ (SD.out.trans (hb.mono SD.out.size)) ?_;clear hK K;have S1 := Lh (SD.out.trans (hb.mono SD.out.size));clear hb SD;clear PO;refine gwq 36 fun K hK => ?_;go_simp;refine hK _ _ S1.out ?_;clear hK K;refine gwq 37 fun K hK => ?_;go_simp;refine hK _ _ S1.out ?_;clear hK K;obtain ⟨⟨y0, y1, y2, y3⟩, -⟩ := bx4 ((S1.out.block _ (jqb HG.out)).trans HG.out);refine gwq 38 fun K hK => ?_;go_simp;refine hK _ _ S1.out ?_;clear hK K;clear y0 y1 y2 y3;have PM := proomy_any id lim ro a n c L V2 HN.out (jqj GL.out S1.out) (by have := C5.out; omega) (by have := C6.out; omega) ⟨by have := C3.out; omega, by have := C4.out; omega⟩ (fun k hk => HF.out _ (getD_mem hk HN.out)) (fun k hk => (C7.out k (by rw [← HN.out]; exact hk)).ok);rcases Classical.em (¬ roomP lim L) with h1 | h1
 ·have HNO := Lh (jwf (s := ⟨id, lim, ro, L⟩) (fun h => h1 h.rm))
  rw [roomB_f h1] at PM;clear h1;refine gwq 39 fun K hK => ?_;go_simp
  go_at_call 76
  refine PM.mono ?_;rintro e V3 ⟨rfl, hb⟩;refine hK _ _ (S1.out.trans (hb.mono S1.out.size)) ?_;clear hK K;have S9 := Lh (S1.out.trans (hb.mono S1.out.size));clear hb S1;clear PM;refine gwq 40 fun K hK => ?_;go_simp;refine hK _ _ S9.out ?_;clear hK K;refine gwq 41 fun K hK => ?_;go_simp;refine hK _ _ S9.out ?_;clear hK K;refine wpAnyH_done (by kernel_rfl) ?_ _;unfold jqw;dsimp only
  go_wp2
  go_ret
  exact ⟨by rw [HNO.out]; rfl, B0.out.trans (S9.out.mono B0.out.size)⟩
 have C8 := Lh (Classical.not_not.1 h1);rw [roomB_t C8.out] at PM;clear h1;refine gwq 39 fun K hK => ?_;go_simp
 go_at_call 76
 refine PM.mono ?_;rintro e V3 ⟨rfl, hb⟩;refine hK _ _ (S1.out.trans (hb.mono S1.out.size)) ?_;clear hK K;have S9 := Lh (S1.out.trans (hb.mono S1.out.size));clear hb S1;clear PM;refine gwq 40 fun K hK => ?_;go_simp;refine hK _ _ S9.out ?_;clear hK K;refine gwq 41 fun K hK => ?_;go_simp;refine hK _ _ S9.out ?_;clear hK K;refine wpAnyH_done (by kernel_rfl) ?_ _;unfold jqw;dsimp only
 go_wp2
 go_ret
 exact ⟨by rw [jwm (s := ⟨id, lim, ro, L⟩) ⟨C1.out, C2.out, C3.out, C4.out, by have := C5.out; have := HN.out; simp only; omega, by have := C6.out; have := HN.out; simp only; omega, C7.out, C8.out⟩]; rfl, B0.out.trans (S9.out.mono B0.out.size)⟩
def LSl (s : Slt) : Prop := s.gens.length ≤ 10000 ∧ ∀ g ∈ s.gens, LGe g
end Go.Proofs.YtimoinfjinmamaaGreat.Gf
