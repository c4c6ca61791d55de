/- What is proved here: the reference's Valid of a slot, for every slot of few items. -/
/- What is proved here: the reference's Valid of a slot, for every slot of few items. -/
import Derived.Test.YtimoinfjinmamaaGreatGs12
import Derived.Test.YtimoinfjinmamaaGreatVq
namespace Go.Proofs.YtimoinfjinmamaaGreat.Gf
open Joins ChangeShapes WideShapes ChangeAt RowKit Deep By Qt
set_option maxRecDepth 100000
set_option maxHeartbeats 204800000
theorem jwb : (Tryz.prog.info? 31).map (·.size) = some 14 := by kernel_rfl
theorem jwv {ops : Array Oper} {rest : List Oper} {x y : Operand} {pos : String} {after : Array Edge} {ty : TypeId} {a : Act} {w : World} {Q : Exit → Act → World → Prop}
 (g : Nat) (old cs : Array Value) (hx : a.eval x = .pointer (some ⟨g, 0, none⟩)) (hy : a.eval y = .agg cs) (hg : w.heap[g]? = some (.cells old 31 (0, 0))) (ho : old.size = 14) (hs : cs.size = 14) (h1 : cs.all (·.oneCell') = true)
 (h : wpList Tryz.prog ops Q rest a (w.setRow g cs)) : wpList Tryz.prog ops Q (⟨none, .store 31 x y, ty, pos, after, none⟩ :: rest) a w :=
 wpList_store_row rfl 31 x y rfl g cs hx hy 31 old hg (by rw [jwb, hs]) (by omega) h1 h
theorem rsvalid_x (id lim : Int) (ro : Bool) (a : Option Addr) (n c : Nat) (L : List Ge) (w : World) (hn : n = L.length) (hl : Gl w (.slice a n c) L) (hlen : n ≤ 10000) (hf : ∀ g ∈ L, LGe g) : Calls Tryz.prog 34 #[.agg #[.int .i64 id, .int .i64 lim, .bool ro, .slice a n c]] w fun e w' => e = .returned (.bool (okSb ⟨id, lim, ro, L⟩)) ∧ Below w.heap.size w w' := by
 have HF := Lh hf;have HN := Lh hn;have HLN := Lh hlen;have B0 := Lh (jqg w (.cells #[.int .i64 id, .int .i64 lim, .bool ro, .slice a n c] 24));have HG := Lh (heap_alloc_new w (.cells #[.int .i64 id, .int .i64 lim, .bool ro, .slice a n c] 24));have GL := Lh (jqj hl B0.out);clear hl hf hn hlen
 go_enter Tryz.func34, Tryz.ntmps34
 go_upto_region 1 with fail
 generalize w.alloc (.cells #[.int .i64 id, .int .i64 lim, .bool ro, .slice a n c] 24) = W0 at *;obtain ⟨⟨y0, y1, y2, y3⟩, -⟩ := bx4 HG.out;go_upto_region 2 with fail
 clear y0 y1 y2 y3;refine jq0 ?_;refine jqh (fun W' => Below W0.heap.size W0 W') [0, 1] 26 (by kernel_rfl) (fun _ _ _ _ _ h => h.elim) (by kernel_rfl) (by rfl) (by rfl) (Below.refl W0.heap.size W0).drew ?_;simp only [jq2, List.filterMap_cons, List.filterMap_nil, List.getElem?_toArray];refine jqc (fun K hK => ?_);go_simp;refine ⟨_, fun _ _ => rfl, hK _ ?_⟩;clear hK K;refine jqc (fun K hK => ?_);go_simp;refine ⟨.int .i64 id, fun w' hw' => by
  obtain ⟨⟨y0, y1, y2, y3⟩, -⟩ := bx4 ((hw'.block _ (jqb HG.out)).trans HG.out);go_simp, hK _ ?_⟩
 clear hK K;refine jqp ?_;have SD := Lh (Below.refl W0.heap.size W0).drew;generalize W0.drew = WD at *;obtain ⟨⟨y0, y1, y2, y3⟩, -⟩ := bx4 ((SD.out.block _ (jqb HG.out)).trans HG.out);rcases Classical.em (id < 0) with h1 | h1
 ·have HNO := Lh (jwf (s := ⟨id, lim, ro, L⟩) (fun h => by have := h.i0; simp only at this; omega))
  have d1 : decide (id < 0) = true := decide_eq_true h1;clear h1;refine gwq 2 fun K hK => ?_;go_simp;refine hK _ _ SD.out ?_;clear hK K;clear d1;clear y0 y1 y2 y3;refine gwq 3 fun K hK => ?_;go_simp;refine hK _ _ SD.out ?_;clear hK K;refine tkn 4 SD.out ?_;refine tkn 5 SD.out ?_;refine tkn 6 SD.out ?_;refine gwq 7 fun K hK => ?_;go_simp;refine hK _ _ SD.out ?_;clear hK K;refine gwq 8 fun K hK => ?_;go_simp;refine hK _ _ SD.out ?_;clear hK K;refine tkn 9 SD.out ?_;refine tkn 10 SD.out ?_;refine tkn 11 SD.out ?_;refine tkn 12 SD.out ?_;refine tkn 13 SD.out ?_;refine gwq 14 fun K hK => ?_;go_simp;refine hK _ _ SD.out ?_;clear hK K;refine gwq 15 fun K hK => ?_;go_simp;refine hK _ _ SD.out ?_;clear hK K;refine tkn 16 SD.out ?_;refine tkn 17 SD.out ?_;refine tkn 18 SD.out ?_;refine gwq 19 fun K hK => ?_;go_simp;refine hK _ _ SD.out ?_;clear hK K;refine gwq 20 fun K hK => ?_;go_simp;refine hK _ _ SD.out ?_;clear hK K;refine tkn 21 SD.out ?_;refine tkn 22 SD.out ?_;refine gwq 23 fun K hK => ?_;go_simp;refine hK _ _ SD.out ?_;clear hK K;refine gwq 24 fun K hK => ?_;go_simp;refine hK _ _ SD.out ?_;clear hK K;refine tkn 25 SD.out ?_;refine tkn 26 SD.out ?_;refine gwq 27 fun K hK => ?_;go_simp;refine hK _ _ SD.out ?_;clear hK K;refine wpAnyH_done (by kernel_rfl) ?_ _;unfold jqw;dsimp only;have S9 := Lh (B0.out.trans (SD.out.mono B0.out.size))
  go_wp2
  go_ret
  exact ⟨by rw [HNO.out]; rfl, S9.out⟩
 have C1 := Lh h1;have d1 : decide (id < 0) = false := decide_eq_false h1;clear h1;refine gwq 2 fun K hK => ?_;go_simp;refine hK _ _ SD.out ?_;clear hK K;clear d1;refine gwq 3 fun K hK => ?_;go_simp;refine hK _ _ SD.out ?_;clear hK K;rcases Classical.em (4 ≤ id) with h1 | h1
 ·have HNO := Lh (jwf (s := ⟨id, lim, ro, L⟩) (fun h => by have := h.i4; simp only at this; omega))
  have d1 : decide (4 ≤ id) = true := decide_eq_true h1;clear h1;refine gwq 4 fun K hK => ?_;go_simp;refine hK _ _ SD.out ?_;clear hK K;refine gwq 5 fun K hK => ?_;go_simp;refine hK _ _ SD.out ?_;clear hK K;refine gwq 6 fun K hK => ?_;go_simp;refine hK _ _ SD.out ?_;clear hK K;clear d1;clear y0 y1 y2 y3;refine gwq 7 fun K hK => ?_;go_simp;refine hK _ _ SD.out ?_;clear hK K;refine gwq 8 fun K hK => ?_;go_simp;refine hK _ _ SD.out ?_;clear hK K;refine tkn 9 SD.out ?_;refine tkn 10 SD.out ?_;refine tkn 11 SD.out ?_;refine tkn 12 SD.out ?_;refine tkn 13 SD.out ?_;refine gwq 14 fun K hK => ?_;go_simp;refine hK _ _ SD.out ?_;clear hK K;refine gwq 15 fun K hK => ?_;go_simp;refine hK _ _ SD.out ?_;clear hK K;refine tkn 16 SD.out ?_;refine tkn 17 SD.out ?_;refine tkn 18 SD.out ?_;refine gwq 19 fun K hK => ?_;go_simp;refine hK _ _ SD.out ?_;clear hK K;refine gwq 20 fun K hK => ?_;go_simp;refine hK _ _ SD.out ?_;clear hK K;refine tkn 21 SD.out ?_;refine tkn 22 SD.out ?_;refine gwq 23 fun K hK => ?_;go_simp;refine hK _ _ SD.out ?_;clear hK K;refine gwq 24 fun K hK => ?_;go_simp;refine hK _ _ SD.out ?_;clear hK K;refine tkn 25 SD.out ?_;refine tkn 26 SD.out ?_;refine gwq 27 fun K hK => ?_;go_simp;refine hK _ _ SD.out ?_;clear hK K;refine wpAnyH_done (by kernel_rfl) ?_ _;unfold jqw;dsimp only;have S9 := Lh (B0.out.trans (SD.out.mono B0.out.size))
  go_wp2
  go_ret
  exact ⟨by rw [HNO.out]; rfl, S9.out⟩
 have C2 := Lh h1;have d1 : decide (4 ≤ id) = false := decide_eq_false h1;clear h1;refine gwq 4 fun K hK => ?_;go_simp;refine hK _ _ SD.out ?_;clear hK K;refine gwq 5 fun K hK => ?_;go_simp;refine hK _ _ SD.out ?_;clear hK K;refine gwq 6 fun K hK => ?_;go_simp;refine hK _ _ SD.out ?_;clear hK K;clear d1;refine gwq 7 fun K hK => ?_;go_simp;refine hK _ _ SD.out ?_;clear hK K;refine gwq 8 fun K hK => ?_;go_simp;refine hK _ _ SD.out ?_;clear hK K;rcases Classical.em (lim < 4136) with h1 | h1
 ·have HNO := Lh (jwf (s := ⟨id, lim, ro, L⟩) (fun h => by have := h.l0; simp only at this; omega))
  have d1 : decide (lim < 4136) = true := decide_eq_true h1;clear h1;refine tky 9 (.pointer (some ⟨w.heap.size, 1, none⟩)) rfl (fun w' hw' => by
   skip
   go_simp) SD.out ?_
  refine tky 10 (.int .i64 lim) rfl (fun w' hw' => by
   obtain ⟨⟨y0, y1, y2, y3⟩, -⟩ := bx4 ((hw'.block _ (jqb HG.out)).trans HG.out);go_simp) SD.out ?_
  refine gwq 11 fun K hK => ?_;go_simp
  go_at_call 41
  refine (jxw 4096 WD (by unfold I64b; decide)).mono ?_;rintro e V1 ⟨rfl, rfl⟩;refine hK _ _ SD.out ?_;clear hK K;rw [show szI6 4096 = 4120 by decide];have e16 : IntKind.i64.wrap 4136 = 4136 := by decide
  refine gwq 12 fun K hK => ?_;go_simp;refine hK _ _ SD.out ?_;clear hK K;clear e16;refine gwq 13 fun K hK => ?_;go_simp;refine hK _ _ SD.out ?_;clear hK K;clear d1;clear y0 y1 y2 y3;refine gwq 14 fun K hK => ?_;go_simp;refine hK _ _ SD.out ?_;clear hK K;refine gwq 15 fun K hK => ?_;go_simp;refine hK _ _ SD.out ?_;clear hK K;refine tkn 16 SD.out ?_;refine tkn 17 SD.out ?_;refine tkn 18 SD.out ?_;refine gwq 19 fun K hK => ?_;go_simp;refine hK _ _ SD.out ?_;clear hK K;refine gwq 20 fun K hK => ?_;go_simp;refine hK _ _ SD.out ?_;clear hK K;refine tkn 21 SD.out ?_;refine tkn 22 SD.out ?_;refine gwq 23 fun K hK => ?_;go_simp;refine hK _ _ SD.out ?_;clear hK K;refine gwq 24 fun K hK => ?_;go_simp;refine hK _ _ SD.out ?_;clear hK K;refine tkn 25 SD.out ?_;refine tkn 26 SD.out ?_;refine gwq 27 fun K hK => ?_;go_simp;refine hK _ _ SD.out ?_;clear hK K;refine wpAnyH_done (by kernel_rfl) ?_ _;unfold jqw;dsimp only;have S9 := Lh (B0.out.trans (SD.out.mono B0.out.size))
  go_wp2
  go_ret
  exact ⟨by rw [HNO.out]; rfl, S9.out⟩
 have C3 := Lh h1;have d1 : decide (lim < 4136) = false := decide_eq_false h1;clear h1;refine tky 9 (.pointer (some ⟨w.heap.size, 1, none⟩)) rfl (fun w' hw' => by
  skip
  go_simp) SD.out ?_
 refine tky 10 (.int .i64 lim) rfl (fun w' hw' => by
  obtain ⟨⟨y0, y1, y2, y3⟩, -⟩ := bx4 ((hw'.block _ (jqb HG.out)).trans HG.out);go_simp) SD.out ?_
 refine gwq 11 fun K hK => ?_;go_simp
 go_at_call 41
 refine (jxw 4096 WD (by unfold I64b; decide)).mono ?_;rintro e V1 ⟨rfl, rfl⟩;refine hK _ _ SD.out ?_;clear hK K;rw [show szI6 4096 = 4120 by decide];have e16 : IntKind.i64.wrap 4136 = 4136 := by decide
 refine gwq 12 fun K hK => ?_;go_simp;refine hK _ _ SD.out ?_;clear hK K;clear e16;refine gwq 13 fun K hK => ?_;go_simp;refine hK _ _ SD.out ?_;clear hK K;clear d1;refine gwq 14 fun K hK => ?_;go_simp;refine hK _ _ SD.out ?_;clear hK K;refine gwq 15 fun K hK => ?_;go_simp;refine hK _ _ SD.out ?_;clear hK K;rcases Classical.em (262144 < lim) with h1 | h1
 ·have HNO := Lh (jwf (s := ⟨id, lim, ro, L⟩) (fun h => by have := h.l1; simp only at this; omega))
  have d1 : decide (262144 < lim) = true := decide_eq_true h1;clear h1;refine gwq 16 fun K hK => ?_;go_simp;refine hK _ _ SD.out ?_;clear hK K;refine gwq 17 fun K hK => ?_;go_simp;refine hK _ _ SD.out ?_;clear hK K;refine gwq 18 fun K hK => ?_;go_simp;refine hK _ _ SD.out ?_;clear hK K;clear d1;clear y0 y1 y2 y3;refine gwq 19 fun K hK => ?_;go_simp;refine hK _ _ SD.out ?_;clear hK K;refine gwq 20 fun K hK => ?_;go_simp;refine hK _ _ SD.out ?_;clear hK K;refine tkn 21 SD.out ?_;refine tkn 22 SD.out ?_;refine gwq 23 fun K hK => ?_;go_simp;refine hK _ _ SD.out ?_;clear hK K;refine gwq 24 fun K hK => ?_;go_simp;refine hK _ _ SD.out ?_;clear hK K;refine tkn 25 SD.out ?_;refine tkn 26 SD.out ?_;refine gwq 27 fun K hK => ?_;go_simp;refine hK _ _ SD.out ?_;clear hK K;refine wpAnyH_done (by kernel_rfl) ?_ _;unfold jqw;dsimp only;have S9 := Lh (B0.out.trans (SD.out.mono B0.out.size))
  go_wp2
  go_ret
  exact ⟨by rw [HNO.out]; rfl, S9.out⟩
 have C4 := Lh h1;have d1 : decide (262144 < lim) = false := decide_eq_false h1;clear h1;refine gwq 16 fun K hK => ?_;go_simp;refine hK _ _ SD.out ?_;clear hK K;refine gwq 17 fun K hK => ?_;go_simp;refine hK _ _ SD.out ?_;clear hK K;refine gwq 18 fun K hK => ?_;go_simp;refine hK _ _ SD.out ?_;clear hK K;clear d1;refine gwq 19 fun K hK => ?_;go_simp;refine hK _ _ SD.out ?_;clear hK K;refine gwq 20 fun K hK => ?_;go_simp;refine hK _ _ SD.out ?_;clear hK K;rcases Classical.em ((n : Int) < 1) with h1 | h1
 ·have HNO := Lh (jwf (s := ⟨id, lim, ro, L⟩) (fun h => by have := h.n1; have := HN.out; simp only at *; omega))
  have d1 : decide ((n : Int) < 1) = true := decide_eq_true h1;clear h1;refine gwq 21 fun K hK => ?_;go_simp;refine hK _ _ SD.out ?_;clear hK K;refine gwq 22 fun K hK => ?_;go_simp;refine hK _ _ SD.out ?_;clear hK K;clear d1;clear y0 y1 y2 y3;refine gwq 23 fun K hK => ?_;go_simp;refine hK _ _ SD.out ?_;clear hK K;refine gwq 24 fun K hK => ?_;go_simp;refine hK _ _ SD.out ?_;clear hK K;refine tkn 25 SD.out ?_;refine tkn 26 SD.out ?_;refine gwq 27 fun K hK => ?_;go_simp;refine hK _ _ SD.out ?_;clear hK K;refine wpAnyH_done (by kernel_rfl) ?_ _;unfold jqw;dsimp only;have S9 := Lh (B0.out.trans (SD.out.mono B0.out.size))
  go_wp2
  go_ret
  exact ⟨by rw [HNO.out]; rfl, S9.out⟩
 have C5 := Lh h1;have d1 : decide ((n : Int) < 1) = false := decide_eq_false h1;clear h1;refine gwq 21 fun K hK => ?_;go_simp;refine hK _ _ SD.out ?_;clear hK K;refine gwq 22 fun K hK => ?_;go_simp;refine hK _ _ SD.out ?_;clear hK K;clear d1;refine gwq 23 fun K hK => ?_;go_simp;refine hK _ _ SD.out ?_;clear hK K;refine gwq 24 fun K hK => ?_;go_simp;refine hK _ _ SD.out ?_;clear hK K;rcases Classical.em (8 < (n : Int)) with h1 | h1
 ·have HNO := Lh (jwf (s := ⟨id, lim, ro, L⟩) (fun h => by have := h.n8; have := HN.out; simp only at *; omega))
  have d1 : decide (8 < (n : Int)) = true := decide_eq_true h1;clear h1;refine gwq 25 fun K hK => ?_;go_simp;refine hK _ _ SD.out ?_;clear hK K;refine gwq 26 fun K hK => ?_;go_simp;refine hK _ _ SD.out ?_;clear hK K;clear d1;clear y0 y1 y2 y3;refine gwq 27 fun K hK => ?_;go_simp;refine hK _ _ SD.out ?_;clear hK K;refine wpAnyH_done (by kernel_rfl) ?_ _;unfold jqw;dsimp only;have S9 := Lh (B0.out.trans (SD.out.mono B0.out.size))
  go_wp2
  go_ret
  exact ⟨by rw [HNO.out]; rfl, S9.out⟩
 have C6 := Lh h1;have d1 : decide (8 < (n : Int)) = false := decide_eq_false h1;clear h1;refine gwq 25 fun K hK => ?_;go_simp;refine hK _ _ SD.out ?_;clear hK K;refine gwq 26 fun K hK => ?_;go_simp;refine hK _ _ SD.out ?_;clear hK K;clear d1;refine gwq 27 fun K hK => ?_;go_simp;refine hK _ _ SD.out ?_;clear hK K;clear y0 y1 y2 y3;refine wpAnyH_done (by kernel_rfl) ?_ _;unfold jqw;dsimp only;have B1 := Lh (B0.out.trans (SD.out.mono B0.out.size));have HS1 := Lh ((SD.out.block _ (jqb HG.out)).trans HG.out);have GL1 := Lh (jqj GL.out SD.out);clear SD B0 HG GL;generalize WD = w1 at *;obtain ⟨l2, hl2⟩ : ∃ z, z = 2 * lim := ⟨_, rfl⟩;have HL2 := Lh hl2;have E1 := Lh (show IntKind.i64.wrap (2 * lim) = l2 ∧ wrap64 (2 * lim) = l2 from ⟨by rw [hl2]; exact IntWalk.i64_in _ (by have := C3.out; have := C4.out; omega), by rw [hl2]; unfold wrap64; have := C3.out; have := C4.out; omega⟩);clear hl2;go_wp2_with fail
 go_loopw [4, 5] (fun t4 _ wr => ∃ i : Nat, i ≤ n ∧ t4 = .int .i64 (i : Int) ∧ (∀ j, j < i → ordAt L j ∧ (L.getD j g0).size ≤ l2) ∧ Below w1.heap.size w1 wr) (fun t _ _ => n - (intOf t).toNat)
 case atStart => exact ⟨0, Nat.zero_le _, rfl, fun j hj => absurd hj (Nat.not_lt_zero j), Below.refl _ _⟩
 case round =>
  obtain ⟨i, hi, rfl, hP, hB⟩ := hrel
  rename World => wl
  by_cases hlt : i < n
  case neg =>
   obtain rfl : i = n := by omega
   have d1 : decide ((i : Int) < (i : Int)) = false := decide_eq_false (by omega);have HP := Lh hP;have hn0 : 0 < i := by have := C5.out; omega
   obtain ⟨b, off, rfl, s0, s1, s2, s3, s4, s5, s6, s7, GA⟩ := gl_at (jqj GL1.out hB) (show i - 1 < i by omega);have ON := Lh GA.one;have JJ := Lh GA.j;have HLG := Lh (HF.out _ (getD_mem (show i - 1 < i by omega) HN.out));have HTO := Lh (hP (i - 1) (by omega)).1.ok;have HMS := Lh GA.ms;have HL8 := Lh GA.ms.1;obtain ⟨p, hp⟩ : ∃ p, p = i - 1 := ⟨_, rfl⟩;rw [← hp] at GA HLG HTO HMS ON HL8 JJ;have HPP := Lh (show p + 1 = i by omega);have HTT := Lh (show L.getD (i - 1) g0 = L.getD p g0 by rw [hp]);generalize L.getD p g0 = T at *;obtain ⟨x0, x1, x2, x3, x4, x5, x6, x7, x8, x9, x10, x11, x12, x13⟩ := GA.cells;have HSl := Lh ((hB.block _ (jqb HS1.out)).trans HS1.out);have hz := heap_alloc_new wl (.cells #[.int .i64 0, .int .i64 0, .int .i64 0, .int .i64 0, .slice none 0 0, .slice none 0 0, .slice none 0 0, .slice none 0 0, .slice none 0 0, .slice none 0 0, .slice none 0 0, .slice none 0 0, .int .i64 0, .int .i64 0] 31);have e1 : (i : Int) - 1 = (p : Int) := by have := HPP.out; omega
   have e2 : wrap64 (p : Int) = (p : Int) := by unfold wrap64; have := HLN.out; have := HPP.out; omega
   have p0 : (0 : Int) ≤ (p : Int) := by omega
   have p1 : (p : Int) < (i : Int) := by have := HPP.out; omega
   have HB := Lh hB;clear GA hP hlt hi hn0 hp hB;obtain ⟨⟨y0, y1, y2, y3⟩, -⟩ := bx4 HSl.out;go_upto_region 11 with ((with_reducible refine jwv wl.heap.size _ #[.int .i64 T.num, .int .i64 T.rev, .int .i64 T.mode, .int .i64 T.size, s0, s1, s2, s3, s4, s5, s6, s7, .int .i64 T.m.live, .int .i64 T.m.garb] ?_ ?_ hz rfl rfl ON.out ?_); exact rfl; exact rfl)
   rw [World.setRow_alloc_new];clear x0 x1 x2 x3 x4 x5 x6 x7 x8 x9 x10 x11 x12 x13;clear y0 y1 y2 y3;clear e1 e2 p0 p1;have hb := jqg wl (.cells #[.int .i64 T.num, .int .i64 T.rev, .int .i64 T.mode, .int .i64 T.size, s0, s1, s2, s3, s4, s5, s6, s7, .int .i64 T.m.live, .int .i64 T.m.garb] 31);have HX := Lh (heap_alloc_new wl (.cells #[.int .i64 T.num, .int .i64 T.rev, .int .i64 T.mode, .int .i64 T.size, s0, s1, s2, s3, s4, s5, s6, s7, .int .i64 T.m.live, .int .i64 T.m.garb] 31));have HSx := Lh ((hb.block _ (jqb HSl.out)).trans HSl.out);have MSx := Lh (jqf HMS.out hb);have BX := HB.out.trans (hb.mono HB.out.size);have B2 := Lh (B1.out.trans (BX.mono B1.out.size));clear hb hz HB HMS BX;generalize wl.alloc (.cells #[.int .i64 T.num, .int .i64 T.rev, .int .i64 T.mode, .int .i64 T.size, s0, s1, s2, s3, s4, s5, s6, s7, .int .i64 T.m.live, .int .i64 T.m.garb] 31) = wx at *;refine jq0 ?_;refine jqh (fun W' => Below wx.heap.size wx W') [0, 1, 3, 4, 8, 9, 10] 6 (by kernel_rfl) (fun _ _ _ _ _ h => h.elim) (by kernel_rfl) (by rfl) (by rfl) (Below.refl wx.heap.size wx).drew ?_;simp only [jq2, List.filterMap_cons, List.filterMap_nil, List.getElem?_toArray, List.getElem?_cons_zero, List.getElem?_cons_succ];refine jqc (fun K hK => ?_);go_simp;refine ⟨_, fun _ _ => rfl, hK _ ?_⟩;clear hK K;refine jqc (fun K hK => ?_);go_simp;refine ⟨.int .i64 T.size, fun w' hw' => by
    obtain ⟨x0, x1, x2, x3, x4, x5, x6, x7, x8, x9, x10, x11, x12, x13⟩ := bx14 ((hw'.block _ (jqb HX.out)).trans HX.out);go_simp, hK _ ?_⟩
   clear hK K;refine jqc (fun K hK => ?_);go_simp;refine ⟨_, fun _ _ => rfl, hK _ ?_⟩;clear hK K;refine jqc (fun K hK => ?_);go_simp;refine ⟨.agg #[s0, s1, s2, s3, s4, s5, s6, s7, .int .i64 T.m.live, .int .i64 T.m.garb], fun w' hw' => by
    obtain ⟨x0, x1, x2, x3, x4, x5, x6, x7, x8, x9, x10, x11, x12, x13⟩ := bx14 ((hw'.block _ (jqb HX.out)).trans HX.out);go_simp, hK _ ?_⟩
   clear hK K;refine jqc (fun K hK => ?_);go_simp;refine ⟨_, fun _ _ => rfl, hK _ ?_⟩;clear hK K;refine jqc (fun K hK => ?_);go_simp;refine ⟨.int .i64 lim, fun w' hw' => by
    obtain ⟨⟨y0, y1, y2, y3⟩, -⟩ := bx4 ((hw'.block _ (jqb HSx.out)).trans HSx.out);go_simp, hK _ ?_⟩
   clear hK K;refine jqc (fun K hK => ?_);go_simp;refine ⟨.int .i64 l2, fun w' hw' => by
    have e1 := E1.out.1;have e2 := E1.out.2;go_simp, hK _ ?_⟩
   clear hK K;refine jqp ?_;have SD := Lh (Below.refl wx.heap.size wx).drew;generalize wx.drew = WD at *;obtain ⟨K24, hK24⟩ : ∃ z : Int, z = ((lenM T.m * 24 : Nat) : Int) := ⟨_, rfl⟩;have HK24 := Lh hK24;obtain ⟨f1, f2⟩ := top_sum (lenM_le HLG.out.2) HTO.out.hd.s0 HTO.out.hd.s1;rw [← hK24] at f1 f2;have F2 := Lh f2;have HLL := Lh (len_same HL8.out);have PL := rlen11_any (.agg #[s0, s1, s2, s3, s4, s5, s6, s7, .int .i64 T.m.live, .int .i64 T.m.garb]) T.m WD ⟨s0, s1, s2, s3, s4, s5, s6, s7, rfl, jqf MSx.out SD.out⟩ HLG.out.1;rw [← HLL.out] at PL;have F1 := Lh (show IntKind.i64.wrap (24 * ((lenM T.m : Nat) : Int)) = K24 by rw [Int.mul_comm]; exact f1);clear hK24 f1 f2;refine gwq 2 fun K hK => ?_;go_simp
   go_at_call 41
   refine (jxw 0 WD (by unfold I64b; decide)).mono ?_;rintro e V4 ⟨rfl, rfl⟩;refine hK _ _ SD.out ?_;clear hK K;rw [show szI6 0 = 24 from rfl];refine gwq 5 fun K hK => ?_;go_simp
   go_at_call 65
   refine PL.mono ?_;rintro e V5 ⟨rfl, hb⟩;refine hK _ _ (SD.out.trans (hb.mono SD.out.size)) ?_;clear hK K;have S1 := Lh (SD.out.trans (hb.mono SD.out.size));clear hb SD;clear PL;have f1 := F1.out;generalize hKN : lenM T.m = KN at *;have HKN := Lh hKN;clear hKN;refine gwq 6 fun K hK => ?_;go_simp;refine hK _ _ S1.out ?_;clear hK K;clear f1;have f2 := F2.out;refine gwq 7 fun K hK => ?_;go_simp;refine hK _ _ S1.out ?_;clear hK K;clear f2;obtain ⟨E, hE⟩ : ∃ E, E = T.size + K24 := ⟨_, rfl⟩;have HE := Lh hE;rw [← hE];clear hE
   by_cases hR : E ≤ l2
   ·have d2 : decide (E ≤ l2) = true := decide_eq_true hR
    have HYES := Lh (jwm (s := ⟨id, lim, ro, L⟩) ⟨by have := C1.out; simp only; omega, by have := C2.out; simp only; omega, by have := C3.out; simp only; omega, by have := C4.out; simp only; omega, by have := C5.out; have := HN.out; simp only; omega, by have := C6.out; have := HN.out; simp only; omega, fun j hj => (HP.out j (by have := HN.out; simp only at hj; omega)).1, fun j hj => by rw [← HL2.out]; exact (HP.out j (by have := HN.out; simp only at hj; omega)).2, by simp only; rw [← HN.out, HTT.out, HKN.out, ← HK24.out, ← HE.out, ← HL2.out]; exact hR⟩);clear hR;refine gwq 11 fun K hK => ?_;go_simp;refine hK _ _ S1.out ?_;clear hK K;refine gwq 12 fun K hK => ?_;go_simp;refine hK _ _ S1.out ?_;clear hK K;refine wpAnyH_done (by kernel_rfl) ?_ _;unfold jqw;dsimp only;have S9 := Lh (B2.out.trans (S1.out.mono B2.out.size));go_wp2_with fail
    go_ret
    exact ⟨by rw [HYES.out]; rfl, S9.out⟩
   ·have d2 : decide (E ≤ l2) = false := decide_eq_false hR
    have HNO := Lh (jwf (s := ⟨id, lim, ro, L⟩) (fun h => hR (by have q := h.rm.top; simp only at q; rw [← HN.out, HTT.out, HKN.out, ← HK24.out, ← HE.out, ← HL2.out] at q; exact q)));clear hR;refine gwq 11 fun K hK => ?_;go_simp;refine hK _ _ S1.out ?_;clear hK K;refine gwq 12 fun K hK => ?_;go_simp;refine hK _ _ S1.out ?_;clear hK K;refine wpAnyH_done (by kernel_rfl) ?_ _;unfold jqw;dsimp only;have S9 := Lh (B2.out.trans (S1.out.mono B2.out.size));go_wp2_with fail
    go_ret
    exact ⟨by rw [HNO.out]; rfl, S9.out⟩
  have d1 : decide ((i : Int) < (n : Int)) = true := decide_eq_true (by omega);have d2 : decide (i < n) = true := decide_eq_true hlt;obtain ⟨b, off, rfl, t0, t1, t2, t3, t4, t5, t6, t7, GA⟩ := gl_at (jqj GL1.out hB) hlt;have ON2 := Lh GA.one;have HMS := Lh GA.ms;have JJ := Lh GA.j;have HLG := Lh (HF.out _ (getD_mem hlt HN.out));obtain ⟨x0, x1, x2, x3, x4, x5, x6, x7, x8, x9, x10, x11, x12, x13⟩ := GA.cells;generalize hgu : L.getD i g0 = u at *;have HGU := Lh hgu;have p0 : (0 : Int) ≤ (i : Int) := by omega
  have p1 : (i : Int) < (n : Int) := by omega
  have HP := Lh hP;have HB := Lh hB;have HI := Lh hlt;have HSl := Lh ((hB.block _ (jqb HS1.out)).trans HS1.out);have hz := heap_alloc_new wl (.cells #[.int .i64 0, .int .i64 0, .int .i64 0, .int .i64 0, .slice none 0 0, .slice none 0 0, .slice none 0 0, .slice none 0 0, .slice none 0 0, .slice none 0 0, .slice none 0 0, .slice none 0 0, .int .i64 0, .int .i64 0] 31);clear GA hP hB hlt hi hgu;obtain ⟨⟨y0, y1, y2, y3⟩, -⟩ := bx4 HSl.out;go_upto_region 8 with ((with_reducible refine jwv wl.heap.size _ #[.int .i64 u.num, .int .i64 u.rev, .int .i64 u.mode, .int .i64 u.size, t0, t1, t2, t3, t4, t5, t6, t7, .int .i64 u.m.live, .int .i64 u.m.garb] ?_ ?_ hz rfl rfl ON2.out ?_); exact rfl; exact rfl)
  rw [World.setRow_alloc_new];clear x0 x1 x2 x3 x4 x5 x6 x7 x8 x9 x10 x11 x12 x13;clear y0 y1 y2 y3;clear p0 p1 d1 d2;have hb := jqg wl (.cells #[.int .i64 u.num, .int .i64 u.rev, .int .i64 u.mode, .int .i64 u.size, t0, t1, t2, t3, t4, t5, t6, t7, .int .i64 u.m.live, .int .i64 u.m.garb] 31);have HX := Lh (heap_alloc_new wl (.cells #[.int .i64 u.num, .int .i64 u.rev, .int .i64 u.mode, .int .i64 u.size, t0, t1, t2, t3, t4, t5, t6, t7, .int .i64 u.m.live, .int .i64 u.m.garb] 31));have HSx := Lh ((hb.block _ (jqb HSl.out)).trans HSl.out);have MSx := Lh (jqf HMS.out hb);have BX := Lh (HB.out.trans (hb.mono HB.out.size));have GLx := Lh (jqj GL1.out BX.out);clear hb hz HB HMS HSl;generalize wl.alloc (.cells #[.int .i64 u.num, .int .i64 u.rev, .int .i64 u.mode, .int .i64 u.size, t0, t1, t2, t3, t4, t5, t6, t7, .int .i64 u.m.live, .int .i64 u.m.garb] 31) = wx at *;generalize wl.heap.size = gx at *;refine jq0 ?_;refine jqh (fun W' => Below wx.heap.size wx W') [0] 36 (by kernel_rfl) (fun _ _ _ _ _ h => h.elim) (by kernel_rfl) (by rfl) (by rfl) (Below.refl wx.heap.size wx).drew ?_;simp only [jq2, List.filterMap_cons, List.filterMap_nil, List.getElem?_toArray, List.getElem?_cons_zero];refine jqc (fun K hK => ?_);go_simp;refine ⟨.agg #[.int .i64 u.num, .int .i64 u.rev, .int .i64 u.mode, .int .i64 u.size, t0, t1, t2, t3, t4, t5, t6, t7, .int .i64 u.m.live, .int .i64 u.m.garb], fun w' hw' => by
   obtain ⟨x0, x1, x2, x3, x4, x5, x6, x7, x8, x9, x10, x11, x12, x13⟩ := bx14 ((hw'.block _ (jqb HX.out)).trans HX.out);go_simp, hK _ ?_⟩
  clear hK K;refine jqp ?_;have SD := Lh (Below.refl wx.heap.size wx).drew;generalize wx.drew = WD at *;have PV := rgvalid_any (.agg #[.int .i64 u.num, .int .i64 u.rev, .int .i64 u.mode, .int .i64 u.size, t0, t1, t2, t3, t4, t5, t6, t7, .int .i64 u.m.live, .int .i64 u.m.garb]) u WD ⟨t0, t1, t2, t3, t4, t5, t6, t7, rfl, jqf MSx.out SD.out, JJ.out⟩ HLG.out.1 (by have := HLG.out.2; omega);rcases Classical.em (¬ okGe u) with h1 | h1
  ·rw [jw0 h1] at PV
   have HNO := Lh (jwf (s := ⟨id, lim, ro, L⟩) (fun h => h1 (by have q := (h.od i (by have := HI.out; have := HN.out; simp only; omega)).ok; simp only [HGU.out] at q; exact q)));clear h1;refine gwq 1 fun K hK => ?_;go_simp
   go_at_call 39
   refine PV.mono ?_;rintro e V1 ⟨rfl, hb⟩;refine hK _ _ (SD.out.trans (hb.mono SD.out.size)) ?_;clear hK K;have S1 := Lh (SD.out.trans (hb.mono SD.out.size));clear hb SD;clear PV;refine gwq 2 fun K hK => ?_;go_simp;refine hK _ _ S1.out ?_;clear hK K;refine gwq 3 fun K hK => ?_;go_simp;refine hK _ _ S1.out ?_;clear hK K;refine tkn 4 S1.out ?_;refine tkn 5 S1.out ?_;refine tkn 6 S1.out ?_;refine tkn 7 S1.out ?_;refine tkn 8 S1.out ?_;refine tkn 9 S1.out ?_;refine tkn 10 S1.out ?_;refine tkn 11 S1.out ?_;refine gwq 12 fun K hK => ?_;go_simp;refine hK _ _ S1.out ?_;clear hK K;refine gwq 13 fun K hK => ?_;go_simp;refine hK _ _ S1.out ?_;clear hK K;refine tkn 14 S1.out ?_;refine tkn 15 S1.out ?_;refine tkn 16 S1.out ?_;refine tkn 17 S1.out ?_;refine tkn 18 S1.out ?_;refine tkn 19 S1.out ?_;refine tkn 20 S1.out ?_;refine tkn 21 S1.out ?_;refine tkn 22 S1.out ?_;refine tkn 23 S1.out ?_;refine tkn 24 S1.out ?_;refine tkn 25 S1.out ?_;refine tkn 26 S1.out ?_;refine tkn 27 S1.out ?_;refine gwq 28 fun K hK => ?_;go_simp;refine hK _ _ S1.out ?_;clear hK K;refine gwq 29 fun K hK => ?_;go_simp;refine hK _ _ S1.out ?_;clear hK K;refine tkn 30 S1.out ?_;refine tkn 31 S1.out ?_;refine tkn 32 S1.out ?_;refine tkn 33 S1.out ?_;refine tkn 34 S1.out ?_;refine tkn 35 S1.out ?_;refine gwq 36 fun K hK => ?_;go_simp;refine hK _ _ S1.out ?_;clear hK K;refine wpAnyH_done (by kernel_rfl) ?_ _;unfold jqw;dsimp only;have S9 := Lh (B1.out.trans (BX.out.trans (S1.out.mono BX.out.size) |>.mono B1.out.size))
   go_wp2
   go_ret
   exact ⟨by rw [HNO.out]; rfl, S9.out⟩
  have C1 := Lh (Classical.not_not.1 h1);clear h1;rw [okGb_t C1.out] at PV;refine gwq 1 fun K hK => ?_;go_simp
  go_at_call 39
  refine PV.mono ?_;rintro e V1 ⟨rfl, hb⟩;refine hK _ _ (SD.out.trans (hb.mono SD.out.size)) ?_;clear hK K;have S1 := Lh (SD.out.trans (hb.mono SD.out.size));clear hb SD;clear PV;refine gwq 2 fun K hK => ?_;go_simp;refine hK _ _ S1.out ?_;clear hK K;refine gwq 3 fun K hK => ?_;go_simp;refine hK _ _ S1.out ?_;clear hK K;obtain ⟨il, hil⟩ : ∃ q, q = decide (i + 1 = n) := ⟨_, rfl⟩;obtain ⟨m1, hm1⟩ : ∃ q, q = decide (u.mode = 1) := ⟨_, rfl⟩;have HIL := Lh hil;have HM1 := Lh hm1;clear hil hm1;refine tky 4 (.pointer (some ⟨gx, 2, none⟩)) rfl (fun w' hw' => by
   skip
   go_simp) S1.out ?_
  refine tky 5 (.int .i64 u.mode) rfl (fun w' hw' => by
   obtain ⟨x0, x1, x2, x3, x4, x5, x6, x7, x8, x9, x10, x11, x12, x13⟩ := bx14 ((hw'.block _ (jqb HX.out)).trans HX.out);go_simp) S1.out ?_
  refine tky 6 (.bool m1) rfl (fun w' hw' => by
   have d6 : decide (u.mode = 1) = m1 := HM1.out.symm;have d7 : (u.mode == 1) = m1 := HM1.out.symm;go_simp) S1.out ?_
  refine tky 7 (.int .i64 (i : Int)) rfl (fun w' hw' => by
   skip
   go_simp) S1.out ?_
  refine tky 8 (.int .i64 (n : Int)) rfl (fun w' hw' => by
   skip
   go_simp) S1.out ?_
  refine tky 9 (.int .i64 ((n : Int) - 1)) rfl (fun w' hw' => by
   have e1 : IntKind.i64.wrap ((n : Int) - 1) = (n : Int) - 1 := IntWalk.i64_in _ (by have := HLN.out; omega);have e2 : wrap64 ((n : Int) - 1) = (n : Int) - 1 := by unfold wrap64; have := HLN.out; omega
   go_simp) S1.out ?_
  refine tky 10 (.bool il) rfl (fun w' hw' => by
   have d6 : decide ((i : Int) = (n : Int) - 1) = il := by
    rw [HIL.out]
    by_cases h : i + 1 = n
    ·rw [decide_eq_true h]; exact decide_eq_true (by omega)
    ·rw [decide_eq_false h]; exact decide_eq_false (by omega)
   have d7 : ((i : Int) == (n : Int) - 1) = il := d6;go_simp) S1.out ?_
  rcases Classical.em (¬ (m1 = il)) with h1 | h1
  ·have d4 : (m1 != il) = true := by cases m1 <;> cases il <;> first | rfl | exact absurd rfl h1
   have d5 : (!(m1 == il)) = true := d4;have HNO := Lh (jwf (s := ⟨id, lim, ro, L⟩) (fun h => h1 (by
    have q := (h.od i (by have := HI.out; have := HN.out; simp only; omega)).mode;simp only [HGU.out] at q;have hn := HN.out;rw [HM1.out, HIL.out]
    by_cases k : i + 1 = n
    ·rw [decide_eq_true k]; exact decide_eq_true (q.2 (by omega))
    ·rw [decide_eq_false k]; exact decide_eq_false (fun e => k (by have := q.1 e; omega)))))
   clear h1;refine gwq 11 fun K hK => ?_;go_simp;refine hK _ _ S1.out ?_;clear hK K;clear d4 d5;refine gwq 12 fun K hK => ?_;go_simp;refine hK _ _ S1.out ?_;clear hK K;refine gwq 13 fun K hK => ?_;go_simp;refine hK _ _ S1.out ?_;clear hK K;refine tkn 14 S1.out ?_;refine tkn 15 S1.out ?_;refine tkn 16 S1.out ?_;refine tkn 17 S1.out ?_;refine tkn 18 S1.out ?_;refine tkn 19 S1.out ?_;refine tkn 20 S1.out ?_;refine tkn 21 S1.out ?_;refine tkn 22 S1.out ?_;refine tkn 23 S1.out ?_;refine tkn 24 S1.out ?_;refine tkn 25 S1.out ?_;refine tkn 26 S1.out ?_;refine tkn 27 S1.out ?_;refine gwq 28 fun K hK => ?_;go_simp;refine hK _ _ S1.out ?_;clear hK K;refine gwq 29 fun K hK => ?_;go_simp;refine hK _ _ S1.out ?_;clear hK K;refine tkn 30 S1.out ?_;refine tkn 31 S1.out ?_;refine tkn 32 S1.out ?_;refine tkn 33 S1.out ?_;refine tkn 34 S1.out ?_;refine tkn 35 S1.out ?_;refine gwq 36 fun K hK => ?_;go_simp;refine hK _ _ S1.out ?_;clear hK K;refine wpAnyH_done (by kernel_rfl) ?_ _;unfold jqw;dsimp only;have S9 := Lh (B1.out.trans (BX.out.trans (S1.out.mono BX.out.size) |>.mono B1.out.size))
   go_wp2
   go_ret
   exact ⟨by rw [HNO.out]; rfl, S9.out⟩
  have HMD := Lh (show u.mode = 1 ↔ i + 1 = n by
   have h3 := Classical.not_not.1 h1;rw [HM1.out, HIL.out] at h3
   by_cases q : i + 1 = n
   ·rw [decide_eq_true q] at h3; exact ⟨fun _ => q, fun _ => of_decide_eq_true h3⟩
   ·rw [decide_eq_false q] at h3; exact ⟨fun e => absurd e (of_decide_eq_false h3), fun e => absurd e q⟩)
  have d4 : (m1 != il) = false := by rw [Classical.not_not.1 h1]; cases il <;> rfl
  have d5 : (!(m1 == il)) = false := d4;clear h1;refine gwq 11 fun K hK => ?_;go_simp;refine hK _ _ S1.out ?_;clear hK K;clear d4 d5;refine gwq 12 fun K hK => ?_;go_simp;refine hK _ _ S1.out ?_;clear hK K;refine gwq 13 fun K hK => ?_;go_simp;refine hK _ _ S1.out ?_;clear hK K;rcases Classical.em (i = 0) with h0 | h0
  ·have d1 : decide ((0 : Int) < (i : Int)) = false := decide_eq_false (by omega)
   have d2 : decide (0 < i) = false := decide_eq_false (by omega);have HORD := Lh (show ordAt L i from ⟨by rw [HGU.out]; exact C1.out, by rw [HGU.out, HMD.out, HN.out], fun h => absurd h0 (by omega)⟩);clear h0;refine gwq 14 fun K hK => ?_;go_simp;refine hK _ _ S1.out ?_;clear hK K;refine gwq 15 fun K hK => ?_;go_simp;refine hK _ _ S1.out ?_;clear hK K;refine gwq 16 fun K hK => ?_;go_simp;refine hK _ _ S1.out ?_;clear hK K;clear d1 d2;refine tkn 17 S1.out ?_;refine tkn 18 S1.out ?_;refine tkn 19 S1.out ?_;refine tkn 20 S1.out ?_;refine tkn 21 S1.out ?_;refine tkn 22 S1.out ?_;refine tkn 23 S1.out ?_;refine tkn 24 S1.out ?_;refine tkn 25 S1.out ?_;refine tkn 26 S1.out ?_;refine gwq 27 fun K hK => ?_;go_simp;refine hK _ _ S1.out ?_;clear hK K;refine gwq 28 fun K hK => ?_;go_simp;refine hK _ _ S1.out ?_;clear hK K;refine gwq 29 fun K hK => ?_;go_simp;refine hK _ _ S1.out ?_;clear hK K;refine tky 30 (.pointer (some ⟨gx, 3, none⟩)) rfl (fun w' hw' => by
    skip
    go_simp) S1.out ?_
   refine tky 31 (.int .i64 u.size) rfl (fun w' hw' => by
    obtain ⟨x0, x1, x2, x3, x4, x5, x6, x7, x8, x9, x10, x11, x12, x13⟩ := bx14 ((hw'.block _ (jqb HX.out)).trans HX.out);go_simp) S1.out ?_
   refine tky 32 (.pointer (some ⟨w.heap.size, 1, none⟩)) rfl (fun w' hw' => by
    skip
    go_simp) S1.out ?_
   refine tky 33 (.int .i64 lim) rfl (fun w' hw' => by
    obtain ⟨⟨y0, y1, y2, y3⟩, -⟩ := bx4 ((hw'.block _ (jqb HSx.out)).trans HSx.out);go_simp) S1.out ?_
   refine tky 34 (.int .i64 l2) rfl (fun w' hw' => by
    have e1 := E1.out.1;have e2 := E1.out.2;go_simp) S1.out ?_
   rcases Classical.em (l2 < u.size) with h1 | h1
   ·have d1 : decide (l2 < u.size) = true := decide_eq_true h1
    have HNO := Lh (jwf (s := ⟨id, lim, ro, L⟩) (fun h => by have q := h.rm.all i (by have := HI.out; have := HN.out; simp only; omega); simp only [HGU.out] at q; have := HL2.out; omega));clear h1;refine gwq 35 fun K hK => ?_;go_simp;refine hK _ _ S1.out ?_;clear hK K;clear d1;refine gwq 36 fun K hK => ?_;go_simp;refine hK _ _ S1.out ?_;clear hK K;refine wpAnyH_done (by kernel_rfl) ?_ _;unfold jqw;dsimp only;have S9 := Lh (B1.out.trans (BX.out.trans (S1.out.mono BX.out.size) |>.mono B1.out.size))
    go_wp2
    go_ret
    exact ⟨by rw [HNO.out]; rfl, S9.out⟩
   have d1 : decide (l2 < u.size) = false := decide_eq_false h1;have HUS := Lh (show u.size ≤ l2 by omega);clear h1;refine gwq 35 fun K hK => ?_;go_simp;refine hK _ _ S1.out ?_;clear hK K;clear d1;refine gwq 36 fun K hK => ?_;go_simp;refine hK _ _ S1.out ?_;clear hK K;refine wpAnyH_done (by kernel_rfl) ?_ _;unfold jqw;dsimp only;have S9 := Lh (BX.out.trans (S1.out.mono BX.out.size));have hw := w64s8 i (by have := HLN.out; have := HI.out; omega);go_wp2_with fail
   go_roundw
   case rel => exact ⟨i + 1, HI.out, by go_num, fun j hj => by
    rcases Nat.lt_or_ge j i with h | h
    ·exact HP.out j h
    ·obtain rfl : j = i := by omega
     rw [HGU.out];exact ⟨HORD.out, HUS.out⟩, S9.out⟩
   case measure => exact meas8 n i HI.out (by have := HLN.out; omega)
  have d1 : decide ((0 : Int) < (i : Int)) = true := decide_eq_true (by omega);have d2 : decide (0 < i) = true := decide_eq_true (by omega);obtain ⟨p, hp⟩ : ∃ p, p = i - 1 := ⟨_, rfl⟩;have HPP := Lh (show p + 1 = i by omega);clear h0 hp;refine gwq 14 fun K hK => ?_;go_simp;refine hK _ _ S1.out ?_;clear hK K;refine gwq 15 fun K hK => ?_;go_simp;refine hK _ _ S1.out ?_;clear hK K;refine gwq 16 fun K hK => ?_;go_simp;refine hK _ _ S1.out ?_;clear hK K;clear d1 d2;refine tky 17 (.pointer (some ⟨gx, 0, none⟩)) rfl (fun w' hw' => by
   skip
   go_simp) S1.out ?_
  refine tky 18 (.int .i64 u.num) rfl (fun w' hw' => by
   obtain ⟨x0, x1, x2, x3, x4, x5, x6, x7, x8, x9, x10, x11, x12, x13⟩ := bx14 ((hw'.block _ (jqb HX.out)).trans HX.out);go_simp) S1.out ?_
  refine tky 19 (.pointer (some ⟨w.heap.size, 3, none⟩)) rfl (fun w' hw' => by
   skip
   go_simp) S1.out ?_
  refine tky 20 (.slice (some ⟨b, off, none⟩) n c) rfl (fun w' hw' => by
   obtain ⟨⟨y0, y1, y2, y3⟩, -⟩ := bx4 ((hw'.block _ (jqb HSx.out)).trans HSx.out);go_simp) S1.out ?_
  refine tky 21 (.int .i64 (i : Int)) rfl (fun w' hw' => by
   skip
   go_simp) S1.out ?_
  refine tky 22 (.int .i64 (p : Int)) rfl (fun w' hw' => by
   have e1 : IntKind.i64.wrap ((i : Int) - 1) = (p : Int) := by
    have h := HPP.out;rw [show (i : Int) - 1 = (p : Int) by omega];exact IntWalk.i64_in _ (by have := HLN.out; have := HI.out; omega)
   have e2 : wrap64 ((i : Int) - 1) = (p : Int) := by unfold wrap64; have := HPP.out; have := HLN.out; have := HI.out; omega
   go_simp) S1.out ?_
  obtain ⟨b2, off2, hab, q0, q1, q2, q3, q4, q5, q6, q7, GP⟩ := gl_at (jqj GLx.out S1.out) (show p < n by have := HPP.out; have := HI.out; omega);obtain ⟨rfl, rfl⟩ : b = b2 ∧ off = off2 := by simpa using hab
  have p0 : (0 : Int) ≤ (p : Int) := by omega
  have p1 : (p : Int) < (n : Int) := by have := HPP.out; have := HI.out; omega
  obtain ⟨k0, -⟩ := GP.cells;clear hab GP;generalize hgp : L.getD p g0 = o at *;have HGP := Lh hgp;clear hgp;refine gwq 23 fun K hK => ?_;go_simp;refine hK _ _ S1.out ?_;clear hK K;refine gwq 24 fun K hK => ?_;go_simp;refine hK _ _ S1.out ?_;clear hK K;refine gwq 25 fun K hK => ?_;go_simp;refine hK _ _ S1.out ?_;clear hK K;clear k0 p0 p1;rcases Classical.em (u.num ≤ o.num) with h1 | h1
  ·have d1 : decide (u.num ≤ o.num) = true := decide_eq_true h1
   have HNO := Lh (jwf (s := ⟨id, lim, ro, L⟩) (fun h => by
    have q := (h.od i (by have := HI.out; have := HN.out; simp only; omega)).asc (by have := HPP.out; omega);simp only [HGU.out, show i - 1 = p by have := HPP.out; omega, HGP.out] at q;omega))
   clear h1;refine gwq 26 fun K hK => ?_;go_simp;refine hK _ _ S1.out ?_;clear hK K;clear d1;refine gwq 27 fun K hK => ?_;go_simp;refine hK _ _ S1.out ?_;clear hK K;refine gwq 28 fun K hK => ?_;go_simp;refine hK _ _ S1.out ?_;clear hK K;refine gwq 29 fun K hK => ?_;go_simp;refine hK _ _ S1.out ?_;clear hK K;refine tkn 30 S1.out ?_;refine tkn 31 S1.out ?_;refine tkn 32 S1.out ?_;refine tkn 33 S1.out ?_;refine tkn 34 S1.out ?_;refine tkn 35 S1.out ?_;refine gwq 36 fun K hK => ?_;go_simp;refine hK _ _ S1.out ?_;clear hK K;refine wpAnyH_done (by kernel_rfl) ?_ _;unfold jqw;dsimp only;have S9 := Lh (B1.out.trans (BX.out.trans (S1.out.mono BX.out.size) |>.mono B1.out.size))
   go_wp2
   go_ret
   exact ⟨by rw [HNO.out]; rfl, S9.out⟩
  have d1 : decide (u.num ≤ o.num) = false := decide_eq_false h1;have HORD := Lh (show ordAt L i from ⟨by rw [HGU.out]; exact C1.out, by rw [HGU.out, HMD.out, HN.out], fun _ => by rw [HGU.out, show i - 1 = p by have := HPP.out; omega, HGP.out]; omega⟩);clear h1;refine gwq 26 fun K hK => ?_;go_simp;refine hK _ _ S1.out ?_;clear hK K;clear d1;refine gwq 27 fun K hK => ?_;go_simp;refine hK _ _ S1.out ?_;clear hK K;refine gwq 28 fun K hK => ?_;go_simp;refine hK _ _ S1.out ?_;clear hK K;refine gwq 29 fun K hK => ?_;go_simp;refine hK _ _ S1.out ?_;clear hK K;refine tky 30 (.pointer (some ⟨gx, 3, none⟩)) rfl (fun w' hw' => by
   skip
   go_simp) S1.out ?_
  refine tky 31 (.int .i64 u.size) rfl (fun w' hw' => by
   obtain ⟨x0, x1, x2, x3, x4, x5, x6, x7, x8, x9, x10, x11, x12, x13⟩ := bx14 ((hw'.block _ (jqb HX.out)).trans HX.out);go_simp) S1.out ?_
  refine tky 32 (.pointer (some ⟨w.heap.size, 1, none⟩)) rfl (fun w' hw' => by
   skip
   go_simp) S1.out ?_
  refine tky 33 (.int .i64 lim) rfl (fun w' hw' => by
   obtain ⟨⟨y0, y1, y2, y3⟩, -⟩ := bx4 ((hw'.block _ (jqb HSx.out)).trans HSx.out);go_simp) S1.out ?_
  refine tky 34 (.int .i64 l2) rfl (fun w' hw' => by
   have e1 := E1.out.1;have e2 := E1.out.2;go_simp) S1.out ?_
  rcases Classical.em (l2 < u.size) with h1 | h1
  ·have d1 : decide (l2 < u.size) = true := decide_eq_true h1
   have HNO := Lh (jwf (s := ⟨id, lim, ro, L⟩) (fun h => by have q := h.rm.all i (by have := HI.out; have := HN.out; simp only; omega); simp only [HGU.out] at q; have := HL2.out; omega));clear h1;refine gwq 35 fun K hK => ?_;go_simp;refine hK _ _ S1.out ?_;clear hK K;clear d1;refine gwq 36 fun K hK => ?_;go_simp;refine hK _ _ S1.out ?_;clear hK K;refine wpAnyH_done (by kernel_rfl) ?_ _;unfold jqw;dsimp only;have S9 := Lh (B1.out.trans (BX.out.trans (S1.out.mono BX.out.size) |>.mono B1.out.size))
   go_wp2
   go_ret
   exact ⟨by rw [HNO.out]; rfl, S9.out⟩
  have d1 : decide (l2 < u.size) = false := decide_eq_false h1;have HUS := Lh (show u.size ≤ l2 by omega);clear h1;refine gwq 35 fun K hK => ?_;go_simp;refine hK _ _ S1.out ?_;clear hK K;clear d1;refine gwq 36 fun K hK => ?_;go_simp;refine hK _ _ S1.out ?_;clear hK K;refine wpAnyH_done (by kernel_rfl) ?_ _;unfold jqw;dsimp only;have S9 := Lh (BX.out.trans (S1.out.mono BX.out.size));have hw := w64s8 i (by have := HLN.out; have := HI.out; omega);go_wp2_with fail
  go_roundw
  case rel => exact ⟨i + 1, HI.out, by go_num, fun j hj => by
   rcases Nat.lt_or_ge j i with h | h
   ·exact HP.out j h
   ·obtain rfl : j = i := by omega
    rw [HGU.out];exact ⟨HORD.out, HUS.out⟩, S9.out⟩
  case measure => exact meas8 n i HI.out (by have := HLN.out; omega)
end Go.Proofs.YtimoinfjinmamaaGreat.Gf
