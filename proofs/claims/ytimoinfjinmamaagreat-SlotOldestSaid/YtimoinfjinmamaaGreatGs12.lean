/- What is proved here: the program's Fits and New. -/
/- What is proved here: the program's Fits and New. -/
import Derived.Test.YtimoinfjinmamaaGreatGs11
namespace Go.Proofs.YtimoinfjinmamaaGreat.Gf
open Joins ChangeShapes WideShapes ChangeAt RowKit Deep By Qt
set_option maxRecDepth 100000
set_option maxHeartbeats 204800000
noncomputable def fitsB (s : Slt) (m : Int) : Bool := okSb s && decide (0 ≤ m ∧ m ≤ 4096 ∧ (jwh s).size + szI6 m ≤ s.limit)
theorem fitsB_v {s : Slt} {m : Int} (h : ¬ okS s) : fitsB s m = false := by unfold fitsB; rw [jwf h]; rfl
theorem fitsB_f {s : Slt} {m : Int} (h : ¬ (0 ≤ m ∧ m ≤ 4096 ∧ (jwh s).size + szI6 m ≤ s.limit)) : fitsB s m = false := by unfold fitsB; rw [decide_eq_false h, Bool.and_false]
theorem fitsB_t {s : Slt} {m : Int} (h : okS s) (h0 : 0 ≤ m) (h1 : m ≤ 4096) : fitsB s m = decide ((jwh s).size + szI6 m ≤ s.limit) := by
 unfold fitsB;rw [jwm h, Bool.true_and]
 by_cases h2 : (jwh s).size + szI6 m ≤ s.limit
 ·rw [decide_eq_true h2, decide_eq_true ⟨h0, h1, h2⟩]
 ·rw [decide_eq_false h2, decide_eq_false (fun q => h2 q.2.2)]
theorem fits_sum {s : Slt} {m : Int} (h : okS s) (h0 : 0 ≤ m) (h1 : m ≤ 4096) : IntKind.i64.wrap ((jwh s).size + szI6 m) = (jwh s).size + szI6 m ∧ 0 ≤ szI6 m := by
 have q := (h.od (s.gens.length - 1) (by have := h.n1; omega)).ok.hd;have q0 := q.s0;have q1 := q.s1;have z0 : 0 ≤ szI6 m := by unfold szI6; split <;> omega
 have z1 : szI6 m ≤ 5000 := by unfold szI6; split <;> omega
 exact ⟨IntWalk.i64_in _ (by unfold jwh; omega), z0⟩
theorem pfits_x (id lim : Int) (ro : Bool) (a : Option Addr) (n c : Nat) (L : List Ge) (m : Int) (w : World) (hn : n = L.length) (hl : Gl w (.slice a n c) L) (hlen : n ≤ 10000) (hf : ∀ g ∈ L, LGe g) : Calls Tryz.prog 27 #[.agg #[.int .i64 id, .int .i64 lim, .bool ro, .slice a n c], .int .i64 m] w fun e w' => e = .returned (.bool (fitsB ⟨id, lim, ro, L⟩ m)) ∧ Below w.heap.size w w' := by
 have hb := jqg w (.cells #[.int .i64 id, .int .i64 lim, .bool ro, .slice a n c] 39);have HS := Lh (heap_alloc_new w (.cells #[.int .i64 id, .int .i64 lim, .bool ro, .slice a n c] 39));have B0 := Lh hb;have GL := Lh (jqj hl hb);have HN := Lh hn;have HLN := Lh hlen;have PV := Lh (fun W (h : Gl W (.slice a n c) L) => psvalid_x id lim ro a n c L W hn h hlen hf);clear hl hf hb hn hlen
 go_enter Tryz.func27, Tryz.ntmps27
 go_upto_region 1 with fail
 generalize w.alloc (.cells #[.int .i64 id, .int .i64 lim, .bool ro, .slice a n c] 39) = W0 at *;refine jq0 ?_;refine jqh (fun W' => Below W0.heap.size W0 W') [0] 21 (by kernel_rfl) (fun _ _ _ _ _ h => h.elim) (by kernel_rfl) (by rfl) (by rfl) (Below.refl W0.heap.size W0).drew ?_;simp only [jq2, List.filterMap_cons, List.filterMap_nil, List.getElem?_toArray, List.getElem?_cons_zero];refine jqc (fun K hK => ?_);go_simp;refine ⟨.agg #[.int .i64 id, .int .i64 lim, .bool ro, .slice a n c], fun w' hw' => by
  obtain ⟨⟨y0, y1, y2, y3⟩, -⟩ := bx4 ((hw'.block _ (jqb HS.out)).trans HS.out);go_simp, hK _ ?_⟩
 clear hK K;refine jqp ?_;have SD := Lh (Below.refl W0.heap.size W0).drew;generalize W0.drew = WD at *;have PV2 := PV.out WD (jqj GL.out SD.out);rcases Classical.em (¬ okS ⟨id, lim, ro, L⟩) with h1 | h1
 ·rw [jwf h1] at PV2
  have HNO := Lh (fitsB_v (m := m) h1);clear h1;refine gwq 1 fun K hK => ?_;go_simp
  go_at_call 46
  refine PV2.mono ?_;rintro e V1 ⟨rfl, hb⟩;refine hK _ _ (SD.out.trans (hb.mono SD.out.size)) ?_;clear hK K;have S1 := Lh (SD.out.trans (hb.mono SD.out.size));clear hb SD;clear PV2;refine gwq 2 fun K hK => ?_;go_simp;refine hK _ _ S1.out ?_;clear hK K;refine tkn 3 S1.out ?_;refine tkn 4 S1.out ?_;refine gwq 5 fun K hK => ?_;go_simp;refine hK _ _ S1.out ?_;clear hK K;refine gwq 6 fun K hK => ?_;go_simp;refine hK _ _ S1.out ?_;clear hK K;refine tkn 7 S1.out ?_;refine tkn 8 S1.out ?_;refine gwq 9 fun K hK => ?_;go_simp;refine hK _ _ S1.out ?_;clear hK K;refine gwq 10 fun K hK => ?_;go_simp;refine hK _ _ S1.out ?_;clear hK K;refine tkn 11 S1.out ?_;refine tkn 12 S1.out ?_;refine tkn 13 S1.out ?_;refine tkn 14 S1.out ?_;refine tkn 15 S1.out ?_;refine tkn 16 S1.out ?_;refine tkn 17 S1.out ?_;refine tkn 18 S1.out ?_;refine tkn 19 S1.out ?_;refine gwq 20 fun K hK => ?_;go_simp;refine hK _ _ S1.out ?_;clear hK K;refine gwq 21 fun K hK => ?_;go_simp;refine hK _ _ S1.out ?_;clear hK K;refine wpAnyH_done (by kernel_rfl) ?_ _;unfold jqw;dsimp only
  go_wp2
  go_ret
  exact ⟨by rw [HNO.out]; rfl, B0.out.trans (S1.out.mono B0.out.size)⟩
 have HK := Lh (Classical.not_not.1 h1);clear h1;rw [jwm HK.out] at PV2;refine gwq 1 fun K hK => ?_;go_simp
 go_at_call 46
 refine PV2.mono ?_;rintro e V1 ⟨rfl, hb⟩;refine hK _ _ (SD.out.trans (hb.mono SD.out.size)) ?_;clear hK K;have S1 := Lh (SD.out.trans (hb.mono SD.out.size));clear hb SD;clear PV2;refine gwq 2 fun K hK => ?_;go_simp;refine hK _ _ S1.out ?_;clear hK K;rcases Classical.em (¬ (0 ≤ m)) with h1 | h1
 ·have d1 : decide (0 ≤ m) = false := decide_eq_false h1
  have HNO := Lh (fitsB_f (s := ⟨id, lim, ro, L⟩) (m := m) (fun h => h1 h.1));clear h1;refine gwq 3 fun K hK => ?_;go_simp;refine hK _ _ S1.out ?_;clear hK K;refine gwq 4 fun K hK => ?_;go_simp;refine hK _ _ S1.out ?_;clear hK K;clear d1;refine gwq 5 fun K hK => ?_;go_simp;refine hK _ _ S1.out ?_;clear hK K;refine gwq 6 fun K hK => ?_;go_simp;refine hK _ _ S1.out ?_;clear hK K;refine tkn 7 S1.out ?_;refine tkn 8 S1.out ?_;refine gwq 9 fun K hK => ?_;go_simp;refine hK _ _ S1.out ?_;clear hK K;refine gwq 10 fun K hK => ?_;go_simp;refine hK _ _ S1.out ?_;clear hK K;refine tkn 11 S1.out ?_;refine tkn 12 S1.out ?_;refine tkn 13 S1.out ?_;refine tkn 14 S1.out ?_;refine tkn 15 S1.out ?_;refine tkn 16 S1.out ?_;refine tkn 17 S1.out ?_;refine tkn 18 S1.out ?_;refine tkn 19 S1.out ?_;refine gwq 20 fun K hK => ?_;go_simp;refine hK _ _ S1.out ?_;clear hK K;refine gwq 21 fun K hK => ?_;go_simp;refine hK _ _ S1.out ?_;clear hK K;refine wpAnyH_done (by kernel_rfl) ?_ _;unfold jqw;dsimp only
  go_wp2
  go_ret
  exact ⟨by rw [HNO.out]; rfl, B0.out.trans (S1.out.mono B0.out.size)⟩
 have C1 := Lh (Classical.not_not.1 h1);have d1 : decide (0 ≤ m) = true := decide_eq_true C1.out;clear h1;refine gwq 3 fun K hK => ?_;go_simp;refine hK _ _ S1.out ?_;clear hK K;refine gwq 4 fun K hK => ?_;go_simp;refine hK _ _ S1.out ?_;clear hK K;clear d1;refine gwq 5 fun K hK => ?_;go_simp;refine hK _ _ S1.out ?_;clear hK K;refine gwq 6 fun K hK => ?_;go_simp;refine hK _ _ S1.out ?_;clear hK K;rcases Classical.em (¬ (m ≤ 4096)) with h1 | h1
 ·have d1 : decide (m ≤ 4096) = false := decide_eq_false h1
  have HNO := Lh (fitsB_f (s := ⟨id, lim, ro, L⟩) (m := m) (fun h => h1 h.2.1));clear h1;refine gwq 7 fun K hK => ?_;go_simp;refine hK _ _ S1.out ?_;clear hK K;refine gwq 8 fun K hK => ?_;go_simp;refine hK _ _ S1.out ?_;clear hK K;clear d1;refine gwq 9 fun K hK => ?_;go_simp;refine hK _ _ S1.out ?_;clear hK K;refine gwq 10 fun K hK => ?_;go_simp;refine hK _ _ S1.out ?_;clear hK K;refine tkn 11 S1.out ?_;refine tkn 12 S1.out ?_;refine tkn 13 S1.out ?_;refine tkn 14 S1.out ?_;refine tkn 15 S1.out ?_;refine tkn 16 S1.out ?_;refine tkn 17 S1.out ?_;refine tkn 18 S1.out ?_;refine tkn 19 S1.out ?_;refine gwq 20 fun K hK => ?_;go_simp;refine hK _ _ S1.out ?_;clear hK K;refine gwq 21 fun K hK => ?_;go_simp;refine hK _ _ S1.out ?_;clear hK K;refine wpAnyH_done (by kernel_rfl) ?_ _;unfold jqw;dsimp only
  go_wp2
  go_ret
  exact ⟨by rw [HNO.out]; rfl, B0.out.trans (S1.out.mono B0.out.size)⟩
 have C2 := Lh (Classical.not_not.1 h1);have d1 : decide (m ≤ 4096) = true := decide_eq_true C2.out;clear h1;refine gwq 7 fun K hK => ?_;go_simp;refine hK _ _ S1.out ?_;clear hK K;refine gwq 8 fun K hK => ?_;go_simp;refine hK _ _ S1.out ?_;clear hK K;clear d1;refine gwq 9 fun K hK => ?_;go_simp;refine hK _ _ S1.out ?_;clear hK K;refine gwq 10 fun K hK => ?_;go_simp;refine hK _ _ S1.out ?_;clear hK K;refine tky 11 (.agg #[.int .i64 id, .int .i64 lim, .bool ro, .slice a n c]) rfl (fun w' hw' => by
  obtain ⟨⟨y0, y1, y2, y3⟩, -⟩ := bx4 ((hw'.block _ (jqb HS.out)).trans HS.out);go_simp) S1.out ?_
 refine tky 14 (.int .i64 m) rfl (fun w' hw' => by
  skip
  go_simp) S1.out ?_
 refine tky 17 (.pointer (some ⟨w.heap.size, 1, none⟩)) rfl (fun w' hw' => by
  skip
  go_simp) S1.out ?_
 refine tky 18 (.int .i64 lim) rfl (fun w' hw' => by
  obtain ⟨⟨y0, y1, y2, y3⟩, -⟩ := bx4 ((hw'.block _ (jqb HS.out)).trans HS.out);go_simp) S1.out ?_
 have PL := plast_any id lim ro a n c L V1 (jqj GL.out S1.out) (by have := HK.out.n1; have := HN.out; simp only at *; omega) (by have := HLN.out; omega);refine gwq 12 fun K hK => ?_;go_simp
 go_at_call 51
 refine PL.mono ?_;rintro e V2 ⟨⟨s0, s1, s2, s3, s4, s5, s6, s7, rfl, -, -⟩, hb⟩;refine hK _ _ (S1.out.trans (hb.mono S1.out.size)) ?_;clear hK K;have S2 := Lh (S1.out.trans (hb.mono S1.out.size));clear hb S1;clear PL;have HF := Lh (fitsB_t (m := m) HK.out C1.out C2.out);have e16 := (fits_sum HK.out C1.out C2.out).1;have hq : (L.getD (n - 1) g0) = jwh ⟨id, lim, ro, L⟩ := by unfold jwh; rw [HN.out]
 rw [hq];clear hq;generalize jwh ⟨id, lim, ro, L⟩ = T at *;have E16 := Lh e16;clear e16;refine tky 13 (.int .i64 T.size) rfl (fun w' hw' => by
  have hf := run_fieldSize (.int .i64 T.num) (.int .i64 T.rev) (.int .i64 T.mode) (.int .i64 T.size) s0 s1 s2 s3 s4 s5 s6 s7 (.int .i64 T.m.live) (.int .i64 T.m.garb) w';go_simp) S2.out ?_
 refine gwq 15 fun K hK => ?_;go_simp
 go_at_call 60
 refine (psrec_any m (by unfold I64b; have := C1.out; have := C2.out; omega) V2).mono ?_;rintro e V3 ⟨rfl, rfl⟩;refine hK _ _ S2.out ?_;clear hK K;have e16 := E16.out;obtain ⟨Z, hZ⟩ : ∃ Z, Z = szI6 m := ⟨_, rfl⟩;rw [← hZ] at e16 HF ⊢;clear hZ E16;refine gwq 16 fun K hK => ?_;go_simp;refine hK _ _ S2.out ?_;clear hK K;clear e16;refine gwq 19 fun K hK => ?_;go_simp;refine hK _ _ S2.out ?_;clear hK K;refine gwq 20 fun K hK => ?_;go_simp;refine hK _ _ S2.out ?_;clear hK K;refine gwq 21 fun K hK => ?_;go_simp;refine hK _ _ S2.out ?_;clear hK K;refine wpAnyH_done (by kernel_rfl) ?_ _;unfold jqw;dsimp only;have S9 := Lh (B0.out.trans (S2.out.mono B0.out.size))
 go_wp2
 go_ret
 exact ⟨by rw [HF.out]; rfl, S9.out⟩
theorem gl_new {w : World} {b : Nat} {s0 s1 s2 s3 s4 s5 s6 s7 : Value} {g : Ge} (hb : w.heap[b]? = some (.cells #[.int .i64 g.num, .int .i64 g.rev, .int .i64 g.mode, .int .i64 g.size, s0, s1, s2, s3, s4, s5, s6, s7, .int .i64 g.m.live, .int .i64 g.m.garb] 55 (0, 0))) (hm : Ms w [s0, s1, s2, s3, s4, s5, s6, s7] g.m) (hj : J64 g.num ∧ J64 g.rev ∧ J64 g.mode ∧ J64 g.size) : Gl w (.slice (some ⟨b, 0, none⟩) 1 1) [g] := by
 refine ⟨[[.int .i64 g.num, .int .i64 g.rev, .int .i64 g.mode, .int .i64 g.size, s0, s1, s2, s3, s4, s5, s6, s7, .int .i64 g.m.live, .int .i64 g.m.garb]], some ⟨b, 0, none⟩, 1, rfl, rfl, Nat.le_refl _, by decide, fun k hk => ?_, fun _ => ⟨b, 0, rfl, fun k u hk hu => ?_⟩⟩
 ·obtain rfl : k = 0 := by simp at hk; omega
  exact ⟨s0, s1, s2, s3, s4, s5, s6, s7, rfl, hm, hj⟩
 ·obtain rfl : k = 0 := by simp at hk; omega
  rw [show (0 : Nat) + (0 * 14 + u) = u by omega, cell_of_row w b u _ _ _ hb, List.getElem?_toArray];rfl
def NwO (id lim : Int) (w : World) (e : Ending) (w' : World) : Prop := (∃ v, e = .returned (.tuple #[v, .int .i64 (if okSb ⟨id, lim, false, [frG 1]⟩ = true then 0 else 1)]) ∧ Sv w' v (if okSb ⟨id, lim, false, [frG 1]⟩ = true then ⟨id, lim, false, [frG 1]⟩ else ⟨0, 0, false, []⟩)) ∧ Below w.heap.size w w'
theorem nwO_t {id lim : Int} {w w' : World} {e : Ending} (h : okS ⟨id, lim, false, [frG 1]⟩) (q : (∃ v, e = .returned (.tuple #[v, .int .i64 0]) ∧ Sv w' v ⟨id, lim, false, [frG 1]⟩) ∧ Below w.heap.size w w') : NwO id lim w e w' := by
 unfold NwO;rw [jwm h];exact q
theorem nwO_f {id lim : Int} {w w' : World} {e : Ending} (h : ¬ okS ⟨id, lim, false, [frG 1]⟩) (q : (∃ v, e = .returned (.tuple #[v, .int .i64 1]) ∧ Sv w' v ⟨0, 0, false, []⟩) ∧ Below w.heap.size w w') : NwO id lim w e w' := by
 unfold NwO;rw [jwf h];exact q
theorem jwy : ∀ (k : Nat) (n : Int), (#[.int .i64 0, .int .i64 0, .bool false, .slice none 0 0] : Array Value)[k]? ≠ some (.int .u64 n) := fun k n h => by
 match k, h with
 | 0, h => simp at h
 | 1, h => simp at h
 | 2, h => simp at h
 | 3, h => simp at h
 | k + 4, h => simp at h
theorem frG_j : J64 (frG 1).num ∧ J64 (frG 1).rev ∧ J64 (frG 1).mode ∧ J64 (frG 1).size := by unfold J64 frG; decide
theorem frG_lge (n : Int) : LGe (frG n) := ⟨few_mp0, by show mp0.st.flatten.length ≤ 900; decide⟩
theorem psnew_any (id lim : Int) (hi : J64 id) (hlm : J64 lim) (w : World) : Calls Tryz.prog 25 #[.int .i64 id, .int .i64 lim] w (NwO id lim w) := by
 have B0 := Lh (jqg w (.cells #[.int .i64 0, .int .i64 0, .bool false, .slice none 0 0] 39));have HZ := Lh (heap_alloc_new w (.cells #[.int .i64 0, .int .i64 0, .bool false, .slice none 0 0] 39));have HI := Lh (And.intro hi hlm);clear hi hlm
 go_enter Tryz.func25, Tryz.ntmps25
 go_upto_region 1 with fail
 generalize w.alloc (.cells #[.int .i64 0, .int .i64 0, .bool false, .slice none 0 0] 39) = W0 at *;go_wp2_with fail
 refine (pfresh_any 1 W0).mono ?_;rintro e W1 ⟨⟨v1, rfl, hv1⟩, hb⟩;rw [if_pos (by decide)] at hv1 ⊢;obtain ⟨s0, s1, s2, s3, s4, s5, s6, s7, rfl, hms, -⟩ := hv1;have ON := Lh (jwj hms);have hz := heap_alloc_new W1 (.cells #[.int .i64 0, .int .i64 0, .int .i64 0, .int .i64 0, .slice none 0 0, .slice none 0 0, .slice none 0 0, .slice none 0 0, .slice none 0 0, .slice none 0 0, .slice none 0 0, .slice none 0 0, .int .i64 0, .int .i64 0] 55);go_upto_region 2 with ((with_reducible refine jxn W1.heap.size _ #[.int .i64 (frG 1).num, .int .i64 (frG 1).rev, .int .i64 (frG 1).mode, .int .i64 (frG 1).size, s0, s1, s2, s3, s4, s5, s6, s7, .int .i64 (frG 1).m.live, .int .i64 (frG 1).m.garb] ?_ ?_ hz rfl rfl ON.out ?_); exact rfl; exact rfl)
 rw [World.setRow_alloc_new];have hb2 := jqg W1 (.cells #[.int .i64 (frG 1).num, .int .i64 (frG 1).rev, .int .i64 (frG 1).mode, .int .i64 (frG 1).size, s0, s1, s2, s3, s4, s5, s6, s7, .int .i64 (frG 1).m.live, .int .i64 (frG 1).m.garb] 55);have hb3 := hb.trans (hb2.mono hb.size);have HX2 := Lh (heap_alloc_new W1 (.cells #[.int .i64 (frG 1).num, .int .i64 (frG 1).rev, .int .i64 (frG 1).mode, .int .i64 (frG 1).size, s0, s1, s2, s3, s4, s5, s6, s7, .int .i64 (frG 1).m.live, .int .i64 (frG 1).m.garb] 55));have HZ2 := Lh ((hb3.block _ (jqb HZ.out)).trans HZ.out);have MS2 := Lh (jqf hms hb2);have B2 := Lh (B0.out.trans (hb3.mono B0.out.size));clear hb hb2 hb3 hz hms HZ B0;generalize W1.alloc (.cells #[.int .i64 (frG 1).num, .int .i64 (frG 1).rev, .int .i64 (frG 1).mode, .int .i64 (frG 1).size, s0, s1, s2, s3, s4, s5, s6, s7, .int .i64 (frG 1).m.live, .int .i64 (frG 1).m.garb] 55) = W2 at *;generalize W1.heap.size = g1 at *;obtain ⟨x0, x1, x2, x3, x4, x5, x6, x7, x8, x9, x10, x11, x12, x13⟩ := bx14 HX2.out;have hb := jqg W2 (.cells #[.int .i64 (frG 1).num, .int .i64 (frG 1).rev, .int .i64 (frG 1).mode, .int .i64 (frG 1).size, s0, s1, s2, s3, s4, s5, s6, s7, .int .i64 (frG 1).m.live, .int .i64 (frG 1).m.garb] 55);have HB3 := Lh (heap_alloc_new W2 (.cells #[.int .i64 (frG 1).num, .int .i64 (frG 1).rev, .int .i64 (frG 1).mode, .int .i64 (frG 1).size, s0, s1, s2, s3, s4, s5, s6, s7, .int .i64 (frG 1).m.live, .int .i64 (frG 1).m.garb] 55));have HZ3 := Lh ((hb.block _ (jqb HZ2.out)).trans HZ2.out);have MS3 := Lh (jqf MS2.out hb);have B3 := Lh (B2.out.trans (hb.mono B2.out.size));clear hb HZ2 MS2 B2;go_wp2_with fail
 clear x0 x1 x2 x3 x4 x5 x6 x7 x8 x9 x10 x11 x12 x13;generalize W2.alloc (.cells #[.int .i64 (frG 1).num, .int .i64 (frG 1).rev, .int .i64 (frG 1).mode, .int .i64 (frG 1).size, s0, s1, s2, s3, s4, s5, s6, s7, .int .i64 (frG 1).m.live, .int .i64 (frG 1).m.garb] 55) = W3 at *;generalize W2.heap.size = gb at *;have GL3 := gl_new HB3.out MS3.out frG_j;refine (pchecked_x id lim false (some ⟨gb, 0, none⟩) 1 1 [frG 1] W3 rfl GL3 (by decide) (fun g hg => by
  obtain rfl := List.mem_singleton.1 hg;exact frG_lge 1)).mono ?_
 rintro e W4 ⟨rfl, hb⟩;have GL4 := Lh (jqj GL3 hb);have HB4 := Lh ((hb.block _ (jqb HB3.out)).trans HB3.out);have MS4 := Lh (jqf MS3.out hb);have HZ4 := Lh ((hb.block _ (jqb HZ3.out)).trans HZ3.out);have B4 := Lh (B3.out.trans (hb.mono B3.out.size));have NE := Lh (show gb ≠ w.heap.size from fun e => by
  have h1 := HB4.out;rw [e, HZ4.out] at h1
  cases h1)
 clear hb HB3 HZ3 MS3 B3 GL3;rcases Classical.em (okS ⟨id, lim, false, [frG 1]⟩) with h1 | h1
 ·rw [jwm h1, if_pos rfl, if_pos rfl]
  have HK := Lh h1;clear h1;go_wp2_with ((with_reducible refine storeS w.heap.size _ #[.int .i64 id, .int .i64 lim, .bool false, .slice (some ⟨gb, 0, none⟩) 1 1] ?_ ?_ HZ4.out rfl rfl (slv_one id lim false gb 0 1 1) ?_); exact rfl; exact rfl)
  refine bodyPost_ret (jqn (S := 39) rfl _ _ w.heap.size #[.int .i64 id, .int .i64 lim, .bool false, .slice (some ⟨gb, 0, none⟩) 1 1] rfl (setRow_heap _ _ _ _ _ _ HZ4.out) Tryz.underlying39 rfl infoS4) rfl ?_;exact nwO_t HK.out ⟨⟨_, rfl, _, rfl, gl_new ((setRow_other _ _ _ _ NE.out).trans HB4.out) (jqv MS4.out HZ4.out jwy) frG_j, HI.out⟩, jqd B4.out (Nat.le_refl _) _⟩
 ·rw [jwf h1]
  have HK := Lh h1;clear h1;simp only [Bool.false_eq_true, if_false];go_wp2_with ((with_reducible refine storeS w.heap.size _ #[.int .i64 0, .int .i64 0, .bool false, .slice none 0 0] ?_ ?_ HZ4.out rfl rfl zs_one ?_); exact rfl; exact rfl)
  refine bodyPost_ret (jqn (S := 39) rfl _ _ w.heap.size #[.int .i64 0, .int .i64 0, .bool false, .slice none 0 0] rfl (setRow_heap _ _ _ _ _ _ HZ4.out) Tryz.underlying39 rfl infoS4) rfl ?_;exact nwO_f HK.out ⟨⟨_, rfl, _, rfl, jxv _, by unfold J64; decide, by unfold J64; decide⟩, jqd B4.out (Nat.le_refl _) _⟩
end Go.Proofs.YtimoinfjinmamaaGreat.Gf
