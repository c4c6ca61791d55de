/- What is proved here: the reference's Fresh, Top, CanRotate, Fits and New. -/
/- What is proved here: the reference's Fresh, Top, CanRotate, Fits and New. -/
import Derived.Test.YtimoinfjinmamaaGreatGs13
namespace Go.Proofs.YtimoinfjinmamaaGreat.Gf
open Joins ChangeShapes WideShapes ChangeAt RowKit Deep By Qt
set_option maxRecDepth 100000
set_option maxHeartbeats 204800000
theorem infoRS4 : (Tryz.prog.info? 24).map (·.size) = some 4 := by kernel_rfl
theorem jwt {ops : Array Oper} {rest : List Oper} {x y : Operand} {pos : String} {after : Array Edge} {ty : TypeId} {a : Act} {w : World} {Q : Exit → Act → World → Prop}
 (g : Nat) (old cs : Array Value) (hx : a.eval x = .pointer (some ⟨g, 0, none⟩)) (hy : a.eval y = .agg cs) (hg : w.heap[g]? = some (.cells old 24 (0, 0))) (ho : old.size = 4) (hs : cs.size = 4) (h1 : cs.all (·.oneCell') = true)
 (h : wpList Tryz.prog ops Q rest a (w.setRow g cs)) : wpList Tryz.prog ops Q (⟨none, .store 24 x y, ty, pos, after, none⟩ :: rest) a w :=
 wpList_store_row rfl 24 x y rfl g cs hx hy 24 old hg (by rw [infoRS4, hs]) (by omega) h1 h
theorem fr_one (n : Int) : (#[.int .i64 (frG n).num, .int .i64 (frG n).rev, .int .i64 (frG n).mode, .int .i64 (frG n).size, .slice none 0 0, .slice none 0 0, .slice none 0 0, .slice none 0 0, .slice none 0 0, .slice none 0 0, .slice none 0 0, .slice none 0 0, .int .i64 (frG n).m.live, .int .i64 (frG n).m.garb] : Array Value).all (·.oneCell') = true := jwj (g := frG n) (mp0_ms (default : World))
theorem gl_newR {w : World} {b : Nat} {s0 s1 s2 s3 s4 s5 s6 s7 : Value} {g : Ge} (hb : w.heap[b]? = some (.cells #[.int .i64 g.num, .int .i64 g.rev, .int .i64 g.mode, .int .i64 g.size, s0, s1, s2, s3, s4, s5, s6, s7, .int .i64 g.m.live, .int .i64 g.m.garb] 31 (0, 0))) (hm : Ms w [s0, s1, s2, s3, s4, s5, s6, s7] g.m) (hj : J64 g.num ∧ J64 g.rev ∧ J64 g.mode ∧ J64 g.size) : Gl w (.slice (some ⟨b, 0, none⟩) 1 1) [g] := by
 refine ⟨[[.int .i64 g.num, .int .i64 g.rev, .int .i64 g.mode, .int .i64 g.size, s0, s1, s2, s3, s4, s5, s6, s7, .int .i64 g.m.live, .int .i64 g.m.garb]], some ⟨b, 0, none⟩, 1, rfl, rfl, Nat.le_refl _, by decide, fun k hk => ?_, fun _ => ⟨b, 0, rfl, fun k u hk hu => ?_⟩⟩
 ·obtain rfl : k = 0 := by simp at hk; omega
  exact ⟨s0, s1, s2, s3, s4, s5, s6, s7, rfl, hm, hj⟩
 ·obtain rfl : k = 0 := by simp at hk; omega
  rw [show (0 : Nat) + (0 * 14 + u) = u by omega, cell_of_row w b u _ _ _ hb, List.getElem?_toArray];rfl
theorem rfresh_any (n : Int) (w : World) : Calls Tryz.prog 37 #[.int .i64 n] w (FreO n w) := by
 have B0 := Lh (jqg w (.cells #[.int .i64 0, .int .i64 0, .int .i64 0, .int .i64 0, .slice none 0 0, .slice none 0 0, .slice none 0 0, .slice none 0 0, .slice none 0 0, .slice none 0 0, .slice none 0 0, .slice none 0 0, .int .i64 0, .int .i64 0] 31));have HG := Lh (heap_alloc_new w (.cells #[.int .i64 0, .int .i64 0, .int .i64 0, .int .i64 0, .slice none 0 0, .slice none 0 0, .slice none 0 0, .slice none 0 0, .slice none 0 0, .slice none 0 0, .slice none 0 0, .slice none 0 0, .int .i64 0, .int .i64 0] 31))
 go_enter Tryz.func37, Tryz.ntmps37
 go_upto_region 1 with fail
 generalize w.alloc (.cells #[.int .i64 0, .int .i64 0, .int .i64 0, .int .i64 0, .slice none 0 0, .slice none 0 0, .slice none 0 0, .slice none 0 0, .slice none 0 0, .slice none 0 0, .slice none 0 0, .slice none 0 0, .int .i64 0, .int .i64 0] 31) = W0 at *;rcases Classical.em (n < 1) with h1 | h1
 ·have d1 : decide (n < 1) = true := decide_eq_true h1
  have HH := Lh (show ¬ (1 ≤ n ∧ n ≤ 8) by omega);clear h1;go_wp2_with ((with_reducible refine jwv w.heap.size _ #[.int .i64 0, .int .i64 0, .int .i64 0, .int .i64 0, .slice none 0 0, .slice none 0 0, .slice none 0 0, .slice none 0 0, .slice none 0 0, .slice none 0 0, .slice none 0 0, .slice none 0 0, .int .i64 0, .int .i64 0] ?_ ?_ HG.out rfl rfl zg_one ?_); exact rfl; exact rfl)
  refine bodyPost_ret (jqn (S := 31) rfl _ _ w.heap.size #[.int .i64 0, .int .i64 0, .int .i64 0, .int .i64 0, .slice none 0 0, .slice none 0 0, .slice none 0 0, .slice none 0 0, .slice none 0 0, .slice none 0 0, .slice none 0 0, .slice none 0 0, .int .i64 0, .int .i64 0] rfl (setRow_heap _ _ _ _ _ _ HG.out) Tryz.underlying31 rfl jwb) rfl ?_;exact freO_f HH.out ⟨⟨_, rfl, g0_v _⟩, jqd B0.out (Nat.le_refl _) _⟩
 have d1 : decide (n < 1) = false := decide_eq_false h1;rcases Classical.em (8 < n) with h2 | h2
 ·have d2 : decide (8 < n) = true := decide_eq_true h2
  have HH := Lh (show ¬ (1 ≤ n ∧ n ≤ 8) by omega);clear h1 h2;go_wp2_with ((with_reducible refine jwv w.heap.size _ #[.int .i64 0, .int .i64 0, .int .i64 0, .int .i64 0, .slice none 0 0, .slice none 0 0, .slice none 0 0, .slice none 0 0, .slice none 0 0, .slice none 0 0, .slice none 0 0, .slice none 0 0, .int .i64 0, .int .i64 0] ?_ ?_ HG.out rfl rfl zg_one ?_); exact rfl; exact rfl)
  refine bodyPost_ret (jqn (S := 31) rfl _ _ w.heap.size #[.int .i64 0, .int .i64 0, .int .i64 0, .int .i64 0, .slice none 0 0, .slice none 0 0, .slice none 0 0, .slice none 0 0, .slice none 0 0, .slice none 0 0, .slice none 0 0, .slice none 0 0, .int .i64 0, .int .i64 0] rfl (setRow_heap _ _ _ _ _ _ HG.out) Tryz.underlying31 rfl jwb) rfl ?_;exact freO_f HH.out ⟨⟨_, rfl, g0_v _⟩, jqd B0.out (Nat.le_refl _) _⟩
 have d2 : decide (8 < n) = false := decide_eq_false h2;have HH := Lh (show 1 ≤ n ∧ n ≤ 8 by omega);clear h1 h2;have ON := Lh (fr_one n);go_wp2_with ((with_reducible refine jwv w.heap.size _ #[.int .i64 (frG n).num, .int .i64 (frG n).rev, .int .i64 (frG n).mode, .int .i64 (frG n).size, .slice none 0 0, .slice none 0 0, .slice none 0 0, .slice none 0 0, .slice none 0 0, .slice none 0 0, .slice none 0 0, .slice none 0 0, .int .i64 (frG n).m.live, .int .i64 (frG n).m.garb] ?_ ?_ HG.out rfl rfl ON.out ?_); exact rfl; exact rfl)
 refine bodyPost_ret (jqn (S := 31) rfl _ _ w.heap.size #[.int .i64 (frG n).num, .int .i64 (frG n).rev, .int .i64 (frG n).mode, .int .i64 (frG n).size, .slice none 0 0, .slice none 0 0, .slice none 0 0, .slice none 0 0, .slice none 0 0, .slice none 0 0, .slice none 0 0, .slice none 0 0, .int .i64 (frG n).m.live, .int .i64 (frG n).m.garb] rfl (setRow_heap _ _ _ _ _ _ HG.out) Tryz.underlying31 rfl jwb) rfl ?_;exact freO_t HH.out ⟨⟨_, rfl, _, _, _, _, _, _, _, _, rfl, mp0_ms _, by have := HH.out; unfold J64 frG; simp only; omega, by unfold J64 frG; simp only; omega, by unfold J64 frG; simp only; omega, by unfold J64 frG; simp only; omega⟩, jqd B0.out (Nat.le_refl _) _⟩
theorem rcanrot_x (id lim : Int) (ro : Bool) (a : Option Addr) (n c : Nat) (L : List Ge) (w : World) (hn : n = L.length) (hl : Gl w (.slice a n c) L) (hlen : n ≤ 10000) (hf : ∀ g ∈ L, LGe g) : Calls Tryz.prog 35 #[.agg #[.int .i64 id, .int .i64 lim, .bool ro, .slice a n c]] w fun e w' => e = .returned (.bool (rotB ⟨id, lim, ro, L⟩)) ∧ Below w.heap.size w w' := by
 have hb := jqg w (.cells #[.int .i64 id, .int .i64 lim, .bool ro, .slice a n c] 24);have HS := Lh (heap_alloc_new w (.cells #[.int .i64 id, .int .i64 lim, .bool ro, .slice a n c] 24));have B0 := Lh hb;have GL := Lh (jqj hl hb);have HN := Lh hn;have HLN := Lh hlen;have PV := Lh (fun W (h : Gl W (.slice a n c) L) => rsvalid_x id lim ro a n c L W hn h hlen hf);clear hl hf hb hn hlen
 go_enter Tryz.func35, Tryz.ntmps35
 go_upto_region 1 with fail
 generalize w.alloc (.cells #[.int .i64 id, .int .i64 lim, .bool ro, .slice a n c] 24) = W0 at *;obtain ⟨⟨y0, y1, y2, y3⟩, -⟩ := bx4 HS.out;rcases Classical.em (okS ⟨id, lim, ro, L⟩) with h1 | h1
 ·have PV2 := PV.out W0 GL.out
  rw [jwm h1] at PV2;have HK := Lh h1;clear h1;go_wp2_with fail
  refine PV2.mono ?_;rintro e W1 ⟨rfl, hb⟩;have HS1 := Lh ((hb.block _ (jqb HS.out)).trans HS.out);have GL1 := Lh (jqj GL.out hb);have B1 := Lh (B0.out.trans (hb.mono B0.out.size));clear hb HS GL B0 PV PV2;clear y0 y1 y2 y3;have hn0 : 0 < n := by have := HK.out.n1; have := HN.out; simp only at *; omega
  obtain ⟨b, off, rfl, s0, s1, s2, s3, s4, s5, s6, s7, GA⟩ := gl_at GL1.out (show n - 1 < n by omega);obtain ⟨p, hp⟩ : ∃ p, p = n - 1 := ⟨_, rfl⟩;have hq : jwh ⟨id, lim, ro, L⟩ = L.getD p g0 := by unfold jwh; rw [hp, HN.out]
  rw [← hp] at GA;have e1 : (n : Int) - 1 = (p : Int) := by omega
  have e2 : wrap64 (p : Int) = (p : Int) := by unfold wrap64; have := HLN.out; omega
  have p0 : (0 : Int) ≤ (p : Int) := by omega
  have p1 : (p : Int) < (n : Int) := by omega
  clear hp hn0;have HR := Lh (show rotB ⟨id, lim, ro, L⟩ = decide ((L.getD p g0).num < 8) by unfold rotB; rw [jwm HK.out, hq]; rfl);obtain ⟨x0, -⟩ := GA.cells;clear GA hq;generalize L.getD p g0 = T at *;obtain ⟨⟨y0, y1, y2, y3⟩, -⟩ := bx4 HS1.out;go_wp2_with fail
  go_ret
  exact ⟨by rw [HR.out]; rfl, B1.out⟩
 ·have PV2 := PV.out W0 GL.out
  rw [jwf h1] at PV2;have HR := Lh (show rotB ⟨id, lim, ro, L⟩ = false by unfold rotB; rw [jwf h1]; rfl);clear h1;go_wp2_with fail
  refine PV2.mono ?_;rintro e W1 ⟨rfl, hb⟩;have B1 := Lh (B0.out.trans (hb.mono B0.out.size));clear hb PV2;clear y0 y1 y2 y3;go_wp2_with fail
  go_ret
  exact ⟨by rw [HR.out]; rfl, B1.out⟩
theorem rsnew_any (id lim : Int) (hi : J64 id) (hlm : J64 lim) (w : World) : Calls Tryz.prog 28 #[.int .i64 id, .int .i64 lim] w (NwO id lim w) := by
 have B0 := Lh (jqg w (.cells #[.int .i64 0, .int .i64 0, .bool false, .slice none 0 0] 24));have HZ := Lh (heap_alloc_new w (.cells #[.int .i64 0, .int .i64 0, .bool false, .slice none 0 0] 24));have HI := Lh (And.intro hi hlm);clear hi hlm
 go_enter Tryz.func28, Tryz.ntmps28
 go_upto_region 1 with fail
 generalize w.alloc (.cells #[.int .i64 0, .int .i64 0, .bool false, .slice none 0 0] 24) = W0 at *;go_wp2_with fail
 refine (rfresh_any 1 W0).mono ?_;rintro e W1 ⟨⟨v1, rfl, hv1⟩, hb⟩;rw [if_pos (by decide)] at hv1 ⊢;obtain ⟨s0, s1, s2, s3, s4, s5, s6, s7, rfl, hms, -⟩ := hv1;have ON := Lh (jwj hms);have hz := heap_alloc_new W1 (.cells #[.int .i64 0, .int .i64 0, .int .i64 0, .int .i64 0, .slice none 0 0, .slice none 0 0, .slice none 0 0, .slice none 0 0, .slice none 0 0, .slice none 0 0, .slice none 0 0, .slice none 0 0, .int .i64 0, .int .i64 0] 31);go_upto_region 2 with ((with_reducible refine jwv W1.heap.size _ #[.int .i64 (frG 1).num, .int .i64 (frG 1).rev, .int .i64 (frG 1).mode, .int .i64 (frG 1).size, s0, s1, s2, s3, s4, s5, s6, s7, .int .i64 (frG 1).m.live, .int .i64 (frG 1).m.garb] ?_ ?_ hz rfl rfl ON.out ?_); exact rfl; exact rfl)
 rw [World.setRow_alloc_new];have hb2 := jqg W1 (.cells #[.int .i64 (frG 1).num, .int .i64 (frG 1).rev, .int .i64 (frG 1).mode, .int .i64 (frG 1).size, s0, s1, s2, s3, s4, s5, s6, s7, .int .i64 (frG 1).m.live, .int .i64 (frG 1).m.garb] 31);have hb3 := hb.trans (hb2.mono hb.size);have HX2 := Lh (heap_alloc_new W1 (.cells #[.int .i64 (frG 1).num, .int .i64 (frG 1).rev, .int .i64 (frG 1).mode, .int .i64 (frG 1).size, s0, s1, s2, s3, s4, s5, s6, s7, .int .i64 (frG 1).m.live, .int .i64 (frG 1).m.garb] 31));have HZ2 := Lh ((hb3.block _ (jqb HZ.out)).trans HZ.out);have MS2 := Lh (jqf hms hb2);have B2 := Lh (B0.out.trans (hb3.mono B0.out.size));clear hb hb2 hb3 hz hms HZ B0;generalize W1.alloc (.cells #[.int .i64 (frG 1).num, .int .i64 (frG 1).rev, .int .i64 (frG 1).mode, .int .i64 (frG 1).size, s0, s1, s2, s3, s4, s5, s6, s7, .int .i64 (frG 1).m.live, .int .i64 (frG 1).m.garb] 31) = W2 at *;generalize W1.heap.size = g1 at *;obtain ⟨x0, x1, x2, x3, x4, x5, x6, x7, x8, x9, x10, x11, x12, x13⟩ := bx14 HX2.out;have q0 := al2 W2 (.cells #[.int .i64 (frG 1).num, .int .i64 (frG 1).rev, .int .i64 (frG 1).mode, .int .i64 (frG 1).size, s0, s1, s2, s3, s4, s5, s6, s7, .int .i64 (frG 1).m.live, .int .i64 (frG 1).m.garb] 31) (.cells #[.int .i64 0, .int .i64 0, .bool false, .slice none 0 0] 24);have hq1 := q0.2.1;go_upto_region 3 with ((with_reducible refine jwt (W2.heap.size + 1) _ #[.int .i64 id, .int .i64 lim, .bool false, .slice (some ⟨W2.heap.size, 0, none⟩) 1 1] ?_ ?_ hq1 rfl rfl (slv_one id lim false W2.heap.size 0 1 1) ?_); exact rfl; exact rfl)
 clear x0 x1 x2 x3 x4 x5 x6 x7 x8 x9 x10 x11 x12 x13;have HB3 := Lh ((setRow_other _ _ _ #[.int .i64 id, .int .i64 lim, .bool false, .slice (some ⟨W2.heap.size, 0, none⟩) 1 1] (show W2.heap.size ≠ W2.heap.size + 1 by omega)).trans q0.1);have HS3 := Lh (setRow_heap _ _ _ #[.int .i64 id, .int .i64 lim, .bool false, .slice (some ⟨W2.heap.size, 0, none⟩) 1 1] _ _ hq1);have hb := jqd q0.2.2 (show W2.heap.size ≤ W2.heap.size + 1 by omega) #[.int .i64 id, .int .i64 lim, .bool false, .slice (some ⟨W2.heap.size, 0, none⟩) 1 1];have MS3 := Lh (jqf MS2.out hb);have HZ3 := Lh ((hb.block _ (jqb HZ2.out)).trans HZ2.out);have B3 := Lh (B2.out.trans (hb.mono B2.out.size));clear hb HZ2 MS2 B2 q0 hq1;generalize hgb : W2.heap.size = gb at *;clear hgb;generalize ((W2.alloc (.cells #[.int .i64 (frG 1).num, .int .i64 (frG 1).rev, .int .i64 (frG 1).mode, .int .i64 (frG 1).size, s0, s1, s2, s3, s4, s5, s6, s7, .int .i64 (frG 1).m.live, .int .i64 (frG 1).m.garb] 31)).alloc (.cells #[.int .i64 0, .int .i64 0, .bool false, .slice none 0 0] 24)).setRow (gb + 1) #[.int .i64 id, .int .i64 lim, .bool false, .slice (some ⟨gb, 0, none⟩) 1 1] = W3 at *;have GL3 := gl_newR HB3.out MS3.out frG_j;obtain ⟨⟨y0, y1, y2, y3⟩, -⟩ := bx4 HS3.out;go_wp2_with fail
 clear y0 y1 y2 y3;refine (rsvalid_x id lim false (some ⟨gb, 0, none⟩) 1 1 [frG 1] W3 rfl GL3 (by decide) (fun g hg => by
  obtain rfl := List.mem_singleton.1 hg;exact frG_lge 1)).mono ?_
 rintro e W4 ⟨rfl, hb⟩;have HB4 := Lh ((hb.block _ (jqb HB3.out)).trans HB3.out);have HS4 := Lh ((hb.block _ (jqb HS3.out)).trans HS3.out);have MS4 := Lh (jqf MS3.out hb);have HZ4 := Lh ((hb.block _ (jqb HZ3.out)).trans HZ3.out);have B4 := Lh (B3.out.trans (hb.mono B3.out.size));have NE := Lh (show gb ≠ w.heap.size from fun e => by
  have h1 := HB4.out;rw [e, HZ4.out] at h1
  cases h1)
 clear hb HB3 HZ3 MS3 B3 GL3 HS3;rcases Classical.em (okS ⟨id, lim, false, [frG 1]⟩) with h1 | h1
 ·rw [jwm h1]
  have HK := Lh h1;clear h1;obtain ⟨⟨y0, y1, y2, y3⟩, -⟩ := bx4 HS4.out;go_wp2_with ((with_reducible refine jwt w.heap.size _ #[.int .i64 id, .int .i64 lim, .bool false, .slice (some ⟨gb, 0, none⟩) 1 1] ?_ ?_ HZ4.out rfl rfl (slv_one id lim false gb 0 1 1) ?_); exact rfl; exact rfl)
  refine bodyPost_ret (jqn (S := 24) rfl _ _ w.heap.size #[.int .i64 id, .int .i64 lim, .bool false, .slice (some ⟨gb, 0, none⟩) 1 1] rfl (setRow_heap _ _ _ _ _ _ HZ4.out) Tryz.underlying24 rfl infoRS4) rfl ?_;exact nwO_t HK.out ⟨⟨_, rfl, _, rfl, gl_newR ((setRow_other _ _ _ _ NE.out).trans HB4.out) (jqv MS4.out HZ4.out jwy) frG_j, HI.out⟩, jqd B4.out (Nat.le_refl _) _⟩
 ·rw [jwf h1]
  have HK := Lh h1;clear h1;go_wp2_with ((with_reducible refine jwt w.heap.size _ #[.int .i64 0, .int .i64 0, .bool false, .slice none 0 0] ?_ ?_ HZ4.out rfl rfl zs_one ?_); exact rfl; exact rfl)
  refine bodyPost_ret (jqn (S := 24) rfl _ _ w.heap.size #[.int .i64 0, .int .i64 0, .bool false, .slice none 0 0] rfl (setRow_heap _ _ _ _ _ _ HZ4.out) Tryz.underlying24 rfl infoRS4) rfl ?_;exact nwO_f HK.out ⟨⟨_, rfl, _, rfl, jxv _, by unfold J64; decide, by unfold J64; decide⟩, jqd B4.out (Nat.le_refl _) _⟩
end Go.Proofs.YtimoinfjinmamaaGreat.Gf
