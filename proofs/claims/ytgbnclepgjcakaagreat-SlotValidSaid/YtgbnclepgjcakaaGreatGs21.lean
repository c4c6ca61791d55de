/- What is proved here: the references' Same: equal generations and equal slots are the same. -/
import Derived.Test.YtgbnclepgjcakaaGreatGs20
namespace Go.Proofs.YtgbnclepgjcakaaGreat.Gf
open Go Go.Joins Go.ChangeShapes Go.WideShapes Go.ChangeAt Go.RowKit Go.Deep Go.Proofs.YtgbnclepgjcakaaGreat.By Go.Proofs.YtgbnclepgjcakaaGreat.Qt
set_option maxRecDepth 100000
set_option maxHeartbeats 204800000

theorem rgsame_eq (v1 v2 : Value) (g : Ge) (w : World) (h1 : Gv w v1 g) (h2 : Gv w v2 g) : Calls Tryz.prog 50 #[v1, v2] w fun e w' => e = .returned (.bool true) ∧ Below w.heap.size w w' := by
 obtain ⟨s0, s1, s2, s3, s4, s5, s6, s7, rfl, hm1, -⟩ := h1
 obtain ⟨t0, t1, t2, t3, t4, t5, t6, t7, rfl, hm2, -⟩ := h2
 have q0 := al2 w (.cells #[.int .i64 g.num, .int .i64 g.rev, .int .i64 g.mode, .int .i64 g.size, s0, s1, s2, s3, s4, s5, s6, s7, .int .i64 g.m.live, .int .i64 g.m.garb] 46) (.cells #[.int .i64 g.num, .int .i64 g.rev, .int .i64 g.mode, .int .i64 g.size, t0, t1, t2, t3, t4, t5, t6, t7, .int .i64 g.m.live, .int .i64 g.m.garb] 46)
 have HS := Lh q0.1
 have HT := Lh q0.2.1
 have B0 := Lh q0.2.2
 have M1 := Lh (ms_below hm1 q0.2.2)
 have M2 := Lh (ms_below hm2 q0.2.2)
 clear q0 hm1 hm2
 go_enter Tryz.func50, Tryz.ntmps50
 go_upto_region 1 with fail
 generalize (w.alloc (.cells #[.int .i64 g.num, .int .i64 g.rev, .int .i64 g.mode, .int .i64 g.size, s0, s1, s2, s3, s4, s5, s6, s7, .int .i64 g.m.live, .int .i64 g.m.garb] 46)).alloc (.cells #[.int .i64 g.num, .int .i64 g.rev, .int .i64 g.mode, .int .i64 g.size, t0, t1, t2, t3, t4, t5, t6, t7, .int .i64 g.m.live, .int .i64 g.m.garb] 46) = W0 at *
 obtain ⟨x0, x1, x2, x3, x4, x5, x6, x7, x8, x9, x10, x11, x12, x13⟩ := bx14 HS.out
 obtain ⟨z0, z1, z2, z3, z4, z5, z6, z7, z8, z9, z10, z11, z12, z13⟩ := bx14 HT.out
 go_wp2_with fail
 clear x0 x1 x2 x3 x4 x5 x6 x7 x8 x9 x10 x11 x12 x13
 clear z0 z1 z2 z3 z4 z5 z6 z7 z8 z9 z10 z11 z12 z13
 refine (rsame11_any _ _ g.m g.m W0 ⟨s0, s1, s2, s3, s4, s5, s6, s7, rfl, M1.out⟩ ⟨t0, t1, t2, t3, t4, t5, t6, t7, rfl, M2.out⟩).mono ?_
 rintro e V1 ⟨rfl, hb⟩
 rw [sameM_self]
 have BB := Lh (B0.out.trans (hb.mono B0.out.size))
 clear hb
 go_wp2_with fail
 go_ret
 exact ⟨rfl, BB.out⟩
theorem rssame_eq (v1 v2 : Value) (s : Slt) (w : World) (h1 : Sv w v1 s) (h2 : Sv w v2 s) (hlen : s.gens.length ≤ 10000) : Calls Tryz.prog 20 #[v1, v2] w fun e w' => e = .returned (.bool true) ∧ Below w.heap.size w w' := by
 obtain ⟨id, lim, ro, L⟩ := s
 obtain ⟨gv1, rfl, hg1, -⟩ := h1
 obtain ⟨gv2, rfl, hg2, -⟩ := h2
 simp only at hg1 hg2 hlen ⊢
 obtain ⟨a, c, rfl, -⟩ := gl_form hg1
 obtain ⟨a2, c2, rfl, -⟩ := gl_form hg2
 generalize L.length = n at *
 have q0 := al2 w (.cells #[.int .i64 id, .int .i64 lim, .bool ro, .slice a n c] 24) (.cells #[.int .i64 id, .int .i64 lim, .bool ro, .slice a2 n c2] 24)
 have HS := Lh q0.1
 have HT := Lh q0.2.1
 have B0 := Lh q0.2.2
 have HLN := Lh hlen
 have GL1 := Lh (gl_below hg1 q0.2.2)
 have GL2 := Lh (gl_below hg2 q0.2.2)
 clear q0 hg1 hg2 hlen
 go_enter Tryz.func20, Tryz.ntmps20
 go_upto_region 1 with fail
 generalize (w.alloc (.cells #[.int .i64 id, .int .i64 lim, .bool ro, .slice a n c] 24)).alloc (.cells #[.int .i64 id, .int .i64 lim, .bool ro, .slice a2 n c2] 24) = W0 at *
 obtain ⟨⟨y0, y1, y2, y3⟩, -⟩ := bx4 HS.out
 obtain ⟨⟨z0, z1, z2, z3⟩, -⟩ := bx4 HT.out
 go_wp2_with fail
 clear y0 y1 y2 y3 z0 z1 z2 z3
 go_loopw [5] (fun t wr => ∃ i : Nat, i ≤ n ∧ t = .int .i64 (i : Int) ∧ Below W0.heap.size W0 wr) (fun t _ => n - (intOf t).toNat)
 case atStart => exact ⟨0, Nat.zero_le _, rfl, Below.refl _ _⟩
 case round =>
  obtain ⟨i, hi, rfl, hB⟩ := hrel
  rename World => wr
  have BB := Lh hB
  clear hB
  obtain ⟨⟨y0, y1, y2, y3⟩, -⟩ := bx4 ((BB.out.block _ (lt_of_some HS.out)).trans HS.out)
  by_cases hlt : i < n
  case neg =>
   obtain rfl : n = i := by omega
   have d1 : decide ((n : Int) < (n : Int)) = false := decide_eq_false (by omega)
   have B9 := Lh (B0.out.trans (BB.out.mono B0.out.size))
   clear hi hlt
   go_wp2_with fail
   go_ret
   exact ⟨rfl, B9.out⟩
  have d1 : decide ((i : Int) < (n : Int)) = true := decide_eq_true (by omega)
  have d2 : decide (i < n) = true := decide_eq_true hlt
  have HI := Lh hlt
  obtain ⟨b1, o1, hab, s0, s1, s2, s3, s4, s5, s6, s7, g1⟩ := gl_at GL1.out hlt
  obtain rfl := hab
  obtain ⟨b2, o2, hab, t0, t1, t2, t3, t4, t5, t6, t7, g2⟩ := gl_at GL2.out hlt
  obtain rfl := hab
  generalize L.getD i g0 = u at *
  have GA1 := Lh g1
  have GA2 := Lh g2
  have p0 : (0 : Int) ≤ (i : Int) := by omega
  have p1 : (i : Int) < (n : Int) := by omega
  clear g1 g2 hlt hi
  go_upto_region 6 with fail
  clear d1 d2 y0 y1 y2 y3
  refine wp_onlyN ?_
  refine wp_region_headsS (fun W' => Below W0.heap.size W0 W') [0, 1, 2, 3, 4, 5, 6, 7, 8, 9] 2 (by kernel_rfl) (fun _ _ _ _ _ h => h.elim) (by kernel_rfl) (by rfl) (by rfl) BB.out.drew ?_
  simp only [pickOps, List.filterMap_cons, List.filterMap_nil, List.getElem?_toArray, List.getElem?_cons_zero, List.getElem?_cons_succ]
  refine wpHeads_step (fun K hK => ?_)
  go_simp
  refine ⟨_, fun _ _ => rfl, hK _ ?_⟩
  clear hK K
  refine wpHeads_step (fun K hK => ?_)
  go_simp
  refine ⟨.slice (some ⟨b1, o1, none⟩) n c, fun w' hw' => by
   obtain ⟨⟨y0, y1, y2, y3⟩, -⟩ := bx4 ((hw'.block _ (lt_of_some HS.out)).trans HS.out)
   go_simp, hK _ ?_⟩
  clear hK K
  refine wpHeads_step (fun K hK => ?_)
  go_simp
  refine ⟨_, fun _ _ => rfl, hK _ ?_⟩
  clear hK K
  refine wpHeads_step (fun K hK => ?_)
  go_simp
  refine ⟨.pointer (some ⟨b1, o1 + i * 14, none⟩), fun w' hw' => by
   skip
   go_simp, hK _ ?_⟩
  clear hK K
  refine wpHeads_step (fun K hK => ?_)
  go_simp
  refine ⟨.agg #[.int .i64 u.num, .int .i64 u.rev, .int .i64 u.mode, .int .i64 u.size, s0, s1, s2, s3, s4, s5, s6, s7, .int .i64 u.m.live, .int .i64 u.m.garb], fun w' hw' => by
   obtain ⟨x0, x1, x2, x3, x4, x5, x6, x7, x8, x9, x10, x11, x12, x13⟩ := (gat_below GA1.out hw').cells
   go_simp, hK _ ?_⟩
  clear hK K
  refine wpHeads_step (fun K hK => ?_)
  go_simp
  refine ⟨_, fun _ _ => rfl, hK _ ?_⟩
  clear hK K
  refine wpHeads_step (fun K hK => ?_)
  go_simp
  refine ⟨.slice (some ⟨b2, o2, none⟩) n c2, fun w' hw' => by
   obtain ⟨⟨y0, y1, y2, y3⟩, -⟩ := bx4 ((hw'.block _ (lt_of_some HT.out)).trans HT.out)
   go_simp, hK _ ?_⟩
  clear hK K
  refine wpHeads_step (fun K hK => ?_)
  go_simp
  refine ⟨_, fun _ _ => rfl, hK _ ?_⟩
  clear hK K
  refine wpHeads_step (fun K hK => ?_)
  go_simp
  refine ⟨.pointer (some ⟨b2, o2 + i * 14, none⟩), fun w' hw' => by
   skip
   go_simp, hK _ ?_⟩
  clear hK K
  refine wpHeads_step (fun K hK => ?_)
  go_simp
  refine ⟨.agg #[.int .i64 u.num, .int .i64 u.rev, .int .i64 u.mode, .int .i64 u.size, t0, t1, t2, t3, t4, t5, t6, t7, .int .i64 u.m.live, .int .i64 u.m.garb], fun w' hw' => by
   obtain ⟨x0, x1, x2, x3, x4, x5, x6, x7, x8, x9, x10, x11, x12, x13⟩ := (gat_below GA2.out hw').cells
   go_simp, hK _ ?_⟩
  clear hK K
  refine wpHeads_nil ?_
  have SD := Lh (BB.out.drew)
  generalize wr.drew = WD at *
  have PV := rgsame_eq (.agg #[.int .i64 u.num, .int .i64 u.rev, .int .i64 u.mode, .int .i64 u.size, s0, s1, s2, s3, s4, s5, s6, s7, .int .i64 u.m.live, .int .i64 u.m.garb]) (.agg #[.int .i64 u.num, .int .i64 u.rev, .int .i64 u.mode, .int .i64 u.size, t0, t1, t2, t3, t4, t5, t6, t7, .int .i64 u.m.live, .int .i64 u.m.garb]) u WD ⟨s0, s1, s2, s3, s4, s5, s6, s7, rfl, ms_below GA1.out.ms SD.out, GA1.out.j⟩ ⟨t0, t1, t2, t3, t4, t5, t6, t7, rfl, ms_below GA2.out.ms SD.out, GA2.out.j⟩
  refine gwq 10 rfl (by kernel_rfl) fun K hK => ?_
  go_simp
  go_at_call 50
  refine PV.mono ?_
  rintro e V1 ⟨rfl, hb⟩
  refine hK _ _ (SD.out.trans (hb.mono SD.out.size)) ?_
  clear hK K
  have S1 := Lh (SD.out.trans (hb.mono SD.out.size))
  clear hb SD PV
  refine gwq 11 rfl (by kernel_rfl) fun K hK => ?_
  go_simp
  refine hK _ _ S1.out ?_
  clear hK K
  refine wpAnyH_done (by kernel_rfl) ?_ _
  unfold onlyN
  dsimp only
  have hw := w64s8 i (by have := HLN.out; have := HI.out; omega)
  go_wp2_with fail
  go_roundw
  case rel => exact ⟨i + 1, HI.out, by go_num, S1.out⟩
  case measure => exact meas8 n i HI.out (by have := HLN.out; omega)
end Go.Proofs.YtgbnclepgjcakaaGreat.Gf
