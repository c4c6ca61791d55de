/- What is proved here: the reference's Kill, as far as the laws' slots want it: it answers some generation of few items. -/
import Derived.Test.YtgbnclepgjcakaaGreatGs15
namespace Go.Proofs.YtgbnclepgjcakaaGreat.Gf
open Go Go.Joins Go.ChangeShapes Go.WideShapes Go.ChangeAt Go.RowKit Go.Deep Go.Proofs.YtgbnclepgjcakaaGreat.By Go.Proofs.YtgbnclepgjcakaaGreat.Qt
set_option maxRecDepth 100000
set_option maxHeartbeats 204800000

/-- A list of keys, as far as it is read. -/
def Kl (w : World) (v : Value) (n : Nat) : Prop := ∃ a c, v = .slice a n c ∧ n ≤ c ∧ c ≤ maxLen ∧ (0 < n → ∃ b off, a = some ⟨b, off, none⟩ ∧ ∀ i, i < n → ∃ q : Nat, q < 18446744073709551616 ∧ w.cell? ⟨b, off + i, none⟩ = some (.int .u64 (q : Int)))
theorem kl_below {w w' : World} {v : Value} {n : Nat} (h : Kl w v n) (hB : Below w.heap.size w w') : Kl w' v n := by
 obtain ⟨a, c, h1, h2, h3, h4⟩ := h
 refine ⟨a, c, h1, h2, h3, fun hp => ?_⟩
 obtain ⟨b, off, ha, hc⟩ := h4 hp
 refine ⟨b, off, ha, fun i hi => ?_⟩
 obtain ⟨q, hq, hqc⟩ := hc i hi
 exact ⟨q, hq, (hB.cell (p := ⟨b, off + i, none⟩) (block_lt_of_cell hqc)).trans hqc⟩
/-- Some generation of at most n items, and some error. -/
def SomG (n : Nat) (w : World) (e : Ending) (w' : World) : Prop := (∃ v c, e = .returned (.tuple #[v, .int .i64 c]) ∧ J64 c ∧ ∃ g, Gv w' v g ∧ g.m.st.flatten.length ≤ n) ∧ Below w.heap.size w w'
theorem g0_fl (n : Nat) : g0.m.st.flatten.length ≤ n := Nat.zero_le n
theorem rkill_some (v : Value) (g : Ge) (N : Nat) (vk : Value) (n : Nat) (w : World) (hv : Gv w v g) (hfl : g.m.st.flatten.length ≤ N) (hN : N ≤ 900) (hk : Kl w vk n) (hnk : n ≤ 100000) : Calls Tryz.prog 39 #[v, vk] w (SomG N w) := by
 obtain ⟨s0, s1, s2, s3, s4, s5, s6, s7, rfl, hm, hj⟩ := hv
 have q0 := al2 w (.cells #[.int .i64 g.num, .int .i64 g.rev, .int .i64 g.mode, .int .i64 g.size, s0, s1, s2, s3, s4, s5, s6, s7, .int .i64 g.m.live, .int .i64 g.m.garb] 46) (.cells #[.int .i64 0, .int .i64 0, .int .i64 0, .int .i64 0, .slice none 0 0, .slice none 0 0, .slice none 0 0, .slice none 0 0, .slice none 0 0, .slice none 0 0, .slice none 0 0, .slice none 0 0, .int .i64 0, .int .i64 0] 46)
 have HS := Lh q0.1
 have HZ := Lh q0.2.1
 have B0 := Lh q0.2.2
 have MS := Lh (ms_below hm q0.2.2)
 have ON0 := Lh (gc_one hm)
 have HJ := Lh hj
 have HFL0 := Lh hfl
 have HNN := Lh hN
 have HKL := Lh hk
 have HNK := Lh hnk
 have PV := Lh (fun W (h : Gv W (.agg #[.int .i64 g.num, .int .i64 g.rev, .int .i64 g.mode, .int .i64 g.size, s0, s1, s2, s3, s4, s5, s6, s7, .int .i64 g.m.live, .int .i64 g.m.garb]) g) => rgvalid_any (.agg #[.int .i64 g.num, .int .i64 g.rev, .int .i64 g.mode, .int .i64 g.size, s0, s1, s2, s3, s4, s5, s6, s7, .int .i64 g.m.live, .int .i64 g.m.garb]) g W h (few_of hm.1 (by omega)) (by omega))
 obtain ⟨ak, ck, rfl, -, -, -⟩ := hk
 clear q0 hm hj hfl hN hnk
 go_enter Tryz.func39, Tryz.ntmps39
 go_upto_region 1 with fail
 generalize (w.alloc (.cells #[.int .i64 g.num, .int .i64 g.rev, .int .i64 g.mode, .int .i64 g.size, s0, s1, s2, s3, s4, s5, s6, s7, .int .i64 g.m.live, .int .i64 g.m.garb] 46)).alloc (.cells #[.int .i64 0, .int .i64 0, .int .i64 0, .int .i64 0, .slice none 0 0, .slice none 0 0, .slice none 0 0, .slice none 0 0, .slice none 0 0, .slice none 0 0, .slice none 0 0, .slice none 0 0, .int .i64 0, .int .i64 0] 46) = W0 at *
 obtain ⟨x0, x1, x2, x3, x4, x5, x6, x7, x8, x9, x10, x11, x12, x13⟩ := bx14 HS.out
 go_wp2_with fail
 clear x0 x1 x2 x3 x4 x5 x6 x7 x8 x9 x10 x11 x12 x13
 refine (PV.out W0 ⟨s0, s1, s2, s3, s4, s5, s6, s7, rfl, MS.out, HJ.out⟩).mono ?_
 rintro e W1 ⟨rfl, hb⟩
 have HS1 := Lh ((hb.block _ (lt_of_some HS.out)).trans HS.out)
 have HZ1 := Lh ((hb.block _ (lt_of_some HZ.out)).trans HZ.out)
 have MS1 := Lh (ms_below MS.out hb)
 have B1 := Lh (B0.out.trans (hb.mono B0.out.size))
 clear hb HS HZ MS B0 PV
 rcases Classical.em (okGe g) with h1 | h1
 case inr =>
  rw [okGb_f h1]
  clear h1
  go_wp2_with ((with_reducible refine storeRG (w.heap.size + 1) _ #[.int .i64 0, .int .i64 0, .int .i64 0, .int .i64 0, .slice none 0 0, .slice none 0 0, .slice none 0 0, .slice none 0 0, .slice none 0 0, .slice none 0 0, .slice none 0 0, .slice none 0 0, .int .i64 0, .int .i64 0] ?_ ?_ HZ1.out rfl rfl zg_one ?_); exact rfl; exact rfl)
  refine bodyPost_ret (results_rt (S := 46) rfl _ _ (w.heap.size + 1) #[.int .i64 0, .int .i64 0, .int .i64 0, .int .i64 0, .slice none 0 0, .slice none 0 0, .slice none 0 0, .slice none 0 0, .slice none 0 0, .slice none 0 0, .slice none 0 0, .slice none 0 0, .int .i64 0, .int .i64 0] rfl (setRow_heap _ _ _ _ _ _ HZ1.out) Tryz.underlying46 rfl infoRG14) rfl ?_
  exact ⟨⟨_, _, rfl, by unfold J64; decide, g0, g0_v _, g0_fl _⟩, below_setRowM B1.out (Nat.le_succ _) _⟩
 rw [okGb_t h1]
 clear h1
 obtain ⟨x0, x1, x2, x3, x4, x5, x6, x7, x8, x9, x10, x11, x12, x13⟩ := bx14 HS1.out
 by_cases h2 : g.mode = 1
 ·have d1 : decide (g.mode = 1) = true := decide_eq_true h2
  have d2 : (g.mode == 1) = true := beq_iff_eq.2 h2
  clear h2
  go_wp2_with ((with_reducible refine storeRG (w.heap.size + 1) _ #[.int .i64 0, .int .i64 0, .int .i64 0, .int .i64 0, .slice none 0 0, .slice none 0 0, .slice none 0 0, .slice none 0 0, .slice none 0 0, .slice none 0 0, .slice none 0 0, .slice none 0 0, .int .i64 0, .int .i64 0] ?_ ?_ HZ1.out rfl rfl zg_one ?_); exact rfl; exact rfl)
  refine bodyPost_ret (results_rt (S := 46) rfl _ _ (w.heap.size + 1) #[.int .i64 0, .int .i64 0, .int .i64 0, .int .i64 0, .slice none 0 0, .slice none 0 0, .slice none 0 0, .slice none 0 0, .slice none 0 0, .slice none 0 0, .slice none 0 0, .slice none 0 0, .int .i64 0, .int .i64 0] rfl (setRow_heap _ _ _ _ _ _ HZ1.out) Tryz.underlying46 rfl infoRG14) rfl ?_
  exact ⟨⟨_, _, rfl, by unfold J64; decide, g0, g0_v _, g0_fl _⟩, below_setRowM B1.out (Nat.le_succ _) _⟩
 have d1 : decide (g.mode = 1) = false := decide_eq_false h2
 have d2 : (g.mode == 1) = false := beq_false_of_ne h2
 clear h2
 go_wp2_with fail
 clear x0 x1 x2 x3 x4 x5 x6 x7 x8 x9 x10 x11 x12 x13
 clear d1 d2
 go_loopw [6] (fun t6 wr => ∃ i : Nat, i ≤ n ∧ t6 = .int .i64 (i : Int) ∧ ∃ (m : Mp) (t0 t1 t2 t3 t4 t5 t6 t7 : Value), wr.heap[w.heap.size]? = some (.cells #[.int .i64 g.num, .int .i64 g.rev, .int .i64 g.mode, .int .i64 g.size, t0, t1, t2, t3, t4, t5, t6, t7, .int .i64 m.live, .int .i64 m.garb] 46 (0, 0)) ∧ wr.heap[w.heap.size + 1]? = some (.cells #[.int .i64 0, .int .i64 0, .int .i64 0, .int .i64 0, .slice none 0 0, .slice none 0 0, .slice none 0 0, .slice none 0 0, .slice none 0 0, .slice none 0 0, .slice none 0 0, .slice none 0 0, .int .i64 0, .int .i64 0] 46 (0, 0)) ∧ Ms wr [t0, t1, t2, t3, t4, t5, t6, t7] m ∧ m.st.flatten.length ≤ N ∧ Below w.heap.size w wr) (fun t _ => n - (intOf t).toNat)
 case atStart => exact ⟨0, Nat.zero_le _, rfl, g.m, s0, s1, s2, s3, s4, s5, s6, s7, HS1.out, HZ1.out, MS1.out, HFL0.out, B1.out⟩
 case round =>
  obtain ⟨i, hi, rfl, m, t0, t1, t2, t3, t4, t5, t6, t7, hx, hzz, hms, hfl, hB⟩ := hrel
  rename World => wl
  have HX := Lh hx
  have HZ := Lh hzz
  have HMS := Lh hms
  have HFL := Lh hfl
  have HB := Lh hB
  clear hx hzz hms hfl hB
  by_cases hlt : i < n
  case neg =>
   obtain rfl : i = n := by omega
   have d1 : decide ((i : Int) < (i : Int)) = false := decide_eq_false (by omega)
   have ON := Lh (gc_one (g := ⟨g.num, g.rev, g.mode, g.size, m⟩) HMS.out)
   clear hlt hi
   obtain ⟨x0, x1, x2, x3, x4, x5, x6, x7, x8, x9, x10, x11, x12, x13⟩ := bx14 HX.out
   go_wp2_with ((with_reducible refine storeRG (w.heap.size + 1) _ #[.int .i64 g.num, .int .i64 g.rev, .int .i64 g.mode, .int .i64 g.size, t0, t1, t2, t3, t4, t5, t6, t7, .int .i64 m.live, .int .i64 m.garb] ?_ ?_ HZ.out rfl rfl ON.out ?_); exact rfl; exact rfl)
   refine bodyPost_ret (results_rt (S := 46) rfl _ _ (w.heap.size + 1) #[.int .i64 g.num, .int .i64 g.rev, .int .i64 g.mode, .int .i64 g.size, t0, t1, t2, t3, t4, t5, t6, t7, .int .i64 m.live, .int .i64 m.garb] rfl (setRow_heap _ _ _ _ _ _ HZ.out) Tryz.underlying46 rfl infoRG14) rfl ?_
   exact ⟨⟨_, _, rfl, by unfold J64; decide, ⟨g.num, g.rev, g.mode, g.size, m⟩, ⟨t0, t1, t2, t3, t4, t5, t6, t7, rfl, ms_setRowF HMS.out HZ.out zeroG_u64, HJ.out⟩, HFL.out⟩, below_setRowM HB.out (Nat.le_succ _) _⟩
  have d1 : decide ((i : Int) < (n : Int)) = true := decide_eq_true (by omega)
  have d2 : decide (i < n) = true := decide_eq_true hlt
  obtain ⟨a2, c2, hv2, -, -, hc2⟩ := HKL.out
  obtain ⟨b, off, ha2, hcc⟩ := hc2 (by omega)
  obtain ⟨rfl, -, rfl⟩ : ak = a2 ∧ n = n ∧ ck = c2 := by simpa using hv2
  subst ha2
  obtain ⟨q, hq, hqc⟩ := hcc i hlt
  have HQB := Lh (show (⟨b, off + i, none⟩ : Addr).block < w.heap.size from block_lt_of_cell hqc)
  have HQ := Lh ((HB.out.cell (p := ⟨b, off + i, none⟩) HQB.out).trans hqc)
  have HI := Lh hlt
  clear hv2 hc2 hcc hq hqc hlt hi
  go_upto_region 8 with fail
  clear d1 d2
  refine wp_onlyN ?_
  refine wp_region_headsS (fun W' => Below w.heap.size wl W') [0, 2, 3, 4, 5] 4 (by kernel_rfl) (fun _ _ _ _ _ h => h.elim) (by kernel_rfl) (by rfl) (by rfl) ((Below.refl wl.heap.size wl).drew.mono HB.out.size) ?_
  simp only [pickOps, List.filterMap_cons, List.filterMap_nil, List.getElem?_toArray, List.getElem?_cons_zero, List.getElem?_cons_succ]
  refine wpHeads_step (fun K hK => ?_)
  go_simp
  refine ⟨_, fun _ _ => rfl, hK _ ?_⟩
  clear hK K
  refine wpHeads_step (fun K hK => ?_)
  go_simp
  refine ⟨_, fun _ _ => rfl, hK _ ?_⟩
  clear hK K
  refine wpHeads_step (fun K hK => ?_)
  go_simp
  refine ⟨_, fun _ _ => rfl, hK _ ?_⟩
  clear hK K
  refine wpHeads_step (fun K hK => ?_)
  go_simp
  refine ⟨.pointer (some ⟨b, off + i, none⟩), fun w' hw' => by
   have p0 : (0 : Int) ≤ (i : Int) := by omega
   have p1 : (i : Int) < (n : Int) := by have := HI.out; omega
   have p2 := HI.out
   have p3 : ¬ n ≤ i := by have := HI.out; omega
   go_simp, hK _ ?_⟩
  clear hK K
  refine wpHeads_step (fun K hK => ?_)
  go_simp
  refine ⟨.int .u64 (q : Int), fun w' hw' => by
   have k0 : w'.cell? ⟨b, off + i, none⟩ = some (.int .u64 (q : Int)) := (hw'.cell (p := ⟨b, off + i, none⟩) HQB.out).trans HQ.out
   go_simp, hK _ ?_⟩
  clear hK K
  refine wpHeads_nil ?_
  have SD := Lh (Below.refl wl.heap.size wl).drew
  have SW := Lh (SD.out.mono HB.out.size)
  have HX0 := Lh ((SD.out.block _ (lt_of_some HX.out)).trans HX.out)
  have HZ0 := Lh ((SD.out.block _ (lt_of_some HZ.out)).trans HZ.out)
  have MS0 := Lh (ms_below HMS.out SD.out)
  have B0 := Lh (HB.out.trans SW.out)
  generalize wl.drew = WD at *
  have PD := rdelete11_any (.agg #[t0, t1, t2, t3, t4, t5, t6, t7, .int .i64 m.live, .int .i64 m.garb]) m q WD ⟨t0, t1, t2, t3, t4, t5, t6, t7, rfl, MS0.out⟩ (few_of HMS.out.1 (Nat.le_trans HFL.out (by have := HNN.out; omega))) (Nat.le_trans HFL.out HNN.out)
  obtain ⟨x0, x1, x2, x3, x4, x5, x6, x7, x8, x9, x10, x11, x12, x13⟩ := bx14 HX0.out
  refine gwr 1 fun K hK => ?_
  go_simp
  refine hK _ _ SW.out ?_
  clear hK K
  clear x0 x1 x2 x3 x4 x5 x6 x7 x8 x9 x10 x11 x12 x13
  refine gwr 6 fun K hK => ?_
  go_simp
  go_at_call 63
  refine PD.mono ?_
  rintro e V4 ⟨⟨v4, rfl, hv4⟩, hb⟩
  refine hK _ _ (SW.out.trans (hb.mono B0.out.size)) ?_
  clear hK K PD
  obtain ⟨s0, s1, s2, s3, s4, s5, s6, s7, rfl, hms⟩ := hv4
  have HX1 := Lh ((hb.block _ (lt_of_some HX0.out)).trans HX0.out)
  have HZ1 := Lh ((hb.block _ (lt_of_some HZ0.out)).trans HZ0.out)
  have SW1 := Lh (SW.out.trans (hb.mono B0.out.size))
  have B1 := Lh (B0.out.trans (hb.mono B0.out.size))
  have ON := Lh (ms_one hms (delM m q).live (delM m q).garb)
  have UF := Lh (gc_u64 (g := ⟨g.num, g.rev, g.mode, g.size, m⟩) MS0.out)
  have MS1 := Lh (ms_setRowF hms HX1.out UF.out (cs := #[.int .i64 g.num, .int .i64 g.rev, .int .i64 g.mode, .int .i64 g.size, s0, s1, s2, s3, s4, s5, s6, s7, .int .i64 (delM m q).live, .int .i64 (delM m q).garb]))
  have hw9 : V4.setCells w.heap.size 4 (#[s0, s1, s2, s3, s4, s5, s6, s7, .int .i64 (delM m q).live, .int .i64 (delM m q).garb] : Array Value).toList = V4.setRow w.heap.size #[.int .i64 g.num, .int .i64 g.rev, .int .i64 g.mode, .int .i64 g.size, s0, s1, s2, s3, s4, s5, s6, s7, .int .i64 (delM m q).live, .int .i64 (delM m q).garb] := setMap HX1.out
  clear hb hms SW B0 MS0 HX0 HZ0 UF
  refine gwr 7 fun K hK => ?_
  go_simp
  refine hK _ _ SW1.out ?_
  clear hK K
  refine gwr 8 fun K hK => ?_
  refine wp_store_mid 44 _ _ rfl w.heap.size 4 #[s0, s1, s2, s3, s4, s5, s6, s7, .int .i64 (delM m q).live, .int .i64 (delM m q).garb] (by rfl) (by rfl) (there_row HX1.out (by simp)) infoR10 ON.out ?_
  rw [hw9]
  refine hK _ _ (below_setRowM SW1.out (Nat.le_refl _) _) ?_
  clear hK K
  refine wpAnyH_done (by kernel_rfl) ?_ _
  unfold onlyN
  dsimp only
  have HX2 := Lh (setRow_heap V4 w.heap.size _ #[.int .i64 g.num, .int .i64 g.rev, .int .i64 g.mode, .int .i64 g.size, s0, s1, s2, s3, s4, s5, s6, s7, .int .i64 (delM m q).live, .int .i64 (delM m q).garb] _ _ HX1.out)
  have HZ2 := Lh ((setRow_other V4 w.heap.size (w.heap.size + 1) #[.int .i64 g.num, .int .i64 g.rev, .int .i64 g.mode, .int .i64 g.size, s0, s1, s2, s3, s4, s5, s6, s7, .int .i64 (delM m q).live, .int .i64 (delM m q).garb] (by omega)).trans HZ1.out)
  have B2 := Lh (below_setRowM B1.out (Nat.le_refl _) #[.int .i64 g.num, .int .i64 g.rev, .int .i64 g.mode, .int .i64 g.size, s0, s1, s2, s3, s4, s5, s6, s7, .int .i64 (delM m q).live, .int .i64 (delM m q).garb])
  clear hw9 HX1 HZ1 B1 SW1
  generalize V4.setRow w.heap.size #[.int .i64 g.num, .int .i64 g.rev, .int .i64 g.mode, .int .i64 g.size, s0, s1, s2, s3, s4, s5, s6, s7, .int .i64 (delM m q).live, .int .i64 (delM m q).garb] = W9 at *
  have hw := w64s8 i (by have := HNK.out; have := HI.out; omega)
  go_wp2_with fail
  go_roundw
  case rel => exact ⟨i + 1, HI.out, by go_num, delM m q, s0, s1, s2, s3, s4, s5, s6, s7, HX2.out, HZ2.out, MS1.out, fl_del HFL.out q, B2.out⟩
  case measure => exact meas8 n i HI.out (by have := HNK.out; omega)
end Go.Proofs.YtgbnclepgjcakaaGreat.Gf
