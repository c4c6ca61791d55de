/- What is proved here: removed and Get of the program. -/
import Derived.Test.YtempgcnpfjhacaaP11d
namespace Go.Proofs.Ytempgcnpfjhacaa.Gf
open Go Go.Joins Go.ChangeShapes Go.WideShapes Go.ChangeAt Go.RowKit Go.Deep Go.Proofs.Ytempgcnpfjhacaa.By Go.Proofs.Ytempgcnpfjhacaa.Qt

open Classical in
/-- The stripe of a key, of a map that is valid. -/
noncomputable def gL (m : Mp) (k : Nat) : List Itm := if okM m then ms m (sp k) else []
theorem pget_end {R : Ending → World → Prop} {W : World} {g : Nat} {tmps : Array Value} {k c d s : Value} (hp : tmps.getD 4 undef = .pointer (some ⟨g, 0, none⟩)) (hg : W.heap[g]? = some (.cells #[k, c, d, s] 35 (0, 0)))
    (hR : R (.returned (.tuple #[.agg #[k, c, d, s], tmps.getD 5 undef])) W) : bodyPost Try.prog Try.f21 R .ret { tmps := tmps, defers := [] } W :=
  bodyPost_ret (results_rt rfl _ _ g #[k, c, d, s] hp hg Try.underlying35 rfl infoT4) rfl hR
set_option maxRecDepth 100000 in
set_option maxHeartbeats 6400000 in
theorem pget_any (v : Value) (m : Mp) (k : Nat) (w : World) (hv : Mv w v m) (hf : Few m) : Calls Try.prog 21 #[v, .int .u64 (k : Int)] w (FD w (gL m k) k) := by
  have HF := Lib.hid hf
  have PV := Lib.hid (fun W (h : Below w.heap.size w W) => pvalid11_any v m W (mv_below hv h) hf)
  obtain ⟨s0, s1, s2, s3, s4, s5, s6, s7, rfl, hms⟩ := hv
  have q1 := bel_al w (.cells #[s0, s1, s2, s3, s4, s5, s6, s7, .int .i64 m.live, .int .i64 m.garb] 44)
  have h1 := heap_alloc_new w (.cells #[s0, s1, s2, s3, s4, s5, s6, s7, .int .i64 m.live, .int .i64 m.garb] 44)
  have hsz : (w.alloc (.cells #[s0, s1, s2, s3, s4, s5, s6, s7, .int .i64 m.live, .int .i64 m.garb] 44)).heap.size = w.heap.size + 1 := by simp
  have q2 := bel_al (w.alloc (.cells #[s0, s1, s2, s3, s4, s5, s6, s7, .int .i64 m.live, .int .i64 m.garb] 44)) (.cells #[.int .u64 0, .int .u32 0, .int .i64 0, .int .i64 0] 35)
  have h2 := heap_alloc_new (w.alloc (.cells #[s0, s1, s2, s3, s4, s5, s6, s7, .int .i64 m.live, .int .i64 m.garb] 44)) (.cells #[.int .u64 0, .int .u32 0, .int .i64 0, .int .i64 0] 35)
  rw [hsz] at h2
  have HZ2 := Lib.hid h2
  have HM2 := Lib.hid ((q2.block _ (lt_of_some h1)).trans h1)
  have B2 := Lib.hid (q1.trans (q2.mono q1.size))
  have MS2 := Lib.hid (ms_below hms B2.out)
  clear hms hf q1 q2 h1 h2 hsz
  go_enter Try.func21, Try.ntmps21
  go_upto_region 1 with fail
  generalize (w.alloc (.cells #[s0, s1, s2, s3, s4, s5, s6, s7, .int .i64 m.live, .int .i64 m.garb] 44)).alloc (.cells #[.int .u64 0, .int .u32 0, .int .i64 0, .int .i64 0] 35) = W2 at *
  obtain ⟨x0, x1, x2, x3, x4, x5, x6, x7, x8, x9⟩ := bx10 HM2.out
  by_cases hok : okM m
  case neg =>
    have PV2 := Lib.hid (PV.out W2 B2.out)
    rw [okMb_f hok] at PV2
    have HE := Lib.hid (show gL m k = [] by unfold gL; rw [if_neg hok])
    clear hok PV
    go_wp2_with fail
    clear x0 x1 x2 x3 x4 x5 x6 x7 x8 x9
    refine PV2.out.mono ?_
    rintro e w3 ⟨rfl, hb⟩
    have B3 := Lib.hid (B2.out.trans (hb.mono B2.out.size))
    have HZ3 := Lib.hid ((hb.block _ (lt_of_some HZ2.out)).trans HZ2.out)
    clear hb PV2 HZ2 HM2 B2
    obtain ⟨⟨d0, d1, d2, d3⟩, f0, f1, f2, f3⟩ := bx4 HZ3.out
    go_wp2_with fail
    exact pget_end (g := w.heap.size + 1) rfl (set4J HZ3.out) ⟨by rw [HE.out]; rfl, below4J B3.out (Nat.le_succ _)⟩
  have PV2 := Lib.hid (PV.out W2 B2.out)
  rw [okMb_t hok] at PV2
  have HE := Lib.hid (show gL m k = ms m (sp k) by unfold gL; rw [if_pos hok])
  obtain ⟨a, c, hsel, hit⟩ := MS2.out.2.2.2 (sp k) (sp_lt k)
  have PF := Lib.hid (fun W (h : Below W2.heap.size W2 W) => pfind8_any _ (ms m (sp k)) k W (it_below hit h) (HF.out _ (sp_lt k)))
  obtain ⟨n, hn⟩ : ∃ z, z = (ms m (sp k)).length := ⟨_, rfl⟩
  rw [← hn] at hsel PF
  have hcell := bxk HM2.out (sp_lt k) hsel
  have HC := Lib.hid hcell
  have ST := Lib.hid (fun W => pstripe_any k W)
  have hlt := sp_lt k
  obtain ⟨u, hu⟩ : ∃ u, u = sp k := ⟨_, rfl⟩
  rw [← hu] at ST HC hlt
  have p0 : (0 : Int) ≤ (u : Int) := by omega
  have p1 : (u : Int) < 8 := by omega
  have p2 : u < 8 := hlt
  have HU := Lib.hid hu
  clear hok PV hit hn hsel hcell hlt hu
  go_wp2_with fail
  clear x0 x1 x2 x3 x4 x5 x6 x7 x8 x9
  refine PV2.out.mono ?_
  rintro e w3 ⟨rfl, hb⟩
  have B3 := Lib.hid (B2.out.trans (hb.mono B2.out.size))
  have BB3 := Lib.hid hb
  have HZ3 := Lib.hid ((hb.block _ (lt_of_some HZ2.out)).trans HZ2.out)
  have hc3 := (hb.cell (block_lt_of_cell HC.out)).trans HC.out
  clear hb PV2 HZ2 HM2 B2
  go_wp2_with fail
  refine (ST.out _).mono ?_
  rintro e w4 ⟨rfl, rfl⟩
  go_wp2_with fail
  refine (PF.out _ BB3.out).mono ?_
  rintro e w5 ⟨rfl, hb⟩
  have B5 := Lib.hid (B3.out.trans (hb.mono B3.out.size))
  have HZ5 := Lib.hid ((hb.block _ (lt_of_some HZ3.out)).trans HZ3.out)
  clear hb HZ3 hc3 B3
  obtain ⟨⟨d0, d1, d2, d3⟩, f0, f1, f2, f3⟩ := bx4 HZ5.out
  have HFD := Lib.hid (show fnL (ms m (sp k)) k = fnL (gL m k) k ∧ hasL (ms m (sp k)) k = hasL (gL m k) k by rw [HE.out]; exact ⟨rfl, rfl⟩)
  unfold TV
  generalize fnL (ms m (sp k)) k = y at *
  generalize hasL (ms m (sp k)) k = qq at *
  go_wp2_with fail
  exact pget_end (g := w.heap.size + 1) rfl (set4J HZ5.out) ⟨by rw [← HFD.out.1, ← HFD.out.2]; rfl, below4J B5.out (Nat.le_succ _)⟩
end Go.Proofs.Ytempgcnpfjhacaa.Gf
