/- What is proved here: the laws' told and given: a map of the program and of the reference are the same value. -/
import Derived.Test.YtbmlpafbdbhaiaaGreatDoorVp
import Derived.Maps.AppendAt
import Derived.Test.YtbmlpafbdbhaiaaGreatDoorVm
namespace Go.Proofs.YtbmlpafbdbhaiaaGreatDoor.Gf
open Go Go.Joins Go.ChangeShapes Go.WideShapes Go.ChangeAt Go.RowKit Go.Deep Go.Proofs.YtbmlpafbdbhaiaaGreatDoor.By Go.Proofs.YtbmlpafbdbhaiaaGreatDoor.Qt

theorem infoR10 : (Tryz.prog.info? 41).map (·.size) = some 10 := by kernel_rfl
/-- A store of a whole map of the reference. -/
theorem storeR {ops : Array Oper} {rest : List Oper} {x y : Operand} {pos : String} {after : Array Edge} {ty : TypeId} {a : Act} {w : World} {Q : Exit → Act → World → Prop}
 (g : Nat) (old cs : Array Value) (hx : a.eval x = .pointer (some ⟨g, 0, none⟩)) (hy : a.eval y = .agg cs) (hg : w.heap[g]? = some (.cells old 41 (0, 0))) (ho : old.size = 10) (hs : cs.size = 10) (h1 : cs.all (·.oneCell') = true)
 (h : wpList Tryz.prog ops Q rest a (w.setRow g cs)) : wpList Tryz.prog ops Q (⟨none, .store 41 x y, ty, pos, after, none⟩ :: rest) a w :=
 wpList_store_row rfl 41 x y rfl g cs hx hy 41 old hg (by rw [infoR10, hs]) (by omega) h1 h
theorem ro_end {fn : Func} {p : Tmp} {R : Ending → World → Prop} {W : World} {tmps : Array Value} {s0 s1 s2 s3 s4 s5 s6 s7 s8 s9 : Value} (hr : fn.results = #[.cell p 41]) (g : Nat) (hp : tmps.getD p undef = .pointer (some ⟨g, 0, none⟩)) (hg : W.heap[g]? = some (.cells #[s0, s1, s2, s3, s4, s5, s6, s7, s8, s9] 41 (0, 0)))
 (hR : R (.returned (.agg #[s0, s1, s2, s3, s4, s5, s6, s7, s8, s9])) W) : bodyPost Tryz.prog fn R .ret { tmps := tmps, defers := [] } W :=
 bodyPost_ret (results_cell_row hr _ _ g 41 #[s0, s1, s2, s3, s4, s5, s6, s7, s8, s9] (0, 0) _ hp hg Tryz.underlying41 rfl infoR10) rfl hR
end Go.Proofs.YtbmlpafbdbhaiaaGreatDoor.Gf
namespace Go.Proofs.YtbmlpafbdbhaiaaGreatDoor.Gf
open Go Go.Joins Go.ChangeShapes Go.WideShapes Go.ChangeAt Go.RowKit Go.Deep Go.Proofs.YtbmlpafbdbhaiaaGreatDoor.By Go.Proofs.YtbmlpafbdbhaiaaGreatDoor.Qt
set_option maxRecDepth 100000
set_option maxHeartbeats 204800000

def sameM (a b : Mp) : Bool := decide (a.st = b.st ∧ a.live = b.live ∧ a.garb = b.garb)
theorem sameM_self (a : Mp) : sameM a a = true := by unfold sameM; exact decide_eq_true ⟨rfl, rfl, rfl⟩
theorem rsame11_any (v1 v2 : Value) (m1 m2 : Mp) (w : World) (hv1 : Mv w v1 m1) (hv2 : Mv w v2 m2) : Calls Tryz.prog 59 #[v1, v2] w fun e w' => e = .returned (.bool (sameM m1 m2)) ∧ Below w.heap.size w w' := by
 obtain ⟨s0, s1, s2, s3, s4, s5, s6, s7, rfl, hms1⟩ := hv1
 obtain ⟨t0, t1, t2, t3, t4, t5, t6, t7, rfl, hms2⟩ := hv2
 have q1 := bel_al w (.cells #[s0, s1, s2, s3, s4, s5, s6, s7, .int .i64 m1.live, .int .i64 m1.garb] 41)
 have h1 := heap_alloc_new w (.cells #[s0, s1, s2, s3, s4, s5, s6, s7, .int .i64 m1.live, .int .i64 m1.garb] 41)
 have hsz : (w.alloc (.cells #[s0, s1, s2, s3, s4, s5, s6, s7, .int .i64 m1.live, .int .i64 m1.garb] 41)).heap.size = w.heap.size + 1 := by simp
 have q2 := bel_al (w.alloc (.cells #[s0, s1, s2, s3, s4, s5, s6, s7, .int .i64 m1.live, .int .i64 m1.garb] 41)) (.cells #[t0, t1, t2, t3, t4, t5, t6, t7, .int .i64 m2.live, .int .i64 m2.garb] 41)
 have h2 := heap_alloc_new (w.alloc (.cells #[s0, s1, s2, s3, s4, s5, s6, s7, .int .i64 m1.live, .int .i64 m1.garb] 41)) (.cells #[t0, t1, t2, t3, t4, t5, t6, t7, .int .i64 m2.live, .int .i64 m2.garb] 41)
 rw [hsz] at h2
 have HB2 := Lh h2
 have HA2 := Lh ((q2.block _ (lt_of_some h1)).trans h1)
 have BX := Lh (q1.trans (q2.mono q1.size))
 have MS1 := Lh (ms_below hms1 BX.out)
 have MS2 := Lh (ms_below hms2 BX.out)
 obtain ⟨q, hq⟩ : ∃ q, q = sameM m1 m2 := ⟨_, rfl⟩
 rw [← hq]
 have HQ := Lh (show q = decide (m1.st = m2.st ∧ m1.live = m2.live ∧ m1.garb = m2.garb) from hq)
 clear hms1 hms2 q1 q2 h1 h2 hsz hq
 go_enter Tryz.func59, Tryz.ntmps59
 go_upto_region 1 with fail
 generalize (w.alloc (.cells #[s0, s1, s2, s3, s4, s5, s6, s7, .int .i64 m1.live, .int .i64 m1.garb] 41)).alloc (.cells #[t0, t1, t2, t3, t4, t5, t6, t7, .int .i64 m2.live, .int .i64 m2.garb] 41) = W2 at *
 go_wp2_with fail
 go_loopw [5] (fun t5 wr => ∃ k : Nat, k ≤ 8 ∧ t5 = .int .i64 (k : Int) ∧ Hid (∀ s, s < k → ms m1 s = ms m2 s) ∧ Hid (Below W2.heap.size W2 wr)) (fun t _ => 8 - (intOf t).toNat)
 case atStart => exact ⟨0, by omega, rfl, Lh (fun s h => by omega), Lh (Below.refl _ _)⟩
 case round =>
  obtain ⟨k, hk, rfl, HO, BR⟩ := hrel
  rename World => wl
  have HAl := Lh ((BR.out.block _ (lt_of_some HA2.out)).trans HA2.out)
  have HBl := Lh ((BR.out.block _ (lt_of_some HB2.out)).trans HB2.out)
  by_cases hlt : k < 8
  case neg =>
   have l1 : decide ((k : Int) < 8) = false := decide_eq_false (by omega)
   have l2 : decide (k < 8) = false := decide_eq_false hlt
   have hst : m1.st = m2.st := st_ext MS1.out.1 MS2.out.1 fun s hs => HO.out s (by omega)
   have BL := Lh (BX.out.trans (BR.out.mono BX.out.size))
   obtain ⟨-, -, -, -, -, -, -, -, x8, x9⟩ := bx10 HAl.out
   obtain ⟨-, -, -, -, -, -, -, -, y8, y9⟩ := bx10 HBl.out
   have HST := Lh hst
   clear hst hlt hk HO
   by_cases c1 : m1.live = m2.live
   case neg =>
    have l3 : (m1.live == m2.live) = false := by rw [beq_eq_false_iff_ne]; exact c1
    have l4 : decide (m1.live = m2.live) = false := decide_eq_false c1
    have hqf : q = false := by rw [HQ.out]; exact decide_eq_false fun h => c1 h.2.1
    clear c1
    subst hqf
    go_wp2_with fail
    go_ret
    exact ⟨rfl, BL.out⟩
   have l3 : (m1.live == m2.live) = true := by rw [beq_iff_eq]; exact c1
   have l4 : decide (m1.live = m2.live) = true := decide_eq_true c1
   by_cases c2 : m1.garb = m2.garb
   case neg =>
    have l5 : (m1.garb == m2.garb) = false := by rw [beq_eq_false_iff_ne]; exact c2
    have l6 : decide (m1.garb = m2.garb) = false := decide_eq_false c2
    have hqf : q = false := by rw [HQ.out]; exact decide_eq_false fun h => c2 h.2.2
    clear c1 c2
    subst hqf
    go_wp2_with fail
    go_ret
    exact ⟨rfl, BL.out⟩
   have l5 : (m1.garb == m2.garb) = true := by rw [beq_iff_eq]; exact c2
   have l6 : decide (m1.garb = m2.garb) = true := decide_eq_true c2
   have hqt : q = true := by rw [HQ.out]; exact decide_eq_true ⟨HST.out, c1, c2⟩
   clear c1 c2
   subst hqt
   go_wp2_with fail
   go_ret
   exact ⟨rfl, BL.out⟩
  have l1 : decide ((k : Int) < 8) = true := decide_eq_true (by omega)
  have l2 : decide (k < 8) = true := decide_eq_true hlt
  have HK := Lh hlt
  obtain ⟨a1, c1, hsel1, hit1⟩ := MS1.out.2.2.2 k hlt
  obtain ⟨a2, c2, hsel2, hit2⟩ := MS2.out.2.2.2 k hlt
  have r0 := fun d os => cell_regrown (bxk HAl.out hlt hsel1) d os
  have r1 := fun d os => cell_regrown (bxk HBl.out hlt hsel2) d os
  have G1 := Lh (regrown_bel (w := wl) fun w' hw' => rsame8_any _ _ _ _ w' (it_below hit1 (BR.out.trans (hw'.mono BR.out.size))) (it_below hit2 (BR.out.trans (hw'.mono BR.out.size))))
  have p0 : (0 : Int) ≤ (k : Int) := by omega
  have p1 : (k : Int) < 8 := by omega
  have p2 := hlt
  obtain ⟨L1, hL1⟩ : ∃ z, z = ms m1 k := ⟨_, rfl⟩
  obtain ⟨L2, hL2⟩ : ∃ z, z = ms m2 k := ⟨_, rfl⟩
  rw [← hL1] at r0 G1
  rw [← hL2] at r1 G1
  have HLL := Lh (And.intro hL1 hL2)
  clear hsel1 hit1 hsel2 hit2 hlt hk hL1 hL2
  by_cases hc : L1 = L2
  case neg =>
   have hqf : q = false := by rw [HQ.out]; exact decide_eq_false fun h => hc (by rw [HLL.out.1, HLL.out.2]; unfold ms; rw [h.1])
   rw [decide_eq_false hc] at G1
   clear hc HO
   subst hqf
   generalize L1.length = n1 at *
   generalize L2.length = n2 at *
   go_upto_region 4 with fail
   clear l1 l2
   refine wp_region_bl (by kernel_rfl) (by kernel_rfl) ?_
   iterate 8 (go_big_quiet_step (fail))
   go_big_quiet_step ((go_at_call 38; exact G1.out _ _))
   repeat (go_big_quiet_step (fail))
   refine wpQuiet_nil ?_
   intro w5 hb
   have B5 := Lh (BR.out.trans (hb.mono BR.out.size))
   clear hb r0 r1 G1
   go_wp2_with fail
   go_ret
   exact ⟨rfl, BX.out.trans (B5.out.mono BX.out.size)⟩
  rw [decide_eq_true hc] at G1
  have HO1 := Lh (show ∀ s, s < k + 1 → ms m1 s = ms m2 s from fun s hs => by
   rcases Nat.lt_or_ge s k with h | h
   ·exact HO.out s h
   ·obtain rfl : s = k := by omega
    rw [← HLL.out.1, ← HLL.out.2, hc])
  clear hc HO
  generalize L1.length = n1 at *
  generalize L2.length = n2 at *
  go_upto_region 4 with fail
  clear l1 l2
  refine wp_region_bl (by kernel_rfl) (by kernel_rfl) ?_
  iterate 8 (go_big_quiet_step (fail))
  go_big_quiet_step ((go_at_call 38; exact G1.out _ _))
  repeat (go_big_quiet_step (fail))
  refine wpQuiet_nil ?_
  intro w5 hb
  have B5 := Lh (BR.out.trans (hb.mono BR.out.size))
  clear hb r0 r1 G1
  go_wp2_with fail
  go_roundw
  case rel =>
   have h1 := HK.out
   exact ⟨k + 1, by omega, rfl, HO1, B5⟩
  case measure =>
   have h1 := HK.out
   simp [intOf]; omega
end Go.Proofs.YtbmlpafbdbhaiaaGreatDoor.Gf
namespace Go.Proofs.YtbmlpafbdbhaiaaGreatDoor.Gf
open Go Go.Joins Go.ChangeShapes Go.WideShapes Go.ChangeAt Go.RowKit Go.Deep Go.Proofs.YtbmlpafbdbhaiaaGreatDoor.By Go.Proofs.YtbmlpafbdbhaiaaGreatDoor.Qt
set_option maxRecDepth 100000
set_option maxHeartbeats 204800000

theorem rbytes11_any (v : Value) (L : List Itm) (w : World) (sl : It w v L) (hlen : L.length ≤ 100000) : Calls Tryz.prog 91 #[v] w fun e w' => e = .returned (.int .i64 (byT L)) ∧ w = w' := by
 have SL := Lh sl
 obtain ⟨a, c, rfl, -, -⟩ := it_form sl
 obtain ⟨n, hn⟩ : ∃ z, z = L.length := ⟨_, rfl⟩
 rw [← hn] at SL ⊢
 have HN := Lh (And.intro hn hlen)
 clear sl hn hlen
 go_enter Tryz.func91, Tryz.ntmps91
 go_wp2_with fail
 go_loop [3, 4] (fun t3 t4 => ∃ (i : Nat) (T : Int), i ≤ n ∧ t4 = .int .i64 (i : Int) ∧ t3 = .int .i64 T ∧ Hid (T = byT (L.take i))) (fun _ t => n - (intOf t).toNat)
 case atStart => exact ⟨0, 0, by omega, rfl, rfl, Lh rfl⟩
 case round =>
  obtain ⟨i, T, hi, rfl, rfl, HT⟩ := hrel
  by_cases hlt : i < n
  case neg =>
   have l1 : decide ((i : Int) < (n : Int)) = false := decide_eq_false (by omega)
   have l2 : decide (i < n) = false := decide_eq_false hlt
   have hT : T = byT L := by rw [HT.out, List.take_of_length_le (by have := HN.out.1; omega)]
   clear hlt hi HT
   subst hT
   go_wp2_with fail
   go_ret
   exact ⟨rfl, rfl⟩
  have l1 : decide ((i : Int) < (n : Int)) = true := decide_eq_true (by omega)
  have l2 : decide (i < n) = true := decide_eq_true hlt
  have HI := Lh hlt
  have EI := Lh (show wrap64 ((i : Int) + 1) = ((i + 1 : Nat) : Int) by have := HN.out; unfold wrap64; omega)
  obtain ⟨b, off, cap, hv, -, -, hc⟩ := it_cells SL.out (by have := HN.out.1; omega)
  simp only [Value.slice.injEq] at hv
  obtain ⟨rfl, -, -⟩ := hv
  have C := hc i (by have := HN.out.1; omega)
  have hok := getT_ok SL.out.1 i
  have hst := byT_takeI (L := L) (i := i) (by have := HN.out.1; omega)
  have hbd := byT_bd (L.take i)
  have hbd2 := szT_bd (L.getD i z0)
  have hln : (L.take i).length ≤ 100000 := by rw [List.length_take]; have := HN.out; omega
  obtain ⟨y, hy⟩ : ∃ z, z = L.getD i z0 := ⟨_, rfl⟩
  rw [← hy] at C hok hst hbd2
  have PS := Lh (rsize6_any y.sz w hok.sz)
  obtain ⟨k0, k1, k2, k3⟩ := C
  obtain ⟨T1, hT1⟩ : ∃ z, z = T + szT y := ⟨_, rfl⟩
  have ew := Lh (show wrap64 (T + szI6 y.sz) = T1 by
   have h1 := HT.out
   have h2 : szT y = szI6 y.sz := rfl
   rw [hT1]
   unfold wrap64
   omega)
  have HT1 := Lh (show T1 = byT (L.take (i + 1)) by rw [hst, hT1, HT.out])
  have p0 : (0 : Int) ≤ (i : Int) := by omega
  have p1 : (i : Int) < (n : Int) := by omega
  clear hc hok hst hbd hbd2 hln hy hT1 hlt hi HT
  generalize szI6 y.sz = zz at *
  go_wp2_with fail
  refine PS.out.mono ?_
  rintro e w2 ⟨rfl, rfl⟩
  go_wp2_with fail
  go_round
  case rel =>
   have h1 := HI.out
   exact ⟨i + 1, T1, by omega, by rw [EI.out], by rw [ew.out], HT1⟩
  case measure =>
   have h1 := HI.out
   rw [EI.out]
   simp [intOf]; omega
theorem rvalid11_any (v : Value) (m : Mp) (w : World) (hv : Mv w v m) (hf : Few m) : Calls Tryz.prog 50 #[v] w fun e w' => e = .returned (.bool (okMb m)) ∧ Below w.heap.size w w' := by
 obtain ⟨s0, s1, s2, s3, s4, s5, s6, s7, rfl, hms⟩ := hv
 have HF := Lh hf
 have BX := Lh (bel_al w (.cells #[s0, s1, s2, s3, s4, s5, s6, s7, .int .i64 m.live, .int .i64 m.garb] 41))
 have HX := Lh (heap_alloc_new w (.cells #[s0, s1, s2, s3, s4, s5, s6, s7, .int .i64 m.live, .int .i64 m.garb] 41))
 have MS := Lh (ms_below hms BX.out)
 have SW := Lh (show w.heap.size ≤ (w.alloc (.cells #[s0, s1, s2, s3, s4, s5, s6, s7, .int .i64 m.live, .int .i64 m.garb] 41)).heap.size from BX.out.size)
 obtain ⟨q, hq⟩ : ∃ q, q = okMb m := ⟨_, rfl⟩
 rw [← hq]
 have HQ := Lh hq
 clear hms hf hq
 go_enter Tryz.func50, Tryz.ntmps50
 go_upto_region 1 with fail
 generalize w.alloc (.cells #[s0, s1, s2, s3, s4, s5, s6, s7, .int .i64 m.live, .int .i64 m.garb] 41) = W1 at *
 go_wp2_with fail
 go_loopw [3, 4] (fun t3 t4 wr => ∃ (k : Nat) (T : Int), k ≤ 8 ∧ t4 = .int .i64 (k : Int) ∧ t3 = .int .i64 T ∧ Hid (T = byT (m.st.take k).flatten) ∧ Hid (okSt m k) ∧ Hid (Below W1.heap.size W1 wr)) (fun _ t _ => 8 - (intOf t).toNat)
 case atStart => exact ⟨0, 0, by omega, rfl, rfl, Lh rfl, Lh (fun s hs => by omega), Lh (Below.refl _ _)⟩
 case round =>
  obtain ⟨k, T, hk, rfl, rfl, HT, HO, BR⟩ := hrel
  rename World => wl
  have HXl := Lh ((BR.out.block _ (lt_of_some HX.out)).trans HX.out)
  by_cases hlt : k < 8
  case neg =>
   have l1 : decide ((k : Int) < 8) = false := decide_eq_false (by omega)
   have l2 : decide (k < 8) = false := decide_eq_false hlt
   have HO8 := Lh (show okSt m 8 by rw [show 8 = k by omega]; exact HO.out)
   have HIF := Lh (show okM m ↔ okSt m 8 ∧ m.live = T ∧ 0 ≤ m.garb ∧ m.garb ≤ 1099511627776 by
    have h : T = byT m.st.flatten := by rw [HT.out, List.take_of_length_le (by have := MS.out.1; omega)]
    rw [h]
    exact okM_iff)
   have BL := Lh (BX.out.trans (BR.out.mono SW.out))
   obtain ⟨-, -, -, -, -, -, -, -, x8, x9⟩ := bx10 HXl.out
   clear hlt hk HO HT
   by_cases c1 : m.live = T
   case neg =>
    have hqf : q = false := by rw [HQ.out]; exact okMb_f fun h => c1 (HIF.out.1 h).2.1
    have l3 : (m.live == T) = false := by simpa using c1
    have l4 : decide (m.live = T) = false := decide_eq_false c1
    clear c1
    subst hqf
    go_wp2_with fail
    go_ret
    exact ⟨rfl, BL.out⟩
   have l3 : (m.live == T) = true := by simpa using c1
   have l4 : decide (m.live = T) = true := decide_eq_true c1
   have l5 : (T == T) = true := by simp
   by_cases c2 : 0 ≤ m.garb
   case neg =>
    have hqf : q = false := by rw [HQ.out]; exact okMb_f fun h => c2 (HIF.out.1 h).2.2.1
    have l6 : decide (0 ≤ m.garb) = false := decide_eq_false c2
    clear c1 c2
    subst hqf
    go_wp2_with fail
    go_ret
    exact ⟨rfl, BL.out⟩
   have l6 : decide (0 ≤ m.garb) = true := decide_eq_true c2
   by_cases c3 : m.garb ≤ 1099511627776
   case neg =>
    have hqf : q = false := by rw [HQ.out]; exact okMb_f fun h => c3 (HIF.out.1 h).2.2.2
    have l7 : decide (m.garb ≤ 1099511627776) = false := decide_eq_false c3
    clear c1 c2 c3
    subst hqf
    go_wp2_with fail
    go_ret
    exact ⟨rfl, BL.out⟩
   have hqt : q = true := by rw [HQ.out]; exact okMb_t (HIF.out.2 ⟨HO8.out, c1, c2, c3⟩)
   have l7 : decide (m.garb ≤ 1099511627776) = true := decide_eq_true c3
   clear c1 c2 c3
   subst hqt
   go_wp2_with fail
   go_ret
   exact ⟨rfl, BL.out⟩
  have l1 : decide ((k : Int) < 8) = true := decide_eq_true (by omega)
  have l2 : decide (k < 8) = true := decide_eq_true hlt
  have HK := Lh hlt
  obtain ⟨a, c, hsel, hit⟩ := MS.out.2.2.2 k hlt
  have hcell := bxk HXl.out hlt hsel
  obtain ⟨L, hL⟩ : ∃ z, z = ms m k := ⟨_, rfl⟩
  have hln := HF.out k hlt
  rw [← hL] at hsel hit hln hcell
  have IT := Lh (it_below hit BR.out)
  have PV := Lh (rvalid8_any _ L wl IT.out)
  obtain ⟨n, hn⟩ : ∃ z, z = L.length := ⟨_, rfl⟩
  rw [← hn] at hcell PV IT hln
  have HN := Lh (And.intro hn hln)
  have HML := Lh hL
  have HC := Lh hcell
  have p0 : (0 : Int) ≤ (k : Int) := by omega
  have p1 : (k : Int) < 8 := by omega
  clear hsel hit hL hn hlt hk hln
  by_cases c1 : okT L
  case neg =>
   have hqf : q = false := by rw [HQ.out]; exact okMb_f fun h => c1 (by rw [HML.out]; exact h.ok k HK.out)
   rw [decide_eq_false c1] at PV
   clear c1
   subst hqf
   go_wp2_with fail
   refine PV.out.mono ?_
   rintro e w2 ⟨rfl, hb⟩
   have B2 := Lh (BX.out.trans ((BR.out.trans (hb.mono BR.out.size)).mono SW.out))
   clear hb
   go_wp2_with fail
   go_ret
   exact ⟨rfl, B2.out⟩
  rw [decide_eq_true c1] at PV
  have HOKL := Lh c1
  clear c1
  go_wp2_with fail
  refine PV.out.mono ?_
  rintro e w2 ⟨rfl, hb⟩
  have B2 := Lh (BR.out.trans (hb.mono BR.out.size))
  have IT2 := Lh (it_below IT.out hb)
  have hcell := (hb.cell (block_lt_of_cell HC.out)).trans HC.out
  clear hb PV l1 l2 IT HC
  have HC := Lh hcell
  clear hcell
  go_wp2_with fail
  go_loop [5] (fun t5 => ∃ i : Nat, i ≤ n ∧ t5 = .int .i64 (i : Int) ∧ Hid (∀ x ∈ L.take i, sp x.key = k)) (fun t => n - (intOf t).toNat)
  case atStart => exact ⟨0, by omega, rfl, Lh (by simp)⟩
  case round =>
   obtain ⟨i, hi, rfl, HS⟩ := hrel
   have hcell := HC.out
   by_cases hlt : i < n
   case neg =>
    have l1 : decide ((i : Int) < (n : Int)) = false := decide_eq_false (by omega)
    have l2 : decide (i < n) = false := decide_eq_false hlt
    have HSL := Lh (show ∀ x ∈ L, sp x.key = k from fun x hx => HS.out x (by rw [List.take_of_length_le (by have := HN.out.1; omega)]; exact hx))
    have HO1 := Lh (show okSt m (k + 1) from fun s hs => by
     rcases Nat.lt_or_ge s k with h | h
     ·exact HO.out s h
     ·obtain rfl : s = k := by omega
      rw [← HML.out]
      exact ⟨HOKL.out, HSL.out⟩)
    have PB := Lh (rbytes11_any _ L w2 IT2.out (by have := HN.out; omega))
    have hst := byT_take_st (m := m) MS.out.1 HK.out
    have hb1 := byT_bd (m.st.take k).flatten
    have hb2 := flat_len HF.out MS.out.1 k (by have := HK.out; omega)
    have hb3 := byT_bd L
    have hk8 := HK.out
    obtain ⟨T1, hT1⟩ : ∃ z, z = T + byT L := ⟨_, rfl⟩
    have ew := Lh (show wrap64 (T + byT L) = T1 by
     have h1 := HT.out
     have h2 := HN.out
     rw [hT1]
     unfold wrap64
     omega)
    have HT1 := Lh (show T1 = byT (m.st.take (k + 1)).flatten by rw [hst, hT1, HT.out, HML.out])
    clear hlt hi HS HT HO hst hb1 hb2 hb3 hk8 hT1
    generalize byT L = bL at *
    go_wp2_with fail
    refine PB.out.mono ?_
    rintro e w3 ⟨rfl, rfl⟩
    go_wp2_with fail
    go_roundw
    case rel =>
     have h1 := HK.out
     exact ⟨k + 1, T1, by omega, rfl, by rw [ew.out], HT1, HO1, B2⟩
    case measure =>
     have h1 := HK.out
     simp [intOf]; omega
   have l1 : decide ((i : Int) < (n : Int)) = true := decide_eq_true (by omega)
   have l2 : decide (i < n) = true := decide_eq_true hlt
   have HI := Lh hlt
   have EI := Lh (show wrap64 ((i : Int) + 1) = ((i + 1 : Nat) : Int) by have := HN.out; unfold wrap64; omega)
   obtain ⟨b, off, cap, hv, -, -, hc⟩ := it_cells IT2.out (by have := HN.out.1; omega)
   simp only [Value.slice.injEq] at hv
   obtain ⟨rfl, -, -⟩ := hv
   have C := hc i (by have := HN.out.1; omega)
   obtain ⟨y, hy⟩ : ∃ z, z = L.getD i z0 := ⟨_, rfl⟩
   rw [← hy] at C
   have HY := Lh hy
   obtain ⟨k0, k1, k2, k3⟩ := C
   have ST := Lh (rstripe_any y.key w2)
   have p2 : (0 : Int) ≤ (i : Int) := by omega
   have p3 : (i : Int) < (n : Int) := by omega
   clear hc hy hlt hi
   by_cases hsp : sp y.key = k
   case neg =>
    have l3 : (((sp y.key : Nat) : Int) != (k : Int)) = true := by rw [bne_iff_ne]; omega
    have hqf : q = false := by
     rw [HQ.out]
     refine okMb_f fun h => hsp ?_
     have h2 := h.sp k HK.out y (by rw [← HML.out, HY.out]; exact getT_mem (by have h1 := HI.out; have h2 := HN.out.1; omega))
     exact h2
    have B3 := Lh (BX.out.trans (B2.out.mono SW.out))
    clear hsp HS
    subst hqf
    generalize sp y.key = u at *
    go_wp2_with fail
    refine ST.out.mono ?_
    rintro e w3 ⟨rfl, rfl⟩
    go_wp2_with fail
    go_ret
    exact ⟨rfl, B3.out⟩
   have l3 : (((sp y.key : Nat) : Int) != (k : Int)) = false := by rw [bne_eq_false_iff_eq]; omega
   have HS1 := Lh (spTo_succ HS.out (by have := HI.out; have := HN.out.1; omega) (by rw [← HY.out]; exact hsp))
   clear hsp HS
   generalize sp y.key = u at *
   go_wp2_with fail
   refine ST.out.mono ?_
   rintro e w3 ⟨rfl, rfl⟩
   go_wp2_with fail
   go_round
   case rel =>
    have h1 := HI.out
    exact ⟨i + 1, by omega, by rw [EI.out], HS1⟩
   case measure =>
    have h1 := HI.out
    rw [EI.out]
    simp [intOf]; omega
end Go.Proofs.YtbmlpafbdbhaiaaGreatDoor.Gf
namespace Go.Proofs.YtbmlpafbdbhaiaaGreatDoor.Gf
open Go Go.Joins Go.ChangeShapes Go.WideShapes Go.ChangeAt Go.RowKit Go.Deep Go.Proofs.YtbmlpafbdbhaiaaGreatDoor.By Go.Proofs.YtbmlpafbdbhaiaaGreatDoor.Qt
set_option maxRecDepth 100000
set_option maxHeartbeats 204800000

theorem ritems11_any (v : Value) (m : Mp) (w : World) (hv : Mv w v m) (hf : Few m) : Calls Tryz.prog 56 #[v] w (LI w (itemsL m)) := by
 have HF := Lh hf
 have PV := Lh (fun W (h : Below w.heap.size w W) => rvalid11_any v m W (mv_below hv h) hf)
 obtain ⟨s0, s1, s2, s3, s4, s5, s6, s7, rfl, hms⟩ := hv
 have BX := Lh (bel_al w (.cells #[s0, s1, s2, s3, s4, s5, s6, s7, .int .i64 m.live, .int .i64 m.garb] 41))
 have HX := Lh (heap_alloc_new w (.cells #[s0, s1, s2, s3, s4, s5, s6, s7, .int .i64 m.live, .int .i64 m.garb] 41))
 have MS := Lh (ms_below hms BX.out)
 have SW := Lh (show w.heap.size ≤ (w.alloc (.cells #[s0, s1, s2, s3, s4, s5, s6, s7, .int .i64 m.live, .int .i64 m.garb] 41)).heap.size from BX.out.size)
 clear hms hf
 go_enter Tryz.func56, Tryz.ntmps56
 go_upto_region 1 with fail
 generalize w.alloc (.cells #[s0, s1, s2, s3, s4, s5, s6, s7, .int .i64 m.live, .int .i64 m.garb] 41) = W1 at *
 have OE := Lh (show OwT W1 W1.heap.size (.slice none 0 0) (m.st.take 0).flatten from owT_nil _ _)
 go_wp2_with fail
 go_loopw [3, 4] (fun t3 t4 wr => ∃ k : Nat, k ≤ 8 ∧ t4 = .int .i64 (k : Int) ∧ Hid (OwT wr W1.heap.size t3 (m.st.take k).flatten) ∧ Hid (okM m ∨ k = 0) ∧ Hid (Below W1.heap.size W1 wr)) (fun _ t _ => 8 - (intOf t).toNat)
 case atStart => exact ⟨0, by omega, rfl, OE, Lh (Or.inr rfl), Lh (Below.refl _ _)⟩
 case round =>
  clear OE
  obtain ⟨k, hk, rfl, HO, HK0, BR⟩ := hrel
  rename World => wl
  obtain ⟨ao, co, rfl, -, -⟩ := owT_form HO.out
  have HLK := Lh (show (m.st.take k).flatten.length ≤ 8000 by have := flat_len HF.out MS.out.1 k hk; omega)
  have HXl := Lh ((BR.out.block _ (lt_of_some HX.out)).trans HX.out)
  have BL := Lh (BX.out.trans (BR.out.mono SW.out))
  obtain ⟨no, hno⟩ : ∃ z, z = (m.st.take k).flatten.length := ⟨_, rfl⟩
  rw [← hno] at HO ⊢
  have HNO := Lh hno
  clear hno
  by_cases hlt : k < 8
  case neg =>
   have l1 : decide ((k : Int) < 8) = false := decide_eq_false (by omega)
   have l2 : decide (k < 8) = false := decide_eq_false hlt
   have hok : okM m := HK0.out.resolve_right (by omega)
   have HR := Lh (show sortL (m.st.take k).flatten = itemsL m by unfold itemsL; rw [if_pos hok, List.take_of_length_le (by have := MS.out.1; omega)]; rfl)
   have PS := Lh (rsorted_any _ _ wl (owT_it HO.out) (by have := HLK.out; omega))
   rw [HR.out] at PS
   clear hlt hk hok HK0
   go_wp2_with fail
   refine PS.out.mono ?_
   rintro e w5 ⟨⟨v5, rfl, ho5⟩, hb⟩
   have B5 := Lh (BL.out.trans (hb.mono BL.out.size))
   have I5 := Lh (owT_it ho5)
   clear hb ho5 PS
   go_wp2_with fail
   go_ret
   exact ⟨⟨_, rfl, I5.out⟩, B5.out⟩
  have l1 : decide ((k : Int) < 8) = true := decide_eq_true (by omega)
  have l2 : decide (k < 8) = true := decide_eq_true hlt
  have PV1 := Lh (PV.out wl BL.out)
  by_cases hok : okM m
  case neg =>
   rw [okMb_f hok] at PV1
   have hk0 : k = 0 := HK0.out.resolve_left hok
   have HI0 := Lh (show itemsL m = [] by unfold itemsL; rw [if_neg hok])
   have PS := Lh (fun W (h : Below wl.heap.size wl W) => rsorted_any _ _ W (it_below (owT_it HO.out) h) (by have := HLK.out; omega))
   have HS0 := Lh (show sortL (m.st.take k).flatten = [] by rw [hk0]; rfl)
   rw [HS0.out] at PS
   obtain ⟨x0, x1, x2, x3, x4, x5, x6, x7, x8, x9⟩ := bx10 HXl.out
   clear hlt hk hok hk0
   go_wp2_with fail
   clear x0 x1 x2 x3 x4 x5 x6 x7 x8 x9
   refine PV1.out.mono ?_
   rintro e w4 ⟨rfl, hb4⟩
   have B4 := Lh (BL.out.trans (hb4.mono BL.out.size))
   have PS4 := Lh (PS.out w4 hb4)
   clear hb4 PV1 PS
   go_wp2_with fail
   refine PS4.out.mono ?_
   rintro e w5 ⟨⟨v5, rfl, ho5⟩, hb⟩
   have B5 := Lh (B4.out.trans (hb.mono B4.out.size))
   have I5 := Lh (owT_it ho5)
   clear hb ho5 PS4
   go_wp2_with fail
   go_ret
   exact ⟨⟨_, rfl, by rw [HI0.out]; exact I5.out⟩, B5.out⟩
  rw [okMb_t hok] at PV1
  have HK := Lh hlt
  have HOK := Lh hok
  have EK := Lh (show wrap64 ((k : Int) + 1) = ((k + 1 : Nat) : Int) by unfold wrap64; omega)
  obtain ⟨a, c, hsel, hit⟩ := MS.out.2.2.2 k hlt
  have CE := Lh (bxk HXl.out hlt hsel)
  have IT := Lh (it_below hit BR.out)
  have HST := Lh (show (m.st.take (k + 1)).flatten = (m.st.take k).flatten ++ ms m k by
   rw [List.take_succ_eq_append_getElem (by have := MS.out.1; omega), List.flatten_append, ← ms_of (by have := MS.out.1; omega)]
   simp)
  have HLE := Lh (show (m.st.take k).flatten.length + (ms m k).length ≤ 100000000 by have := HLK.out; have := HF.out k hlt; omega)
  have p0 : (0 : Int) ≤ (k : Int) := by omega
  have p1 : (k : Int) < 8 := by omega
  obtain ⟨x0, x1, x2, x3, x4, x5, x6, x7, x8, x9⟩ := bx10 HXl.out
  clear hsel hit hlt hk hok HK0
  go_wp2_with fail
  clear x0 x1 x2 x3 x4 x5 x6 x7 x8 x9
  refine PV1.out.mono ?_
  rintro e w4 ⟨rfl, hb4⟩
  have O4 := Lh (owT_below HO.out hb4)
  have B4 := Lh (BR.out.trans (hb4.mono BR.out.size))
  have I4 := Lh (it_below IT.out hb4)
  have hc4 := (hb4.cell (block_lt_of_cell CE.out)).trans CE.out
  have LE := Lh (show W1.heap.size ≤ w4.heap.size from B4.out.size)
  clear hb4 PV1 HO IT l1 l2
  go_wp2_with (at_builtin; refine app_it (dst := some 18) ?_ ?_ O4.out I4.out HLE.out LE.out ?_; exact rfl; exact rfl; intro v9 w9 ho9 hg9; rw [← HST.out] at ho9; have O9 := Lh ho9; have B9 := Lh (below_grownT B4.out hg9 O4.out LE.out (Nat.le_refl _)); clear ho9 hg9 O4 I4 B4 hc4)
  go_roundw
  case rel =>
   have h1 := HK.out
   exact ⟨k + 1, by omega, by first | rfl | rw [EK.out], O9, Lh (Or.inl HOK.out), B9⟩
  case measure =>
   have h1 := HK.out
   first | rw [EK.out] | skip
   simp [intOf]; omega
theorem rget_end {R : Ending → World → Prop} {W : World} {g : Nat} {tmps : Array Value} {k c d s : Value} (hp : tmps.getD 4 undef = .pointer (some ⟨g, 0, none⟩)) (hg : W.heap[g]? = some (.cells #[k, c, d, s] 56 (0, 0)))
 (hR : R (.returned (.tuple #[.agg #[k, c, d, s], tmps.getD 5 undef])) W) : bodyPost Tryz.prog Tryz.f52 R .ret { tmps := tmps, defers := [] } W :=
 bodyPost_ret (results_rt rfl _ _ g #[k, c, d, s] hp hg Tryz.underlying56 rfl infoT4) rfl hR
theorem rget11_any (v : Value) (m : Mp) (k : Nat) (w : World) (hv : Mv w v m) (hf : Few m) : Calls Tryz.prog 52 #[v, .int .u64 (k : Int)] w (FD w (itemsL m) k) := by
 have PI := Lh (fun W (h : Below w.heap.size w W) => ritems11_any v m W (mv_below hv h) hf)
 obtain ⟨s0, s1, s2, s3, s4, s5, s6, s7, rfl, hms⟩ := hv
 have q1 := bel_al w (.cells #[s0, s1, s2, s3, s4, s5, s6, s7, .int .i64 m.live, .int .i64 m.garb] 41)
 have h1 := heap_alloc_new w (.cells #[s0, s1, s2, s3, s4, s5, s6, s7, .int .i64 m.live, .int .i64 m.garb] 41)
 have hsz : (w.alloc (.cells #[s0, s1, s2, s3, s4, s5, s6, s7, .int .i64 m.live, .int .i64 m.garb] 41)).heap.size = w.heap.size + 1 := by simp
 have q2 := bel_al (w.alloc (.cells #[s0, s1, s2, s3, s4, s5, s6, s7, .int .i64 m.live, .int .i64 m.garb] 41)) (.cells #[.int .u64 0, .int .u32 0, .int .i64 0, .int .i64 0] 56)
 have h2 := heap_alloc_new (w.alloc (.cells #[s0, s1, s2, s3, s4, s5, s6, s7, .int .i64 m.live, .int .i64 m.garb] 41)) (.cells #[.int .u64 0, .int .u32 0, .int .i64 0, .int .i64 0] 56)
 rw [hsz] at h2
 have HZ2 := Lh h2
 have HM2 := Lh ((q2.block _ (lt_of_some h1)).trans h1)
 have B2 := Lh (q1.trans (q2.mono q1.size))
 clear hms hf q1 q2 h1 h2 hsz
 go_enter Tryz.func52, Tryz.ntmps52
 go_upto_region 1 with fail
 generalize (w.alloc (.cells #[s0, s1, s2, s3, s4, s5, s6, s7, .int .i64 m.live, .int .i64 m.garb] 41)).alloc (.cells #[.int .u64 0, .int .u32 0, .int .i64 0, .int .i64 0] 56) = W2 at *
 have PI2 := Lh (PI.out W2 B2.out)
 clear PI
 obtain ⟨x0, x1, x2, x3, x4, x5, x6, x7, x8, x9⟩ := bx10 HM2.out
 go_wp2_with fail
 clear x0 x1 x2 x3 x4 x5 x6 x7 x8 x9
 refine PI2.out.mono ?_
 rintro e w3 ⟨⟨v3, rfl, hi3⟩, hb⟩
 have B3 := Lh (B2.out.trans (hb.mono B2.out.size))
 have HZ3 := Lh ((hb.block _ (lt_of_some HZ2.out)).trans HZ2.out)
 have PF := Lh (rfind8_any v3 (itemsL m) k w3 hi3)
 unfold FD at PF ⊢
 obtain ⟨y, hy⟩ : ∃ y, y = fnL (itemsL m) k := ⟨_, rfl⟩
 obtain ⟨qq, hq⟩ : ∃ q, q = hasL (itemsL m) k := ⟨_, rfl⟩
 rw [← hy, ← hq] at PF
 have HYQ := Lh (And.intro hy hq)
 obtain ⟨a3, c3, rfl, -, -⟩ := it_form hi3
 generalize (itemsL m).length = n3 at *
 clear hb PI2 HZ2 HM2 B2 hi3 hy hq
 go_wp2_with fail
 refine PF.out.mono ?_
 rintro e w5 ⟨rfl, hb⟩
 have B5 := Lh (B3.out.trans (hb.mono B3.out.size))
 have HZ5 := Lh ((hb.block _ (lt_of_some HZ3.out)).trans HZ3.out)
 clear hb HZ3 B3 PF
 obtain ⟨⟨d0, d1, d2, d3⟩, f0, f1, f2, f3⟩ := bx4 HZ5.out
 unfold TV
 go_wp2_with fail
 exact rget_end (g := w.heap.size + 1) rfl (set4J HZ5.out) ⟨by rw [← HYQ.out.1, ← HYQ.out.2]; rfl, below4J B5.out (Nat.le_succ _)⟩
end Go.Proofs.YtbmlpafbdbhaiaaGreatDoor.Gf
namespace Go.Proofs.YtbmlpafbdbhaiaaGreatDoor.Gf
open Go Go.Joins Go.ChangeShapes Go.WideShapes Go.ChangeAt Go.RowKit Go.Deep Go.Proofs.YtbmlpafbdbhaiaaGreatDoor.By Go.Proofs.YtbmlpafbdbhaiaaGreatDoor.Qt

/-- append of one item: the answer lies where the slice lay, or in new memory. -/
theorem run_app_it1 {W : World} {base g c : Nat} {v : Value} {L : List Itm} {x : Itm} (ty : TypeId) (hv : OwT W base v L) (hx : It W (.slice (some ⟨g, 0, none⟩) 1 c) [x]) (hlm : L.length + 1 ≤ 100000000) (hb : base ≤ W.heap.size) :
 ∃ v' w', (Builtin.append_ #[38, 38] ty #[v, .slice (some ⟨g, 0, none⟩) 1 c]).run Tryz.prog W = .ok v' w' ∧ OwT w' base v' (L ++ [x]) ∧ W.grownBy w' v.ownBlock ∧ (v'.ownBlock = v.ownBlock ∨ v'.ownBlock = some W.heap.size) := by
 obtain ⟨i, hi, hz0, hz1, hz2⟩ := info_parts infoT
 obtain ⟨hl, hown⟩ := hv
 obtain ⟨hm, a, cp, he, hcp, hcm, hcell⟩ := hx
 obtain ⟨b, off, hab, hc⟩ := hcell (by simp)
 obtain ⟨rfl, -, rfl⟩ : a = some ⟨g, 0, none⟩ ∧ 1 = [x].length ∧ cp = c := by
  simp only [Value.slice.injEq] at he
  exact ⟨he.1.symm, he.2.1, he.2.2.symm⟩
 obtain ⟨rfl, rfl⟩ : g = b ∧ 0 = off := by simpa using hab
 have hall : ∀ y ∈ L ++ [x], ItOk y := fun y hy => (List.mem_append.1 hy).elim (hl y) (hm y)
 obtain ⟨v', w', hr, ho, hg, -, hat⟩ := run_append_own_at (P := Tryz.prog) W base 38 ty 56 i _ 4 32 Tryz.underlying38 hi hz0 hz1 hz2 rfl (by decide) _ _ _ hown ⟨g, 0, none⟩ 1 cp (cellsT [x]) (cellsT_length [x]) (fun j u hu => by rw [add_none]; exact hc j u hu) (cellsT_one [x]) (by unfold maxLen; omega) (by omega) hb
 exact ⟨v', w', hr, ⟨hall, by rw [List.length_append, cellsT_append]; exact ho⟩, hg, hat⟩
theorem wp_app_it1 {dst : Option Tmp} {s x : Operand} {pos : String} {after : Array Edge} {ty : TypeId} {gd : Option (Nat × Bool)} {a : Act} {W : World} {K : Act → World → Prop} {Q : Exit → Act → World → Prop}
 {base g c : Nat} {v : Value} {L : List Itm} {y : Itm} (hs : a.eval s = v) (hy : a.eval x = .slice (some ⟨g, 0, none⟩) 1 c) (hv : OwT W base v L) (hx : It W (.slice (some ⟨g, 0, none⟩) 1 c) [y]) (hlm : L.length + 1 ≤ 100000000) (hb : base ≤ W.heap.size)
 (h : ∀ v' w', OwT w' base v' (L ++ [y]) → W.grownBy w' v.ownBlock → (v'.ownBlock = v.ownBlock ∨ v'.ownBlock = some W.heap.size) → K (a.put dst v') w') : Oper.wp Tryz.prog ⟨dst, .call { callee := .builtin .append, args := #[s, x], argTypes := #[38, 38] }, ty, pos, after, gd⟩ a W K Q := by
 obtain ⟨v', w', hr, h2, h3, h4⟩ := run_app_it1 ty hv hx hlm hb
 unfold Oper.wp execOp
 simp only [resolve, invoke, builtin, Sem.run_bind, Sem.run_pure, Result.andThen_ok, List.map_toArray, List.map_cons, List.map_nil, hs, hy, hr]
 exact h v' w' h2 h3 h4
/-- Eight stripes of a call's own, in memory apart. -/
structure OwS (w : World) (base : Nat) (vs : List Value) (Ls : List (List Itm)) : Prop where
 own : ∀ k, k < 8 → ∃ v, vs[k]? = some v ∧ OwT w base v (Ls.getD k [])
 apart : ∀ j k, j < 8 → k < 8 → j ≠ k → ∀ u v b, vs[j]? = some u → vs[k]? = some v → u.ownBlock = some b → v.ownBlock ≠ some b
theorem OwS.below {w w' : World} {base : Nat} {vs : List Value} {Ls : List (List Itm)} (h : OwS w base vs Ls) (hb : Below w.heap.size w w') : OwS w' base vs Ls := ⟨fun k hk => by
 obtain ⟨v, h1, h2⟩ := h.own k hk
 exact ⟨v, h1, owT_below h2 hb⟩, h.apart⟩
/-- One of them has grown. -/
theorem OwS.grow {w w' : World} {base u : Nat} {vs vs' : List Value} {Ls : List (List Itm)} {v v' : Value} {L : List Itm} (h : OwS w base vs Ls) (hu : u < 8) (hv : vs[u]? = some v) (ho : OwT w' base v' L) (hg : w.grownBy w' v.ownBlock) (hat : v'.ownBlock = v.ownBlock ∨ v'.ownBlock = some w.heap.size)
 (hd : ∀ k, k < 8 → vs'[k]? = if k = u then some v' else vs[k]?) (hl : Ls.length = 8) : OwS w' base vs' (Ls.set u L) := by
 have hlt : ∀ k x b, k < 8 → vs[k]? = some x → x.ownBlock = some b → b < w.heap.size := fun k x b hk hx hb => by
  obtain ⟨x', h1, h2⟩ := h.own k hk
  rw [hx] at h1
  cases h1
  exact (owT_lt h2 b hb).2
 refine ⟨fun k hk => ?_, fun j k hj hk hjk x y b hx hy hxb hyb => ?_⟩
 ·rw [hd k hk]
  by_cases e : k = u
  ·subst e
   refine ⟨v', by rw [if_pos rfl], ?_⟩
   rw [List.getD_eq_getElem?_getD, List.getElem?_set_self (by omega)]
   exact ho
  ·obtain ⟨x, h1, h2⟩ := h.own k hk
   refine ⟨x, by rw [if_neg e]; exact h1, ?_⟩
   rw [List.getD_eq_getElem?_getD, List.getElem?_set_ne (fun h => e h.symm), ← List.getD_eq_getElem?_getD]
   refine owT_keep h2 fun b hb => ?_
   exact hg.block b (hlt k x b hk h1 hb) (fun e2 => h.apart k u hk hu e x v b h1 hv hb e2.symm)
 ·rw [hd j hj] at hx
  rw [hd k hk] at hy
  by_cases e1 : j = u
  ·subst e1
   rw [if_pos rfl] at hx
   rw [if_neg (fun h => hjk h.symm)] at hy
   cases hx
   have hb := hlt k y b hk hy hyb
   rcases hat with h1 | h1
   ·rw [h1] at hxb
    exact h.apart j k hj hk hjk v y b hv hy hxb hyb
   ·rw [h1] at hxb
    cases hxb
    omega
  ·rw [if_neg e1] at hx
   by_cases e2 : k = u
   ·subst e2
    rw [if_pos rfl] at hy
    cases hy
    have hb := hlt j x b hj hx hxb
    rcases hat with h1 | h1
    ·rw [h1] at hyb
     exact h.apart j k hj hk hjk x v b hx hv hxb hyb
    ·rw [h1] at hyb
     cases hyb
     omega
   ·rw [if_neg e2] at hy
    exact h.apart j k hj hk hjk x y b hx hy hxb hyb
end Go.Proofs.YtbmlpafbdbhaiaaGreatDoor.Gf
namespace Go.Proofs.YtbmlpafbdbhaiaaGreatDoor.Gf
open Go Go.Joins Go.ChangeShapes Go.WideShapes Go.ChangeAt Go.RowKit Go.Deep Go.Proofs.YtbmlpafbdbhaiaaGreatDoor.By Go.Proofs.YtbmlpafbdbhaiaaGreatDoor.Qt

/-- New answers stripes that are nil. -/
def NewO (w : World) (e : Ending) (w' : World) : Prop := e = .returned (.agg #[.slice none 0 0, .slice none 0 0, .slice none 0 0, .slice none 0 0, .slice none 0 0, .slice none 0 0, .slice none 0 0, .slice none 0 0, .int .i64 0, .int .i64 0]) ∧ Below w.heap.size w w'
theorem pnew_nil (w : World) : Calls Tryz.prog 57 #[] w (NewO w) := by
 have q := bel_al w (.cells #[.slice none 0 0, .slice none 0 0, .slice none 0 0, .slice none 0 0, .slice none 0 0, .slice none 0 0, .slice none 0 0, .slice none 0 0, .int .i64 0, .int .i64 0] 48)
 have hz := heap_alloc_new w (.cells #[.slice none 0 0, .slice none 0 0, .slice none 0 0, .slice none 0 0, .slice none 0 0, .slice none 0 0, .slice none 0 0, .slice none 0 0, .int .i64 0, .int .i64 0] 48)
 go_enter Tryz.func57, Tryz.ntmps57
 go_wp2_with fail
 refine mo_end (fn := Tryz.f57) rfl w.heap.size rfl hz ?_
 exact ⟨rfl, q⟩
/-- One more item goes to its stripe. -/
theorem split_snoc (L : List Itm) (x : Itm) : splitM (L ++ [x]) = (splitM L).set (sp x.key) (fS (sp x.key) L ++ [x]) := by
 refine st_ext (split_len _) (by rw [List.length_set]; exact split_len _) fun s hs => ?_
 rw [split_get _ hs, List.getD_eq_getElem?_getD]
 by_cases e : sp x.key = s
 ·subst e
  rw [List.getElem?_set_self (by rw [split_len]; exact hs)]
  simp [fS, List.filter_append]
 ·rw [List.getElem?_set_ne e, ← List.getD_eq_getElem?_getD, split_get _ hs]
  unfold fS
  rw [List.filter_append, List.filter_cons_of_neg (by simpa using e), List.filter_nil, List.append_nil]
theorem ows_nil (w : World) (base : Nat) : OwS w base [.slice none 0 0, .slice none 0 0, .slice none 0 0, .slice none 0 0, .slice none 0 0, .slice none 0 0, .slice none 0 0, .slice none 0 0] (splitM []) where
 own := fun k hk => by
  refine ⟨.slice none 0 0, ?_, ?_⟩
  ·obtain rfl | rfl | rfl | rfl | rfl | rfl | rfl | rfl : k = 0 ∨ k = 1 ∨ k = 2 ∨ k = 3 ∨ k = 4 ∨ k = 5 ∨ k = 6 ∨ k = 7 := by omega
   all_goals rfl
  ·rw [split_get _ hk]
   exact owT_nil w base
 apart := fun j k hj hk hjk u v b hu hv hub hvb => by
  have h : ∀ j, j < 8 → ∀ u, [(Value.slice none 0 0), .slice none 0 0, .slice none 0 0, .slice none 0 0, .slice none 0 0, .slice none 0 0, .slice none 0 0, .slice none 0 0][j]? = some u → u = .slice none 0 0 := fun j hj u hu => by
   obtain rfl | rfl | rfl | rfl | rfl | rfl | rfl | rfl : j = 0 ∨ j = 1 ∨ j = 2 ∨ j = 3 ∨ j = 4 ∨ j = 5 ∨ j = 6 ∨ j = 7 := by omega
   all_goals exact (Option.some.inj hu).symm
  rw [h j hj u hu] at hub
  cases hub
/-- Stripes that lie above the box, behind a store into the box. -/
theorem OwS.store {w : World} {g i : Nat} {vs : List Value} {Ls : List (List Itm)} (h : OwS w (g + 1) vs Ls) (v : Value) : OwS (w.setCell ⟨g, i, none⟩ v) (g + 1) vs Ls := ⟨fun k hk => by
 obtain ⟨x, h1, h2⟩ := h.own k hk
 exact ⟨x, h1, owT_keep h2 fun b hb => heap_setCell_other _ _ _ _ (show b ≠ g by have := (owT_lt h2 b hb).1; omega)⟩, h.apart⟩
/-- A map that does not lie in the box is what it was behind a store of the whole box. -/
theorem ms_setRowM {w : World} {p : Nat} {t0 t1 t2 t3 t4 t5 t6 t7 d0 d1 d2 d3 d4 d5 d6 d7 : Value} {m m' : Mp} {l g : Int} (h : Ms w [t0, t1, t2, t3, t4, t5, t6, t7] m) (hd : Ms w [d0, d1, d2, d3, d4, d5, d6, d7] m') (hp : w.heap[p]? = some (.cells #[d0, d1, d2, d3, d4, d5, d6, d7, .int .i64 l, .int .i64 g] 48 (0, 0))) (cs : Array Value) : Ms (w.setRow p cs) [t0, t1, t2, t3, t4, t5, t6, t7] m := ⟨h.1, h.2.1, h.2.2.1, fun k hk => by
 obtain ⟨a, c, h1, h2⟩ := h.2.2.2 k hk
 exact ⟨a, c, h1, it_keepM h2 hp (ms_u64 hd l g) fun b hb => setRow_other _ _ _ _ hb⟩⟩
end Go.Proofs.YtbmlpafbdbhaiaaGreatDoor.Gf
namespace Go.Proofs.YtbmlpafbdbhaiaaGreatDoor.Gf
open Go Go.Joins Go.ChangeShapes Go.WideShapes Go.ChangeAt Go.RowKit Go.Deep Go.Proofs.YtbmlpafbdbhaiaaGreatDoor.By Go.Proofs.YtbmlpafbdbhaiaaGreatDoor.Qt
set_option maxRecDepth 100000
set_option maxHeartbeats 204800000

/-- The stripes as they stand in the second loop: the first k are sorted. -/
def mixM (L : List Itm) (k : Nat) : List (List Itm) := (List.range 8).map fun s => if s < k then sortL (fS s L) else fS s L
theorem mix_len (L : List Itm) (k : Nat) : (mixM L k).length = 8 := by simp [mixM]
theorem mix_get (L : List Itm) (k : Nat) {s : Nat} (h : s < 8) : (mixM L k).getD s [] = if s < k then sortL (fS s L) else fS s L := by
 unfold mixM
 rw [List.getD_eq_getElem?_getD, List.getElem?_map, List.getElem?_range h]
 rfl
theorem mix_succ {L : List Itm} {k : Nat} (hk : k < 8) : (mixM L k).set k (sortL (fS k L)) = mixM L (k + 1) := by
 refine st_ext (by rw [List.length_set]; exact mix_len _ _) (mix_len _ _) fun s hs => ?_
 rw [mix_get _ _ hs, List.getD_eq_getElem?_getD]
 by_cases e : k = s
 ·subst e
  rw [List.getElem?_set_self (by rw [mix_len]; exact hk), if_pos (by omega)]
  rfl
 ·rw [List.getElem?_set_ne e, ← List.getD_eq_getElem?_getD, mix_get _ _ hs]
  by_cases c : s < k
  ·rw [if_pos c, if_pos (by omega)]
  ·rw [if_neg c, if_neg (by omega)]
theorem mix_all (L : List Itm) : mixM L 8 = splitM (sortL L) := st_ext (mix_len _ _) (split_len _) fun s hs => by
 rw [mix_get _ _ hs, if_pos hs, split_get _ hs, split_sort]
theorem merge_nil (F : List Itm) : mergeL [] F [] = sortL F := by
 have h := merge_step [] F
 simpa [sortL] using h
theorem ms_mix {w : World} {base : Nat} {c0 c1 c2 c3 c4 c5 c6 c7 : Value} {L : List Itm} (h : OwS w base [c0, c1, c2, c3, c4, c5, c6, c7] (splitM L)) : Ms w [c0, c1, c2, c3, c4, c5, c6, c7] ⟨mixM L 0, 0, 0⟩ := ⟨mix_len _ _, by unfold J64; dsimp only; omega, by unfold J64; dsimp only; omega, fun k hk => by
 obtain ⟨v, h1, h2⟩ := h.own k hk
 rw [split_get _ hk] at h2
 have e : ms ⟨mixM L 0, 0, 0⟩ k = fS k L := by
  show (mixM L 0).getD k [] = _
  rw [mix_get _ _ hk, if_neg (by omega)]
 rw [e]
 have h3 := owT_it h2
 obtain ⟨a, q, rfl, -, -⟩ := owT_form h2
 exact ⟨a, q, h1, h3⟩⟩

theorem few_split {L : List Itm} (h : L.length ≤ 1000) : Few ⟨splitM (sortL L), 0, 0⟩ := fun k hk => by
 have e : ms ⟨splitM (sortL L), 0, 0⟩ k = fS k (sortL L) := split_get _ hk
 rw [e]
 exact Nat.le_trans (List.length_filter_le _ _) (Nat.le_trans (length_sortL L) h)
/-- What add makes of the records and the waste. -/
theorem from_add {L : List Itm} {gb : Int} (hok : ∀ x ∈ L, okI x) (h0 : 0 ≤ gb) (hJ : J64 gb) (hlen : L.length ≤ 1000) : ∃ Y Z mm q, cSumBits .add .f64 (flw (byT (splitM (sortL L)).flatten)) (flw 0) (flw 0) (flw gb) = some (Y, Z) ∧ (∀ v W, Mv W v ⟨splitM (sortL L), 0, 0⟩ → Calls Tryz.prog 119 #[v, .complex .f64 Y Z] W (AdO W mm q)) ∧ ((q = true → mm = fromL L gb) ∧ (q = false → fromL L gb = mp0)) := by
 have e1 := (flat_split (sortL L)).2
 have e2 := byT_bd (sortL L)
 have e3 : (sortL L).length ≤ L.length := length_sortL L
 rw [e1]
 have e4 : (sortL L).length ≤ 1000 := Nat.le_trans e3 hlen
 by_cases hbg : gb < 2 ^ 52
 ·have hs := csum (a := byT (sortL L)) (b := 0) (c := 0) (d := gb) (by omega) (by decide) (by decide) (by omega) (by omega) (by omega)
  refine ⟨_, _, _, _, hs, fun v W hv => padd_any v _ (byT (sortL L) + 0) (0 + gb) W hv (by show (0 : Int).natAbs ≤ 2 ^ 50; decide) (by show (0 : Int).natAbs ≤ 2 ^ 50; decide) (by omega) (by omega), fun h => ?_, fun h => ?_⟩
  ·have h := of_decide_eq_true h
   unfold fromL
   dsimp only at h ⊢
   rw [if_neg h, if_pos ⟨hok, h0, by omega⟩]
   simp
  ·have h := of_decide_eq_false h
   unfold fromL
   dsimp only at h
   rw [if_neg (fun h2 => h (fun h3 => by have := h2.2.2; omega))]
 ·obtain ⟨r, hr, hbr⟩ := add_big (flw_big (n := gb) (by omega) (by unfold J64 at hJ; omega)) (by decide) (a := 0) (by decide) (by decide)
  refine ⟨flw (byT (sortL L) + 0), r, _, false, ?_, fun v W hv => padd_big v _ 14 (flw (byT (sortL L) + 0)) _ r W hv (Int.le_refl 0) (by show (0 : Int).natAbs ≤ 2 ^ 50; decide) hbr (by decide) (add_flw (a := 0) (by decide) (by omega) (by omega)), fun h => (by cases h), fun _ => ?_⟩
  ·unfold cSumBits
   rw [add_flw (by omega) (by decide) (by omega), hr]
   rfl
  ·unfold fromL
   rw [if_neg (fun h => by have := h.2.2; unfold G40 at this; omega)]

theorem pfrom_any (v : Value) (L : List Itm) (gb : Int) (w : World) (hl : It w v L) (hlen : L.length ≤ 1000) (hgb : J64 gb) : Calls Tryz.prog 97 #[v, .int .i64 gb] w (MO w (fromL L gb)) := by
 have SL := Lh hl
 have ON8 := Lh (ms_one (mp0_ms w) 0 0)
 obtain ⟨a, c, rfl, -, hcm⟩ := it_form hl
 obtain ⟨n, hn⟩ : ∃ z, z = L.length := ⟨_, rfl⟩
 rw [← hn] at SL hlen ⊢
 have HN := Lh (And.intro hn hlen)
 have HJ := Lh hgb
 have BX := Lh (bel_al w (.cells #[.slice none 0 0, .slice none 0 0, .slice none 0 0, .slice none 0 0, .slice none 0 0, .slice none 0 0, .slice none 0 0, .slice none 0 0, .int .i64 0, .int .i64 0] 48))
 have HZ := Lh (heap_alloc_new w (.cells #[.slice none 0 0, .slice none 0 0, .slice none 0 0, .slice none 0 0, .slice none 0 0, .slice none 0 0, .slice none 0 0, .slice none 0 0, .int .i64 0, .int .i64 0] 48))
 have SZ1 := Lh (show w.heap.size + 1 ≤ (w.alloc (.cells #[.slice none 0 0, .slice none 0 0, .slice none 0 0, .slice none 0 0, .slice none 0 0, .slice none 0 0, .slice none 0 0, .slice none 0 0, .int .i64 0, .int .i64 0] 48)).heap.size by simp)
 clear hl hn hlen hcm hgb
 go_enter Tryz.func97, Tryz.ntmps97
 go_upto_region 1 with fail
 generalize w.alloc (.cells #[.slice none 0 0, .slice none 0 0, .slice none 0 0, .slice none 0 0, .slice none 0 0, .slice none 0 0, .slice none 0 0, .slice none 0 0, .int .i64 0, .int .i64 0] 48) = W1 at *
 by_cases hg0 : gb < 0
 case pos =>
  have l1 : decide (gb < 0) = true := decide_eq_true hg0
  have HE := Lh (show fromL L gb = mp0 by unfold fromL; rw [if_neg (fun h => by have := h.2.1; omega)])
  clear hg0
  go_wp2_with fail
  refine (pnew_nil W1).mono ?_
  rintro e w3 ⟨rfl, hb⟩
  have HZ3 := Lh ((hb.block _ (lt_of_some HZ.out)).trans HZ.out)
  have B3 := Lh (BX.out.trans (hb.mono BX.out.size))
  clear hb
  go_wp2_with ((with_reducible refine storeM w.heap.size _ #[.slice none 0 0, .slice none 0 0, .slice none 0 0, .slice none 0 0, .slice none 0 0, .slice none 0 0, .slice none 0 0, .slice none 0 0, .int .i64 0, .int .i64 0] ?_ ?_ HZ3.out rfl rfl ON8.out ?_); exact rfl; exact rfl)
  refine mo_end (fn := Tryz.f97) rfl w.heap.size rfl (setRow_heap _ _ _ _ _ _ HZ3.out) ?_
  rw [HE.out]
  exact ⟨⟨_, rfl, _, _, _, _, _, _, _, _, rfl, mp0_ms _⟩, below_setRowM B3.out (Nat.le_refl _) _⟩
 have l1 : decide (gb < 0) = false := decide_eq_false hg0
 have HG0 := Lh (show 0 ≤ gb by omega)
 clear hg0
 go_upto_region 3 with fail
 go_wp2_with fail
 refine (pnew_nil W1).mono ?_
 rintro e w3 ⟨rfl, hb⟩
 have HZ3 := Lh ((hb.block _ (lt_of_some HZ.out)).trans HZ.out)
 have B3 := Lh (BX.out.trans (hb.mono BX.out.size))
 have q4 := bel_al w3 (.cells #[.slice none 0 0, .slice none 0 0, .slice none 0 0, .slice none 0 0, .slice none 0 0, .slice none 0 0, .slice none 0 0, .slice none 0 0, .int .i64 0, .int .i64 0] 48)
 have HG4 := Lh (heap_alloc_new w3 (.cells #[.slice none 0 0, .slice none 0 0, .slice none 0 0, .slice none 0 0, .slice none 0 0, .slice none 0 0, .slice none 0 0, .slice none 0 0, .int .i64 0, .int .i64 0] 48))
 have HZ4 := Lh ((q4.block _ (lt_of_some HZ3.out)).trans HZ3.out)
 have B4 := Lh (B3.out.trans (q4.mono B3.out.size))
 have NG := Lh (show w.heap.size < w3.heap.size by have := lt_of_some HZ3.out; omega)
 clear hb q4 HZ BX SZ1 HZ3 B3
 go_upto_region 4 with fail
 generalize w3.alloc (.cells #[.slice none 0 0, .slice none 0 0, .slice none 0 0, .slice none 0 0, .slice none 0 0, .slice none 0 0, .slice none 0 0, .slice none 0 0, .int .i64 0, .int .i64 0] 48) = w4 at *
 generalize hgg : w3.heap.size = g at *
 clear hgg
 clear l1
 go_wp2_with fail
 go_loopw [18] (fun t wr => ∃ i : Nat, i ≤ n ∧ t = .int .i64 (i : Int) ∧ Hid (∀ x ∈ L.take i, okI x) ∧ ∃ c0 c1 c2 c3 c4 c5 c6 c7 : Value, Hid (wr.heap[g]? = some (.cells #[c0, c1, c2, c3, c4, c5, c6, c7, .int .i64 0, .int .i64 0] 48 (0, 0))) ∧ Hid (OwS wr (g + 1) [c0, c1, c2, c3, c4, c5, c6, c7] (splitM (L.take i))) ∧ Hid (wr.heap[w.heap.size]? = some (.cells #[.slice none 0 0, .slice none 0 0, .slice none 0 0, .slice none 0 0, .slice none 0 0, .slice none 0 0, .slice none 0 0, .slice none 0 0, .int .i64 0, .int .i64 0] 48 (0, 0))) ∧ Hid (Below w.heap.size w wr)) (fun t _ => n - (intOf t).toNat)
 case atStart => exact ⟨0, by omega, rfl, Lh (by simp), _, _, _, _, _, _, _, _, HG4, Lh (by rw [List.take_zero]; exact ows_nil _ _), HZ4, B4⟩
 case round =>
  obtain ⟨i, hi, rfl, HT, c0, c1, c2, c3, c4, c5, c6, c7, HG, OS, HZ, BR⟩ := hrel
  rename World => wl
  clear HG4 HZ4 B4
  by_cases hlt : i < n
  case neg =>
   obtain rfl : i = n := by omega
   have hall : L.take i = L := List.take_of_length_le (by have := HN.out.1; omega)
   rw [hall] at OS HT
   clear hlt hi hall
   have l1 : decide ((i : Int) < (i : Int)) = false := decide_eq_false (by omega)
   have l2 : decide (i < i) = false := decide_eq_false (by omega)
   obtain ⟨x0, x1, x2, x3, x4, x5, x6, x7, x8, x9⟩ := bx10 HG.out
   go_wp2_with fail
   clear x0 x1 x2 x3 x4 x5 x6 x7 x8 x9 l1 l2
   have M0 := Lh (ms_mix OS.out)
   have HLN := Lh (show ∀ s, (fS s L).length ≤ 1000 from fun s => Nat.le_trans (List.length_filter_le _ _) (by have := HN.out; omega))
   go_loopw [42] (fun t wr => ∃ k : Nat, k ≤ 8 ∧ t = .int .i64 (k : Int) ∧ ∃ d0 d1 d2 d3 d4 d5 d6 d7 : Value, Hid (wr.heap[g]? = some (.cells #[d0, d1, d2, d3, d4, d5, d6, d7, .int .i64 0, .int .i64 0] 48 (0, 0))) ∧ Hid (Ms wr [d0, d1, d2, d3, d4, d5, d6, d7] ⟨mixM L k, 0, 0⟩) ∧ Hid (OwS wr (g + 1) [c0, c1, c2, c3, c4, c5, c6, c7] (splitM L)) ∧ Hid (wr.heap[w.heap.size]? = some (.cells #[.slice none 0 0, .slice none 0 0, .slice none 0 0, .slice none 0 0, .slice none 0 0, .slice none 0 0, .slice none 0 0, .slice none 0 0, .int .i64 0, .int .i64 0] 48 (0, 0))) ∧ Hid (Below w.heap.size w wr)) (fun t _ => 8 - (intOf t).toNat)
   case atStart => exact ⟨0, by omega, rfl, _, _, _, _, _, _, _, _, HG, M0, OS, HZ, BR⟩
   case round =>
    obtain ⟨k, hk, rfl, d0, d1, d2, d3, d4, d5, d6, d7, HG2, MS2, OS2, HZ2, B2⟩ := hrel
    rename World => w2
    clear HG M0 OS HZ BR
    by_cases hlt : k < 8
    case neg =>
     obtain rfl : k = 8 := by omega
     rw [mix_all] at MS2
     clear hlt hk OS2
     have l1 : decide (((8 : Nat) : Int) < 8) = false := by decide
     have l2 : decide (8 < 8) = false := by decide
     obtain ⟨Y, Z, mm, q, hsum, hadd, hq⟩ := from_add HT.out HG0.out HJ.out (by have := HN.out; omega)
     have HQ := Lh hq
     have PR := Lh (fun W (h : Below w2.heap.size w2 W) => precords_any (.agg #[d0, d1, d2, d3, d4, d5, d6, d7, .int .i64 0, .int .i64 0]) _ W ⟨_, _, _, _, _, _, _, _, rfl, ms_below MS2.out h⟩ (few_split (by have := HN.out; omega)))
     have PW := Lh (fun W => pwasted_bel gb W)
     have PA := Lh (fun W (h : Below w2.heap.size w2 W) => hadd (.agg #[d0, d1, d2, d3, d4, d5, d6, d7, .int .i64 0, .int .i64 0]) W ⟨_, _, _, _, _, _, _, _, rfl, ms_below MS2.out h⟩)
     dsimp only at PR
     obtain ⟨r1, hr1⟩ : ∃ z, z = flw (byT (splitM (sortL L)).flatten) := ⟨_, rfl⟩
     obtain ⟨r2, hr2⟩ : ∃ z, z = flw 0 := ⟨_, rfl⟩
     obtain ⟨r4, hr4⟩ : ∃ z, z = flw gb := ⟨_, rfl⟩
     rw [← hr1, ← hr2] at PR
     rw [← hr2, ← hr4] at PW
     rw [← hr1, ← hr2, ← hr4] at hsum
     have HADD := Lh (fun W => run_complex_sum (P := Tryz.prog) W .add (Or.inl rfl) 136 .f64 r1 r2 r2 r4 Y Z hsum)
     clear hsum hadd hq hr1 hr2 hr4
     go_upto_region 17 with fail
     clear l1 l2
     have S0 := Lh (Below.refl w2.heap.size w2).drew
     refine wp_onlyN ?_
     refine wp_region_headsS (fun W' => Below w.heap.size w2 W') [3] 11 (by kernel_rfl) (fun _ _ _ _ _ h => h.elim) (by kernel_rfl) (by rfl) (by rfl) (S0.out.mono B2.out.size) ?_
     simp only [pickOps, List.filterMap_cons, List.filterMap_nil, List.getElem?_toArray, List.getElem?_cons_zero, List.getElem?_cons_succ]
     refine wpHeads_step (fun K hK => ?_)
     go_simp
     refine ⟨_, fun _ _ => rfl, hK _ ?_⟩
     clear hK K
     refine wpHeads_nil ?_
     generalize hwd : w2.drew = wD at *
     clear hwd
     have TD := Lh S0.out
     have HGD := Lh ((S0.out.block _ (lt_of_some HG2.out)).trans HG2.out)
     have HZD := Lh ((S0.out.block _ (lt_of_some HZ2.out)).trans HZ2.out)
     have BD := Lh (B2.out.size)
     clear S0
     refine held_two 0 1 rfl rfl rfl rfl (by kernel_rfl) (fun K hK => ?_) (fun K hK => ?_)
     ·obtain ⟨x0, x1, x2, x3, x4, x5, x6, x7, x8, x9⟩ := bx10 HGD.out
      go_simp
      refine hK _ _ (TD.out.mono BD.out) ?_
      clear hK K x0 x1 x2 x3 x4 x5 x6 x7 x8 x9
      refine held_one 1 rfl rfl (by kernel_rfl) fun K hK => ?_
      obtain ⟨x0, x1, x2, x3, x4, x5, x6, x7, x8, x9⟩ := bx10 HGD.out
      go_simp
      refine hK _ _ (TD.out.mono BD.out) ?_
      clear hK K x0 x1 x2 x3 x4 x5 x6 x7 x8 x9
      refine held_one 2 rfl rfl (by kernel_rfl) fun K hK => ?_
      go_simp
      go_at_call 83
      refine (PR.out _ TD.out).mono ?_
      rintro e y3 ⟨rfl, hb⟩
      have TN := Lh (TD.out.trans (hb.mono TD.out.size))
      refine hK _ _ (TN.out.mono BD.out) ?_
      clear hK K
      have HGN := Lh ((hb.block _ (lt_of_some HGD.out)).trans HGD.out)
      have HZN := Lh ((hb.block _ (lt_of_some HZD.out)).trans HZD.out)
      clear hb TD HGD HZD
      have TD := TN
      have HGD := HGN
      have HZD := HZN
      clear TN HGN HZN
      refine held_one 4 rfl rfl (by kernel_rfl) fun K hK => ?_
      go_simp
      go_at_call 120
      refine (PW.out _).mono ?_
      rintro e y4 ⟨rfl, hb⟩
      have TN := Lh (TD.out.trans (hb.mono TD.out.size))
      refine hK _ _ (TN.out.mono BD.out) ?_
      clear hK K
      have HGN := Lh ((hb.block _ (lt_of_some HGD.out)).trans HGD.out)
      have HZN := Lh ((hb.block _ (lt_of_some HZD.out)).trans HZD.out)
      clear hb TD HGD HZD
      have TD := TN
      have HGD := HGN
      have HZD := HZN
      clear TN HGN HZN
      refine held_one 5 rfl rfl (by kernel_rfl) fun K hK => ?_
      have hadd := HADD.out
      go_simp
      try simp only [hadd]
      refine hK _ _ (TD.out.mono BD.out) ?_
      clear hK K hadd
      refine held_one 6 rfl rfl (by kernel_rfl) fun K hK => ?_
      go_simp
      go_at_call 119
      refine (PA.out _ TD.out).mono ?_
      rintro e y6 ⟨⟨v5, rfl, hv5⟩, hb⟩
      have TN := Lh (TD.out.trans (hb.mono TD.out.size))
      refine hK _ _ (TN.out.mono BD.out) ?_
      clear hK K
      have HGN := Lh ((hb.block _ (lt_of_some HGD.out)).trans HGD.out)
      have HZN := Lh ((hb.block _ (lt_of_some HZD.out)).trans HZD.out)
      clear hb TD HGD HZD
      have TD := TN
      have HGD := HGN
      have HZD := HZN
      clear TN HGN HZN
      obtain ⟨t0, t1, t2, t3, t4, t5, t6, t7, rfl, hms5⟩ := hv5
      have MS := Lh hms5
      clear hms5
      refine wpAnyH_take (i := 7) (v := .tuple #[.agg #[t0, t1, t2, t3, t4, t5, t6, t7, .int .i64 mm.live, .int .i64 mm.garb], .bool q]) rfl (by kernel_rfl) (by kernel_rfl) (by kernel_rfl) (fun _ _ _ h => h) (Or.inl ⟨by kernel_rfl, fun w _ => by go_simp⟩) (TD.out.mono BD.out) ?_
      refine wpAnyH_take (i := 8) (v := .agg #[t0, t1, t2, t3, t4, t5, t6, t7, .int .i64 mm.live, .int .i64 mm.garb]) rfl (by kernel_rfl) (by kernel_rfl) (by kernel_rfl) (fun _ _ _ h => h) (Or.inl ⟨by kernel_rfl, fun w _ => by go_simp⟩) (TD.out.mono BD.out) ?_
      refine wpAnyH_take (i := 9) (v := .bool q) rfl (by kernel_rfl) (by kernel_rfl) (by kernel_rfl) (fun _ _ _ h => h) (Or.inl ⟨by kernel_rfl, fun w _ => by go_simp⟩) (TD.out.mono BD.out) ?_
      have ON := Lh (ms_one MS.out mm.live mm.garb)
      refine held_one 10 rfl rfl (by kernel_rfl) fun K hK => ?_
      refine wp_store_row 48 _ _ rfl g #[t0, t1, t2, t3, t4, t5, t6, t7, .int .i64 mm.live, .int .i64 mm.garb] (by rfl) (by rfl) 48 _ HGD.out infoM10 rfl ON.out ?_
      have SN := Lh (below_setRowM (TD.out.mono BD.out) (show w.heap.size ≤ g by have := NG.out; omega) #[t0, t1, t2, t3, t4, t5, t6, t7, .int .i64 mm.live, .int .i64 mm.garb])
      refine hK _ _ SN.out ?_
      clear hK K
      refine held_one 11 rfl rfl (by kernel_rfl) fun K hK => ?_
      go_simp
      refine hK _ _ SN.out ?_
      clear hK K
      have HGS := Lh (setRow_heap _ _ _ #[t0, t1, t2, t3, t4, t5, t6, t7, .int .i64 mm.live, .int .i64 mm.garb] _ _ HGD.out)
      have HZS := Lh ((setRow_other _ g w.heap.size #[t0, t1, t2, t3, t4, t5, t6, t7, .int .i64 mm.live, .int .i64 mm.garb] (by have := NG.out; omega)).trans HZD.out)
      have MSS := Lh (ms_setRowM MS.out (ms_below MS2.out TD.out) HGD.out #[t0, t1, t2, t3, t4, t5, t6, t7, .int .i64 mm.live, .int .i64 mm.garb])
      have BS := Lh (B2.out.trans SN.out)
      refine wpAnyH_done (by kernel_rfl) ?_ _
      unfold onlyN
      dsimp only
      clear SN MS HGD HZD TD PA PR PW HADD
      cases q
      case false =>
       have HE := Lh (HQ.out.2 rfl)
       clear HQ
       go_wp2_with fail
       refine (pnew_nil _).mono ?_
       rintro e z3 ⟨rfl, hb⟩
       have HZ3 := Lh ((hb.block _ (lt_of_some HZS.out)).trans HZS.out)
       have B3 := Lh (BS.out.trans (hb.mono BS.out.size))
       clear hb
       go_wp2_with ((with_reducible refine storeM w.heap.size _ #[.slice none 0 0, .slice none 0 0, .slice none 0 0, .slice none 0 0, .slice none 0 0, .slice none 0 0, .slice none 0 0, .slice none 0 0, .int .i64 0, .int .i64 0] ?_ ?_ HZ3.out rfl rfl ON8.out ?_); exact rfl; exact rfl)
       refine mo_end (fn := Tryz.f97) rfl w.heap.size rfl (setRow_heap _ _ _ _ _ _ HZ3.out) ?_
       rw [HE.out]
       exact ⟨⟨_, rfl, _, _, _, _, _, _, _, _, rfl, mp0_ms _⟩, below_setRowM B3.out (Nat.le_refl _) _⟩
      have HE := Lh (HQ.out.1 rfl)
      clear HQ
      obtain ⟨x0, x1, x2, x3, x4, x5, x6, x7, x8, x9⟩ := bx10 HGS.out
      go_wp2_with ((with_reducible refine storeM w.heap.size _ #[t0, t1, t2, t3, t4, t5, t6, t7, .int .i64 mm.live, .int .i64 mm.garb] ?_ ?_ HZS.out rfl rfl ON.out ?_); exact rfl; exact rfl)
      refine mo_end (fn := Tryz.f97) rfl w.heap.size rfl (setRow_heap _ _ _ _ _ _ HZS.out) ?_
      rw [← HE.out]
      exact ⟨⟨_, rfl, t0, t1, t2, t3, t4, t5, t6, t7, rfl, ms_setRowZ MSS.out HZS.out⟩, below_setRowM BS.out (Nat.le_refl _) _⟩
     ·obtain ⟨x0, x1, x2, x3, x4, x5, x6, x7, x8, x9⟩ := bx10 HGD.out
      go_simp
      refine hK _ _ (TD.out.mono BD.out) ?_
      clear hK K x0 x1 x2 x3 x4 x5 x6 x7 x8 x9
      refine held_two 0 2 rfl rfl rfl rfl (by kernel_rfl) (fun K hK => ?_) (fun K hK => ?_)
      ·obtain ⟨x0, x1, x2, x3, x4, x5, x6, x7, x8, x9⟩ := bx10 HGD.out
       go_simp
       refine hK _ _ (TD.out.mono BD.out) ?_
       clear hK K x0 x1 x2 x3 x4 x5 x6 x7 x8 x9
       refine held_one 2 rfl rfl (by kernel_rfl) fun K hK => ?_
       go_simp
       go_at_call 83
       refine (PR.out _ TD.out).mono ?_
       rintro e y9 ⟨rfl, hb⟩
       have TN := Lh (TD.out.trans (hb.mono TD.out.size))
       refine hK _ _ (TN.out.mono BD.out) ?_
       clear hK K
       have HGN := Lh ((hb.block _ (lt_of_some HGD.out)).trans HGD.out)
       have HZN := Lh ((hb.block _ (lt_of_some HZD.out)).trans HZD.out)
       clear hb TD HGD HZD
       have TD := TN
       have HGD := HGN
       have HZD := HZN
       clear TN HGN HZN
       refine held_one 4 rfl rfl (by kernel_rfl) fun K hK => ?_
       go_simp
       go_at_call 120
       refine (PW.out _).mono ?_
       rintro e y10 ⟨rfl, hb⟩
       have TN := Lh (TD.out.trans (hb.mono TD.out.size))
       refine hK _ _ (TN.out.mono BD.out) ?_
       clear hK K
       have HGN := Lh ((hb.block _ (lt_of_some HGD.out)).trans HGD.out)
       have HZN := Lh ((hb.block _ (lt_of_some HZD.out)).trans HZD.out)
       clear hb TD HGD HZD
       have TD := TN
       have HGD := HGN
       have HZD := HZN
       clear TN HGN HZN
       refine held_one 5 rfl rfl (by kernel_rfl) fun K hK => ?_
       have hadd := HADD.out
       go_simp
       try simp only [hadd]
       refine hK _ _ (TD.out.mono BD.out) ?_
       clear hK K hadd
       refine held_one 6 rfl rfl (by kernel_rfl) fun K hK => ?_
       go_simp
       go_at_call 119
       refine (PA.out _ TD.out).mono ?_
       rintro e y12 ⟨⟨v5, rfl, hv5⟩, hb⟩
       have TN := Lh (TD.out.trans (hb.mono TD.out.size))
       refine hK _ _ (TN.out.mono BD.out) ?_
       clear hK K
       have HGN := Lh ((hb.block _ (lt_of_some HGD.out)).trans HGD.out)
       have HZN := Lh ((hb.block _ (lt_of_some HZD.out)).trans HZD.out)
       clear hb TD HGD HZD
       have TD := TN
       have HGD := HGN
       have HZD := HZN
       clear TN HGN HZN
       obtain ⟨t0, t1, t2, t3, t4, t5, t6, t7, rfl, hms5⟩ := hv5
       have MS := Lh hms5
       clear hms5
       refine wpAnyH_take (i := 7) (v := .tuple #[.agg #[t0, t1, t2, t3, t4, t5, t6, t7, .int .i64 mm.live, .int .i64 mm.garb], .bool q]) rfl (by kernel_rfl) (by kernel_rfl) (by kernel_rfl) (fun _ _ _ h => h) (Or.inl ⟨by kernel_rfl, fun w _ => by go_simp⟩) (TD.out.mono BD.out) ?_
       refine wpAnyH_take (i := 8) (v := .agg #[t0, t1, t2, t3, t4, t5, t6, t7, .int .i64 mm.live, .int .i64 mm.garb]) rfl (by kernel_rfl) (by kernel_rfl) (by kernel_rfl) (fun _ _ _ h => h) (Or.inl ⟨by kernel_rfl, fun w _ => by go_simp⟩) (TD.out.mono BD.out) ?_
       refine wpAnyH_take (i := 9) (v := .bool q) rfl (by kernel_rfl) (by kernel_rfl) (by kernel_rfl) (fun _ _ _ h => h) (Or.inl ⟨by kernel_rfl, fun w _ => by go_simp⟩) (TD.out.mono BD.out) ?_
       have ON := Lh (ms_one MS.out mm.live mm.garb)
       refine held_one 10 rfl rfl (by kernel_rfl) fun K hK => ?_
       refine wp_store_row 48 _ _ rfl g #[t0, t1, t2, t3, t4, t5, t6, t7, .int .i64 mm.live, .int .i64 mm.garb] (by rfl) (by rfl) 48 _ HGD.out infoM10 rfl ON.out ?_
       have SN := Lh (below_setRowM (TD.out.mono BD.out) (show w.heap.size ≤ g by have := NG.out; omega) #[t0, t1, t2, t3, t4, t5, t6, t7, .int .i64 mm.live, .int .i64 mm.garb])
       refine hK _ _ SN.out ?_
       clear hK K
       refine held_one 11 rfl rfl (by kernel_rfl) fun K hK => ?_
       go_simp
       refine hK _ _ SN.out ?_
       clear hK K
       have HGS := Lh (setRow_heap _ _ _ #[t0, t1, t2, t3, t4, t5, t6, t7, .int .i64 mm.live, .int .i64 mm.garb] _ _ HGD.out)
       have HZS := Lh ((setRow_other _ g w.heap.size #[t0, t1, t2, t3, t4, t5, t6, t7, .int .i64 mm.live, .int .i64 mm.garb] (by have := NG.out; omega)).trans HZD.out)
       have MSS := Lh (ms_setRowM MS.out (ms_below MS2.out TD.out) HGD.out #[t0, t1, t2, t3, t4, t5, t6, t7, .int .i64 mm.live, .int .i64 mm.garb])
       have BS := Lh (B2.out.trans SN.out)
       refine wpAnyH_done (by kernel_rfl) ?_ _
       unfold onlyN
       dsimp only
       clear SN MS HGD HZD TD PA PR PW HADD
       cases q
       case false =>
        have HE := Lh (HQ.out.2 rfl)
        clear HQ
        go_wp2_with fail
        refine (pnew_nil _).mono ?_
        rintro e z3 ⟨rfl, hb⟩
        have HZ3 := Lh ((hb.block _ (lt_of_some HZS.out)).trans HZS.out)
        have B3 := Lh (BS.out.trans (hb.mono BS.out.size))
        clear hb
        go_wp2_with ((with_reducible refine storeM w.heap.size _ #[.slice none 0 0, .slice none 0 0, .slice none 0 0, .slice none 0 0, .slice none 0 0, .slice none 0 0, .slice none 0 0, .slice none 0 0, .int .i64 0, .int .i64 0] ?_ ?_ HZ3.out rfl rfl ON8.out ?_); exact rfl; exact rfl)
        refine mo_end (fn := Tryz.f97) rfl w.heap.size rfl (setRow_heap _ _ _ _ _ _ HZ3.out) ?_
        rw [HE.out]
        exact ⟨⟨_, rfl, _, _, _, _, _, _, _, _, rfl, mp0_ms _⟩, below_setRowM B3.out (Nat.le_refl _) _⟩
       have HE := Lh (HQ.out.1 rfl)
       clear HQ
       obtain ⟨x0, x1, x2, x3, x4, x5, x6, x7, x8, x9⟩ := bx10 HGS.out
       go_wp2_with ((with_reducible refine storeM w.heap.size _ #[t0, t1, t2, t3, t4, t5, t6, t7, .int .i64 mm.live, .int .i64 mm.garb] ?_ ?_ HZS.out rfl rfl ON.out ?_); exact rfl; exact rfl)
       refine mo_end (fn := Tryz.f97) rfl w.heap.size rfl (setRow_heap _ _ _ _ _ _ HZS.out) ?_
       rw [← HE.out]
       exact ⟨⟨_, rfl, t0, t1, t2, t3, t4, t5, t6, t7, rfl, ms_setRowZ MSS.out HZS.out⟩, below_setRowM BS.out (Nat.le_refl _) _⟩
      ·go_simp
       go_at_call 83
       refine (PR.out _ TD.out).mono ?_
       rintro e y13 ⟨rfl, hb⟩
       have TN := Lh (TD.out.trans (hb.mono TD.out.size))
       refine hK _ _ (TN.out.mono BD.out) ?_
       clear hK K
       have HGN := Lh ((hb.block _ (lt_of_some HGD.out)).trans HGD.out)
       have HZN := Lh ((hb.block _ (lt_of_some HZD.out)).trans HZD.out)
       clear hb TD HGD HZD
       have TD := TN
       have HGD := HGN
       have HZD := HZN
       clear TN HGN HZN
       refine held_two 0 4 rfl rfl rfl rfl (by kernel_rfl) (fun K hK => ?_) (fun K hK => ?_)
       ·obtain ⟨x0, x1, x2, x3, x4, x5, x6, x7, x8, x9⟩ := bx10 HGD.out
        go_simp
        refine hK _ _ (TD.out.mono BD.out) ?_
        clear hK K x0 x1 x2 x3 x4 x5 x6 x7 x8 x9
        refine held_one 4 rfl rfl (by kernel_rfl) fun K hK => ?_
        go_simp
        go_at_call 120
        refine (PW.out _).mono ?_
        rintro e y15 ⟨rfl, hb⟩
        have TN := Lh (TD.out.trans (hb.mono TD.out.size))
        refine hK _ _ (TN.out.mono BD.out) ?_
        clear hK K
        have HGN := Lh ((hb.block _ (lt_of_some HGD.out)).trans HGD.out)
        have HZN := Lh ((hb.block _ (lt_of_some HZD.out)).trans HZD.out)
        clear hb TD HGD HZD
        have TD := TN
        have HGD := HGN
        have HZD := HZN
        clear TN HGN HZN
        refine held_one 5 rfl rfl (by kernel_rfl) fun K hK => ?_
        have hadd := HADD.out
        go_simp
        try simp only [hadd]
        refine hK _ _ (TD.out.mono BD.out) ?_
        clear hK K hadd
        refine held_one 6 rfl rfl (by kernel_rfl) fun K hK => ?_
        go_simp
        go_at_call 119
        refine (PA.out _ TD.out).mono ?_
        rintro e y17 ⟨⟨v5, rfl, hv5⟩, hb⟩
        have TN := Lh (TD.out.trans (hb.mono TD.out.size))
        refine hK _ _ (TN.out.mono BD.out) ?_
        clear hK K
        have HGN := Lh ((hb.block _ (lt_of_some HGD.out)).trans HGD.out)
        have HZN := Lh ((hb.block _ (lt_of_some HZD.out)).trans HZD.out)
        clear hb TD HGD HZD
        have TD := TN
        have HGD := HGN
        have HZD := HZN
        clear TN HGN HZN
        obtain ⟨t0, t1, t2, t3, t4, t5, t6, t7, rfl, hms5⟩ := hv5
        have MS := Lh hms5
        clear hms5
        refine wpAnyH_take (i := 7) (v := .tuple #[.agg #[t0, t1, t2, t3, t4, t5, t6, t7, .int .i64 mm.live, .int .i64 mm.garb], .bool q]) rfl (by kernel_rfl) (by kernel_rfl) (by kernel_rfl) (fun _ _ _ h => h) (Or.inl ⟨by kernel_rfl, fun w _ => by go_simp⟩) (TD.out.mono BD.out) ?_
        refine wpAnyH_take (i := 8) (v := .agg #[t0, t1, t2, t3, t4, t5, t6, t7, .int .i64 mm.live, .int .i64 mm.garb]) rfl (by kernel_rfl) (by kernel_rfl) (by kernel_rfl) (fun _ _ _ h => h) (Or.inl ⟨by kernel_rfl, fun w _ => by go_simp⟩) (TD.out.mono BD.out) ?_
        refine wpAnyH_take (i := 9) (v := .bool q) rfl (by kernel_rfl) (by kernel_rfl) (by kernel_rfl) (fun _ _ _ h => h) (Or.inl ⟨by kernel_rfl, fun w _ => by go_simp⟩) (TD.out.mono BD.out) ?_
        have ON := Lh (ms_one MS.out mm.live mm.garb)
        refine held_one 10 rfl rfl (by kernel_rfl) fun K hK => ?_
        refine wp_store_row 48 _ _ rfl g #[t0, t1, t2, t3, t4, t5, t6, t7, .int .i64 mm.live, .int .i64 mm.garb] (by rfl) (by rfl) 48 _ HGD.out infoM10 rfl ON.out ?_
        have SN := Lh (below_setRowM (TD.out.mono BD.out) (show w.heap.size ≤ g by have := NG.out; omega) #[t0, t1, t2, t3, t4, t5, t6, t7, .int .i64 mm.live, .int .i64 mm.garb])
        refine hK _ _ SN.out ?_
        clear hK K
        refine held_one 11 rfl rfl (by kernel_rfl) fun K hK => ?_
        go_simp
        refine hK _ _ SN.out ?_
        clear hK K
        have HGS := Lh (setRow_heap _ _ _ #[t0, t1, t2, t3, t4, t5, t6, t7, .int .i64 mm.live, .int .i64 mm.garb] _ _ HGD.out)
        have HZS := Lh ((setRow_other _ g w.heap.size #[t0, t1, t2, t3, t4, t5, t6, t7, .int .i64 mm.live, .int .i64 mm.garb] (by have := NG.out; omega)).trans HZD.out)
        have MSS := Lh (ms_setRowM MS.out (ms_below MS2.out TD.out) HGD.out #[t0, t1, t2, t3, t4, t5, t6, t7, .int .i64 mm.live, .int .i64 mm.garb])
        have BS := Lh (B2.out.trans SN.out)
        refine wpAnyH_done (by kernel_rfl) ?_ _
        unfold onlyN
        dsimp only
        clear SN MS HGD HZD TD PA PR PW HADD
        cases q
        case false =>
         have HE := Lh (HQ.out.2 rfl)
         clear HQ
         go_wp2_with fail
         refine (pnew_nil _).mono ?_
         rintro e z3 ⟨rfl, hb⟩
         have HZ3 := Lh ((hb.block _ (lt_of_some HZS.out)).trans HZS.out)
         have B3 := Lh (BS.out.trans (hb.mono BS.out.size))
         clear hb
         go_wp2_with ((with_reducible refine storeM w.heap.size _ #[.slice none 0 0, .slice none 0 0, .slice none 0 0, .slice none 0 0, .slice none 0 0, .slice none 0 0, .slice none 0 0, .slice none 0 0, .int .i64 0, .int .i64 0] ?_ ?_ HZ3.out rfl rfl ON8.out ?_); exact rfl; exact rfl)
         refine mo_end (fn := Tryz.f97) rfl w.heap.size rfl (setRow_heap _ _ _ _ _ _ HZ3.out) ?_
         rw [HE.out]
         exact ⟨⟨_, rfl, _, _, _, _, _, _, _, _, rfl, mp0_ms _⟩, below_setRowM B3.out (Nat.le_refl _) _⟩
        have HE := Lh (HQ.out.1 rfl)
        clear HQ
        obtain ⟨x0, x1, x2, x3, x4, x5, x6, x7, x8, x9⟩ := bx10 HGS.out
        go_wp2_with ((with_reducible refine storeM w.heap.size _ #[t0, t1, t2, t3, t4, t5, t6, t7, .int .i64 mm.live, .int .i64 mm.garb] ?_ ?_ HZS.out rfl rfl ON.out ?_); exact rfl; exact rfl)
        refine mo_end (fn := Tryz.f97) rfl w.heap.size rfl (setRow_heap _ _ _ _ _ _ HZS.out) ?_
        rw [← HE.out]
        exact ⟨⟨_, rfl, t0, t1, t2, t3, t4, t5, t6, t7, rfl, ms_setRowZ MSS.out HZS.out⟩, below_setRowM BS.out (Nat.le_refl _) _⟩
       ·go_simp
        go_at_call 120
        refine (PW.out _).mono ?_
        rintro e y18 ⟨rfl, hb⟩
        have TN := Lh (TD.out.trans (hb.mono TD.out.size))
        refine hK _ _ (TN.out.mono BD.out) ?_
        clear hK K
        have HGN := Lh ((hb.block _ (lt_of_some HGD.out)).trans HGD.out)
        have HZN := Lh ((hb.block _ (lt_of_some HZD.out)).trans HZD.out)
        clear hb TD HGD HZD
        have TD := TN
        have HGD := HGN
        have HZD := HZN
        clear TN HGN HZN
        refine held_two 0 5 rfl rfl rfl rfl (by kernel_rfl) (fun K hK => ?_) (fun K hK => ?_)
        ·obtain ⟨x0, x1, x2, x3, x4, x5, x6, x7, x8, x9⟩ := bx10 HGD.out
         go_simp
         refine hK _ _ (TD.out.mono BD.out) ?_
         clear hK K x0 x1 x2 x3 x4 x5 x6 x7 x8 x9
         refine held_one 5 rfl rfl (by kernel_rfl) fun K hK => ?_
         have hadd := HADD.out
         go_simp
         try simp only [hadd]
         refine hK _ _ (TD.out.mono BD.out) ?_
         clear hK K hadd
         refine held_one 6 rfl rfl (by kernel_rfl) fun K hK => ?_
         go_simp
         go_at_call 119
         refine (PA.out _ TD.out).mono ?_
         rintro e y21 ⟨⟨v5, rfl, hv5⟩, hb⟩
         have TN := Lh (TD.out.trans (hb.mono TD.out.size))
         refine hK _ _ (TN.out.mono BD.out) ?_
         clear hK K
         have HGN := Lh ((hb.block _ (lt_of_some HGD.out)).trans HGD.out)
         have HZN := Lh ((hb.block _ (lt_of_some HZD.out)).trans HZD.out)
         clear hb TD HGD HZD
         have TD := TN
         have HGD := HGN
         have HZD := HZN
         clear TN HGN HZN
         obtain ⟨t0, t1, t2, t3, t4, t5, t6, t7, rfl, hms5⟩ := hv5
         have MS := Lh hms5
         clear hms5
         refine wpAnyH_take (i := 7) (v := .tuple #[.agg #[t0, t1, t2, t3, t4, t5, t6, t7, .int .i64 mm.live, .int .i64 mm.garb], .bool q]) rfl (by kernel_rfl) (by kernel_rfl) (by kernel_rfl) (fun _ _ _ h => h) (Or.inl ⟨by kernel_rfl, fun w _ => by go_simp⟩) (TD.out.mono BD.out) ?_
         refine wpAnyH_take (i := 8) (v := .agg #[t0, t1, t2, t3, t4, t5, t6, t7, .int .i64 mm.live, .int .i64 mm.garb]) rfl (by kernel_rfl) (by kernel_rfl) (by kernel_rfl) (fun _ _ _ h => h) (Or.inl ⟨by kernel_rfl, fun w _ => by go_simp⟩) (TD.out.mono BD.out) ?_
         refine wpAnyH_take (i := 9) (v := .bool q) rfl (by kernel_rfl) (by kernel_rfl) (by kernel_rfl) (fun _ _ _ h => h) (Or.inl ⟨by kernel_rfl, fun w _ => by go_simp⟩) (TD.out.mono BD.out) ?_
         have ON := Lh (ms_one MS.out mm.live mm.garb)
         refine held_one 10 rfl rfl (by kernel_rfl) fun K hK => ?_
         refine wp_store_row 48 _ _ rfl g #[t0, t1, t2, t3, t4, t5, t6, t7, .int .i64 mm.live, .int .i64 mm.garb] (by rfl) (by rfl) 48 _ HGD.out infoM10 rfl ON.out ?_
         have SN := Lh (below_setRowM (TD.out.mono BD.out) (show w.heap.size ≤ g by have := NG.out; omega) #[t0, t1, t2, t3, t4, t5, t6, t7, .int .i64 mm.live, .int .i64 mm.garb])
         refine hK _ _ SN.out ?_
         clear hK K
         refine held_one 11 rfl rfl (by kernel_rfl) fun K hK => ?_
         go_simp
         refine hK _ _ SN.out ?_
         clear hK K
         have HGS := Lh (setRow_heap _ _ _ #[t0, t1, t2, t3, t4, t5, t6, t7, .int .i64 mm.live, .int .i64 mm.garb] _ _ HGD.out)
         have HZS := Lh ((setRow_other _ g w.heap.size #[t0, t1, t2, t3, t4, t5, t6, t7, .int .i64 mm.live, .int .i64 mm.garb] (by have := NG.out; omega)).trans HZD.out)
         have MSS := Lh (ms_setRowM MS.out (ms_below MS2.out TD.out) HGD.out #[t0, t1, t2, t3, t4, t5, t6, t7, .int .i64 mm.live, .int .i64 mm.garb])
         have BS := Lh (B2.out.trans SN.out)
         refine wpAnyH_done (by kernel_rfl) ?_ _
         unfold onlyN
         dsimp only
         clear SN MS HGD HZD TD PA PR PW HADD
         cases q
         case false =>
          have HE := Lh (HQ.out.2 rfl)
          clear HQ
          go_wp2_with fail
          refine (pnew_nil _).mono ?_
          rintro e z3 ⟨rfl, hb⟩
          have HZ3 := Lh ((hb.block _ (lt_of_some HZS.out)).trans HZS.out)
          have B3 := Lh (BS.out.trans (hb.mono BS.out.size))
          clear hb
          go_wp2_with ((with_reducible refine storeM w.heap.size _ #[.slice none 0 0, .slice none 0 0, .slice none 0 0, .slice none 0 0, .slice none 0 0, .slice none 0 0, .slice none 0 0, .slice none 0 0, .int .i64 0, .int .i64 0] ?_ ?_ HZ3.out rfl rfl ON8.out ?_); exact rfl; exact rfl)
          refine mo_end (fn := Tryz.f97) rfl w.heap.size rfl (setRow_heap _ _ _ _ _ _ HZ3.out) ?_
          rw [HE.out]
          exact ⟨⟨_, rfl, _, _, _, _, _, _, _, _, rfl, mp0_ms _⟩, below_setRowM B3.out (Nat.le_refl _) _⟩
         have HE := Lh (HQ.out.1 rfl)
         clear HQ
         obtain ⟨x0, x1, x2, x3, x4, x5, x6, x7, x8, x9⟩ := bx10 HGS.out
         go_wp2_with ((with_reducible refine storeM w.heap.size _ #[t0, t1, t2, t3, t4, t5, t6, t7, .int .i64 mm.live, .int .i64 mm.garb] ?_ ?_ HZS.out rfl rfl ON.out ?_); exact rfl; exact rfl)
         refine mo_end (fn := Tryz.f97) rfl w.heap.size rfl (setRow_heap _ _ _ _ _ _ HZS.out) ?_
         rw [← HE.out]
         exact ⟨⟨_, rfl, t0, t1, t2, t3, t4, t5, t6, t7, rfl, ms_setRowZ MSS.out HZS.out⟩, below_setRowM BS.out (Nat.le_refl _) _⟩
        ·have hadd := HADD.out
         go_simp
         try simp only [hadd]
         refine hK _ _ (TD.out.mono BD.out) ?_
         clear hK K hadd
         refine held_one 0 rfl rfl (by kernel_rfl) fun K hK => ?_
         obtain ⟨x0, x1, x2, x3, x4, x5, x6, x7, x8, x9⟩ := bx10 HGD.out
         go_simp
         refine hK _ _ (TD.out.mono BD.out) ?_
         clear hK K x0 x1 x2 x3 x4 x5 x6 x7 x8 x9
         refine held_one 6 rfl rfl (by kernel_rfl) fun K hK => ?_
         go_simp
         go_at_call 119
         refine (PA.out _ TD.out).mono ?_
         rintro e y24 ⟨⟨v5, rfl, hv5⟩, hb⟩
         have TN := Lh (TD.out.trans (hb.mono TD.out.size))
         refine hK _ _ (TN.out.mono BD.out) ?_
         clear hK K
         have HGN := Lh ((hb.block _ (lt_of_some HGD.out)).trans HGD.out)
         have HZN := Lh ((hb.block _ (lt_of_some HZD.out)).trans HZD.out)
         clear hb TD HGD HZD
         have TD := TN
         have HGD := HGN
         have HZD := HZN
         clear TN HGN HZN
         obtain ⟨t0, t1, t2, t3, t4, t5, t6, t7, rfl, hms5⟩ := hv5
         have MS := Lh hms5
         clear hms5
         refine wpAnyH_take (i := 7) (v := .tuple #[.agg #[t0, t1, t2, t3, t4, t5, t6, t7, .int .i64 mm.live, .int .i64 mm.garb], .bool q]) rfl (by kernel_rfl) (by kernel_rfl) (by kernel_rfl) (fun _ _ _ h => h) (Or.inl ⟨by kernel_rfl, fun w _ => by go_simp⟩) (TD.out.mono BD.out) ?_
         refine wpAnyH_take (i := 8) (v := .agg #[t0, t1, t2, t3, t4, t5, t6, t7, .int .i64 mm.live, .int .i64 mm.garb]) rfl (by kernel_rfl) (by kernel_rfl) (by kernel_rfl) (fun _ _ _ h => h) (Or.inl ⟨by kernel_rfl, fun w _ => by go_simp⟩) (TD.out.mono BD.out) ?_
         refine wpAnyH_take (i := 9) (v := .bool q) rfl (by kernel_rfl) (by kernel_rfl) (by kernel_rfl) (fun _ _ _ h => h) (Or.inl ⟨by kernel_rfl, fun w _ => by go_simp⟩) (TD.out.mono BD.out) ?_
         have ON := Lh (ms_one MS.out mm.live mm.garb)
         refine held_one 10 rfl rfl (by kernel_rfl) fun K hK => ?_
         refine wp_store_row 48 _ _ rfl g #[t0, t1, t2, t3, t4, t5, t6, t7, .int .i64 mm.live, .int .i64 mm.garb] (by rfl) (by rfl) 48 _ HGD.out infoM10 rfl ON.out ?_
         have SN := Lh (below_setRowM (TD.out.mono BD.out) (show w.heap.size ≤ g by have := NG.out; omega) #[t0, t1, t2, t3, t4, t5, t6, t7, .int .i64 mm.live, .int .i64 mm.garb])
         refine hK _ _ SN.out ?_
         clear hK K
         refine held_one 11 rfl rfl (by kernel_rfl) fun K hK => ?_
         go_simp
         refine hK _ _ SN.out ?_
         clear hK K
         have HGS := Lh (setRow_heap _ _ _ #[t0, t1, t2, t3, t4, t5, t6, t7, .int .i64 mm.live, .int .i64 mm.garb] _ _ HGD.out)
         have HZS := Lh ((setRow_other _ g w.heap.size #[t0, t1, t2, t3, t4, t5, t6, t7, .int .i64 mm.live, .int .i64 mm.garb] (by have := NG.out; omega)).trans HZD.out)
         have MSS := Lh (ms_setRowM MS.out (ms_below MS2.out TD.out) HGD.out #[t0, t1, t2, t3, t4, t5, t6, t7, .int .i64 mm.live, .int .i64 mm.garb])
         have BS := Lh (B2.out.trans SN.out)
         refine wpAnyH_done (by kernel_rfl) ?_ _
         unfold onlyN
         dsimp only
         clear SN MS HGD HZD TD PA PR PW HADD
         cases q
         case false =>
          have HE := Lh (HQ.out.2 rfl)
          clear HQ
          go_wp2_with fail
          refine (pnew_nil _).mono ?_
          rintro e z3 ⟨rfl, hb⟩
          have HZ3 := Lh ((hb.block _ (lt_of_some HZS.out)).trans HZS.out)
          have B3 := Lh (BS.out.trans (hb.mono BS.out.size))
          clear hb
          go_wp2_with ((with_reducible refine storeM w.heap.size _ #[.slice none 0 0, .slice none 0 0, .slice none 0 0, .slice none 0 0, .slice none 0 0, .slice none 0 0, .slice none 0 0, .slice none 0 0, .int .i64 0, .int .i64 0] ?_ ?_ HZ3.out rfl rfl ON8.out ?_); exact rfl; exact rfl)
          refine mo_end (fn := Tryz.f97) rfl w.heap.size rfl (setRow_heap _ _ _ _ _ _ HZ3.out) ?_
          rw [HE.out]
          exact ⟨⟨_, rfl, _, _, _, _, _, _, _, _, rfl, mp0_ms _⟩, below_setRowM B3.out (Nat.le_refl _) _⟩
         have HE := Lh (HQ.out.1 rfl)
         clear HQ
         obtain ⟨x0, x1, x2, x3, x4, x5, x6, x7, x8, x9⟩ := bx10 HGS.out
         go_wp2_with ((with_reducible refine storeM w.heap.size _ #[t0, t1, t2, t3, t4, t5, t6, t7, .int .i64 mm.live, .int .i64 mm.garb] ?_ ?_ HZS.out rfl rfl ON.out ?_); exact rfl; exact rfl)
         refine mo_end (fn := Tryz.f97) rfl w.heap.size rfl (setRow_heap _ _ _ _ _ _ HZS.out) ?_
         rw [← HE.out]
         exact ⟨⟨_, rfl, t0, t1, t2, t3, t4, t5, t6, t7, rfl, ms_setRowZ MSS.out HZS.out⟩, below_setRowM BS.out (Nat.le_refl _) _⟩
    have l1 : decide ((k : Int) < 8) = true := decide_eq_true (by omega)
    have l2 : decide (k < 8) = true := decide_eq_true hlt
    have HK := Lh hlt
    have EK := Lh (show wrap64 ((k : Int) + 1) = ((k + 1 : Nat) : Int) by unfold wrap64; omega)
    obtain ⟨vk, hsel, how⟩ := OS2.out.own k hlt
    rw [split_get _ hlt] at how
    have hit := owT_it how
    obtain ⟨ak, ck, rfl, -, -⟩ := owT_form how
    have PM := Lh (pmerge8_any (.slice none 0 0) _ (.slice none 0 0) [] _ [] w2 (it_nil w2) hit (su_nil11 w2) (by decide) (HLN.out k) (by decide))
    rw [merge_nil] at PM
    obtain ⟨nk, hnk⟩ : ∃ z, z = (fS k L).length := ⟨_, rfl⟩
    rw [← hnk] at hsel PM
    have hix := run_index8 w2 hlt hsel
    have p0 : (0 : Int) ≤ (k : Int) := by omega
    have p1 : (k : Int) < 8 := by omega
    clear how hit hsel hnk hlt hk
    go_wp2_with fail
    refine PM.out.mono ?_
    rintro e w3 ⟨⟨v3, rfl, hi3⟩, hb⟩
    obtain ⟨a3, q3, rfl, -, -⟩ := it_form hi3
    have B3 := Lh (B2.out.trans (hb.mono B2.out.size))
    have HG3 := Lh ((hb.block _ (lt_of_some HG2.out)).trans HG2.out)
    have HZ3 := Lh ((hb.block _ (lt_of_some HZ2.out)).trans HZ2.out)
    have MS3 := Lh (ms_below MS2.out hb)
    have OS3 := Lh (OS2.out.below hb)
    have IT3 := Lh hi3
    clear hb hi3 PM hix HG2 HZ2 MS2 OS2 B2
    obtain ⟨n3, hn3⟩ : ∃ z, z = (sortL (fS k L)).length := ⟨_, rfl⟩
    have HN3 := Lh hn3
    rw [← hn3] at IT3 ⊢
    clear hn3
    obtain ⟨ad, cd, hseld, -⟩ := MS3.out.2.2.2 k HK.out
    have hcelld := bxk HG3.out HK.out hseld
    have fzd := frozen_of_row w3 g k _ _ HG3.out
    clear hseld
    go_upto_region 16 with fail
    obtain ⟨e0, e1, e2, e3, e4, e5, e6, e7, he, hd⟩ := set8 d0 d1 d2 d3 d4 d5 d6 d7 (.slice a3 n3 q3) (.int .i64 0) (.int .i64 0) k HK.out
    have hg4 := heap_setCell_same w3 g k _ _ (.slice a3 n3 q3) HG3.out
    rw [he] at hg4
    have HG4 := Lh hg4
    have ms4 := ms_set (d0 := e0) (d1 := e1) (d2 := e2) (d3 := e3) (d4 := e4) (d5 := e5) (d6 := e6) (d7 := e7) (a := a3) (c := q3) (L := sortL (fS k L)) (l' := 0) (g' := 0) MS3.out HG3.out HK.out (by rw [← HN3.out]; exact IT3.out) (by rw [← HN3.out]; exact hd) MS3.out.2.1 MS3.out.2.2.1 (.slice a3 n3 q3)
    rw [mix_succ HK.out] at ms4
    have MS4 := Lh ms4
    have OS4 := Lh (OS3.out.store (i := k) (.slice a3 n3 q3))
    have HZ4 := Lh (show (w3.setCell ⟨g, k, none⟩ (.slice a3 n3 q3)).heap[w.heap.size]? = some (.cells #[.slice none 0 0, .slice none 0 0, .slice none 0 0, .slice none 0 0, .slice none 0 0, .slice none 0 0, .slice none 0 0, .slice none 0 0, .int .i64 0, .int .i64 0] 48 (0, 0)) by
     rw [heap_setCell_other _ _ _ _ (show w.heap.size ≠ g by have := NG.out; omega)]
     exact HZ3.out)
    have B4 := Lh (B3.out.setCell (p := ⟨g, k, none⟩) (show w.heap.size ≤ g by have := NG.out; omega) (.slice a3 n3 q3))
    clear he hd hg4 ms4 hcelld fzd MS3 HG3 HZ3 B3 OS3 IT3
    generalize w3.setCell ⟨g, k, none⟩ (.slice a3 n3 q3) = w4 at *
    go_wp2_with fail
    go_roundw
    case rel =>
     have h1 := HK.out
     exact ⟨k + 1, by omega, by first | rw [EK.out] | rfl, e0, e1, e2, e3, e4, e5, e6, e7, HG4, MS4, OS4, HZ4, B4⟩
    case measure =>
     have h1 := HK.out
     first | rw [EK.out] | skip
     simp [intOf]
     omega
  have l1 : decide ((i : Int) < (n : Int)) = true := decide_eq_true (by omega)
  have l2 : decide (i < n) = true := decide_eq_true hlt
  have HI := Lh hlt
  have EW := Lh (show wrap64 ((i : Int) + 1) = ((i + 1 : Nat) : Int) by have := HN.out; unfold wrap64; omega)
  obtain ⟨b, off, cap, hv, -, -, hc⟩ := it_cells (it_below SL.out BR.out) (by have := HN.out.1; omega)
  obtain ⟨rfl, -⟩ : a = some ⟨b, off, none⟩ ∧ (n = L.length ∧ c = cap) := by simpa using hv
  have CC := hc i (by have := HN.out.1; omega)
  obtain ⟨x, hx⟩ : ∃ z, z = L.getD i z0 := ⟨_, rfl⟩
  rw [← hx] at CC
  have HX := Lh hx
  have hxo : ItOk x := by rw [hx]; exact SL.out.1 _ (getT_mem (by have := HN.out.1; omega))
  have HXO := Lh hxo
  obtain ⟨k0, k1, k2, k3⟩ := CC
  have p0 : (0 : Int) ≤ (i : Int) := by omega
  have p1 : (i : Int) < (n : Int) := by omega
  clear hv hc hx hlt hi hxo
  go_upto_region 7 with fail
  clear k0 k1 k2 k3 p0 p1 l1 l2
  have q1 := bel_al wl (.cells #[.int .u64 (x.key : Int), .int .u32 (x.ck : Int), .int .i64 x.off, .int .i64 x.sz] 56)
  have HB := Lh (heap_alloc_new wl (.cells #[.int .u64 (x.key : Int), .int .u32 (x.ck : Int), .int .i64 x.off, .int .i64 x.sz] 56))
  have B1 := Lh (BR.out.trans (q1.mono BR.out.size))
  have OS1 := Lh (OS.out.below q1)
  have HG1 := Lh ((q1.block _ (lt_of_some HG.out)).trans HG.out)
  have HZ1 := Lh ((q1.block _ (lt_of_some HZ.out)).trans HZ.out)
  have GI := Lh (show g < wl.heap.size from lt_of_some HG.out)
  clear q1 BR OS HG HZ
  generalize wl.alloc (.cells #[.int .u64 (x.key : Int), .int .u32 (x.ck : Int), .int .i64 x.off, .int .i64 x.sz] 56) = W1 at *
  generalize wl.heap.size = gi at *
  obtain ⟨⟨x0, x1, x2, x3⟩, -⟩ := bx4 HB.out
  have PI := Lh (pvalidItem_any x HXO.out W1)
  unfold TV at PI
  by_cases hok : okI x
  case neg =>
   have HE := Lh (show fromL L gb = mp0 by
    unfold fromL
    rw [if_neg (fun h => hok (h.1 x (by rw [HX.out]; exact getT_mem (by have := HI.out; have := HN.out.1; omega))))])
   rw [decide_eq_false hok] at PI
   clear hok
   go_wp2_with fail
   refine PI.out.mono ?_
   rintro e w2 ⟨rfl, hb⟩
   have HZ2 := Lh ((hb.block _ (lt_of_some HZ1.out)).trans HZ1.out)
   have B2 := Lh (B1.out.trans (hb.mono B1.out.size))
   clear hb
   go_wp2_with fail
   refine (pnew_nil w2).mono ?_
   rintro e w3 ⟨rfl, hb⟩
   have HZ3 := Lh ((hb.block _ (lt_of_some HZ2.out)).trans HZ2.out)
   have B3 := Lh (B2.out.trans (hb.mono B2.out.size))
   clear hb
   go_wp2_with ((with_reducible refine storeM w.heap.size _ #[.slice none 0 0, .slice none 0 0, .slice none 0 0, .slice none 0 0, .slice none 0 0, .slice none 0 0, .slice none 0 0, .slice none 0 0, .int .i64 0, .int .i64 0] ?_ ?_ HZ3.out rfl rfl ON8.out ?_); exact rfl; exact rfl)
   refine mo_end (fn := Tryz.f97) rfl w.heap.size rfl (setRow_heap _ _ _ _ _ _ HZ3.out) ?_
   rw [HE.out]
   exact ⟨⟨_, rfl, _, _, _, _, _, _, _, _, rfl, mp0_ms _⟩, below_setRowM B3.out (Nat.le_refl _) _⟩
  have HOK := Lh hok
  rw [decide_eq_true hok] at PI
  have ST := Lh (fun W => pstripe_any x.key W)
  obtain ⟨u, hu⟩ : ∃ u, u = sp x.key := ⟨_, rfl⟩
  rw [← hu] at ST
  have HU := Lh (And.intro hu (show u < 8 by rw [hu]; exact sp_lt _))
  have htk : L.take (i + 1) = L.take i ++ [x] := by
   rw [List.take_succ_eq_append_getElem (show i < L.length by have := HI.out; have := HN.out.1; omega), HX.out]
   congr 2
   simp [List.getD, show i < L.length by have := HI.out; have := HN.out.1; omega]
  have HST := Lh (show (splitM (L.take i)).set u (fS u (L.take i) ++ [x]) = splitM (L.take (i + 1)) by rw [htk, split_snoc, ← hu])
  have HT1 := Lh (show ∀ y ∈ L.take (i + 1), okI y by
   rw [htk]
   intro y hy
   rcases List.mem_append.1 hy with h | h
   ·exact HT.out y h
   ·rw [List.mem_singleton.1 h]; exact HOK.out)
  have HLN := Lh (show (fS u (L.take i)).length + 1 ≤ 100000000 by
   have h1 : (fS u (L.take i)).length ≤ (L.take i).length := List.length_filter_le _ _
   rw [List.length_take] at h1
   have := HN.out
   omega)
  clear hok hu htk HT
  go_wp2_with fail
  refine PI.out.mono ?_
  rintro e w2 ⟨rfl, hb⟩
  have HB2 := Lh ((hb.block _ (lt_of_some HB.out)).trans HB.out)
  have HZ2 := Lh ((hb.block _ (lt_of_some HZ1.out)).trans HZ1.out)
  have HG2 := Lh ((hb.block _ (lt_of_some HG1.out)).trans HG1.out)
  have OS2 := Lh (OS1.out.below hb)
  have B2 := Lh (B1.out.trans (hb.mono B1.out.size))
  clear hb PI x0 x1 x2 x3 HB HZ1 HG1 OS1 B1
  obtain ⟨⟨x0, x1, x2, x3⟩, -⟩ := bx4 HB2.out
  go_wp2_with fail
  refine (ST.out w2).mono ?_
  rintro e w2' ⟨rfl, rfl⟩
  clear ST
  go_upto_region 10 with fail
  clear x0 x1 x2 x3
  obtain ⟨vu, hsel, hown⟩ := OS2.out.own u HU.out.2
  have HS := Lh hsel
  have p0 : (0 : Int) ≤ (u : Int) := by omega
  have p1 : (u : Int) < 8 := by have := HU.out.2; omega
  have OW := Lh hown
  have GB := Lh (show w.heap.size ≤ g by have := NG.out; omega)
  have GG := Lh (show g + 1 ≤ w2.heap.size by have := lt_of_some HG2.out; omega)
  clear hsel hown
  have S0 := Lh (Below.refl w2.heap.size w2).drew
  refine wp_onlyN ?_
  refine wp_region_headsS (fun W' => Below w.heap.size w2 W') [0, 1, 2, 3, 8] 6 (by kernel_rfl) (fun _ _ _ _ _ h => h.elim) (by kernel_rfl) (by rfl) (by rfl) (S0.out.mono B2.out.size) ?_
  simp only [pickOps, List.filterMap_cons, List.filterMap_nil, List.getElem?_toArray, List.getElem?_cons_zero, List.getElem?_cons_succ]
  refine wpHeads_step (fun K hK => ?_)
  go_simp
  refine ⟨_, fun _ _ => rfl, hK _ ?_⟩
  clear hK K
  refine wpHeads_step (fun K hK => ?_)
  go_simp
  refine ⟨_, fun _ _ => rfl, hK _ ?_⟩
  clear hK K
  refine wpHeads_step (fun K hK => ?_)
  go_simp
  refine ⟨_, fun _ _ => rfl, hK _ ?_⟩
  clear hK K
  refine wpHeads_step (fun K hK => ?_)
  go_simp
  refine ⟨_, fun _ _ => rfl, hK _ ?_⟩
  clear hK K
  refine wpHeads_step (fun K hK => ?_)
  go_simp
  refine ⟨_, fun _ _ => rfl, hK _ ?_⟩
  clear hK K
  refine wpHeads_nil ?_
  have SD := Lh (S0.out.mono B2.out.size)
  have HGD := Lh ((S0.out.block _ (lt_of_some HG2.out)).trans HG2.out)
  have HBD := Lh ((S0.out.block _ (lt_of_some HB2.out)).trans HB2.out)
  have HZD := Lh ((S0.out.block _ (lt_of_some HZ2.out)).trans HZ2.out)
  have OSD := Lh (OS2.out.below S0.out)
  have GD := Lh (show g + 1 ≤ w2.drew.heap.size from Nat.le_trans GG.out S0.out.size)
  clear S0 HG2 HB2 HZ2 OS2 GG
  generalize w2.drew = wD at *
  refine held_two 4 5 rfl rfl rfl rfl (by kernel_rfl) (fun K hK => ?_) (fun K hK => ?_)
  ·have hc := bxk HGD.out HU.out.2 HS.out
   go_simp
   try simp only [hc]
   refine hK _ _ SD.out ?_
   clear hK K hc
   refine held_one 5 rfl rfl (by kernel_rfl) fun K hK => ?_
   obtain ⟨⟨x0, x1, x2, x3⟩, -⟩ := bx4 HBD.out
   go_simp
   try simp only [x0, x1, x2, x3]
   refine hK _ _ SD.out ?_
   clear hK K x0 x1 x2 x3
   refine held_one 6 rfl rfl (by kernel_rfl) fun K hK => ?_
   go_simp
   have hb := bel_al wD (.cells #[.int .u64 (x.key : Int), .int .u32 (x.ck : Int), .int .i64 x.off, .int .i64 x.sz] 56)
   refine hK _ _ (SD.out.trans (hb.mono (Nat.le_trans B2.out.size SD.out.size))) ?_
   clear hK K
   have SE := Lh (SD.out.trans (hb.mono (Nat.le_trans B2.out.size SD.out.size)))
   have HGE := Lh ((hb.block _ (lt_of_some HGD.out)).trans HGD.out)
   have HZE := Lh ((hb.block _ (lt_of_some HZD.out)).trans HZD.out)
   have OSE := Lh (OSD.out.below hb)
   have GE := Lh (show g + 1 ≤ (wD.alloc (.cells #[.int .u64 (x.key : Int), .int .u32 (x.ck : Int), .int .i64 x.off, .int .i64 x.sz] 56)).heap.size from Nat.le_trans GD.out hb.size)
   have ITE := Lh (it_one HXO.out (heap_alloc_new wD (.cells #[.int .u64 (x.key : Int), .int .u32 (x.ck : Int), .int .i64 x.off, .int .i64 x.sz] 56)))
   clear hb SD HGD HZD OSD HBD GD
   generalize wD.alloc (.cells #[.int .u64 (x.key : Int), .int .u32 (x.ck : Int), .int .i64 x.off, .int .i64 x.sz] 56) = wE at *
   generalize wD.heap.size = ge at *
   refine held_one 7 rfl rfl (by kernel_rfl) fun K hK => ?_
   obtain ⟨v2, hs2, ow⟩ := OSE.out.own u HU.out.2
   obtain rfl : vu = v2 := Option.some.inj (HS.out.symm.trans hs2)
   clear hs2
   rw [split_get _ HU.out.2] at ow
   refine wp_app_it1 (base := g + 1) (v := vu) (L := fS u (L.take i)) (y := x) rfl rfl ow ITE.out HLN.out GE.out (fun v7 w7 ho hg hat => ?_)
   obtain ⟨a7, q7, hv7, -, -⟩ := owT_form ho
   generalize (fS u (L.take i) ++ [x]).length = n7 at hv7
   subst hv7
   have S7 := Lh (below_grownT SE.out hg ow (Nat.le_trans GB.out (Nat.le_trans (Nat.le_succ g) GE.out)) (Nat.le_trans GB.out (Nat.le_succ g)))
   refine hK _ _ S7.out ?_
   clear hK K
   have HG7 := Lh ((hg.block g GE.out (fun e => by have := owT_lt ow g e.symm; omega)).trans HGE.out)
   have HZ7 := Lh ((hg.block w.heap.size (lt_of_some HZE.out) (fun e => by have h1 := owT_lt ow _ e.symm; have h2 := GB.out; omega)).trans HZE.out)
   obtain ⟨d0, d1, d2, d3, d4, d5, d6, d7, he, hd⟩ := set8 c0 c1 c2 c3 c4 c5 c6 c7 (.slice a7 n7 q7) (.int .i64 0) (.int .i64 0) u HU.out.2
   have os7 := (OSE.out.grow HU.out.2 HS.out ho hg hat hd (split_len _)).store (i := u) (.slice a7 n7 q7)
   rw [HST.out] at os7
   have OS8 := Lh os7
   have hg8 := heap_setCell_same w7 g u _ _ (.slice a7 n7 q7) HG7.out
   rw [he] at hg8
   have HG8 := Lh hg8
   have HZz := Lh (show (w7.setCell ⟨g, u, none⟩ (.slice a7 n7 q7)).heap[w.heap.size]? = some (.cells #[.slice none 0 0, .slice none 0 0, .slice none 0 0, .slice none 0 0, .slice none 0 0, .slice none 0 0, .slice none 0 0, .slice none 0 0, .int .i64 0, .int .i64 0] 48 (0, 0)) by
    rw [heap_setCell_other _ _ _ _ (show w.heap.size ≠ g by have := NG.out; omega)]
    exact HZ7.out)
   have S8 := Lh (S7.out.setCell (p := ⟨g, u, none⟩) GB.out (.slice a7 n7 q7))
   have hc7 := bxk HG7.out HU.out.2 HS.out
   have fz7 := frozen_of_row w7 g u _ _ HG7.out
   clear os7 hg8 he hd ho hg hat ow HG7 HZ7 OSE HGE HZE SE GE ITE
   refine held_one 9 rfl rfl (by kernel_rfl) fun K hK => ?_
   go_simp
   refine hK _ _ S7.out ?_
   clear hK K
   refine held_one 10 rfl rfl (by kernel_rfl) fun K hK => ?_
   go_simp
   refine hK _ _ S8.out ?_
   clear hK K hc7 fz7 S7
   have B8 := Lh (B2.out.trans S8.out)
   clear S8
   generalize w7.setCell ⟨g, u, none⟩ (.slice a7 n7 q7) = w8 at *
   refine wpAnyH_done (by kernel_rfl) ?_ _
   unfold onlyN
   dsimp only
   go_wp2_with fail
   go_roundw
   case rel =>
    have h1 := HI.out
    exact ⟨i + 1, by omega, by rw [EW.out], HT1, d0, d1, d2, d3, d4, d5, d6, d7, HG8, OS8, HZz, B8⟩
   case measure =>
    have h1 := HI.out
    rw [EW.out]
    simp [intOf]
    omega
  ·obtain ⟨⟨x0, x1, x2, x3⟩, -⟩ := bx4 HBD.out
   go_simp
   try simp only [x0, x1, x2, x3]
   refine hK _ _ SD.out ?_
   clear hK K x0 x1 x2 x3
   refine held_two 4 6 rfl rfl rfl rfl (by kernel_rfl) (fun K hK => ?_) (fun K hK => ?_)
   ·have hc := bxk HGD.out HU.out.2 HS.out
    go_simp
    try simp only [hc]
    refine hK _ _ SD.out ?_
    clear hK K hc
    refine held_one 6 rfl rfl (by kernel_rfl) fun K hK => ?_
    go_simp
    have hb := bel_al wD (.cells #[.int .u64 (x.key : Int), .int .u32 (x.ck : Int), .int .i64 x.off, .int .i64 x.sz] 56)
    refine hK _ _ (SD.out.trans (hb.mono (Nat.le_trans B2.out.size SD.out.size))) ?_
    clear hK K
    have SE := Lh (SD.out.trans (hb.mono (Nat.le_trans B2.out.size SD.out.size)))
    have HGE := Lh ((hb.block _ (lt_of_some HGD.out)).trans HGD.out)
    have HZE := Lh ((hb.block _ (lt_of_some HZD.out)).trans HZD.out)
    have OSE := Lh (OSD.out.below hb)
    have GE := Lh (show g + 1 ≤ (wD.alloc (.cells #[.int .u64 (x.key : Int), .int .u32 (x.ck : Int), .int .i64 x.off, .int .i64 x.sz] 56)).heap.size from Nat.le_trans GD.out hb.size)
    have ITE := Lh (it_one HXO.out (heap_alloc_new wD (.cells #[.int .u64 (x.key : Int), .int .u32 (x.ck : Int), .int .i64 x.off, .int .i64 x.sz] 56)))
    clear hb SD HGD HZD OSD HBD GD
    generalize wD.alloc (.cells #[.int .u64 (x.key : Int), .int .u32 (x.ck : Int), .int .i64 x.off, .int .i64 x.sz] 56) = wE at *
    generalize wD.heap.size = ge at *
    refine held_one 7 rfl rfl (by kernel_rfl) fun K hK => ?_
    obtain ⟨v2, hs2, ow⟩ := OSE.out.own u HU.out.2
    obtain rfl : vu = v2 := Option.some.inj (HS.out.symm.trans hs2)
    clear hs2
    rw [split_get _ HU.out.2] at ow
    refine wp_app_it1 (base := g + 1) (v := vu) (L := fS u (L.take i)) (y := x) rfl rfl ow ITE.out HLN.out GE.out (fun v7 w7 ho hg hat => ?_)
    obtain ⟨a7, q7, hv7, -, -⟩ := owT_form ho
    generalize (fS u (L.take i) ++ [x]).length = n7 at hv7
    subst hv7
    have S7 := Lh (below_grownT SE.out hg ow (Nat.le_trans GB.out (Nat.le_trans (Nat.le_succ g) GE.out)) (Nat.le_trans GB.out (Nat.le_succ g)))
    refine hK _ _ S7.out ?_
    clear hK K
    have HG7 := Lh ((hg.block g GE.out (fun e => by have := owT_lt ow g e.symm; omega)).trans HGE.out)
    have HZ7 := Lh ((hg.block w.heap.size (lt_of_some HZE.out) (fun e => by have h1 := owT_lt ow _ e.symm; have h2 := GB.out; omega)).trans HZE.out)
    obtain ⟨d0, d1, d2, d3, d4, d5, d6, d7, he, hd⟩ := set8 c0 c1 c2 c3 c4 c5 c6 c7 (.slice a7 n7 q7) (.int .i64 0) (.int .i64 0) u HU.out.2
    have os7 := (OSE.out.grow HU.out.2 HS.out ho hg hat hd (split_len _)).store (i := u) (.slice a7 n7 q7)
    rw [HST.out] at os7
    have OS8 := Lh os7
    have hg8 := heap_setCell_same w7 g u _ _ (.slice a7 n7 q7) HG7.out
    rw [he] at hg8
    have HG8 := Lh hg8
    have HZz := Lh (show (w7.setCell ⟨g, u, none⟩ (.slice a7 n7 q7)).heap[w.heap.size]? = some (.cells #[.slice none 0 0, .slice none 0 0, .slice none 0 0, .slice none 0 0, .slice none 0 0, .slice none 0 0, .slice none 0 0, .slice none 0 0, .int .i64 0, .int .i64 0] 48 (0, 0)) by
     rw [heap_setCell_other _ _ _ _ (show w.heap.size ≠ g by have := NG.out; omega)]
     exact HZ7.out)
    have S8 := Lh (S7.out.setCell (p := ⟨g, u, none⟩) GB.out (.slice a7 n7 q7))
    have hc7 := bxk HG7.out HU.out.2 HS.out
    have fz7 := frozen_of_row w7 g u _ _ HG7.out
    clear os7 hg8 he hd ho hg hat ow HG7 HZ7 OSE HGE HZE SE GE ITE
    refine held_one 9 rfl rfl (by kernel_rfl) fun K hK => ?_
    go_simp
    refine hK _ _ S7.out ?_
    clear hK K
    refine held_one 10 rfl rfl (by kernel_rfl) fun K hK => ?_
    go_simp
    refine hK _ _ S8.out ?_
    clear hK K hc7 fz7 S7
    have B8 := Lh (B2.out.trans S8.out)
    clear S8
    generalize w7.setCell ⟨g, u, none⟩ (.slice a7 n7 q7) = w8 at *
    refine wpAnyH_done (by kernel_rfl) ?_ _
    unfold onlyN
    dsimp only
    go_wp2_with fail
    go_roundw
    case rel =>
     have h1 := HI.out
     exact ⟨i + 1, by omega, by rw [EW.out], HT1, d0, d1, d2, d3, d4, d5, d6, d7, HG8, OS8, HZz, B8⟩
    case measure =>
     have h1 := HI.out
     rw [EW.out]
     simp [intOf]
     omega
   ·go_simp
    have hb := bel_al wD (.cells #[.int .u64 (x.key : Int), .int .u32 (x.ck : Int), .int .i64 x.off, .int .i64 x.sz] 56)
    refine hK _ _ (SD.out.trans (hb.mono (Nat.le_trans B2.out.size SD.out.size))) ?_
    clear hK K
    have SE := Lh (SD.out.trans (hb.mono (Nat.le_trans B2.out.size SD.out.size)))
    have HGE := Lh ((hb.block _ (lt_of_some HGD.out)).trans HGD.out)
    have HZE := Lh ((hb.block _ (lt_of_some HZD.out)).trans HZD.out)
    have OSE := Lh (OSD.out.below hb)
    have GE := Lh (show g + 1 ≤ (wD.alloc (.cells #[.int .u64 (x.key : Int), .int .u32 (x.ck : Int), .int .i64 x.off, .int .i64 x.sz] 56)).heap.size from Nat.le_trans GD.out hb.size)
    have ITE := Lh (it_one HXO.out (heap_alloc_new wD (.cells #[.int .u64 (x.key : Int), .int .u32 (x.ck : Int), .int .i64 x.off, .int .i64 x.sz] 56)))
    clear hb SD HGD HZD OSD HBD GD
    generalize wD.alloc (.cells #[.int .u64 (x.key : Int), .int .u32 (x.ck : Int), .int .i64 x.off, .int .i64 x.sz] 56) = wE at *
    generalize wD.heap.size = ge at *
    refine held_one 4 rfl rfl (by kernel_rfl) fun K hK => ?_
    have hc := bxk HGE.out HU.out.2 HS.out
    go_simp
    try simp only [hc]
    refine hK _ _ SE.out ?_
    clear hK K hc
    refine held_one 7 rfl rfl (by kernel_rfl) fun K hK => ?_
    obtain ⟨v2, hs2, ow⟩ := OSE.out.own u HU.out.2
    obtain rfl : vu = v2 := Option.some.inj (HS.out.symm.trans hs2)
    clear hs2
    rw [split_get _ HU.out.2] at ow
    refine wp_app_it1 (base := g + 1) (v := vu) (L := fS u (L.take i)) (y := x) rfl rfl ow ITE.out HLN.out GE.out (fun v7 w7 ho hg hat => ?_)
    obtain ⟨a7, q7, hv7, -, -⟩ := owT_form ho
    generalize (fS u (L.take i) ++ [x]).length = n7 at hv7
    subst hv7
    have S7 := Lh (below_grownT SE.out hg ow (Nat.le_trans GB.out (Nat.le_trans (Nat.le_succ g) GE.out)) (Nat.le_trans GB.out (Nat.le_succ g)))
    refine hK _ _ S7.out ?_
    clear hK K
    have HG7 := Lh ((hg.block g GE.out (fun e => by have := owT_lt ow g e.symm; omega)).trans HGE.out)
    have HZ7 := Lh ((hg.block w.heap.size (lt_of_some HZE.out) (fun e => by have h1 := owT_lt ow _ e.symm; have h2 := GB.out; omega)).trans HZE.out)
    obtain ⟨d0, d1, d2, d3, d4, d5, d6, d7, he, hd⟩ := set8 c0 c1 c2 c3 c4 c5 c6 c7 (.slice a7 n7 q7) (.int .i64 0) (.int .i64 0) u HU.out.2
    have os7 := (OSE.out.grow HU.out.2 HS.out ho hg hat hd (split_len _)).store (i := u) (.slice a7 n7 q7)
    rw [HST.out] at os7
    have OS8 := Lh os7
    have hg8 := heap_setCell_same w7 g u _ _ (.slice a7 n7 q7) HG7.out
    rw [he] at hg8
    have HG8 := Lh hg8
    have HZz := Lh (show (w7.setCell ⟨g, u, none⟩ (.slice a7 n7 q7)).heap[w.heap.size]? = some (.cells #[.slice none 0 0, .slice none 0 0, .slice none 0 0, .slice none 0 0, .slice none 0 0, .slice none 0 0, .slice none 0 0, .slice none 0 0, .int .i64 0, .int .i64 0] 48 (0, 0)) by
     rw [heap_setCell_other _ _ _ _ (show w.heap.size ≠ g by have := NG.out; omega)]
     exact HZ7.out)
    have S8 := Lh (S7.out.setCell (p := ⟨g, u, none⟩) GB.out (.slice a7 n7 q7))
    have hc7 := bxk HG7.out HU.out.2 HS.out
    have fz7 := frozen_of_row w7 g u _ _ HG7.out
    clear os7 hg8 he hd ho hg hat ow HG7 HZ7 OSE HGE HZE SE GE ITE
    refine held_one 9 rfl rfl (by kernel_rfl) fun K hK => ?_
    go_simp
    refine hK _ _ S7.out ?_
    clear hK K
    refine held_one 10 rfl rfl (by kernel_rfl) fun K hK => ?_
    go_simp
    refine hK _ _ S8.out ?_
    clear hK K hc7 fz7 S7
    have B8 := Lh (B2.out.trans S8.out)
    clear S8
    generalize w7.setCell ⟨g, u, none⟩ (.slice a7 n7 q7) = w8 at *
    refine wpAnyH_done (by kernel_rfl) ?_ _
    unfold onlyN
    dsimp only
    go_wp2_with fail
    go_roundw
    case rel =>
     have h1 := HI.out
     exact ⟨i + 1, by omega, by rw [EW.out], HT1, d0, d1, d2, d3, d4, d5, d6, d7, HG8, OS8, HZz, B8⟩
    case measure =>
     have h1 := HI.out
     rw [EW.out]
     simp [intOf]
     omega
end Go.Proofs.YtbmlpafbdbhaiaaGreatDoor.Gf
namespace Go.Proofs.YtbmlpafbdbhaiaaGreatDoor.Gf
open Go Go.Joins Go.ChangeShapes Go.WideShapes Go.ChangeAt Go.RowKit Go.Deep Go.Proofs.YtbmlpafbdbhaiaaGreatDoor.By Go.Proofs.YtbmlpafbdbhaiaaGreatDoor.Qt

/-- Worlds that keep what is older than w, and certain boxes. -/
structure SBx (w : World) (L : List (Nat × Obj)) (w' : World) : Prop where
 bel : Below w.heap.size w w'
 box : ∀ p ∈ L, w'.heap[p.1]? = some p.2
theorem SBx.below {w a b : World} {L : List (Nat × Obj)} (h : SBx w L a) (hb : Below a.heap.size a b) : SBx w L b := ⟨h.bel.trans (hb.mono h.bel.size), fun p hp => (hb.block _ (lt_of_some (h.box p hp))).trans (h.box p hp)⟩
theorem SBx.drew {w a : World} {L : List (Nat × Obj)} (h : SBx w L a) : SBx w L a.drew := ⟨h.bel.drew, h.box⟩
/-- A valid map of at most n items. -/
structure Gd (m : Mp) (n : Nat) : Prop where
 ok : okM m
 len : m.st.length = 8
 flat : m.st.flatten.length ≤ n
theorem Gd.few {m : Mp} {n : Nat} (h : Gd m n) (hn : n ≤ 1000) : Few m := fun k hk => by
 rw [ms_of (by rw [h.len]; exact hk)]
 exact Nat.le_trans (List.sublist_flatten_of_mem (List.getElem_mem _)).length_le (Nat.le_trans h.flat hn)
theorem Gd.up {m : Mp} {n k : Nat} (h : Gd m n) (hk : n ≤ k) : Gd m k := ⟨h.ok, h.len, Nat.le_trans h.flat hk⟩
theorem Gd.items {m : Mp} {n : Nat} (h : Gd m n) : itemsL m = iL m := by unfold itemsL; rw [if_pos h.ok]
theorem Gd.lenI {m : Mp} {n : Nat} (h : Gd m n) : (iL m).length = m.st.flatten.length := by
 have hn := nodup_flat h.ok h.len 8 (Nat.le_refl _)
 rw [List.take_of_length_le (by rw [h.len]; exact Nat.le_refl _)] at hn
 have hn2 : ((iL m).map (·.key)).Nodup := by
  have h1 := asc_iL m
  unfold Asc at h1
  unfold List.Nodup
  rw [List.pairwise_map]
  exact h1.imp fun h => Nat.ne_of_lt h
 have hp : ((iL m).map (·.key)).Perm (m.st.flatten.map (·.key)) := by
  refine (List.perm_ext_iff_of_nodup hn2 hn).2 fun q => ?_
  have hk : ∀ L : List Itm, q ∈ L.map (·.key) ↔ lk L q ≠ none := fun L => by
   rw [Ne, lk_none]
   constructor
   ·intro h1 h2
    obtain ⟨x, hx, rfl⟩ := List.mem_map.1 h1
    exact h2 x hx rfl
   ·intro h1
    cases c : lk L q with
    | none => exact absurd (lk_none.1 c) h1
    | some y => exact List.mem_map.2 ⟨y, (lk_some c).1, (lk_some c).2⟩
  rw [hk, hk]
  unfold iL
  rw [lk_sortL]
 have h2 := hp.length_eq
 rwa [List.length_map, List.length_map] at h2
theorem Gd.lenM {m : Mp} {n : Nat} (h : Gd m n) : lenM m = (iL m).length := by
 unfold Gf.lenM
 rw [if_pos h.ok, h.lenI]
theorem gd_from {L : List Itm} {g : Int} (h : ∀ x ∈ L, okI x) (h0 : 0 ≤ g) (h1 : g ≤ 1099511627776) : Gd (fromL L g) L.length ∧ (fromL L g).garb = g := by
 unfold fromL
 rw [if_pos ⟨h, h0, h1⟩]
 exact ⟨⟨fromL_ok h h0 h1, split_len _, by show (splitM (sortL L)).flatten.length ≤ _; rw [(flat_split (sortL L)).1]; exact length_sortL L⟩, rfl⟩
theorem gd_put {m : Mp} {n : Nat} (h : Gd m n) {x : Itm} (hx : okI x) : Gd (putM m x) (n + 1) := by
 have h1 := putM_ok h.ok h.len hx
 refine ⟨h1.1, h1.2, ?_⟩
 unfold putM fromL
 split
 ·split
  ·exact Nat.le_trans h.flat (Nat.le_succ _)
  ·split
   ·show (splitM (sortL (putL (iL m) x))).flatten.length ≤ _
    rw [(flat_split _).1]
    refine Nat.le_trans (length_sortL _) (Nat.le_trans (length_insL _ _) ?_)
    rw [sort_iL, h.lenI]
    exact Nat.succ_le_succ h.flat
   ·exact Nat.zero_le _
 ·exact Nat.le_trans h.flat (Nat.le_succ _)
theorem gd_del {m : Mp} {n : Nat} (h : Gd m n) (k : Nat) : Gd (delM m k) n := by
 have h1 := delM_ok h.ok h.len k
 refine ⟨h1.1, h1.2, ?_⟩
 unfold delM fromL
 split
 ·split
  ·exact h.flat
  ·split
   ·show (splitM (sortL (dropL (iL m) k))).flatten.length ≤ _
    rw [(flat_split _).1]
    refine Nat.le_trans (length_sortL _) (Nat.le_trans (List.length_filter_le _ _) ?_)
    rw [sort_iL, h.lenI]
    exact h.flat
   ·exact Nat.zero_le _
 ·exact h.flat
theorem Gd.fewN {m : Mp} {n : Nat} (h : Gd m n) : FewN m n := fun k hk => by
 rw [ms_of (by rw [h.len]; exact hk)]
 exact Nat.le_trans (List.sublist_flatten_of_mem (List.getElem_mem _)).length_le h.flat
end Go.Proofs.YtbmlpafbdbhaiaaGreatDoor.Gf
namespace Go.Proofs.YtbmlpafbdbhaiaaGreatDoor.Gf
open Go Go.Joins Go.ChangeShapes Go.WideShapes Go.ChangeAt Go.RowKit Go.Deep Go.Proofs.YtbmlpafbdbhaiaaGreatDoor.By Go.Proofs.YtbmlpafbdbhaiaaGreatDoor.Qt
set_option maxRecDepth 100000
set_option maxHeartbeats 204800000

theorem ms_own {w : World} {base : Nat} {c0 c1 c2 c3 c4 c5 c6 c7 : Value} {S : List Itm} {l g : Int} (h : OwS w base [c0, c1, c2, c3, c4, c5, c6, c7] (splitM S)) (hl : J64 l) (hg : J64 g) : Ms w [c0, c1, c2, c3, c4, c5, c6, c7] ⟨splitM S, l, g⟩ := ⟨split_len _, hl, hg, fun k hk => by
 obtain ⟨v, h1, h2⟩ := h.own k hk
 rw [split_get _ hk] at h2
 have e : ms ⟨splitM S, l, g⟩ k = fS k S := split_get _ hk
 rw [e]
 have h3 := owT_it h2
 obtain ⟨a, q, rfl, -, -⟩ := owT_form h2
 exact ⟨a, q, h1, h3⟩⟩
theorem ms_setRowR {Y : World} {p : Nat} {vs : List Value} {m : Mp} {cs : Array Value} (h : Ms Y vs m) (hz : Y.heap[p]? = some (.cells #[.slice none 0 0, .slice none 0 0, .slice none 0 0, .slice none 0 0, .slice none 0 0, .slice none 0 0, .slice none 0 0, .slice none 0 0, .int .i64 0, .int .i64 0] 41 (0, 0))) : Ms (Y.setRow p cs) vs m := ⟨h.1, h.2.1, h.2.2.1, fun k hk => by
 obtain ⟨a, c, h1, h2⟩ := h.2.2.2 k hk
 exact ⟨a, c, h1, it_keepM h2 hz zero_u64 fun b hb => setRow_other _ _ _ _ hb⟩⟩
theorem own_one {w : World} {base : Nat} {Ls : List (List Itm)} {c0 c1 c2 c3 c4 c5 c6 c7 : Value} (h : OwS w base [c0, c1, c2, c3, c4, c5, c6, c7] Ls) (l g : Int) : (#[c0, c1, c2, c3, c4, c5, c6, c7, .int .i64 l, .int .i64 g] : Array Value).all (·.oneCell') = true := by
 have hk : ∀ k v, k < 8 → [c0, c1, c2, c3, c4, c5, c6, c7][k]? = some v → v.oneCell' = true := fun k v hk hv => by
  obtain ⟨u, h1, h2⟩ := h.own k hk
  rw [hv] at h1
  cases h1
  obtain ⟨a, q, rfl, -, -⟩ := owT_form h2
  rfl
 have e0 := hk 0 c0 (by decide) rfl
 have e1 := hk 1 c1 (by decide) rfl
 have e2 := hk 2 c2 (by decide) rfl
 have e3 := hk 3 c3 (by decide) rfl
 have e4 := hk 4 c4 (by decide) rfl
 have e5 := hk 5 c5 (by decide) rfl
 have e6 := hk 6 c6 (by decide) rfl
 have e7 := hk 7 c7 (by decide) rfl
 simp [e0, e1, e2, e3, e4, e5, e6, e7, show (Value.int .i64 l).oneCell' = true from rfl, show (Value.int .i64 g).oneCell' = true from rfl]
theorem rfrom_any (v : Value) (L : List Itm) (gb : Int) (w : World) (hl : It w v L) (hlen : L.length ≤ 1000) (hgb : J64 gb) : Calls Tryz.prog 54 #[v, .int .i64 gb] w (MO w (fromL L gb)) := by
 have SL := Lh hl
 have ON8 := Lh (ms_one (mp0_ms w) 0 0)
 obtain ⟨a, c, rfl, -, hcm⟩ := it_form hl
 obtain ⟨n, hn⟩ : ∃ z, z = L.length := ⟨_, rfl⟩
 rw [← hn] at SL hlen ⊢
 have HN := Lh (And.intro hn hlen)
 have HJ := Lh hgb
 have BX := Lh (bel_al w (.cells #[.slice none 0 0, .slice none 0 0, .slice none 0 0, .slice none 0 0, .slice none 0 0, .slice none 0 0, .slice none 0 0, .slice none 0 0, .int .i64 0, .int .i64 0] 41))
 have HZ := Lh (heap_alloc_new w (.cells #[.slice none 0 0, .slice none 0 0, .slice none 0 0, .slice none 0 0, .slice none 0 0, .slice none 0 0, .slice none 0 0, .slice none 0 0, .int .i64 0, .int .i64 0] 41))
 clear hl hn hlen hcm hgb
 go_enter Tryz.func54, Tryz.ntmps54
 go_upto_region 1 with fail
 generalize w.alloc (.cells #[.slice none 0 0, .slice none 0 0, .slice none 0 0, .slice none 0 0, .slice none 0 0, .slice none 0 0, .slice none 0 0, .slice none 0 0, .int .i64 0, .int .i64 0] 41) = W1 at *
 go_wp2_with fail
 go_loopw [5] (fun t wr => ∃ i : Nat, i ≤ n ∧ t = .int .i64 (i : Int) ∧ Hid (∀ x ∈ L.take i, okI x) ∧ Hid (wr.heap[w.heap.size]? = some (.cells #[.slice none 0 0, .slice none 0 0, .slice none 0 0, .slice none 0 0, .slice none 0 0, .slice none 0 0, .slice none 0 0, .slice none 0 0, .int .i64 0, .int .i64 0] 41 (0, 0))) ∧ Hid (Below w.heap.size w wr)) (fun t _ => n - (intOf t).toNat)
 case atStart => exact ⟨0, by omega, rfl, Lh (by simp), HZ, BX⟩
 case round =>
  obtain ⟨i, hi, rfl, HT, HZ1, BR⟩ := hrel
  rename World => wl
  clear HZ BX
  by_cases hlt : i < n
  case neg =>
   obtain rfl : i = n := by omega
   have hall : L.take i = L := List.take_of_length_le (by have := HN.out.1; omega)
   rw [hall] at HT
   clear hlt hi hall
   have l1 : decide ((i : Int) < (i : Int)) = false := decide_eq_false (by omega)
   have l2 : decide (i < i) = false := decide_eq_false (by omega)
   go_upto_region 6 with fail
   clear l1 l2
   by_cases hg0 : gb < 0
   case pos =>
    have HE := Lh (show fromL L gb = mp0 by unfold fromL; rw [if_neg (fun h => by have := h.2.1; omega)])
    have l1 : decide (gb < 0) = true := decide_eq_true hg0
    clear hg0
    go_wp2_with ((with_reducible refine storeR w.heap.size _ #[.slice none 0 0, .slice none 0 0, .slice none 0 0, .slice none 0 0, .slice none 0 0, .slice none 0 0, .slice none 0 0, .slice none 0 0, .int .i64 0, .int .i64 0] ?_ ?_ HZ1.out rfl rfl ON8.out ?_); exact rfl; exact rfl)
    refine ro_end (fn := Tryz.f54) rfl w.heap.size rfl (setRow_heap _ _ _ _ _ _ HZ1.out) ?_
    rw [HE.out]
    exact ⟨⟨_, rfl, _, _, _, _, _, _, _, _, rfl, mp0_ms _⟩, below_setRowM BR.out (Nat.le_refl _) _⟩
   have l1 : decide (gb < 0) = false := decide_eq_false hg0
   by_cases hg1 : 1099511627776 < gb
   case pos =>
    have HE := Lh (show fromL L gb = mp0 by unfold fromL G40; rw [if_neg (fun h => by have := h.2.2; omega)])
    have l2 : decide (1099511627776 < gb) = true := decide_eq_true hg1
    clear hg0 hg1
    go_wp2_with ((with_reducible refine storeR w.heap.size _ #[.slice none 0 0, .slice none 0 0, .slice none 0 0, .slice none 0 0, .slice none 0 0, .slice none 0 0, .slice none 0 0, .slice none 0 0, .int .i64 0, .int .i64 0] ?_ ?_ HZ1.out rfl rfl ON8.out ?_); exact rfl; exact rfl)
    refine ro_end (fn := Tryz.f54) rfl w.heap.size rfl (setRow_heap _ _ _ _ _ _ HZ1.out) ?_
    rw [HE.out]
    exact ⟨⟨_, rfl, _, _, _, _, _, _, _, _, rfl, mp0_ms _⟩, below_setRowM BR.out (Nat.le_refl _) _⟩
   have l2 : decide (1099511627776 < gb) = false := decide_eq_false hg1
   have HE := Lh (show fromL L gb = ⟨splitM (sortL L), byT (sortL L), gb⟩ by unfold fromL G40; rw [if_pos ⟨HT.out, by omega, by omega⟩])
   clear hg0 hg1
   go_upto_region 8 with fail
   clear l1 l2
   have PS := Lh (rsorted_any _ L wl (it_below SL.out BR.out) (by have := HN.out; omega))
   have hlS := length_sortL L
   have hbS := byT_bd (sortL L)
   have HLS := Lh (show (sortL L).length ≤ 1000 by have := HN.out; omega)
   have HBS := Lh (show J64 (byT (sortL L)) by have := HLS.out; unfold J64; omega)
   clear hlS hbS
   generalize sortL L = S at *
   go_wp2_with fail
   refine PS.out.mono ?_
   rintro e w3 ⟨⟨v3, rfl, ho3⟩, hb⟩
   have IS3 := Lh (owT_it ho3)
   obtain ⟨aS, cS, rfl, -, -⟩ := owT_form ho3
   have HZ3 := Lh ((hb.block _ (lt_of_some HZ1.out)).trans HZ1.out)
   have B3 := Lh (BR.out.trans (hb.mono BR.out.size))
   have PB := Lh (rbytes11_any _ S w3 IS3.out (Nat.le_trans HLS.out (by decide)))
   obtain ⟨nS, hnS⟩ : ∃ z, z = S.length := ⟨_, rfl⟩
   rw [← hnS] at IS3 PB HLS ⊢
   have HNS := Lh hnS
   clear ho3 hb PS hnS HZ1 BR
   go_wp2_with fail
   refine PB.out.mono ?_
   rintro e w3' ⟨rfl, rfl⟩
   have hz4 := heap_alloc_new w3 (.cells #[.slice none 0 0, .slice none 0 0, .slice none 0 0, .slice none 0 0, .slice none 0 0, .slice none 0 0, .slice none 0 0, .slice none 0 0, .int .i64 0, .int .i64 0] 41)
   have ON4 := Lh (ms_one (mp0_ms w3) (byT S) gb)
   go_upto_region 10 with ((with_reducible refine storeR w3.heap.size _ #[.slice none 0 0, .slice none 0 0, .slice none 0 0, .slice none 0 0, .slice none 0 0, .slice none 0 0, .slice none 0 0, .slice none 0 0, .int .i64 (byT S), .int .i64 gb] ?_ ?_ hz4 rfl rfl ON4.out ?_); exact rfl; exact rfl)
   rw [World.setRow_alloc_new]
   have q4 := bel_al w3 (.cells #[.slice none 0 0, .slice none 0 0, .slice none 0 0, .slice none 0 0, .slice none 0 0, .slice none 0 0, .slice none 0 0, .slice none 0 0, .int .i64 (byT S), .int .i64 gb] 41)
   have HG4 := Lh (heap_alloc_new w3 (.cells #[.slice none 0 0, .slice none 0 0, .slice none 0 0, .slice none 0 0, .slice none 0 0, .slice none 0 0, .slice none 0 0, .slice none 0 0, .int .i64 (byT S), .int .i64 gb] 41))
   have B4 := Lh q4
   clear hz4 q4 ON4 PB
   generalize w3.alloc (.cells #[.slice none 0 0, .slice none 0 0, .slice none 0 0, .slice none 0 0, .slice none 0 0, .slice none 0 0, .slice none 0 0, .slice none 0 0, .int .i64 (byT S), .int .i64 gb] 41) = w4 at *
   go_wp2_with fail
   go_loopw [7] (fun t wr => ∃ i : Nat, i ≤ nS ∧ t = .int .i64 (i : Int) ∧ ∃ c0 c1 c2 c3 c4 c5 c6 c7 : Value, Hid (wr.heap[w3.heap.size]? = some (.cells #[c0, c1, c2, c3, c4, c5, c6, c7, .int .i64 (byT S), .int .i64 gb] 41 (0, 0))) ∧ Hid (OwS wr (w3.heap.size + 1) [c0, c1, c2, c3, c4, c5, c6, c7] (splitM (S.take i))) ∧ Hid (Below w3.heap.size w3 wr)) (fun t _ => nS - (intOf t).toNat)
   case atStart => exact ⟨0, by omega, rfl, _, _, _, _, _, _, _, _, HG4, Lh (by rw [List.take_zero]; exact ows_nil _ _), B4⟩
   case round =>
    obtain ⟨i, hi, rfl, c0, c1, c2, c3, c4, c5, c6, c7, HG, OS, BR⟩ := hrel
    rename World => wl
    clear HG4 B4
    by_cases hlt : i < nS
    case neg =>
     have l1 : decide ((i : Int) < (nS : Int)) = false := decide_eq_false (by omega)
     have l2 : decide (i < nS) = false := decide_eq_false hlt
     have OSN := Lh (show OwS wl (w3.heap.size + 1) [c0, c1, c2, c3, c4, c5, c6, c7] (splitM S) by
      have h1 := OS.out
      rwa [List.take_of_length_le (by have := HNS.out; omega)] at h1)
     have ON := Lh (own_one OSN.out (byT S) gb)
     have MSN := Lh (ms_own (l := byT S) (g := gb) OSN.out HBS.out HJ.out)
     have HZ5 := Lh ((BR.out.block _ (lt_of_some HZ3.out)).trans HZ3.out)
     have BZ := Lh (B3.out.trans (BR.out.mono B3.out.size))
     obtain ⟨x0, x1, x2, x3, x4, x5, x6, x7, x8, x9⟩ := bx10 HG.out
     clear hlt hi OS OSN
     go_wp2_with ((with_reducible refine storeR w.heap.size _ #[c0, c1, c2, c3, c4, c5, c6, c7, .int .i64 (byT S), .int .i64 gb] ?_ ?_ HZ5.out rfl rfl ON.out ?_); exact rfl; exact rfl)
     refine ro_end (fn := Tryz.f54) rfl w.heap.size rfl (setRow_heap _ _ _ _ _ _ HZ5.out) ?_
     rw [HE.out]
     exact ⟨⟨_, rfl, c0, c1, c2, c3, c4, c5, c6, c7, rfl, ms_setRowR MSN.out HZ5.out⟩, below_setRowM BZ.out (Nat.le_refl _) _⟩
    have l1 : decide ((i : Int) < (nS : Int)) = true := decide_eq_true (by omega)
    have l2 : decide (i < nS) = true := decide_eq_true hlt
    have HI := Lh hlt
    have EW := Lh (show wrap64 ((i : Int) + 1) = ((i + 1 : Nat) : Int) by have := HLS.out; unfold wrap64; omega)
    obtain ⟨b, off, cap, hv, -, -, hc⟩ := it_cells IS3.out (by have := HNS.out; omega)
    obtain ⟨rfl, -⟩ : aS = some ⟨b, off, none⟩ ∧ (nS = S.length ∧ cS = cap) := by simpa using hv
    have hC := hc i (by have := HNS.out; omega)
    obtain ⟨x, hx⟩ : ∃ z, z = S.getD i z0 := ⟨_, rfl⟩
    rw [← hx] at hC
    have HX := Lh hx
    have hxo : ItOk x := by rw [hx]; exact IS3.out.1 _ (getT_mem (by have := HNS.out; omega))
    have HXO := Lh hxo
    have CX := Lh hC
    have ST := Lh (fun W => rstripe_any x.key W)
    obtain ⟨u, hu⟩ : ∃ u, u = sp x.key := ⟨_, rfl⟩
    rw [← hu] at ST
    have HU := Lh (And.intro hu (show u < 8 by rw [hu]; exact sp_lt _))
    have htk : S.take (i + 1) = S.take i ++ [x] := by
     rw [List.take_succ_eq_append_getElem (show i < S.length by have := HI.out; have := HNS.out; omega), HX.out]
     congr 2
     simp [List.getD, show i < S.length by have := HI.out; have := HNS.out; omega]
    have HST := Lh (show (splitM (S.take i)).set u (fS u (S.take i) ++ [x]) = splitM (S.take (i + 1)) by rw [htk, split_snoc, ← hu])
    have HLN := Lh (show (fS u (S.take i)).length + 1 ≤ 100000000 by
     have h1 : (fS u (S.take i)).length ≤ (S.take i).length := List.length_filter_le _ _
     rw [List.length_take] at h1
     have := HNS.out
     have := HLS.out
     omega)
    obtain ⟨k0, k1, k2, k3⟩ := CX.out.below BR.out
    have p0 : (0 : Int) ≤ (i : Int) := by omega
    have p1 : (i : Int) < (nS : Int) := by omega
    clear hv hc hC hx hlt hi hxo htk hu
    go_upto_region 13 with fail
    go_wp2_with fail
    refine (ST.out wl).mono ?_
    rintro e w2' ⟨rfl, rfl⟩
    clear ST
    go_upto_region 14 with fail
    clear k0 k1 k2 k3 l1 l2
    obtain ⟨vu, hsel, hown⟩ := OS.out.own u HU.out.2
    have HS := Lh hsel
    have q0 : (0 : Int) ≤ (u : Int) := by omega
    have q1 : (u : Int) < 8 := by have := HU.out.2; omega
    clear hsel hown
    refine wp_onlyN ?_
    refine wp_region_headsS (fun W' => Below w3.heap.size w3 W') [0, 1, 2, 3, 5, 6, 7, 8, 11] 5 (by kernel_rfl) (fun _ _ _ _ _ h => h.elim) (by kernel_rfl) (by rfl) (by rfl) BR.out.drew ?_
    simp only [pickOps, List.filterMap_cons, List.filterMap_nil, List.getElem?_toArray, List.getElem?_cons_zero, List.getElem?_cons_succ]
    refine wpHeads_step (fun K hK => ?_)
    go_simp
    refine ⟨_, fun _ _ => rfl, hK _ ?_⟩
    clear hK K
    refine wpHeads_step (fun K hK => ?_)
    go_simp
    refine ⟨_, fun _ _ => rfl, hK _ ?_⟩
    clear hK K
    refine wpHeads_step (fun K hK => ?_)
    go_simp
    refine ⟨_, fun _ _ => rfl, hK _ ?_⟩
    clear hK K
    refine wpHeads_step (fun K hK => ?_)
    go_simp
    refine ⟨_, fun _ _ => rfl, hK _ ?_⟩
    clear hK K
    refine wpHeads_step (fun K hK => ?_)
    go_simp
    refine ⟨_, fun _ _ => rfl, hK _ ?_⟩
    clear hK K
    refine wpHeads_step (fun K hK => ?_)
    go_simp
    refine ⟨_, fun _ _ => rfl, hK _ ?_⟩
    clear hK K
    refine wpHeads_step (fun K hK => ?_)
    go_simp
    refine ⟨_, fun _ _ => rfl, hK _ ?_⟩
    clear hK K
    refine wpHeads_step (fun K hK => ?_)
    go_simp
    refine ⟨.agg #[.int .u64 (x.key : Int), .int .u32 (x.ck : Int), .int .i64 x.off, .int .i64 x.sz], fun w' hw' => by
     obtain ⟨k0, k1, k2, k3⟩ := CX.out.below hw'
     go_simp, hK _ ?_⟩
    clear hK K
    refine wpHeads_step (fun K hK => ?_)
    go_simp
    refine ⟨_, fun _ _ => rfl, hK _ ?_⟩
    clear hK K
    refine wpHeads_nil ?_
    have S0 := Lh (Below.refl wl.heap.size wl).drew
    have SD := Lh BR.out.drew
    have HGD := Lh ((S0.out.block _ (lt_of_some HG.out)).trans HG.out)
    have OSD := Lh (OS.out.below S0.out)
    have GD := Lh (show w3.heap.size + 1 ≤ wl.drew.heap.size from Nat.le_trans (lt_of_some HG.out) S0.out.size)
    clear S0 HG OS BR
    generalize wl.drew = wD at *
    refine held_two 4 9 rfl rfl rfl rfl (by kernel_rfl) (fun K hK => ?_) (fun K hK => ?_)
    ·have hc := bxk HGD.out HU.out.2 HS.out
     go_simp
     try simp only [hc]
     refine hK _ _ SD.out ?_
     clear hK K hc
     refine held_one 9 rfl rfl (by kernel_rfl) fun K hK => ?_
     go_simp
     have hb := bel_al wD (.cells #[.int .u64 (x.key : Int), .int .u32 (x.ck : Int), .int .i64 x.off, .int .i64 x.sz] 56)
     refine hK _ _ (SD.out.trans (hb.mono SD.out.size)) ?_
     clear hK K
     have SE := Lh (SD.out.trans (hb.mono SD.out.size))
     have HGE := Lh ((hb.block _ (lt_of_some HGD.out)).trans HGD.out)
     have OSE := Lh (OSD.out.below hb)
     have GE := Lh (show w3.heap.size + 1 ≤ (wD.alloc (.cells #[.int .u64 (x.key : Int), .int .u32 (x.ck : Int), .int .i64 x.off, .int .i64 x.sz] 56)).heap.size from Nat.le_trans GD.out hb.size)
     have ITE := Lh (it_one HXO.out (heap_alloc_new wD (.cells #[.int .u64 (x.key : Int), .int .u32 (x.ck : Int), .int .i64 x.off, .int .i64 x.sz] 56)))
     clear hb SD HGD OSD GD
     generalize wD.alloc (.cells #[.int .u64 (x.key : Int), .int .u32 (x.ck : Int), .int .i64 x.off, .int .i64 x.sz] 56) = wE at *
     generalize wD.heap.size = ge at *
     refine held_one 10 rfl rfl (by kernel_rfl) fun K hK => ?_
     obtain ⟨v2, hs2, ow⟩ := OSE.out.own u HU.out.2
     obtain rfl : vu = v2 := Option.some.inj (HS.out.symm.trans hs2)
     clear hs2
     rw [split_get _ HU.out.2] at ow
     refine wp_app_it1 (base := w3.heap.size + 1) (v := vu) (L := fS u (S.take i)) (y := x) rfl rfl ow ITE.out HLN.out GE.out (fun v7 w7 ho hg hat => ?_)
     obtain ⟨a7, q7, hv7, -, -⟩ := owT_form ho
     generalize (fS u (S.take i) ++ [x]).length = n7 at hv7
     subst hv7
     have S7 := Lh (below_grownT SE.out hg ow (Nat.le_trans (Nat.le_succ w3.heap.size) GE.out) (Nat.le_succ w3.heap.size))
     refine hK _ _ S7.out ?_
     clear hK K
     have HG7 := Lh ((hg.block w3.heap.size GE.out (fun e => by have := owT_lt ow w3.heap.size e.symm; omega)).trans HGE.out)
     obtain ⟨d0, d1, d2, d3, d4, d5, d6, d7, he, hd⟩ := set8 c0 c1 c2 c3 c4 c5 c6 c7 (.slice a7 n7 q7) (.int .i64 (byT S)) (.int .i64 gb) u HU.out.2
     have os7 := (OSE.out.grow HU.out.2 HS.out ho hg hat hd (split_len _)).store (i := u) (.slice a7 n7 q7)
     rw [HST.out] at os7
     have OS8 := Lh os7
     have hg8 := heap_setCell_same w7 w3.heap.size u _ _ (.slice a7 n7 q7) HG7.out
     rw [he] at hg8
     have HG8 := Lh hg8
     have S8 := Lh (S7.out.setCell (p := ⟨w3.heap.size, u, none⟩) (Nat.le_refl _) (.slice a7 n7 q7))
     have hc7 := bxk HG7.out HU.out.2 HS.out
     have fz7 := frozen_of_row w7 w3.heap.size u _ _ HG7.out
     clear os7 hg8 he hd ho hg hat ow HG7 OSE HGE SE GE ITE
     refine held_one 12 rfl rfl (by kernel_rfl) fun K hK => ?_
     go_simp
     refine hK _ _ S7.out ?_
     clear hK K
     refine held_one 13 rfl rfl (by kernel_rfl) fun K hK => ?_
     go_simp
     refine hK _ _ S8.out ?_
     clear hK K hc7 fz7 S7
     generalize w7.setCell ⟨w3.heap.size, u, none⟩ (.slice a7 n7 q7) = w8 at *
     refine wpAnyH_done (by kernel_rfl) ?_ _
     unfold onlyN
     dsimp only
     go_wp2_with fail
     go_roundw
     case rel =>
      have h1 := HI.out
      exact ⟨i + 1, by omega, by rw [EW.out], d0, d1, d2, d3, d4, d5, d6, d7, HG8, OS8, S8⟩
     case measure =>
      have h1 := HI.out
      rw [EW.out]
      simp [intOf]
      omega
    ·go_simp
     have hb := bel_al wD (.cells #[.int .u64 (x.key : Int), .int .u32 (x.ck : Int), .int .i64 x.off, .int .i64 x.sz] 56)
     refine hK _ _ (SD.out.trans (hb.mono SD.out.size)) ?_
     clear hK K
     have SE := Lh (SD.out.trans (hb.mono SD.out.size))
     have HGE := Lh ((hb.block _ (lt_of_some HGD.out)).trans HGD.out)
     have OSE := Lh (OSD.out.below hb)
     have GE := Lh (show w3.heap.size + 1 ≤ (wD.alloc (.cells #[.int .u64 (x.key : Int), .int .u32 (x.ck : Int), .int .i64 x.off, .int .i64 x.sz] 56)).heap.size from Nat.le_trans GD.out hb.size)
     have ITE := Lh (it_one HXO.out (heap_alloc_new wD (.cells #[.int .u64 (x.key : Int), .int .u32 (x.ck : Int), .int .i64 x.off, .int .i64 x.sz] 56)))
     clear hb SD HGD OSD GD
     generalize wD.alloc (.cells #[.int .u64 (x.key : Int), .int .u32 (x.ck : Int), .int .i64 x.off, .int .i64 x.sz] 56) = wE at *
     generalize wD.heap.size = ge at *
     refine held_one 4 rfl rfl (by kernel_rfl) fun K hK => ?_
     have hc := bxk HGE.out HU.out.2 HS.out
     go_simp
     try simp only [hc]
     refine hK _ _ SE.out ?_
     clear hK K hc
     refine held_one 10 rfl rfl (by kernel_rfl) fun K hK => ?_
     obtain ⟨v2, hs2, ow⟩ := OSE.out.own u HU.out.2
     obtain rfl : vu = v2 := Option.some.inj (HS.out.symm.trans hs2)
     clear hs2
     rw [split_get _ HU.out.2] at ow
     refine wp_app_it1 (base := w3.heap.size + 1) (v := vu) (L := fS u (S.take i)) (y := x) rfl rfl ow ITE.out HLN.out GE.out (fun v7 w7 ho hg hat => ?_)
     obtain ⟨a7, q7, hv7, -, -⟩ := owT_form ho
     generalize (fS u (S.take i) ++ [x]).length = n7 at hv7
     subst hv7
     have S7 := Lh (below_grownT SE.out hg ow (Nat.le_trans (Nat.le_succ w3.heap.size) GE.out) (Nat.le_succ w3.heap.size))
     refine hK _ _ S7.out ?_
     clear hK K
     have HG7 := Lh ((hg.block w3.heap.size GE.out (fun e => by have := owT_lt ow w3.heap.size e.symm; omega)).trans HGE.out)
     obtain ⟨d0, d1, d2, d3, d4, d5, d6, d7, he, hd⟩ := set8 c0 c1 c2 c3 c4 c5 c6 c7 (.slice a7 n7 q7) (.int .i64 (byT S)) (.int .i64 gb) u HU.out.2
     have os7 := (OSE.out.grow HU.out.2 HS.out ho hg hat hd (split_len _)).store (i := u) (.slice a7 n7 q7)
     rw [HST.out] at os7
     have OS8 := Lh os7
     have hg8 := heap_setCell_same w7 w3.heap.size u _ _ (.slice a7 n7 q7) HG7.out
     rw [he] at hg8
     have HG8 := Lh hg8
     have S8 := Lh (S7.out.setCell (p := ⟨w3.heap.size, u, none⟩) (Nat.le_refl _) (.slice a7 n7 q7))
     have hc7 := bxk HG7.out HU.out.2 HS.out
     have fz7 := frozen_of_row w7 w3.heap.size u _ _ HG7.out
     clear os7 hg8 he hd ho hg hat ow HG7 OSE HGE SE GE ITE
     refine held_one 12 rfl rfl (by kernel_rfl) fun K hK => ?_
     go_simp
     refine hK _ _ S7.out ?_
     clear hK K
     refine held_one 13 rfl rfl (by kernel_rfl) fun K hK => ?_
     go_simp
     refine hK _ _ S8.out ?_
     clear hK K hc7 fz7 S7
     generalize w7.setCell ⟨w3.heap.size, u, none⟩ (.slice a7 n7 q7) = w8 at *
     refine wpAnyH_done (by kernel_rfl) ?_ _
     unfold onlyN
     dsimp only
     go_wp2_with fail
     go_roundw
     case rel =>
      have h1 := HI.out
      exact ⟨i + 1, by omega, by rw [EW.out], d0, d1, d2, d3, d4, d5, d6, d7, HG8, OS8, S8⟩
     case measure =>
      have h1 := HI.out
      rw [EW.out]
      simp [intOf]
      omega
  have l1 : decide ((i : Int) < (n : Int)) = true := decide_eq_true (by omega)
  have l2 : decide (i < n) = true := decide_eq_true hlt
  have HI := Lh hlt
  have EW := Lh (show wrap64 ((i : Int) + 1) = ((i + 1 : Nat) : Int) by have := HN.out; unfold wrap64; omega)
  obtain ⟨b, off, cap, hv, -, -, hc⟩ := it_cells (it_below SL.out BR.out) (by have := HN.out.1; omega)
  obtain ⟨rfl, -⟩ : a = some ⟨b, off, none⟩ ∧ (n = L.length ∧ c = cap) := by simpa using hv
  have CC := hc i (by have := HN.out.1; omega)
  obtain ⟨x, hx⟩ : ∃ z, z = L.getD i z0 := ⟨_, rfl⟩
  rw [← hx] at CC
  have HX := Lh hx
  obtain ⟨k0, k1, k2, k3⟩ := CC
  have p0 : (0 : Int) ≤ (i : Int) := by omega
  have p1 : (i : Int) < (n : Int) := by omega
  have PI := Lh (rvitem_any x wl)
  unfold TV at PI
  by_cases hok : okI x
  case neg =>
   have HE := Lh (show fromL L gb = mp0 by
    unfold fromL
    rw [if_neg (fun h => hok (h.1 x (by rw [HX.out]; exact getT_mem (by have := HI.out; have := HN.out.1; omega))))])
   rw [decide_eq_false hok] at PI
   clear hv hc hx hlt hi hok
   go_wp2_with fail
   clear k0 k1 k2 k3 p0 p1 l1 l2
   refine PI.out.mono ?_
   rintro e w2 ⟨rfl, hb⟩
   have HZ2 := Lh ((hb.block _ (lt_of_some HZ1.out)).trans HZ1.out)
   have B2 := Lh (BR.out.trans (hb.mono BR.out.size))
   clear hb
   go_wp2_with ((with_reducible refine storeR w.heap.size _ #[.slice none 0 0, .slice none 0 0, .slice none 0 0, .slice none 0 0, .slice none 0 0, .slice none 0 0, .slice none 0 0, .slice none 0 0, .int .i64 0, .int .i64 0] ?_ ?_ HZ2.out rfl rfl ON8.out ?_); exact rfl; exact rfl)
   refine ro_end (fn := Tryz.f54) rfl w.heap.size rfl (setRow_heap _ _ _ _ _ _ HZ2.out) ?_
   rw [HE.out]
   exact ⟨⟨_, rfl, _, _, _, _, _, _, _, _, rfl, mp0_ms _⟩, below_setRowM B2.out (Nat.le_refl _) _⟩
  have HT1 := Lh (show ∀ y ∈ L.take (i + 1), okI y by
   rw [List.take_succ_eq_append_getElem (show i < L.length by have := HI.out; have := HN.out.1; omega)]
   intro y hy
   rcases List.mem_append.1 hy with h | h
   ·exact HT.out y h
   ·rw [List.mem_singleton.1 h]
    have h2 : x = L[i]'(by have := HI.out; have := HN.out.1; omega) := by
     rw [hx]; simp [List.getD, show i < L.length by have := HI.out; have := HN.out.1; omega]
    rw [← h2]; exact hok)
  rw [decide_eq_true hok] at PI
  clear hv hc hx hlt hi hok HT
  go_wp2_with fail
  clear k0 k1 k2 k3 p0 p1 l1 l2
  refine PI.out.mono ?_
  rintro e w2 ⟨rfl, hb⟩
  have HZ2 := Lh ((hb.block _ (lt_of_some HZ1.out)).trans HZ1.out)
  have B2 := Lh (BR.out.trans (hb.mono BR.out.size))
  clear hb PI
  go_wp2_with fail
  go_roundw
  case rel =>
   have h1 := HI.out
   exact ⟨i + 1, by omega, by rw [EW.out], HT1, HZ2, B2⟩
  case measure =>
   have h1 := HI.out
   rw [EW.out]
   simp [intOf]
   omega
end Go.Proofs.YtbmlpafbdbhaiaaGreatDoor.Gf
namespace Go.Proofs.YtbmlpafbdbhaiaaGreatDoor.Gf
open Go Go.Joins Go.ChangeShapes Go.WideShapes Go.ChangeAt Go.RowKit Go.Deep Go.Proofs.YtbmlpafbdbhaiaaGreatDoor.By Go.Proofs.YtbmlpafbdbhaiaaGreatDoor.Qt
set_option maxRecDepth 100000
set_option maxHeartbeats 204800000

theorem al2 (w : World) (o1 o2 : Obj) : ((w.alloc o1).alloc o2).heap[w.heap.size]? = some o1 ∧ ((w.alloc o1).alloc o2).heap[w.heap.size + 1]? = some o2 ∧ Below w.heap.size w ((w.alloc o1).alloc o2) := by
 have q1 := bel_al w o1
 have q2 := bel_al (w.alloc o1) o2
 have h1 := heap_alloc_new w o1
 have h2 := heap_alloc_new (w.alloc o1) o2
 have hsz : (w.alloc o1).heap.size = w.heap.size + 1 := by simp
 rw [hsz] at h2
 exact ⟨(q2.block _ (lt_of_some h1)).trans h1, h2, q1.trans (q2.mono q1.size)⟩
theorem al3 (w : World) (o1 o2 o3 : Obj) : (((w.alloc o1).alloc o2).alloc o3).heap[w.heap.size]? = some o1 ∧ (((w.alloc o1).alloc o2).alloc o3).heap[w.heap.size + 1]? = some o2 ∧ (((w.alloc o1).alloc o2).alloc o3).heap[w.heap.size + 2]? = some o3 ∧ Below w.heap.size w (((w.alloc o1).alloc o2).alloc o3) := by
 obtain ⟨h1, h2, h3⟩ := al2 w o1 o2
 have q3 := bel_al ((w.alloc o1).alloc o2) o3
 have h4 := heap_alloc_new ((w.alloc o1).alloc o2) o3
 have hsz : ((w.alloc o1).alloc o2).heap.size = w.heap.size + 2 := by simp
 rw [hsz] at h4
 exact ⟨(q3.block _ (lt_of_some h1)).trans h1, (q3.block _ (lt_of_some h2)).trans h2, h4, h3.trans (q3.mono h3.size)⟩
theorem SBx.row {w a : World} {L : List (Nat × Obj)} {g : Nat} (h : SBx w L a) (hg : w.heap.size ≤ g) (hL : ∀ p ∈ L, p.1 ≠ g) (cs : Array Value) : SBx w L (a.setRow g cs) := ⟨below_setRowM h.bel hg cs, fun p hp => (setRow_other a g p.1 cs (hL p hp)).trans (h.box p hp)⟩
theorem rwaste_any (v : Value) (m : Mp) (n : Int) (w : World) (hv : Mv w v m) (hf : Few m) (_hn : J64 n) : Calls Tryz.prog 66 #[v, .int .i64 n] w (MO w (wasteM m n)) := by
 have PV := Lh (fun W (h : Below w.heap.size w W) => rvalid11_any v m W (mv_below hv h) hf)
 obtain ⟨s0, s1, s2, s3, s4, s5, s6, s7, rfl, hms⟩ := hv
 have A2 := al2 w (.cells #[s0, s1, s2, s3, s4, s5, s6, s7, .int .i64 m.live, .int .i64 m.garb] 41) (.cells #[.slice none 0 0, .slice none 0 0, .slice none 0 0, .slice none 0 0, .slice none 0 0, .slice none 0 0, .slice none 0 0, .slice none 0 0, .int .i64 0, .int .i64 0] 41)
 have HM2 := Lh A2.1
 have HZ2 := Lh A2.2.1
 have B2 := Lh A2.2.2
 have MS2 := Lh (ms_below hms A2.2.2)
 clear hms A2
 go_enter Tryz.func66, Tryz.ntmps66
 go_upto_region 1 with fail
 generalize (w.alloc (.cells #[s0, s1, s2, s3, s4, s5, s6, s7, .int .i64 m.live, .int .i64 m.garb] 41)).alloc (.cells #[.slice none 0 0, .slice none 0 0, .slice none 0 0, .slice none 0 0, .slice none 0 0, .slice none 0 0, .slice none 0 0, .slice none 0 0, .int .i64 0, .int .i64 0] 41) = W2 at *
 have PV2 := Lh (PV.out W2 B2.out)
 clear PV
 by_cases hok : okM m
 case neg =>
  rw [okMb_f hok] at PV2
  have HE := Lh (show wasteM m n = m by unfold wasteM; rw [if_neg (fun h => hok h.1)])
  clear hok
  obtain ⟨x0, x1, x2, x3, x4, x5, x6, x7, x8, x9⟩ := bx10 HM2.out
  go_wp2_with fail
  clear x0 x1 x2 x3 x4 x5 x6 x7 x8 x9
  refine PV2.out.mono ?_
  rintro e w3 ⟨rfl, hb⟩
  have HM3 := Lh ((hb.block _ (lt_of_some HM2.out)).trans HM2.out)
  have HZ3 := Lh ((hb.block _ (lt_of_some HZ2.out)).trans HZ2.out)
  have MS3 := Lh (ms_below MS2.out hb)
  have B3 := Lh (B2.out.trans (hb.mono B2.out.size))
  clear hb B2 HM2 HZ2 MS2
  go_upto_region 3 with fail
  have ON := Lh (ms_one MS3.out m.live m.garb)
  obtain ⟨x0, x1, x2, x3, x4, x5, x6, x7, x8, x9⟩ := bx10 HM3.out
  go_wp2_with ((with_reducible refine storeR (w.heap.size + 1) _ #[s0, s1, s2, s3, s4, s5, s6, s7, .int .i64 m.live, .int .i64 m.garb] ?_ ?_ HZ3.out rfl rfl ON.out ?_); exact rfl; exact rfl)
  refine ro_end (fn := Tryz.f66) rfl (w.heap.size + 1) rfl (setRow_heap _ _ _ _ _ _ HZ3.out) ?_
  rw [HE.out]
  exact ⟨⟨_, rfl, s0, s1, s2, s3, s4, s5, s6, s7, rfl, ms_setRowR MS3.out HZ3.out⟩, below_setRowM B3.out (Nat.le_succ w.heap.size) _⟩
 rw [okMb_t hok] at PV2
 have hlo := hok.lo
 have hhi := hok.hi
 obtain ⟨q1, hq1⟩ : ∃ q : Bool, q = decide (0 ≤ n) := ⟨_, rfl⟩
 obtain ⟨q2, hq2⟩ : ∃ q : Bool, q = decide (n ≤ 1099511627776 - m.garb) := ⟨_, rfl⟩
 have l1 : decide (0 ≤ n) = q1 := hq1.symm
 have l2 : decide (n ≤ 1099511627776 - m.garb) = q2 := hq2.symm
 have ew : wrap64 (1099511627776 - m.garb) = 1099511627776 - m.garb := by unfold wrap64; omega
 have HQ := Lh (And.intro hq1 hq2)
 have HOK := Lh hok
 clear hq1 hq2 hlo hhi hok
 obtain ⟨x0, x1, x2, x3, x4, x5, x6, x7, x8, x9⟩ := bx10 HM2.out
 go_wp2_with fail
 clear x0 x1 x2 x3 x4 x5 x6 x7 x8 x9
 refine PV2.out.mono ?_
 rintro e w3 ⟨rfl, hb⟩
 have HM3 := Lh ((hb.block _ (lt_of_some HM2.out)).trans HM2.out)
 have HZ3 := Lh ((hb.block _ (lt_of_some HZ2.out)).trans HZ2.out)
 have MS3 := Lh (ms_below MS2.out hb)
 have B3 := Lh (B2.out.trans (hb.mono B2.out.size))
 clear hb B2 HM2 HZ2 MS2
 obtain ⟨x0, x1, x2, x3, x4, x5, x6, x7, x8, x9⟩ := bx10 HM3.out
 cases q1
 case false =>
  have HE := Lh (show wasteM m n = m by unfold wasteM; rw [if_neg (fun h => of_decide_eq_false HQ.out.1.symm h.2.1)])
  go_upto_region 3 with fail
  clear x0 x1 x2 x3 x4 x5 x6 x7 x8 x9
  clear l1 l2 ew
  have ON := Lh (ms_one MS3.out m.live m.garb)
  obtain ⟨x0, x1, x2, x3, x4, x5, x6, x7, x8, x9⟩ := bx10 HM3.out
  go_wp2_with ((with_reducible refine storeR (w.heap.size + 1) _ #[s0, s1, s2, s3, s4, s5, s6, s7, .int .i64 m.live, .int .i64 m.garb] ?_ ?_ HZ3.out rfl rfl ON.out ?_); exact rfl; exact rfl)
  refine ro_end (fn := Tryz.f66) rfl (w.heap.size + 1) rfl (setRow_heap _ _ _ _ _ _ HZ3.out) ?_
  rw [HE.out]
  exact ⟨⟨_, rfl, s0, s1, s2, s3, s4, s5, s6, s7, rfl, ms_setRowR MS3.out HZ3.out⟩, below_setRowM B3.out (Nat.le_succ w.heap.size) _⟩
 cases q2
 case false =>
  have HE := Lh (show wasteM m n = m by unfold wasteM G40; rw [if_neg (fun h => of_decide_eq_false HQ.out.2.symm h.2.2)])
  go_upto_region 3 with fail
  clear x0 x1 x2 x3 x4 x5 x6 x7 x8 x9
  clear l1 l2 ew
  have ON := Lh (ms_one MS3.out m.live m.garb)
  obtain ⟨x0, x1, x2, x3, x4, x5, x6, x7, x8, x9⟩ := bx10 HM3.out
  go_wp2_with ((with_reducible refine storeR (w.heap.size + 1) _ #[s0, s1, s2, s3, s4, s5, s6, s7, .int .i64 m.live, .int .i64 m.garb] ?_ ?_ HZ3.out rfl rfl ON.out ?_); exact rfl; exact rfl)
  refine ro_end (fn := Tryz.f66) rfl (w.heap.size + 1) rfl (setRow_heap _ _ _ _ _ _ HZ3.out) ?_
  rw [HE.out]
  exact ⟨⟨_, rfl, s0, s1, s2, s3, s4, s5, s6, s7, rfl, ms_setRowR MS3.out HZ3.out⟩, below_setRowM B3.out (Nat.le_succ w.heap.size) _⟩
 have h0 : 0 ≤ n := of_decide_eq_true HQ.out.1.symm
 have h1 : n ≤ 1099511627776 - m.garb := of_decide_eq_true HQ.out.2.symm
 have HE := Lh (show wasteM m n = ⟨m.st, m.live, m.garb + n⟩ by unfold wasteM G40; rw [if_pos ⟨HOK.out, h0, h1⟩])
 have ew2 : wrap64 (m.garb + n) = m.garb + n := by have := HOK.out.lo; unfold wrap64; omega
 have HJ := Lh (show J64 (m.garb + n) by have := HOK.out.lo; unfold J64; omega)
 obtain ⟨-, -, -, -, -, -, -, -, -, f9⟩ := fz10 HM3.out
 clear h0 h1
 go_upto_region 3 with fail
 clear x0 x1 x2 x3 x4 x5 x6 x7 x8 x9
 clear l1 l2 ew ew2 f9
 have hs := heap_setCell_same w3 w.heap.size 9 _ _ (.int .i64 (m.garb + n)) HM3.out
 have HM4 := Lh (show (w3.setCell ⟨w.heap.size, 9, none⟩ (.int .i64 (m.garb + n))).heap[w.heap.size]? = some (.cells #[s0, s1, s2, s3, s4, s5, s6, s7, .int .i64 m.live, .int .i64 (m.garb + n)] 41 (0, 0)) from hs)
 have HZ4 := Lh (show (w3.setCell ⟨w.heap.size, 9, none⟩ (.int .i64 (m.garb + n))).heap[w.heap.size + 1]? = some (.cells #[.slice none 0 0, .slice none 0 0, .slice none 0 0, .slice none 0 0, .slice none 0 0, .slice none 0 0, .slice none 0 0, .slice none 0 0, .int .i64 0, .int .i64 0] 41 (0, 0)) by rw [heap_setCell_other _ _ _ _ (show w.heap.size + 1 ≠ w.heap.size by omega)]; exact HZ3.out)
 have B4 := Lh (B3.out.setCell (p := ⟨w.heap.size, 9, none⟩) (Nat.le_refl _) (.int .i64 (m.garb + n)))
 have MS4 := Lh (show Ms (w3.setCell ⟨w.heap.size, 9, none⟩ (.int .i64 (m.garb + n))) [s0, s1, s2, s3, s4, s5, s6, s7] ⟨m.st, m.live, m.garb + n⟩ from ⟨MS3.out.1, MS3.out.2.1, HJ.out, fun k hk => by
  obtain ⟨a, c, h1, h2⟩ := MS3.out.2.2.2 k hk
  exact ⟨a, c, h1, it_keepM h2 HM3.out (ms_u64 MS3.out m.live m.garb) fun b hb => heap_setCell_other _ _ _ _ hb⟩⟩)
 clear hs HM3 HZ3 B3 MS3
 generalize w3.setCell ⟨w.heap.size, 9, none⟩ (.int .i64 (m.garb + n)) = w4 at *
 have ON := Lh (ms_one MS4.out m.live (m.garb + n))
 obtain ⟨x0, x1, x2, x3, x4, x5, x6, x7, x8, x9⟩ := bx10 HM4.out
 go_wp2_with ((with_reducible refine storeR (w.heap.size + 1) _ #[s0, s1, s2, s3, s4, s5, s6, s7, .int .i64 m.live, .int .i64 (m.garb + n)] ?_ ?_ HZ4.out rfl rfl ON.out ?_); exact rfl; exact rfl)
 refine ro_end (fn := Tryz.f66) rfl (w.heap.size + 1) rfl (setRow_heap _ _ _ _ _ _ HZ4.out) ?_
 rw [HE.out]
 exact ⟨⟨_, rfl, s0, s1, s2, s3, s4, s5, s6, s7, rfl, ms_setRowR MS4.out HZ4.out⟩, below_setRowM B4.out (Nat.le_succ _) _⟩
theorem rput11_any (v : Value) (m : Mp) (x : Itm) (w : World) (hv : Mv w v m) (hf : Few m) (hn : m.st.flatten.length ≤ 900) (hx : ItOk x) : Calls Tryz.prog 20 #[v, TV x] w (MO w (putM m x)) := by
 have PV := Lh (fun W (h : Below w.heap.size w W) => rvalid11_any v m W (mv_below hv h) hf)
 have PG := Lh (fun W (h : Below w.heap.size w W) => rget11_any v m x.key W (mv_below hv h) hf)
 have PJ := Lh (fun W (h : Below w.heap.size w W) => ritems11_any v m W (mv_below hv h) hf)
 have PI := Lh (fun W => rvitem_any x W)
 have HX := Lh hx
 have HN := Lh hn
 obtain ⟨s0, s1, s2, s3, s4, s5, s6, s7, rfl, hms⟩ := hv
 have A3 := al3 w (.cells #[s0, s1, s2, s3, s4, s5, s6, s7, .int .i64 m.live, .int .i64 m.garb] 41) (.cells #[.int .u64 (x.key : Int), .int .u32 (x.ck : Int), .int .i64 x.off, .int .i64 x.sz] 56) (.cells #[.slice none 0 0, .slice none 0 0, .slice none 0 0, .slice none 0 0, .slice none 0 0, .slice none 0 0, .slice none 0 0, .slice none 0 0, .int .i64 0, .int .i64 0] 41)
 have HM2 := Lh A3.1
 have HI2 := Lh A3.2.1
 have HZ2 := Lh A3.2.2.1
 have B2 := Lh A3.2.2.2
 have MS2 := Lh (ms_below hms A3.2.2.2)
 clear hms A3 hf hx hn
 unfold TV at PI ⊢
 go_enter Tryz.func20, Tryz.ntmps20
 go_upto_region 1 with fail
 generalize ((w.alloc (.cells #[s0, s1, s2, s3, s4, s5, s6, s7, .int .i64 m.live, .int .i64 m.garb] 41)).alloc (.cells #[.int .u64 (x.key : Int), .int .u32 (x.ck : Int), .int .i64 x.off, .int .i64 x.sz] 56)).alloc (.cells #[.slice none 0 0, .slice none 0 0, .slice none 0 0, .slice none 0 0, .slice none 0 0, .slice none 0 0, .slice none 0 0, .slice none 0 0, .int .i64 0, .int .i64 0] 41) = W2 at *
 have PV2 := Lh (PV.out W2 B2.out)
 clear PV
 by_cases hok : okM m
 case neg =>
  rw [okMb_f hok] at PV2
  have HE := Lh (show putM m x = m by unfold putM; rw [if_neg (fun h => hok h.1)])
  clear hok
  obtain ⟨x0, x1, x2, x3, x4, x5, x6, x7, x8, x9⟩ := bx10 HM2.out
  go_wp2_with fail
  clear x0 x1 x2 x3 x4 x5 x6 x7 x8 x9
  refine PV2.out.mono ?_
  rintro e w3 ⟨rfl, hb⟩
  have HM3 := Lh ((hb.block _ (lt_of_some HM2.out)).trans HM2.out)
  have HZ3 := Lh ((hb.block _ (lt_of_some HZ2.out)).trans HZ2.out)
  have HI3 := Lh ((hb.block _ (lt_of_some HI2.out)).trans HI2.out)
  have MS3 := Lh (ms_below MS2.out hb)
  have B3 := Lh (B2.out.trans (hb.mono B2.out.size))
  clear hb B2 HM2 HZ2 HI2 MS2
  go_upto_region 2 with fail
  have ON := Lh (ms_one MS3.out m.live m.garb)
  obtain ⟨x0, x1, x2, x3, x4, x5, x6, x7, x8, x9⟩ := bx10 HM3.out
  go_wp2_with ((with_reducible refine storeR (w.heap.size + 2) _ #[s0, s1, s2, s3, s4, s5, s6, s7, .int .i64 m.live, .int .i64 m.garb] ?_ ?_ HZ3.out rfl rfl ON.out ?_); exact rfl; exact rfl)
  refine ro_end (fn := Tryz.f20) rfl (w.heap.size + 2) rfl (setRow_heap _ _ _ _ _ _ HZ3.out) ?_
  rw [HE.out]
  exact ⟨⟨_, rfl, s0, s1, s2, s3, s4, s5, s6, s7, rfl, ms_setRowR MS3.out HZ3.out⟩, below_setRowM B3.out (Nat.le_add_right w.heap.size 2) _⟩
 rw [okMb_t hok] at PV2
 have HOK := Lh hok
 have HLEN := Lh MS2.out.1
 obtain ⟨x0, x1, x2, x3, x4, x5, x6, x7, x8, x9⟩ := bx10 HM2.out
 clear hok
 go_wp2_with fail
 clear x0 x1 x2 x3 x4 x5 x6 x7 x8 x9
 refine PV2.out.mono ?_
 rintro e w3 ⟨rfl, hb⟩
 have HM3 := Lh ((hb.block _ (lt_of_some HM2.out)).trans HM2.out)
 have HZ3 := Lh ((hb.block _ (lt_of_some HZ2.out)).trans HZ2.out)
 have HI3 := Lh ((hb.block _ (lt_of_some HI2.out)).trans HI2.out)
 have MS3 := Lh (ms_below MS2.out hb)
 have B3 := Lh (B2.out.trans (hb.mono B2.out.size))
 clear hb B2 HM2 HZ2 HI2 MS2
 clear PV2
 obtain ⟨⟨x0, x1, x2, x3⟩, -⟩ := bx4 HI3.out
 by_cases hi : okI x
 case neg =>
  have HE := Lh (show putM m x = m by unfold putM; rw [if_neg (fun h => hi h.2)])
  rw [decide_eq_false hi] at PI
  clear hi
  go_wp2_with fail
  clear x0 x1 x2 x3
  refine (PI.out w3).mono ?_
  rintro e w4 ⟨rfl, hb⟩
  have HM4 := Lh ((hb.block _ (lt_of_some HM3.out)).trans HM3.out)
  have HZ4 := Lh ((hb.block _ (lt_of_some HZ3.out)).trans HZ3.out)
  have HI4 := Lh ((hb.block _ (lt_of_some HI3.out)).trans HI3.out)
  have MS4 := Lh (ms_below MS3.out hb)
  have B4 := Lh (B3.out.trans (hb.mono B3.out.size))
  clear hb B3 HM3 HZ3 HI3 MS3
  go_upto_region 2 with fail
  have ON := Lh (ms_one MS4.out m.live m.garb)
  obtain ⟨x0, x1, x2, x3, x4, x5, x6, x7, x8, x9⟩ := bx10 HM4.out
  go_wp2_with ((with_reducible refine storeR (w.heap.size + 2) _ #[s0, s1, s2, s3, s4, s5, s6, s7, .int .i64 m.live, .int .i64 m.garb] ?_ ?_ HZ4.out rfl rfl ON.out ?_); exact rfl; exact rfl)
  refine ro_end (fn := Tryz.f20) rfl (w.heap.size + 2) rfl (setRow_heap _ _ _ _ _ _ HZ4.out) ?_
  rw [HE.out]
  exact ⟨⟨_, rfl, s0, s1, s2, s3, s4, s5, s6, s7, rfl, ms_setRowR MS4.out HZ4.out⟩, below_setRowM B4.out (Nat.le_add_right w.heap.size 2) _⟩
 rw [decide_eq_true hi] at PI
 have HII := Lh hi
 clear hi
 go_wp2_with fail
 clear x0 x1 x2 x3
 refine (PI.out w3).mono ?_
 rintro e w4 ⟨rfl, hb⟩
 have HM4 := Lh ((hb.block _ (lt_of_some HM3.out)).trans HM3.out)
 have HZ4 := Lh ((hb.block _ (lt_of_some HZ3.out)).trans HZ3.out)
 have HI4 := Lh ((hb.block _ (lt_of_some HI3.out)).trans HI3.out)
 have MS4 := Lh (ms_below MS3.out hb)
 have B4 := Lh (B3.out.trans (hb.mono B3.out.size))
 clear hb B3 HM3 HZ3 HI3 MS3
 clear PI
 have PG2 := Lh (PG.out w4 B4.out)
 rw [show itemsL m = iL m by unfold itemsL; rw [if_pos HOK.out]] at PG2
 unfold FD at PG2
 obtain ⟨y, hy⟩ : ∃ y, y = fnL (iL m) x.key := ⟨_, rfl⟩
 obtain ⟨q, hq⟩ : ∃ q, q = hasL (iL m) x.key := ⟨_, rfl⟩
 rw [← hy, ← hq] at PG2
 have HYQ := Lh (And.intro hy hq)
 unfold TV at PG2
 clear PG hy hq
 go_upto_region 4 with fail
 obtain ⟨x0, x1, x2, x3, x4, x5, x6, x7, x8, x9⟩ := bx10 HM4.out
 obtain ⟨⟨y0, y1, y2, y3⟩, -⟩ := bx4 HI4.out
 go_wp2_with fail
 clear x0 x1 x2 x3 x4 x5 x6 x7 x8 x9
 clear y0 y1 y2 y3
 refine PG2.out.mono ?_
 rintro e w5 ⟨rfl, hb⟩
 have HM5 := Lh ((hb.block _ (lt_of_some HM4.out)).trans HM4.out)
 have HZ5 := Lh ((hb.block _ (lt_of_some HZ4.out)).trans HZ4.out)
 have HI5 := Lh ((hb.block _ (lt_of_some HI4.out)).trans HI4.out)
 have MS5 := Lh (ms_below MS4.out hb)
 have B5 := Lh (B4.out.trans (hb.mono B4.out.size))
 clear hb B4 HM4 HZ4 HI4 MS4
 clear PG2
 go_upto_region 5 with fail
 have hb := bel_al w5 (.cells #[.int .u64 (y.key : Int), .int .u32 (y.ck : Int), .int .i64 y.off, .int .i64 y.sz] 56)
 have HY6 := Lh (heap_alloc_new w5 (.cells #[.int .u64 (y.key : Int), .int .u32 (y.ck : Int), .int .i64 y.off, .int .i64 y.sz] 56))
 have HM6 := Lh ((hb.block _ (lt_of_some HM5.out)).trans HM5.out)
 have HZ6 := Lh ((hb.block _ (lt_of_some HZ5.out)).trans HZ5.out)
 have HI6 := Lh ((hb.block _ (lt_of_some HI5.out)).trans HI5.out)
 have MS6 := Lh (ms_below MS5.out hb)
 have B6 := Lh (B5.out.trans (hb.mono B5.out.size))
 clear hb B5 HM5 HZ5 HI5 MS5
 generalize w5.alloc (.cells #[.int .u64 (y.key : Int), .int .u32 (y.ck : Int), .int .i64 y.off, .int .i64 y.sz] 56) = w6 at *
 generalize w5.heap.size = gy at *
 have HOB := Lh (oldT_bd (iL m) x.key)
 have HGB := Lh (And.intro HOK.out.lo HOK.out.hi)
 cases q
 case false =>
  have HO := Lh (show oldT (iL m) x.key = 0 by
   have h1 := HYQ.out.2
   unfold hasL at h1
   unfold oldT
   cases h2 : lk (iL m) x.key with
   | none => rfl
   | some z => rw [h2] at h1; cases h1)
  obtain ⟨old, hold⟩ : ∃ z : Int, z = 0 := ⟨_, rfl⟩
  rw [← hold] at HO
  have HOLD := Lh hold
  clear hold
  go_upto_region 7 with fail
  rw [← HOLD.out]
  have HOB2 := Lh (show 0 ≤ old ∧ old ≤ 4200 by rw [← HO.out]; exact HOB.out)
  have ew : wrap64 (m.garb + old) = m.garb + old := by have h1 := HGB.out; have h2 := HOB2.out; unfold wrap64; omega
  obtain ⟨x0, x1, x2, x3, x4, x5, x6, x7, x8, x9⟩ := bx10 HM6.out
  by_cases hg : 1099511627776 < m.garb + old
  case pos =>
   have l1 : decide (1099511627776 < m.garb + old) = true := decide_eq_true hg
   have HE := Lh (show putM m x = m by unfold putM G40; rw [if_pos ⟨HOK.out, HII.out⟩, if_pos (by rw [HO.out]; exact hg)])
   clear hg
   go_upto_region 8 with fail
   clear ew l1
   clear x0 x1 x2 x3 x4 x5 x6 x7 x8 x9
   have ON := Lh (ms_one MS6.out m.live m.garb)
   obtain ⟨x0, x1, x2, x3, x4, x5, x6, x7, x8, x9⟩ := bx10 HM6.out
   go_wp2_with ((with_reducible refine storeR (w.heap.size + 2) _ #[s0, s1, s2, s3, s4, s5, s6, s7, .int .i64 m.live, .int .i64 m.garb] ?_ ?_ HZ6.out rfl rfl ON.out ?_); exact rfl; exact rfl)
   refine ro_end (fn := Tryz.f20) rfl (w.heap.size + 2) rfl (setRow_heap _ _ _ _ _ _ HZ6.out) ?_
   rw [HE.out]
   exact ⟨⟨_, rfl, s0, s1, s2, s3, s4, s5, s6, s7, rfl, ms_setRowR MS6.out HZ6.out⟩, below_setRowM B6.out (Nat.le_add_right w.heap.size 2) _⟩
  have l1 : decide (1099511627776 < m.garb + old) = false := decide_eq_false hg
  have HE := Lh (show putM m x = fromL (putL (iL m) x) (m.garb + old) by unfold putM G40; rw [if_pos ⟨HOK.out, HII.out⟩, if_neg (by rw [HO.out]; exact hg), HO.out])
  have HJ := Lh (show J64 (m.garb + old) by have h1 := HGB.out; have h2 := HOB2.out; unfold J64; omega)
  have EW := Lh (show IntKind.i64.wrap (m.garb + old) = m.garb + old from (IntWalk.i64_left _).trans ew)
  clear hg
  go_upto_region 9 with fail
  clear x0 x1 x2 x3 x4 x5 x6 x7 x8 x9
  clear ew l1
  have S0 : SBx w [(w.heap.size, .cells #[s0, s1, s2, s3, s4, s5, s6, s7, .int .i64 m.live, .int .i64 m.garb] 41 (0, 0)), (w.heap.size + 1, .cells #[.int .u64 (x.key : Int), .int .u32 (x.ck : Int), .int .i64 x.off, .int .i64 x.sz] 56 (0, 0))] w6.drew := ⟨B6.out.drew, fun p hp => by
   rcases List.mem_cons.1 hp with rfl | hp
   ·exact HM6.out
   ·rw [List.mem_singleton.1 hp]; exact HI6.out⟩
  refine wp_onlyN ?_
  refine wp_region_headsS (SBx w [(w.heap.size, .cells #[s0, s1, s2, s3, s4, s5, s6, s7, .int .i64 m.live, .int .i64 m.garb] 41 (0, 0)), (w.heap.size + 1, .cells #[.int .u64 (x.key : Int), .int .u32 (x.ck : Int), .int .i64 x.off, .int .i64 x.sz] 56 (0, 0))]) [0, 2, 4, 5, 6, 7] 4 (by kernel_rfl) (fun _ _ _ _ _ h => h.elim) (by kernel_rfl) (by rfl) (by rfl) S0 ?_
  simp only [pickOps, List.filterMap_cons, List.filterMap_nil, List.getElem?_toArray, List.getElem?_cons_zero, List.getElem?_cons_succ]
  refine wpHeads_step (fun K hK => ?_)
  go_simp
  refine ⟨.agg #[s0, s1, s2, s3, s4, s5, s6, s7, .int .i64 m.live, .int .i64 m.garb], fun w' hw' => by
   obtain ⟨x0, x1, x2, x3, x4, x5, x6, x7, x8, x9⟩ := bx10 (hw'.box _ (List.mem_cons_self ..))
   go_simp, hK _ ?_⟩
  clear hK K
  refine wpHeads_step (fun K hK => ?_)
  go_simp
  refine ⟨.agg #[.int .u64 (x.key : Int), .int .u32 (x.ck : Int), .int .i64 x.off, .int .i64 x.sz], fun w' hw' => by
   obtain ⟨⟨y0, y1, y2, y3⟩, -⟩ := bx4 (hw'.box _ (List.mem_cons_of_mem _ (List.mem_cons_self ..)))
   go_simp, hK _ ?_⟩
  clear hK K
  refine wpHeads_step (fun K hK => ?_)
  go_simp
  refine ⟨_, fun _ _ => rfl, hK _ ?_⟩
  clear hK K
  refine wpHeads_step (fun K hK => ?_)
  go_simp
  refine ⟨.int .i64 m.garb, fun w' hw' => by
   obtain ⟨x0, x1, x2, x3, x4, x5, x6, x7, x8, x9⟩ := bx10 (hw'.box _ (List.mem_cons_self ..))
   go_simp, hK _ ?_⟩
  clear hK K
  refine wpHeads_step (fun K hK => ?_)
  go_simp
  refine ⟨_, fun _ _ => rfl, hK _ ?_⟩
  clear hK K
  refine wpHeads_step (fun K hK => ?_)
  go_simp
  refine ⟨.int .i64 (m.garb + old), fun w' hw' => by
   have e := EW.out
   go_simp, hK _ ?_⟩
  clear hK K
  refine wpHeads_nil ?_
  have SD := Lh S0
  have HZD := Lh (((Below.refl w6.heap.size w6).drew.block _ (lt_of_some HZ6.out)).trans HZ6.out)
  generalize w6.drew = WD at *
  have PJ2 := Lh (PJ.out WD SD.out.bel)
  rw [show itemsL m = iL m by unfold itemsL; rw [if_pos HOK.out]] at PJ2
  clear S0 HZ6 HM6 HI6 MS6 B6 PJ HY6
  refine gwq 1 fun K hK => ?_
  go_simp
  go_at_call 56
  refine PJ2.out.mono ?_
  rintro e V1 ⟨⟨vi, rfl, hit⟩, hb⟩
  refine hK _ _ (SD.out.below hb) ?_
  clear hK K
  have S1 := Lh (SD.out.below hb)
  have HZ7 := Lh ((hb.block _ (lt_of_some HZD.out)).trans HZD.out)
  have HL := Lh (show (iL m).length ≤ 900 from Nat.le_trans (length_sortL _) HN.out)
  have PR := Lh (rput_any vi (iL m) x HX.out V1 hit (Nat.le_trans HL.out (by decide)))
  obtain ⟨ai, ci, rfl, -, -⟩ := it_form hit
  generalize hni : (iL m).length = ni at *
  unfold TV at PR
  clear hit hb SD HZD PJ2
  refine gwq 3 fun K hK => ?_
  go_simp
  go_at_call 55
  refine PR.out.mono ?_
  rintro e V3 ⟨⟨vp, rfl, hot⟩, hb⟩
  refine hK _ _ (S1.out.below hb) ?_
  clear hK K
  have S3 := Lh (S1.out.below hb)
  have HZ8 := Lh ((hb.block _ (lt_of_some HZ7.out)).trans HZ7.out)
  have PF := Lh (rfrom_any vp (putL (iL m) x) (m.garb + old) V3 (owT_it hot) (by
   unfold putL
   have h1 := length_insL x (sortL (iL m))
   rw [sort_iL, hni] at h1
   rw [sort_iL]
   have := HL.out
   omega) HJ.out)
  obtain ⟨ap, cp, rfl, -, -⟩ := owT_form hot
  generalize (putL (iL m) x).length = np at *
  clear hot hb S1 HZ7 PR
  refine gwq 8 fun K hK => ?_
  go_simp
  go_at_call 54
  refine PF.out.mono ?_
  rintro e V5 ⟨⟨vf, rfl, hv5⟩, hb⟩
  refine hK _ _ (S3.out.below hb) ?_
  clear hK K
  have S5 := Lh (S3.out.below hb)
  have HZ9 := Lh ((hb.block _ (lt_of_some HZ8.out)).trans HZ8.out)
  rw [← HE.out] at hv5
  obtain ⟨R, hR⟩ : ∃ z, z = putM m x := ⟨_, rfl⟩
  rw [← hR] at hv5
  have HR := Lh hR
  obtain ⟨t0, t1, t2, t3, t4, t5, t6, t7, rfl, hms5⟩ := hv5
  have ON := Lh (ms_one hms5 R.live R.garb)
  have MS5 := Lh hms5
  have S6 := Lh (S5.out.row (Nat.le_add_right w.heap.size 2) (fun p hp => by
   rcases List.mem_cons.1 hp with rfl | hp
   ·show w.heap.size ≠ w.heap.size + 2; omega
   ·rw [List.mem_singleton.1 hp]; show w.heap.size + 1 ≠ w.heap.size + 2; omega) #[t0, t1, t2, t3, t4, t5, t6, t7, .int .i64 R.live, .int .i64 R.garb])
  clear hms5 hb S3 HZ8 PF hR
  refine gwq 9 fun K hK => ?_
  refine wp_store_row 41 _ _ rfl (w.heap.size + 2) #[t0, t1, t2, t3, t4, t5, t6, t7, .int .i64 R.live, .int .i64 R.garb] (by rfl) (by rfl) 41 _ HZ9.out infoR10 rfl ON.out ?_
  refine hK _ _ S6.out ?_
  clear hK K
  refine wpAnyH_done (by kernel_rfl) ?_ _
  unfold onlyN
  dsimp only
  go_wp2
  refine ro_end (fn := Tryz.f20) rfl (w.heap.size + 2) rfl (setRow_heap _ _ _ _ _ _ HZ9.out) ?_
  rw [← HR.out]
  exact ⟨⟨_, rfl, t0, t1, t2, t3, t4, t5, t6, t7, rfl, ms_setRowR MS5.out HZ9.out⟩, S6.out.bel⟩
 have HO := Lh (show oldT (iL m) x.key = szI6 y.sz by
  have h1 := HYQ.out.2
  have h3 := HYQ.out.1
  unfold hasL at h1
  unfold fnL at h3
  unfold oldT
  cases h2 : lk (iL m) x.key with
  | none => rw [h2] at h1; cases h1
  | some z => rw [h2] at h3; rw [h3]; rfl)
 have HYO := Lh (show J64 y.sz by
  have h1 := HYQ.out.2
  have h3 := HYQ.out.1
  unfold hasL at h1
  unfold fnL at h3
  cases h2 : lk (iL m) x.key with
  | none => rw [h2] at h1; cases h1
  | some z =>
   rw [h2] at h3
   have h4 := iL_ok HOK.out HLEN.out z (lk_some h2).1
   rw [h3]
   show J64 z.sz
   have h5 := h4.2.2.2
   unfold J64
   omega)
 go_upto_region 6 with fail
 obtain ⟨⟨y0, y1, y2, y3⟩, -⟩ := bx4 HY6.out
 go_wp2_with fail
 clear y0 y1 y2 y3
 refine (rsize6_any y.sz w6 HYO.out).mono ?_
 rintro e w6' ⟨rfl, rfl⟩
 obtain ⟨old, hold⟩ : ∃ z, z = szI6 y.sz := ⟨_, rfl⟩
 rw [← hold] at HO ⊢
 clear hold
 go_upto_region 7 with fail
 have HOB2 := Lh (show 0 ≤ old ∧ old ≤ 4200 by rw [← HO.out]; exact HOB.out)
 have ew : wrap64 (m.garb + old) = m.garb + old := by have h1 := HGB.out; have h2 := HOB2.out; unfold wrap64; omega
 obtain ⟨x0, x1, x2, x3, x4, x5, x6, x7, x8, x9⟩ := bx10 HM6.out
 by_cases hg : 1099511627776 < m.garb + old
 case pos =>
  have l1 : decide (1099511627776 < m.garb + old) = true := decide_eq_true hg
  have HE := Lh (show putM m x = m by unfold putM G40; rw [if_pos ⟨HOK.out, HII.out⟩, if_pos (by rw [HO.out]; exact hg)])
  clear hg
  go_upto_region 8 with fail
  clear ew l1
  clear x0 x1 x2 x3 x4 x5 x6 x7 x8 x9
  have ON := Lh (ms_one MS6.out m.live m.garb)
  obtain ⟨x0, x1, x2, x3, x4, x5, x6, x7, x8, x9⟩ := bx10 HM6.out
  go_wp2_with ((with_reducible refine storeR (w.heap.size + 2) _ #[s0, s1, s2, s3, s4, s5, s6, s7, .int .i64 m.live, .int .i64 m.garb] ?_ ?_ HZ6.out rfl rfl ON.out ?_); exact rfl; exact rfl)
  refine ro_end (fn := Tryz.f20) rfl (w.heap.size + 2) rfl (setRow_heap _ _ _ _ _ _ HZ6.out) ?_
  rw [HE.out]
  exact ⟨⟨_, rfl, s0, s1, s2, s3, s4, s5, s6, s7, rfl, ms_setRowR MS6.out HZ6.out⟩, below_setRowM B6.out (Nat.le_add_right w.heap.size 2) _⟩
 have l1 : decide (1099511627776 < m.garb + old) = false := decide_eq_false hg
 have HE := Lh (show putM m x = fromL (putL (iL m) x) (m.garb + old) by unfold putM G40; rw [if_pos ⟨HOK.out, HII.out⟩, if_neg (by rw [HO.out]; exact hg), HO.out])
 have HJ := Lh (show J64 (m.garb + old) by have h1 := HGB.out; have h2 := HOB2.out; unfold J64; omega)
 have EW := Lh (show IntKind.i64.wrap (m.garb + old) = m.garb + old from (IntWalk.i64_left _).trans ew)
 clear hg
 go_upto_region 9 with fail
 clear x0 x1 x2 x3 x4 x5 x6 x7 x8 x9
 clear ew l1
 have S0 : SBx w [(w.heap.size, .cells #[s0, s1, s2, s3, s4, s5, s6, s7, .int .i64 m.live, .int .i64 m.garb] 41 (0, 0)), (w.heap.size + 1, .cells #[.int .u64 (x.key : Int), .int .u32 (x.ck : Int), .int .i64 x.off, .int .i64 x.sz] 56 (0, 0))] w6.drew := ⟨B6.out.drew, fun p hp => by
  rcases List.mem_cons.1 hp with rfl | hp
  ·exact HM6.out
  ·rw [List.mem_singleton.1 hp]; exact HI6.out⟩
 refine wp_onlyN ?_
 refine wp_region_headsS (SBx w [(w.heap.size, .cells #[s0, s1, s2, s3, s4, s5, s6, s7, .int .i64 m.live, .int .i64 m.garb] 41 (0, 0)), (w.heap.size + 1, .cells #[.int .u64 (x.key : Int), .int .u32 (x.ck : Int), .int .i64 x.off, .int .i64 x.sz] 56 (0, 0))]) [0, 2, 4, 5, 6, 7] 4 (by kernel_rfl) (fun _ _ _ _ _ h => h.elim) (by kernel_rfl) (by rfl) (by rfl) S0 ?_
 simp only [pickOps, List.filterMap_cons, List.filterMap_nil, List.getElem?_toArray, List.getElem?_cons_zero, List.getElem?_cons_succ]
 refine wpHeads_step (fun K hK => ?_)
 go_simp
 refine ⟨.agg #[s0, s1, s2, s3, s4, s5, s6, s7, .int .i64 m.live, .int .i64 m.garb], fun w' hw' => by
  obtain ⟨x0, x1, x2, x3, x4, x5, x6, x7, x8, x9⟩ := bx10 (hw'.box _ (List.mem_cons_self ..))
  go_simp, hK _ ?_⟩
 clear hK K
 refine wpHeads_step (fun K hK => ?_)
 go_simp
 refine ⟨.agg #[.int .u64 (x.key : Int), .int .u32 (x.ck : Int), .int .i64 x.off, .int .i64 x.sz], fun w' hw' => by
  obtain ⟨⟨y0, y1, y2, y3⟩, -⟩ := bx4 (hw'.box _ (List.mem_cons_of_mem _ (List.mem_cons_self ..)))
  go_simp, hK _ ?_⟩
 clear hK K
 refine wpHeads_step (fun K hK => ?_)
 go_simp
 refine ⟨_, fun _ _ => rfl, hK _ ?_⟩
 clear hK K
 refine wpHeads_step (fun K hK => ?_)
 go_simp
 refine ⟨.int .i64 m.garb, fun w' hw' => by
  obtain ⟨x0, x1, x2, x3, x4, x5, x6, x7, x8, x9⟩ := bx10 (hw'.box _ (List.mem_cons_self ..))
  go_simp, hK _ ?_⟩
 clear hK K
 refine wpHeads_step (fun K hK => ?_)
 go_simp
 refine ⟨_, fun _ _ => rfl, hK _ ?_⟩
 clear hK K
 refine wpHeads_step (fun K hK => ?_)
 go_simp
 refine ⟨.int .i64 (m.garb + old), fun w' hw' => by
  have e := EW.out
  go_simp, hK _ ?_⟩
 clear hK K
 refine wpHeads_nil ?_
 have SD := Lh S0
 have HZD := Lh (((Below.refl w6.heap.size w6).drew.block _ (lt_of_some HZ6.out)).trans HZ6.out)
 generalize w6.drew = WD at *
 have PJ2 := Lh (PJ.out WD SD.out.bel)
 rw [show itemsL m = iL m by unfold itemsL; rw [if_pos HOK.out]] at PJ2
 clear S0 HZ6 HM6 HI6 MS6 B6 PJ HY6
 refine gwq 1 fun K hK => ?_
 go_simp
 go_at_call 56
 refine PJ2.out.mono ?_
 rintro e V1 ⟨⟨vi, rfl, hit⟩, hb⟩
 refine hK _ _ (SD.out.below hb) ?_
 clear hK K
 have S1 := Lh (SD.out.below hb)
 have HZ7 := Lh ((hb.block _ (lt_of_some HZD.out)).trans HZD.out)
 have HL := Lh (show (iL m).length ≤ 900 from Nat.le_trans (length_sortL _) HN.out)
 have PR := Lh (rput_any vi (iL m) x HX.out V1 hit (Nat.le_trans HL.out (by decide)))
 obtain ⟨ai, ci, rfl, -, -⟩ := it_form hit
 generalize hni : (iL m).length = ni at *
 unfold TV at PR
 clear hit hb SD HZD PJ2
 refine gwq 3 fun K hK => ?_
 go_simp
 go_at_call 55
 refine PR.out.mono ?_
 rintro e V3 ⟨⟨vp, rfl, hot⟩, hb⟩
 refine hK _ _ (S1.out.below hb) ?_
 clear hK K
 have S3 := Lh (S1.out.below hb)
 have HZ8 := Lh ((hb.block _ (lt_of_some HZ7.out)).trans HZ7.out)
 have PF := Lh (rfrom_any vp (putL (iL m) x) (m.garb + old) V3 (owT_it hot) (by
  unfold putL
  have h1 := length_insL x (sortL (iL m))
  rw [sort_iL, hni] at h1
  rw [sort_iL]
  have := HL.out
  omega) HJ.out)
 obtain ⟨ap, cp, rfl, -, -⟩ := owT_form hot
 generalize (putL (iL m) x).length = np at *
 clear hot hb S1 HZ7 PR
 refine gwq 8 fun K hK => ?_
 go_simp
 go_at_call 54
 refine PF.out.mono ?_
 rintro e V5 ⟨⟨vf, rfl, hv5⟩, hb⟩
 refine hK _ _ (S3.out.below hb) ?_
 clear hK K
 have S5 := Lh (S3.out.below hb)
 have HZ9 := Lh ((hb.block _ (lt_of_some HZ8.out)).trans HZ8.out)
 rw [← HE.out] at hv5
 obtain ⟨R, hR⟩ : ∃ z, z = putM m x := ⟨_, rfl⟩
 rw [← hR] at hv5
 have HR := Lh hR
 obtain ⟨t0, t1, t2, t3, t4, t5, t6, t7, rfl, hms5⟩ := hv5
 have ON := Lh (ms_one hms5 R.live R.garb)
 have MS5 := Lh hms5
 have S6 := Lh (S5.out.row (Nat.le_add_right w.heap.size 2) (fun p hp => by
  rcases List.mem_cons.1 hp with rfl | hp
  ·show w.heap.size ≠ w.heap.size + 2; omega
  ·rw [List.mem_singleton.1 hp]; show w.heap.size + 1 ≠ w.heap.size + 2; omega) #[t0, t1, t2, t3, t4, t5, t6, t7, .int .i64 R.live, .int .i64 R.garb])
 clear hms5 hb S3 HZ8 PF hR
 refine gwq 9 fun K hK => ?_
 refine wp_store_row 41 _ _ rfl (w.heap.size + 2) #[t0, t1, t2, t3, t4, t5, t6, t7, .int .i64 R.live, .int .i64 R.garb] (by rfl) (by rfl) 41 _ HZ9.out infoR10 rfl ON.out ?_
 refine hK _ _ S6.out ?_
 clear hK K
 refine wpAnyH_done (by kernel_rfl) ?_ _
 unfold onlyN
 dsimp only
 go_wp2
 refine ro_end (fn := Tryz.f20) rfl (w.heap.size + 2) rfl (setRow_heap _ _ _ _ _ _ HZ9.out) ?_
 rw [← HR.out]
 exact ⟨⟨_, rfl, t0, t1, t2, t3, t4, t5, t6, t7, rfl, ms_setRowR MS5.out HZ9.out⟩, S6.out.bel⟩
theorem rdelete11_any (v : Value) (m : Mp) (k : Nat) (w : World) (hv : Mv w v m) (hf : Few m) (hn : m.st.flatten.length ≤ 900) : Calls Tryz.prog 67 #[v, .int .u64 (k : Int)] w (MO w (delM m k)) := by
 have PG := Lh (fun W (h : Below w.heap.size w W) => rget11_any v m k W (mv_below hv h) hf)
 have PJ := Lh (fun W (h : Below w.heap.size w W) => ritems11_any v m W (mv_below hv h) hf)
 have HN := Lh hn
 obtain ⟨s0, s1, s2, s3, s4, s5, s6, s7, rfl, hms⟩ := hv
 have A2 := al2 w (.cells #[s0, s1, s2, s3, s4, s5, s6, s7, .int .i64 m.live, .int .i64 m.garb] 41) (.cells #[.slice none 0 0, .slice none 0 0, .slice none 0 0, .slice none 0 0, .slice none 0 0, .slice none 0 0, .slice none 0 0, .slice none 0 0, .int .i64 0, .int .i64 0] 41)
 have HM2 := Lh A2.1
 have HZ2 := Lh A2.2.1
 have B2 := Lh A2.2.2
 have MS2 := Lh (ms_below hms A2.2.2)
 clear hms A2
 clear hf hn
 go_enter Tryz.func67, Tryz.ntmps67
 go_upto_region 1 with fail
 generalize (w.alloc (.cells #[s0, s1, s2, s3, s4, s5, s6, s7, .int .i64 m.live, .int .i64 m.garb] 41)).alloc (.cells #[.slice none 0 0, .slice none 0 0, .slice none 0 0, .slice none 0 0, .slice none 0 0, .slice none 0 0, .slice none 0 0, .slice none 0 0, .int .i64 0, .int .i64 0] 41) = W2 at *
 have PG2 := Lh (PG.out W2 B2.out)
 have HLEN := Lh MS2.out.1
 unfold FD at PG2
 obtain ⟨y, hy⟩ : ∃ y, y = fnL (itemsL m) k := ⟨_, rfl⟩
 obtain ⟨q, hq⟩ : ∃ q, q = hasL (itemsL m) k := ⟨_, rfl⟩
 rw [← hy, ← hq] at PG2
 have HYQ := Lh (And.intro hy hq)
 unfold TV at PG2
 clear PG hy hq
 obtain ⟨x0, x1, x2, x3, x4, x5, x6, x7, x8, x9⟩ := bx10 HM2.out
 go_wp2_with fail
 clear x0 x1 x2 x3 x4 x5 x6 x7 x8 x9
 refine PG2.out.mono ?_
 rintro e w3 ⟨rfl, hb⟩
 have HM3 := Lh ((hb.block _ (lt_of_some HM2.out)).trans HM2.out)
 have HZ3 := Lh ((hb.block _ (lt_of_some HZ2.out)).trans HZ2.out)
 have MS3 := Lh (ms_below MS2.out hb)
 have B3 := Lh (B2.out.trans (hb.mono B2.out.size))
 clear hb B2 HM2 HZ2 MS2
 clear PG2
 go_upto_region 2 with fail
 have hb := bel_al w3 (.cells #[.int .u64 (y.key : Int), .int .u32 (y.ck : Int), .int .i64 y.off, .int .i64 y.sz] 56)
 have HY4 := Lh (heap_alloc_new w3 (.cells #[.int .u64 (y.key : Int), .int .u32 (y.ck : Int), .int .i64 y.off, .int .i64 y.sz] 56))
 have HGY := Lh (show w.heap.size + 1 < w3.heap.size from lt_of_some HZ3.out)
 have HM4 := Lh ((hb.block _ (lt_of_some HM3.out)).trans HM3.out)
 have HZ4 := Lh ((hb.block _ (lt_of_some HZ3.out)).trans HZ3.out)
 have MS4 := Lh (ms_below MS3.out hb)
 have B4 := Lh (B3.out.trans (hb.mono B3.out.size))
 clear hb B3 HM3 HZ3 MS3
 generalize w3.alloc (.cells #[.int .u64 (y.key : Int), .int .u32 (y.ck : Int), .int .i64 y.off, .int .i64 y.sz] 56) = w4 at *
 generalize w3.heap.size = gy at *
 cases q
 case false =>
  have HE := Lh (show delM m k = m by
   unfold delM
   refine if_neg fun h => ?_
   have h1 := HYQ.out.2
   unfold hasL itemsL at h1
   rw [if_pos h.1] at h1
   rw [h.2] at h1
   cases h1)
  refine wp_onlyN ?_
  refine wp_region_headsS (fun W' => Below w4.heap.size w4 W') [0, 1, 2, 3, 4, 5, 6, 7, 8, 9, 10] 0 (by kernel_rfl) (fun _ _ _ _ _ h => h.elim) (by kernel_rfl) (by rfl) (by rfl) (Below.refl w4.heap.size w4).drew ?_
  simp only [pickOps, List.filterMap_cons, List.filterMap_nil, List.getElem?_toArray, List.getElem?_cons_zero, List.getElem?_cons_succ]
  refine wpHeads_step (fun K hK => ?_)
  go_simp
  refine ⟨_, fun _ _ => rfl, hK _ ?_⟩
  clear hK K
  refine wpHeads_step (fun K hK => ?_)
  go_simp
  refine ⟨_, fun _ _ => rfl, hK _ ?_⟩
  clear hK K
  refine wpHeads_step (fun K hK => ?_)
  go_simp
  refine ⟨_, fun _ _ => rfl, hK _ ?_⟩
  clear hK K
  refine wpHeads_step (fun K hK => ?_)
  go_simp
  refine hK _ ?_
  clear hK K
  refine wpHeads_step (fun K hK => ?_)
  go_simp
  refine hK _ ?_
  clear hK K
  refine wpHeads_step (fun K hK => ?_)
  go_simp
  refine hK _ ?_
  clear hK K
  refine wpHeads_step (fun K hK => ?_)
  go_simp
  refine hK _ ?_
  clear hK K
  refine wpHeads_step (fun K hK => ?_)
  go_simp
  refine hK _ ?_
  clear hK K
  refine wpHeads_step (fun K hK => ?_)
  go_simp
  refine hK _ ?_
  clear hK K
  refine wpHeads_step (fun K hK => ?_)
  go_simp
  refine hK _ ?_
  clear hK K
  refine wpHeads_step (fun K hK => ?_)
  go_simp
  refine ⟨_, fun _ _ => rfl, hK _ ?_⟩
  clear hK K
  refine wpHeads_nil ?_
  have hb := (Below.refl w4.heap.size w4).drew
  have HM5 := Lh ((hb.block _ (lt_of_some HM4.out)).trans HM4.out)
  have HZ5 := Lh ((hb.block _ (lt_of_some HZ4.out)).trans HZ4.out)
  have MS5 := Lh (ms_below MS4.out hb)
  have B5 := Lh (B4.out.trans (hb.mono B4.out.size))
  clear hb B4 HM4 HZ4 MS4
  generalize w4.drew = w5 at *
  refine wpAnyH_done (by kernel_rfl) ?_ _
  unfold onlyN
  dsimp only
  go_upto_region 3 with fail
  have ON := Lh (ms_one MS5.out m.live m.garb)
  obtain ⟨x0, x1, x2, x3, x4, x5, x6, x7, x8, x9⟩ := bx10 HM5.out
  go_wp2_with ((with_reducible refine storeR (w.heap.size + 1) _ #[s0, s1, s2, s3, s4, s5, s6, s7, .int .i64 m.live, .int .i64 m.garb] ?_ ?_ HZ5.out rfl rfl ON.out ?_); exact rfl; exact rfl)
  refine ro_end (fn := Tryz.f67) rfl (w.heap.size + 1) rfl (setRow_heap _ _ _ _ _ _ HZ5.out) ?_
  rw [HE.out]
  exact ⟨⟨_, rfl, s0, s1, s2, s3, s4, s5, s6, s7, rfl, ms_setRowR MS5.out HZ5.out⟩, below_setRowM B5.out (Nat.le_succ w.heap.size) _⟩
 have hok : okM m := Classical.byContradiction fun h => by
  have h1 := HYQ.out.2
  unfold hasL itemsL at h1
  rw [if_neg h] at h1
  cases h1
 have HOK := Lh hok
 rw [show itemsL m = iL m by unfold itemsL; rw [if_pos hok]] at HYQ
 have HS := Lh (show (lk (iL m) k).isSome = true from HYQ.out.2.symm)
 have HO := Lh (show oldT (iL m) k = szI6 y.sz by
  have h1 := HYQ.out.2
  have h3 := HYQ.out.1
  unfold hasL at h1
  unfold fnL at h3
  unfold oldT
  cases h2 : lk (iL m) k with
  | none => rw [h2] at h1; cases h1
  | some z => rw [h2] at h3; rw [h3]; rfl)
 have HYO := Lh (show J64 y.sz by
  have h1 := HYQ.out.2
  have h3 := HYQ.out.1
  unfold hasL at h1
  unfold fnL at h3
  cases h2 : lk (iL m) k with
  | none => rw [h2] at h1; cases h1
  | some z =>
   rw [h2] at h3
   have h4 := iL_ok HOK.out HLEN.out z (lk_some h2).1
   rw [h3]
   show J64 z.sz
   have h5 := h4.2.2.2
   unfold J64
   omega)
 have HOB := Lh (oldT_bd (iL m) k)
 have HGB := Lh (And.intro HOK.out.lo HOK.out.hi)
 obtain ⟨old, hold⟩ : ∃ z, z = szI6 y.sz := ⟨_, rfl⟩
 have PS := Lh (fun W => rsize6_any y.sz W HYO.out)
 rw [← hold] at HO PS
 have HOB2 := Lh (show 0 ≤ old ∧ old ≤ 4200 by rw [← HO.out]; exact HOB.out)
 have EW := Lh (show IntKind.i64.wrap (m.garb + old) = m.garb + old from (IntWalk.i64_left _).trans (by have h1 := HGB.out; have h2 := HOB2.out; unfold wrap64; omega))
 have HJ := Lh (show J64 (m.garb + old) by have h1 := HGB.out; have h2 := HOB2.out; unfold J64; omega)
 obtain ⟨qg, hqg⟩ : ∃ z : Bool, z = decide (1099511627776 < m.garb + old) := ⟨_, rfl⟩
 have HQG := Lh hqg
 clear hok hold hqg
 refine wp_onlyN ?_
 refine wp_region_headsS (fun W' => Below w4.heap.size w4 W') [0, 1, 2, 3, 4, 5, 6] 4 (by kernel_rfl) (fun _ _ _ _ _ h => h.elim) (by kernel_rfl) (by rfl) (by rfl) (Below.refl w4.heap.size w4).drew ?_
 simp only [pickOps, List.filterMap_cons, List.filterMap_nil, List.getElem?_toArray, List.getElem?_cons_zero, List.getElem?_cons_succ]
 refine wpHeads_step (fun K hK => ?_)
 go_simp
 refine ⟨_, fun _ _ => rfl, hK _ ?_⟩
 clear hK K
 refine wpHeads_step (fun K hK => ?_)
 go_simp
 refine ⟨_, fun _ _ => rfl, hK _ ?_⟩
 clear hK K
 refine wpHeads_step (fun K hK => ?_)
 go_simp
 refine ⟨_, fun _ _ => rfl, hK _ ?_⟩
 clear hK K
 refine wpHeads_step (fun K hK => ?_)
 go_simp
 refine ⟨_, fun _ _ => rfl, hK _ ?_⟩
 clear hK K
 refine wpHeads_step (fun K hK => ?_)
 go_simp
 refine ⟨.int .i64 m.garb, fun w' hw' => by
  obtain ⟨x0, x1, x2, x3, x4, x5, x6, x7, x8, x9⟩ := bx10 ((hw'.block _ (lt_of_some HM4.out)).trans HM4.out)
  go_simp, hK _ ?_⟩
 clear hK K
 refine wpHeads_step (fun K hK => ?_)
 go_simp
 refine ⟨_, fun _ _ => rfl, hK _ ?_⟩
 clear hK K
 refine wpHeads_step (fun K hK => ?_)
 go_simp
 refine ⟨.int .i64 y.sz, fun w' hw' => by
  obtain ⟨⟨y0, y1, y2, y3⟩, -⟩ := bx4 ((hw'.block _ (lt_of_some HY4.out)).trans HY4.out)
  go_simp, hK _ ?_⟩
 clear hK K
 refine wpHeads_nil ?_
 have hb := (Below.refl w4.heap.size w4).drew
 have SD := Lh hb
 have HY5 := Lh ((hb.block _ (lt_of_some HY4.out)).trans HY4.out)
 have HM5 := Lh ((hb.block _ (lt_of_some HM4.out)).trans HM4.out)
 have HZ5 := Lh ((hb.block _ (lt_of_some HZ4.out)).trans HZ4.out)
 have MS5 := Lh (ms_below MS4.out hb)
 have B5 := Lh (B4.out.trans (hb.mono B4.out.size))
 clear hb B4 HM4 HZ4 MS4
 generalize w4.drew = w5 at *
 refine gwq 7 fun K hK => ?_
 go_simp
 go_at_call 53
 refine (PS.out w5).mono ?_
 rintro e V1 ⟨rfl, rfl⟩
 refine hK _ _ SD.out ?_
 clear hK K
 have e1 := EW.out
 refine gwq 8 fun K hK => ?_
 go_simp
 refine hK _ _ SD.out ?_
 clear hK K
 have e2 := HQG.out.symm
 refine gwq 9 fun K hK => ?_
 go_simp
 refine hK _ _ SD.out ?_
 clear hK K
 refine gwq 10 fun K hK => ?_
 go_simp
 refine hK _ _ SD.out ?_
 clear hK K
 clear e1 e2
 refine wpAnyH_done (by kernel_rfl) ?_ _
 unfold onlyN
 dsimp only
 go_upto_if 23 with fail
 cases qg
 case true =>
  have HE := Lh (show delM m k = m by unfold delM G40; rw [if_pos ⟨HOK.out, HS.out⟩, if_pos (by rw [HO.out]; exact of_decide_eq_true HQG.out.symm)])
  go_upto_region 3 with fail
  have ON := Lh (ms_one MS5.out m.live m.garb)
  obtain ⟨x0, x1, x2, x3, x4, x5, x6, x7, x8, x9⟩ := bx10 HM5.out
  go_wp2_with ((with_reducible refine storeR (w.heap.size + 1) _ #[s0, s1, s2, s3, s4, s5, s6, s7, .int .i64 m.live, .int .i64 m.garb] ?_ ?_ HZ5.out rfl rfl ON.out ?_); exact rfl; exact rfl)
  refine ro_end (fn := Tryz.f67) rfl (w.heap.size + 1) rfl (setRow_heap _ _ _ _ _ _ HZ5.out) ?_
  rw [HE.out]
  exact ⟨⟨_, rfl, s0, s1, s2, s3, s4, s5, s6, s7, rfl, ms_setRowR MS5.out HZ5.out⟩, below_setRowM B5.out (Nat.le_succ w.heap.size) _⟩
 have HE := Lh (show delM m k = fromL (dropL (iL m) k) (m.garb + old) by unfold delM G40; rw [if_pos ⟨HOK.out, HS.out⟩, if_neg (by rw [HO.out]; exact of_decide_eq_false HQG.out.symm), HO.out])
 go_upto_region 4 with fail
 have S0 : SBx w [(w.heap.size, .cells #[s0, s1, s2, s3, s4, s5, s6, s7, .int .i64 m.live, .int .i64 m.garb] 41 (0, 0)), (gy, .cells #[.int .u64 (y.key : Int), .int .u32 (y.ck : Int), .int .i64 y.off, .int .i64 y.sz] 56 (0, 0))] w5.drew := ⟨B5.out.drew, fun p hp => by
  rcases List.mem_cons.1 hp with rfl | hp
  ·exact HM5.out
  ·rw [List.mem_singleton.1 hp]; exact HY5.out⟩
 refine wp_onlyN ?_
 refine wp_region_headsS (SBx w [(w.heap.size, .cells #[s0, s1, s2, s3, s4, s5, s6, s7, .int .i64 m.live, .int .i64 m.garb] 41 (0, 0)), (gy, .cells #[.int .u64 (y.key : Int), .int .u32 (y.ck : Int), .int .i64 y.off, .int .i64 y.sz] 56 (0, 0))]) [0, 2, 4, 5, 6, 7] 6 (by kernel_rfl) (fun _ _ _ _ _ h => h.elim) (by kernel_rfl) (by rfl) (by rfl) S0 ?_
 simp only [pickOps, List.filterMap_cons, List.filterMap_nil, List.getElem?_toArray, List.getElem?_cons_zero, List.getElem?_cons_succ]
 refine wpHeads_step (fun K hK => ?_)
 go_simp
 refine ⟨.agg #[s0, s1, s2, s3, s4, s5, s6, s7, .int .i64 m.live, .int .i64 m.garb], fun w' hw' => by
  obtain ⟨x0, x1, x2, x3, x4, x5, x6, x7, x8, x9⟩ := bx10 (hw'.box _ (List.mem_cons_self ..))
  go_simp, hK _ ?_⟩
 clear hK K
 refine wpHeads_step (fun K hK => ?_)
 go_simp
 refine ⟨_, fun _ _ => rfl, hK _ ?_⟩
 clear hK K
 refine wpHeads_step (fun K hK => ?_)
 go_simp
 refine ⟨_, fun _ _ => rfl, hK _ ?_⟩
 clear hK K
 refine wpHeads_step (fun K hK => ?_)
 go_simp
 refine ⟨.int .i64 m.garb, fun w' hw' => by
  obtain ⟨x0, x1, x2, x3, x4, x5, x6, x7, x8, x9⟩ := bx10 (hw'.box _ (List.mem_cons_self ..))
  go_simp, hK _ ?_⟩
 clear hK K
 refine wpHeads_step (fun K hK => ?_)
 go_simp
 refine ⟨_, fun _ _ => rfl, hK _ ?_⟩
 clear hK K
 refine wpHeads_step (fun K hK => ?_)
 go_simp
 refine ⟨.int .i64 y.sz, fun w' hw' => by
  obtain ⟨⟨y0, y1, y2, y3⟩, -⟩ := bx4 (hw'.box _ (List.mem_cons_of_mem _ (List.mem_cons_self ..)))
  go_simp, hK _ ?_⟩
 clear hK K
 refine wpHeads_nil ?_
 have S0 := Lh S0
 have HZD := Lh (((Below.refl w5.heap.size w5).drew.block _ (lt_of_some HZ5.out)).trans HZ5.out)
 clear SD
 generalize w5.drew = WD at *
 have PJ2 := Lh (PJ.out WD S0.out.bel)
 rw [show itemsL m = iL m by unfold itemsL; rw [if_pos HOK.out]] at PJ2
 clear HZ5 HM5 HY5 MS5 B5 PJ
 refine gwq 1 fun K hK => ?_
 go_simp
 go_at_call 56
 refine PJ2.out.mono ?_
 rintro e V1 ⟨⟨vi, rfl, hit⟩, hb⟩
 refine hK _ _ (S0.out.below hb) ?_
 clear hK K
 have S1 := Lh (S0.out.below hb)
 have HZ7 := Lh ((hb.block _ (lt_of_some HZD.out)).trans HZD.out)
 have HL := Lh (show (iL m).length ≤ 900 from Nat.le_trans (length_sortL _) HN.out)
 have PR := Lh (rdrop_any vi (iL m) k V1 hit (Nat.le_trans HL.out (by decide)))
 obtain ⟨ai, ci, rfl, -, -⟩ := it_form hit
 generalize hni : (iL m).length = ni at *
 clear hit hb S0 HZD PJ2
 refine gwq 3 fun K hK => ?_
 go_simp
 go_at_call 101
 refine PR.out.mono ?_
 rintro e V3 ⟨⟨vp, rfl, hot⟩, hb⟩
 refine hK _ _ (S1.out.below hb) ?_
 clear hK K
 have S3 := Lh (S1.out.below hb)
 have HZ8 := Lh ((hb.block _ (lt_of_some HZ7.out)).trans HZ7.out)
 have PF := Lh (rfrom_any vp (dropL (iL m) k) (m.garb + old) V3 (owT_it hot) (by
  have h1 : (dropL (iL m) k).length ≤ (sortL (iL m)).length := List.length_filter_le _ _
  rw [sort_iL, hni] at h1
  have := HL.out
  omega) HJ.out)
 obtain ⟨ap, cp, rfl, -, -⟩ := owT_form hot
 generalize (dropL (iL m) k).length = np at *
 clear hot hb S1 HZ7 PR
 refine gwq 8 fun K hK => ?_
 go_simp
 go_at_call 53
 refine (PS.out V3).mono ?_
 rintro e V4 ⟨rfl, rfl⟩
 refine hK _ _ S3.out ?_
 clear hK K
 have e1 := EW.out
 refine gwq 9 fun K hK => ?_
 go_simp
 refine hK _ _ S3.out ?_
 clear hK K
 clear e1
 refine gwq 10 fun K hK => ?_
 go_simp
 go_at_call 54
 refine PF.out.mono ?_
 rintro e V5 ⟨⟨vf, rfl, hv5⟩, hb⟩
 refine hK _ _ (S3.out.below hb) ?_
 clear hK K
 have S5 := Lh (S3.out.below hb)
 have HZ9 := Lh ((hb.block _ (lt_of_some HZ8.out)).trans HZ8.out)
 rw [← HE.out] at hv5
 obtain ⟨R, hR⟩ : ∃ z, z = delM m k := ⟨_, rfl⟩
 rw [← hR] at hv5
 have HR := Lh hR
 obtain ⟨t0, t1, t2, t3, t4, t5, t6, t7, rfl, hms5⟩ := hv5
 have ON := Lh (ms_one hms5 R.live R.garb)
 have MS5 := Lh hms5
 have S6 := Lh (S5.out.row (Nat.le_succ w.heap.size) (fun p hp => by
  rcases List.mem_cons.1 hp with rfl | hp
  ·show w.heap.size ≠ w.heap.size + 1; omega
  ·rw [List.mem_singleton.1 hp]; show gy ≠ w.heap.size + 1; have := HGY.out; omega) #[t0, t1, t2, t3, t4, t5, t6, t7, .int .i64 R.live, .int .i64 R.garb])
 clear hms5 hb S3 HZ8 PF hR
 refine gwq 11 fun K hK => ?_
 refine wp_store_row 41 _ _ rfl (w.heap.size + 1) #[t0, t1, t2, t3, t4, t5, t6, t7, .int .i64 R.live, .int .i64 R.garb] (by rfl) (by rfl) 41 _ HZ9.out infoR10 rfl ON.out ?_
 refine hK _ _ S6.out ?_
 clear hK K
 refine wpAnyH_done (by kernel_rfl) ?_ _
 unfold onlyN
 dsimp only
 go_wp2
 refine ro_end (fn := Tryz.f67) rfl (w.heap.size + 1) rfl (setRow_heap _ _ _ _ _ _ HZ9.out) ?_
 rw [← HR.out]
 exact ⟨⟨_, rfl, t0, t1, t2, t3, t4, t5, t6, t7, rfl, ms_setRowR MS5.out HZ9.out⟩, S6.out.bel⟩
end Go.Proofs.YtbmlpafbdbhaiaaGreatDoor.Gf
namespace Go.Proofs.YtbmlpafbdbhaiaaGreatDoor.Gf
open Go Go.Joins Go.ChangeShapes Go.WideShapes Go.ChangeAt Go.RowKit Go.Deep Go.Proofs.YtbmlpafbdbhaiaaGreatDoor.By Go.Proofs.YtbmlpafbdbhaiaaGreatDoor.Qt

/-- A map of few items, valid or not. -/
structure Bd (m : Mp) : Prop where
 few : Few m
 flat : m.st.flatten.length ≤ 900
/-- A map that lies at a place. -/
def MAt (W : World) (b o : Nat) (m : Mp) : Prop := ∃ c0 c1 c2 c3 c4 c5 c6 c7, (W.cell? ⟨b, o, none⟩ = some c0 ∧ W.cell? ⟨b, o + 1, none⟩ = some c1 ∧ W.cell? ⟨b, o + 2, none⟩ = some c2 ∧ W.cell? ⟨b, o + 3, none⟩ = some c3 ∧ W.cell? ⟨b, o + 4, none⟩ = some c4 ∧ W.cell? ⟨b, o + 5, none⟩ = some c5 ∧ W.cell? ⟨b, o + 6, none⟩ = some c6 ∧ W.cell? ⟨b, o + 7, none⟩ = some c7 ∧ W.cell? ⟨b, o + 8, none⟩ = some (.int .i64 m.live) ∧ W.cell? ⟨b, o + 9, none⟩ = some (.int .i64 m.garb)) ∧ Ms W [c0, c1, c2, c3, c4, c5, c6, c7] m
theorem MAt.below {W W' : World} {b o : Nat} {m : Mp} (h : MAt W b o m) (hB : Below W.heap.size W W') : MAt W' b o m := by
 obtain ⟨c0, c1, c2, c3, c4, c5, c6, c7, ⟨h0, h1, h2, h3, h4, h5, h6, h7, h8, h9⟩, hm⟩ := h
 exact ⟨c0, c1, c2, c3, c4, c5, c6, c7, ⟨(hB.cell (block_lt_of_cell h0)).trans h0, (hB.cell (block_lt_of_cell h1)).trans h1, (hB.cell (block_lt_of_cell h2)).trans h2, (hB.cell (block_lt_of_cell h3)).trans h3, (hB.cell (block_lt_of_cell h4)).trans h4, (hB.cell (block_lt_of_cell h5)).trans h5, (hB.cell (block_lt_of_cell h6)).trans h6, (hB.cell (block_lt_of_cell h7)).trans h7, (hB.cell (block_lt_of_cell h8)).trans h8, (hB.cell (block_lt_of_cell h9)).trans h9⟩, ms_below hm hB⟩
/-- n small maps in a row. -/
def MArr (W : World) (b n : Nat) : Prop := ∀ j, j < n → ∃ m, MAt W b (j * 10) m ∧ Bd m
theorem MArr.below {W W' : World} {b n : Nat} (h : MArr W b n) (hB : Below W.heap.size W W') : MArr W' b n := fun j hj => by
 obtain ⟨m, h1, h2⟩ := h j hj
 exact ⟨m, h1.below hB, h2⟩
/-- Two keys in a row. -/
def KArr (W : World) (b : Nat) : Prop := ∀ j, j < 2 → ∃ k : Nat, W.cell? ⟨b, j, none⟩ = some (.int .u64 (k : Int))
theorem KArr.below {W W' : World} {b : Nat} (h : KArr W b) (hB : Below W.heap.size W W') : KArr W' b := fun j hj => by
 obtain ⟨k, hk⟩ := h j hj
 exact ⟨k, (hB.cell (block_lt_of_cell hk)).trans hk⟩
end Go.Proofs.YtbmlpafbdbhaiaaGreatDoor.Gf
