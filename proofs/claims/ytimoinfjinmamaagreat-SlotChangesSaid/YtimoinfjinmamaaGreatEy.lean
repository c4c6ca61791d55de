/- What is proved here: what the changes of a slot want of the common texts. -/
import Derived.Test.YtimoinfjinmamaaGreatL11
import Derived.Test.YtimoinfjinmamaaGreatVq
import Derived.Test.YtimoinfjinmamaaGreatGs11
import Derived.Test.YtimoinfjinmamaaGreatGs20
import Derived.Test.YtimoinfjinmamaaGreatGs21
import Derived.Test.YtimoinfjinmamaaGreatGs22
import Derived.Test.YtimoinfjinmamaaGreatVu
/- What is proved here: what layer 11 leans on, out of the older layers. -/
namespace Go.Proofs.YtimoinfjinmamaaGreat.Gf
open Go Go.ChangeAt Go.ChangeShapes Go.Deep Go.Joins Go.Proofs.YtimoinfjinmamaaGreat.By Go.Proofs.YtimoinfjinmamaaGreat.Qt Go.RowKit Go.Sort Go.WideShapes
set_option maxRecDepth 100000
set_option maxHeartbeats 204800000
theorem list_take_eq {L M : List Itm} {i : Nat} (hl : i < L.length) (hm : i < M.length) (h : L.take i = M.take i) (he : L.getD i z0 = M.getD i z0) : L.take (i + 1) = M.take (i + 1) := by
 rw [List.take_succ_eq_append_getElem hl, List.take_succ_eq_append_getElem hm, h];simp [List.getD, hl, hm] at he;rw [he]
theorem rsame8_any (v1 v2 : Value) (L1 L2 : List Itm) (w : World) (s1 : It w v1 L1) (s2 : It w v2 L2) : Calls Tryz.prog 89 #[v1, v2] w fun e w' => e = .returned (.bool (decide (L1 = L2))) ∧ Below w.heap.size w w' := by
 obtain ⟨a1, c1, rfl, -, -⟩ := jqy s1;obtain ⟨a2, c2, rfl, -, hm2⟩ := jqy s2
 by_cases hn : L1.length = L2.length
 case neg =>
  rw [decide_eq_false (fun h => hn (by rw [h]))];have hb : ((L1.length : Int) != (L2.length : Int)) = true := by rw [bne_iff_ne]; omega
  generalize L1.length = n1 at *;generalize L2.length = n2 at *;clear hn s1 s2 hm2
  go_enter Tryz.func89, Tryz.ntmps89
  go_wp2
  go_ret
  exact ⟨rfl, Below.refl _ _⟩
 obtain ⟨n, hn2⟩ : ∃ n, n = L2.length := ⟨_, rfl⟩;have hn1 : n = L1.length := by omega
 have hbn : ((n : Int) != (n : Int)) = false := by simp
 have hm : n ≤ maxLen := by
  obtain ⟨_, _, h, h1, h2⟩ := jqy s2;omega
 unfold maxLen at hm;rw [← hn2, ← hn1];have N1 := Lh hn1;have N2 := Lh hn2;have S1 := Lh s1;have S2 := Lh s2;rw [← hn1] at S1;rw [← hn2] at S2;clear hn hn1 hn2 s1 s2 hm2
 go_enter Tryz.func89, Tryz.ntmps89
 go_wp2_with fail
 go_loopw [5] (fun t wr => ∃ i : Nat, i ≤ n ∧ t = .int .i64 (i : Int) ∧ L1.take i = L2.take i ∧ Below w.heap.size w wr) (fun t _ => n - (intOf t).toNat)
 case atStart => exact ⟨0, by omega, rfl, rfl, Below.refl _ _⟩
 case round =>
  obtain ⟨i, hi, rfl, htk, hB⟩ := hrel
  by_cases hin : i < n
  ·have hl4 : decide ((i : Int) < (n : Int)) = true := decide_eq_true (by omega)
   have p0 : (0 : Int) ≤ (i : Int) := by omega
   have p1 : (i : Int) < (n : Int) := by omega
   have N1' := N1.out;have N2' := N2.out;obtain ⟨b1, o1, c1', hv1, -, -, hk1⟩ := jq8 S1.out (by omega);obtain ⟨b2, o2, c2', hv2, -, -, hk2⟩ := jq8 S2.out (by omega);obtain ⟨rfl, -, -⟩ : a1 = some ⟨b1, o1, none⟩ ∧ n = L1.length ∧ c1 = c1' := by simpa using hv1
   obtain ⟨rfl, -, -⟩ : a2 = some ⟨b2, o2, none⟩ ∧ n = L2.length ∧ c2 = c2' := by simpa using hv2
   have k1 := (hk1 i (by omega)).below hB;have k2 := (hk2 i (by omega)).below hB;have HTK := Lh (fun he => list_take_eq (by omega : i < L1.length) (by omega : i < L2.length) htk he);have HNE : Hid (¬ L1.getD i z0 = L2.getD i z0 → ¬ L1 = L2) := fun h e => h (by rw [e]);have hq := neqT (L1.getD i z0) (L2.getD i z0);generalize L1.getD i z0 = x at *;generalize L2.getD i z0 = y at *;obtain ⟨f0, f1, f2, f3⟩ := k1;obtain ⟨g0, g1, g2, g3⟩ := k2;have HB := Lh hB;clear hk1 hk2 hv1 hv2 N1' N2' htk hB;unfold TV at hq
   by_cases hxy : x = y
   ·rw [decide_eq_true hxy] at hq
    have HX := Lh (HTK.out hxy);clear HTK HNE hxy
    go_wp2
    go_quiet (fail)
    have hd := bt HB.out (jqt wr nq);clear HB f0 f1 f2 f3 g0 g1 g2 g3;generalize wr.drewN nq = W9 at *
    go_wp2
    go_roundw
    case rel => exact ⟨i + 1, by omega, by go_num, HX.out, hd⟩
    case measure => simp [intOf]; omega
   ·rw [decide_eq_false hxy] at hq
    have HX := Lh (HNE.out hxy);clear HTK HNE hxy
    go_wp2
    go_quiet (fail)
    have hd := bt HB.out (jqt wr nq);clear HB f0 f1 f2 f3 g0 g1 g2 g3;generalize wr.drewN nq = W9 at *
    go_wp2
    go_ret
    exact ⟨by rw [decide_eq_false HX.out]; rfl, hd⟩
  ·obtain rfl : i = n := by omega
   have hl4 : decide ((i : Int) < (i : Int)) = false := decide_eq_false (by omega);have HE : Hid (L1 = L2) := by
    show L1 = L2;have h1 : L1.take i = L1 := List.take_of_length_le (by have := N1.out; omega);have h2 : L2.take i = L2 := List.take_of_length_le (by have := N2.out; omega);rw [← h1, ← h2];exact htk
   have HB := Lh hB;clear htk hB
   go_wp2
   go_ret
   exact ⟨by rw [decide_eq_true HE.out]; rfl, HB.out⟩
end Go.Proofs.YtimoinfjinmamaaGreat.Gf
/- What is proved here: the laws' told and given: a map of the program and of the reference are the same value. -/
namespace Go.Proofs.YtimoinfjinmamaaGreat.Gf
open Joins ChangeShapes WideShapes ChangeAt RowKit Deep By Qt
set_option maxRecDepth 100000
set_option maxHeartbeats 204800000
def sameM (a b : Mp) : Bool := decide (a.st = b.st ∧ a.live = b.live ∧ a.garb = b.garb)
theorem sameM_self (a : Mp) : sameM a a = true := by unfold sameM; exact decide_eq_true ⟨rfl, rfl, rfl⟩
theorem rsame11_any (v1 v2 : Value) (m1 m2 : Mp) (w : World) (hv1 : Mv w v1 m1) (hv2 : Mv w v2 m2) : Calls Tryz.prog 66 #[v1, v2] w fun e w' => e = .returned (.bool (sameM m1 m2)) ∧ Below w.heap.size w w' := by
 obtain ⟨s0, s1, s2, s3, s4, s5, s6, s7, rfl, hms1⟩ := hv1;obtain ⟨t0, t1, t2, t3, t4, t5, t6, t7, rfl, hms2⟩ := hv2;have q1 := jqg w (.cells #[s0, s1, s2, s3, s4, s5, s6, s7, .int .i64 m1.live, .int .i64 m1.garb] 29);have h1 := heap_alloc_new w (.cells #[s0, s1, s2, s3, s4, s5, s6, s7, .int .i64 m1.live, .int .i64 m1.garb] 29);have hsz : (w.alloc (.cells #[s0, s1, s2, s3, s4, s5, s6, s7, .int .i64 m1.live, .int .i64 m1.garb] 29)).heap.size = w.heap.size + 1 := by simp
 have q2 := jqg (w.alloc (.cells #[s0, s1, s2, s3, s4, s5, s6, s7, .int .i64 m1.live, .int .i64 m1.garb] 29)) (.cells #[t0, t1, t2, t3, t4, t5, t6, t7, .int .i64 m2.live, .int .i64 m2.garb] 29);have h2 := heap_alloc_new (w.alloc (.cells #[s0, s1, s2, s3, s4, s5, s6, s7, .int .i64 m1.live, .int .i64 m1.garb] 29)) (.cells #[t0, t1, t2, t3, t4, t5, t6, t7, .int .i64 m2.live, .int .i64 m2.garb] 29);rw [hsz] at h2;have HB2 := Lh h2;have HA2 := Lh ((q2.block _ (jqb h1)).trans h1);have BX := Lh (q1.trans (q2.mono q1.size));have MS1 := Lh (jqf hms1 BX.out);have MS2 := Lh (jqf hms2 BX.out);obtain ⟨q, hq⟩ : ∃ q, q = sameM m1 m2 := ⟨_, rfl⟩;rw [← hq];have HQ := Lh (show q = decide (m1.st = m2.st ∧ m1.live = m2.live ∧ m1.garb = m2.garb) from hq);clear hms1 hms2 q1 q2 h1 h2 hsz hq
 go_enter Tryz.func66, Tryz.ntmps66
 go_upto_region 1 with fail
 generalize (w.alloc (.cells #[s0, s1, s2, s3, s4, s5, s6, s7, .int .i64 m1.live, .int .i64 m1.garb] 29)).alloc (.cells #[t0, t1, t2, t3, t4, t5, t6, t7, .int .i64 m2.live, .int .i64 m2.garb] 29) = W2 at *;go_wp2_with fail
 go_loopw [5] (fun t5 wr => ∃ k : Nat, k ≤ 8 ∧ t5 = .int .i64 (k : Int) ∧ Hid (∀ s, s < k → ms m1 s = ms m2 s) ∧ Hid (Below W2.heap.size W2 wr)) (fun t _ => 8 - (intOf t).toNat)
 case atStart => exact ⟨0, by omega, rfl, Lh (fun s h => by omega), Lh (Below.refl _ _)⟩
 case round =>
  obtain ⟨k, hk, rfl, HO, BR⟩ := hrel
  rename World => wl
  have HAl := Lh ((BR.out.block _ (jqb HA2.out)).trans HA2.out);have HBl := Lh ((BR.out.block _ (jqb HB2.out)).trans HB2.out)
  by_cases hlt : k < 8
  case neg =>
   have l1 : decide ((k : Int) < 8) = false := decide_eq_false (by omega);have l2 : decide (k < 8) = false := decide_eq_false hlt;have hst : m1.st = m2.st := st_ext MS1.out.1 MS2.out.1 fun s hs => HO.out s (by omega);have BL := Lh (BX.out.trans (BR.out.mono BX.out.size));obtain ⟨-, -, -, -, -, -, -, -, x8, x9⟩ := bx10 HAl.out;obtain ⟨-, -, -, -, -, -, -, -, y8, y9⟩ := bx10 HBl.out;have HST := Lh hst;clear hst hlt hk HO
   by_cases c1 : m1.live = m2.live
   case neg =>
    have l3 : (m1.live == m2.live) = false := by rw [beq_eq_false_iff_ne]; exact c1
    have l4 : decide (m1.live = m2.live) = false := decide_eq_false c1;have hqf : q = false := by rw [HQ.out]; exact decide_eq_false fun h => c1 h.2.1
    clear c1;subst hqf;go_wp2_with fail
    go_ret
    exact ⟨rfl, BL.out⟩
   have l3 : (m1.live == m2.live) = true := by rw [beq_iff_eq]; exact c1
   have l4 : decide (m1.live = m2.live) = true := decide_eq_true c1
   by_cases c2 : m1.garb = m2.garb
   case neg =>
    have l5 : (m1.garb == m2.garb) = false := by rw [beq_eq_false_iff_ne]; exact c2
    have l6 : decide (m1.garb = m2.garb) = false := decide_eq_false c2;have hqf : q = false := by rw [HQ.out]; exact decide_eq_false fun h => c2 h.2.2
    clear c1 c2;subst hqf;go_wp2_with fail
    go_ret
    exact ⟨rfl, BL.out⟩
   have l5 : (m1.garb == m2.garb) = true := by rw [beq_iff_eq]; exact c2
   have l6 : decide (m1.garb = m2.garb) = true := decide_eq_true c2;have hqt : q = true := by rw [HQ.out]; exact decide_eq_true ⟨HST.out, c1, c2⟩
   clear c1 c2;subst hqt;go_wp2_with fail
   go_ret
   exact ⟨rfl, BL.out⟩
  have l1 : decide ((k : Int) < 8) = true := decide_eq_true (by omega);have l2 : decide (k < 8) = true := decide_eq_true hlt;have HK := Lh hlt;obtain ⟨a1, c1, hsel1, hit1⟩ := MS1.out.2.2.2 k hlt;obtain ⟨a2, c2, hsel2, hit2⟩ := MS2.out.2.2.2 k hlt;have r0 := fun d os => cell_regrown (bxk HAl.out hlt hsel1) d os;have r1 := fun d os => cell_regrown (bxk HBl.out hlt hsel2) d os;have G1 := Lh (regrown_bel (w := wl) fun w' hw' => rsame8_any _ _ _ _ w' (jqr hit1 (BR.out.trans (hw'.mono BR.out.size))) (jqr hit2 (BR.out.trans (hw'.mono BR.out.size))));have p0 : (0 : Int) ≤ (k : Int) := by omega
  have p1 : (k : Int) < 8 := by omega
  have p2 := hlt;obtain ⟨L1, hL1⟩ : ∃ z, z = ms m1 k := ⟨_, rfl⟩;obtain ⟨L2, hL2⟩ : ∃ z, z = ms m2 k := ⟨_, rfl⟩;rw [← hL1] at r0 G1;rw [← hL2] at r1 G1;have HLL := Lh (And.intro hL1 hL2);clear hsel1 hit1 hsel2 hit2 hlt hk hL1 hL2
  by_cases hc : L1 = L2
  case neg =>
   have hqf : q = false := by rw [HQ.out]; exact decide_eq_false fun h => hc (by rw [HLL.out.1, HLL.out.2]; unfold ms; rw [h.1])
   rw [decide_eq_false hc] at G1;clear hc HO;subst hqf;generalize L1.length = n1 at *;generalize L2.length = n2 at *;go_upto_region 4 with fail
   clear l1 l2;refine jq7 (by kernel_rfl) (by kernel_rfl) ?_
   iterate 8 (go_big_quiet_step (fail))
   go_big_quiet_step ((go_at_call 89; exact G1.out _ _))
   repeat (go_big_quiet_step (fail))
   refine wpQuiet_nil ?_;intro w5 hb;have B5 := Lh (BR.out.trans (hb.mono BR.out.size));clear hb r0 r1 G1;go_wp2_with fail
   go_ret
   exact ⟨rfl, BX.out.trans (B5.out.mono BX.out.size)⟩
  rw [decide_eq_true hc] at G1;have HO1 := Lh (show ∀ s, s < k + 1 → ms m1 s = ms m2 s from fun s hs => by
   rcases Nat.lt_or_ge s k with h | h
   ·exact HO.out s h
   ·obtain rfl : s = k := by omega
    rw [← HLL.out.1, ← HLL.out.2, hc])
  clear hc HO;generalize L1.length = n1 at *;generalize L2.length = n2 at *;go_upto_region 4 with fail
  clear l1 l2;refine jq7 (by kernel_rfl) (by kernel_rfl) ?_
  iterate 8 (go_big_quiet_step (fail))
  go_big_quiet_step ((go_at_call 89; exact G1.out _ _))
  repeat (go_big_quiet_step (fail))
  refine wpQuiet_nil ?_;intro w5 hb;have B5 := Lh (BR.out.trans (hb.mono BR.out.size));clear hb r0 r1 G1;go_wp2_with fail
  go_roundw
  case rel =>
   have h1 := HK.out;exact ⟨k + 1, by omega, rfl, HO1, B5⟩
  case measure =>
   have h1 := HK.out;simp [intOf]; omega
end Go.Proofs.YtimoinfjinmamaaGreat.Gf
namespace Go.Proofs.YtimoinfjinmamaaGreat.Gf
open Joins ChangeShapes WideShapes ChangeAt RowKit Deep By Qt
theorem flat_lenF {m : Mp} {n : Nat} (h : FewN m n) (hl : m.st.length = 8) : ∀ s, s ≤ 8 → (m.st.take s).flatten.length ≤ n * s
 | 0, _ => by simp
 | s + 1, hs => by
  have ih := flat_lenF h hl s (by omega);have := h s (by omega);rw [List.take_succ_eq_append_getElem (by omega), List.flatten_append, List.length_append, ← ms_of (by omega), show [ms m s].flatten = ms m s by simp, Nat.mul_succ];omega
end Go.Proofs.YtimoinfjinmamaaGreat.Gf
/- What is proved here: the program's Top, CanRotate, Fits, checked, Fresh and New, for every slot of few items. -/
namespace Go.Proofs.YtimoinfjinmamaaGreat.Gf
open Joins ChangeShapes WideShapes ChangeAt RowKit Deep By Qt
set_option maxRecDepth 100000
set_option maxHeartbeats 204800000
theorem run_fieldNum (z c1 c2 c3 : Value) (b0 b1 b2 b3 b4 b5 b6 b7 b8 b9 : Value) (w : World) : (Instr.field 55 (.agg #[z, c1, c2, c3, b0, b1, b2, b3, b4, b5, b6, b7, b8, b9]) 0).run Tryz.prog w = .ok z w := by
 simp [Instr.field, run_underlying Tryz.underlying55, asAgg, part, isAgg, run_underlying Tryz.underlying3]
def TopO (s : Slt) (w : World) (e : Ending) (w' : World) : Prop := (∃ v, e = .returned (.tuple #[v, .int .i64 (if okSb s = true then 0 else 1)]) ∧ Gv w' v (if okSb s = true then jwh s else g0)) ∧ Below w.heap.size w w'
theorem topO_t {s : Slt} {w w' : World} {e : Ending} (h : okS s) (q : (∃ v, e = .returned (.tuple #[v, .int .i64 0]) ∧ Gv w' v (jwh s)) ∧ Below w.heap.size w w') : TopO s w e w' := by
 unfold TopO;rw [jwm h];exact q
theorem topO_f {s : Slt} {w w' : World} {e : Ending} (h : ¬ okS s) (q : (∃ v, e = .returned (.tuple #[v, .int .i64 1]) ∧ Gv w' v g0) ∧ Below w.heap.size w w') : TopO s w e w' := by
 unfold TopO;rw [jwf h];exact q
theorem pstop_x (id lim : Int) (ro : Bool) (a : Option Addr) (n c : Nat) (L : List Ge) (w : World) (hn : n = L.length) (hl : Gl w (.slice a n c) L) (hlen : n ≤ 10000) (hf : ∀ g ∈ L, LGe g) : Calls Tryz.prog 20 #[.agg #[.int .i64 id, .int .i64 lim, .bool ro, .slice a n c]] w (TopO ⟨id, lim, ro, L⟩ w) := by
 have q0 := al2 w (.cells #[.int .i64 id, .int .i64 lim, .bool ro, .slice a n c] 39) (.cells #[.int .i64 0, .int .i64 0, .int .i64 0, .int .i64 0, .slice none 0 0, .slice none 0 0, .slice none 0 0, .slice none 0 0, .slice none 0 0, .slice none 0 0, .slice none 0 0, .slice none 0 0, .int .i64 0, .int .i64 0] 55);have HS := Lh q0.1;have HZ := Lh q0.2.1;have B0 := Lh q0.2.2;have GL := Lh (jqj hl q0.2.2);have HN := Lh hn;have HLN := Lh hlen;have PV := Lh (fun W (h : Gl W (.slice a n c) L) => psvalid_x id lim ro a n c L W hn h hlen hf);clear hl hf q0 hn hlen
 go_enter Tryz.func20, Tryz.ntmps20
 go_upto_region 1 with fail
 generalize (w.alloc (.cells #[.int .i64 id, .int .i64 lim, .bool ro, .slice a n c] 39)).alloc (.cells #[.int .i64 0, .int .i64 0, .int .i64 0, .int .i64 0, .slice none 0 0, .slice none 0 0, .slice none 0 0, .slice none 0 0, .slice none 0 0, .slice none 0 0, .slice none 0 0, .slice none 0 0, .int .i64 0, .int .i64 0] 55) = W0 at *;obtain ⟨⟨y0, y1, y2, y3⟩, -⟩ := bx4 HS.out;go_wp2_with fail
 clear y0 y1 y2 y3;refine (PV.out W0 GL.out).mono ?_;rintro e W1 ⟨rfl, hb⟩;have HS1 := Lh ((hb.block _ (jqb HS.out)).trans HS.out);have HZ1 := Lh ((hb.block _ (jqb HZ.out)).trans HZ.out);have GL1 := Lh (jqj GL.out hb);have B1 := Lh (B0.out.trans (hb.mono B0.out.size));clear hb HS HZ GL B0 PV;rcases Classical.em (okS ⟨id, lim, ro, L⟩) with h1 | h1
 ·rw [jwm h1]
  have HK := Lh h1;clear h1;obtain ⟨⟨y0, y1, y2, y3⟩, -⟩ := bx4 HS1.out;go_wp2_with fail
  clear y0 y1 y2 y3;refine (plast_any id lim ro a n c L W1 GL1.out (by have := HK.out.n1; have := HN.out; simp only at *; omega) (by have := HLN.out; omega)).mono ?_;rintro e W2 ⟨⟨s0, s1, s2, s3, s4, s5, s6, s7, rfl, hms, hjj⟩, hb⟩;have hq : (L.getD (n - 1) g0) = jwh ⟨id, lim, ro, L⟩ := by unfold jwh; rw [HN.out]
  rw [hq] at hms hjj ⊢;clear hq;have HZ2 := Lh ((hb.block _ (jqb HZ1.out)).trans HZ1.out);have B2 := Lh (B1.out.trans (hb.mono B1.out.size));have ON := Lh (jwj hms);generalize hT : jwh ⟨id, lim, ro, L⟩ = T at *;have HT := Lh hT;clear hT;have MS := Lh (jqv (jqf hms hb) HZ2.out jwg (cs := #[.int .i64 T.num, .int .i64 T.rev, .int .i64 T.mode, .int .i64 T.size, s0, s1, s2, s3, s4, s5, s6, s7, .int .i64 T.m.live, .int .i64 T.m.garb]));have JJ := Lh hjj;clear hb hms hjj HZ1 B1 GL1 HS1;go_wp2_with ((with_reducible refine jxn (w.heap.size + 1) _ #[.int .i64 T.num, .int .i64 T.rev, .int .i64 T.mode, .int .i64 T.size, s0, s1, s2, s3, s4, s5, s6, s7, .int .i64 T.m.live, .int .i64 T.m.garb] ?_ ?_ HZ2.out rfl rfl ON.out ?_); exact rfl; exact rfl)
  refine bodyPost_ret (jqn (S := 55) rfl _ _ (w.heap.size + 1) #[.int .i64 T.num, .int .i64 T.rev, .int .i64 T.mode, .int .i64 T.size, s0, s1, s2, s3, s4, s5, s6, s7, .int .i64 T.m.live, .int .i64 T.m.garb] rfl (setRow_heap _ _ _ _ _ _ HZ2.out) Tryz.underlying55 rfl jxj) rfl ?_;exact topO_t HK.out ⟨⟨_, rfl, by rw [HT.out]; exact ⟨s0, s1, s2, s3, s4, s5, s6, s7, rfl, MS.out, JJ.out⟩⟩, jqd B2.out (Nat.le_succ _) _⟩
 ·rw [jwf h1]
  have HK := Lh h1;clear h1;go_wp2_with ((with_reducible refine jxn (w.heap.size + 1) _ #[.int .i64 0, .int .i64 0, .int .i64 0, .int .i64 0, .slice none 0 0, .slice none 0 0, .slice none 0 0, .slice none 0 0, .slice none 0 0, .slice none 0 0, .slice none 0 0, .slice none 0 0, .int .i64 0, .int .i64 0] ?_ ?_ HZ1.out rfl rfl zg_one ?_); exact rfl; exact rfl)
  refine bodyPost_ret (jqn (S := 55) rfl _ _ (w.heap.size + 1) #[.int .i64 0, .int .i64 0, .int .i64 0, .int .i64 0, .slice none 0 0, .slice none 0 0, .slice none 0 0, .slice none 0 0, .slice none 0 0, .slice none 0 0, .slice none 0 0, .slice none 0 0, .int .i64 0, .int .i64 0] rfl (setRow_heap _ _ _ _ _ _ HZ1.out) Tryz.underlying55 rfl jxj) rfl ?_;exact topO_f HK.out ⟨⟨_, rfl, g0_v _⟩, jqd B1.out (Nat.le_succ _) _⟩
theorem pcanrot_x (id lim : Int) (ro : Bool) (a : Option Addr) (n c : Nat) (L : List Ge) (w : World) (hn : n = L.length) (hl : Gl w (.slice a n c) L) (hlen : n ≤ 10000) (hf : ∀ g ∈ L, LGe g) : Calls Tryz.prog 30 #[.agg #[.int .i64 id, .int .i64 lim, .bool ro, .slice a n c]] w fun e w' => e = .returned (.bool (rotB ⟨id, lim, ro, L⟩)) ∧ Below w.heap.size w w' := by
 have hb := jqg w (.cells #[.int .i64 id, .int .i64 lim, .bool ro, .slice a n c] 39);have HS := Lh (heap_alloc_new w (.cells #[.int .i64 id, .int .i64 lim, .bool ro, .slice a n c] 39));have B0 := Lh hb;have GL := Lh (jqj hl hb);have HN := Lh hn;have HLN := Lh hlen;have PV := Lh (fun W (h : Gl W (.slice a n c) L) => psvalid_x id lim ro a n c L W hn h hlen hf);clear hl hf hb hn hlen
 go_enter Tryz.func30, Tryz.ntmps30
 go_upto_region 1 with fail
 generalize w.alloc (.cells #[.int .i64 id, .int .i64 lim, .bool ro, .slice a n c] 39) = W0 at *;obtain ⟨⟨y0, y1, y2, y3⟩, -⟩ := bx4 HS.out;rcases Classical.em (okS ⟨id, lim, ro, L⟩) with h1 | h1
 ·have PV2 := PV.out W0 GL.out
  rw [jwm h1] at PV2;have HK := Lh h1;clear h1;go_wp2_with fail
  refine PV2.mono ?_;rintro e W1 ⟨rfl, hb⟩;have HS1 := Lh ((hb.block _ (jqb HS.out)).trans HS.out);have GL1 := Lh (jqj GL.out hb);have B1 := Lh (B0.out.trans (hb.mono B0.out.size));clear hb HS GL B0 PV PV2;clear y0 y1 y2 y3;obtain ⟨⟨y0, y1, y2, y3⟩, -⟩ := bx4 HS1.out;go_wp2_with fail
  refine (plast_any id lim ro a n c L W1 GL1.out (by have := HK.out.n1; have := HN.out; simp only at *; omega) (by have := HLN.out; omega)).mono ?_;rintro e W2 ⟨⟨s0, s1, s2, s3, s4, s5, s6, s7, rfl, -, -⟩, hb⟩;have hq : (L.getD (n - 1) g0) = jwh ⟨id, lim, ro, L⟩ := by unfold jwh; rw [HN.out]
  rw [hq];clear hq;have HR := Lh (show rotB ⟨id, lim, ro, L⟩ = decide ((jwh ⟨id, lim, ro, L⟩).num < 8) by unfold rotB; rw [jwm HK.out]; rfl);have B2 := Lh (B1.out.trans (hb.mono B1.out.size));generalize jwh ⟨id, lim, ro, L⟩ = T at *;have hf := run_fieldNum (.int .i64 T.num) (.int .i64 T.rev) (.int .i64 T.mode) (.int .i64 T.size) s0 s1 s2 s3 s4 s5 s6 s7 (.int .i64 T.m.live) (.int .i64 T.m.garb) W2;clear hb;clear y0 y1 y2 y3;go_wp2_with fail
  go_ret
  exact ⟨by rw [HR.out]; rfl, B2.out⟩
 ·have PV2 := PV.out W0 GL.out
  rw [jwf h1] at PV2;have HR := Lh (show rotB ⟨id, lim, ro, L⟩ = false by unfold rotB; rw [jwf h1]; rfl);clear h1;go_wp2_with fail
  refine PV2.mono ?_;rintro e W1 ⟨rfl, hb⟩;have B1 := Lh (B0.out.trans (hb.mono B0.out.size));clear hb PV2;clear y0 y1 y2 y3;go_wp2_with fail
  go_ret
  exact ⟨by rw [HR.out]; rfl, B1.out⟩
end Go.Proofs.YtimoinfjinmamaaGreat.Gf
/- What is proved here: the laws' told: what the program has is what the reference has. -/
namespace Go.Proofs.YtimoinfjinmamaaGreat.Gf
open Joins ChangeShapes WideShapes ChangeAt RowKit Deep By Qt
set_option maxRecDepth 100000
set_option maxHeartbeats 204800000
theorem told_any (v : Value) (s : Slt) (w : World) (hv : Sv w v s) (hlen : s.gens.length ≤ 10000) : Calls Tryz.prog 13 #[v] w fun e w' => (∃ v', e = .returned v' ∧ Sv w' v' s) ∧ Below w.heap.size w w' := by
 obtain ⟨id, lim, ro, L⟩ := s;obtain ⟨gv, rfl, hg, hji, hjl⟩ := hv;simp only at hlen hji hjl hg ⊢;obtain ⟨V, a, c, hVL, rfl, hR, hGC, hSrc⟩ := gl_rows hg;obtain ⟨n, hn⟩ : ∃ n, n = L.length := ⟨_, rfl⟩;rw [← hn] at hVL hGC hSrc hlen hg ⊢;have q0 := al2 w (.cells #[.int .i64 id, .int .i64 lim, .bool ro, .slice a n c] 39) (.cells #[.int .i64 0, .int .i64 0, .bool false, .slice none 0 0] 24);have HS := Lh q0.1;have HZ := Lh q0.2.1;have B0 := Lh q0.2.2;have HN := Lh hn;have HLN := Lh hlen;have HVL := Lh hVL;have HRW0 := Lh hR;have HGC := Lh hGC;have HSC := Lh hSrc;have HJ := Lh (And.intro hji hjl);clear q0 hn hlen hVL hR hGC hSrc hji hjl hg
 go_enter Tryz.func13, Tryz.ntmps13
 go_upto_region 1 with fail
 generalize (w.alloc (.cells #[.int .i64 id, .int .i64 lim, .bool ro, .slice a n c] 39)).alloc (.cells #[.int .i64 0, .int .i64 0, .bool false, .slice none 0 0] 24) = W0 at *;obtain ⟨⟨y0, y1, y2, y3⟩, -⟩ := bx4 HS.out;have hz := heap_alloc_new W0 (.cells #[.int .i64 0, .int .i64 0, .bool false, .slice none 0 0] 24);have hbs := B0.out.size;have hlt0 := jqb HZ.out;go_upto_region 2 with ((with_reducible refine jwt W0.heap.size _ #[.int .i64 id, .int .i64 lim, .bool ro, .slice none 0 0] ?_ ?_ hz rfl rfl jw8 ?_); exact rfl; exact rfl)
 rw [World.setRow_alloc_new];clear y0 y1 y2 y3;have hb := jqg W0 (.cells #[.int .i64 id, .int .i64 lim, .bool ro, .slice none 0 0] 24);have HS1 := Lh ((hb.block _ (jqb HS.out)).trans HS.out);have HZ1 := Lh ((hb.block _ (jqb HZ.out)).trans HZ.out);have HO1 := Lh (heap_alloc_new W0 (.cells #[.int .i64 id, .int .i64 lim, .bool ro, .slice none 0 0] 24));have BW1 := Lh (B0.out.trans (hb.mono B0.out.size));have HGB0 := Lh (show w.heap.size + 1 < W0.heap.size ∧ (W0.alloc (.cells #[.int .i64 id, .int .i64 lim, .bool ro, .slice none 0 0] 24)).heap.size = W0.heap.size + 1 from ⟨hlt0, by simp⟩);clear hb hz hbs hlt0 HS HZ B0;generalize W0.alloc (.cells #[.int .i64 id, .int .i64 lim, .bool ro, .slice none 0 0] 24) = W1 at *;generalize W0.heap.size = go at *;obtain ⟨B1, hB1⟩ : ∃ B1, B1 = W1.heap.size := ⟨_, rfl⟩;have HGB := Lh (show w.heap.size + 1 < go ∧ B1 = go + 1 by have := HGB0.out; omega);have HB1 := Lh hB1;clear hB1 HGB0;obtain ⟨⟨y0, y1, y2, y3⟩, -⟩ := bx4 HS1.out;go_wp2_with fail
 clear y0 y1 y2 y3
 go_loopw [5, 16] (fun _ t16 wr => ∃ i : Nat, i ≤ n ∧ t16 = .int .i64 (i : Int) ∧ ∃ lv, wr.heap[w.heap.size + 1]? = some (.cells #[.int .i64 0, .int .i64 0, .bool false, .slice none 0 0] 24 (0, 0)) ∧ wr.heap[go]? = some (.cells #[.int .i64 id, .int .i64 lim, .bool ro, lv] 24 (0, 0)) ∧ OwV 31 14 wr B1 lv (V.take i) ∧ Below w.heap.size w wr ∧ B1 ≤ wr.heap.size) (fun _ t _ => n - (intOf t).toNat)
 case atStart => exact ⟨0, Nat.zero_le _, rfl, .slice none 0 0, HZ1.out, HO1.out, ov_nil _ _ _ _, BW1.out, by rw [HB1.out]; exact Nat.le_refl _⟩
 case round =>
  obtain ⟨i, hi, rfl, lv, hrs, hgo, hov, hB, hsz⟩ := hrel
  rename World => wl
  clear HS1 HZ1 HO1 BW1
  by_cases hlt : i < n
  case neg =>
   obtain rfl : n = i := by omega
   have d1 : decide ((n : Int) < (n : Int)) = false := decide_eq_false (by omega);rw [List.take_of_length_le (by have := HVL.out; omega)] at hov;have GLx := Lh (gl_own hov (by rw [HVL.out, HN.out]) (fun k hk => jw6 (HGC.out k (by have := HN.out; omega)) hB));obtain ⟨a9, c9, rfl, -, -⟩ := jq1 hov;have hne : ∀ b, (Value.slice a9 V.length c9).ownBlock = some b → b ≠ w.heap.size + 1 := fun b hb => by have := (jq9 hov b hb).1; have := HGB.out; omega
   have HOV := Lh hov;have HRS := Lh hrs;have HGO := Lh hgo;have HB := Lh hB;clear hov hrs hgo hB hsz hlt hi hne;obtain ⟨⟨y0, y1, y2, y3⟩, -⟩ := bx4 HGO.out;go_wp2_with ((with_reducible refine jwt (w.heap.size + 1) _ #[.int .i64 id, .int .i64 lim, .bool ro, .slice a9 V.length c9] ?_ ?_ HRS.out rfl rfl jw8 ?_); exact rfl; exact rfl)
   refine bodyPost_ret (results_cell_row rfl _ _ (w.heap.size + 1) 24 #[.int .i64 id, .int .i64 lim, .bool ro, .slice a9 V.length c9] (0, 0) _ rfl (setRow_heap _ _ _ _ _ _ HRS.out) Tryz.underlying24 rfl infoRS4) rfl ?_;refine ⟨⟨_, rfl, _, rfl, ?_, HJ.out⟩, jqd HB.out (Nat.le_succ _) _⟩;exact gl_own (jw1 HOV.out fun b hb _ => setRow_other _ _ _ _ (by have := (jq9 HOV.out b hb).1; have := HGB.out; omega)) (by rw [HVL.out, HN.out]) (fun k hk => jwz (jw6 (HGC.out k (by have := HN.out; simp only at hk; omega)) HB.out) HRS.out jwy)
  have d1 : decide ((i : Int) < (n : Int)) = true := decide_eq_true (by omega);have d2 : decide (i < n) = true := decide_eq_true hlt;obtain ⟨b, off, rfl, hsrc⟩ := HSC.out (by omega);obtain ⟨t0, t1, t2, t3, t4, t5, t6, t7, hrow, GA⟩ := row_at (by have := HVL.out; omega) (jw6 (HGC.out i hlt) hB) (jwd HRW0.out hsrc hB);generalize L.getD i g0 = u at *;have HTK := Lh (take_row (by have := HVL.out; omega) hrow);have HRW := Lh (show Rows 14 [[.int .i64 u.num, .int .i64 u.rev, .int .i64 u.mode, .int .i64 u.size, t0, t1, t2, t3, t4, t5, t6, t7, .int .i64 u.m.live, .int .i64 u.m.garb]] from fun p hp => by
   obtain rfl := List.mem_singleton.1 hp;exact gc_row ⟨t0, t1, t2, t3, t4, t5, t6, t7, rfl, GA.ms, GA.j⟩)
  have ON2 := Lh GA.one;have HMS := Lh GA.ms;have JJ := Lh GA.j;obtain ⟨x0, x1, x2, x3, x4, x5, x6, x7, x8, x9, x10, x11, x12, x13⟩ := GA.cells;have p0 : (0 : Int) ≤ (i : Int) := by omega
  have p1 : (i : Int) < (n : Int) := by omega
  have HI := Lh hlt;have hz := heap_alloc_new wl (.cells #[.int .i64 0, .int .i64 0, .int .i64 0, .int .i64 0, .slice none 0 0, .slice none 0 0, .slice none 0 0, .slice none 0 0, .slice none 0 0, .slice none 0 0, .slice none 0 0, .slice none 0 0, .int .i64 0, .int .i64 0] 55);have HB := Lh hB;clear GA hB hlt hi hsrc hrow;go_upto_region 5 with ((with_reducible refine jxn wl.heap.size _ #[.int .i64 u.num, .int .i64 u.rev, .int .i64 u.mode, .int .i64 u.size, t0, t1, t2, t3, t4, t5, t6, t7, .int .i64 u.m.live, .int .i64 u.m.garb] ?_ ?_ hz rfl rfl ON2.out ?_); exact rfl; exact rfl)
  rw [World.setRow_alloc_new];clear x0 x1 x2 x3 x4 x5 x6 x7 x8 x9 x10 x11 x12 x13;clear p0 p1 d1 d2;have hb := jqg wl (.cells #[.int .i64 u.num, .int .i64 u.rev, .int .i64 u.mode, .int .i64 u.size, t0, t1, t2, t3, t4, t5, t6, t7, .int .i64 u.m.live, .int .i64 u.m.garb] 55);have HNX := Lh (fun k (hk : lv.ownBlock = some k) => (jq9 hov k hk).2);have HGO := Lh ((hb.block _ (jqb hgo)).trans hgo);have HRS := Lh ((hb.block _ (jqb hrs)).trans hrs);have OV := Lh (jq5 hov hb);have MSx := Lh (jqf HMS.out hb);have SZ := Lh (Nat.le_trans hsz hb.size);have HBW := Lh (HB.out.trans (hb.mono HB.out.size));have HGX := Lh (heap_alloc_new wl (.cells #[.int .i64 u.num, .int .i64 u.rev, .int .i64 u.mode, .int .i64 u.size, t0, t1, t2, t3, t4, t5, t6, t7, .int .i64 u.m.live, .int .i64 u.m.garb] 55));have hgs := hsz;clear hb hz hgo hrs hov hsz HMS HB;generalize wl.alloc (.cells #[.int .i64 u.num, .int .i64 u.rev, .int .i64 u.mode, .int .i64 u.size, t0, t1, t2, t3, t4, t5, t6, t7, .int .i64 u.m.live, .int .i64 u.m.garb] 55) = wx at *;generalize wl.heap.size = gx at *;obtain ⟨x0, x1, x2, x3, x4, x5, x6, x7, x8, x9, x10, x11, x12, x13⟩ := bx14 HGX.out;obtain ⟨⟨y0, y1, y2, y3⟩, -⟩ := bx4 HGO.out;have HSZB := Lh (show B1 ≤ (wx.alloc (.cells #[.int .i64 u.num, .int .i64 u.rev, .int .i64 u.mode, .int .i64 u.size, t0, t1, t2, t3, t4, t5, t6, t7, .int .i64 u.m.live, .int .i64 u.m.garb] 31)).heap.size by have := SZ.out; simp; omega);have hb := jqg wx (.cells #[.int .i64 u.num, .int .i64 u.rev, .int .i64 u.mode, .int .i64 u.size, t0, t1, t2, t3, t4, t5, t6, t7, .int .i64 u.m.live, .int .i64 u.m.garb] 31);have HBK := Lh (heap_alloc_new wx (.cells #[.int .i64 u.num, .int .i64 u.rev, .int .i64 u.mode, .int .i64 u.size, t0, t1, t2, t3, t4, t5, t6, t7, .int .i64 u.m.live, .int .i64 u.m.garb] 31));have HGO1 := Lh ((hb.block _ (jqb HGO.out)).trans HGO.out);have HRS1 := Lh ((hb.block _ (jqb HRS.out)).trans HRS.out);have HBW1 := Lh (HBW.out.trans (hb.mono HBW.out.size));have OV1 := Lh (jq5 OV.out hb);have HSR := Lh (show SrcV 14 (wx.alloc (.cells #[.int .i64 u.num, .int .i64 u.rev, .int .i64 u.mode, .int .i64 u.size, t0, t1, t2, t3, t4, t5, t6, t7, .int .i64 u.m.live, .int .i64 u.m.garb] 31)) wx.heap.size 0 [[.int .i64 u.num, .int .i64 u.rev, .int .i64 u.mode, .int .i64 u.size, t0, t1, t2, t3, t4, t5, t6, t7, .int .i64 u.m.live, .int .i64 u.m.garb]] from fun k q hk hq => by
   obtain rfl : k = 0 := by simp at hk; omega
   rw [show (0 : Nat) + (0 * 14 + q) = q by omega, cell_of_row _ wx.heap.size q _ _ _ HBK.out, List.getElem?_toArray];rfl)
  have HLL := Lh (show (V.take i).length + [[.int .i64 u.num, .int .i64 u.rev, .int .i64 u.mode, .int .i64 u.size, t0, t1, t2, t3, t4, t5, t6, t7, .int .i64 u.m.live, .int .i64 u.m.garb]].length ≤ 100000000 by simp; have := HLN.out; have := HI.out; have := HVL.out; omega);clear hb HBK MSx;go_upto_region 6 with (at_builtin; refine app_v lsRG (dst := some 42) (c := 1) (n := 1) (M := [[.int .i64 u.num, .int .i64 u.rev, .int .i64 u.mode, .int .i64 u.size, t0, t1, t2, t3, t4, t5, t6, t7, .int .i64 u.m.live, .int .i64 u.m.garb]]) ?_ ?_ rfl OV1.out HRW.out HSR.out HLL.out HSZB.out ?_; exact rfl; exact rfl; intro v9 X3 ho hg hat; obtain ⟨a9, c9, hv9, -, -⟩ := jq1 ho; obtain ⟨n9, hn9⟩ : ∃ n9, n9 = (V.take i ++ [[.int .i64 u.num, .int .i64 u.rev, .int .i64 u.mode, .int .i64 u.size, t0, t1, t2, t3, t4, t5, t6, t7, .int .i64 u.m.live, .int .i64 u.m.garb]]).length := ⟨_, rfl⟩; rw [← hn9] at hv9; subst hv9; clear hn9; have HGO3 := Lh ((hg.block _ (jqb HGO1.out) (fun e => by have := (jq9 OV1.out go e.symm).1; have := HGB.out; omega)).trans HGO1.out); have HRS3 := Lh ((hg.block _ (jqb HRS1.out) (fun e => by have := (jq9 OV1.out _ e.symm).1; have := HGB.out; omega)).trans HRS1.out); have HBW3 := Lh (HBW1.out.grown hg HBW1.out.size (fun k hk => by have := (jq9 OV1.out k hk).1; have := HGB.out; omega)); have OV3 := Lh ho; clear ho hg hat OV1 HBW1 HRS1 HGO1 HSR HSZB HRW; clear y0 y1 y2 y3; obtain ⟨⟨y0, y1, y2, y3⟩, f0, f1, f2, f3⟩ := bx4 HGO3.out)
  clear y0 y1 y2 y3 f0 f1 f2 f3 x0 x1 x2 x3 x4 x5 x6 x7 x8 x9 x10 x11 x12 x13;rw [setCell_eq_setRow _ _ _ _ _ _ _ HGO3.out];have hs : (#[.int .i64 id, .int .i64 lim, .bool ro, lv] : Array Value).setIfInBounds 3 (.slice a9 n9 c9) = #[.int .i64 id, .int .i64 lim, .bool ro, .slice a9 n9 c9] := rfl;rw [hs];have HGO4 := Lh (setRow_heap X3 go _ #[.int .i64 id, .int .i64 lim, .bool ro, .slice a9 n9 c9] _ _ HGO3.out);have HRS4 := Lh ((setRow_other X3 go (w.heap.size + 1) #[.int .i64 id, .int .i64 lim, .bool ro, .slice a9 n9 c9] (by have := HGB.out; omega)).trans HRS3.out);have HBW4 := Lh (jqd HBW3.out (show w.heap.size ≤ go by have := HGB.out; omega) #[.int .i64 id, .int .i64 lim, .bool ro, .slice a9 n9 c9]);have OV4 := Lh (jw1 OV3.out fun b hb _ => setRow_other X3 go b #[.int .i64 id, .int .i64 lim, .bool ro, .slice a9 n9 c9] (by have := (jq9 OV3.out b hb).1; have := HGB.out; omega));clear hs HGO3 HRS3 HBW3 OV3;generalize X3.setRow go #[.int .i64 id, .int .i64 lim, .bool ro, .slice a9 n9 c9] = X4 at *;have hw := w64s8 i (by have := HLN.out; have := HI.out; omega);go_wp2_with fail
  go_roundw
  case rel => exact ⟨i + 1, HI.out, by go_num, .slice a9 n9 c9, HRS4.out, HGO4.out, by rw [HTK.out]; exact OV4.out, HBW4.out, by have := jqb HGO4.out; have := HGB.out; omega⟩
  case measure => exact meas8 n i HI.out (by have := HLN.out; omega)
end Go.Proofs.YtimoinfjinmamaaGreat.Gf
/- What is proved here: the references' Same: equal generations and equal slots are the same. -/
namespace Go.Proofs.YtimoinfjinmamaaGreat.Gf
open Joins ChangeShapes WideShapes ChangeAt RowKit Deep By Qt
set_option maxRecDepth 100000
set_option maxHeartbeats 204800000
theorem rgsame_eq (v1 v2 : Value) (g : Ge) (w : World) (h1 : Gv w v1 g) (h2 : Gv w v2 g) : Calls Tryz.prog 38 #[v1, v2] w fun e w' => e = .returned (.bool true) ∧ Below w.heap.size w w' := by
 obtain ⟨s0, s1, s2, s3, s4, s5, s6, s7, rfl, hm1, -⟩ := h1;obtain ⟨t0, t1, t2, t3, t4, t5, t6, t7, rfl, hm2, -⟩ := h2;have q0 := al2 w (.cells #[.int .i64 g.num, .int .i64 g.rev, .int .i64 g.mode, .int .i64 g.size, s0, s1, s2, s3, s4, s5, s6, s7, .int .i64 g.m.live, .int .i64 g.m.garb] 31) (.cells #[.int .i64 g.num, .int .i64 g.rev, .int .i64 g.mode, .int .i64 g.size, t0, t1, t2, t3, t4, t5, t6, t7, .int .i64 g.m.live, .int .i64 g.m.garb] 31);have HS := Lh q0.1;have HT := Lh q0.2.1;have B0 := Lh q0.2.2;have M1 := Lh (jqf hm1 q0.2.2);have M2 := Lh (jqf hm2 q0.2.2);clear q0 hm1 hm2
 go_enter Tryz.func38, Tryz.ntmps38
 go_upto_region 1 with fail
 generalize (w.alloc (.cells #[.int .i64 g.num, .int .i64 g.rev, .int .i64 g.mode, .int .i64 g.size, s0, s1, s2, s3, s4, s5, s6, s7, .int .i64 g.m.live, .int .i64 g.m.garb] 31)).alloc (.cells #[.int .i64 g.num, .int .i64 g.rev, .int .i64 g.mode, .int .i64 g.size, t0, t1, t2, t3, t4, t5, t6, t7, .int .i64 g.m.live, .int .i64 g.m.garb] 31) = W0 at *;obtain ⟨x0, x1, x2, x3, x4, x5, x6, x7, x8, x9, x10, x11, x12, x13⟩ := bx14 HS.out;obtain ⟨z0, z1, z2, z3, z4, z5, z6, z7, z8, z9, z10, z11, z12, z13⟩ := bx14 HT.out;go_wp2_with fail
 clear x0 x1 x2 x3 x4 x5 x6 x7 x8 x9 x10 x11 x12 x13;clear z0 z1 z2 z3 z4 z5 z6 z7 z8 z9 z10 z11 z12 z13;refine (rsame11_any _ _ g.m g.m W0 ⟨s0, s1, s2, s3, s4, s5, s6, s7, rfl, M1.out⟩ ⟨t0, t1, t2, t3, t4, t5, t6, t7, rfl, M2.out⟩).mono ?_;rintro e V1 ⟨rfl, hb⟩;rw [sameM_self];have BB := Lh (B0.out.trans (hb.mono B0.out.size));clear hb;go_wp2_with fail
 go_ret
 exact ⟨rfl, BB.out⟩
theorem rssame_eq (v1 v2 : Value) (s : Slt) (w : World) (h1 : Sv w v1 s) (h2 : Sv w v2 s) (hlen : s.gens.length ≤ 10000) : Calls Tryz.prog 12 #[v1, v2] w fun e w' => e = .returned (.bool true) ∧ Below w.heap.size w w' := by
 obtain ⟨id, lim, ro, L⟩ := s;obtain ⟨gv1, rfl, hg1, -⟩ := h1;obtain ⟨gv2, rfl, hg2, -⟩ := h2;simp only at hg1 hg2 hlen ⊢;obtain ⟨a, c, rfl, -⟩ := jw2 hg1;obtain ⟨a2, c2, rfl, -⟩ := jw2 hg2;generalize L.length = n at *;have q0 := al2 w (.cells #[.int .i64 id, .int .i64 lim, .bool ro, .slice a n c] 24) (.cells #[.int .i64 id, .int .i64 lim, .bool ro, .slice a2 n c2] 24);have HS := Lh q0.1;have HT := Lh q0.2.1;have B0 := Lh q0.2.2;have HLN := Lh hlen;have GL1 := Lh (jqj hg1 q0.2.2);have GL2 := Lh (jqj hg2 q0.2.2);clear q0 hg1 hg2 hlen
 go_enter Tryz.func12, Tryz.ntmps12
 go_upto_region 1 with fail
 generalize (w.alloc (.cells #[.int .i64 id, .int .i64 lim, .bool ro, .slice a n c] 24)).alloc (.cells #[.int .i64 id, .int .i64 lim, .bool ro, .slice a2 n c2] 24) = W0 at *;obtain ⟨⟨y0, y1, y2, y3⟩, -⟩ := bx4 HS.out;obtain ⟨⟨z0, z1, z2, z3⟩, -⟩ := bx4 HT.out;go_wp2_with fail
 clear y0 y1 y2 y3 z0 z1 z2 z3
 go_loopw [5] (fun t wr => ∃ i : Nat, i ≤ n ∧ t = .int .i64 (i : Int) ∧ Below W0.heap.size W0 wr) (fun t _ => n - (intOf t).toNat)
 case atStart => exact ⟨0, Nat.zero_le _, rfl, Below.refl _ _⟩
 case round =>
  obtain ⟨i, hi, rfl, hB⟩ := hrel
  rename World => wr
  have BB := Lh hB;clear hB;obtain ⟨⟨y0, y1, y2, y3⟩, -⟩ := bx4 ((BB.out.block _ (jqb HS.out)).trans HS.out)
  by_cases hlt : i < n
  case neg =>
   obtain rfl : n = i := by omega
   have d1 : decide ((n : Int) < (n : Int)) = false := decide_eq_false (by omega);have B9 := Lh (B0.out.trans (BB.out.mono B0.out.size));clear hi hlt;go_wp2_with fail
   go_ret
   exact ⟨rfl, B9.out⟩
  have d1 : decide ((i : Int) < (n : Int)) = true := decide_eq_true (by omega);have d2 : decide (i < n) = true := decide_eq_true hlt;have HI := Lh hlt;obtain ⟨b1, o1, hab, s0, s1, s2, s3, s4, s5, s6, s7, g1⟩ := gl_at GL1.out hlt;obtain rfl := hab;obtain ⟨b2, o2, hab, t0, t1, t2, t3, t4, t5, t6, t7, g2⟩ := gl_at GL2.out hlt;obtain rfl := hab;generalize L.getD i g0 = u at *;have GA1 := Lh g1;have GA2 := Lh g2;have p0 : (0 : Int) ≤ (i : Int) := by omega
  have p1 : (i : Int) < (n : Int) := by omega
  clear g1 g2 hlt hi;go_upto_region 6 with fail
  clear d1 d2 y0 y1 y2 y3;refine jq0 ?_;refine jqh (fun W' => Below W0.heap.size W0 W') [0, 1, 2, 3, 4, 5, 6, 7, 8, 9] 2 (by kernel_rfl) (fun _ _ _ _ _ h => h.elim) (by kernel_rfl) (by rfl) (by rfl) BB.out.drew ?_;simp only [jq2, List.filterMap_cons, List.filterMap_nil, List.getElem?_toArray, List.getElem?_cons_zero, List.getElem?_cons_succ];refine jqc (fun K hK => ?_);go_simp;refine ⟨_, fun _ _ => rfl, hK _ ?_⟩;clear hK K;refine jqc (fun K hK => ?_);go_simp;refine ⟨.slice (some ⟨b1, o1, none⟩) n c, fun w' hw' => by
   obtain ⟨⟨y0, y1, y2, y3⟩, -⟩ := bx4 ((hw'.block _ (jqb HS.out)).trans HS.out);go_simp, hK _ ?_⟩
  clear hK K;refine jqc (fun K hK => ?_);go_simp;refine ⟨_, fun _ _ => rfl, hK _ ?_⟩;clear hK K;refine jqc (fun K hK => ?_);go_simp;refine ⟨.pointer (some ⟨b1, o1 + i * 14, none⟩), fun w' hw' => by
   skip
   go_simp, hK _ ?_⟩
  clear hK K;refine jqc (fun K hK => ?_);go_simp;refine ⟨.agg #[.int .i64 u.num, .int .i64 u.rev, .int .i64 u.mode, .int .i64 u.size, s0, s1, s2, s3, s4, s5, s6, s7, .int .i64 u.m.live, .int .i64 u.m.garb], fun w' hw' => by
   obtain ⟨x0, x1, x2, x3, x4, x5, x6, x7, x8, x9, x10, x11, x12, x13⟩ := (gat_below GA1.out hw').cells;go_simp, hK _ ?_⟩
  clear hK K;refine jqc (fun K hK => ?_);go_simp;refine ⟨_, fun _ _ => rfl, hK _ ?_⟩;clear hK K;refine jqc (fun K hK => ?_);go_simp;refine ⟨.slice (some ⟨b2, o2, none⟩) n c2, fun w' hw' => by
   obtain ⟨⟨y0, y1, y2, y3⟩, -⟩ := bx4 ((hw'.block _ (jqb HT.out)).trans HT.out);go_simp, hK _ ?_⟩
  clear hK K;refine jqc (fun K hK => ?_);go_simp;refine ⟨_, fun _ _ => rfl, hK _ ?_⟩;clear hK K;refine jqc (fun K hK => ?_);go_simp;refine ⟨.pointer (some ⟨b2, o2 + i * 14, none⟩), fun w' hw' => by
   skip
   go_simp, hK _ ?_⟩
  clear hK K;refine jqc (fun K hK => ?_);go_simp;refine ⟨.agg #[.int .i64 u.num, .int .i64 u.rev, .int .i64 u.mode, .int .i64 u.size, t0, t1, t2, t3, t4, t5, t6, t7, .int .i64 u.m.live, .int .i64 u.m.garb], fun w' hw' => by
   obtain ⟨x0, x1, x2, x3, x4, x5, x6, x7, x8, x9, x10, x11, x12, x13⟩ := (gat_below GA2.out hw').cells;go_simp, hK _ ?_⟩
  clear hK K;refine jqp ?_;have SD := Lh (BB.out.drew);generalize wr.drew = WD at *;have PV := rgsame_eq (.agg #[.int .i64 u.num, .int .i64 u.rev, .int .i64 u.mode, .int .i64 u.size, s0, s1, s2, s3, s4, s5, s6, s7, .int .i64 u.m.live, .int .i64 u.m.garb]) (.agg #[.int .i64 u.num, .int .i64 u.rev, .int .i64 u.mode, .int .i64 u.size, t0, t1, t2, t3, t4, t5, t6, t7, .int .i64 u.m.live, .int .i64 u.m.garb]) u WD ⟨s0, s1, s2, s3, s4, s5, s6, s7, rfl, jqf GA1.out.ms SD.out, GA1.out.j⟩ ⟨t0, t1, t2, t3, t4, t5, t6, t7, rfl, jqf GA2.out.ms SD.out, GA2.out.j⟩;refine gwq 10 fun K hK => ?_;go_simp
  go_at_call 38
  refine PV.mono ?_;rintro e V1 ⟨rfl, hb⟩;refine hK _ _ (SD.out.trans (hb.mono SD.out.size)) ?_;clear hK K;have S1 := Lh (SD.out.trans (hb.mono SD.out.size));clear hb SD PV;refine gwq 11 fun K hK => ?_;go_simp;refine hK _ _ S1.out ?_;clear hK K;refine wpAnyH_done (by kernel_rfl) ?_ _;unfold jqw;dsimp only;have hw := w64s8 i (by have := HLN.out; have := HI.out; omega);go_wp2_with fail
  go_roundw
  case rel => exact ⟨i + 1, HI.out, by go_num, S1.out⟩
  case measure => exact meas8 n i HI.out (by have := HLN.out; omega)
end Go.Proofs.YtimoinfjinmamaaGreat.Gf
/- What is proved here: the laws' light and small, as far as they are wanted: a light slot has few items; small answers a short list of needles. -/
namespace Go.Proofs.YtimoinfjinmamaaGreat.Gf
open Joins ChangeShapes WideShapes ChangeAt RowKit Deep By Qt
set_option maxRecDepth 100000
set_option maxHeartbeats 204800000
theorem bxk14 {w : World} {g : Nat} {c0 c1 c2 c3 s0 s1 s2 s3 s4 s5 s6 s7 s8 s9 : Value} {T : TypeId} {fr : Nat × Nat} (h : w.heap[g]? = some (.cells #[c0, c1, c2, c3, s0, s1, s2, s3, s4, s5, s6, s7, s8, s9] T fr)) {k : Nat} (hk : k < 8) {v : Value} (hv : [s0, s1, s2, s3, s4, s5, s6, s7][k]? = some v) : w.cell? ⟨g, 4 + k, none⟩ = some v := by
 rw [cell_of_row w g (4 + k) _ _ _ h, ← hv];obtain rfl | rfl | rfl | rfl | rfl | rfl | rfl | rfl : k = 0 ∨ k = 1 ∨ k = 2 ∨ k = 3 ∨ k = 4 ∨ k = 5 ∨ k = 6 ∨ k = 7 := by omega
 all_goals rfl
theorem lsl_of {s : Slt} (h : ∀ j, j < s.gens.length → (s.gens.getD j g0).m.st.length = 8 ∧ FewN (s.gens.getD j g0).m 8) (h12 : s.gens.length ≤ 12) : LSl s := by
 refine ⟨by omega, fun g hg => ?_⟩;obtain ⟨j, hj, hjg⟩ := List.getElem_of_mem hg;have q := h j hj;rw [List.getD_eq_getElem?_getD, List.getElem?_eq_getElem hj, hjg] at q;simp only [Option.getD_some] at q;have f := flat_lenF q.2 q.1 8 (Nat.le_refl 8);rw [List.take_of_length_le (by rw [q.1]; exact Nat.le_refl 8)] at f;exact ⟨fun k hk => Nat.le_trans (q.2 k hk) (by decide), by omega⟩
theorem l64_of {s : Slt} (h : ∀ j, j < s.gens.length → (s.gens.getD j g0).m.st.length = 8 ∧ FewN (s.gens.getD j g0).m 8) : ∀ g ∈ s.gens, g.m.st.flatten.length ≤ 64 := fun g hg => by
 obtain ⟨j, hj, hjg⟩ := List.getElem_of_mem hg;have q := h j hj;rw [List.getD_eq_getElem?_getD, List.getElem?_eq_getElem hj, hjg] at q;simp only [Option.getD_some] at q;have f := flat_lenF q.2 q.1 8 (Nat.le_refl 8);rw [List.take_of_length_le (by rw [q.1]; exact Nat.le_refl 8)] at f;exact f
def LgS (s : Slt) (e : Ending) : Prop := ∃ q : Bool, e = .returned (.bool q) ∧ (q = true → LSl s ∧ s.gens.length ≤ 12 ∧ ∀ g ∈ s.gens, g.m.st.flatten.length ≤ 64)
theorem light13_any (v : Value) (s : Slt) (w : World) (hv : Sv w v s) : Calls Tryz.prog 6 #[v] w fun e w' => LgS s e ∧ Below w.heap.size w w' := by
 obtain ⟨id, lim, ro, L⟩ := s;obtain ⟨gv, rfl, hg, -⟩ := hv;simp only at hg;obtain ⟨a, c, rfl, hnc, hcm⟩ := jw2 hg;obtain ⟨n, hn⟩ : ∃ n, n = L.length := ⟨_, rfl⟩;rw [← hn] at hg hnc ⊢;have q0 := jqg w (.cells #[.int .i64 id, .int .i64 lim, .bool ro, .slice a n c] 24);have HS := Lh (heap_alloc_new w (.cells #[.int .i64 id, .int .i64 lim, .bool ro, .slice a n c] 24));have B0 := Lh q0;have HLN := Lh (show n ≤ 9223372036854775807 by unfold maxLen at hcm; omega);have GL := Lh (jqj hg q0);have HN := Lh hn;clear q0 hg hnc hcm hn
 go_enter Tryz.func6, Tryz.ntmps6
 go_upto_region 1 with fail
 generalize w.alloc (.cells #[.int .i64 id, .int .i64 lim, .bool ro, .slice a n c] 24) = W0 at *;obtain ⟨⟨y0, y1, y2, y3⟩, -⟩ := bx4 HS.out;go_wp2_with fail
 clear y0 y1 y2 y3
 go_loopw [4, 5, 9, 13] (fun _ _ t9 _ wr => ∃ i : Nat, i ≤ n ∧ t9 = .int .i64 (i : Int) ∧ Below W0.heap.size W0 wr ∧ Hid (∀ j, j < i → (L.getD j g0).m.st.length = 8 ∧ FewN (L.getD j g0).m 8)) (fun _ _ t _ _ => n - (intOf t).toNat)
 case atStart => exact ⟨0, Nat.zero_le _, rfl, Below.refl _ _, Lh (fun j hj => absurd hj (Nat.not_lt_zero j))⟩
 case round =>
  obtain ⟨i, hi, rfl, hB, HP⟩ := hrel
  rename World => wl
  have BB := Lh hB;clear hB
  by_cases hlt : i < n
  case neg =>
   obtain rfl : n = i := by omega
   have d1 : decide ((n : Int) < (n : Int)) = false := decide_eq_false (by omega);obtain ⟨⟨y0, y1, y2, y3⟩, -⟩ := bx4 ((BB.out.block _ (jqb HS.out)).trans HS.out);have B9 := Lh (B0.out.trans (BB.out.mono B0.out.size));clear hi hlt;rcases Classical.em (n ≤ 12) with h1 | h1
   ·have d2 : decide ((n : Int) ≤ 12) = true := decide_eq_true (by omega)
    have d3 : decide (n ≤ 12) = true := decide_eq_true h1;have HF := Lh (lsl_of (s := ⟨id, lim, ro, L⟩) (fun j hj => HP.out j (by have := HN.out; simp only at hj; omega)) (by have := HN.out; simp only; omega));have H12 := Lh h1;have HF4 := Lh (l64_of (s := ⟨id, lim, ro, L⟩) (fun j hj => HP.out j (by have := HN.out; simp only at hj; omega)));clear h1;go_wp2_with fail
    go_ret
    exact ⟨⟨true, rfl, fun _ => ⟨HF.out, by have := HN.out; have := H12.out; simp only; omega, HF4.out⟩⟩, B9.out⟩
   ·have d2 : decide ((n : Int) ≤ 12) = false := decide_eq_false (by omega)
    have d3 : decide (n ≤ 12) = false := decide_eq_false h1;clear h1;go_wp2_with fail
    go_ret
    exact ⟨⟨false, rfl, fun h => by cases h⟩, B9.out⟩
  have d1 : decide ((i : Int) < (n : Int)) = true := decide_eq_true (by omega);have d2 : decide (i < n) = true := decide_eq_true hlt;have HI := Lh hlt;obtain ⟨b1, o1, hab, s0, s1, s2, s3, s4, s5, s6, s7, g1⟩ := gl_at (jqj GL.out BB.out) hlt;obtain rfl := hab;have HU := Lh (show L.getD i g0 = L.getD i g0 from rfl);generalize hug : L.getD i g0 = u at g1;have HUG := Lh hug;have ON := Lh g1.one;have MS := Lh g1.ms;have p0 : (0 : Int) ≤ (i : Int) := by omega
  have p1 : (i : Int) < (n : Int) := by omega
  obtain ⟨x0, x1, x2, x3, x4, x5, x6, x7, x8, x9, x10, x11, x12, x13⟩ := g1.cells;have hz := heap_alloc_new wl (.cells #[.int .i64 0, .int .i64 0, .int .i64 0, .int .i64 0, .slice none 0 0, .slice none 0 0, .slice none 0 0, .slice none 0 0, .slice none 0 0, .slice none 0 0, .slice none 0 0, .slice none 0 0, .int .i64 0, .int .i64 0] 31);clear g1 hlt hi hug HU;go_upto_region 4 with ((with_reducible refine jwv wl.heap.size _ #[.int .i64 u.num, .int .i64 u.rev, .int .i64 u.mode, .int .i64 u.size, s0, s1, s2, s3, s4, s5, s6, s7, .int .i64 u.m.live, .int .i64 u.m.garb] ?_ ?_ hz rfl rfl ON.out ?_); exact rfl; exact rfl)
  rw [World.setRow_alloc_new];clear x0 x1 x2 x3 x4 x5 x6 x7 x8 x9 x10 x11 x12 x13;clear p0 p1 d1 d2;have hb := jqg wl (.cells #[.int .i64 u.num, .int .i64 u.rev, .int .i64 u.mode, .int .i64 u.size, s0, s1, s2, s3, s4, s5, s6, s7, .int .i64 u.m.live, .int .i64 u.m.garb] 31);have HX := Lh (heap_alloc_new wl (.cells #[.int .i64 u.num, .int .i64 u.rev, .int .i64 u.mode, .int .i64 u.size, s0, s1, s2, s3, s4, s5, s6, s7, .int .i64 u.m.live, .int .i64 u.m.garb] 31));have MSx := Lh (jqf MS.out hb);have BX := Lh (BB.out.trans (hb.mono BB.out.size));clear hb hz MS BB;generalize wl.alloc (.cells #[.int .i64 u.num, .int .i64 u.rev, .int .i64 u.mode, .int .i64 u.size, s0, s1, s2, s3, s4, s5, s6, s7, .int .i64 u.m.live, .int .i64 u.m.garb] 31) = wx at *;generalize wl.heap.size = gx at *;go_wp2_with fail
  go_loop [5, 13] (fun _ t13 => ∃ k : Nat, k ≤ 8 ∧ t13 = .int .i64 (k : Int) ∧ Hid (∀ q, q < k → (ms u.m q).length ≤ 8)) (fun _ t => 8 - (intOf t).toNat)
  case atStart => exact ⟨0, by omega, rfl, Lh (fun s h => by omega)⟩
  case round =>
   obtain ⟨k, hk, rfl, HO⟩ := hrel
   by_cases hlt : k < 8
   case neg =>
    have l1 : decide ((k : Int) < 8) = false := decide_eq_false (by omega);have l2 : decide (k < 8) = false := decide_eq_false hlt;have HF := Lh (show FewN u.m 8 from fun q hq => HO.out q (by omega));have hw := w64s9 i (by have := HLN.out; have := HI.out; omega);clear hlt hk HO;go_wp2_with fail
    go_roundw
    case rel => exact ⟨i + 1, HI.out, by go_num, BX.out, Lh (fun j hj => by
     rcases Nat.lt_or_ge j i with h | h
     ·exact HP.out j h
     ·obtain rfl : j = i := by omega
      rw [HUG.out];exact ⟨MSx.out.1, HF.out⟩)⟩
    case measure => exact meas9 n i HI.out (by have := HLN.out; omega)
   have l1 : decide ((k : Int) < 8) = true := decide_eq_true (by omega);have l2 : decide (k < 8) = true := decide_eq_true hlt;have HK := Lh hlt;have EK := Lh (show wrap64 ((k : Int) + 1) = ((k + 1 : Nat) : Int) by unfold wrap64; omega);obtain ⟨a3, c3, hsel, -⟩ := MSx.out.2.2.2 k hlt;have hcell := bxk14 HX.out hlt hsel;obtain ⟨n3, hn3⟩ : ∃ z, z = (ms u.m k).length := ⟨_, rfl⟩;rw [← hn3] at hcell;have HN3 := Lh hn3;have p0 : (0 : Int) ≤ (k : Int) := by omega
   have p1 : (k : Int) < 8 := by omega
   clear hsel hn3 hlt hk
   by_cases hc : 8 < n3
   case pos =>
    have l3 : decide ((8 : Int) < (n3 : Int)) = true := decide_eq_true (by omega);have l4 : decide (8 < n3) = true := decide_eq_true hc;have B9 := Lh (B0.out.trans (BX.out.mono B0.out.size));clear hc HO;go_wp2_with fail
    go_ret
    exact ⟨⟨false, rfl, fun h => by cases h⟩, B9.out⟩
   have l3 : decide ((8 : Int) < (n3 : Int)) = false := decide_eq_false (by omega);have l4 : decide (8 < n3) = false := decide_eq_false hc;have HO1 := Lh (show ∀ q, q < k + 1 → (ms u.m q).length ≤ 8 from fun q hq => by
    rcases Nat.lt_or_ge q k with h | h
    ·exact HO.out q h
    ·obtain rfl : q = k := by omega
     rw [← HN3.out]; omega)
   clear hc HO;go_wp2_with fail
   go_round
   case rel =>
    have h1 := HK.out;exact ⟨k + 1, by omega, by first | rw [EK.out] | rfl, HO1⟩
   case measure =>
    have h1 := HK.out
    first | rw [EK.out] | skip
    simp [intOf]; omega
end Go.Proofs.YtimoinfjinmamaaGreat.Gf
/- What is proved here: data of any shape in memory (numbers, strings, structs, slices of such): reading them, what stays of them in later worlds, lists of a call's own and appending to them. No program text. -/
namespace Go.Proofs.YtimoinfjinmamaaGreat.Gf
open Go Go.Joins Go.ChangeShapes Go.WideShapes Go.ChangeAt Go.RowKit Go.Deep Go.Proofs.YtimoinfjinmamaaGreat.By
set_option maxRecDepth 100000
set_option maxHeartbeats 204800000
theorem j64_wf {n : Int} (h : (Lit.int .i64 n).wf = true) : J64 n := by
 simp [Lit.wf, IntKind.min, IntKind.max, IntKind.signed, IntKind.bits] at h;unfold J64; omega
theorem cellsU64 : Tryz.prog.cellsOf 59 = 1 := by kernel_rfl
theorem cellsU32 : Tryz.prog.cellsOf 63 = 1 := by kernel_rfl
theorem cellsI64 : Tryz.prog.cellsOf 2 = 1 := by kernel_rfl
theorem cellsInt : Tryz.prog.cellsOf 3 = 1 := by kernel_rfl
theorem cellsItem : Tryz.prog.cellsOf 65 = 4 := by kernel_rfl
theorem four_cells13 {W : World} {base : Nat} {a : Addr} {cs : List Value} (h : W.cells? base a 4 = some cs) : ∃ c0 c1 c2 c3, cs = [c0, c1, c2, c3] ∧ W.cell? a = some c0 ∧ W.cell? (a.add 1) = some c1 ∧ W.cell? (a.add 2) = some c2 ∧ W.cell? (a.add 3) = some c3 := by
 obtain ⟨_, hl, hat⟩ := World.cells?_some h
 match cs, hl with
 | [c0, c1, c2, c3], _ =>
  exact ⟨c0, c1, c2, c3, rfl, by simpa [Addr.add] using hat 0 (by decide), hat 1 (by decide), hat 2 (by decide), hat 3 (by decide)⟩
theorem item_read {H : Type} {enc : TypeId × Value → H} {W : World} {base : Nat} {sp : Nat → Bool} {hd : Bool} {n : Nat} {c0 c1 c2 c3 : Value} {y : DataW H × List MemPlace} (h : DataW.trod enc Tryz.prog W base sp hd n 65 [c0, c1, c2, c3] = some y) :
 ∃ x : Itm, ItOk x ∧ c0 = .int .u64 (x.key : Int) ∧ c1 = .int .u32 (x.ck : Int) ∧ c2 = .int .i64 x.off ∧ c3 = .int .i64 x.sz := by
 obtain ⟨ys, m, _, _, _, hl, hf⟩ := DataW.trod_struct Tryz.underlying65 h;have h0 : DataW.trod enc Tryz.prog W base sp hd m 59 (([c0, c1, c2, c3].drop 0).take (Tryz.prog.cellsOf 59)) = ys[0]? := hf 0 _ rfl;have h1 : DataW.trod enc Tryz.prog W base sp hd m 63 (([c0, c1, c2, c3].drop 1).take (Tryz.prog.cellsOf 63)) = ys[1]? := hf 1 _ rfl;have h2 : DataW.trod enc Tryz.prog W base sp hd m 2 (([c0, c1, c2, c3].drop 2).take (Tryz.prog.cellsOf 2)) = ys[2]? := hf 2 _ rfl;have h3 : DataW.trod enc Tryz.prog W base sp hd m 3 (([c0, c1, c2, c3].drop 3).take (Tryz.prog.cellsOf 3)) = ys[3]? := hf 3 _ rfl
 match ys, hl with
 | [y0, y1, y2, y3], _ =>
  rw [cellsU64] at h0;rw [cellsU32] at h1;rw [cellsI64] at h2;rw [cellsInt] at h3;obtain ⟨k, hk, _, wk⟩ := DataW.trod_int Tryz.underlying59 (show DataW.trod enc Tryz.prog W base sp hd m 59 [c0] = some y0 from h0);obtain ⟨c, hc, _, wc⟩ := DataW.trod_int Tryz.underlying63 (show DataW.trod enc Tryz.prog W base sp hd m 63 [c1] = some y1 from h1);obtain ⟨o, ho, _, wo⟩ := DataW.trod_int Tryz.underlying2 (show DataW.trod enc Tryz.prog W base sp hd m 2 [c2] = some y2 from h2);obtain ⟨z, hz, _, wz⟩ := DataW.trod_int Tryz.underlying3 (show DataW.trod enc Tryz.prog W base sp hd m 3 [c3] = some y3 from h3);obtain rfl : c0 = .int .u64 k := by simpa using hk
  obtain rfl : c1 = .int .u32 c := by simpa using hc
  obtain rfl : c2 = .int .i64 o := by simpa using ho
  obtain rfl : c3 = .int .i64 z := by simpa using hz
  have jo := j64_wf wo;have jz := j64_wf wz;simp [Lit.wf, IntKind.min, IntKind.max, IntKind.signed, IntKind.bits] at wk wc;exact ⟨⟨k.toNat, c.toNat, o, z⟩, ⟨by show k.toNat < _; omega, by show c.toNat < _; omega, jo, jz⟩, by rw [Int.toNat_of_nonneg (by omega)], by rw [Int.toNat_of_nonneg (by omega)], rfl, rfl⟩
theorem it_read {H : Type} {enc : TypeId × Value → H} {W : World} {fuel : Nat} {c : Value} {y : DataW H × List MemPlace} (hf : DataW.trod enc Tryz.prog W 0 (fun _ => true) true fuel 26 [c] = some y) : ∃ L, It W c L := by
 rcases open_slice Tryz.underlying26 hf with ⟨hcs, _⟩ | ⟨x, len, cap, m, n, D, Pl, hcs, _, hl, hm, hmm, -, hi⟩
 ·obtain rfl : c = _ := by simpa using hcs
  exact ⟨[], it_nil W⟩
 ·obtain rfl : c = _ := by simpa using hcs
  have hmc : m = cap := by simpa using hmm
  subst hmc;obtain ⟨b, off, spot⟩ := x;have hspot : 0 < len → spot = none := fun h0 => by
   obtain ⟨cs', hc, ht⟩ := hi 0 (by omega);rw [cellsItem] at hc;obtain ⟨c0, c1, c2, c3, rfl, e0, e1, e2, e3⟩ := four_cells13 hc
   simpa [Addr.add] using World.cell?_spot e0
  have hx : ∀ i, ∃ y : Itm, i < len → ItOk y ∧ spot = none ∧ C4 W b (off + i * 4) y := fun i => by
   by_cases h1 : i < len
   ·obtain ⟨cs', hc, ht⟩ := hi i (by omega)
    rw [cellsItem] at hc;obtain ⟨c0, c1, c2, c3, rfl, e0, e1, e2, e3⟩ := four_cells13 hc;obtain ⟨y, oky, rfl, rfl, rfl, rfl⟩ := item_read ht;obtain rfl := hspot (by omega);simp only [add_none] at e0 e1 e2 e3;exact ⟨y, fun _ => ⟨oky, rfl, e0, e1, e2, e3⟩⟩
   ·exact ⟨z0, fun h => absurd h h1⟩
  obtain ⟨f, hf'⟩ := Classical.axiomOfChoice hx;have hlen : ((List.range len).map f).length = len := by simp
  have hget : ∀ i, i < len → ((List.range len).map f).getD i z0 = f i := fun i h1 => by simp [List.getD, h1]
  refine ⟨(List.range len).map f, fun y hy => ?_, some ⟨b, off, spot⟩, m, by rw [hlen], by rw [hlen]; exact hl, hm, fun hp => ?_⟩
  ·obtain ⟨i, hi2, rfl⟩ := List.mem_map.1 hy
   exact (hf' i (List.mem_range.1 hi2)).1
  ·rw [hlen] at hp
   refine ⟨b, off, by rw [(hf' 0 hp).2.1], fun j u hu => ?_⟩;have hj : j < len * 4 := by
    have := (List.getElem?_eq_some_iff.1 hu).1;rw [jxx, hlen] at this;exact this
   have hc := (hf' (j / 4) (by omega)).2.2;have e := cellsT_at ((List.range len).map f) (j / 4) (j % 4) (by rw [hlen]; omega) (by omega);rw [show j / 4 * 4 + j % 4 = j by omega, hu, hget _ (by omega)] at e;rw [show off + j = off + j / 4 * 4 + j % 4 by omega];obtain ⟨e0, e1, e2, e3⟩ := hc;have hr : j % 4 = 0 ∨ j % 4 = 1 ∨ j % 4 = 2 ∨ j % 4 = 3 := by omega
   rcases hr with hr | hr | hr | hr
   all_goals
    rw [hr] at e ⊢;have e' : u = _ := Option.some.inj e;subst e'
    first | exact e0 | exact e1 | exact e2 | exact e3
theorem cells_map : Tryz.prog.cellsOf 29 = 10 := by kernel_rfl
theorem cells_st : Tryz.prog.cellsOf 27 = 8 := by kernel_rfl
theorem cells_its : Tryz.prog.cellsOf 26 = 1 := by kernel_rfl
theorem cells_i64m : Tryz.prog.cellsOf 2 = 1 := by kernel_rfl
theorem mp_read {H : Type} {enc : TypeId × Value → H} {W : World} {fuel : Nat} {c0 c1 c2 c3 c4 c5 c6 c7 c8 c9 : Value} {y : DataW H × List MemPlace} (hf : DataW.trod enc Tryz.prog W 0 (fun _ => true) true fuel 29 [c0, c1, c2, c3, c4, c5, c6, c7, c8, c9] = some y) : ∃ m : Mp, Ms W [c0, c1, c2, c3, c4, c5, c6, c7] m ∧ c8 = .int .i64 m.live ∧ c9 = .int .i64 m.garb := by
 obtain ⟨ys, m, _, _, _, hl, hfl⟩ := DataW.trod_struct Tryz.underlying29 hf;have h0 : DataW.trod enc Tryz.prog W 0 (fun _ => true) true m 27 (([c0, c1, c2, c3, c4, c5, c6, c7, c8, c9].drop 0).take (Tryz.prog.cellsOf 27)) = ys[0]? := hfl 0 _ rfl;have h1 : DataW.trod enc Tryz.prog W 0 (fun _ => true) true m 2 (([c0, c1, c2, c3, c4, c5, c6, c7, c8, c9].drop 8).take (Tryz.prog.cellsOf 2)) = ys[1]? := hfl 1 _ rfl;have h2 : DataW.trod enc Tryz.prog W 0 (fun _ => true) true m 2 (([c0, c1, c2, c3, c4, c5, c6, c7, c8, c9].drop 9).take (Tryz.prog.cellsOf 2)) = ys[2]? := hfl 2 _ rfl;rw [cells_st] at h0;rw [cells_i64m] at h1 h2;have hl3 : ys.length = 3 := hl
 match ys, hl3 with
 | [y0, y1, y2], _ =>
  have h0 : DataW.trod enc Tryz.prog W 0 (fun _ => true) true m 27 [c0, c1, c2, c3, c4, c5, c6, c7] = some y0 := h0;obtain ⟨o, ho, _, wo⟩ := DataW.trod_int Tryz.underlying2 (show DataW.trod enc Tryz.prog W 0 (fun _ => true) true m 2 [c8] = some y1 from h1);obtain ⟨z, hz, _, wz⟩ := DataW.trod_int Tryz.underlying2 (show DataW.trod enc Tryz.prog W 0 (fun _ => true) true m 2 [c9] = some y2 from h2);obtain rfl : c8 = .int .i64 o := by simpa using ho
  obtain rfl : c9 = .int .i64 z := by simpa using hz
  obtain ⟨xs, m2, _, _, _, hx, ha⟩ := DataW.trod_array Tryz.underlying27 h0;rw [cells_its] at ha;have hk : ∀ (i : Nat) (c : Value), i < 8 → ([c0, c1, c2, c3, c4, c5, c6, c7].drop (i * 1)).take 1 = [c] → ∃ L, It W c L := fun i c hi hc => by
   have h3 := ha i hi;have h4 : DataW.trod enc Tryz.prog W 0 (fun _ => true) true m2 26 (([c0, c1, c2, c3, c4, c5, c6, c7].drop (i * 1)).take 1) = xs[i]? := h3;rw [hc, List.getElem?_eq_getElem (by omega)] at h4;exact it_read h4
  obtain ⟨L0, s0⟩ := hk 0 c0 (by decide) rfl;obtain ⟨L1, s1⟩ := hk 1 c1 (by decide) rfl;obtain ⟨L2, s2⟩ := hk 2 c2 (by decide) rfl;obtain ⟨L3, s3⟩ := hk 3 c3 (by decide) rfl;obtain ⟨L4, s4⟩ := hk 4 c4 (by decide) rfl;obtain ⟨L5, s5⟩ := hk 5 c5 (by decide) rfl;obtain ⟨L6, s6⟩ := hk 6 c6 (by decide) rfl;obtain ⟨L7, s7⟩ := hk 7 c7 (by decide) rfl;refine ⟨⟨[L0, L1, L2, L3, L4, L5, L6, L7], o, z⟩, ⟨rfl, j64_wf wo, j64_wf wz, fun k hk8 => ?_⟩, rfl, rfl⟩;have hc : k = 0 ∨ k = 1 ∨ k = 2 ∨ k = 3 ∨ k = 4 ∨ k = 5 ∨ k = 6 ∨ k = 7 := by omega
  rcases hc with rfl | rfl | rfl | rfl | rfl | rfl | rfl | rfl
  ·obtain ⟨a, q, he, -, -⟩ := jqy s0
   refine ⟨a, q, congrArg some he, ?_⟩;rw [he] at s0;exact s0
  ·obtain ⟨a, q, he, -, -⟩ := jqy s1
   refine ⟨a, q, congrArg some he, ?_⟩;rw [he] at s1;exact s1
  ·obtain ⟨a, q, he, -, -⟩ := jqy s2
   refine ⟨a, q, congrArg some he, ?_⟩;rw [he] at s2;exact s2
  ·obtain ⟨a, q, he, -, -⟩ := jqy s3
   refine ⟨a, q, congrArg some he, ?_⟩;rw [he] at s3;exact s3
  ·obtain ⟨a, q, he, -, -⟩ := jqy s4
   refine ⟨a, q, congrArg some he, ?_⟩;rw [he] at s4;exact s4
  ·obtain ⟨a, q, he, -, -⟩ := jqy s5
   refine ⟨a, q, congrArg some he, ?_⟩;rw [he] at s5;exact s5
  ·obtain ⟨a, q, he, -, -⟩ := jqy s6
   refine ⟨a, q, congrArg some he, ?_⟩;rw [he] at s6;exact s6
  ·obtain ⟨a, q, he, -, -⟩ := jqy s7
   refine ⟨a, q, congrArg some he, ?_⟩;rw [he] at s7;exact s7
theorem fourteen_list {α : Type} {l : List α} (h : l.length = 14) : ∃ c0 c1 c2 c3 c4 c5 c6 c7 c8 c9 c10 c11 c12 c13, l = [c0, c1, c2, c3, c4, c5, c6, c7, c8, c9, c10, c11, c12, c13] := by
 match l, h with
 | [c0, c1, c2, c3, c4, c5, c6, c7, c8, c9, c10, c11, c12, c13], _ => exact ⟨c0, c1, c2, c3, c4, c5, c6, c7, c8, c9, c10, c11, c12, c13, rfl⟩
theorem cells_gen : Tryz.prog.cellsOf 31 = 14 := by kernel_rfl
theorem cells_int13 : Tryz.prog.cellsOf 3 = 1 := by kernel_rfl
theorem cells_bool13 : Tryz.prog.cellsOf 4 = 1 := by kernel_rfl
theorem cells_gens : Tryz.prog.cellsOf 22 = 1 := by kernel_rfl
theorem cells_slot : Tryz.prog.cellsOf 24 = 4 := by kernel_rfl
theorem gc_read {H : Type} {enc : TypeId × Value → H} {W : World} {fuel : Nat} {cs : List Value} {y : DataW H × List MemPlace} (hl14 : cs.length = 14) (hf : DataW.trod enc Tryz.prog W 0 (fun _ => true) true fuel 31 cs = some y) : ∃ g, GC W cs g := by
 obtain ⟨c0, c1, c2, c3, c4, c5, c6, c7, c8, c9, c10, c11, c12, c13, rfl⟩ := fourteen_list hl14;obtain ⟨ys, m, _, _, _, hl, hfl⟩ := DataW.trod_struct Tryz.underlying31 hf;have h0 : DataW.trod enc Tryz.prog W 0 (fun _ => true) true m 3 (([c0, c1, c2, c3, c4, c5, c6, c7, c8, c9, c10, c11, c12, c13].drop 0).take (Tryz.prog.cellsOf 3)) = ys[0]? := hfl 0 _ rfl;have h1 : DataW.trod enc Tryz.prog W 0 (fun _ => true) true m 2 (([c0, c1, c2, c3, c4, c5, c6, c7, c8, c9, c10, c11, c12, c13].drop 1).take (Tryz.prog.cellsOf 2)) = ys[1]? := hfl 1 _ rfl;have h2 : DataW.trod enc Tryz.prog W 0 (fun _ => true) true m 3 (([c0, c1, c2, c3, c4, c5, c6, c7, c8, c9, c10, c11, c12, c13].drop 2).take (Tryz.prog.cellsOf 3)) = ys[2]? := hfl 2 _ rfl;have h3 : DataW.trod enc Tryz.prog W 0 (fun _ => true) true m 2 (([c0, c1, c2, c3, c4, c5, c6, c7, c8, c9, c10, c11, c12, c13].drop 3).take (Tryz.prog.cellsOf 2)) = ys[3]? := hfl 3 _ rfl;have h4 : DataW.trod enc Tryz.prog W 0 (fun _ => true) true m 29 (([c0, c1, c2, c3, c4, c5, c6, c7, c8, c9, c10, c11, c12, c13].drop 4).take (Tryz.prog.cellsOf 29)) = ys[4]? := hfl 4 _ rfl;rw [cells_int13] at h0 h2;rw [cells_i64m] at h1 h3;rw [cells_map] at h4;have hl5 : ys.length = 5 := hl
 match ys, hl5 with
 | [y0, y1, y2, y3, y4], _ =>
  obtain ⟨x0, e0, _, w0⟩ := DataW.trod_int Tryz.underlying3 (show DataW.trod enc Tryz.prog W 0 (fun _ => true) true m 3 [c0] = some y0 from h0);obtain ⟨x1, e1, _, w1⟩ := DataW.trod_int Tryz.underlying2 (show DataW.trod enc Tryz.prog W 0 (fun _ => true) true m 2 [c1] = some y1 from h1);obtain ⟨x2, e2, _, w2⟩ := DataW.trod_int Tryz.underlying3 (show DataW.trod enc Tryz.prog W 0 (fun _ => true) true m 3 [c2] = some y2 from h2);obtain ⟨x3, e3, _, w3⟩ := DataW.trod_int Tryz.underlying2 (show DataW.trod enc Tryz.prog W 0 (fun _ => true) true m 2 [c3] = some y3 from h3);obtain rfl : c0 = .int .i64 x0 := by simpa using e0
  obtain rfl : c1 = .int .i64 x1 := by simpa using e1
  obtain rfl : c2 = .int .i64 x2 := by simpa using e2
  obtain rfl : c3 = .int .i64 x3 := by simpa using e3
  obtain ⟨mm, hm, rfl, rfl⟩ := mp_read (show DataW.trod enc Tryz.prog W 0 (fun _ => true) true m 29 [c4, c5, c6, c7, c8, c9, c10, c11, c12, c13] = some y4 from h4);exact ⟨⟨x0, x1, x2, x3, mm⟩, c4, c5, c6, c7, c8, c9, c10, c11, rfl, hm, j64_wf w0, j64_wf w1, j64_wf w2, j64_wf w3⟩
theorem gl_read {H : Type} {enc : TypeId × Value → H} {W : World} {fuel : Nat} {c : Value} {y : DataW H × List MemPlace} (hf : DataW.trod enc Tryz.prog W 0 (fun _ => true) true fuel 22 [c] = some y) : ∃ L, Gl W c L := by
 rcases open_slice Tryz.underlying22 hf with ⟨hcs, _⟩ | ⟨x, len, cap, m, n, D, Pl, hcs, _, hl, hm, hmm, -, hi⟩
 ·obtain rfl : c = _ := by simpa using hcs
  exact ⟨[], jxv W⟩
 ·obtain rfl : c = _ := by simpa using hcs
  have hmc : m = cap := by simpa using hmm
  subst hmc;obtain ⟨b, off, spot⟩ := x;have hspot : 0 < len → spot = none := fun h0 => by
   obtain ⟨cs', hc, ht⟩ := hi 0 (by omega);rw [cells_gen] at hc;obtain ⟨_, hl14, hat⟩ := World.cells?_some hc;have e0 := hat 0 (by omega);rw [List.getElem?_eq_getElem (by omega)] at e0
   simpa [Addr.add] using World.cell?_spot e0
  have hx : ∀ i, ∃ q : List Value × Ge, i < len → GC W q.1 q.2 ∧ spot = none ∧ ∀ u, u < 14 → W.cell? ⟨b, off + (i * 14 + u), none⟩ = q.1[u]? := fun i => by
   by_cases h1 : i < len
   ·obtain ⟨cs', hc, ht⟩ := hi i (by omega)
    rw [cells_gen] at hc;obtain ⟨_, hl14, hat⟩ := World.cells?_some hc;obtain ⟨g, hg⟩ := gc_read hl14 ht;obtain rfl := hspot (by omega);refine ⟨(cs', g), fun _ => ⟨hg, rfl, fun u hu => ?_⟩⟩;have h2 := hat u (by omega);rw [add_none, add_none] at h2;rw [show off + (i * 14 + u) = off + i * 14 + u by omega];exact h2
   ·exact ⟨([], g0), fun h => absurd h h1⟩
  obtain ⟨f, hf'⟩ := Classical.axiomOfChoice hx;have hlen : ((List.range len).map f).length = len := by simp
  refine ⟨(List.range len).map fun i => (f i).2, (List.range len).map fun i => (f i).1, some ⟨b, off, spot⟩, m, by simp, by simp, by simpa using hl, hm, fun k hk => ?_, fun hp => ?_⟩
  ·have hk : k < len := by simpa using hk
   rw [List.getD_eq_getElem?_getD, List.getD_eq_getElem?_getD, List.getElem?_map, List.getElem?_map, List.getElem?_range hk];exact (hf' k hk).1
  ·have hp : 0 < len := by simpa using hp
   refine ⟨b, off, by rw [(hf' 0 hp).2.1], fun k u hk hu => ?_⟩;have hk : k < len := by simpa using hk
   rw [List.getD_eq_getElem?_getD, List.getElem?_map, List.getElem?_range hk];exact (hf' k hk).2.2 u hu
theorem slt_open {H : Type} {enc : TypeId × Value → H} {W : World} {base : Nat} {v : Value} {d : DataW H} {p : List MemPlace} (hv : Value.okWide Tryz.prog W .any base 24 v) (h : DataW.Trod enc Tryz.prog W 0 (fun _ => true) true 24 v d p) : ∃ s, Sv W v s := by
 obtain ⟨cs, rfl, hsz⟩ := okWide_struct Tryz.underlying24 hv;obtain ⟨fuel, hf⟩ := h;rw [cells_slot] at hsz;obtain ⟨l⟩ := cs;have hl4 : l.length = 4 := by simpa using hsz
 match l, hl4 with
 | [c0, c1, c2, c3], _ =>
  obtain ⟨ys, m, _, _, _, hl, hfl⟩ := DataW.trod_struct Tryz.underlying24 hf;have h0 : DataW.trod enc Tryz.prog W 0 (fun _ => true) true m 3 (([c0, c1, c2, c3].drop 0).take (Tryz.prog.cellsOf 3)) = ys[0]? := hfl 0 _ rfl;have h1 : DataW.trod enc Tryz.prog W 0 (fun _ => true) true m 2 (([c0, c1, c2, c3].drop 1).take (Tryz.prog.cellsOf 2)) = ys[1]? := hfl 1 _ rfl;have h2 : DataW.trod enc Tryz.prog W 0 (fun _ => true) true m 4 (([c0, c1, c2, c3].drop 2).take (Tryz.prog.cellsOf 4)) = ys[2]? := hfl 2 _ rfl;have h3 : DataW.trod enc Tryz.prog W 0 (fun _ => true) true m 22 (([c0, c1, c2, c3].drop 3).take (Tryz.prog.cellsOf 22)) = ys[3]? := hfl 3 _ rfl;rw [cells_int13] at h0;rw [cells_i64m] at h1;rw [cells_bool13] at h2;rw [cells_gens] at h3;have hl4 : ys.length = 4 := hl
  match ys, hl4 with
  | [y0, y1, y2, y3], _ =>
   obtain ⟨x0, e0, _, w0⟩ := DataW.trod_int Tryz.underlying3 (show DataW.trod enc Tryz.prog W 0 (fun _ => true) true m 3 [c0] = some y0 from h0);obtain ⟨x1, e1, _, w1⟩ := DataW.trod_int Tryz.underlying2 (show DataW.trod enc Tryz.prog W 0 (fun _ => true) true m 2 [c1] = some y1 from h1);obtain ⟨x2, e2, _⟩ := DataW.trod_bool Tryz.underlying4 (show DataW.trod enc Tryz.prog W 0 (fun _ => true) true m 4 [c2] = some y2 from h2);obtain ⟨L, hL⟩ := gl_read (show DataW.trod enc Tryz.prog W 0 (fun _ => true) true m 22 [c3] = some y3 from h3);obtain rfl : c0 = .int .i64 x0 := by simpa using e0
   obtain rfl : c1 = .int .i64 x1 := by simpa using e1
   obtain rfl : c2 = .bool x2 := by simpa using e2
   exact ⟨⟨x0, x1, x2, L⟩, c3, rfl, hL, j64_wf w0, j64_wf w1⟩
end Go.Proofs.YtimoinfjinmamaaGreat.Gf
namespace Go.Proofs.YtimoinfjinmamaaGreat.Gf
open Go Go.Joins Go.ChangeShapes Go.WideShapes Go.ChangeAt Go.RowKit Go.Deep Go.Proofs.YtimoinfjinmamaaGreat.By
set_option maxRecDepth 100000
set_option maxHeartbeats 204800000
theorem gv_open {H : Type} {enc : TypeId × Value → H} {W : World} {base : Nat} {v : Value} {d : DataW H} {p : List MemPlace} (hv : Value.okWide Tryz.prog W .any base 31 v) (h : DataW.Trod enc Tryz.prog W 0 (fun _ => true) true 31 v d p) : ∃ g, Gv W v g := by
 obtain ⟨cs, rfl, hsz⟩ := okWide_struct Tryz.underlying31 hv;obtain ⟨fuel, hf⟩ := h;rw [cells_gen] at hsz;obtain ⟨l⟩ := cs;have hl : l.length = 14 := by simpa using hsz
 obtain ⟨g, hg⟩ := gc_read hl (show DataW.trod enc Tryz.prog W 0 (fun _ => true) true fuel 31 l = some _ from hf);obtain ⟨s0, s1, s2, s3, s4, s5, s6, s7, rfl, hm, hj⟩ := hg;exact ⟨g, s0, s1, s2, s3, s4, s5, s6, s7, rfl, hm, hj⟩
theorem nds_open {H : Type} {enc : TypeId × Value → H} {W : World} {base : Nat} {v : Value} {d : DataW H} {p : List MemPlace} (hv : Value.okWide Tryz.prog W .any base 32 v) (h : DataW.Trod enc Tryz.prog W 0 (fun _ => true) true 32 v d p) : ∃ n : Nat, Nr W v n := by
 obtain ⟨a, len, cap, rfl⟩ := okWide_slice Tryz.underlying32 hv;obtain ⟨fuel, hf⟩ := h;obtain ⟨L, hL⟩ := rd_open fuel (.sl Tryz.underlying32 (by kernel_rfl) tyNOf) hf;exact ⟨_, nr_of_rd hL⟩
end Go.Proofs.YtimoinfjinmamaaGreat.Gf
