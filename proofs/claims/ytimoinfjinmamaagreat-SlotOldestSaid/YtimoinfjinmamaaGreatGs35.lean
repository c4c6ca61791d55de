/- What is proved here: the program's Change of a slot; slices.IndexFunc and slices.Clone at generations. -/
/- What is proved here: the program's Change of a slot; slices.IndexFunc and slices.Clone at generations. -/
import Derived.Test.YtimoinfjinmamaaGreatGs29
namespace Go.Proofs.YtimoinfjinmamaaGreat.Gf
open Joins ChangeShapes WideShapes ChangeAt RowKit Deep By Qt
set_option maxRecDepth 100000
set_option maxHeartbeats 204800000
theorem storeGm {ops : Array Oper} {rest : List Oper} {x y : Operand} {pos : String} {after : Array Edge} {ty : TypeId} {a : Act} {w w2 : World} {Q : Exit → Act → World → Prop}
 (g o : Nat) (cs : Array Value) (hx : a.eval x = .pointer (some ⟨g, o, none⟩)) (hy : a.eval y = .agg cs) (ht : w.there g o 14) (hs : cs.size = 14) (h1 : cs.all (·.oneCell') = true)
 (hw : w.setCells g o cs.toList = w2) (h : wpList Tryz.prog ops Q rest a w2) : wpList Tryz.prog ops Q (⟨none, .store 55 x y, ty, pos, after, none⟩ :: rest) a w :=
 wpList_store_mid rfl 55 x y rfl g o cs hx hy (by rw [hs]; exact ht) (by rw [jxj, hs]) h1 (by rw [hw]; exact h)
theorem num_mono {s : Slt} (h : okS s) : ∀ (j i : Nat), i < j → j < s.gens.length → (s.gens.getD i g0).num < (s.gens.getD j g0).num
 | 0, i, hi, _ => absurd hi (Nat.not_lt_zero i)
 | j + 1, i, hi, hj => by
  have q := (h.od (j + 1) hj).asc (by omega);rw [Nat.add_sub_cancel] at q;rcases Nat.lt_or_ge i j with h1 | h1
  ·have ih := num_mono h j i h1 (by omega)
   omega
  ·obtain rfl : i = j := by omega
   exact q
theorem pcmp_any (q : Nat) (g u : Ge) (s0 s1 s2 s3 s4 s5 s6 s7 t0 t1 t2 t3 t4 t5 t6 t7 : Value) (w : World) (hq : w.heap[q]? = some (.cells #[.int .i64 g.num, .int .i64 g.rev, .int .i64 g.mode, .int .i64 g.size, t0, t1, t2, t3, t4, t5, t6, t7, .int .i64 g.m.live, .int .i64 g.m.garb] 55 (0, 0))) : Calls Tryz.prog 48 #[.agg #[.int .i64 u.num, .int .i64 u.rev, .int .i64 u.mode, .int .i64 u.size, s0, s1, s2, s3, s4, s5, s6, s7, .int .i64 u.m.live, .int .i64 u.m.garb], .pointer (some ⟨q, 0, none⟩)] w fun e w' => e = .returned (.bool (decide (u.num = g.num))) ∧ Below w.heap.size w w' := by
 have hb := jqg w (.cells #[.int .i64 u.num, .int .i64 u.rev, .int .i64 u.mode, .int .i64 u.size, s0, s1, s2, s3, s4, s5, s6, s7, .int .i64 u.m.live, .int .i64 u.m.garb] 55);have HX := Lh (heap_alloc_new w (.cells #[.int .i64 u.num, .int .i64 u.rev, .int .i64 u.mode, .int .i64 u.size, s0, s1, s2, s3, s4, s5, s6, s7, .int .i64 u.m.live, .int .i64 u.m.garb] 55));have HQ := Lh ((hb.block _ (jqb hq)).trans hq);have B0 := Lh hb;obtain ⟨d, hd⟩ : ∃ d, d = decide (u.num = g.num) := ⟨_, rfl⟩;have d1 : decide (u.num = g.num) = d := hd.symm;have d2 : (u.num == g.num) = d := hd.symm;rw [d1];clear hb hq hd
 go_enter Tryz.func48, Tryz.ntmps48
 go_upto_region 1 with fail
 generalize w.alloc (.cells #[.int .i64 u.num, .int .i64 u.rev, .int .i64 u.mode, .int .i64 u.size, s0, s1, s2, s3, s4, s5, s6, s7, .int .i64 u.m.live, .int .i64 u.m.garb] 55) = W0 at *;obtain ⟨x0, x1, x2, x3, x4, x5, x6, x7, x8, x9, x10, x11, x12, x13⟩ := bx14 HX.out;obtain ⟨z0, z1, z2, z3, z4, z5, z6, z7, z8, z9, z10, z11, z12, z13⟩ := bx14 HQ.out;go_wp2_with fail
 go_ret
 exact ⟨rfl, B0.out⟩
def IxO (L : List Ge) (num : Int) (w : World) (e : Ending) (w' : World) : Prop := (∃ r : Int, e = .returned (.int .i64 r) ∧ ((∃ j : Nat, r = (j : Int) ∧ j < L.length ∧ (L.getD j g0).num = num ∧ ∀ i, i < j → (L.getD i g0).num ≠ num) ∨ (r = -1 ∧ ∀ i, i < L.length → (L.getD i g0).num ≠ num))) ∧ Below w.heap.size w w'
theorem pindex_x (a : Option Addr) (n c q : Nat) (L : List Ge) (g : Ge) (t0 t1 t2 t3 t4 t5 t6 t7 : Value) (w : World) (hn : n = L.length) (hl : Gl w (.slice a n c) L) (hlen : n ≤ 10000) (hq : w.heap[q]? = some (.cells #[.int .i64 g.num, .int .i64 g.rev, .int .i64 g.mode, .int .i64 g.size, t0, t1, t2, t3, t4, t5, t6, t7, .int .i64 g.m.live, .int .i64 g.m.garb] 55 (0, 0))) : Calls Tryz.prog 47 #[.slice a n c, .func (.func 48) #[] #[.pointer (some ⟨q, 0, none⟩)]] w (IxO L g.num w) := by
 have GLw := Lh hl;have HN := Lh hn;have HLN := Lh hlen;have HQ := Lh hq;clear hl hn hlen hq
 go_enter Tryz.func47, Tryz.ntmps47
 go_wp2_with fail
 go_loopw [5, 8] (fun _ t8 wr => ∃ i : Nat, i ≤ n ∧ t8 = .int .i64 (i : Int) ∧ (∀ k, k < i → (L.getD k g0).num ≠ g.num) ∧ Below w.heap.size w wr) (fun _ t _ => n - (intOf t).toNat)
 case atStart => exact ⟨0, Nat.zero_le _, rfl, fun k hk => absurd hk (Nat.not_lt_zero k), Below.refl _ _⟩
 case round =>
  obtain ⟨i, hi, rfl, hno, hB⟩ := hrel
  rename World => wl
  have BW := Lh hB;have HNO := Lh hno;clear hB hno
  by_cases hlt : i < n
  case neg =>
   obtain rfl : n = i := by omega
   have d1 : decide ((n : Int) < (n : Int)) = false := decide_eq_false (by omega);clear hi hlt;go_wp2_with fail
   go_ret
   exact ⟨⟨-1, rfl, Or.inr ⟨rfl, fun k hk => HNO.out k (by rw [HN.out]; exact hk)⟩⟩, BW.out⟩
  have d1 : decide ((i : Int) < (n : Int)) = true := decide_eq_true (by omega);have d2 : decide (i < n) = true := decide_eq_true hlt;have HI := Lh hlt;obtain ⟨b, off, rfl, s0, s1, s2, s3, s4, s5, s6, s7, ga⟩ := gl_at (jqj GLw.out BW.out) hlt;generalize hju : L.getD i g0 = u at *;have HJU := Lh hju;have HQ1 := (BW.out.block _ (jqb HQ.out)).trans HQ.out;have PC := Lh (pcmp_any q g u s0 s1 s2 s3 s4 s5 s6 s7 t0 t1 t2 t3 t4 t5 t6 t7 wl HQ1);have p0 : (0 : Int) ≤ (i : Int) := by omega
  have p1 : (i : Int) < (n : Int) := by omega
  obtain ⟨x0, x1, x2, x3, x4, x5, x6, x7, x8, x9, x10, x11, x12, x13⟩ := ga.cells;have hw := w64s8 i (by have := HLN.out; omega);clear ga hlt hi hju HQ1;go_wp2_with fail
  clear x0 x1 x2 x3 x4 x5 x6 x7 x8 x9 x10 x11 x12 x13;clear d1 d2 p0 p1;refine PC.out.mono ?_;rintro e W2 ⟨rfl, hb⟩;have BW2 := Lh (BW.out.trans (hb.mono BW.out.size));clear hb PC BW
  by_cases h1 : u.num = g.num
  ·rw [decide_eq_true h1]
   have HE := Lh h1;clear h1;go_wp2_with fail
   go_ret
   exact ⟨⟨(i : Int), rfl, Or.inl ⟨i, rfl, by have := HN.out; have := HI.out; omega, by rw [HJU.out]; exact HE.out, HNO.out⟩⟩, BW2.out⟩
  ·rw [decide_eq_false h1]
   have HE := Lh h1;clear h1;go_wp2_with fail
   go_roundw
   case rel => exact ⟨i + 1, HI.out, by go_num, fun k hk => by
    rcases Nat.lt_or_ge k i with h | h
    ·exact HNO.out k h
    ·obtain rfl : k = i := by omega
     rw [HJU.out];exact HE.out, BW2.out⟩
   case measure => exact meas8 n i HI.out (by have := HLN.out; omega)
theorem run_some_nilG (w : World) (a : Addr) (n c : Nat) : (binOp .eql 37 (.slice (some a) n c) (.slice none 0 0)).run Tryz.prog w = .ok (.bool false) w := by
 have h : ∀ d : Nat, (Op.equalIn (d + 1) 37 (.slice (some a) n c) (.slice none 0 0)).run Tryz.prog w = .ok false w := fun d => by
  simp [Op.equalIn, run_underlying Tryz.underlying37]
 simp only [binOp];simp [Op.equal, Op.maxDepth, h 9999]
theorem pclone_rows (b off n c : Nat) (V : List (List Value)) (w : World) (hn : n = V.length) (h0 : 0 < n) (hlen : n ≤ 10000) (hr : Rows 14 V) (hs : SrcV 14 w b off V) : Calls Tryz.prog 49 #[.slice (some ⟨b, off, none⟩) n c] w fun e w' => (∃ g c9, e = .returned (.slice (some ⟨g, 0, none⟩) n c9) ∧ w.heap.size ≤ g ∧ OwV 55 14 w' w.heap.size (.slice (some ⟨g, 0, none⟩) n c9) V) ∧ Below w.heap.size w w' := by
 have HN := Lh hn;have H0 := Lh h0;have HRW := Lh hr;have hb := jqg w (.cells #[] 55);have OVe := Lh (jx7 (T := 55) 14 w (base := w.heap.size) rfl (Nat.le_refl _));have HSR := Lh (jwd hr hs hb);have HSZ := Lh hb.size;have B0 := Lh hb;have HLL := Lh (show ([] : List (List Value)).length + V.length ≤ 100000000 by simp; omega);have hq := run_some_nilG w ⟨b, off, none⟩ n c;clear hb hs hr hn h0 hlen
 go_enter Tryz.func49, Tryz.ntmps49
 go_wp2_with (at_builtin; refine app_v lsG (dst := some 7) (c := c) (n := n) (M := V) ?_ ?_ HN.out OVe.out HRW.out HSR.out HLL.out HSZ.out ?_; exact rfl; exact rfl; intro v9 X3 ho hg hat; rw [List.nil_append] at ho; obtain ⟨g9, c9, hv9, hb9, -⟩ := ov_src ho (by have := HN.out; have := H0.out; omega); rw [← HN.out] at hv9; subst hv9; have B3 := Lh (B0.out.grown hg B0.out.size (fun k hk => by simp [Value.ownBlock] at hk; omega)); have OV3 := Lh ho; have HB9 := Lh hb9; clear ho hg hat hb9)
 go_ret
 exact ⟨⟨g9, c9, rfl, HB9.out, OV3.out⟩, B3.out⟩
theorem pschange_x (id lim : Int) (ro : Bool) (a : Option Addr) (n c : Nat) (L : List Ge) (vg : Value) (g : Ge) (w : World) (hn : n = L.length) (hl : Gl w (.slice a n c) L) (hlen : n ≤ 10000) (hf : ∀ g ∈ L, LGe g) (hj : J64 id ∧ J64 lim) (hg : Gv w vg g) (hfg : LGe g) : Calls Tryz.prog 17 #[.agg #[.int .i64 id, .int .i64 lim, .bool ro, .slice a n c], vg] w (ChgO ⟨id, lim, ro, L⟩ g w) := by
 obtain ⟨t0, t1, t2, t3, t4, t5, t6, t7, rfl, hm, hjg⟩ := hg;obtain ⟨V, a', c', hVL, hav, hR, hGC, hSrc⟩ := gl_rows hl;obtain ⟨rfl, -, rfl⟩ : a = a' ∧ n = L.length ∧ c = c' := by simpa using hav
 have q0 := al3 w (.cells #[.int .i64 id, .int .i64 lim, .bool ro, .slice a n c] 39) (.cells #[.int .i64 g.num, .int .i64 g.rev, .int .i64 g.mode, .int .i64 g.size, t0, t1, t2, t3, t4, t5, t6, t7, .int .i64 g.m.live, .int .i64 g.m.garb] 55) (.cells #[.int .i64 0, .int .i64 0, .bool false, .slice none 0 0] 39);have HS := Lh q0.1;have HG := Lh q0.2.1;have HZ := Lh q0.2.2.1;have B0 := Lh q0.2.2.2;have GLw := Lh hl;have HN := Lh hn;have HLN := Lh hlen;have HVL := Lh (hVL.trans hn.symm);have HRW := Lh hR;have HGC := Lh hGC;have HSC := Lh hSrc;have HMS := Lh hm;have HJG := Lh hjg;have HJ := Lh hj;have HFG := Lh hfg;have HLF := Lh hf;have ONG := Lh (jwj hm);have PV := Lh (fun W (h : Gl W (.slice a n c) L) => psvalid_x id lim ro a n c L W hn h hlen hf);clear hl hf q0 hn hlen hav hVL hR hGC hSrc hm hjg hj hfg
 go_enter Tryz.func17, Tryz.ntmps17
 go_upto_region 1 with fail
 generalize ((w.alloc (.cells #[.int .i64 id, .int .i64 lim, .bool ro, .slice a n c] 39)).alloc (.cells #[.int .i64 g.num, .int .i64 g.rev, .int .i64 g.mode, .int .i64 g.size, t0, t1, t2, t3, t4, t5, t6, t7, .int .i64 g.m.live, .int .i64 g.m.garb] 55)).alloc (.cells #[.int .i64 0, .int .i64 0, .bool false, .slice none 0 0] 39) = W0 at *;obtain ⟨⟨y0, y1, y2, y3⟩, -⟩ := bx4 HS.out;go_wp2_with fail
 clear y0 y1 y2 y3;refine (PV.out W0 (jqj GLw.out B0.out)).mono ?_;rintro e W1 ⟨rfl, hb⟩;have HS1 := Lh ((hb.block _ (jqb HS.out)).trans HS.out);have HG1 := Lh ((hb.block _ (jqb HG.out)).trans HG.out);have HZ1 := Lh ((hb.block _ (jqb HZ.out)).trans HZ.out);have B1 := Lh (B0.out.trans (hb.mono B0.out.size));clear hb HS HG HZ B0 PV;rcases Classical.em (okS ⟨id, lim, ro, L⟩) with h1 | h1
 case inr =>
  rw [jwf h1];have HK := Lh h1;clear h1;go_wp2_with ((with_reducible refine storeS (w.heap.size + 2) _ #[.int .i64 0, .int .i64 0, .bool false, .slice none 0 0] ?_ ?_ HZ1.out rfl rfl zs_one ?_); exact rfl; exact rfl)
  refine bodyPost_ret (jqn (S := 39) rfl _ _ (w.heap.size + 2) #[.int .i64 0, .int .i64 0, .bool false, .slice none 0 0] rfl (setRow_heap _ _ _ _ _ _ HZ1.out) Tryz.underlying39 rfl infoS4) rfl ?_;exact chg_bad HK.out ⟨⟨_, rfl, _, rfl, jxv _, by unfold J64; decide, by unfold J64; decide⟩, jqd B1.out (by omega) _⟩
 rw [jwm h1];have HK := Lh h1;clear h1;have hn0 : 0 < n := by have := HK.out.n1; have := HN.out; simp only at *; omega
 obtain ⟨b, off, rfl, hsrc⟩ := HSC.out (by have := HN.out; omega);have HSRw := Lh hsrc;have HN0 := Lh hn0;clear hsrc hn0 HSC;have PI := Lh (pindex_x (some ⟨b, off, none⟩) n c (w.heap.size + 1) L g t0 t1 t2 t3 t4 t5 t6 t7 W1 HN.out (jqj GLw.out B1.out) HLN.out HG1.out);obtain ⟨⟨y0, y1, y2, y3⟩, -⟩ := bx4 HS1.out;go_wp2_with fail
 clear y0 y1 y2 y3;refine PI.out.mono ?_;rintro e W2 ⟨⟨r, rfl, hr⟩, hb⟩;have HS2 := Lh ((hb.block _ (jqb HS1.out)).trans HS1.out);have HG2 := Lh ((hb.block _ (jqb HG1.out)).trans HG1.out);have HZ2 := Lh ((hb.block _ (jqb HZ1.out)).trans HZ1.out);have B2 := Lh (B1.out.trans (hb.mono B1.out.size));clear hb HS1 HG1 HZ1 B1 PI;rcases hr with ⟨j, rfl, hj1, hj2, hj3⟩ | ⟨rfl, hno⟩
 case inr =>
  have HNO := Lh (show ¬ hasN L g.num from fun ⟨j, h1, h2⟩ => hno j h1 h2);clear hno;go_wp2_with ((with_reducible refine storeS (w.heap.size + 2) _ #[.int .i64 0, .int .i64 0, .bool false, .slice none 0 0] ?_ ?_ HZ2.out rfl rfl zs_one ?_); exact rfl; exact rfl)
  refine bodyPost_ret (jqn (S := 39) rfl _ _ (w.heap.size + 2) #[.int .i64 0, .int .i64 0, .bool false, .slice none 0 0] rfl (setRow_heap _ _ _ _ _ _ HZ2.out) Tryz.underlying39 rfl infoS4) rfl ?_;exact chg_none HK.out HNO.out ⟨⟨_, rfl, _, rfl, jxv _, by unfold J64; decide, by unfold J64; decide⟩, jqd B2.out (by omega) _⟩
 have HYE := Lh (show hasN L g.num from ⟨j, hj1, hj2⟩);have HJN := Lh (show j < n from by have := HN.out; omega);have HUQ := Lh (show ∀ k, k < L.length → ((L.getD k g0).num = g.num ↔ k = j) from fun k hk => by
  constructor
  ·intro h
   rcases Nat.lt_trichotomy k j with e | e | e
   ·have := num_mono HK.out j k e hj1; simp only at this; omega
   ·exact e
   ·have := num_mono HK.out k j e hk; simp only at this; omega
  ·rintro rfl; exact hj2)
 clear hj1 hj2 hj3;have d1 : decide ((j : Int) < 0) = false := decide_eq_false (by omega);obtain ⟨⟨y0, y1, y2, y3⟩, -⟩ := bx4 HS2.out;go_wp2_with fail
 clear y0 y1 y2 y3;clear d1;refine (pclone_rows b off n c V W2 HVL.out.symm HN0.out HLN.out HRW.out (jwd HRW.out HSRw.out B2.out)).mono ?_;rintro e W3 ⟨⟨g9, c9, rfl, hg9, ho⟩, hb⟩;have HGB := Lh (show w.heap.size + 2 < g9 by have := jqb HZ2.out; omega);have HS3 := Lh ((hb.block _ (jqb HS2.out)).trans HS2.out);have HG3 := Lh ((hb.block _ (jqb HG2.out)).trans HG2.out);have HZ3 := Lh ((hb.block _ (jqb HZ2.out)).trans HZ2.out);have B3 := Lh (B2.out.trans (hb.mono B2.out.size));have OV3 := Lh ho;have HB1 := Lh (show w.heap.size + 2 < W2.heap.size from jqb HZ2.out);clear hb ho hg9 HS2 HG2 HZ2 B2;obtain ⟨⟨y0, y1, y2, y3⟩, f0, f1, f2, f3⟩ := bx4 HS3.out;go_upto_region 7 with fail
 clear y0 y1 y2 y3 f0 f1 f2 f3;rw [setCell_eq_setRow _ _ _ _ _ _ _ HS3.out];have hs : (#[.int .i64 id, .int .i64 lim, .bool ro, .slice (some ⟨b, off, none⟩) n c] : Array Value).setIfInBounds 3 (.slice (some ⟨g9, 0, none⟩) n c9) = #[.int .i64 id, .int .i64 lim, .bool ro, .slice (some ⟨g9, 0, none⟩) n c9] := rfl;rw [hs];have HS4 := Lh (setRow_heap W3 w.heap.size _ #[.int .i64 id, .int .i64 lim, .bool ro, .slice (some ⟨g9, 0, none⟩) n c9] _ _ HS3.out);have HG4 := Lh ((setRow_other W3 w.heap.size (w.heap.size + 1) #[.int .i64 id, .int .i64 lim, .bool ro, .slice (some ⟨g9, 0, none⟩) n c9] (by omega)).trans HG3.out);have HZ4 := Lh ((setRow_other W3 w.heap.size (w.heap.size + 2) #[.int .i64 id, .int .i64 lim, .bool ro, .slice (some ⟨g9, 0, none⟩) n c9] (by omega)).trans HZ3.out);have B4 := Lh (jqd B3.out (Nat.le_refl _) #[.int .i64 id, .int .i64 lim, .bool ro, .slice (some ⟨g9, 0, none⟩) n c9]);have OV4 := Lh (jw1 OV3.out fun b hb _ => setRow_other W3 w.heap.size b #[.int .i64 id, .int .i64 lim, .bool ro, .slice (some ⟨g9, 0, none⟩) n c9] (by have := (jq9 OV3.out b hb).1; have := HB1.out; omega));clear hs HS3 HG3 HZ3 B3 OV3;generalize W3.setRow w.heap.size #[.int .i64 id, .int .i64 lim, .bool ro, .slice (some ⟨g9, 0, none⟩) n c9] = X4 at *;generalize W2.heap.size = BQ at *;have HST := ov_set OV4.out (i := j) (p := [.int .i64 g.num, .int .i64 g.rev, .int .i64 g.mode, .int .i64 g.size, t0, t1, t2, t3, t4, t5, t6, t7, .int .i64 g.m.live, .int .i64 g.m.garb]) (by have := HVL.out; have := HJN.out; omega) ⟨rfl, fun u hu => (Array.all_eq_true_iff_forall_mem.1 ONG.out) u (by simpa using hu)⟩;have OV5 := Lh HST.1;have HTH := Lh HST.2;clear HST;obtain ⟨X5, hX5⟩ : ∃ Y, Y = X4.setCells g9 (j * 14) [.int .i64 g.num, .int .i64 g.rev, .int .i64 g.mode, .int .i64 g.size, t0, t1, t2, t3, t4, t5, t6, t7, .int .i64 g.m.live, .int .i64 g.m.garb] := ⟨_, rfl⟩;have HS5 := Lh ((jx0 [.int .i64 g.num, .int .i64 g.rev, .int .i64 g.mode, .int .i64 g.size, t0, t1, t2, t3, t4, t5, t6, t7, .int .i64 g.m.live, .int .i64 g.m.garb] X4 (j * 14) (show w.heap.size ≠ g9 by have := HGB.out; omega)).trans HS4.out);have HZ5 := Lh ((jx0 [.int .i64 g.num, .int .i64 g.rev, .int .i64 g.mode, .int .i64 g.size, t0, t1, t2, t3, t4, t5, t6, t7, .int .i64 g.m.live, .int .i64 g.m.garb] X4 (j * 14) (show w.heap.size + 2 ≠ g9 by have := HGB.out; omega)).trans HZ4.out);have B5 := Lh (below_setCells (show w.heap.size ≤ g9 by have := HGB.out; omega) [.int .i64 g.num, .int .i64 g.rev, .int .i64 g.mode, .int .i64 g.size, t0, t1, t2, t3, t4, t5, t6, t7, .int .i64 g.m.live, .int .i64 g.m.garb] X4 (j * 14) B4.out);rw [← hX5] at OV5 HS5 HZ5 B5;have HX5 := Lh hX5.symm;obtain ⟨⟨y0, y1, y2, y3⟩, -⟩ := bx4 HS4.out;obtain ⟨x0, x1, x2, x3, x4, x5, x6, x7, x8, x9, x10, x11, x12, x13⟩ := bx14 HG4.out;have p0 : (0 : Int) ≤ (j : Int) := by omega
 have p1 : (j : Int) < (n : Int) := by have := HJN.out; omega
 clear hX5;go_upto_region 8 with ((with_reducible refine storeGm g9 (j * 14) #[.int .i64 g.num, .int .i64 g.rev, .int .i64 g.mode, .int .i64 g.size, t0, t1, t2, t3, t4, t5, t6, t7, .int .i64 g.m.live, .int .i64 g.m.garb] ?_ ?_ HTH.out rfl ONG.out HX5.out ?_); exact rfl; exact rfl)
 clear x0 x1 x2 x3 x4 x5 x6 x7 x8 x9 x10 x11 x12 x13;clear y0 y1 y2 y3;clear p0 p1 HS4 HG4 HZ4 B4 OV4 HTH HX5;have HRG := Lh (fun (W : World) (h : ∀ k, k < L.length → GC W (V.getD k []) (L.getD k g0)) (hrow : GC W [.int .i64 g.num, .int .i64 g.rev, .int .i64 g.mode, .int .i64 g.size, t0, t1, t2, t3, t4, t5, t6, t7, .int .i64 g.m.live, .int .i64 g.m.garb] g) k (hk : k < (repL L g).length) => show GC W ((V.set j [.int .i64 g.num, .int .i64 g.rev, .int .i64 g.mode, .int .i64 g.size, t0, t1, t2, t3, t4, t5, t6, t7, .int .i64 g.m.live, .int .i64 g.m.garb]).getD k []) ((repL L g).getD k g0) from by
  rw [jx5] at hk;rw [repL_at hk]
  by_cases hq : k = j
  ·subst hq
   rw [if_pos ((HUQ.out k hk).2 rfl), List.getD_eq_getElem?_getD, List.getElem?_set_self (by have := HVL.out; have := HN.out; omega)];exact hrow
  ·rw [if_neg (fun e => hq ((HUQ.out k hk).1 e)), List.getD_eq_getElem?_getD, List.getElem?_set_ne (Ne.symm hq), ← List.getD_eq_getElem?_getD]
   exact h k hk)
 have HLV := Lh (show (V.set j [.int .i64 g.num, .int .i64 g.rev, .int .i64 g.mode, .int .i64 g.size, t0, t1, t2, t3, t4, t5, t6, t7, .int .i64 g.m.live, .int .i64 g.m.garb]).length = (repL L g).length by rw [List.length_set, jx5, HVL.out, HN.out]);have GL5 := gl_own OV5.out HLV.out (HRG.out X5 (fun k hk => jw6 (HGC.out k hk) B5.out) ⟨t0, t1, t2, t3, t4, t5, t6, t7, rfl, jqf HMS.out B5.out, HJG.out⟩);have PC := Lh (pchecked_x id lim ro (some ⟨g9, 0, none⟩) n c9 (repL L g) X5 (by rw [jx5]; exact HN.out) GL5 HLN.out (fun x hx => by
  rcases repL_mem hx with h | h
  ·rw [h]; exact HFG.out
  ·exact HLF.out x h))
 obtain ⟨⟨y0, y1, y2, y3⟩, -⟩ := bx4 HS5.out;clear GL5;go_wp2_with fail
 clear y0 y1 y2 y3;refine PC.out.mono ?_;rintro e W6 ⟨rfl, hb⟩;have HZ6 := Lh ((hb.block _ (jqb HZ5.out)).trans HZ5.out);have OV6 := Lh (jq5 OV5.out hb);have B6 := Lh (B5.out.trans (hb.mono B5.out.size));clear hb PC HZ5 OV5 B5 HS5;rcases Classical.em (okS ⟨id, lim, ro, repL L g⟩) with h1 | h1
 case inr =>
  rw [jwf h1, if_neg Bool.false_ne_true, if_neg Bool.false_ne_true];have HK2 := Lh h1;clear h1;go_wp2_with ((with_reducible refine storeS (w.heap.size + 2) _ #[.int .i64 0, .int .i64 0, .bool false, .slice none 0 0] ?_ ?_ HZ6.out rfl rfl zs_one ?_); exact rfl; exact rfl)
  refine bodyPost_ret (jqn (S := 39) rfl _ _ (w.heap.size + 2) #[.int .i64 0, .int .i64 0, .bool false, .slice none 0 0] rfl (setRow_heap _ _ _ _ _ _ HZ6.out) Tryz.underlying39 rfl infoS4) rfl ?_;exact chg_inv HK.out HYE.out HK2.out ⟨⟨_, rfl, _, rfl, jxv _, by unfold J64; decide, by unfold J64; decide⟩, jqd B6.out (by omega) _⟩
 rw [jwm h1, if_pos rfl, if_pos rfl];have HK2 := Lh h1;clear h1;go_wp2_with ((with_reducible refine storeS (w.heap.size + 2) _ #[.int .i64 id, .int .i64 lim, .bool ro, .slice (some ⟨g9, 0, none⟩) n c9] ?_ ?_ HZ6.out rfl rfl jw8 ?_); exact rfl; exact rfl)
 refine bodyPost_ret (jqn (S := 39) rfl _ _ (w.heap.size + 2) #[.int .i64 id, .int .i64 lim, .bool ro, .slice (some ⟨g9, 0, none⟩) n c9] rfl (setRow_heap _ _ _ _ _ _ HZ6.out) Tryz.underlying39 rfl infoS4) rfl ?_;refine chg_ok HK.out HYE.out HK2.out ⟨⟨_, rfl, _, rfl, ?_, HJ.out⟩, jqd B6.out (by omega) _⟩;exact gl_own (jw1 OV6.out fun b hb _ => setRow_other _ _ _ _ (by have := (jq9 OV6.out b hb).1; have := HB1.out; omega)) HLV.out (HRG.out _ (fun k hk => jwz (jw6 (HGC.out k hk) B6.out) HZ6.out jwy) (jwz ⟨t0, t1, t2, t3, t4, t5, t6, t7, rfl, jqf HMS.out B6.out, HJG.out⟩ HZ6.out jwy))
end Go.Proofs.YtimoinfjinmamaaGreat.Gf
