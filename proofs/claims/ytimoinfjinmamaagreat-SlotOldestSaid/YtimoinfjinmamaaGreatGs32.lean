/- What is proved here: Older of both sides, in any slot of few items. -/
import Derived.Test.YtimoinfjinmamaaGreatGs31
import Derived.Test.YtimoinfjinmamaaGreatEx
namespace Go.Proofs.YtimoinfjinmamaaGreat.Gf
open Joins ChangeShapes WideShapes ChangeAt RowKit Deep By Qt
set_option maxRecDepth 100000
set_option maxHeartbeats 204800000
theorem lsI : LsV Tryz.prog 74 3 1 := by
 have h1 : (Tryz.prog.info? 3).map (fun i => (i.zero.map (·.cells.size), i.size, decide (i.bytes ≤ 1000))) = some (some 1, 1, true) := by kernel_rfl
 cases hp : Tryz.prog.info? 3 with
 | none => rw [hp] at h1; cases h1
 | some i =>
  rw [hp] at h1;simp at h1;obtain ⟨⟨x, hx, hxs⟩, h2, h3⟩ := h1;exact ⟨Tryz.underlying74, ⟨i, x, hp, hx, h2, h3, hxs⟩, by decide⟩
def rowsI (l : List Int) : List (List Value) := l.map fun x => [.int .i64 x]
theorem oldF_len (L : List Ge) (key i : Nat) : (oldF L key i).length ≤ i := by
 unfold oldF;rw [List.length_map];refine Nat.le_trans (List.length_filter_le _ _) ?_;rw [List.length_take];exact Nat.min_le_left _ _
theorem oldF_hit {L : List Ge} {key i : Nat} (hi : i < L.length) (h : hitB (L.getD i g0) key) : rowsI (oldF L key (i + 1)) = rowsI (oldF L key i) ++ [[.int .i64 (L.getD i g0).num]] := by
 unfold oldF rowsI;have e : L.getD i g0 = L[i] := by rw [List.getD_eq_getElem?_getD, List.getElem?_eq_getElem hi]; rfl
 rw [e] at h ⊢;have h' : hasL (gL L[i].m key) key = true := h;rw [List.take_add_one, List.getElem?_eq_getElem hi, List.filter_append, List.map_append, List.map_append];simp [h']
theorem oldF_no {L : List Ge} {key i : Nat} (hi : i < L.length) (h : ¬ hitB (L.getD i g0) key) : oldF L key (i + 1) = oldF L key i := by
 unfold oldF;have e : L.getD i g0 = L[i] := by rw [List.getD_eq_getElem?_getD, List.getElem?_eq_getElem hi]; rfl
 rw [e] at h;have h' : hasL (gL L[i].m key) key = false := by
  cases hq : hasL (gL L[i].m key) key
  ·rfl
  ·exact absurd hq h
 rw [List.take_add_one, List.getElem?_eq_getElem hi, List.filter_append, List.map_append];simp [h']
open Classical in
noncomputable def oldL (s : Slt) (key : Nat) : List Int := if okSb s = true then oldF s.gens key (s.gens.length - 1) else []
def OlO (s : Slt) (key : Nat) (w : World) (e : Ending) (w' : World) : Prop := (∃ v B, e = .returned v ∧ OwV 3 1 w' B v (rowsI (oldL s key))) ∧ Below w.heap.size w w'
theorem olO_bad {s : Slt} {key B : Nat} {w w' : World} {v : Value} (h : ¬ okS s) (ho : OwV 3 1 w' B v []) (hb : Below w.heap.size w w') : OlO s key w (.returned v) w' := by
 refine ⟨⟨v, B, rfl, ?_⟩, hb⟩;unfold oldL;rw [jwf h];exact ho
theorem olO_ok {s : Slt} {key i B : Nat} {w w' : World} {v : Value} (h : okS s) (hi : i = s.gens.length - 1) (ho : OwV 3 1 w' B v (rowsI (oldF s.gens key i))) (hb : Below w.heap.size w w') : OlO s key w (.returned v) w' := by
 refine ⟨⟨v, B, rfl, ?_⟩, hb⟩;unfold oldL;rw [jwm h, if_pos rfl, ← hi];exact ho
theorem psolder_x (id lim : Int) (ro : Bool) (a : Option Addr) (n c : Nat) (L : List Ge) (key : Nat) (w : World) (hn : n = L.length) (hl : Gl w (.slice a n c) L) (hlen : n ≤ 10000) (hf : ∀ g ∈ L, LGe g) : Calls Tryz.prog 23 #[.agg #[.int .i64 id, .int .i64 lim, .bool ro, .slice a n c], .int .u64 (key : Int)] w (OlO ⟨id, lim, ro, L⟩ key w) := by
 have q0 := jqg w (.cells #[.int .i64 id, .int .i64 lim, .bool ro, .slice a n c] 39);have HS := Lh (heap_alloc_new w (.cells #[.int .i64 id, .int .i64 lim, .bool ro, .slice a n c] 39));have B0 := Lh q0;have GLw := Lh hl;have HN := Lh hn;have HLN := Lh hlen;have HWB := Lh (Nat.le_refl w.heap.size);have HLF := Lh (show ∀ j, j < n → Few (L.getD j g0).m from fun j hj => (hf _ (by
  rw [List.getD_eq_getElem?_getD, List.getElem?_eq_getElem (show j < L.length by omega)];exact List.getElem_mem _)).1)
 have PV := Lh (fun W (h : Gl W (.slice a n c) L) => psvalid_x id lim ro a n c L W hn h hlen hf);clear q0 hl hn hlen hf
 go_enter Tryz.func23, Tryz.ntmps23
 go_upto_region 1 with fail
 generalize w.alloc (.cells #[.int .i64 id, .int .i64 lim, .bool ro, .slice a n c] 39) = W0 at *;obtain ⟨⟨y0, y1, y2, y3⟩, -⟩ := bx4 HS.out;go_wp2_with fail
 clear y0 y1 y2 y3;refine (PV.out W0 (jqj GLw.out B0.out)).mono ?_;rintro e W1 ⟨rfl, hb⟩;have HS1 := Lh ((hb.block _ (jqb HS.out)).trans HS.out);have B1 := Lh (B0.out.trans (hb.mono B0.out.size));clear hb HS B0 PV;rcases Classical.em (okS ⟨id, lim, ro, L⟩) with h1 | h1
 case inr =>
  rw [jwf h1];have HK := Lh h1;clear h1;go_wp2_with fail
  go_ret
  exact olO_bad HK.out (ov_nil _ _ _ 0) B1.out
 rw [jwm h1];have HK := Lh h1;clear h1;obtain ⟨⟨y0, y1, y2, y3⟩, -⟩ := bx4 HS1.out;go_wp2_with fail
 clear y0 y1 y2 y3
 go_loopw [5, 15] (fun u5 u15 wr => ∃ i : Nat, i ≤ n ∧ u15 = .int .i64 (i : Int) ∧ OwV 3 1 wr w.heap.size u5 (rowsI (oldF L key (min i (n - 1)))) ∧ Below w.heap.size w wr ∧ w.heap.size ≤ wr.heap.size) (fun _ t _ => n - (intOf t).toNat)
 case atStart => exact ⟨0, Nat.zero_le _, rfl, ov_nil _ _ _ _, B1.out, B1.out.size⟩
 case round =>
  obtain ⟨i, hi, rfl, hov, hB, hsz⟩ := hrel
  rename World => wl
  have OV := Lh hov;have BW := Lh hB;have SZ := Lh hsz;clear hov hB hsz
  by_cases hlt : i < n
  case neg =>
   obtain rfl : n = i := by omega
   have d1 : decide ((n : Int) < (n : Int)) = false := decide_eq_false (by omega);clear hi hlt;go_wp2_with fail
   go_ret
   exact olO_ok HK.out (by have := HN.out; have := HK.out.n1; simp only at *; omega) OV.out BW.out
  have d1 : decide ((i : Int) < (n : Int)) = true := decide_eq_true (by omega);have d2 : decide (i < n) = true := decide_eq_true hlt;have HI := Lh hlt;obtain ⟨b, off, rfl, s0, s1, s2, s3, s4, s5, s6, s7, ga⟩ := gl_at (jqj GLw.out BW.out) hlt;have HFW := Lh (HLF.out i hlt);have HOD := Lh (HK.out.od i (by have := HN.out; simp only; omega)).mode;simp only at HOD;generalize hju : L.getD i g0 = u at *;have HJU := Lh hju;have ON := Lh ga.one;have MSu := Lh ga.ms;have p0 : (0 : Int) ≤ (i : Int) := by omega
  have p1 : (i : Int) < (n : Int) := by omega
  obtain ⟨x0, x1, x2, x3, x4, x5, x6, x7, x8, x9, x10, x11, x12, x13⟩ := ga.cells;have hz := heap_alloc_new wl (.cells #[.int .i64 0, .int .i64 0, .int .i64 0, .int .i64 0, .slice none 0 0, .slice none 0 0, .slice none 0 0, .slice none 0 0, .slice none 0 0, .slice none 0 0, .slice none 0 0, .slice none 0 0, .int .i64 0, .int .i64 0] 55);clear ga hlt hi hju;go_upto_region 7 with ((with_reducible refine jxn wl.heap.size _ #[.int .i64 u.num, .int .i64 u.rev, .int .i64 u.mode, .int .i64 u.size, s0, s1, s2, s3, s4, s5, s6, s7, .int .i64 u.m.live, .int .i64 u.m.garb] ?_ ?_ hz rfl rfl ON.out ?_); exact rfl; exact rfl)
  rw [World.setRow_alloc_new];clear x0 x1 x2 x3 x4 x5 x6 x7 x8 x9 x10 x11 x12 x13;clear p0 p1 d1 d2;have hb := jqg wl (.cells #[.int .i64 u.num, .int .i64 u.rev, .int .i64 u.mode, .int .i64 u.size, s0, s1, s2, s3, s4, s5, s6, s7, .int .i64 u.m.live, .int .i64 u.m.garb] 55);have HX := Lh (heap_alloc_new wl (.cells #[.int .i64 u.num, .int .i64 u.rev, .int .i64 u.mode, .int .i64 u.size, s0, s1, s2, s3, s4, s5, s6, s7, .int .i64 u.m.live, .int .i64 u.m.garb] 55));have OV1 := Lh (jq5 OV.out hb);have BW1 := Lh (BW.out.trans (hb.mono BW.out.size));have SZ1 := Lh (Nat.le_trans SZ.out hb.size);have MS1 := Lh (jqf MSu.out hb);clear hb hz OV BW SZ MSu;generalize wl.alloc (.cells #[.int .i64 u.num, .int .i64 u.rev, .int .i64 u.mode, .int .i64 u.size, s0, s1, s2, s3, s4, s5, s6, s7, .int .i64 u.m.live, .int .i64 u.m.garb] 55) = wx at *;generalize wl.heap.size = gx at *;obtain ⟨x0, x1, x2, x3, x4, x5, x6, x7, x8, x9, x10, x11, x12, x13⟩ := bx14 HX.out;have PLK := plook_any u s0 s1 s2 s3 s4 s5 s6 s7 key wx MS1.out HFW.out;have hw := w64s8 i (by have := HLN.out; have := HI.out; omega);rcases Classical.em (hitB u key) with h1 | h1
  case inr =>
   have hv : hitV u key = #[.int .i64 0, .int .i64 0, .int .i64 0, .int .u64 0, .int .u32 0, .int .i64 0, .int .i64 0, .bool false] := by unfold hitV; rw [if_neg h1]
   rw [hv] at PLK;have PLK := Lh PLK;have HST := Lh (show oldF L key (min (i + 1) (n - 1)) = oldF L key (min i (n - 1)) from by
    by_cases h2 : i + 1 ≤ n - 1
    ·rw [Nat.min_eq_left h2, Nat.min_eq_left (by omega), oldF_no (by have := HN.out; have := HI.out; omega) (by rw [HJU.out]; exact h1)]
    ·rw [Nat.min_eq_right (by omega), Nat.min_eq_right (by have := HI.out; omega)])
   clear hv h1;go_wp2_with fail
   clear x0 x1 x2 x3 x4 x5 x6 x7 x8 x9 x10 x11 x12 x13;refine PLK.out.mono ?_;rintro e W3 ⟨rfl, hb⟩;have hb2 := hb.trans ((jqg W3 (.cells #[.int .i64 0, .int .i64 0, .int .i64 0, .int .u64 0, .int .u32 0, .int .i64 0, .int .i64 0, .bool false] 113)).mono hb.size);have OV2 := Lh (jq5 OV1.out hb2);have BW2 := Lh (BW1.out.trans (hb2.mono BW1.out.size));have SZ2 := Lh (Nat.le_trans SZ1.out hb2.size);clear hb hb2 OV1 BW1 SZ1 PLK;go_wp2_with fail
   go_roundw
   case rel => exact ⟨i + 1, HI.out, by go_num, by rw [HST.out]; exact OV2.out, BW2.out, SZ2.out⟩
   case measure => exact meas8 n i HI.out (by have := HLN.out; omega)
  case inl =>
   obtain ⟨xi, hxi⟩ : ∃ q, q = fnL (gL u.m key) key := ⟨_, rfl⟩;have hv : hitV u key = #[.int .i64 u.num, .int .i64 u.mode, .int .i64 u.rev, .int .u64 (xi.key : Int), .int .u32 (xi.ck : Int), .int .i64 xi.off, .int .i64 xi.sz, .bool true] := by unfold hitV; rw [if_pos h1, ← hxi]
   rw [hv] at PLK;have PLK := Lh PLK;have HHT := Lh h1;clear hv h1 hxi;go_wp2_with fail
   clear x0 x1 x2 x3 x4 x5 x6 x7 x8 x9 x10 x11 x12 x13;refine PLK.out.mono ?_;rintro e W3 ⟨rfl, hb⟩;go_upto_region 8 with fail
   have hb2 := hb.trans ((jqg W3 (.cells #[.int .i64 u.num, .int .i64 u.mode, .int .i64 u.rev, .int .u64 (xi.key : Int), .int .u32 (xi.ck : Int), .int .i64 xi.off, .int .i64 xi.sz, .bool true] 113)).mono hb.size);have HB8 := Lh (heap_alloc_new W3 (.cells #[.int .i64 u.num, .int .i64 u.mode, .int .i64 u.rev, .int .u64 (xi.key : Int), .int .u32 (xi.ck : Int), .int .i64 xi.off, .int .i64 xi.sz, .bool true] 113));have OV2 := Lh (jq5 OV1.out hb2);have BW2 := Lh (BW1.out.trans (hb2.mono BW1.out.size));have SZ2 := Lh (Nat.le_trans SZ1.out hb2.size);clear hb hb2 OV1 BW1 SZ1 PLK HX MS1;generalize W3.alloc (.cells #[.int .i64 u.num, .int .i64 u.mode, .int .i64 u.rev, .int .u64 (xi.key : Int), .int .u32 (xi.ck : Int), .int .i64 xi.off, .int .i64 xi.sz, .bool true] 113) = W4 at *;generalize W3.heap.size = gh at *;obtain ⟨k0, k1, k2, k3, k4, k5, k6, k7⟩ := bx8 HB8.out
   by_cases h2 : i + 1 = n
   ·have hm : u.mode = 1 := HOD.out.2 (by have := HN.out; omega)
    have d3 : decide (u.mode = 1) = true := decide_eq_true hm;have d4 : (u.mode == 1) = true := beq_iff_eq.2 hm;have d5 : (u.mode != 1) = false := by rw [bne, d4]; rfl
    have HST := Lh (show oldF L key (min (i + 1) (n - 1)) = oldF L key (min i (n - 1)) from by
     rw [Nat.min_eq_right (by omega), Nat.min_eq_right (by omega)])
    clear hm h2;go_wp2_with fail
    go_roundw
    case rel => exact ⟨i + 1, HI.out, by go_num, by rw [HST.out]; exact OV2.out, BW2.out, SZ2.out⟩
    case measure => exact meas8 n i HI.out (by have := HLN.out; omega)
   ·have hm : ¬ u.mode = 1 := fun h => h2 (by have := HOD.out.1 h; have := HN.out; omega)
    have d3 : decide (u.mode = 1) = false := decide_eq_false hm;have d4 : (u.mode == 1) = false := beq_false_of_ne hm;have d5 : (u.mode != 1) = true := by rw [bne, d4]; rfl
    have hmi : min i (n - 1) = i := Nat.min_eq_left (by have := HI.out; omega);rw [hmi] at OV2;have HST := Lh (show rowsI (oldF L key (min (i + 1) (n - 1))) = rowsI (oldF L key i) ++ [[.int .i64 u.num]] from by
     rw [Nat.min_eq_left (by have := HI.out; omega), oldF_hit (by have := HN.out; have := HI.out; omega) (by rw [HJU.out]; exact HHT.out), HJU.out])
    clear hm h2 hmi;have HRW := Lh (show Rows 1 [[.int .i64 u.num]] from fun p hp => by
     obtain rfl := List.mem_singleton.1 hp;exact ⟨rfl, fun q hq => by rw [List.mem_singleton.1 hq]; rfl⟩)
    have hb := jqg W4 (.cells #[.int .i64 u.num] 3);have HBK := Lh (heap_alloc_new W4 (.cells #[.int .i64 u.num] 3));have OVb := Lh (jq5 OV2.out hb);have BWb := Lh (BW2.out.trans (hb.mono BW2.out.size));have SZb := Lh (Nat.le_trans SZ2.out hb.size);have HSR := Lh (show SrcV 1 (W4.alloc (.cells #[.int .i64 u.num] 3)) W4.heap.size 0 [[.int .i64 u.num]] from fun k q hk hq => by
     obtain rfl : k = 0 := by simp at hk; omega
     obtain rfl : q = 0 := by omega
     rw [cell_of_row _ W4.heap.size _ _ _ _ HBK.out];rfl)
    have HLL := Lh (show (rowsI (oldF L key i)).length + ([[.int .i64 u.num]] : List (List Value)).length ≤ 100000000 by
     have := oldF_len L key i;simp only [rowsI, List.length_map, List.length_cons, List.length_nil];have := HLN.out; have := HI.out; omega)
    clear hb HBK;go_wp2_with (at_builtin; refine app_v lsI (dst := some 35) (c := 1) (n := 1) (M := [[.int .i64 u.num]]) ?_ ?_ rfl OVb.out HRW.out HSR.out HLL.out SZb.out ?_; exact rfl; exact rfl; intro v9 X9 ho hg hat; have BW9 := Lh (BWb.out.grown hg BWb.out.size (fun k hk => by have := (jq9 OVb.out k hk).1; have := HWB.out; omega)); have OV9 := Lh ho; have SZ9 := Lh (Nat.le_trans SZb.out hg.size); clear ho hg hat OVb BWb)
    go_roundw
    case rel => exact ⟨i + 1, HI.out, by go_num, by rw [HST.out]; exact OV9.out, BW9.out, SZ9.out⟩
    case measure => exact meas8 n i HI.out (by have := HLN.out; omega)
end Go.Proofs.YtimoinfjinmamaaGreat.Gf
