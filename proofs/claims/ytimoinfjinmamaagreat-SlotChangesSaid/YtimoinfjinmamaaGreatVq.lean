/- What is proved here: the laws' told and given: a map of the program and of the reference are the same value. -/
/- What is proved here: the laws' told and given: a map of the program and of the reference are the same value. -/
import Derived.Test.YtimoinfjinmamaaGreatVp
import Derived.Maps.AppendAt
import Derived.Test.YtimoinfjinmamaaGreatVm
namespace Go.Proofs.YtimoinfjinmamaaGreat.Gf
open Joins ChangeShapes WideShapes ChangeAt RowKit Deep By Qt
theorem infoR10 : (Tryz.prog.info? 29).map (·.size) = some 10 := by kernel_rfl
theorem storeR {ops : Array Oper} {rest : List Oper} {x y : Operand} {pos : String} {after : Array Edge} {ty : TypeId} {a : Act} {w : World} {Q : Exit → Act → World → Prop}
 (g : Nat) (old cs : Array Value) (hx : a.eval x = .pointer (some ⟨g, 0, none⟩)) (hy : a.eval y = .agg cs) (hg : w.heap[g]? = some (.cells old 29 (0, 0))) (ho : old.size = 10) (hs : cs.size = 10) (h1 : cs.all (·.oneCell') = true)
 (h : wpList Tryz.prog ops Q rest a (w.setRow g cs)) : wpList Tryz.prog ops Q (⟨none, .store 29 x y, ty, pos, after, none⟩ :: rest) a w :=
 wpList_store_row rfl 29 x y rfl g cs hx hy 29 old hg (by rw [infoR10, hs]) (by omega) h1 h
theorem ro_end {fn : Func} {p : Tmp} {R : Ending → World → Prop} {W : World} {tmps : Array Value} {s0 s1 s2 s3 s4 s5 s6 s7 s8 s9 : Value} (hr : fn.results = #[.cell p 29]) (g : Nat) (hp : tmps.getD p undef = .pointer (some ⟨g, 0, none⟩)) (hg : W.heap[g]? = some (.cells #[s0, s1, s2, s3, s4, s5, s6, s7, s8, s9] 29 (0, 0)))
 (hR : R (.returned (.agg #[s0, s1, s2, s3, s4, s5, s6, s7, s8, s9])) W) : bodyPost Tryz.prog fn R .ret { tmps := tmps, defers := [] } W :=
 bodyPost_ret (results_cell_row hr _ _ g 29 #[s0, s1, s2, s3, s4, s5, s6, s7, s8, s9] (0, 0) _ hp hg Tryz.underlying29 rfl infoR10) rfl hR
end Go.Proofs.YtimoinfjinmamaaGreat.Gf
namespace Go.Proofs.YtimoinfjinmamaaGreat.Gf
open Joins ChangeShapes WideShapes ChangeAt RowKit Deep By Qt
set_option maxRecDepth 100000
set_option maxHeartbeats 204800000
theorem rbytes11_any (v : Value) (L : List Itm) (w : World) (sl : It w v L) (hlen : L.length ≤ 100000) : Calls Tryz.prog 92 #[v] w fun e w' => e = .returned (.int .i64 (byT L)) ∧ w = w' := by
 have SL := Lh sl;obtain ⟨a, c, rfl, -, -⟩ := jqy sl;obtain ⟨n, hn⟩ : ∃ z, z = L.length := ⟨_, rfl⟩;rw [← hn] at SL ⊢;have HN := Lh (And.intro hn hlen);clear sl hn hlen
 go_enter Tryz.func92, Tryz.ntmps92
 go_wp2_with fail
 go_loop [3, 4] (fun t3 t4 => ∃ (i : Nat) (T : Int), i ≤ n ∧ t4 = .int .i64 (i : Int) ∧ t3 = .int .i64 T ∧ Hid (T = byT (L.take i))) (fun _ t => n - (intOf t).toNat)
 case atStart => exact ⟨0, 0, by omega, rfl, rfl, Lh rfl⟩
 case round =>
  obtain ⟨i, T, hi, rfl, rfl, HT⟩ := hrel
  by_cases hlt : i < n
  case neg =>
   have l1 : decide ((i : Int) < (n : Int)) = false := decide_eq_false (by omega);have l2 : decide (i < n) = false := decide_eq_false hlt;have hT : T = byT L := by rw [HT.out, List.take_of_length_le (by have := HN.out.1; omega)]
   clear hlt hi HT;subst hT;go_wp2_with fail
   go_ret
   exact ⟨rfl, rfl⟩
  have l1 : decide ((i : Int) < (n : Int)) = true := decide_eq_true (by omega);have l2 : decide (i < n) = true := decide_eq_true hlt;have HI := Lh hlt;have EI := Lh (show wrap64 ((i : Int) + 1) = ((i + 1 : Nat) : Int) by have := HN.out; unfold wrap64; omega);obtain ⟨b, off, cap, hv, -, -, hc⟩ := jq8 SL.out (by have := HN.out.1; omega);simp only [Value.slice.injEq] at hv;obtain ⟨rfl, -, -⟩ := hv;have C := hc i (by have := HN.out.1; omega);have hok := getT_ok SL.out.1 i;have hst := byT_takeI (L := L) (i := i) (by have := HN.out.1; omega);have hbd := byT_bd (L.take i);have hbd2 := szT_bd (L.getD i z0);have hln : (L.take i).length ≤ 100000 := by rw [List.length_take]; have := HN.out; omega
  obtain ⟨y, hy⟩ : ∃ z, z = L.getD i z0 := ⟨_, rfl⟩;rw [← hy] at C hok hst hbd2;have PS := Lh (jxw y.sz w hok.sz);obtain ⟨k0, k1, k2, k3⟩ := C;obtain ⟨T1, hT1⟩ : ∃ z, z = T + szT y := ⟨_, rfl⟩;have ew := Lh (show wrap64 (T + szI6 y.sz) = T1 by
   have h1 := HT.out;have h2 : szT y = szI6 y.sz := rfl;rw [hT1];unfold wrap64;omega)
  have HT1 := Lh (show T1 = byT (L.take (i + 1)) by rw [hst, hT1, HT.out]);have p0 : (0 : Int) ≤ (i : Int) := by omega
  have p1 : (i : Int) < (n : Int) := by omega
  clear hc hok hst hbd hbd2 hln hy hT1 hlt hi HT;generalize szI6 y.sz = zz at *;go_wp2_with fail
  refine PS.out.mono ?_;rintro e w2 ⟨rfl, rfl⟩;go_wp2_with fail
  go_round
  case rel =>
   have h1 := HI.out;exact ⟨i + 1, T1, by omega, by rw [EI.out], by rw [ew.out], HT1⟩
  case measure =>
   have h1 := HI.out;rw [EI.out];simp [intOf]; omega
theorem rvalid11_any (v : Value) (m : Mp) (w : World) (hv : Mv w v m) (hf : Few m) : Calls Tryz.prog 67 #[v] w fun e w' => e = .returned (.bool (okMb m)) ∧ Below w.heap.size w w' := by
 obtain ⟨s0, s1, s2, s3, s4, s5, s6, s7, rfl, hms⟩ := hv;have HF := Lh hf;have BX := Lh (jqg w (.cells #[s0, s1, s2, s3, s4, s5, s6, s7, .int .i64 m.live, .int .i64 m.garb] 29));have HX := Lh (heap_alloc_new w (.cells #[s0, s1, s2, s3, s4, s5, s6, s7, .int .i64 m.live, .int .i64 m.garb] 29));have MS := Lh (jqf hms BX.out);have SW := Lh (show w.heap.size ≤ (w.alloc (.cells #[s0, s1, s2, s3, s4, s5, s6, s7, .int .i64 m.live, .int .i64 m.garb] 29)).heap.size from BX.out.size);obtain ⟨q, hq⟩ : ∃ q, q = okMb m := ⟨_, rfl⟩;rw [← hq];have HQ := Lh hq;clear hms hf hq
 go_enter Tryz.func67, Tryz.ntmps67
 go_upto_region 1 with fail
 generalize w.alloc (.cells #[s0, s1, s2, s3, s4, s5, s6, s7, .int .i64 m.live, .int .i64 m.garb] 29) = W1 at *;go_wp2_with fail
 go_loopw [3, 4] (fun t3 t4 wr => ∃ (k : Nat) (T : Int), k ≤ 8 ∧ t4 = .int .i64 (k : Int) ∧ t3 = .int .i64 T ∧ Hid (T = byT (m.st.take k).flatten) ∧ Hid (okSt m k) ∧ Hid (Below W1.heap.size W1 wr)) (fun _ t _ => 8 - (intOf t).toNat)
 case atStart => exact ⟨0, 0, by omega, rfl, rfl, Lh rfl, Lh (fun s hs => by omega), Lh (Below.refl _ _)⟩
 case round =>
  obtain ⟨k, T, hk, rfl, rfl, HT, HO, BR⟩ := hrel
  rename World => wl
  have HXl := Lh ((BR.out.block _ (jqb HX.out)).trans HX.out)
  by_cases hlt : k < 8
  case neg =>
   have l1 : decide ((k : Int) < 8) = false := decide_eq_false (by omega);have l2 : decide (k < 8) = false := decide_eq_false hlt;have HO8 := Lh (show okSt m 8 by rw [show 8 = k by omega]; exact HO.out);have HIF := Lh (show okM m ↔ okSt m 8 ∧ m.live = T ∧ 0 ≤ m.garb ∧ m.garb ≤ 1099511627776 by
    have h : T = byT m.st.flatten := by rw [HT.out, List.take_of_length_le (by have := MS.out.1; omega)]
    rw [h];exact okM_iff)
   have BL := Lh (BX.out.trans (BR.out.mono SW.out));obtain ⟨-, -, -, -, -, -, -, -, x8, x9⟩ := bx10 HXl.out;clear hlt hk HO HT
   by_cases c1 : m.live = T
   case neg =>
    have hqf : q = false := by rw [HQ.out]; exact jx8 fun h => c1 (HIF.out.1 h).2.1
    have l3 : (m.live == T) = false := by simpa using c1
    have l4 : decide (m.live = T) = false := decide_eq_false c1;clear c1;subst hqf;go_wp2_with fail
    go_ret
    exact ⟨rfl, BL.out⟩
   have l3 : (m.live == T) = true := by simpa using c1
   have l4 : decide (m.live = T) = true := decide_eq_true c1;have l5 : (T == T) = true := by simp
   by_cases c2 : 0 ≤ m.garb
   case neg =>
    have hqf : q = false := by rw [HQ.out]; exact jx8 fun h => c2 (HIF.out.1 h).2.2.1
    have l6 : decide (0 ≤ m.garb) = false := decide_eq_false c2;clear c1 c2;subst hqf;go_wp2_with fail
    go_ret
    exact ⟨rfl, BL.out⟩
   have l6 : decide (0 ≤ m.garb) = true := decide_eq_true c2
   by_cases c3 : m.garb ≤ 1099511627776
   case neg =>
    have hqf : q = false := by rw [HQ.out]; exact jx8 fun h => c3 (HIF.out.1 h).2.2.2
    have l7 : decide (m.garb ≤ 1099511627776) = false := decide_eq_false c3;clear c1 c2 c3;subst hqf;go_wp2_with fail
    go_ret
    exact ⟨rfl, BL.out⟩
   have hqt : q = true := by rw [HQ.out]; exact okMb_t (HIF.out.2 ⟨HO8.out, c1, c2, c3⟩)
   have l7 : decide (m.garb ≤ 1099511627776) = true := decide_eq_true c3;clear c1 c2 c3;subst hqt;go_wp2_with fail
   go_ret
   exact ⟨rfl, BL.out⟩
  have l1 : decide ((k : Int) < 8) = true := decide_eq_true (by omega);have l2 : decide (k < 8) = true := decide_eq_true hlt;have HK := Lh hlt;obtain ⟨a, c, hsel, hit⟩ := MS.out.2.2.2 k hlt;have hcell := bxk HXl.out hlt hsel;obtain ⟨L, hL⟩ : ∃ z, z = ms m k := ⟨_, rfl⟩;have hln := HF.out k hlt;rw [← hL] at hsel hit hln hcell;have IT := Lh (jqr hit BR.out);have PV := Lh (rvalid8_any _ L wl IT.out);obtain ⟨n, hn⟩ : ∃ z, z = L.length := ⟨_, rfl⟩;rw [← hn] at hcell PV IT hln;have HN := Lh (And.intro hn hln);have HML := Lh hL;have HC := Lh hcell;have p0 : (0 : Int) ≤ (k : Int) := by omega
  have p1 : (k : Int) < 8 := by omega
  clear hsel hit hL hn hlt hk hln
  by_cases c1 : okT L
  case neg =>
   have hqf : q = false := by rw [HQ.out]; exact jx8 fun h => c1 (by rw [HML.out]; exact h.ok k HK.out)
   rw [decide_eq_false c1] at PV;clear c1;subst hqf;go_wp2_with fail
   refine PV.out.mono ?_;rintro e w2 ⟨rfl, hb⟩;have B2 := Lh (BX.out.trans ((BR.out.trans (hb.mono BR.out.size)).mono SW.out));clear hb;go_wp2_with fail
   go_ret
   exact ⟨rfl, B2.out⟩
  rw [decide_eq_true c1] at PV;have HOKL := Lh c1;clear c1;go_wp2_with fail
  refine PV.out.mono ?_;rintro e w2 ⟨rfl, hb⟩;have B2 := Lh (BR.out.trans (hb.mono BR.out.size));have IT2 := Lh (jqr IT.out hb);have hcell := (hb.cell (block_lt_of_cell HC.out)).trans HC.out;clear hb PV l1 l2 IT HC;have HC := Lh hcell;clear hcell;go_wp2_with fail
  go_loop [5] (fun t5 => ∃ i : Nat, i ≤ n ∧ t5 = .int .i64 (i : Int) ∧ Hid (∀ x ∈ L.take i, sp x.key = k)) (fun t => n - (intOf t).toNat)
  case atStart => exact ⟨0, by omega, rfl, Lh (by simp)⟩
  case round =>
   obtain ⟨i, hi, rfl, HS⟩ := hrel;have hcell := HC.out
   by_cases hlt : i < n
   case neg =>
    have l1 : decide ((i : Int) < (n : Int)) = false := decide_eq_false (by omega);have l2 : decide (i < n) = false := decide_eq_false hlt;have HSL := Lh (show ∀ x ∈ L, sp x.key = k from fun x hx => HS.out x (by rw [List.take_of_length_le (by have := HN.out.1; omega)]; exact hx));have HO1 := Lh (show okSt m (k + 1) from fun s hs => by
     rcases Nat.lt_or_ge s k with h | h
     ·exact HO.out s h
     ·obtain rfl : s = k := by omega
      rw [← HML.out];exact ⟨HOKL.out, HSL.out⟩)
    have PB := Lh (rbytes11_any _ L w2 IT2.out (by have := HN.out; omega));have hst := byT_take_st (m := m) MS.out.1 HK.out;have hb1 := byT_bd (m.st.take k).flatten;have hb2 := flat_len HF.out MS.out.1 k (by have := HK.out; omega);have hb3 := byT_bd L;have hk8 := HK.out;obtain ⟨T1, hT1⟩ : ∃ z, z = T + byT L := ⟨_, rfl⟩;have ew := Lh (show wrap64 (T + byT L) = T1 by
     have h1 := HT.out;have h2 := HN.out;rw [hT1];unfold wrap64;omega)
    have HT1 := Lh (show T1 = byT (m.st.take (k + 1)).flatten by rw [hst, hT1, HT.out, HML.out]);clear hlt hi HS HT HO hst hb1 hb2 hb3 hk8 hT1;generalize byT L = bL at *;go_wp2_with fail
    refine PB.out.mono ?_;rintro e w3 ⟨rfl, rfl⟩;go_wp2_with fail
    go_roundw
    case rel =>
     have h1 := HK.out;exact ⟨k + 1, T1, by omega, rfl, by rw [ew.out], HT1, HO1, B2⟩
    case measure =>
     have h1 := HK.out;simp [intOf]; omega
   have l1 : decide ((i : Int) < (n : Int)) = true := decide_eq_true (by omega);have l2 : decide (i < n) = true := decide_eq_true hlt;have HI := Lh hlt;have EI := Lh (show wrap64 ((i : Int) + 1) = ((i + 1 : Nat) : Int) by have := HN.out; unfold wrap64; omega);obtain ⟨b, off, cap, hv, -, -, hc⟩ := jq8 IT2.out (by have := HN.out.1; omega);simp only [Value.slice.injEq] at hv;obtain ⟨rfl, -, -⟩ := hv;have C := hc i (by have := HN.out.1; omega);obtain ⟨y, hy⟩ : ∃ z, z = L.getD i z0 := ⟨_, rfl⟩;rw [← hy] at C;have HY := Lh hy;obtain ⟨k0, k1, k2, k3⟩ := C;have ST := Lh (rstripe_any y.key w2);have p2 : (0 : Int) ≤ (i : Int) := by omega
   have p3 : (i : Int) < (n : Int) := by omega
   clear hc hy hlt hi
   by_cases hsp : sp y.key = k
   case neg =>
    have l3 : (((sp y.key : Nat) : Int) != (k : Int)) = true := by rw [bne_iff_ne]; omega
    have hqf : q = false := by
     rw [HQ.out];refine jx8 fun h => hsp ?_;have h2 := h.sp k HK.out y (by rw [← HML.out, HY.out]; exact jx3 (by have h1 := HI.out; have h2 := HN.out.1; omega));exact h2
    have B3 := Lh (BX.out.trans (B2.out.mono SW.out));clear hsp HS;subst hqf;generalize sp y.key = u at *;go_wp2_with fail
    refine ST.out.mono ?_;rintro e w3 ⟨rfl, rfl⟩;go_wp2_with fail
    go_ret
    exact ⟨rfl, B3.out⟩
   have l3 : (((sp y.key : Nat) : Int) != (k : Int)) = false := by rw [bne_eq_false_iff_eq]; omega
   have HS1 := Lh (spTo_succ HS.out (by have := HI.out; have := HN.out.1; omega) (by rw [← HY.out]; exact hsp));clear hsp HS;generalize sp y.key = u at *;go_wp2_with fail
   refine ST.out.mono ?_;rintro e w3 ⟨rfl, rfl⟩;go_wp2_with fail
   go_round
   case rel =>
    have h1 := HI.out;exact ⟨i + 1, by omega, by rw [EI.out], HS1⟩
   case measure =>
    have h1 := HI.out;rw [EI.out];simp [intOf]; omega
end Go.Proofs.YtimoinfjinmamaaGreat.Gf
namespace Go.Proofs.YtimoinfjinmamaaGreat.Gf
open Joins ChangeShapes WideShapes ChangeAt RowKit Deep By Qt
set_option maxRecDepth 100000
set_option maxHeartbeats 204800000
theorem ritems11_any (v : Value) (m : Mp) (w : World) (hv : Mv w v m) (hf : Few m) : Calls Tryz.prog 69 #[v] w (LI w (jwn m)) := by
 have HF := Lh hf;have PV := Lh (fun W (h : Below w.heap.size w W) => rvalid11_any v m W (jxq hv h) hf);obtain ⟨s0, s1, s2, s3, s4, s5, s6, s7, rfl, hms⟩ := hv;have BX := Lh (jqg w (.cells #[s0, s1, s2, s3, s4, s5, s6, s7, .int .i64 m.live, .int .i64 m.garb] 29));have HX := Lh (heap_alloc_new w (.cells #[s0, s1, s2, s3, s4, s5, s6, s7, .int .i64 m.live, .int .i64 m.garb] 29));have MS := Lh (jqf hms BX.out);have SW := Lh (show w.heap.size ≤ (w.alloc (.cells #[s0, s1, s2, s3, s4, s5, s6, s7, .int .i64 m.live, .int .i64 m.garb] 29)).heap.size from BX.out.size);clear hms hf
 go_enter Tryz.func69, Tryz.ntmps69
 go_upto_region 1 with fail
 generalize w.alloc (.cells #[s0, s1, s2, s3, s4, s5, s6, s7, .int .i64 m.live, .int .i64 m.garb] 29) = W1 at *;have OE := Lh (show OwT W1 W1.heap.size (.slice none 0 0) (m.st.take 0).flatten from owT_nil _ _);go_wp2_with fail
 go_loopw [3, 4] (fun t3 t4 wr => ∃ k : Nat, k ≤ 8 ∧ t4 = .int .i64 (k : Int) ∧ Hid (OwT wr W1.heap.size t3 (m.st.take k).flatten) ∧ Hid (okM m ∨ k = 0) ∧ Hid (Below W1.heap.size W1 wr)) (fun _ t _ => 8 - (intOf t).toNat)
 case atStart => exact ⟨0, by omega, rfl, OE, Lh (Or.inr rfl), Lh (Below.refl _ _)⟩
 case round =>
  clear OE;obtain ⟨k, hk, rfl, HO, HK0, BR⟩ := hrel
  rename World => wl
  obtain ⟨ao, co, rfl, -, -⟩ := jqs HO.out;have HLK := Lh (show (m.st.take k).flatten.length ≤ 8000 by have := flat_len HF.out MS.out.1 k hk; omega);have HXl := Lh ((BR.out.block _ (jqb HX.out)).trans HX.out);have BL := Lh (BX.out.trans (BR.out.mono SW.out));obtain ⟨no, hno⟩ : ∃ z, z = (m.st.take k).flatten.length := ⟨_, rfl⟩;rw [← hno] at HO ⊢;have HNO := Lh hno;clear hno
  by_cases hlt : k < 8
  case neg =>
   have l1 : decide ((k : Int) < 8) = false := decide_eq_false (by omega);have l2 : decide (k < 8) = false := decide_eq_false hlt;have hok : okM m := HK0.out.resolve_right (by omega);have HR := Lh (show jqx (m.st.take k).flatten = jwn m by unfold jwn; rw [if_pos hok, List.take_of_length_le (by have := MS.out.1; omega)]; rfl);have PS := Lh (rsorted_any _ _ wl (jxr HO.out) (by have := HLK.out; omega));rw [HR.out] at PS;clear hlt hk hok HK0;go_wp2_with fail
   refine PS.out.mono ?_;rintro e w5 ⟨⟨v5, rfl, ho5⟩, hb⟩;have B5 := Lh (BL.out.trans (hb.mono BL.out.size));have I5 := Lh (jxr ho5);clear hb ho5 PS;go_wp2_with fail
   go_ret
   exact ⟨⟨_, rfl, I5.out⟩, B5.out⟩
  have l1 : decide ((k : Int) < 8) = true := decide_eq_true (by omega);have l2 : decide (k < 8) = true := decide_eq_true hlt;have PV1 := Lh (PV.out wl BL.out)
  by_cases hok : okM m
  case neg =>
   rw [jx8 hok] at PV1;have hk0 : k = 0 := HK0.out.resolve_left hok;have HI0 := Lh (show jwn m = [] by unfold jwn; rw [if_neg hok]);have PS := Lh (fun W (h : Below wl.heap.size wl W) => rsorted_any _ _ W (jqr (jxr HO.out) h) (by have := HLK.out; omega));have HS0 := Lh (show jqx (m.st.take k).flatten = [] by rw [hk0]; rfl);rw [HS0.out] at PS;obtain ⟨x0, x1, x2, x3, x4, x5, x6, x7, x8, x9⟩ := bx10 HXl.out;clear hlt hk hok hk0;go_wp2_with fail
   clear x0 x1 x2 x3 x4 x5 x6 x7 x8 x9;refine PV1.out.mono ?_;rintro e w4 ⟨rfl, hb4⟩;have B4 := Lh (BL.out.trans (hb4.mono BL.out.size));have PS4 := Lh (PS.out w4 hb4);clear hb4 PV1 PS;go_wp2_with fail
   refine PS4.out.mono ?_;rintro e w5 ⟨⟨v5, rfl, ho5⟩, hb⟩;have B5 := Lh (B4.out.trans (hb.mono B4.out.size));have I5 := Lh (jxr ho5);clear hb ho5 PS4;go_wp2_with fail
   go_ret
   exact ⟨⟨_, rfl, by rw [HI0.out]; exact I5.out⟩, B5.out⟩
  rw [okMb_t hok] at PV1;have HK := Lh hlt;have HOK := Lh hok;have EK := Lh (show wrap64 ((k : Int) + 1) = ((k + 1 : Nat) : Int) by unfold wrap64; omega);obtain ⟨a, c, hsel, hit⟩ := MS.out.2.2.2 k hlt;have CE := Lh (bxk HXl.out hlt hsel);have IT := Lh (jqr hit BR.out);have HST := Lh (show (m.st.take (k + 1)).flatten = (m.st.take k).flatten ++ ms m k by
   rw [List.take_succ_eq_append_getElem (by have := MS.out.1; omega), List.flatten_append, ← ms_of (by have := MS.out.1; omega)];simp)
  have HLE := Lh (show (m.st.take k).flatten.length + (ms m k).length ≤ 100000000 by have := HLK.out; have := HF.out k hlt; omega);have p0 : (0 : Int) ≤ (k : Int) := by omega
  have p1 : (k : Int) < 8 := by omega
  obtain ⟨x0, x1, x2, x3, x4, x5, x6, x7, x8, x9⟩ := bx10 HXl.out;clear hsel hit hlt hk hok HK0;go_wp2_with fail
  clear x0 x1 x2 x3 x4 x5 x6 x7 x8 x9;refine PV1.out.mono ?_;rintro e w4 ⟨rfl, hb4⟩;have O4 := Lh (jqm HO.out hb4);have B4 := Lh (BR.out.trans (hb4.mono BR.out.size));have I4 := Lh (jqr IT.out hb4);have hc4 := (hb4.cell (block_lt_of_cell CE.out)).trans CE.out;have LE := Lh (show W1.heap.size ≤ w4.heap.size from B4.out.size);clear hb4 PV1 HO IT l1 l2;go_wp2_with (at_builtin; refine app_it (dst := some 18) ?_ ?_ O4.out I4.out HLE.out LE.out ?_; exact rfl; exact rfl; intro v9 w9 ho9 hg9; rw [← HST.out] at ho9; have O9 := Lh ho9; have B9 := Lh (jqq B4.out hg9 O4.out LE.out (Nat.le_refl _)); clear ho9 hg9 O4 I4 B4 hc4)
  go_roundw
  case rel =>
   have h1 := HK.out;exact ⟨k + 1, by omega, by first | rfl | rw [EK.out], O9, Lh (Or.inl HOK.out), B9⟩
  case measure =>
   have h1 := HK.out
   first | rw [EK.out] | skip
   simp [intOf]; omega
theorem rget_end {R : Ending → World → Prop} {W : World} {g : Nat} {tmps : Array Value} {k c d s : Value} (hp : tmps.getD 4 undef = .pointer (some ⟨g, 0, none⟩)) (hg : W.heap[g]? = some (.cells #[k, c, d, s] 65 (0, 0)))
 (hR : R (.returned (.tuple #[.agg #[k, c, d, s], tmps.getD 5 undef])) W) : bodyPost Tryz.prog Tryz.f70 R .ret { tmps := tmps, defers := [] } W :=
 bodyPost_ret (jqn rfl _ _ g #[k, c, d, s] hp hg Tryz.underlying65 rfl infoT4) rfl hR
theorem rget11_any (v : Value) (m : Mp) (k : Nat) (w : World) (hv : Mv w v m) (hf : Few m) : Calls Tryz.prog 70 #[v, .int .u64 (k : Int)] w (FD w (jwn m) k) := by
 have PI := Lh (fun W (h : Below w.heap.size w W) => ritems11_any v m W (jxq hv h) hf);obtain ⟨s0, s1, s2, s3, s4, s5, s6, s7, rfl, hms⟩ := hv;have q1 := jqg w (.cells #[s0, s1, s2, s3, s4, s5, s6, s7, .int .i64 m.live, .int .i64 m.garb] 29);have h1 := heap_alloc_new w (.cells #[s0, s1, s2, s3, s4, s5, s6, s7, .int .i64 m.live, .int .i64 m.garb] 29);have hsz : (w.alloc (.cells #[s0, s1, s2, s3, s4, s5, s6, s7, .int .i64 m.live, .int .i64 m.garb] 29)).heap.size = w.heap.size + 1 := by simp
 have q2 := jqg (w.alloc (.cells #[s0, s1, s2, s3, s4, s5, s6, s7, .int .i64 m.live, .int .i64 m.garb] 29)) (.cells #[.int .u64 0, .int .u32 0, .int .i64 0, .int .i64 0] 65);have h2 := heap_alloc_new (w.alloc (.cells #[s0, s1, s2, s3, s4, s5, s6, s7, .int .i64 m.live, .int .i64 m.garb] 29)) (.cells #[.int .u64 0, .int .u32 0, .int .i64 0, .int .i64 0] 65);rw [hsz] at h2;have HZ2 := Lh h2;have HM2 := Lh ((q2.block _ (jqb h1)).trans h1);have B2 := Lh (q1.trans (q2.mono q1.size));clear hms hf q1 q2 h1 h2 hsz
 go_enter Tryz.func70, Tryz.ntmps70
 go_upto_region 1 with fail
 generalize (w.alloc (.cells #[s0, s1, s2, s3, s4, s5, s6, s7, .int .i64 m.live, .int .i64 m.garb] 29)).alloc (.cells #[.int .u64 0, .int .u32 0, .int .i64 0, .int .i64 0] 65) = W2 at *;have PI2 := Lh (PI.out W2 B2.out);clear PI;obtain ⟨x0, x1, x2, x3, x4, x5, x6, x7, x8, x9⟩ := bx10 HM2.out;go_wp2_with fail
 clear x0 x1 x2 x3 x4 x5 x6 x7 x8 x9;refine PI2.out.mono ?_;rintro e w3 ⟨⟨v3, rfl, hi3⟩, hb⟩;have B3 := Lh (B2.out.trans (hb.mono B2.out.size));have HZ3 := Lh ((hb.block _ (jqb HZ2.out)).trans HZ2.out);have PF := Lh (rfind8_any v3 (jwn m) k w3 hi3);unfold FD at PF ⊢;obtain ⟨y, hy⟩ : ∃ y, y = fnL (jwn m) k := ⟨_, rfl⟩;obtain ⟨qq, hq⟩ : ∃ q, q = hasL (jwn m) k := ⟨_, rfl⟩;rw [← hy, ← hq] at PF;have HYQ := Lh (And.intro hy hq);obtain ⟨a3, c3, rfl, -, -⟩ := jqy hi3;generalize (jwn m).length = n3 at *;clear hb PI2 HZ2 HM2 B2 hi3 hy hq;go_wp2_with fail
 refine PF.out.mono ?_;rintro e w5 ⟨rfl, hb⟩;have B5 := Lh (B3.out.trans (hb.mono B3.out.size));have HZ5 := Lh ((hb.block _ (jqb HZ3.out)).trans HZ3.out);clear hb HZ3 B3 PF;obtain ⟨⟨d0, d1, d2, d3⟩, f0, f1, f2, f3⟩ := bx4 HZ5.out;unfold TV;go_wp2_with fail
 exact rget_end (g := w.heap.size + 1) rfl (set4J HZ5.out) ⟨by rw [← HYQ.out.1, ← HYQ.out.2]; rfl, below4J B5.out (Nat.le_succ _)⟩
theorem rlen11_any (v : Value) (m : Mp) (w : World) (hv : Mv w v m) (hf : Few m) : Calls Tryz.prog 65 #[v] w fun e w' => e = .returned (.int .i64 (((jwn m).length : Nat) : Int)) ∧ Below w.heap.size w w' := by
 have PI := Lh (fun W (h : Below w.heap.size w W) => ritems11_any v m W (jxq hv h) hf);obtain ⟨s0, s1, s2, s3, s4, s5, s6, s7, rfl, hms⟩ := hv;have BX := Lh (jqg w (.cells #[s0, s1, s2, s3, s4, s5, s6, s7, .int .i64 m.live, .int .i64 m.garb] 29));have HX := Lh (heap_alloc_new w (.cells #[s0, s1, s2, s3, s4, s5, s6, s7, .int .i64 m.live, .int .i64 m.garb] 29));obtain ⟨n3, hn3⟩ : ∃ z, z = (jwn m).length := ⟨_, rfl⟩;rw [← hn3];have HN3 := Lh hn3;clear hms hf hn3
 go_enter Tryz.func65, Tryz.ntmps65
 go_upto_region 1 with fail
 generalize w.alloc (.cells #[s0, s1, s2, s3, s4, s5, s6, s7, .int .i64 m.live, .int .i64 m.garb] 29) = W1 at *;have PI1 := Lh (PI.out W1 BX.out);obtain ⟨x0, x1, x2, x3, x4, x5, x6, x7, x8, x9⟩ := bx10 HX.out;clear PI;go_wp2_with fail
 clear x0 x1 x2 x3 x4 x5 x6 x7 x8 x9;refine PI1.out.mono ?_;rintro e w3 ⟨⟨v3, rfl, hi3⟩, hb⟩;have B3 := Lh (BX.out.trans (hb.mono BX.out.size));obtain ⟨a3, c3, rfl, -, -⟩ := jqy hi3;rw [← HN3.out];clear hb PI1 hi3;go_wp2_with fail
 go_ret
 exact ⟨rfl, B3.out⟩
end Go.Proofs.YtimoinfjinmamaaGreat.Gf
namespace Go.Proofs.YtimoinfjinmamaaGreat.Gf
open Joins ChangeShapes WideShapes ChangeAt RowKit Deep By Qt
theorem run_app_it1 {W : World} {base g c : Nat} {v : Value} {L : List Itm} {x : Itm} (ty : TypeId) (hv : OwT W base v L) (hx : It W (.slice (some ⟨g, 0, none⟩) 1 c) [x]) (hlm : L.length + 1 ≤ 100000000) (hb : base ≤ W.heap.size) :
 ∃ v' w', (Builtin.append_ #[26, 26] ty #[v, .slice (some ⟨g, 0, none⟩) 1 c]).run Tryz.prog W = .ok v' w' ∧ OwT w' base v' (L ++ [x]) ∧ W.grownBy w' v.ownBlock ∧ (v'.ownBlock = v.ownBlock ∨ v'.ownBlock = some W.heap.size) := by
 obtain ⟨i, hi, hz0, hz1, hz2⟩ := info_parts infoT;obtain ⟨hl, hown⟩ := hv;obtain ⟨hm, a, cp, he, hcp, hcm, hcell⟩ := hx;obtain ⟨b, off, hab, hc⟩ := hcell (by simp);obtain ⟨rfl, -, rfl⟩ : a = some ⟨g, 0, none⟩ ∧ 1 = [x].length ∧ cp = c := by
  simp only [Value.slice.injEq] at he;exact ⟨he.1.symm, he.2.1, he.2.2.symm⟩
 obtain ⟨rfl, rfl⟩ : g = b ∧ 0 = off := by simpa using hab
 have hall : ∀ y ∈ L ++ [x], ItOk y := fun y hy => (List.mem_append.1 hy).elim (hl y) (hm y);obtain ⟨v', w', hr, ho, hg, -, hat⟩ := run_append_own_at (P := Tryz.prog) W base 26 ty 65 i _ 4 32 Tryz.underlying26 hi hz0 hz1 hz2 rfl (by decide) _ _ _ hown ⟨g, 0, none⟩ 1 cp (jw3 [x]) (jxx [x]) (fun j u hu => by rw [add_none]; exact hc j u hu) (cellsT_one [x]) (by unfold maxLen; omega) (by omega) hb;exact ⟨v', w', hr, ⟨hall, by rw [List.length_append, cellsT_append]; exact ho⟩, hg, hat⟩
theorem wp_app_it1 {dst : Option Tmp} {s x : Operand} {pos : String} {after : Array Edge} {ty : TypeId} {gd : Option (Nat × Bool)} {a : Act} {W : World} {K : Act → World → Prop} {Q : Exit → Act → World → Prop}
 {base g c : Nat} {v : Value} {L : List Itm} {y : Itm} (hs : a.eval s = v) (hy : a.eval x = .slice (some ⟨g, 0, none⟩) 1 c) (hv : OwT W base v L) (hx : It W (.slice (some ⟨g, 0, none⟩) 1 c) [y]) (hlm : L.length + 1 ≤ 100000000) (hb : base ≤ W.heap.size)
 (h : ∀ v' w', OwT w' base v' (L ++ [y]) → W.grownBy w' v.ownBlock → (v'.ownBlock = v.ownBlock ∨ v'.ownBlock = some W.heap.size) → K (a.put dst v') w') : Oper.wp Tryz.prog ⟨dst, .call { callee := .builtin .append, args := #[s, x], argTypes := #[26, 26] }, ty, pos, after, gd⟩ a W K Q := by
 obtain ⟨v', w', hr, h2, h3, h4⟩ := run_app_it1 ty hv hx hlm hb;unfold Oper.wp execOp;simp only [resolve, invoke, builtin, Sem.run_bind, Sem.run_pure, Result.andThen_ok, List.map_toArray, List.map_cons, List.map_nil, hs, hy, hr];exact h v' w' h2 h3 h4
structure OwS (w : World) (base : Nat) (vs : List Value) (Ls : List (List Itm)) : Prop where
 own : ∀ k, k < 8 → ∃ v, vs[k]? = some v ∧ OwT w base v (Ls.getD k [])
 apart : ∀ j k, j < 8 → k < 8 → j ≠ k → ∀ u v b, vs[j]? = some u → vs[k]? = some v → u.ownBlock = some b → v.ownBlock ≠ some b
theorem OwS.below {w w' : World} {base : Nat} {vs : List Value} {Ls : List (List Itm)} (h : OwS w base vs Ls) (hb : Below w.heap.size w w') : OwS w' base vs Ls := ⟨fun k hk => by
 obtain ⟨v, h1, h2⟩ := h.own k hk;exact ⟨v, h1, jqm h2 hb⟩, h.apart⟩
theorem OwS.grow {w w' : World} {base u : Nat} {vs vs' : List Value} {Ls : List (List Itm)} {v v' : Value} {L : List Itm} (h : OwS w base vs Ls) (hu : u < 8) (hv : vs[u]? = some v) (ho : OwT w' base v' L) (hg : w.grownBy w' v.ownBlock) (hat : v'.ownBlock = v.ownBlock ∨ v'.ownBlock = some w.heap.size)
 (hd : ∀ k, k < 8 → vs'[k]? = if k = u then some v' else vs[k]?) (hl : Ls.length = 8) : OwS w' base vs' (Ls.set u L) := by
 have hlt : ∀ k x b, k < 8 → vs[k]? = some x → x.ownBlock = some b → b < w.heap.size := fun k x b hk hx hb => by
  obtain ⟨x', h1, h2⟩ := h.own k hk;rw [hx] at h1
  cases h1
  exact (owT_lt h2 b hb).2
 refine ⟨fun k hk => ?_, fun j k hj hk hjk x y b hx hy hxb hyb => ?_⟩
 ·rw [hd k hk]
  by_cases e : k = u
  ·subst e
   refine ⟨v', by rw [if_pos rfl], ?_⟩;rw [List.getD_eq_getElem?_getD, List.getElem?_set_self (by omega)];exact ho
  ·obtain ⟨x, h1, h2⟩ := h.own k hk
   refine ⟨x, by rw [if_neg e]; exact h1, ?_⟩;rw [List.getD_eq_getElem?_getD, List.getElem?_set_ne (fun h => e h.symm), ← List.getD_eq_getElem?_getD];refine owT_keep h2 fun b hb => ?_;exact hg.block b (hlt k x b hk h1 hb) (fun e2 => h.apart k u hk hu e x v b h1 hv hb e2.symm)
 ·rw [hd j hj] at hx
  rw [hd k hk] at hy
  by_cases e1 : j = u
  ·subst e1
   rw [if_pos rfl] at hx;rw [if_neg (fun h => hjk h.symm)] at hy
   cases hx
   have hb := hlt k y b hk hy hyb;rcases hat with h1 | h1
   ·rw [h1] at hxb
    exact h.apart j k hj hk hjk v y b hv hy hxb hyb
   ·rw [h1] at hxb
    cases hxb
    omega
  ·rw [if_neg e1] at hx
   by_cases e2 : k = u
   ·subst e2
    rw [if_pos rfl] at hy
    cases hy
    have hb := hlt j x b hj hx hxb;rcases hat with h1 | h1
    ·rw [h1] at hyb
     exact h.apart j k hj hk hjk x v b hx hv hxb hyb
    ·rw [h1] at hyb
     cases hyb
     omega
   ·rw [if_neg e2] at hy
    exact h.apart j k hj hk hjk x y b hx hy hxb hyb
end Go.Proofs.YtimoinfjinmamaaGreat.Gf
namespace Go.Proofs.YtimoinfjinmamaaGreat.Gf
open Joins ChangeShapes WideShapes ChangeAt RowKit Deep By Qt
theorem split_snoc (L : List Itm) (x : Itm) : jwp (L ++ [x]) = (jwp L).set (sp x.key) (fS (sp x.key) L ++ [x]) := by
 refine st_ext (jxc _) (by rw [List.length_set]; exact jxc _) fun s hs => ?_;rw [jwr _ hs, List.getD_eq_getElem?_getD]
 by_cases e : sp x.key = s
 ·subst e
  rw [List.getElem?_set_self (by rw [jxc]; exact hs)];simp [fS, List.filter_append]
 ·rw [List.getElem?_set_ne e, ← List.getD_eq_getElem?_getD, jwr _ hs]
  unfold fS;rw [List.filter_append, List.filter_cons_of_neg (by simpa using e), List.filter_nil, List.append_nil]
theorem ows_nil (w : World) (base : Nat) : OwS w base [.slice none 0 0, .slice none 0 0, .slice none 0 0, .slice none 0 0, .slice none 0 0, .slice none 0 0, .slice none 0 0, .slice none 0 0] (jwp []) where
 own := fun k hk => by
  refine ⟨.slice none 0 0, ?_, ?_⟩
  ·obtain rfl | rfl | rfl | rfl | rfl | rfl | rfl | rfl : k = 0 ∨ k = 1 ∨ k = 2 ∨ k = 3 ∨ k = 4 ∨ k = 5 ∨ k = 6 ∨ k = 7 := by omega
   all_goals rfl
  ·rw [jwr _ hk]
   exact owT_nil w base
 apart := fun j k hj hk hjk u v b hu hv hub hvb => by
  have h : ∀ j, j < 8 → ∀ u, [(Value.slice none 0 0), .slice none 0 0, .slice none 0 0, .slice none 0 0, .slice none 0 0, .slice none 0 0, .slice none 0 0, .slice none 0 0][j]? = some u → u = .slice none 0 0 := fun j hj u hu => by
   obtain rfl | rfl | rfl | rfl | rfl | rfl | rfl | rfl : j = 0 ∨ j = 1 ∨ j = 2 ∨ j = 3 ∨ j = 4 ∨ j = 5 ∨ j = 6 ∨ j = 7 := by omega
   all_goals exact (Option.some.inj hu).symm
  rw [h j hj u hu] at hub
  cases hub
theorem OwS.store {w : World} {g i : Nat} {vs : List Value} {Ls : List (List Itm)} (h : OwS w (g + 1) vs Ls) (v : Value) : OwS (w.setCell ⟨g, i, none⟩ v) (g + 1) vs Ls := ⟨fun k hk => by
 obtain ⟨x, h1, h2⟩ := h.own k hk;exact ⟨x, h1, owT_keep h2 fun b hb => heap_setCell_other _ _ _ _ (show b ≠ g by have := (owT_lt h2 b hb).1; omega)⟩, h.apart⟩
end Go.Proofs.YtimoinfjinmamaaGreat.Gf
namespace Go.Proofs.YtimoinfjinmamaaGreat.Gf
open Joins ChangeShapes WideShapes ChangeAt RowKit Deep By Qt
structure SBx (w : World) (L : List (Nat × Obj)) (w' : World) : Prop where
 bel : Below w.heap.size w w'
 box : ∀ p ∈ L, w'.heap[p.1]? = some p.2
theorem SBx.below {w a b : World} {L : List (Nat × Obj)} (h : SBx w L a) (hb : Below a.heap.size a b) : SBx w L b := ⟨h.bel.trans (hb.mono h.bel.size), fun p hp => (hb.block _ (jqb (h.box p hp))).trans (h.box p hp)⟩
theorem SBx.drew {w a : World} {L : List (Nat × Obj)} (h : SBx w L a) : SBx w L a.drew := ⟨h.bel.drew, h.box⟩
structure Gd (m : Mp) (n : Nat) : Prop where
 ok : okM m
 len : m.st.length = 8
 flat : m.st.flatten.length ≤ n
theorem Gd.few {m : Mp} {n : Nat} (h : Gd m n) (hn : n ≤ 1000) : Few m := fun k hk => by
 rw [ms_of (by rw [h.len]; exact hk)];exact Nat.le_trans (List.sublist_flatten_of_mem (List.getElem_mem _)).length_le (Nat.le_trans h.flat hn)
theorem Gd.up {m : Mp} {n k : Nat} (h : Gd m n) (hk : n ≤ k) : Gd m k := ⟨h.ok, h.len, Nat.le_trans h.flat hk⟩
theorem Gd.lenI {m : Mp} {n : Nat} (h : Gd m n) : (iL m).length = m.st.flatten.length := by
 have hn := nodup_flat h.ok h.len 8 (Nat.le_refl _);rw [List.take_of_length_le (by rw [h.len]; exact Nat.le_refl _)] at hn;have hn2 : ((iL m).map (·.key)).Nodup := by
  have h1 := asc_iL m;unfold Asc at h1;unfold List.Nodup;rw [List.pairwise_map];exact h1.imp fun h => Nat.ne_of_lt h
 have hp : ((iL m).map (·.key)).Perm (m.st.flatten.map (·.key)) := by
  refine (List.perm_ext_iff_of_nodup hn2 hn).2 fun q => ?_;have hk : ∀ L : List Itm, q ∈ L.map (·.key) ↔ lk L q ≠ none := fun L => by
   rw [Ne, jxs]
   constructor
   ·intro h1 h2
    obtain ⟨x, hx, rfl⟩ := List.mem_map.1 h1;exact h2 x hx rfl
   ·intro h1
    cases c : lk L q with
    | none => exact absurd (jxs.1 c) h1
    | some y => exact List.mem_map.2 ⟨y, (lk_some c).1, (lk_some c).2⟩
  rw [hk, hk];unfold iL;rw [jws]
 have h2 := hp.length_eq
 rwa [List.length_map, List.length_map] at h2
theorem Gd.lenM {m : Mp} {n : Nat} (h : Gd m n) : lenM m = (iL m).length := by
 unfold Gf.lenM;rw [if_pos h.ok, h.lenI]
end Go.Proofs.YtimoinfjinmamaaGreat.Gf
namespace Go.Proofs.YtimoinfjinmamaaGreat.Gf
open Joins ChangeShapes WideShapes ChangeAt RowKit Deep By Qt
set_option maxRecDepth 100000
set_option maxHeartbeats 204800000
theorem ms_own {w : World} {base : Nat} {c0 c1 c2 c3 c4 c5 c6 c7 : Value} {S : List Itm} {l g : Int} (h : OwS w base [c0, c1, c2, c3, c4, c5, c6, c7] (jwp S)) (hl : J64 l) (hg : J64 g) : Ms w [c0, c1, c2, c3, c4, c5, c6, c7] ⟨jwp S, l, g⟩ := ⟨jxc _, hl, hg, fun k hk => by
 obtain ⟨v, h1, h2⟩ := h.own k hk;rw [jwr _ hk] at h2;have e : ms ⟨jwp S, l, g⟩ k = fS k S := jwr _ hk;rw [e];have h3 := jxr h2;obtain ⟨a, q, rfl, -, -⟩ := jqs h2;exact ⟨a, q, h1, h3⟩⟩
theorem jww {Y : World} {p : Nat} {vs : List Value} {m : Mp} {cs : Array Value} (h : Ms Y vs m) (hz : Y.heap[p]? = some (.cells #[.slice none 0 0, .slice none 0 0, .slice none 0 0, .slice none 0 0, .slice none 0 0, .slice none 0 0, .slice none 0 0, .slice none 0 0, .int .i64 0, .int .i64 0] 29 (0, 0))) : Ms (Y.setRow p cs) vs m := ⟨h.1, h.2.1, h.2.2.1, fun k hk => by
 obtain ⟨a, c, h1, h2⟩ := h.2.2.2 k hk;exact ⟨a, c, h1, it_keepM h2 hz zero_u64 fun b hb => setRow_other _ _ _ _ hb⟩⟩
theorem own_one {w : World} {base : Nat} {Ls : List (List Itm)} {c0 c1 c2 c3 c4 c5 c6 c7 : Value} (h : OwS w base [c0, c1, c2, c3, c4, c5, c6, c7] Ls) (l g : Int) : (#[c0, c1, c2, c3, c4, c5, c6, c7, .int .i64 l, .int .i64 g] : Array Value).all (·.oneCell') = true := by
 have hk : ∀ k v, k < 8 → [c0, c1, c2, c3, c4, c5, c6, c7][k]? = some v → v.oneCell' = true := fun k v hk hv => by
  obtain ⟨u, h1, h2⟩ := h.own k hk;rw [hv] at h1
  cases h1
  obtain ⟨a, q, rfl, -, -⟩ := jqs h2;rfl
 have e0 := hk 0 c0 (by decide) rfl;have e1 := hk 1 c1 (by decide) rfl;have e2 := hk 2 c2 (by decide) rfl;have e3 := hk 3 c3 (by decide) rfl;have e4 := hk 4 c4 (by decide) rfl;have e5 := hk 5 c5 (by decide) rfl;have e6 := hk 6 c6 (by decide) rfl;have e7 := hk 7 c7 (by decide) rfl;simp [e0, e1, e2, e3, e4, e5, e6, e7, show (Value.int .i64 l).oneCell' = true from rfl, show (Value.int .i64 g).oneCell' = true from rfl]
theorem rfrom_any (v : Value) (L : List Itm) (gb : Int) (w : World) (hl : It w v L) (hlen : L.length ≤ 1000) (hgb : J64 gb) : Calls Tryz.prog 71 #[v, .int .i64 gb] w (MO w (jxg L gb)) := by
 have SL := Lh hl;have ON8 := Lh (jwx (mp0_ms w) 0 0);obtain ⟨a, c, rfl, -, hcm⟩ := jqy hl;obtain ⟨n, hn⟩ : ∃ z, z = L.length := ⟨_, rfl⟩;rw [← hn] at SL hlen ⊢;have HN := Lh (And.intro hn hlen);have HJ := Lh hgb;have BX := Lh (jqg w (.cells #[.slice none 0 0, .slice none 0 0, .slice none 0 0, .slice none 0 0, .slice none 0 0, .slice none 0 0, .slice none 0 0, .slice none 0 0, .int .i64 0, .int .i64 0] 29));have HZ := Lh (heap_alloc_new w (.cells #[.slice none 0 0, .slice none 0 0, .slice none 0 0, .slice none 0 0, .slice none 0 0, .slice none 0 0, .slice none 0 0, .slice none 0 0, .int .i64 0, .int .i64 0] 29));clear hl hn hlen hcm hgb
 go_enter Tryz.func71, Tryz.ntmps71
 go_upto_region 1 with fail
 generalize w.alloc (.cells #[.slice none 0 0, .slice none 0 0, .slice none 0 0, .slice none 0 0, .slice none 0 0, .slice none 0 0, .slice none 0 0, .slice none 0 0, .int .i64 0, .int .i64 0] 29) = W1 at *;go_wp2_with fail
 go_loopw [5] (fun t wr => ∃ i : Nat, i ≤ n ∧ t = .int .i64 (i : Int) ∧ Hid (∀ x ∈ L.take i, okI x) ∧ Hid (wr.heap[w.heap.size]? = some (.cells #[.slice none 0 0, .slice none 0 0, .slice none 0 0, .slice none 0 0, .slice none 0 0, .slice none 0 0, .slice none 0 0, .slice none 0 0, .int .i64 0, .int .i64 0] 29 (0, 0))) ∧ Hid (Below w.heap.size w wr)) (fun t _ => n - (intOf t).toNat)
 case atStart => exact ⟨0, by omega, rfl, Lh (by simp), HZ, BX⟩
 case round =>
  obtain ⟨i, hi, rfl, HT, HZ1, BR⟩ := hrel
  rename World => wl
  clear HZ BX
  by_cases hlt : i < n
  case neg =>
   obtain rfl : i = n := by omega
   have hall : L.take i = L := List.take_of_length_le (by have := HN.out.1; omega);rw [hall] at HT;clear hlt hi hall;have l1 : decide ((i : Int) < (i : Int)) = false := decide_eq_false (by omega);have l2 : decide (i < i) = false := decide_eq_false (by omega);go_upto_region 6 with fail
   clear l1 l2
   by_cases hg0 : gb < 0
   case pos =>
    have HE := Lh (show jxg L gb = mp0 by unfold jxg; rw [if_neg (fun h => by have := h.2.1; omega)]);have l1 : decide (gb < 0) = true := decide_eq_true hg0;clear hg0;go_wp2_with ((with_reducible refine storeR w.heap.size _ #[.slice none 0 0, .slice none 0 0, .slice none 0 0, .slice none 0 0, .slice none 0 0, .slice none 0 0, .slice none 0 0, .slice none 0 0, .int .i64 0, .int .i64 0] ?_ ?_ HZ1.out rfl rfl ON8.out ?_); exact rfl; exact rfl)
    refine ro_end (fn := Tryz.f71) rfl w.heap.size rfl (setRow_heap _ _ _ _ _ _ HZ1.out) ?_;rw [HE.out];exact ⟨⟨_, rfl, _, _, _, _, _, _, _, _, rfl, mp0_ms _⟩, jqd BR.out (Nat.le_refl _) _⟩
   have l1 : decide (gb < 0) = false := decide_eq_false hg0
   by_cases hg1 : 1099511627776 < gb
   case pos =>
    have HE := Lh (show jxg L gb = mp0 by unfold jxg G40; rw [if_neg (fun h => by have := h.2.2; omega)]);have l2 : decide (1099511627776 < gb) = true := decide_eq_true hg1;clear hg0 hg1;go_wp2_with ((with_reducible refine storeR w.heap.size _ #[.slice none 0 0, .slice none 0 0, .slice none 0 0, .slice none 0 0, .slice none 0 0, .slice none 0 0, .slice none 0 0, .slice none 0 0, .int .i64 0, .int .i64 0] ?_ ?_ HZ1.out rfl rfl ON8.out ?_); exact rfl; exact rfl)
    refine ro_end (fn := Tryz.f71) rfl w.heap.size rfl (setRow_heap _ _ _ _ _ _ HZ1.out) ?_;rw [HE.out];exact ⟨⟨_, rfl, _, _, _, _, _, _, _, _, rfl, mp0_ms _⟩, jqd BR.out (Nat.le_refl _) _⟩
   have l2 : decide (1099511627776 < gb) = false := decide_eq_false hg1;have HE := Lh (show jxg L gb = ⟨jwp (jqx L), byT (jqx L), gb⟩ by unfold jxg G40; rw [if_pos ⟨HT.out, by omega, by omega⟩]);clear hg0 hg1;go_upto_region 8 with fail
   clear l1 l2;have PS := Lh (rsorted_any _ L wl (jqr SL.out BR.out) (by have := HN.out; omega));have hlS := jqz L;have hbS := byT_bd (jqx L);have HLS := Lh (show (jqx L).length ≤ 1000 by have := HN.out; omega);have HBS := Lh (show J64 (byT (jqx L)) by have := HLS.out; unfold J64; omega);clear hlS hbS;generalize jqx L = S at *;go_wp2_with fail
   refine PS.out.mono ?_;rintro e w3 ⟨⟨v3, rfl, ho3⟩, hb⟩;have IS3 := Lh (jxr ho3);obtain ⟨aS, cS, rfl, -, -⟩ := jqs ho3;have HZ3 := Lh ((hb.block _ (jqb HZ1.out)).trans HZ1.out);have B3 := Lh (BR.out.trans (hb.mono BR.out.size));have PB := Lh (rbytes11_any _ S w3 IS3.out (Nat.le_trans HLS.out (by decide)));obtain ⟨nS, hnS⟩ : ∃ z, z = S.length := ⟨_, rfl⟩;rw [← hnS] at IS3 PB HLS ⊢;have HNS := Lh hnS;clear ho3 hb PS hnS HZ1 BR;go_wp2_with fail
   refine PB.out.mono ?_;rintro e w3' ⟨rfl, rfl⟩;have hz4 := heap_alloc_new w3 (.cells #[.slice none 0 0, .slice none 0 0, .slice none 0 0, .slice none 0 0, .slice none 0 0, .slice none 0 0, .slice none 0 0, .slice none 0 0, .int .i64 0, .int .i64 0] 29);have ON4 := Lh (jwx (mp0_ms w3) (byT S) gb);go_upto_region 10 with ((with_reducible refine storeR w3.heap.size _ #[.slice none 0 0, .slice none 0 0, .slice none 0 0, .slice none 0 0, .slice none 0 0, .slice none 0 0, .slice none 0 0, .slice none 0 0, .int .i64 (byT S), .int .i64 gb] ?_ ?_ hz4 rfl rfl ON4.out ?_); exact rfl; exact rfl)
   rw [World.setRow_alloc_new];have q4 := jqg w3 (.cells #[.slice none 0 0, .slice none 0 0, .slice none 0 0, .slice none 0 0, .slice none 0 0, .slice none 0 0, .slice none 0 0, .slice none 0 0, .int .i64 (byT S), .int .i64 gb] 29);have HG4 := Lh (heap_alloc_new w3 (.cells #[.slice none 0 0, .slice none 0 0, .slice none 0 0, .slice none 0 0, .slice none 0 0, .slice none 0 0, .slice none 0 0, .slice none 0 0, .int .i64 (byT S), .int .i64 gb] 29));have B4 := Lh q4;clear hz4 q4 ON4 PB;generalize w3.alloc (.cells #[.slice none 0 0, .slice none 0 0, .slice none 0 0, .slice none 0 0, .slice none 0 0, .slice none 0 0, .slice none 0 0, .slice none 0 0, .int .i64 (byT S), .int .i64 gb] 29) = w4 at *;go_wp2_with fail
   go_loopw [7] (fun t wr => ∃ i : Nat, i ≤ nS ∧ t = .int .i64 (i : Int) ∧ ∃ c0 c1 c2 c3 c4 c5 c6 c7 : Value, Hid (wr.heap[w3.heap.size]? = some (.cells #[c0, c1, c2, c3, c4, c5, c6, c7, .int .i64 (byT S), .int .i64 gb] 29 (0, 0))) ∧ Hid (OwS wr (w3.heap.size + 1) [c0, c1, c2, c3, c4, c5, c6, c7] (jwp (S.take i))) ∧ Hid (Below w3.heap.size w3 wr)) (fun t _ => nS - (intOf t).toNat)
   case atStart => exact ⟨0, by omega, rfl, _, _, _, _, _, _, _, _, HG4, Lh (by rw [List.take_zero]; exact ows_nil _ _), B4⟩
   case round =>
    obtain ⟨i, hi, rfl, c0, c1, c2, c3, c4, c5, c6, c7, HG, OS, BR⟩ := hrel
    rename World => wl
    clear HG4 B4
    by_cases hlt : i < nS
    case neg =>
     have l1 : decide ((i : Int) < (nS : Int)) = false := decide_eq_false (by omega);have l2 : decide (i < nS) = false := decide_eq_false hlt;have OSN := Lh (show OwS wl (w3.heap.size + 1) [c0, c1, c2, c3, c4, c5, c6, c7] (jwp S) by
      have h1 := OS.out
      rwa [List.take_of_length_le (by have := HNS.out; omega)] at h1)
     have ON := Lh (own_one OSN.out (byT S) gb);have MSN := Lh (ms_own (l := byT S) (g := gb) OSN.out HBS.out HJ.out);have HZ5 := Lh ((BR.out.block _ (jqb HZ3.out)).trans HZ3.out);have BZ := Lh (B3.out.trans (BR.out.mono B3.out.size));obtain ⟨x0, x1, x2, x3, x4, x5, x6, x7, x8, x9⟩ := bx10 HG.out;clear hlt hi OS OSN;go_wp2_with ((with_reducible refine storeR w.heap.size _ #[c0, c1, c2, c3, c4, c5, c6, c7, .int .i64 (byT S), .int .i64 gb] ?_ ?_ HZ5.out rfl rfl ON.out ?_); exact rfl; exact rfl)
     refine ro_end (fn := Tryz.f71) rfl w.heap.size rfl (setRow_heap _ _ _ _ _ _ HZ5.out) ?_;rw [HE.out];exact ⟨⟨_, rfl, c0, c1, c2, c3, c4, c5, c6, c7, rfl, jww MSN.out HZ5.out⟩, jqd BZ.out (Nat.le_refl _) _⟩
    have l1 : decide ((i : Int) < (nS : Int)) = true := decide_eq_true (by omega);have l2 : decide (i < nS) = true := decide_eq_true hlt;have HI := Lh hlt;have EW := Lh (show wrap64 ((i : Int) + 1) = ((i + 1 : Nat) : Int) by have := HLS.out; unfold wrap64; omega);obtain ⟨b, off, cap, hv, -, -, hc⟩ := jq8 IS3.out (by have := HNS.out; omega);obtain ⟨rfl, -⟩ : aS = some ⟨b, off, none⟩ ∧ (nS = S.length ∧ cS = cap) := by simpa using hv
    have hC := hc i (by have := HNS.out; omega);obtain ⟨x, hx⟩ : ∃ z, z = S.getD i z0 := ⟨_, rfl⟩;rw [← hx] at hC;have HX := Lh hx;have hxo : ItOk x := by rw [hx]; exact IS3.out.1 _ (jx3 (by have := HNS.out; omega))
    have HXO := Lh hxo;have CX := Lh hC;have ST := Lh (fun W => rstripe_any x.key W);obtain ⟨u, hu⟩ : ∃ u, u = sp x.key := ⟨_, rfl⟩;rw [← hu] at ST;have HU := Lh (And.intro hu (show u < 8 by rw [hu]; exact sp_lt _));have htk : S.take (i + 1) = S.take i ++ [x] := by
     rw [List.take_succ_eq_append_getElem (show i < S.length by have := HI.out; have := HNS.out; omega), HX.out]
     congr 2
     simp [List.getD, show i < S.length by have := HI.out; have := HNS.out; omega]
    have HST := Lh (show (jwp (S.take i)).set u (fS u (S.take i) ++ [x]) = jwp (S.take (i + 1)) by rw [htk, split_snoc, ← hu]);have HLN := Lh (show (fS u (S.take i)).length + 1 ≤ 100000000 by
     have h1 : (fS u (S.take i)).length ≤ (S.take i).length := List.length_filter_le _ _;rw [List.length_take] at h1;have := HNS.out;have := HLS.out;omega)
    obtain ⟨k0, k1, k2, k3⟩ := CX.out.below BR.out;have p0 : (0 : Int) ≤ (i : Int) := by omega
    have p1 : (i : Int) < (nS : Int) := by omega
    clear hv hc hC hx hlt hi hxo htk hu;go_upto_region 13 with fail
    go_wp2_with fail
    refine (ST.out wl).mono ?_;rintro e w2' ⟨rfl, rfl⟩;clear ST;go_upto_region 14 with fail
    clear k0 k1 k2 k3 l1 l2;obtain ⟨vu, hsel, hown⟩ := OS.out.own u HU.out.2;have HS := Lh hsel;have q0 : (0 : Int) ≤ (u : Int) := by omega
    have q1 : (u : Int) < 8 := by have := HU.out.2; omega
    clear hsel hown;refine jq0 ?_;refine jqh (fun W' => Below w3.heap.size w3 W') [0, 1, 2, 3, 5, 6, 7, 8, 11] 5 (by kernel_rfl) (fun _ _ _ _ _ h => h.elim) (by kernel_rfl) (by rfl) (by rfl) BR.out.drew ?_;simp only [jq2, List.filterMap_cons, List.filterMap_nil, List.getElem?_toArray, List.getElem?_cons_zero, List.getElem?_cons_succ];refine jqc (fun K hK => ?_);go_simp;refine ⟨_, fun _ _ => rfl, hK _ ?_⟩;clear hK K;refine jqc (fun K hK => ?_);go_simp;refine ⟨_, fun _ _ => rfl, hK _ ?_⟩;clear hK K;refine jqc (fun K hK => ?_);go_simp;refine ⟨_, fun _ _ => rfl, hK _ ?_⟩;clear hK K;refine jqc (fun K hK => ?_);go_simp;refine ⟨_, fun _ _ => rfl, hK _ ?_⟩;clear hK K;refine jqc (fun K hK => ?_);go_simp;refine ⟨_, fun _ _ => rfl, hK _ ?_⟩;clear hK K;refine jqc (fun K hK => ?_);go_simp;refine ⟨_, fun _ _ => rfl, hK _ ?_⟩;clear hK K;refine jqc (fun K hK => ?_);go_simp;refine ⟨_, fun _ _ => rfl, hK _ ?_⟩;clear hK K;refine jqc (fun K hK => ?_);go_simp;refine ⟨.agg #[.int .u64 (x.key : Int), .int .u32 (x.ck : Int), .int .i64 x.off, .int .i64 x.sz], fun w' hw' => by
     obtain ⟨k0, k1, k2, k3⟩ := CX.out.below hw';go_simp, hK _ ?_⟩
    clear hK K;refine jqc (fun K hK => ?_);go_simp;refine ⟨_, fun _ _ => rfl, hK _ ?_⟩;clear hK K;refine jqp ?_;have S0 := Lh (Below.refl wl.heap.size wl).drew;have SD := Lh BR.out.drew;have HGD := Lh ((S0.out.block _ (jqb HG.out)).trans HG.out);have OSD := Lh (OS.out.below S0.out);have GD := Lh (show w3.heap.size + 1 ≤ wl.drew.heap.size from Nat.le_trans (jqb HG.out) S0.out.size);clear S0 HG OS BR;generalize wl.drew = wD at *;refine jq6 4 9 rfl rfl rfl rfl (by kernel_rfl) (fun K hK => ?_) (fun K hK => ?_)
    ·have hc := bxk HGD.out HU.out.2 HS.out
     go_simp
     try simp only [hc]
     refine hK _ _ SD.out ?_;clear hK K hc;refine jqk 9 rfl rfl (by kernel_rfl) fun K hK => ?_;go_simp;have hb := jqg wD (.cells #[.int .u64 (x.key : Int), .int .u32 (x.ck : Int), .int .i64 x.off, .int .i64 x.sz] 65);refine hK _ _ (SD.out.trans (hb.mono SD.out.size)) ?_;clear hK K;have SE := Lh (SD.out.trans (hb.mono SD.out.size));have HGE := Lh ((hb.block _ (jqb HGD.out)).trans HGD.out);have OSE := Lh (OSD.out.below hb);have GE := Lh (show w3.heap.size + 1 ≤ (wD.alloc (.cells #[.int .u64 (x.key : Int), .int .u32 (x.ck : Int), .int .i64 x.off, .int .i64 x.sz] 65)).heap.size from Nat.le_trans GD.out hb.size);have ITE := Lh (jx1 HXO.out (heap_alloc_new wD (.cells #[.int .u64 (x.key : Int), .int .u32 (x.ck : Int), .int .i64 x.off, .int .i64 x.sz] 65)));clear hb SD HGD OSD GD;generalize wD.alloc (.cells #[.int .u64 (x.key : Int), .int .u32 (x.ck : Int), .int .i64 x.off, .int .i64 x.sz] 65) = wE at *;generalize wD.heap.size = ge at *;refine jqk 10 rfl rfl (by kernel_rfl) fun K hK => ?_;obtain ⟨v2, hs2, ow⟩ := OSE.out.own u HU.out.2;obtain rfl : vu = v2 := Option.some.inj (HS.out.symm.trans hs2);clear hs2;rw [jwr _ HU.out.2] at ow;refine wp_app_it1 (base := w3.heap.size + 1) (v := vu) (L := fS u (S.take i)) (y := x) rfl rfl ow ITE.out HLN.out GE.out (fun v7 w7 ho hg hat => ?_);obtain ⟨a7, q7, hv7, -, -⟩ := jqs ho;generalize (fS u (S.take i) ++ [x]).length = n7 at hv7;subst hv7;have S7 := Lh (jqq SE.out hg ow (Nat.le_trans (Nat.le_succ w3.heap.size) GE.out) (Nat.le_succ w3.heap.size));refine hK _ _ S7.out ?_;clear hK K;have HG7 := Lh ((hg.block w3.heap.size GE.out (fun e => by have := owT_lt ow w3.heap.size e.symm; omega)).trans HGE.out);obtain ⟨d0, d1, d2, d3, d4, d5, d6, d7, he, hd⟩ := set8 c0 c1 c2 c3 c4 c5 c6 c7 (.slice a7 n7 q7) (.int .i64 (byT S)) (.int .i64 gb) u HU.out.2;have os7 := (OSE.out.grow HU.out.2 HS.out ho hg hat hd (jxc _)).store (i := u) (.slice a7 n7 q7);rw [HST.out] at os7;have OS8 := Lh os7;have hg8 := heap_setCell_same w7 w3.heap.size u _ _ (.slice a7 n7 q7) HG7.out;rw [he] at hg8;have HG8 := Lh hg8;have S8 := Lh (S7.out.setCell (p := ⟨w3.heap.size, u, none⟩) (Nat.le_refl _) (.slice a7 n7 q7));have hc7 := bxk HG7.out HU.out.2 HS.out;have fz7 := frozen_of_row w7 w3.heap.size u _ _ HG7.out;clear os7 hg8 he hd ho hg hat ow HG7 OSE HGE SE GE ITE;refine jqk 12 rfl rfl (by kernel_rfl) fun K hK => ?_;go_simp;refine hK _ _ S7.out ?_;clear hK K;refine jqk 13 rfl rfl (by kernel_rfl) fun K hK => ?_;go_simp;refine hK _ _ S8.out ?_;clear hK K hc7 fz7 S7;generalize w7.setCell ⟨w3.heap.size, u, none⟩ (.slice a7 n7 q7) = w8 at *;refine wpAnyH_done (by kernel_rfl) ?_ _;unfold jqw;dsimp only;go_wp2_with fail
     go_roundw
     case rel =>
      have h1 := HI.out;exact ⟨i + 1, by omega, by rw [EW.out], d0, d1, d2, d3, d4, d5, d6, d7, HG8, OS8, S8⟩
     case measure =>
      have h1 := HI.out;rw [EW.out];simp [intOf];omega
    ·go_simp
     have hb := jqg wD (.cells #[.int .u64 (x.key : Int), .int .u32 (x.ck : Int), .int .i64 x.off, .int .i64 x.sz] 65);refine hK _ _ (SD.out.trans (hb.mono SD.out.size)) ?_;clear hK K;have SE := Lh (SD.out.trans (hb.mono SD.out.size));have HGE := Lh ((hb.block _ (jqb HGD.out)).trans HGD.out);have OSE := Lh (OSD.out.below hb);have GE := Lh (show w3.heap.size + 1 ≤ (wD.alloc (.cells #[.int .u64 (x.key : Int), .int .u32 (x.ck : Int), .int .i64 x.off, .int .i64 x.sz] 65)).heap.size from Nat.le_trans GD.out hb.size);have ITE := Lh (jx1 HXO.out (heap_alloc_new wD (.cells #[.int .u64 (x.key : Int), .int .u32 (x.ck : Int), .int .i64 x.off, .int .i64 x.sz] 65)));clear hb SD HGD OSD GD;generalize wD.alloc (.cells #[.int .u64 (x.key : Int), .int .u32 (x.ck : Int), .int .i64 x.off, .int .i64 x.sz] 65) = wE at *;generalize wD.heap.size = ge at *;refine jqk 4 rfl rfl (by kernel_rfl) fun K hK => ?_;have hc := bxk HGE.out HU.out.2 HS.out;go_simp
     try simp only [hc]
     refine hK _ _ SE.out ?_;clear hK K hc;refine jqk 10 rfl rfl (by kernel_rfl) fun K hK => ?_;obtain ⟨v2, hs2, ow⟩ := OSE.out.own u HU.out.2;obtain rfl : vu = v2 := Option.some.inj (HS.out.symm.trans hs2);clear hs2;rw [jwr _ HU.out.2] at ow;refine wp_app_it1 (base := w3.heap.size + 1) (v := vu) (L := fS u (S.take i)) (y := x) rfl rfl ow ITE.out HLN.out GE.out (fun v7 w7 ho hg hat => ?_);obtain ⟨a7, q7, hv7, -, -⟩ := jqs ho;generalize (fS u (S.take i) ++ [x]).length = n7 at hv7;subst hv7;have S7 := Lh (jqq SE.out hg ow (Nat.le_trans (Nat.le_succ w3.heap.size) GE.out) (Nat.le_succ w3.heap.size));refine hK _ _ S7.out ?_;clear hK K;have HG7 := Lh ((hg.block w3.heap.size GE.out (fun e => by have := owT_lt ow w3.heap.size e.symm; omega)).trans HGE.out);obtain ⟨d0, d1, d2, d3, d4, d5, d6, d7, he, hd⟩ := set8 c0 c1 c2 c3 c4 c5 c6 c7 (.slice a7 n7 q7) (.int .i64 (byT S)) (.int .i64 gb) u HU.out.2;have os7 := (OSE.out.grow HU.out.2 HS.out ho hg hat hd (jxc _)).store (i := u) (.slice a7 n7 q7);rw [HST.out] at os7;have OS8 := Lh os7;have hg8 := heap_setCell_same w7 w3.heap.size u _ _ (.slice a7 n7 q7) HG7.out;rw [he] at hg8;have HG8 := Lh hg8;have S8 := Lh (S7.out.setCell (p := ⟨w3.heap.size, u, none⟩) (Nat.le_refl _) (.slice a7 n7 q7));have hc7 := bxk HG7.out HU.out.2 HS.out;have fz7 := frozen_of_row w7 w3.heap.size u _ _ HG7.out;clear os7 hg8 he hd ho hg hat ow HG7 OSE HGE SE GE ITE;refine jqk 12 rfl rfl (by kernel_rfl) fun K hK => ?_;go_simp;refine hK _ _ S7.out ?_;clear hK K;refine jqk 13 rfl rfl (by kernel_rfl) fun K hK => ?_;go_simp;refine hK _ _ S8.out ?_;clear hK K hc7 fz7 S7;generalize w7.setCell ⟨w3.heap.size, u, none⟩ (.slice a7 n7 q7) = w8 at *;refine wpAnyH_done (by kernel_rfl) ?_ _;unfold jqw;dsimp only;go_wp2_with fail
     go_roundw
     case rel =>
      have h1 := HI.out;exact ⟨i + 1, by omega, by rw [EW.out], d0, d1, d2, d3, d4, d5, d6, d7, HG8, OS8, S8⟩
     case measure =>
      have h1 := HI.out;rw [EW.out];simp [intOf];omega
  have l1 : decide ((i : Int) < (n : Int)) = true := decide_eq_true (by omega);have l2 : decide (i < n) = true := decide_eq_true hlt;have HI := Lh hlt;have EW := Lh (show wrap64 ((i : Int) + 1) = ((i + 1 : Nat) : Int) by have := HN.out; unfold wrap64; omega);obtain ⟨b, off, cap, hv, -, -, hc⟩ := jq8 (jqr SL.out BR.out) (by have := HN.out.1; omega);obtain ⟨rfl, -⟩ : a = some ⟨b, off, none⟩ ∧ (n = L.length ∧ c = cap) := by simpa using hv
  have CC := hc i (by have := HN.out.1; omega);obtain ⟨x, hx⟩ : ∃ z, z = L.getD i z0 := ⟨_, rfl⟩;rw [← hx] at CC;have HX := Lh hx;obtain ⟨k0, k1, k2, k3⟩ := CC;have p0 : (0 : Int) ≤ (i : Int) := by omega
  have p1 : (i : Int) < (n : Int) := by omega
  have PI := Lh (rvitem_any x wl);unfold TV at PI
  by_cases hok : okI x
  case neg =>
   have HE := Lh (show jxg L gb = mp0 by
    unfold jxg;rw [if_neg (fun h => hok (h.1 x (by rw [HX.out]; exact jx3 (by have := HI.out; have := HN.out.1; omega))))])
   rw [decide_eq_false hok] at PI;clear hv hc hx hlt hi hok;go_wp2_with fail
   clear k0 k1 k2 k3 p0 p1 l1 l2;refine PI.out.mono ?_;rintro e w2 ⟨rfl, hb⟩;have HZ2 := Lh ((hb.block _ (jqb HZ1.out)).trans HZ1.out);have B2 := Lh (BR.out.trans (hb.mono BR.out.size));clear hb;go_wp2_with ((with_reducible refine storeR w.heap.size _ #[.slice none 0 0, .slice none 0 0, .slice none 0 0, .slice none 0 0, .slice none 0 0, .slice none 0 0, .slice none 0 0, .slice none 0 0, .int .i64 0, .int .i64 0] ?_ ?_ HZ2.out rfl rfl ON8.out ?_); exact rfl; exact rfl)
   refine ro_end (fn := Tryz.f71) rfl w.heap.size rfl (setRow_heap _ _ _ _ _ _ HZ2.out) ?_;rw [HE.out];exact ⟨⟨_, rfl, _, _, _, _, _, _, _, _, rfl, mp0_ms _⟩, jqd B2.out (Nat.le_refl _) _⟩
  have HT1 := Lh (show ∀ y ∈ L.take (i + 1), okI y by
   rw [List.take_succ_eq_append_getElem (show i < L.length by have := HI.out; have := HN.out.1; omega)];intro y hy;rcases List.mem_append.1 hy with h | h
   ·exact HT.out y h
   ·rw [List.mem_singleton.1 h]
    have h2 : x = L[i]'(by have := HI.out; have := HN.out.1; omega) := by
     rw [hx]; simp [List.getD, show i < L.length by have := HI.out; have := HN.out.1; omega]
    rw [← h2]; exact hok)
  rw [decide_eq_true hok] at PI;clear hv hc hx hlt hi hok HT;go_wp2_with fail
  clear k0 k1 k2 k3 p0 p1 l1 l2;refine PI.out.mono ?_;rintro e w2 ⟨rfl, hb⟩;have HZ2 := Lh ((hb.block _ (jqb HZ1.out)).trans HZ1.out);have B2 := Lh (BR.out.trans (hb.mono BR.out.size));clear hb PI;go_wp2_with fail
  go_roundw
  case rel =>
   have h1 := HI.out;exact ⟨i + 1, by omega, by rw [EW.out], HT1, HZ2, B2⟩
  case measure =>
   have h1 := HI.out;rw [EW.out];simp [intOf];omega
end Go.Proofs.YtimoinfjinmamaaGreat.Gf
namespace Go.Proofs.YtimoinfjinmamaaGreat.Gf
open Joins ChangeShapes WideShapes ChangeAt RowKit Deep By Qt
set_option maxRecDepth 100000
set_option maxHeartbeats 204800000
theorem al2 (w : World) (o1 o2 : Obj) : ((w.alloc o1).alloc o2).heap[w.heap.size]? = some o1 ∧ ((w.alloc o1).alloc o2).heap[w.heap.size + 1]? = some o2 ∧ Below w.heap.size w ((w.alloc o1).alloc o2) := by
 have q1 := jqg w o1;have q2 := jqg (w.alloc o1) o2;have h1 := heap_alloc_new w o1;have h2 := heap_alloc_new (w.alloc o1) o2;have hsz : (w.alloc o1).heap.size = w.heap.size + 1 := by simp
 rw [hsz] at h2;exact ⟨(q2.block _ (jqb h1)).trans h1, h2, q1.trans (q2.mono q1.size)⟩
theorem al3 (w : World) (o1 o2 o3 : Obj) : (((w.alloc o1).alloc o2).alloc o3).heap[w.heap.size]? = some o1 ∧ (((w.alloc o1).alloc o2).alloc o3).heap[w.heap.size + 1]? = some o2 ∧ (((w.alloc o1).alloc o2).alloc o3).heap[w.heap.size + 2]? = some o3 ∧ Below w.heap.size w (((w.alloc o1).alloc o2).alloc o3) := by
 obtain ⟨h1, h2, h3⟩ := al2 w o1 o2;have q3 := jqg ((w.alloc o1).alloc o2) o3;have h4 := heap_alloc_new ((w.alloc o1).alloc o2) o3;have hsz : ((w.alloc o1).alloc o2).heap.size = w.heap.size + 2 := by simp
 rw [hsz] at h4;exact ⟨(q3.block _ (jqb h1)).trans h1, (q3.block _ (jqb h2)).trans h2, h4, h3.trans (q3.mono h3.size)⟩
theorem SBx.row {w a : World} {L : List (Nat × Obj)} {g : Nat} (h : SBx w L a) (hg : w.heap.size ≤ g) (hL : ∀ p ∈ L, p.1 ≠ g) (cs : Array Value) : SBx w L (a.setRow g cs) := ⟨jqd h.bel hg cs, fun p hp => (setRow_other a g p.1 cs (hL p hp)).trans (h.box p hp)⟩
theorem rwaste_any (v : Value) (m : Mp) (n : Int) (w : World) (hv : Mv w v m) (hf : Few m) (_hn : J64 n) : Calls Tryz.prog 42 #[v, .int .i64 n] w (MO w (jwk m n)) := by
 have PV := Lh (fun W (h : Below w.heap.size w W) => rvalid11_any v m W (jxq hv h) hf);obtain ⟨s0, s1, s2, s3, s4, s5, s6, s7, rfl, hms⟩ := hv;have A2 := al2 w (.cells #[s0, s1, s2, s3, s4, s5, s6, s7, .int .i64 m.live, .int .i64 m.garb] 29) (.cells #[.slice none 0 0, .slice none 0 0, .slice none 0 0, .slice none 0 0, .slice none 0 0, .slice none 0 0, .slice none 0 0, .slice none 0 0, .int .i64 0, .int .i64 0] 29);have HM2 := Lh A2.1;have HZ2 := Lh A2.2.1;have B2 := Lh A2.2.2;have MS2 := Lh (jqf hms A2.2.2);clear hms A2
 go_enter Tryz.func42, Tryz.ntmps42
 go_upto_region 1 with fail
 generalize (w.alloc (.cells #[s0, s1, s2, s3, s4, s5, s6, s7, .int .i64 m.live, .int .i64 m.garb] 29)).alloc (.cells #[.slice none 0 0, .slice none 0 0, .slice none 0 0, .slice none 0 0, .slice none 0 0, .slice none 0 0, .slice none 0 0, .slice none 0 0, .int .i64 0, .int .i64 0] 29) = W2 at *;have PV2 := Lh (PV.out W2 B2.out);clear PV
 by_cases hok : okM m
 case neg =>
  rw [jx8 hok] at PV2;have HE := Lh (show jwk m n = m by unfold jwk; rw [if_neg (fun h => hok h.1)]);clear hok;obtain ⟨x0, x1, x2, x3, x4, x5, x6, x7, x8, x9⟩ := bx10 HM2.out;go_wp2_with fail
  clear x0 x1 x2 x3 x4 x5 x6 x7 x8 x9;refine PV2.out.mono ?_;rintro e w3 ⟨rfl, hb⟩;have HM3 := Lh ((hb.block _ (jqb HM2.out)).trans HM2.out);have HZ3 := Lh ((hb.block _ (jqb HZ2.out)).trans HZ2.out);have MS3 := Lh (jqf MS2.out hb);have B3 := Lh (B2.out.trans (hb.mono B2.out.size));clear hb B2 HM2 HZ2 MS2;go_upto_region 3 with fail
  have ON := Lh (jwx MS3.out m.live m.garb);obtain ⟨x0, x1, x2, x3, x4, x5, x6, x7, x8, x9⟩ := bx10 HM3.out;go_wp2_with ((with_reducible refine storeR (w.heap.size + 1) _ #[s0, s1, s2, s3, s4, s5, s6, s7, .int .i64 m.live, .int .i64 m.garb] ?_ ?_ HZ3.out rfl rfl ON.out ?_); exact rfl; exact rfl)
  refine ro_end (fn := Tryz.f42) rfl (w.heap.size + 1) rfl (setRow_heap _ _ _ _ _ _ HZ3.out) ?_;rw [HE.out];exact ⟨⟨_, rfl, s0, s1, s2, s3, s4, s5, s6, s7, rfl, jww MS3.out HZ3.out⟩, jqd B3.out (Nat.le_succ w.heap.size) _⟩
 rw [okMb_t hok] at PV2;have hlo := hok.lo;have hhi := hok.hi;obtain ⟨q1, hq1⟩ : ∃ q : Bool, q = decide (0 ≤ n) := ⟨_, rfl⟩;obtain ⟨q2, hq2⟩ : ∃ q : Bool, q = decide (n ≤ 1099511627776 - m.garb) := ⟨_, rfl⟩;have l1 : decide (0 ≤ n) = q1 := hq1.symm;have l2 : decide (n ≤ 1099511627776 - m.garb) = q2 := hq2.symm;have ew : wrap64 (1099511627776 - m.garb) = 1099511627776 - m.garb := by unfold wrap64; omega
 have HQ := Lh (And.intro hq1 hq2);have HOK := Lh hok;clear hq1 hq2 hlo hhi hok;obtain ⟨x0, x1, x2, x3, x4, x5, x6, x7, x8, x9⟩ := bx10 HM2.out;go_wp2_with fail
 clear x0 x1 x2 x3 x4 x5 x6 x7 x8 x9;refine PV2.out.mono ?_;rintro e w3 ⟨rfl, hb⟩;have HM3 := Lh ((hb.block _ (jqb HM2.out)).trans HM2.out);have HZ3 := Lh ((hb.block _ (jqb HZ2.out)).trans HZ2.out);have MS3 := Lh (jqf MS2.out hb);have B3 := Lh (B2.out.trans (hb.mono B2.out.size));clear hb B2 HM2 HZ2 MS2;obtain ⟨x0, x1, x2, x3, x4, x5, x6, x7, x8, x9⟩ := bx10 HM3.out
 cases q1
 case false =>
  have HE := Lh (show jwk m n = m by unfold jwk; rw [if_neg (fun h => of_decide_eq_false HQ.out.1.symm h.2.1)]);go_upto_region 3 with fail
  clear x0 x1 x2 x3 x4 x5 x6 x7 x8 x9;clear l1 l2 ew;have ON := Lh (jwx MS3.out m.live m.garb);obtain ⟨x0, x1, x2, x3, x4, x5, x6, x7, x8, x9⟩ := bx10 HM3.out;go_wp2_with ((with_reducible refine storeR (w.heap.size + 1) _ #[s0, s1, s2, s3, s4, s5, s6, s7, .int .i64 m.live, .int .i64 m.garb] ?_ ?_ HZ3.out rfl rfl ON.out ?_); exact rfl; exact rfl)
  refine ro_end (fn := Tryz.f42) rfl (w.heap.size + 1) rfl (setRow_heap _ _ _ _ _ _ HZ3.out) ?_;rw [HE.out];exact ⟨⟨_, rfl, s0, s1, s2, s3, s4, s5, s6, s7, rfl, jww MS3.out HZ3.out⟩, jqd B3.out (Nat.le_succ w.heap.size) _⟩
 cases q2
 case false =>
  have HE := Lh (show jwk m n = m by unfold jwk G40; rw [if_neg (fun h => of_decide_eq_false HQ.out.2.symm h.2.2)]);go_upto_region 3 with fail
  clear x0 x1 x2 x3 x4 x5 x6 x7 x8 x9;clear l1 l2 ew;have ON := Lh (jwx MS3.out m.live m.garb);obtain ⟨x0, x1, x2, x3, x4, x5, x6, x7, x8, x9⟩ := bx10 HM3.out;go_wp2_with ((with_reducible refine storeR (w.heap.size + 1) _ #[s0, s1, s2, s3, s4, s5, s6, s7, .int .i64 m.live, .int .i64 m.garb] ?_ ?_ HZ3.out rfl rfl ON.out ?_); exact rfl; exact rfl)
  refine ro_end (fn := Tryz.f42) rfl (w.heap.size + 1) rfl (setRow_heap _ _ _ _ _ _ HZ3.out) ?_;rw [HE.out];exact ⟨⟨_, rfl, s0, s1, s2, s3, s4, s5, s6, s7, rfl, jww MS3.out HZ3.out⟩, jqd B3.out (Nat.le_succ w.heap.size) _⟩
 have h0 : 0 ≤ n := of_decide_eq_true HQ.out.1.symm;have h1 : n ≤ 1099511627776 - m.garb := of_decide_eq_true HQ.out.2.symm;have HE := Lh (show jwk m n = ⟨m.st, m.live, m.garb + n⟩ by unfold jwk G40; rw [if_pos ⟨HOK.out, h0, h1⟩]);have ew2 : wrap64 (m.garb + n) = m.garb + n := by have := HOK.out.lo; unfold wrap64; omega
 have HJ := Lh (show J64 (m.garb + n) by have := HOK.out.lo; unfold J64; omega);obtain ⟨-, -, -, -, -, -, -, -, -, f9⟩ := fz10 HM3.out;clear h0 h1;go_upto_region 3 with fail
 clear x0 x1 x2 x3 x4 x5 x6 x7 x8 x9;clear l1 l2 ew ew2 f9;have hs := heap_setCell_same w3 w.heap.size 9 _ _ (.int .i64 (m.garb + n)) HM3.out;have HM4 := Lh (show (w3.setCell ⟨w.heap.size, 9, none⟩ (.int .i64 (m.garb + n))).heap[w.heap.size]? = some (.cells #[s0, s1, s2, s3, s4, s5, s6, s7, .int .i64 m.live, .int .i64 (m.garb + n)] 29 (0, 0)) from hs);have HZ4 := Lh (show (w3.setCell ⟨w.heap.size, 9, none⟩ (.int .i64 (m.garb + n))).heap[w.heap.size + 1]? = some (.cells #[.slice none 0 0, .slice none 0 0, .slice none 0 0, .slice none 0 0, .slice none 0 0, .slice none 0 0, .slice none 0 0, .slice none 0 0, .int .i64 0, .int .i64 0] 29 (0, 0)) by rw [heap_setCell_other _ _ _ _ (show w.heap.size + 1 ≠ w.heap.size by omega)]; exact HZ3.out);have B4 := Lh (B3.out.setCell (p := ⟨w.heap.size, 9, none⟩) (Nat.le_refl _) (.int .i64 (m.garb + n)));have MS4 := Lh (show Ms (w3.setCell ⟨w.heap.size, 9, none⟩ (.int .i64 (m.garb + n))) [s0, s1, s2, s3, s4, s5, s6, s7] ⟨m.st, m.live, m.garb + n⟩ from ⟨MS3.out.1, MS3.out.2.1, HJ.out, fun k hk => by
  obtain ⟨a, c, h1, h2⟩ := MS3.out.2.2.2 k hk;exact ⟨a, c, h1, it_keepM h2 HM3.out (ms_u64 MS3.out m.live m.garb) fun b hb => heap_setCell_other _ _ _ _ hb⟩⟩)
 clear hs HM3 HZ3 B3 MS3;generalize w3.setCell ⟨w.heap.size, 9, none⟩ (.int .i64 (m.garb + n)) = w4 at *;have ON := Lh (jwx MS4.out m.live (m.garb + n));obtain ⟨x0, x1, x2, x3, x4, x5, x6, x7, x8, x9⟩ := bx10 HM4.out;go_wp2_with ((with_reducible refine storeR (w.heap.size + 1) _ #[s0, s1, s2, s3, s4, s5, s6, s7, .int .i64 m.live, .int .i64 (m.garb + n)] ?_ ?_ HZ4.out rfl rfl ON.out ?_); exact rfl; exact rfl)
 refine ro_end (fn := Tryz.f42) rfl (w.heap.size + 1) rfl (setRow_heap _ _ _ _ _ _ HZ4.out) ?_;rw [HE.out];exact ⟨⟨_, rfl, s0, s1, s2, s3, s4, s5, s6, s7, rfl, jww MS4.out HZ4.out⟩, jqd B4.out (Nat.le_succ _) _⟩
theorem rput11_any (v : Value) (m : Mp) (x : Itm) (w : World) (hv : Mv w v m) (hf : Few m) (hn : m.st.flatten.length ≤ 900) (hx : ItOk x) : Calls Tryz.prog 44 #[v, TV x] w (MO w (putM m x)) := by
 have PV := Lh (fun W (h : Below w.heap.size w W) => rvalid11_any v m W (jxq hv h) hf);have PG := Lh (fun W (h : Below w.heap.size w W) => rget11_any v m x.key W (jxq hv h) hf);have PJ := Lh (fun W (h : Below w.heap.size w W) => ritems11_any v m W (jxq hv h) hf);have PI := Lh (fun W => rvitem_any x W);have HX := Lh hx;have HN := Lh hn;obtain ⟨s0, s1, s2, s3, s4, s5, s6, s7, rfl, hms⟩ := hv;have A3 := al3 w (.cells #[s0, s1, s2, s3, s4, s5, s6, s7, .int .i64 m.live, .int .i64 m.garb] 29) (.cells #[.int .u64 (x.key : Int), .int .u32 (x.ck : Int), .int .i64 x.off, .int .i64 x.sz] 65) (.cells #[.slice none 0 0, .slice none 0 0, .slice none 0 0, .slice none 0 0, .slice none 0 0, .slice none 0 0, .slice none 0 0, .slice none 0 0, .int .i64 0, .int .i64 0] 29);have HM2 := Lh A3.1;have HI2 := Lh A3.2.1;have HZ2 := Lh A3.2.2.1;have B2 := Lh A3.2.2.2;have MS2 := Lh (jqf hms A3.2.2.2);clear hms A3 hf hx hn;unfold TV at PI ⊢
 go_enter Tryz.func44, Tryz.ntmps44
 go_upto_region 1 with fail
 generalize ((w.alloc (.cells #[s0, s1, s2, s3, s4, s5, s6, s7, .int .i64 m.live, .int .i64 m.garb] 29)).alloc (.cells #[.int .u64 (x.key : Int), .int .u32 (x.ck : Int), .int .i64 x.off, .int .i64 x.sz] 65)).alloc (.cells #[.slice none 0 0, .slice none 0 0, .slice none 0 0, .slice none 0 0, .slice none 0 0, .slice none 0 0, .slice none 0 0, .slice none 0 0, .int .i64 0, .int .i64 0] 29) = W2 at *;have PV2 := Lh (PV.out W2 B2.out);clear PV
 by_cases hok : okM m
 case neg =>
  rw [jx8 hok] at PV2;have HE := Lh (show putM m x = m by unfold putM; rw [if_neg (fun h => hok h.1)]);clear hok;obtain ⟨x0, x1, x2, x3, x4, x5, x6, x7, x8, x9⟩ := bx10 HM2.out;go_wp2_with fail
  clear x0 x1 x2 x3 x4 x5 x6 x7 x8 x9;refine PV2.out.mono ?_;rintro e w3 ⟨rfl, hb⟩;have HM3 := Lh ((hb.block _ (jqb HM2.out)).trans HM2.out);have HZ3 := Lh ((hb.block _ (jqb HZ2.out)).trans HZ2.out);have HI3 := Lh ((hb.block _ (jqb HI2.out)).trans HI2.out);have MS3 := Lh (jqf MS2.out hb);have B3 := Lh (B2.out.trans (hb.mono B2.out.size));clear hb B2 HM2 HZ2 HI2 MS2;go_upto_region 2 with fail
  have ON := Lh (jwx MS3.out m.live m.garb);obtain ⟨x0, x1, x2, x3, x4, x5, x6, x7, x8, x9⟩ := bx10 HM3.out;go_wp2_with ((with_reducible refine storeR (w.heap.size + 2) _ #[s0, s1, s2, s3, s4, s5, s6, s7, .int .i64 m.live, .int .i64 m.garb] ?_ ?_ HZ3.out rfl rfl ON.out ?_); exact rfl; exact rfl)
  refine ro_end (fn := Tryz.f44) rfl (w.heap.size + 2) rfl (setRow_heap _ _ _ _ _ _ HZ3.out) ?_;rw [HE.out];exact ⟨⟨_, rfl, s0, s1, s2, s3, s4, s5, s6, s7, rfl, jww MS3.out HZ3.out⟩, jqd B3.out (Nat.le_add_right w.heap.size 2) _⟩
 rw [okMb_t hok] at PV2;have HOK := Lh hok;have HLEN := Lh MS2.out.1;obtain ⟨x0, x1, x2, x3, x4, x5, x6, x7, x8, x9⟩ := bx10 HM2.out;clear hok;go_wp2_with fail
 clear x0 x1 x2 x3 x4 x5 x6 x7 x8 x9;refine PV2.out.mono ?_;rintro e w3 ⟨rfl, hb⟩;have HM3 := Lh ((hb.block _ (jqb HM2.out)).trans HM2.out);have HZ3 := Lh ((hb.block _ (jqb HZ2.out)).trans HZ2.out);have HI3 := Lh ((hb.block _ (jqb HI2.out)).trans HI2.out);have MS3 := Lh (jqf MS2.out hb);have B3 := Lh (B2.out.trans (hb.mono B2.out.size));clear hb B2 HM2 HZ2 HI2 MS2;clear PV2;obtain ⟨⟨x0, x1, x2, x3⟩, -⟩ := bx4 HI3.out
 by_cases hi : okI x
 case neg =>
  have HE := Lh (show putM m x = m by unfold putM; rw [if_neg (fun h => hi h.2)]);rw [decide_eq_false hi] at PI;clear hi;go_wp2_with fail
  clear x0 x1 x2 x3;refine (PI.out w3).mono ?_;rintro e w4 ⟨rfl, hb⟩;have HM4 := Lh ((hb.block _ (jqb HM3.out)).trans HM3.out);have HZ4 := Lh ((hb.block _ (jqb HZ3.out)).trans HZ3.out);have HI4 := Lh ((hb.block _ (jqb HI3.out)).trans HI3.out);have MS4 := Lh (jqf MS3.out hb);have B4 := Lh (B3.out.trans (hb.mono B3.out.size));clear hb B3 HM3 HZ3 HI3 MS3;go_upto_region 2 with fail
  have ON := Lh (jwx MS4.out m.live m.garb);obtain ⟨x0, x1, x2, x3, x4, x5, x6, x7, x8, x9⟩ := bx10 HM4.out;go_wp2_with ((with_reducible refine storeR (w.heap.size + 2) _ #[s0, s1, s2, s3, s4, s5, s6, s7, .int .i64 m.live, .int .i64 m.garb] ?_ ?_ HZ4.out rfl rfl ON.out ?_); exact rfl; exact rfl)
  refine ro_end (fn := Tryz.f44) rfl (w.heap.size + 2) rfl (setRow_heap _ _ _ _ _ _ HZ4.out) ?_;rw [HE.out];exact ⟨⟨_, rfl, s0, s1, s2, s3, s4, s5, s6, s7, rfl, jww MS4.out HZ4.out⟩, jqd B4.out (Nat.le_add_right w.heap.size 2) _⟩
 rw [decide_eq_true hi] at PI;have HII := Lh hi;clear hi;go_wp2_with fail
 clear x0 x1 x2 x3;refine (PI.out w3).mono ?_;rintro e w4 ⟨rfl, hb⟩;have HM4 := Lh ((hb.block _ (jqb HM3.out)).trans HM3.out);have HZ4 := Lh ((hb.block _ (jqb HZ3.out)).trans HZ3.out);have HI4 := Lh ((hb.block _ (jqb HI3.out)).trans HI3.out);have MS4 := Lh (jqf MS3.out hb);have B4 := Lh (B3.out.trans (hb.mono B3.out.size));clear hb B3 HM3 HZ3 HI3 MS3;clear PI;have PG2 := Lh (PG.out w4 B4.out);rw [show jwn m = iL m by unfold jwn; rw [if_pos HOK.out]] at PG2;unfold FD at PG2;obtain ⟨y, hy⟩ : ∃ y, y = fnL (iL m) x.key := ⟨_, rfl⟩;obtain ⟨q, hq⟩ : ∃ q, q = hasL (iL m) x.key := ⟨_, rfl⟩;rw [← hy, ← hq] at PG2;have HYQ := Lh (And.intro hy hq);unfold TV at PG2;clear PG hy hq;go_upto_region 4 with fail
 obtain ⟨x0, x1, x2, x3, x4, x5, x6, x7, x8, x9⟩ := bx10 HM4.out;obtain ⟨⟨y0, y1, y2, y3⟩, -⟩ := bx4 HI4.out;go_wp2_with fail
 clear x0 x1 x2 x3 x4 x5 x6 x7 x8 x9;clear y0 y1 y2 y3;refine PG2.out.mono ?_;rintro e w5 ⟨rfl, hb⟩;have HM5 := Lh ((hb.block _ (jqb HM4.out)).trans HM4.out);have HZ5 := Lh ((hb.block _ (jqb HZ4.out)).trans HZ4.out);have HI5 := Lh ((hb.block _ (jqb HI4.out)).trans HI4.out);have MS5 := Lh (jqf MS4.out hb);have B5 := Lh (B4.out.trans (hb.mono B4.out.size));clear hb B4 HM4 HZ4 HI4 MS4;clear PG2;go_upto_region 5 with fail
 have hb := jqg w5 (.cells #[.int .u64 (y.key : Int), .int .u32 (y.ck : Int), .int .i64 y.off, .int .i64 y.sz] 65);have HY6 := Lh (heap_alloc_new w5 (.cells #[.int .u64 (y.key : Int), .int .u32 (y.ck : Int), .int .i64 y.off, .int .i64 y.sz] 65));have HM6 := Lh ((hb.block _ (jqb HM5.out)).trans HM5.out);have HZ6 := Lh ((hb.block _ (jqb HZ5.out)).trans HZ5.out);have HI6 := Lh ((hb.block _ (jqb HI5.out)).trans HI5.out);have MS6 := Lh (jqf MS5.out hb);have B6 := Lh (B5.out.trans (hb.mono B5.out.size));clear hb B5 HM5 HZ5 HI5 MS5;generalize w5.alloc (.cells #[.int .u64 (y.key : Int), .int .u32 (y.ck : Int), .int .i64 y.off, .int .i64 y.sz] 65) = w6 at *;generalize w5.heap.size = gy at *;have HOB := Lh (oldT_bd (iL m) x.key);have HGB := Lh (And.intro HOK.out.lo HOK.out.hi)
 cases q
 case false =>
  have HO := Lh (show oldT (iL m) x.key = 0 by
   have h1 := HYQ.out.2;unfold hasL at h1;unfold oldT
   cases h2 : lk (iL m) x.key with
   | none => rfl
   | some z => rw [h2] at h1; cases h1)
  obtain ⟨old, hold⟩ : ∃ z : Int, z = 0 := ⟨_, rfl⟩;rw [← hold] at HO;have HOLD := Lh hold;clear hold;go_upto_region 7 with fail
  rw [← HOLD.out];have HOB2 := Lh (show 0 ≤ old ∧ old ≤ 4200 by rw [← HO.out]; exact HOB.out);have ew : wrap64 (m.garb + old) = m.garb + old := by have h1 := HGB.out; have h2 := HOB2.out; unfold wrap64; omega
  obtain ⟨x0, x1, x2, x3, x4, x5, x6, x7, x8, x9⟩ := bx10 HM6.out
  by_cases hg : 1099511627776 < m.garb + old
  case pos =>
   have l1 : decide (1099511627776 < m.garb + old) = true := decide_eq_true hg;have HE := Lh (show putM m x = m by unfold putM G40; rw [if_pos ⟨HOK.out, HII.out⟩, if_pos (by rw [HO.out]; exact hg)]);clear hg;go_upto_region 8 with fail
   clear ew l1;clear x0 x1 x2 x3 x4 x5 x6 x7 x8 x9;have ON := Lh (jwx MS6.out m.live m.garb);obtain ⟨x0, x1, x2, x3, x4, x5, x6, x7, x8, x9⟩ := bx10 HM6.out;go_wp2_with ((with_reducible refine storeR (w.heap.size + 2) _ #[s0, s1, s2, s3, s4, s5, s6, s7, .int .i64 m.live, .int .i64 m.garb] ?_ ?_ HZ6.out rfl rfl ON.out ?_); exact rfl; exact rfl)
   refine ro_end (fn := Tryz.f44) rfl (w.heap.size + 2) rfl (setRow_heap _ _ _ _ _ _ HZ6.out) ?_;rw [HE.out];exact ⟨⟨_, rfl, s0, s1, s2, s3, s4, s5, s6, s7, rfl, jww MS6.out HZ6.out⟩, jqd B6.out (Nat.le_add_right w.heap.size 2) _⟩
  have l1 : decide (1099511627776 < m.garb + old) = false := decide_eq_false hg;have HE := Lh (show putM m x = jxg (putL (iL m) x) (m.garb + old) by unfold putM G40; rw [if_pos ⟨HOK.out, HII.out⟩, if_neg (by rw [HO.out]; exact hg), HO.out]);have HJ := Lh (show J64 (m.garb + old) by have h1 := HGB.out; have h2 := HOB2.out; unfold J64; omega);have EW := Lh (show IntKind.i64.wrap (m.garb + old) = m.garb + old from (IntWalk.i64_left _).trans ew);clear hg;go_upto_region 9 with fail
  clear x0 x1 x2 x3 x4 x5 x6 x7 x8 x9;clear ew l1;have S0 : SBx w [(w.heap.size, .cells #[s0, s1, s2, s3, s4, s5, s6, s7, .int .i64 m.live, .int .i64 m.garb] 29 (0, 0)), (w.heap.size + 1, .cells #[.int .u64 (x.key : Int), .int .u32 (x.ck : Int), .int .i64 x.off, .int .i64 x.sz] 65 (0, 0))] w6.drew := ⟨B6.out.drew, fun p hp => by
   rcases List.mem_cons.1 hp with rfl | hp
   ·exact HM6.out
   ·rw [List.mem_singleton.1 hp]; exact HI6.out⟩
  refine jq0 ?_;refine jqh (SBx w [(w.heap.size, .cells #[s0, s1, s2, s3, s4, s5, s6, s7, .int .i64 m.live, .int .i64 m.garb] 29 (0, 0)), (w.heap.size + 1, .cells #[.int .u64 (x.key : Int), .int .u32 (x.ck : Int), .int .i64 x.off, .int .i64 x.sz] 65 (0, 0))]) [0, 2, 4, 5, 6, 7] 4 (by kernel_rfl) (fun _ _ _ _ _ h => h.elim) (by kernel_rfl) (by rfl) (by rfl) S0 ?_;simp only [jq2, List.filterMap_cons, List.filterMap_nil, List.getElem?_toArray, List.getElem?_cons_zero, List.getElem?_cons_succ];refine jqc (fun K hK => ?_);go_simp;refine ⟨.agg #[s0, s1, s2, s3, s4, s5, s6, s7, .int .i64 m.live, .int .i64 m.garb], fun w' hw' => by
   obtain ⟨x0, x1, x2, x3, x4, x5, x6, x7, x8, x9⟩ := bx10 (hw'.box _ (List.mem_cons_self ..));go_simp, hK _ ?_⟩
  clear hK K;refine jqc (fun K hK => ?_);go_simp;refine ⟨.agg #[.int .u64 (x.key : Int), .int .u32 (x.ck : Int), .int .i64 x.off, .int .i64 x.sz], fun w' hw' => by
   obtain ⟨⟨y0, y1, y2, y3⟩, -⟩ := bx4 (hw'.box _ (List.mem_cons_of_mem _ (List.mem_cons_self ..)));go_simp, hK _ ?_⟩
  clear hK K;refine jqc (fun K hK => ?_);go_simp;refine ⟨_, fun _ _ => rfl, hK _ ?_⟩;clear hK K;refine jqc (fun K hK => ?_);go_simp;refine ⟨.int .i64 m.garb, fun w' hw' => by
   obtain ⟨x0, x1, x2, x3, x4, x5, x6, x7, x8, x9⟩ := bx10 (hw'.box _ (List.mem_cons_self ..));go_simp, hK _ ?_⟩
  clear hK K;refine jqc (fun K hK => ?_);go_simp;refine ⟨_, fun _ _ => rfl, hK _ ?_⟩;clear hK K;refine jqc (fun K hK => ?_);go_simp;refine ⟨.int .i64 (m.garb + old), fun w' hw' => by
   have e := EW.out;go_simp, hK _ ?_⟩
  clear hK K;refine jqp ?_;have SD := Lh S0;have HZD := Lh (((Below.refl w6.heap.size w6).drew.block _ (jqb HZ6.out)).trans HZ6.out);generalize w6.drew = WD at *;have PJ2 := Lh (PJ.out WD SD.out.bel);rw [show jwn m = iL m by unfold jwn; rw [if_pos HOK.out]] at PJ2;clear S0 HZ6 HM6 HI6 MS6 B6 PJ HY6;refine gwq 1 fun K hK => ?_;go_simp
  go_at_call 69
  refine PJ2.out.mono ?_;rintro e V1 ⟨⟨vi, rfl, hit⟩, hb⟩;refine hK _ _ (SD.out.below hb) ?_;clear hK K;have S1 := Lh (SD.out.below hb);have HZ7 := Lh ((hb.block _ (jqb HZD.out)).trans HZD.out);have HL := Lh (show (iL m).length ≤ 900 from Nat.le_trans (jqz _) HN.out);have PR := Lh (rput_any vi (iL m) x HX.out V1 hit (Nat.le_trans HL.out (by decide)));obtain ⟨ai, ci, rfl, -, -⟩ := jqy hit;generalize hni : (iL m).length = ni at *;unfold TV at PR;clear hit hb SD HZD PJ2;refine gwq 3 fun K hK => ?_;go_simp
  go_at_call 74
  refine PR.out.mono ?_;rintro e V3 ⟨⟨vp, rfl, hot⟩, hb⟩;refine hK _ _ (S1.out.below hb) ?_;clear hK K;have S3 := Lh (S1.out.below hb);have HZ8 := Lh ((hb.block _ (jqb HZ7.out)).trans HZ7.out);have PF := Lh (rfrom_any vp (putL (iL m) x) (m.garb + old) V3 (jxr hot) (by
   unfold putL;have h1 := length_insL x (jqx (iL m));rw [sort_iL, hni] at h1;rw [sort_iL];have := HL.out;omega) HJ.out)
  obtain ⟨ap, cp, rfl, -, -⟩ := jqs hot;generalize (putL (iL m) x).length = np at *;clear hot hb S1 HZ7 PR;refine gwq 8 fun K hK => ?_;go_simp
  go_at_call 71
  refine PF.out.mono ?_;rintro e V5 ⟨⟨vf, rfl, hv5⟩, hb⟩;refine hK _ _ (S3.out.below hb) ?_;clear hK K;have S5 := Lh (S3.out.below hb);have HZ9 := Lh ((hb.block _ (jqb HZ8.out)).trans HZ8.out);rw [← HE.out] at hv5;obtain ⟨R, hR⟩ : ∃ z, z = putM m x := ⟨_, rfl⟩;rw [← hR] at hv5;have HR := Lh hR;obtain ⟨t0, t1, t2, t3, t4, t5, t6, t7, rfl, hms5⟩ := hv5;have ON := Lh (jwx hms5 R.live R.garb);have MS5 := Lh hms5;have S6 := Lh (S5.out.row (Nat.le_add_right w.heap.size 2) (fun p hp => by
   rcases List.mem_cons.1 hp with rfl | hp
   ·show w.heap.size ≠ w.heap.size + 2; omega
   ·rw [List.mem_singleton.1 hp]; show w.heap.size + 1 ≠ w.heap.size + 2; omega) #[t0, t1, t2, t3, t4, t5, t6, t7, .int .i64 R.live, .int .i64 R.garb])
  clear hms5 hb S3 HZ8 PF hR;refine gwq 9 fun K hK => ?_;refine wp_store_row 29 _ _ rfl (w.heap.size + 2) #[t0, t1, t2, t3, t4, t5, t6, t7, .int .i64 R.live, .int .i64 R.garb] (by rfl) (by rfl) 29 _ HZ9.out infoR10 rfl ON.out ?_;refine hK _ _ S6.out ?_;clear hK K;refine wpAnyH_done (by kernel_rfl) ?_ _;unfold jqw;dsimp only
  go_wp2
  refine ro_end (fn := Tryz.f44) rfl (w.heap.size + 2) rfl (setRow_heap _ _ _ _ _ _ HZ9.out) ?_;rw [← HR.out];exact ⟨⟨_, rfl, t0, t1, t2, t3, t4, t5, t6, t7, rfl, jww MS5.out HZ9.out⟩, S6.out.bel⟩
 have HO := Lh (show oldT (iL m) x.key = szI6 y.sz by
  have h1 := HYQ.out.2;have h3 := HYQ.out.1;unfold hasL at h1;unfold fnL at h3;unfold oldT
  cases h2 : lk (iL m) x.key with
  | none => rw [h2] at h1; cases h1
  | some z => rw [h2] at h3; rw [h3]; rfl)
 have HYO := Lh (show J64 y.sz by
  have h1 := HYQ.out.2;have h3 := HYQ.out.1;unfold hasL at h1;unfold fnL at h3
  cases h2 : lk (iL m) x.key with
  | none => rw [h2] at h1; cases h1
  | some z =>
   rw [h2] at h3;have h4 := iL_ok HOK.out HLEN.out z (lk_some h2).1;rw [h3];show J64 z.sz;have h5 := h4.2.2.2;unfold J64;omega)
 go_upto_region 6 with fail
 obtain ⟨⟨y0, y1, y2, y3⟩, -⟩ := bx4 HY6.out;go_wp2_with fail
 clear y0 y1 y2 y3;refine (jxw y.sz w6 HYO.out).mono ?_;rintro e w6' ⟨rfl, rfl⟩;obtain ⟨old, hold⟩ : ∃ z, z = szI6 y.sz := ⟨_, rfl⟩;rw [← hold] at HO ⊢;clear hold;go_upto_region 7 with fail
 have HOB2 := Lh (show 0 ≤ old ∧ old ≤ 4200 by rw [← HO.out]; exact HOB.out);have ew : wrap64 (m.garb + old) = m.garb + old := by have h1 := HGB.out; have h2 := HOB2.out; unfold wrap64; omega
 obtain ⟨x0, x1, x2, x3, x4, x5, x6, x7, x8, x9⟩ := bx10 HM6.out
 by_cases hg : 1099511627776 < m.garb + old
 case pos =>
  have l1 : decide (1099511627776 < m.garb + old) = true := decide_eq_true hg;have HE := Lh (show putM m x = m by unfold putM G40; rw [if_pos ⟨HOK.out, HII.out⟩, if_pos (by rw [HO.out]; exact hg)]);clear hg;go_upto_region 8 with fail
  clear ew l1;clear x0 x1 x2 x3 x4 x5 x6 x7 x8 x9;have ON := Lh (jwx MS6.out m.live m.garb);obtain ⟨x0, x1, x2, x3, x4, x5, x6, x7, x8, x9⟩ := bx10 HM6.out;go_wp2_with ((with_reducible refine storeR (w.heap.size + 2) _ #[s0, s1, s2, s3, s4, s5, s6, s7, .int .i64 m.live, .int .i64 m.garb] ?_ ?_ HZ6.out rfl rfl ON.out ?_); exact rfl; exact rfl)
  refine ro_end (fn := Tryz.f44) rfl (w.heap.size + 2) rfl (setRow_heap _ _ _ _ _ _ HZ6.out) ?_;rw [HE.out];exact ⟨⟨_, rfl, s0, s1, s2, s3, s4, s5, s6, s7, rfl, jww MS6.out HZ6.out⟩, jqd B6.out (Nat.le_add_right w.heap.size 2) _⟩
 have l1 : decide (1099511627776 < m.garb + old) = false := decide_eq_false hg;have HE := Lh (show putM m x = jxg (putL (iL m) x) (m.garb + old) by unfold putM G40; rw [if_pos ⟨HOK.out, HII.out⟩, if_neg (by rw [HO.out]; exact hg), HO.out]);have HJ := Lh (show J64 (m.garb + old) by have h1 := HGB.out; have h2 := HOB2.out; unfold J64; omega);have EW := Lh (show IntKind.i64.wrap (m.garb + old) = m.garb + old from (IntWalk.i64_left _).trans ew);clear hg;go_upto_region 9 with fail
 clear x0 x1 x2 x3 x4 x5 x6 x7 x8 x9;clear ew l1;have S0 : SBx w [(w.heap.size, .cells #[s0, s1, s2, s3, s4, s5, s6, s7, .int .i64 m.live, .int .i64 m.garb] 29 (0, 0)), (w.heap.size + 1, .cells #[.int .u64 (x.key : Int), .int .u32 (x.ck : Int), .int .i64 x.off, .int .i64 x.sz] 65 (0, 0))] w6.drew := ⟨B6.out.drew, fun p hp => by
  rcases List.mem_cons.1 hp with rfl | hp
  ·exact HM6.out
  ·rw [List.mem_singleton.1 hp]; exact HI6.out⟩
 refine jq0 ?_;refine jqh (SBx w [(w.heap.size, .cells #[s0, s1, s2, s3, s4, s5, s6, s7, .int .i64 m.live, .int .i64 m.garb] 29 (0, 0)), (w.heap.size + 1, .cells #[.int .u64 (x.key : Int), .int .u32 (x.ck : Int), .int .i64 x.off, .int .i64 x.sz] 65 (0, 0))]) [0, 2, 4, 5, 6, 7] 4 (by kernel_rfl) (fun _ _ _ _ _ h => h.elim) (by kernel_rfl) (by rfl) (by rfl) S0 ?_;simp only [jq2, List.filterMap_cons, List.filterMap_nil, List.getElem?_toArray, List.getElem?_cons_zero, List.getElem?_cons_succ];refine jqc (fun K hK => ?_);go_simp;refine ⟨.agg #[s0, s1, s2, s3, s4, s5, s6, s7, .int .i64 m.live, .int .i64 m.garb], fun w' hw' => by
  obtain ⟨x0, x1, x2, x3, x4, x5, x6, x7, x8, x9⟩ := bx10 (hw'.box _ (List.mem_cons_self ..));go_simp, hK _ ?_⟩
 clear hK K;refine jqc (fun K hK => ?_);go_simp;refine ⟨.agg #[.int .u64 (x.key : Int), .int .u32 (x.ck : Int), .int .i64 x.off, .int .i64 x.sz], fun w' hw' => by
  obtain ⟨⟨y0, y1, y2, y3⟩, -⟩ := bx4 (hw'.box _ (List.mem_cons_of_mem _ (List.mem_cons_self ..)));go_simp, hK _ ?_⟩
 clear hK K;refine jqc (fun K hK => ?_);go_simp;refine ⟨_, fun _ _ => rfl, hK _ ?_⟩;clear hK K;refine jqc (fun K hK => ?_);go_simp;refine ⟨.int .i64 m.garb, fun w' hw' => by
  obtain ⟨x0, x1, x2, x3, x4, x5, x6, x7, x8, x9⟩ := bx10 (hw'.box _ (List.mem_cons_self ..));go_simp, hK _ ?_⟩
 clear hK K;refine jqc (fun K hK => ?_);go_simp;refine ⟨_, fun _ _ => rfl, hK _ ?_⟩;clear hK K;refine jqc (fun K hK => ?_);go_simp;refine ⟨.int .i64 (m.garb + old), fun w' hw' => by
  have e := EW.out;go_simp, hK _ ?_⟩
 clear hK K;refine jqp ?_;have SD := Lh S0;have HZD := Lh (((Below.refl w6.heap.size w6).drew.block _ (jqb HZ6.out)).trans HZ6.out);generalize w6.drew = WD at *;have PJ2 := Lh (PJ.out WD SD.out.bel);rw [show jwn m = iL m by unfold jwn; rw [if_pos HOK.out]] at PJ2;clear S0 HZ6 HM6 HI6 MS6 B6 PJ HY6;refine gwq 1 fun K hK => ?_;go_simp
 go_at_call 69
 refine PJ2.out.mono ?_;rintro e V1 ⟨⟨vi, rfl, hit⟩, hb⟩;refine hK _ _ (SD.out.below hb) ?_;clear hK K;have S1 := Lh (SD.out.below hb);have HZ7 := Lh ((hb.block _ (jqb HZD.out)).trans HZD.out);have HL := Lh (show (iL m).length ≤ 900 from Nat.le_trans (jqz _) HN.out);have PR := Lh (rput_any vi (iL m) x HX.out V1 hit (Nat.le_trans HL.out (by decide)));obtain ⟨ai, ci, rfl, -, -⟩ := jqy hit;generalize hni : (iL m).length = ni at *;unfold TV at PR;clear hit hb SD HZD PJ2;refine gwq 3 fun K hK => ?_;go_simp
 go_at_call 74
 refine PR.out.mono ?_;rintro e V3 ⟨⟨vp, rfl, hot⟩, hb⟩;refine hK _ _ (S1.out.below hb) ?_;clear hK K;have S3 := Lh (S1.out.below hb);have HZ8 := Lh ((hb.block _ (jqb HZ7.out)).trans HZ7.out);have PF := Lh (rfrom_any vp (putL (iL m) x) (m.garb + old) V3 (jxr hot) (by
  unfold putL;have h1 := length_insL x (jqx (iL m));rw [sort_iL, hni] at h1;rw [sort_iL];have := HL.out;omega) HJ.out)
 obtain ⟨ap, cp, rfl, -, -⟩ := jqs hot;generalize (putL (iL m) x).length = np at *;clear hot hb S1 HZ7 PR;refine gwq 8 fun K hK => ?_;go_simp
 go_at_call 71
 refine PF.out.mono ?_;rintro e V5 ⟨⟨vf, rfl, hv5⟩, hb⟩;refine hK _ _ (S3.out.below hb) ?_;clear hK K;have S5 := Lh (S3.out.below hb);have HZ9 := Lh ((hb.block _ (jqb HZ8.out)).trans HZ8.out);rw [← HE.out] at hv5;obtain ⟨R, hR⟩ : ∃ z, z = putM m x := ⟨_, rfl⟩;rw [← hR] at hv5;have HR := Lh hR;obtain ⟨t0, t1, t2, t3, t4, t5, t6, t7, rfl, hms5⟩ := hv5;have ON := Lh (jwx hms5 R.live R.garb);have MS5 := Lh hms5;have S6 := Lh (S5.out.row (Nat.le_add_right w.heap.size 2) (fun p hp => by
  rcases List.mem_cons.1 hp with rfl | hp
  ·show w.heap.size ≠ w.heap.size + 2; omega
  ·rw [List.mem_singleton.1 hp]; show w.heap.size + 1 ≠ w.heap.size + 2; omega) #[t0, t1, t2, t3, t4, t5, t6, t7, .int .i64 R.live, .int .i64 R.garb])
 clear hms5 hb S3 HZ8 PF hR;refine gwq 9 fun K hK => ?_;refine wp_store_row 29 _ _ rfl (w.heap.size + 2) #[t0, t1, t2, t3, t4, t5, t6, t7, .int .i64 R.live, .int .i64 R.garb] (by rfl) (by rfl) 29 _ HZ9.out infoR10 rfl ON.out ?_;refine hK _ _ S6.out ?_;clear hK K;refine wpAnyH_done (by kernel_rfl) ?_ _;unfold jqw;dsimp only
 go_wp2
 refine ro_end (fn := Tryz.f44) rfl (w.heap.size + 2) rfl (setRow_heap _ _ _ _ _ _ HZ9.out) ?_;rw [← HR.out];exact ⟨⟨_, rfl, t0, t1, t2, t3, t4, t5, t6, t7, rfl, jww MS5.out HZ9.out⟩, S6.out.bel⟩
theorem rdelete11_any (v : Value) (m : Mp) (k : Nat) (w : World) (hv : Mv w v m) (hf : Few m) (hn : m.st.flatten.length ≤ 900) : Calls Tryz.prog 43 #[v, .int .u64 (k : Int)] w (MO w (delM m k)) := by
 have PG := Lh (fun W (h : Below w.heap.size w W) => rget11_any v m k W (jxq hv h) hf);have PJ := Lh (fun W (h : Below w.heap.size w W) => ritems11_any v m W (jxq hv h) hf);have HN := Lh hn;obtain ⟨s0, s1, s2, s3, s4, s5, s6, s7, rfl, hms⟩ := hv;have A2 := al2 w (.cells #[s0, s1, s2, s3, s4, s5, s6, s7, .int .i64 m.live, .int .i64 m.garb] 29) (.cells #[.slice none 0 0, .slice none 0 0, .slice none 0 0, .slice none 0 0, .slice none 0 0, .slice none 0 0, .slice none 0 0, .slice none 0 0, .int .i64 0, .int .i64 0] 29);have HM2 := Lh A2.1;have HZ2 := Lh A2.2.1;have B2 := Lh A2.2.2;have MS2 := Lh (jqf hms A2.2.2);clear hms A2;clear hf hn
 go_enter Tryz.func43, Tryz.ntmps43
 go_upto_region 1 with fail
 generalize (w.alloc (.cells #[s0, s1, s2, s3, s4, s5, s6, s7, .int .i64 m.live, .int .i64 m.garb] 29)).alloc (.cells #[.slice none 0 0, .slice none 0 0, .slice none 0 0, .slice none 0 0, .slice none 0 0, .slice none 0 0, .slice none 0 0, .slice none 0 0, .int .i64 0, .int .i64 0] 29) = W2 at *;have PG2 := Lh (PG.out W2 B2.out);have HLEN := Lh MS2.out.1;unfold FD at PG2;obtain ⟨y, hy⟩ : ∃ y, y = fnL (jwn m) k := ⟨_, rfl⟩;obtain ⟨q, hq⟩ : ∃ q, q = hasL (jwn m) k := ⟨_, rfl⟩;rw [← hy, ← hq] at PG2;have HYQ := Lh (And.intro hy hq);unfold TV at PG2;clear PG hy hq;obtain ⟨x0, x1, x2, x3, x4, x5, x6, x7, x8, x9⟩ := bx10 HM2.out;go_wp2_with fail
 clear x0 x1 x2 x3 x4 x5 x6 x7 x8 x9;refine PG2.out.mono ?_;rintro e w3 ⟨rfl, hb⟩;have HM3 := Lh ((hb.block _ (jqb HM2.out)).trans HM2.out);have HZ3 := Lh ((hb.block _ (jqb HZ2.out)).trans HZ2.out);have MS3 := Lh (jqf MS2.out hb);have B3 := Lh (B2.out.trans (hb.mono B2.out.size));clear hb B2 HM2 HZ2 MS2;clear PG2;go_upto_region 2 with fail
 have hb := jqg w3 (.cells #[.int .u64 (y.key : Int), .int .u32 (y.ck : Int), .int .i64 y.off, .int .i64 y.sz] 65);have HY4 := Lh (heap_alloc_new w3 (.cells #[.int .u64 (y.key : Int), .int .u32 (y.ck : Int), .int .i64 y.off, .int .i64 y.sz] 65));have HGY := Lh (show w.heap.size + 1 < w3.heap.size from jqb HZ3.out);have HM4 := Lh ((hb.block _ (jqb HM3.out)).trans HM3.out);have HZ4 := Lh ((hb.block _ (jqb HZ3.out)).trans HZ3.out);have MS4 := Lh (jqf MS3.out hb);have B4 := Lh (B3.out.trans (hb.mono B3.out.size));clear hb B3 HM3 HZ3 MS3;generalize w3.alloc (.cells #[.int .u64 (y.key : Int), .int .u32 (y.ck : Int), .int .i64 y.off, .int .i64 y.sz] 65) = w4 at *;generalize w3.heap.size = gy at *
 cases q
 case false =>
  have HE := Lh (show delM m k = m by
   unfold delM;refine if_neg fun h => ?_;have h1 := HYQ.out.2;unfold hasL jwn at h1;rw [if_pos h.1] at h1;rw [h.2] at h1
   cases h1)
  refine jq0 ?_;refine jqh (fun W' => Below w4.heap.size w4 W') [0, 1, 2, 3, 4, 5, 6, 7, 8, 9, 10] 0 (by kernel_rfl) (fun _ _ _ _ _ h => h.elim) (by kernel_rfl) (by rfl) (by rfl) (Below.refl w4.heap.size w4).drew ?_;simp only [jq2, List.filterMap_cons, List.filterMap_nil, List.getElem?_toArray, List.getElem?_cons_zero, List.getElem?_cons_succ];refine jqc (fun K hK => ?_);go_simp;refine ⟨_, fun _ _ => rfl, hK _ ?_⟩;clear hK K;refine jqc (fun K hK => ?_);go_simp;refine ⟨_, fun _ _ => rfl, hK _ ?_⟩;clear hK K;refine jqc (fun K hK => ?_);go_simp;refine ⟨_, fun _ _ => rfl, hK _ ?_⟩;clear hK K;refine jqc (fun K hK => ?_);go_simp;refine hK _ ?_;clear hK K;refine jqc (fun K hK => ?_);go_simp;refine hK _ ?_;clear hK K;refine jqc (fun K hK => ?_);go_simp;refine hK _ ?_;clear hK K;refine jqc (fun K hK => ?_);go_simp;refine hK _ ?_;clear hK K;refine jqc (fun K hK => ?_);go_simp;refine hK _ ?_;clear hK K;refine jqc (fun K hK => ?_);go_simp;refine hK _ ?_;clear hK K;refine jqc (fun K hK => ?_);go_simp;refine hK _ ?_;clear hK K;refine jqc (fun K hK => ?_);go_simp;refine ⟨_, fun _ _ => rfl, hK _ ?_⟩;clear hK K;refine jqp ?_;have hb := (Below.refl w4.heap.size w4).drew;have HM5 := Lh ((hb.block _ (jqb HM4.out)).trans HM4.out);have HZ5 := Lh ((hb.block _ (jqb HZ4.out)).trans HZ4.out);have MS5 := Lh (jqf MS4.out hb);have B5 := Lh (B4.out.trans (hb.mono B4.out.size));clear hb B4 HM4 HZ4 MS4;generalize w4.drew = w5 at *;refine wpAnyH_done (by kernel_rfl) ?_ _;unfold jqw;dsimp only;go_upto_region 3 with fail
  have ON := Lh (jwx MS5.out m.live m.garb);obtain ⟨x0, x1, x2, x3, x4, x5, x6, x7, x8, x9⟩ := bx10 HM5.out;go_wp2_with ((with_reducible refine storeR (w.heap.size + 1) _ #[s0, s1, s2, s3, s4, s5, s6, s7, .int .i64 m.live, .int .i64 m.garb] ?_ ?_ HZ5.out rfl rfl ON.out ?_); exact rfl; exact rfl)
  refine ro_end (fn := Tryz.f43) rfl (w.heap.size + 1) rfl (setRow_heap _ _ _ _ _ _ HZ5.out) ?_;rw [HE.out];exact ⟨⟨_, rfl, s0, s1, s2, s3, s4, s5, s6, s7, rfl, jww MS5.out HZ5.out⟩, jqd B5.out (Nat.le_succ w.heap.size) _⟩
 have hok : okM m := Classical.byContradiction fun h => by
  have h1 := HYQ.out.2;unfold hasL jwn at h1;rw [if_neg h] at h1
  cases h1
 have HOK := Lh hok;rw [show jwn m = iL m by unfold jwn; rw [if_pos hok]] at HYQ;have HS := Lh (show (lk (iL m) k).isSome = true from HYQ.out.2.symm);have HO := Lh (show oldT (iL m) k = szI6 y.sz by
  have h1 := HYQ.out.2;have h3 := HYQ.out.1;unfold hasL at h1;unfold fnL at h3;unfold oldT
  cases h2 : lk (iL m) k with
  | none => rw [h2] at h1; cases h1
  | some z => rw [h2] at h3; rw [h3]; rfl)
 have HYO := Lh (show J64 y.sz by
  have h1 := HYQ.out.2;have h3 := HYQ.out.1;unfold hasL at h1;unfold fnL at h3
  cases h2 : lk (iL m) k with
  | none => rw [h2] at h1; cases h1
  | some z =>
   rw [h2] at h3;have h4 := iL_ok HOK.out HLEN.out z (lk_some h2).1;rw [h3];show J64 z.sz;have h5 := h4.2.2.2;unfold J64;omega)
 have HOB := Lh (oldT_bd (iL m) k);have HGB := Lh (And.intro HOK.out.lo HOK.out.hi);obtain ⟨old, hold⟩ : ∃ z, z = szI6 y.sz := ⟨_, rfl⟩;have PS := Lh (fun W => jxw y.sz W HYO.out);rw [← hold] at HO PS;have HOB2 := Lh (show 0 ≤ old ∧ old ≤ 4200 by rw [← HO.out]; exact HOB.out);have EW := Lh (show IntKind.i64.wrap (m.garb + old) = m.garb + old from (IntWalk.i64_left _).trans (by have h1 := HGB.out; have h2 := HOB2.out; unfold wrap64; omega));have HJ := Lh (show J64 (m.garb + old) by have h1 := HGB.out; have h2 := HOB2.out; unfold J64; omega);obtain ⟨qg, hqg⟩ : ∃ z : Bool, z = decide (1099511627776 < m.garb + old) := ⟨_, rfl⟩;have HQG := Lh hqg;clear hok hold hqg;refine jq0 ?_;refine jqh (fun W' => Below w4.heap.size w4 W') [0, 1, 2, 3, 4, 5, 6] 4 (by kernel_rfl) (fun _ _ _ _ _ h => h.elim) (by kernel_rfl) (by rfl) (by rfl) (Below.refl w4.heap.size w4).drew ?_;simp only [jq2, List.filterMap_cons, List.filterMap_nil, List.getElem?_toArray, List.getElem?_cons_zero, List.getElem?_cons_succ];refine jqc (fun K hK => ?_);go_simp;refine ⟨_, fun _ _ => rfl, hK _ ?_⟩;clear hK K;refine jqc (fun K hK => ?_);go_simp;refine ⟨_, fun _ _ => rfl, hK _ ?_⟩;clear hK K;refine jqc (fun K hK => ?_);go_simp;refine ⟨_, fun _ _ => rfl, hK _ ?_⟩;clear hK K;refine jqc (fun K hK => ?_);go_simp;refine ⟨_, fun _ _ => rfl, hK _ ?_⟩;clear hK K;refine jqc (fun K hK => ?_);go_simp;refine ⟨.int .i64 m.garb, fun w' hw' => by
  obtain ⟨x0, x1, x2, x3, x4, x5, x6, x7, x8, x9⟩ := bx10 ((hw'.block _ (jqb HM4.out)).trans HM4.out);go_simp, hK _ ?_⟩
 clear hK K;refine jqc (fun K hK => ?_);go_simp;refine ⟨_, fun _ _ => rfl, hK _ ?_⟩;clear hK K;refine jqc (fun K hK => ?_);go_simp;refine ⟨.int .i64 y.sz, fun w' hw' => by
  obtain ⟨⟨y0, y1, y2, y3⟩, -⟩ := bx4 ((hw'.block _ (jqb HY4.out)).trans HY4.out);go_simp, hK _ ?_⟩
 clear hK K;refine jqp ?_;have hb := (Below.refl w4.heap.size w4).drew;have SD := Lh hb;have HY5 := Lh ((hb.block _ (jqb HY4.out)).trans HY4.out);have HM5 := Lh ((hb.block _ (jqb HM4.out)).trans HM4.out);have HZ5 := Lh ((hb.block _ (jqb HZ4.out)).trans HZ4.out);have MS5 := Lh (jqf MS4.out hb);have B5 := Lh (B4.out.trans (hb.mono B4.out.size));clear hb B4 HM4 HZ4 MS4;generalize w4.drew = w5 at *;refine gwq 7 fun K hK => ?_;go_simp
 go_at_call 41
 refine (PS.out w5).mono ?_;rintro e V1 ⟨rfl, rfl⟩;refine hK _ _ SD.out ?_;clear hK K;have e1 := EW.out;refine gwq 8 fun K hK => ?_;go_simp;refine hK _ _ SD.out ?_;clear hK K;have e2 := HQG.out.symm;refine gwq 9 fun K hK => ?_;go_simp;refine hK _ _ SD.out ?_;clear hK K;refine gwq 10 fun K hK => ?_;go_simp;refine hK _ _ SD.out ?_;clear hK K;clear e1 e2;refine wpAnyH_done (by kernel_rfl) ?_ _;unfold jqw;dsimp only
 go_upto_if 23 with fail
 cases qg
 case true =>
  have HE := Lh (show delM m k = m by unfold delM G40; rw [if_pos ⟨HOK.out, HS.out⟩, if_pos (by rw [HO.out]; exact of_decide_eq_true HQG.out.symm)]);go_upto_region 3 with fail
  have ON := Lh (jwx MS5.out m.live m.garb);obtain ⟨x0, x1, x2, x3, x4, x5, x6, x7, x8, x9⟩ := bx10 HM5.out;go_wp2_with ((with_reducible refine storeR (w.heap.size + 1) _ #[s0, s1, s2, s3, s4, s5, s6, s7, .int .i64 m.live, .int .i64 m.garb] ?_ ?_ HZ5.out rfl rfl ON.out ?_); exact rfl; exact rfl)
  refine ro_end (fn := Tryz.f43) rfl (w.heap.size + 1) rfl (setRow_heap _ _ _ _ _ _ HZ5.out) ?_;rw [HE.out];exact ⟨⟨_, rfl, s0, s1, s2, s3, s4, s5, s6, s7, rfl, jww MS5.out HZ5.out⟩, jqd B5.out (Nat.le_succ w.heap.size) _⟩
 have HE := Lh (show delM m k = jxg (dropL (iL m) k) (m.garb + old) by unfold delM G40; rw [if_pos ⟨HOK.out, HS.out⟩, if_neg (by rw [HO.out]; exact of_decide_eq_false HQG.out.symm), HO.out]);go_upto_region 4 with fail
 have S0 : SBx w [(w.heap.size, .cells #[s0, s1, s2, s3, s4, s5, s6, s7, .int .i64 m.live, .int .i64 m.garb] 29 (0, 0)), (gy, .cells #[.int .u64 (y.key : Int), .int .u32 (y.ck : Int), .int .i64 y.off, .int .i64 y.sz] 65 (0, 0))] w5.drew := ⟨B5.out.drew, fun p hp => by
  rcases List.mem_cons.1 hp with rfl | hp
  ·exact HM5.out
  ·rw [List.mem_singleton.1 hp]; exact HY5.out⟩
 refine jq0 ?_;refine jqh (SBx w [(w.heap.size, .cells #[s0, s1, s2, s3, s4, s5, s6, s7, .int .i64 m.live, .int .i64 m.garb] 29 (0, 0)), (gy, .cells #[.int .u64 (y.key : Int), .int .u32 (y.ck : Int), .int .i64 y.off, .int .i64 y.sz] 65 (0, 0))]) [0, 2, 4, 5, 6, 7] 6 (by kernel_rfl) (fun _ _ _ _ _ h => h.elim) (by kernel_rfl) (by rfl) (by rfl) S0 ?_;simp only [jq2, List.filterMap_cons, List.filterMap_nil, List.getElem?_toArray, List.getElem?_cons_zero, List.getElem?_cons_succ];refine jqc (fun K hK => ?_);go_simp;refine ⟨.agg #[s0, s1, s2, s3, s4, s5, s6, s7, .int .i64 m.live, .int .i64 m.garb], fun w' hw' => by
  obtain ⟨x0, x1, x2, x3, x4, x5, x6, x7, x8, x9⟩ := bx10 (hw'.box _ (List.mem_cons_self ..));go_simp, hK _ ?_⟩
 clear hK K;refine jqc (fun K hK => ?_);go_simp;refine ⟨_, fun _ _ => rfl, hK _ ?_⟩;clear hK K;refine jqc (fun K hK => ?_);go_simp;refine ⟨_, fun _ _ => rfl, hK _ ?_⟩;clear hK K;refine jqc (fun K hK => ?_);go_simp;refine ⟨.int .i64 m.garb, fun w' hw' => by
  obtain ⟨x0, x1, x2, x3, x4, x5, x6, x7, x8, x9⟩ := bx10 (hw'.box _ (List.mem_cons_self ..));go_simp, hK _ ?_⟩
 clear hK K;refine jqc (fun K hK => ?_);go_simp;refine ⟨_, fun _ _ => rfl, hK _ ?_⟩;clear hK K;refine jqc (fun K hK => ?_);go_simp;refine ⟨.int .i64 y.sz, fun w' hw' => by
  obtain ⟨⟨y0, y1, y2, y3⟩, -⟩ := bx4 (hw'.box _ (List.mem_cons_of_mem _ (List.mem_cons_self ..)));go_simp, hK _ ?_⟩
 clear hK K;refine jqp ?_;have S0 := Lh S0;have HZD := Lh (((Below.refl w5.heap.size w5).drew.block _ (jqb HZ5.out)).trans HZ5.out);clear SD;generalize w5.drew = WD at *;have PJ2 := Lh (PJ.out WD S0.out.bel);rw [show jwn m = iL m by unfold jwn; rw [if_pos HOK.out]] at PJ2;clear HZ5 HM5 HY5 MS5 B5 PJ;refine gwq 1 fun K hK => ?_;go_simp
 go_at_call 69
 refine PJ2.out.mono ?_;rintro e V1 ⟨⟨vi, rfl, hit⟩, hb⟩;refine hK _ _ (S0.out.below hb) ?_;clear hK K;have S1 := Lh (S0.out.below hb);have HZ7 := Lh ((hb.block _ (jqb HZD.out)).trans HZD.out);have HL := Lh (show (iL m).length ≤ 900 from Nat.le_trans (jqz _) HN.out);have PR := Lh (rdrop_any vi (iL m) k V1 hit (Nat.le_trans HL.out (by decide)));obtain ⟨ai, ci, rfl, -, -⟩ := jqy hit;generalize hni : (iL m).length = ni at *;clear hit hb S0 HZD PJ2;refine gwq 3 fun K hK => ?_;go_simp
 go_at_call 72
 refine PR.out.mono ?_;rintro e V3 ⟨⟨vp, rfl, hot⟩, hb⟩;refine hK _ _ (S1.out.below hb) ?_;clear hK K;have S3 := Lh (S1.out.below hb);have HZ8 := Lh ((hb.block _ (jqb HZ7.out)).trans HZ7.out);have PF := Lh (rfrom_any vp (dropL (iL m) k) (m.garb + old) V3 (jxr hot) (by
  have h1 : (dropL (iL m) k).length ≤ (jqx (iL m)).length := List.length_filter_le _ _;rw [sort_iL, hni] at h1;have := HL.out;omega) HJ.out)
 obtain ⟨ap, cp, rfl, -, -⟩ := jqs hot;generalize (dropL (iL m) k).length = np at *;clear hot hb S1 HZ7 PR;refine gwq 8 fun K hK => ?_;go_simp
 go_at_call 41
 refine (PS.out V3).mono ?_;rintro e V4 ⟨rfl, rfl⟩;refine hK _ _ S3.out ?_;clear hK K;have e1 := EW.out;refine gwq 9 fun K hK => ?_;go_simp;refine hK _ _ S3.out ?_;clear hK K;clear e1;refine gwq 10 fun K hK => ?_;go_simp
 go_at_call 71
 refine PF.out.mono ?_;rintro e V5 ⟨⟨vf, rfl, hv5⟩, hb⟩;refine hK _ _ (S3.out.below hb) ?_;clear hK K;have S5 := Lh (S3.out.below hb);have HZ9 := Lh ((hb.block _ (jqb HZ8.out)).trans HZ8.out);rw [← HE.out] at hv5;obtain ⟨R, hR⟩ : ∃ z, z = delM m k := ⟨_, rfl⟩;rw [← hR] at hv5;have HR := Lh hR;obtain ⟨t0, t1, t2, t3, t4, t5, t6, t7, rfl, hms5⟩ := hv5;have ON := Lh (jwx hms5 R.live R.garb);have MS5 := Lh hms5;have S6 := Lh (S5.out.row (Nat.le_succ w.heap.size) (fun p hp => by
  rcases List.mem_cons.1 hp with rfl | hp
  ·show w.heap.size ≠ w.heap.size + 1; omega
  ·rw [List.mem_singleton.1 hp]; show gy ≠ w.heap.size + 1; have := HGY.out; omega) #[t0, t1, t2, t3, t4, t5, t6, t7, .int .i64 R.live, .int .i64 R.garb])
 clear hms5 hb S3 HZ8 PF hR;refine gwq 11 fun K hK => ?_;refine wp_store_row 29 _ _ rfl (w.heap.size + 1) #[t0, t1, t2, t3, t4, t5, t6, t7, .int .i64 R.live, .int .i64 R.garb] (by rfl) (by rfl) 29 _ HZ9.out infoR10 rfl ON.out ?_;refine hK _ _ S6.out ?_;clear hK K;refine wpAnyH_done (by kernel_rfl) ?_ _;unfold jqw;dsimp only
 go_wp2
 refine ro_end (fn := Tryz.f43) rfl (w.heap.size + 1) rfl (setRow_heap _ _ _ _ _ _ HZ9.out) ?_;rw [← HR.out];exact ⟨⟨_, rfl, t0, t1, t2, t3, t4, t5, t6, t7, rfl, jww MS5.out HZ9.out⟩, S6.out.bel⟩
end Go.Proofs.YtimoinfjinmamaaGreat.Gf
namespace Go.Proofs.YtimoinfjinmamaaGreat.Gf
open Joins ChangeShapes WideShapes ChangeAt RowKit Deep By Qt
structure Bd (m : Mp) : Prop where
 few : Few m
 flat : m.st.flatten.length ≤ 900
def MAt (W : World) (b o : Nat) (m : Mp) : Prop := ∃ c0 c1 c2 c3 c4 c5 c6 c7, (W.cell? ⟨b, o, none⟩ = some c0 ∧ W.cell? ⟨b, o + 1, none⟩ = some c1 ∧ W.cell? ⟨b, o + 2, none⟩ = some c2 ∧ W.cell? ⟨b, o + 3, none⟩ = some c3 ∧ W.cell? ⟨b, o + 4, none⟩ = some c4 ∧ W.cell? ⟨b, o + 5, none⟩ = some c5 ∧ W.cell? ⟨b, o + 6, none⟩ = some c6 ∧ W.cell? ⟨b, o + 7, none⟩ = some c7 ∧ W.cell? ⟨b, o + 8, none⟩ = some (.int .i64 m.live) ∧ W.cell? ⟨b, o + 9, none⟩ = some (.int .i64 m.garb)) ∧ Ms W [c0, c1, c2, c3, c4, c5, c6, c7] m
theorem MAt.below {W W' : World} {b o : Nat} {m : Mp} (h : MAt W b o m) (hB : Below W.heap.size W W') : MAt W' b o m := by
 obtain ⟨c0, c1, c2, c3, c4, c5, c6, c7, ⟨h0, h1, h2, h3, h4, h5, h6, h7, h8, h9⟩, hm⟩ := h;exact ⟨c0, c1, c2, c3, c4, c5, c6, c7, ⟨(hB.cell (block_lt_of_cell h0)).trans h0, (hB.cell (block_lt_of_cell h1)).trans h1, (hB.cell (block_lt_of_cell h2)).trans h2, (hB.cell (block_lt_of_cell h3)).trans h3, (hB.cell (block_lt_of_cell h4)).trans h4, (hB.cell (block_lt_of_cell h5)).trans h5, (hB.cell (block_lt_of_cell h6)).trans h6, (hB.cell (block_lt_of_cell h7)).trans h7, (hB.cell (block_lt_of_cell h8)).trans h8, (hB.cell (block_lt_of_cell h9)).trans h9⟩, jqf hm hB⟩
def MArr (W : World) (b n : Nat) : Prop := ∀ j, j < n → ∃ m, MAt W b (j * 10) m ∧ Bd m
theorem MArr.below {W W' : World} {b n : Nat} (h : MArr W b n) (hB : Below W.heap.size W W') : MArr W' b n := fun j hj => by
 obtain ⟨m, h1, h2⟩ := h j hj;exact ⟨m, h1.below hB, h2⟩
def KArr (W : World) (b : Nat) : Prop := ∀ j, j < 2 → ∃ k : Nat, W.cell? ⟨b, j, none⟩ = some (.int .u64 (k : Int))
theorem KArr.below {W W' : World} {b : Nat} (h : KArr W b) (hB : Below W.heap.size W W') : KArr W' b := fun j hj => by
 obtain ⟨k, hk⟩ := h j hj;exact ⟨k, (hB.cell (block_lt_of_cell hk)).trans hk⟩
theorem len_same {m : Mp} (hl : m.st.length = 8) : lenM m = (jwn m).length := by
 unfold lenM jwn
 by_cases hok : okM m
 ·rw [if_pos hok, if_pos hok]
  exact ((⟨hok, hl, Nat.le_refl _⟩ : Gd m m.st.flatten.length).lenI).symm
 ·rw [if_neg hok, if_neg hok]
  rfl
end Go.Proofs.YtimoinfjinmamaaGreat.Gf
