/- What is proved here: the program's Top, CanRotate, Fits, checked, Fresh and New, for every slot of few items. -/
/- What is proved here: the program's Top, CanRotate, Fits, checked, Fresh and New, for every slot of few items. -/
import Derived.Test.YtimoinfjinmamaaGreatGs10
namespace Go.Proofs.YtimoinfjinmamaaGreat.Gf
open Joins ChangeShapes WideShapes ChangeAt RowKit Deep By Qt
set_option maxRecDepth 100000
set_option maxHeartbeats 204800000
theorem infoS4 : (Tryz.prog.info? 39).map (·.size) = some 4 := by kernel_rfl
theorem storeS {ops : Array Oper} {rest : List Oper} {x y : Operand} {pos : String} {after : Array Edge} {ty : TypeId} {a : Act} {w : World} {Q : Exit → Act → World → Prop}
 (g : Nat) (old cs : Array Value) (hx : a.eval x = .pointer (some ⟨g, 0, none⟩)) (hy : a.eval y = .agg cs) (hg : w.heap[g]? = some (.cells old 39 (0, 0))) (ho : old.size = 4) (hs : cs.size = 4) (h1 : cs.all (·.oneCell') = true)
 (h : wpList Tryz.prog ops Q rest a (w.setRow g cs)) : wpList Tryz.prog ops Q (⟨none, .store 39 x y, ty, pos, after, none⟩ :: rest) a w :=
 wpList_store_row rfl 39 x y rfl g cs hx hy 39 old hg (by rw [infoS4, hs]) (by omega) h1 h
theorem run_fieldSize (c0 c1 c2 z : Value) (b0 b1 b2 b3 b4 b5 b6 b7 b8 b9 : Value) (w : World) : (Instr.field 55 (.agg #[c0, c1, c2, z, b0, b1, b2, b3, b4, b5, b6, b7, b8, b9]) 3).run Tryz.prog w = .ok z w := by
 simp [Instr.field, run_underlying Tryz.underlying55, asAgg, part, isAgg, run_underlying Tryz.underlying2]
def jwh (s : Slt) : Ge := s.gens.getD (s.gens.length - 1) g0
theorem jxv (w : World) : Gl w (.slice none 0 0) [] := ⟨[], none, 0, rfl, rfl, Nat.le_refl _, by decide, fun k hk => absurd hk (Nat.not_lt_zero k), fun h => absurd h (Nat.lt_irrefl 0)⟩
theorem zg_one : (#[.int .i64 0, .int .i64 0, .int .i64 0, .int .i64 0, .slice none 0 0, .slice none 0 0, .slice none 0 0, .slice none 0 0, .slice none 0 0, .slice none 0 0, .slice none 0 0, .slice none 0 0, .int .i64 0, .int .i64 0] : Array Value).all (·.oneCell') = true := by kernel_rfl
theorem zs_one : (#[.int .i64 0, .int .i64 0, .bool false, .slice none 0 0] : Array Value).all (·.oneCell') = true := by kernel_rfl
theorem slv_one (id lim : Int) (ro : Bool) (b : Nat) (o : Nat) (n c : Nat) : (#[.int .i64 id, .int .i64 lim, .bool ro, .slice (some ⟨b, o, none⟩) n c] : Array Value).all (·.oneCell') = true := by simp [show (Value.int .i64 id).oneCell' = true from rfl, show (Value.int .i64 lim).oneCell' = true from rfl, show (Value.bool ro).oneCell' = true from rfl, show (Value.slice (some ⟨b, o, none⟩) n c).oneCell' = true from rfl]
theorem gl_one {w : World} {a : Option Addr} {n c : Nat} {L : List Ge} (hl : Gl w (.slice a n c) L) (h0 : 0 < n) (id lim : Int) (ro : Bool) : (#[.int .i64 id, .int .i64 lim, .bool ro, .slice a n c] : Array Value).all (·.oneCell') = true := by
 obtain ⟨b, off, rfl, -⟩ := gl_at hl h0;exact slv_one id lim ro b off n c
theorem g0_v (w : World) : Gv w (.agg #[.int .i64 0, .int .i64 0, .int .i64 0, .int .i64 0, .slice none 0 0, .slice none 0 0, .slice none 0 0, .slice none 0 0, .slice none 0 0, .slice none 0 0, .slice none 0 0, .slice none 0 0, .int .i64 0, .int .i64 0]) g0 := ⟨_, _, _, _, _, _, _, _, rfl, mp0_ms w, by unfold J64 g0; decide, by unfold J64 g0; decide, by unfold J64 g0; decide, by unfold J64 g0; decide⟩
noncomputable def rotB (s : Slt) : Bool := okSb s && decide ((jwh s).num < 8)
def ChkO (s : Slt) (cs : Array Value) (w : World) (e : Ending) (w' : World) : Prop := e = .returned (.tuple #[.agg (if okSb s = true then cs else #[.int .i64 0, .int .i64 0, .bool false, .slice none 0 0]), .int .i64 (if okSb s = true then 0 else 1)]) ∧ Below w.heap.size w w'
theorem chkO_t {s : Slt} {cs : Array Value} {w w' : World} {e : Ending} (h : okS s) (q : e = .returned (.tuple #[.agg cs, .int .i64 0]) ∧ Below w.heap.size w w') : ChkO s cs w e w' := by
 unfold ChkO;rw [jwm h];exact q
theorem chkO_f {s : Slt} {cs : Array Value} {w w' : World} {e : Ending} (h : ¬ okS s) (q : e = .returned (.tuple #[.agg #[.int .i64 0, .int .i64 0, .bool false, .slice none 0 0], .int .i64 1]) ∧ Below w.heap.size w w') : ChkO s cs w e w' := by
 unfold ChkO;rw [jwf h];exact q
theorem pchecked_x (id lim : Int) (ro : Bool) (a : Option Addr) (n c : Nat) (L : List Ge) (w : World) (hn : n = L.length) (hl : Gl w (.slice a n c) L) (hlen : n ≤ 10000) (hf : ∀ g ∈ L, LGe g) : Calls Tryz.prog 50 #[.agg #[.int .i64 id, .int .i64 lim, .bool ro, .slice a n c]] w (ChkO ⟨id, lim, ro, L⟩ #[.int .i64 id, .int .i64 lim, .bool ro, .slice a n c] w) := by
 have q0 := al2 w (.cells #[.int .i64 id, .int .i64 lim, .bool ro, .slice a n c] 39) (.cells #[.int .i64 0, .int .i64 0, .bool false, .slice none 0 0] 39);have HS := Lh q0.1;have HZ := Lh q0.2.1;have B0 := Lh q0.2.2;have GL := Lh (jqj hl q0.2.2);have HN := Lh hn;have PV := Lh (fun W (h : Gl W (.slice a n c) L) => psvalid_x id lim ro a n c L W hn h hlen hf);clear hl hf q0 hn hlen
 go_enter Tryz.func50, Tryz.ntmps50
 go_upto_region 1 with fail
 generalize (w.alloc (.cells #[.int .i64 id, .int .i64 lim, .bool ro, .slice a n c] 39)).alloc (.cells #[.int .i64 0, .int .i64 0, .bool false, .slice none 0 0] 39) = W0 at *;obtain ⟨⟨y0, y1, y2, y3⟩, -⟩ := bx4 HS.out;go_wp2_with fail
 clear y0 y1 y2 y3;refine (PV.out W0 GL.out).mono ?_;rintro e W1 ⟨rfl, hb⟩;have HS1 := Lh ((hb.block _ (jqb HS.out)).trans HS.out);have HZ1 := Lh ((hb.block _ (jqb HZ.out)).trans HZ.out);have GL1 := Lh (jqj GL.out hb);have B1 := Lh (B0.out.trans (hb.mono B0.out.size));clear hb HS HZ GL B0 PV;rcases Classical.em (okS ⟨id, lim, ro, L⟩) with h1 | h1
 ·rw [jwm h1]
  have ON := Lh (gl_one GL1.out (by have := h1.n1; have := HN.out; simp only at *; omega) id lim ro);have HK := Lh h1;clear h1;obtain ⟨⟨y0, y1, y2, y3⟩, -⟩ := bx4 HS1.out;go_wp2_with ((with_reducible refine storeS (w.heap.size + 1) _ #[.int .i64 id, .int .i64 lim, .bool ro, .slice a n c] ?_ ?_ HZ1.out rfl rfl ON.out ?_); exact rfl; exact rfl)
  refine bodyPost_ret (jqn (S := 39) rfl _ _ (w.heap.size + 1) #[.int .i64 id, .int .i64 lim, .bool ro, .slice a n c] rfl (setRow_heap _ _ _ _ _ _ HZ1.out) Tryz.underlying39 rfl infoS4) rfl ?_;exact chkO_t HK.out ⟨rfl, jqd B1.out (Nat.le_succ _) _⟩
 ·rw [jwf h1]
  have HK := Lh h1;clear h1;go_wp2_with ((with_reducible refine storeS (w.heap.size + 1) _ #[.int .i64 0, .int .i64 0, .bool false, .slice none 0 0] ?_ ?_ HZ1.out rfl rfl zs_one ?_); exact rfl; exact rfl)
  refine bodyPost_ret (jqn (S := 39) rfl _ _ (w.heap.size + 1) #[.int .i64 0, .int .i64 0, .bool false, .slice none 0 0] rfl (setRow_heap _ _ _ _ _ _ HZ1.out) Tryz.underlying39 rfl infoS4) rfl ?_;exact chkO_f HK.out ⟨rfl, jqd B1.out (Nat.le_succ _) _⟩
def frG (n : Int) : Ge := ⟨n, 0, 1, 16, mp0⟩
def FreO (n : Int) (w : World) (e : Ending) (w' : World) : Prop := (∃ v, e = .returned (.tuple #[v, .int .i64 (if 1 ≤ n ∧ n ≤ 8 then 0 else 1)]) ∧ Gv w' v (if 1 ≤ n ∧ n ≤ 8 then frG n else g0)) ∧ Below w.heap.size w w'
theorem freO_t {n : Int} {w w' : World} {e : Ending} (h : 1 ≤ n ∧ n ≤ 8) (q : (∃ v, e = .returned (.tuple #[v, .int .i64 0]) ∧ Gv w' v (frG n)) ∧ Below w.heap.size w w') : FreO n w e w' := by
 unfold FreO;rw [if_pos h, if_pos h];exact q
theorem freO_f {n : Int} {w w' : World} {e : Ending} (h : ¬ (1 ≤ n ∧ n ≤ 8)) (q : (∃ v, e = .returned (.tuple #[v, .int .i64 1]) ∧ Gv w' v g0) ∧ Below w.heap.size w w') : FreO n w e w' := by
 unfold FreO;rw [if_neg h, if_neg h];exact q
theorem pfresh_any (n : Int) (w : World) : Calls Tryz.prog 32 #[.int .i64 n] w (FreO n w) := by
 have B0 := Lh (jqg w (.cells #[.int .i64 0, .int .i64 0, .int .i64 0, .int .i64 0, .slice none 0 0, .slice none 0 0, .slice none 0 0, .slice none 0 0, .slice none 0 0, .slice none 0 0, .slice none 0 0, .slice none 0 0, .int .i64 0, .int .i64 0] 55));have HG := Lh (heap_alloc_new w (.cells #[.int .i64 0, .int .i64 0, .int .i64 0, .int .i64 0, .slice none 0 0, .slice none 0 0, .slice none 0 0, .slice none 0 0, .slice none 0 0, .slice none 0 0, .slice none 0 0, .slice none 0 0, .int .i64 0, .int .i64 0] 55))
 go_enter Tryz.func32, Tryz.ntmps32
 go_upto_region 1 with fail
 generalize w.alloc (.cells #[.int .i64 0, .int .i64 0, .int .i64 0, .int .i64 0, .slice none 0 0, .slice none 0 0, .slice none 0 0, .slice none 0 0, .slice none 0 0, .slice none 0 0, .slice none 0 0, .slice none 0 0, .int .i64 0, .int .i64 0] 55) = W0 at *;go_wp2_with fail
 refine (pvalidNumber_any n W0).mono ?_;rintro e W0' ⟨rfl, rfl⟩;rcases Classical.em (1 ≤ n ∧ n ≤ 8) with h1 | h1
 ·rw [decide_eq_true h1]
  have HH := Lh h1;clear h1;go_wp2_with fail
  refine (pnew_any W0).mono ?_;rintro e W1 ⟨⟨v1, rfl, hv1⟩, hb⟩;obtain ⟨s0, s1, s2, s3, s4, s5, s6, s7, rfl, hms⟩ := hv1;have HG1 := Lh ((hb.block _ (jqb HG.out)).trans HG.out);have B1 := Lh (B0.out.trans (hb.mono B0.out.size));have ON := Lh (jwj (g := frG n) hms);have MS := Lh hms;clear hb HG B0 hms;go_wp2_with ((with_reducible refine jxn w.heap.size _ #[.int .i64 (frG n).num, .int .i64 (frG n).rev, .int .i64 (frG n).mode, .int .i64 (frG n).size, s0, s1, s2, s3, s4, s5, s6, s7, .int .i64 (frG n).m.live, .int .i64 (frG n).m.garb] ?_ ?_ HG1.out rfl rfl ON.out ?_); exact rfl; exact rfl)
  refine bodyPost_ret (jqn (S := 55) rfl _ _ w.heap.size #[.int .i64 (frG n).num, .int .i64 (frG n).rev, .int .i64 (frG n).mode, .int .i64 (frG n).size, s0, s1, s2, s3, s4, s5, s6, s7, .int .i64 (frG n).m.live, .int .i64 (frG n).m.garb] rfl (setRow_heap _ _ _ _ _ _ HG1.out) Tryz.underlying55 rfl jxj) rfl ?_;exact freO_t HH.out ⟨⟨_, rfl, s0, s1, s2, s3, s4, s5, s6, s7, rfl, jqv MS.out HG1.out jwg, by have := HH.out; unfold J64 frG; simp only; omega, by unfold J64 frG; simp only; omega, by unfold J64 frG; simp only; omega, by unfold J64 frG; simp only; omega⟩, jqd B1.out (Nat.le_refl _) _⟩
 ·rw [decide_eq_false h1]
  have HH := Lh h1;clear h1;go_wp2_with ((with_reducible refine jxn w.heap.size _ #[.int .i64 0, .int .i64 0, .int .i64 0, .int .i64 0, .slice none 0 0, .slice none 0 0, .slice none 0 0, .slice none 0 0, .slice none 0 0, .slice none 0 0, .slice none 0 0, .slice none 0 0, .int .i64 0, .int .i64 0] ?_ ?_ HG.out rfl rfl zg_one ?_); exact rfl; exact rfl)
  refine bodyPost_ret (jqn (S := 55) rfl _ _ w.heap.size #[.int .i64 0, .int .i64 0, .int .i64 0, .int .i64 0, .slice none 0 0, .slice none 0 0, .slice none 0 0, .slice none 0 0, .slice none 0 0, .slice none 0 0, .slice none 0 0, .slice none 0 0, .int .i64 0, .int .i64 0] rfl (setRow_heap _ _ _ _ _ _ HG.out) Tryz.underlying55 rfl jxj) rfl ?_;exact freO_f HH.out ⟨⟨_, rfl, g0_v _⟩, jqd B0.out (Nat.le_refl _) _⟩
end Go.Proofs.YtimoinfjinmamaaGreat.Gf
