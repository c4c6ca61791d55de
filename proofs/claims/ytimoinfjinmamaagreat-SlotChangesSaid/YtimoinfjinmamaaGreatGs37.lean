/- What is proved here: the library's Grow and Concat at lists of generations of the program. -/
import Derived.Test.YtimoinfjinmamaaGreatGs36
import Derived.Test.YtimoinfjinmamaaGreatEy
namespace Go.Proofs.YtimoinfjinmamaaGreat.Gf
open Go Go.Joins Go.ChangeShapes Go.WideShapes Go.ChangeAt Go.RowKit Go.Deep Go.Lib Go.Proofs.YtimoinfjinmamaaGreat.By Go.Proofs.YtimoinfjinmamaaGreat.Qt
set_option maxRecDepth 100000
set_option maxHeartbeats 204800000
theorem ov_cap {T : TypeId} (z : Nat) (W : World) {base k cap : Nat} {cs : Array Value} (hk : W.heap.size = k) (hb : base ≤ k) (h1 : cap ≤ maxLen) (h2 : cs.size = cap * z) : OwV T z (W.alloc (.cells cs T)) base (.slice (some ⟨k, 0, none⟩) 0 cap) [] := by
 subst hk;exact ⟨fun p hp => absurd hp (by simp), by simp, Or.inr ⟨W.heap.size, cap, cs, rfl, hb, heap_alloc_new _ _, Nat.zero_le _, h1, h2, by simp⟩⟩
def LOV (w : World) (V : List (List Value)) (e : Ending) (w' : World) : Prop := (∃ v, e = .returned v ∧ OwV 55 14 w' w.heap.size v V) ∧ Below w.heap.size w w'
theorem flatV_snoc {α : Type} {Ls : List (List α)} {i : Nat} (h : i < Ls.length) : (Ls.take (i + 1)).flatten = (Ls.take i).flatten ++ Ls.getD i [] := by
 rw [List.take_succ_eq_append_getElem h, List.flatten_append, List.flatten_cons, List.flatten_nil, List.append_nil, show Ls.getD i [] = Ls[i] by simp [List.getD, h]]
theorem flatV_le {α : Type} (Ls : List (List α)) (i : Nat) : (Ls.take i).flatten.length ≤ Ls.flatten.length := by
 conv => rhs; rw [← List.take_append_drop i Ls]
 rw [List.flatten_append, List.length_append];omega
theorem infoPGz : (Tryz.prog.info? 55).map (fun i => (i.zero, i.size, i.bytes)) = some (some (Value.agg #[.int .i64 0, .int .i64 0, .int .i64 0, .int .i64 0, .slice none 0 0, .slice none 0 0, .slice none 0 0, .slice none 0 0, .slice none 0 0, .slice none 0 0, .slice none 0 0, .slice none 0 0, .int .i64 0, .int .i64 0]), 14, 240) := by kernel_rfl
theorem run_appzG (W : World) (m : Nat) (ty : TypeId) (h1 : 1 ≤ m) (hm : m ≤ 1000000) : ∃ (cap : Nat) (cs : Array Value), m ≤ cap ∧ cap ≤ maxLen ∧ cs.size = cap * 14 ∧
 (Builtin.append_ #[37, 3] ty #[.slice none 0 0, .int .i64 (m : Int)]).run Tryz.prog W = .ok (.slice (some ⟨W.heap.size, 0, none⟩) m cap) (W.drew.alloc (.cells cs 55)) := by
 obtain ⟨i, hi, hz, hz1, hz2⟩ := info_parts infoPGz;have hge := grownCap_ge W m 0 55;have hcm : grownCap W m 0 55 ≤ maxLen := grownCap_le_maxLen W m 0 55 (by unfold maxLen; omega);have hw : IntKind.i64.wrap (m : Int) = (m : Int) := IntWalk.i64_in _ (by omega);have hneg : ¬ ((m : Int) < 0) := by omega
 have hbig : ¬ ((281474976710656 : Int) < (m : Int) * (i.bytes : Int)) := by rw [hz2]; omega
 have hm0 : m ≠ 0 := by omega
 have c1 : ¬ ((9223372036854775807 : Int) < (m : Int)) := by omega
 have c2 : ¬ (281474976710656 < Builtin.nextslicecap m 0 * i.bytes) := by rw [nextslicecap_zero (by omega), hz2]; omega
 have hcell : (Value.agg #[.int .i64 0, .int .i64 0, .int .i64 0, .int .i64 0, .slice none 0 0, .slice none 0 0, .slice none 0 0, .slice none 0 0, .slice none 0 0, .slice none 0 0, .slice none 0 0, .slice none 0 0, .int .i64 0, .int .i64 0]).cells = #[.int .i64 0, .int .i64 0, .int .i64 0, .int .i64 0, .slice none 0 0, .slice none 0 0, .slice none 0 0, .slice none 0 0, .slice none 0 0, .slice none 0 0, .slice none 0 0, .slice none 0 0, .int .i64 0, .int .i64 0] := rfl;refine ⟨grownCap W m 0 55, Builtin.zeroCells #[.int .i64 0, .int .i64 0, .int .i64 0, .int .i64 0, .slice none 0 0, .slice none 0 0, .slice none 0 0, .slice none 0 0, .slice none 0 0, .slice none 0 0, .slice none 0 0, .slice none 0 0, .int .i64 0, .int .i64 0] m ++ Builtin.zeroCells #[.int .i64 0, .int .i64 0, .int .i64 0, .int .i64 0, .slice none 0 0, .slice none 0 0, .slice none 0 0, .slice none 0 0, .slice none 0 0, .slice none 0 0, .slice none 0 0, .slice none 0 0, .int .i64 0, .int .i64 0] (grownCap W m 0 55 - m), hge, hcm, ?_, ?_⟩
 ·simp [Builtin.zeroCells]
  omega
 ·simp [Builtin.append_, run_underlying Tryz.underlying37, run_underlying Tryz.underlying3, sizeOf, typeInfo, zeroValue, hi, hz, hz1, asInt, asIntOf, hw, hneg, hbig, Question.forced, newRow, grownCap, hm0, hcell, run_firstCells_none, c1, c2]
  intro h;omega
theorem appzG {ops : Array Oper} {rest : List Oper} {dst : Option Tmp} {s x : Operand} {pos : String} {after : Array Edge} {ty : TypeId} {a : Act} {W : World} {Q : Exit → Act → World → Prop} {m : Nat}
 (hs : a.eval s = .slice none 0 0) (hx : a.eval x = .int .i64 (m : Int)) (h1 : 1 ≤ m) (hm : m ≤ 1000000)
 (h : ∀ (cap : Nat) (cs : Array Value), m ≤ cap → cap ≤ maxLen → cs.size = cap * 14 → wpList Tryz.prog ops Q rest (a.put dst (.slice (some ⟨W.heap.size, 0, none⟩) m cap)) (W.drew.alloc (.cells cs 55))) : wpList Tryz.prog ops Q (⟨dst, .call { callee := .builtin .append, args := #[s, x], argTypes := #[37, 3] }, ty, pos, after, none⟩ :: rest) a W := by
 refine wpList_plain rfl fun K hK => ?_;obtain ⟨cap, cs, q1, q2, q3, hr⟩ := run_appzG W m ty h1 hm;unfold Oper.wp execOp;simp only [resolve, invoke, builtin, Sem.run_bind, Sem.run_pure, Result.andThen_ok, List.map_toArray, List.map_cons, List.map_nil, hs, hx, hr];exact hK _ _ (h cap cs q1 q2 q3)
theorem pgrowG_any (m : Nat) (w : World) (hm : m ≤ 1000000) : Calls Tryz.prog 64 #[.slice none 0 0, .int .i64 (m : Int)] w (LOV w []) := by
 by_cases h0 : m = 0
 ·subst h0
  go_enter Tryz.func64, Tryz.ntmps64
  go_wp2
  go_ret
  exact ⟨⟨_, rfl, ov_nil _ _ _ _⟩, Below.refl _ _⟩
 ·have hz : (0 : Int) < (m : Int) := by omega
  have hn : ¬ (m : Int) < 0 := by omega
  have hp : 0 < m := by omega
  have h1 : 1 ≤ m := by omega
  clear h0
  go_enter Tryz.func64, Tryz.ntmps64
  go_wp2_with (at_builtin; refine appzG (dst := some 22) (m := m) ?_ ?_ h1 hm ?_; exact rfl; exact rfl; intro cap cs q1 q2 q3; have OW : Hid (OwV 55 14 (w.drew.alloc (.cells cs 55)) w.heap.size (.slice (some ⟨w.heap.size, 0, none⟩) 0 cap) []) := Lh (ov_cap 14 w.drew rfl (Nat.le_refl _) q2 q3); clear q1 q2 q3)
  go_ret
  exact ⟨⟨_, rfl, OW.out⟩, (jqt w 1).alloc (Nat.le_refl _) _⟩
theorem jx4 (g n : Nat) (vs : List Value) (Ls : List (List (List Value))) (fr : Nat × Nat) (w : World) (hg : w.heap[g]? = some (.cells vs.toArray 37 fr)) (hv : vs.length = n) (hl : Ls.length = n) (hI : ∀ i, i < n → ∃ b off c, vs.getD i undef = .slice (some ⟨b, off, none⟩) (Ls.getD i []).length c ∧ Rows 14 (Ls.getD i []) ∧ SrcV 14 w b off (Ls.getD i [])) (hn : n ≤ 10) (ht : Ls.flatten.length ≤ 100000) :
 Calls Tryz.prog 33 #[.slice (some ⟨g, 0, none⟩) n n] w (LOV w Ls.flatten) := by
 have CEL : Hid (∀ i, i < n → ∀ W, Below w.heap.size w W → W.cell? ⟨g, i, none⟩ = some (vs.getD i undef) ∧ ∃ b off c, vs.getD i undef = .slice (some ⟨b, off, none⟩) (Ls.getD i []).length c ∧ Rows 14 (Ls.getD i []) ∧ SrcV 14 W b off (Ls.getD i [])) := Lh fun i hi W hW => by
  obtain ⟨b, off, c, e1, e2, e3⟩ := hI i hi;exact ⟨by rw [cell_of_row W g i _ _ _ ((hW.block g (jqb hg)).trans hg)]; simp [List.getD, show i < vs.length by omega], b, off, c, e1, e2, jwd e2 e3 hW⟩
 have HL := Lh hl;have HT := Lh ht;have GROW := Lh pgrowG_any;unfold LOV at GROW ⊢;clear hg hv hl hI ht
 go_enter Tryz.func33, Tryz.ntmps33
 go_wp2_with fail
 go_loopw [3, 11] (fun sz t wr => ∃ i q : Nat, i ≤ n ∧ t = .int .i64 (i : Int) ∧ sz = .int .i64 (q : Int) ∧ q ≤ 100000 ∧ Hid (q = (Ls.take i).flatten.length) ∧ wr = w) (fun _ t _ => n - (Lib.intOf t).toNat)
 case atStart => exact ⟨0, 0, by omega, rfl, rfl, by omega, Lh rfl, rfl⟩
 case round =>
  obtain ⟨i, q, hi, rfl, rfl, hq, HQ, rfl⟩ := hrel
  by_cases hin : i < n
  ·have hl4 : decide ((i : Int) < (n : Int)) = true := decide_eq_true (by omega)
   have p0 : (0 : Int) ≤ (i : Int) := by omega
   have p1 : (i : Int) < (n : Int) := by omega
   obtain ⟨c0, b1, o1, c1, hv1, -, -⟩ := CEL.out i hin wr (Below.refl _ _);rw [hv1] at c0;obtain ⟨m1, hm1⟩ : ∃ m, m = (Ls.getD i []).length := ⟨_, rfl⟩;rw [← hm1] at c0;have hle := flatV_le Ls (i + 1);rw [flatV_snoc (by have := HL.out; omega), List.length_append, ← HQ.out, ← hm1] at hle;have HQ2 : Hid (q + m1 = (Ls.take (i + 1)).flatten.length) := Lh (by rw [flatV_snoc (by have := HL.out; omega), List.length_append, ← HQ.out, ← hm1]);have hq2 : q + m1 ≤ 100000 := by have := HT.out; omega
   have hng : ¬ (q : Int) + (m1 : Int) < 0 := by omega
   clear hv1 hm1 hle HQ
   go_wp2
   go_roundw
   case rel => exact ⟨i + 1, q + m1, by omega, by go_num, by go_num, hq2, HQ2, by first | rfl | trivial⟩
   case measure => simp [Lib.intOf]; omega
  ·obtain rfl : i = n := by omega
   have hl4 : decide ((i : Int) < (i : Int)) = false := decide_eq_false (by omega);clear HQ;go_wp2_with fail
   refine (GROW.out q wr (by omega)).mono ?_;rintro e w2 ⟨⟨v2, rfl, ho2⟩, hb2⟩;have O2 := Lh ho2;have B2 := Lh hb2;clear ho2 hb2 hl4 GROW;go_wp2_with fail
   go_loopw [6, 27] (fun out t wl => ∃ j : Nat, j ≤ i ∧ t = .int .i64 (j : Int) ∧ Hid (OwV 55 14 wl wr.heap.size out (Ls.take j).flatten) ∧ Hid (Below wr.heap.size wr wl)) (fun _ t _ => i - (Lib.intOf t).toNat)
   case atStart => exact ⟨0, by omega, rfl, O2, B2⟩
   case round =>
    clear O2 B2;obtain ⟨j, hj, rfl, O, BB⟩ := hrel
    by_cases hji : j < i
    ·have hl4 : decide ((j : Int) < (i : Int)) = true := decide_eq_true (by omega)
     have p0 : (0 : Int) ≤ (j : Int) := by omega
     have p1 : (j : Int) < (i : Int) := by omega
     obtain ⟨c0, b1, o1, c1, hv1, hr1, hs1⟩ := CEL.out j hji _ BB.out;rw [hv1] at c0;have HR1 := Lh hr1;have HS1 := Lh hs1;have HLE : Hid ((Ls.take j).flatten.length + (Ls.getD j []).length ≤ 100000000) := Lh (by
      have hle := flatV_le Ls (j + 1);rw [flatV_snoc (by have := HL.out; omega), List.length_append] at hle;have := HT.out;omega)
     have HFS := Lh (flatV_snoc (Ls := Ls) (i := j) (by have := HL.out; omega));obtain ⟨m1, hm1⟩ : ∃ m, m = (Ls.getD j []).length := ⟨_, rfl⟩;rw [← hm1] at c0;have HM1 := Lh hm1;obtain ⟨ao, co, rfl, -, -⟩ := jq1 O.out;obtain ⟨q1, hq1⟩ : ∃ m, m = (Ls.take j).flatten.length := ⟨_, rfl⟩;rw [← hq1] at O ⊢;have OL := Lh (fun q (h : (Value.slice ao q1 co).ownBlock = some q) => (jq9 O.out q h).1);clear hv1 hm1 hq1 hr1 hs1;go_wp2_with (at_builtin; refine app_v lsG (dst := some 33) (c := c1) ?_ ?_ HM1.out O.out HR1.out HS1.out HLE.out BB.out.size ?_; exact rfl; exact rfl; intro v5 w5 ho5 hg5 hat5; rw [← HFS.out] at ho5; have O5 := Lh ho5; have B5 := Lh (BB.out.grown hg5 BB.out.size OL.out); clear ho5 hg5 hat5)
     go_roundw
     case rel => exact ⟨j + 1, by omega, by go_num, O5, B5⟩
     case measure => simp [Lib.intOf]; omega
    ·obtain rfl : j = i := by omega
     have hl4 : decide ((j : Int) < (j : Int)) = false := decide_eq_false (by omega);have ht : (Ls.take j).flatten = Ls.flatten := by rw [List.take_of_length_le (by have := HL.out; omega)]
     rw [ht] at O;clear ht
     go_wp2
     go_ret
     exact ⟨⟨_, rfl, O.out⟩, BB.out⟩
end Go.Proofs.YtimoinfjinmamaaGreat.Gf
