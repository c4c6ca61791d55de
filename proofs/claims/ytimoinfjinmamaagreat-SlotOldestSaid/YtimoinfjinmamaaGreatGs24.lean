/- What is proved here: a row is set in a list of the call's own; the reference's Change of a slot. -/
/- What is proved here: a row is set in a list of the call's own; the reference's Change of a slot. -/
import Derived.Test.YtimoinfjinmamaaGreatGs23
namespace Go.Proofs.YtimoinfjinmamaaGreat.Gf
open Joins ChangeShapes WideShapes ChangeAt RowKit Deep By Qt
set_option maxRecDepth 100000
set_option maxHeartbeats 204800000
theorem jx7 {T : TypeId} (z : Nat) (W : World) {base k : Nat} (hk : W.heap.size = k) (hb : base ≤ k) : OwV T z (W.alloc (.cells #[] T)) base (.slice (some ⟨k, 0, none⟩) 0 0) [] := by
 subst hk;exact ⟨fun p hp => absurd hp (by simp), by simp, Or.inr ⟨W.heap.size, 0, #[], rfl, hb, heap_alloc_new _ _, Nat.le_refl _, by decide, by simp, by simp⟩⟩
theorem setL_size : ∀ (vs : List Value) (o : Nat) (cs : Array Value), (setL cs o vs).size = cs.size
 | [], _, _ => rfl
 | v :: r, o, cs => by
  unfold setL;rw [setL_size r];simp
theorem setL_get : ∀ (vs : List Value) (o : Nat) (cs : Array Value) (j : Nat), o + vs.length ≤ cs.size → (setL cs o vs)[j]? = if o ≤ j ∧ j < o + vs.length then vs[j - o]? else cs[j]?
 | [], o, cs, j, _ => by rw [if_neg (by simp)]; rfl
 | v :: r, o, cs, j, h => by
  simp only [List.length_cons] at h ⊢;unfold setL;rw [setL_get r (o + 1) _ j (by simp; omega)]
  by_cases c : o + 1 ≤ j ∧ j < o + 1 + r.length
  ·rw [if_pos c, if_pos (by omega), show j - o = (j - (o + 1)) + 1 by omega, List.getElem?_cons_succ]
  ·rw [if_neg c]
   by_cases c2 : j = o
   ·subst c2
    rw [if_pos (by omega), Nat.sub_self, List.getElem?_cons_zero, Array.getElem?_setIfInBounds_self_of_lt (by omega)]
   ·rw [if_neg (by omega), Array.getElem?_setIfInBounds_ne (Ne.symm c2)]
theorem jx0 {g k : Nat} (vs : List Value) (w : World) (o : Nat) (hk : k ≠ g) : (w.setCells g o vs).heap[k]? = w.heap[k]? := by
 induction vs generalizing w o with
 | nil => rfl
 | cons v r ih =>
  unfold World.setCells;rw [ih];exact heap_setCell_other _ _ _ _ hk
theorem below_setCells {B g : Nat} {a : World} (hg : B ≤ g) (vs : List Value) (w : World) (o : Nat) (h : Below B a w) : Below B a (w.setCells g o vs) := by
 induction vs generalizing w o with
 | nil => exact h
 | cons v r ih =>
  unfold World.setCells;exact ih _ _ (h.setCell (p := ⟨g, o, none⟩) hg v)
theorem ov_set {T : TypeId} {z : Nat} {w : World} {base g n c : Nat} {V : List (List Value)} (h : OwV T z w base (.slice (some ⟨g, 0, none⟩) n c) V) {i : Nat} (hi : i < V.length) {p : List Value} (hp : p.length = z ∧ ∀ u ∈ p, u.oneCell' = true) : OwV T z (w.setCells g (i * z) p) base (.slice (some ⟨g, 0, none⟩) n c) (V.set i p) ∧ w.there g (i * z) z := by
 obtain ⟨hr, hlen, hc⟩ := h;rcases hc with ⟨h0, -⟩ | ⟨g', cap, cur, hv, hb, hh, hnc, hcm, hsz, htk⟩
 ·cases h0
 obtain ⟨rfl, rfl, rfl⟩ : g = g' ∧ n = V.length ∧ c = cap := by simpa using hv
 have hz : V.flatten.length = V.length * z := rows_len hr;have hiz : i * z + z ≤ V.length * z := by
  have := Nat.mul_le_mul_right z (show i + 1 ≤ V.length from hi);rw [Nat.add_mul, Nat.one_mul] at this;exact this
 have hfl : V.length * z ≤ cur.size := by
  have h1 := congrArg List.length htk;rw [List.length_take, hz] at h1;simp at h1;omega
 have hrs : Rows z (V.set i p) := fun q hq => by
  rcases List.mem_or_eq_of_mem_set hq with h | h
  ·exact hr q h
  ·rw [h]; exact hp
 refine ⟨⟨hrs, rows_len hrs, Or.inr ⟨g, c, setL cur (i * z) p, by rw [List.length_set], hb, ?_, by rw [List.length_set]; exact hnc, hcm, by rw [setL_size]; exact hsz, ?_⟩⟩, there_row hh (by omega)⟩
 ·rw [setCells_row p (i * z) cur w hh]
  exact setRow_heap _ _ _ _ _ _ hh
 ·apply List.ext_getElem?
  intro j;rw [List.getElem?_take, List.length_set]
  by_cases hj : j < V.length * z
  ·have hz0 : 0 < z := by
    rcases Nat.eq_zero_or_pos z with e | e
    ·rw [e] at hj; omega
    ·exact e
   rw [if_pos hj, Array.getElem?_toList, setL_get p (i * z) cur j (by rw [hp.1]; omega), hp.1];have hk : j / z < V.length := (Nat.div_lt_iff_lt_mul hz0).2 hj;have hu : j % z < z := Nat.mod_lt _ hz0;have hj2 : j / z * z + j % z = j := Nat.div_add_mod' j z;have hR : (V.set i p).flatten[j]? = ((V.set i p).getD (j / z) [])[j % z]? := by
    have q := rows_at hrs (j / z) (j % z) (by rw [List.length_set]; exact hk) hu;rw [hj2] at q;exact q
   have hC : cur[j]? = (V.getD (j / z) [])[j % z]? := by
    have q := rows_at hr (j / z) (j % z) hk hu;rw [hj2, ← htk, List.getElem?_take, if_pos hj, Array.getElem?_toList] at q;exact q
   rw [hR];generalize j / z = k at *;generalize j % z = u at *
   by_cases hki : k = i
   ·subst hki
    rw [if_pos (by omega), List.getD_eq_getElem?_getD, List.getElem?_set_self hi, show j - k * z = u by omega];rfl
   ·have hne : ¬ (i * z ≤ j ∧ j < i * z + z) := by
     rintro ⟨a1, a2⟩;rcases Nat.lt_or_gt_of_ne hki with h | h
     ·have := Nat.mul_le_mul_right z (show k + 1 ≤ i from h)
      rw [Nat.add_mul, Nat.one_mul] at this;omega
     ·have := Nat.mul_le_mul_right z (show i + 1 ≤ k from h)
      rw [Nat.add_mul, Nat.one_mul] at this;omega
    rw [if_neg hne, hC, List.getD_eq_getElem?_getD, List.getD_eq_getElem?_getD, List.getElem?_set_ne (Ne.symm hki)]
  ·rw [if_neg hj, List.getElem?_eq_none (by rw [rows_len hrs, List.length_set]; omega)]
noncomputable def repV (V : List (List Value)) (L : List Ge) (row : List Value) (num : Int) (i : Nat) : List (List Value) := (List.range V.length).map fun k => if k < i ∧ (L.getD k g0).num = num then row else V.getD k []
noncomputable def repL (L : List Ge) (g : Ge) : List Ge := (List.range L.length).map fun k => if (L.getD k g0).num = g.num then g else L.getD k g0
theorem jxp {V : List (List Value)} {L : List Ge} {row : List Value} {num : Int} {i : Nat} : (repV V L row num i).length = V.length := by simp [repV]
theorem jx5 (L : List Ge) (g : Ge) : (repL L g).length = L.length := by simp [repL]
theorem repV_at {V : List (List Value)} {L : List Ge} {row : List Value} {num : Int} {i k : Nat} (h : k < V.length) : (repV V L row num i).getD k [] = if k < i ∧ (L.getD k g0).num = num then row else V.getD k [] := by
 rw [List.getD_eq_getElem?_getD, repV, List.getElem?_map, List.getElem?_range h];rfl
theorem repL_at {L : List Ge} {g : Ge} {k : Nat} (h : k < L.length) : (repL L g).getD k g0 = if (L.getD k g0).num = g.num then g else L.getD k g0 := by
 rw [List.getD_eq_getElem?_getD, repL, List.getElem?_map, List.getElem?_range h];rfl
theorem ext_getD {A B : List (List Value)} (hl : A.length = B.length) (h : ∀ k, k < A.length → A.getD k [] = B.getD k []) : A = B := by
 apply List.ext_getElem hl;intro k h1 h2;have q := h k h1;rw [List.getD_eq_getElem?_getD, List.getD_eq_getElem?_getD, List.getElem?_eq_getElem h1, List.getElem?_eq_getElem h2] at q;exact q
theorem repV_zero (V : List (List Value)) (L : List Ge) (row : List Value) (num : Int) : repV V L row num 0 = V := ext_getD jxp fun k hk => by
 rw [jxp] at hk;rw [repV_at hk, if_neg (by omega)]
theorem repV_skip {V : List (List Value)} {L : List Ge} {row : List Value} {num : Int} {i : Nat} (h : ¬ (L.getD i g0).num = num) : repV V L row num (i + 1) = repV V L row num i := ext_getD (by rw [jxp, jxp]) fun k hk => by
 rw [jxp] at hk;rw [repV_at hk, repV_at hk]
 by_cases hk2 : k = i
 ·subst hk2
  rw [if_neg (fun q => h q.2), if_neg (fun q => h q.2)]
 ·by_cases c : k < i ∧ (L.getD k g0).num = num
  ·rw [if_pos c, if_pos ⟨by omega, c.2⟩]
  ·rw [if_neg c, if_neg (fun q => c ⟨by omega, q.2⟩)]
theorem repV_set {V : List (List Value)} {L : List Ge} {row : List Value} {num : Int} {i : Nat} (hi : i < V.length) (h : (L.getD i g0).num = num) : (repV V L row num i).set i row = repV V L row num (i + 1) := ext_getD (by rw [List.length_set, jxp, jxp]) fun k hk => by
 rw [List.length_set, jxp] at hk;rw [repV_at hk]
 by_cases hk2 : k = i
 ·subst hk2
  rw [if_pos ⟨Nat.lt_succ_self _, h⟩, List.getD_eq_getElem?_getD, List.getElem?_set_self (by rw [jxp]; exact hi)];rfl
 ·rw [List.getD_eq_getElem?_getD, List.getElem?_set_ne (Ne.symm hk2), ← List.getD_eq_getElem?_getD, repV_at hk]
  by_cases c : k < i ∧ (L.getD k g0).num = num
  ·rw [if_pos c, if_pos ⟨by omega, c.2⟩]
  ·rw [if_neg c, if_neg (fun q => c ⟨by omega, q.2⟩)]
theorem repL_mem {L : List Ge} {g x : Ge} (h : x ∈ repL L g) : x = g ∨ x ∈ L := by
 unfold repL at h;obtain ⟨k, hk, rfl⟩ := List.mem_map.1 h;have hk := List.mem_range.1 hk;split
 ·exact Or.inl rfl
 ·refine Or.inr ?_
  rw [List.getD_eq_getElem?_getD, List.getElem?_eq_getElem hk];exact List.getElem_mem hk
def hasN (L : List Ge) (num : Int) : Prop := ∃ j, j < L.length ∧ (L.getD j g0).num = num
open Classical in
noncomputable def chgC (s : Slt) (g : Ge) : Int := if okSb s = true then (if hasN s.gens g.num then (if okSb ⟨s.id, s.limit, s.ro, repL s.gens g⟩ = true then 0 else 1) else 6) else 1
noncomputable def chgT (s : Slt) (g : Ge) : Slt := if chgC s g = 0 then ⟨s.id, s.limit, s.ro, repL s.gens g⟩ else ⟨0, 0, false, []⟩
def ChgO (s : Slt) (g : Ge) (w : World) (e : Ending) (w' : World) : Prop := (∃ v, e = .returned (.tuple #[v, .int .i64 (chgC s g)]) ∧ Sv w' v (chgT s g)) ∧ Below w.heap.size w w'
theorem chgO_of {s : Slt} {g : Ge} {c : Int} {x : Slt} {w w' : World} {e : Ending} (hc : chgC s g = c) (hx : chgT s g = x) (q : (∃ v, e = .returned (.tuple #[v, .int .i64 c]) ∧ Sv w' v x) ∧ Below w.heap.size w w') : ChgO s g w e w' := by
 unfold ChgO;rw [hc, hx];exact q
theorem chg_bad {s : Slt} {g : Ge} {w w' : World} {e : Ending} (h : ¬ okS s) (q : (∃ v, e = .returned (.tuple #[v, .int .i64 1]) ∧ Sv w' v ⟨0, 0, false, []⟩) ∧ Below w.heap.size w w') : ChgO s g w e w' := by
 have hc : chgC s g = 1 := by unfold chgC; rw [jwf h]; rfl
 exact chgO_of hc (by unfold chgT; rw [hc]; rfl) q
theorem chg_none {s : Slt} {g : Ge} {w w' : World} {e : Ending} (h : okS s) (hn : ¬ hasN s.gens g.num) (q : (∃ v, e = .returned (.tuple #[v, .int .i64 6]) ∧ Sv w' v ⟨0, 0, false, []⟩) ∧ Below w.heap.size w w') : ChgO s g w e w' := by
 have hc : chgC s g = 6 := by unfold chgC; rw [jwm h, if_pos rfl, if_neg hn]
 exact chgO_of hc (by unfold chgT; rw [hc]; rfl) q
theorem chg_inv {s : Slt} {g : Ge} {w w' : World} {e : Ending} (h : okS s) (hn : hasN s.gens g.num) (h2 : ¬ okS ⟨s.id, s.limit, s.ro, repL s.gens g⟩) (q : (∃ v, e = .returned (.tuple #[v, .int .i64 1]) ∧ Sv w' v ⟨0, 0, false, []⟩) ∧ Below w.heap.size w w') : ChgO s g w e w' := by
 have hc : chgC s g = 1 := by unfold chgC; rw [jwm h, if_pos rfl, if_pos hn, jwf h2]; rfl
 exact chgO_of hc (by unfold chgT; rw [hc]; rfl) q
theorem chg_ok {s : Slt} {g : Ge} {w w' : World} {e : Ending} (h : okS s) (hn : hasN s.gens g.num) (h2 : okS ⟨s.id, s.limit, s.ro, repL s.gens g⟩) (q : (∃ v, e = .returned (.tuple #[v, .int .i64 0]) ∧ Sv w' v ⟨s.id, s.limit, s.ro, repL s.gens g⟩) ∧ Below w.heap.size w w') : ChgO s g w e w' := by
 have hc : chgC s g = 0 := by unfold chgC; rw [jwm h, if_pos rfl, if_pos hn, jwm h2, if_pos rfl]
 exact chgO_of hc (by unfold chgT; rw [hc, if_pos rfl]) q
theorem chg_valid {s : Slt} {g : Ge} (h : chgC s g = 0) : chgT s g = ⟨s.id, s.limit, s.ro, repL s.gens g⟩ ∧ okSb (chgT s g) = true := by
 have ht : chgT s g = ⟨s.id, s.limit, s.ro, repL s.gens g⟩ := by unfold chgT; rw [if_pos h]
 refine ⟨ht, ?_⟩;rw [ht];unfold chgC at h;split at h
 ·split at h
  ·split at h
   ·assumption
   ·cases h
  ·cases h
 ·cases h
theorem storeRGm {ops : Array Oper} {rest : List Oper} {x y : Operand} {pos : String} {after : Array Edge} {ty : TypeId} {a : Act} {w w2 : World} {Q : Exit → Act → World → Prop}
 (g o : Nat) (cs : Array Value) (hx : a.eval x = .pointer (some ⟨g, o, none⟩)) (hy : a.eval y = .agg cs) (ht : w.there g o 14) (hs : cs.size = 14) (h1 : cs.all (·.oneCell') = true)
 (hw : w.setCells g o cs.toList = w2) (h : wpList Tryz.prog ops Q rest a w2) : wpList Tryz.prog ops Q (⟨none, .store 31 x y, ty, pos, after, none⟩ :: rest) a w :=
 wpList_store_mid rfl 31 x y rfl g o cs hx hy (by rw [hs]; exact ht) (by rw [jwb, hs]) h1 (by rw [hw]; exact h)
theorem src_below_any {z : Nat} {w w' : World} {b off : Nat} {V : List (List Value)} (hr : Rows z V) (h : SrcV z w b off V) (hB : Below w.heap.size w w') : SrcV z w' b off V := jwd hr h hB
theorem rschange_x (id lim : Int) (ro : Bool) (a : Option Addr) (n c : Nat) (L : List Ge) (vg : Value) (g : Ge) (w : World) (hn : n = L.length) (hl : Gl w (.slice a n c) L) (hlen : n ≤ 10000) (hf : ∀ g ∈ L, LGe g) (hj : J64 id ∧ J64 lim) (hg : Gv w vg g) (hfg : LGe g) : Calls Tryz.prog 19 #[.agg #[.int .i64 id, .int .i64 lim, .bool ro, .slice a n c], vg] w (ChgO ⟨id, lim, ro, L⟩ g w) := by
 obtain ⟨t0, t1, t2, t3, t4, t5, t6, t7, rfl, hm, hjg⟩ := hg;obtain ⟨V, a', c', hVL, hav, hR, hGC, hSrc⟩ := gl_rows hl;obtain ⟨rfl, -, rfl⟩ : a = a' ∧ n = L.length ∧ c = c' := by simpa using hav
 have q0 := al3 w (.cells #[.int .i64 id, .int .i64 lim, .bool ro, .slice a n c] 24) (.cells #[.int .i64 g.num, .int .i64 g.rev, .int .i64 g.mode, .int .i64 g.size, t0, t1, t2, t3, t4, t5, t6, t7, .int .i64 g.m.live, .int .i64 g.m.garb] 31) (.cells #[.int .i64 0, .int .i64 0, .bool false, .slice none 0 0] 24);have HS := Lh q0.1;have HG := Lh q0.2.1;have HZ := Lh q0.2.2.1;have B0 := Lh q0.2.2.2;have GL := Lh (jqj hl q0.2.2.2);have HN := Lh hn;have HLN := Lh hlen;have HVL := Lh (hVL.trans hn.symm);have HRW := Lh hR;have HGC := Lh hGC;have HSC := Lh hSrc;have HMS := Lh hm;have HJG := Lh hjg;have HJ := Lh hj;have HFG := Lh hfg;have HLF := Lh hf;have ONG := Lh (jwj hm);have PV := Lh (fun W (h : Gl W (.slice a n c) L) => rsvalid_x id lim ro a n c L W hn h hlen hf);clear hl hf q0 hn hlen hav hVL hR hGC hSrc hm hjg hj hfg
 go_enter Tryz.func19, Tryz.ntmps19
 go_upto_region 1 with fail
 generalize ((w.alloc (.cells #[.int .i64 id, .int .i64 lim, .bool ro, .slice a n c] 24)).alloc (.cells #[.int .i64 g.num, .int .i64 g.rev, .int .i64 g.mode, .int .i64 g.size, t0, t1, t2, t3, t4, t5, t6, t7, .int .i64 g.m.live, .int .i64 g.m.garb] 31)).alloc (.cells #[.int .i64 0, .int .i64 0, .bool false, .slice none 0 0] 24) = W0 at *;obtain ⟨⟨y0, y1, y2, y3⟩, -⟩ := bx4 HS.out;go_wp2_with fail
 clear y0 y1 y2 y3;refine (PV.out W0 GL.out).mono ?_;rintro e W1 ⟨rfl, hb⟩;have HS1 := Lh ((hb.block _ (jqb HS.out)).trans HS.out);have HG1 := Lh ((hb.block _ (jqb HG.out)).trans HG.out);have HZ9 := Lh ((hb.block _ (jqb HZ.out)).trans HZ.out);have B9 := Lh (B0.out.trans (hb.mono B0.out.size));clear hb HS HG HZ GL B0 PV;rcases Classical.em (okS ⟨id, lim, ro, L⟩) with h1 | h1
 case inr =>
  rw [jwf h1];have HK := Lh h1;clear h1;go_wp2_with ((with_reducible refine jwt (w.heap.size + 2) _ #[.int .i64 0, .int .i64 0, .bool false, .slice none 0 0] ?_ ?_ HZ9.out rfl rfl zs_one ?_); exact rfl; exact rfl)
  refine bodyPost_ret (jqn (S := 24) rfl _ _ (w.heap.size + 2) #[.int .i64 0, .int .i64 0, .bool false, .slice none 0 0] rfl (setRow_heap _ _ _ _ _ _ HZ9.out) Tryz.underlying24 rfl infoRS4) rfl ?_;exact chg_bad HK.out ⟨⟨_, rfl, _, rfl, jxv _, by unfold J64; decide, by unfold J64; decide⟩, jqd B9.out (by omega) _⟩
 rw [jwm h1];have HK := Lh h1;clear h1;have hn0 : 0 < n := by have := HK.out.n1; have := HN.out; simp only at *; omega
 obtain ⟨b, off, rfl, hsrc⟩ := HSC.out (by have := HN.out; omega);have HSR := Lh (jwd HRW.out hsrc B9.out);have HN0 := Lh hn0;clear hsrc hn0 HSC;obtain ⟨B1, hB1⟩ : ∃ B1, B1 = W1.heap.size := ⟨_, rfl⟩;have HB1 := Lh (show w.heap.size + 2 < B1 by have := jqb HZ9.out; omega);have HBE := Lh hB1.symm;clear hB1;have OVe := Lh (jx7 (T := 31) 14 W1 (base := B1) HBE.out (Nat.le_refl _));have hb := jqg W1 (.cells #[] 31);have HS2 := Lh ((hb.block _ (jqb HS1.out)).trans HS1.out);have HG2 := Lh ((hb.block _ (jqb HG1.out)).trans HG1.out);have HZ2 := Lh ((hb.block _ (jqb HZ9.out)).trans HZ9.out);have B2 := Lh (B9.out.trans (hb.mono B9.out.size));have HSR2 := Lh (src_below_any HRW.out HSR.out hb);have HSZ2 := Lh (show B1 ≤ (W1.alloc (.cells #[] 31)).heap.size by have := HBE.out; simp; omega);have HLL := Lh (show ([] : List (List Value)).length + V.length ≤ 100000000 by have := HVL.out; have := HLN.out; simp; omega);clear hb HSR HS1 HG1 HZ9 B9;obtain ⟨⟨y0, y1, y2, y3⟩, -⟩ := bx4 HS2.out;go_upto_region 5 with (at_builtin; rw [HBE.out]; refine app_v lsRG (dst := some 15) (c := c) (n := n) (M := V) ?_ ?_ HVL.out.symm OVe.out HRW.out HSR2.out HLL.out HSZ2.out ?_; exact rfl; exact rfl; intro v9 X3 ho hg hat; rw [List.nil_append] at ho; obtain ⟨g9, c9, hv9, hb9, -⟩ := ov_src ho (by have := HVL.out; have := HN0.out; omega); rw [HVL.out] at hv9; subst hv9; have HGB := Lh (show w.heap.size + 2 < g9 by have := HB1.out; omega); have HS3 := Lh ((hg.block _ (jqb HS2.out) (fun e => by simp [Value.ownBlock] at e; have := HB1.out; omega)).trans HS2.out); have HG3 := Lh ((hg.block _ (jqb HG2.out) (fun e => by simp [Value.ownBlock] at e; have := HB1.out; omega)).trans HG2.out); have HZ3 := Lh ((hg.block _ (jqb HZ2.out) (fun e => by simp [Value.ownBlock] at e; have := HB1.out; omega)).trans HZ2.out); have B3 := Lh (B2.out.grown hg B2.out.size (fun k hk => by simp [Value.ownBlock] at hk; have := HB1.out; omega)); have OV3 := Lh ho; clear ho hg hat hb9 HS2 HG2 HZ2 B2 HSR2 OVe; clear y0 y1 y2 y3; obtain ⟨⟨y0, y1, y2, y3⟩, f0, f1, f2, f3⟩ := bx4 HS3.out)
 clear y0 y1 y2 y3 f0 f1 f2 f3;rw [setCell_eq_setRow _ _ _ _ _ _ _ HS3.out];have hs : (#[.int .i64 id, .int .i64 lim, .bool ro, .slice (some ⟨b, off, none⟩) n c] : Array Value).setIfInBounds 3 (.slice (some ⟨g9, 0, none⟩) n c9) = #[.int .i64 id, .int .i64 lim, .bool ro, .slice (some ⟨g9, 0, none⟩) n c9] := rfl;rw [hs];have HS4 := Lh (setRow_heap X3 w.heap.size _ #[.int .i64 id, .int .i64 lim, .bool ro, .slice (some ⟨g9, 0, none⟩) n c9] _ _ HS3.out);have HG4 := Lh ((setRow_other X3 w.heap.size (w.heap.size + 1) #[.int .i64 id, .int .i64 lim, .bool ro, .slice (some ⟨g9, 0, none⟩) n c9] (by omega)).trans HG3.out);have HZ4 := Lh ((setRow_other X3 w.heap.size (w.heap.size + 2) #[.int .i64 id, .int .i64 lim, .bool ro, .slice (some ⟨g9, 0, none⟩) n c9] (by omega)).trans HZ3.out);have B4 := Lh (jqd B3.out (Nat.le_refl _) #[.int .i64 id, .int .i64 lim, .bool ro, .slice (some ⟨g9, 0, none⟩) n c9]);have OV4 := Lh (jw1 OV3.out fun b hb _ => setRow_other X3 w.heap.size b #[.int .i64 id, .int .i64 lim, .bool ro, .slice (some ⟨g9, 0, none⟩) n c9] (by have := (jq9 OV3.out b hb).1; have := HB1.out; omega));clear hs HS3 HG3 HZ3 B3 OV3;generalize X3.setRow w.heap.size #[.int .i64 id, .int .i64 lim, .bool ro, .slice (some ⟨g9, 0, none⟩) n c9] = X4 at *;go_wp2_with fail
 go_loopw [6, 7] (fun uf ui wr => ∃ i : Nat, i ≤ n ∧ ui = .int .i64 (i : Int) ∧ ∃ f : Bool, uf = .bool f ∧ (f = true ↔ ∃ j, j < i ∧ (L.getD j g0).num = g.num) ∧ wr.heap[w.heap.size]? = some (.cells #[.int .i64 id, .int .i64 lim, .bool ro, .slice (some ⟨g9, 0, none⟩) n c9] 24 (0, 0)) ∧ wr.heap[w.heap.size + 1]? = some (.cells #[.int .i64 g.num, .int .i64 g.rev, .int .i64 g.mode, .int .i64 g.size, t0, t1, t2, t3, t4, t5, t6, t7, .int .i64 g.m.live, .int .i64 g.m.garb] 31 (0, 0)) ∧ wr.heap[w.heap.size + 2]? = some (.cells #[.int .i64 0, .int .i64 0, .bool false, .slice none 0 0] 24 (0, 0)) ∧ OwV 31 14 wr B1 (.slice (some ⟨g9, 0, none⟩) n c9) (repV V L [.int .i64 g.num, .int .i64 g.rev, .int .i64 g.mode, .int .i64 g.size, t0, t1, t2, t3, t4, t5, t6, t7, .int .i64 g.m.live, .int .i64 g.m.garb] g.num i) ∧ Below w.heap.size w wr) (fun _ t _ => n - (intOf t).toNat)
 case atStart => exact ⟨0, Nat.zero_le _, rfl, false, rfl, ⟨fun h => (by cases h), fun ⟨j, h, _⟩ => absurd h (Nat.not_lt_zero j)⟩, HS4.out, HG4.out, HZ4.out, by rw [repV_zero]; exact OV4.out, B4.out⟩
 case round =>
  obtain ⟨i, hi, rfl, f, rfl, hf, hs, hgb, hz, hov, hB⟩ := hrel
  rename World => wl
  clear HS4 HG4 HZ4 OV4 B4;have HS := Lh hs;have HG := Lh hgb;have HZ := Lh hz;have OV := Lh hov;have BW := Lh hB;have HF := Lh (propext hf);clear hs hgb hz hov hB hf;obtain ⟨⟨y0, y1, y2, y3⟩, -⟩ := bx4 HS.out
  by_cases hlt : i < n
  case neg =>
   obtain rfl : n = i := by omega
   have d1 : decide ((n : Int) < (n : Int)) = false := decide_eq_false (by omega);have GLx := Lh (gl_own OV.out (L := repL L g) (by rw [jxp, jx5, HVL.out, HN.out]) (fun k hk => by
    rw [jx5] at hk;rw [repV_at (by rw [HVL.out, HN.out]; exact hk), repL_at hk]
    by_cases hq : (L.getD k g0).num = g.num
    ·rw [if_pos ⟨by rw [HN.out]; exact hk, hq⟩, if_pos hq]
     exact ⟨t0, t1, t2, t3, t4, t5, t6, t7, rfl, jqf HMS.out BW.out, HJG.out⟩
    ·rw [if_neg (fun q => hq q.2), if_neg hq]
     exact jw6 (HGC.out k hk) BW.out))
   have HZ9 := HZ;have B9 := BW
   cases f
   case false =>
    have HNO := Lh (show ¬ hasN L g.num from fun ⟨j, h1, h2⟩ => by
     have q : false = true := HF.out.mpr ⟨j, by rw [HN.out]; exact h1, h2⟩
     cases q)
    clear hi hlt;go_upto_region 11 with fail
    clear y0 y1 y2 y3;go_wp2_with ((with_reducible refine jwt (w.heap.size + 2) _ #[.int .i64 0, .int .i64 0, .bool false, .slice none 0 0] ?_ ?_ HZ9.out rfl rfl zs_one ?_); exact rfl; exact rfl)
    refine bodyPost_ret (jqn (S := 24) rfl _ _ (w.heap.size + 2) #[.int .i64 0, .int .i64 0, .bool false, .slice none 0 0] rfl (setRow_heap _ _ _ _ _ _ HZ9.out) Tryz.underlying24 rfl infoRS4) rfl ?_;exact chg_none HK.out HNO.out ⟨⟨_, rfl, _, rfl, jxv _, by unfold J64; decide, by unfold J64; decide⟩, jqd B9.out (by omega) _⟩
   case true =>
    have HYE := Lh (show hasN L g.num by
     obtain ⟨j, h1, h2⟩ := HF.out.mp rfl;exact ⟨j, by rw [← HN.out]; exact h1, h2⟩)
    have PV := Lh (rsvalid_x id lim ro (some ⟨g9, 0, none⟩) n c9 (repL L g) wl (by rw [jx5]; exact HN.out) GLx.out HLN.out (fun x hx => by
     rcases repL_mem hx with h | h
     ·rw [h]; exact HFG.out
     ·exact HLF.out x h))
    clear hi hlt;go_wp2_with fail
    clear y0 y1 y2 y3;refine PV.out.mono ?_;rintro e W5 ⟨rfl, hb⟩;have HS5 := Lh ((hb.block _ (jqb HS.out)).trans HS.out);have HZ5 := Lh ((hb.block _ (jqb HZ.out)).trans HZ.out);have OV5 := Lh (jq5 OV.out hb);have B5 := Lh (BW.out.trans (hb.mono BW.out.size));clear hb PV HS HZ HZ9 B9 OV;rcases Classical.em (okS ⟨id, lim, ro, repL L g⟩) with h1 | h1
    case inr =>
     rw [jwf h1];have HK2 := Lh h1;clear h1;go_wp2_with ((with_reducible refine jwt (w.heap.size + 2) _ #[.int .i64 0, .int .i64 0, .bool false, .slice none 0 0] ?_ ?_ HZ5.out rfl rfl zs_one ?_); exact rfl; exact rfl)
     refine bodyPost_ret (jqn (S := 24) rfl _ _ (w.heap.size + 2) #[.int .i64 0, .int .i64 0, .bool false, .slice none 0 0] rfl (setRow_heap _ _ _ _ _ _ HZ5.out) Tryz.underlying24 rfl infoRS4) rfl ?_;exact chg_inv HK.out HYE.out HK2.out ⟨⟨_, rfl, _, rfl, jxv _, by unfold J64; decide, by unfold J64; decide⟩, jqd B5.out (by omega) _⟩
    rw [jwm h1];have HK2 := Lh h1;clear h1;obtain ⟨⟨y0, y1, y2, y3⟩, -⟩ := bx4 HS5.out;go_wp2_with ((with_reducible refine jwt (w.heap.size + 2) _ #[.int .i64 id, .int .i64 lim, .bool ro, .slice (some ⟨g9, 0, none⟩) n c9] ?_ ?_ HZ5.out rfl rfl jw8 ?_); exact rfl; exact rfl)
    refine bodyPost_ret (jqn (S := 24) rfl _ _ (w.heap.size + 2) #[.int .i64 id, .int .i64 lim, .bool ro, .slice (some ⟨g9, 0, none⟩) n c9] rfl (setRow_heap _ _ _ _ _ _ HZ5.out) Tryz.underlying24 rfl infoRS4) rfl ?_;refine chg_ok HK.out HYE.out HK2.out ⟨⟨_, rfl, _, rfl, ?_, HJ.out⟩, jqd B5.out (by omega) _⟩;exact gl_own (jw1 OV5.out fun b hb _ => setRow_other _ _ _ _ (by have := (jq9 OV5.out b hb).1; have := HB1.out; omega)) (L := repL L g) (by rw [jxp, jx5, HVL.out, HN.out]) (fun k hk => by
     simp only [jx5] at hk;rw [repV_at (by rw [HVL.out, HN.out]; exact hk), repL_at hk]
     by_cases hq : (L.getD k g0).num = g.num
     ·rw [if_pos ⟨by rw [HN.out]; exact hk, hq⟩, if_pos hq]
      exact ⟨t0, t1, t2, t3, t4, t5, t6, t7, rfl, jqv (jqf HMS.out B5.out) HZ5.out jwy, HJG.out⟩
     ·rw [if_neg (fun q => hq q.2), if_neg hq]
      exact jwz (jw6 (HGC.out k hk) B5.out) HZ5.out jwy)
  have d1 : decide ((i : Int) < (n : Int)) = true := decide_eq_true (by omega);have d2 : decide (i < n) = true := decide_eq_true hlt;have HI := Lh hlt;have p0 : (0 : Int) ≤ (i : Int) := by omega
  have p1 : (i : Int) < (n : Int) := by omega
  obtain ⟨u, hu⟩ : ∃ u, L.getD i g0 = u := ⟨_, rfl⟩;have HU := Lh hu;have hc0 : wl.cell? ⟨g9, i * 14, none⟩ = some (.int .i64 u.num) := by
   obtain ⟨b9, c8, hv9, -, hs9⟩ := ov_src OV.out (by rw [jxp, HVL.out]; omega);obtain ⟨rfl, -⟩ : g9 = b9 ∧ _ := by simpa using hv9
   have q := hs9 i 0 (by rw [jxp, HVL.out]; exact hlt) (by decide);rw [repV_at (by rw [HVL.out]; exact hlt), if_neg (by omega)] at q;obtain ⟨_, _, _, _, _, _, _, _, hv, -⟩ := HGC.out i (by have := HN.out; omega);rw [hv, hu] at q
   simpa using q
  have HC0 := Lh hc0;clear hc0 hu hlt hi;go_upto_region 8 with fail
  clear d1 d2 y0 y1 y2 y3;refine jq0 ?_;refine jqh (fun W' => Below wl.heap.size wl W') [0, 1, 2, 3, 4, 5, 6, 7] 1 (by kernel_rfl) (fun _ _ _ _ _ h => h.elim) (by kernel_rfl) (by rfl) (by rfl) (Below.refl wl.heap.size wl).drew ?_;simp only [jq2, List.filterMap_cons, List.filterMap_nil, List.getElem?_toArray, List.getElem?_cons_zero, List.getElem?_cons_succ];refine jqc (fun K hK => ?_);go_simp;refine ⟨_, fun _ _ => rfl, hK _ ?_⟩;clear hK K;refine jqc (fun K hK => ?_);go_simp;refine ⟨.slice (some ⟨g9, 0, none⟩) n c9, fun w' hw' => by
   obtain ⟨⟨y0, y1, y2, y3⟩, -⟩ := bx4 ((hw'.block _ (jqb HS.out)).trans HS.out);go_simp, hK _ ?_⟩
  clear hK K;refine jqc (fun K hK => ?_);go_simp;refine ⟨_, fun _ _ => rfl, hK _ ?_⟩;clear hK K;refine jqc (fun K hK => ?_);go_simp;refine ⟨.pointer (some ⟨g9, i * 14, none⟩), fun w' hw' => by
   skip
   go_simp, hK _ ?_⟩
  clear hK K;refine jqc (fun K hK => ?_);go_simp;refine ⟨_, fun _ _ => rfl, hK _ ?_⟩;clear hK K;refine jqc (fun K hK => ?_);go_simp;refine ⟨.int .i64 u.num, fun w' hw' => by
   have q := (hw'.cell (p := ⟨g9, i * 14, none⟩) (block_lt_of_cell HC0.out)).trans HC0.out;go_simp, hK _ ?_⟩
  clear hK K;refine jqc (fun K hK => ?_);go_simp;refine ⟨_, fun _ _ => rfl, hK _ ?_⟩;clear hK K;refine jqc (fun K hK => ?_);go_simp;refine ⟨.int .i64 g.num, fun w' hw' => by
   obtain ⟨x0, x1, x2, x3, x4, x5, x6, x7, x8, x9, x10, x11, x12, x13⟩ := bx14 ((hw'.block _ (jqb HG.out)).trans HG.out);go_simp, hK _ ?_⟩
  clear hK K;refine jqp ?_;have SD := Lh (Below.refl wl.heap.size wl).drew;have HS0 := Lh ((SD.out.block _ (jqb HS.out)).trans HS.out);have HG0 := Lh ((SD.out.block _ (jqb HG.out)).trans HG.out);have HZ0 := Lh ((SD.out.block _ (jqb HZ.out)).trans HZ.out);have OV0 := Lh (jq5 OV.out SD.out);have BW0 := Lh (BW.out.trans (SD.out.mono BW.out.size));clear SD HS HG HZ OV BW HC0;have SD1 := Lh (Below.refl wl.heap.size wl).drew;generalize wl.drew = WD at *;obtain ⟨dq, hdq⟩ : ∃ q, q = decide (u.num = g.num) := ⟨_, rfl⟩;have d1 : decide (u.num = g.num) = dq := hdq.symm;have d2 : (u.num == g.num) = dq := hdq.symm;have HDQ := Lh hdq;clear hdq;refine gwq 8 fun K hK => ?_;go_simp;refine hK _ _ (SD1.out) ?_;clear hK K d1 d2;refine wpAnyH_done (by kernel_rfl) ?_ _;unfold jqw;dsimp only;clear SD1;have hw := w64s8 i (by have := HLN.out; have := HI.out; omega)
  cases dq
  case false =>
   have HNE := Lh (of_decide_eq_false HDQ.out.symm);go_wp2_with fail
   go_roundw
   case rel => exact ⟨i + 1, HI.out, by go_num, f, rfl, by
    rw [HF.out]
    constructor
    ·rintro ⟨j, h1, h2⟩; exact ⟨j, by omega, h2⟩
    ·rintro ⟨j, h1, h2⟩
     rcases Nat.lt_or_ge j i with h | h
     ·exact ⟨j, h, h2⟩
     ·obtain rfl : j = i := by omega
      rw [HU.out] at h2;exact absurd h2 HNE.out, HS0.out, HG0.out, HZ0.out, by rw [repV_skip (by rw [HU.out]; exact HNE.out)]; exact OV0.out, BW0.out⟩
   case measure => exact meas8 n i HI.out (by have := HLN.out; omega)
  case true =>
   have HEQ := Lh (of_decide_eq_true HDQ.out.symm);obtain ⟨⟨y0, y1, y2, y3⟩, -⟩ := bx4 HS0.out;obtain ⟨x0, x1, x2, x3, x4, x5, x6, x7, x8, x9, x10, x11, x12, x13⟩ := bx14 HG0.out;have HST := ov_set OV0.out (i := i) (p := [.int .i64 g.num, .int .i64 g.rev, .int .i64 g.mode, .int .i64 g.size, t0, t1, t2, t3, t4, t5, t6, t7, .int .i64 g.m.live, .int .i64 g.m.garb]) (by rw [jxp]; have := HVL.out; have := HI.out; omega) ⟨rfl, fun u hu => (Array.all_eq_true_iff_forall_mem.1 ONG.out) u (by simpa using hu)⟩;have OV1 := Lh HST.1;have HTH := Lh HST.2;clear HST;obtain ⟨W2, hW2⟩ : ∃ W2, W2 = WD.setCells g9 (i * 14) [.int .i64 g.num, .int .i64 g.rev, .int .i64 g.mode, .int .i64 g.size, t0, t1, t2, t3, t4, t5, t6, t7, .int .i64 g.m.live, .int .i64 g.m.garb] := ⟨_, rfl⟩;have HS1 := Lh ((jx0 [.int .i64 g.num, .int .i64 g.rev, .int .i64 g.mode, .int .i64 g.size, t0, t1, t2, t3, t4, t5, t6, t7, .int .i64 g.m.live, .int .i64 g.m.garb] WD (i * 14) (show w.heap.size ≠ g9 by have := HGB.out; omega)).trans HS0.out);have HG1 := Lh ((jx0 [.int .i64 g.num, .int .i64 g.rev, .int .i64 g.mode, .int .i64 g.size, t0, t1, t2, t3, t4, t5, t6, t7, .int .i64 g.m.live, .int .i64 g.m.garb] WD (i * 14) (show w.heap.size + 1 ≠ g9 by have := HGB.out; omega)).trans HG0.out);have HZ1 := Lh ((jx0 [.int .i64 g.num, .int .i64 g.rev, .int .i64 g.mode, .int .i64 g.size, t0, t1, t2, t3, t4, t5, t6, t7, .int .i64 g.m.live, .int .i64 g.m.garb] WD (i * 14) (show w.heap.size + 2 ≠ g9 by have := HGB.out; omega)).trans HZ0.out);have BW1 := Lh (below_setCells (show w.heap.size ≤ g9 by have := HGB.out; omega) [.int .i64 g.num, .int .i64 g.rev, .int .i64 g.mode, .int .i64 g.size, t0, t1, t2, t3, t4, t5, t6, t7, .int .i64 g.m.live, .int .i64 g.m.garb] WD (i * 14) BW0.out);rw [← hW2] at OV1 HS1 HG1 HZ1 BW1;have HW2 := Lh hW2.symm;clear hW2;go_wp2_with ((with_reducible refine storeRGm g9 (i * 14) #[.int .i64 g.num, .int .i64 g.rev, .int .i64 g.mode, .int .i64 g.size, t0, t1, t2, t3, t4, t5, t6, t7, .int .i64 g.m.live, .int .i64 g.m.garb] ?_ ?_ HTH.out rfl ONG.out HW2.out ?_); exact rfl; exact rfl)
   go_roundw
   case rel => exact ⟨i + 1, HI.out, by go_num, true, rfl, ⟨fun _ => ⟨i, Nat.lt_succ_self i, by rw [HU.out]; exact HEQ.out⟩, fun _ => rfl⟩, HS1.out, HG1.out, HZ1.out, by rw [← repV_set (by have := HVL.out; have := HI.out; omega) (by rw [HU.out]; exact HEQ.out)]; exact OV1.out, BW1.out⟩
   case measure => exact meas8 n i HI.out (by have := HLN.out; omega)
end Go.Proofs.YtimoinfjinmamaaGreat.Gf
