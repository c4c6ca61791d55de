/- What is proved here: the reference's Add, as far as the laws' slots want it: it answers some generation of few items. -/
import Derived.Test.YtgbnclepgjcakaaGreatGs16
namespace Go.Proofs.YtgbnclepgjcakaaGreat.Gf
open Go Go.Joins Go.ChangeShapes Go.WideShapes Go.ChangeAt Go.RowKit Go.Deep Go.Proofs.YtgbnclepgjcakaaGreat.By Go.Proofs.YtgbnclepgjcakaaGreat.Qt
set_option maxRecDepth 100000
set_option maxHeartbeats 204800000

/-- Four cells are a needle. -/
def NC (w : World) (b o : Nat) : Prop := ∃ (key ck : Nat) (del : Bool) (a : Option Addr) (n c : Nat), key < 18446744073709551616 ∧ ck < 4294967296 ∧ n ≤ maxLen ∧ w.cell? ⟨b, o, none⟩ = some (.int .u64 (key : Int)) ∧ w.cell? ⟨b, o + 1, none⟩ = some (.int .u32 (ck : Int)) ∧ w.cell? ⟨b, o + 2, none⟩ = some (.bool del) ∧ w.cell? ⟨b, o + 3, none⟩ = some (.slice a n c)
theorem nc_below {w w' : World} {b o : Nat} (h : NC w b o) (hB : Below w.heap.size w w') : NC w' b o := by
 obtain ⟨key, ck, del, a, n, c, h1, h2, h3, k0, k1, k2, k3⟩ := h
 have k : ∀ (p : Nat) (v : Value), w.cell? ⟨b, p, none⟩ = some v → w'.cell? ⟨b, p, none⟩ = some v := fun p v q => (hB.cell (p := ⟨b, p, none⟩) (block_lt_of_cell q)).trans q
 exact ⟨key, ck, del, a, n, c, h1, h2, h3, k _ _ k0, k _ _ k1, k _ _ k2, k _ _ k3⟩
/-- A list of needles, as far as Add reads it. -/
def Nl (w : World) (v : Value) (n : Nat) : Prop := ∃ a c, v = .slice a n c ∧ n ≤ c ∧ c ≤ maxLen ∧ (0 < n → ∃ b off, a = some ⟨b, off, none⟩ ∧ ∀ i, i < n → NC w b (off + i * 4))
theorem nl_below {w w' : World} {v : Value} {n : Nat} (h : Nl w v n) (hB : Below w.heap.size w w') : Nl w' v n := by
 obtain ⟨a, c, h1, h2, h3, h4⟩ := h
 refine ⟨a, c, h1, h2, h3, fun hp => ?_⟩
 obtain ⟨b, off, ha, hc⟩ := h4 hp
 exact ⟨b, off, ha, fun i hi => nc_below (hc i hi) hB⟩
theorem nl_at {w : World} {a : Option Addr} {n c i : Nat} (h : Nl w (.slice a n c) n) (hi : i < n) : ∃ b off, a = some ⟨b, off, none⟩ ∧ NC w b (off + i * 4) := by
 obtain ⟨a2, c2, h1, -, -, h4⟩ := h
 obtain ⟨rfl, rfl⟩ : a = a2 ∧ c = c2 := by simpa using h1
 obtain ⟨b, off, ha, hc⟩ := h4 (by omega)
 exact ⟨b, off, ha, hc i hi⟩
theorem infoN4 : (Tryz.prog.info? 119).map (·.size) = some 4 := by kernel_rfl
theorem storeN {ops : Array Oper} {rest : List Oper} {x y : Operand} {pos : String} {after : Array Edge} {ty : TypeId} {a : Act} {w : World} {Q : Exit → Act → World → Prop}
 (g : Nat) (old cs : Array Value) (hx : a.eval x = .pointer (some ⟨g, 0, none⟩)) (hy : a.eval y = .agg cs) (hg : w.heap[g]? = some (.cells old 119 (0, 0))) (ho : old.size = 4) (hs : cs.size = 4) (h1 : cs.all (·.oneCell') = true)
 (h : wpList Tryz.prog ops Q rest a (w.setRow g cs)) : wpList Tryz.prog ops Q (⟨none, .store 119 x y, ty, pos, after, none⟩ :: rest) a w :=
 wpList_store_row rfl 119 x y rfl g cs hx hy 119 old hg (by rw [infoN4, hs]) (by omega) h1 h
theorem storeRM {ops : Array Oper} {rest : List Oper} {x y : Operand} {pos : String} {after : Array Edge} {ty : TypeId} {a : Act} {w w2 : World} {Q : Exit → Act → World → Prop} {T : TypeId}
 (g : Nat) (old cs : Array Value) (hx : a.eval x = .pointer (some ⟨g, 4, none⟩)) (hy : a.eval y = .agg cs) (hg : w.heap[g]? = some (.cells old T (0, 0))) (ho : old.size = 14) (hs : cs.size = 10) (h1 : cs.all (·.oneCell') = true)
 (hw : w.setCells g 4 cs.toList = w2) (h : wpList Tryz.prog ops Q rest a w2) : wpList Tryz.prog ops Q (⟨none, .store 44 x y, ty, pos, after, none⟩ :: rest) a w :=
 wpList_store_mid rfl 44 x y rfl g 4 cs hx hy (there_row hg (by omega)) (by rw [infoR10, hs]) h1 (by rw [hw]; exact h)
theorem nv_one (key ck : Nat) (del : Bool) (da : Option Addr) (dn dc : Nat) : (#[.int .u64 (key : Int), .int .u32 (ck : Int), .bool del, .slice da dn dc] : Array Value).all (·.oneCell') = true := by simp [show (Value.int .u64 (key : Int)).oneCell' = true from rfl, show (Value.int .u32 (ck : Int)).oneCell' = true from rfl, show (Value.bool del).oneCell' = true from rfl, show (Value.slice da dn dc).oneCell' = true from rfl]
theorem msG_u64 {w : World} {v0 v1 v2 v3 v4 v5 v6 v7 : Value} {m : Mp} (h : Ms w [v0, v1, v2, v3, v4, v5, v6, v7] m) (a b c d e f : Int) : ∀ (k : Nat) (n : Int), (#[.int .i64 a, .int .i64 b, .int .i64 c, .int .i64 d, v0, v1, v2, v3, v4, v5, v6, v7, .int .i64 e, .int .i64 f] : Array Value)[k]? ≠ some (.int .u64 n) := by
 obtain ⟨a0, k0, hs0, -⟩ := h.2.2.2 0 (by decide)
 obtain rfl := Option.some.inj hs0
 obtain ⟨a1, k1, hs1, -⟩ := h.2.2.2 1 (by decide)
 obtain rfl := Option.some.inj hs1
 obtain ⟨a2, k2, hs2, -⟩ := h.2.2.2 2 (by decide)
 obtain rfl := Option.some.inj hs2
 obtain ⟨a3, k3, hs3, -⟩ := h.2.2.2 3 (by decide)
 obtain rfl := Option.some.inj hs3
 obtain ⟨a4, k4, hs4, -⟩ := h.2.2.2 4 (by decide)
 obtain rfl := Option.some.inj hs4
 obtain ⟨a5, k5, hs5, -⟩ := h.2.2.2 5 (by decide)
 obtain rfl := Option.some.inj hs5
 obtain ⟨a6, k6, hs6, -⟩ := h.2.2.2 6 (by decide)
 obtain rfl := Option.some.inj hs6
 obtain ⟨a7, k7, hs7, -⟩ := h.2.2.2 7 (by decide)
 obtain rfl := Option.some.inj hs7
 intro k n h
 match k, h with
 | 0, h => simp at h
 | 1, h => simp at h
 | 2, h => simp at h
 | 3, h => simp at h
 | 4, h => simp at h
 | 5, h => simp at h
 | 6, h => simp at h
 | 7, h => simp at h
 | 8, h => simp at h
 | 9, h => simp at h
 | 10, h => simp at h
 | 11, h => simp at h
 | 12, h => simp at h
 | 13, h => simp at h
 | k + 14, h => simp at h
theorem mv_len {w : World} {v : Value} {m : Mp} (h : Mv w v m) : m.st.length = 8 := by
 obtain ⟨_, _, _, _, _, _, _, _, _, h⟩ := h
 exact h.1
theorem w64_j (x : Int) : J64 (wrap64 x) := by unfold J64 wrap64; omega
theorem szI6_j (n : Int) : J64 (szI6 n) := by unfold J64 szI6; split <;> omega
theorem rnvalid_some (key ck : Nat) (del : Bool) (da : Option Addr) (dn dc : Nat) (w : World) : Calls Tryz.prog 61 #[.agg #[.int .u64 (key : Int), .int .u32 (ck : Int), .bool del, .slice da dn dc]] w fun e w' => e = .returned (.bool (decide (dn ≤ 4096) && !(del && decide (0 < dn)))) ∧ Below w.heap.size w w' := by
 have HB := Lh ((Below.refl w.heap.size w).alloc (Nat.le_refl _) (.cells #[.int .u64 (key : Int), .int .u32 (ck : Int), .bool del, .slice da dn dc] 119))
 obtain ⟨d1, hd1⟩ : ∃ b, decide ((dn : Int) ≤ 4096) = b := ⟨_, rfl⟩
 have e1 : decide (dn ≤ 4096) = d1 := by rw [← hd1]; exact decide_eq_decide.2 (by omega)
 rw [e1]
 clear e1
 cases d1 <;> cases del
 all_goals
  go_enter Tryz.func61, Tryz.ntmps61
  go_wp2
  go_ret
  exact ⟨by first | rfl | simp, HB.out⟩
theorem radd_some (v : Value) (g : Ge) (N : Nat) (vk : Value) (n : Nat) (w : World) (hv : Gv w v g) (hfl : g.m.st.flatten.length ≤ N) (hN : N + n ≤ 890) (hk : Nl w vk n) : Calls Tryz.prog 33 #[v, vk] w (SomG (N + n) w) := by
 obtain ⟨s0, s1, s2, s3, s4, s5, s6, s7, rfl, hm, hj⟩ := hv
 have q0 := al2 w (.cells #[.int .i64 g.num, .int .i64 g.rev, .int .i64 g.mode, .int .i64 g.size, s0, s1, s2, s3, s4, s5, s6, s7, .int .i64 g.m.live, .int .i64 g.m.garb] 46) (.cells #[.int .i64 0, .int .i64 0, .int .i64 0, .int .i64 0, .slice none 0 0, .slice none 0 0, .slice none 0 0, .slice none 0 0, .slice none 0 0, .slice none 0 0, .slice none 0 0, .slice none 0 0, .int .i64 0, .int .i64 0] 46)
 have HS := Lh q0.1
 have HZ := Lh q0.2.1
 have B0 := Lh q0.2.2
 have MS := Lh (ms_below hm q0.2.2)
 have ON0 := Lh (gc_one hm)
 have HJ := Lh hj
 have HFL0 := Lh hfl
 have HNN := Lh hN
 have HKL := Lh hk
 have HNK := Lh (show n ≤ 890 by omega)
 have PV := Lh (fun W (h : Gv W (.agg #[.int .i64 g.num, .int .i64 g.rev, .int .i64 g.mode, .int .i64 g.size, s0, s1, s2, s3, s4, s5, s6, s7, .int .i64 g.m.live, .int .i64 g.m.garb]) g) => rgvalid_any (.agg #[.int .i64 g.num, .int .i64 g.rev, .int .i64 g.mode, .int .i64 g.size, s0, s1, s2, s3, s4, s5, s6, s7, .int .i64 g.m.live, .int .i64 g.m.garb]) g W h (few_of hm.1 (by omega)) (by omega))
 obtain ⟨ak, ck0, rfl, -, -, -⟩ := hk
 clear q0 hm hj hfl hN
 go_enter Tryz.func33, Tryz.ntmps33
 go_upto_region 1 with fail
 generalize (w.alloc (.cells #[.int .i64 g.num, .int .i64 g.rev, .int .i64 g.mode, .int .i64 g.size, s0, s1, s2, s3, s4, s5, s6, s7, .int .i64 g.m.live, .int .i64 g.m.garb] 46)).alloc (.cells #[.int .i64 0, .int .i64 0, .int .i64 0, .int .i64 0, .slice none 0 0, .slice none 0 0, .slice none 0 0, .slice none 0 0, .slice none 0 0, .slice none 0 0, .slice none 0 0, .slice none 0 0, .int .i64 0, .int .i64 0] 46) = W0 at *
 obtain ⟨x0, x1, x2, x3, x4, x5, x6, x7, x8, x9, x10, x11, x12, x13⟩ := bx14 HS.out
 go_wp2_with fail
 clear x0 x1 x2 x3 x4 x5 x6 x7 x8 x9 x10 x11 x12 x13
 refine (PV.out W0 ⟨s0, s1, s2, s3, s4, s5, s6, s7, rfl, MS.out, HJ.out⟩).mono ?_
 rintro e W1 ⟨rfl, hb⟩
 have HS1 := Lh ((hb.block _ (lt_of_some HS.out)).trans HS.out)
 have HZ1 := Lh ((hb.block _ (lt_of_some HZ.out)).trans HZ.out)
 have MS1 := Lh (ms_below MS.out hb)
 have B1 := Lh (B0.out.trans (hb.mono B0.out.size))
 clear hb HS HZ MS B0 PV
 rcases Classical.em (okGe g) with h1 | h1
 case inr =>
  rw [okGb_f h1]
  clear h1
  go_wp2_with ((with_reducible refine storeRG (w.heap.size + 1) _ #[.int .i64 0, .int .i64 0, .int .i64 0, .int .i64 0, .slice none 0 0, .slice none 0 0, .slice none 0 0, .slice none 0 0, .slice none 0 0, .slice none 0 0, .slice none 0 0, .slice none 0 0, .int .i64 0, .int .i64 0] ?_ ?_ HZ1.out rfl rfl zg_one ?_); exact rfl; exact rfl)
  refine bodyPost_ret (results_rt (S := 46) rfl _ _ (w.heap.size + 1) #[.int .i64 0, .int .i64 0, .int .i64 0, .int .i64 0, .slice none 0 0, .slice none 0 0, .slice none 0 0, .slice none 0 0, .slice none 0 0, .slice none 0 0, .slice none 0 0, .slice none 0 0, .int .i64 0, .int .i64 0] rfl (setRow_heap _ _ _ _ _ _ HZ1.out) Tryz.underlying46 rfl infoRG14) rfl ?_
  exact ⟨⟨_, _, rfl, by unfold J64; decide, g0, g0_v _, g0_fl _⟩, below_setRowM B1.out (Nat.le_succ _) _⟩
 rw [okGb_t h1]
 clear h1
 obtain ⟨x0, x1, x2, x3, x4, x5, x6, x7, x8, x9, x10, x11, x12, x13⟩ := bx14 HS1.out
 go_wp2_with fail
 clear x0 x1 x2 x3 x4 x5 x6 x7 x8 x9 x10 x11 x12 x13
 go_loopw [6, 7] (fun t6 t7 wr => ∃ i : Nat, i ≤ n ∧ t7 = .int .i64 (i : Int) ∧ (∃ S : Int, t6 = .int .i64 S) ∧ Below W1.heap.size W1 wr) (fun _ t _ => n - (intOf t).toNat)
 case atStart => exact ⟨0, Nat.zero_le _, rfl, ⟨_, rfl⟩, Below.refl _ _⟩
 case round =>
  obtain ⟨i, hi, rfl, ⟨S, rfl⟩, hB⟩ := hrel
  rename World => wl
  have HS2 := Lh ((hB.block _ (lt_of_some HS1.out)).trans HS1.out)
  have HZ2 := Lh ((hB.block _ (lt_of_some HZ1.out)).trans HZ1.out)
  have MS2 := Lh (ms_below MS1.out hB)
  have B2 := Lh (B1.out.trans (hB.mono B1.out.size))
  have HB := Lh hB
  clear hB
  by_cases hlt : i < n
  case neg =>
   obtain rfl : n = i := by omega
   have d1 : decide ((n : Int) < (n : Int)) = false := decide_eq_false (by omega)
   clear hlt hi HS1 HZ1 MS1 B1 HB
   obtain ⟨x0, x1, x2, x3, x4, x5, x6, x7, x8, x9, x10, x11, x12, x13⟩ := bx14 HS2.out
   by_cases h2 : g.mode = 1
   case neg =>
    have d2 : decide (g.mode = 1) = false := decide_eq_false h2
    have d3 : (g.mode == 1) = false := beq_false_of_ne h2
    have d4 : (g.mode != 1) = true := by simp [h2]
    clear h2
    go_wp2_with ((with_reducible refine storeRG (w.heap.size + 1) _ #[.int .i64 0, .int .i64 0, .int .i64 0, .int .i64 0, .slice none 0 0, .slice none 0 0, .slice none 0 0, .slice none 0 0, .slice none 0 0, .slice none 0 0, .slice none 0 0, .slice none 0 0, .int .i64 0, .int .i64 0] ?_ ?_ HZ2.out rfl rfl zg_one ?_); exact rfl; exact rfl)
    refine bodyPost_ret (results_rt (S := 46) rfl _ _ (w.heap.size + 1) #[.int .i64 0, .int .i64 0, .int .i64 0, .int .i64 0, .slice none 0 0, .slice none 0 0, .slice none 0 0, .slice none 0 0, .slice none 0 0, .slice none 0 0, .slice none 0 0, .slice none 0 0, .int .i64 0, .int .i64 0] rfl (setRow_heap _ _ _ _ _ _ HZ2.out) Tryz.underlying46 rfl infoRG14) rfl ?_
    exact ⟨⟨_, _, rfl, by unfold J64; decide, g0, g0_v _, g0_fl _⟩, below_setRowM B2.out (Nat.le_succ _) _⟩
   have d2 : decide (g.mode = 1) = true := decide_eq_true h2
   have d3 : (g.mode == 1) = true := beq_iff_eq.2 h2
   have d4 : (g.mode != 1) = false := by rw [h2]; rfl
   clear h2
   by_cases h3 : 1048576 < S
   ·have d5 : decide (1048576 < S) = true := decide_eq_true h3
    clear h3
    go_wp2_with ((with_reducible refine storeRG (w.heap.size + 1) _ #[.int .i64 0, .int .i64 0, .int .i64 0, .int .i64 0, .slice none 0 0, .slice none 0 0, .slice none 0 0, .slice none 0 0, .slice none 0 0, .slice none 0 0, .slice none 0 0, .slice none 0 0, .int .i64 0, .int .i64 0] ?_ ?_ HZ2.out rfl rfl zg_one ?_); exact rfl; exact rfl)
    refine bodyPost_ret (results_rt (S := 46) rfl _ _ (w.heap.size + 1) #[.int .i64 0, .int .i64 0, .int .i64 0, .int .i64 0, .slice none 0 0, .slice none 0 0, .slice none 0 0, .slice none 0 0, .slice none 0 0, .slice none 0 0, .slice none 0 0, .slice none 0 0, .int .i64 0, .int .i64 0] rfl (setRow_heap _ _ _ _ _ _ HZ2.out) Tryz.underlying46 rfl infoRG14) rfl ?_
    exact ⟨⟨_, _, rfl, by unfold J64; decide, g0, g0_v _, g0_fl _⟩, below_setRowM B2.out (Nat.le_succ _) _⟩
   have d5 : decide (1048576 < S) = false := decide_eq_false h3
   clear h3
   go_wp2_with fail
   clear x0 x1 x2 x3 x4 x5 x6 x7 x8 x9 x10 x11 x12 x13
   clear d1 d2 d3 d4 d5
   go_loopw [8, 9, 10] (fun t8 _ _ wr => ∃ i : Nat, i ≤ n ∧ t8 = .int .i64 (i : Int) ∧ ∃ (m : Mp) (sz : Int) (t0 t1 t2 t3 t4 t5 t6 t7 : Value), wr.heap[w.heap.size]? = some (.cells #[.int .i64 g.num, .int .i64 g.rev, .int .i64 g.mode, .int .i64 sz, t0, t1, t2, t3, t4, t5, t6, t7, .int .i64 m.live, .int .i64 m.garb] 46 (0, 0)) ∧ wr.heap[w.heap.size + 1]? = some (.cells #[.int .i64 0, .int .i64 0, .int .i64 0, .int .i64 0, .slice none 0 0, .slice none 0 0, .slice none 0 0, .slice none 0 0, .slice none 0 0, .slice none 0 0, .slice none 0 0, .slice none 0 0, .int .i64 0, .int .i64 0] 46 (0, 0)) ∧ Ms wr [t0, t1, t2, t3, t4, t5, t6, t7] m ∧ J64 sz ∧ m.st.flatten.length ≤ N + i ∧ Below w.heap.size w wr) (fun t _ _ _ => n - (intOf t).toNat)
   case atStart => exact ⟨0, Nat.zero_le _, rfl, g.m, g.size, s0, s1, s2, s3, s4, s5, s6, s7, HS2.out, HZ2.out, MS2.out, HJ.out.2.2.2, HFL0.out, B2.out⟩
   case round =>
    obtain ⟨i, hi, rfl, m, sz, t0, t1, t2, t3, t4, t5, t6, t7, hx, hzz, hms, hjs, hfl, hB⟩ := hrel
    rename World => wl2
    have HX := Lh hx
    have HZ := Lh hzz
    have HMS := Lh hms
    have HFL := Lh hfl
    have HJS := Lh hjs
    have HB := Lh hB
    clear hx hzz hms hfl hB hjs
    by_cases hlt : i < n
    case neg =>
     obtain rfl : i = n := by omega
     have d1 : decide ((i : Int) < (i : Int)) = false := decide_eq_false (by omega)
     have ON := Lh (gc_one (g := ⟨g.num, g.rev, g.mode, sz, m⟩) HMS.out)
     clear hlt hi
     obtain ⟨x0, x1, x2, x3, x4, x5, x6, x7, x8, x9, x10, x11, x12, x13⟩ := bx14 HX.out
     go_wp2_with ((with_reducible refine storeRG (w.heap.size + 1) _ #[.int .i64 g.num, .int .i64 g.rev, .int .i64 g.mode, .int .i64 sz, t0, t1, t2, t3, t4, t5, t6, t7, .int .i64 m.live, .int .i64 m.garb] ?_ ?_ HZ.out rfl rfl ON.out ?_); exact rfl; exact rfl)
     refine bodyPost_ret (results_rt (S := 46) rfl _ _ (w.heap.size + 1) #[.int .i64 g.num, .int .i64 g.rev, .int .i64 g.mode, .int .i64 sz, t0, t1, t2, t3, t4, t5, t6, t7, .int .i64 m.live, .int .i64 m.garb] rfl (setRow_heap _ _ _ _ _ _ HZ.out) Tryz.underlying46 rfl infoRG14) rfl ?_
     exact ⟨⟨_, _, rfl, by unfold J64; decide, ⟨g.num, g.rev, g.mode, sz, m⟩, ⟨t0, t1, t2, t3, t4, t5, t6, t7, rfl, ms_setRowF HMS.out HZ.out zeroG_u64, HJ.out.1, HJ.out.2.1, HJ.out.2.2.1, HJS.out⟩, HFL.out⟩, below_setRowM HB.out (Nat.le_succ _) _⟩
    have d1 : decide ((i : Int) < (n : Int)) = true := decide_eq_true (by omega)
    have d2 : decide (i < n) = true := decide_eq_true hlt
    obtain ⟨b, off, rfl, NN⟩ := nl_at (nl_below HKL.out HB.out) hlt
    obtain ⟨key, ck, del, da, dn, dc, hk1, hk2, hdn, k0, k1, k2, k3⟩ := NN
    have HJD := Lh (show J64 (dn : Int) by unfold J64; unfold maxLen at hdn; omega)
    have p0 : (0 : Int) ≤ (i : Int) := by omega
    have p1 : (i : Int) < (n : Int) := by omega
    have HI := Lh hlt
    have hz := heap_alloc_new wl2 (.cells #[.int .u64 0, .int .u32 0, .bool false, .slice none 0 0] 119)
    have HOK := Lh (And.intro hk1 hk2)
    clear hk1 hk2 hdn hlt hi
    go_upto_region 18 with ((with_reducible refine storeN wl2.heap.size _ #[.int .u64 (key : Int), .int .u32 (ck : Int), .bool del, .slice da dn dc] ?_ ?_ hz rfl rfl (nv_one key ck del da dn dc) ?_); exact rfl; exact rfl)
    rw [World.setRow_alloc_new]
    clear k0 k1 k2 k3 p0 p1 d1 d2 hz
    have hb := bel_al wl2 (.cells #[.int .u64 (key : Int), .int .u32 (ck : Int), .bool del, .slice da dn dc] 119)
    have HNX := Lh (heap_alloc_new wl2 (.cells #[.int .u64 (key : Int), .int .u32 (ck : Int), .bool del, .slice da dn dc] 119))
    have HXa := Lh ((hb.block _ (lt_of_some HX.out)).trans HX.out)
    have HZa := Lh ((hb.block _ (lt_of_some HZ.out)).trans HZ.out)
    have MSa := Lh (ms_below HMS.out hb)
    have Ba := Lh (HB.out.trans (hb.mono HB.out.size))
    have HUF := Lh (msG_u64 HMS.out g.num g.rev g.mode sz m.live m.garb)
    have HF8 := Lh HMS.out.1
    clear hb HX HZ HMS HB
    generalize wl2.alloc (.cells #[.int .u64 (key : Int), .int .u32 (ck : Int), .bool del, .slice da dn dc] 119) = wa at *
    generalize wl2.heap.size = gx at *
    obtain ⟨Z, hZ⟩ : ∃ Z, Z = szI6 dn := ⟨_, rfl⟩
    have HJZ := Lh (show J64 Z by rw [hZ]; exact szI6_j _)
    obtain ⟨E, hE⟩ : ∃ E, wrap64 (sz + Z) = E := ⟨_, rfl⟩
    have HE := Lh hE
    have HJE := Lh (show J64 E by rw [← hE]; exact w64_j _)
    have HZZ := Lh hZ
    clear hE hZ
    obtain ⟨⟨y0, y1, y2, y3⟩, -⟩ := bx4 HNX.out
    go_wp2_with fail
    refine (rsize6_any dn wa HJD.out).mono ?_
    rintro e _ ⟨rfl, rfl⟩
    rw [← HZZ.out]
    obtain ⟨x0, x1, x2, x3, x4, x5, x6, x7, x8, x9, x10, x11, x12, x13⟩ := bx14 HXa.out
    cases del
    ·go_wp2_with fail
     refine (rput11_any (.agg #[t0, t1, t2, t3, t4, t5, t6, t7, .int .i64 m.live, .int .i64 m.garb]) m ⟨key, ck, sz, (dn : Int)⟩ wa ⟨t0, t1, t2, t3, t4, t5, t6, t7, rfl, MSa.out⟩ (few_of HF8.out (Nat.le_trans HFL.out (by have := HNN.out; have := HI.out; omega))) (Nat.le_trans HFL.out (by have := HNN.out; have := HI.out; omega)) ⟨HOK.out.1, HOK.out.2, HJS.out, HJD.out⟩).mono ?_
     rintro e V ⟨⟨v2, rfl, hv⟩, hb⟩
     have HXv := Lh ((hb.block _ (lt_of_some HXa.out)).trans HXa.out)
     have HZv := Lh ((hb.block _ (lt_of_some HZa.out)).trans HZa.out)
     have Bv := Lh (Ba.out.trans (hb.mono Ba.out.size))
     clear y0 y1 y2 y3 hb HXa HZa Ba
     clear x0 x1 x2 x3 x4 x5 x6 x7 x8 x9 x10 x11 x12 x13
     obtain ⟨v0, v1, v2, v3, v4, v5, v6, v7, rfl, hms⟩ := hv
     have ON := Lh (ms_one hms (putM m ⟨key, ck, sz, (dn : Int)⟩).live (putM m ⟨key, ck, sz, (dn : Int)⟩).garb)
     have hw9 : V.setCells w.heap.size 4 (#[v0, v1, v2, v3, v4, v5, v6, v7, .int .i64 (putM m ⟨key, ck, sz, (dn : Int)⟩).live, .int .i64 (putM m ⟨key, ck, sz, (dn : Int)⟩).garb] : Array Value).toList = V.setRow w.heap.size #[.int .i64 g.num, .int .i64 g.rev, .int .i64 g.mode, .int .i64 sz, v0, v1, v2, v3, v4, v5, v6, v7, .int .i64 (putM m ⟨key, ck, sz, (dn : Int)⟩).live, .int .i64 (putM m ⟨key, ck, sz, (dn : Int)⟩).garb] := setMap HXv.out
     have UF := Lh HUF.out
     have MS2 := Lh (ms_setRowF hms HXv.out UF.out (cs := #[.int .i64 g.num, .int .i64 g.rev, .int .i64 g.mode, .int .i64 sz, v0, v1, v2, v3, v4, v5, v6, v7, .int .i64 (putM m ⟨key, ck, sz, (dn : Int)⟩).live, .int .i64 (putM m ⟨key, ck, sz, (dn : Int)⟩).garb]))
     have HX2 := Lh (setRow_heap V w.heap.size _ #[.int .i64 g.num, .int .i64 g.rev, .int .i64 g.mode, .int .i64 sz, v0, v1, v2, v3, v4, v5, v6, v7, .int .i64 (putM m ⟨key, ck, sz, (dn : Int)⟩).live, .int .i64 (putM m ⟨key, ck, sz, (dn : Int)⟩).garb] _ _ HXv.out)
     have HZ2 := Lh ((setRow_other V w.heap.size (w.heap.size + 1) #[.int .i64 g.num, .int .i64 g.rev, .int .i64 g.mode, .int .i64 sz, v0, v1, v2, v3, v4, v5, v6, v7, .int .i64 (putM m ⟨key, ck, sz, (dn : Int)⟩).live, .int .i64 (putM m ⟨key, ck, sz, (dn : Int)⟩).garb] (by omega)).trans HZv.out)
     have B2 := Lh (below_setRowM Bv.out (Nat.le_refl _) #[.int .i64 g.num, .int .i64 g.rev, .int .i64 g.mode, .int .i64 sz, v0, v1, v2, v3, v4, v5, v6, v7, .int .i64 (putM m ⟨key, ck, sz, (dn : Int)⟩).live, .int .i64 (putM m ⟨key, ck, sz, (dn : Int)⟩).garb])
     have HFX := Lh (fl_put HFL.out ⟨key, ck, sz, (dn : Int)⟩)
     clear hms
     go_upto_region 22 with ((with_reducible refine storeRM w.heap.size _ #[v0, v1, v2, v3, v4, v5, v6, v7, .int .i64 (putM m ⟨key, ck, sz, (dn : Int)⟩).live, .int .i64 (putM m ⟨key, ck, sz, (dn : Int)⟩).garb] ?_ ?_ HXv.out rfl rfl ON.out hw9 ?_); exact rfl; exact rfl)
     clear hw9 HXv HZv Bv UF HUF ON
     generalize V.setRow w.heap.size #[.int .i64 g.num, .int .i64 g.rev, .int .i64 g.mode, .int .i64 sz, v0, v1, v2, v3, v4, v5, v6, v7, .int .i64 (putM m ⟨key, ck, sz, (dn : Int)⟩).live, .int .i64 (putM m ⟨key, ck, sz, (dn : Int)⟩).garb] = W5 at *
     generalize putM m ⟨key, ck, sz, (dn : Int)⟩ = m5 at *
     have f3 := frozen_of_row W5 w.heap.size 3 _ _ HX2.out
     have e6 : wrap64 (sz + Z) = E := HE.out
     obtain ⟨x0, x1, x2, x3, x4, x5, x6, x7, x8, x9, x10, x11, x12, x13⟩ := bx14 HX2.out
     go_upto_region 16 with fail
     clear x0 x1 x2 x3 x4 x5 x6 x7 x8 x9 x10 x11 x12 x13
     clear f3 e6
     rw [setCell_eq_setRow _ _ _ _ _ _ _ HX2.out]
     show Code.wp _ _ _ _ (W5.setRow w.heap.size #[.int .i64 g.num, .int .i64 g.rev, .int .i64 g.mode, .int .i64 E, v0, v1, v2, v3, v4, v5, v6, v7, .int .i64 m5.live, .int .i64 m5.garb])
     have HX6 := Lh (setRow_heap W5 w.heap.size _ #[.int .i64 g.num, .int .i64 g.rev, .int .i64 g.mode, .int .i64 E, v0, v1, v2, v3, v4, v5, v6, v7, .int .i64 m5.live, .int .i64 m5.garb] _ _ HX2.out)
     have HZ6 := Lh ((setRow_other W5 w.heap.size (w.heap.size + 1) #[.int .i64 g.num, .int .i64 g.rev, .int .i64 g.mode, .int .i64 E, v0, v1, v2, v3, v4, v5, v6, v7, .int .i64 m5.live, .int .i64 m5.garb] (by omega)).trans HZ2.out)
     have B6 := Lh (below_setRowM B2.out (Nat.le_refl _) #[.int .i64 g.num, .int .i64 g.rev, .int .i64 g.mode, .int .i64 E, v0, v1, v2, v3, v4, v5, v6, v7, .int .i64 m5.live, .int .i64 m5.garb])
     have MS6 := Lh (ms_setRowF MS2.out HX2.out (msG_u64 MS2.out g.num g.rev g.mode sz m5.live m5.garb) (cs := #[.int .i64 g.num, .int .i64 g.rev, .int .i64 g.mode, .int .i64 E, v0, v1, v2, v3, v4, v5, v6, v7, .int .i64 m5.live, .int .i64 m5.garb]))
     generalize W5.setRow w.heap.size #[.int .i64 g.num, .int .i64 g.rev, .int .i64 g.mode, .int .i64 E, v0, v1, v2, v3, v4, v5, v6, v7, .int .i64 m5.live, .int .i64 m5.garb] = W6 at *
     have hw := w64s8 i (by have := HNK.out; have := HI.out; omega)
     go_wp2_with fail
     go_roundw
     case rel => exact ⟨i + 1, HI.out, by go_num, m5, E, v0, v1, v2, v3, v4, v5, v6, v7, HX6.out, HZ6.out, MS6.out, HJE.out, by have := HFX.out; omega, B6.out⟩
     case measure => exact meas8 n i HI.out (by have := HNK.out; omega)
    ·go_wp2_with fail
     refine (rdelete11_any (.agg #[t0, t1, t2, t3, t4, t5, t6, t7, .int .i64 m.live, .int .i64 m.garb]) m key wa ⟨t0, t1, t2, t3, t4, t5, t6, t7, rfl, MSa.out⟩ (few_of HF8.out (Nat.le_trans HFL.out (by have := HNN.out; have := HI.out; omega))) (Nat.le_trans HFL.out (by have := HNN.out; have := HI.out; omega))).mono ?_
     rintro e V1 ⟨⟨v1, rfl, hv1⟩, hb1⟩
     clear y0 y1 y2 y3
     clear x0 x1 x2 x3 x4 x5 x6 x7 x8 x9 x10 x11 x12 x13
     go_wp2_with fail
     refine (rwaste_any v1 (delM m key) Z V1 hv1 (few_of (mv_len hv1) (Nat.le_trans (fl_del HFL.out key) (by have := HNN.out; have := HI.out; omega))) HJZ.out).mono ?_
     rintro e V ⟨⟨v2, rfl, hv⟩, hb2⟩
     have hb := hb1.trans (hb2.mono hb1.size)
     have HXv := Lh ((hb.block _ (lt_of_some HXa.out)).trans HXa.out)
     have HZv := Lh ((hb.block _ (lt_of_some HZa.out)).trans HZa.out)
     have Bv := Lh (Ba.out.trans (hb.mono Ba.out.size))
     have HUF := Lh HUF.out
     clear hb hb1 hb2 HXa HZa Ba hv1
     obtain ⟨v0, v1, v2, v3, v4, v5, v6, v7, rfl, hms⟩ := hv
     have ON := Lh (ms_one hms (wasteM (delM m key) Z).live (wasteM (delM m key) Z).garb)
     have hw9 : V.setCells w.heap.size 4 (#[v0, v1, v2, v3, v4, v5, v6, v7, .int .i64 (wasteM (delM m key) Z).live, .int .i64 (wasteM (delM m key) Z).garb] : Array Value).toList = V.setRow w.heap.size #[.int .i64 g.num, .int .i64 g.rev, .int .i64 g.mode, .int .i64 sz, v0, v1, v2, v3, v4, v5, v6, v7, .int .i64 (wasteM (delM m key) Z).live, .int .i64 (wasteM (delM m key) Z).garb] := setMap HXv.out
     have UF := Lh HUF.out
     have MS2 := Lh (ms_setRowF hms HXv.out UF.out (cs := #[.int .i64 g.num, .int .i64 g.rev, .int .i64 g.mode, .int .i64 sz, v0, v1, v2, v3, v4, v5, v6, v7, .int .i64 (wasteM (delM m key) Z).live, .int .i64 (wasteM (delM m key) Z).garb]))
     have HX2 := Lh (setRow_heap V w.heap.size _ #[.int .i64 g.num, .int .i64 g.rev, .int .i64 g.mode, .int .i64 sz, v0, v1, v2, v3, v4, v5, v6, v7, .int .i64 (wasteM (delM m key) Z).live, .int .i64 (wasteM (delM m key) Z).garb] _ _ HXv.out)
     have HZ2 := Lh ((setRow_other V w.heap.size (w.heap.size + 1) #[.int .i64 g.num, .int .i64 g.rev, .int .i64 g.mode, .int .i64 sz, v0, v1, v2, v3, v4, v5, v6, v7, .int .i64 (wasteM (delM m key) Z).live, .int .i64 (wasteM (delM m key) Z).garb] (by omega)).trans HZv.out)
     have B2 := Lh (below_setRowM Bv.out (Nat.le_refl _) #[.int .i64 g.num, .int .i64 g.rev, .int .i64 g.mode, .int .i64 sz, v0, v1, v2, v3, v4, v5, v6, v7, .int .i64 (wasteM (delM m key) Z).live, .int .i64 (wasteM (delM m key) Z).garb])
     have HFX := Lh (fl_waste (fl_del HFL.out key) Z)
     clear hms
     go_upto_region 22 with ((with_reducible refine storeRM w.heap.size _ #[v0, v1, v2, v3, v4, v5, v6, v7, .int .i64 (wasteM (delM m key) Z).live, .int .i64 (wasteM (delM m key) Z).garb] ?_ ?_ HXv.out rfl rfl ON.out hw9 ?_); exact rfl; exact rfl)
     clear hw9 HXv HZv Bv UF HUF ON
     generalize V.setRow w.heap.size #[.int .i64 g.num, .int .i64 g.rev, .int .i64 g.mode, .int .i64 sz, v0, v1, v2, v3, v4, v5, v6, v7, .int .i64 (wasteM (delM m key) Z).live, .int .i64 (wasteM (delM m key) Z).garb] = W5 at *
     generalize wasteM (delM m key) Z = m5 at *
     have f3 := frozen_of_row W5 w.heap.size 3 _ _ HX2.out
     have e6 : wrap64 (sz + Z) = E := HE.out
     obtain ⟨x0, x1, x2, x3, x4, x5, x6, x7, x8, x9, x10, x11, x12, x13⟩ := bx14 HX2.out
     go_upto_region 16 with fail
     clear x0 x1 x2 x3 x4 x5 x6 x7 x8 x9 x10 x11 x12 x13
     clear f3 e6
     rw [setCell_eq_setRow _ _ _ _ _ _ _ HX2.out]
     show Code.wp _ _ _ _ (W5.setRow w.heap.size #[.int .i64 g.num, .int .i64 g.rev, .int .i64 g.mode, .int .i64 E, v0, v1, v2, v3, v4, v5, v6, v7, .int .i64 m5.live, .int .i64 m5.garb])
     have HX6 := Lh (setRow_heap W5 w.heap.size _ #[.int .i64 g.num, .int .i64 g.rev, .int .i64 g.mode, .int .i64 E, v0, v1, v2, v3, v4, v5, v6, v7, .int .i64 m5.live, .int .i64 m5.garb] _ _ HX2.out)
     have HZ6 := Lh ((setRow_other W5 w.heap.size (w.heap.size + 1) #[.int .i64 g.num, .int .i64 g.rev, .int .i64 g.mode, .int .i64 E, v0, v1, v2, v3, v4, v5, v6, v7, .int .i64 m5.live, .int .i64 m5.garb] (by omega)).trans HZ2.out)
     have B6 := Lh (below_setRowM B2.out (Nat.le_refl _) #[.int .i64 g.num, .int .i64 g.rev, .int .i64 g.mode, .int .i64 E, v0, v1, v2, v3, v4, v5, v6, v7, .int .i64 m5.live, .int .i64 m5.garb])
     have MS6 := Lh (ms_setRowF MS2.out HX2.out (msG_u64 MS2.out g.num g.rev g.mode sz m5.live m5.garb) (cs := #[.int .i64 g.num, .int .i64 g.rev, .int .i64 g.mode, .int .i64 E, v0, v1, v2, v3, v4, v5, v6, v7, .int .i64 m5.live, .int .i64 m5.garb]))
     generalize W5.setRow w.heap.size #[.int .i64 g.num, .int .i64 g.rev, .int .i64 g.mode, .int .i64 E, v0, v1, v2, v3, v4, v5, v6, v7, .int .i64 m5.live, .int .i64 m5.garb] = W6 at *
     have hw := w64s8 i (by have := HNK.out; have := HI.out; omega)
     go_wp2_with fail
     go_roundw
     case rel => exact ⟨i + 1, HI.out, by go_num, m5, E, v0, v1, v2, v3, v4, v5, v6, v7, HX6.out, HZ6.out, MS6.out, HJE.out, by have := HFX.out; omega, B6.out⟩
     case measure => exact meas8 n i HI.out (by have := HNK.out; omega)
  have d1 : decide ((i : Int) < (n : Int)) = true := decide_eq_true (by omega)
  have d2 : decide (i < n) = true := decide_eq_true hlt
  obtain ⟨b, off, rfl, NN⟩ := nl_at (nl_below HKL.out B2.out) hlt
  obtain ⟨key, ck, del, da, dn, dc, hk1, hk2, hdn, k0, k1, k2, k3⟩ := NN
  have HJD := Lh (show J64 (dn : Int) by unfold J64; unfold maxLen at hdn; omega)
  have p0 : (0 : Int) ≤ (i : Int) := by omega
  have p1 : (i : Int) < (n : Int) := by omega
  have HI := Lh hlt
  have HK3 := Lh k3
  clear hk1 hk2 hdn hlt hi
  go_wp2_with fail
  clear k0 k1 k2 k3
  refine (rnvalid_some key ck del da dn dc wl).mono ?_
  rintro e wy ⟨rfl, hb⟩
  have k3 := (hb.cell (p := ⟨b, off + i * 4 + 3, none⟩) (block_lt_of_cell HK3.out)).trans HK3.out
  have HZ3 := Lh ((hb.block _ (lt_of_some HZ2.out)).trans HZ2.out)
  have B3 := Lh (B2.out.trans (hb.mono B2.out.size))
  have HB3 := Lh (HB.out.trans (hb.mono HB.out.size))
  clear hb
  generalize (decide (dn ≤ 4096) && !(del && decide (0 < dn))) = okk at *
  cases okk
  ·go_wp2_with ((with_reducible refine storeRG (w.heap.size + 1) _ #[.int .i64 0, .int .i64 0, .int .i64 0, .int .i64 0, .slice none 0 0, .slice none 0 0, .slice none 0 0, .slice none 0 0, .slice none 0 0, .slice none 0 0, .slice none 0 0, .slice none 0 0, .int .i64 0, .int .i64 0] ?_ ?_ HZ3.out rfl rfl zg_one ?_); exact rfl; exact rfl)
   refine bodyPost_ret (results_rt (S := 46) rfl _ _ (w.heap.size + 1) #[.int .i64 0, .int .i64 0, .int .i64 0, .int .i64 0, .slice none 0 0, .slice none 0 0, .slice none 0 0, .slice none 0 0, .slice none 0 0, .slice none 0 0, .slice none 0 0, .slice none 0 0, .int .i64 0, .int .i64 0] rfl (setRow_heap _ _ _ _ _ _ HZ3.out) Tryz.underlying46 rfl infoRG14) rfl ?_
   exact ⟨⟨_, _, rfl, by unfold J64; decide, g0, g0_v _, g0_fl _⟩, below_setRowM B3.out (Nat.le_succ _) _⟩
  go_wp2_with fail
  refine (rsize6_any dn wy HJD.out).mono ?_
  rintro e _ ⟨rfl, rfl⟩
  have hw := w64s8 i (by have := HNK.out; have := HI.out; omega)
  go_wp2_with fail
  go_roundw
  case rel => exact ⟨i + 1, HI.out, by go_num, ⟨_, rfl⟩, HB3.out⟩
  case measure => exact meas8 n i HI.out (by have := HNK.out; omega)
end Go.Proofs.YtgbnclepgjcakaaGreat.Gf
