/- What is proved here: slot (program): Route; checked, New, look, Fits of a slot of one generation without items. -/
import Derived.Test.YtempgcnpfjhacaaG13d
namespace Go.Proofs.Ytempgcnpfjhacaa.Gf
open Go Go.Joins Go.ChangeShapes Go.WideShapes Go.ChangeAt Go.RowKit Go.Deep Go.Proofs.Ytempgcnpfjhacaa.By Go.Proofs.Ytempgcnpfjhacaa.Qt

theorem u64_xor_nat (a b : Nat) (ha : a < 18446744073709551616) (hb : b < 18446744073709551616) : bits .xor .u64 (a : Int) (b : Int) = ((a ^^^ b : Nat) : Int) := by
  have e1 : (BitVec.ofInt 64 (a : Int)).toNat = a := by rw [BitVec.toNat_ofInt]; omega
  have e2 : (BitVec.ofInt 64 (b : Int)).toNat = b := by rw [BitVec.toNat_ofInt]; omega
  have e3 : (BitVec.ofInt 64 (a : Int) ^^^ BitVec.ofInt 64 (b : Int)).toNat = a ^^^ b := by rw [BitVec.toNat_xor, e1, e2]
  have hx : a ^^^ b < 2 ^ 64 := Nat.xor_lt_two_pow (by simpa using ha) (by simpa using hb)
  show IntKind.u64.wrap ((BitVec.ofInt 64 (a : Int) ^^^ BitVec.ofInt 64 (b : Int)).toNat : Int) = _
  rw [e3]
  generalize a ^^^ b = z at *
  show (z : Int) % 18446744073709551616 = _
  omega
theorem sv_one (gb : Nat) : (#[.int .i64 0, .int .i64 9000, .bool false, .slice (some ⟨gb, 0, none⟩) 1 1] : Array Value).all (·.oneCell') = true := by simp [show (Value.int .i64 0).oneCell' = true from rfl, show (Value.int .i64 9000).oneCell' = true from rfl, show (Value.bool false).oneCell' = true from rfl, show (Value.slice (some ⟨gb, 0, none⟩) 1 1).oneCell' = true from rfl]
theorem zh_one : (#[.int .i64 0, .int .i64 0, .int .i64 0, .int .u64 0, .int .u32 0, .int .i64 0, .int .i64 0, .bool false] : Array Value).all (·.oneCell') = true := by kernel_rfl
theorem u64_nat (z : Nat) (h : z < 18446744073709551616) : IntKind.u64.wrap (z : Int) = (z : Int) := by show (z : Int) % 18446744073709551616 = _; omega
theorem u32_nat (z : Nat) : IntKind.u32.wrap (z : Int) = ((z % 4294967296 : Nat) : Int) := by show (z : Int) % 4294967296 = _; omega
theorem tmod_nat (x n : Nat) : Int.tmod (x : Int) (n : Int) = ((x % n : Nat) : Int) := by rw [Int.tmod_eq_emod_of_nonneg (by omega)]; exact (Int.natCast_emod x n).symm
theorem run_fieldSize (c0 c1 c2 z : Value) (b0 b1 b2 b3 b4 b5 b6 b7 b8 b9 : Value) (w : World) : (Instr.field 46 (.agg #[c0, c1, c2, z, b0, b1, b2, b3, b4, b5, b6, b7, b8, b9]) 3).run Try.prog w = .ok z w := by
  simp [Instr.field, run_underlying Try.underlying46, asAgg, part, isAgg, run_underlying Try.underlying2]
/-- The slot of a key. -/
def rtN (key n : Nat) : Nat := ((key % 4294967296) ^^^ (key / 4294967296)) % n
set_option maxRecDepth 100000 in
theorem proute_any (key n : Nat) (hk : key < 18446744073709551616) (h1 : 1 ≤ n) (h2 : n ≤ 1000) (w : World) : Calls Try.prog 4 #[.int .u64 (key : Int), .int .i64 (n : Int)] w fun e w' => e = .returned (.int .i64 ((rtN key n : Nat) : Int)) ∧ w = w' := by
  have e1 := u32_nat key
  have e2 : (key : Int) / 4294967296 = ((key / 4294967296 : Nat) : Int) := by omega
  have hr : rtN key n = ((key % 4294967296) ^^^ (key / 4294967296)) % n := rfl
  have ha : key % 4294967296 < 18446744073709551616 := by omega
  have hb : key / 4294967296 < 18446744073709551616 := by omega
  generalize key % 4294967296 = a at *
  generalize key / 4294967296 = b at *
  have e3 := u64_nat a ha
  have e4 := u64_xor_nat a b ha hb
  have hx : a ^^^ b < 18446744073709551616 := Nat.xor_lt_two_pow (n := 64) ha hb
  generalize a ^^^ b = x at *
  have e5 := u64_nat n (by omega)
  have e6 := tmod_nat x n
  have hrn : x % n < n := Nat.mod_lt _ (by omega)
  have e7 : (x : Int) % (n : Int) = ((x % n : Nat) : Int) := (Int.natCast_emod x n).symm
  generalize x % n = r at *
  have HR := Lib.hid hr
  have HW := Lib.hid (show wrap64 (r : Int) = (r : Int) by unfold wrap64; omega)
  have e9 : ((n : Int) == 0) = false := by rw [beq_eq_false_iff_ne]; omega
  have l1 : decide ((n : Int) < 1) = false := decide_eq_false (by omega)
  have l2 : decide (n < 1) = false := decide_eq_false (by omega)
  have n0 : ¬ n = 0 := by omega
  have n1 : ¬ ((n : Int) = 0) := by omega
  clear hr hrn hx ha hb hk h1 h2
  go_enter Try.func4, Try.ntmps4
  go_wp2
  rw [HW.out]
  go_ret
  exact ⟨by rw [HR.out]; rfl, rfl⟩
set_option maxRecDepth 100000 in
set_option maxHeartbeats 12800000 in
theorem pchecked_1 (gb : Nat) (s0 s1 s2 s3 s4 s5 s6 s7 : Value) (w : World) (HB : w.heap[gb]? = some (.cells #[.int .i64 1, .int .i64 0, .int .i64 1, .int .i64 16, s0, s1, s2, s3, s4, s5, s6, s7, .int .i64 0, .int .i64 0] 46 (0, 0))) (MS : Ms w [s0, s1, s2, s3, s4, s5, s6, s7] mp0) : Calls Try.prog 10 #[.agg #[.int .i64 0, .int .i64 9000, .bool false, .slice (some ⟨gb, 0, none⟩) 1 1]] w fun e w' => e = .returned (.tuple #[.agg #[.int .i64 0, .int .i64 9000, .bool false, .slice (some ⟨gb, 0, none⟩) 1 1], .int .i64 0]) ∧ Below w.heap.size w w' := by
  have hb := bel_al w (.cells #[.int .i64 0, .int .i64 9000, .bool false, .slice (some ⟨gb, 0, none⟩) 1 1] 30)
  have hb2 := bel_al (w.alloc (.cells #[.int .i64 0, .int .i64 9000, .bool false, .slice (some ⟨gb, 0, none⟩) 1 1] 30)) (.cells #[.int .i64 0, .int .i64 0, .bool false, .slice none 0 0] 30)
  have HS := Lib.hid (show ((w.alloc (.cells #[.int .i64 0, .int .i64 9000, .bool false, .slice (some ⟨gb, 0, none⟩) 1 1] 30)).alloc (.cells #[.int .i64 0, .int .i64 0, .bool false, .slice none 0 0] 30)).heap[w.heap.size]? = some (.cells #[.int .i64 0, .int .i64 9000, .bool false, .slice (some ⟨gb, 0, none⟩) 1 1] 30 (0, 0)) from (hb2.block _ (lt_of_some (heap_alloc_new w _))).trans (heap_alloc_new w _))
  have HZ := Lib.hid (show ((w.alloc (.cells #[.int .i64 0, .int .i64 9000, .bool false, .slice (some ⟨gb, 0, none⟩) 1 1] 30)).alloc (.cells #[.int .i64 0, .int .i64 0, .bool false, .slice none 0 0] 30)).heap[w.heap.size + 1]? = some (.cells #[.int .i64 0, .int .i64 0, .bool false, .slice none 0 0] 30 (0, 0)) from by have h := heap_alloc_new (w.alloc (.cells #[.int .i64 0, .int .i64 9000, .bool false, .slice (some ⟨gb, 0, none⟩) 1 1] 30)) (.cells #[.int .i64 0, .int .i64 0, .bool false, .slice none 0 0] 30); simpa using h)
  have B0 := Lib.hid (hb.trans (hb2.mono hb.size))
  have HB0 := Lib.hid ((B0.out.block _ (lt_of_some HB)).trans HB)
  have MS0 := Lib.hid (ms_below MS B0.out)
  clear hb hb2 HB MS
  go_enter Try.func10, Try.ntmps10
  go_upto_region 1 with fail
  generalize (w.alloc (.cells #[.int .i64 0, .int .i64 9000, .bool false, .slice (some ⟨gb, 0, none⟩) 1 1] 30)).alloc (.cells #[.int .i64 0, .int .i64 0, .bool false, .slice none 0 0] 30) = W0 at *
  obtain ⟨⟨y0, y1, y2, y3⟩, -⟩ := bx4 HS.out
  go_wp2_with fail
  clear y0 y1 y2 y3
  refine (psvalid_1 gb s0 s1 s2 s3 s4 s5 s6 s7 W0 HB0.out MS0.out).mono ?_
  rintro e W1 ⟨rfl, hb⟩
  have HS1 := Lib.hid ((hb.block _ (lt_of_some HS.out)).trans HS.out)
  have HZ1 := Lib.hid ((hb.block _ (lt_of_some HZ.out)).trans HZ.out)
  have B1 := Lib.hid (B0.out.trans (hb.mono B0.out.size))
  clear hb HS HZ B0 HB0 MS0
  obtain ⟨⟨y0, y1, y2, y3⟩, -⟩ := bx4 HS1.out
  go_wp2_with ((with_reducible refine storeS (w.heap.size + 1) _ #[.int .i64 0, .int .i64 9000, .bool false, .slice (some ⟨gb, 0, none⟩) 1 1] ?_ ?_ HZ1.out rfl rfl (sv_one gb) ?_); exact rfl; exact rfl)
  refine bodyPost_ret (results_rt (S := 30) rfl _ _ (w.heap.size + 1) #[.int .i64 0, .int .i64 9000, .bool false, .slice (some ⟨gb, 0, none⟩) 1 1] rfl (setRow_heap _ _ _ _ _ _ HZ1.out) Try.underlying30 rfl infoS4) rfl ?_
  exact ⟨rfl, below_setRowM B1.out (Nat.le_succ _) _⟩
/-- A slot of one fresh generation, as an answer. -/
def SlO (w : World) (e : Ending) (w' : World) : Prop := (∃ gb s0 s1 s2 s3 s4 s5 s6 s7, e = .returned (.tuple #[.agg #[.int .i64 0, .int .i64 9000, .bool false, .slice (some ⟨gb, 0, none⟩) 1 1], .int .i64 0]) ∧ w'.heap[gb]? = some (.cells #[.int .i64 1, .int .i64 0, .int .i64 1, .int .i64 16, s0, s1, s2, s3, s4, s5, s6, s7, .int .i64 0, .int .i64 0] 46 (0, 0)) ∧ Ms w' [s0, s1, s2, s3, s4, s5, s6, s7] mp0) ∧ Below w.heap.size w w'
set_option maxRecDepth 100000 in
set_option maxHeartbeats 12800000 in
theorem psnew_1 (w : World) : Calls Try.prog 6 #[.int .i64 0, .int .i64 9000] w (SlO w) := by
  have B0 := Lib.hid (bel_al w (.cells #[.int .i64 0, .int .i64 0, .bool false, .slice none 0 0] 30))
  have HZ := Lib.hid (heap_alloc_new w (.cells #[.int .i64 0, .int .i64 0, .bool false, .slice none 0 0] 30))
  go_enter Try.func6, Try.ntmps6
  go_upto_region 1 with fail
  generalize w.alloc (.cells #[.int .i64 0, .int .i64 0, .bool false, .slice none 0 0] 30) = W0 at *
  go_wp2_with fail
  refine (pfresh_1 W0).mono ?_
  rintro e W1 ⟨⟨v1, rfl, hv1⟩, hb⟩
  obtain ⟨s0, s1, s2, s3, s4, s5, s6, s7, rfl, hms⟩ := hv1
  have ON := Lib.hid (fr_one hms)
  have hz := heap_alloc_new W1 (.cells #[.int .i64 0, .int .i64 0, .int .i64 0, .int .i64 0, .slice none 0 0, .slice none 0 0, .slice none 0 0, .slice none 0 0, .slice none 0 0, .slice none 0 0, .slice none 0 0, .slice none 0 0, .int .i64 0, .int .i64 0] 46)
  go_upto_region 2 with ((with_reducible refine storeG W1.heap.size _ #[.int .i64 1, .int .i64 0, .int .i64 1, .int .i64 16, s0, s1, s2, s3, s4, s5, s6, s7, .int .i64 0, .int .i64 0] ?_ ?_ hz rfl rfl ON.out ?_); exact rfl; exact rfl)
  rw [World.setRow_alloc_new]
  have hb2 := bel_al W1 (.cells #[.int .i64 1, .int .i64 0, .int .i64 1, .int .i64 16, s0, s1, s2, s3, s4, s5, s6, s7, .int .i64 0, .int .i64 0] 46)
  have hb3 := hb.trans (hb2.mono hb.size)
  have HX2 := Lib.hid (heap_alloc_new W1 (.cells #[.int .i64 1, .int .i64 0, .int .i64 1, .int .i64 16, s0, s1, s2, s3, s4, s5, s6, s7, .int .i64 0, .int .i64 0] 46))
  have HZ2 := Lib.hid ((hb3.block _ (lt_of_some HZ.out)).trans HZ.out)
  have MS2 := Lib.hid (ms_below hms hb2)
  have B2 := Lib.hid (B0.out.trans (hb3.mono B0.out.size))
  clear hb hb2 hb3 hz hms HZ B0
  generalize W1.alloc (.cells #[.int .i64 1, .int .i64 0, .int .i64 1, .int .i64 16, s0, s1, s2, s3, s4, s5, s6, s7, .int .i64 0, .int .i64 0] 46) = W2 at *
  generalize W1.heap.size = g1 at *
  obtain ⟨x0, x1, x2, x3, x4, x5, x6, x7, x8, x9, x10, x11, x12, x13⟩ := bx14 HX2.out
  have hb := bel_al W2 (.cells #[.int .i64 1, .int .i64 0, .int .i64 1, .int .i64 16, s0, s1, s2, s3, s4, s5, s6, s7, .int .i64 0, .int .i64 0] 46)
  have HB3 := Lib.hid (heap_alloc_new W2 (.cells #[.int .i64 1, .int .i64 0, .int .i64 1, .int .i64 16, s0, s1, s2, s3, s4, s5, s6, s7, .int .i64 0, .int .i64 0] 46))
  have HZ3 := Lib.hid ((hb.block _ (lt_of_some HZ2.out)).trans HZ2.out)
  have MS3 := Lib.hid (ms_below MS2.out hb)
  have B3 := Lib.hid (B2.out.trans (hb.mono B2.out.size))
  clear hb HZ2 MS2 B2
  go_wp2_with fail
  clear x0 x1 x2 x3 x4 x5 x6 x7 x8 x9 x10 x11 x12 x13
  generalize W2.alloc (.cells #[.int .i64 1, .int .i64 0, .int .i64 1, .int .i64 16, s0, s1, s2, s3, s4, s5, s6, s7, .int .i64 0, .int .i64 0] 46) = W3 at *
  generalize W2.heap.size = gb at *
  refine (pchecked_1 gb s0 s1 s2 s3 s4 s5 s6 s7 W3 HB3.out MS3.out).mono ?_
  rintro e W4 ⟨rfl, hb⟩
  have HB4 := Lib.hid ((hb.block _ (lt_of_some HB3.out)).trans HB3.out)
  have HZ4 := Lib.hid ((hb.block _ (lt_of_some HZ3.out)).trans HZ3.out)
  have MS4 := Lib.hid (ms_below MS3.out hb)
  have B4 := Lib.hid (B3.out.trans (hb.mono B3.out.size))
  have NE := Lib.hid (show gb ≠ w.heap.size from fun e => by
    have h1 := HB4.out
    rw [e, HZ4.out] at h1
    cases h1)
  clear hb HB3 HZ3 MS3 B3
  go_wp2_with ((with_reducible refine storeS w.heap.size _ #[.int .i64 0, .int .i64 9000, .bool false, .slice (some ⟨gb, 0, none⟩) 1 1] ?_ ?_ HZ4.out rfl rfl (sv_one gb) ?_); exact rfl; exact rfl)
  refine bodyPost_ret (results_rt (S := 30) rfl _ _ w.heap.size #[.int .i64 0, .int .i64 9000, .bool false, .slice (some ⟨gb, 0, none⟩) 1 1] rfl (setRow_heap _ _ _ _ _ _ HZ4.out) Try.underlying30 rfl infoS4) rfl ?_
  exact ⟨⟨gb, s0, s1, s2, s3, s4, s5, s6, s7, rfl, (setRow_other _ _ _ _ NE.out).trans HB4.out, ms_setRowF MS4.out HZ4.out (fun k n h => by
    match k, h with
    | 0, h => simp at h
    | 1, h => simp at h
    | 2, h => simp at h
    | 3, h => simp at h
    | k + 4, h => simp at h)⟩, below_setRowM B4.out (Nat.le_refl _) _⟩
theorem infoH8 : (Try.prog.info? 55).map (·.size) = some 8 := by kernel_rfl
theorem storeH {ops : Array Oper} {rest : List Oper} {x y : Operand} {pos : String} {after : Array Edge} {ty : TypeId} {a : Act} {w : World} {Q : Exit → Act → World → Prop}
    (g : Nat) (old cs : Array Value) (hx : a.eval x = .pointer (some ⟨g, 0, none⟩)) (hy : a.eval y = .agg cs) (hg : w.heap[g]? = some (.cells old 55 (0, 0))) (ho : old.size = 8) (hs : cs.size = 8) (h1 : cs.all (·.oneCell') = true)
    (h : wpList Try.prog ops Q rest a (w.setRow g cs)) : wpList Try.prog ops Q (⟨none, .store 55 x y, ty, pos, after, none⟩ :: rest) a w :=
  wpList_store_row rfl 55 x y rfl g cs hx hy 55 old hg (by rw [infoH8, hs]) (by omega) h1 h
set_option maxRecDepth 100000 in
set_option maxHeartbeats 12800000 in
theorem plook_1 (s0 s1 s2 s3 s4 s5 s6 s7 : Value) (key : Nat) (w : World) (MS : Ms w [s0, s1, s2, s3, s4, s5, s6, s7] mp0) : Calls Try.prog 13 #[.agg #[.int .i64 1, .int .i64 0, .int .i64 1, .int .i64 16, s0, s1, s2, s3, s4, s5, s6, s7, .int .i64 0, .int .i64 0], .int .u64 (key : Int)] w fun e w' => e = .returned (.agg #[.int .i64 0, .int .i64 0, .int .i64 0, .int .u64 0, .int .u32 0, .int .i64 0, .int .i64 0, .bool false]) ∧ Below w.heap.size w w' := by
  have hb := bel_al w (.cells #[.int .i64 1, .int .i64 0, .int .i64 1, .int .i64 16, s0, s1, s2, s3, s4, s5, s6, s7, .int .i64 0, .int .i64 0] 46)
  have hb2 := bel_al (w.alloc (.cells #[.int .i64 1, .int .i64 0, .int .i64 1, .int .i64 16, s0, s1, s2, s3, s4, s5, s6, s7, .int .i64 0, .int .i64 0] 46)) (.cells #[.int .i64 0, .int .i64 0, .int .i64 0, .int .u64 0, .int .u32 0, .int .i64 0, .int .i64 0, .bool false] 55)
  have HX := Lib.hid (show ((w.alloc (.cells #[.int .i64 1, .int .i64 0, .int .i64 1, .int .i64 16, s0, s1, s2, s3, s4, s5, s6, s7, .int .i64 0, .int .i64 0] 46)).alloc (.cells #[.int .i64 0, .int .i64 0, .int .i64 0, .int .u64 0, .int .u32 0, .int .i64 0, .int .i64 0, .bool false] 55)).heap[w.heap.size]? = some (.cells #[.int .i64 1, .int .i64 0, .int .i64 1, .int .i64 16, s0, s1, s2, s3, s4, s5, s6, s7, .int .i64 0, .int .i64 0] 46 (0, 0)) from (hb2.block _ (lt_of_some (heap_alloc_new w _))).trans (heap_alloc_new w _))
  have HZ := Lib.hid (show ((w.alloc (.cells #[.int .i64 1, .int .i64 0, .int .i64 1, .int .i64 16, s0, s1, s2, s3, s4, s5, s6, s7, .int .i64 0, .int .i64 0] 46)).alloc (.cells #[.int .i64 0, .int .i64 0, .int .i64 0, .int .u64 0, .int .u32 0, .int .i64 0, .int .i64 0, .bool false] 55)).heap[w.heap.size + 1]? = some (.cells #[.int .i64 0, .int .i64 0, .int .i64 0, .int .u64 0, .int .u32 0, .int .i64 0, .int .i64 0, .bool false] 55 (0, 0)) from by have h := heap_alloc_new (w.alloc (.cells #[.int .i64 1, .int .i64 0, .int .i64 1, .int .i64 16, s0, s1, s2, s3, s4, s5, s6, s7, .int .i64 0, .int .i64 0] 46)) (.cells #[.int .i64 0, .int .i64 0, .int .i64 0, .int .u64 0, .int .u32 0, .int .i64 0, .int .i64 0, .bool false] 55); simpa using h)
  have B0 := Lib.hid (hb.trans (hb2.mono hb.size))
  have PG := Lib.hid (pget_any (.agg #[s0, s1, s2, s3, s4, s5, s6, s7, .int .i64 0, .int .i64 0]) mp0 key ((w.alloc (.cells #[.int .i64 1, .int .i64 0, .int .i64 1, .int .i64 16, s0, s1, s2, s3, s4, s5, s6, s7, .int .i64 0, .int .i64 0] 46)).alloc (.cells #[.int .i64 0, .int .i64 0, .int .i64 0, .int .u64 0, .int .u32 0, .int .i64 0, .int .i64 0, .bool false] 55)) ⟨s0, s1, s2, s3, s4, s5, s6, s7, rfl, ms_below MS B0.out⟩ few_mp0)
  have hg : gL mp0 key = [] := by unfold gL; rw [if_pos mp0_ok.1, ms_mp0]
  unfold FD at PG
  rw [hg, show fnL [] key = z0 from rfl, show hasL [] key = false from rfl] at PG
  unfold TV at PG
  clear hb hb2 MS hg
  go_enter Try.func13, Try.ntmps13
  go_upto_region 1 with fail
  generalize (w.alloc (.cells #[.int .i64 1, .int .i64 0, .int .i64 1, .int .i64 16, s0, s1, s2, s3, s4, s5, s6, s7, .int .i64 0, .int .i64 0] 46)).alloc (.cells #[.int .i64 0, .int .i64 0, .int .i64 0, .int .u64 0, .int .u32 0, .int .i64 0, .int .i64 0, .bool false] 55) = W0 at *
  obtain ⟨x0, x1, x2, x3, x4, x5, x6, x7, x8, x9, x10, x11, x12, x13⟩ := bx14 HX.out
  go_wp2_with fail
  clear x0 x1 x2 x3 x4 x5 x6 x7 x8 x9 x10 x11 x12 x13
  refine PG.out.mono ?_
  rintro e W1 ⟨rfl, hb⟩
  have HZ1 := Lib.hid ((hb.block _ (lt_of_some HZ.out)).trans HZ.out)
  have B1 := Lib.hid (B0.out.trans (hb.mono B0.out.size))
  clear hb HX HZ B0 PG
  go_upto_region 2 with fail
  have hb := bel_al W1 (.cells #[.int .u64 (z0.key : Int), .int .u32 (z0.ck : Int), .int .i64 z0.off, .int .i64 z0.sz] 35)
  have HZ2 := Lib.hid ((hb.block _ (lt_of_some HZ1.out)).trans HZ1.out)
  have B2 := Lib.hid (B1.out.trans (hb.mono B1.out.size))
  clear hb HZ1 B1
  generalize W1.alloc (.cells #[.int .u64 (z0.key : Int), .int .u32 (z0.ck : Int), .int .i64 z0.off, .int .i64 z0.sz] 35) = W2 at *
  go_wp2_with ((with_reducible refine storeH (w.heap.size + 1) _ #[.int .i64 0, .int .i64 0, .int .i64 0, .int .u64 0, .int .u32 0, .int .i64 0, .int .i64 0, .bool false] ?_ ?_ HZ2.out rfl rfl zh_one ?_); exact rfl; exact rfl)
  refine bodyPost_ret (results_cell_row rfl _ _ (w.heap.size + 1) 55 #[.int .i64 0, .int .i64 0, .int .i64 0, .int .u64 0, .int .u32 0, .int .i64 0, .int .i64 0, .bool false] (0, 0) _ rfl (setRow_heap _ _ _ _ _ _ HZ2.out) Try.underlying55 rfl infoH8) rfl ?_
  exact ⟨rfl, below_setRowM B2.out (Nat.le_succ _) _⟩
set_option maxRecDepth 100000 in
set_option maxHeartbeats 12800000 in
theorem pfits_1 (gb : Nat) (s0 s1 s2 s3 s4 s5 s6 s7 : Value) (w : World) (HB : w.heap[gb]? = some (.cells #[.int .i64 1, .int .i64 0, .int .i64 1, .int .i64 16, s0, s1, s2, s3, s4, s5, s6, s7, .int .i64 0, .int .i64 0] 46 (0, 0))) (MS : Ms w [s0, s1, s2, s3, s4, s5, s6, s7] mp0) : Calls Try.prog 8 #[.agg #[.int .i64 0, .int .i64 9000, .bool false, .slice (some ⟨gb, 0, none⟩) 1 1], .int .i64 4096] w fun e w' => e = .returned (.bool true) ∧ Below w.heap.size w w' := by
  have hb := bel_al w (.cells #[.int .i64 0, .int .i64 9000, .bool false, .slice (some ⟨gb, 0, none⟩) 1 1] 30)
  have HS0 := Lib.hid (heap_alloc_new w (.cells #[.int .i64 0, .int .i64 9000, .bool false, .slice (some ⟨gb, 0, none⟩) 1 1] 30))
  have B0 := Lib.hid hb
  have HB0 := Lib.hid ((hb.block _ (lt_of_some HB)).trans HB)
  have MS0 := Lib.hid (ms_below MS hb)
  clear hb HB MS
  go_enter Try.func8, Try.ntmps8
  go_upto_region 1 with fail
  generalize w.alloc (.cells #[.int .i64 0, .int .i64 9000, .bool false, .slice (some ⟨gb, 0, none⟩) 1 1] 30) = w0 at *
  refine wp_onlyN ?_
  refine wp_region_headsS (fun W' => Below w0.heap.size w0 W') [0] 21 (by kernel_rfl) (fun _ _ _ _ _ h => h.elim) (by kernel_rfl) (by rfl) (by rfl) (Below.refl w0.heap.size w0).drew ?_
  simp only [pickOps, List.filterMap_cons, List.filterMap_nil, List.getElem?_toArray, List.getElem?_cons_zero]
  refine wpHeads_step (fun K hK => ?_)
  go_simp
  refine ⟨.agg #[.int .i64 0, .int .i64 9000, .bool false, .slice (some ⟨gb, 0, none⟩) 1 1], fun w' hw' => by
    obtain ⟨⟨y0, y1, y2, y3⟩, -⟩ := bx4 ((hw'.block _ (lt_of_some HS0.out)).trans HS0.out)
    go_simp, hK _ ?_⟩
  clear hK K
  refine wpHeads_nil ?_
  have SD := Lib.hid (Below.refl w0.heap.size w0).drew
  generalize w0.drew = WD at *
  refine held_gw 1 rfl (by kernel_rfl) (by kernel_rfl) fun K hK => ?_
  go_simp
  go_at_call 11
  refine (psvalid_1 gb s0 s1 s2 s3 s4 s5 s6 s7 WD ((SD.out.block _ (lt_of_some HB0.out)).trans HB0.out) (ms_below MS0.out SD.out)).mono ?_
  rintro e V1 ⟨rfl, hb⟩
  refine hK _ _ (SD.out.trans (hb.mono SD.out.size)) ?_
  clear hK K
  have S1 := Lib.hid (SD.out.trans (hb.mono SD.out.size))
  clear hb SD
  refine held_gw 2 rfl (by kernel_rfl) (by kernel_rfl) fun K hK => ?_
  go_simp
  refine hK _ _ S1.out ?_
  clear hK K
  refine held_gw 3 rfl (by kernel_rfl) (by kernel_rfl) fun K hK => ?_
  go_simp
  refine hK _ _ S1.out ?_
  clear hK K
  refine held_gw 4 rfl (by kernel_rfl) (by kernel_rfl) fun K hK => ?_
  go_simp
  refine hK _ _ S1.out ?_
  clear hK K
  refine held_gw 5 rfl (by kernel_rfl) (by kernel_rfl) fun K hK => ?_
  go_simp
  refine hK _ _ S1.out ?_
  clear hK K
  refine held_gw 6 rfl (by kernel_rfl) (by kernel_rfl) fun K hK => ?_
  go_simp
  refine hK _ _ S1.out ?_
  clear hK K
  refine held_gw 7 rfl (by kernel_rfl) (by kernel_rfl) fun K hK => ?_
  go_simp
  refine hK _ _ S1.out ?_
  clear hK K
  refine held_gw 8 rfl (by kernel_rfl) (by kernel_rfl) fun K hK => ?_
  go_simp
  refine hK _ _ S1.out ?_
  clear hK K
  refine held_gw 9 rfl (by kernel_rfl) (by kernel_rfl) fun K hK => ?_
  go_simp
  refine hK _ _ S1.out ?_
  clear hK K
  refine held_gw 10 rfl (by kernel_rfl) (by kernel_rfl) fun K hK => ?_
  go_simp
  refine hK _ _ S1.out ?_
  clear hK K
  refine wpAnyH_take (i := 11) (v := .agg #[.int .i64 0, .int .i64 9000, .bool false, .slice (some ⟨gb, 0, none⟩) 1 1]) rfl (by kernel_rfl) (by kernel_rfl) (by kernel_rfl) (fun _ _ _ h => h) (Or.inl ⟨by kernel_rfl, fun w' hw' => by
    obtain ⟨⟨y0, y1, y2, y3⟩, -⟩ := bx4 ((hw'.block _ (lt_of_some HS0.out)).trans HS0.out)
    go_simp⟩) S1.out ?_
  refine wpAnyH_take (i := 14) (v := .int .i64 4096) rfl (by kernel_rfl) (by kernel_rfl) (by kernel_rfl) (fun _ _ _ h => h) (Or.inl ⟨by kernel_rfl, fun w' hw' => by
    skip
    go_simp⟩) S1.out ?_
  refine wpAnyH_take (i := 17) (v := .pointer (some ⟨w.heap.size, 1, none⟩)) rfl (by kernel_rfl) (by kernel_rfl) (by kernel_rfl) (fun _ _ _ h => h) (Or.inl ⟨by kernel_rfl, fun w' hw' => by
    skip
    go_simp⟩) S1.out ?_
  refine wpAnyH_take (i := 18) (v := .int .i64 9000) rfl (by kernel_rfl) (by kernel_rfl) (by kernel_rfl) (fun _ _ _ h => h) (Or.inl ⟨by kernel_rfl, fun w' hw' => by
    obtain ⟨⟨y0, y1, y2, y3⟩, -⟩ := bx4 ((hw'.block _ (lt_of_some HS0.out)).trans HS0.out)
    go_simp⟩) S1.out ?_
  refine held_gw 12 rfl (by kernel_rfl) (by kernel_rfl) fun K hK => ?_
  go_simp
  go_at_call 14
  refine (plast_1 gb s0 s1 s2 s3 s4 s5 s6 s7 V1 ((S1.out.block _ (lt_of_some HB0.out)).trans HB0.out) (ms_below MS0.out S1.out)).mono ?_
  rintro e V2 ⟨rfl, hb⟩
  refine hK _ _ (S1.out.trans (hb.mono S1.out.size)) ?_
  clear hK K
  have S2 := Lib.hid (S1.out.trans (hb.mono S1.out.size))
  clear hb S1
  refine wpAnyH_take (i := 13) (v := .int .i64 16) rfl (by kernel_rfl) (by kernel_rfl) (by kernel_rfl) (fun _ _ _ h => h) (Or.inl ⟨by kernel_rfl, fun w' hw' => by
    have hf := run_fieldSize (.int .i64 1) (.int .i64 0) (.int .i64 1) (.int .i64 16) s0 s1 s2 s3 s4 s5 s6 s7 (.int .i64 0) (.int .i64 0) w'
    go_simp⟩) S2.out ?_
  refine held_gw 15 rfl (by kernel_rfl) (by kernel_rfl) fun K hK => ?_
  go_simp
  go_at_call 15
  refine (psrec_any 4096 (by unfold I64b; decide) V2).mono ?_
  rintro e V3 ⟨rfl, rfl⟩
  refine hK _ _ S2.out ?_
  clear hK K
  refine held_gw 16 rfl (by kernel_rfl) (by kernel_rfl) fun K hK => ?_
  go_simp
  refine hK _ _ S2.out ?_
  clear hK K
  refine held_gw 19 rfl (by kernel_rfl) (by kernel_rfl) fun K hK => ?_
  go_simp
  refine hK _ _ S2.out ?_
  clear hK K
  refine held_gw 20 rfl (by kernel_rfl) (by kernel_rfl) fun K hK => ?_
  go_simp
  refine hK _ _ S2.out ?_
  clear hK K
  refine held_gw 21 rfl (by kernel_rfl) (by kernel_rfl) fun K hK => ?_
  go_simp
  refine hK _ _ S2.out ?_
  clear hK K
  refine wpAnyH_done (by kernel_rfl) ?_ _
  unfold onlyN
  dsimp only
  have S9 := Lib.hid (B0.out.trans (S2.out.mono B0.out.size))
  go_wp2
  go_ret
  exact ⟨rfl, S9.out⟩
end Go.Proofs.Ytempgcnpfjhacaa.Gf
