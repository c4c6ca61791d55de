/- What is proved here: Route of both sides, for every key and number; the laws' awake. -/
/- What is proved here: Route of both sides, for every key and number; the laws' awake. -/
import Derived.Test.YtimoinfjinmamaaGreatGs28
namespace Go.Proofs.YtimoinfjinmamaaGreat.Gf
open Joins ChangeShapes WideShapes ChangeAt RowKit Deep By Qt
set_option maxRecDepth 100000
set_option maxHeartbeats 204800000
theorem u64_xor_nat (a b : Nat) (ha : a < 18446744073709551616) (hb : b < 18446744073709551616) : bits .xor .u64 (a : Int) (b : Int) = ((a ^^^ b : Nat) : Int) := by
 have e1 : (BitVec.ofInt 64 (a : Int)).toNat = a := by rw [BitVec.toNat_ofInt]; omega
 have e2 : (BitVec.ofInt 64 (b : Int)).toNat = b := by rw [BitVec.toNat_ofInt]; omega
 have e3 : (BitVec.ofInt 64 (a : Int) ^^^ BitVec.ofInt 64 (b : Int)).toNat = a ^^^ b := by rw [BitVec.toNat_xor, e1, e2]
 have hx : a ^^^ b < 2 ^ 64 := Nat.xor_lt_two_pow (by simpa using ha) (by simpa using hb);show IntKind.u64.wrap ((BitVec.ofInt 64 (a : Int) ^^^ BitVec.ofInt 64 (b : Int)).toNat : Int) = _;rw [e3];generalize a ^^^ b = z at *;show (z : Int) % 18446744073709551616 = _;omega
theorem u64_nat (z : Nat) (h : z < 18446744073709551616) : IntKind.u64.wrap (z : Int) = (z : Int) := by show (z : Int) % 18446744073709551616 = _; omega
theorem u32_nat (z : Nat) : IntKind.u32.wrap (z : Int) = ((z % 4294967296 : Nat) : Int) := by show (z : Int) % 4294967296 = _; omega
theorem tmod_nat (x n : Nat) : Int.tmod (x : Int) (n : Int) = ((x % n : Nat) : Int) := by rw [Int.tmod_eq_emod_of_nonneg (by omega)]; exact (Int.natCast_emod x n).symm
def rtN (key n : Nat) : Nat := ((key % 4294967296) ^^^ (key / 4294967296)) % n
theorem proute_any (key n : Nat) (hk : key < 18446744073709551616) (h1 : 1 ≤ n) (h2 : n ≤ 9223372036854775807) (w : World) : Calls Tryz.prog 26 #[.int .u64 (key : Int), .int .i64 (n : Int)] w fun e w' => e = .returned (.int .i64 ((rtN key n : Nat) : Int)) ∧ w = w' := by
 have e1 := u32_nat key;have e2 : (key : Int) / 4294967296 = ((key / 4294967296 : Nat) : Int) := by omega
 have hr : rtN key n = ((key % 4294967296) ^^^ (key / 4294967296)) % n := rfl;have ha : key % 4294967296 < 18446744073709551616 := by omega
 have hb : key / 4294967296 < 18446744073709551616 := by omega
 generalize key % 4294967296 = a at *;generalize key / 4294967296 = b at *;have e3 := u64_nat a ha;have e4 := u64_xor_nat a b ha hb;have hx : a ^^^ b < 18446744073709551616 := Nat.xor_lt_two_pow (n := 64) ha hb;generalize a ^^^ b = x at *;have e5 := u64_nat n (by omega);have e6 := tmod_nat x n;have hrn : x % n < n := Nat.mod_lt _ (by omega);have e7 : (x : Int) % (n : Int) = ((x % n : Nat) : Int) := (Int.natCast_emod x n).symm;generalize x % n = r at *;have HR := Lh hr;have HW := Lh (show wrap64 (r : Int) = (r : Int) by unfold wrap64; omega);have e9 : ((n : Int) == 0) = false := by rw [beq_eq_false_iff_ne]; omega
 have l1 : decide ((n : Int) < 1) = false := decide_eq_false (by omega);have l2 : decide (n < 1) = false := decide_eq_false (by omega);have n0 : ¬ n = 0 := by omega
 have n1 : ¬ ((n : Int) = 0) := by omega
 clear hr hrn hx ha hb hk h1 h2
 go_enter Tryz.func26, Tryz.ntmps26
 go_wp2
 rw [HW.out];go_ret
 exact ⟨by rw [HR.out]; rfl, rfl⟩
def rtZ (key : Nat) (n : Int) : Int := if n < 1 then 0 else ((rtN key n.toNat : Nat) : Int)
theorem proute_z (key : Nat) (n : Int) (hk : key < 18446744073709551616) (hj : J64 n) (w : World) : Calls Tryz.prog 26 #[.int .u64 (key : Int), .int .i64 n] w fun e w' => e = .returned (.int .i64 (rtZ key n)) ∧ w = w' := by
 unfold J64 at hj;rcases Classical.em (n < 1) with h1 | h1
 ·have HR := Lh (show rtZ key n = 0 from by unfold rtZ; rw [if_pos h1])
  have d1 : decide (n < 1) = true := decide_eq_true h1;clear h1 hj
  go_enter Tryz.func26, Tryz.ntmps26
  go_wp2
  go_ret
  exact ⟨by rw [HR.out]; rfl, rfl⟩
 ·obtain ⟨m, hm⟩ : ∃ m : Nat, n = (m : Int) := ⟨n.toNat, by omega⟩
  subst hm;have HR := Lh (show rtZ key (m : Int) = ((rtN key m : Nat) : Int) from by unfold rtZ; rw [if_neg h1, Int.toNat_natCast]);refine (proute_any key m hk (by omega) (by omega) w).mono ?_;rintro e w' ⟨rfl, rfl⟩;exact ⟨by rw [HR.out], rfl⟩
theorem new_okv {id lim : Int} (h0 : 0 ≤ id) (h4 : id < 4) (l0 : 4136 ≤ lim) (l1 : lim ≤ 262144) : okS ⟨id, lim, false, [frG 1]⟩ := by
 refine ⟨h0, h4, l0, l1, by simp, by simp, fun i hi => ?_, fun i hi => ?_, ?_⟩
 ·obtain rfl : i = 0 := by simp at hi; omega
  exact ⟨frG_ok (by decide) (by decide), by show ((1 : Int) = 1) ↔ _; simp, fun h => absurd h (by omega)⟩
 ·obtain rfl : i = 0 := by simp at hi; omega
  show (16 : Int) ≤ 2 * lim;omega
 ·have e : lenM mp0 = 0 := by
   unfold lenM;rw [if_pos mp0_ok.1];rfl
  show (16 : Int) + ((lenM mp0 * 24 : Nat) : Int) ≤ 2 * lim;rw [e];omega
theorem fr_nohit (key : Nat) (n : Int) : ¬ hitB (frG n) key := by
 have hg : gL mp0 key = [] := by unfold gL; rw [if_pos mp0_ok.1, ms_mp0]
 show ¬ hasL (gL mp0 key) key = true;rw [hg];exact Bool.false_ne_true
theorem awake13_any (w : World) : Calls Tryz.prog 7 #[] w fun e w' => e = .returned (.bool true) ∧ Below w.heap.size w w' := by
 have HOK := Lh (new_okv (id := 0) (lim := 9000) (by decide) (by decide) (by decide) (by decide))
 go_enter Tryz.func7, Tryz.ntmps7
 go_wp2_with fail
 refine (psnew_any 0 9000 (by unfold J64; decide) (by unfold J64; decide) w).mono ?_;rintro e W1 ⟨⟨vs, rfl, hsv⟩, hb⟩;rw [jwm HOK.out, if_pos rfl] at hsv;rw [jwm HOK.out, if_pos rfl];obtain ⟨gv, rfl, hg, hj⟩ := hsv;simp only at hg hj ⊢;obtain ⟨a1, c1, rfl, -⟩ := jw2 hg;rw [show ([frG 1] : List Ge).length = 1 from rfl] at hg ⊢;have B1 := Lh hb;have GL1 := Lh hg;have hz := heap_alloc_new W1 (.cells #[.int .i64 0, .int .i64 0, .bool false, .slice none 0 0] 39);clear hb hg hj;go_upto_region 2 with ((with_reducible refine storeS W1.heap.size _ #[.int .i64 0, .int .i64 9000, .bool false, .slice a1 1 c1] ?_ ?_ hz rfl rfl jw8 ?_); exact rfl; exact rfl)
 rw [World.setRow_alloc_new];have hb := jqg W1 (.cells #[.int .i64 0, .int .i64 9000, .bool false, .slice a1 1 c1] 39);have HS2 := Lh (heap_alloc_new W1 (.cells #[.int .i64 0, .int .i64 9000, .bool false, .slice a1 1 c1] 39));have GL2 := Lh (jqj GL1.out hb);have B2 := Lh (B1.out.trans (hb.mono B1.out.size));clear hb hz GL1 B1;generalize W1.alloc (.cells #[.int .i64 0, .int .i64 9000, .bool false, .slice a1 1 c1] 39) = W2 at *;generalize W1.heap.size = gs at *;obtain ⟨⟨y0, y1, y2, y3⟩, -⟩ := bx4 HS2.out;go_wp2_with fail
 clear y0 y1 y2 y3;refine (pfind_x 0 9000 false a1 1 c1 [frG 1] 1 W2 rfl GL2.out (by decide) (fun g hg => by
  obtain rfl := List.mem_singleton.1 hg;exact frG_lge 1)).mono ?_
 rintro e W3 ⟨rfl, hb⟩;have PN := plc_none (s := ⟨0, 9000, false, [frG 1]⟩) (key := 1) (fun _ j hj => by
  obtain rfl : j = 0 := by simp at hj; omega
  exact fr_nohit 1 1)
 rw [PN.1, PN.2];have HS3 := Lh ((hb.block _ (jqb HS2.out)).trans HS2.out);have GL3 := Lh (jqj GL2.out hb);have B3 := Lh (B2.out.trans (hb.mono B2.out.size));have hz := heap_alloc_new W3 (.cells #[.int .i64 0, .int .i64 0, .int .i64 0, .int .u64 0, .int .u32 0, .int .i64 0, .int .i64 0] 67);clear hb PN HS2 GL2 B2;go_upto_region 3 with ((with_reducible refine storeP W3.heap.size _ #[.int .i64 0, .int .i64 0, .int .i64 0, .int .u64 0, .int .u32 0, .int .i64 0, .int .i64 0] ?_ ?_ hz rfl rfl zp_one ?_); exact rfl; exact rfl)
 first | rw [World.setRow_alloc_new] | skip
 have hb := jqg W3 (.cells #[.int .i64 0, .int .i64 0, .int .i64 0, .int .u64 0, .int .u32 0, .int .i64 0, .int .i64 0] 67);have HS4 := Lh ((hb.block _ (jqb HS3.out)).trans HS3.out);have GL4 := Lh (jqj GL3.out hb);have B4 := Lh (B3.out.trans (hb.mono B3.out.size));clear hb hz HS3 GL3 B3;generalize W3.alloc (.cells #[.int .i64 0, .int .i64 0, .int .i64 0, .int .u64 0, .int .u32 0, .int .i64 0, .int .i64 0] 67) = W4 at *;generalize W3.heap.size = gq at *;go_wp2_with fail
 refine (proute_z 5 2 (by decide) (by unfold J64; decide) W4).mono ?_;rintro e W5 ⟨rfl, rfl⟩;rw [show rtZ 5 2 = 1 by decide];go_wp2_with fail
 refine (proute_z 4294967296 2 (by decide) (by unfold J64; decide) W4).mono ?_;rintro e W5 ⟨rfl, rfl⟩;rw [show rtZ 4294967296 2 = 1 by decide];obtain ⟨⟨y0, y1, y2, y3⟩, -⟩ := bx4 HS4.out;go_wp2_with fail
 clear y0 y1 y2 y3;refine (pfits_x 0 9000 false a1 1 c1 [frG 1] 4096 W4 rfl GL4.out (by decide) (fun g hg => by
  obtain rfl := List.mem_singleton.1 hg;exact frG_lge 1)).mono ?_
 rintro e W5 ⟨rfl, hb⟩;have hft : fitsB ⟨0, 9000, false, [frG 1]⟩ 4096 = true := by
  unfold fitsB;rw [jwm HOK.out, Bool.true_and];refine decide_eq_true ⟨by decide, by decide, ?_⟩;show (16 : Int) + szI6 4096 ≤ 9000;rw [show szI6 4096 = 4120 by decide]
  decide
 rw [hft];have B5 := Lh (B4.out.trans (hb.mono B4.out.size));clear hb hft;go_wp2_with fail
 go_ret
 exact ⟨rfl, B5.out⟩
end Go.Proofs.YtimoinfjinmamaaGreat.Gf
