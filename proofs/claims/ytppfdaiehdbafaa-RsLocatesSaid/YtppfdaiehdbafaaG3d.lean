/- What is proved here: the contracts of the program's element and Mul. No condition. -/
import Derived.Test.YtppfdaiehdbafaaG3c
import Derived.Test.YtppfdaiehdbafaaMl
namespace Go.Proofs.Ytppfdaiehdbafaa.Gf
open Go Go.ChangeShapes Go.WideShapes Go.ChangeAt Go.RowKit Go.Proofs.Ytppfdaiehdbafaa.By Go.Proofs.Ytppfdaiehdbafaa.Qt

set_option maxRecDepth 100000 in
theorem add_same (a b : Nat) (w : World) (ha : a < 256) (hb : b < 256) : Calls Try.prog 66 #[.int .u8 (a : Int), .int .u8 (b : Int)] w fun e w' => e = .returned (.int .u8 ((a ^^^ b : Nat) : Int)) ∧ w = w' := by
  have hx := u8_xor_nat a b ha hb
  go_enter Try.func66, Try.ntmps66
  go_wp2
  go_ret
  exact ⟨rfl, rfl⟩
set_option maxRecDepth 100000 in
set_option maxHeartbeats 1600000 in
theorem elem_pos (ra ca cb i k : Nat) (b1 o1 b2 o2 n1 n2 c1 c2 : Nat) (la lb : List Nat) (w : World) (ha : Vd ra ca n1) (hb : Vd ca cb n2) (hc1 : n1 ≤ c1) (hm1 : c1 ≤ maxLen) (hi : i < ra) (hk : k < cb) (l1 : ∀ b ∈ la, b < 256) (l2 : ∀ b ∈ lb, b < 256)
    (k1 : ∀ k, k < n1 → w.cell? ⟨b1, o1 + k, none⟩ = some (.int .u8 ((la.getD k 0 : Nat) : Int))) (k2 : ∀ k, k < n2 → w.cell? ⟨b2, o2 + k, none⟩ = some (.int .u8 ((lb.getD k 0 : Nat) : Int))) :
    Calls Try.prog 64 #[mv ra ca (.slice (some ⟨b1, o1, none⟩) n1 c1), mv ca cb (.slice (some ⟨b2, o2, none⟩) n2 c2), .int .i64 (i : Int), .int .i64 (k : Int)] w fun e w' => e = .returned (.int .u8 ((mm ca (ent la ca) (ent lb cb) i k : Nat) : Int)) ∧ Below w.heap.size w w' := by
  have e1 : n1 = ra * ca := by have := ha.2; exact_mod_cast this
  have e2 : n2 = ca * cb := by have := hb.2; exact_mod_cast this
  have hn : 1 ≤ ca ∧ ca ≤ 16 ∧ 1 ≤ cb ∧ cb ≤ 16 := by
    have h1 := ha.1
    have h2 := hb.1
    unfold Sized at h1 h2
    omega
  have hn2 : n2 ≤ 256 := by rw [e2]; exact Nat.mul_le_mul hn.2.1 hn.2.2.2
  obtain ⟨p, hp⟩ : ∃ p : Nat, p = i * ca := ⟨_, rfl⟩
  have hr := fun w => row_any ra ca b1 o1 n1 c1 i p w ha.1 e1 hc1 hm1 hi hp
  have hpn : ∀ j, j < ca → p + j < n1 := fun j hj => by rw [hp, e1]; exact at_lt hi hj
  have HR := Lib.hid hr
  have HPN := Lib.hid hpn
  have HP := Lib.hid hp
  have E2 := Lib.hid e2
  have K1 := Lib.hid k1
  have K2 := Lib.hid k2
  have L1 := Lib.hid l1
  have L2 := Lib.hid l2
  have hbw : Below w.heap.size w ((w.alloc (.cells #[.int .i64 ra, .int .i64 ca, .slice (some ⟨b1, o1, none⟩) n1 c1] 24)).alloc (.cells #[.int .i64 ca, .int .i64 cb, .slice (some ⟨b2, o2, none⟩) n2 c2] 24)) := ((Below.refl _ _).alloc (Nat.le_refl _) _).alloc (by simp) _
  have hrow := heap_alloc2_new w (.cells #[.int .i64 ra, .int .i64 ca, .slice (some ⟨b1, o1, none⟩) n1 c1] 24) (.cells #[.int .i64 ca, .int .i64 cb, .slice (some ⟨b2, o2, none⟩) n2 c2] 24)
  have BW := Lib.hid hbw
  have ROW := Lib.hid hrow
  clear hr hpn hp e1 e2 k1 k2 l1 l2 ha hb hbw hrow hc1 hm1 hi
  unfold mv at *
  go_enter Try.func64, Try.ntmps64
  go_wp2_with fail
  refine (HR.out _).mono ?_
  generalize ((w.alloc (.cells #[.int .i64 ra, .int .i64 ca, .slice (some ⟨b1, o1, none⟩) n1 c1] 24)).alloc (.cells #[.int .i64 ca, .int .i64 cb, .slice (some ⟨b2, o2, none⟩) n2 c2] 24)) = W at *
  rintro e w1 ⟨rfl, hb1⟩
  obtain ⟨y0, y1, y2⟩ := row_cells ((hb1.block (w.heap.size + 1) (lt_of_some ROW.out)).trans ROW.out)
  have B1 := Lib.hid (bt BW.out hb1)
  have K1' : Hid (∀ k, k < n1 → w1.cell? ⟨b1, o1 + k, none⟩ = some (.int .u8 ((la.getD k 0 : Nat) : Int))) := fun x hx => (B1.out.cell (p := ⟨b1, o1 + x, none⟩) (block_lt_of_cell (K1.out x hx))).trans (K1.out x hx)
  have K2' : Hid (∀ k, k < n2 → w1.cell? ⟨b2, o2 + k, none⟩ = some (.int .u8 ((lb.getD k 0 : Nat) : Int))) := fun x hx => (B1.out.cell (p := ⟨b2, o2 + x, none⟩) (block_lt_of_cell (K2.out x hx))).trans (K2.out x hx)
  clear hb1 K1 K2 BW ROW HR
  go_wp2_with fail
  go_loop [9, 16] (fun s x => ∃ j : Nat, j ≤ ca ∧ x = .int .i64 (j : Int) ∧ s = .int .u8 ((sx j (fun t => gm (ent la ca i t) (ent lb cb t k)) : Nat) : Int)) (fun _ x => ca - (intOf x).toNat)
  case atStart => exact ⟨0, by omega, rfl, rfl⟩
  case round =>
    obtain ⟨j, hj, rfl, rfl⟩ := hrel
    by_cases hjt : j < ca
    · have f1 := K1'.out (p + j) (HPN.out j hjt)
      rw [← Nat.add_assoc] at f1
      obtain ⟨z, hz⟩ : ∃ z : Nat, z = j * cb := ⟨_, rfl⟩
      have hzk : z + k < n2 := by rw [hz, E2.out]; exact at_lt hjt hk
      have f2 := K2'.out (z + k) hzk
      have ht : sx (j + 1) (fun t => gm (ent la ca i t) (ent lb cb t k)) = sx j (fun t => gm (ent la ca i t) (ent lb cb t k)) ^^^ gm (ent la ca i j) (ent lb cb j k) := rfl
      have g1 : ent la ca i j = la.getD (p + j) 0 := by rw [ent, HP.out]
      have g2 : ent lb cb j k = lb.getD (z + k) 0 := by rw [ent, hz]
      rw [g1, g2] at ht
      have u1 := getD_lt L1.out (p + j)
      have u2 := getD_lt L2.out (z + k)
      have u3 : sx j (fun t => gm (ent la ca i t) (ent lb cb t k)) < 256 := sx_lt fun t _ => gm_lt (ent_bd (r := i + 1) (c := ca) L1.out i (by omega) t (by omega))
      have hmul := fun w => mul_any (la.getD (p + j) 0) (lb.getD (z + k) 0) w u1 u2
      have u4 : gm (la.getD (p + j) 0) (lb.getD (z + k) 0) < 256 := gm_lt u1
      have hadd := fun w => add_same _ _ w u3 u4
      have hjz : (j : Int) * (cb : Int) = (z : Int) := by rw [hz]; simp
      have HT := Lib.hid ht
      clear ht g1 g2 hz
      generalize sx j (fun t => gm (ent la ca i t) (ent lb cb t k)) = S at *
      generalize la.getD (p + j) 0 = X at *
      generalize lb.getD (z + k) 0 = Y at *
      generalize gm X Y = Z at *
      have HM := Lib.hid hmul
      have HA := Lib.hid hadd
      clear hmul hadd
      go_wp2_with (first | (go_at_call 63; refine (HM.out _).mono ?_; rintro e w' ⟨rfl, rfl⟩) | (go_at_call 66; refine (HA.out _).mono ?_; rintro e w' ⟨rfl, rfl⟩))
      go_round
      case rel => exact ⟨j + 1, by omega, by go_num, by rw [HT.out]⟩
      case measure => simp [intOf]; omega
    · obtain rfl : j = ca := by omega
      go_wp2
      go_ret
      exact ⟨rfl, B1.out⟩
end Go.Proofs.Ytppfdaiehdbafaa.Gf
