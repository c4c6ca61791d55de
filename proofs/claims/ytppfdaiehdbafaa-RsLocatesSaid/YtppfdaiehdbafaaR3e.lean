/- What is proved here: the contract of the reference's row addition. -/
import Derived.Test.YtppfdaiehdbafaaR3b
import Derived.StillTailTactics
namespace Go.Proofs.Ytppfdaiehdbafaa.Gf
open Go Go.ChangeShapes Go.WideShapes Go.ChangeAt Go.RowKit Go.Proofs.Ytppfdaiehdbafaa.By

/-- Row i where it is done up to column x. -/
def rpart (i k f x : Nat) (A : Nat → Nat → Nat) (r c : Nat) : Nat := if r = i ∧ c < x then A i c ^^^ gm f (A k c) else A r c
theorem rpart_zero {n i k f : Nat} (A : Nat → Nat → Nat) : Eqm n n (rpart i k f 0 A) A := fun r _ c _ => by unfold rpart; rw [if_neg (by omega)]
theorem rpart_full {n i k f : Nat} (A : Nat → Nat → Nat) : Eqm n n (rpart i k f n A) (radd i k f A) := fun r _ c hc => by
  unfold rpart radd
  by_cases e : r = i
  · rw [if_pos ⟨e, hc⟩, if_pos e]
  · rw [if_neg (fun h => e h.1), if_neg e]
theorem rpart_step {n i k f x : Nat} (A : Nat → Nat → Nat) (hx : x < n) : (flat n n (rpart i k f x A)).set (i * n + x) (A i x ^^^ gm f (A k x)) = flat n n (rpart i k f (x + 1) A) := by
  rw [flat_set _ hx]
  refine flat_ext fun r _ c _ => ?_
  unfold rpart
  by_cases e : r = i ∧ c = x
  · obtain ⟨rfl, rfl⟩ := e
    rw [if_pos ⟨rfl, rfl⟩, if_pos ⟨rfl, by omega⟩]
  · rw [if_neg e]
    by_cases e2 : r = i ∧ c < x
    · rw [if_pos e2, if_pos ⟨e2.1, by omega⟩]
    · rw [if_neg e2, if_neg (fun h => e2 ⟨h.1, by have : ¬ c = x := fun h2 => e ⟨h.1, h2⟩; omega⟩)]
theorem rpart_at {n i k f x r : Nat} {A : Nat → Nat → Nat} (hr : r < n) (hx : x < n) : (flat n n (rpart i k f x A)).getD (r * n + x) 0 = A r x := by
  rw [flat_getD (at_lt hr hx), div_at hx, mod_at hx]
  unfold rpart
  rw [if_neg (by omega)]
set_option maxRecDepth 100000 in
set_option maxHeartbeats 1600000 in
theorem radd_any (g N cap n i k f base : Nat) (A : Nat → Nat → Nat) (w : World) (hN : N = n * n) (hn : n ≤ 16) (hi : i < n) (hk : k < n) (hf : f < 256) (hA : Bd n n A) (ho : Own w base (.slice (some ⟨g, 0, none⟩) N cap) (flat n n A)) :
    Calls Try.prog 55 #[.slice (some ⟨g, 0, none⟩) N cap, .int .i64 (n : Int), .int .i64 (i : Int), .int .i64 (k : Int), .int .u8 (f : Int)] w fun e w' => e = .returned (.tuple #[]) ∧ Own w' base (.slice (some ⟨g, 0, none⟩) N cap) (flat n n (radd i k f A)) ∧ w.grownBy w' (some g) := by
  have h0 : flat n n (rpart i k f 0 A) = flat n n A := flat_ext (rpart_zero A)
  have h9 : flat n n (rpart i k f n A) = flat n n (radd i k f A) := flat_ext (rpart_full A)
  rw [← h0] at ho
  rw [← h9]
  have HO0 := Lib.hid ho
  have HA := Lib.hid hA
  have HN := Lib.hid hN
  have hN256 : N ≤ 256 := by rw [hN]; exact Nat.mul_le_mul hn hn
  clear ho hA h0 h9 hN
  go_enter Try.func55, Try.ntmps55
  go_wp2
  go_loopw [10] (fun c wr => ∃ x : Nat, x ≤ n ∧ c = .int .i64 (x : Int) ∧ Own wr base (.slice (some ⟨g, 0, none⟩) N cap) (flat n n (rpart i k f x A)) ∧ w.grownBy wr (some g)) (fun c _ => n - (intOf c).toNat)
  case atStart => exact ⟨0, by omega, rfl, HO0.out, ⟨rfl, rfl, rfl, Nat.le_refl _, fun _ _ _ => rfl⟩⟩
  case round =>
    clear HO0
    obtain ⟨x, hx, rfl, hO, hG⟩ := hrel
    have HO := Lib.hid hO
    have HG := Lib.hid hG
    clear hO hG
    by_cases hlt : x < n
    · obtain ⟨p1, hp1⟩ : ∃ p, p = i * n := ⟨_, rfl⟩
      obtain ⟨p2, hp2⟩ : ∃ p, p = k * n := ⟨_, rfl⟩
      have i1 : (i : Int) * (n : Int) = (p1 : Int) := by rw [hp1]; simp
      have i2 : (k : Int) * (n : Int) = (p2 : Int) := by rw [hp2]; simp
      have q1 : p1 + x < N := by rw [hp1, HN.out]; exact at_lt hi hlt
      have q2 : p2 + x < N := by rw [hp2, HN.out]; exact at_lt hk hlt
      have hlen : (flat n n (rpart i k f x A)).length = N := by rw [flat_length, HN.out]
      obtain ⟨f1, f1f, fb⟩ := own_cell HO.out hlen q1
      obtain ⟨f2, _, _⟩ := own_cell HO.out hlen q2
      have v1 : (flat n n (rpart i k f x A)).getD (p1 + x) 0 = A i x := by rw [hp1]; exact rpart_at hi hlt
      have v2 : (flat n n (rpart i k f x A)).getD (p2 + x) 0 = A k x := by rw [hp2]; exact rpart_at hk hlt
      rw [v1] at f1
      rw [v2] at f2
      have u1 := HA.out i hi x hlt
      have u2 := HA.out k hk x hlt
      have hmul := fun w => rmul_any f (A k x) w hf u2
      have y := u8_xor_nat _ _ u1 (gm_lt (b := A k x) hf)
      have zl : A i x ^^^ gm f (A k x) < 256 := xor_lt u1 (gm_lt hf)
      have hst := rpart_step (i := i) (k := k) (f := f) A hlt
      rw [← hp1] at hst
      have HS := Lib.hid hst
      have HL := Lib.hid hlen
      clear hst v1 v2 hp1 hp2 hlen
      generalize A i x ^^^ gm f (A k x) = z at HS y zl
      generalize gm f (A k x) = gg at hmul y
      generalize A i x = e1 at f1 u1 y
      generalize A k x = e2 at f2 u2 hmul
      have HM := Lib.hid hmul
      clear hmul
      have w1' : IntKind.i64.wrap (p1 : Int) = (p1 : Int) := IntWalk.i64_in _ (by omega)
      have w2' : IntKind.i64.wrap (p2 : Int) = (p2 : Int) := IntWalk.i64_in _ (by omega)
      have w3' : IntKind.i64.wrap ((p1 : Int) + (x : Int)) = (p1 : Int) + (x : Int) := IntWalk.i64_in _ (by omega)
      have w4' : IntKind.i64.wrap ((p2 : Int) + (x : Int)) = (p2 : Int) + (x : Int) := IntWalk.i64_in _ (by omega)
      have j1 : (0 : Int) ≤ (p1 : Int) + (x : Int) := by omega
      have j2 : (p1 : Int) + (x : Int) < (N : Int) := by omega
      have j3 : (0 : Int) ≤ (p2 : Int) + (x : Int) := by omega
      have j4 : (p2 : Int) + (x : Int) < (N : Int) := by omega
      have t1 : ((p1 : Int) + (x : Int)).toNat = p1 + x := by omega
      have t2 : ((p2 : Int) + (x : Int)).toNat = p2 + x := by omega
      go_wp2
      refine wp_region_still_tail 19 (by kernel_rfl) (by kernel_rfl) ?_
      simp only [List.take_succ_cons, List.take_zero, List.drop_succ_cons, List.drop_zero]
      iterate 17 still_step
      still_call ((HM.out wr.drew).mono fun _ _ h => ⟨h.1, h.2.symm⟩)
      still_step
      refine wpStill_nil ?_
      change wpList _ _ _ _ _ wr.drew
      go_wp2
      go_roundw
      case rel =>
        refine ⟨x + 1, by omega, by go_num, ?_, ?_⟩
        · rw [← HS.out]
          exact own_set HO.out.drew HL.out q1 zl
        · have hg := HG.out
          exact ⟨hg.os, hg.tape, hg.output, by have := hg.size; simpa using this, fun q hq hne => (heap_setCell_other _ _ _ _ (fun e => hne (by rw [e]))).trans (hg.block q hq hne)⟩
      case measure => simp [intOf]; omega
    · obtain rfl : x = n := by omega
      go_wp2
      go_end0
      exact ⟨rfl, HO.out, HG.out⟩
end Go.Proofs.Ytppfdaiehdbafaa.Gf
