/- What is proved here: the reference's ends of any items: the records do not overlap and end at most at the size. -/
import Derived.Test.YtbmlpafbdbhaiaaGreatDoorGs5
import Derived.BigQuiet
namespace Go.Proofs.YtbmlpafbdbhaiaaGreatDoor.Gf
open Go Go.Joins Go.ChangeShapes Go.WideShapes Go.ChangeAt Go.RowKit Go.Deep Go.Proofs.YtbmlpafbdbhaiaaGreatDoor.By Go.Proofs.YtbmlpafbdbhaiaaGreatDoor.Qt
set_option maxRecDepth 100000
set_option maxHeartbeats 204800000

theorem w64s8 (i : Nat) (h : i < 100000000) : wrap64 ((i : Int) + 1) = (i : Int) + 1 := by unfold wrap64; omega
theorem meas8 (n i : Nat) (h : i < n) (hn : n ≤ 100000000) : n - (intOf (.int .i64 (wrap64 ((i : Int) + 1)))).toNat < n - (intOf (.int .i64 (i : Int))).toNat := by
 rw [w64s8 i (by omega)]
 show n - ((i : Int) + 1).toNat < n - (i : Int).toNat
 omega
/-- The i-th record keeps the rules. -/
def enP (L : List Itm) (n : Int) (i : Nat) : Prop := (L.getD i z0).off + szT (L.getD i z0) ≤ n ∧ ∀ k, k < L.length → ¬ (k ≠ i ∧ (L.getD i z0).off ≤ (L.getD k z0).off ∧ (L.getD k z0).off < (L.getD i z0).off + szT (L.getD i z0))
theorem rends_any (v : Value) (L : List Itm) (sz : Int) (w : World) (hlen : L.length ≤ 10000) (hok : ∀ x ∈ L, okI x) (sl : It w v L) : Calls Tryz.prog 58 #[v, .int .i64 sz] w fun e w' => e = .returned (.bool (apB L sz)) ∧ Below w.heap.size w w' := by
 obtain ⟨a, c, rfl, -, -⟩ := it_form sl
 obtain ⟨n, hn⟩ : ∃ n, n = L.length := ⟨_, rfl⟩
 have HN := Lh (And.intro hn hlen)
 have HOK := Lh hok
 have SL := Lh sl
 have HPOS := Lh (fun x (hx : x ∈ L) => szT_pos (hok x hx))
 rw [← hn] at SL ⊢
 clear hn hlen hok sl
 go_enter Tryz.func58, Tryz.ntmps58
 go_wp2_with fail
 go_loopw [5, 6, 7] (fun t _ _ wr => ∃ i : Nat, i ≤ n ∧ t = .int .i64 (i : Int) ∧ (∀ j, j < i → enP L sz j) ∧ Below w.heap.size w wr) (fun t _ _ _ => n - (intOf t).toNat)
 case atStart => exact ⟨0, Nat.zero_le _, rfl, fun j hj => absurd hj (Nat.not_lt_zero j), Below.refl _ _⟩
 case round =>
  obtain ⟨i, hi, rfl, hP, hB⟩ := hrel
  rename World => wl
  by_cases hin : i < n
  ·have d1 : decide ((i : Int) < (n : Int)) = true := decide_eq_true (by omega)
   have d2 : decide (i < n) = true := decide_eq_true hin
   obtain ⟨b, off, cap, hv, -, -, hC⟩ := it_cells SL.out (by have := HN.out.1; omega)
   obtain ⟨rfl, -, rfl⟩ : a = some ⟨b, off, none⟩ ∧ n = L.length ∧ c = cap := by simpa using hv
   have HC := Lh (fun (k : Nat) (hk : k < n) (W : World) (hW : Below w.heap.size w W) => (hC k (by have := HN.out.1; omega)).below hW)
   have hy := HOK.out _ (getT_mem (show i < L.length by have := HN.out.1; omega))
   have HEP := Lh (show enP L sz i ↔ _ from Iff.rfl)
   unfold enP at HEP
   generalize hgy : L.getD i z0 = y at *
   have HGY := Lh hgy
   have hI := ok_J hy
   have HRC := Lh (fun W => rsize6_any y.sz W hI.2)
   obtain ⟨s1, s2⟩ := ok_sum hy
   obtain ⟨E, hE⟩ : ∃ E, E = y.off + szI6 y.sz := ⟨_, rfl⟩
   rw [← hE] at s1 s2
   have HE := Lh hE
   obtain ⟨z0c, z1c, z2c, z3c⟩ := (HC.out i hin wl hB)
   rw [hgy] at z0c z1c z2c z3c
   have p0 : (0 : Int) ≤ (i : Int) := by omega
   have p1 : (i : Int) < (n : Int) := by omega
   have HB := Lh hB
   have HP := Lh hP
   have HI := Lh hin
   clear hv hC hy hI hgy hE hB hP hin hi
   go_wp2_with fail
   go_quiet ((go_at_call 53; exact Calls.quiet_of_same ((HRC.out _).mono fun _ _ h => ⟨h.1, h.2.symm⟩)))
   rw [← HE.out]
   clear z0c z1c z2c z3c HRC
   have hb1 := below_drewN wl nq
   have HB1 := Lh (bt HB.out hb1)
   clear hb1 HB
   generalize wl.drewN nq = W1 at *
   by_cases hE2 : sz < E
   ·have d3 : decide (sz < E) = true := decide_eq_true hE2
    have HNO := Lh (apB_f (L := L) (n := sz) (fun h => by
     have h1 := ((ap_ends HPOS.out).1 h i (by have := HN.out.1; have := HI.out; omega)).1
     rw [HGY.out] at h1
     have h2 := HE.out
     have h3 : szT y = szI6 y.sz := rfl
     omega))
    clear hE2
    go_wp2_with fail
    go_ret
    exact ⟨by rw [HNO.out]; rfl, HB1.out⟩
   ·have d3 : decide (sz < E) = false := decide_eq_false hE2
    have HE3 := Lh hE2
    clear hE2
    go_wp2_with fail
    try rw [s2]
    clear d3 s1 s2 d1 d2
    go_loopw [7] (fun t wr => ∃ k : Nat, k ≤ n ∧ t = .int .i64 (k : Int) ∧ (∀ q, q < k → ¬ (q ≠ i ∧ y.off ≤ (L.getD q z0).off ∧ (L.getD q z0).off < E)) ∧ Below w.heap.size w wr) (fun t _ => n - (intOf t).toNat)
    case atStart => exact ⟨0, Nat.zero_le _, rfl, fun q hq => absurd hq (Nat.not_lt_zero q), HB1.out⟩
    case round =>
     obtain ⟨k, hk, rfl, hQ, hB⟩ := hrel
     rename World => wk
     by_cases hkn : k < n
     ·have d1 : decide ((k : Int) < (n : Int)) = true := decide_eq_true (by omega)
      have d2 : decide (k < n) = true := decide_eq_true hkn
      have q0 : (0 : Int) ≤ (k : Int) := by omega
      have q1 : (k : Int) < (n : Int) := by omega
      obtain ⟨y0c, y1c, y2c, y3c⟩ := HC.out i HI.out wk hB
      obtain ⟨u0c, u1c, u2c, u3c⟩ := HC.out k hkn wk hB
      rw [HGY.out] at y2c
      generalize hgu : L.getD k z0 = u at *
      have HGU := Lh hgu
      have p0 : (0 : Int) ≤ (i : Int) := by omega
      have p1 : (i : Int) < (n : Int) := by have := HI.out; omega
      have HQ := Lh hQ
      have HB2 := Lh hB
      have HK := Lh hkn
      have hw := w64s8 k (by have := HN.out; omega)
      clear y0c y1c y3c u0c u1c u3c hgu hQ hB hk hkn
      have next : ∀ nq, ¬ (k ≠ i ∧ y.off ≤ u.off ∧ u.off < E) → (∀ q, q < k + 1 → ¬ (q ≠ i ∧ y.off ≤ (L.getD q z0).off ∧ (L.getD q z0).off < E)) ∧ Below w.heap.size w (wk.drewN nq) := fun nq hno => ⟨fun q hq => by
       rcases Nat.lt_or_ge q k with h | h
       ·exact HQ.out q h
       ·obtain rfl : q = k := by omega
        rw [HGU.out]
        exact hno, bt HB2.out (below_drewN wk nq)⟩
      have NX := Lh next
      clear next
      by_cases e1 : k = i
      ·have b1 : ((k : Int) == (i : Int)) = true := by rw [e1]; exact beq_self_eq_true _
       have b2 : decide ((k : Int) = (i : Int)) = true := decide_eq_true (by omega)
       have b3 : decide (k = i) = true := decide_eq_true e1
       have b4 : ((k : Int) != (i : Int)) = false := by rw [bne, b1]; rfl
       have HE1 := Lh e1
       clear e1
       go_wp2_with fail
       go_quiet (fail)
       have hn2 := NX.out nq (fun h => h.1 HE1.out)
       have HN2 := Lh hn2
       clear hn2
       generalize wk.drewN nq = W2 at *
       clear y2c u2c
       go_wp2_with fail
       go_roundw
       case rel => exact ⟨k + 1, HK.out, by go_num, HN2.out.1, HN2.out.2⟩
       case measure => exact meas8 n k HK.out (by have := HN.out; omega)
      ·have b1 : ((k : Int) == (i : Int)) = false := beq_false_of_ne (by omega)
       have b2 : decide ((k : Int) = (i : Int)) = false := decide_eq_false (by omega)
       have b3 : decide (k = i) = false := decide_eq_false e1
       have b4 : ((k : Int) != (i : Int)) = true := by rw [bne, b1]; rfl
       have HE1 := Lh e1
       clear e1
       by_cases e2 : y.off ≤ u.off
       ·have b5 : decide (y.off ≤ u.off) = true := decide_eq_true e2
        have HE2 := Lh e2
        clear e2
        by_cases e3 : u.off < E
        ·have b6 : decide (u.off < E) = true := decide_eq_true e3
         have HNO := Lh (apB_f (L := L) (n := sz) (fun h => by
          have h1 := ((ap_ends HPOS.out).1 h i (by have := HN.out.1; have := HI.out; omega)).2 k (by have := HN.out.1; have := HK.out; omega)
          rw [HGY.out, HGU.out] at h1
          have h2 := HE.out
          have h3 : szT y = szI6 y.sz := rfl
          exact h1 ⟨HE1.out, HE2.out, by omega⟩))
         clear e3
         go_wp2_with fail
         go_quiet (fail)
         have HB3 := Lh (bt HB2.out (below_drewN wk nq))
         generalize wk.drewN nq = W2 at *
         clear y2c u2c
         go_wp2_with fail
         go_ret
         exact ⟨by rw [HNO.out]; rfl, HB3.out⟩
        ·have b6 : decide (u.off < E) = false := decide_eq_false e3
         have HE3 := Lh e3
         clear e3
         go_wp2_with fail
         go_quiet (fail)
         have hn2 := NX.out nq (fun h => absurd h.2.2 (by have := HE3.out; omega))
         have HN2 := Lh hn2
         clear hn2
         generalize wk.drewN nq = W2 at *
         clear y2c u2c
         go_wp2_with fail
         go_roundw
         case rel => exact ⟨k + 1, HK.out, by go_num, HN2.out.1, HN2.out.2⟩
         case measure => exact meas8 n k HK.out (by have := HN.out; omega)
       ·have b5 : decide (y.off ≤ u.off) = false := decide_eq_false e2
        have HE2 := Lh e2
        clear e2
        go_wp2_with fail
        go_quiet (fail)
        have hn2 := NX.out nq (fun h => absurd h.2.1 (by have := HE2.out; omega))
        have HN2 := Lh hn2
        clear hn2
        generalize wk.drewN nq = W2 at *
        clear y2c u2c
        go_wp2_with fail
        go_roundw
        case rel => exact ⟨k + 1, HK.out, by go_num, HN2.out.1, HN2.out.2⟩
        case measure => exact meas8 n k HK.out (by have := HN.out; omega)
     ·obtain rfl : k = n := by omega
      have d1 : decide ((k : Int) < (k : Int)) = false := decide_eq_false (by omega)
      have d2 : decide (k < k) = false := decide_eq_false (by omega)
      have HEN := Lh (show enP L sz i from ⟨by rw [HGY.out]; have h2 := HE.out; have h3 : szT y = szI6 y.sz := rfl; have := HE3.out; omega, fun q hq h => hQ q (by have := HN.out.1; omega) (by rw [HGY.out] at h; have h2 := HE.out; have h3 : szT y = szI6 y.sz := rfl; exact ⟨h.1, h.2.1, by omega⟩)⟩)
      have HB2 := Lh hB
      have hw := w64s8 i (by have := HN.out; have := HI.out; omega)
      clear hQ hB hk hkn
      go_wp2_with fail
      go_roundw
      case rel => exact ⟨i + 1, HI.out, by go_num, fun j hj => by
       rcases Nat.lt_or_ge j i with h | h
       ·exact HP.out j h
       ·obtain rfl : j = i := by omega
        exact HEN.out, HB2.out⟩
      case measure => exact meas8 k i HI.out (by have := HN.out; omega)
  ·obtain rfl : i = n := by omega
   have d1 : decide ((i : Int) < (i : Int)) = false := decide_eq_false (by omega)
   have d2 : decide (i < i) = false := decide_eq_false (by omega)
   have HYES := Lh (apB_t ((ap_ends HPOS.out).2 (fun j hj => hP j (by have := HN.out.1; omega))))
   have HB := Lh hB
   clear hP hB hi hin
   go_wp2_with fail
   go_ret
   exact ⟨by rw [HYES.out]; rfl, HB.out⟩
end Go.Proofs.YtbmlpafbdbhaiaaGreatDoor.Gf
