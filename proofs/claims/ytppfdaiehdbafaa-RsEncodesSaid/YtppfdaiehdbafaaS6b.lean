/- What is proved here: the walk of the law RsEncodes. No condition. -/
import Derived.Test.YtppfdaiehdbafaaS6a
namespace Go.Proofs.Ytppfdaiehdbafaa.Gf
open Go Go.ChangeShapes Go.WideShapes Go.ChangeAt Go.RowKit Go.Sort Go.Proofs.Ytppfdaiehdbafaa.By Go.Proofs.Ytppfdaiehdbafaa.Qt

set_option maxRecDepth 100000 in
set_option maxHeartbeats 6400000 in
theorem encodes_walk (v0 v1 v2 : Value) (l0 l1 : List (List Nat)) (l2 : List Nat) (n3 : Int) (w : World) (s0 : Sr w v0 l0) (s1 : Sr w v1 l1) (s2 : Sl w v2 l2) : Calls Try.prog 4 #[v0, v1, v2, .int .i64 n3] w fun e w' => e = .returned (.bool true) ∧ Below w.heap.size w w' := by
  obtain ⟨a0, c0, hv0, -, -⟩ := sr_form s0
  obtain ⟨m0, hm0⟩ : ∃ q, q = l0.length := ⟨_, rfl⟩
  rw [← hm0] at hv0
  subst hv0
  have LI := Lib.hid (light_any _ l0 w s0)
  have LJ := Lib.hid (light_any _ l1 w s1)
  have S0 := Lib.hid s0
  have S1 := Lib.hid s1
  have S2 := Lib.hid s2
  clear s0 s1 s2 hm0
  go_enter Try.func4, Try.ntmps4
  go_wp2_with fail
  refine LI.out.mono ?_
  rintro e w0 ⟨rfl, rfl⟩
  by_cases hl : Lgt l0
  · rw [decide_eq_true hl]
    have hsm := hl.small
    go_wp2_with fail
    refine LJ.out.mono ?_
    rintro e w0 ⟨rfl, rfl⟩
    by_cases hl1 : Lgt l1
    · rw [decide_eq_true hl1]
      have HSM1 := Lib.hid hl1.small
      go_wp2_with fail
      refine (data_any v2 l2 n3 w S2.out).mono ?_
      rintro e w4 ⟨⟨d1, vs1, L1, rfl, hO1, hL1⟩, hb1⟩
      obtain ⟨av, cv, hv⟩ := ownsRow_form hO1.row
      obtain ⟨nn, hnn⟩ : ∃ q, q = vs1.length := ⟨_, rfl⟩
      rw [← hnn] at hv
      subst hv
      have hal := (Below.refl w4.heap.size w4).alloc (Nat.le_refl _) (.cells #[.slice a0 m0 c0, .slice av nn cv] 35)
      have hblk := heap_alloc_new w4 (.cells #[.slice a0 m0 c0, .slice av nn cv] 35)
      have hcell : ∀ k, k < 2 → ∃ a m c S, (w4.alloc (.cells #[.slice a0 m0 c0, .slice av nn cv] 35)).cell? ⟨w4.heap.size, k, none⟩ = some (.slice a m c) ∧ Sr (w4.alloc (.cells #[.slice a0 m0 c0, .slice av nn cv] 35)) (.slice a m c) S ∧ Small S := fun k hk => by
        match k, hk with
        | 0, _ => exact ⟨a0, m0, c0, l0, cell_of_row _ _ _ _ _ _ hblk, sr_below (sr_below S0.out hb1) hal, hsm⟩
        | 1, _ => exact ⟨av, nn, cv, L1, cell_of_row _ _ _ _ _ _ hblk, sr_below hO1.sr hal, lv_small hL1 (by have := kk_lt n3; omega)⟩
      have B5 := Lib.hid (bt hb1 hal)
      have HC := Lib.hid hcell
      clear hal hblk hcell hO1 hL1 hb1 hnn S0 S2 hsm
      go_wp2_with fail
      generalize w4.alloc (.cells #[.slice a0 m0 c0, .slice av nn cv] 35) = W5 at *
      generalize w4.heap.size = g at *
      go_loopw [30] (fun t wr => ∃ k : Nat, k ≤ 2 ∧ t = .int .i64 (k : Int) ∧ Below W5.heap.size W5 wr) (fun t _ => 2 - (intOf t).toNat)
      case atStart => exact ⟨0, by omega, rfl, Below.refl _ _⟩
      case round =>
        obtain ⟨k, hk, rfl, hB⟩ := hrel
        by_cases hkn : k < 2
        · obtain ⟨a, m, c, S, e1, e2, e3⟩ := HC.out k hkn
          have f1 := (hB.cell (p := ⟨g, k, none⟩) (block_lt_of_cell e1)).trans e1
          have HB := Lib.hid hB
          have HS := Lib.hid (sr_below e2 hB)
          have p0 : (0 : Int) ≤ (k : Int) := by omega
          have p1 : (k : Int) < 2 := by omega
          clear e1 e2 hB
          go_wp2_with fail
          refine (encode_any _ S wr HS.out e3).mono ?_
          unfold EP
          rintro e w6 ⟨⟨x6, rfl, hx6⟩, hb6⟩
          have H6 := Lib.hid hx6
          have B6 := Lib.hid hb6
          clear hx6 hb6 f1
          go_wp2_with fail
          refine (rencode_any _ S w6 (sr_below HS.out B6.out) e3).mono ?_
          unfold EP
          rintro e w7 ⟨⟨x7, rfl, hx7⟩, hb7⟩
          have hsame := rsame_any x6 x7 _ _ w7 (sr_below H6.out hb7) hx7
          rw [decide_eq_true rfl] at hsame
          have SM := Lib.hid hsame
          have B7 := Lib.hid (bt (bt HB.out B6.out) hb7)
          have hne : (encE S != encE S) = false := by simp
          generalize encE S = E at *
          clear hsame hx7 hb7 H6 B6 HB
          go_wp2_with (go_at_call 20; refine SM.out.mono ?_; rintro e w8 ⟨rfl, hb8⟩; have B8 := Lib.hid (bt B7.out hb8); clear hb8)
          go_roundw
          case rel => exact ⟨k + 1, by omega, by go_num, B8.out⟩
          case measure => simp [intOf]; omega
        · obtain rfl : k = 2 := by omega
          have HB := Lib.hid (bt B5.out hB)
          clear hB
          obtain ⟨z, hz⟩ : ∃ z, z = decide (Ver l1) := ⟨_, rfl⟩
          have V1 := Lib.hid (verify_any v1 l1 wr (sr_below S1.out HB.out) HSM1.out)
          rw [← hz] at V1
          have HZ := Lib.hid hz
          clear hz
          have hzz : (z == z) = true := by simp
          go_wp2_with fail
          refine V1.out.mono ?_
          rintro e w8 ⟨rfl, hb8⟩
          have B8 := Lib.hid (bt HB.out hb8)
          have V2 := Lib.hid (rverify_any v1 l1 w8 (sr_below S1.out B8.out) HSM1.out)
          rw [← HZ.out] at V2
          clear hb8
          go_wp2_with fail
          refine V2.out.mono ?_
          rintro e w9 ⟨rfl, hb9⟩
          have B9 := Lib.hid (bt B8.out hb9)
          clear hb9
          go_wp2_with fail
          refine (awake4_any w9).mono ?_
          rintro e w10 ⟨rfl, hb10⟩
          go_wp2_with fail
          go_ret
          exact ⟨rfl, bt B9.out hb10⟩
    · rw [decide_eq_false hl1]
      go_wp2_with fail
      refine (awake4_any w).mono ?_
      rintro e w9 ⟨rfl, hb9⟩
      go_wp2_with fail
      go_ret
      exact ⟨rfl, hb9⟩
  · rw [decide_eq_false hl]
    go_wp2_with fail
    refine (awake4_any w).mono ?_
    rintro e w9 ⟨rfl, hb9⟩
    go_wp2_with fail
    go_ret
    exact ⟨rfl, hb9⟩
end Go.Proofs.Ytppfdaiehdbafaa.Gf
