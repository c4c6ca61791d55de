/- What is proved here: the walk of the law RsRestores; slices of bools that came in. No condition. -/
import Derived.Test.YtppfdaiehdbafaaS6a
import Derived.Deep.Grids
namespace Go.Proofs.Ytppfdaiehdbafaa.Gf
open Go Go.ChangeShapes Go.WideShapes Go.ChangeAt Go.RowKit Go.Sort Go.Proofs.Ytppfdaiehdbafaa.By Go.Proofs.Ytppfdaiehdbafaa.Qt

theorem cellsB4 : Try.prog.cellsOf 4 = 1 := by kernel_rfl
theorem sb_open {H : Type} {enc : TypeId × Value → H} {W : World} {base : Nat} {v : Value} {d : DataW H} {p : List MemPlace} (hv : Value.okWide Try.prog W .any base 43 v) (h : DataW.Trod enc Try.prog W 0 (fun _ => true) true 43 v d p) : ∃ l, Sb W v l := by
  obtain ⟨a, len, cap, rfl⟩ := okWide_slice Try.underlying43 hv
  obtain ⟨fuel, hf⟩ := h
  rcases Deep.open_bools Try.underlying43 Try.underlying4 cellsB4 hf with ⟨hcs, _⟩ | ⟨x, l, c, B, hcs, _, hl, hm, _, hcell⟩
  · simp [Value.cells] at hcs
    obtain ⟨rfl, rfl, rfl⟩ := hcs
    exact ⟨[], by simp, Or.inl ⟨none, 0, rfl, rfl, by simp⟩⟩
  · simp [Value.cells] at hcs
    obtain ⟨rfl, rfl, rfl⟩ := hcs
    have hlen : ((List.range len).map B).length = len := by simp
    refine ⟨(List.range len).map B, by rw [hlen]; omega, ?_⟩
    by_cases h0 : 0 < cap
    · refine Or.inr ?_
      obtain ⟨b, off, spot⟩ := x
      have hc := hcell 0 (by omega)
      have hspot : spot = none := by simpa [Addr.add] using World.cell?_spot hc
      subst hspot
      refine ⟨b, off, cap, by rw [hlen], by omega, hm, fun k hk => ?_⟩
      rw [hlen] at hk
      have hck := hcell k (by omega)
      rw [add_none] at hck
      rw [hck]
      simp [List.getD, hk]
    · exact Or.inl ⟨some x, cap, by rw [show len = 0 by omega], List.eq_nil_of_length_eq_zero (by rw [hlen]; omega), hm⟩
/-- Six shards out of four data shards. -/
theorem enc_lv {m : Nat} {L : List (List Nat)} (h : Lv 4 m L) : encL L = encW L m ∧ encE L = 0 := by
  have hl := lv_lev h
  unfold encL encE
  rw [if_pos hl, if_pos hl, wid_lv h (by decide)]
  exact ⟨rfl, rfl⟩
set_option maxRecDepth 100000 in
set_option maxHeartbeats 6400000 in
theorem restores_walk (v0 v1 v2 : Value) (l0 : List (List Nat)) (l1 : List Bool) (l2 : List Nat) (n3 : Int) (w : World) (s0 : Sr w v0 l0) (s1 : Sb w v1 l1) (s2 : Sl w v2 l2) : Calls Try.prog 5 #[v0, v1, v2, .int .i64 n3] w fun e w' => e = .returned (.bool true) ∧ Below w.heap.size w w' := by
  obtain ⟨a1, c1, hv1, -, -⟩ := sb_form s1
  obtain ⟨m1, hm1⟩ : ∃ q, q = l1.length := ⟨_, rfl⟩
  rw [← hm1] at hv1
  subst hv1
  obtain ⟨a0, c0, hv0, -, -⟩ := sr_form s0
  obtain ⟨m0, hm0⟩ : ∃ q, q = l0.length := ⟨_, rfl⟩
  rw [← hm0] at hv0
  subst hv0
  have LI := Lib.hid (light_any _ l0 w s0)
  have S0 := Lib.hid s0
  have S1 := Lib.hid s1
  have S2 := Lib.hid s2
  clear s0 s1 s2 hm1 hm0
  go_enter Try.func5, Try.ntmps5
  go_wp2_with fail
  refine LI.out.mono ?_
  rintro e w0 ⟨rfl, rfl⟩
  by_cases hl : Lgt l0
  · rw [decide_eq_true hl]
    have hsm := hl.small
    by_cases h20 : (20 : Int) < (m1 : Int)
    · go_wp2_with fail
      refine (awake4_any w).mono ?_
      rintro e w9 ⟨rfl, hb9⟩
      go_wp2_with fail
      go_ret
      exact ⟨rfl, hb9⟩
    · go_wp2_with fail
      refine (data_any v2 l2 n3 w S2.out).mono ?_
      rintro e w1 ⟨⟨d1, vs1, L1, rfl, hO1, hL1⟩, hb1⟩
      have hen := rencode_any d1 L1 w1 hO1.sr (lv_small hL1 (by have := kk_lt n3; omega))
      rw [(enc_lv hL1).1, (enc_lv hL1).2] at hen
      have hX : (encW L1 (kk n3)).length = 2 := appR_length ..
      have hsm2 : Small (encW L1 (kk n3)) := lv_small (c := 2) (m := kk n3) (appR_lv (fun i hi k hk => bd_vx [0, 1, 2, 3] (i + 4) (by omega) k hk) hL1) (by have := kk_lt n3; omega)
      generalize encW L1 (kk n3) = X at *
      have HE := Lib.hid hen
      have B1 := Lib.hid hb1
      clear hen hO1 hL1 hb1
      go_wp2_with fail
      refine HE.out.mono ?_
      unfold EP
      rintro e w2 ⟨⟨x2, rfl, hs2⟩, hb2⟩
      obtain ⟨xa, xc, hx2, -, -⟩ := sr_form hs2
      rw [hX] at hx2
      subst hx2
      have B2 := Lib.hid (bt B1.out hb2)
      have X2 := Lib.hid hs2
      clear HE B1 hb2 hs2
      go_wp2_with fail
      refine (data_any v2 l2 n3 w2 (sl_below S2.out B2.out)).mono ?_
      rintro e w3 ⟨⟨d3, vs3, L3, rfl, hO3, hL3⟩, hb3⟩
      obtain ⟨oa, oc, hv⟩ := ownsRow_form hO3.row
      obtain ⟨on, hon⟩ : ∃ q, q = vs3.length := ⟨_, rfl⟩
      rw [← hon] at hv
      subst hv
      have hsrc := X2.out.src (by omega) (Nat.le_refl _) hb3
      have hsm3 : Small (L3 ++ X) := fun k => by
        by_cases hk : k < 4
        · have : (L3 ++ X).getD k [] = L3.getD k [] := by simp [List.getD, List.getElem?_append, hL3.len, hk]
          rw [this]
          exact lv_small hL3 (by have := kk_lt n3; omega) k
        · have : (L3 ++ X).getD k [] = X.getD (k - 4) [] := by simp [List.getD, List.getElem?_append, hL3.len, hk]
          rw [this]
          exact hsm2 _
      have HSRC := Lib.hid hsrc
      have HO3 := Lib.hid hO3
      have HB3 := Lib.hid hb3
      have HX := Lib.hid hX
      have HL3 := Lib.hid hL3.len
      have B3 := Lib.hid (bt B2.out hb3)
      clear hsrc hO3 hb3 hL3 hX hon hsm2 X2
      go_wp2_with (at_builtin; refine app_rows (dst := some 37) (n := 4) (P := X) ?_ ?_ HO3.out HL3.out HSRC.out (by rw [HX.out]; decide) HB3.out.size ?_; exact rfl; exact rfl; intro v4 w4 ys ho4 hg4; obtain ⟨av, cv, hv4⟩ := ownsRow_form ho4.row; obtain ⟨nn, hnn⟩ : ∃ q, q = (vs3 ++ ys).length := ⟨_, rfl⟩; rw [← hnn] at hv4; clear hnn; subst hv4; have HO4 := Lib.hid ho4; have HG4 := Lib.hid hg4; clear ho4 hg4)
      have tB := B3.out.grown HG4.out B3.out.size fun q hq => Nat.le_trans B2.out.size (HO3.out.row.lt q hq).1
      have hal := (Below.refl w4.heap.size w4).alloc (Nat.le_refl _) (.cells #[.slice a0 m0 c0, .slice av nn cv] 35)
      have hblk := heap_alloc_new w4 (.cells #[.slice a0 m0 c0, .slice av nn cv] 35)
      have hcell : ∀ k, k < 2 → ∃ a m c S, (w4.alloc (.cells #[.slice a0 m0 c0, .slice av nn cv] 35)).cell? ⟨w4.heap.size, k, none⟩ = some (.slice a m c) ∧ Sr (w4.alloc (.cells #[.slice a0 m0 c0, .slice av nn cv] 35)) (.slice a m c) S ∧ Small S := fun k hk => by
        match k, hk with
        | 0, _ => exact ⟨a0, m0, c0, l0, cell_of_row _ _ _ _ _ _ hblk, sr_below (sr_below S0.out tB) hal, hsm⟩
        | 1, _ => exact ⟨av, nn, cv, L3 ++ X, cell_of_row _ _ _ _ _ _ hblk, sr_below HO4.out.sr hal, hsm3⟩
      have B5 := Lib.hid (bt tB hal)
      have HC := Lib.hid hcell
      clear tB hal hblk hcell HO4 HG4 HSRC HO3 HB3 HX HL3 B3 B2 S0 S2 hsm hsm3
      generalize w4.alloc (.cells #[.slice a0 m0 c0, .slice av nn cv] 35) = W5 at *
      generalize w4.heap.size = g at *
      go_loopw [42] (fun t wr => ∃ k : Nat, k ≤ 2 ∧ t = .int .i64 (k : Int) ∧ Below W5.heap.size W5 wr) (fun t _ => 2 - (intOf t).toNat)
      case atStart => exact ⟨0, by omega, rfl, Below.refl _ _⟩
      case round =>
        obtain ⟨k, hk, rfl, hB⟩ := hrel
        by_cases hkn : k < 2
        · obtain ⟨a, m, c, S, e1, e2, e3⟩ := HC.out k hkn
          have f1 := (hB.cell (p := ⟨g, k, none⟩) (block_lt_of_cell e1)).trans e1
          have HB := Lib.hid hB
          have HS := Lib.hid (sr_below e2 hB)
          have H1 := Lib.hid (sb_below S1.out (bt B5.out hB))
          have p0 : (0 : Int) ≤ (k : Int) := by omega
          have p1 : (k : Int) < 2 := by omega
          clear e1 e2 hB
          go_wp2_with fail
          refine (restore_any _ _ S l1 wr HS.out H1.out e3).mono ?_
          unfold EP
          rintro e w6 ⟨⟨x6, rfl, hx6⟩, hb6⟩
          have H6 := Lib.hid hx6
          have B6 := Lib.hid hb6
          clear hx6 hb6 f1
          go_wp2_with fail
          refine (rrestore_any _ _ S l1 w6 (sr_below HS.out B6.out) (sb_below H1.out B6.out) e3).mono ?_
          unfold EP
          rintro e w7 ⟨⟨x7, rfl, hx7⟩, hb7⟩
          have hsame := rsame_any x6 x7 _ _ w7 (sr_below H6.out hb7) hx7
          rw [decide_eq_true rfl] at hsame
          have SM := Lib.hid hsame
          have B7 := Lib.hid (bt (bt HB.out B6.out) hb7)
          have hne : (resE S l1 != resE S l1) = false := by simp
          generalize resE S l1 = E at *
          clear hsame hx7 hb7 H6 B6 HB
          go_wp2_with (go_at_call 20; refine SM.out.mono ?_; rintro e w8 ⟨rfl, hb8⟩; have B8 := Lib.hid (bt B7.out hb8); clear hb8)
          go_roundw
          case rel => exact ⟨k + 1, by omega, by go_num, B8.out⟩
          case measure => simp [intOf]; omega
        · obtain rfl : k = 2 := by omega
          have HB := Lib.hid (bt B5.out hB)
          clear hB
          go_wp2_with fail
          refine (awake4_any wr).mono ?_
          rintro e w9 ⟨rfl, hb9⟩
          go_wp2_with fail
          go_ret
          exact ⟨rfl, bt HB.out hb9⟩
  · rw [decide_eq_false hl]
    go_wp2_with fail
    refine (awake4_any w).mono ?_
    rintro e w9 ⟨rfl, hb9⟩
    go_wp2_with fail
    go_ret
    exact ⟨rfl, hb9⟩
end Go.Proofs.Ytppfdaiehdbafaa.Gf
