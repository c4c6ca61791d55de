/- What is proved here: the law DiskPower answers true. No condition but the range of its arguments. -/
import Derived.Test.YtpjkgbngiifkmaaK10H
namespace Go.Proofs.Ytpjkgbngiifkmaa.Gf
open Go Go.Joins Go.ChangeShapes Go.WideShapes Go.ChangeAt Go.RowKit Go.Deep Go.Proofs.Ytpjkgbngiifkmaa.By Go.Proofs.Ytpjkgbngiifkmaa.Qt

theorem nmFf : nameB ⟨#[102]⟩ = true := by decide
/-- The writes of single bytes 1, one behind the other. -/
def pw (j : Nat) : List Wr := (List.range j).map fun (i : Nat) => ((i : Int), [1], false)
theorem pw_len (j : Nat) : (pw j).length = j := by simp [pw]
theorem pw_snoc (j : Nat) : pw (j + 1) = pw j ++ [((j : Int), [1], false)] := by
  unfold pw
  rw [List.range_succ, List.map_append]
  rfl
theorem pw_apL : ∀ j, (apL [] (pw j)).length = j
  | 0 => rfl
  | j + 1 => by
    have ih := pw_apL j
    have h := apL_end [] (pw j) [1]
    rw [ih] at h
    rw [pw_snoc, h, List.length_append, ih]
    rfl
theorem pw_ok : ∀ j, j ≤ 100 → flB [] (pw j) = true
  | 0, _ => by decide
  | j + 1, h => by
    have ih := pw_ok j (by omega)
    have h2 := flB_end (x := [1]) ih (by rw [pw_apL]; simp; omega)
    rw [pw_apL] at h2
    rw [pw_snoc]
    exact h2
theorem pw_keep (j : Nat) (hj : j ≤ 100) : keepW (pw j) 100 0 = pw j := by
  unfold keepW
  have h : nKp 100 (pw j).length = (pw j).length := by unfold nKp; rw [pw_len]; omega
  rw [h, if_neg (by intro h; omega), List.append_nil, List.take_length]
theorem pw_app {left : Int} {j : Nat} (hl : -1 ≤ left) (h0 : left ≠ 0) (hj : j ≤ 100) : appendE (oneD left ⟨#[102]⟩ [] (pw j)) ⟨#[102]⟩ [1] = 0 ∧ appendD (oneD left ⟨#[102]⟩ [] (pw j)) ⟨#[102]⟩ [1] = oneD (leftN left) ⟨#[102]⟩ [] (pw (j + 1)) := by
  have hx : (apL [] (pw j)).length + [1].length ≤ 1048576 := by rw [pw_apL]; simp; omega
  refine ⟨one_appE hl nmFf (pw_ok j hj) h0 hx, ?_⟩
  rw [one_app hl nmFf (pw_ok j hj) h0 hx, pw_apL, pw_snoc]
theorem arm_one (x : Int) (s : ByteArray) (b : List Nat) (p : List Wr) (hx : 0 ≤ x) : armD (oneD (-1) s b p) x = oneD x s b p := by
  unfold armD
  show (0, max (-1) x, _) = _
  rw [show max (-1) x = x by omega]
set_option maxRecDepth 100000 in
set_option maxHeartbeats 6400000 in
theorem power_any (x y : Nat) (hx : x < 256) (hy : y < 256) (w : World) : Calls Try.prog 11 #[.int .u8 (x : Int), .int .u8 (y : Int)] w fun e w' => e = .returned (.bool true) ∧ Below w.heap.size w w' := by
  have hb0 := Lib.hid (Below.refl w.heap.size w)
  obtain ⟨N, hN⟩ : ∃ N, N = x % 20 := ⟨_, rfl⟩
  obtain ⟨M, hM⟩ : ∃ M, M = y % 40 := ⟨_, rfl⟩
  have HN := Lib.hid (show N < 20 ∧ M < 40 by omega)
  have t1 : Int.tmod (x : Int) 20 = (N : Int) := by rw [Int.tmod_eq_emod_of_nonneg (by omega)]; omega
  have t2 : Int.tmod (y : Int) 40 = (M : Int) := by rw [Int.tmod_eq_emod_of_nonneg (by omega)]; omega
  have T := Lib.hid (And.intro t1 t2)
  clear hN hM t1 t2 hx hy
  go_enter Try.func11, Try.ntmps11
  go_wp2_with fail
  refine (pnew_any 0 (by decide) (fun _ => False) _).mono ?_
  rintro e w1 ⟨⟨v1, rfl, hv1⟩, hb1⟩
  have V1 := Lib.hid (dvB_dv hv1)
  have B1 := Lib.hid hb1
  clear hv1 hb1 hb0
  go_wp2_with fail
  refine (pcreate_any v1 (newD 0) ⟨#[102]⟩ (by unfold maxLen; decide) 10 _ V1.out (new_sm 0) (new_pn 0 10) (by decide)).mono ?_
  rw [new_createE nmFf, new_create nmFf]
  rintro e w5 ⟨⟨v5, rfl, hv5⟩, hb5⟩
  obtain ⟨a5, c5, rfl, r5⟩ := dv_form hv5
  have R5 := Lib.hid (show Rd (fun _ => True) w5 (.sl tyF) [.slice a5 1 c5] [(⟨#[102]⟩, [], [])] from r5)
  have B5 := Lib.hid (btA B1.out hb5)
  clear hv5 hb5 V1 B1 r5
  have hx5 : (.agg #[.int .i64 (oneD (-1) ⟨#[102]⟩ [] []).1, .int .i64 (oneD (-1) ⟨#[102]⟩ [] []).2.1, .slice a5 (oneD (-1) ⟨#[102]⟩ [] []).2.2.length c5] : Value) = .agg #[.int .i64 0, .int .i64 (-1), .slice a5 1 c5] := rfl
  rw [hx5]
  clear hx5
  go_upto_region 2 with fail
  have q6 := bel_al0 w5 (.cells #[.int .i64 0, .int .i64 (-1), .slice a5 1 c5] 33)
  have HX6 := Lib.hid (heap_alloc_new w5 (.cells #[.int .i64 0, .int .i64 (-1), .slice a5 1 c5] 33))
  have R6 := Lib.hid (rd_below R5.out q6)
  have B6 := Lib.hid (btA B5.out q6)
  have HG := Lib.hid (show w.heap.size ≤ w5.heap.size from B5.out.size)
  clear q6 R5 B5
  generalize w5.alloc (.cells #[.int .i64 0, .int .i64 (-1), .slice a5 1 c5] 33) = w6 at *
  generalize w5.heap.size = g at *
  obtain ⟨x0, x1, x2⟩ := box3c HX6.out
  obtain ⟨t1, t2⟩ := T.out
  have e1 : IntKind.i64.wrap (N : Int) = (N : Int) := IntWalk.i64_in _ (by have := HN.out; omega)
  have e2 : IntKind.i64.wrap (M : Int) = (M : Int) := IntWalk.i64_in _ (by have := HN.out; omega)
  go_wp2_with fail
  refine (parm_any (B := fun _ => True) _ (oneD (-1) ⟨#[102]⟩ [] []) (N : Int) (by have := HN.out; omega) _ (d10 (-1) (by decide) R6.out)).mono ?_
  rw [arm_one _ _ _ _ (by omega)]
  rintro e w7 ⟨⟨v7, rfl, hv7⟩, hb7⟩
  obtain ⟨a7, c7, rfl, r7⟩ := dv_form hv7
  have R7 := Lib.hid (show Rd (fun _ => True) w7 (.sl tyF) [.slice a7 1 c7] [(⟨#[102]⟩, [], pw 0)] from r7)
  have HX7 := Lib.hid ((hb7.block _ (lt_of_some0 HX6.out)).trans HX6.out)
  have B7 := Lib.hid (btA B6.out hb7)
  clear hv7 hb7 HX6 R6 B6 r7 x0 x1 x2
  have hx7 : (.agg #[.int .i64 (oneD (N : Int) ⟨#[102]⟩ [] []).1, .int .i64 (oneD (N : Int) ⟨#[102]⟩ [] []).2.1, .slice a7 (oneD (N : Int) ⟨#[102]⟩ [] []).2.2.length c7] : Value) = .agg #[.int .i64 0, .int .i64 (N : Int), .slice a7 1 c7] := rfl
  rw [hx7]
  clear hx7
  obtain ⟨x0, x1, x2⟩ := box3c HX7.out
  have u0 := frozen_of_row w7 g 0 _ _ HX7.out
  have u1 := frozen_of_row w7 g 1 _ _ HX7.out
  have u2 := frozen_of_row w7 g 2 _ _ HX7.out
  have HX8 := Lib.hid (set3c (k := .int .i64 0) (l := .int .i64 (N : Int)) (m := .slice a7 1 c7) HX7.out)
  have R8 := Lib.hid (rd_boxset (x' := 0) (y' := (N : Int)) (a' := a7) (n' := 1) (c' := c7) HX7.out R7.out)
  have B8 := Lib.hid (below_set3 (k := .int .i64 0) (l := .int .i64 (N : Int)) (m := .slice a7 1 c7) B7.out HG.out)
  go_upto_region 3 with fail
  clear x0 x1 x2 u0 u1 u2 HX7 R7 B7
  generalize ((w7.setCell ⟨g, 0, none⟩ (.int .i64 0)).setCell ⟨g, 1, none⟩ (.int .i64 (N : Int))).setCell ⟨g, 2, none⟩ (.slice a7 1 c7) = w8 at *
  go_wp2_with fail
  go_loopw [7, 8] (fun t7 t8 wr => ∃ j : Nat, j ≤ N ∧ j ≤ M ∧ t7 = .int .i64 (j : Int) ∧ t8 = .int .i64 (j : Int) ∧ Hid (∃ a c, wr.heap[g]? = some (.cells #[.int .i64 0, .int .i64 ((N - j : Nat) : Int), .slice a 1 c] 33 (0, 0)) ∧ Rd (fun _ => True) wr (.sl tyF) [.slice a 1 c] [(⟨#[102]⟩, [], pw j)]) ∧ Hid (Below w.heap.size w wr)) (fun _ t _ => M - (intOf t).toNat)
  case atStart => exact ⟨0, by omega, by omega, rfl, rfl, Lib.hid ⟨a7, c7, HX8.out, R8.out⟩, B8⟩
  case round =>
    clear HX8 R8 B8
    obtain ⟨j, hjN, hjM, rfl, rfl, HB, BB⟩ := hrel
    obtain ⟨a, c, hx, hr⟩ := HB.out
    have HX := Lib.hid hx
    have R := Lib.hid hr
    clear hx hr HB
    obtain ⟨t1, t2⟩ := T.out
    by_cases hk : j < M
    · have l1 : decide ((j : Int) < (M : Int)) = true := decide_eq_true (by omega)
      have l2 : decide (j < M) = true := decide_eq_true hk
      obtain ⟨x0, x1, x2⟩ := box3c HX.out
      go_upto_region 7 with fail
      go_wp2_with fail
      have q7 := bel_al0 wr (.cells #[.int .u8 1] 5)
      have SB := sl_block (l := [1]) (by decide) rfl (by unfold maxLen; decide) rfl (heap_alloc_new wr (.cells #[.int .u8 1] 5))
      by_cases hj : j < N
      · refine (pappend_any _ (oneD ((N - j : Nat) : Int) ⟨#[102]⟩ [] (pw j)) ⟨#[102]⟩ _ [1] _ SB (by decide) (by unfold maxLen; decide) 100 (d10 _ (by have := HN.out; omega) (rd_below R.out q7)) (one_sm (by omega) nmFf (pw_ok j (by have := HN.out; omega))) (one_pn (by rw [pw_len]; have := HN.out; omega)) (by decide)).mono ?_
        rw [(pw_app (by omega) (by omega) (by have := HN.out; omega)).1, (pw_app (by omega) (by omega) (by have := HN.out; omega)).2, show leftN ((N - j : Nat) : Int) = ((N - (j + 1) : Nat) : Int) by unfold leftN; rw [if_pos (by omega)]; omega]
        rintro e w9 ⟨⟨v9, rfl, hv9⟩, hb9⟩
        obtain ⟨a9, c9, rfl, r9⟩ := dv_form hv9
        have q9 := btA q7 hb9
        have R9 := Lib.hid (show Rd (fun _ => True) w9 (.sl tyF) [.slice a9 1 c9] [(⟨#[102]⟩, [], pw (j + 1))] from r9)
        have HX9 := Lib.hid ((q9.block _ (lt_of_some0 HX.out)).trans HX.out)
        have B9 := Lib.hid (btA BB.out q9)
        clear hv9 hb9 r9 q9 q7 SB HX R BB x0 x1 x2
        obtain ⟨z, hz⟩ : ∃ z : Int, z = ((N - (j + 1) : Nat) : Int) := ⟨_, rfl⟩
        have HZ := Lib.hid hz
        have hx9 : (.agg #[.int .i64 (oneD ((N - (j + 1) : Nat) : Int) ⟨#[102]⟩ [] (pw (j + 1))).1, .int .i64 (oneD ((N - (j + 1) : Nat) : Int) ⟨#[102]⟩ [] (pw (j + 1))).2.1, .slice a9 (oneD ((N - (j + 1) : Nat) : Int) ⟨#[102]⟩ [] (pw (j + 1))).2.2.length c9] : Value) = .agg #[.int .i64 0, .int .i64 z, .slice a9 1 c9] := by rw [hz]; rfl
        rw [hx9]
        clear hx9 hz
        have q10 := bel_al0 w9 (.cells #[.int .i64 0, .int .i64 z, .slice a9 1 c9] 33)
        have HA := Lib.hid (heap_alloc_new w9 (.cells #[.int .i64 0, .int .i64 z, .slice a9 1 c9] 33))
        have R10 := Lib.hid (rd_below R9.out q10)
        have HX10 := Lib.hid ((q10.block _ (lt_of_some0 HX9.out)).trans HX9.out)
        have B10 := Lib.hid (btA B9.out q10)
        clear q10 HX9 R9 B9
        go_upto_region 8 with fail
        generalize w9.alloc (.cells #[.int .i64 0, .int .i64 z, .slice a9 1 c9] 33) = w10 at *
        generalize w9.heap.size = h at *
        obtain ⟨y0, y1, y2⟩ := box3c HA.out
        obtain ⟨x0, x1, x2⟩ := box3c HX10.out
        have u0 := frozen_of_row w10 g 0 _ _ HX10.out
        have u1 := frozen_of_row w10 g 1 _ _ HX10.out
        have u2 := frozen_of_row w10 g 2 _ _ HX10.out
        have HX11 := Lib.hid (set3c (k := .int .i64 0) (l := .int .i64 z) (m := .slice a9 1 c9) HX10.out)
        have R11 := Lib.hid (rd_boxset (x' := 0) (y' := z) (a' := a9) (n' := 1) (c' := c9) HX10.out R10.out)
        have B11 := Lib.hid (below_set3 (k := .int .i64 0) (l := .int .i64 z) (m := .slice a9 1 c9) B10.out HG.out)
        have e3 : IntKind.i64.wrap ((j : Int) + 1) = ((j + 1 : Nat) : Int) := by rw [IntWalk.i64_in _ (by have := HN.out; omega)]; omega
        go_upto_region 6 with fail
        clear x0 x1 x2 y0 y1 y2 u0 u1 u2 HX10 R10 B10 HA
        generalize ((w10.setCell ⟨g, 0, none⟩ (.int .i64 0)).setCell ⟨g, 1, none⟩ (.int .i64 z)).setCell ⟨g, 2, none⟩ (.slice a9 1 c9) = w11 at *
        go_wp2
        go_roundw
        case rel => exact ⟨j + 1, by omega, by omega, by go_num, by go_num, Lib.hid ⟨a9, c9, by rw [← HZ.out]; exact HX11.out, R11.out⟩, B11⟩
        case measure => simp [intOf]; omega
      · obtain rfl : j = N := by omega
        refine (pappend_any _ (oneD ((j - j : Nat) : Int) ⟨#[102]⟩ [] (pw j)) ⟨#[102]⟩ _ [1] _ SB (by decide) (by unfold maxLen; decide) 100 (d10 _ (by omega) (rd_below R.out q7)) (one_sm (by omega) nmFf (pw_ok j (by have := HN.out; omega))) (one_pn (by rw [pw_len]; have := HN.out; omega)) (by decide)).mono ?_
        rw [show ((j - j : Nat) : Int) = 0 by omega, one_appE0 nmFf (pw_ok j (by have := HN.out; omega))]
        rintro e w9 ⟨⟨v9, rfl, hv9⟩, hb9⟩
        obtain ⟨a9, c9, rfl, -⟩ := dv_form hv9
        have q9 := btA q7 hb9
        generalize appendD (oneD 0 ⟨#[102]⟩ [] (pw j)) ⟨#[102]⟩ [1] = D9 at *
        obtain ⟨p9, r9, L9⟩ := D9
        generalize (p9, r9, L9).2.2.length = n9 at *
        dsimp only at *
        have q10 := btA q9 (bel_al0 w9 (.cells #[.int .i64 p9, .int .i64 r9, .slice a9 n9 c9] 33))
        have HX10 := Lib.hid (show (w9.alloc (.cells #[.int .i64 p9, .int .i64 r9, .slice a9 n9 c9] 33)).heap[g]? = some (.cells #[.int .i64 0, .int .i64 0, .slice a 1 c] 33 (0, 0)) from by
          have h := (q10.block _ (lt_of_some0 HX.out)).trans HX.out
          rw [show ((j - j : Nat) : Int) = 0 by omega] at h
          exact h)
        have R10 := Lib.hid (rd_below R.out q10)
        have B10 := Lib.hid (btA BB.out q10)
        clear hv9 hb9 q9 q10 q7 SB HX R BB x0 x1 x2
        go_upto_region 8 with fail
        generalize w9.alloc (.cells #[.int .i64 p9, .int .i64 r9, .slice a9 n9 c9] 33) = w10 at *
        have e13 : ((13 : Int) != 0) = true := by decide
        go_upto_region 12 with fail
        obtain ⟨x0, x1, x2⟩ := box3c HX10.out
        go_wp2_with fail
        refine (psize_any _ (oneD 0 ⟨#[102]⟩ [] (pw j)) ⟨#[102]⟩ (by unfold maxLen; decide) _ (d10 0 (by decide) R10.out) (one_sm (by decide) nmFf (pw_ok j (by have := HN.out; omega)))).mono ?_
        rw [show sizeD (oneD 0 ⟨#[102]⟩ [] (pw j)) ⟨#[102]⟩ = 0 by (unfold sizeD; rw [one_at (by decide) nmFf (pw_ok j (by have := HN.out; omega)), if_pos rfl, if_neg (by decide)]), one_at (by decide) nmFf (pw_ok j (by have := HN.out; omega)), if_pos rfl]
        rintro e w20 ⟨rfl, hb20⟩
        have HX20 := Lib.hid ((hb20.block _ (lt_of_some0 HX10.out)).trans HX10.out)
        have R20 := Lib.hid (rd_below R10.out hb20)
        have B20 := Lib.hid (btA B10.out hb20)
        clear hb20 HX10 R10 B10 x0 x1 x2
        obtain ⟨x0, x1, x2⟩ := box3c HX20.out
        go_upto_region 13 with fail
        go_wp2_with fail
        have q21 := bel_al0 w20 (.cells #[.string ⟨#[102]⟩, .int .i64 100, .int .i64 0] 87)
        have HK := heap_alloc_new w20 (.cells #[.string ⟨#[102]⟩, .int .i64 100, .int .i64 0] 87)
        refine (pcrash_any _ _ (oneD 0 ⟨#[102]⟩ [] (pw j)) [(⟨#[102]⟩, 100, 0)] _ (d10 0 (by decide) (rd_below R20.out q21)) (one_sm (by decide) nmFf (pw_ok j (by have := HN.out; omega))) (one_pn (by rw [pw_len]; have := HN.out; omega)) (rd_single (t := tyK) ⟨[.string ⟨#[102]⟩], [.int .i64 100, .int .i64 0], rfl, ⟨by unfold maxLen; decide, rfl⟩, [.int .i64 100], [.int .i64 0], rfl, ⟨by decide, rfl⟩, ⟨by decide, rfl⟩⟩ HK trivial) (by simp)).mono ?_
        rw [one_crash (by decide) nmFf (pw_ok j (by have := HN.out; omega))]
        have hfk : fstK ⟨#[102]⟩ [(⟨#[102]⟩, 100, 0)] = some (⟨#[102]⟩, 100, 0) := by
          unfold fstK
          rw [List.find?_cons, nmEq_refl]
        rw [hfk, show ((some (⟨#[102]⟩, 100, 0) : Option Kep).getD kep0).2.1 = 100 from rfl, show ((some (⟨#[102]⟩, 100, 0) : Option Kep).getD kep0).2.2 = 0 from rfl, pw_keep j (by have := HN.out; omega)]
        have B21 := Lib.hid (btA B20.out q21)
        clear hfk B20 HX20 R20 q21 HK
        have hsm : (apL [] (pw j)).length ≤ 1048576 := by rw [pw_apL]; have := HN.out; omega
        have HSM := Lib.hid hsm
        clear hsm
        rintro e w22 ⟨⟨v22, rfl, hv22⟩, hb22⟩
        have V22 := Lib.hid (dvB_dv hv22)
        have B22 := Lib.hid (btA B21.out hb22)
        clear hv22 hb22 B21 x0 x1 x2
        go_wp2_with fail
        refine (psize_any v22 _ ⟨#[102]⟩ (by unfold maxLen; decide) _ V22.out (one_sm (by decide) nmFf (flB_nil HSM.out))).mono ?_
        rw [one_size (by decide) nmFf (flB_nil HSM.out) (by decide), one_at (by decide) nmFf (flB_nil HSM.out), if_neg (by decide), show (apL (apL [] (pw j)) []).length = j from pw_apL j]
        rintro e w23 ⟨rfl, hb23⟩
        have B23 := Lib.hid (btA B22.out hb23)
        clear V22 hb23 B22 HSM
        have hmin : min (j : Int) (M : Int) = (j : Int) := by omega
        go_upto_region 14 with fail
        go_upto_region 15 with fail
        go_wp2_with fail
        refine (awake10_any _).mono ?_
        rintro e w24 ⟨rfl, hb24⟩
        have B24 := Lib.hid (btA B23.out hb24)
        clear hb24 B23
        go_wp2
        go_ret
        exact ⟨rfl, B24.out⟩
    · obtain rfl : j = M := by omega
      have l1 : decide ((j : Int) < (j : Int)) = false := decide_eq_false (by omega)
      by_cases hjn : N = j
      · subst hjn
        have HX12 := Lib.hid (show wr.heap[g]? = some (.cells #[.int .i64 0, .int .i64 0, .slice a 1 c] 33 (0, 0)) from by
          have h := HX.out
          rw [show ((N - N : Nat) : Int) = 0 by omega] at h
          exact h)
        clear HX
        go_upto_region 12 with fail
        obtain ⟨x0, x1, x2⟩ := box3c HX12.out
        go_wp2_with fail
        refine (psize_any _ (oneD 0 ⟨#[102]⟩ [] (pw N)) ⟨#[102]⟩ (by unfold maxLen; decide) _ (d10 0 (by decide) R.out) (one_sm (by decide) nmFf (pw_ok N (by have := HN.out; omega)))).mono ?_
        rw [show sizeD (oneD 0 ⟨#[102]⟩ [] (pw N)) ⟨#[102]⟩ = 0 by (unfold sizeD; rw [one_at (by decide) nmFf (pw_ok N (by have := HN.out; omega)), if_pos rfl, if_neg (by decide)]), one_at (by decide) nmFf (pw_ok N (by have := HN.out; omega)), if_pos rfl]
        rintro e w20 ⟨rfl, hb20⟩
        have HX20 := Lib.hid ((hb20.block _ (lt_of_some0 HX12.out)).trans HX12.out)
        have R20 := Lib.hid (rd_below R.out hb20)
        have B20 := Lib.hid (btA BB.out hb20)
        clear hb20 HX12 R BB x0 x1 x2
        obtain ⟨x0, x1, x2⟩ := box3c HX20.out
        go_upto_region 13 with fail
        go_wp2_with fail
        have q21 := bel_al0 w20 (.cells #[.string ⟨#[102]⟩, .int .i64 100, .int .i64 0] 87)
        have HK := heap_alloc_new w20 (.cells #[.string ⟨#[102]⟩, .int .i64 100, .int .i64 0] 87)
        refine (pcrash_any _ _ (oneD 0 ⟨#[102]⟩ [] (pw N)) [(⟨#[102]⟩, 100, 0)] _ (d10 0 (by decide) (rd_below R20.out q21)) (one_sm (by decide) nmFf (pw_ok N (by have := HN.out; omega))) (one_pn (by rw [pw_len]; have := HN.out; omega)) (rd_single (t := tyK) ⟨[.string ⟨#[102]⟩], [.int .i64 100, .int .i64 0], rfl, ⟨by unfold maxLen; decide, rfl⟩, [.int .i64 100], [.int .i64 0], rfl, ⟨by decide, rfl⟩, ⟨by decide, rfl⟩⟩ HK trivial) (by simp)).mono ?_
        rw [one_crash (by decide) nmFf (pw_ok N (by have := HN.out; omega))]
        have hfk : fstK ⟨#[102]⟩ [(⟨#[102]⟩, 100, 0)] = some (⟨#[102]⟩, 100, 0) := by
          unfold fstK
          rw [List.find?_cons, nmEq_refl]
        rw [hfk, show ((some (⟨#[102]⟩, 100, 0) : Option Kep).getD kep0).2.1 = 100 from rfl, show ((some (⟨#[102]⟩, 100, 0) : Option Kep).getD kep0).2.2 = 0 from rfl, pw_keep N (by have := HN.out; omega)]
        have B21 := Lib.hid (btA B20.out q21)
        clear hfk B20 HX20 R20 q21 HK
        have hsm : (apL [] (pw N)).length ≤ 1048576 := by rw [pw_apL]; have := HN.out; omega
        have HSM := Lib.hid hsm
        clear hsm
        rintro e w22 ⟨⟨v22, rfl, hv22⟩, hb22⟩
        have V22 := Lib.hid (dvB_dv hv22)
        have B22 := Lib.hid (btA B21.out hb22)
        clear hv22 hb22 B21 x0 x1 x2
        go_wp2_with fail
        refine (psize_any v22 _ ⟨#[102]⟩ (by unfold maxLen; decide) _ V22.out (one_sm (by decide) nmFf (flB_nil HSM.out))).mono ?_
        rw [one_size (by decide) nmFf (flB_nil HSM.out) (by decide), one_at (by decide) nmFf (flB_nil HSM.out), if_neg (by decide), show (apL (apL [] (pw N)) []).length = N from pw_apL N]
        rintro e w23 ⟨rfl, hb23⟩
        have B23 := Lib.hid (btA B22.out hb23)
        clear V22 hb23 B22 HSM
        have hmin : min (N : Int) (N : Int) = (N : Int) := by omega
        go_upto_region 14 with fail
        go_upto_region 15 with fail
        go_wp2_with fail
        refine (awake10_any _).mono ?_
        rintro e w24 ⟨rfl, hb24⟩
        have B24 := Lib.hid (btA B23.out hb24)
        clear hb24 B23
        go_wp2
        go_ret
        exact ⟨rfl, B24.out⟩
      · go_upto_region 12 with fail
        obtain ⟨x0, x1, x2⟩ := box3c HX.out
        go_wp2_with fail
        refine (psize_any _ (oneD ((N - j : Nat) : Int) ⟨#[102]⟩ [] (pw j)) ⟨#[102]⟩ (by unfold maxLen; decide) _ (d10 ((N - j : Nat) : Int) (by have := HN.out; omega) R.out) (one_sm (by omega) nmFf (pw_ok j (by have := HN.out; omega)))).mono ?_
        rw [one_size (by omega) nmFf (pw_ok j (by have := HN.out; omega)) (by omega), pw_apL, one_at (by omega) nmFf (pw_ok j (by have := HN.out; omega)), if_neg (by omega)]
        rintro e w20 ⟨rfl, hb20⟩
        have HX20 := Lib.hid ((hb20.block _ (lt_of_some0 HX.out)).trans HX.out)
        have R20 := Lib.hid (rd_below R.out hb20)
        have B20 := Lib.hid (btA BB.out hb20)
        clear hb20 HX R BB x0 x1 x2
        obtain ⟨x0, x1, x2⟩ := box3c HX20.out
        go_upto_region 13 with fail
        go_wp2_with fail
        have q21 := bel_al0 w20 (.cells #[.string ⟨#[102]⟩, .int .i64 100, .int .i64 0] 87)
        have HK := heap_alloc_new w20 (.cells #[.string ⟨#[102]⟩, .int .i64 100, .int .i64 0] 87)
        refine (pcrash_any _ _ (oneD ((N - j : Nat) : Int) ⟨#[102]⟩ [] (pw j)) [(⟨#[102]⟩, 100, 0)] _ (d10 ((N - j : Nat) : Int) (by have := HN.out; omega) (rd_below R20.out q21)) (one_sm (by omega) nmFf (pw_ok j (by have := HN.out; omega))) (one_pn (by rw [pw_len]; have := HN.out; omega)) (rd_single (t := tyK) ⟨[.string ⟨#[102]⟩], [.int .i64 100, .int .i64 0], rfl, ⟨by unfold maxLen; decide, rfl⟩, [.int .i64 100], [.int .i64 0], rfl, ⟨by decide, rfl⟩, ⟨by decide, rfl⟩⟩ HK trivial) (by simp)).mono ?_
        rw [one_crash (by omega) nmFf (pw_ok j (by have := HN.out; omega))]
        have hfk : fstK ⟨#[102]⟩ [(⟨#[102]⟩, 100, 0)] = some (⟨#[102]⟩, 100, 0) := by
          unfold fstK
          rw [List.find?_cons, nmEq_refl]
        rw [hfk, show ((some (⟨#[102]⟩, 100, 0) : Option Kep).getD kep0).2.1 = 100 from rfl, show ((some (⟨#[102]⟩, 100, 0) : Option Kep).getD kep0).2.2 = 0 from rfl, pw_keep j (by have := HN.out; omega)]
        have B21 := Lib.hid (btA B20.out q21)
        clear hfk B20 HX20 R20 q21 HK
        have hsm : (apL [] (pw j)).length ≤ 1048576 := by rw [pw_apL]; have := HN.out; omega
        have HSM := Lib.hid hsm
        clear hsm
        rintro e w22 ⟨⟨v22, rfl, hv22⟩, hb22⟩
        have V22 := Lib.hid (dvB_dv hv22)
        have B22 := Lib.hid (btA B21.out hb22)
        clear hv22 hb22 B21 x0 x1 x2
        go_wp2_with fail
        refine (psize_any v22 _ ⟨#[102]⟩ (by unfold maxLen; decide) _ V22.out (one_sm (by decide) nmFf (flB_nil HSM.out))).mono ?_
        rw [one_size (by decide) nmFf (flB_nil HSM.out) (by decide), one_at (by decide) nmFf (flB_nil HSM.out), if_neg (by decide), show (apL (apL [] (pw j)) []).length = j from pw_apL j]
        rintro e w23 ⟨rfl, hb23⟩
        have B23 := Lib.hid (btA B22.out hb23)
        clear V22 hb23 B22 HSM
        have hmin : min (N : Int) (j : Int) = (j : Int) := by omega
        have hne : decide ((j : Int) = (N : Int)) = false := decide_eq_false (by omega)
        have hne2 : ¬ j = N := by omega
        have hne3 : ((j : Int) == (N : Int)) = false := by rw [beq_eq_false_iff_ne]; omega
        go_upto_region 14 with fail
        go_upto_region 15 with fail
        go_wp2_with fail
        refine (awake10_any _).mono ?_
        rintro e w24 ⟨rfl, hb24⟩
        have B24 := Lib.hid (btA B23.out hb24)
        clear hb24 B23
        go_wp2
        go_ret
        exact ⟨rfl, B24.out⟩
end Go.Proofs.Ytpjkgbngiifkmaa.Gf
