/- What is proved here: the walk of GenerationNames. -/
import Derived.Test.YtbmlpafbdbhaiaaGreatDoorGw11
import Derived.Test.YtbmlpafbdbhaiaaGreatDoorGw3
namespace Go.Proofs.YtbmlpafbdbhaiaaGreatDoor.Gf
open Go Go.Joins Go.ChangeShapes Go.WideShapes Go.ChangeAt Go.RowKit Go.Deep Go.Proofs.YtbmlpafbdbhaiaaGreatDoor.By Go.Proofs.YtbmlpafbdbhaiaaGreatDoor.Qt Go.Proofs
set_option maxRecDepth 100000
set_option maxHeartbeats 204800000
theorem run_equalN (ak ac ag ah : Int) (ab : Bool) (bk bs bg bh : Int) (bt : Bool) (w : World) : (Op.equalIn 10000 29 (.agg #[.int .i64 ak, .int .i64 ac, .int .i64 ag, .int .i64 ah, .bool ab]) (.agg #[.int .i64 bk, .int .i64 bs, .int .i64 bg, .int .i64 bh, .bool bt])).run Tryz.prog w = .ok (ak == bk && ac == bs && ag == bg && ah == bh && ab == bt) w := by
  have hS : Tryz.prog.underlying 29 = some (.struct (Tryz.prog.fieldsOf 29)) := by kernel_rfl
  have hp : Tryz.prog.stoodInHeld 29 = false := by kernel_rfl
  rw [show (10000 : Nat) = 9999 + 1 from rfl, run_equalIn_agg w 9999 29 _ _ hS hp]
  simp only [Program.fieldsOf, Tryz.underlying29]
  go_simp
  by_cases h0 : ak = bk <;> by_cases h1 : ac = bs <;> by_cases h2 : ag = bg <;> by_cases h3 : ah = bh <;> cases ab <;> cases bt <;> simp [h0, h1, h2, h3]
theorem run_eqlN (ak ac ag ah : Int) (ab : Bool) (bk bs bg bh : Int) (bt : Bool) (w : World) : (binOp .eql 29 (.agg #[.int .i64 ak, .int .i64 ac, .int .i64 ag, .int .i64 ah, .bool ab]) (.agg #[.int .i64 bk, .int .i64 bs, .int .i64 bg, .int .i64 bh, .bool bt])).run Tryz.prog w = .ok (.bool (ak == bk && ac == bs && ag == bg && ah == bh && ab == bt)) w := by
  rw [run_eql_struct, run_equalN]
  rfl
theorem run_neqN (ak ac ag ah : Int) (ab : Bool) (bk bs bg bh : Int) (bt : Bool) (w : World) : (binOp .neq 29 (.agg #[.int .i64 ak, .int .i64 ac, .int .i64 ag, .int .i64 ah, .bool ab]) (.agg #[.int .i64 bk, .int .i64 bs, .int .i64 bg, .int .i64 bh, .bool bt])).run Tryz.prog w = .ok (.bool (!(ak == bk && ac == bs && ag == bg && ah == bh && ab == bt))) w := by
  rw [run_neq_struct, run_equalN]
  rfl
theorem lname_any (xk xs xg xh : Int) (xt : Bool) (w : World) : Calls Tryz.prog 10 #[.agg #[.int .i64 xk, .int .i64 xs, .int .i64 xg, .int .i64 xh, .bool xt]] w fun e w' => e = .returned (.agg #[.int .i64 xk, .int .i64 xs, .int .i64 xg, .int .i64 xh, .bool xt]) ∧ Below w.heap.size w w' := by
  have q0 := al2 w (.cells #[.int .i64 xk, .int .i64 xs, .int .i64 xg, .int .i64 xh, .bool xt] 23) (.cells #[.int .i64 0, .int .i64 0, .int .i64 0, .int .i64 0, .bool false] 29)
  have HX := Lh q0.1
  have HZ := Lh q0.2.1
  have B0 := Lh q0.2.2
  clear q0
  go_enter Tryz.func10, Tryz.ntmps10
  go_upto_region 1 with fail
  generalize (w.alloc (.cells #[.int .i64 xk, .int .i64 xs, .int .i64 xg, .int .i64 xh, .bool xt] 23)).alloc (.cells #[.int .i64 0, .int .i64 0, .int .i64 0, .int .i64 0, .bool false] 29) = W0 at *
  obtain ⟨x0, x1, x2, x3, x4⟩ := bx5 HX.out
  go_wp2_with ((with_reducible refine storeNm (w.heap.size + 1) _ #[.int .i64 xk, .int .i64 xs, .int .i64 xg, .int .i64 xh, .bool xt] ?_ ?_ HZ.out rfl rfl (n5_one _ _ _ _ _) ?_); exact rfl; exact rfl)
  refine bodyPost_ret (results_cell_row rfl _ _ (w.heap.size + 1) 29 #[.int .i64 xk, .int .i64 xs, .int .i64 xg, .int .i64 xh, .bool xt] (0, 0) _ rfl (setRow_heap _ _ _ _ _ _ HZ.out) Tryz.underlying29 rfl infoN5) rfl ?_
  exact ⟨rfl, below_setRowM B0.out (Nat.le_succ _) _⟩
theorem fmt_le (y : Int × Int × Int × Int × Bool) : (fmtV y).size ≤ 1000 := by
  unfold fmtV fmtS
  show (_ : Array UInt8).size ≤ 1000
  simp only [Array.size_append]
  have h1 : (endA y.1).size ≤ 3 := by unfold endA; split; decide; split; decide; split; decide; split; decide; decide
  have h2 : (if y.1 = 5 then #[dgB y.2.2.2.1] else #[] : Array UInt8).size ≤ 1 := by split <;> simp
  have h3 : (if y.2.2.2.2 = true then #[46, 116, 109, 112] else #[] : Array UInt8).size ≤ 4 := by split <;> simp
  have h4 : (#[118, 46, dgB y.2.1, 46, dgB y.2.2.1, 46] : Array UInt8).size = 6 := rfl
  omega
theorem names_walk (xk xs xg xh : Int) (xt : Bool) (s : ByteArray) (w : World) (hsw : StrW w) : Calls Tryz.prog 3 #[.agg #[.int .i64 xk, .int .i64 xs, .int .i64 xg, .int .i64 xh, .bool xt], .string s] w fun e w' => e = .returned (.bool true) ∧ Below w.heap.size w w' := by
  have HSW := Lh hsw
  have HB0 := Lh (heap_alloc_new w (.cells #[.int .i64 xk, .int .i64 xs, .int .i64 xg, .int .i64 xh, .bool xt] 23))
  have B0 := Lh (bel_al w (.cells #[.int .i64 xk, .int .i64 xs, .int .i64 xg, .int .i64 xh, .bool xt] 23))
  clear hsw
  go_enter Tryz.func3, Tryz.ntmps3
  go_upto_region 1 with fail
  generalize w.alloc (.cells #[.int .i64 xk, .int .i64 xs, .int .i64 xg, .int .i64 xh, .bool xt] 23) = W0 at *
  obtain ⟨x0, x1, x2, x3, x4⟩ := bx5 HB0.out
  obtain ⟨a0, h0⟩ : ∃ a, a = bits .and .i64 xk 3 := ⟨_, rfl⟩
  obtain ⟨a1, h1⟩ : ∃ a, a = wrap64 (1 + a0) := ⟨_, rfl⟩
  obtain ⟨a2, h2⟩ : ∃ a, a = bits .and .i64 xs 1 := ⟨_, rfl⟩
  obtain ⟨nk, h3⟩ : ∃ a, a = wrap64 (a1 + a2) := ⟨_, rfl⟩
  obtain ⟨ns, h4⟩ : ∃ a, a = bits .and .i64 xs 3 := ⟨_, rfl⟩
  obtain ⟨a3, h5⟩ : ∃ a, a = bits .and .i64 xg 7 := ⟨_, rfl⟩
  obtain ⟨ng, h6⟩ : ∃ a, a = wrap64 (1 + a3) := ⟨_, rfl⟩
  obtain ⟨nh, h7⟩ : ∃ a, a = bits .and .i64 xh 7 := ⟨_, rfl⟩
  have e0 := h0.symm
  have e1 := h1.symm
  have e2 := h2.symm
  have e3 := h3.symm
  have e4 := h4.symm
  have e5 := h5.symm
  have e6 := h6.symm
  have e7 := h7.symm
  clear h0 h1 h2 h3 h4 h5 h6 h7
  go_upto_region 2 with fail
  clear x0 x1 x2 x3 x4 e0 e1 e2 e3 e4 e5 e6 e7
  have hb := bel_al W0 (.cells #[.int .i64 nk, .int .i64 ns, .int .i64 ng, .int .i64 nh, .bool xt] 23)
  have HBN := Lh (heap_alloc_new W0 (.cells #[.int .i64 nk, .int .i64 ns, .int .i64 ng, .int .i64 nh, .bool xt] 23))
  have HBX := Lh ((hb.block _ (lt_of_some HB0.out)).trans HB0.out)
  have B1 := Lh (B0.out.trans (hb.mono B0.out.size))
  clear hb HB0 B0
  generalize W0.alloc (.cells #[.int .i64 nk, .int .i64 ns, .int .i64 ng, .int .i64 nh, .bool xt] 23) = W1 at *
  generalize W0.heap.size = p5 at *
  by_cases hl : 100 < s.size
  case pos =>
    have d1 : decide (100 < (s.size : Int)) = true := decide_eq_true (by omega)
    have d2 : decide (100 < s.size) = true := decide_eq_true hl
    clear hl
    go_wp2_with fail
    refine (awake12_any W1 (strW_below HSW.out B1.out)).mono ?_
    rintro e W2 ⟨rfl, hb⟩
    have B2 := Lh (B1.out.trans (hb.mono B1.out.size))
    go_wp2_with fail
    go_ret
    exact ⟨rfl, B2.out⟩
  have d1 : decide (100 < (s.size : Int)) = false := decide_eq_false (by omega)
  have d2 : decide (100 < s.size) = false := decide_eq_false hl
  have HL := Lh (show s.size ≤ 1000 by omega)
  clear hl
  go_upto_region 4 with fail
  clear d1 d2
  obtain ⟨x0, x1, x2, x3, x4⟩ := bx5 HBX.out
  obtain ⟨y0, y1, y2, y3, y4⟩ := bx5 HBN.out
  go_upto_region 5 with fail
  clear x0 x1 x2 x3 x4 y0 y1 y2 y3 y4
  have hb := bel_al W1 (.cells #[.int .i64 xk, .int .i64 xs, .int .i64 xg, .int .i64 xh, .bool xt, .int .i64 nk, .int .i64 ns, .int .i64 ng, .int .i64 nh, .bool xt] 23)
  have HPA0 := Lh (heap_alloc_new W1 (.cells #[.int .i64 xk, .int .i64 xs, .int .i64 xg, .int .i64 xh, .bool xt, .int .i64 nk, .int .i64 ns, .int .i64 ng, .int .i64 nh, .bool xt] 23))
  have B2 := Lh (B1.out.trans (hb.mono B1.out.size))
  clear hb HBN HBX B1
  generalize W1.alloc (.cells #[.int .i64 xk, .int .i64 xs, .int .i64 xg, .int .i64 xh, .bool xt, .int .i64 nk, .int .i64 ns, .int .i64 ng, .int .i64 nh, .bool xt] 23) = W2 at *
  generalize W1.heap.size = pa at *
  go_loopw [47] (fun t wr => ∃ i : Nat, i ≤ 2 ∧ t = .int .i64 (i : Int) ∧ wr.heap[pa]? = some (.cells #[.int .i64 xk, .int .i64 xs, .int .i64 xg, .int .i64 xh, .bool xt, .int .i64 nk, .int .i64 ns, .int .i64 ng, .int .i64 nh, .bool xt] 23 (0, 0)) ∧ Below w.heap.size w wr) (fun t _ => 2 - (intOf t).toNat)
  case atStart => exact ⟨0, by decide, rfl, HPA0.out, B2.out⟩
  case round =>
    obtain ⟨i, hi, rfl, hpa, hbz⟩ := hrel
    rename World => Wl
    have HPA := Lh hpa
    have BZ := Lh hbz
    clear hpa hbz HPA0 B2
    have hc : i = 0 ∨ i = 1 ∨ i = 2 := by omega
    clear hi
    rcases hc with rfl | rfl | rfl
    · have q0 := cell_of_row Wl pa 0 _ _ _ HPA.out
      have q1 := cell_of_row Wl pa 1 _ _ _ HPA.out
      have q2 := cell_of_row Wl pa 2 _ _ _ HPA.out
      have q3 := cell_of_row Wl pa 3 _ _ _ HPA.out
      have q4 := cell_of_row Wl pa 4 _ _ _ HPA.out
      have q0 : Wl.cell? ⟨pa, 0, none⟩ = some (.int .i64 xk) := q0
      have q1 : Wl.cell? ⟨pa, 1, none⟩ = some (.int .i64 xs) := q1
      have q2 : Wl.cell? ⟨pa, 2, none⟩ = some (.int .i64 xg) := q2
      have q3 : Wl.cell? ⟨pa, 3, none⟩ = some (.int .i64 xh) := q3
      have q4 : Wl.cell? ⟨pa, 4, none⟩ = some (.bool xt) := q4
      go_upto_region 7 with fail
      clear q0 q1 q2 q3 q4
      have hb := bel_al Wl (.cells #[.int .i64 xk, .int .i64 xs, .int .i64 xg, .int .i64 xh, .bool xt] 23)
      have HX6 := Lh (heap_alloc_new Wl (.cells #[.int .i64 xk, .int .i64 xs, .int .i64 xg, .int .i64 xh, .bool xt] 23))
      have HPA6 := Lh ((hb.block _ (lt_of_some HPA.out)).trans HPA.out)
      have B6 := Lh (BZ.out.trans (hb.mono BZ.out.size))
      clear hb HPA BZ
      generalize Wl.alloc (.cells #[.int .i64 xk, .int .i64 xs, .int .i64 xg, .int .i64 xh, .bool xt] 23) = W6 at *
      generalize Wl.heap.size = p7 at *
      obtain ⟨x0, x1, x2, x3, x4⟩ := bx5 HX6.out
      go_wp2_with fail
      clear x0 x1 x2 x3 x4
      refine (lname_any xk xs xg xh xt W6).mono ?_
      rintro e W6b ⟨rfl, hb⟩
      have HX6b := Lh ((hb.block _ (lt_of_some HX6.out)).trans HX6.out)
      have HPA6b := Lh ((hb.block _ (lt_of_some HPA6.out)).trans HPA6.out)
      have B6b := Lh (B6.out.trans (hb.mono B6.out.size))
      clear hb HX6 HPA6 B6
      go_wp2_with fail
      refine (pformat_any xk xs xg xh xt W6b).mono ?_
      rintro e W7 ⟨rfl, hb⟩
      obtain ⟨r, hr⟩ : ∃ z, z = (if NameOk xk xs xg xh xt then fmtS xk xs xg xh xt else ⟨#[]⟩) := ⟨_, rfl⟩
      obtain ⟨c, hc⟩ : ∃ z : Int, z = (if NameOk xk xs xg xh xt then 0 else 1) := ⟨_, rfl⟩
      rw [← hr, ← hc]
      have HRR := Lh hr
      have HCC := Lh hc
      have HX7a := Lh ((hb.block _ (lt_of_some HX6b.out)).trans HX6b.out)
      have HPA7 := Lh ((hb.block _ (lt_of_some HPA6b.out)).trans HPA6b.out)
      have B7 := Lh (B6b.out.trans (hb.mono B6b.out.size))
      clear hb HX6b HPA6b B6b hr hc
      obtain ⟨x0, x1, x2, x3, x4⟩ := bx5 HX7a.out
      go_wp2_with fail
      clear x0 x1 x2 x3 x4
      refine (rformat_any xk xs xg xh xt W7).mono ?_
      rintro e W8 ⟨rfl, hb⟩
      rw [← HRR.out, ← HCC.out]
      have HX7 := Lh ((hb.block _ (lt_of_some HX7a.out)).trans HX7a.out)
      have HPA8 := Lh ((hb.block _ (lt_of_some HPA7.out)).trans HPA7.out)
      have B8 := Lh (B7.out.trans (hb.mono B7.out.size))
      clear hb HX7a HPA7 B7
      go_upto_region 9 with fail
      refine wp_onlyN ?_
      refine wp_region_headsS (fun W' => Below W8.heap.size W8 W') [] 25 (by kernel_rfl) (fun _ _ _ _ _ h => h.elim) (by kernel_rfl) (by rfl) (by rfl) (Below.refl W8.heap.size W8).drew ?_
      simp only [pickOps, List.filterMap_nil, List.getElem?_toArray]
      refine wpHeads_nil ?_
      have SF0 := Lh (Below.refl W8.heap.size W8).drew
      generalize W8.drew = E0 at *
      refine tky 0 (.string r) rfl (fun w' _ => by go_simp) SF0.out ?_
      refine tky 1 (.string r) rfl (fun w' _ => by go_simp) SF0.out ?_
      refine gwq 2 fun K hK => ?_
      have d1 : (r.toList == r.toList) = true := beq_self_eq_true _
      have d2 : (!(r.toList == r.toList)) = false := by rw [d1]; rfl
      go_simp
      refine hK _ _ SF0.out ?_
      clear hK K d1 d2
      refine gwq 3 fun K hK => ?_
      go_simp
      refine hK _ _ SF0.out ?_
      clear hK K
      refine tky 4 (.int .i64 c) rfl (fun w' _ => by go_simp) SF0.out ?_
      refine tky 5 (.int .i64 c) rfl (fun w' _ => by go_simp) SF0.out ?_
      refine gwq 6 fun K hK => ?_
      have d1 : (c == c) = true := beq_self_eq_true _
      have d2 : decide (c = c) = true := decide_eq_true rfl
      go_simp
      refine hK _ _ SF0.out ?_
      clear hK K d1 d2
      refine gwq 7 fun K hK => ?_
      go_simp
      refine hK _ _ SF0.out ?_
      clear hK K
      refine gwq 8 fun K hK => ?_
      go_simp
      refine hK _ _ SF0.out ?_
      clear hK K
      refine tky 9 (.pointer (some ⟨p7, 0, none⟩)) rfl (fun w' _ => by go_simp) SF0.out ?_
      refine tky 11 (.pointer (some ⟨p7, 1, none⟩)) rfl (fun w' _ => by go_simp) SF0.out ?_
      refine tky 13 (.pointer (some ⟨p7, 2, none⟩)) rfl (fun w' _ => by go_simp) SF0.out ?_
      refine tky 16 (.pointer (some ⟨p7, 0, none⟩)) rfl (fun w' _ => by go_simp) SF0.out ?_
      refine tky 18 (.pointer (some ⟨p7, 1, none⟩)) rfl (fun w' _ => by go_simp) SF0.out ?_
      refine tky 20 (.pointer (some ⟨p7, 2, none⟩)) rfl (fun w' _ => by go_simp) SF0.out ?_
      refine tky 10 (.int .i64 xk) rfl (fun w' hw' => by
        obtain ⟨x0, x1, x2, x3, x4⟩ := bx5 ((hw'.block _ (lt_of_some HX7.out)).trans HX7.out)
        go_simp) SF0.out ?_
      refine tky 12 (.int .i64 xs) rfl (fun w' hw' => by
        obtain ⟨x0, x1, x2, x3, x4⟩ := bx5 ((hw'.block _ (lt_of_some HX7.out)).trans HX7.out)
        go_simp) SF0.out ?_
      refine tky 14 (.int .i64 xg) rfl (fun w' hw' => by
        obtain ⟨x0, x1, x2, x3, x4⟩ := bx5 ((hw'.block _ (lt_of_some HX7.out)).trans HX7.out)
        go_simp) SF0.out ?_
      refine tky 17 (.int .i64 xk) rfl (fun w' hw' => by
        obtain ⟨x0, x1, x2, x3, x4⟩ := bx5 ((hw'.block _ (lt_of_some HX7.out)).trans HX7.out)
        go_simp) SF0.out ?_
      refine tky 19 (.int .i64 xs) rfl (fun w' hw' => by
        obtain ⟨x0, x1, x2, x3, x4⟩ := bx5 ((hw'.block _ (lt_of_some HX7.out)).trans HX7.out)
        go_simp) SF0.out ?_
      refine tky 21 (.int .i64 xg) rfl (fun w' hw' => by
        obtain ⟨x0, x1, x2, x3, x4⟩ := bx5 ((hw'.block _ (lt_of_some HX7.out)).trans HX7.out)
        go_simp) SF0.out ?_
      refine gwq 15 fun K hK => ?_
      go_simp
      go_at_call 12
      refine (pfile_any xk xs xg E0).mono ?_
      rintro e E1 ⟨rfl, hb⟩
      obtain ⟨fr, hfr⟩ : ∃ z, z = (if NameOk xk xs xg 0 false then fmtS xk xs xg 0 false else ⟨#[]⟩) := ⟨_, rfl⟩
      rw [← hfr]
      have SF1 := Lh (SF0.out.trans (hb.mono SF0.out.size))
      refine hK _ _ SF1.out ?_
      clear hK K hb
      refine gwq 22 fun K hK => ?_
      go_simp
      go_at_call 13
      refine (rfile_any xk xs xg E1).mono ?_
      rintro e E2 ⟨rfl, hb⟩
      rw [← hfr]
      clear hfr
      have SF2 := Lh (SF1.out.trans (hb.mono SF1.out.size))
      refine hK _ _ SF2.out ?_
      clear hK K hb
      refine gwq 23 fun K hK => ?_
      have d1 : (fr.toList == fr.toList) = true := beq_self_eq_true _
      have d2 : (!(fr.toList == fr.toList)) = false := by rw [d1]; rfl
      go_simp
      refine hK _ _ SF2.out ?_
      clear hK K d1 d2
      refine gwq 24 fun K hK => ?_
      go_simp
      refine hK _ _ SF2.out ?_
      clear hK K
      refine wpAnyH_done (by kernel_rfl) ?_ _
      unfold onlyN
      dsimp only
      have BQ := Lh (SF2.out)
      clear SF0 SF1 SF2
      generalize E2 = WN at *
      have HX7b := Lh ((BQ.out.block _ (lt_of_some HX7.out)).trans HX7.out)
      have HPA9 := Lh ((BQ.out.block _ (lt_of_some HPA8.out)).trans HPA8.out)
      have B9 := Lh (B8.out.trans (BQ.out.mono B8.out.size))
      clear BQ HX7 HPA8 B8
      by_cases hn : NameOk xk xs xg xh xt
      case neg =>
        obtain rfl : c = 1 := by rw [HCC.out, if_neg hn]
        clear hn
        go_wp2_with fail
        go_roundw
        case rel => exact ⟨1, by decide, by rfl, HPA9.out, B9.out⟩
        case measure => simp [intOf]
      obtain rfl : c = 0 := by rw [HCC.out, if_pos hn]
      have HRF := Lh (show fmtV (xk, xs, xg, xh, xt) = r from by rw [HRR.out, if_pos hn]; rfl)
      have HON := Lh (show OkN (xk, xs, xg, xh, xt) from hn)
      clear hn
      go_wp2_with fail
      refine (pparse_any r (by rw [← HRF.out]; exact fmt_le _) WN (strW_below HSW.out B9.out)).mono ?_
      rintro e W11 ⟨⟨xv, xc, rfl, hpf⟩, hb⟩
      obtain ⟨hx1, hx2⟩ := parF_one hpf (Or.inl ⟨HON.out, HRF.out, rfl⟩)
      rw [hx1, hx2, show nmV (xk, xs, xg, xh, xt) = .agg #[.int .i64 xk, .int .i64 xs, .int .i64 xg, .int .i64 xh, .bool xt] from rfl]
      clear hpf hx1 hx2 xv xc
      have HX7d := Lh ((hb.block _ (lt_of_some HX7b.out)).trans HX7b.out)
      have HPA11 := Lh ((hb.block _ (lt_of_some HPA9.out)).trans HPA9.out)
      have B11 := Lh (B9.out.trans (hb.mono B9.out.size))
      clear hb HX7b HPA9 B9
      go_upto_region 13 with fail
      have hb := bel_al W11 (.cells #[.int .i64 xk, .int .i64 xs, .int .i64 xg, .int .i64 xh, .bool xt] 29)
      have HX12 := Lh (heap_alloc_new W11 (.cells #[.int .i64 xk, .int .i64 xs, .int .i64 xg, .int .i64 xh, .bool xt] 29))
      have HX7c := Lh ((hb.block _ (lt_of_some HX7d.out)).trans HX7d.out)
      have HPA12 := Lh ((hb.block _ (lt_of_some HPA11.out)).trans HPA11.out)
      have B12 := Lh (B11.out.trans (hb.mono B11.out.size))
      clear hb HX7d HPA11 B11
      generalize W11.alloc (.cells #[.int .i64 xk, .int .i64 xs, .int .i64 xg, .int .i64 xh, .bool xt] 29) = W12 at *
      generalize W11.heap.size = p12 at *
      refine wp_onlyN ?_
      refine wp_region_headsS (fun W' => Below W12.heap.size W12 W') [] 8 (by kernel_rfl) (fun _ _ _ _ _ h => h.elim) (by kernel_rfl) (by rfl) (by rfl) (Below.refl W12.heap.size W12).drew ?_
      simp only [pickOps, List.filterMap_nil, List.getElem?_toArray]
      refine wpHeads_nil ?_
      have SF0 := Lh (Below.refl W12.heap.size W12).drew
      generalize W12.drew = E0 at *
      refine tky 0 (.int .i64 0) rfl (fun w' _ => by go_simp) SF0.out ?_
      refine gwq 1 fun K hK => ?_
      go_simp
      refine hK _ _ SF0.out ?_
      clear hK K
      refine gwq 2 fun K hK => ?_
      go_simp
      refine hK _ _ SF0.out ?_
      clear hK K
      refine tky 3 (.agg #[.int .i64 xk, .int .i64 xs, .int .i64 xg, .int .i64 xh, .bool xt]) rfl (fun w' hw' => by
        obtain ⟨x0, x1, x2, x3, x4⟩ := bx5 ((hw'.block _ (lt_of_some HX12.out)).trans HX12.out)
        go_simp) SF0.out ?_
      refine tky 4 (.agg #[.int .i64 xk, .int .i64 xs, .int .i64 xg, .int .i64 xh, .bool xt]) rfl (fun w' hw' => by
        obtain ⟨x0, x1, x2, x3, x4⟩ := bx5 ((hw'.block _ (lt_of_some HX7c.out)).trans HX7c.out)
        go_simp) SF0.out ?_
      refine gwq 5 fun K hK => ?_
      go_simp
      go_at_call 10
      refine (lname_any xk xs xg xh xt E0).mono ?_
      rintro e E1 ⟨rfl, hb⟩
      have SF1 := Lh (SF0.out.trans (hb.mono SF0.out.size))
      refine hK _ _ SF1.out ?_
      clear hK K hb
      refine gwq 6 fun K hK => ?_
      have d1 := fun w => run_neqN xk xs xg xh xt xk xs xg xh xt w
      have d2 : (xk == xk && xs == xs && xg == xg && xh == xh && xt == xt) = true := by simp
      rw [d2] at d1
      go_simp
      refine hK _ _ SF1.out ?_
      clear hK K d1 d2
      refine gwq 7 fun K hK => ?_
      go_simp
      refine hK _ _ SF1.out ?_
      clear hK K
      refine wpAnyH_done (by kernel_rfl) ?_ _
      unfold onlyN
      dsimp only
      have BQ := Lh (SF1.out)
      clear SF0 SF1
      generalize E1 = WN at *
      have HPA13 := Lh ((BQ.out.block _ (lt_of_some HPA12.out)).trans HPA12.out)
      have B13 := Lh (B12.out.trans (BQ.out.mono B12.out.size))
      clear BQ HX12 HX7c HPA12 B12
      go_wp2_with fail
      go_roundw
      case rel => exact ⟨1, by decide, by rfl, HPA13.out, B13.out⟩
      case measure => simp [intOf]
    · have q0 := cell_of_row Wl pa 5 _ _ _ HPA.out
      have q1 := cell_of_row Wl pa 6 _ _ _ HPA.out
      have q2 := cell_of_row Wl pa 7 _ _ _ HPA.out
      have q3 := cell_of_row Wl pa 8 _ _ _ HPA.out
      have q4 := cell_of_row Wl pa 9 _ _ _ HPA.out
      have q0 : Wl.cell? ⟨pa, 5, none⟩ = some (.int .i64 nk) := q0
      have q1 : Wl.cell? ⟨pa, 6, none⟩ = some (.int .i64 ns) := q1
      have q2 : Wl.cell? ⟨pa, 7, none⟩ = some (.int .i64 ng) := q2
      have q3 : Wl.cell? ⟨pa, 8, none⟩ = some (.int .i64 nh) := q3
      have q4 : Wl.cell? ⟨pa, 9, none⟩ = some (.bool xt) := q4
      go_upto_region 7 with fail
      clear q0 q1 q2 q3 q4
      have hb := bel_al Wl (.cells #[.int .i64 nk, .int .i64 ns, .int .i64 ng, .int .i64 nh, .bool xt] 23)
      have HX6 := Lh (heap_alloc_new Wl (.cells #[.int .i64 nk, .int .i64 ns, .int .i64 ng, .int .i64 nh, .bool xt] 23))
      have HPA6 := Lh ((hb.block _ (lt_of_some HPA.out)).trans HPA.out)
      have B6 := Lh (BZ.out.trans (hb.mono BZ.out.size))
      clear hb HPA BZ
      generalize Wl.alloc (.cells #[.int .i64 nk, .int .i64 ns, .int .i64 ng, .int .i64 nh, .bool xt] 23) = W6 at *
      generalize Wl.heap.size = p7 at *
      obtain ⟨x0, x1, x2, x3, x4⟩ := bx5 HX6.out
      go_wp2_with fail
      clear x0 x1 x2 x3 x4
      refine (lname_any nk ns ng nh xt W6).mono ?_
      rintro e W6b ⟨rfl, hb⟩
      have HX6b := Lh ((hb.block _ (lt_of_some HX6.out)).trans HX6.out)
      have HPA6b := Lh ((hb.block _ (lt_of_some HPA6.out)).trans HPA6.out)
      have B6b := Lh (B6.out.trans (hb.mono B6.out.size))
      clear hb HX6 HPA6 B6
      go_wp2_with fail
      refine (pformat_any nk ns ng nh xt W6b).mono ?_
      rintro e W7 ⟨rfl, hb⟩
      obtain ⟨r, hr⟩ : ∃ z, z = (if NameOk nk ns ng nh xt then fmtS nk ns ng nh xt else ⟨#[]⟩) := ⟨_, rfl⟩
      obtain ⟨c, hc⟩ : ∃ z : Int, z = (if NameOk nk ns ng nh xt then 0 else 1) := ⟨_, rfl⟩
      rw [← hr, ← hc]
      have HRR := Lh hr
      have HCC := Lh hc
      have HX7a := Lh ((hb.block _ (lt_of_some HX6b.out)).trans HX6b.out)
      have HPA7 := Lh ((hb.block _ (lt_of_some HPA6b.out)).trans HPA6b.out)
      have B7 := Lh (B6b.out.trans (hb.mono B6b.out.size))
      clear hb HX6b HPA6b B6b hr hc
      obtain ⟨x0, x1, x2, x3, x4⟩ := bx5 HX7a.out
      go_wp2_with fail
      clear x0 x1 x2 x3 x4
      refine (rformat_any nk ns ng nh xt W7).mono ?_
      rintro e W8 ⟨rfl, hb⟩
      rw [← HRR.out, ← HCC.out]
      have HX7 := Lh ((hb.block _ (lt_of_some HX7a.out)).trans HX7a.out)
      have HPA8 := Lh ((hb.block _ (lt_of_some HPA7.out)).trans HPA7.out)
      have B8 := Lh (B7.out.trans (hb.mono B7.out.size))
      clear hb HX7a HPA7 B7
      go_upto_region 9 with fail
      refine wp_onlyN ?_
      refine wp_region_headsS (fun W' => Below W8.heap.size W8 W') [] 25 (by kernel_rfl) (fun _ _ _ _ _ h => h.elim) (by kernel_rfl) (by rfl) (by rfl) (Below.refl W8.heap.size W8).drew ?_
      simp only [pickOps, List.filterMap_nil, List.getElem?_toArray]
      refine wpHeads_nil ?_
      have SF0 := Lh (Below.refl W8.heap.size W8).drew
      generalize W8.drew = E0 at *
      refine tky 0 (.string r) rfl (fun w' _ => by go_simp) SF0.out ?_
      refine tky 1 (.string r) rfl (fun w' _ => by go_simp) SF0.out ?_
      refine gwq 2 fun K hK => ?_
      have d1 : (r.toList == r.toList) = true := beq_self_eq_true _
      have d2 : (!(r.toList == r.toList)) = false := by rw [d1]; rfl
      go_simp
      refine hK _ _ SF0.out ?_
      clear hK K d1 d2
      refine gwq 3 fun K hK => ?_
      go_simp
      refine hK _ _ SF0.out ?_
      clear hK K
      refine tky 4 (.int .i64 c) rfl (fun w' _ => by go_simp) SF0.out ?_
      refine tky 5 (.int .i64 c) rfl (fun w' _ => by go_simp) SF0.out ?_
      refine gwq 6 fun K hK => ?_
      have d1 : (c == c) = true := beq_self_eq_true _
      have d2 : decide (c = c) = true := decide_eq_true rfl
      go_simp
      refine hK _ _ SF0.out ?_
      clear hK K d1 d2
      refine gwq 7 fun K hK => ?_
      go_simp
      refine hK _ _ SF0.out ?_
      clear hK K
      refine gwq 8 fun K hK => ?_
      go_simp
      refine hK _ _ SF0.out ?_
      clear hK K
      refine tky 9 (.pointer (some ⟨p7, 0, none⟩)) rfl (fun w' _ => by go_simp) SF0.out ?_
      refine tky 11 (.pointer (some ⟨p7, 1, none⟩)) rfl (fun w' _ => by go_simp) SF0.out ?_
      refine tky 13 (.pointer (some ⟨p7, 2, none⟩)) rfl (fun w' _ => by go_simp) SF0.out ?_
      refine tky 16 (.pointer (some ⟨p7, 0, none⟩)) rfl (fun w' _ => by go_simp) SF0.out ?_
      refine tky 18 (.pointer (some ⟨p7, 1, none⟩)) rfl (fun w' _ => by go_simp) SF0.out ?_
      refine tky 20 (.pointer (some ⟨p7, 2, none⟩)) rfl (fun w' _ => by go_simp) SF0.out ?_
      refine tky 10 (.int .i64 nk) rfl (fun w' hw' => by
        obtain ⟨x0, x1, x2, x3, x4⟩ := bx5 ((hw'.block _ (lt_of_some HX7.out)).trans HX7.out)
        go_simp) SF0.out ?_
      refine tky 12 (.int .i64 ns) rfl (fun w' hw' => by
        obtain ⟨x0, x1, x2, x3, x4⟩ := bx5 ((hw'.block _ (lt_of_some HX7.out)).trans HX7.out)
        go_simp) SF0.out ?_
      refine tky 14 (.int .i64 ng) rfl (fun w' hw' => by
        obtain ⟨x0, x1, x2, x3, x4⟩ := bx5 ((hw'.block _ (lt_of_some HX7.out)).trans HX7.out)
        go_simp) SF0.out ?_
      refine tky 17 (.int .i64 nk) rfl (fun w' hw' => by
        obtain ⟨x0, x1, x2, x3, x4⟩ := bx5 ((hw'.block _ (lt_of_some HX7.out)).trans HX7.out)
        go_simp) SF0.out ?_
      refine tky 19 (.int .i64 ns) rfl (fun w' hw' => by
        obtain ⟨x0, x1, x2, x3, x4⟩ := bx5 ((hw'.block _ (lt_of_some HX7.out)).trans HX7.out)
        go_simp) SF0.out ?_
      refine tky 21 (.int .i64 ng) rfl (fun w' hw' => by
        obtain ⟨x0, x1, x2, x3, x4⟩ := bx5 ((hw'.block _ (lt_of_some HX7.out)).trans HX7.out)
        go_simp) SF0.out ?_
      refine gwq 15 fun K hK => ?_
      go_simp
      go_at_call 12
      refine (pfile_any nk ns ng E0).mono ?_
      rintro e E1 ⟨rfl, hb⟩
      obtain ⟨fr, hfr⟩ : ∃ z, z = (if NameOk nk ns ng 0 false then fmtS nk ns ng 0 false else ⟨#[]⟩) := ⟨_, rfl⟩
      rw [← hfr]
      have SF1 := Lh (SF0.out.trans (hb.mono SF0.out.size))
      refine hK _ _ SF1.out ?_
      clear hK K hb
      refine gwq 22 fun K hK => ?_
      go_simp
      go_at_call 13
      refine (rfile_any nk ns ng E1).mono ?_
      rintro e E2 ⟨rfl, hb⟩
      rw [← hfr]
      clear hfr
      have SF2 := Lh (SF1.out.trans (hb.mono SF1.out.size))
      refine hK _ _ SF2.out ?_
      clear hK K hb
      refine gwq 23 fun K hK => ?_
      have d1 : (fr.toList == fr.toList) = true := beq_self_eq_true _
      have d2 : (!(fr.toList == fr.toList)) = false := by rw [d1]; rfl
      go_simp
      refine hK _ _ SF2.out ?_
      clear hK K d1 d2
      refine gwq 24 fun K hK => ?_
      go_simp
      refine hK _ _ SF2.out ?_
      clear hK K
      refine wpAnyH_done (by kernel_rfl) ?_ _
      unfold onlyN
      dsimp only
      have BQ := Lh (SF2.out)
      clear SF0 SF1 SF2
      generalize E2 = WN at *
      have HX7b := Lh ((BQ.out.block _ (lt_of_some HX7.out)).trans HX7.out)
      have HPA9 := Lh ((BQ.out.block _ (lt_of_some HPA8.out)).trans HPA8.out)
      have B9 := Lh (B8.out.trans (BQ.out.mono B8.out.size))
      clear BQ HX7 HPA8 B8
      by_cases hn : NameOk nk ns ng nh xt
      case neg =>
        obtain rfl : c = 1 := by rw [HCC.out, if_neg hn]
        clear hn
        go_wp2_with fail
        go_roundw
        case rel => exact ⟨2, by decide, by rfl, HPA9.out, B9.out⟩
        case measure => simp [intOf]
      obtain rfl : c = 0 := by rw [HCC.out, if_pos hn]
      have HRF := Lh (show fmtV (nk, ns, ng, nh, xt) = r from by rw [HRR.out, if_pos hn]; rfl)
      have HON := Lh (show OkN (nk, ns, ng, nh, xt) from hn)
      clear hn
      go_wp2_with fail
      refine (pparse_any r (by rw [← HRF.out]; exact fmt_le _) WN (strW_below HSW.out B9.out)).mono ?_
      rintro e W11 ⟨⟨xv, xc, rfl, hpf⟩, hb⟩
      obtain ⟨hx1, hx2⟩ := parF_one hpf (Or.inl ⟨HON.out, HRF.out, rfl⟩)
      rw [hx1, hx2, show nmV (nk, ns, ng, nh, xt) = .agg #[.int .i64 nk, .int .i64 ns, .int .i64 ng, .int .i64 nh, .bool xt] from rfl]
      clear hpf hx1 hx2 xv xc
      have HX7d := Lh ((hb.block _ (lt_of_some HX7b.out)).trans HX7b.out)
      have HPA11 := Lh ((hb.block _ (lt_of_some HPA9.out)).trans HPA9.out)
      have B11 := Lh (B9.out.trans (hb.mono B9.out.size))
      clear hb HX7b HPA9 B9
      go_upto_region 13 with fail
      have hb := bel_al W11 (.cells #[.int .i64 nk, .int .i64 ns, .int .i64 ng, .int .i64 nh, .bool xt] 29)
      have HX12 := Lh (heap_alloc_new W11 (.cells #[.int .i64 nk, .int .i64 ns, .int .i64 ng, .int .i64 nh, .bool xt] 29))
      have HX7c := Lh ((hb.block _ (lt_of_some HX7d.out)).trans HX7d.out)
      have HPA12 := Lh ((hb.block _ (lt_of_some HPA11.out)).trans HPA11.out)
      have B12 := Lh (B11.out.trans (hb.mono B11.out.size))
      clear hb HX7d HPA11 B11
      generalize W11.alloc (.cells #[.int .i64 nk, .int .i64 ns, .int .i64 ng, .int .i64 nh, .bool xt] 29) = W12 at *
      generalize W11.heap.size = p12 at *
      refine wp_onlyN ?_
      refine wp_region_headsS (fun W' => Below W12.heap.size W12 W') [] 8 (by kernel_rfl) (fun _ _ _ _ _ h => h.elim) (by kernel_rfl) (by rfl) (by rfl) (Below.refl W12.heap.size W12).drew ?_
      simp only [pickOps, List.filterMap_nil, List.getElem?_toArray]
      refine wpHeads_nil ?_
      have SF0 := Lh (Below.refl W12.heap.size W12).drew
      generalize W12.drew = E0 at *
      refine tky 0 (.int .i64 0) rfl (fun w' _ => by go_simp) SF0.out ?_
      refine gwq 1 fun K hK => ?_
      go_simp
      refine hK _ _ SF0.out ?_
      clear hK K
      refine gwq 2 fun K hK => ?_
      go_simp
      refine hK _ _ SF0.out ?_
      clear hK K
      refine tky 3 (.agg #[.int .i64 nk, .int .i64 ns, .int .i64 ng, .int .i64 nh, .bool xt]) rfl (fun w' hw' => by
        obtain ⟨x0, x1, x2, x3, x4⟩ := bx5 ((hw'.block _ (lt_of_some HX12.out)).trans HX12.out)
        go_simp) SF0.out ?_
      refine tky 4 (.agg #[.int .i64 nk, .int .i64 ns, .int .i64 ng, .int .i64 nh, .bool xt]) rfl (fun w' hw' => by
        obtain ⟨x0, x1, x2, x3, x4⟩ := bx5 ((hw'.block _ (lt_of_some HX7c.out)).trans HX7c.out)
        go_simp) SF0.out ?_
      refine gwq 5 fun K hK => ?_
      go_simp
      go_at_call 10
      refine (lname_any nk ns ng nh xt E0).mono ?_
      rintro e E1 ⟨rfl, hb⟩
      have SF1 := Lh (SF0.out.trans (hb.mono SF0.out.size))
      refine hK _ _ SF1.out ?_
      clear hK K hb
      refine gwq 6 fun K hK => ?_
      have d1 := fun w => run_neqN nk ns ng nh xt nk ns ng nh xt w
      have d2 : (nk == nk && ns == ns && ng == ng && nh == nh && xt == xt) = true := by simp
      rw [d2] at d1
      go_simp
      refine hK _ _ SF1.out ?_
      clear hK K d1 d2
      refine gwq 7 fun K hK => ?_
      go_simp
      refine hK _ _ SF1.out ?_
      clear hK K
      refine wpAnyH_done (by kernel_rfl) ?_ _
      unfold onlyN
      dsimp only
      have BQ := Lh (SF1.out)
      clear SF0 SF1
      generalize E1 = WN at *
      have HPA13 := Lh ((BQ.out.block _ (lt_of_some HPA12.out)).trans HPA12.out)
      have B13 := Lh (B12.out.trans (BQ.out.mono B12.out.size))
      clear BQ HX12 HX7c HPA12 B12
      go_wp2_with fail
      go_roundw
      case rel => exact ⟨2, by decide, by rfl, HPA13.out, B13.out⟩
      case measure => simp [intOf]
    · go_wp2_with fail
      refine (pparse_any s HL.out Wl (strW_below HSW.out BZ.out)).mono ?_
      rintro e W14 ⟨⟨xv, co, rfl, hpf⟩, hb⟩
      have HPF := Lh hpf
      obtain ⟨ck, cs, cg, ch, ct⟩ := xv
      rw [show nmV (ck, cs, cg, ch, ct) = .agg #[.int .i64 ck, .int .i64 cs, .int .i64 cg, .int .i64 ch, .bool ct] from rfl]
      have B14 := Lh (BZ.out.trans (hb.mono BZ.out.size))
      clear hb hpf
      go_upto_region 17 with fail
      have hb := bel_al W14 (.cells #[.int .i64 ck, .int .i64 cs, .int .i64 cg, .int .i64 ch, .bool ct] 29)
      have HX14a := Lh (heap_alloc_new W14 (.cells #[.int .i64 ck, .int .i64 cs, .int .i64 cg, .int .i64 ch, .bool ct] 29))
      have B15 := Lh (B14.out.trans (hb.mono B14.out.size))
      clear hb B14 BZ HPA
      generalize W14.alloc (.cells #[.int .i64 ck, .int .i64 cs, .int .i64 cg, .int .i64 ch, .bool ct] 29) = W15 at *
      generalize W14.heap.size = p14 at *
      go_wp2_with fail
      refine (rparse_any s HL.out W15).mono ?_
      rintro e W16 ⟨⟨yv, yc, rfl, hpf⟩, hb⟩
      obtain ⟨hx1, hx2⟩ := parF_one hpf HPF.out
      rw [hx1, hx2, show nmV (ck, cs, cg, ch, ct) = .agg #[.int .i64 ck, .int .i64 cs, .int .i64 cg, .int .i64 ch, .bool ct] from rfl]
      clear hpf hx1 hx2 yv yc
      have HX14b := Lh ((hb.block _ (lt_of_some HX14a.out)).trans HX14a.out)
      have B16 := Lh (B15.out.trans (hb.mono B15.out.size))
      clear hb HX14a B15
      go_upto_region 18 with fail
      have hb := bel_al W16 (.cells #[.int .i64 ck, .int .i64 cs, .int .i64 cg, .int .i64 ch, .bool ct] 23)
      have HX16 := Lh (heap_alloc_new W16 (.cells #[.int .i64 ck, .int .i64 cs, .int .i64 cg, .int .i64 ch, .bool ct] 23))
      have HX14 := Lh ((hb.block _ (lt_of_some HX14b.out)).trans HX14b.out)
      have B17 := Lh (B16.out.trans (hb.mono B16.out.size))
      clear hb HX14b B16
      generalize W16.alloc (.cells #[.int .i64 ck, .int .i64 cs, .int .i64 cg, .int .i64 ch, .bool ct] 23) = W17 at *
      generalize W16.heap.size = p16 at *
      have HSW17 := Lh (strW_below HSW.out B17.out)
      refine wp_onlyN ?_
      refine wp_region_headsS (fun W' => Below W17.heap.size W17 W') [] 13 (by kernel_rfl) (fun _ _ _ _ _ h => h.elim) (by kernel_rfl) (by rfl) (by rfl) (Below.refl W17.heap.size W17).drew ?_
      simp only [pickOps, List.filterMap_nil, List.getElem?_toArray]
      refine wpHeads_nil ?_
      have SF0 := Lh (Below.refl W17.heap.size W17).drew
      generalize W17.drew = E0 at *
      refine tky 0 (.agg #[.int .i64 ck, .int .i64 cs, .int .i64 cg, .int .i64 ch, .bool ct]) rfl (fun w' hw' => by
        obtain ⟨x0, x1, x2, x3, x4⟩ := bx5 ((hw'.block _ (lt_of_some HX14.out)).trans HX14.out)
        go_simp) SF0.out ?_
      refine tky 1 (.agg #[.int .i64 ck, .int .i64 cs, .int .i64 cg, .int .i64 ch, .bool ct]) rfl (fun w' hw' => by
        obtain ⟨x0, x1, x2, x3, x4⟩ := bx5 ((hw'.block _ (lt_of_some HX16.out)).trans HX16.out)
        go_simp) SF0.out ?_
      refine gwq 2 fun K hK => ?_
      go_simp
      go_at_call 10
      refine (lname_any ck cs cg ch ct E0).mono ?_
      rintro e E1 ⟨rfl, hb⟩
      have SF1 := Lh (SF0.out.trans (hb.mono SF0.out.size))
      refine hK _ _ SF1.out ?_
      clear hK K hb
      refine gwq 3 fun K hK => ?_
      have d1 := fun w => run_eqlN ck cs cg ch ct ck cs cg ch ct w
      have d2 : (ck == ck && cs == cs && cg == cg && ch == ch && ct == ct) = true := by simp
      rw [d2] at d1
      go_simp
      refine hK _ _ SF1.out ?_
      clear hK K d1 d2
      refine gwq 4 fun K hK => ?_
      go_simp
      refine hK _ _ SF1.out ?_
      clear hK K
      refine tky 5 (.int .i64 co) rfl (fun w' _ => by go_simp) SF1.out ?_
      refine tky 6 (.int .i64 co) rfl (fun w' _ => by go_simp) SF1.out ?_
      refine gwq 7 fun K hK => ?_
      have d1 : (co == co) = true := beq_self_eq_true _
      have d2 : decide (co = co) = true := decide_eq_true rfl
      go_simp
      refine hK _ _ SF1.out ?_
      clear hK K d1 d2
      refine gwq 8 fun K hK => ?_
      go_simp
      refine hK _ _ SF1.out ?_
      clear hK K
      refine gwq 9 fun K hK => ?_
      go_simp
      refine hK _ _ SF1.out ?_
      clear hK K
      refine gwq 10 fun K hK => ?_
      go_simp
      go_at_call 8
      refine (awake12_any E1 (strW_below HSW17.out SF1.out)).mono ?_
      rintro e E2 ⟨rfl, hb⟩
      have SF2 := Lh (SF1.out.trans (hb.mono SF1.out.size))
      refine hK _ _ SF2.out ?_
      clear hK K hb
      refine gwq 11 fun K hK => ?_
      go_simp
      refine hK _ _ SF2.out ?_
      clear hK K
      refine gwq 12 fun K hK => ?_
      go_simp
      refine hK _ _ SF2.out ?_
      clear hK K
      refine wpAnyH_done (by kernel_rfl) ?_ _
      unfold onlyN
      dsimp only
      have BQ := Lh (SF2.out)
      clear SF0 SF1 SF2
      generalize E2 = WN at *
      have BF := Lh (B17.out.trans (BQ.out.mono B17.out.size))
      go_wp2_with fail
      go_ret
      exact ⟨rfl, BF.out⟩
end Go.Proofs.YtbmlpafbdbhaiaaGreatDoor.Gf
