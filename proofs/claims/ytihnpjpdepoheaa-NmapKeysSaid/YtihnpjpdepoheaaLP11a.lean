/- What is proved here: the law NmapCounts answers true. No condition. -/
import Derived.Test.YtihnpjpdepoheaaP11l
import Derived.Test.YtihnpjpdepoheaaGn
namespace Go.Proofs.Ytihnpjpdepoheaa.Gf
open Go Go.Joins Go.ChangeShapes Go.WideShapes Go.ChangeAt Go.RowKit Go.Deep Go.Proofs.Ytihnpjpdepoheaa.By Go.Proofs.Ytihnpjpdepoheaa.Qt

theorem ms_setRowM {Y : World} {p : Nat} {vs : List Value} {m : Mp} {cs0 cs : Array Value} {T : TypeId} (h : Ms Y vs m) (hz : Y.heap[p]? = some (.cells cs0 T (0, 0))) (hn : ∀ (k : Nat) (n : Int), cs0[k]? ≠ some (Value.int .u64 n)) : Ms (Y.setRow p cs) vs m := ⟨h.1, h.2.1, h.2.2.1, fun k hk => by
  obtain ⟨a, c, h1, h2⟩ := h.2.2.2 k hk
  exact ⟨a, c, h1, it_keepM h2 hz hn fun b hb => setRow_other _ _ _ _ hb⟩⟩
/-- The box of a map. -/
def BxM (W : World) (g : Nat) (m : Mp) : Prop := ∃ s0 s1 s2 s3 s4 s5 s6 s7, W.heap[g]? = some (.cells #[s0, s1, s2, s3, s4, s5, s6, s7, .int .i64 m.live, .int .i64 m.garb] 32 (0, 0)) ∧ Ms W [s0, s1, s2, s3, s4, s5, s6, s7] m
theorem bxM_below {W W' : World} {g : Nat} {m : Mp} (h : BxM W g m) (hb : Below W.heap.size W W') : BxM W' g m := by
  obtain ⟨s0, s1, s2, s3, s4, s5, s6, s7, h1, h2⟩ := h
  exact ⟨s0, s1, s2, s3, s4, s5, s6, s7, (hb.block _ (lt_of_some h1)).trans h1, ms_below h2 hb⟩
/-- What the map of the law counts after i rounds. -/
structure Cn (m : Mp) (i : Nat) (g S : Int) : Prop where
  ok : okM m
  len : m.st.length = 8
  few : FewN m i
  sum : m.live + m.garb = S
  hi : m.garb ≤ g
theorem itmL_ok (L : List Itm) : ∀ x ∈ itmL L, okI x := fun x hx => by
  obtain ⟨y, -, rfl⟩ := List.mem_map.1 hx
  exact fix_ok y
theorem itmL_len (L : List Itm) : (itmL L).length ≤ 20 := by
  unfold itmL
  rw [List.length_map, List.length_take]
  omega
theorem few_of {m : Mp} {i : Nat} (h : FewN m i) (hi : i ≤ 1000) : Few m := fun k hk => Nat.le_trans (h k hk) hi
theorem flat_lenN {m : Mp} {n : Nat} (h : FewN m n) (hl : m.st.length = 8) : ∀ s, s ≤ 8 → (m.st.take s).flatten.length ≤ n * s
  | 0, _ => by simp
  | s + 1, hs => by
    have ih := flat_lenN h hl s (by omega)
    have := h s (by omega)
    rw [List.take_succ_eq_append_getElem (by omega), List.flatten_append, List.length_append, ← ms_of (by omega), show [ms m s].flatten = ms m s by simp, Nat.mul_succ]
    omega
theorem rd_b_at {w : World} {a : Option Addr} {n c : Nat} {l : List Bool} (h : Rd (fun _ => True) w (.sl .b) [.slice a n c] l) {j : Nat} {x : Bool} (hx : l[j]? = some x) : ∃ b o, a = some ⟨b, o, none⟩ ∧ w.cell? ⟨b, o + j, none⟩ = some (.bool x) := by
  have hj := (List.getElem?_eq_some_iff.1 hx).1
  obtain ⟨b2, o2, c2, hv2, -, -, -, hc2⟩ := rd_cells h (by omega)
  obtain ⟨rfl, -⟩ : a = some ⟨b2, o2, none⟩ ∧ (n = l.length ∧ c = c2) := by simpa using hv2
  obtain ⟨cs2, hrd2, hk2⟩ := hc2 j x hx
  have hrd3 : cs2 = [.bool x] := hrd2
  subst hrd3
  have k0 := hk2 0 (by decide)
  rw [show o2 + (j * Ty.b.n + 0) = o2 + j by show o2 + (j * 1 + 0) = _; omega] at k0
  exact ⟨b2, o2, rfl, k0⟩
theorem rd_u_at {w : World} {a : Option Addr} {n c : Nat} {l : List Int} (h : Rd (fun _ => True) w (.sl (.i .u16)) [.slice a n c] l) {j : Nat} {x : Int} (hx : l[j]? = some x) : ∃ b o, a = some ⟨b, o, none⟩ ∧ w.cell? ⟨b, o + j, none⟩ = some (.int .u16 x) ∧ 0 ≤ x ∧ x ≤ 65535 := by
  have hj := (List.getElem?_eq_some_iff.1 hx).1
  obtain ⟨b2, o2, c2, hv2, -, -, -, hc2⟩ := rd_cells h (by omega)
  obtain ⟨rfl, -⟩ : a = some ⟨b2, o2, none⟩ ∧ (n = l.length ∧ c = c2) := by simpa using hv2
  obtain ⟨cs2, hrd2, hk2⟩ := hc2 j x hx
  obtain ⟨hr, rfl⟩ : (IntKind.u16.min ≤ x ∧ x ≤ IntKind.u16.max) ∧ cs2 = [.int .u16 x] := hrd2
  have k0 := hk2 0 (by decide)
  rw [show o2 + (j * (Ty.i .u16).n + 0) = o2 + j by show o2 + (j * 1 + 0) = _; omega] at k0
  exact ⟨b2, o2, rfl, k0, by have h1 : (0 : Int) ≤ x := hr.1; exact h1, by have h1 : x ≤ 65535 := hr.2; exact h1⟩
set_option maxRecDepth 100000 in
set_option maxHeartbeats 25600000 in
theorem counts_any (v : Value) (L : List Itm) (vd : Value) (D : List Bool) (vu : Value) (U : List Int) (w : World) (sl : It w v L) (sd : Rd (fun _ => True) w (.sl .b) [vd] D) (su : Rd (fun _ => True) w (.sl (.i .u16)) [vu] U) : Calls Try.prog 6 #[v, vd, vu] w fun e w' => e = .returned (.bool true) ∧ Below w.heap.size w w' := by
  have PI := Lib.hid (litems_any v L w sl)
  have KOK := Lib.hid (itmL_ok L)
  have KLN := Lib.hid (itmL_len L)
  generalize itmL L = K at *
  obtain ⟨aL, cL, rfl, -, -⟩ := it_form sl
  obtain ⟨aD, cD, rfl, -, -⟩ := rd_sl sd
  obtain ⟨aU, cU, rfl, -, -⟩ := rd_sl su
  obtain ⟨nD, hnD⟩ : ∃ z, z = D.length := ⟨_, rfl⟩
  obtain ⟨nU, hnU⟩ : ∃ z, z = U.length := ⟨_, rfl⟩
  rw [← hnD] at sd ⊢
  rw [← hnU] at su ⊢
  have SD := Lib.hid sd
  have SU := Lib.hid su
  have HDU := Lib.hid (And.intro hnD hnU)
  generalize L.length = nL at *
  clear sl sd su hnD hnU
  go_enter Try.func6, Try.ntmps6
  go_wp2_with fail
  refine PI.out.mono ?_
  rintro e w1 ⟨⟨v1, rfl, ho1⟩, hb1⟩
  obtain ⟨aK, cK, rfl, -, -⟩ := owT_form ho1
  obtain ⟨n, hn⟩ : ∃ z, z = K.length := ⟨_, rfl⟩
  have IK1 := Lib.hid (owT_it ho1)
  rw [← hn] at IK1 ⊢
  have HN := Lib.hid (show n = K.length ∧ n ≤ 20 from ⟨hn, by rw [hn]; exact KLN.out⟩)
  have B1 := Lib.hid hb1
  have SD1 := Lib.hid (rd_below SD.out hb1)
  have SU1 := Lib.hid (rd_below SU.out hb1)
  clear ho1 hn hb1 PI SD SU KLN
  go_wp2_with fail
  refine (pnew_any w1).mono ?_
  rintro e w2 ⟨⟨v2, rfl, hv2⟩, hb2⟩
  obtain ⟨t0, t1, t2, t3, t4, t5, t6, t7, rfl, hms2⟩ := hv2
  have B2 := Lib.hid (B1.out.trans (hb2.mono B1.out.size))
  have IK := Lib.hid (it_below IK1.out hb2)
  have SD2 := Lib.hid (rd_below SD1.out hb2)
  have SU2 := Lib.hid (rd_below SU1.out hb2)
  have ON2 := Lib.hid (ms_one hms2 mp0.live mp0.garb)
  have hz2 := heap_alloc_new w2 (.cells #[.slice none 0 0, .slice none 0 0, .slice none 0 0, .slice none 0 0, .slice none 0 0, .slice none 0 0, .slice none 0 0, .slice none 0 0, .int .i64 0, .int .i64 0] 32)
  clear hb2 B1 IK1 SD1 SU1
  go_upto_region 3 with ((with_reducible refine storeM w2.heap.size _ #[t0, t1, t2, t3, t4, t5, t6, t7, .int .i64 mp0.live, .int .i64 mp0.garb] ?_ ?_ hz2 rfl rfl ON2.out ?_); exact rfl; exact rfl)
  rw [World.setRow_alloc_new]
  have q3 := bel_al w2 (.cells #[t0, t1, t2, t3, t4, t5, t6, t7, .int .i64 mp0.live, .int .i64 mp0.garb] 32)
  have BM3 := Lib.hid (show BxM (w2.alloc (.cells #[t0, t1, t2, t3, t4, t5, t6, t7, .int .i64 mp0.live, .int .i64 mp0.garb] 32)) w2.heap.size mp0 from ⟨t0, t1, t2, t3, t4, t5, t6, t7, heap_alloc_new _ _, ms_below hms2 q3⟩)
  have B3 := Lib.hid q3
  clear hz2 hms2 q3 ON2
  generalize w2.alloc (.cells #[t0, t1, t2, t3, t4, t5, t6, t7, .int .i64 mp0.live, .int .i64 mp0.garb] 32) = w3 at *
  obtain ⟨gb, hgb⟩ : ∃ g, g = w2.heap.size := ⟨_, rfl⟩
  have HGB := Lib.hid (show w2.heap.size ≤ gb by omega)
  rw [← hgb] at BM3
  rw [← hgb]
  clear hgb
  have CN0 := Lib.hid (show Cn mp0 0 (((0 : Nat) : Int) * 100000) 0 from ⟨mp0_ok.1, mp0_ok.2, fun k hk => by rw [ms_mp0]; exact Nat.le_refl _, rfl, by decide⟩)
  go_wp2_with fail
  go_loopw [9, 19] (fun t9 t19 wr => ∃ (i : Nat) (mm : Mp) (S : Int), i ≤ n ∧ t19 = .int .i64 (i : Int) ∧ t9 = .int .i64 S ∧ Hid (BxM wr gb mm) ∧ Hid (Cn mm i ((i : Int) * 100000) S) ∧ Hid (Below w2.heap.size w2 wr)) (fun _ t _ => n - (intOf t).toNat)
  case atStart => exact ⟨0, mp0, 0, by omega, rfl, rfl, BM3, CN0, B3⟩
  case round =>
    clear BM3 CN0 B3
    obtain ⟨i, mm, S, hi, rfl, rfl, BMl, CN, Bl⟩ := hrel
    rename World => wl
    by_cases hlt : i < n
    case neg =>
      have l1 : decide ((i : Int) < (n : Int)) = false := decide_eq_false (by omega)
      have l2 : decide (i < n) = false := decide_eq_false hlt
      have HI20 := Lib.hid (show i ≤ 20 by have := HN.out.2; omega)
      clear hlt hi
      have hbl := flat_lenN CN.out.few CN.out.len 8 (Nat.le_refl _)
      rw [List.take_of_length_le (by have := CN.out.len; omega)] at hbl
      have hfl : mm.st.flatten.length ≤ 1000 := by have := HI20.out; omega
      have hfew : Few mm := few_of CN.out.few (by have := HI20.out; omega)
      have HIL := Lib.hid (show itemsL mm = iL mm by unfold itemsL; rw [if_pos CN.out.ok])
      have HLV := Lib.hid (byT_flat CN.out.ok CN.out.len)
      have HJL := Lib.hid (show (iL mm).length ≤ 1000 from Nat.le_trans (length_sortL _) hfl)
      have HSB := Lib.hid (show mm.live + mm.garb = S ∧ -9000000000000000000 ≤ S ∧ S ≤ 9000000000000000000 by
        have h1 := CN.out.sum
        have h2 := CN.out.hi
        have h3 := CN.out.ok.lo
        have h4 := few_live hfew CN.out.ok CN.out.len
        have h5 := HI20.out
        omega)
      obtain ⟨s0, s1, s2, s3, s4, s5, s6, s7, hbx, hms⟩ := BMl.out
      have PIT := Lib.hid (pitems11_any _ mm wl ⟨s0, s1, s2, s3, s4, s5, s6, s7, rfl, hms⟩ hfew hfl)
      obtain ⟨x0, x1, x2, x3, x4, x5, x6, x7, x8, x9⟩ := bx10 hbx
      clear hbx hms hbl hfl hfew CN
      go_wp2_with fail
      clear x0 x1 x2 x3 x4 x5 x6 x7 x8 x9
      refine PIT.out.mono ?_
      rintro e w10 ⟨⟨v10, rfl, hit⟩, hb⟩
      rw [HIL.out] at hit
      obtain ⟨J, hJ⟩ : ∃ z, z = iL mm := ⟨_, rfl⟩
      rw [← hJ] at hit HLV HJL
      obtain ⟨aJ, cJ, rfl, -, -⟩ := it_form hit
      obtain ⟨nJ, hnJ⟩ : ∃ z, z = J.length := ⟨_, rfl⟩
      rw [← hnJ] at hit HJL ⊢
      have IJ := Lib.hid hit
      have HNJ := Lib.hid hnJ
      have B10 := Lib.hid (Bl.out.trans (hb.mono Bl.out.size))
      have BM10 := Lib.hid (bxM_below BMl.out hb)
      clear hit hnJ hJ hb PIT BMl Bl
      go_wp2_with fail
      go_loopw [11, 75] (fun t11 t75 wr => ∃ (j : Nat) (T : Int), j ≤ nJ ∧ t75 = .int .i64 (j : Int) ∧ t11 = .int .i64 T ∧ Hid (T = byT (J.take j)) ∧ Hid (Below w10.heap.size w10 wr)) (fun _ t _ => nJ - (intOf t).toNat)
      case atStart => exact ⟨0, 0, by omega, rfl, rfl, Lib.hid rfl, Lib.hid (Below.refl _ _)⟩
      case round =>
        obtain ⟨j, T, hj, rfl, rfl, HT, BR⟩ := hrel
        rename World => wk
        by_cases hlt : j < nJ
        case neg =>
          have l1 : decide ((j : Int) < (nJ : Int)) = false := decide_eq_false (by omega)
          have l2 : decide (j < nJ) = false := decide_eq_false hlt
          have hT : T = mm.live := by
            rw [HT.out, List.take_of_length_le (by have := HNJ.out; omega)]
            exact HLV.out
          have BMk := Lib.hid (bxM_below BM10.out BR.out)
          have Bk := Lib.hid (B2.out.trans ((B10.out.trans (BR.out.mono B10.out.size)).mono B2.out.size))
          have e8 : wrap64 (mm.live + mm.garb) = S := by rw [HSB.out.1]; have := HSB.out; unfold wrap64; omega
          have e7 : (mm.live == mm.live) = true := by simp
          have e6 : (S == S) = true := by simp
          obtain ⟨t0, t1, t2, t3, t4, t5, t6, t7, hbx, -⟩ := BMk.out
          obtain ⟨-, -, -, -, -, -, -, -, x8, x9⟩ := bx10 hbx
          clear hlt hj hbx HT BR
          subst hT
          go_wp2_with fail
          clear x8 x9
          refine (awake11_any _).mono ?_
          rintro e wz ⟨rfl, hb⟩
          have BZ := Lib.hid (Bk.out.trans (hb.mono Bk.out.size))
          clear hb
          go_wp2_with fail
          go_ret
          exact ⟨rfl, BZ.out⟩
        have l1 : decide ((j : Int) < (nJ : Int)) = true := decide_eq_true (by omega)
        have l2 : decide (j < nJ) = true := decide_eq_true hlt
        have HJ := Lib.hid hlt
        have EJ := Lib.hid (show wrap64 ((j : Int) + 1) = ((j + 1 : Nat) : Int) by have := HJL.out; unfold wrap64; omega)
        obtain ⟨b, off, cap, hv, -, -, hc⟩ := it_cells (it_below IJ.out BR.out) (by have := HNJ.out; omega)
        obtain ⟨rfl, -⟩ : aJ = some ⟨b, off, none⟩ ∧ (nJ = J.length ∧ cJ = cap) := by simpa using hv
        have C := hc j (by have := HNJ.out; omega)
        have hok := getT_ok IJ.out.1 j
        have hst := byT_takeI (L := J) (i := j) (by have := HNJ.out; omega)
        have hbd := byT_bd (J.take j)
        have hbd2 := szT_bd (J.getD j z0)
        have hln : (J.take j).length ≤ 1000 := by rw [List.length_take]; have := HJL.out; omega
        obtain ⟨y, hy⟩ : ∃ z, z = J.getD j z0 := ⟨_, rfl⟩
        rw [← hy] at C hok hst hbd2
        have PS := Lib.hid (fun W => psize_any y.sz W hok.sz)
        obtain ⟨k0, k1, k2, k3⟩ := C
        obtain ⟨T1, hT1⟩ : ∃ z, z = T + szT y := ⟨_, rfl⟩
        have ew : wrap64 (T + szI6 y.sz) = T1 := by
          have h1 := HT.out
          have h2 : szT y = szI6 y.sz := rfl
          rw [hT1]
          unfold wrap64
          omega
        have HT1 := Lib.hid (show T1 = byT (J.take (j + 1)) by rw [hst, hT1, HT.out])
        have p0 : (0 : Int) ≤ (j : Int) := by omega
        have p1 : (j : Int) < (nJ : Int) := by omega
        clear hv hc hok hst hbd hbd2 hln hy hT1 hlt hj HT
        generalize szI6 y.sz = zz at *
        go_upto_region 19 with fail
        clear k0 k1 k2 k3 p0 p1 l1 l2
        have q1 := bel_al wk (.cells #[.int .u64 (y.key : Int), .int .u32 (y.ck : Int), .int .i64 y.off, .int .i64 y.sz] 37)
        have HB := Lib.hid (heap_alloc_new wk (.cells #[.int .u64 (y.key : Int), .int .u32 (y.ck : Int), .int .i64 y.off, .int .i64 y.sz] 37))
        have BR1 := Lib.hid (BR.out.trans (q1.mono BR.out.size))
        clear q1 BR
        generalize wk.alloc (.cells #[.int .u64 (y.key : Int), .int .u32 (y.ck : Int), .int .i64 y.off, .int .i64 y.sz] 37) = wm at *
        obtain ⟨⟨x0, x1, x2, x3⟩, -⟩ := bx4 HB.out
        go_wp2_with fail
        clear x0 x1 x2 x3
        refine (PS.out _).mono ?_
        rintro e w12 ⟨rfl, rfl⟩
        go_wp2_with fail
        go_roundw
        case rel =>
          have h1 := HJ.out
          exact ⟨j + 1, T1, by omega, by rw [EJ.out], by rw [ew], HT1, BR1⟩
        case measure =>
          have h1 := HJ.out
          rw [EJ.out]
          simp [intOf]; omega
    have l1 : decide ((i : Int) < (n : Int)) = true := decide_eq_true (by omega)
    have l2 : decide (i < n) = true := decide_eq_true hlt
    have HI := Lib.hid hlt
    have EI := Lib.hid (show wrap64 ((i : Int) + 1) = ((i + 1 : Nat) : Int) by have := HN.out; unfold wrap64; omega)
    obtain ⟨b, off, cap, hv, -, -, hc⟩ := it_cells IK.out (by have := HN.out.1; omega)
    obtain ⟨rfl, -⟩ : aK = some ⟨b, off, none⟩ ∧ (n = K.length ∧ cK = cap) := by simpa using hv
    have hC := hc i (by have := HN.out.1; omega)
    have hxk := getT_mem (L := K) (k := i) (by have := HN.out.1; omega)
    have hxo := KOK.out _ hxk
    have hxi := IK.out.1 _ hxk
    obtain ⟨x, hx⟩ : ∃ z, z = K.getD i z0 := ⟨_, rfl⟩
    rw [← hx] at hC hxo hxi
    have CI := Lib.hid hC
    have XO := Lib.hid (And.intro hxo hxi)
    have p0 : (0 : Int) ≤ (i : Int) := by omega
    have p1 : (i : Int) < (n : Int) := by omega
    clear hv hc hC hxk hxo hxi hx hlt hi
    go_upto_region 7 with fail
    clear l1 l2
    obtain ⟨s0, s1, s2, s3, s4, s5, s6, s7, hbx, hms⟩ := BMl.out
    obtain ⟨x0, x1, x2, x3, x4, x5, x6, x7, x8, x9⟩ := bx10 hbx
    have y0 := fun d os => cell_regrown x0 d os
    have y1 := fun d os => cell_regrown x1 d os
    have y2 := fun d os => cell_regrown x2 d os
    have y3 := fun d os => cell_regrown x3 d os
    have y4 := fun d os => cell_regrown x4 d os
    have y5 := fun d os => cell_regrown x5 d os
    have y6 := fun d os => cell_regrown x6 d os
    have y7 := fun d os => cell_regrown x7 d os
    have y8 := fun d os => cell_regrown x8 d os
    have y9 := fun d os => cell_regrown x9 d os
    have HBX := Lib.hid hbx
    have HMS := Lib.hid hms
    have hre := (CI.out.below Bl.out).re
    obtain ⟨r0, r1, r2, r3⟩ := hre
    clear x0 x1 x2 x3 x4 x5 x6 x7 x8 x9 hbx hms
    refine wp_region_bl_tail 5 (by kernel_rfl) (by kernel_rfl) ?_
    simp only [List.take_succ_cons, List.take_zero, List.drop_succ_cons, List.drop_zero]
    iterate 5 (go_big_quiet_step (fail))
    refine wpQuiet_nil ?_
    intro w4 hb
    have PC := Lib.hid (pput11_any _ mm x w4 ⟨s0, s1, s2, s3, s4, s5, s6, s7, rfl, ms_below HMS.out hb⟩ (few_of CN.out.few (by have := HI.out; have := HN.out.2; omega)) XO.out.2)
    have HBX2 := Lib.hid ((hb.block _ (lt_of_some HBX.out)).trans HBX.out)
    have HMS2 := Lib.hid (ms_below HMS.out hb)
    have B4 := Lib.hid (Bl.out.trans (hb.mono Bl.out.size))
    clear hb y0 y1 y2 y3 y4 y5 y6 y7 y8 y9 HBX HMS r0 r1 r2 r3
    go_wp2_with fail
    refine PC.out.mono ?_
    rintro e w4b ⟨⟨v8, rfl, hv8⟩, hb⟩
    obtain ⟨t0, t1, t2, t3, t4, t5, t6, t7, rfl, hms8⟩ := hv8
    have ON := Lib.hid (ms_one hms8 (putM mm x).live (putM mm x).garb)
    have HMS8 := Lib.hid hms8
    have HBX8 := Lib.hid ((hb.block _ (lt_of_some HBX2.out)).trans HBX2.out)
    have B4b := Lib.hid (B4.out.trans (hb.mono B4.out.size))
    have NU := Lib.hid (ms_u64 HMS2.out mm.live mm.garb)
    clear hb PC HBX2 HMS2 B4 hms8
    go_upto_region 8 with ((with_reducible refine storeM gb _ #[t0, t1, t2, t3, t4, t5, t6, t7, .int .i64 (putM mm x).live, .int .i64 (putM mm x).garb] ?_ ?_ HBX8.out rfl rfl ON.out ?_); exact rfl; exact rfl)
    have BM5 := Lib.hid (show BxM (w4b.setRow gb #[t0, t1, t2, t3, t4, t5, t6, t7, .int .i64 (putM mm x).live, .int .i64 (putM mm x).garb]) gb ((putM mm x)) from ⟨t0, t1, t2, t3, t4, t5, t6, t7, setRow_heap _ _ _ _ _ _ HBX8.out, ms_setRowM HMS8.out HBX8.out NU.out⟩)
    have B5 := Lib.hid (below_setRowM B4b.out HGB.out #[t0, t1, t2, t3, t4, t5, t6, t7, .int .i64 (putM mm x).live, .int .i64 (putM mm x).garb])
    clear HMS8 HBX8 NU ON B4b
    generalize w4b.setRow gb #[t0, t1, t2, t3, t4, t5, t6, t7, .int .i64 (putM mm x).live, .int .i64 (putM mm x).garb] = w5 at *
    -- the sum
    obtain ⟨k0, k1, k2, k3⟩ := CI.out.below B5.out
    have PS := Lib.hid (psize_any x.sz w5 XO.out.2.sz)
    have hcnt := put_cnt CN.out.ok CN.out.len XO.out.1 CN.out.few CN.out.hi (by have := HI.out; have := HN.out.2; omega)
    have hok2 := putM_ok CN.out.ok CN.out.len XO.out.1
    have hsb := szT_bd x
    have hs0 : -100000000 ≤ S ∧ S ≤ 100000000 := by
      have h1 := CN.out.sum
      have h2 := CN.out.hi
      have h3 := CN.out.ok.lo
      have h4 := few_live (few_of CN.out.few (by have := HI.out; have := HN.out.2; omega)) CN.out.ok CN.out.len
      have := HI.out
      have := HN.out.2
      omega
    obtain ⟨S1, hS1⟩ : ∃ z, z = S + szT x := ⟨_, rfl⟩
    have ew : wrap64 (S + szI6 x.sz) = S1 := by rw [hS1]; unfold wrap64; show _ = S + szI6 x.sz; have h1 : szT x = szI6 x.sz := rfl; omega
    have CN5 := Lib.hid (show Cn (putM mm x) (i + 1) ((i : Int) * 100000 + 4200) S1 from ⟨hok2.1, hok2.2, hcnt.2.2, by rw [hcnt.1, CN.out.sum, hS1], hcnt.2.1⟩)
    have HS1 := Lib.hid (show -100010000 ≤ S1 ∧ S1 ≤ 100010000 by omega)
    clear hcnt hok2 hsb hs0 hS1 CN
    generalize putM mm x = m5 at *
    generalize szI6 x.sz = zz at *
    go_wp2_with fail
    refine PS.out.mono ?_
    rintro e w6 ⟨rfl, rfl⟩
    go_upto_region 9 with fail
    rw [ew]
    clear ew k0 k1 k2 k3 PS
    go_cut [45] from 36 to 44 (fun tq wx => ∃ qd : Bool, tq = .bool qd ∧ wx = w5)
    case first =>
      by_cases hd : i < nD
      · have l1 : decide ((i : Int) < (nD : Int)) = true := decide_eq_true (by omega)
        have l2 : decide (i < nD) = true := decide_eq_true hd
        obtain ⟨d, hdv⟩ : ∃ d, D[i]? = some d := ⟨_, List.getElem?_eq_getElem (by have := HDU.out.1; omega)⟩
        obtain ⟨bo, oo, rfl, k0⟩ := rd_b_at (rd_below SD2.out B5.out) hdv
        have p2 : (i : Int) < (nD : Int) := by omega
        clear hdv hd
        go_wp2_with fail
        go_meet
        exact ⟨d, rfl, rfl⟩
      · have l1 : decide ((i : Int) < (nD : Int)) = false := decide_eq_false (by omega)
        have l2 : decide (i < nD) = false := decide_eq_false hd
        clear hd
        go_wp2_with fail
        go_meet
        exact ⟨false, rfl, rfl⟩
    case rest =>
      obtain ⟨qd, rfl, rfl⟩ := hcut
      go_upto_if 45 with fail
      go_cut [9] from 46 to 52 (fun t wx => t = .int .i64 S1 ∧ ∃ m6, Hid (BxM wx gb m6) ∧ Hid (Cn m6 (i + 1) ((i : Int) * 100000 + 8400) S1) ∧ Hid (Below w2.heap.size w2 wx))
      case first =>
        cases qd
        · go_wp2_with fail
          go_meet
          exact ⟨rfl, m5, BM5, Lib.hid ⟨CN5.out.ok, CN5.out.len, CN5.out.few, CN5.out.sum, by have := CN5.out.hi; omega⟩, B5⟩
        · go_upto_region 10 with fail
          obtain ⟨s0, s1, s2, s3, s4, s5, s6, s7, hbx, hms⟩ := BM5.out
          obtain ⟨x0, x1, x2, x3, x4, x5, x6, x7, x8, x9⟩ := bx10 hbx
          have y0 := fun d os => cell_regrown x0 d os
          have y1 := fun d os => cell_regrown x1 d os
          have y2 := fun d os => cell_regrown x2 d os
          have y3 := fun d os => cell_regrown x3 d os
          have y4 := fun d os => cell_regrown x4 d os
          have y5 := fun d os => cell_regrown x5 d os
          have y6 := fun d os => cell_regrown x6 d os
          have y7 := fun d os => cell_regrown x7 d os
          have y8 := fun d os => cell_regrown x8 d os
          have y9 := fun d os => cell_regrown x9 d os
          have HBX := Lib.hid hbx
          have HMS := Lib.hid hms
          have hre := (CI.out.below B5.out).re
          obtain ⟨r0, r1, r2, r3⟩ := hre
          clear x0 x1 x2 x3 x4 x5 x6 x7 x8 x9 hbx hms
          refine wp_region_bl_tail 6 (by kernel_rfl) (by kernel_rfl) ?_
          simp only [List.take_succ_cons, List.take_zero, List.drop_succ_cons, List.drop_zero]
          iterate 6 (go_big_quiet_step (fail))
          refine wpQuiet_nil ?_
          intro w8 hb
          have PC := Lib.hid (pdelete_any _ m5 x.key w8 ⟨s0, s1, s2, s3, s4, s5, s6, s7, rfl, ms_below HMS.out hb⟩ (few_of CN5.out.few (by have := HI.out; have := HN.out.2; omega)))
          have HBX2 := Lib.hid ((hb.block _ (lt_of_some HBX.out)).trans HBX.out)
          have HMS2 := Lib.hid (ms_below HMS.out hb)
          have B8 := Lib.hid (B5.out.trans (hb.mono B5.out.size))
          clear hb y0 y1 y2 y3 y4 y5 y6 y7 y8 y9 HBX HMS r0 r1 r2 r3
          go_wp2_with fail
          refine PC.out.mono ?_
          rintro e w8b ⟨⟨v8, rfl, hv8⟩, hb⟩
          obtain ⟨t0, t1, t2, t3, t4, t5, t6, t7, rfl, hms8⟩ := hv8
          have ON := Lib.hid (ms_one hms8 (delM m5 x.key).live (delM m5 x.key).garb)
          have HMS8 := Lib.hid hms8
          have HBX8 := Lib.hid ((hb.block _ (lt_of_some HBX2.out)).trans HBX2.out)
          have B8b := Lib.hid (B8.out.trans (hb.mono B8.out.size))
          have NU := Lib.hid (ms_u64 HMS2.out m5.live m5.garb)
          clear hb PC HBX2 HMS2 B8 hms8
          go_wp2_with ((with_reducible refine storeM gb _ #[t0, t1, t2, t3, t4, t5, t6, t7, .int .i64 (delM m5 x.key).live, .int .i64 (delM m5 x.key).garb] ?_ ?_ HBX8.out rfl rfl ON.out ?_); exact rfl; exact rfl)
          have BM6 := Lib.hid (show BxM (w8b.setRow gb #[t0, t1, t2, t3, t4, t5, t6, t7, .int .i64 (delM m5 x.key).live, .int .i64 (delM m5 x.key).garb]) gb ((delM m5 x.key)) from ⟨t0, t1, t2, t3, t4, t5, t6, t7, setRow_heap _ _ _ _ _ _ HBX8.out, ms_setRowM HMS8.out HBX8.out NU.out⟩)
          have B6 := Lib.hid (below_setRowM B8b.out HGB.out #[t0, t1, t2, t3, t4, t5, t6, t7, .int .i64 (delM m5 x.key).live, .int .i64 (delM m5 x.key).garb])
          clear HMS8 HBX8 NU ON B8b
          generalize w8b.setRow gb #[t0, t1, t2, t3, t4, t5, t6, t7, .int .i64 (delM m5 x.key).live, .int .i64 (delM m5 x.key).garb] = w6 at *
          have hdc := del_cnt CN5.out.ok CN5.out.len x.key CN5.out.few CN5.out.hi (by have := HI.out; have := HN.out.2; omega)
          have hdo := delM_ok CN5.out.ok CN5.out.len x.key
          go_meet
          exact ⟨rfl, delM m5 x.key, BM6, Lib.hid ⟨hdo.1, hdo.2, hdc.2.2, by rw [hdc.1, CN5.out.sum], by have := hdc.2.1; omega⟩, B6⟩
      case rest =>
        rename World => w7
        obtain ⟨rfl, m6, BM7, CN7, B7⟩ := hcut
        clear BM5 CN5 B5
        obtain ⟨qu, hqu⟩ : ∃ q : Bool, decide (i < nU) = q := ⟨_, rfl⟩
        have l1 : decide ((i : Int) < (nU : Int)) = qu := by rw [← hqu]; exact decide_eq_decide.2 (by omega)
        have HQU := Lib.hid hqu
        go_upto_if 56 with fail
        clear hqu l1
        cases qu
        · go_wp2_with fail
          go_roundw
          case rel =>
            have h1 := HI.out
            exact ⟨i + 1, m6, S1, by omega, by rw [EI.out], rfl, BM7, Lib.hid ⟨CN7.out.ok, CN7.out.len, CN7.out.few, CN7.out.sum, by have := CN7.out.hi; omega⟩, B7⟩
          case measure =>
            have h1 := HI.out
            rw [EI.out]
            simp [intOf]; omega
        · have hu : i < nU := of_decide_eq_true HQU.out
          obtain ⟨d, hdv⟩ : ∃ d, U[i]? = some d := ⟨_, List.getElem?_eq_getElem (by have := HDU.out.2; omega)⟩
          obtain ⟨bo, oo, rfl, k0, d0, d1⟩ := rd_u_at (rd_below SU2.out B7.out) hdv
          have HDV := Lib.hid hdv
          have p2 : (i : Int) < (nU : Int) := by omega
          have ew1 : wrap64 d = d := by unfold wrap64; omega
          have hwc := waste_cnt CN7.out.ok d0 d1 CN7.out.few CN7.out.hi (by have := HI.out; have := HN.out.2; omega)
          have hwo := wasteM_ok CN7.out.ok CN7.out.len d
          have HJD := Lib.hid (show J64 d by unfold J64; omega)
          have ew2 : wrap64 (S1 + d) = S1 + d := by have := HS1.out; unfold wrap64; omega
          have CN8 := Lib.hid (show Cn (wasteM m6 d) (i + 1) (((i + 1 : Nat) : Int) * 100000) (S1 + d) from ⟨hwo.1, hwo.2, hwc.2.2, by rw [hwc.1, CN7.out.sum], by have := hwc.2.1; omega⟩)
          have HEW := Lib.hid (And.intro ew1 ew2)
          clear hwc hwo hdv hu ew2 d0 d1
          go_upto_region 12 with fail
          obtain ⟨s0, s1, s2, s3, s4, s5, s6, s7, hbx, hms⟩ := BM7.out
          obtain ⟨x0, x1, x2, x3, x4, x5, x6, x7, x8, x9⟩ := bx10 hbx
          have y0 := fun d os => cell_regrown x0 d os
          have y1 := fun d os => cell_regrown x1 d os
          have y2 := fun d os => cell_regrown x2 d os
          have y3 := fun d os => cell_regrown x3 d os
          have y4 := fun d os => cell_regrown x4 d os
          have y5 := fun d os => cell_regrown x5 d os
          have y6 := fun d os => cell_regrown x6 d os
          have y7 := fun d os => cell_regrown x7 d os
          have y8 := fun d os => cell_regrown x8 d os
          have y9 := fun d os => cell_regrown x9 d os
          have HBX := Lib.hid hbx
          have HMS := Lib.hid hms
          have r0 := fun d os => cell_regrown k0 d os
          clear k0
          clear x0 x1 x2 x3 x4 x5 x6 x7 x8 x9 hbx hms
          refine wp_region_bl_tail 6 (by kernel_rfl) (by kernel_rfl) ?_
          simp only [List.take_succ_cons, List.take_zero, List.drop_succ_cons, List.drop_zero]
          iterate 6 (go_big_quiet_step (fail))
          refine wpQuiet_nil ?_
          intro w8 hb
          have PC := Lib.hid (pwaste_any _ m6 d w8 ⟨s0, s1, s2, s3, s4, s5, s6, s7, rfl, ms_below HMS.out hb⟩ (few_of CN7.out.few (by have := HI.out; have := HN.out.2; omega)) HJD.out)
          have HBX2 := Lib.hid ((hb.block _ (lt_of_some HBX.out)).trans HBX.out)
          have HMS2 := Lib.hid (ms_below HMS.out hb)
          have B8 := Lib.hid (B7.out.trans (hb.mono B7.out.size))
          clear hb y0 y1 y2 y3 y4 y5 y6 y7 y8 y9 HBX HMS r0 ew1
          go_wp2_with fail
          rw [HEW.out.1]
          refine PC.out.mono ?_
          rintro e w8b ⟨⟨v8, rfl, hv8⟩, hb⟩
          obtain ⟨t0, t1, t2, t3, t4, t5, t6, t7, rfl, hms8⟩ := hv8
          have ON := Lib.hid (ms_one hms8 (wasteM m6 d).live (wasteM m6 d).garb)
          have HMS8 := Lib.hid hms8
          have HBX8 := Lib.hid ((hb.block _ (lt_of_some HBX2.out)).trans HBX2.out)
          have B8b := Lib.hid (B8.out.trans (hb.mono B8.out.size))
          have NU := Lib.hid (ms_u64 HMS2.out m6.live m6.garb)
          clear hb PC HBX2 HMS2 B8 hms8
          go_upto_region 13 with ((with_reducible refine storeM gb _ #[t0, t1, t2, t3, t4, t5, t6, t7, .int .i64 (wasteM m6 d).live, .int .i64 (wasteM m6 d).garb] ?_ ?_ HBX8.out rfl rfl ON.out ?_); exact rfl; exact rfl)
          have BM9 := Lib.hid (show BxM (w8b.setRow gb #[t0, t1, t2, t3, t4, t5, t6, t7, .int .i64 (wasteM m6 d).live, .int .i64 (wasteM m6 d).garb]) gb ((wasteM m6 d)) from ⟨t0, t1, t2, t3, t4, t5, t6, t7, setRow_heap _ _ _ _ _ _ HBX8.out, ms_setRowM HMS8.out HBX8.out NU.out⟩)
          have B9 := Lib.hid (below_setRowM B8b.out HGB.out #[t0, t1, t2, t3, t4, t5, t6, t7, .int .i64 (wasteM m6 d).live, .int .i64 (wasteM m6 d).garb])
          clear HMS8 HBX8 NU ON B8b
          generalize w8b.setRow gb #[t0, t1, t2, t3, t4, t5, t6, t7, .int .i64 (wasteM m6 d).live, .int .i64 (wasteM m6 d).garb] = w9 at *
          obtain ⟨bo', oo', heq, k0, -, -⟩ := rd_u_at (rd_below SU2.out B9.out) HDV.out
          obtain ⟨rfl, rfl⟩ : bo = bo' ∧ oo = oo' := by simpa using heq
          obtain ⟨ew1, ew2⟩ := HEW.out
          clear heq
          go_wp2_with fail
          go_roundw
          case rel =>
            have h1 := HI.out
            exact ⟨i + 1, _, S1 + d, by omega, by rw [EI.out], by first | rw [ew2] | rw [ew1, ew2], BM9, CN8, B9⟩
          case measure =>
            have h1 := HI.out
            rw [EI.out]
            simp [intOf]; omega
end Go.Proofs.Ytihnpjpdepoheaa.Gf
