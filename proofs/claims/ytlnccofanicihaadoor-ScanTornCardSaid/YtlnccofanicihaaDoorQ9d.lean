/- What is proved here: the walk of the law ScanTorn, over what it asks of the program. No condition. -/
import Derived.Test.YtlnccofanicihaaDoorQ9k
namespace Go.Proofs.YtlnccofanicihaaDoor.Gf
open Go Go.Joins Go.ChangeShapes Go.WideShapes Go.ChangeAt Go.RowKit Go.Deep Go.Proofs.YtlnccofanicihaaDoor.By Go.Proofs.YtlnccofanicihaaDoor.Crc Go.Proofs.YtlnccofanicihaaDoor.Qt

set_option maxRecDepth 100000 in
set_option maxHeartbeats 12800000 in
theorem torn9_walk {Ok : World → Prop} (P : PC9 Ok) (v : Value) (L : List Ndl) (n0 : Int) (w : World) (hw : Ok w) (s : Ns w v L) (_hn0 : (Lit.int .i64 n0).wf = true) : Calls Tryd.prog 6 #[v, .int .i64 n0] w fun e w' => e = .returned (.bool true) ∧ Below w.heap.size w w' := by
  have SM := Lib.hid (small_any v L w s)
  have HG := Lib.hid (good_small s)
  have HKL := Lib.hid (smL_length L)
  obtain ⟨al, cl, rfl, -, -⟩ := ns_form s
  generalize L.length = n at *
  generalize smL L = K at *
  have AW := Lib.hid (fun W (h : Ok W) => awake9_any P W h)
  have ST := Lib.hid (fun (W W' : World) => P.st (w := W) (w' := W'))
  have HP := Lib.hid P
  have HBF := Lib.hid (bodF_le K HG.out)
  obtain ⟨k1, hk1⟩ : ∃ z, z = K.length := ⟨_, rfl⟩
  have HK1 := Lib.hid hk1
  have hk12 : k1 ≤ 12 := by have := HKL.out; omega
  clear s P hk1
  go_enter Tryd.func6, Tryd.ntmps6
  go_wp2_with fail
  refine SM.out.mono ?_
  rintro e w1 ⟨⟨v1, rfl, hn1⟩, hb1⟩
  have hw1 := Lib.hid (ST.out _ _ hw hb1)
  have B1 := Lib.hid hb1
  have FA := Lib.hid (file_any v1 K w1 hn1 HG.out (by have := HKL.out; omega))
  unfold FO at FA
  have NS1 := Lib.hid hn1
  obtain ⟨a1, c1, rfl, -, -⟩ := ns_form hn1
  rw [← HK1.out] at NS1 FA ⊢
  clear hn1 hb1 SM hw
  go_wp2_with fail
  refine FA.out.mono ?_
  rintro e w2 ⟨⟨v2, t2, rfl, ho2, hr2⟩, hb2⟩
  have hw2 := Lib.hid (ST.out _ _ hw1.out hb2)
  have B2 := Lib.hid (bt B1.out hb2)
  have NS2 := Lib.hid (ns_below NS1.out hb2)
  have EI2 := Lib.hid (ei_row (w := w2) (base := w1.heap.size) (v := t2) (l := endsL K k1) (by rw [endsL_length]; exact hr2))
  obtain ⟨b2, o2, c2, rfl, hc21, hc22, -⟩ := sl_cells ho2.sl (by rw [filL_length]; omega)
  obtain ⟨n2, hn2⟩ : ∃ z, z = (filL K).length := ⟨_, rfl⟩
  rw [← hn2] at ho2 ⊢
  have HN2 := Lib.hid hn2
  have SL2 := Lib.hid ho2.sl
  obtain ⟨ta, tc, rfl, -, -⟩ := ei_form EI2.out
  rw [endsL_length] at EI2 ⊢
  clear ho2 hr2 hb2 FA hn2 NS1
  have HC2 := Lib.hid hc21
  unfold maxLen at hc22
  have HLN : Hid (16 ≤ n2 ∧ n2 ≤ 60000) := Lib.hid (by have h1 := HN2.out; rw [filL_length] at h1; have h2 := HBF.out; have h3 := HKL.out; omega)
  obtain ⟨M, c, t, sv, rv, t1, t4, hM1, hlt, u1, u2, u3, u4⟩ := torn_at n0 HLN.out.1 HLN.out.2
  obtain ⟨left, hleft⟩ : ∃ z : Nat, z = 16 + c := ⟨_, rfl⟩
  rw [← hleft] at u4 hlt
  have HU := Lib.hid (And.intro u1 (And.intro u2 (And.intro u3 u4)))
  clear u1 u2 u3 u4
  have u5 : ((M : Int) == 0) = false := beq_false_of_ne (by omega)
  have u6 : ¬ M = 0 := by omega
  have hlf : 16 ≤ left := by omega
  have u7 : (0 : Int) ≤ (left : Int) := by omega
  have u8 : (left : Int) ≤ (c2 : Int) := by have := HC2.out; rw [← HN2.out] at this; omega
  obtain ⟨j, T, hj, hTk, hdT, hends⟩ := fil_torn HG.out hlf
  have OF := Lib.hid (op_file (goodN_take HG.out j) hdT)
  have SL3 := Lib.hid (sl_take (n := left) (show Sl w2 (.slice (some ⟨b2, o2, none⟩) (filL K).length c2) (filL K) by rw [← HN2.out]; exact SL2.out) (by rw [← HN2.out]; exact hlt))
  rw [hTk] at SL3
  have HJ := Lib.hid hj
  have HE := Lib.hid hends
  have HTL : Hid ((filL (K.take j) ++ T).length ≤ 100000000) := Lib.hid (by rw [← hTk, List.length_take]; have := HLN.out; omega)
  clear hM1 hleft hlf hlt hj hTk hdT hends SL2 hc21 hc22
  obtain ⟨u1, u2, u3, u4⟩ := HU.out
  go_wp2_with fail
  rw [u4]
  have OP := Lib.hid (HP.out.opn _ (filL (K.take j) ++ T) w2 hw2.out SL3.out HTL.out)
  unfold OO at OP
  rw [OF.out.1, OF.out.2.1, OF.out.2.2] at OP
  refine OP.out.mono ?_
  rintro e w7 ⟨⟨v7, rfl, ho7⟩, hb7⟩
  have hb8 := bt hb7 (bel_al w7 (.cells #[.int .i64 0, .int .i64 1, .int .i64 0] 30))
  have RS8 := Lib.hid (rs_below (owR_rs ho7) (bel_al w7 (.cells #[.int .i64 0, .int .i64 1, .int .i64 0] 30)))
  have B8 := Lib.hid (bt B2.out hb8)
  have hw8 := Lib.hid (ST.out _ _ hw2.out hb8)
  have NS8 := Lib.hid (ns_below NS2.out hb8)
  have EI8 := Lib.hid (ei_below EI2.out hb8)
  obtain ⟨a7, c7, rfl, -, -⟩ := owR_form ho7
  have hrj : (rcs 16 (K.take j)).length = j := by rw [rcs_length, List.length_take]; have h1 := HJ.out; have h2 := HK1.out; omega
  rw [hrj] at RS8 ⊢
  have HRJ := Lib.hid hrj
  obtain ⟨fin, hfin⟩ : ∃ z, z = 16 + (bodF (K.take j)).length := ⟨_, rfl⟩
  rw [← hfin]
  have HFIN := Lib.hid hfin
  clear ho7 hb7 hb8 OP SL3 NS2 EI2 hw2 B2 hw1 B1 hrj hfin t1 t4 u1 u2 u3 u4 u5 u6 u7 u8 OF HTL HP
  go_wp2_with fail
  generalize w7.alloc (.cells #[.int .i64 0, .int .i64 1, .int .i64 0] 30) = W8 at *
  go_loopw [13, 14, 49] (fun many last t wr => ∃ i : Nat, i ≤ k1 ∧ t = .int .i64 (i : Int) ∧ many = .int .i64 ((min i j : Nat) : Int) ∧ last = .int .i64 ((16 + (bodF (K.take (min i j))).length : Nat) : Int) ∧ Hid (Below W8.heap.size W8 wr)) (fun _ _ t _ => k1 - (intOf t).toNat)
  case atStart => exact ⟨0, by omega, rfl, by simp, by simp [bodF], Lib.hid (Below.refl _ _)⟩
  case round =>
    obtain ⟨i, hi, rfl, rfl, rfl, HB⟩ := hrel
    by_cases hin : i < k1
    · have hl4 : decide ((i : Int) < (k1 : Int)) = true := decide_eq_true (by omega)
      have p0 : (0 : Int) ≤ (i : Int) := by omega
      have p1 : (i : Int) < (k1 : Int) := by omega
      have hkl := HK1.out
      obtain ⟨b3, o3, c3', hv3, q3⟩ := ei_cells EI8.out (by rw [endsL_length]; omega)
      rw [endsL_length] at hv3
      obtain ⟨rfl, -⟩ : ta = some ⟨b3, o3, none⟩ ∧ tc = c3' := by simpa using hv3
      have E0 := q3 i (by rw [endsL_length]; omega)
      have hle := HE.out i (by omega)
      rw [← hkl] at hle
      rw [ends_get hin] at E0 hle
      have e0 := (HB.out.cell (block_lt_of_cell E0)).trans E0
      obtain ⟨q, hq⟩ : ∃ z, z = 16 + (bodF (K.take (i + 1))).length := ⟨_, rfl⟩
      rw [← hq] at e0 hle
      obtain ⟨mo, hmo⟩ : ∃ z, z = min i j := ⟨_, rfl⟩
      obtain ⟨mn, hmn⟩ : ∃ z, z = min (i + 1) j := ⟨_, rfl⟩
      rw [← hmo]
      by_cases hij : i < j
      · have e1 : mn = i + 1 := by omega
        have g2 : q ≤ left := hle.2 hij
        have g1 : decide ((q : Int) ≤ (left : Int)) = true := decide_eq_true (by omega)
        have HQ := Lib.hid hq
        have HMN := Lib.hid hmn
        have HM1 := Lib.hid e1
        generalize 16 + (bodF (K.take mo)).length = lo at *
        clear hkl E0 q3 hv3 hle hq hmo hmn hij e1
        go_wp2_with fail
        go_quiet (fail)
        have hd := below_drewN wr nq
        have B9 := Lib.hid (bt HB.out hd)
        clear e0 hd
        generalize wr.drewN nq = W9 at *
        go_wp2
        go_roundw
        case rel => exact ⟨i + 1, by omega, by go_num, by rw [← HMN.out, HM1.out]; go_num, by rw [← HMN.out, HM1.out, ← HQ.out], B9⟩
        case measure => simp [intOf]; omega
      · have e1 : mn = mo := by omega
        have g2 : ¬ q ≤ left := fun h => hij (hle.1 h)
        have g1 : decide ((q : Int) ≤ (left : Int)) = false := decide_eq_false (by omega)
        have HMN := Lib.hid hmn
        have HM1 := Lib.hid e1
        obtain ⟨lo, hlo⟩ : ∃ z, z = 16 + (bodF (K.take mo)).length := ⟨_, rfl⟩
        rw [← hlo]
        have HLO := Lib.hid hlo
        clear hkl E0 q3 hv3 hle hq hmo hmn hij e1 hlo
        go_wp2
        go_roundw
        case rel => exact ⟨i + 1, by omega, by go_num, by rw [← HMN.out, HM1.out], by rw [← HMN.out, HM1.out, ← HLO.out], HB⟩
        case measure => simp [intOf]; omega
    · obtain rfl : i = k1 := by omega
      have hl4 : decide ((i : Int) < (i : Int)) = false := decide_eq_false (by omega)
      have hmin : min i j = j := by have h1 := HJ.out; have h2 := HK1.out; omega
      rw [hmin, ← HFIN.out]
      have hw9 := Lib.hid (ST.out _ _ hw8.out HB.out)
      have B9 := Lib.hid (bt B8.out HB.out)
      have RS9 := Lib.hid (rs_below RS8.out HB.out)
      have NS9 := Lib.hid (ns_below NS8.out HB.out)
      clear hmin RS8 NS8 EI8 hw8 B8 HB
      go_wp2_with fail
      rename World => wo
      go_loopw [80] (fun t wr => ∃ p : Nat, p ≤ j ∧ t = .int .i64 (p : Int) ∧ Hid (Below wo.heap.size wo wr)) (fun t _ => j - (intOf t).toNat)
      case atStart => exact ⟨0, by omega, rfl, Lib.hid (Below.refl _ _)⟩
      case round =>
        obtain ⟨p, hp, rfl, HB⟩ := hrel
        by_cases hpj : p < j
        · have hl5 : decide ((p : Int) < (j : Int)) = true := decide_eq_true (by omega)
          have p0 : (0 : Int) ≤ (p : Int) := by omega
          have p1 : (p : Int) < (j : Int) := by omega
          have hkl := HK1.out
          have hjl := HJ.out
          have hrj := HRJ.out
          have p2 : (p : Int) < (i : Int) := by omega
          obtain ⟨b1, o1, c1', hv1, -, -, q1⟩ := rs_cells RS9.out (by omega)
          obtain ⟨rfl, -, -⟩ : a7 = some ⟨b1, o1, none⟩ ∧ j = (rcs 16 (K.take j)).length ∧ c7 = c1' := by simpa using hv1
          obtain ⟨d, C0⟩ := q1 p (by omega)
          obtain ⟨b4, o4, c2', hv2, -, -, q2⟩ := ns_cells NS9.out (by omega)
          obtain ⟨rfl, -, -⟩ : a1 = some ⟨b4, o4, none⟩ ∧ i = K.length ∧ c1 = c2' := by simpa using hv2
          obtain ⟨d2, D0⟩ := q2 p (by omega)
          rw [rcs_get (K.take j) 16 p (by rw [List.length_take]; omega), take_getD hpj] at C0
          obtain ⟨f0, f1, f2, f3, f4, okr, sd⟩ := C0.below HB.out
          obtain ⟨g0, g1, g2, g3, okr2, sd2⟩ := D0.below HB.out
          dsimp only at f0 f1 f2 f3 f4 sd
          generalize K.getD p nd0 = x at *
          have RS := Lib.hid (fun W (hW : Below wr.heap.size wr W) => rsame_any (.agg #[.int .u64 (x.key : Int), .int .u32 (x.cookie : Int), .bool x.del, d]) (.agg #[.int .u64 (x.key : Int), .int .u32 (x.cookie : Int), .bool x.del, d2]) x x W ⟨d, rfl, okr.key, okr.ck, sl_below sd hW⟩ ⟨d2, rfl, okr2.key, okr2.ck, sl_below sd2 hW⟩)
          rw [sameB_self] at RS
          obtain ⟨ad, cd, rfl, -, -⟩ := sl_form sd
          obtain ⟨ad2, cd2, rfl, -, -⟩ := sl_form sd2
          generalize x.data.length = nd at *
          clear C0 D0 q1 q2 hv1 hv2 hkl hjl hrj sd sd2 okr okr2 f0
          go_wp2_with fail
          have x1 := cells_regrown f1
          have x2 := cells_regrown f2
          have x3 := cells_regrown f3
          have x4 := cells_regrown f4
          have y0 := cells_regrown g0
          have y1 := cells_regrown g1
          have y2 := cells_regrown g2
          have y3 := cells_regrown g3
          have G1 := Lib.hid (regrown_bel (w := wr) RS.out)
          clear f1 f2 f3 f4 g0 g1 g2 g3
          refine wp_region_bl (by kernel_rfl) (by kernel_rfl) ?_
          repeat (go_big_quiet_step (fail))
          go_big_quiet_step ((go_at_call 25; with_reducible exact G1.out _ _))
          repeat (go_big_quiet_step (fail))
          refine wpQuiet_nil ?_
          intro w9 hb9
          have B10 := Lib.hid (bt HB.out hb9)
          clear x1 x2 x3 x4 y0 y1 y2 y3 G1 hb9 RS
          go_wp2
          go_roundw
          case rel => exact ⟨p + 1, by omega, by go_num, B10⟩
          case measure => simp [intOf]; omega
        · obtain rfl : p = j := by omega
          have hl5 : decide ((p : Int) < (p : Int)) = false := decide_eq_false (by omega)
          have hw10 := Lib.hid (ST.out _ _ hw9.out HB.out)
          have B10 := Lib.hid (bt B9.out HB.out)
          go_wp2_with fail
          refine (AW.out _ hw10.out).mono ?_
          rintro e w5 ⟨rfl, hb5⟩
          have B5 := Lib.hid (bt B10.out hb5)
          clear hb5
          go_wp2
          go_ret
          exact ⟨rfl, B5.out⟩
end Go.Proofs.YtlnccofanicihaaDoor.Gf
