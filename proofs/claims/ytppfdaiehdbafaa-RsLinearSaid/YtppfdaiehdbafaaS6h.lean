/- What is proved here: the walk of the law RsLinear. No condition. -/
import Derived.Test.YtppfdaiehdbafaaS6a
import Derived.Test.YtppfdaiehdbafaaS6c
namespace Go.Proofs.Ytppfdaiehdbafaa.Gf
open Go Go.ChangeShapes Go.WideShapes Go.ChangeAt Go.RowKit Go.Sort Go.Proofs.Ytppfdaiehdbafaa.By Go.Proofs.Ytppfdaiehdbafaa.Qt

/-- The parity of a sum is the sum of the parities. -/
theorem enc_sum {m i k : Nat} {X Y Z : List (List Nat)} (hX : Lv 4 m X) (hY : Lv 4 m Y) (hZ : Lv 4 m Z) (h : ∀ j, j < 4 → ∀ q, q < m → (Z.getD j []).getD q 0 = (X.getD j []).getD q 0 ^^^ (Y.getD j []).getD q 0) (hi : i < 2) (hk : k < m) :
    ((encW Z m).getD i []).getD k 0 = ((encW X m).getD i []).getD k 0 ^^^ ((encW Y m).getD i []).getD k 0 := by
  unfold encW
  rw [appR_getD hi, appR_getD hi, appR_getD hi, combR_at hk 4 hZ.row, combR_at hk 4 hX.row, combR_at hk 4 hY.row, ← sx_xor]
  exact sx_congr fun j hj => by rw [h j hj k hk, gm_right]
theorem enc_two {m : Nat} {L : List (List Nat)} (h : Lv 4 m L) : Lv 2 m (encW L m) := appR_lv (fun i hi k hk => bd_vx [0, 1, 2, 3] (i + 4) (by omega) k hk) h
theorem sum_snoc {K i : Nat} {L1 L2 L : List (List Nat)} {M : List Nat} (hl : L.length = i) (h : ∀ j, j < i → ∀ q, q < K → (L.getD j []).getD q 0 = (L1.getD j []).getD q 0 ^^^ (L2.getD j []).getD q 0) (hM : ∀ q, q < K → M.getD q 0 = (L1.getD i []).getD q 0 ^^^ (L2.getD i []).getD q 0) :
    ∀ j, j < i + 1 → ∀ q, q < K → ((L ++ [M]).getD j []).getD q 0 = (L1.getD j []).getD q 0 ^^^ (L2.getD j []).getD q 0 := fun j hj q hq => by
  by_cases e : j < i
  · have : (L ++ [M]).getD j [] = L.getD j [] := by simp [List.getD, List.getElem?_append, hl, e]
    rw [this]
    exact h j e q hq
  · obtain rfl : j = i := by omega
    have : (L ++ [M]).getD j [] = M := by simp [List.getD, hl]
    rw [this]
    exact hM q hq
set_option maxRecDepth 100000 in
set_option maxHeartbeats 6400000 in
theorem linear_walk (v0 : Value) (l0 : List Nat) (v1 : Value) (l1 : List Nat) (n2 : Int) (w : World) (s0 : Sl w v0 l0) (s1 : Sl w v1 l1) : Calls Try.prog 10 #[v0, v1, .int .i64 n2] w fun e w' => e = .returned (.bool true) ∧ Below w.heap.size w w' := by
  have D1 := Lib.hid (data_any v0 l0 n2 w s0)
  have D2 := Lib.hid (fun W s => data_any v1 l1 n2 W s)
  have S1 := Lib.hid s1
  have HK := kk_lt n2
  clear s0 s1
  generalize kk n2 = K at *
  go_enter Try.func10, Try.ntmps10
  go_wp2_with fail
  refine D1.out.mono ?_
  rintro e w1 ⟨⟨d1, vs1, L1, rfl, hO1, hL1⟩, hb1⟩
  obtain ⟨ga, ca, rfl, -, -, -, -⟩ := ownk_form hO1 hL1.len (by decide)
  have HO1 := Lib.hid hO1
  have HL1 := Lib.hid hL1
  have B1 := Lib.hid hb1
  clear hO1 hL1 hb1
  go_wp2_with fail
  refine (D2.out w1 (sl_below S1.out B1.out)).mono ?_
  rintro e w2 ⟨⟨d2, vs2, L2, rfl, hO2, hL2⟩, hb2⟩
  obtain ⟨gb, cb, rfl, -, -, -, -⟩ := ownk_form hO2 hL2.len (by decide)
  have HO1' := Lib.hid (HO1.out.later hb2)
  have HO2 := Lib.hid hO2
  have HL2 := Lib.hid hL2
  have B2 := Lib.hid (bt B1.out hb2)
  clear hO2 hL2 hb2 HO1 D1 D2 S1 B1
  go_wp2_with fail
  go_loopw [9, 29] (fun z t wr => ∃ (i : Nat) (vs : List Value) (L : List (List Nat)), i ≤ 4 ∧ t = .int .i64 (i : Int) ∧ OwnK wr w2.heap.size z vs L ∧ Lv i K L ∧ (∀ j, j < i → ∀ q, q < K → (L.getD j []).getD q 0 = (L1.getD j []).getD q 0 ^^^ (L2.getD j []).getD q 0) ∧ Below w2.heap.size w2 wr) (fun _ t _ => 4 - (intOf t).toNat)
  case atStart => exact ⟨0, [], [], by omega, rfl, ownk_nil _ _, ⟨rfl, fun j hj => by omega, fun k q => by simp⟩, fun j hj => by omega, Below.refl _ _⟩
  case round =>
    obtain ⟨i, vs, L, hi, rfl, hO, hL, hX, hB⟩ := hrel
    obtain ⟨oa, oc, hv⟩ := ownsRow_form hO.row
    obtain ⟨on, hon⟩ : ∃ q, q = vs.length := ⟨_, rfl⟩
    rw [← hon] at hv
    subst hv
    have HO := Lib.hid hO
    have HL := Lib.hid hL
    have HX := Lib.hid hX
    have HB := Lib.hid hB
    by_cases hi4 : i < 4
    · have hlt : decide ((i : Int) < 4) = true := decide_eq_true (by omega)
      obtain ⟨q1, -⟩ := ownk_cell HO1'.out HL1.out.len hi4
      obtain ⟨q2, -⟩ := ownk_cell HO2.out HL2.out.len hi4
      have k1 := (HO1'.out.kp i (by rw [HL1.out.len]; exact hi4)).sl
      have k2 := (HO2.out.kp i (by rw [HL2.out.len]; exact hi4)).sl
      obtain ⟨a1, c1, e1, -, -⟩ := sl_form k1
      obtain ⟨a2, c2, e2, -, -⟩ := sl_form k2
      rw [HL1.out.row i hi4] at e1
      rw [HL2.out.row i hi4] at e2
      rw [e1] at q1 k1
      rw [e2] at q2 k2
      have q1 := (hB.cell (p := ⟨ga, i, none⟩) (block_lt_of_cell q1)).trans q1
      have q2 := (hB.cell (p := ⟨gb, i, none⟩) (block_lt_of_cell q2)).trans q2
      have k1 := sl_below k1 hB
      have k2 := sl_below k2 hB
      have p0 : (0 : Int) ≤ (i : Int) := by omega
      have p1 : (i : Int) < 4 := by omega
      clear hO hL hX hB hon e1 e2
      go_wp2_with ((with_reducible refine make_step (n := K) ?_ (by omega) ?_); exact rfl)
      have hm := own_made wr (base := wr.heap.size) (n := K) (Nat.le_refl _) (by unfold maxLen; omega)
      have hal := (Below.refl wr.heap.size wr).alloc (Nat.le_refl _) (.cells (cellsOf (List.replicate K 0)).toArray 5)
      have K1 := Lib.hid k1
      have K2 := Lib.hid k2
      have Q1 := Lib.hid q1
      have Q2 := Lib.hid q2
      have HM := Lib.hid hm
      have AL := Lib.hid hal
      clear k1 k2 q1 q2 hm hal
      generalize wr.alloc (.cells (cellsOf (List.replicate K 0)).toArray 5) = W1 at *
      obtain ⟨g, hg⟩ : ∃ g, g = wr.heap.size := ⟨_, rfl⟩
      rw [← hg] at HM
      rw [← hg]
      have HG := Lib.hid hg
      clear hg
      go_loopw [40] (fun t wq => ∃ (k : Nat) (M : List Nat), k ≤ K ∧ t = .int .i64 (k : Int) ∧ Own wq g (.slice (some ⟨g, 0, none⟩) K K) M ∧ M.length = K ∧ (∀ q, q < k → M.getD q 0 = (L1.getD i []).getD q 0 ^^^ (L2.getD i []).getD q 0) ∧ Below wr.heap.size wr wq) (fun t _ => K - (intOf t).toNat)
      case atStart => exact ⟨0, _, by omega, rfl, HM.out, by simp, fun q hq => by omega, AL.out⟩
      case round =>
        clear HM AL
        obtain ⟨k, M, hk, rfl, hM, hMl, hMx, hBq⟩ := hrel
        by_cases hkK : k < K
        · have hlt2 : decide ((k : Int) < (K : Int)) = true := decide_eq_true (by omega)
          obtain ⟨b1, o1, c1', hv1, -, -, f1⟩ := sl_cells K1.out (by rw [HL1.out.row i hi4]; omega)
          obtain ⟨rfl, -, rfl⟩ : a1 = some ⟨b1, o1, none⟩ ∧ K = (L1.getD i []).length ∧ c1 = c1' := by simpa using hv1
          obtain ⟨b2, o2, c2', hv2, -, -, f2⟩ := sl_cells K2.out (by rw [HL2.out.row i hi4]; omega)
          obtain ⟨rfl, -, rfl⟩ : a2 = some ⟨b2, o2, none⟩ ∧ K = (L2.getD i []).length ∧ c2 = c2' := by simpa using hv2
          have f1 := f1 k (by rw [HL1.out.row i hi4]; exact hkK)
          have f2 := f2 k (by rw [HL2.out.row i hi4]; exact hkK)
          have f1 := (hBq.cell (p := ⟨b1, o1 + k, none⟩) (block_lt_of_cell f1)).trans f1
          have f2 := (hBq.cell (p := ⟨b2, o2 + k, none⟩) (block_lt_of_cell f2)).trans f2
          have q1 := (hBq.cell (p := ⟨ga, i, none⟩) (block_lt_of_cell Q1.out)).trans Q1.out
          have q2 := (hBq.cell (p := ⟨gb, i, none⟩) (block_lt_of_cell Q2.out)).trans Q2.out
          obtain ⟨f3, f4, -⟩ := own_cell hM hMl hkK
          have z1 := HL1.out.byt i k
          have z2 := HL2.out.byt i k
          have hset := own_set (x := (L1.getD i []).getD k 0 ^^^ (L2.getD i []).getD k 0) hM.drew hMl hkK (xor_lt z1 z2)
          have y1 := u8_xor_nat ((L1.getD i []).getD k 0) ((L2.getD i []).getD k 0) z1 z2
          have hB2 := hBq.drew.setCell (p := ⟨g, k, none⟩) (Nat.le_of_eq HG.out.symm) (.int .u8 (((L1.getD i []).getD k 0 ^^^ (L2.getD i []).getD k 0 : Nat) : Int))
          have hMx2 : ∀ q, q < k + 1 → (M.set k ((L1.getD i []).getD k 0 ^^^ (L2.getD i []).getD k 0)).getD q 0 = (L1.getD i []).getD q 0 ^^^ (L2.getD i []).getD q 0 := fun q hq => by
            by_cases e : q = k
            · subst e
              simp [List.getD, hMl, hkK]
            · have : (M.set k ((L1.getD i []).getD k 0 ^^^ (L2.getD i []).getD k 0)).getD q 0 = M.getD q 0 := by simp [List.getD, Ne.symm e]
              rw [this]
              exact hMx q (by omega)
          have HSET := Lib.hid hset
          have HB2 := Lib.hid hB2
          have HML := Lib.hid hMl
          have HMX := Lib.hid hMx2
          generalize (L1.getD i []).getD k 0 ^^^ (L2.getD i []).getD k 0 = z at *
          generalize (L1.getD i []).getD k 0 = x1 at *
          generalize (L2.getD i []).getD k 0 = x2 at *
          generalize M.getD k 0 = x3 at *
          have r0 : (0 : Int) ≤ (k : Int) := by omega
          have r1 : (k : Int) < (K : Int) := by omega
          clear hv1 hv2 hM hMl hMx hBq hset hB2 hMx2
          go_wp2
          go_still_tail 17, (by kernel_rfl)
          go_wp2
          go_roundw
          case rel => exact ⟨k + 1, _, by omega, by go_num, HSET.out, by rw [List.length_set]; exact HML.out, HMX.out, HB2.out⟩
          case measure => simp [intOf]; omega
        · obtain rfl : k = K := by omega
          have hlt2 : decide ((k : Int) < (k : Int)) = false := decide_eq_false (by omega)
          have HM := Lib.hid hM
          have HML := Lib.hid hMl
          have HMX := Lib.hid hMx
          have HBQ := Lib.hid (bt HB.out hBq)
          have HBq := Lib.hid hBq
          clear hM hMl hMx hBq
          go_wp2_with (at_builtin; refine app_rows (dst := some 65) (n := i) (P := [M]) ?_ ?_ ((HO.out.later HBq.out).later ((Below.refl _ _).alloc (Nat.le_refl _) _)) HL.out.len (src_one (heap_alloc_new _ _) (Or.inl (own_base (by rw [HG.out]; exact HB.out.size) (HM.out.alloc _)))) (by simp; omega) (by have := HBQ.out.size; simp; omega) ?_; exact rfl; exact rfl; intro v3 w3 ys ho3 hg3; obtain ⟨av, cv, hv3⟩ := ownsRow_form ho3.row; obtain ⟨nn, hnn⟩ : ∃ q, q = (vs ++ ys).length := ⟨_, rfl⟩; rw [← hnn] at hv3; clear hnn; have HO3 := Lib.hid ho3; have HG3 := Lib.hid hg3; subst hv3; clear ho3 hg3)
          have hbf : Below w2.heap.size w2 w3 := (HBQ.out.alloc HBQ.out.size _).grown HG3.out (by have := HBQ.out.size; simp; omega) fun q hq => (HO.out.row.lt q hq).1
          have HBF := Lib.hid hbf
          have hlf := lv_snoc HL.out HML.out HM.out.1
          have hxf := sum_snoc HL.out.len HX.out HMX.out
          have HLF := Lib.hid hlf
          have HXF := Lib.hid hxf
          clear hbf hlf hxf
          go_roundw
          case rel => exact ⟨i + 1, _, _, by omega, by go_num, HO3.out, HLF.out, HXF.out, HBF.out⟩
          case measure => simp [intOf]; omega
    · obtain rfl : i = 4 := by omega
      have E1 := Lib.hid (fun W s => encode_any (.slice (some ⟨ga, 0, none⟩) 4 ca) L1 W s (lv_small HL1.out (by omega)))
      have E2 := Lib.hid (fun W s => encode_any (.slice (some ⟨gb, 0, none⟩) 4 cb) L2 W s (lv_small HL2.out (by omega)))
      have E3 := Lib.hid (fun W s => encode_any (.slice oa on oc) L W s (lv_small HL.out (by omega)))
      rw [(enc_lv HL1.out).1, (enc_lv HL1.out).2] at E1
      rw [(enc_lv HL2.out).1, (enc_lv HL2.out).2] at E2
      rw [(enc_lv HL.out).1, (enc_lv HL.out).2] at E3
      have P1 := Lib.hid (enc_two HL1.out)
      have P2 := Lib.hid (enc_two HL2.out)
      have P3 := Lib.hid (enc_two HL.out)
      have HS := Lib.hid (fun i k hi hk => enc_sum (i := i) (k := k) HL1.out HL2.out HL.out HX.out hi hk)
      have SD1 := Lib.hid (sr_below HO1'.out.sr hB)
      have SD2 := Lib.hid (sr_below HO2.out.sr hB)
      have SD3 := Lib.hid hO.sr
      have B := Lib.hid (bt B2.out hB)
      generalize encW L1 K = X at *
      generalize encW L2 K = Y at *
      generalize encW L K = Z at *
      clear HO1' HO2 HL1 HL2 HL HX HB HO hO hL hX hB hon B2
      go_wp2_with fail
      refine (E1.out wr SD1.out).mono ?_
      unfold EP
      rintro e w3 ⟨⟨p, rfl, hs3⟩, hb3⟩
      obtain ⟨b1, o1, c1, rfl, -, -, k1⟩ := sr_cells hs3 (by rw [P1.out.len]; decide)
      rw [P1.out.len] at k1 ⊢
      have KK1 := Lib.hid k1
      have SD2' := Lib.hid (sr_below SD2.out hb3)
      have SD3' := Lib.hid (sr_below SD3.out hb3)
      have B3 := Lib.hid (bt B.out hb3)
      clear k1 hs3 hb3 SD1 SD2 SD3 B
      go_wp2_with fail
      refine (E2.out w3 SD2'.out).mono ?_
      unfold EP
      rintro e w4 ⟨⟨p, rfl, hs4⟩, hb4⟩
      obtain ⟨b2, o2, c2, rfl, -, -, k2⟩ := sr_cells hs4 (by rw [P2.out.len]; decide)
      rw [P2.out.len] at k2 ⊢
      have KK2 := Lib.hid k2
      have SD3 := Lib.hid (sr_below SD3'.out hb4)
      have BB4 := Lib.hid hb4
      have B4 := Lib.hid (bt B3.out hb4)
      clear k2 hs4 hb4 SD2' SD3' B3
      go_wp2_with fail
      refine (E3.out w4 SD3.out).mono ?_
      unfold EP
      rintro e w5 ⟨⟨p, rfl, hs5⟩, hb5⟩
      obtain ⟨b3, o3, c3, rfl, -, -, k3⟩ := sr_cells hs5 (by rw [P3.out.len]; decide)
      rw [P3.out.len] at k3 ⊢
      have KK3 := Lib.hid k3
      have BB5 := Lib.hid hb5
      have BB3 := Lib.hid (bt BB4.out hb5)
      have B5 := Lib.hid (bt B4.out hb5)
      clear k3 hs5 hb5 SD3 B4 BB4 E1 E2 E3
      go_wp2_with fail
      go_loopw [109] (fun t wr => ∃ i : Nat, i ≤ 2 ∧ t = .int .i64 (i : Int) ∧ Below w5.heap.size w5 wr) (fun t _ => 2 - (intOf t).toNat)
      case atStart => exact ⟨0, by omega, rfl, Below.refl _ _⟩
      case round =>
        obtain ⟨i, hi, rfl, hB⟩ := hrel
        by_cases hi2 : i < 2
        · have hlt : decide ((i : Int) < 2) = true := decide_eq_true (by omega)
          have p0 : (0 : Int) ≤ (i : Int) := by omega
          have p1 : (i : Int) < 2 := by omega
          obtain ⟨x1, g1, s1⟩ := KK1.out i hi2
          obtain ⟨x2, g2, s2⟩ := KK2.out i hi2
          obtain ⟨x3, g3, s3⟩ := KK3.out i hi2
          have g1 := (BB3.out.cell (p := ⟨b1, o1 + i, none⟩) (block_lt_of_cell g1)).trans g1
          have g2 := (BB5.out.cell (p := ⟨b2, o2 + i, none⟩) (block_lt_of_cell g2)).trans g2
          have s1 := sl_below s1 BB3.out
          have s2 := sl_below s2 BB5.out
          obtain ⟨a1, d1, rfl, -, -⟩ := sl_form s1
          obtain ⟨a2, d2, rfl, -, -⟩ := sl_form s2
          obtain ⟨a3, d3, rfl, -, -⟩ := sl_form s3
          rw [P1.out.row i hi2] at g1 s1
          rw [P2.out.row i hi2] at g2 s2
          rw [P3.out.row i hi2] at g3 s3
          have G1 := Lib.hid g1
          have G2 := Lib.hid g2
          have G3 := Lib.hid g3
          have T1 := Lib.hid s1
          have T2 := Lib.hid s2
          have T3 := Lib.hid s3
          have f1 := (hB.cell (p := ⟨b1, o1 + i, none⟩) (block_lt_of_cell g1)).trans g1
          have f2 := (hB.cell (p := ⟨b2, o2 + i, none⟩) (block_lt_of_cell g2)).trans g2
          have f3 := (hB.cell (p := ⟨b3, o3 + i, none⟩) (block_lt_of_cell g3)).trans g3
          have HB := Lib.hid hB
          clear g1 g2 g3 s1 s2 s3 hB
          go_wp2
          go_quiet (fail)
          have hd := bt HB.out (below_drewN wr nq)
          clear HB f1 f2 f3
          generalize wr.drewN nq = W9 at *
          have f3 := (hd.cell (p := ⟨b3, o3 + i, none⟩) (block_lt_of_cell G3.out)).trans G3.out
          have HD := Lib.hid hd
          clear hd
          go_wp2
          clear f3
          go_loopw [141] (fun t wq => ∃ k : Nat, k ≤ K ∧ t = .int .i64 (k : Int) ∧ Below w5.heap.size w5 wq) (fun t _ => K - (intOf t).toNat)
          case atStart => exact ⟨0, by omega, rfl, HD.out⟩
          case round =>
            clear HD
            obtain ⟨k, hk, rfl, hB⟩ := hrel
            by_cases hkK : k < K
            · have hlt2 : decide ((k : Int) < (K : Int)) = true := decide_eq_true (by omega)
              have r0 : (0 : Int) ≤ (k : Int) := by omega
              have r1 : (k : Int) < (K : Int) := by omega
              obtain ⟨m1, n1, c1', hv1, -, -, h1⟩ := sl_cells T1.out (by rw [P1.out.row i hi2]; omega)
              obtain ⟨rfl, -, rfl⟩ : a1 = some ⟨m1, n1, none⟩ ∧ K = (X.getD i []).length ∧ d1 = c1' := by simpa using hv1
              obtain ⟨m2, n2', c2', hv2, -, -, h2⟩ := sl_cells T2.out (by rw [P2.out.row i hi2]; omega)
              obtain ⟨rfl, -, rfl⟩ : a2 = some ⟨m2, n2', none⟩ ∧ K = (Y.getD i []).length ∧ d2 = c2' := by simpa using hv2
              obtain ⟨m3, n3, c3', hv3, -, -, h3⟩ := sl_cells T3.out (by rw [P3.out.row i hi2]; omega)
              obtain ⟨rfl, -, rfl⟩ : a3 = some ⟨m3, n3, none⟩ ∧ K = (Z.getD i []).length ∧ d3 = c3' := by simpa using hv3
              have h1 := h1 k (by rw [P1.out.row i hi2]; exact hkK)
              have h2 := h2 k (by rw [P2.out.row i hi2]; exact hkK)
              have h3 := h3 k (by rw [P3.out.row i hi2]; exact hkK)
              rw [HS.out i k hi2 hkK] at h3
              have h1 := (hB.cell (p := ⟨m1, n1 + k, none⟩) (block_lt_of_cell h1)).trans h1
              have h2 := (hB.cell (p := ⟨m2, n2' + k, none⟩) (block_lt_of_cell h2)).trans h2
              have h3 := (hB.cell (p := ⟨m3, n3 + k, none⟩) (block_lt_of_cell h3)).trans h3
              have f1 := (hB.cell (p := ⟨b1, o1 + i, none⟩) (block_lt_of_cell G1.out)).trans G1.out
              have f2 := (hB.cell (p := ⟨b2, o2 + i, none⟩) (block_lt_of_cell G2.out)).trans G2.out
              have f3 := (hB.cell (p := ⟨b3, o3 + i, none⟩) (block_lt_of_cell G3.out)).trans G3.out
              have y1 := u8_xor_nat ((X.getD i []).getD k 0) ((Y.getD i []).getD k 0) (P1.out.byt i k) (P2.out.byt i k)
              have HB := Lib.hid hB
              generalize (X.getD i []).getD k 0 ^^^ (Y.getD i []).getD k 0 = z at *
              generalize (X.getD i []).getD k 0 = z1 at *
              generalize (Y.getD i []).getD k 0 = z2 at *
              clear hv1 hv2 hv3 hB
              go_wp2
              go_quiet (fail)
              have hd := bt HB.out (below_drewN wr nq)
              clear HB h1 h2 h3 f1 f2 f3
              generalize wr.drewN nq = W9 at *
              have HD := Lib.hid hd
              clear hd
              go_wp2
              go_roundw
              case rel => exact ⟨k + 1, by omega, by go_num, HD.out⟩
              case measure => simp [intOf]; omega
            · obtain rfl : k = K := by omega
              have hlt2 : decide ((k : Int) < (k : Int)) = false := decide_eq_false (by omega)
              have HB := Lib.hid hB
              clear hB
              go_wp2
              go_roundw
              case rel => exact ⟨i + 1, by omega, by go_num, HB.out⟩
              case measure => simp [intOf]; omega
        · obtain rfl : i = 2 := by omega
          have HB := Lib.hid (bt B5.out hB)
          clear hB
          go_wp2_with fail
          refine (awake4_any wr).mono ?_
          rintro e w9 ⟨rfl, hb9⟩
          have hb := bt HB.out hb9
          go_wp2_with fail
          go_ret
          exact ⟨rfl, hb⟩
end Go.Proofs.Ytppfdaiehdbafaa.Gf
