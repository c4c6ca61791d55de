/- What is proved here: the walk of the law StripeJoins, over what it asks of the program. No condition. -/
import Derived.Test.YtjpehjgcpnogiaaV5e
import Derived.Test.YtjpehjgcpnogiaaV5f
import Derived.BigQuiet
namespace Go.Proofs.Ytjpehjgcpnogiaa.Gf
open Go Go.Joins Go.ChangeShapes Go.WideShapes Go.ChangeAt Go.RowKit Go.Deep Go.Proofs.Ytjpehjgcpnogiaa.By

theorem nat_and2047 (x : Nat) : x &&& 2047 = x % 2048 := Nat.and_two_pow_sub_one_eq_mod x 11
theorem i64_and2047 (r : Int) : bits .and .i64 r 2047 = r % 2048 := by
  have e1 : (BitVec.ofInt 64 r).toNat = (r % 18446744073709551616).toNat := by rw [BitVec.toNat_ofInt]; rfl
  have e2 : (BitVec.ofInt 64 (2047 : Int)).toNat = 2047 := rfl
  have e3 : (BitVec.ofInt 64 r &&& BitVec.ofInt 64 2047).toNat = (r % 18446744073709551616).toNat % 2048 := by rw [BitVec.toNat_and, e1, e2, nat_and2047]
  show IntKind.i64.wrap ((BitVec.ofInt 64 r &&& BitVec.ofInt 64 2047).toNat : Int) = _
  rw [e3, IntKind.wrap_i64]
  omega
set_option maxRecDepth 100000 in
set_option maxHeartbeats 6400000 in
theorem joins_walk (P : PC5) (v0 : Value) (l0 : List (List Nat)) (v1 : Value) (l1 : List Nat) (n2 : Int) (w : World) (s0 : Sr w v0 l0) (s1 : Sl w v1 l1) (h2 : I64b n2) : Calls Try.prog 5 #[v0, v1, .int .i64 n2] w fun e w' => e = .returned (.bool true) ∧ Below w.heap.size w w' := by
  obtain ⟨a0, c0, hv0, -, -⟩ := sr_form s0
  obtain ⟨n0, hn0⟩ : ∃ q, q = l0.length := ⟨_, rfl⟩
  rw [← hn0] at hv0
  subst hv0
  obtain ⟨a1, c1, hv1, -, -⟩ := sl_form s1
  obtain ⟨n1, hn1⟩ : ∃ q, q = l1.length := ⟨_, rfl⟩
  rw [← hn1] at hv1
  subst hv1
  have HN0 := Lib.hid hn0
  have HMX : Hid (n0 ≤ maxLen) := by show n0 ≤ maxLen; rw [hn0]; exact s0.1
  have S0 := Lib.hid s0
  have S1 := Lib.hid s1
  have PJ := Lib.hid P.join
  have AW := Lib.hid (awake5_any P)
  have H2 := Lib.hid h2
  have hand := i64_and2047 n2
  obtain ⟨q2, hq2⟩ : ∃ q, q = n2 % 2048 := ⟨_, rfl⟩
  have hq2b : 0 ≤ q2 ∧ q2 < 2048 := by omega
  rw [← hq2] at hand
  have CU := Lib.hid fun W s => cut_any (.slice a1 n1 c1) l1 W s
  have hle : (l1.take 3000).length ≤ 3000 := by rw [List.length_take]; omega
  generalize l1.take 3000 = l at *
  have hmx := HMX.out
  unfold maxLen at hmx
  clear P s0 s1 hn0 hn1 h2 hq2
  go_enter Try.func5, Try.ntmps5
  by_cases h20 : 20 < n0
  · have g1 : decide ((20 : Int) < (n0 : Int)) = true := decide_eq_true (by omega)
    go_wp2_with fail
    refine (AW.out w).mono ?_
    rintro e w9 ⟨rfl, hb9⟩
    go_wp2_with fail
    go_ret
    exact ⟨rfl, hb9⟩
  have g1 : decide ((20 : Int) < (n0 : Int)) = false := decide_eq_false (by omega)
  go_wp2_with fail
  go_loopw [22] (fun t wr => ∃ i : Nat, i ≤ n0 ∧ t = .int .i64 (i : Int) ∧ (∀ j, j < i → (l0.getD j []).length ≤ 500) ∧ w = wr) (fun t _ => n0 - (intOf t).toNat)
  case atStart => exact ⟨0, by omega, rfl, fun j hj => by omega, rfl⟩
  case round =>
    obtain ⟨i, hi, rfl, hok, rfl⟩ := hrel
    by_cases hin : i < n0
    · have hl4 : decide ((i : Int) < (n0 : Int)) = true := decide_eq_true (by omega)
      have p0 : (0 : Int) ≤ (i : Int) := by omega
      have p1 : (i : Int) < (n0 : Int) := by omega
      obtain ⟨b, o, c', hv, -, -, kk⟩ := sr_cells S0.out (by have := HN0.out; omega)
      obtain ⟨rfl, -, rfl⟩ : a0 = some ⟨b, o, none⟩ ∧ n0 = l0.length ∧ c0 = c' := by simpa using hv
      obtain ⟨x, hx, hsx⟩ := kk i (by have := HN0.out; omega)
      obtain ⟨xa, xc, rfl, -, -⟩ := sl_form hsx
      have HOK := Lib.hid hok
      clear hsx hv kk hok
      obtain ⟨q, hq⟩ : ∃ q, q = (l0.getD i []).length := ⟨_, rfl⟩
      rw [← hq] at hx
      by_cases h5 : 500 < q
      · have g2 : decide ((500 : Int) < (q : Int)) = true := decide_eq_true (by omega)
        clear hq
        go_wp2_with fail
        refine (AW.out w).mono ?_
        rintro e w9 ⟨rfl, hb9⟩
        go_wp2_with fail
        go_ret
        exact ⟨rfl, hb9⟩
      · have g2 : decide ((500 : Int) < (q : Int)) = false := decide_eq_false (by omega)
        have HQ := Lib.hid hq
        clear hq
        go_wp2
        go_roundw
        case rel => exact ⟨i + 1, by omega, by go_num, fun j hj => by by_cases e : j < i; exact HOK.out j e; rw [show j = i by omega, ← HQ.out]; omega, trivial⟩
        case measure => simp [intOf]; omega
    · obtain rfl : i = n0 := by omega
      have hl4 : decide ((i : Int) < (i : Int)) = false := decide_eq_false (by omega)
      have HSM : Hid (Small5 l0) := fun k hk => by
        by_cases e : k < i
        · have := hok k e; omega
        · have := HN0.out
          rw [getD_outL (by omega)]; simp
      clear hok
      go_wp2_with fail
      refine (CU.out w S1.out).mono ?_
      rintro e w' ⟨⟨v, rfl, hs⟩, rfl⟩
      obtain ⟨a3, c3, hv3, -, -⟩ := sl_form hs
      obtain ⟨m, hm⟩ : ∃ q, q = l.length := ⟨_, rfl⟩
      rw [← hm] at hv3
      subst hv3
      have HMm := Lib.hid hm
      have S3 := Lib.hid hs
      clear hs hm
      go_wp2_with fail
      refine (rsplit_any _ l w S3.out (by omega)).mono ?_
      rintro e w2 ⟨⟨v2, gs, rfl, hd⟩, hb2⟩
      obtain ⟨a2, c2, hv2⟩ := ownsRow_form hd.own.1
      rw [show (gs.map (mkS (szN l.length))).length = 4 by rw [List.length_map, hd.glen, splitL_length]] at hv2
      subst hv2
      have HSL : Hid (Small5 (splitL l)) := fun k hk => by
        rw [splitL_getD l hk, rowL_length]
        unfold szN
        omega
      have R0 := Lib.hid (sr_below S0.out hb2)
      have R2 := Lib.hid hd.own.sr
      have B2 := Lib.hid hb2
      clear hd hb2
      go_wp2_with fail
      have al := (Below.refl w2.heap.size w2).alloc (Nat.le_refl _) (.cells #[.slice a0 i c0, .slice a2 4 c2] 31)
      have hnew := heap_alloc_new w2 (.cells #[.slice a0 i c0, .slice a2 4 c2] 31)
      have r0 := sr_below R0.out al
      have r2 := sr_below R2.out al
      have BW := Lib.hid (bt B2.out al)
      generalize w2.alloc (.cells #[.slice a0 i c0, .slice a2 4 c2] 31) = W at *
      generalize w2.heap.size = gB at *
      have ALL : Hid (∀ k, k < 2 → ∃ xa xn xc X, W.cell? ⟨gB, k, none⟩ = some (.slice xa xn xc) ∧ Sr W (.slice xa xn xc) X ∧ Small5 X) := fun k hk => by
        match k, hk with
        | 0, _ => exact ⟨a0, i, c0, l0, (cell_of_row _ _ 0 _ _ _ hnew).trans rfl, r0, HSM.out⟩
        | 1, _ => exact ⟨a2, 4, c2, _, (cell_of_row _ _ 1 _ _ _ hnew).trans rfl, r2, HSL.out⟩
      clear al hnew r0 r2 R0 R2 B2 HSM HSL
      go_loopw [39] (fun t wr => ∃ k : Nat, k ≤ 2 ∧ t = .int .i64 (k : Int) ∧ Below W.heap.size W wr) (fun t _ => 2 - (intOf t).toNat)
      case atStart => exact ⟨0, by omega, rfl, Below.refl _ _⟩
      case round =>
        obtain ⟨k, hk, rfl, hB⟩ := hrel
        by_cases hk2 : k < 2
        · have hl5 : decide ((k : Int) < 2) = true := decide_eq_true (by omega)
          have p0 : (0 : Int) ≤ (k : Int) := by omega
          have p1 : (k : Int) < 2 := by omega
          obtain ⟨xa, xn, xc, X, f, sX, hX⟩ := ALL.out k hk2
          have f := (hB.cell (p := ⟨gB, k, none⟩) (block_lt_of_cell f)).trans f
          have SX := Lib.hid (sr_below sX hB)
          have HX := Lib.hid hX
          have HB := Lib.hid hB
          clear hB sX hX
          go_wp2_with fail
          refine (CU.out wr (sl_below S1.out (bt BW.out HB.out))).mono ?_
          rintro e w' ⟨⟨v, rfl, hs⟩, rfl⟩
          obtain ⟨a4, c4, hv4, -, -⟩ := sl_form hs
          rw [← HMm.out] at hv4
          subst hv4
          clear hs f
          go_wp2_with fail
          have al := (Below.refl wr.heap.size wr).alloc (Nat.le_refl _) (.cells #[.int .i64 n2, .int .i64 (m : Int), .int .i64 q2] 2)
          have hnew := heap_alloc_new wr (.cells #[.int .i64 n2, .int .i64 (m : Int), .int .i64 q2] 2)
          have sx := sr_below SX.out al
          have BV := Lib.hid (bt HB.out al)
          generalize wr.alloc (.cells #[.int .i64 n2, .int .i64 (m : Int), .int .i64 q2] 2) = V at *
          generalize wr.heap.size = gI at *
          have ALI : Hid (∀ j, j < 3 → ∃ z, V.cell? ⟨gI, j, none⟩ = some (.int .i64 z) ∧ I64b z) := fun j hj => by
            match j, hj with
            | 0, _ => exact ⟨n2, (cell_of_row _ _ 0 _ _ _ hnew).trans rfl, H2.out⟩
            | 1, _ => exact ⟨(m : Int), (cell_of_row _ _ 1 _ _ _ hnew).trans rfl, by have := HMm.out; unfold I64b; omega⟩
            | 2, _ => exact ⟨q2, (cell_of_row _ _ 2 _ _ _ hnew).trans rfl, by unfold I64b; omega⟩
          have SX2 := Lib.hid sx
          clear al hnew sx SX HB
          go_loopw [51] (fun t wq => ∃ j : Nat, j ≤ 3 ∧ t = .int .i64 (j : Int) ∧ Below V.heap.size V wq) (fun t _ => 3 - (intOf t).toNat)
          case atStart => exact ⟨0, by omega, rfl, Below.refl _ _⟩
          case round =>
            obtain ⟨j, hj, rfl, hB⟩ := hrel
            by_cases hj3 : j < 3
            · have hl6 : decide ((j : Int) < 3) = true := decide_eq_true (by omega)
              have p2 : (0 : Int) ≤ (j : Int) := by omega
              have p3 : (j : Int) < 3 := by omega
              obtain ⟨z, f, hz⟩ := ALI.out j hj3
              have f := (hB.cell (p := ⟨gI, j, none⟩) (block_lt_of_cell f)).trans f
              have HZ := Lib.hid hz
              have HB := Lib.hid hB
              clear hB hz
              go_wp2_with fail
              refine (PJ.out (.slice xa xn xc) X z wr (sr_below SX2.out HB.out) HZ.out HX.out).mono ?_
              rintro e w5 ⟨⟨v5, rfl, hs5⟩, hb5⟩
              obtain ⟨a5, c5, hv5, -, -⟩ := sl_form hs5
              obtain ⟨n5, hn5⟩ : ∃ q, q = (joinR X z).length := ⟨_, rfl⟩
              rw [← hn5] at hv5
              subst hv5
              have S5 := Lib.hid hs5
              have B5 := Lib.hid (bt HB.out hb5)
              clear hs5 hb5 hn5 f
              go_wp2_with fail
              refine (rjoin_any (.slice xa xn xc) X z w5 (sr_below SX2.out B5.out) HZ.out HX.out).mono ?_
              unfold EB
              rintro e w6 ⟨⟨v6, rfl, ho6⟩, hb6⟩
              have hs6 := ho6.sl
              obtain ⟨a6, c6, hv6, -, -⟩ := sl_form hs6
              obtain ⟨n6, hn6⟩ : ∃ q, q = (joinR X z).length := ⟨_, rfl⟩
              rw [← hn6] at hv6
              subst hv6
              have hs5 := sl_below S5.out hb6
              have u1 := conv_sl hs5
              have u2 := conv_sl hs6
              have hse := str_eq hs6.1 hs6.1
              rw [decide_eq_true rfl] at hse
              have B6 := Lib.hid (bt B5.out hb6)
              clear hs5 hs6 ho6 hb6 hn6
              generalize strOf (joinR X z) = tx at *
              generalize joinE X z = err at *
              have hne : (tx.toList != tx.toList) = false := by rw [bne, hse]; rfl
              have x1 : (err != err) = false := by simp
              go_wp2_with fail
              go_roundw
              case rel => exact ⟨j + 1, by omega, by go_num, B6.out⟩
              case measure => simp [intOf]; omega
            · obtain rfl : j = 3 := by omega
              have HB := Lib.hid (bt BV.out hB)
              clear hB
              go_wp2
              go_roundw
              case rel => exact ⟨k + 1, by omega, by go_num, HB.out⟩
              case measure => simp [intOf]; omega
        · obtain rfl : k = 2 := by omega
          have HB := Lib.hid (bt BW.out hB)
          clear hB
          go_wp2_with fail
          refine (AW.out wr).mono ?_
          rintro e w9 ⟨rfl, hb9⟩
          have hb := bt HB.out hb9
          go_wp2_with fail
          go_ret
          exact ⟨rfl, hb⟩
end Go.Proofs.Ytjpehjgcpnogiaa.Gf
