/- What is proved here: the walk of the law StripeBack, over what it asks of the program. No condition. -/
import Derived.Test.YtjpehjgcpnogiaaV5e
import Derived.Test.YtjpehjgcpnogiaaV5f
import Derived.BigQuiet
namespace Go.Proofs.Ytjpehjgcpnogiaa.Gf
open Go Go.Joins Go.ChangeShapes Go.WideShapes Go.ChangeAt Go.RowKit Go.Deep Go.Proofs.Ytjpehjgcpnogiaa.By

theorem join_back (b : List Nat) (more : List (List Nat)) : JoinOk (splitL b ++ more) (b.length : Int) ∧ joinR (splitL b ++ more) (b.length : Int) = b ∧ joinE (splitL b ++ more) (b.length : Int) = 0 := by
  have h : JoinOk (splitL b ++ more) (b.length : Int) := by
    refine ⟨by rw [List.length_append, splitL_length]; omega, by omega, fun i hi => ?_⟩
    unfold RowOk
    have : (splitL b ++ more).getD i [] = (splitL b).getD i [] := by simp [List.getD, List.getElem?_append, splitL_length, hi]
    rw [this, splitL_getD b hi, rowL_length, szI_nat]
  refine ⟨h, ?_, ?_⟩
  · unfold joinR
    rw [if_pos h, Int.toNat_natCast, join_split]
  · unfold joinE
    rw [if_pos h]
set_option maxRecDepth 100000 in
set_option maxHeartbeats 6400000 in
theorem back_walk (P : PC5) (v0 : Value) (l0 : List Nat) (v1 : Value) (l1 : List (List Nat)) (w : World) (s0 : Sl w v0 l0) (s1 : Sr w v1 l1) : Calls Try.prog 6 #[v0, v1] w fun e w' => e = .returned (.bool true) ∧ Below w.heap.size w w' := by
  obtain ⟨a0, c0, hv0, -, -⟩ := sl_form s0
  obtain ⟨n0, hn0⟩ : ∃ q, q = l0.length := ⟨_, rfl⟩
  rw [← hn0] at hv0
  subst hv0
  clear hn0
  obtain ⟨am, cm, hvm, -, -⟩ := sr_form s1
  obtain ⟨nm, hnm⟩ : ∃ q, q = l1.length := ⟨_, rfl⟩
  rw [← hnm] at hvm
  subst hvm
  have HNM := Lib.hid hnm
  have HMX : Hid (nm ≤ maxLen) := by show nm ≤ maxLen; rw [hnm]; exact s1.1
  have SM := Lib.hid s1
  have CU := Lib.hid (cut_any _ l0 w s0)
  have SP := Lib.hid P.split
  have PJ := Lib.hid P.join
  have PS := Lib.hid P.size
  have AW := Lib.hid (awake5_any P)
  have hle : (l0.take 3000).length ≤ 3000 := by rw [List.length_take]; omega
  clear P s0 s1 hnm
  generalize l0.take 3000 = l at *
  go_enter Try.func6, Try.ntmps6
  go_wp2_with fail
  refine CU.out.mono ?_
  rintro e w' ⟨⟨v, rfl, hs⟩, rfl⟩
  have S := Lib.hid hs
  obtain ⟨a1, c1, hv1, -, -⟩ := sl_form hs
  obtain ⟨n1, hn1⟩ : ∃ q, q = l.length := ⟨_, rfl⟩
  rw [← hn1] at hv1
  subst hv1
  have HN1 := Lib.hid hn1
  have hsz := fun W => PS.out (n1 : Int) W (by unfold I64b; omega)
  have hj := join_back l l1
  have hsp := splitL_length l
  have hrl : ∀ i, i < 4 → ((splitL l).getD i []).length = szN n1 := fun i hi => by rw [splitL_getD l hi, rowL_length, hn1]
  have hszb : szN n1 ≤ 3300 := by unfold szN; omega
  rw [← hn1] at hj
  rw [szI_nat] at hsz
  have SZ := Lib.hid hsz
  have HJ := Lib.hid hj
  have HRL := Lib.hid hrl
  have HSB := Lib.hid hszb
  have HSP := Lib.hid hsp
  clear hs hsz hj hn1 hrl hszb hsp
  go_wp2_with fail
  refine (SP.out _ l w S.out (by have := HN1.out; omega)).mono ?_
  rintro e w1 ⟨⟨x1, rfl, hs1⟩, hb1⟩
  obtain ⟨a2, c2, rfl, -, -⟩ := sr_form hs1
  have HB1 := Lib.hid hb1
  rw [HSP.out] at hs1 ⊢
  have R1 := Lib.hid hs1
  have SL1 := Lib.hid (sl_below S.out hb1)
  have SM1 := Lib.hid (sr_below SM.out hb1)
  have hmx := HMX.out
  unfold maxLen at hmx
  clear hs1 hb1 S SM CU
  by_cases h4 : 4 < nm
  · have g1 : decide ((4 : Int) < (nm : Int)) = true := decide_eq_true (by omega)
    go_wp2_with fail
    refine (AW.out w1).mono ?_
    rintro e w9 ⟨rfl, hb9⟩
    have hb := bt HB1.out hb9
    go_wp2_with fail
    go_ret
    exact ⟨rfl, hb⟩
  have g1 : decide ((4 : Int) < (nm : Int)) = false := decide_eq_false (by omega)
  go_wp2_with fail
  go_loopw [29] (fun t wr => ∃ i : Nat, i ≤ 4 ∧ t = .int .i64 (i : Int) ∧ Below w1.heap.size w1 wr) (fun t _ => 4 - (intOf t).toNat)
  case atStart => exact ⟨0, by omega, rfl, Below.refl _ _⟩
  case round =>
    obtain ⟨i, hi, rfl, hB⟩ := hrel
    by_cases hi4 : i < 4
    · have hl4 : decide ((i : Int) < 4) = true := decide_eq_true (by omega)
      have p0 : (0 : Int) ≤ (i : Int) := by omega
      have p1 : (i : Int) < 4 := by omega
      obtain ⟨b, o, c', hv, -, -, kk⟩ := sr_cells R1.out (by rw [HSP.out]; omega)
      obtain ⟨rfl, -, rfl⟩ : a2 = some ⟨b, o, none⟩ ∧ 4 = (splitL l).length ∧ c2 = c' := by simpa using hv
      obtain ⟨x, hx, hsx⟩ := kk i (by rw [HSP.out]; exact hi4)
      obtain ⟨xa, xc, rfl, -, -⟩ := sl_form hsx
      rw [HRL.out i hi4] at hx
      have hx := (hB.cell (p := ⟨b, o + i, none⟩) (block_lt_of_cell hx)).trans hx
      have x1 : (((szN n1 : Nat) : Int) != ((szN n1 : Nat) : Int)) = false := by simp
      have HB := Lib.hid hB
      clear hB hsx hv kk
      generalize szN n1 = M at *
      go_wp2
      go_quiet ((go_at_call 12; exact Calls.quiet_of_same ((SZ.out _).mono fun _ _ h => ⟨h.1, h.2.symm⟩)))
      have hd := bt HB.out (below_drewN wr nq)
      clear HB hx
      generalize wr.drewN nq = W9 at *
      have HD := Lib.hid hd
      clear hd
      go_wp2
      go_roundw
      case rel => exact ⟨i + 1, by omega, by go_num, HD.out⟩
      case measure => simp [intOf]; omega
    · obtain rfl : i = 4 := by omega
      rw [show ((4 : Nat) : Int) = 4 from rfl]
      have B := Lib.hid (bt HB1.out hB)
      have R2 := Lib.hid (sr_below R1.out hB)
      have S2 := Lib.hid (sl_below SL1.out hB)
      have M2 := Lib.hid (sr_below SM1.out hB)
      have AL := Lib.hid ((Below.refl wr.heap.size wr).alloc (Nat.le_refl _) (.cells #[] 28))
      have E0 := Lib.hid (ownk_empty wr (b0 := wr.heap.size) (Nat.le_refl _))
      clear hB R1 SL1 SM1
      go_wp2_with (first
        | (at_builtin; refine app_rows_sr (dst := some 45) (n := 0) (P := splitL l) ?_ ?_ E0.out rfl R2.out (Nat.le_refl _) AL.out (by rw [HSP.out]; omega) (by simp) ?_; exact rfl; exact rfl; intro v3 w3 ys3 ho3 hg3; rw [List.nil_append] at ho3; obtain ⟨av, cv, hv3⟩ := ownsRow_form ho3.row; obtain ⟨nn, hnn⟩ : ∃ q, q = ys3.length := ⟨_, rfl⟩; rw [← hnn] at hv3; subst hv3; clear hnn; have HO3 := Lib.hid ho3; have B3 := Lib.hid (AL.out.grown hg3 (by simp) fun q hq => (E0.out.row.lt q hq).1); clear ho3 hg3)
        | (at_builtin; refine app_rows_sr (dst := some 47) (n := 4) (P := l1) ?_ ?_ HO3.out HSP.out M2.out (Nat.le_refl _) B3.out (by have := HNM.out; omega) B3.out.size ?_; exact rfl; exact rfl; intro v4 w4 ys4 ho4 hg4; obtain ⟨av4, cv4, hv4⟩ := ownsRow_form ho4.row; obtain ⟨nn4, hnn4⟩ : ∃ q, q = ys4.length := ⟨_, rfl⟩; rw [← hnn4] at hv4; subst hv4; clear hnn4; have HO4 := Lib.hid ho4; have B4 := Lib.hid (B3.out.grown hg4 B3.out.size fun q hq => (HO3.out.row.lt q hq).1); clear ho4 hg4))
      have hsm : Small5 (splitL l ++ l1) := fun k hk => by
        have : (splitL l ++ l1).getD k [] = (splitL l).getD k [] := by simp [List.getD, List.getElem?_append, HSP.out, hk]
        rw [this, HRL.out k hk]
        have := HSB.out
        omega
      have hjn := PJ.out _ (splitL l ++ l1) (n1 : Int) w4 HO4.out.sr (by have := HN1.out; unfold I64b; omega) hsm
      rw [HJ.out.2.1, HJ.out.2.2] at hjn
      refine hjn.mono ?_
      rintro e w5 ⟨⟨v5, rfl, hs5⟩, hb5⟩
      have S5 := sl_below (sl_below S2.out B4.out) hb5
      obtain ⟨a5, c5, hv5, -, -⟩ := sl_form hs5
      rw [← HN1.out] at hv5
      subst hv5
      have u1 := conv_sl hs5
      have u2 := conv_sl S5
      have hse := str_eq hs5.1 hs5.1
      rw [decide_eq_true rfl] at hse
      have B5 := Lib.hid (bt B.out (bt B4.out hb5))
      clear hsm hjn hs5 S5 hb5
      generalize strOf l = t at *
      go_wp2_with fail
      refine (AW.out w5).mono ?_
      rintro e w9 ⟨rfl, hb9⟩
      have hb := bt B5.out hb9
      go_wp2_with fail
      go_ret
      exact ⟨rfl, hb⟩
end Go.Proofs.Ytjpehjgcpnogiaa.Gf
