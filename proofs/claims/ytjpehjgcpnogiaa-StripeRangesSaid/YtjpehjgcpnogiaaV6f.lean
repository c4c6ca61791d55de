/- What is proved here: the walk of the law StripeRanges, over what it asks of the program. No condition. -/
import Derived.Test.YtjpehjgcpnogiaaV5e
import Derived.Test.YtjpehjgcpnogiaaV6e
import Derived.BigQuiet
import Derived.StillTailTactics
namespace Go.Proofs.Ytjpehjgcpnogiaa.Gf
open Go Go.Joins Go.ChangeShapes Go.WideShapes Go.ChangeAt Go.RowKit Go.Deep Go.Proofs.Ytjpehjgcpnogiaa.By

/-- The index that (i % R + R) % R comes to. -/
def rmd (i : Int) (R : Nat) : Nat := (i % (R : Int)).toNat
theorem rmd_lt (i : Int) {R : Nat} (h : 1 ≤ R) : rmd i R < R := by
  have h1 := Int.emod_lt_of_pos i (show (0 : Int) < (R : Int) by omega)
  have h2 := Int.emod_nonneg i (show (R : Int) ≠ 0 by omega)
  unfold rmd
  omega
theorem rmd_eq (i : Int) {R : Nat} (h : 1 ≤ R) : (i.tmod (R : Int) + (R : Int)).tmod (R : Int) = ((rmd i R : Nat) : Int) ∧ -(R : Int) < i.tmod (R : Int) ∧ i.tmod (R : Int) < (R : Int) := by
  have hR : (0 : Int) < (R : Int) := by omega
  have b1 : -(R : Int) < i.tmod (R : Int) ∧ i.tmod (R : Int) < (R : Int) := ⟨Int.lt_tmod_of_pos i hR, Int.tmod_lt_of_pos i hR⟩
  refine ⟨?_, b1⟩
  rw [Int.tmod_eq_emod_of_nonneg (by omega), Int.add_emod_right]
  have e : (i.tmod (R : Int)) % (R : Int) = i % (R : Int) := by
    have h := Int.tmod_add_mul_tdiv i (R : Int)
    have h2 : i % (R : Int) = (i.tmod (R : Int) + (R : Int) * i.tdiv (R : Int)) % (R : Int) := by rw [h]
    rw [h2, Int.add_mul_emod_self_left]
  rw [e]
  have h2 := Int.emod_nonneg i (show (R : Int) ≠ 0 by omega)
  unfold rmd
  omega
theorem pieces_of {fr mn : Nat} (h1 : fr ≤ 3000) (h2 : mn ≤ 3000) : pcL (fr : Int) (mn : Int) = piecesL fr mn ∧ pcE (fr : Int) (mn : Int) = 0 := by
  have h : PcOk (fr : Int) (mn : Int) := by unfold PcOk; omega
  unfold pcL pcE
  rw [if_pos h, if_pos h, Int.toNat_natCast, Int.toNat_natCast]
  exact ⟨rfl, rfl⟩
theorem flat_take_le {α : Type} (f : α → List Nat) (ps : List α) (k : Nat) : ((ps.take k).flatMap f).length ≤ (ps.flatMap f).length := by
  have h := congrArg (fun l => (l.flatMap f).length) (List.take_append_drop k ps)
  simp only [List.flatMap_append, List.length_append] at h
  omega
/-- What a piece of a range is. -/
theorem pieces_mem : ∀ (n off : Nat) (p : Nat × Nat × Nat), p ∈ piecesL off n → p.1 < 4 ∧ 1 ≤ p.2.2 ∧ p.2.2 ≤ 64 ∧ ∀ m, off + n ≤ m → p.2.1 + p.2.2 ≤ szN m := by
  intro n
  induction n using Nat.strongRecOn with
  | ind n ih =>
    intro off p hp
    by_cases h : n = 0
    · subst h
      rw [pieces_zero] at hp
      simp at hp
    · rw [pieces_step h] at hp
      rcases List.mem_cons.1 hp with rfl | hp
      · refine ⟨sh_lt _, by simp only; omega, by simp only; omega, fun m hm => ?_⟩
        simp only
        unfold atOf szN
        omega
      · have := ih _ (by omega) _ _ hp
        refine ⟨this.1, this.2.1, this.2.2.1, fun m hm => this.2.2.2 m (by omega)⟩
set_option maxRecDepth 100000 in
set_option maxHeartbeats 6400000 in
theorem ranges_walk (P : PC5) (v0 : Value) (l0 : List Nat) (n1 n2 : Int) (w : World) (s0 : Sl w v0 l0) (_h1 : I64b n1) (_h2 : I64b n2) : Calls Try.prog 8 #[v0, .int .i64 n1, .int .i64 n2] w fun e w' => e = .returned (.bool true) ∧ Below w.heap.size w w' := by
  obtain ⟨a0, c0, hv0, -, -⟩ := sl_form s0
  obtain ⟨n0, hn0⟩ : ∃ q, q = l0.length := ⟨_, rfl⟩
  rw [← hn0] at hv0
  subst hv0
  have CU := Lib.hid (cut_any _ l0 w s0)
  have SP := Lib.hid P.split
  have PQ := Lib.hid P.pieces
  have AW := Lib.hid (awake5_any P)
  have hle : (l0.take 3000).length ≤ 3000 := by rw [List.length_take]; omega
  clear P s0 hn0
  generalize l0.take 3000 = l at *
  obtain ⟨n, hn⟩ : ∃ q, q = l.length := ⟨_, rfl⟩
  have hn3 : n ≤ 3000 := by omega
  obtain ⟨fr, t, e1, e2, e3, e4, e5⟩ : ∃ (fr : Nat) (t : Int), n1.tmod ((n : Int) + 1) = t ∧ -((n : Int) + 1) < t ∧ t < (n : Int) + 1 ∧ (t + (n : Int) + 1).tmod ((n : Int) + 1) = (fr : Int) ∧ fr ≤ n := by
    have h := rmd_eq n1 (R := n + 1) (by omega)
    have hl := rmd_lt n1 (R := n + 1) (by omega)
    rw [Int.natCast_add, show ((1 : Nat) : Int) = 1 from rfl, ← Int.add_assoc] at h
    exact ⟨rmd n1 (n + 1), _, rfl, h.2.1, h.2.2, h.1, by omega⟩
  obtain ⟨R, hR⟩ : ∃ R, R = n - fr + 1 := ⟨_, rfl⟩
  obtain ⟨mn, t2, f1, f2, f3, f4, f5⟩ : ∃ (mn : Nat) (t2 : Int), n2.tmod ((n : Int) - (fr : Int) + 1) = t2 ∧ -((n : Int) - (fr : Int) + 1) < t2 ∧ t2 < (n : Int) - (fr : Int) + 1 ∧ (t2 + (n : Int) - (fr : Int) + 1).tmod ((n : Int) - (fr : Int) + 1) = (mn : Int) ∧ fr + mn ≤ n := by
    have h := rmd_eq n2 (R := R) (by omega)
    have hl := rmd_lt n2 (R := R) (by omega)
    rw [show (R : Int) = (n : Int) - (fr : Int) + 1 by omega] at h
    rw [show n2.tmod ((n : Int) - (fr : Int) + 1) + ((n : Int) - (fr : Int) + 1) = n2.tmod ((n : Int) - (fr : Int) + 1) + (n : Int) - (fr : Int) + 1 by omega] at h
    exact ⟨rmd n2 R, _, rfl, h.2.1, h.2.2, h.1, by omega⟩
  have g1 : ¬ (n : Int) + 1 = 0 := by omega
  have g2 : ¬ (n : Int) - (fr : Int) + 1 = 0 := by omega
  have HN := Lib.hid hn
  have hpc := pieces_of (fr := fr) (mn := mn) (by omega) (by omega)
  have HPC := Lib.hid hpc
  have HPB := Lib.hid (pieces_bytes l mn fr (by omega))
  obtain ⟨q6, hq6⟩ : ∃ q, q = mn / 64 := ⟨_, rfl⟩
  have q64 : (mn : Int).tdiv 64 = (q6 : Int) := by rw [Int.tdiv_eq_ediv_of_nonneg (by omega)]; omega
  have HQ6 := Lib.hid hq6
  have hq6b : q6 ≤ 47 := by omega
  clear hq6
  clear hR hn hpc _h1 _h2
  go_enter Try.func8, Try.ntmps8
  go_wp2_with fail
  refine CU.out.mono ?_
  rintro e w' ⟨⟨v, rfl, hs⟩, rfl⟩
  have S := Lib.hid hs
  obtain ⟨a1, c1, hv1, -, -⟩ := sl_form hs
  rw [← HN.out] at hv1
  subst hv1
  clear hs
  go_wp2_with fail
  refine (SP.out _ l w S.out (by omega)).mono ?_
  rintro e w1 ⟨⟨x1, rfl, hs1⟩, hb1⟩
  obtain ⟨a2, c2, rfl, -, -⟩ := sr_form hs1
  rw [splitL_length] at hs1 ⊢
  have R1 := Lib.hid hs1
  have B1 := Lib.hid hb1
  have S1 := Lib.hid (sl_below S.out hb1)
  clear hs1 hb1 S
  go_wp2_with fail
  have hpq := PQ.out (fr : Int) (mn : Int) w1 (by unfold I64b; omega) (by unfold I64b; omega)
  rw [HPC.out.1, HPC.out.2] at hpq
  refine hpq.mono ?_
  rintro e w2 ⟨⟨v2, rfl, hs2⟩, hb2⟩
  have hmem := fun p hp => pieces_mem mn fr p hp
  have hcnt := pieces_count fr mn
  have HPB' := HPB.out
  clear hpq HPB HPC PQ SP
  generalize piecesL fr mn = ps at *
  obtain ⟨a3, c3, rfl⟩ := sp_form hs2
  obtain ⟨np, hnp⟩ : ∃ q, q = ps.length := ⟨_, rfl⟩
  rw [← hnp] at hs2 hcnt ⊢
  have hq6 := HQ6.out
  have k1 : decide ((q6 : Int) + 2 < (np : Int)) = false := decide_eq_false (by omega)
  have hnp5 : np ≤ 200 := by omega
  clear hq6
  have HPB := Lib.hid HPB'
  have HMEM := Lib.hid hmem
  have HNP := Lib.hid hnp
  have S2 := Lib.hid hs2
  have R2 := Lib.hid (sr_below R1.out hb2)
  have SB := Lib.hid (sl_below S1.out hb2)
  have B2 := Lib.hid (bt B1.out hb2)
  clear HPB' hmem hcnt hnp hs2 hb2 R1 S1 B1
  go_wp2_with fail
  go_loopw [12, 74] (fun o t wr => ∃ k : Nat, k ≤ np ∧ t = .int .i64 (k : Int) ∧ Own wr w2.heap.size o ((ps.take k).flatMap (cutP (splitL l))) ∧ Below w2.heap.size w2 wr) (fun _ t _ => np - (intOf t).toNat)
  case atStart => exact ⟨0, by omega, rfl, own_nil _ _, Below.refl _ _⟩
  case round =>
    obtain ⟨k, hk, rfl, hO, hB⟩ := hrel
    obtain ⟨oa, on, oc, rfl, -⟩ := own_form hO
    have HO := Lib.hid hO
    have HB := Lib.hid hB
    by_cases hkn : k < np
    · have hl4 : decide ((k : Int) < (np : Int)) = true := decide_eq_true (by omega)
      have p0 : (0 : Int) ≤ (k : Int) := by omega
      have p1 : (k : Int) < (np : Int) := by omega
      obtain ⟨b3, o3, rfl, hk3⟩ := sp_cells S2.out (by omega) HNP.out.symm
      obtain ⟨z1, z2, z3⟩ := hk3 k hkn
      have z1 := (hB.cell (block_lt_of_cell z1)).trans z1
      have z2 := (hB.cell (block_lt_of_cell z2)).trans z2
      have z3 := (hB.cell (block_lt_of_cell z3)).trans z3
      have hin : ps.getD k (0, 0, 0) ∈ ps := by
        have := HNP.out
        simp only [List.getD, List.getElem?_eq_getElem (show k < ps.length by omega), Option.getD_some]
        exact List.getElem_mem _
      have hm := HMEM.out _ hin
      have hstep : (ps.take (k + 1)).flatMap (cutP (splitL l)) = (ps.take k).flatMap (cutP (splitL l)) ++ cutP (splitL l) (ps.getD k (0, 0, 0)) := by
        have := HNP.out
        have hkl : k < ps.length := by omega
        have e : ps.take (k + 1) = ps.take k ++ [ps.getD k (0, 0, 0)] := by
          rw [List.take_add_one, List.getElem?_eq_getElem hkl]
          simp only [List.getD, List.getElem?_eq_getElem hkl, Option.getD_some, Option.toList_some]
        rw [e, List.flatMap_append]
        simp only [List.flatMap_cons, List.flatMap_nil, List.append_nil]
      obtain ⟨⟨sh, at', ln⟩, hp⟩ : ∃ p, p = ps.getD k (0, 0, 0) := ⟨_, rfl⟩
      rw [← hp] at z1 z2 z3 hm hstep
      have HST := Lib.hid hstep
      obtain ⟨m1, m2, m3, m4⟩ := hm
      have m4 := m4 n f5
      clear hO hB hk3 hin hp hstep
      go_wp2
      have hnew := heap_alloc_new wr (.cells #[.int .i64 (sh : Int), .int .i64 (at' : Int), .int .i64 (ln : Int)] 47)
      have hal := bt HB.out ((Below.refl wr.heap.size wr).alloc (Nat.le_refl _) (.cells #[.int .i64 (sh : Int), .int .i64 (at' : Int), .int .i64 (ln : Int)] 47))
      have HO1 := Lib.hid (own_below' HO.out ((Below.refl wr.heap.size wr).alloc (Nat.le_refl _) (.cells #[.int .i64 (sh : Int), .int .i64 (at' : Int), .int .i64 (ln : Int)] 47)))
      clear z1 z2 z3
      generalize wr.alloc (.cells #[.int .i64 (sh : Int), .int .i64 (at' : Int), .int .i64 (ln : Int)] 47) = W1 at *
      generalize wr.heap.size = g at *
      have y1 : W1.cell? ⟨g, 0, none⟩ = some (.int .i64 (sh : Int)) := (cell_of_row _ _ 0 _ _ _ hnew).trans rfl
      have y2 : W1.cell? ⟨g, 1, none⟩ = some (.int .i64 (at' : Int)) := (cell_of_row _ _ 1 _ _ _ hnew).trans rfl
      have y3 : W1.cell? ⟨g, 2, none⟩ = some (.int .i64 (ln : Int)) := (cell_of_row _ _ 2 _ _ _ hnew).trans rfl
      obtain ⟨b, o, c', hv, -, -, kk⟩ := sr_cells R2.out (by rw [splitL_length]; omega)
      obtain ⟨rfl, -, rfl⟩ : a2 = some ⟨b, o, none⟩ ∧ 4 = (splitL l).length ∧ c2 = c' := by simpa using hv
      obtain ⟨x, hx, hsx⟩ := kk sh (by rw [splitL_length]; exact m1)
      have hlen : ((splitL l).getD sh []).length = szN n := by rw [splitL_getD l m1, rowL_length, ← HN.out]
      obtain ⟨rb, ro, rc, rfl, rle, -, -⟩ := sl_cells hsx (by omega)
      have hx := (hal.cell (p := ⟨b, o + sh, none⟩) (block_lt_of_cell hx)).trans hx
      have hcut := sl_below hsx hal
      have hszb : szN n ≤ 3300 := by unfold szN; omega
      rw [hlen] at hx hcut rle
      have HX := Lib.hid hx
      have HLN := Lib.hid hlen
      have HCUT := Lib.hid hcut
      have HAL := Lib.hid hal
      have Y := Lib.hid (And.intro y1 (And.intro y2 y3))
      generalize szN n = M at *
      have d1 : decide ((sh : Int) < 0) = false := decide_eq_false (by omega)
      have d2 : decide ((4 : Int) ≤ (sh : Int)) = false := decide_eq_false (by omega)
      have d3 : decide ((at' : Int) < 0) = false := decide_eq_false (by omega)
      have d4 : decide ((ln : Int) < 1) = false := decide_eq_false (by omega)
      have d5 : decide ((64 : Int) < (ln : Int)) = false := decide_eq_false (by omega)
      have d6 : decide ((M : Int) < (at' : Int) + (ln : Int)) = false := decide_eq_false (by omega)
      have d7 : IntKind.i64.wrap ((at' : Int) + (ln : Int)) = (at' : Int) + (ln : Int) := IntWalk.i64_in _ (by omega)
      have r0 : (0 : Int) ≤ (sh : Int) := by omega
      have r1 : (sh : Int) < 4 := by omega
      clear hnew hal hv kk hsx hcut hlen HO HB
      go_wp2
      go_quiet (fail)
      have hd := below_drewN W1 nq
      obtain ⟨t1, t2', t3⟩ := Y.out
      have y1 := (hd.cell (p := ⟨g, 0, none⟩) (block_lt_of_cell t1)).trans t1
      have y2 := (hd.cell (p := ⟨g, 1, none⟩) (block_lt_of_cell t2')).trans t2'
      have y3 := (hd.cell (p := ⟨g, 2, none⟩) (block_lt_of_cell t3)).trans t3
      have hx := (hd.cell (p := ⟨b, o + sh, none⟩) (block_lt_of_cell HX.out)).trans HX.out
      have hc9 := sl_below HCUT.out hd
      obtain ⟨_, _, _, hv9, -, hm9, h9⟩ := sl_cells hc9 (by have := HLN.out; omega)
      obtain ⟨⟨rfl, rfl⟩, -, rfl⟩ : (rb = _ ∧ ro = _) ∧ M = ((splitL l).getD sh []).length ∧ rc = _ := by simpa using hv9
      have HC9 := Lib.hid (sl_cut (p := at') (c := ln) hc9.1 rfl hm9 (by have := HLN.out; omega) h9 (by have := HLN.out; omega))
      have HO9 := Lib.hid (own_below' HO1.out hd)
      have HB9 := Lib.hid (bt HAL.out hd)
      clear hd t1 t2' t3 hc9 hv9 h9 HX HCUT HAL HO1 Y
      generalize W1.drewN nq = W9 at *
      have s1 : (at' : Int) ≤ (at' : Int) + (ln : Int) := by omega
      have s2 : (at' : Int) + (ln : Int) ≤ (rc : Int) := by omega
      have s3 : (0 : Int) ≤ (at' : Int) := by omega
      go_wp2
      go_still_tail 14, (by kernel_rfl)
      change wpList _ _ _ _ _ W9.drew
      refine app_sl (dst := some 129) ?_ ?_ HO9.out.drew (sl_drew HC9.out) ?_ ?_ ?_
      · exact rfl
      · go_simp
        exact ⟨fun h => by omega, by omega⟩
      · have h1 := flat_take_le (cutP (splitL l)) ps k
        rw [HPB.out] at h1
        simp only [List.length_take, List.length_drop] at h1 ⊢
        omega
      · exact HB9.out.size
      intro v5 w5 ho5 hg5
      have ho6 : Own w5 w2.heap.size v5 ((ps.take (k + 1)).flatMap (cutP (splitL l))) := by rw [HST.out]; exact ho5
      have hb6 : Below w2.heap.size w2 w5 := HB9.out.drew.grown hg5 HB9.out.size fun q hq => HO9.out.drew.lt q hq
      obtain ⟨sa, sn, sc, rfl, -⟩ := own_form ho6
      have HO6 := Lib.hid ho6
      have HB6 := Lib.hid hb6
      clear ho5 ho6 hb6 hg5
      go_wp2
      go_roundw
      case rel => exact ⟨k + 1, by omega, by go_num, HO6.out, HB6.out⟩
      case measure => simp [intOf]; omega
    · obtain rfl : k = np := by omega
      have hl4 : decide ((k : Int) < (k : Int)) = false := decide_eq_false (by omega)
      rw [List.take_of_length_le (by rw [← HNP.out]; exact Nat.le_refl _), HPB.out] at hO
      have HO := Lib.hid hO
      have HS := Lib.hid (sl_below SB.out hB)
      have HBX := Lib.hid (bt B2.out hB)
      clear hO hB
      have u1 := conv_sl (sl_drew HO.out.sl)
      obtain ⟨e9, he9⟩ : ∃ e9, e9 = fr + mn := ⟨_, rfl⟩
      have v4 : IntKind.i64.wrap ((fr : Int) + (mn : Int)) = (e9 : Int) := by
        rw [he9, Int.natCast_add]
        exact IntWalk.i64_in _ (by omega)
      have v5 : (fr : Int) ≤ (e9 : Int) := by omega
      have v6 : (e9 : Int) ≤ (c1 : Int) := by
        obtain ⟨_, _, hv9, hc9, -⟩ := sl_form HS.out
        have e : c1 = _ := (by simpa using hv9 : _ ∧ _ ∧ c1 = _).2.2
        rw [e]
        have := HN.out
        omega
      obtain ⟨ZS, hZS⟩ : ∃ Z, Z = (l.drop fr).take mn := ⟨_, rfl⟩
      have HZ : Hid (ZS.length = mn) := by show _ = _; rw [hZS, List.length_take, List.length_drop, ← HN.out]; omega
      rw [← hZS] at u1
      have ht : ((strOf ZS).toList == (strOf ZS).toList) = true := by simp
      have hcm : c1 ≤ maxLen := by
        obtain ⟨_, _, hv9, -, hc9⟩ := sl_form HS.out
        have e : c1 = _ := (by simpa using hv9 : _ ∧ _ ∧ c1 = _).2.2
        rw [e]
        exact hc9
      by_cases h0 : mn = 0
      · have hZ0 : ZS = [] := List.eq_nil_of_length_eq_zero (by rw [HZ.out, h0])
        have he0 : e9 - fr = 0 := by omega
        have u2 : ∀ ad, (convert 28 9 (.slice ad (e9 - fr) (c1 - fr))).run Try.prog wr.drew = .ok (.string (strOf ZS)) wr.drew := fun ad => by
          rw [he0, hZ0]
          exact conv_sl ⟨by simp, by simp, Or.inl ⟨ad, _, rfl, rfl, by omega⟩⟩
        clear hZ0 he0 h0 he9 hZS hcm
        generalize strOf ZS = tz at *
        cases a1 with
        | none =>
          go_wp2
          refine wp_region_still_tail 11 (by kernel_rfl) (by kernel_rfl) ?_
          change wpStill _ _ wr.drew (fun a' => wpList _ _ _ _ a' wr.drew) _ _
          simp only [List.take_succ_cons, List.take_zero, List.drop_succ_cons, List.drop_zero]
          repeat still_step
          refine wpStill_nil ?_
          go_wp2_with ((go_at_call 14; refine (AW.out _).mono ?_; rintro e w5 ⟨rfl, hB5⟩))
          go_ret
          exact ⟨rfl, HBX.out.drew.trans (hB5.mono HBX.out.size)⟩
        | some ad =>
          go_wp2
          refine wp_region_still_tail 11 (by kernel_rfl) (by kernel_rfl) ?_
          change wpStill _ _ wr.drew (fun a' => wpList _ _ _ _ a' wr.drew) _ _
          simp only [List.take_succ_cons, List.take_zero, List.drop_succ_cons, List.drop_zero]
          repeat still_step
          refine wpStill_nil ?_
          go_wp2_with ((go_at_call 14; refine (AW.out _).mono ?_; rintro e w5 ⟨rfl, hB5⟩))
          all_goals go_ret
          all_goals exact ⟨rfl, HBX.out.drew.trans (hB5.mono HBX.out.size)⟩
      · obtain ⟨b, o, c', hv, hc1, -, hk⟩ := sl_cells HS.out (by have := HN.out; omega)
        obtain ⟨rfl, -, rfl⟩ : a1 = some ⟨b, o, none⟩ ∧ n = l.length ∧ c1 = c' := by simpa using hv
        have hcf : ¬ c1 = fr := by have := HN.out; omega
        have u2 := conv_sl (sl_drew (sl_cut (w := wr) (p := fr) (c := mn) HS.out.1 HN.out.symm hcm (by rw [HN.out]; exact hc1) (by rw [HN.out]; exact hk) (by omega)))
        rw [← hZS, show mn = e9 - fr by omega] at u2
        clear h0 he9 hZS hcm hv hk hc1
        generalize strOf ZS = tz at *
        go_wp2
        refine wp_region_still_tail 11 (by kernel_rfl) (by kernel_rfl) ?_
        change wpStill _ _ wr.drew (fun a' => wpList _ _ _ _ a' wr.drew) _ _
        simp only [List.take_succ_cons, List.take_zero, List.drop_succ_cons, List.drop_zero]
        repeat still_step
        refine wpStill_nil ?_
        go_wp2_with ((go_at_call 14; refine (AW.out _).mono ?_; rintro e w5 ⟨rfl, hB5⟩))
        go_ret
        exact ⟨rfl, HBX.out.drew.trans (hB5.mono HBX.out.size)⟩
end Go.Proofs.Ytjpehjgcpnogiaa.Gf
