/- What is proved here: the walk of the law JournalTorn, over what it asks of the program. No condition. -/
import Derived.Test.YtbkhedfhnmkodaaDoorLP14a
namespace Go.Proofs.YtbkhedfhnmkodaaDoor.Gf
open Go Go.Joins Go.ChangeShapes Go.WideShapes Go.ChangeAt Go.RowKit Go.Deep Go.Proofs.YtbkhedfhnmkodaaDoor.By Go.Proofs.YtbkhedfhnmkodaaDoor.Crc Go.Proofs.YtbkhedfhnmkodaaDoor.Qt

theorem left_at (n0 : Int) {L : Nat} (hL : L ≤ 720) : ∃ (N lf : Nat) (t x y : Int), N = L + 1 ∧ wrap64 ((L : Int) + 1) = (N : Int) ∧ n0.tmod (N : Int) = t ∧ wrap64 t = t ∧ wrap64 (t + (L : Int)) = x ∧ wrap64 (x + 1) = y ∧ y.tmod (N : Int) = (lf : Int) ∧ wrap64 (lf : Int) = (lf : Int) ∧ lf ≤ L := by
  obtain ⟨N, hN⟩ : ∃ N, N = L + 1 := ⟨_, rfl⟩
  have h1 := Int.tmod_lt_of_pos n0 (b := (N : Int)) (by omega)
  have h2 := Int.lt_tmod_of_pos n0 (b := (N : Int)) (by omega)
  have h3 := Int.emod_lt_of_pos (n0.tmod (N : Int) + (N : Int)) (show (0 : Int) < (N : Int) by omega)
  have h4 := Int.emod_nonneg (n0.tmod (N : Int) + (N : Int)) (show (N : Int) ≠ 0 by omega)
  obtain ⟨t, ht⟩ : ∃ t, t = n0.tmod (N : Int) := ⟨_, rfl⟩
  rw [← ht] at h1 h2 h3 h4
  obtain ⟨c, hc⟩ : ∃ c : Nat, (c : Int) = (t + (N : Int)) % (N : Int) := ⟨((t + (N : Int)) % (N : Int)).toNat, Int.toNat_of_nonneg h4⟩
  rw [← hc] at h3 h4
  refine ⟨N, c, t, t + (L : Int), t + (N : Int), hN, ?_, ht.symm, ?_, ?_, ?_, ?_, ?_, by omega⟩
  · clear ht hc
    unfold wrap64; omega
  · clear ht hc
    unfold wrap64; omega
  · clear ht hc
    unfold wrap64; omega
  · clear ht hc
    unfold wrap64; omega
  · rw [Int.tmod_eq_emod_of_nonneg (by omega), ← hc]
  · clear ht hc
    unfold wrap64; omega
theorem div12 {lf : Nat} (h : lf ≤ 720) : ∃ j : Nat, j = lf / 12 ∧ (lf : Int).tdiv 12 = (j : Int) ∧ (lf : Int) / 12 = (j : Int) ∧ wrap64 (j : Int) = (j : Int) ∧ wrap64 ((j : Int) * 12) = ((12 * j : Nat) : Int) := by
  refine ⟨lf / 12, rfl, ?_, by omega, ?_, ?_⟩
  · rw [Int.tdiv_eq_ediv_of_nonneg (by omega)]; omega
  · unfold wrap64; omega
  · unfold wrap64; omega
theorem mul12 {n L : Nat} (h : L = 12 * n) (hn : n ≤ 60) : wrap64 (12 * (n : Int)) = (L : Int) := by unfold wrap64; omega
set_option maxRecDepth 100000 in
set_option maxHeartbeats 12800000 in
theorem torn14_walk {Ok : World → Prop} (P : PC14 Ok) (v : Value) (l : List Nat) (n0 : Int) (w : World) (hw : Ok w) (s : UL w v l) : Calls Tryd.prog 4 #[v, .int .i64 n0] w fun e w' => e = .returned (.bool true) ∧ Below w.heap.size w w' := by
  have CU := Lib.hid (cut_any v l w s)
  have HKL : Hid ((cutL l).length ≤ 60) := by show _ ≤ _; unfold cutL; rw [List.length_take]; omega
  have AW := Lib.hid (fun W (h : Ok W) => awake14_any P W h)
  have ENC := Lib.hid (fun v l W (h : Ok W) (s : UL W v l) (hl : l.length ≤ 1000) => P.enc v l W h s hl)
  have DEC := Lib.hid (fun v l W (h : Ok W) (s : Sl W v l) (hl : l.length ≤ 1000000) => P.dec v l W h s hl)
  have ST := Lib.hid (fun (W W' : World) => P.st (w := W) (w' := W'))
  have HW := Lib.hid hw
  obtain ⟨a, c, rfl, -, -⟩ := ul_form s
  generalize l.length = ln at *
  generalize cutL l = K at *
  clear P s hw
  go_enter Tryd.func4, Tryd.ntmps4
  go_wp2_with fail
  refine CU.out.mono ?_
  rintro e w0 ⟨⟨v2, rfl, hv2⟩, rfl⟩
  have SK := Lib.hid hv2
  have HLT := Lib.hid (ul_lt hv2)
  obtain ⟨ak, ck, rfl, hkc, -⟩ := ul_form hv2
  have HCK := Lib.hid hkc
  obtain ⟨kn, hkn⟩ : ∃ n, n = K.length := ⟨_, rfl⟩
  have HKN := Lib.hid hkn
  rw [← hkn] at SK ⊢
  clear hv2 hkc hkn CU
  go_wp2_with fail
  refine (ENC.out _ K w HW.out SK.out (by have := HKL.out; omega)).mono ?_
  rintro e w1 ⟨⟨v1, rfl, ho1⟩, hb1⟩
  obtain ⟨ab, cb, rfl, hcb, -⟩ := sl_form ho1.sl
  have SE := Lib.hid ho1.sl
  obtain ⟨L, hL⟩ : ∃ n, n = (encJ K).length := ⟨_, rfl⟩
  have HL := Lib.hid (show L = 12 * kn ∧ kn ≤ 60 by rw [hL, encJ_length, ← HKN.out]; exact ⟨rfl, by rw [HKN.out]; exact HKL.out⟩)
  have hcb2 : L ≤ cb := by rw [hL]; exact hcb
  have HEL := Lib.hid hL
  rw [← hL] at SE ⊢
  have SK1 := Lib.hid (ul_below SK.out hb1)
  have B1 := Lib.hid hb1
  have OK1 := Lib.hid (ST.out _ _ HW.out hb1)
  clear ho1 hb1 hL hcb SK HW
  have m2 : ((L : Int) != (L : Int)) = false := by simp
  obtain ⟨N, lf, t, x, y, hN, u1, u2, u3, u4, u5, u6, u7, hlf⟩ := left_at n0 (L := L) (by have := HL.out; omega)
  have HU := Lib.hid (And.intro u1 (And.intro u2 (And.intro u3 (And.intro u4 (And.intro u5 (And.intro u6 u7))))))
  clear u1 u2 u3 u4 u5 u6 u7
  obtain ⟨j, hj, q1, q2, q3, q4⟩ := div12 (lf := lf) (by have := HL.out; omega)
  have HQ := Lib.hid (And.intro q1 (And.intro q2 (And.intro q3 q4)))
  clear q1 q2 q3 q4
  have n1 : ((N : Int) == 0) = false := beq_false_of_ne (by omega)
  have n2 : ¬ N = 0 := by omega
  have p0 : (0 : Int) ≤ (lf : Int) := by omega
  have p1 : (lf : Int) ≤ (cb : Int) := by omega
  have p2 : (0 : Int) ≤ (j : Int) := by omega
  have p3 : (j : Int) ≤ (ck : Int) := by have h1 := HCK.out; have h2 := HL.out; have h3 := HKN.out; omega
  have SX := Lib.hid (sl_take (n := lf) (show Sl w1 (.slice ab (encJ K).length cb) (encJ K) by rw [← HEL.out]; exact SE.out) (by rw [← HEL.out]; exact hlf))
  have DT := Lib.hid (decJ_torn (ks := K) (m := lf) (by have h1 := HL.out; have h2 := HKN.out; omega) HLT.out)
  rw [← hj] at DT
  have HXL : Hid (((encJ K).take lf).length ≤ 1000000) := by show _ ≤ _; rw [List.length_take]; have := HL.out; omega
  have HLK : Hid ((K.take j).length = j) := by show _ = _; rw [List.length_take]; have h1 := HL.out; have h2 := HKN.out; omega
  have UT := Lib.hid (ul_take (m := j) SK1.out (by have h1 := HL.out; have h2 := HKN.out; omega))
  clear hN hj hlf hcb2 SE
  generalize (encJ K).take lf = X at *
  have m1 := mul12 HL.out.1 HL.out.2
  obtain ⟨u1, u2, u3, u4, u5, u6, u7⟩ := HU.out
  obtain ⟨q1, q2, q3, q4⟩ := HQ.out
  go_wp2_with fail
  refine (DEC.out _ X w1 OK1.out SX.out HXL.out).mono ?_
  rintro e w2 ⟨⟨n, v2, rfl, hd, ho2⟩, hb2⟩
  obtain rfl : n = j := decJ_uniq hd DT.out.1
  rw [DT.out.2] at ho2
  have SG := Lib.hid (owu_ul ho2)
  obtain ⟨ag, cg, rfl⟩ := owu_form ho2
  rw [HLK.out] at SG ⊢
  have UT2 := Lib.hid (ul_below UT.out hb2)
  have B2 := Lib.hid (bt B1.out hb2)
  have OK2 := Lib.hid (ST.out _ _ OK1.out hb2)
  clear hd ho2 hb2 UT SK1 B1 OK1 DT
  go_wp2_with fail
  refine (rsame14_any _ _ _ _ w2 SG.out UT2.out).mono ?_
  rintro e w3 ⟨rfl, hb3⟩
  have B3 := Lib.hid (bt B2.out hb3)
  have OK3 := Lib.hid (ST.out _ _ OK2.out hb3)
  rw [decide_eq_true rfl]
  clear hb3 B2 OK2 SG UT2
  go_wp2_with fail
  refine (AW.out w3 OK3.out).mono ?_
  rintro e w4 ⟨rfl, hb4⟩
  go_wp2_with fail
  go_ret
  exact ⟨rfl, bt B3.out hb4⟩
end Go.Proofs.YtbkhedfhnmkodaaDoor.Gf
