/- What is proved here: the contract of made (layer 8). No condition. -/
import Derived.Test.YtihjfnlimdcmkaaDoorR8g
namespace Go.Proofs.YtihjfnlimdcmkaaDoor.Gf
open Go Go.Joins Go.ChangeShapes Go.WideShapes Go.ChangeAt Go.RowKit Go.Deep Go.Proofs.YtihjfnlimdcmkaaDoor.By

theorem and_low (r : Int) (k : Nat) (hk : k ≤ 32) : bits .and .i64 r ((2 : Int) ^ k - 1) = r % 2 ^ k := by
  have hp : (2 : Nat) ^ k ≤ 2 ^ 32 := Nat.pow_le_pow_right (by decide) hk
  have hp1 : 1 ≤ (2 : Nat) ^ k := Nat.one_le_two_pow
  have e0 : ((2 : Int) ^ k - 1) = ((2 ^ k - 1 : Nat) : Int) := by rw [Int.natCast_sub hp1]; simp
  have e1 : (BitVec.ofInt 64 r).toNat = (r % 18446744073709551616).toNat := by rw [BitVec.toNat_ofInt]; rfl
  have e2 : (BitVec.ofInt 64 ((2 : Int) ^ k - 1)).toNat = 2 ^ k - 1 := by
    rw [e0, BitVec.toNat_ofInt]
    omega
  have e3 : (BitVec.ofInt 64 r &&& BitVec.ofInt 64 ((2 : Int) ^ k - 1)).toNat = (r % 18446744073709551616).toNat % 2 ^ k := by rw [BitVec.toNat_and, e1, e2]; exact Nat.and_two_pow_sub_one_eq_mod _ k
  show IntKind.i64.wrap ((BitVec.ofInt 64 r &&& BitVec.ofInt 64 ((2 : Int) ^ k - 1)).toNat : Int) = _
  have hd : (2 : Int) ^ k ∣ 18446744073709551616 := by
    rw [show (18446744073709551616 : Int) = 2 ^ k * 2 ^ (64 - k) by rw [← Int.pow_add, show k + (64 - k) = 64 by omega]; rfl]
    exact Int.dvd_mul_right _ _
  have hc : ((2 : Int) ^ k) = ((2 ^ k : Nat) : Int) := by simp
  have e4 : (((r % 18446744073709551616).toNat % 2 ^ k : Nat) : Int) = r % 2 ^ k := by
    rw [Int.natCast_emod, Int.toNat_of_nonneg (by omega), ← hc, Int.emod_emod_of_dvd _ hd]
  have hb := Int.emod_lt_of_pos r (show (0 : Int) < 2 ^ k by rw [hc]; omega)
  have hb0 := Int.emod_nonneg r (show (2 : Int) ^ k ≠ 0 by rw [hc]; omega)
  rw [e3, e4, IntKind.wrap_i64]
  rw [hc] at hb hb0 ⊢
  generalize r % ((2 ^ k : Nat) : Int) = z at *
  omega
theorem cellsT_set : ∀ (L : List Itm) (i : Nat) (o z : Int), i < L.length → cellsT (L.set i { L.getD i z0 with off := o, sz := z }) = ((cellsT L).set (i * 4 + 2) (.int .i64 o)).set (i * 4 + 3) (.int .i64 z)
  | [], i, o, z, h => by simp at h
  | x :: L, 0, o, z, _ => by
    rw [List.set_cons_zero, cellsT_cons, cellsT_cons]
    rfl
  | x :: L, i + 1, o, z, h => by
    have ih := cellsT_set L i o z (by simpa using h)
    rw [List.set_cons_succ, cellsT_cons, cellsT_cons]
    have e1 : (itV x ++ cellsT L).set ((i + 1) * 4 + 2) (.int .i64 o) = itV x ++ (cellsT L).set (i * 4 + 2) (.int .i64 o) := by
      rw [List.set_append_right _ _ (by simp [itV]; omega), show (i + 1) * 4 + 2 - (itV x).length = i * 4 + 2 by simp [itV]; omega]
    have e2 : (itV x ++ (cellsT L).set (i * 4 + 2) (.int .i64 o)).set ((i + 1) * 4 + 3) (.int .i64 z) = itV x ++ ((cellsT L).set (i * 4 + 2) (.int .i64 o)).set (i * 4 + 3) (.int .i64 z) := by
      rw [List.set_append_right _ _ (by simp [itV]; omega), show (i + 1) * 4 + 3 - (itV x).length = i * 4 + 3 by simp [itV]; omega]
    rw [e1, e2, ← ih]
    rfl
theorem owT_fix {w : World} {base g n cap i : Nat} {L : List Itm} (h : OwT w base (.slice (some ⟨g, 0, none⟩) n cap) L) (hi : i < L.length) (o z : Int) (jo : J64 o) (jz : J64 z) : OwT ((w.setCell ⟨g, i * 4 + 2, none⟩ (.int .i64 o)).setCell ⟨g, i * 4 + 3, none⟩ (.int .i64 z)) base (.slice (some ⟨g, 0, none⟩) n cap) (L.set i { L.getD i z0 with off := o, sz := z }) := by
  obtain ⟨h0, h1, ⟨h2, h3⟩ | ⟨g', cap', cur, h2, hg, hb, hn, hm, hsz, ht⟩⟩ := h
  · simp at h2
  · obtain ⟨rfl, rfl, rfl⟩ : g = g' ∧ n = L.length ∧ cap = cap' := by simpa using h2
    have s1 := heap_setCell_same w g (i * 4 + 2) _ _ (.int .i64 o) hb
    have s2 := heap_setCell_same _ g (i * 4 + 3) _ _ (.int .i64 z) s1
    refine ⟨fun y hy => ?_, by rw [cellsT_length], Or.inr ⟨g, cap, _, by rw [List.length_set], hg, s2, by rw [List.length_set]; exact hn, hm, by simp [hsz], ?_⟩⟩
    · rcases List.mem_or_eq_of_mem_set hy with hy | rfl
      · exact h0 y hy
      · have := getT_ok h0 i
        exact ⟨this.key, this.ck, jo, jz⟩
    · rw [List.length_set, cellsT_set L i o z hi, ← ht]
      simp [List.take_set]
theorem owT_frozen {w : World} {base g n cap : Nat} {L : List Itm} (h : OwT w base (.slice (some ⟨g, 0, none⟩) n cap) L) (k : Nat) : w.frozen? ⟨g, k, none⟩ = false := by
  obtain ⟨h0, h1, ⟨h2, h3⟩ | ⟨g', cap', cur, h2, hg, hb, hn, hm, hsz, ht⟩⟩ := h
  · simp at h2
  · obtain ⟨rfl, -⟩ : g = g' ∧ n = L.length ∧ cap = cap' := by simpa using h2
    exact frozen_of_row w g k _ _ hb
def midL (S : List Itm) (i : Nat) : List Itm := (S.take i).map fixI ++ S.drop i
theorem midL_length (S : List Itm) (i : Nat) (h : i ≤ S.length) : (midL S i).length = S.length := by
  unfold midL
  rw [List.length_append, List.length_map, List.length_take, List.length_drop]
  omega
theorem midL_at {S : List Itm} {i : Nat} (h : i < S.length) : (midL S i).getD i z0 = S.getD i z0 := by
  unfold midL
  have hl : ((S.take i).map fixI).length = i := by rw [List.length_map, List.length_take]; omega
  rw [List.getD_eq_getElem?_getD, List.getElem?_append_right (Nat.le_of_eq hl), hl, Nat.sub_self, List.getElem?_drop, Nat.add_zero, List.getD_eq_getElem?_getD]
theorem midL_succ {S : List Itm} {i : Nat} (h : i < S.length) : (midL S i).set i (fixI (S.getD i z0)) = midL S (i + 1) := by
  unfold midL
  have hl : ((S.take i).map fixI).length = i := by rw [List.length_map, List.length_take]; omega
  have hd : S.drop i = S[i] :: S.drop (i + 1) := List.drop_eq_getElem_cons h
  rw [List.set_append_right _ _ (Nat.le_of_eq hl), hl, Nat.sub_self, take_snocT h, List.map_append, hd, List.set_cons_zero, List.map_singleton, List.append_assoc]
  rfl
set_option maxRecDepth 100000 in
set_option maxHeartbeats 6400000 in
theorem made_any (v : Value) (L : List Itm) (w : World) (s : It w v L) : Calls Tryd.prog 14 #[v] w (LO w (madeL L)) := by
  unfold LO
  have CT := Lib.hid (cut8_any v L w s)
  have RS := Lib.hid (fun v' (h : It w v' (L.take 40)) => rsorted_any v' _ w h (by rw [List.length_take]; omega))
  rw [show madeL L = midL (sortL (L.take 40)) (sortL (L.take 40)).length by unfold madeL midL; simp]
  generalize L.take 40 = M at *
  obtain ⟨al, cl, rfl, -, -⟩ := it_form s
  generalize L.length = n0 at *
  clear s
  go_enter Tryd.func14, Tryd.ntmps14
  go_wp2_with fail
  refine CT.out.mono ?_
  rintro e w1 ⟨⟨v1, rfl, hs1⟩, rfl⟩
  have RS1 := Lib.hid (RS.out v1 hs1)
  obtain ⟨a1, c1, rfl, -, -⟩ := it_form hs1
  generalize M.length = n1 at *
  clear hs1 RS CT
  go_wp2_with fail
  refine RS1.out.mono ?_
  rintro e w2 ⟨⟨v2, rfl, ho2⟩, hb2⟩
  obtain ⟨a2, c2, rfl, -, hcm⟩ := owT_form ho2
  obtain ⟨n, hn⟩ : ∃ n, n = (sortL M).length := ⟨_, rfl⟩
  obtain ⟨S, hS⟩ : ∃ S, S = sortL M := ⟨_, rfl⟩
  rw [← hn] at ho2
  rw [← hS] at ho2 hn
  have N := Lib.hid hn
  have HS := Lib.hid hS
  have O2 := Lib.hid ho2
  have B2 := Lib.hid hb2
  have hnb : n ≤ 9223372036854775807 := by
    obtain ⟨_, _, _, h1, h2⟩ := owT_form ho2
    unfold maxLen at h2
    omega
  rw [← hS, ← hn]
  clear ho2 hb2 RS1 hS hn hcm
  go_wp2_with fail
  go_loopw [10] (fun t wr => ∃ i : Nat, i ≤ n ∧ t = .int .i64 (i : Int) ∧ OwT wr w.heap.size (.slice a2 n c2) (midL S i) ∧ Below w.heap.size w wr) (fun t _ => n - (intOf t).toNat)
  case atStart => exact ⟨0, by omega, rfl, by simpa [midL] using O2.out, B2.out⟩
  case round =>
    obtain ⟨i, hi, rfl, ho, hB⟩ := hrel
    by_cases hin : i < n
    · have hl4 : decide ((i : Int) < (n : Int)) = true := decide_eq_true (by omega)
      have p0 : (0 : Int) ≤ (i : Int) := by omega
      have p1 : (i : Int) < (n : Int) := by omega
      have N' := N.out
      rcases owT_addr ho with ⟨rfl, h0, -⟩ | ⟨g, rfl⟩
      · omega
      have hml := midL_length S i (by omega)
      obtain ⟨b1, o1, c1', hv1, -, -, hk1⟩ := it_cells (owT_it ho) (by omega)
      obtain ⟨⟨rfl, rfl⟩, -⟩ : (g = b1 ∧ 0 = o1) ∧ n = (midL S i).length ∧ c2 = c1' := by simpa using hv1
      have k1 := hk1 i (by omega)
      rw [midL_at (by omega), Nat.zero_add] at k1
      obtain ⟨f0, f1, f2, f3⟩ := k1
      have z2 := owT_frozen ho (i * 4 + 2)
      have z3 := owT_frozen ho (i * 4 + 3)
      have hgb := (owT_lt ho g rfl).1
      have hfx := owT_fix ho (by omega : i < (midL S i).length) (16 + 8 * ((S.getD i z0).off % 4096)) ((S.getD i z0).sz % 4096) (by unfold J64; have := Int.emod_nonneg (S.getD i z0).off (show (4096 : Int) ≠ 0 by decide); have := Int.emod_lt_of_pos (S.getD i z0).off (show (0 : Int) < 4096 by decide); omega) (by unfold J64; have := Int.emod_nonneg (S.getD i z0).sz (show (4096 : Int) ≠ 0 by decide); have := Int.emod_lt_of_pos (S.getD i z0).sz (show (0 : Int) < 4096 by decide); omega)
      rw [midL_at (by omega), show ({ S.getD i z0 with off := 16 + 8 * ((S.getD i z0).off % 4096), sz := (S.getD i z0).sz % 4096 } : Itm) = fixI (S.getD i z0) from rfl, midL_succ (by omega)] at hfx
      have a1 : bits .and .i64 (S.getD i z0).off 4095 = (S.getD i z0).off % 4096 := and_low _ 12 (by omega)
      have a2 : bits .and .i64 (S.getD i z0).sz 4095 = (S.getD i z0).sz % 4096 := and_low _ 12 (by omega)
      have hb1 := Int.emod_nonneg (S.getD i z0).off (show (4096 : Int) ≠ 0 by decide)
      have hb2 := Int.emod_lt_of_pos (S.getD i z0).off (show (0 : Int) < 4096 by decide)
      generalize (S.getD i z0).off % 4096 = A at *
      generalize (S.getD i z0).sz % 4096 = Z at *
      generalize S.getD i z0 = x at *
      have HFX := Lib.hid hfx
      have HB3 := Lib.hid ((hB.setCell (p := ⟨g, i * 4 + 2, none⟩) hgb (.int .i64 (16 + 8 * A))).setCell (p := ⟨g, i * 4 + 3, none⟩) hgb (.int .i64 Z))
      have c1 : wrap64 (8 * A) = 8 * A := by unfold wrap64; omega
      have c2 : wrap64 (16 + 8 * A) = 16 + 8 * A := by unfold wrap64; omega
      clear hk1 hv1 N' ho hB hfx hgb hml
      go_wp2
      go_roundw
      case rel => exact ⟨i + 1, by omega, by go_num, HFX.out, HB3.out⟩
      case measure => simp [intOf]; omega
    · obtain rfl : i = n := by omega
      have hl4 : decide ((i : Int) < (i : Int)) = false := decide_eq_false (by omega)
      have HO := Lib.hid ho
      have HB := Lib.hid hB
      clear ho hB
      go_wp2
      go_ret
      exact ⟨⟨_, rfl, by rw [← HS.out, ← N.out]; exact HO.out⟩, HB.out⟩
end Go.Proofs.YtihjfnlimdcmkaaDoor.Gf
