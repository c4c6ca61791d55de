/- What is proved here: the contracts of Encode and Verify, of the program and of the reference. the contracts of Verify, of the program and of the reference. slices of bools, and the contract of present. the contract of Restore. what the reference's Restore computes; a law for regions whose head reads. Condition: rows of at most 1,000,000 bytes. -/
import Derived.Test.YtppfdaiehdbafaaT4a
namespace Go.Proofs.Ytppfdaiehdbafaa.Gf
open Go Go.ChangeShapes Go.WideShapes Go.ChangeAt Go.RowKit Go.Sort Go.Proofs.Ytppfdaiehdbafaa.By Go.Proofs.Ytppfdaiehdbafaa.Qt

theorem sr_nil (w : World) : Sr w (.slice none 0 0) [] := ⟨by simp, Or.inl ⟨none, 0, rfl, rfl, by simp⟩⟩
theorem sr_byt {w : World} {v : Value} {L : List (List Nat)} (s : Sr w v L) (k q : Nat) : (L.getD k []).getD q 0 < 256 := by
  by_cases hk : k < L.length
  · obtain ⟨b, o, cap, rfl, _, _, k1⟩ := sr_cells s (by omega)
    obtain ⟨x, _, hs⟩ := k1 k hk
    exact getD_lt hs.1 q
  · rw [getD_outL (by omega)]
    simp
theorem lev_lv {n : Nat} {w : World} {v : Value} {L : List (List Nat)} (s : Sr w v L) (h : Lev L n) : Lv n (L.getD 0 []).length L where
  len := h.1
  row := fun j hj => h.2 j (by rw [h.1]; exact hj)
  byt := sr_byt s
theorem lv_lev {n m : Nat} {L : List (List Nat)} (h : Lv n m L) : Lev L n := ⟨h.len, fun k hk => by rw [h.len] at hk; rw [h.row k hk, h.row 0 (by omega)]⟩
theorem sr_take {w : World} {a : Option Addr} {n k cap : Nat} {L : List (List Nat)} (h : Sr w (.slice a n cap) L) (hk : 1 ≤ k ∧ k ≤ n) : Sr w (.slice a k cap) (L.take k) := by
  obtain ⟨a0, cap0, e0, -, -⟩ := sr_form h
  obtain ⟨rfl, rfl, rfl⟩ : a = a0 ∧ n = L.length ∧ cap = cap0 := by simpa using e0
  obtain ⟨b, o, cap, e1, h1, h2, k1⟩ := sr_cells h (by omega)
  have e2 : (L.take k).length = k := by rw [List.length_take]; omega
  obtain ⟨rfl, -, rfl⟩ : a = some ⟨b, o, none⟩ ∧ L.length = L.length ∧ _ = cap := by simpa using e1
  refine ⟨by rw [e2]; have := h.1; omega, Or.inr ⟨b, o, _, by rw [e2], by omega, h2, fun i hi => ?_⟩⟩
  rw [e2] at hi
  obtain ⟨x, hx, hs⟩ := k1 i (by omega)
  refine ⟨x, hx, ?_⟩
  have e3 : (L.take k).getD i [] = L.getD i [] := by simp [List.getD, hi]
  rw [e3]
  exact hs
theorem sr_drop {w : World} {b o n k cap : Nat} {L : List (List Nat)} (h : Sr w (.slice (some ⟨b, o, none⟩) n cap) L) (hk : k < n) : Sr w (.slice (some ⟨b, o + k, none⟩) (n - k) (cap - k)) (L.drop k) := by
  obtain ⟨a0, cap0, e0, -, -⟩ := sr_form h
  obtain ⟨-, rfl, -⟩ : some (⟨b, o, none⟩ : Addr) = a0 ∧ n = L.length ∧ cap = cap0 := by simpa using e0
  obtain ⟨b', o', cap', e1, h1, h2, k1⟩ := sr_cells h (by omega)
  obtain ⟨⟨rfl, rfl⟩, rfl⟩ : (b = b' ∧ o = o') ∧ cap = cap' := by simpa using e1
  have e2 : (L.drop k).length = L.length - k := List.length_drop
  refine ⟨by rw [e2]; have := h.1; omega, Or.inr ⟨b, o + k, _, by rw [e2], by omega, by omega, fun i hi => ?_⟩⟩
  rw [e2] at hi
  obtain ⟨x, hx, hs⟩ := k1 (k + i) (by omega)
  refine ⟨x, by rw [Nat.add_assoc]; exact hx, ?_⟩
  have e3 : (L.drop k).getD i [] = L.getD (k + i) [] := by simp [List.getD, List.getElem?_drop]
  rw [e3]
  exact hs
/-- What a call answers: rows and an error. -/
def EP (w : World) (L : List (List Nat)) (err : Int) (e : Ending) (w' : World) : Prop := (∃ v, e = .returned (.tuple #[v, .int .i64 err]) ∧ Sr w' v L) ∧ Below w.heap.size w w'
def Small (L : List (List Nat)) : Prop := ∀ k, (L.getD k []).length ≤ 1000000
def wid (L : List (List Nat)) : Nat := (L.getD 0 []).length
def encL (L : List (List Nat)) : List (List Nat) := if Lev L 4 then encW L (wid L) else []
def encE (L : List (List Nat)) : Int := if Lev L 4 then 0 else 1
def Pd (i k : Nat) : Nat := Cd (i + 4) k
theorem c_pick2 (W : World) (v1 v2 : Value) (s1 : Sl W v1 (flat 6 4 Cd)) (s2 : Si W v2 (zi [4, 5])) : Calls Try.prog 13 #[mv 6 4 v1, v2] W (MS W 2 4 (flat 2 4 Pd) 0) := by
  have h := c_pick Cd (n := 2) (rs := [4, 5]) rfl (by decide) (by decide) W v1 v2 s1 s2
  have e1 : flat 2 4 (fun i k => Cd ([4, 5].getD i 0) k) = flat 2 4 Pd := flat_ext fun i hi k _ => by
    match i, hi with
    | 0, _ => rfl
    | 1, _ => rfl
  rw [e1] at h
  exact h
theorem c_encode (W : World) (v1 v2 : Value) (L : List (List Nat)) (s1 : Sl W v1 (flat 2 4 Pd)) (s2 : Sr W v2 L) (hm : Small L) : Calls Try.prog 39 #[mv 2 4 v1, v2] W (EP W (encL L) (encE L)) :=
  (applyP_any 2 4 v1 v2 _ L W s1 s2 fun k _ => hm k).mono fun e w' h => by
    unfold encL encE
    by_cases hl : Lev L 4
    · rw [if_pos hl, if_pos hl]
      exact apply_use (a := 2) (b := 4) Pd (by decide) (by decide) (lev_lv s2 hl) h
    · rw [if_neg hl, if_neg hl]
      obtain ⟨he, hb⟩ := apply_bad (a := 2) (b := 4) (fun ⟨m, h1, h2⟩ => hl ⟨h1, fun k hk => by rw [h2 k (by omega), h2 0 (by omega)]⟩) h
      exact ⟨⟨_, he, sr_nil _⟩, hb⟩
set_option maxRecDepth 100000 in
set_option maxHeartbeats 6400000 in
theorem encode_any (v : Value) (L : List (List Nat)) (w : World) (s : Sr w v L) (hm : Small L) : Calls Try.prog 18 #[v] w (EP w (encL L) (encE L)) := by
  obtain ⟨E, hE⟩ : ∃ E, E = encE L := ⟨_, rfl⟩
  have CE := Lib.hid (fun W v1 v2 s1 s2 => c_encode W v1 v2 L s1 s2 hm)
  rw [← hE] at CE ⊢
  have S := Lib.hid s
  have B := Lib.hid (Below.refl w.heap.size w)
  clear s hm hE
  unfold EP
  go_enter Try.func18, Try.ntmps18
  go_wp2_with fail
  refine (code_any w).mono ?_
  unfold CM mv
  rintro e w1 ⟨⟨s1, rfl, hs1⟩, hb1⟩
  have S1 := Lib.hid hs1
  clear hs1
  have tS := sr_below S.out hb1
  clear S
  have S := Lib.hid tS
  clear tS
  have tB := bt B.out hb1
  clear B
  have B := Lib.hid tB
  clear tB
  clear hb1
  have I : Hid (Si (w1.alloc (.cells #[.int .i64 4, .int .i64 5] 3)) (.slice (some ⟨w1.heap.size, 0, none⟩) 2 2) (zi [4, 5])) := si_block (by decide) rfl (by unfold maxLen; decide) rfl (heap_alloc_new w1 _)
  have al1 := (Below.refl (w1).heap.size (w1)).alloc (Nat.le_refl _) (.cells #[.int .i64 4, .int .i64 5] 3)
  have tS := sr_below S.out al1
  clear S
  have S := Lib.hid tS
  clear tS
  have tS1 := sl_below S1.out al1
  clear S1
  have S1 := Lib.hid tS1
  clear tS1
  have tB := bt B.out al1
  clear B
  have B := Lib.hid tB
  clear tB
  clear al1
  go_wp2_with fail
  generalize w1.alloc (.cells #[.int .i64 4, .int .i64 5] 3) = Y1 at *
  refine (c_pick2 Y1 _ _ S1.out I.out).mono ?_
  unfold MS mv
  rintro e w2 ⟨⟨s2, rfl, hs2⟩, hb2⟩
  obtain ⟨a2, c2, hv2, -, -⟩ := sl_form hs2
  obtain ⟨n2, hn2⟩ : ∃ n, n = (flat 2 4 Pd).length := ⟨_, rfl⟩
  rw [← hn2] at hv2
  subst hv2
  clear hn2
  have tnew : MB (w2.alloc (.cells #[.int .i64 2, .int .i64 4, .slice a2 n2 c2] 24)) 24 w2.heap.size 2 4 a2 n2 c2 (flat 2 4 Pd) := MB.mk' hs2
  clear hs2
  have tS := sr_below S.out hb2
  clear S
  have S := Lib.hid tS
  clear tS
  have tS1 := sl_below S1.out hb2
  clear S1
  have S1 := Lib.hid tS1
  clear tS1
  have tB := bt B.out hb2
  clear B
  have B := Lib.hid tB
  clear tB
  clear hb2
  have al2 := (Below.refl w2.heap.size w2).alloc (Nat.le_refl _) (.cells #[.int .i64 2, .int .i64 4, .slice a2 n2 c2] 24)
  have tS := sr_below S.out al2
  clear S
  have S := Lib.hid tS
  clear tS
  have tS1 := sl_below S1.out al2
  clear S1
  have S1 := Lib.hid tS1
  clear tS1
  have tB := bt B.out al2
  clear B
  have B := Lib.hid tB
  clear tB
  clear al2
  have Pm := Lib.hid tnew
  clear tnew
  obtain ⟨Pmc0, Pmc1, Pmc2⟩ := Pm.out.cells
  go_wp2_with fail
  have hz2 : (w2.alloc (.cells #[.int .i64 2, .int .i64 4, .slice a2 n2 c2] 24)).heap.size = w2.heap.size + 1 := by simp
  have HZ2 := Lib.hid hz2
  clear hz2
  generalize w2.alloc (.cells #[.int .i64 2, .int .i64 4, .slice a2 n2 c2] 24) = W2 at *
  clear Pmc0 Pmc1 Pmc2
  refine (CE.out W2 _ _ Pm.out.sl S.out).mono ?_
  unfold EP
  rintro e w9 ⟨⟨v9, rfl, hs9⟩, hb9⟩
  have hb := bt B.out hb9
  go_wp2_with fail
  go_ret2
  exact ⟨⟨_, rfl, hs9⟩, hb⟩
set_option maxRecDepth 100000 in
set_option maxHeartbeats 6400000 in
theorem rall_any (v : Value) (L : List (List Nat)) (w : World) (s : Sr w v L) (hm : Small L) (hl : Lev L 4) : Calls Try.prog 41 #[v] w fun e w' => (∃ v, e = .returned v ∧ Sr w' v (restW [0, 1, 2, 3] L (wid L))) ∧ Below w.heap.size w w' := by
  have CA := Lib.hid (fun W v1 v2 s1 s2 => r_apply (a := 6) (b := 4) Cd (by decide) (by decide) W v1 v2 L s1 s2 (lev_lv s hl) (hm 0))
  obtain ⟨X, hX⟩ : ∃ X, X = restW [0, 1, 2, 3] L (wid L) := ⟨_, rfl⟩
  have hX2 : appR 6 4 Cd L (L.getD 0 []).length = X := hX.symm
  rw [hX2] at CA
  rw [← hX]
  have S := Lib.hid s
  clear s hm hl hX hX2
  go_enter Try.func41, Try.ntmps41
  go_wp2_with fail
  refine (rcode_any w).mono ?_
  unfold CM mv
  rintro e w1 ⟨⟨s1, rfl, hs1⟩, hb1⟩
  have hs := sr_below S.out hb1
  have S2 := Lib.hid hs
  have S1 := Lib.hid hs1
  clear hs hs1 S
  go_wp2_with fail
  refine (CA.out w1 _ _ S1.out S2.out).mono ?_
  unfold AS
  rintro e w9 ⟨⟨v9, rfl, hs9⟩, hb9⟩
  have hb := bt hb1 hb9
  go_wp2_with fail
  go_ret
  exact ⟨⟨_, rfl, hs9⟩, hb⟩
set_option maxRecDepth 100000 in
set_option maxHeartbeats 6400000 in
theorem rencode_any (v : Value) (L : List (List Nat)) (w : World) (s : Sr w v L) (hm : Small L) : Calls Try.prog 19 #[v] w (EP w (encL L) (encE L)) := by
  have LV := fun W s => level_any v L 4 (by decide) W s
  unfold encL encE
  by_cases hl : Lev L 4
  · rw [if_pos hl, if_pos hl]
    rw [decide_eq_true hl] at LV
    have RA := Lib.hid (fun W s => rall_any v L W s hm hl)
    have hX := enc_drop L (wid L)
    have hX2 : (restW [0, 1, 2, 3] L (wid L)).length = 6 := rest_length ..
    generalize encW L (wid L) = X at *
    generalize restW [0, 1, 2, 3] L (wid L) = Y at *
    subst hX
    have LV := Lib.hid LV
    have S := Lib.hid s
    have HY := Lib.hid hX2
    clear s hm hl hX2
    unfold EP
    go_enter Try.func19, Try.ntmps19
    go_wp2_with fail
    refine (LV.out w S.out).mono ?_
    rintro e w1 ⟨rfl, hb1⟩
    have hs := sr_below S.out hb1
    go_wp2_with fail
    refine (RA.out w1 hs).mono ?_
    rintro e w2 ⟨⟨v2, rfl, hs2⟩, hb2⟩
    obtain ⟨b, o, cap, rfl, d1, d2, -⟩ := sr_cells hs2 (by rw [HY.out]; decide)
    rw [HY.out] at d1 hs2 ⊢
    have hd := sr_drop (k := 4) hs2 (by decide)
    have HD := Lib.hid hd
    have B := Lib.hid (bt hb1 hb2)
    unfold maxLen at d2
    clear hs hs2 hd hb1 hb2
    go_wp2_with fail
    go_ret2
    exact ⟨⟨_, rfl, HD.out⟩, B.out⟩
  · rw [if_neg hl, if_neg hl]
    rw [decide_eq_false hl] at LV
    have LV := Lib.hid LV
    have S := Lib.hid s
    clear s hm hl
    unfold EP
    go_enter Try.func19, Try.ntmps19
    go_wp2_with fail
    refine (LV.out w S.out).mono ?_
    rintro e w1 ⟨rfl, hb1⟩
    go_wp2_with fail
    go_ret2
    exact ⟨⟨_, rfl, sr_nil _⟩, hb1⟩
end Go.Proofs.Ytppfdaiehdbafaa.Gf
namespace Go.Proofs.Ytppfdaiehdbafaa.Gf
open Go Go.ChangeShapes Go.WideShapes Go.ChangeAt Go.RowKit Go.Sort Go.Proofs.Ytppfdaiehdbafaa.By Go.Proofs.Ytppfdaiehdbafaa.Qt

def Ver (S : List (List Nat)) : Prop := Lev S 6 ∧ encW (S.take 4) (wid S) = S.drop 4
instance (S : List (List Nat)) : Decidable (Ver S) := by unfold Ver; infer_instance
theorem getD_take4 {S : List (List Nat)} {n k : Nat} (hk : k < n) : (S.take n).getD k [] = S.getD k [] := by simp [List.getD, hk]
theorem getD_drop4 (S : List (List Nat)) (n k : Nat) : (S.drop n).getD k [] = S.getD (n + k) [] := by simp [List.getD, List.getElem?_drop]
theorem wid_take (S : List (List Nat)) : wid (S.take 4) = wid S := by unfold wid; rw [getD_take4 (by decide)]
theorem small_take {S : List (List Nat)} (h : Small S) (n : Nat) : Small (S.take n) := fun k => by
  by_cases hk : k < n
  · rw [getD_take4 hk]
    exact h k
  · rw [getD_outL (by rw [List.length_take]; omega)]
    simp
theorem small_drop {S : List (List Nat)} (h : Small S) (n : Nat) : Small (S.drop n) := fun k => by
  rw [getD_drop4]
  exact h _
theorem lev_take {S : List (List Nat)} (h : Lev S 6) : Lev (S.take 4) 4 := by
  have e1 : (S.take 4).length = 4 := by rw [List.length_take, h.1]; rfl
  refine ⟨e1, fun k hk => ?_⟩
  rw [e1] at hk
  rw [getD_take4 hk, getD_take4 (by decide)]
  exact h.2 k (by rw [h.1]; omega)
theorem ver_iff {S : List (List Nat)} (h6 : S.length = 6) (h4 : Lev (S.take 4) 4) (hb : ∀ k q, (S.getD k []).getD q 0 < 256) : Ver S ↔ encW (S.take 4) (wid S) = S.drop 4 := by
  refine ⟨fun h => h.2, fun h => ⟨⟨h6, fun k hk => ?_⟩, h⟩⟩
  have hl : Lv 4 (wid S) (S.take 4) := ⟨h4.1, fun j hj => by
    have := h4.2 j (by rw [h4.1]; exact hj)
    rw [this, getD_take4 (by decide)]
    rfl, fun k q => by
    by_cases hk : k < 4
    · rw [getD_take4 hk]
      exact hb k q
    · rw [getD_outL (by rw [h4.1]; omega)]
      simp⟩
  show (S.getD k []).length = wid S
  by_cases hk4 : k < 4
  · have := hl.row k hk4
    rwa [getD_take4 hk4] at this
  · have h2 : Lv 2 (wid S) (encW (S.take 4) (wid S)) := appR_lv (fun i hi k hk => bd_vx [0, 1, 2, 3] (i + 4) (by omega) k hk) hl
    have h3 := h2.row (k - 4) (by omega)
    rw [h, getD_drop4, show 4 + (k - 4) = k by omega] at h3
    exact h3
theorem ver_code {S : List (List Nat)} (hb : ∀ k q, (S.getD k []).getD q 0 < 256) : Ver S ↔ ∃ m, Code6 m S := by
  constructor
  · intro h
    have hl : Lv 6 (wid S) S := ⟨h.1.1, fun j hj => h.1.2 j (by rw [h.1.1]; exact hj), hb⟩
    exact ⟨_, (code_iff hl).2 h.2⟩
  · rintro ⟨m, h⟩
    have hl := code_lv h
    have hw : wid S = m := hl.row 0 (by decide)
    refine ⟨lv_lev hl, ?_⟩
    rw [hw]
    exact (code_iff hl).1 h
set_option maxRecDepth 100000 in
set_option maxHeartbeats 6400000 in
theorem verify_bad (a : Option Addr) (n cap : Nat) (w : World) (h : n ≠ 6) : Calls Try.prog 21 #[.slice a n cap] w fun e w' => e = .returned (.bool false) ∧ Below w.heap.size w w' := by
  have h2 : ((n : Int) != 6) = true := by rw [bne_iff_ne]; omega
  clear h
  go_enter Try.func21, Try.ntmps21
  go_wp2
  go_ret
  exact ⟨rfl, Below.refl _ _⟩
set_option maxRecDepth 100000 in
set_option maxHeartbeats 6400000 in
theorem verify_any (v : Value) (S : List (List Nat)) (w : World) (s : Sr w v S) (hm : Small S) : Calls Try.prog 21 #[v] w fun e w' => e = .returned (.bool (decide (Ver S))) ∧ Below w.heap.size w w' := by
  by_cases h6 : S.length = 6
  · obtain ⟨b, o, cap, rfl, d1, d2, -⟩ := sr_cells s (by omega)
    rw [h6] at s d1 ⊢
    have hbt := sr_byt s
    have st := sr_take (k := 4) s (by decide)
    have sd := sr_drop (k := 4) s (by decide)
    have en := fun W s => encode_any (.slice (some ⟨b, o, none⟩) 4 cap) (S.take 4) W s (small_take hm 4)
    unfold maxLen at d2
    by_cases hl : Lev (S.take 4) 4
    · unfold encL encE at en
      rw [if_pos hl, if_pos hl, wid_take] at en
      rw [show decide (Ver S) = decide (encW (S.take 4) (wid S) = S.drop 4) from by rw [decide_eq_decide]; exact ver_iff h6 hl hbt]
      have e2 : (encW (S.take 4) (wid S)).length = 2 := appR_length ..
      have e3 : (S.drop 4).length = 2 := by rw [List.length_drop, h6]
      generalize encW (S.take 4) (wid S) = X at *
      generalize S.drop 4 = Y at *
      have EN := Lib.hid en
      have ST := Lib.hid st
      have SD := Lib.hid sd
      have E2 := Lib.hid e2
      have E3 := Lib.hid e3
      clear s hm h6 hbt st sd en hl e2 e3
      go_enter Try.func21, Try.ntmps21
      go_wp2_with fail
      refine (EN.out w ST.out).mono ?_
      unfold EP
      rintro e w1 ⟨⟨v1, rfl, hs1⟩, hb1⟩
      have hq := eqf_two v1 _ X Y w1 E2.out E3.out hs1 (sr_below SD.out hb1)
      have HQ := Lib.hid hq
      have B := Lib.hid hb1
      clear hs1 hb1 hq
      go_wp2_with (go_at_call 42; refine HQ.out.mono ?_; rintro e w' ⟨rfl, rfl⟩)
      go_ret
      exact ⟨rfl, B.out⟩
    · unfold encL encE at en
      rw [if_neg hl, if_neg hl] at en
      rw [decide_eq_false (show ¬ Ver S from fun h => hl (lev_take h.1))]
      have EN := Lib.hid en
      have ST := Lib.hid st
      clear s hm h6 hbt st sd en hl
      go_enter Try.func21, Try.ntmps21
      go_wp2_with fail
      refine (EN.out w ST.out).mono ?_
      unfold EP
      rintro e w1 ⟨⟨v1, rfl, hs1⟩, hb1⟩
      go_wp2_with fail
      go_ret
      exact ⟨rfl, hb1⟩
  · obtain ⟨a, cap, rfl, -, -⟩ := sr_form s
    rw [decide_eq_false (show ¬ Ver S from fun h => h6 h.1.1)]
    exact verify_bad a _ cap w h6
set_option maxRecDepth 100000 in
set_option maxHeartbeats 6400000 in
theorem rverify_any (v : Value) (S : List (List Nat)) (w : World) (s : Sr w v S) (hm : Small S) : Calls Try.prog 22 #[v] w fun e w' => e = .returned (.bool (decide (Ver S))) ∧ Below w.heap.size w w' := by
  have LV := fun W s => level_any v S 6 (by decide) W s
  by_cases hl : Lev S 6
  · rw [decide_eq_true hl] at LV
    have h4 := lev_take hl
    have ra := fun a W s => rall_any a (S.take 4) W s (small_take hm 4) h4
    rw [wid_take] at ra
    have hlv := lev_lv s hl
    have hv : decide (Ver S) = decide (restW [0, 1, 2, 3] (S.take 4) (wid S) = S) := by
      rw [decide_eq_decide]
      have h1 := rest_pick (m := wid S) good_first (lv_take hlv)
      rw [first4 (rest_length ..)] at h1
      have h3 := List.take_append_drop 4 (restW [0, 1, 2, 3] (S.take 4) (wid S))
      rw [h1, enc_drop] at h3
      constructor
      · intro h
        rw [h.2, List.take_append_drop] at h3
        exact h3.symm
      · intro h
        rw [ver_iff hl.1 h4 (sr_byt s), ← enc_drop, h]
    rw [hv]
    obtain ⟨b, o, cap, rfl, d1, d2, -⟩ := sr_cells s (by rw [hl.1]; decide)
    rw [hl.1] at s d1 LV ⊢
    have st := sr_take (k := 4) s (by decide)
    unfold maxLen at d2
    generalize restW [0, 1, 2, 3] (S.take 4) (wid S) = X at *
    have RA := Lib.hid (ra (.slice (some ⟨b, o, none⟩) 4 cap))
    have ST := Lib.hid st
    have SS := Lib.hid s
    have LV := Lib.hid LV
    clear hm hl h4 ra hlv hv s st
    go_enter Try.func22, Try.ntmps22
    go_wp2_with fail
    refine (LV.out w SS.out).mono ?_
    rintro e w1 ⟨rfl, hb1⟩
    have s1 := Lib.hid (sr_below SS.out hb1)
    have t1 := Lib.hid (sr_below ST.out hb1)
    have B1 := Lib.hid hb1
    clear SS ST hb1
    go_wp2_with fail
    refine (RA.out w1 t1.out).mono ?_
    rintro e w2 ⟨⟨v2, rfl, hs2⟩, hb2⟩
    have B2 := Lib.hid (bt B1.out hb2)
    have s2 := Lib.hid (sr_below s1.out hb2)
    have H2 := Lib.hid hs2
    clear hb2 hs2 B1
    go_wp2_with fail
    refine (rsame_any v2 _ X S w2 H2.out s2.out).mono ?_
    rintro e w3 ⟨rfl, hb3⟩
    have B3 := Lib.hid (bt B2.out hb3)
    clear hb3
    go_wp2_with fail
    go_ret
    exact ⟨rfl, B3.out⟩
  · rw [decide_eq_false hl] at LV
    rw [decide_eq_false (show ¬ Ver S from fun h => hl h.1)]
    have LV := Lib.hid LV
    have SS := Lib.hid s
    clear hm hl s
    go_enter Try.func22, Try.ntmps22
    go_wp2_with fail
    refine (LV.out w SS.out).mono ?_
    rintro e w1 ⟨rfl, hb1⟩
    go_wp2_with fail
    go_ret
    exact ⟨rfl, hb1⟩
end Go.Proofs.Ytppfdaiehdbafaa.Gf
namespace Go.Proofs.Ytppfdaiehdbafaa.Gf
open Go Go.ChangeShapes Go.WideShapes Go.ChangeAt Go.RowKit Go.Sort Go.Proofs.Ytppfdaiehdbafaa.By Go.Proofs.Ytppfdaiehdbafaa.Qt

/-- The slice value v reads as the bools l. -/
def Sb (w : World) (v : Value) (l : List Bool) : Prop :=
  l.length ≤ maxLen ∧ ((∃ a cap, v = .slice a 0 cap ∧ l = [] ∧ cap ≤ maxLen) ∨ ∃ b off cap, v = .slice (some ⟨b, off, none⟩) l.length cap ∧ l.length ≤ cap ∧ cap ≤ maxLen ∧ ∀ k, k < l.length → w.cell? ⟨b, off + k, none⟩ = some (.bool (l.getD k false)))
theorem sb_below {w w' : World} {v : Value} {l : List Bool} (h : Sb w v l) (hB : Below w.heap.size w w') : Sb w' v l := by
  obtain ⟨h2, h3⟩ := h
  refine ⟨h2, ?_⟩
  rcases h3 with h3 | ⟨b, off, cap, hv, hc1, hc2, hcell⟩
  · exact Or.inl h3
  · exact Or.inr ⟨b, off, cap, hv, hc1, hc2, fun k hk => (hB.cell (p := ⟨b, off + k, none⟩) (block_lt_of_cell (hcell k hk))).trans (hcell k hk)⟩
theorem sb_form {w : World} {v : Value} {l : List Bool} (h : Sb w v l) : ∃ a cap, v = .slice a l.length cap ∧ l.length ≤ cap ∧ cap ≤ maxLen := by
  obtain ⟨_, ⟨a, cap, rfl, rfl, h3⟩ | ⟨b, off, cap, rfl, h3, h4, _⟩⟩ := h
  · exact ⟨a, cap, rfl, by simp, h3⟩
  · exact ⟨_, cap, rfl, h3, h4⟩
theorem sb_cells {w : World} {v : Value} {l : List Bool} (h : Sb w v l) (hl : 0 < l.length) : ∃ b off cap, v = .slice (some ⟨b, off, none⟩) l.length cap ∧ l.length ≤ cap ∧ cap ≤ maxLen ∧ ∀ k, k < l.length → w.cell? ⟨b, off + k, none⟩ = some (.bool (l.getD k false)) := by
  obtain ⟨_, ⟨_, _, _, h0, _⟩ | h⟩ := h
  · subst h0
    simp at hl
  · exact h
/-- What is owned stays when a list of another type grows. -/
theorem owns_grow {w w' : World} {base base' n n' : Nat} {E E' : TypeId} {v v' : Value} {xs xs' : List Value} (hne : E ≠ E') (h : w.ownsRow base E 1 v n xs) (hv : w.ownsRow base' E' 1 v' n' xs') (hg : w.grownBy w' v'.ownBlock) : w'.ownsRow base E 1 v n xs := by
  obtain ⟨h0, h1⟩ := h
  refine ⟨h0, ?_⟩
  rcases h1 with h1 | ⟨g, cap, cur, rfl, hb, hc, hr⟩
  · exact Or.inl h1
  · refine Or.inr ⟨g, cap, cur, rfl, hb, ?_, hr⟩
    refine (hg.block g (Array.getElem?_eq_some_iff.1 hc).1 fun e => ?_).trans hc
    obtain ⟨_, ⟨rfl, _⟩ | ⟨q2, _, cq2, rfl, _, hq2, _⟩⟩ := hv
    · cases e
    · cases e
      rw [hc] at hq2
      simp at hq2
      exact hne hq2.2
theorem owns_si {w : World} {base : Nat} {v : Value} {zs : List Nat} (hz : ∀ x ∈ zs, x < 256) (h : w.ownsRow base 3 1 v zs.length ((zi zs).map fun z => .int .i64 z)) : Si w v (zi zs) :=
  OwnI.si (base := base) ⟨fun z hz' => by
    obtain ⟨x, hx, rfl⟩ := List.mem_map.1 hz'
    have := hz x hx
    omega, by rw [zi_length]; exact h⟩
theorem owns_sr {w : World} {base : Nat} {v : Value} {vs : List Value} {L : List (List Nat)} (h : w.ownsRow base 22 1 v vs.length vs) (hl : vs.length = L.length) (hk : ∀ k, k < L.length → Sl w (vs.getD k undef) (L.getD k [])) : Sr w v L := by
  obtain ⟨_, h1⟩ := h
  rcases h1 with ⟨rfl, h2⟩ | ⟨g, cap, cur, rfl, hg, hb, hn, hm, hsz, ht⟩
  · obtain rfl : L = [] := List.eq_nil_of_length_eq_zero (by omega)
    exact ⟨by simp, Or.inl ⟨none, 0, rfl, rfl, by simp⟩⟩
  · refine ⟨by omega, Or.inr ⟨g, 0, cap, by rw [hl], by omega, hm, fun k hk2 => ⟨vs.getD k undef, ?_, hk k hk2⟩⟩⟩
    rw [Nat.zero_add, cell_of_row w g k cur 22 (0, 0) hb]
    have e := congrArg (·[k]?) ht
    have hk3 : k < vs.length := by omega
    simp only [Nat.mul_one, List.getElem?_take, hk3, if_true] at e
    simpa [List.getD, hk3] using e
/-- The numbers below k of the shards that are there. -/
def presK (h : List Bool) (k : Nat) : List Nat := (List.range k).filter fun i => h.getD i false
theorem presK_succ (h : List Bool) (k : Nat) : presK h (k + 1) = if h.getD k false then presK h k ++ [k] else presK h k := by
  unfold presK
  rw [List.range_succ, List.filter_append]
  by_cases e : h.getD k false = true
  · rw [if_pos e, List.filter_cons_of_pos (by simpa using e)]
    rfl
  · rw [if_neg e, List.filter_cons_of_neg (by simpa using e)]
    simp
theorem presK_lt (h : List Bool) (k : Nat) : ∀ x ∈ presK h k, x < k := fun x hx => by
  unfold presK at hx
  simp only [List.mem_filter, List.mem_range] at hx
  exact hx.1
theorem presK_len (h : List Bool) (k : Nat) : (presK h k).length ≤ k := by
  have := List.length_filter_le (fun i => h.getD i false) (List.range k)
  simpa [presK] using this
/-- What is gathered: the numbers and the rows. -/
structure Gat (w wr : World) (S : List (List Nat)) (zs : List Nat) (v1 v2 : Value) (vs : List Value) : Prop where
  n : wr.ownsRow w.heap.size 3 1 v1 zs.length ((zi zs).map fun z => .int .i64 z)
  r : wr.ownsRow w.heap.size 22 1 v2 vs.length vs
  l : vs.length = zs.length
  s : ∀ j, j < zs.length → Sl w (vs.getD j undef) (S.getD (zs.getD j 0) [])
  b : Below w.heap.size w wr
theorem gat_nil (w : World) (S : List (List Nat)) : Gat w w S [] (.slice none 0 0) (.slice none 0 0) [] := ⟨World.ownsRow_nil _ _ _ _, World.ownsRow_nil _ _ _ _, rfl, fun j hj => by simp at hj, Below.refl _ _⟩
theorem Gat.drew {w wr : World} {S : List (List Nat)} {zs : List Nat} {v1 v2 : Value} {vs : List Value} (h : Gat w wr S zs v1 v2 vs) : Gat w wr.drew S zs v1 v2 vs := ⟨h.n, h.r, h.l, h.s, h.b.drew⟩
theorem Gat.si {w wr : World} {S : List (List Nat)} {zs : List Nat} {v1 v2 : Value} {vs : List Value} (h : Gat w wr S zs v1 v2 vs) (hz : ∀ x ∈ zs, x < 6) : Si wr v1 (zi zs) := owns_si (fun x hx => by have := hz x hx; omega) h.n
theorem Gat.sr {w wr : World} {S : List (List Nat)} {zs : List Nat} {v1 v2 : Value} {vs : List Value} (h : Gat w wr S zs v1 v2 vs) : Sr wr v2 (pickL zs S) := by
  refine owns_sr h.r (by rw [pickL_length, h.l]) fun k hk => ?_
  rw [pickL_length] at hk
  rw [pickL_getD hk]
  exact sl_below (h.s k hk) h.b
theorem zi_map_snoc (zs : List Nat) (k : Nat) : ((zi (zs ++ [k])).map fun z => Value.int .i64 z) = ((zi zs).map fun z => Value.int .i64 z) ++ [.int .i64 (k : Int)] := by
  rw [zi_snoc, List.map_append]
  rfl
/-- A number more; the row is to come. -/
structure Gh (w wr : World) (S : List (List Nat)) (zs : List Nat) (k : Nat) (v1 v2 : Value) (vs : List Value) : Prop where
  n : wr.ownsRow w.heap.size 3 1 v1 (zs.length + 1) (((zi zs).map fun z => .int .i64 z) ++ [.int .i64 (k : Int)])
  r : wr.ownsRow w.heap.size 22 1 v2 vs.length vs
  l : vs.length = zs.length
  s : ∀ j, j < zs.length → Sl w (vs.getD j undef) (S.getD (zs.getD j 0) [])
  b : Below w.heap.size w wr
theorem Gat.num {w wr w1 : World} {S : List (List Nat)} {zs : List Nat} {v1 v2 v1' : Value} {vs : List Value} {k : Nat} {o : Obj} (h : Gat w wr S zs v1 v2 vs) (hg : (wr.alloc o).grownBy w1 v1.ownBlock)
    (hn : w1.ownsRow w.heap.size 3 1 v1' (zs.length + 1) (((zi zs).map fun z => .int .i64 z) ++ [.int .i64 (k : Int)])) : Gh w w1 S zs k v1' v2 vs :=
  have ha := (Below.refl wr.heap.size wr).alloc (Nat.le_refl _) o
  ⟨hn, owns_grow (by decide) (ownsRow_mono h.r ha) (ownsRow_mono h.n ha) hg, h.l, h.s, (h.b.alloc h.b.size o).grown hg (by have := h.b.size; simp; omega) fun q hq => (h.n.lt q hq).1⟩
theorem Gh.row {w wr w1 : World} {S : List (List Nat)} {zs : List Nat} {v1 v2 v2' x : Value} {vs : List Value} {k : Nat} {o : Obj} (h : Gh w wr S zs k v1 v2 vs) (hx : Sl w x (S.getD k [])) (hg : (wr.alloc o).grownBy w1 v2.ownBlock)
    (hr : w1.ownsRow w.heap.size 22 1 v2' (vs.length + 1) (vs ++ [x])) : Gat w w1 S (zs ++ [k]) v1 v2' (vs ++ [x]) := by
  have ha := (Below.refl wr.heap.size wr).alloc (Nat.le_refl _) o
  have hn2 := owns_grow (by decide) (ownsRow_mono h.n ha) (ownsRow_mono h.r ha) hg
  refine ⟨by rw [zi_map_snoc]; simpa using hn2, by simpa using hr, by simp [h.l], fun j hj => ?_, (h.b.alloc h.b.size o).grown hg (by have := h.b.size; simp; omega) fun q hq => (h.r.lt q hq).1⟩
  by_cases e : j < zs.length
  · have h1 : (vs ++ [x]).getD j undef = vs.getD j undef := by simp [List.getD, List.getElem?_append, show j < vs.length by have := h.l; omega]
    have h2 : (zs ++ [k]).getD j 0 = zs.getD j 0 := by simp [List.getD, List.getElem?_append, e]
    rw [h1, h2]
    exact h.s j e
  · have e2 : j = zs.length := by simp at hj; omega
    have h1 : (vs ++ [x]).getD j undef = x := by rw [e2, ← h.l]; simp [List.getD]
    have h2 : (zs ++ [k]).getD j 0 = k := by rw [e2]; simp [List.getD]
    rw [h1, h2]
    exact hx
set_option maxRecDepth 100000 in
set_option maxHeartbeats 6400000 in
theorem present_any (b1 o1 c1 b2 o2 c2 : Nat) (S : List (List Nat)) (h : List Bool) (w : World)
    (k1 : ∀ k, k < 6 → ∃ x, w.cell? ⟨b1, o1 + k, none⟩ = some x ∧ Sl w x (S.getD k [])) (k2 : ∀ k, k < 6 → w.cell? ⟨b2, o2 + k, none⟩ = some (.bool (h.getD k false))) :
    Calls Try.prog 44 #[.slice (some ⟨b1, o1, none⟩) 6 c1, .slice (some ⟨b2, o2, none⟩) 6 c2] w fun e w' => (∃ v1 v2 vs, e = .returned (.tuple #[v1, v2]) ∧ Gat w w' S (pres h) v1 v2 vs) := by
  have K1 := Lib.hid k1
  have K2 := Lib.hid k2
  clear k1 k2
  go_enter Try.func44, Try.ntmps44
  go_wp2
  go_loopw [4, 5, 10] (fun a b i wr => ∃ (k : Nat) (vs : List Value), k ≤ 6 ∧ i = .int .i64 (k : Int) ∧ Gat w wr S (presK h k) a b vs) (fun _ _ i _ => 6 - (intOf i).toNat)
  case atStart => exact ⟨0, [], by omega, rfl, gat_nil w S⟩
  case round =>
    obtain ⟨k, vs, hk, rfl, hG⟩ := hrel
    obtain ⟨a1, d1, hv1⟩ := ownsRow_form hG.n
    obtain ⟨a2, d2, hv2⟩ := ownsRow_form hG.r
    have hL := presK_len h k
    have hps := presK_succ h k
    generalize hzs : presK h k = zs at *
    have HZ := Lib.hid hzs
    clear hzs
    obtain ⟨m, hm⟩ : ∃ m, m = zs.length := ⟨_, rfl⟩
    rw [← hm] at hv1
    subst hv1 hv2
    have hn' := hG.n
    have hl' := hG.l
    rw [← hm] at hn' hl' hL
    have HM := Lib.hid hm
    have HN := Lib.hid hn'
    clear hm hn'
    have G := Lib.hid hG
    have HL := Lib.hid hL
    have HV := Lib.hid hl'
    clear hG hL hl'
    by_cases hkn : k < 6
    · obtain ⟨x, e1, s1⟩ := K1.out k hkn
      have e2 := K2.out k hkn
      have f1 := (G.out.b.cell (p := ⟨b1, o1 + k, none⟩) (block_lt_of_cell e1)).trans e1
      have f2 := (G.out.b.cell (p := ⟨b2, o2 + k, none⟩) (block_lt_of_cell e2)).trans e2
      obtain ⟨ax, capx, hx, -, -⟩ := sl_form s1
      obtain ⟨nx, hnx⟩ : ∃ n, n = (S.getD k []).length := ⟨_, rfl⟩
      rw [← hnx] at hx
      subst hx
      have SX := Lib.hid s1
      have p0 : (0 : Int) ≤ (k : Int) := by omega
      have p1 : (k : Int) < 6 := by omega
      have HP := Lib.hid hps
      clear hps
      clear e1 e2 s1 hnx
      obtain ⟨bb, hbb⟩ : ∃ b, b = h.getD k false := ⟨_, rfl⟩
      rw [← hbb] at f2 HP
      clear hbb
      cases bb with
      | false =>
        go_wp2
        go_roundw
        case rel => exact ⟨k + 1, vs, by omega, by go_num, by rw [HP.out]; exact G.out⟩
        case measure => simp [intOf]; omega
      | true =>
        go_wp2_with (first
          | (at_builtin; refine app1 (dst := some 22) Try.underlying28 infoI rfl (by decide) ?_ ?_ (ownsRow_mono HN.out ((Below.refl wr.heap.size wr).alloc (Nat.le_refl _) _)) (heap_alloc_new _ _) rfl (by have := HL.out; omega) (by have := G.out.b.size; simp; omega) ?_; exact rfl; exact rfl; intro v3 w3 ho3 hg3; obtain ⟨av, cv, hv3⟩ := ownsRow_form ho3; subst hv3; have G2 := Lib.hid (G.out.num hg3 (by rw [← HM.out]; exact ho3)); clear ho3 hg3)
          | (at_builtin; refine app1 (dst := some 26) Try.underlying35 infoS rfl (by decide) ?_ ?_ (ownsRow_mono G2.out.r ((Below.refl _ _).alloc (Nat.le_refl _) _)) (heap_alloc_new _ _) rfl (by have := HL.out; have := HV.out; omega) (by have := G2.out.b.size; simp; omega) ?_; exact rfl; exact rfl; intro v4 w4 ho4 hg4; obtain ⟨aw, cw, hv4⟩ := ownsRow_form ho4; subst hv4; have G3 := Lib.hid (G2.out.row SX.out hg4 ho4); clear ho4 hg4))
        go_roundw
        case rel => exact ⟨k + 1, vs ++ [.slice ax nx capx], by omega, by go_num, by rw [HP.out]; exact G3.out⟩
        case measure => simp [intOf]; omega
    · obtain rfl : k = 6 := by omega
      go_wp2
      go_ret2
      refine ⟨_, _, vs, rfl, ?_⟩
      have e : pres h = zs := HZ.out
      rw [e]
      exact G.out
end Go.Proofs.Ytppfdaiehdbafaa.Gf
namespace Go.Proofs.Ytppfdaiehdbafaa.Gf
open Go Go.ChangeShapes Go.WideShapes Go.ChangeAt Go.RowKit Go.Sort Go.Proofs.Ytppfdaiehdbafaa.By Go.Proofs.Ytppfdaiehdbafaa.Qt

/-- What Restore answers. -/
def Fit (S : List (List Nat)) (h : List Bool) : Prop := S.length = 6 ∧ h.length = 6 ∧ EqL (pickL (pres h) S)
instance (S : List (List Nat)) (h : List Bool) : Decidable (Fit S h) := by unfold Fit; infer_instance
def resL (S : List (List Nat)) (h : List Bool) : List (List Nat) := if Fit S h then if 4 ≤ (pres h).length then restW ((pres h).take 4) ((pickL (pres h) S).take 4) (wid (pickL (pres h) S)) else [] else []
def resE (S : List (List Nat)) (h : List Bool) : Int := if Fit S h then if 4 ≤ (pres h).length then 0 else 11 else 1
theorem si_take {w : World} {a : Option Addr} {n k cap : Nat} {L : List Int} (h : Si w (.slice a n cap) L) (hk : 1 ≤ k ∧ k ≤ n) : Si w (.slice a k cap) (L.take k) := by
  obtain ⟨a0, cap0, e0, -, -⟩ := si_form h
  obtain ⟨rfl, rfl, rfl⟩ : a = a0 ∧ n = L.length ∧ cap = cap0 := by simpa using e0
  obtain ⟨b, o, cap, e1, h1, h2, k1⟩ := si_cells h (by omega)
  have e2 : (L.take k).length = k := by rw [List.length_take]; omega
  obtain ⟨rfl, -, rfl⟩ : a = some ⟨b, o, none⟩ ∧ L.length = L.length ∧ _ = cap := by simpa using e1
  refine ⟨fun z hz => h.1 z (List.mem_of_mem_take hz), by rw [e2]; have := h.2.1; omega, Or.inr ⟨b, o, _, by rw [e2], by omega, h2, fun i hi => ?_⟩⟩
  rw [e2] at hi
  rw [k1 i (by omega)]
  simp [List.getD, hi]
theorem pickL_take (rs : List Nat) (S : List (List Nat)) (n : Nat) : (pickL rs S).take n = pickL (rs.take n) S := by simp [pickL, List.map_take]
theorem pick_byt {rs : List Nat} {S : List (List Nat)} (h : ∀ k q, (S.getD k []).getD q 0 < 256) : ∀ k q, ((pickL rs S).getD k []).getD q 0 < 256 := fun k q => by
  by_cases hk : k < rs.length
  · rw [pickL_getD hk]
    exact h _ _
  · rw [getD_outL (by rw [pickL_length]; omega)]
    simp
theorem pick_small {rs : List Nat} {S : List (List Nat)} (h : Small S) : Small (pickL rs S) := fun k => by
  by_cases hk : k < rs.length
  · rw [pickL_getD hk]
    exact h _
  · rw [getD_outL (by rw [pickL_length]; omega)]
    simp
theorem four_lv {G : List (List Nat)} (h4 : 4 ≤ G.length) (he : EqL G) (hb : ∀ k q, (G.getD k []).getD q 0 < 256) : Lv 4 (wid G) (G.take 4) where
  len := by rw [List.length_take]; omega
  row := fun j hj => by
    rw [getD_take4 hj]
    exact he j (by omega)
  byt := fun k q => by
    by_cases hk : k < 4
    · rw [getD_take4 hk]
      exact hb k q
    · rw [getD_outL (by rw [List.length_take]; omega)]
      simp
set_option maxRecDepth 100000 in
set_option maxHeartbeats 6400000 in
theorem restore_bad1 (a1 a2 : Option Addr) (n1 n2 c1 c2 : Nat) (w : World) (h : ¬ (n1 = 6 ∧ n2 = 6)) : Calls Try.prog 23 #[.slice a1 n1 c1, .slice a2 n2 c2] w (EP w [] 1) := by
  unfold EP
  by_cases h1 : n1 = 6
  · subst h1
    have h2 : ((n2 : Int) != 6) = true := by rw [bne_iff_ne]; omega
    clear h
    go_enter Try.func23, Try.ntmps23
    go_wp2
    go_ret2
    exact ⟨⟨_, rfl, sr_nil _⟩, Below.refl _ _⟩
  · have h2 : ((n1 : Int) != 6) = true := by rw [bne_iff_ne]; omega
    clear h h1
    go_enter Try.func23, Try.ntmps23
    go_wp2
    go_ret2
    exact ⟨⟨_, rfl, sr_nil _⟩, Below.refl _ _⟩
set_option maxRecDepth 100000 in
set_option maxHeartbeats 6400000 in
theorem restore_any (v1 v2 : Value) (S : List (List Nat)) (h : List Bool) (w : World) (s1 : Sr w v1 S) (s2 : Sb w v2 h) (hm : Small S) : Calls Try.prog 23 #[v1, v2] w (EP w (resL S h) (resE S h)) := by
  by_cases h6 : S.length = 6 ∧ h.length = 6
  · obtain ⟨b1, o1, c1, rfl, d1, d2, k1⟩ := sr_cells s1 (by omega)
    obtain ⟨b2, o2, c2, rfl, f1, f2, k2⟩ := sb_cells s2 (by omega)
    have hb := sr_byt s1
    rw [h6.1] at k1 d1 ⊢
    rw [h6.2] at k2 f1 ⊢
    have PR := Lib.hid (present_any b1 o1 c1 b2 o2 c2 S h w k1 k2)
    have EL := fun v W s => eqlen_any v (pickL (pres h) S) W s
    have hps : ∀ x ∈ pres h, x < 6 := presK_lt h 6
    have hlen := pickL_length (pres h) S
    have hpl : (pres h).length ≤ 6 := presK_len h 6
    have hgood := fun h4 : 4 ≤ (pres h).length => pres_good h4
    have hfour := fun (h4 : 4 ≤ (pickL (pres h) S).length) he => four_lv h4 he (pick_byt hb)
    have hsm : wid (pickL (pres h) S) ≤ 1000000 := pick_small hm 0
    clear s1 s2 k1 k2 hm hb
    have HF := Lib.hid hfour
    have HGD := Lib.hid hgood
    have HPS := Lib.hid hps
    have HSM := Lib.hid hsm
    clear hfour hgood hps hsm
    by_cases he : EqL (pickL (pres h) S)
    · have hfit : Fit S h := ⟨h6.1, h6.2, he⟩
      rw [decide_eq_true he] at EL
      have HE := Lib.hid he
      have EL := Lib.hid EL
      clear h6 he
      by_cases h4 : 4 ≤ (pres h).length
      · rw [show resL S h = restW ((pres h).take 4) ((pickL (pres h) S).take 4) (wid (pickL (pres h) S)) from by unfold resL; rw [if_pos hfit, if_pos h4], show resE S h = 0 from by unfold resE; rw [if_pos hfit, if_pos h4]]
        clear hfit
        have hg4 := HGD.out h4
        have hl4 := HF.out (by rw [hlen]; exact h4) HE.out
        have AF := Lib.hid (fun v W s => allfrom_any hg4 v W s)
        have AP : Hid (∀ (W : World) (u1 u2 : Value), Sl W u1 (flat 6 4 (vX ((pres h).take 4))) → Sr W u2 ((pickL (pres h) S).take 4) → Calls Try.prog 39 #[mv 6 4 u1, u2] W (AS W (restW ((pres h).take 4) ((pickL (pres h) S).take 4) (wid (pickL (pres h) S))))) := fun W u1 u2 t1 t2 => c_apply (a := 6) (b := 4) (vX ((pres h).take 4)) (by decide) (by decide) W u1 u2 ((pickL (pres h) S).take 4) t1 t2 hl4 HSM.out
        clear hg4 hl4 HF HGD HE HSM
        generalize restW ((pres h).take 4) ((pickL (pres h) S).take 4) (wid (pickL (pres h) S)) = X at *
        unfold maxLen at d2 f2
        clear d1 d2 f1 f2
        unfold EP
        go_enter Try.func23, Try.ntmps23
        go_wp2_with fail
        refine PR.out.mono ?_
        rintro e w1 ⟨u1, u2, vs, rfl, hG⟩
        have B1 := Lib.hid hG.b
        have SN := Lib.hid (hG.si HPS.out)
        have SR := Lib.hid hG.sr
        obtain ⟨p1, q1, e1, hv1, g1, g2, -⟩ := si_cells SN.out (by rw [zi_length]; omega)
        obtain ⟨p2, q2, e2, hv2, g3, g4, -⟩ := sr_cells SR.out (by rw [pickL_length]; omega)
        rw [zi_length] at hv1 g1
        rw [pickL_length] at hv2 g3
        generalize (pres h).length = n at *
        subst hv1 hv2
        unfold maxLen at g2 g4
        clear hG
        go_wp2_with fail
        refine (EL.out _ w1 SR.out).mono ?_
        rintro e w2 ⟨rfl, rfl⟩
        go_wp2_with fail
        have TN := Lib.hid (si_take (k := 4) SN.out (by omega))
        rw [zi_take] at TN
        have TR := Lib.hid (sr_take (k := 4) SR.out (by omega))
        clear SN SR
        refine wp_region_heads [0, 1, 3, 4] 6 (by kernel_rfl) (fun _ _ d _ _ h => by cases d <;> exact h) (by kernel_rfl) (by rfl) (by rfl) ?_
        simp only [pickOps, List.filterMap_cons, List.filterMap_nil, List.getElem?_toArray, List.getElem?_cons_zero, List.getElem?_cons_succ]
        refine wpHeads_step (fun K hK => ?_)
        go_simp
        refine hK _ ?_
        clear hK K
        refine wpHeads_step (fun K hK => ?_)
        go_simp
        refine ⟨.slice (some ⟨p1, q1, none⟩) 4 e1, fun a => by rw [if_pos (by omega)], hK _ ?_⟩
        clear hK K
        refine wpHeads_step (fun K hK => ?_)
        go_simp
        refine hK _ ?_
        clear hK K
        refine wpHeads_step (fun K hK => ?_)
        go_simp
        refine ⟨.slice (some ⟨p2, q2, none⟩) 4 e2, fun a => by rw [if_pos (by omega)], hK _ ?_⟩
        clear hK K
        refine wpHeads_nil ?_
        have hX := (Below.refl w1.heap.size w1).drew
        generalize w1.drew = Y at hX ⊢
        have HX := Lib.hid hX
        clear hX
        refine held_one 2 rfl rfl (by kernel_rfl) fun K hK => ?_
        go_simp
        go_at_call 28
        refine (AF.out _ Y (si_below TN.out HX.out)).mono ?_
        unfold CM mv
        rintro e Y2 ⟨⟨s2, rfl, hs2⟩, hb2⟩
        have tX := bt HX.out hb2
        refine hK _ _ (bl_of_below tX) ?_
        clear hK K HX hb2
        have HX := Lib.hid tX
        have S2 := Lib.hid hs2
        clear tX hs2
        refine held_one 5 rfl rfl (by kernel_rfl) fun K hK => ?_
        go_simp
        go_at_call 39
        refine (AP.out Y2 _ _ S2.out (sr_below TR.out HX.out)).mono ?_
        unfold AS
        rintro e Y3 ⟨⟨s3, rfl, hs3⟩, hb3⟩
        have tX := bt HX.out hb3
        refine hK _ _ (bl_of_below tX) ?_
        clear hK K HX hb3
        have HX := Lib.hid tX
        have S3 := Lib.hid hs3
        clear tX hs3
        refine wpAnyH_take (i := 6) (v := s3) rfl (by kernel_rfl) (by kernel_rfl) (by kernel_rfl) (fun _ _ _ h => h) (Or.inl ⟨by rfl, fun w _ => by rfl⟩) (bl_of_below HX.out) ?_
        refine wpAnyH_take (i := 7) (v := .int .i64 0) rfl (by kernel_rfl) (by kernel_rfl) (by kernel_rfl) (fun _ _ _ h => h) (Or.inl ⟨by rfl, fun w _ => by rfl⟩) (bl_of_below HX.out) ?_
        refine held_one 8 rfl rfl (by kernel_rfl) fun K hK => ?_
        go_simp
        refine hK _ _ (bl_of_below HX.out) ?_
        clear hK K
        refine held_one 9 rfl rfl (by kernel_rfl) fun K hK => ?_
        go_simp
        refine hK _ _ (bl_of_below HX.out) ?_
        clear hK K
        refine wpAnyH_done (by kernel_rfl) ?_ _
        have hb := bt B1.out HX.out
        go_wp2_with fail
        go_ret2
        exact ⟨⟨_, rfl, S3.out⟩, hb⟩
      · rw [show resL S h = [] from by unfold resL; rw [if_pos hfit, if_neg h4], show resE S h = 11 from by unfold resE; rw [if_pos hfit, if_neg h4]]
        clear hfit HF HGD HE HSM hlen
        unfold maxLen at d2 f2
        clear d1 d2 f1 f2
        unfold EP
        go_enter Try.func23, Try.ntmps23
        go_wp2_with fail
        refine PR.out.mono ?_
        rintro e w1 ⟨u1, u2, vs, rfl, hG⟩
        have B1 := Lib.hid hG.b
        have SR := Lib.hid hG.sr
        obtain ⟨a2, e2, hv2, g3, g4⟩ := sr_form SR.out
        rw [pickL_length] at hv2 g3
        generalize (pres h).length = n at *
        subst hv2
        clear hG g4
        go_wp2_with fail
        refine (EL.out _ w1 SR.out).mono ?_
        rintro e w2 ⟨rfl, rfl⟩
        have g5 : (n : Int) < 4 := by omega
        go_wp2_with fail
        go_ret2
        exact ⟨⟨_, rfl, sr_nil _⟩, B1.out⟩
    · have hfit : ¬ Fit S h := fun x => he x.2.2
      rw [show resL S h = [] from by unfold resL; rw [if_neg hfit], show resE S h = 1 from by unfold resE; rw [if_neg hfit]]
      rw [decide_eq_false he] at EL
      have EL := Lib.hid EL
      clear hfit HF HGD he HSM hlen
      unfold maxLen at d2 f2
      clear d1 d2 f1 f2
      unfold EP
      go_enter Try.func23, Try.ntmps23
      go_wp2_with fail
      refine PR.out.mono ?_
      rintro e w1 ⟨u1, u2, vs, rfl, hG⟩
      have B1 := Lib.hid hG.b
      have SR := Lib.hid hG.sr
      clear hG
      go_wp2_with fail
      refine (EL.out _ w1 SR.out).mono ?_
      rintro e w2 ⟨rfl, rfl⟩
      go_wp2_with fail
      go_ret2
      exact ⟨⟨_, rfl, sr_nil _⟩, B1.out⟩
  · obtain ⟨a1, c1, rfl, -, -⟩ := sr_form s1
    obtain ⟨a2, c2, rfl, -, -⟩ := sb_form s2
    unfold resL resE
    rw [if_neg (fun x => h6 ⟨x.1, x.2.1⟩), if_neg (fun x => h6 ⟨x.1, x.2.1⟩)]
    exact restore_bad1 a1 a2 _ _ c1 c2 w h6
end Go.Proofs.Ytppfdaiehdbafaa.Gf
namespace Go.Proofs.Ytppfdaiehdbafaa.Gf
open Go Go.ChangeShapes Go.WideShapes Go.ChangeAt Go.RowKit Go.Sort Go.Proofs.Ytppfdaiehdbafaa.By Go.Proofs.Ytppfdaiehdbafaa.Qt

/-- The rows rs of the code's matrix, and their inverse. -/
def Pc (rs : List Nat) (i k : Nat) : Nat := Cd (rs.getD i 0) k
def iY (rs : List Nat) : Nat → Nat → Nat := mm 4 (Vr [0, 1, 2, 3]) (Xr rs)
theorem pc_eq (rs : List Nat) : Pc rs = mm 4 (Vr rs) (Xr [0, 1, 2, 3]) := rfl
theorem bd_pc {rs : List Nat} : Bd 4 4 (Pc rs) := pc_eq rs ▸ bd_mm (bd_vr rs 4 4)
theorem bd_iy (rs : List Nat) : Bd 4 4 (iY rs) := bd_mm (bd_vr _ 4 4)
theorem inv_mid {A B C D : Nat → Nat → Nat} (hA : Bd 4 4 A) (hB : Bd 4 4 B) (hC : Bd 4 4 C) (hD : Bd 4 4 D) (h : Eqm 4 4 (mm 4 B C) idm) (h2 : Eqm 4 4 (mm 4 A D) idm) : Eqm 4 4 (mm 4 (mm 4 A B) (mm 4 C D)) idm :=
  (mm_assoc hA hB (bd_mm hC)).trans ((mm_congr Eqm.rfl' (mm_assoc hB hC hD).symm).trans ((mm_congr Eqm.rfl' ((mm_congr h Eqm.rfl').trans (mm_id_left hD))).trans h2))
theorem iy_inv {rs : List Nat} (h : Good rs) : Inv2 4 (Pc rs) (iY rs) := by
  have hX := xr_inv h
  have h0 := xr_inv good_first
  rw [pc_eq]
  exact ⟨bd_iy rs, inv_mid (bd_vr _ 4 4) hX.1 (bd_vr rs 4 4) h0.1 hX.2.1 h0.2.2, inv_mid (bd_vr rs 4 4) h0.1 (bd_vr _ 4 4) hX.1 h0.2.1 hX.2.2⟩
theorem iy_first {rs : List Nat} {m : Nat} {G : List (List Nat)} (h : Good rs) (hG : Lv 4 m G) : appR 4 4 (iY rs) G m = pickL [0, 1, 2, 3] (restW rs G m) := by
  have hT := appR_lv (xr_inv h).1 hG
  rw [rest_eq h hG, pick_app good_first hT]
  exact appR_comp (bd_vr _ 4 4) (xr_inv h).1 hG
theorem iy_rest {rs : List Nat} {m : Nat} {G : List (List Nat)} (h : Good rs) (hG : Lv 4 m G) : restW [0, 1, 2, 3] (appR 4 4 (iY rs) G m) (wid (appR 4 4 (iY rs) G m)) = restW rs G m := by
  have hL := appR_lv (bd_iy rs) hG
  have hw : wid (appR 4 4 (iY rs) G m) = m := hL.row 0 (by decide)
  rw [hw, iy_first h hG, code_rest good_first (rest_code h hG)]
theorem invc_use {rs : List Nat} (hg : Good rs) {e : Ending} {w w' : World} (h : invPostS 4 4 (flat 4 4 (Pc rs)) w e w') : MS w 4 4 (flat 4 4 (iY rs)) 0 e w' := by
  have hX := iy_inv hg
  have hf : Eqm 4 4 (ent (flat 4 4 (Pc rs)) 4) (Pc rs) := ent_flat _
  unfold invPostS at h
  rw [if_pos ⟨vd44 _, rfl⟩] at h
  rcases h with ⟨X, hX', hm⟩ | ⟨hs, _⟩
  · have e1 : Eqm 4 4 X (iY rs) := inv_unique bd_pc (inv_congr hf Eqm.rfl' hX') hX
    rw [← flat_ext e1]
    exact hm
  · exact absurd (sing_congr hf hs) (inv_not_sing bd_pc hX)
theorem r_pickc {rs : List Nat} (hg : Good rs) (W : World) (v1 v2 : Value) (s1 : Sl W v1 (flat 6 4 Cd)) (s2 : Si W v2 (zi rs)) : Calls Try.prog 30 #[mv 6 4 v1, v2] W (MS W 4 4 (flat 4 4 (Pc rs)) 0) := r_pick Cd (good_length hg) (by decide) (fun _ hi => good_at hg hi) W v1 v2 s1 s2
theorem c_pickc {rs : List Nat} (hg : Good rs) (W : World) (v1 v2 : Value) (s1 : Sl W v1 (flat 6 4 Cd)) (s2 : Si W v2 (zi rs)) : Calls Try.prog 13 #[mv 6 4 v1, v2] W (MS W 4 4 (flat 4 4 (Pc rs)) 0) := c_pick Cd (good_length hg) (by decide) (fun _ hi => good_at hg hi) W v1 v2 s1 s2
theorem r_invc {rs : List Nat} (hg : Good rs) (W : World) (v : Value) (s : Sl W v (flat 4 4 (Pc rs))) : Calls Try.prog 31 #[mv 4 4 v] W (MS W 4 4 (flat 4 4 (iY rs)) 0) := (rinvert_any 4 4 v _ W s).mono fun _ _ => invc_use hg
theorem c_invc {rs : List Nat} (hg : Good rs) (W : World) (v : Value) (s : Sl W v (flat 4 4 (Pc rs))) : Calls Try.prog 14 #[mv 4 4 v] W (MS W 4 4 (flat 4 4 (iY rs)) 0) := (invert_any 4 4 v _ W s).mono fun _ _ => invc_use hg
theorem r_applyc {m : Nat} (rs : List Nat) (W : World) (v1 v2 : Value) (G : List (List Nat)) (hG : Lv 4 m G) (hm : m ≤ 1000000) (s1 : Sl W v1 (flat 4 4 (iY rs))) (s2 : Sr W v2 G) : Calls Try.prog 46 #[mv 4 4 v1, v2] W (AS W (appR 4 4 (iY rs) G m)) := r_apply (a := 4) (b := 4) (iY rs) (by decide) (by decide) W v1 v2 G s1 s2 hG hm
theorem presK_prefix (h : List Bool) {k : Nat} (hk : k ≤ 6) : (pres h).take (presK h k).length = presK h k := by
  have e : ∀ j, ∃ t, presK h (k + j) = presK h k ++ t := fun j => by
    induction j with
    | zero => exact ⟨[], by simp⟩
    | succ j ih =>
      obtain ⟨t, ht⟩ := ih
      rw [← Nat.add_assoc, presK_succ, ht]
      split
      · exact ⟨t ++ [k + j], by simp⟩
      · exact ⟨t, rfl⟩
  obtain ⟨t, ht⟩ := e (6 - k)
  have e2 : pres h = presK h k ++ t := by
    rw [← ht, show k + (6 - k) = 6 by omega]
    rfl
  rw [e2, List.take_left]
theorem eql_prefix {G : List (List Nat)} (n : Nat) (h : EqL G) : EqL (G.take n) := fun k hk => by
  rw [List.length_take] at hk
  rw [getD_take4 (by omega), getD_take4 (by omega)]
  exact h k (by omega)
theorem eql_presK {S : List (List Nat)} {h : List Bool} {k : Nat} (hk : k ≤ 6) (he : EqL (pickL (pres h) S)) : EqL (pickL (presK h k) S) := by
  rw [← presK_prefix h hk, ← pickL_take]
  exact eql_prefix _ he
theorem eql_snoc {rs : List Nat} {S : List (List Nat)} {k : Nat} (h : EqL (pickL rs S)) : EqL (pickL (rs ++ [k]) S) ↔ (0 < rs.length → (S.getD k []).length = (S.getD (rs.getD 0 0) []).length) := by
  have e1 : ∀ j, j < rs.length → (pickL (rs ++ [k]) S).getD j [] = (pickL rs S).getD j [] := fun j hj => by
    rw [pickL_getD (by simp; omega), pickL_getD hj]
    simp [List.getD, List.getElem?_append, hj]
  have e2 : (pickL (rs ++ [k]) S).getD rs.length [] = S.getD k [] := by
    rw [pickL_getD (by simp)]
    simp [List.getD]
  have e3 : (pickL (rs ++ [k]) S).length = rs.length + 1 := by rw [pickL_length]; simp
  constructor
  · intro he h0
    have h1 := he rs.length (by omega)
    rw [e2, e1 0 h0, pickL_getD h0] at h1
    exact h1
  · intro he j hj
    rw [e3] at hj
    by_cases h0 : 0 < rs.length
    · rw [e1 0 h0]
      by_cases hj2 : j < rs.length
      · rw [e1 j hj2]
        exact h j (by rw [pickL_length]; exact hj2)
      · obtain rfl : j = rs.length := by omega
        rw [e2, pickL_getD h0]
        exact he h0
    · obtain rfl : j = 0 := by omega
      rfl
/-- A region whose operations hd only read, in every world that meets S; what is left may come up in its own order. -/
theorem wp_region_headsS {P : Program} {id : Nat} {Q : Exit → Act → World → Prop} {a : Act} {w : World} {l : List Oper} (S : World → Prop) (hd : List Nat) (fuel : Nat) (hm : P.follows .mixedOrders = true) (hQ : ∀ c (a : Act) d v w, Q (.panic c) (a.put d v) w → Q (.panic c) a w)
    (hB : (Region.noSelect l.toArray && headsB .any l.toArray hd (Array.replicate l.toArray.size false)) = true) (hf : l.toArray.size = hd.length + fuel) (h1 : (pickOps l.toArray hd).map some = hd.map (fun t => l.toArray[t]?)) (hS : S w.drew)
    (h : wpHeads P l.toArray S (fun a' => wpAnyH P .any l.toArray Q S fuel (listAll hd (Array.replicate l.toArray.size false)) a' w.drew) (pickOps l.toArray hd) a) : (Code.region id l.toArray true).wp P Q a w := by
  simp only [Bool.and_eq_true] at hB
  refine wp_region_held (S := S) hm ?_
  have := held_heads (P := P) (md := .any) (Q := Q) hB.1 hQ hS hd _ _ a hB.2 h1 h
  rw [hf] at *
  exact this
theorem held_two {P : Program} {ops : Array Oper} {md : Region.Mode} {Q : Exit → Act → World → Prop} {S : World → Prop} {fuel : Nat} {listed : Array Bool} {a : Act} {w : World} (i k : Nat) {oi ok : Oper} (hi : ops[i]? = some oi) (hk : ops[k]? = some ok) (hg : oi.guard = none) (hg2 : ok.guard = none) (hr : Region.ready md ops listed = [i, k])
    (h : ∀ K : Act → World → Prop, (∀ a' w', S w' → wpAnyH P md ops Q S fuel (listed.setIfInBounds i true) a' w' → K a' w') → oi.wp P a w K Q)
    (h2 : ∀ K : Act → World → Prop, (∀ a' w', S w' → wpAnyH P md ops Q S fuel (listed.setIfInBounds k true) a' w' → K a' w') → ok.wp P a w K Q) : wpAnyH P md ops Q S (fuel + 1) listed a w := by
  refine wpAnyH_all hr (by simp) fun j hj => ?_
  have hj2 : j = i ∨ j = k := by simpa using hj
  rcases hj2 with rfl | rfl
  · unfold wpOp
    simp only [hi]
    rw [if_pos (by simp [Region.wanted, hg])]
    exact Or.inl (h _ fun a' w' h1 h2 => ⟨h1, h2⟩)
  · unfold wpOp
    simp only [hk]
    rw [if_pos (by simp [Region.wanted, hg2])]
    exact Or.inl (h2 _ fun a' w' h1 h2 => ⟨h1, h2⟩)
end Go.Proofs.Ytppfdaiehdbafaa.Gf
