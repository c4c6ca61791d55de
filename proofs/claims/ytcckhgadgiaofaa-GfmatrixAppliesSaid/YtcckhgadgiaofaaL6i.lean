/- What is proved here: the walk of the law GfmatrixApplies. Conditions: PC3, the reference's Apply. -/
import Derived.Test.YtcckhgadgiaofaaL5
namespace Go.Proofs.Ytcckhgadgiaofaa.Gf
open Go Go.ChangeShapes Go.WideShapes Go.ChangeAt Go.RowKit Go.Sort Go.Proofs.Ytcckhgadgiaofaa.By Go.Proofs.Ytcckhgadgiaofaa.Qt

theorem sr_nil0 (w : World) : Sr w (.slice none 0 0) [] := (ownr_nil w 0).sr
theorem apply_det (r c : Int) (l : List Nat) (L : List (List Nat)) : ∃ (K : List (List Nat)) (E : Int), ∀ (w : World) (e : Ending) (w' : World), applyPostS r c l L w e w' → (∃ v, e = .returned (.tuple #[v, .int .i64 E]) ∧ Sr w' v K) ∧ Below w.heap.size w w' := by
  by_cases h : Vd r c l.length ∧ (L.length : Int) = c ∧ ∀ k, k < L.length → (L.getD k []).length = (L.getD 0 []).length
  · exact ⟨applyL' l r.toNat c.toNat L, 0, fun w e w' hp => by unfold applyPostS at hp; rw [if_pos h] at hp; exact hp⟩
  · exact ⟨[], 1, fun w e w' hp => by unfold applyPostS at hp; rw [if_neg h] at hp; exact ⟨⟨_, hp.1, sr_nil0 _⟩, hp.2⟩⟩
set_option maxRecDepth 100000 in
set_option maxHeartbeats 6400000 in
theorem applies_walk0 {Ok : World → Prop} (P : PC3 Ok) (RA : ∀ (r c : Int) (v1 v2 : Value) (l : List Nat) (L : List (List Nat)) (w : World), Sl w v1 l → Sr w v2 L → (∀ k, k < L.length → (L.getD k []).length ≤ 1000000) → Calls Try.prog 32 #[mv r c v1, v2] w (applyPostS r c l L w))
    (r c : Int) (v : Value) (l : List Nat) (v5 : Value) (l5 : List (List Nat)) (w : World) (hr : I64 r) (hc : I64 c) (s : Sl w v l) (s5 : Sr w v5 l5) (ok : Ok w) : Calls Try.prog 10 #[mv r c v, v5] w fun e w' => e = .returned (.bool true) ∧ Below w.heap.size w w' := by
  obtain ⟨K, E, hd⟩ := apply_det r c l l5
  have p1 := fun w s s5 hm ok => (P.apply r c v v5 l l5 w hr hc s s5 hm ok).mono fun e w' => hd w e w'
  have p2 := fun w s s5 hm => (RA r c v v5 l l5 w s s5 hm).mono fun e w' => hd w e w'
  obtain ⟨a, cap, rfl, -, -⟩ := sl_form s
  obtain ⟨a5, c5, hv5, -, -⟩ := sr_form s5
  obtain ⟨n5, hn5⟩ : ∃ n, n = l5.length := ⟨_, rfl⟩
  rw [← hn5] at hv5
  subst hv5
  have N5 := Lib.hid hn5
  have P1 := Lib.hid p1
  have P2 := Lib.hid p2
  have AW := Lib.hid (fun w ok => awake_any P w ok)
  have ST := Lib.hid P.st
  have OK := Lib.hid ok
  have S5 := Lib.hid s5
  have hv := fun w => heavy_any r c a l.length cap w
  have gv := fun w => given_any r c a l.length cap w
  have HV := Lib.hid hv
  have GV := Lib.hid gv
  have tQ : MB (w.alloc (.cells #[.int .i64 r, .int .i64 c, .slice a l.length cap] 24)) 24 w.heap.size r c a l.length cap l := MB.mk' s
  have tB := (Below.refl w.heap.size w).alloc (Nat.le_refl _) (.cells #[.int .i64 r, .int .i64 c, .slice a l.length cap] 24)
  have tS := sr_below s5 tB
  clear S5
  have S5 := Lib.hid tS
  have Qm := Lib.hid tQ
  have B := Lib.hid tB
  clear p1 p2 hd ok s s5 hv gv tQ tB tS hr hc hn5
  unfold mv at *
  generalize hln : l.length = q at *
  clear hln
  go_enter Try.func10, Try.ntmps10
  go_wp2_with fail
  refine (HV.out _).mono ?_
  generalize w.alloc (.cells #[.int .i64 r, .int .i64 c, .slice a q cap] 24) = W0 at *
  rintro e w1 ⟨rfl, hb1⟩
  have tQm := Qm.out.later hb1
  have tS := sr_below S5.out hb1
  clear S5
  have S5 := Lib.hid tS
  clear tS
  have tB := bt B.out hb1
  clear B Qm
  have Qm := Lib.hid tQm
  have B := Lib.hid tB
  clear tB tQm
  clear hb1
  by_cases hq : 400 < q
  · have hd : decide (400 < q) = true := decide_eq_true hq
    go_wp2_with fail
    refine (AW.out w1 (ST.out _ _ OK.out B.out)).mono ?_
    rintro e w9 ⟨rfl, hb9⟩
    go_wp2_with fail
    go_ret
    exact ⟨rfl, bt B.out hb9⟩
  have hd : decide (400 < q) = false := decide_eq_false hq
  by_cases h40 : (40 : Int) < (n5 : Int)
  · go_wp2_with fail
    refine (AW.out w1 (ST.out _ _ OK.out B.out)).mono ?_
    rintro e w9 ⟨rfl, hb9⟩
    go_wp2_with fail
    go_ret
    exact ⟨rfl, bt B.out hb9⟩
  go_wp2_with fail
  go_loop [20] (fun t => ∃ k : Nat, k ≤ n5 ∧ t = .int .i64 (k : Int) ∧ ∀ i, i < k → (l5.getD i []).length ≤ 300) (fun t => n5 - (intOf t).toNat)
  case atStart => exact ⟨0, by omega, rfl, fun i hi => by omega⟩
  case round =>
    obtain ⟨k, hk, rfl, hle⟩ := hrel
    have LE := Lib.hid hle
    clear hle
    by_cases hkn : k < n5
    · obtain ⟨b5, o5, c5', hv5, hcc, hcm, hk5⟩ := sr_cells S5.out (by rw [← N5.out]; omega)
      obtain ⟨x5, hx5, hs5⟩ := hk5 k (by rw [← N5.out]; exact hkn)
      obtain ⟨ax, cx, hvx, _, _⟩ := sl_form hs5
      have ha5 : a5 = some ⟨b5, o5, none⟩ := by simp at hv5; exact hv5.1
      subst ha5
      subst hvx
      have p0 : (0 : Int) ≤ (k : Int) := by omega
      have p1 : (k : Int) < (n5 : Int) := by omega
      obtain ⟨m, hm⟩ : ∃ m, m = (l5.getD k []).length := ⟨_, rfl⟩
      rw [← hm] at hx5
      have HM := Lib.hid hm
      clear hv5 hk5 hs5 hcc hcm hm
      by_cases h3 : (300 : Int) < (m : Int)
      · go_wp2_with fail
        refine (AW.out w1 (ST.out _ _ OK.out B.out)).mono ?_
        rintro e w9 ⟨rfl, hb9⟩
        go_wp2_with fail
        go_ret
        exact ⟨rfl, bt B.out hb9⟩
      · go_wp2_with fail
        go_round
        case rel =>
          refine ⟨k + 1, by omega, by go_num, fun i hi => ?_⟩
          by_cases e : i < k
          · exact LE.out i e
          · obtain rfl : i = k := by omega
            rw [← HM.out]; omega
        case measure => simp [intOf]; omega
    · obtain rfl : k = n5 := by omega
      have BD : Hid (∀ i, i < l5.length → (l5.getD i []).length ≤ 1000000) := fun i hi => Nat.le_trans (LE.out i (by rw [N5.out]; exact hi)) (by decide)
      clear LE
      obtain ⟨Qmc0, Qmc1, Qmc2⟩ := Qm.out.cells
      go_wp2_with fail
      clear Qmc0 Qmc1 Qmc2
      refine (GV.out w1).mono ?_
      rintro e W2 ⟨rfl, hb2⟩
      have tQm := Qm.out.later hb2
      have tS := sr_below S5.out hb2
      clear S5
      have S5 := Lib.hid tS
      clear tS
      have tB := bt B.out hb2
      clear B Qm
      have Qm := Lib.hid tQm
      have B := Lib.hid tB
      clear tB tQm
      clear hb2
      go_wp2_with fail
      refine (P1.out W2 Qm.out.sl S5.out BD.out (ST.out _ _ OK.out B.out)).mono ?_
      rintro e W3 ⟨⟨v3, rfl, hs3⟩, hb3⟩
      obtain ⟨d3, e3, hv3, -, -⟩ := sr_form hs3
      obtain ⟨n3, hn3⟩ : ∃ n, n = K.length := ⟨_, rfl⟩
      rw [← hn3] at hv3
      subst hv3
      clear hn3
      have tQm := Qm.out.later hb3
      have tS := sr_below S5.out hb3
      clear S5
      have S5 := Lib.hid tS
      clear tS
      have tB := bt B.out hb3
      clear B Qm
      have Qm := Lib.hid tQm
      have B := Lib.hid tB
      clear tB tQm
      have O1 := Lib.hid hs3
      clear hs3 hb3
      obtain ⟨Qmc0, Qmc1, Qmc2⟩ := Qm.out.cells
      go_wp2_with fail
      clear Qmc0 Qmc1 Qmc2
      refine (P2.out W3 Qm.out.sl S5.out BD.out).mono ?_
      rintro e W4 ⟨⟨v4, rfl, hs4⟩, hb4⟩
      obtain ⟨d4, e4, hv4, -, -⟩ := sr_form hs4
      obtain ⟨n4, hn4⟩ : ∃ n, n = K.length := ⟨_, rfl⟩
      rw [← hn4] at hv4
      subst hv4
      clear hn4
      have tQm := Qm.out.later hb4
      have tS := sr_below S5.out hb4
      clear S5
      have S5 := Lib.hid tS
      clear tS
      have tS := sr_below O1.out hb4
      clear O1
      have O1 := Lib.hid tS
      clear tS
      have tB := bt B.out hb4
      clear B Qm
      have Qm := Lib.hid tQm
      have B := Lib.hid tB
      clear tB tQm
      have O2 := Lib.hid hs4
      clear hs4 hb4
      go_wp2_with fail
      refine (rsame_any _ _ _ _ W4 O1.out O2.out).mono ?_
      rw [decide_eq_true rfl]
      rintro e W5 ⟨rfl, hb5⟩
      have tQm := Qm.out.later hb5
      have tS := sr_below S5.out hb5
      clear S5
      have S5 := Lib.hid tS
      clear tS
      have tS := sr_below O1.out hb5
      clear O1
      have O1 := Lib.hid tS
      clear tS
      have tS := sr_below O2.out hb5
      clear O2
      have O2 := Lib.hid tS
      clear tS
      have tB := bt B.out hb5
      clear B Qm
      have Qm := Lib.hid tQm
      have B := Lib.hid tB
      clear tB tQm
      clear hb5
      go_wp2_with fail
      refine (AW.out W5 (ST.out _ _ OK.out B.out)).mono ?_
      rintro e w6 ⟨rfl, hb6⟩
      go_wp2_with fail
      go_ret
      exact ⟨rfl, bt B.out hb6⟩
end Go.Proofs.Ytcckhgadgiaofaa.Gf
