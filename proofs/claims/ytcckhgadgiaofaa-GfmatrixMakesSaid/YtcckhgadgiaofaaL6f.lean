/- What is proved here: the walk of the law GfmatrixMakes. Condition: PC3. -/
import Derived.Test.YtcckhgadgiaofaaL5
namespace Go.Proofs.Ytcckhgadgiaofaa.Gf
open Go Go.ChangeShapes Go.WideShapes Go.ChangeAt Go.RowKit Go.Sort Go.Proofs.Ytcckhgadgiaofaa.By Go.Proofs.Ytcckhgadgiaofaa.Qt

theorem rident_any (n : Int) (w : World) : Calls Try.prog 15 #[.int .i64 n] w (identPostS n w) := by
  unfold identPostS
  by_cases h : Sized n n
  · obtain ⟨m, rfl⟩ := Int.eq_ofNat_of_zero_le (show 0 ≤ n by unfold Sized at h; omega)
    rw [if_pos h]
    exact (rident_good m w h).mono fun _ _ h => h.ms
  · rw [if_neg h]
    exact (rident_bad n w h).mono fun _ _ h => h.ms
theorem rvander_any (r c : Int) (w : World) : Calls Try.prog 17 #[.int .i64 r, .int .i64 c] w (vanderPostS r c w) := by
  unfold vanderPostS
  by_cases h : Sized r c
  · obtain ⟨m, rfl⟩ := Int.eq_ofNat_of_zero_le (show 0 ≤ r by unfold Sized at h; omega)
    obtain ⟨n, rfl⟩ := Int.eq_ofNat_of_zero_le (show 0 ≤ c by unfold Sized at h; omega)
    rw [if_pos h]
    exact (rvander_good m n w h).mono fun _ _ h => h.ms
  · rw [if_neg h]
    exact (rvander_bad r c w h).mono fun _ _ h => h.ms
theorem ident_det (n : Int) : ∃ (R C : Int) (L : List Nat) (E : Int), ∀ (w : World) (e : Ending) (w' : World), identPostS n w e w' → MS w R C L E e w' := by
  by_cases h : Sized n n
  · exact ⟨n, n, _, 0, fun w e w' hp => by unfold identPostS at hp; rw [if_pos h] at hp; exact hp⟩
  · exact ⟨0, 0, [], 1, fun w e w' hp => by unfold identPostS at hp; rw [if_neg h] at hp; exact hp⟩
theorem vander_det (r c : Int) : ∃ (R C : Int) (L : List Nat) (E : Int), ∀ (w : World) (e : Ending) (w' : World), vanderPostS r c w e w' → MS w R C L E e w' := by
  by_cases h : Sized r c
  · exact ⟨r, c, _, 0, fun w e w' hp => by unfold vanderPostS at hp; rw [if_pos h] at hp; exact hp⟩
  · exact ⟨0, 0, [], 1, fun w e w' hp => by unfold vanderPostS at hp; rw [if_neg h] at hp; exact hp⟩
theorem regrown_bel {P : Program} {f : FuncId} {args : Array Value} {w : World} {v : Value} (h : ∀ w', Below w.heap.size w w' → Calls P f args w' fun e w'' => e = .returned v ∧ Below w'.heap.size w' w'') : ∀ d os, Calls P f args (grow (redrawn w d) os) fun e w'' => e = .returned v ∧ ∃ p : Regrown, w'' = grow (redrawn w p.d) p.os := fun d os => Calls.regrown_of (h _ (below_regrown w d os))
set_option maxRecDepth 100000 in
set_option maxHeartbeats 6400000 in
theorem makes_walk {Ok : World → Prop} (P : PC3 Ok) (r c : Int) (v : Value) (l : List Nat) (n m : Int) (w : World) (hr : I64 r) (hc : I64 c) (s : Sl w v l) (hn : I64 n) (hm : I64 m) (ok : Ok w) : Calls Try.prog 3 #[mv r c v, .int .i64 n, .int .i64 m] w fun e w' => e = .returned (.bool true) ∧ Below w.heap.size w w' := by
  obtain ⟨R1, C1, L1, E1, hd1⟩ := ident_det n
  obtain ⟨R2, C2, L2, E2, hd2⟩ := vander_det n m
  have p1 := fun w ok => (P.ident n w hn ok).mono fun e w' => hd1 w e w'
  have p2 := fun w => (rident_any n w).mono fun e w' => hd1 w e w'
  have p3 := fun w ok => (P.vander n m w hn hm ok).mono fun e w' => hd2 w e w'
  have p4 := fun w => (rvander_any n m w).mono fun e w' => hd2 w e w'
  have P1 := Lib.hid p1
  have P2 := Lib.hid p2
  have P3 := Lib.hid p3
  have P4 := Lib.hid p4
  have pv := fun w s ok => P.valid r c v l w hr hc s ok
  have AW := Lib.hid (fun w ok => awake_any P w ok)
  have ST := Lib.hid P.st
  have OK := Lib.hid ok
  have S := Lib.hid s
  obtain ⟨a, cap, rfl, -, -⟩ := sl_form s
  have hv := fun w => heavy_any r c a l.length cap w
  have gv := fun w => given_any r c a l.length cap w
  have rv := fun w => rvalid_any r c a l.length cap w
  have HV := Lib.hid hv
  have GV := Lib.hid gv
  have RV := Lib.hid rv
  have PV := Lib.hid pv
  have tQ : MB (w.alloc (.cells #[.int .i64 r, .int .i64 c, .slice a l.length cap] 24)) 24 w.heap.size r c a l.length cap l := MB.mk' s
  have tB := (Below.refl w.heap.size w).alloc (Nat.le_refl _) (.cells #[.int .i64 r, .int .i64 c, .slice a l.length cap] 24)
  have Qm := Lib.hid tQ
  have B := Lib.hid tB
  clear p1 p2 p3 p4 hd1 hd2 pv ok s hv gv rv tQ tB hr hc hn hm
  unfold mv at *
  generalize hvd : decide (Vd r c l.length) = vd at *
  generalize hln : l.length = q at *
  clear hvd
  go_enter Try.func3, Try.ntmps3
  go_wp2_with fail
  refine (HV.out _).mono ?_
  generalize w.alloc (.cells #[.int .i64 r, .int .i64 c, .slice a q cap] 24) = W0 at *
  rintro e w1 ⟨rfl, hb1⟩
  have tQm := Qm.out.later hb1
  have tB := bt B.out hb1
  clear B Qm
  have Qm := Lib.hid tQm
  have B := Lib.hid tB
  clear tB tQm
  clear hb1
  by_cases hn : 400 < q
  · have hd : decide (400 < q) = true := decide_eq_true hn
    go_wp2_with fail
    refine (AW.out w1 (ST.out _ _ OK.out B.out)).mono ?_
    rintro e w9 ⟨rfl, hb9⟩
    go_wp2_with fail
    go_ret
    exact ⟨rfl, bt B.out hb9⟩
  have hd : decide (400 < q) = false := decide_eq_false hn
  go_wp2_with fail
  refine (P1.out w1 (ST.out _ _ OK.out B.out)).mono ?_
  unfold MS mv
  rintro e w2 ⟨⟨s2, rfl, hs2⟩, hb2⟩
  obtain ⟨a2, c2, hv2, -, -⟩ := sl_form hs2
  obtain ⟨n2, hn2⟩ : ∃ n, n = (L1).length := ⟨_, rfl⟩
  rw [← hn2] at hv2
  subst hv2
  clear hn2
  have al2 := (Below.refl w2.heap.size w2).alloc (Nat.le_refl _) (.cells #[.int .i64 R1, .int .i64 C1, .slice a2 n2 c2] 27)
  have tnew : MB (w2.alloc (.cells #[.int .i64 R1, .int .i64 C1, .slice a2 n2 c2] 27)) 27 w2.heap.size R1 C1 a2 n2 c2 (L1) := MB.mk' hs2
  have tQm := (Qm.out.later hb2).later al2
  have tB := bt (bt B.out hb2) al2
  clear B Qm
  have Qm := Lib.hid tQm
  have B := Lib.hid tB
  clear tB tQm
  have M1 := Lib.hid tnew
  clear tnew al2 hb2 hs2
  go_wp2_with fail
  generalize w2.alloc (.cells #[.int .i64 R1, .int .i64 C1, .slice a2 n2 c2] 27) = W2 at *
  refine (P2.out W2).mono ?_
  unfold MS mv
  rintro e w3 ⟨⟨s3, rfl, hs3⟩, hb3⟩
  obtain ⟨a3, c3, hv3, -, -⟩ := sl_form hs3
  obtain ⟨n3, hn3⟩ : ∃ n, n = (L1).length := ⟨_, rfl⟩
  rw [← hn3] at hv3
  subst hv3
  clear hn3
  have al3 := (Below.refl w3.heap.size w3).alloc (Nat.le_refl _) (.cells #[.int .i64 R1, .int .i64 C1, .slice a3 n3 c3] 24)
  have tnew : MB (w3.alloc (.cells #[.int .i64 R1, .int .i64 C1, .slice a3 n3 c3] 24)) 24 w3.heap.size R1 C1 a3 n3 c3 (L1) := MB.mk' hs3
  have tQm := (Qm.out.later hb3).later al3
  have tM1 := (M1.out.later hb3).later al3
  have tB := bt (bt B.out hb3) al3
  clear B Qm M1
  have Qm := Lib.hid tQm
  have M1 := Lib.hid tM1
  have B := Lib.hid tB
  clear tB tQm tM1
  have M2 := Lib.hid tnew
  clear tnew al3 hb3 hs3
  go_wp2_with fail
  generalize w3.alloc (.cells #[.int .i64 R1, .int .i64 C1, .slice a3 n3 c3] 24) = W3 at *
  refine (P3.out W3 (ST.out _ _ OK.out B.out)).mono ?_
  unfold MS mv
  rintro e w4 ⟨⟨s4, rfl, hs4⟩, hb4⟩
  obtain ⟨a4, c4, hv4, -, -⟩ := sl_form hs4
  obtain ⟨n4, hn4⟩ : ∃ n, n = (L2).length := ⟨_, rfl⟩
  rw [← hn4] at hv4
  subst hv4
  clear hn4
  have al4 := (Below.refl w4.heap.size w4).alloc (Nat.le_refl _) (.cells #[.int .i64 R2, .int .i64 C2, .slice a4 n4 c4] 27)
  have tnew : MB (w4.alloc (.cells #[.int .i64 R2, .int .i64 C2, .slice a4 n4 c4] 27)) 27 w4.heap.size R2 C2 a4 n4 c4 (L2) := MB.mk' hs4
  have tQm := (Qm.out.later hb4).later al4
  have tM1 := (M1.out.later hb4).later al4
  have tM2 := (M2.out.later hb4).later al4
  have tB := bt (bt B.out hb4) al4
  clear B Qm M1 M2
  have Qm := Lib.hid tQm
  have M1 := Lib.hid tM1
  have M2 := Lib.hid tM2
  have B := Lib.hid tB
  clear tB tQm tM1 tM2
  have M3 := Lib.hid tnew
  clear tnew al4 hb4 hs4
  go_wp2_with fail
  generalize w4.alloc (.cells #[.int .i64 R2, .int .i64 C2, .slice a4 n4 c4] 27) = W4 at *
  refine (P4.out W4).mono ?_
  unfold MS mv
  rintro e w5 ⟨⟨s5, rfl, hs5⟩, hb5⟩
  obtain ⟨a5, c5, hv5, -, -⟩ := sl_form hs5
  obtain ⟨n5, hn5⟩ : ∃ n, n = (L2).length := ⟨_, rfl⟩
  rw [← hn5] at hv5
  subst hv5
  clear hn5
  have al5 := (Below.refl w5.heap.size w5).alloc (Nat.le_refl _) (.cells #[.int .i64 R2, .int .i64 C2, .slice a5 n5 c5] 24)
  have tnew : MB (w5.alloc (.cells #[.int .i64 R2, .int .i64 C2, .slice a5 n5 c5] 24)) 24 w5.heap.size R2 C2 a5 n5 c5 (L2) := MB.mk' hs5
  have tQm := (Qm.out.later hb5).later al5
  have tM1 := (M1.out.later hb5).later al5
  have tM2 := (M2.out.later hb5).later al5
  have tM3 := (M3.out.later hb5).later al5
  have tB := bt (bt B.out hb5) al5
  clear B Qm M1 M2 M3
  have Qm := Lib.hid tQm
  have M1 := Lib.hid tM1
  have M2 := Lib.hid tM2
  have M3 := Lib.hid tM3
  have B := Lib.hid tB
  clear tB tQm tM1 tM2 tM3
  have M4 := Lib.hid tnew
  clear tnew al5 hb5 hs5
  go_wp2_with fail
  generalize w5.alloc (.cells #[.int .i64 R2, .int .i64 C2, .slice a5 n5 c5] 24) = W5 at *
  obtain ⟨z0, z1, z2⟩ := cells3 Qm.out.blk
  obtain ⟨x0, x1, x2⟩ := cells3 M1.out.blk
  obtain ⟨y0, y1, y2⟩ := cells3 M2.out.blk
  obtain ⟨u0, u1, u2⟩ := cells3 M3.out.blk
  obtain ⟨t0, t1, t2⟩ := cells3 M4.out.blk
  have G1 := Lib.hid (regrown_bel (w := W5) fun w' _ => GV.out w')
  have G2 := Lib.hid (regrown_bel (w := W5) fun w' hb => PV.out w' (sl_below Qm.out.sl hb) (ST.out _ _ OK.out (bt B.out hb)))
  have G3 := Lib.hid (regrown_bel (w := W5) fun w' _ => RV.out w')
  have hs1 := regrown_bel (w := W5) fun w' hb => same_any R1 C1 R1 C1 _ _ L1 L1 w' (sl_below M1.out.sl hb) (sl_below M2.out.sl hb)
  have hs2 := regrown_bel (w := W5) fun w' hb => same_any R2 C2 R2 C2 _ _ L2 L2 w' (sl_below M3.out.sl hb) (sl_below M4.out.sl hb)
  rw [decide_eq_true (show R1 = R1 ∧ C1 = C1 ∧ L1 = L1 from ⟨rfl, rfl, rfl⟩)] at hs1
  rw [decide_eq_true (show R2 = R2 ∧ C2 = C2 ∧ L2 = L2 from ⟨rfl, rfl, rfl⟩)] at hs2
  have G4 := Lib.hid hs1
  have G5 := Lib.hid hs2
  have G6 := Lib.hid (regrown_bel (w := W5) fun w' hb => AW.out w' (ST.out _ _ OK.out (bt B.out hb)))
  clear hs1 hs2
  unfold mv at G4 G5
  refine wp_region_bl (by kernel_rfl) (by kernel_rfl) ?_
  quiet_step (fail)
  quiet_step ((go_at_call 19; with_reducible exact G1.out _ _))
  quiet_step ((go_at_call 18; with_reducible exact G2.out _ _))
  quiet_step (fail)
  quiet_step ((go_at_call 20; with_reducible exact G3.out _ _))
  repeat (quiet_step (fail))
  quiet_step ((go_at_call 21; with_reducible exact G4.out _ _))
  repeat (quiet_step (fail))
  quiet_step ((go_at_call 21; with_reducible exact G5.out _ _))
  repeat (quiet_step (fail))
  quiet_step ((go_at_call 13; with_reducible exact G6.out _ _))
  repeat (quiet_step (fail))
  refine wpQuiet_nil ?_
  intro w9 hb9
  go_wp2_with fail
  go_ret
  exact ⟨rfl, bt B.out hb9⟩
end Go.Proofs.Ytcckhgadgiaofaa.Gf
