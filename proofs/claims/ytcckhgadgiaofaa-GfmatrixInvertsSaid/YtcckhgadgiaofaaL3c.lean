/- What is proved here: the walk of the law GfmatrixInverts. Conditions: the contracts PC3, and that of the reference's Invert. -/
import Derived.Test.YtcckhgadgiaofaaL3a
import Derived.Test.YtcckhgadgiaofaaL3b
namespace Go.Proofs.Ytcckhgadgiaofaa.Gf
open Go Go.ChangeShapes Go.WideShapes Go.ChangeAt Go.RowKit Go.Proofs.Ytcckhgadgiaofaa.By

/-- Whatever keeps invPostS answers the same. -/
theorem inv_det (r c : Int) (l : List Nat) (hl : ∀ b ∈ l, b < 256) : ∃ (R C : Int) (L : List Nat) (E : Int), ∀ (w : World) (e : Ending) (w' : World), invPostS r c l w e w' → MS w R C L E e w' := by
  unfold invPostS
  by_cases h : Vd r c l.length ∧ r = c
  · have hM : Bd r.toNat r.toNat (ent l r.toNat) := ent_bd hl
    by_cases hx : ∃ X, Inv2 r.toNat (ent l r.toNat) X
    · obtain ⟨X, hX⟩ := hx
      refine ⟨r, r, flat r.toNat r.toNat X, 0, fun w e w' hp => ?_⟩
      rw [if_pos h] at hp
      rcases hp with ⟨Y, hY, hp⟩ | ⟨hs, _⟩
      · rw [flat_ext (inv_unique hM hX hY)]
        exact hp
      · exact absurd hs (inv_not_sing hM hX)
    · refine ⟨0, 0, [], 14, fun w e w' hp => ?_⟩
      rw [if_pos h] at hp
      rcases hp with ⟨Y, hY, _⟩ | ⟨_, hp⟩
      · exact absurd ⟨Y, hY⟩ hx
      · exact hp
  · refine ⟨0, 0, [], 1, fun w e w' hp => ?_⟩
    rw [if_neg h] at hp
    exact hp
set_option maxRecDepth 100000 in
set_option maxHeartbeats 3200000 in
theorem inverts_walk {Ok : World → Prop} (P : PC3 Ok) (RI : ∀ (r c : Int) (v : Value) (l : List Nat) (w : World), I64 r → I64 c → Sl w v l → Calls Try.prog 27 #[mv r c v] w (invPostS r c l w))
    (r c : Int) (v : Value) (l : List Nat) (w : World) (hr : I64 r) (hc : I64 c) (s : Sl w v l) (ok : Ok w) : Calls Try.prog 5 #[mv r c v] w fun e w' => e = .returned (.bool true) ∧ Below w.heap.size w w' := by
  obtain ⟨R, C, L, E, hdet⟩ := inv_det r c l s.1
  have p1 := fun w v s ok => (P.invert r c v l w hr hc s ok).mono fun e w' => hdet w e w'
  have p2 := fun w v s => (RI r c v l w hr hc s).mono fun e w' => hdet w e w'
  have P1 := Lib.hid p1
  have P2 := Lib.hid p2
  have AW := Lib.hid (fun w ok => awake_any P w ok)
  have ST := Lib.hid P.st
  have OK := Lib.hid ok
  have S := Lib.hid s
  obtain ⟨a, cap, rfl, -, -⟩ := sl_form s
  have hv := fun w => heavy_any r c a l.length cap w
  have gv := fun w => given_any r c a l.length cap w
  have HV := Lib.hid hv
  have GV := Lib.hid gv
  have b0 := (Below.refl w.heap.size w).alloc (Nat.le_refl _) (.cells #[.int .i64 r, .int .i64 c, .slice a l.length cap] 24)
  have q0 := heap_alloc_new w (.cells #[.int .i64 r, .int .i64 c, .slice a l.length cap] 24)
  have z0 : (w.alloc (.cells #[.int .i64 r, .int .i64 c, .slice a l.length cap] 24)).heap.size = w.heap.size + 1 := by simp
  have B0 := Lib.hid b0
  have Q0 := Lib.hid q0
  have Z0 := Lib.hid z0
  clear p1 p2 hdet P RI ok s hv gv b0 q0 z0
  unfold mv at *
  generalize l.length = n at *
  go_enter Try.func5, Try.ntmps5
  go_wp2_with fail
  refine (HV.out _).mono ?_
  generalize w.alloc (.cells #[.int .i64 r, .int .i64 c, .slice a n cap] 24) = W0 at *
  rintro e w1 ⟨rfl, hb1⟩
  have B1 := Lib.hid (bt B0.out hb1)
  obtain ⟨x0, x1, x2⟩ := row_cells ((hb1.block w.heap.size (by rw [Z0.out]; omega)).trans Q0.out)
  by_cases hn : 400 < n
  · have hd : decide (400 < n) = true := decide_eq_true hn
    go_wp2_with fail
    refine (AW.out w1 (ST.out _ _ OK.out B1.out)).mono ?_
    rintro e w2 ⟨rfl, hb2⟩
    go_wp2_with fail
    go_ret
    exact ⟨rfl, bt B1.out hb2⟩
  · have hd : decide (400 < n) = false := decide_eq_false hn
    have Q1 := Lib.hid ((hb1.block w.heap.size (by rw [Z0.out]; omega)).trans Q0.out)
    have Z1 := Lib.hid (show w.heap.size < w1.heap.size by have := hb1.size; have := Z0.out; omega)
    clear hb1
    go_wp2_with fail
    refine (GV.out _).mono ?_
    rintro e w2 ⟨rfl, hb2⟩
    have B2' := Lib.hid (bt B1.out hb2)
    have Q2 := Lib.hid ((hb2.block w.heap.size Z1.out).trans Q1.out)
    have Z2 := Lib.hid (show w.heap.size < w2.heap.size by have := hb2.size; have := Z1.out; omega)
    clear hb2 x0 x1 x2
    go_wp2_with fail
    refine (P1.out w2 _ (sl_below S.out B2'.out) (ST.out _ _ OK.out B2'.out)).mono ?_
    unfold MS mv
    rintro e w3 ⟨⟨s3, rfl, hs3⟩, hb3⟩
    obtain ⟨a3, c3, hv3, -, -⟩ := sl_form hs3
    subst hv3
    have hq3 := (hb3.block w.heap.size Z2.out).trans Q2.out
    have hz3 : w.heap.size < w3.heap.size := by have := hb3.size; have := Z2.out; omega
    have hb3' := bt B2'.out hb3
    have m3 := (Below.refl w3.heap.size w3).alloc (Nat.le_refl _) (.cells #[.int .i64 R, .int .i64 C, .slice a3 L.length c3] 27)
    obtain ⟨y0, y1, y2⟩ := row_cells ((m3.block w.heap.size hz3).trans hq3)
    have hne : ¬ w.heap.size = w3.heap.size := by omega
    have Q4 := Lib.hid ((m3.block w.heap.size hz3).trans hq3)
    have S4 := Lib.hid (sl_below hs3 m3)
    have B4 := Lib.hid (bt hb3' m3)
    have R4 := Lib.hid (heap_alloc_new w3 (.cells #[.int .i64 R, .int .i64 C, .slice a3 L.length c3] 27))
    have z4 : (w3.alloc (.cells #[.int .i64 R, .int .i64 C, .slice a3 L.length c3] 27)).heap.size = w3.heap.size + 1 := by simp
    have Z4 := Lib.hid z4
    clear hq3 hb3 hb3' m3 hs3 z4 hz3
    generalize L.length = n3 at *
    go_wp2_with fail
    generalize w3.alloc (.cells #[.int .i64 R, .int .i64 C, .slice a3 n3 c3] 27) = W4 at *
    refine (P2.out W4 _ (sl_below S.out B4.out)).mono ?_
    unfold MS mv
    rintro e w5 ⟨⟨s5, rfl, hs5⟩, hb5⟩
    obtain ⟨a5, c5, hv5, -, -⟩ := sl_form hs5
    have hn5 : ∃ n5, n5 = L.length := ⟨_, rfl⟩
    obtain ⟨n5, hn5⟩ := hn5
    rw [← hn5] at hv5
    subst hv5
    clear hn5
    have m5 := (Below.refl w5.heap.size w5).alloc (Nat.le_refl _) (.cells #[.int .i64 R, .int .i64 C, .slice a5 n5 c5] 24)
    have hz5 : w3.heap.size < w5.heap.size := by have := hb5.size; have := Z4.out; omega
    have r4 := (m5.block w3.heap.size hz5).trans ((hb5.block w3.heap.size (by rw [Z4.out]; omega)).trans R4.out)
    have hne5 : ¬ w3.heap.size = w5.heap.size := by omega
    obtain ⟨u0, u1, u2⟩ := row_cells r4
    have r5 := heap_alloc_new w5 (.cells #[.int .i64 R, .int .i64 C, .slice a5 n5 c5] 24)
    obtain ⟨t0, t1, t2⟩ := row_cells r5
    have S5 := Lib.hid (sl_below hs5 m5)
    have S4' := Lib.hid (sl_below (sl_below S4.out hb5) m5)
    have B6 := Lib.hid (bt (bt B4.out hb5) m5)
    clear hs5 hb5 m5 hz5 r4 r5 y0 y1 y2 R4 Q4 S4
    go_wp2_with fail
    generalize w5.alloc (.cells #[.int .i64 R, .int .i64 C, .slice a5 n5 c5] 24) = W6 at *
    refine (same_any R C R C _ _ L L W6 S4'.out S5.out).mono ?_
    rw [decide_eq_true (show R = R ∧ C = C ∧ L = L from ⟨rfl, rfl, rfl⟩)]
    rintro e w7 ⟨rfl, hb7⟩
    have B7 := Lib.hid (bt B6.out hb7)
    clear hb7 t0 t1 t2 u0 u1 u2
    go_wp2_with fail
    refine (AW.out w7 (ST.out _ _ OK.out B7.out)).mono ?_
    rintro e w8 ⟨rfl, hb8⟩
    go_wp2_with fail
    go_ret
    exact ⟨rfl, bt B7.out hb8⟩
end Go.Proofs.Ytcckhgadgiaofaa.Gf
