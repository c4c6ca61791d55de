/- What is proved here: the walk of the law RsCodes. No condition. -/
import Derived.Test.YtppfdaiehdbafaaT4d
namespace Go.Proofs.Ytppfdaiehdbafaa.Gf
open Go Go.ChangeShapes Go.WideShapes Go.ChangeAt Go.RowKit Go.Sort Go.Proofs.Ytppfdaiehdbafaa.By Go.Proofs.Ytppfdaiehdbafaa.Qt

/-- The law's remainder, never negative. -/
def rmd (i : Int) (R : Nat) : Nat := (i % (R : Int)).toNat
theorem rmd_lt (i : Int) {R : Nat} (h : 1 ≤ R) : rmd i R < R := by
  have h1 := Int.emod_lt_of_pos i (show (0 : Int) < (R : Int) by omega)
  have h2 := Int.emod_nonneg i (show (R : Int) ≠ 0 by omega)
  unfold rmd
  omega
theorem rmd_eq (i : Int) {R : Nat} (h : 1 ≤ R) : (i.tmod (R : Int) + (R : Int)).tmod (R : Int) = ((rmd i R : Nat) : Int) ∧ -(R : Int) < i.tmod (R : Int) ∧ i.tmod (R : Int) < (R : Int) := by
  have hR : (0 : Int) < (R : Int) := by omega
  have b1 : -(R : Int) < i.tmod (R : Int) ∧ i.tmod (R : Int) < (R : Int) := by
    have h1 := Int.tmod_lt_of_pos i hR
    have h2 := Int.lt_tmod_of_pos i hR
    exact ⟨h2, h1⟩
  refine ⟨?_, b1⟩
  rw [Int.tmod_eq_emod_of_nonneg (by omega), Int.add_emod_right]
  have e : (i.tmod (R : Int)) % (R : Int) = i % (R : Int) := by
    rw [Int.emod_tmod_comm i (R : Int)]
  rw [e]
  have h2 := Int.emod_nonneg i (show (R : Int) ≠ 0 by omega)
  unfold rmd
  omega
where Int.emod_tmod_comm (i R : Int) : (i.tmod R) % R = i % R := by
        have h := Int.tmod_add_mul_tdiv i R
        have e : i % R = (i.tmod R + R * i.tdiv R) % R := by rw [h]
        rw [e, Int.add_mul_emod_self_left]
theorem rmd6 (i : Int) : ∃ t : Int, ∃ x : Nat, i.tmod 6 = t ∧ -6 < t ∧ t < 6 ∧ (t + 6).tmod 6 = (x : Int) ∧ x < 6 := ⟨i.tmod 6, rmd i 6, rfl, (rmd_eq i (R := 6) (by decide)).2.1, (rmd_eq i (R := 6) (by decide)).2.2, (rmd_eq i (R := 6) (by decide)).1, rmd_lt i (by decide)⟩
theorem rmd5 (i : Int) : ∃ t : Int, ∃ x : Nat, i.tmod 5 = t ∧ -5 < t ∧ t < 5 ∧ (t + 5).tmod 5 = (x : Int) ∧ x < 5 := ⟨i.tmod 5, rmd i 5, rfl, (rmd_eq i (R := 5) (by decide)).2.1, (rmd_eq i (R := 5) (by decide)).2.2, (rmd_eq i (R := 5) (by decide)).1, rmd_lt i (by decide)⟩
theorem other6 {x y : Nat} (hx : x < 6) (hy : y < 5) : ((x : Int) + 1 + (y : Int)).tmod 6 = (((x + 1 + y) % 6 : Nat) : Int) ∧ (x + 1 + y) % 6 < 6 ∧ (x + 1 + y) % 6 ≠ x := by
  rw [Int.tmod_eq_emod_of_nonneg (by omega)]
  omega
/-- The numbers below k but for x and y. -/
def skip2 (x y k : Nat) : List Nat := (List.range k).filter fun i => i != x && i != y
theorem skip2_succ (x y k : Nat) : skip2 x y (k + 1) = if k ≠ x ∧ k ≠ y then skip2 x y k ++ [k] else skip2 x y k := by
  unfold skip2
  rw [List.range_succ, List.filter_append]
  by_cases e : k ≠ x ∧ k ≠ y
  · rw [if_pos e, List.filter_cons_of_pos (by simpa using e)]
    rfl
  · rw [if_neg e, List.filter_cons_of_neg (by simpa using e)]
    simp
theorem skip2_good : ∀ x, x < 6 → ∀ y, y < 6 → y ≠ x → Good (skip2 x y 6) := by decide +kernel
theorem skip2_len (x y k : Nat) : (skip2 x y k).length ≤ k := by
  have := List.length_filter_le (fun i => i != x && i != y) (List.range k)
  simpa [skip2] using this
theorem skip2_lt (x y k : Nat) : ∀ q ∈ skip2 x y k, q < k := fun q hq => by
  unfold skip2 at hq
  simp only [List.mem_filter, List.mem_range] at hq
  exact hq.1
/-- Numbers in memory of the call's own. -/
structure Nums (w wr : World) (v : Value) (zs : List Nat) : Prop where
  n : wr.ownsRow w.heap.size 3 1 v zs.length ((zi zs).map fun z => .int .i64 z)
  b : Below w.heap.size w wr
theorem nums_nil {w wr : World} (h : Below w.heap.size w wr) : Nums w wr (.slice none 0 0) [] := ⟨World.ownsRow_nil _ _ _ _, h⟩
theorem Nums.later {w wr w' : World} {v : Value} {zs : List Nat} (h : Nums w wr v zs) (hb : Below wr.heap.size wr w') : Nums w w' v zs := ⟨ownsRow_mono h.n hb, bt h.b hb⟩
theorem Nums.push {w wr w1 : World} {v v' : Value} {zs : List Nat} {k : Nat} {o : Obj} (h : Nums w wr v zs) (hg : (wr.alloc o).grownBy w1 v.ownBlock)
    (hn : w1.ownsRow w.heap.size 3 1 v' (zs.length + 1) (((zi zs).map fun z => .int .i64 z) ++ [.int .i64 (k : Int)])) : Nums w w1 v' (zs ++ [k]) :=
  ⟨by rw [zi_map_snoc]; simpa using hn, (h.b.alloc h.b.size o).grown hg (by have := h.b.size; simp; omega) fun q hq => (h.n.lt q hq).1⟩
theorem Nums.si {w wr : World} {v : Value} {zs : List Nat} (h : Nums w wr v zs) (hz : ∀ x ∈ zs, x < 256) : Si wr v (zi zs) := owns_si hz h.n
set_option maxRecDepth 100000 in
set_option maxHeartbeats 6400000 in
theorem codes_walk (n0 n1 : Int) (w : World) : Calls Try.prog 3 #[.int .i64 n0, .int .i64 n1] w fun e w' => e = .returned (.bool true) ∧ Below w.heap.size w w' := by
  go_enter Try.func3, Try.ntmps3
  go_wp2_with fail
  refine (code_any w).mono ?_
  unfold CM mv
  rintro e w1 ⟨⟨s1, rfl, hs1⟩, hb1⟩
  obtain ⟨a1, c1, hv1, -, -⟩ := sl_form hs1
  rw [show (flat 6 4 (vX [0, 1, 2, 3])).length = 24 by rw [flat_length]] at hv1
  subst hv1
  have S1 := Lib.hid hs1
  have B := Lib.hid hb1
  clear hs1 hb1
  go_wp2_with fail
  refine (rcode_any w1).mono ?_
  unfold CM mv
  rintro e w2 ⟨⟨s2, rfl, hs2⟩, hb2⟩
  obtain ⟨a2, c2, hv2, -, -⟩ := sl_form hs2
  rw [show (flat 6 4 (vX [0, 1, 2, 3])).length = 24 by rw [flat_length]] at hv2
  subst hv2
  have hS1 := sl_below S1.out hb2
  obtain ⟨r5, r6, hz, hal⟩ := two w2 (.cells #[.int .i64 6, .int .i64 4, .slice a1 24 c1] 24) (.cells #[.int .i64 6, .int .i64 4, .slice a2 24 c2] 26)
  have hc1 := conv_sl (sl_below hS1 hal)
  have hc2 := conv_sl (sl_below hs2 hal)
  have M5 : Hid (MB ((w2.alloc (.cells #[.int .i64 6, .int .i64 4, .slice a1 24 c1] 24)).alloc (.cells #[.int .i64 6, .int .i64 4, .slice a2 24 c2] 26)) 24 w2.heap.size 6 4 a1 24 c1 (flat 6 4 Cd)) := ⟨r5, sl_below hS1 hal⟩
  have M6 : Hid (MB ((w2.alloc (.cells #[.int .i64 6, .int .i64 4, .slice a1 24 c1] 24)).alloc (.cells #[.int .i64 6, .int .i64 4, .slice a2 24 c2] 26)) 26 (w2.heap.size + 1) 6 4 a2 24 c2 (flat 6 4 Cd)) := ⟨r6, sl_below hs2 hal⟩
  have tB := bt (bt B.out hb2) hal
  clear B S1 hS1 hs2 r5 r6 hz hal hb2
  have B := Lib.hid tB
  clear tB
  obtain ⟨M5c0, M5c1, M5c2⟩ := M5.out.cells
  obtain ⟨M6c0, M6c1, M6c2⟩ := M6.out.cells
  generalize strOf (flat 6 4 (vX [0, 1, 2, 3])) = t at *
  obtain ⟨ti, x, h1, h2, h3, h4, h5⟩ := rmd6 n0
  obtain ⟨tj, y, g1, g2, g3, g4, g5⟩ := rmd5 n1
  obtain ⟨k1, k2, k3⟩ := other6 h5 g5
  generalize (x + 1 + y) % 6 = z at *
  go_wp2_with fail
  generalize (w2.alloc (.cells #[.int .i64 6, .int .i64 4, .slice a1 24 c1] 24)).alloc (.cells #[.int .i64 6, .int .i64 4, .slice a2 24 c2] 26) = W2 at *
  have HG := Lib.hid (skip2_good x h5 z k2 k3)
  clear M5c0 M5c1 M5c2 M6c0 M6c1 M6c2 M6 hc1 hc2 h1 h2 h3 h4 g1 g2 g3 g4 k1
  go_loopw [9, 10] (fun a i wr => ∃ k : Nat, k ≤ 6 ∧ i = .int .i64 (k : Int) ∧ Nums W2 wr a (skip2 x z k)) (fun _ i _ => 6 - (intOf i).toNat)
  case atStart => exact ⟨0, by omega, rfl, nums_nil (Below.refl _ _)⟩
  case round =>
    obtain ⟨k, hk, rfl, hN⟩ := hrel
    obtain ⟨na, nc, hv⟩ := ownsRow_form hN.n
    have hlen := skip2_len x z k
    have hsu := skip2_succ x z k
    by_cases hkn : k < 6
    · generalize skip2 x z k = zs at *
      obtain ⟨m, hm⟩ : ∃ m, m = zs.length := ⟨_, rfl⟩
      rw [← hm] at hv hlen
      subst hv
      have hn' := hN.n
      rw [← hm] at hn'
      have HM := Lib.hid hm
      have HN := Lib.hid hN
      have HR := Lib.hid hn'
      have HSU := Lib.hid hsu
      clear hm hN hn' hsu
      by_cases e1 : k = x
      · have hne : ((k : Int) != (x : Int)) = false := by rw [e1]; simp
        go_wp2
        go_roundw
        case rel => exact ⟨k + 1, by omega, by go_num, by rw [HSU.out, if_neg (by omega)]; exact HN.out⟩
        case measure => simp [intOf]; omega
      · have hne : ((k : Int) != (x : Int)) = true := by rw [bne_iff_ne]; omega
        by_cases e2 : k = z
        · have hne2 : ((k : Int) != (z : Int)) = false := by rw [e2]; simp
          go_wp2
          go_roundw
          case rel => exact ⟨k + 1, by omega, by go_num, by rw [HSU.out, if_neg (by omega)]; exact HN.out⟩
          case measure => simp [intOf]; omega
        · have hne2 : ((k : Int) != (z : Int)) = true := by rw [bne_iff_ne]; omega
          go_wp2_with (at_builtin; refine app1 (dst := some 65) Try.underlying28 infoI rfl (by decide) ?_ ?_ (ownsRow_mono HR.out ((Below.refl wr.heap.size wr).alloc (Nat.le_refl _) _)) (heap_alloc_new _ _) rfl (by omega) (by have := HN.out.b.size; simp; omega) ?_; exact rfl; exact rfl; intro v3 w3 ho3 hg3; obtain ⟨av, cv, hv3⟩ := ownsRow_form ho3; subst hv3; have HN3 := Lib.hid (HN.out.push hg3 (by rw [← HM.out]; exact ho3)); clear ho3 hg3)
          go_roundw
          case rel => exact ⟨k + 1, by omega, by go_num, by rw [HSU.out, if_pos ⟨e1, e2⟩]; exact HN3.out⟩
          case measure => simp [intOf]; omega
    · obtain rfl : k = 6 := by omega
      have hlt := skip2_lt x z 6
      clear hsu
      generalize skip2 x z 6 = rs at *
      have S := Lib.hid (hN.si fun q hq => by have := hlt q hq; omega)
      have tM := M5.out.later hN.b
      have tB := bt B.out hN.b
      have hl4 := good_length HG.out
      rw [hl4] at hv
      subst hv
      clear B M5 hlt hN hlen hl4
      have M5 := Lib.hid tM
      have B := Lib.hid tB
      clear tM tB
      obtain ⟨M5c0, M5c1, M5c2⟩ := M5.out.cells
      go_wp2_with fail
      clear M5c0 M5c1 M5c2
      refine (c_pickc HG.out wr _ _ M5.out.sl S.out).mono ?_
      unfold MS mv
      rintro e w11 ⟨⟨s11, rfl, hs11⟩, hb11⟩
      obtain ⟨a11, c11, hv11, -, -⟩ := sl_form hs11
      obtain ⟨n11, hn11⟩ : ∃ n, n = (flat 4 4 (Pc rs)).length := ⟨_, rfl⟩
      rw [← hn11] at hv11
      subst hv11
      clear hn11
      have tnew : MB (w11.alloc (.cells #[.int .i64 4, .int .i64 4, .slice a11 n11 c11] 24)) 24 w11.heap.size 4 4 a11 n11 c11 (flat 4 4 (Pc rs)) := MB.mk' hs11
      clear hs11
      have tB := bt B.out hb11
      clear B
      have B := Lib.hid tB
      clear tB
      clear hb11
      have al11 := (Below.refl w11.heap.size w11).alloc (Nat.le_refl _) (.cells #[.int .i64 4, .int .i64 4, .slice a11 n11 c11] 24)
      have tB := bt B.out al11
      clear B
      have B := Lib.hid tB
      clear tB
      clear al11
      have Pm := Lib.hid tnew
      clear tnew
      obtain ⟨Pmc0, Pmc1, Pmc2⟩ := Pm.out.cells
      go_wp2_with fail
      have hz11 : (w11.alloc (.cells #[.int .i64 4, .int .i64 4, .slice a11 n11 c11] 24)).heap.size = w11.heap.size + 1 := by simp
      have HZ11 := Lib.hid hz11
      clear hz11
      generalize w11.alloc (.cells #[.int .i64 4, .int .i64 4, .slice a11 n11 c11] 24) = W11 at *
      clear Pmc0 Pmc1 Pmc2
      refine (c_invc HG.out W11 _ Pm.out.sl).mono ?_
      unfold MS mv
      rintro e w12 ⟨⟨s12, rfl, hs12⟩, hb12⟩
      obtain ⟨a12, c12, hv12, -, -⟩ := sl_form hs12
      obtain ⟨n12, hn12⟩ : ∃ n, n = (flat 4 4 (iY rs)).length := ⟨_, rfl⟩
      rw [← hn12] at hv12
      subst hv12
      clear hn12
      have tnew : MB (w12.alloc (.cells #[.int .i64 4, .int .i64 4, .slice a12 n12 c12] 24)) 24 w12.heap.size 4 4 a12 n12 c12 (flat 4 4 (iY rs)) := MB.mk' hs12
      clear hs12
      have tPm := Pm.out.later hb12
      clear Pm
      have Pm := Lib.hid tPm
      clear tPm
      have tB := bt B.out hb12
      clear B
      have B := Lib.hid tB
      clear tB
      clear hb12
      have al12 := (Below.refl w12.heap.size w12).alloc (Nat.le_refl _) (.cells #[.int .i64 4, .int .i64 4, .slice a12 n12 c12] 24)
      have tPm := Pm.out.later al12
      clear Pm
      have Pm := Lib.hid tPm
      clear tPm
      have tB := bt B.out al12
      clear B
      have B := Lib.hid tB
      clear tB
      clear al12
      have Im := Lib.hid tnew
      clear tnew
      go_wp2_with fail
      have hz12 : (w12.alloc (.cells #[.int .i64 4, .int .i64 4, .slice a12 n12 c12] 24)).heap.size = w12.heap.size + 1 := by simp
      have HZ12 := Lib.hid hz12
      clear hz12
      generalize w12.alloc (.cells #[.int .i64 4, .int .i64 4, .slice a12 n12 c12] 24) = W12 at *
      refine (awake4_any W12).mono ?_
      rintro e w9 ⟨rfl, hb9⟩
      have hb := bt B.out hb9
      go_wp2_with fail
      go_ret
      exact ⟨rfl, hb⟩
end Go.Proofs.Ytppfdaiehdbafaa.Gf
