/- What is proved here: the contracts of the reference's Valid and Next, and of near. No condition. -/
import Derived.Test.YtekdnloabhnngaaDoorM7
import Derived.Test.YtekdnloabhnngaaDoorQ7a
namespace Go.Proofs.YtekdnloabhnngaaDoor.Gf
open Go Go.ChangeShapes Go.WideShapes Go.ChangeAt Go.RowKit Go.Proofs.YtekdnloabhnngaaDoor.By Go.Proofs.YtekdnloabhnngaaDoor.Crc

/-- A superblock as a value. -/
def SV (s g r : Int) : Value := .agg #[.int .i64 s, .int .i64 g, .int .i64 r]
def J64 (n : Int) : Prop := -9223372036854775808 ≤ n ∧ n ≤ 9223372036854775807
theorem info7 : (Tryd.prog.info? 23).map (·.size) = some 3 := by kernel_rfl
set_option maxRecDepth 100000 in
theorem rvalid7_any (s g r : Int) (w : World) : Calls Tryd.prog 14 #[SV s g r] w fun e w' => e = .returned (.bool (okS s g r)) ∧ Below w.heap.size w w' := by
  have HB := Lib.hid ((Below.refl w.heap.size w).alloc (Nat.le_refl _) (.cells #[.int .i64 s, .int .i64 g, .int .i64 r] 23))
  unfold SV okS
  obtain ⟨d1, hd1⟩ : ∃ b, decide (0 ≤ s) = b := ⟨_, rfl⟩
  obtain ⟨d2, hd2⟩ : ∃ b, decide (s < 4) = b := ⟨_, rfl⟩
  obtain ⟨d3, hd3⟩ : ∃ b, decide (1 ≤ g) = b := ⟨_, rfl⟩
  obtain ⟨d4, hd4⟩ : ∃ b, decide (g ≤ 8) = b := ⟨_, rfl⟩
  obtain ⟨d5, hd5⟩ : ∃ b, decide (0 ≤ r) = b := ⟨_, rfl⟩
  obtain ⟨d6, hd6⟩ : ∃ b, decide (r < 4294967296) = b := ⟨_, rfl⟩
  rw [hd1, hd2, hd3, hd4, hd5, hd6]
  cases d1
  · clear hd2 hd3 hd4 hd5 hd6
    go_enter Tryd.func14, Tryd.ntmps14
    go_wp2
    go_ret
    exact ⟨rfl, HB.out⟩
  cases d2
  · clear hd3 hd4 hd5 hd6
    go_enter Tryd.func14, Tryd.ntmps14
    go_wp2
    go_ret
    exact ⟨rfl, HB.out⟩
  cases d3
  · clear hd4 hd5 hd6
    go_enter Tryd.func14, Tryd.ntmps14
    go_wp2
    go_ret
    exact ⟨rfl, HB.out⟩
  cases d4
  · clear hd5 hd6
    go_enter Tryd.func14, Tryd.ntmps14
    go_wp2
    go_ret
    exact ⟨rfl, HB.out⟩
  cases d5
  · clear hd6
    go_enter Tryd.func14, Tryd.ntmps14
    go_wp2
    go_ret
    exact ⟨rfl, HB.out⟩
  cases d6
  all_goals
    go_enter Tryd.func14, Tryd.ntmps14
    go_wp2
    go_ret
    exact ⟨rfl, HB.out⟩
theorem and_low (r : Int) (k : Nat) (hk : k ≤ 32) : bits .and .i64 r ((2 : Int) ^ k - 1) = r % 2 ^ k := by
  have hp : (2 : Nat) ^ k ≤ 2 ^ 32 := Nat.pow_le_pow_right (by decide) hk
  have hp1 : 1 ≤ (2 : Nat) ^ k := Nat.one_le_two_pow
  have e0 : ((2 : Int) ^ k - 1) = ((2 ^ k - 1 : Nat) : Int) := by rw [Int.natCast_sub hp1]; simp
  have e1 : (BitVec.ofInt 64 r).toNat = (r % 18446744073709551616).toNat := by rw [BitVec.toNat_ofInt]; rfl
  have e2 : (BitVec.ofInt 64 ((2 : Int) ^ k - 1)).toNat = 2 ^ k - 1 := by
    rw [e0, BitVec.toNat_ofInt]
    omega
  have e3 : (BitVec.ofInt 64 r &&& BitVec.ofInt 64 ((2 : Int) ^ k - 1)).toNat = (r % 18446744073709551616).toNat % 2 ^ k := by rw [BitVec.toNat_and, e1, e2]; exact Nat.and_two_pow_sub_one_eq_mod _ k
  show IntKind.i64.wrap ((BitVec.ofInt 64 r &&& BitVec.ofInt 64 ((2 : Int) ^ k - 1)).toNat : Int) = _
  have hd : (2 : Int) ^ k ∣ 18446744073709551616 := by
    rw [show (18446744073709551616 : Int) = 2 ^ k * 2 ^ (64 - k) by rw [← Int.pow_add, show k + (64 - k) = 64 by omega]; rfl]
    exact Int.dvd_mul_right _ _
  have hc : ((2 : Int) ^ k) = ((2 ^ k : Nat) : Int) := by simp
  have e4 : (((r % 18446744073709551616).toNat % 2 ^ k : Nat) : Int) = r % 2 ^ k := by
    rw [Int.natCast_emod, Int.toNat_of_nonneg (by omega), ← hc, Int.emod_emod_of_dvd _ hd]
  have hb := Int.emod_lt_of_pos r (show (0 : Int) < 2 ^ k by rw [hc]; omega)
  have hb0 := Int.emod_nonneg r (show (2 : Int) ^ k ≠ 0 by rw [hc]; omega)
  rw [e3, e4, IntKind.wrap_i64]
  rw [hc] at hb hb0 ⊢
  generalize r % ((2 ^ k : Nat) : Int) = z at *
  omega
theorem b2' (w : World) (A B : Obj) : Below w.heap.size w ((w.alloc A).alloc B) := ((Below.refl _ _).alloc (Nat.le_refl _) _).alloc (by simp) _
set_option maxRecDepth 100000 in
theorem near_any (s g r : Int) (w : World) : Calls Tryd.prog 8 #[SV s g r] w fun e w' => e = .returned (SV (s % 4) (1 + g % 8) (r % 4294967296)) ∧ Below w.heap.size w w' := by
  have a1 : bits .and .i64 s 3 = s % 4 := and_low s 2 (by omega)
  have a2 : bits .and .i64 g 7 = g % 8 := and_low g 3 (by omega)
  have a3 : bits .and .i64 r 4294967295 = r % 4294967296 := and_low r 32 (by omega)
  have c2 : wrap64 (1 + g % 8) = 1 + g % 8 := by unfold wrap64; omega
  unfold SV
  have b2 : 0 ≤ g % 8 ∧ g % 8 ≤ 7 := by omega
  generalize s % 4 = x1 at *
  generalize g % 8 = x2 at *
  generalize r % 4294967296 = x3 at *
  go_enter Tryd.func8, Tryd.ntmps8
  go_wp2
  exact bodyPost_ret (results_cell_row Tryd.results8 _ _ (w.heap.size + 1) 23 _ (0, 0) _ rfl (heap_alloc2_new _ _ _) Tryd.underlying23 rfl info7) rfl ⟨rfl, b2' _ _ _⟩
/-- What Next answers. -/
def nxE (s g r : Int) : Int := if okS s g r = true then (if okS s g (r + 1) = true then 0 else 2) else 1
def nxV (s g r : Int) : Value := if nxE s g r = 0 then SV s g (r + 1) else SV 0 0 0
theorem results_rt {P : Program} {fn : Func} {p q : Tmp} {S : TypeId} (h : fn.results = #[.cell p S, .tmp q]) (tmps : Array Value) (w : World) (g : Nat) (cs : Array Value) {d : TypeDesc}
    (hp : tmps.getD p undef = .pointer (some ⟨g, 0, none⟩)) (hg : w.heap[g]? = some (.cells cs S (0, 0)))
    (hu : P.underlying S = some d) (hd : (match d with | .struct _ | .array _ _ => true | _ => false) = true) (hi : (P.info? S).map (·.size) = some cs.size) :
    (results fn tmps).run P w = .ok (.tuple #[.agg cs, tmps.getD q undef]) w := by
  have hp' : tmps[p]?.getD undef = .pointer (some ⟨g, 0, none⟩) := by simpa using hp
  simp [results, h, hp', asAddr, run_loadVar_row w g S S cs (0, 0) d hg hu hd hi]
theorem set3 {W : World} {g : Nat} {a b c k l m : Value} {T : TypeId} (h : W.heap[g]? = some (.cells #[a, b, c] T (0, 0))) : (((W.setCell ⟨g, 0, none⟩ k).setCell ⟨g, 1, none⟩ l).setCell ⟨g, 2, none⟩ m).heap[g]? = some (.cells #[k, l, m] T (0, 0)) := by
  have h1 := heap_setCell_same W g 0 _ _ k h
  have h2 := heap_setCell_same _ g 1 _ _ l h1
  exact heap_setCell_same _ g 2 _ _ m h2
theorem below3 {B : Nat} {w W : World} {g : Nat} {k l m : Value} (h : Below B w W) (hg : B ≤ g) : Below B w (((W.setCell ⟨g, 0, none⟩ k).setCell ⟨g, 1, none⟩ l).setCell ⟨g, 2, none⟩ m) :=
  ((h.setCell (p := ⟨g, 0, none⟩) hg _).setCell (p := ⟨g, 1, none⟩) hg _).setCell (p := ⟨g, 2, none⟩) hg _
theorem bx3 {W : World} {g : Nat} {k c d : Value} {T : TypeId} (h : W.heap[g]? = some (.cells #[k, c, d] T (0, 0))) : W.cell? ⟨g, 0, none⟩ = some k ∧ W.cell? ⟨g, 1, none⟩ = some c ∧ W.cell? ⟨g, 2, none⟩ = some d ∧ W.frozen? ⟨g, 0, none⟩ = false ∧ W.frozen? ⟨g, 1, none⟩ = false ∧ W.frozen? ⟨g, 2, none⟩ = false :=
  ⟨cell_of_row W g 0 _ _ _ h, cell_of_row W g 1 _ _ _ h, cell_of_row W g 2 _ _ _ h, frozen_of_row W g 0 _ _ h, frozen_of_row W g 1 _ _ h, frozen_of_row W g 2 _ _ h⟩
theorem rnext_end {R : Ending → World → Prop} {W : World} {g : Nat} {tmps : Array Value} {k c d : Value} (hp : tmps.getD 2 undef = .pointer (some ⟨g, 0, none⟩)) (hg : W.heap[g]? = some (.cells #[k, c, d] 23 (0, 0)))
    (hR : R (.returned (.tuple #[.agg #[k, c, d], tmps.getD 3 undef])) W) : bodyPost Tryd.prog Tryd.f12 R .ret { tmps := tmps, defers := [] } W :=
  bodyPost_ret (results_rt rfl _ _ g #[k, c, d] hp hg Tryd.underlying23 rfl info7) rfl hR
set_option maxRecDepth 100000 in
theorem rnext_any (s g r : Int) (w : World) : Calls Tryd.prog 12 #[SV s g r] w fun e w' => e = .returned (.tuple #[nxV s g r, .int .i64 (nxE s g r)]) ∧ Below w.heap.size w w' := by
  have HB := Lib.hid (b2' w (.cells #[.int .i64 s, .int .i64 g, .int .i64 r] 23) (.cells #[.int .i64 0, .int .i64 0, .int .i64 0] 23))
  have RV := Lib.hid (rvalid7_any s g r)
  have RV2 := Lib.hid (rvalid7_any s g (r + 1))
  unfold SV at RV RV2
  have start : ∀ W, Below ((w.alloc (.cells #[.int .i64 s, .int .i64 g, .int .i64 r] 23)).alloc (.cells #[.int .i64 0, .int .i64 0, .int .i64 0] 23)).heap.size ((w.alloc (.cells #[.int .i64 s, .int .i64 g, .int .i64 r] 23)).alloc (.cells #[.int .i64 0, .int .i64 0, .int .i64 0] 23)) W →
      W.heap[w.heap.size]? = some (.cells #[.int .i64 s, .int .i64 g, .int .i64 r] 23 (0, 0)) ∧ W.heap[w.heap.size + 1]? = some (.cells #[.int .i64 0, .int .i64 0, .int .i64 0] 23 (0, 0)) := fun W hW =>
    ⟨(hW.block _ (by simp; omega)).trans ((heap_alloc_old _ _ (by simp)).trans (heap_alloc_new w _)), (hW.block _ (by simp)).trans (heap_alloc2_new _ _ _)⟩
  cases h1 : okS s g r
  · have e1 : nxE s g r = 1 := by unfold nxE; rw [if_neg (by rw [h1]; decide)]
    have e2 : nxV s g r = SV 0 0 0 := by unfold nxV; rw [if_neg (by rw [e1]; decide)]
    rw [e1, e2]
    unfold SV
    rw [h1] at RV
    clear e1 e2
    go_enter Tryd.func12, Tryd.ntmps12
    go_wp2_with fail
    refine (RV.out _).mono ?_
    rintro e W2 ⟨rfl, hb2⟩
    obtain ⟨x0, x1⟩ := start _ hb2
    obtain ⟨u0, u1, u2, z0, z1, z2⟩ := bx3 x1
    have X1 := Lib.hid x1
    have B2 := Lib.hid (bt HB.out hb2)
    clear x0 x1 hb2 start
    go_wp2
    exact rnext_end (g := w.heap.size + 1) rfl (set3 X1.out) ⟨rfl, below3 B2.out (by omega)⟩
  · rw [h1] at RV
    have hv := okS_iff.1 h1
    have c1 : wrap64 (r + 1) = r + 1 := by unfold wrap64; omega
    have fin : ∀ W, (∃ W2, Below w.heap.size w W2 ∧ W2.heap[w.heap.size]? = some (.cells #[.int .i64 s, .int .i64 g, .int .i64 r] 23 (0, 0)) ∧ W2.heap[w.heap.size + 1]? = some (.cells #[.int .i64 0, .int .i64 0, .int .i64 0] 23 (0, 0)) ∧ Below W2.heap.size (W2.setCell ⟨w.heap.size, 2, none⟩ (.int .i64 (r + 1))) W) → W.heap[w.heap.size]? = some (.cells #[.int .i64 s, .int .i64 g, .int .i64 (r + 1)] 23 (0, 0)) ∧ W.heap[w.heap.size + 1]? = some (.cells #[.int .i64 0, .int .i64 0, .int .i64 0] 23 (0, 0)) ∧ Below w.heap.size w W := fun W ⟨W2, hb, x0, x1, hb3⟩ => by
      have l1 := lt_of_some x1
      refine ⟨(hb3.block _ (by omega)).trans (heap_setCell_same W2 w.heap.size 2 _ _ (.int .i64 (r + 1)) x0), (hb3.block _ (by omega)).trans ((heap_setCell_other _ _ _ _ (by show w.heap.size + 1 ≠ w.heap.size; omega)).trans x1), (hb.setCell (p := ⟨w.heap.size, 2, none⟩) (Nat.le_refl _) _).trans (hb3.mono hb.size)⟩
    have FIN := Lib.hid fin
    clear fin
    cases h2 : okS s g (r + 1)
    · have e1 : nxE s g r = 2 := by unfold nxE; rw [if_pos h1, if_neg (by rw [h2]; decide)]
      have e2 : nxV s g r = SV 0 0 0 := by unfold nxV; rw [if_neg (by rw [e1]; decide)]
      rw [e1, e2]
      unfold SV
      rw [h2] at RV2
      clear e1 e2
      go_enter Tryd.func12, Tryd.ntmps12
      go_wp2_with fail
      refine (RV.out _).mono ?_
      rintro e W2 ⟨rfl, hb2⟩
      obtain ⟨x0, x1⟩ := start _ hb2
      obtain ⟨u0, u1, u2, z0, z1, z2⟩ := bx3 x0
      have X0 := Lib.hid x0
      have X1 := Lib.hid x1
      have B2 := Lib.hid (bt HB.out hb2)
      clear x0 x1 hb2 start h1 h2 hv
      go_wp2_with fail
      refine (RV2.out _).mono ?_
      rintro e W3 ⟨rfl, hb3⟩
      obtain ⟨y0, y1, b3⟩ := FIN.out W3 ⟨W2, B2.out, X0.out, X1.out, by simpa using hb3⟩
      clear u0 u1 u2 z0 z1 z2 X1 hb3
      obtain ⟨s0, s1, s2, -, -, -⟩ := bx3 y0
      obtain ⟨u0, u1, u2, z0, z1, z2⟩ := bx3 y1
      have X1 := Lib.hid y1
      have B3 := Lib.hid b3
      clear y0 y1 b3
      go_wp2
      exact rnext_end (g := w.heap.size + 1) rfl (set3 X1.out) ⟨rfl, below3 B3.out (by omega)⟩
    · have e1 : nxE s g r = 0 := by unfold nxE; rw [if_pos h1, if_pos h2]
      have e2 : nxV s g r = SV s g (r + 1) := by unfold nxV; rw [if_pos e1]
      rw [e1, e2]
      unfold SV
      rw [h2] at RV2
      clear e1 e2
      go_enter Tryd.func12, Tryd.ntmps12
      go_wp2_with fail
      refine (RV.out _).mono ?_
      rintro e W2 ⟨rfl, hb2⟩
      obtain ⟨x0, x1⟩ := start _ hb2
      obtain ⟨u0, u1, u2, z0, z1, z2⟩ := bx3 x0
      have X0 := Lib.hid x0
      have X1 := Lib.hid x1
      have B2 := Lib.hid (bt HB.out hb2)
      clear x0 x1 hb2 start h1 h2 hv
      go_wp2_with fail
      refine (RV2.out _).mono ?_
      rintro e W3 ⟨rfl, hb3⟩
      obtain ⟨y0, y1, b3⟩ := FIN.out W3 ⟨W2, B2.out, X0.out, X1.out, by simpa using hb3⟩
      clear u0 u1 u2 z0 z1 z2 X1 hb3
      obtain ⟨s0, s1, s2, -, -, -⟩ := bx3 y0
      obtain ⟨u0, u1, u2, z0, z1, z2⟩ := bx3 y1
      have X1 := Lib.hid y1
      have B3 := Lib.hid b3
      clear y0 y1 b3
      go_wp2
      exact rnext_end (g := w.heap.size + 1) rfl (set3 X1.out) ⟨rfl, below3 B3.out (by omega)⟩
end Go.Proofs.YtekdnloabhnngaaDoor.Gf
