/- What is proved here: the contracts of the program's nearest, Valid, Next and checksum (superblock). Condition: for checksum the table of crc32c as laid. -/
import Derived.Test.YtekdnloabhnngaaDoorQ7b
import Derived.Lib.MinMax
import Derived.BigQuiet
import Derived.StillTailTactics
namespace Go.Proofs.YtekdnloabhnngaaDoor.Gf
open Go Go.ChangeShapes Go.WideShapes Go.ChangeAt Go.RowKit Go.Sort Go.Proofs.YtekdnloabhnngaaDoor.By Go.Proofs.YtekdnloabhnngaaDoor.Crc Go.Proofs.YtekdnloabhnngaaDoor.Qt

set_option maxRecDepth 100000 in
theorem pnearest_any (s g r : Int) (w : World) : Calls Tryd.prog 21 #[SV s g r] w fun e w' => e = .returned (SV (min (max s 0) 3) (min (max g 1) 8) (min (max r 0) 4294967295)) ∧ Below w.heap.size w w' := by
  unfold SV
  go_enter Tryd.func21, Tryd.ntmps21
  go_wp2
  exact bodyPost_ret (results_cell_row Tryd.results21 _ _ (w.heap.size + 1) 23 _ (0, 0) _ rfl (heap_alloc2_new _ _ _) Tryd.underlying23 rfl info7) rfl ⟨rfl, b2' _ _ _⟩
theorem regrown_bel {P : Program} {f : FuncId} {args : Array Value} {w : World} {v : Value} (h : ∀ w', Below w.heap.size w w' → Calls P f args w' fun e w'' => e = .returned v ∧ Below w'.heap.size w' w'') : ∀ d os, Calls P f args (grow (redrawn w d) os) fun e w'' => e = .returned v ∧ ∃ p : Regrown, w'' = grow (redrawn w p.d) p.os := fun d os => Calls.regrown_of (h _ (below_regrown w d os))
theorem cells7 {w : World} {g : Nat} {x y z : Value} {T : TypeId} {fr : Nat × Nat} (hg : w.heap[g]? = some (.cells #[x, y, z] T fr)) :
    (∀ d os, (grow (redrawn w d) os).cell? ⟨g, 0, none⟩ = some x) ∧ (∀ d os, (grow (redrawn w d) os).cell? ⟨g, 1, none⟩ = some y) ∧ (∀ d os, (grow (redrawn w d) os).cell? ⟨g, 2, none⟩ = some z) :=
  ⟨cells_regrown (cell_of_row w g 0 _ _ _ hg), cells_regrown (cell_of_row w g 1 _ _ _ hg), cells_regrown (cell_of_row w g 2 _ _ _ hg)⟩
theorem nearest_ok (s g r : Int) : ((s == min (max s 0) 3) && (g == min (max g 1) 8) && (r == min (max r 0) 4294967295)) = okS s g r := by
  rw [Bool.eq_iff_iff, okS_iff]
  simp only [Bool.and_eq_true, beq_iff_eq]
  omega
theorem run_eq3 (a0 a1 a2 b0 b1 b2 : Int) (W : World) : (binOp .eql 23 (.agg #[.int .i64 a0, .int .i64 a1, .int .i64 a2]) (.agg #[.int .i64 b0, .int .i64 b1, .int .i64 b2])).run Tryd.prog W = .ok (.bool (a0 == b0 && a1 == b1 && a2 == b2)) W := by
  by_cases e0 : a0 = b0 <;> by_cases e1 : a1 = b1 <;> by_cases e2 : a2 = b2
  all_goals
    go_simp
set_option maxRecDepth 100000 in
theorem pvalid7_any (s g r : Int) (w : World) : Calls Tryd.prog 13 #[SV s g r] w fun e w' => e = .returned (.bool (okS s g r)) ∧ Below w.heap.size w w' := by
  have PN := Lib.hid (pnearest_any s g r)
  rw [← nearest_ok]
  generalize min (max s 0) 3 = s2 at *
  generalize min (max g 1) 8 = g2 at *
  generalize min (max r 0) 4294967295 = r2 at *
  have HE := Lib.hid (run_eq3 s g r s2 g2 r2)
  generalize (s == s2 && g == g2 && r == r2) = D at *
  have HB := Lib.hid ((Below.refl w.heap.size w).alloc (Nat.le_refl _) (.cells #[.int .i64 s, .int .i64 g, .int .i64 r] 23))
  have X0 := Lib.hid (heap_alloc_new w (.cells #[.int .i64 s, .int .i64 g, .int .i64 r] 23))
  unfold SV at PN ⊢
  go_enter Tryd.func13, Tryd.ntmps13
  go_wp2_with fail
  generalize w.alloc (.cells #[.int .i64 s, .int .i64 g, .int .i64 r] 23) = W at *
  obtain ⟨c0, c1, c2⟩ := cells7 X0.out
  have G1 := Lib.hid (regrown_bel (w := W) fun w' _ => PN.out w')
  have he := HE.out
  refine wp_region_bl (by kernel_rfl) (by kernel_rfl) ?_
  quiet_step (fail)
  quiet_step (fail)
  quiet_step ((go_at_call 21; exact G1.out _ _))
  quiet_step (fail)
  quiet_step (fail)
  refine wpQuiet_nil ?_
  intro w9 hb9
  go_wp2_with fail
  go_ret
  exact ⟨rfl, bt HB.out hb9⟩
theorem pnext_end {R : Ending → World → Prop} {W : World} {g : Nat} {tmps : Array Value} {k c d : Value} (hp : tmps.getD 2 undef = .pointer (some ⟨g, 0, none⟩)) (hg : W.heap[g]? = some (.cells #[k, c, d] 23 (0, 0)))
    (hR : R (.returned (.tuple #[.agg #[k, c, d], tmps.getD 3 undef])) W) : bodyPost Tryd.prog Tryd.f11 R .ret { tmps := tmps, defers := [] } W :=
  bodyPost_ret (results_rt rfl _ _ g #[k, c, d] hp hg Tryd.underlying23 rfl info7) rfl hR
set_option maxRecDepth 100000 in
theorem pnext7_any (s g r : Int) (w : World) : Calls Tryd.prog 11 #[SV s g r] w fun e w' => e = .returned (.tuple #[nxV s g r, .int .i64 (nxE s g r)]) ∧ Below w.heap.size w w' := by
  have HB := Lib.hid (b2' w (.cells #[.int .i64 s, .int .i64 g, .int .i64 r] 23) (.cells #[.int .i64 0, .int .i64 0, .int .i64 0] 23))
  have RV := Lib.hid (pvalid7_any s g r)
  have RV2 := Lib.hid (pvalid7_any s g (r + 1))
  unfold SV at RV RV2
  have start : ∀ W, Below ((w.alloc (.cells #[.int .i64 s, .int .i64 g, .int .i64 r] 23)).alloc (.cells #[.int .i64 0, .int .i64 0, .int .i64 0] 23)).heap.size ((w.alloc (.cells #[.int .i64 s, .int .i64 g, .int .i64 r] 23)).alloc (.cells #[.int .i64 0, .int .i64 0, .int .i64 0] 23)) W →
      W.heap[w.heap.size]? = some (.cells #[.int .i64 s, .int .i64 g, .int .i64 r] 23 (0, 0)) ∧ W.heap[w.heap.size + 1]? = some (.cells #[.int .i64 0, .int .i64 0, .int .i64 0] 23 (0, 0)) := fun W hW =>
    ⟨(hW.block _ (by simp; omega)).trans ((heap_alloc_old _ _ (by simp)).trans (heap_alloc_new w _)), (hW.block _ (by simp)).trans (heap_alloc2_new _ _ _)⟩
  cases h1 : okS s g r
  · have e1 : nxE s g r = 1 := by unfold nxE; rw [if_neg (by rw [h1]; decide)]
    have e2 : nxV s g r = SV 0 0 0 := by unfold nxV; rw [if_neg (by rw [e1]; decide)]
    rw [e1, e2]
    unfold SV
    rw [h1] at RV
    clear e1 e2
    go_enter Tryd.func11, Tryd.ntmps11
    go_wp2_with fail
    refine (RV.out _).mono ?_
    rintro e W2 ⟨rfl, hb2⟩
    obtain ⟨x0, x1⟩ := start _ hb2
    obtain ⟨u0, u1, u2, z0, z1, z2⟩ := bx3 x1
    have X1 := Lib.hid x1
    have B2 := Lib.hid (bt HB.out hb2)
    clear x0 x1 hb2 start
    go_wp2
    exact pnext_end (g := w.heap.size + 1) rfl (set3 X1.out) ⟨rfl, below3 B2.out (by omega)⟩
  · rw [h1] at RV
    have hv := okS_iff.1 h1
    have c1 : wrap64 (r + 1) = r + 1 := by unfold wrap64; omega
    have fin : ∀ W, (∃ W2, Below w.heap.size w W2 ∧ W2.heap[w.heap.size]? = some (.cells #[.int .i64 s, .int .i64 g, .int .i64 r] 23 (0, 0)) ∧ W2.heap[w.heap.size + 1]? = some (.cells #[.int .i64 0, .int .i64 0, .int .i64 0] 23 (0, 0)) ∧ Below W2.heap.size (W2.setCell ⟨w.heap.size, 2, none⟩ (.int .i64 (r + 1))) W) → W.heap[w.heap.size]? = some (.cells #[.int .i64 s, .int .i64 g, .int .i64 (r + 1)] 23 (0, 0)) ∧ W.heap[w.heap.size + 1]? = some (.cells #[.int .i64 0, .int .i64 0, .int .i64 0] 23 (0, 0)) ∧ Below w.heap.size w W := fun W ⟨W2, hb, x0, x1, hb3⟩ => by
      have l1 := lt_of_some x1
      refine ⟨(hb3.block _ (by omega)).trans (heap_setCell_same W2 w.heap.size 2 _ _ (.int .i64 (r + 1)) x0), (hb3.block _ (by omega)).trans ((heap_setCell_other _ _ _ _ (by show w.heap.size + 1 ≠ w.heap.size; omega)).trans x1), (hb.setCell (p := ⟨w.heap.size, 2, none⟩) (Nat.le_refl _) _).trans (hb3.mono hb.size)⟩
    have FIN := Lib.hid fin
    clear fin
    cases h2 : okS s g (r + 1)
    · have e1 : nxE s g r = 2 := by unfold nxE; rw [if_pos h1, if_neg (by rw [h2]; decide)]
      have e2 : nxV s g r = SV 0 0 0 := by unfold nxV; rw [if_neg (by rw [e1]; decide)]
      rw [e1, e2]
      unfold SV
      rw [h2] at RV2
      clear e1 e2
      go_enter Tryd.func11, Tryd.ntmps11
      go_wp2_with fail
      refine (RV.out _).mono ?_
      rintro e W2 ⟨rfl, hb2⟩
      obtain ⟨x0, x1⟩ := start _ hb2
      obtain ⟨u0, u1, u2, z0, z1, z2⟩ := bx3 x0
      have X0 := Lib.hid x0
      have X1 := Lib.hid x1
      have B2 := Lib.hid (bt HB.out hb2)
      clear x0 x1 hb2 start h1 h2 hv
      go_wp2_with fail
      refine (RV2.out _).mono ?_
      rintro e W3 ⟨rfl, hb3⟩
      obtain ⟨y0, y1, b3⟩ := FIN.out W3 ⟨W2, B2.out, X0.out, X1.out, by simpa using hb3⟩
      clear u0 u1 u2 z0 z1 z2 X1 hb3
      obtain ⟨s0, s1, s2, -, -, -⟩ := bx3 y0
      obtain ⟨u0, u1, u2, z0, z1, z2⟩ := bx3 y1
      have X1 := Lib.hid y1
      have B3 := Lib.hid b3
      clear y0 y1 b3
      go_wp2
      exact pnext_end (g := w.heap.size + 1) rfl (set3 X1.out) ⟨rfl, below3 B3.out (by omega)⟩
    · have e1 : nxE s g r = 0 := by unfold nxE; rw [if_pos h1, if_pos h2]
      have e2 : nxV s g r = SV s g (r + 1) := by unfold nxV; rw [if_pos e1]
      rw [e1, e2]
      unfold SV
      rw [h2] at RV2
      clear e1 e2
      go_enter Tryd.func11, Tryd.ntmps11
      go_wp2_with fail
      refine (RV.out _).mono ?_
      rintro e W2 ⟨rfl, hb2⟩
      obtain ⟨x0, x1⟩ := start _ hb2
      obtain ⟨u0, u1, u2, z0, z1, z2⟩ := bx3 x0
      have X0 := Lib.hid x0
      have X1 := Lib.hid x1
      have B2 := Lib.hid (bt HB.out hb2)
      clear x0 x1 hb2 start h1 h2 hv
      go_wp2_with fail
      refine (RV2.out _).mono ?_
      rintro e W3 ⟨rfl, hb3⟩
      obtain ⟨y0, y1, b3⟩ := FIN.out W3 ⟨W2, B2.out, X0.out, X1.out, by simpa using hb3⟩
      clear u0 u1 u2 z0 z1 z2 X1 hb3
      obtain ⟨s0, s1, s2, -, -, -⟩ := bx3 y0
      obtain ⟨u0, u1, u2, z0, z1, z2⟩ := bx3 y1
      have X1 := Lib.hid y1
      have B3 := Lib.hid b3
      clear y0 y1 b3
      go_wp2
      exact pnext_end (g := w.heap.size + 1) rfl (set3 X1.out) ⟨rfl, below3 B3.out (by omega)⟩
theorem tab_below {w w' : World} (h : Tab w) (hb : Below w.heap.size w w') : Tab w' := fun i hi => (hb.cell (block_lt_of_cell (h i hi))).trans (h i hi)
theorem info4 : (Tryd.prog.info? 43).map (·.size) = some 4 := by kernel_rfl
set_option maxRecDepth 100000 in
theorem pcheck7_any (v : Value) (l : List Nat) (w : World) (s : Sl w v l) (ht : Tab w) : Calls Tryd.prog 19 #[v] w fun e w' => e = .returned (.agg (cellsOf (leL (ext 0 l))).toArray) ∧ Below w.heap.size w w' := by
  have RS := Lib.hid (fun W (hW : Below w.heap.size w W) (ht : Tab W) => sum_any v l W (sl_below s hW) ht)
  have hlt : ext 0 l < 4294967296 := ext_lt (by decide) s.1
  generalize ext 0 l = S at *
  have HB := Lib.hid ((Below.refl w.heap.size w).alloc (Nat.le_refl _) (.cells #[.int .u8 0, .int .u8 0, .int .u8 0, .int .u8 0] 43))
  rw [leL_cells hlt]
  clear s
  have HT := Lib.hid (tab_below ht HB.out)
  go_enter Tryd.func19, Tryd.ntmps19
  go_wp2_with (go_at_call 24; refine (RS.out _ HB.out HT.out).mono ?_; rintro e w2 ⟨rfl, rfl⟩)
  exact bodyPost_ret (results_cell_row Tryd.results19 _ _ w.heap.size 43 _ (0, 0) _ rfl (heap_alloc_new _ _) Tryd.underlying43 rfl info4) rfl ⟨rfl, (Below.refl w.heap.size w).alloc (Nat.le_refl _) _⟩
/-- An array of bytes in a block of its own, as a slice. -/
theorem sl_array {w : World} {g n : Nat} {T : TypeId} {fr : Nat × Nat} {l : List Nat} {cs : Array Value} (hl : ∀ b ∈ l, b < 256) (hn : l.length = n) (hm : n ≤ maxLen) (hcs : cs = (cellsOf l).toArray) (hg : w.heap[g]? = some (.cells cs T fr)) :
    Sl w (.slice (some ⟨g, 0, none⟩) n n) l := by
  subst hn
  refine ⟨hl, hm, Or.inr ⟨g, 0, l.length, rfl, Nat.le_refl _, hm, fun k hk => ?_⟩⟩
  rw [Nat.zero_add, cell_of_row w g k cs T fr hg, hcs]
  simp [List.getD, hk, cellsOf]
end Go.Proofs.YtekdnloabhnngaaDoor.Gf
