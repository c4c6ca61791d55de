/- What is proved here: add of the program: both counters changed, or too much garbage. -/
import Derived.Test.YtlooldnaoooehaaP11e
namespace Go.Proofs.Ytlooldnaoooehaa.Gf
open Go Go.Joins Go.ChangeShapes Go.WideShapes Go.ChangeAt Go.RowKit Go.Deep Go.Proofs.Ytlooldnaoooehaa.By Go.Proofs.Ytlooldnaoooehaa.Qt

theorem c40_flw : flw 1099511627776 = 4787326403894837248 := by decide +kernel
theorem infoM10 : (Try.prog.info? 32).map (·.size) = some 10 := by kernel_rfl
/-- A store of a whole map. -/
theorem storeM {ops : Array Oper} {rest : List Oper} {x y : Operand} {pos : String} {after : Array Edge} {ty : TypeId} {a : Act} {w : World} {Q : Exit → Act → World → Prop}
    (g : Nat) (old cs : Array Value) (hx : a.eval x = .pointer (some ⟨g, 0, none⟩)) (hy : a.eval y = .agg cs) (hg : w.heap[g]? = some (.cells old 32 (0, 0))) (ho : old.size = 10) (hs : cs.size = 10) (h1 : cs.all (·.oneCell') = true)
    (h : wpList Try.prog ops Q rest a (w.setRow g cs)) : wpList Try.prog ops Q (⟨none, .store 32 x y, ty, pos, after, none⟩ :: rest) a w :=
  wpList_store_row rfl 32 x y rfl g cs hx hy 32 old hg (by rw [infoM10, hs]) (by omega) h1 h
theorem ms_one {w : World} {s0 s1 s2 s3 s4 s5 s6 s7 : Value} {m : Mp} (h : Ms w [s0, s1, s2, s3, s4, s5, s6, s7] m) (l g : Int) : (#[s0, s1, s2, s3, s4, s5, s6, s7, .int .i64 l, .int .i64 g] : Array Value).all (·.oneCell') = true := by
  obtain ⟨a0, c0, h0, -⟩ := h.2.2.2 0 (by decide)
  obtain ⟨a1, c1, h1, -⟩ := h.2.2.2 1 (by decide)
  obtain ⟨a2, c2, h2, -⟩ := h.2.2.2 2 (by decide)
  obtain ⟨a3, c3, h3, -⟩ := h.2.2.2 3 (by decide)
  obtain ⟨a4, c4, h4, -⟩ := h.2.2.2 4 (by decide)
  obtain ⟨a5, c5, h5, -⟩ := h.2.2.2 5 (by decide)
  obtain ⟨a6, c6, h6, -⟩ := h.2.2.2 6 (by decide)
  obtain ⟨a7, c7, h7, -⟩ := h.2.2.2 7 (by decide)
  simp at h0 h1 h2 h3 h4 h5 h6 h7
  subst h0 h1 h2 h3 h4 h5 h6 h7
  simp [show ∀ a n c, (Value.slice a n c).oneCell' = true from fun _ _ _ => rfl, show ∀ k x, (Value.int k x).oneCell' = true from fun _ _ => rfl]
theorem below_setRowM {B g : Nat} {w0 w : World} (h : Below B w0 w) (hg : B ≤ g) (cs : Array Value) : Below B w0 (w.setRow g cs) := h.trans ⟨rfl, rfl, rfl, by simp, fun k hk => setRow_other _ _ _ _ (by omega)⟩
theorem fz10 {w : World} {g : Nat} {s0 s1 s2 s3 s4 s5 s6 s7 s8 s9 : Value} {T : TypeId} (h : w.heap[g]? = some (.cells #[s0, s1, s2, s3, s4, s5, s6, s7, s8, s9] T (0, 0))) : w.frozen? ⟨g, 0, none⟩ = false ∧ w.frozen? ⟨g, 1, none⟩ = false ∧ w.frozen? ⟨g, 2, none⟩ = false ∧ w.frozen? ⟨g, 3, none⟩ = false ∧ w.frozen? ⟨g, 4, none⟩ = false ∧ w.frozen? ⟨g, 5, none⟩ = false ∧ w.frozen? ⟨g, 6, none⟩ = false ∧ w.frozen? ⟨g, 7, none⟩ = false ∧ w.frozen? ⟨g, 8, none⟩ = false ∧ w.frozen? ⟨g, 9, none⟩ = false :=
  ⟨frozen_of_row w g 0 _ _ h, frozen_of_row w g 1 _ _ h, frozen_of_row w g 2 _ _ h, frozen_of_row w g 3 _ _ h, frozen_of_row w g 4 _ _ h, frozen_of_row w g 5 _ _ h, frozen_of_row w g 6 _ _ h, frozen_of_row w g 7 _ _ h, frozen_of_row w g 8 _ _ h, frozen_of_row w g 9 _ _ h⟩
/-- A call that answers a map and whether it was changed. -/
def AdO (w : World) (m : Mp) (q : Bool) (e : Ending) (w' : World) : Prop := (∃ v, e = .returned (.tuple #[v, .bool q]) ∧ Mv w' v m) ∧ Below w.heap.size w w'
theorem padd_end {R : Ending → World → Prop} {W : World} {g : Nat} {tmps : Array Value} {s0 s1 s2 s3 s4 s5 s6 s7 s8 s9 : Value} (hp : tmps.getD 4 undef = .pointer (some ⟨g, 0, none⟩)) (hg : W.heap[g]? = some (.cells #[s0, s1, s2, s3, s4, s5, s6, s7, s8, s9] 32 (0, 0)))
    (hR : R (.returned (.tuple #[.agg #[s0, s1, s2, s3, s4, s5, s6, s7, s8, s9], tmps.getD 5 undef])) W) : bodyPost Try.prog Try.f49 R .ret { tmps := tmps, defers := [] } W :=
  bodyPost_ret (results_rt rfl _ _ g #[s0, s1, s2, s3, s4, s5, s6, s7, s8, s9] hp hg Try.underlying32 rfl infoM10) rfl hR
set_option maxRecDepth 100000 in
set_option maxHeartbeats 12800000 in
theorem padd_all (v : Value) (m : Mp) (y z Y Z : Nat) (full : Bool) (l' g' : Int) (w : World) (hv : Mv w v m) (hsum : cSumBits .add .f64 (flw m.live) (flw m.garb) y z = some (Y, Z)) (ho : (FloatKind.f64.format.order Z (flw 1099511627776) == some .gt) = full)
    (hl : full = false → floatToIntVal .f64 Y .i64 = some l' ∧ J64 l') (hg : full = false → floatToIntVal .f64 Z .i64 = some g' ∧ J64 g') :
    Calls Try.prog 49 #[v, .complex .f64 y z] w (AdO w (if full then m else ⟨m.st, l', g'⟩) (!full)) := by
  obtain ⟨s0, s1, s2, s3, s4, s5, s6, s7, rfl, hms⟩ := hv
  have q1 := bel_al w (.cells #[s0, s1, s2, s3, s4, s5, s6, s7, .int .i64 m.live, .int .i64 m.garb] 32)
  have h1 := heap_alloc_new w (.cells #[s0, s1, s2, s3, s4, s5, s6, s7, .int .i64 m.live, .int .i64 m.garb] 32)
  have hsz : (w.alloc (.cells #[s0, s1, s2, s3, s4, s5, s6, s7, .int .i64 m.live, .int .i64 m.garb] 32)).heap.size = w.heap.size + 1 := by simp
  have q2 := bel_al (w.alloc (.cells #[s0, s1, s2, s3, s4, s5, s6, s7, .int .i64 m.live, .int .i64 m.garb] 32)) (.cells #[.slice none 0 0, .slice none 0 0, .slice none 0 0, .slice none 0 0, .slice none 0 0, .slice none 0 0, .slice none 0 0, .slice none 0 0, .int .i64 0, .int .i64 0] 32)
  have h2 := heap_alloc_new (w.alloc (.cells #[s0, s1, s2, s3, s4, s5, s6, s7, .int .i64 m.live, .int .i64 m.garb] 32)) (.cells #[.slice none 0 0, .slice none 0 0, .slice none 0 0, .slice none 0 0, .slice none 0 0, .slice none 0 0, .slice none 0 0, .slice none 0 0, .int .i64 0, .int .i64 0] 32)
  rw [hsz] at h2
  have HZ2 := Lib.hid h2
  have HM2 := Lib.hid ((q2.block _ (lt_of_some h1)).trans h1)
  have B2 := Lib.hid (q1.trans (q2.mono q1.size))
  have MS := Lib.hid hms
  have HL := Lib.hid hl
  have HG := Lib.hid hg
  have hc1 : floatOfInt .f64 m.live = flw m.live := rfl
  have hc2 : floatOfInt .f64 m.garb = flw m.garb := rfl
  rw [c40_flw] at ho
  clear hms q1 q2 h1 h2 hsz hl hg
  generalize flw m.live = lf at *
  generalize flw m.garb = gf at *
  go_enter Try.func49, Try.ntmps49
  go_upto_region 1 with fail
  generalize (w.alloc (.cells #[s0, s1, s2, s3, s4, s5, s6, s7, .int .i64 m.live, .int .i64 m.garb] 32)).alloc (.cells #[.slice none 0 0, .slice none 0 0, .slice none 0 0, .slice none 0 0, .slice none 0 0, .slice none 0 0, .slice none 0 0, .slice none 0 0, .int .i64 0, .int .i64 0] 32) = W2 at *
  obtain ⟨x0, x1, x2, x3, x4, x5, x6, x7, x8, x9⟩ := bx10 HM2.out
  have hadd := run_complex_sum (P := Try.prog) W2 .add (Or.inl rfl) 75 .f64 lf gf y z Y Z hsum
  cases full
  case true =>
    have ON := Lib.hid (ms_one MS.out m.live m.garb)
    go_wp2_with ((with_reducible refine storeM (w.heap.size + 1) _ #[s0, s1, s2, s3, s4, s5, s6, s7, .int .i64 m.live, .int .i64 m.garb] ?_ ?_ HZ2.out rfl rfl ON.out ?_); exact rfl; exact rfl)
    have SZ := Lib.hid (setRow_heap W2 (w.heap.size + 1) _ #[s0, s1, s2, s3, s4, s5, s6, s7, .int .i64 m.live, .int .i64 m.garb] _ _ HZ2.out)
    have BE := Lib.hid (below_setRowM B2.out (Nat.le_succ w.heap.size) #[s0, s1, s2, s3, s4, s5, s6, s7, .int .i64 m.live, .int .i64 m.garb])
    refine padd_end (g := w.heap.size + 1) rfl SZ.out ?_
    exact ⟨⟨_, rfl, s0, s1, s2, s3, s4, s5, s6, s7, rfl, ms_below MS.out BE.out⟩, BE.out⟩
  have fl := (HL.out rfl).1
  have fg := (HG.out rfl).1
  have cv1 := run_convert_float_int (P := Try.prog) W2 73 2 .f64 .i64 Y l' rfl Try.underlying2 fl
  have cv2 := run_convert_float_int (P := Try.prog) W2 73 2 .f64 .i64 Z g' rfl Try.underlying2 fg
  have f8 := frozen_of_row W2 w.heap.size 8 _ _ HM2.out
  have f9 := frozen_of_row W2 w.heap.size 9 _ _ HM2.out
  clear fl fg
  go_upto_region 5 with fail
  clear x0 x1 x2 x3 x4 x5 x6 x7 x8 x9 f8 f9 cv1 cv2 hadd
  have hm8 : (W2.setCell ⟨w.heap.size, 8, none⟩ (.int .i64 l')).heap[w.heap.size]? = some (.cells #[s0, s1, s2, s3, s4, s5, s6, s7, .int .i64 l', .int .i64 m.garb] 32 (0, 0)) := heap_setCell_same W2 w.heap.size 8 _ _ _ HM2.out
  have hm9 : ((W2.setCell ⟨w.heap.size, 8, none⟩ (.int .i64 l')).setCell ⟨w.heap.size, 9, none⟩ (.int .i64 g')).heap[w.heap.size]? = some (.cells #[s0, s1, s2, s3, s4, s5, s6, s7, .int .i64 l', .int .i64 g'] 32 (0, 0)) := heap_setCell_same _ w.heap.size 9 _ _ _ hm8
  have hz9 : ((W2.setCell ⟨w.heap.size, 8, none⟩ (.int .i64 l')).setCell ⟨w.heap.size, 9, none⟩ (.int .i64 g')).heap[w.heap.size + 1]? = some (.cells #[.slice none 0 0, .slice none 0 0, .slice none 0 0, .slice none 0 0, .slice none 0 0, .slice none 0 0, .slice none 0 0, .slice none 0 0, .int .i64 0, .int .i64 0] 32 (0, 0)) := by
    rw [heap_setCell_other _ _ _ _ (by simp), heap_setCell_other _ _ _ _ (by simp)]
    exact HZ2.out
  have HM5 := Lib.hid hm9
  have HZ5 := Lib.hid hz9
  have B5 := Lib.hid ((B2.out.setCell (p := ⟨w.heap.size, 8, none⟩) (Nat.le_refl _) (.int .i64 l')).setCell (p := ⟨w.heap.size, 9, none⟩) (Nat.le_refl _) (.int .i64 g'))
  clear hm8 hm9 hz9 HM2 HZ2 B2
  generalize (W2.setCell ⟨w.heap.size, 8, none⟩ (.int .i64 l')).setCell ⟨w.heap.size, 9, none⟩ (.int .i64 g') = W5 at *
  obtain ⟨x0, x1, x2, x3, x4, x5, x6, x7, x8, x9⟩ := bx10 HM5.out
  have ON := Lib.hid (ms_one MS.out l' g')
  go_wp2_with ((with_reducible refine storeM (w.heap.size + 1) _ #[s0, s1, s2, s3, s4, s5, s6, s7, .int .i64 l', .int .i64 g'] ?_ ?_ HZ5.out rfl rfl ON.out ?_); exact rfl; exact rfl)
  have SZ := Lib.hid (setRow_heap W5 (w.heap.size + 1) _ #[s0, s1, s2, s3, s4, s5, s6, s7, .int .i64 l', .int .i64 g'] _ _ HZ5.out)
  have BE := Lib.hid (below_setRowM B5.out (Nat.le_succ w.heap.size) #[s0, s1, s2, s3, s4, s5, s6, s7, .int .i64 l', .int .i64 g'])
  refine padd_end (g := w.heap.size + 1) rfl SZ.out ?_
  have hms := ms_below MS.out BE.out
  exact ⟨⟨_, rfl, s0, s1, s2, s3, s4, s5, s6, s7, rfl, hms.1, (HL.out (by trivial)).2, (HG.out (by trivial)).2, hms.2.2.2⟩, BE.out⟩
/-- add of what is exact. -/
theorem padd_any (v : Value) (m : Mp) (a b : Int) (w : World) (hv : Mv w v m) (h1 : m.live.natAbs ≤ 2 ^ 50) (h2 : m.garb.natAbs ≤ 2 ^ 50) (h3 : a.natAbs ≤ 2 ^ 50) (h4 : b.natAbs ≤ 2 ^ 52) :
    Calls Try.prog 49 #[v, .complex .f64 (flw a) (flw b)] w (AdO w (if G40 < m.garb + b then m else ⟨m.st, m.live + a, m.garb + b⟩) (decide (¬ G40 < m.garb + b))) := by
  have hs := csum (a := m.live) (b := m.garb) (c := a) (d := b) (by omega) (by omega) (by omega) (by omega) (by omega) (by omega)
  have ho : (FloatKind.f64.format.order (flw (m.garb + b)) (flw 1099511627776) == some .gt) = decide (G40 < m.garb + b) := by
    rw [order_flw (by omega) (by decide)]
    unfold G40
    rcases Int.lt_trichotomy (m.garb + b) 1099511627776 with h | h | h
    · rw [cmp_lt h, decide_eq_false (by omega)]; rfl
    · rw [h, cmp_self, decide_eq_false (by omega)]; rfl
    · rw [cmp_gt h, decide_eq_true h]; rfl
  have h := padd_all v m _ _ _ _ (decide (G40 < m.garb + b)) (m.live + a) (m.garb + b) w hv hs ho (fun _ => ⟨int_flw (by omega), by unfold J64; omega⟩) (fun _ => ⟨int_flw (by omega), by unfold J64; omega⟩)
  by_cases c : G40 < m.garb + b
  · rw [decide_eq_true c] at h
    rw [if_pos c, decide_eq_false (not_not_intro c)]
    exact h
  · rw [decide_eq_false c] at h
    rw [if_neg c, decide_eq_true c]
    exact h
/-- add of too much garbage. -/
theorem padd_big (v : Value) (m : Mp) (P a Y z : Nat) (w : World) (hv : Mv w v m) (h0 : 0 ≤ m.garb) (h2 : m.garb.natAbs ≤ 2 ^ 50) (hz : Big P z) (hP : P ≤ 700) (hY : floatBits .add .f64 (flw m.live) a = some Y) :
    Calls Try.prog 49 #[v, .complex .f64 a z] w (AdO w m false) := by
  obtain ⟨r, hr, hb⟩ := add_big hz (by omega) h0 (by omega)
  have hs : cSumBits .add .f64 (flw m.live) (flw m.garb) a z = some (Y, r) := by
    unfold cSumBits
    rw [hY, hr]
    rfl
  exact padd_all v m _ _ _ _ true 0 0 w hv hs (by rw [gt_big hb (by decide) (by decide)]; rfl) (fun h => by cases h) (fun h => by cases h)
end Go.Proofs.Ytlooldnaoooehaa.Gf
