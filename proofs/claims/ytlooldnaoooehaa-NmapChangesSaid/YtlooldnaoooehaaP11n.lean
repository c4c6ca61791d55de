/- What is proved here: the laws' told and given: a map of the program and of the reference are the same value. -/
import Derived.Test.YtlooldnaoooehaaP11m
namespace Go.Proofs.Ytlooldnaoooehaa.Gf
open Go Go.Joins Go.ChangeShapes Go.WideShapes Go.ChangeAt Go.RowKit Go.Deep Go.Proofs.Ytlooldnaoooehaa.By Go.Proofs.Ytlooldnaoooehaa.Qt

theorem infoR10 : (Try.prog.info? 25).map (·.size) = some 10 := by kernel_rfl
/-- A store of a whole map of the reference. -/
theorem storeR {ops : Array Oper} {rest : List Oper} {x y : Operand} {pos : String} {after : Array Edge} {ty : TypeId} {a : Act} {w : World} {Q : Exit → Act → World → Prop}
    (g : Nat) (old cs : Array Value) (hx : a.eval x = .pointer (some ⟨g, 0, none⟩)) (hy : a.eval y = .agg cs) (hg : w.heap[g]? = some (.cells old 25 (0, 0))) (ho : old.size = 10) (hs : cs.size = 10) (h1 : cs.all (·.oneCell') = true)
    (h : wpList Try.prog ops Q rest a (w.setRow g cs)) : wpList Try.prog ops Q (⟨none, .store 25 x y, ty, pos, after, none⟩ :: rest) a w :=
  wpList_store_row rfl 25 x y rfl g cs hx hy 25 old hg (by rw [infoR10, hs]) (by omega) h1 h
theorem ro_end {fn : Func} {p : Tmp} {R : Ending → World → Prop} {W : World} {tmps : Array Value} {s0 s1 s2 s3 s4 s5 s6 s7 s8 s9 : Value} (hr : fn.results = #[.cell p 25]) (g : Nat) (hp : tmps.getD p undef = .pointer (some ⟨g, 0, none⟩)) (hg : W.heap[g]? = some (.cells #[s0, s1, s2, s3, s4, s5, s6, s7, s8, s9] 25 (0, 0)))
    (hR : R (.returned (.agg #[s0, s1, s2, s3, s4, s5, s6, s7, s8, s9])) W) : bodyPost Try.prog fn R .ret { tmps := tmps, defers := [] } W :=
  bodyPost_ret (results_cell_row hr _ _ g 25 #[s0, s1, s2, s3, s4, s5, s6, s7, s8, s9] (0, 0) _ hp hg Try.underlying25 rfl infoR10) rfl hR
set_option maxRecDepth 100000 in
set_option maxHeartbeats 6400000 in
theorem told11_any (v : Value) (m : Mp) (w : World) (hv : Mv w v m) : Calls Try.prog 26 #[v] w fun e w' => e = .returned v ∧ Below w.heap.size w w' := by
  obtain ⟨s0, s1, s2, s3, s4, s5, s6, s7, rfl, hms⟩ := hv
  have q1 := bel_al w (.cells #[s0, s1, s2, s3, s4, s5, s6, s7, .int .i64 m.live, .int .i64 m.garb] 32)
  have h1 := heap_alloc_new w (.cells #[s0, s1, s2, s3, s4, s5, s6, s7, .int .i64 m.live, .int .i64 m.garb] 32)
  have hsz : (w.alloc (.cells #[s0, s1, s2, s3, s4, s5, s6, s7, .int .i64 m.live, .int .i64 m.garb] 32)).heap.size = w.heap.size + 1 := by simp
  have q2 := bel_al (w.alloc (.cells #[s0, s1, s2, s3, s4, s5, s6, s7, .int .i64 m.live, .int .i64 m.garb] 32)) (.cells #[.slice none 0 0, .slice none 0 0, .slice none 0 0, .slice none 0 0, .slice none 0 0, .slice none 0 0, .slice none 0 0, .slice none 0 0, .int .i64 0, .int .i64 0] 25)
  have h2 := heap_alloc_new (w.alloc (.cells #[s0, s1, s2, s3, s4, s5, s6, s7, .int .i64 m.live, .int .i64 m.garb] 32)) (.cells #[.slice none 0 0, .slice none 0 0, .slice none 0 0, .slice none 0 0, .slice none 0 0, .slice none 0 0, .slice none 0 0, .slice none 0 0, .int .i64 0, .int .i64 0] 25)
  rw [hsz] at h2
  have HZ2 := Lib.hid h2
  have HM2 := Lib.hid ((q2.block _ (lt_of_some h1)).trans h1)
  have B2 := Lib.hid (q1.trans (q2.mono q1.size))
  have ON := Lib.hid (ms_one hms m.live m.garb)
  clear hms q1 q2 h1 h2 hsz
  go_enter Try.func26, Try.ntmps26
  go_upto_region 1 with fail
  generalize (w.alloc (.cells #[s0, s1, s2, s3, s4, s5, s6, s7, .int .i64 m.live, .int .i64 m.garb] 32)).alloc (.cells #[.slice none 0 0, .slice none 0 0, .slice none 0 0, .slice none 0 0, .slice none 0 0, .slice none 0 0, .slice none 0 0, .slice none 0 0, .int .i64 0, .int .i64 0] 25) = W2 at *
  obtain ⟨x0, x1, x2, x3, x4, x5, x6, x7, x8, x9⟩ := bx10 HM2.out
  go_wp2_with ((with_reducible refine storeR (w.heap.size + 1) _ #[s0, s1, s2, s3, s4, s5, s6, s7, .int .i64 m.live, .int .i64 m.garb] ?_ ?_ HZ2.out rfl rfl ON.out ?_); exact rfl; exact rfl)
  have SZ := Lib.hid (setRow_heap W2 (w.heap.size + 1) _ #[s0, s1, s2, s3, s4, s5, s6, s7, .int .i64 m.live, .int .i64 m.garb] _ _ HZ2.out)
  have BE := Lib.hid (below_setRowM B2.out (Nat.le_succ w.heap.size) #[s0, s1, s2, s3, s4, s5, s6, s7, .int .i64 m.live, .int .i64 m.garb])
  refine ro_end (fn := Try.f26) rfl (w.heap.size + 1) rfl SZ.out ?_
  exact ⟨rfl, BE.out⟩
set_option maxRecDepth 100000 in
set_option maxHeartbeats 6400000 in
theorem given11_any (v : Value) (m : Mp) (w : World) (hv : Mv w v m) : Calls Try.prog 13 #[v] w fun e w' => e = .returned v ∧ Below w.heap.size w w' := by
  obtain ⟨s0, s1, s2, s3, s4, s5, s6, s7, rfl, hms⟩ := hv
  have q1 := bel_al w (.cells #[s0, s1, s2, s3, s4, s5, s6, s7, .int .i64 m.live, .int .i64 m.garb] 25)
  have h1 := heap_alloc_new w (.cells #[s0, s1, s2, s3, s4, s5, s6, s7, .int .i64 m.live, .int .i64 m.garb] 25)
  have hsz : (w.alloc (.cells #[s0, s1, s2, s3, s4, s5, s6, s7, .int .i64 m.live, .int .i64 m.garb] 25)).heap.size = w.heap.size + 1 := by simp
  have q2 := bel_al (w.alloc (.cells #[s0, s1, s2, s3, s4, s5, s6, s7, .int .i64 m.live, .int .i64 m.garb] 25)) (.cells #[.slice none 0 0, .slice none 0 0, .slice none 0 0, .slice none 0 0, .slice none 0 0, .slice none 0 0, .slice none 0 0, .slice none 0 0, .int .i64 0, .int .i64 0] 32)
  have h2 := heap_alloc_new (w.alloc (.cells #[s0, s1, s2, s3, s4, s5, s6, s7, .int .i64 m.live, .int .i64 m.garb] 25)) (.cells #[.slice none 0 0, .slice none 0 0, .slice none 0 0, .slice none 0 0, .slice none 0 0, .slice none 0 0, .slice none 0 0, .slice none 0 0, .int .i64 0, .int .i64 0] 32)
  rw [hsz] at h2
  have HZ2 := Lib.hid h2
  have HM2 := Lib.hid ((q2.block _ (lt_of_some h1)).trans h1)
  have B2 := Lib.hid (q1.trans (q2.mono q1.size))
  have ON := Lib.hid (ms_one hms m.live m.garb)
  clear hms q1 q2 h1 h2 hsz
  go_enter Try.func13, Try.ntmps13
  go_upto_region 1 with fail
  generalize (w.alloc (.cells #[s0, s1, s2, s3, s4, s5, s6, s7, .int .i64 m.live, .int .i64 m.garb] 25)).alloc (.cells #[.slice none 0 0, .slice none 0 0, .slice none 0 0, .slice none 0 0, .slice none 0 0, .slice none 0 0, .slice none 0 0, .slice none 0 0, .int .i64 0, .int .i64 0] 32) = W2 at *
  obtain ⟨x0, x1, x2, x3, x4, x5, x6, x7, x8, x9⟩ := bx10 HM2.out
  go_wp2_with ((with_reducible refine storeM (w.heap.size + 1) _ #[s0, s1, s2, s3, s4, s5, s6, s7, .int .i64 m.live, .int .i64 m.garb] ?_ ?_ HZ2.out rfl rfl ON.out ?_); exact rfl; exact rfl)
  have SZ := Lib.hid (setRow_heap W2 (w.heap.size + 1) _ #[s0, s1, s2, s3, s4, s5, s6, s7, .int .i64 m.live, .int .i64 m.garb] _ _ HZ2.out)
  have BE := Lib.hid (below_setRowM B2.out (Nat.le_succ w.heap.size) #[s0, s1, s2, s3, s4, s5, s6, s7, .int .i64 m.live, .int .i64 m.garb])
  refine mo_end (fn := Try.f13) rfl (w.heap.size + 1) rfl SZ.out ?_
  exact ⟨rfl, BE.out⟩
end Go.Proofs.Ytlooldnaoooehaa.Gf
