/- What is proved here: small facts and contracts of slots and generations that layer 12 shares with layer 13. -/
import Derived.Test.YtbmlpafbdbhaiaaGreatDoorGs7
import Derived.Test.YtbmlpafbdbhaiaaGreatDoorFl
import Derived.Test.YtbmlpafbdbhaiaaGreatDoorVq
import Derived.Deep.MidRow
namespace Go.Proofs.YtbmlpafbdbhaiaaGreatDoor.Gf
open Go Go.Joins Go.ChangeShapes Go.WideShapes Go.ChangeAt Go.RowKit Go.Deep Go.Proofs.YtbmlpafbdbhaiaaGreatDoor.By Go.Proofs.YtbmlpafbdbhaiaaGreatDoor.Qt
set_option maxRecDepth 100000
set_option maxHeartbeats 204800000
theorem infoG14 : (Tryz.prog.info? 50).map (·.size) = some 14 := by kernel_rfl
theorem storeG {ops : Array Oper} {rest : List Oper} {x y : Operand} {pos : String} {after : Array Edge} {ty : TypeId} {a : Act} {w : World} {Q : Exit → Act → World → Prop}
 (g : Nat) (old cs : Array Value) (hx : a.eval x = .pointer (some ⟨g, 0, none⟩)) (hy : a.eval y = .agg cs) (hg : w.heap[g]? = some (.cells old 50 (0, 0))) (ho : old.size = 14) (hs : cs.size = 14) (h1 : cs.all (·.oneCell') = true)
 (h : wpList Tryz.prog ops Q rest a (w.setRow g cs)) : wpList Tryz.prog ops Q (⟨none, .store 50 x y, ty, pos, after, none⟩ :: rest) a w :=
 wpList_store_row rfl 50 x y rfl g cs hx hy 50 old hg (by rw [infoG14, hs]) (by omega) h1 h
theorem gc_one {w : World} {s0 s1 s2 s3 s4 s5 s6 s7 : Value} {g : Ge} (h : Ms w [s0, s1, s2, s3, s4, s5, s6, s7] g.m) : (#[.int .i64 g.num, .int .i64 g.rev, .int .i64 g.mode, .int .i64 g.size, s0, s1, s2, s3, s4, s5, s6, s7, .int .i64 g.m.live, .int .i64 g.m.garb] : Array Value).all (·.oneCell') = true := by
 obtain ⟨a0, k0, hs0, -⟩ := h.2.2.2 0 (by decide)
 obtain rfl := Option.some.inj hs0
 obtain ⟨a1, k1, hs1, -⟩ := h.2.2.2 1 (by decide)
 obtain rfl := Option.some.inj hs1
 obtain ⟨a2, k2, hs2, -⟩ := h.2.2.2 2 (by decide)
 obtain rfl := Option.some.inj hs2
 obtain ⟨a3, k3, hs3, -⟩ := h.2.2.2 3 (by decide)
 obtain rfl := Option.some.inj hs3
 obtain ⟨a4, k4, hs4, -⟩ := h.2.2.2 4 (by decide)
 obtain rfl := Option.some.inj hs4
 obtain ⟨a5, k5, hs5, -⟩ := h.2.2.2 5 (by decide)
 obtain rfl := Option.some.inj hs5
 obtain ⟨a6, k6, hs6, -⟩ := h.2.2.2 6 (by decide)
 obtain rfl := Option.some.inj hs6
 obtain ⟨a7, k7, hs7, -⟩ := h.2.2.2 7 (by decide)
 obtain rfl := Option.some.inj hs7
 rw [Array.all_eq_true_iff_forall_mem]
 intro v hv
 simp only [List.mem_toArray, List.mem_cons, List.not_mem_nil, or_false] at hv
 rcases hv with rfl | rfl | rfl | rfl | rfl | rfl | rfl | rfl | rfl | rfl | rfl | rfl | rfl | rfl <;> rfl
def g0 : Ge := ⟨0, 0, 0, 0, mp0⟩
/-- The k-th generation of a list: its cells. -/
structure GAt (w : World) (b o : Nat) (s0 s1 s2 s3 s4 s5 s6 s7 : Value) (g : Ge) : Prop where
 cells : w.cell? ⟨b, o, none⟩ = some (.int .i64 g.num) ∧ w.cell? ⟨b, o + 1, none⟩ = some (.int .i64 g.rev) ∧ w.cell? ⟨b, o + 2, none⟩ = some (.int .i64 g.mode) ∧ w.cell? ⟨b, o + 3, none⟩ = some (.int .i64 g.size) ∧ w.cell? ⟨b, o + 4, none⟩ = some (s0) ∧ w.cell? ⟨b, o + 5, none⟩ = some (s1) ∧ w.cell? ⟨b, o + 6, none⟩ = some (s2) ∧ w.cell? ⟨b, o + 7, none⟩ = some (s3) ∧ w.cell? ⟨b, o + 8, none⟩ = some (s4) ∧ w.cell? ⟨b, o + 9, none⟩ = some (s5) ∧ w.cell? ⟨b, o + 10, none⟩ = some (s6) ∧ w.cell? ⟨b, o + 11, none⟩ = some (s7) ∧ w.cell? ⟨b, o + 12, none⟩ = some (.int .i64 g.m.live) ∧ w.cell? ⟨b, o + 13, none⟩ = some (.int .i64 g.m.garb)
 ms : Ms w [s0, s1, s2, s3, s4, s5, s6, s7] g.m
 j : J64 g.num ∧ J64 g.rev ∧ J64 g.mode ∧ J64 g.size
theorem GAt.one {w : World} {b o : Nat} {s0 s1 s2 s3 s4 s5 s6 s7 : Value} {g : Ge} (h : GAt w b o s0 s1 s2 s3 s4 s5 s6 s7 g) : (#[.int .i64 g.num, .int .i64 g.rev, .int .i64 g.mode, .int .i64 g.size, s0, s1, s2, s3, s4, s5, s6, s7, .int .i64 g.m.live, .int .i64 g.m.garb] : Array Value).all (·.oneCell') = true := gc_one h.ms
/-- A generation with few items. -/
def LGe (g : Ge) : Prop := Few g.m ∧ g.m.st.flatten.length ≤ 900
end Go.Proofs.YtbmlpafbdbhaiaaGreatDoor.Gf
namespace Go.Proofs.YtbmlpafbdbhaiaaGreatDoor.Gf
open Go Go.Joins Go.ChangeShapes Go.WideShapes Go.ChangeAt Go.RowKit Go.Deep Go.Proofs.YtbmlpafbdbhaiaaGreatDoor.By Go.Proofs.YtbmlpafbdbhaiaaGreatDoor.Qt
set_option maxRecDepth 100000
set_option maxHeartbeats 204800000
theorem chain_nil {P : Program} {ops : Array Oper} {Q : Exit → Act → World → Prop} {S : World → Prop} {END : Act → World → Prop} {a : Act} {w : World} (h : ∀ W, Below w.heap.size w W → S W → END a W) : wpChain P ops Q S END [] a w := h
theorem ms_setRowF {Y : World} {p : Nat} {vs : List Value} {m : Mp} {cs : Array Value} {cs0 : Array Value} {T : TypeId} (h : Ms Y vs m) (hz : Y.heap[p]? = some (.cells cs0 T (0, 0))) (hn : ∀ (k : Nat) (n : Int), cs0[k]? ≠ some (Value.int .u64 n)) : Ms (Y.setRow p cs) vs m := ⟨h.1, h.2.1, h.2.2.1, fun k hk => by
 obtain ⟨a, c, h1, h2⟩ := h.2.2.2 k hk
 exact ⟨a, c, h1, it_keepM h2 hz hn fun b hb => setRow_other _ _ _ _ hb⟩⟩
theorem zeroG_u64 : ∀ (k : Nat) (n : Int), (#[.int .i64 0, .int .i64 0, .int .i64 0, .int .i64 0, .slice none 0 0, .slice none 0 0, .slice none 0 0, .slice none 0 0, .slice none 0 0, .slice none 0 0, .slice none 0 0, .slice none 0 0, .int .i64 0, .int .i64 0] : Array Value)[k]? ≠ some (Value.int .u64 n) := fun k n h => by
 match k, h with
 | 0, h => simp at h
 | 1, h => simp at h
 | 2, h => simp at h
 | 3, h => simp at h
 | 4, h => simp at h
 | 5, h => simp at h
 | 6, h => simp at h
 | 7, h => simp at h
 | 8, h => simp at h
 | 9, h => simp at h
 | 10, h => simp at h
 | 11, h => simp at h
 | 12, h => simp at h
 | 13, h => simp at h
 | k + 14, h => simp at h
end Go.Proofs.YtbmlpafbdbhaiaaGreatDoor.Gf
namespace Go.Proofs.YtbmlpafbdbhaiaaGreatDoor.Gf
open Go Go.Joins Go.ChangeShapes Go.WideShapes Go.ChangeAt Go.RowKit Go.Deep Go.Proofs.YtbmlpafbdbhaiaaGreatDoor.By Go.Proofs.YtbmlpafbdbhaiaaGreatDoor.Qt
set_option maxRecDepth 100000
set_option maxHeartbeats 204800000
theorem zg_one : (#[.int .i64 0, .int .i64 0, .int .i64 0, .int .i64 0, .slice none 0 0, .slice none 0 0, .slice none 0 0, .slice none 0 0, .slice none 0 0, .slice none 0 0, .slice none 0 0, .slice none 0 0, .int .i64 0, .int .i64 0] : Array Value).all (·.oneCell') = true := by kernel_rfl
theorem g0_v (w : World) : Gv w (.agg #[.int .i64 0, .int .i64 0, .int .i64 0, .int .i64 0, .slice none 0 0, .slice none 0 0, .slice none 0 0, .slice none 0 0, .slice none 0 0, .slice none 0 0, .slice none 0 0, .slice none 0 0, .int .i64 0, .int .i64 0]) g0 := ⟨_, _, _, _, _, _, _, _, rfl, mp0_ms w, by unfold J64 g0; decide, by unfold J64 g0; decide, by unfold J64 g0; decide, by unfold J64 g0; decide⟩
/-- A fresh generation. -/
def frG (n : Int) : Ge := ⟨n, 0, 1, 16, mp0⟩
/-- What Fresh answers. -/
def FreO (n : Int) (w : World) (e : Ending) (w' : World) : Prop := (∃ v, e = .returned (.tuple #[v, .int .i64 (if 1 ≤ n ∧ n ≤ 8 then 0 else 1)]) ∧ Gv w' v (if 1 ≤ n ∧ n ≤ 8 then frG n else g0)) ∧ Below w.heap.size w w'
theorem freO_t {n : Int} {w w' : World} {e : Ending} (h : 1 ≤ n ∧ n ≤ 8) (q : (∃ v, e = .returned (.tuple #[v, .int .i64 0]) ∧ Gv w' v (frG n)) ∧ Below w.heap.size w w') : FreO n w e w' := by
 unfold FreO
 rw [if_pos h, if_pos h]
 exact q
theorem freO_f {n : Int} {w w' : World} {e : Ending} (h : ¬ (1 ≤ n ∧ n ≤ 8)) (q : (∃ v, e = .returned (.tuple #[v, .int .i64 1]) ∧ Gv w' v g0) ∧ Below w.heap.size w w') : FreO n w e w' := by
 unfold FreO
 rw [if_neg h, if_neg h]
 exact q
theorem pfresh_any (n : Int) (w : World) : Calls Tryz.prog 21 #[.int .i64 n] w (FreO n w) := by
 have B0 := Lh (bel_al w (.cells #[.int .i64 0, .int .i64 0, .int .i64 0, .int .i64 0, .slice none 0 0, .slice none 0 0, .slice none 0 0, .slice none 0 0, .slice none 0 0, .slice none 0 0, .slice none 0 0, .slice none 0 0, .int .i64 0, .int .i64 0] 50))
 have HG := Lh (heap_alloc_new w (.cells #[.int .i64 0, .int .i64 0, .int .i64 0, .int .i64 0, .slice none 0 0, .slice none 0 0, .slice none 0 0, .slice none 0 0, .slice none 0 0, .slice none 0 0, .slice none 0 0, .slice none 0 0, .int .i64 0, .int .i64 0] 50))
 go_enter Tryz.func21, Tryz.ntmps21
 go_upto_region 1 with fail
 generalize w.alloc (.cells #[.int .i64 0, .int .i64 0, .int .i64 0, .int .i64 0, .slice none 0 0, .slice none 0 0, .slice none 0 0, .slice none 0 0, .slice none 0 0, .slice none 0 0, .slice none 0 0, .slice none 0 0, .int .i64 0, .int .i64 0] 50) = W0 at *
 go_wp2_with fail
 refine (pvalidNumber_any n W0).mono ?_
 rintro e W0' ⟨rfl, rfl⟩
 rcases Classical.em (1 ≤ n ∧ n ≤ 8) with h1 | h1
 ·rw [decide_eq_true h1]
  have HH := Lh h1
  clear h1
  go_wp2_with fail
  refine (pnew_any W0).mono ?_
  rintro e W1 ⟨⟨v1, rfl, hv1⟩, hb⟩
  obtain ⟨s0, s1, s2, s3, s4, s5, s6, s7, rfl, hms⟩ := hv1
  have HG1 := Lh ((hb.block _ (lt_of_some HG.out)).trans HG.out)
  have B1 := Lh (B0.out.trans (hb.mono B0.out.size))
  have ON := Lh (gc_one (g := frG n) hms)
  have MS := Lh hms
  clear hb HG B0 hms
  go_wp2_with ((with_reducible refine storeG w.heap.size _ #[.int .i64 (frG n).num, .int .i64 (frG n).rev, .int .i64 (frG n).mode, .int .i64 (frG n).size, s0, s1, s2, s3, s4, s5, s6, s7, .int .i64 (frG n).m.live, .int .i64 (frG n).m.garb] ?_ ?_ HG1.out rfl rfl ON.out ?_); exact rfl; exact rfl)
  refine bodyPost_ret (results_rt (S := 50) rfl _ _ w.heap.size #[.int .i64 (frG n).num, .int .i64 (frG n).rev, .int .i64 (frG n).mode, .int .i64 (frG n).size, s0, s1, s2, s3, s4, s5, s6, s7, .int .i64 (frG n).m.live, .int .i64 (frG n).m.garb] rfl (setRow_heap _ _ _ _ _ _ HG1.out) Tryz.underlying50 rfl infoG14) rfl ?_
  exact freO_t HH.out ⟨⟨_, rfl, s0, s1, s2, s3, s4, s5, s6, s7, rfl, ms_setRowF MS.out HG1.out zeroG_u64, by have := HH.out; unfold J64 frG; simp only; omega, by unfold J64 frG; simp only; omega, by unfold J64 frG; simp only; omega, by unfold J64 frG; simp only; omega⟩, below_setRowM B1.out (Nat.le_refl _) _⟩
 ·rw [decide_eq_false h1]
  have HH := Lh h1
  clear h1
  go_wp2_with ((with_reducible refine storeG w.heap.size _ #[.int .i64 0, .int .i64 0, .int .i64 0, .int .i64 0, .slice none 0 0, .slice none 0 0, .slice none 0 0, .slice none 0 0, .slice none 0 0, .slice none 0 0, .slice none 0 0, .slice none 0 0, .int .i64 0, .int .i64 0] ?_ ?_ HG.out rfl rfl zg_one ?_); exact rfl; exact rfl)
  refine bodyPost_ret (results_rt (S := 50) rfl _ _ w.heap.size #[.int .i64 0, .int .i64 0, .int .i64 0, .int .i64 0, .slice none 0 0, .slice none 0 0, .slice none 0 0, .slice none 0 0, .slice none 0 0, .slice none 0 0, .slice none 0 0, .slice none 0 0, .int .i64 0, .int .i64 0] rfl (setRow_heap _ _ _ _ _ _ HG.out) Tryz.underlying50 rfl infoG14) rfl ?_
  exact freO_f HH.out ⟨⟨_, rfl, g0_v _⟩, below_setRowM B0.out (Nat.le_refl _) _⟩
end Go.Proofs.YtbmlpafbdbhaiaaGreatDoor.Gf
namespace Go.Proofs.YtbmlpafbdbhaiaaGreatDoor.Gf
open Go Go.Joins Go.ChangeShapes Go.WideShapes Go.ChangeAt Go.RowKit Go.Deep Go.Proofs.YtbmlpafbdbhaiaaGreatDoor.By Go.Proofs.YtbmlpafbdbhaiaaGreatDoor.Qt
set_option maxRecDepth 100000
set_option maxHeartbeats 204800000
theorem infoRG14 : (Tryz.prog.info? 43).map (·.size) = some 14 := by kernel_rfl
theorem storeRG {ops : Array Oper} {rest : List Oper} {x y : Operand} {pos : String} {after : Array Edge} {ty : TypeId} {a : Act} {w : World} {Q : Exit → Act → World → Prop}
 (g : Nat) (old cs : Array Value) (hx : a.eval x = .pointer (some ⟨g, 0, none⟩)) (hy : a.eval y = .agg cs) (hg : w.heap[g]? = some (.cells old 43 (0, 0))) (ho : old.size = 14) (hs : cs.size = 14) (h1 : cs.all (·.oneCell') = true)
 (h : wpList Tryz.prog ops Q rest a (w.setRow g cs)) : wpList Tryz.prog ops Q (⟨none, .store 43 x y, ty, pos, after, none⟩ :: rest) a w :=
 wpList_store_row rfl 43 x y rfl g cs hx hy 43 old hg (by rw [infoRG14, hs]) (by omega) h1 h
end Go.Proofs.YtbmlpafbdbhaiaaGreatDoor.Gf
namespace Go.Proofs.YtbmlpafbdbhaiaaGreatDoor.Gf
open Go Go.Joins Go.ChangeShapes Go.WideShapes Go.ChangeAt Go.RowKit Go.Deep Go.Proofs.YtbmlpafbdbhaiaaGreatDoor.By Go.Proofs.YtbmlpafbdbhaiaaGreatDoor.Qt
set_option maxRecDepth 100000
set_option maxHeartbeats 204800000
theorem fr_one (n : Int) : (#[.int .i64 (frG n).num, .int .i64 (frG n).rev, .int .i64 (frG n).mode, .int .i64 (frG n).size, .slice none 0 0, .slice none 0 0, .slice none 0 0, .slice none 0 0, .slice none 0 0, .slice none 0 0, .slice none 0 0, .slice none 0 0, .int .i64 (frG n).m.live, .int .i64 (frG n).m.garb] : Array Value).all (·.oneCell') = true := gc_one (g := frG n) (mp0_ms (default : World))
theorem rfresh_any (n : Int) (w : World) : Calls Tryz.prog 22 #[.int .i64 n] w (FreO n w) := by
 have B0 := Lh (bel_al w (.cells #[.int .i64 0, .int .i64 0, .int .i64 0, .int .i64 0, .slice none 0 0, .slice none 0 0, .slice none 0 0, .slice none 0 0, .slice none 0 0, .slice none 0 0, .slice none 0 0, .slice none 0 0, .int .i64 0, .int .i64 0] 43))
 have HG := Lh (heap_alloc_new w (.cells #[.int .i64 0, .int .i64 0, .int .i64 0, .int .i64 0, .slice none 0 0, .slice none 0 0, .slice none 0 0, .slice none 0 0, .slice none 0 0, .slice none 0 0, .slice none 0 0, .slice none 0 0, .int .i64 0, .int .i64 0] 43))
 go_enter Tryz.func22, Tryz.ntmps22
 go_upto_region 1 with fail
 generalize w.alloc (.cells #[.int .i64 0, .int .i64 0, .int .i64 0, .int .i64 0, .slice none 0 0, .slice none 0 0, .slice none 0 0, .slice none 0 0, .slice none 0 0, .slice none 0 0, .slice none 0 0, .slice none 0 0, .int .i64 0, .int .i64 0] 43) = W0 at *
 rcases Classical.em (n < 1) with h1 | h1
 ·have d1 : decide (n < 1) = true := decide_eq_true h1
  have HH := Lh (show ¬ (1 ≤ n ∧ n ≤ 8) by omega)
  clear h1
  go_wp2_with ((with_reducible refine storeRG w.heap.size _ #[.int .i64 0, .int .i64 0, .int .i64 0, .int .i64 0, .slice none 0 0, .slice none 0 0, .slice none 0 0, .slice none 0 0, .slice none 0 0, .slice none 0 0, .slice none 0 0, .slice none 0 0, .int .i64 0, .int .i64 0] ?_ ?_ HG.out rfl rfl zg_one ?_); exact rfl; exact rfl)
  refine bodyPost_ret (results_rt (S := 43) rfl _ _ w.heap.size #[.int .i64 0, .int .i64 0, .int .i64 0, .int .i64 0, .slice none 0 0, .slice none 0 0, .slice none 0 0, .slice none 0 0, .slice none 0 0, .slice none 0 0, .slice none 0 0, .slice none 0 0, .int .i64 0, .int .i64 0] rfl (setRow_heap _ _ _ _ _ _ HG.out) Tryz.underlying43 rfl infoRG14) rfl ?_
  exact freO_f HH.out ⟨⟨_, rfl, g0_v _⟩, below_setRowM B0.out (Nat.le_refl _) _⟩
 have d1 : decide (n < 1) = false := decide_eq_false h1
 rcases Classical.em (8 < n) with h2 | h2
 ·have d2 : decide (8 < n) = true := decide_eq_true h2
  have HH := Lh (show ¬ (1 ≤ n ∧ n ≤ 8) by omega)
  clear h1 h2
  go_wp2_with ((with_reducible refine storeRG w.heap.size _ #[.int .i64 0, .int .i64 0, .int .i64 0, .int .i64 0, .slice none 0 0, .slice none 0 0, .slice none 0 0, .slice none 0 0, .slice none 0 0, .slice none 0 0, .slice none 0 0, .slice none 0 0, .int .i64 0, .int .i64 0] ?_ ?_ HG.out rfl rfl zg_one ?_); exact rfl; exact rfl)
  refine bodyPost_ret (results_rt (S := 43) rfl _ _ w.heap.size #[.int .i64 0, .int .i64 0, .int .i64 0, .int .i64 0, .slice none 0 0, .slice none 0 0, .slice none 0 0, .slice none 0 0, .slice none 0 0, .slice none 0 0, .slice none 0 0, .slice none 0 0, .int .i64 0, .int .i64 0] rfl (setRow_heap _ _ _ _ _ _ HG.out) Tryz.underlying43 rfl infoRG14) rfl ?_
  exact freO_f HH.out ⟨⟨_, rfl, g0_v _⟩, below_setRowM B0.out (Nat.le_refl _) _⟩
 have d2 : decide (8 < n) = false := decide_eq_false h2
 have HH := Lh (show 1 ≤ n ∧ n ≤ 8 by omega)
 clear h1 h2
 have ON := Lh (fr_one n)
 go_wp2_with ((with_reducible refine storeRG w.heap.size _ #[.int .i64 (frG n).num, .int .i64 (frG n).rev, .int .i64 (frG n).mode, .int .i64 (frG n).size, .slice none 0 0, .slice none 0 0, .slice none 0 0, .slice none 0 0, .slice none 0 0, .slice none 0 0, .slice none 0 0, .slice none 0 0, .int .i64 (frG n).m.live, .int .i64 (frG n).m.garb] ?_ ?_ HG.out rfl rfl ON.out ?_); exact rfl; exact rfl)
 refine bodyPost_ret (results_rt (S := 43) rfl _ _ w.heap.size #[.int .i64 (frG n).num, .int .i64 (frG n).rev, .int .i64 (frG n).mode, .int .i64 (frG n).size, .slice none 0 0, .slice none 0 0, .slice none 0 0, .slice none 0 0, .slice none 0 0, .slice none 0 0, .slice none 0 0, .slice none 0 0, .int .i64 (frG n).m.live, .int .i64 (frG n).m.garb] rfl (setRow_heap _ _ _ _ _ _ HG.out) Tryz.underlying43 rfl infoRG14) rfl ?_
 exact freO_t HH.out ⟨⟨_, rfl, _, _, _, _, _, _, _, _, rfl, mp0_ms _, by have := HH.out; unfold J64 frG; simp only; omega, by unfold J64 frG; simp only; omega, by unfold J64 frG; simp only; omega, by unfold J64 frG; simp only; omega⟩, below_setRowM B0.out (Nat.le_refl _) _⟩
end Go.Proofs.YtbmlpafbdbhaiaaGreatDoor.Gf
namespace Go.Proofs.YtbmlpafbdbhaiaaGreatDoor.Gf
open Go Go.Joins Go.ChangeShapes Go.WideShapes Go.ChangeAt Go.RowKit Go.Deep Go.Proofs.YtbmlpafbdbhaiaaGreatDoor.By Go.Proofs.YtbmlpafbdbhaiaaGreatDoor.Qt
set_option maxRecDepth 100000
set_option maxHeartbeats 204800000
def setL : Array Value → Nat → List Value → Array Value
 | cs, _, [] => cs
 | cs, o, v :: r => setL (cs.setIfInBounds o v) (o + 1) r
theorem setCells_row {g : Nat} {T : TypeId} {fr : Nat × Nat} : ∀ (vs : List Value) (o : Nat) (cs : Array Value) (w : World), w.heap[g]? = some (.cells cs T fr) → w.setCells g o vs = w.setRow g (setL cs o vs)
 | [], _, cs, w, h => (setRow_self w g cs T fr h).symm
 | v :: r, o, cs, w, h => by
  unfold World.setCells setL
  rw [setCell_eq_setRow w g o cs T fr v h, setCells_row r (o + 1) _ _ (setRow_heap w g cs _ T fr h), setRow_setRow]
theorem there_row {w : World} {g o n : Nat} {cs : Array Value} {T : TypeId} (h : w.heap[g]? = some (.cells cs T (0, 0))) (hn : o + n ≤ cs.size) : w.there g o n := fun j hj => ⟨by rw [cell_of_row w g (o + j) _ _ _ h, Array.getElem?_eq_getElem (by omega)]; rfl, frozen_of_row w g (o + j) cs T h⟩
theorem setMap {w : World} {g : Nat} {T : TypeId} {c0 c1 c2 c3 c4 c5 c6 c7 c8 c9 c10 c11 c12 c13 d0 d1 d2 d3 d4 d5 d6 d7 d8 d9 : Value} (h : w.heap[g]? = some (.cells #[c0, c1, c2, c3, c4, c5, c6, c7, c8, c9, c10, c11, c12, c13] T (0, 0))) : w.setCells g 4 [d0, d1, d2, d3, d4, d5, d6, d7, d8, d9] = w.setRow g #[c0, c1, c2, c3, d0, d1, d2, d3, d4, d5, d6, d7, d8, d9] := by
 rw [setCells_row _ _ _ _ h, show setL #[c0, c1, c2, c3, c4, c5, c6, c7, c8, c9, c10, c11, c12, c13] 4 [d0, d1, d2, d3, d4, d5, d6, d7, d8, d9] = #[c0, c1, c2, c3, d0, d1, d2, d3, d4, d5, d6, d7, d8, d9] by simp [setL]]
theorem gc_u64 {w : World} {s0 s1 s2 s3 s4 s5 s6 s7 : Value} {g : Ge} (h : Ms w [s0, s1, s2, s3, s4, s5, s6, s7] g.m) : ∀ (k : Nat) (n : Int), (#[.int .i64 g.num, .int .i64 g.rev, .int .i64 g.mode, .int .i64 g.size, s0, s1, s2, s3, s4, s5, s6, s7, .int .i64 g.m.live, .int .i64 g.m.garb] : Array Value)[k]? ≠ some (.int .u64 n) := by
 obtain ⟨a0, k0, hs0, -⟩ := h.2.2.2 0 (by decide)
 obtain rfl := Option.some.inj hs0
 obtain ⟨a1, k1, hs1, -⟩ := h.2.2.2 1 (by decide)
 obtain rfl := Option.some.inj hs1
 obtain ⟨a2, k2, hs2, -⟩ := h.2.2.2 2 (by decide)
 obtain rfl := Option.some.inj hs2
 obtain ⟨a3, k3, hs3, -⟩ := h.2.2.2 3 (by decide)
 obtain rfl := Option.some.inj hs3
 obtain ⟨a4, k4, hs4, -⟩ := h.2.2.2 4 (by decide)
 obtain rfl := Option.some.inj hs4
 obtain ⟨a5, k5, hs5, -⟩ := h.2.2.2 5 (by decide)
 obtain rfl := Option.some.inj hs5
 obtain ⟨a6, k6, hs6, -⟩ := h.2.2.2 6 (by decide)
 obtain rfl := Option.some.inj hs6
 obtain ⟨a7, k7, hs7, -⟩ := h.2.2.2 7 (by decide)
 obtain rfl := Option.some.inj hs7
 intro k n h
 match k, h with
 | 0, h => simp at h
 | 1, h => simp at h
 | 2, h => simp at h
 | 3, h => simp at h
 | 4, h => simp at h
 | 5, h => simp at h
 | 6, h => simp at h
 | 7, h => simp at h
 | 8, h => simp at h
 | 9, h => simp at h
 | 10, h => simp at h
 | 11, h => simp at h
 | 12, h => simp at h
 | 13, h => simp at h
 | k + 14, h => simp at h
theorem few_of {m : Mp} (hl : m.st.length = 8) (h : m.st.flatten.length ≤ 1000) : Few m := fun k hk => by
 rw [ms_of (by rw [hl]; exact hk)]
 exact Nat.le_trans (List.sublist_flatten_of_mem (List.getElem_mem _)).length_le h
theorem fl_put {m : Mp} {n : Nat} (h : m.st.flatten.length ≤ n) (x : Itm) : (putM m x).st.flatten.length ≤ n + 1 := by
 unfold putM fromL
 split
 ·split
  ·exact Nat.le_trans h (Nat.le_succ _)
  ·split
   ·show (splitM (sortL (putL (iL m) x))).flatten.length ≤ _
    rw [(flat_split _).1]
    refine Nat.le_trans (length_sortL _) (Nat.le_trans (length_insL _ _) ?_)
    exact Nat.succ_le_succ (Nat.le_trans (length_sortL _) (Nat.le_trans (length_sortL _) h))
   ·exact Nat.zero_le _
 ·exact Nat.le_trans h (Nat.le_succ _)
theorem fl_del {m : Mp} {n : Nat} (h : m.st.flatten.length ≤ n) (k : Nat) : (delM m k).st.flatten.length ≤ n := by
 unfold delM fromL
 split
 ·split
  ·exact h
  ·split
   ·show (splitM (sortL (dropL (iL m) k))).flatten.length ≤ _
    rw [(flat_split _).1]
    refine Nat.le_trans (length_sortL _) (Nat.le_trans (List.length_filter_le _ _) ?_)
    exact Nat.le_trans (length_sortL _) (Nat.le_trans (length_sortL _) h)
   ·exact Nat.zero_le _
 ·exact h
theorem fl_waste {m : Mp} {n : Nat} (h : m.st.flatten.length ≤ n) (k : Int) : (wasteM m k).st.flatten.length ≤ n := by
 unfold wasteM
 split <;> exact h
/-- What moded answers. -/
noncomputable def modG (g : Ge) (fr tm : Int) : Ge := if okGb g = true ∧ g.mode = fr then { g with mode := tm } else g0
noncomputable def modC (g : Ge) (fr : Int) : Int := if okGb g = true then (if g.mode = fr then 0 else 12) else 1
def ModO (g : Ge) (fr tm : Int) (w : World) (e : Ending) (w' : World) : Prop := (∃ v, e = .returned (.tuple #[v, .int .i64 (modC g fr)]) ∧ Gv w' v (modG g fr tm)) ∧ Below w.heap.size w w'
theorem modO_of {g T : Ge} {C fr tm : Int} {w w' : World} {e : Ending} (h : modG g fr tm = T) (h2 : modC g fr = C) (q : (∃ v, e = .returned (.tuple #[v, .int .i64 C]) ∧ Gv w' v T) ∧ Below w.heap.size w w') : ModO g fr tm w e w' := by
 subst h h2
 exact q
theorem modO_bad {g : Ge} {fr tm : Int} {w w' : World} {e : Ending} (h : ¬ okGe g) (q : (∃ v, e = .returned (.tuple #[v, .int .i64 1]) ∧ Gv w' v g0) ∧ Below w.heap.size w w') : ModO g fr tm w e w' := by
 unfold ModO modC modG
 rw [okGb_f h, if_neg Bool.false_ne_true, if_neg (fun k => Bool.false_ne_true k.1)]
 exact q
theorem modO_state {g : Ge} {fr tm : Int} {w w' : World} {e : Ending} (h : okGe g) (h2 : g.mode ≠ fr) (q : (∃ v, e = .returned (.tuple #[v, .int .i64 12]) ∧ Gv w' v g0) ∧ Below w.heap.size w w') : ModO g fr tm w e w' := by
 unfold ModO modC modG
 rw [okGb_t h, if_pos rfl, if_neg h2, if_neg (fun k => h2 k.2)]
 exact q
theorem modO_ok {g : Ge} {fr tm : Int} {w w' : World} {e : Ending} (h : okGe g) (h2 : g.mode = fr) (q : (∃ v, e = .returned (.tuple #[v, .int .i64 0]) ∧ Gv w' v { g with mode := tm }) ∧ Below w.heap.size w w') : ModO g fr tm w e w' := by
 unfold ModO modC modG
 rw [okGb_t h, if_pos rfl, if_pos h2, if_pos ⟨rfl, h2⟩]
 exact q
theorem rmoded_any (v : Value) (g : Ge) (fr tm : Int) (hto : J64 tm) (w : World) (hv : Gv w v g) (hf : Few g.m) (hn : g.m.st.flatten.length ≤ 1000) : Calls Tryz.prog 69 #[v, .int .i64 fr, .int .i64 tm] w (ModO g fr tm w) := by
 obtain ⟨s0, s1, s2, s3, s4, s5, s6, s7, rfl, hm, hj⟩ := hv
 have q0 := al2 w (.cells #[.int .i64 g.num, .int .i64 g.rev, .int .i64 g.mode, .int .i64 g.size, s0, s1, s2, s3, s4, s5, s6, s7, .int .i64 g.m.live, .int .i64 g.m.garb] 43) (.cells #[.int .i64 0, .int .i64 0, .int .i64 0, .int .i64 0, .slice none 0 0, .slice none 0 0, .slice none 0 0, .slice none 0 0, .slice none 0 0, .slice none 0 0, .slice none 0 0, .slice none 0 0, .int .i64 0, .int .i64 0] 43)
 have HS := Lh q0.1
 have HZ := Lh q0.2.1
 have B0 := Lh q0.2.2
 have MS := Lh (ms_below hm q0.2.2)
 have ON := Lh (gc_one (g := ⟨g.num, g.rev, tm, g.size, g.m⟩) hm)
 have UF := Lh (gc_u64 (g := g) hm)
 have HJ := Lh hj
 have HTO := Lh hto
 have PV := Lh (fun W (h : Gv W (.agg #[.int .i64 g.num, .int .i64 g.rev, .int .i64 g.mode, .int .i64 g.size, s0, s1, s2, s3, s4, s5, s6, s7, .int .i64 g.m.live, .int .i64 g.m.garb]) g) => rgvalid_any (.agg #[.int .i64 g.num, .int .i64 g.rev, .int .i64 g.mode, .int .i64 g.size, s0, s1, s2, s3, s4, s5, s6, s7, .int .i64 g.m.live, .int .i64 g.m.garb]) g W h hf hn)
 clear q0 hm hj hf hn hto
 go_enter Tryz.func69, Tryz.ntmps69
 go_upto_region 1 with fail
 generalize (w.alloc (.cells #[.int .i64 g.num, .int .i64 g.rev, .int .i64 g.mode, .int .i64 g.size, s0, s1, s2, s3, s4, s5, s6, s7, .int .i64 g.m.live, .int .i64 g.m.garb] 43)).alloc (.cells #[.int .i64 0, .int .i64 0, .int .i64 0, .int .i64 0, .slice none 0 0, .slice none 0 0, .slice none 0 0, .slice none 0 0, .slice none 0 0, .slice none 0 0, .slice none 0 0, .slice none 0 0, .int .i64 0, .int .i64 0] 43) = W0 at *
 obtain ⟨x0, x1, x2, x3, x4, x5, x6, x7, x8, x9, x10, x11, x12, x13⟩ := bx14 HS.out
 go_wp2_with fail
 clear x0 x1 x2 x3 x4 x5 x6 x7 x8 x9 x10 x11 x12 x13
 refine (PV.out W0 ⟨s0, s1, s2, s3, s4, s5, s6, s7, rfl, MS.out, HJ.out⟩).mono ?_
 rintro e W1 ⟨rfl, hb⟩
 have HS1 := Lh ((hb.block _ (lt_of_some HS.out)).trans HS.out)
 have HZ1 := Lh ((hb.block _ (lt_of_some HZ.out)).trans HZ.out)
 have MS1 := Lh (ms_below MS.out hb)
 have B1 := Lh (B0.out.trans (hb.mono B0.out.size))
 clear hb HS HZ MS B0 PV
 rcases Classical.em (okGe g) with h1 | h1
 ·rw [okGb_t h1]
  have HK := Lh h1
  clear h1
  obtain ⟨x0, x1, x2, x3, x4, x5, x6, x7, x8, x9, x10, x11, x12, x13⟩ := bx14 HS1.out
  by_cases h2 : g.mode = fr
  ·have d1 : decide (g.mode = fr) = true := decide_eq_true h2
   have d2 : (g.mode == fr) = true := beq_iff_eq.2 h2
   have d3 : (g.mode != fr) = false := by rw [h2]; simp
   have HM := Lh h2
   clear h2
   have f2 := frozen_of_row W1 w.heap.size 2 _ _ HS1.out
   go_upto_region 6 with fail
   clear x0 x1 x2 x3 x4 x5 x6 x7 x8 x9 x10 x11 x12 x13
   clear d1 d2 d3 f2
   rw [setCell_eq_setRow _ _ _ _ _ _ _ HS1.out]
   have HS2 := Lh (show (W1.setRow w.heap.size #[.int .i64 g.num, .int .i64 g.rev, .int .i64 tm, .int .i64 g.size, s0, s1, s2, s3, s4, s5, s6, s7, .int .i64 g.m.live, .int .i64 g.m.garb]).heap[w.heap.size]? = some (.cells #[.int .i64 g.num, .int .i64 g.rev, .int .i64 tm, .int .i64 g.size, s0, s1, s2, s3, s4, s5, s6, s7, .int .i64 g.m.live, .int .i64 g.m.garb] 43 (0, 0)) from setRow_heap _ _ _ _ _ _ HS1.out)
   have HZ2 := Lh ((setRow_other W1 w.heap.size (w.heap.size + 1) #[.int .i64 g.num, .int .i64 g.rev, .int .i64 tm, .int .i64 g.size, s0, s1, s2, s3, s4, s5, s6, s7, .int .i64 g.m.live, .int .i64 g.m.garb] (by omega)).trans HZ1.out)
   have MS2 := Lh (ms_setRowF MS1.out HS1.out UF.out (cs := #[.int .i64 g.num, .int .i64 g.rev, .int .i64 tm, .int .i64 g.size, s0, s1, s2, s3, s4, s5, s6, s7, .int .i64 g.m.live, .int .i64 g.m.garb]))
   have B2 := Lh (below_setRowM B1.out (Nat.le_refl _) #[.int .i64 g.num, .int .i64 g.rev, .int .i64 tm, .int .i64 g.size, s0, s1, s2, s3, s4, s5, s6, s7, .int .i64 g.m.live, .int .i64 g.m.garb])
   show Code.wp _ _ _ _ (W1.setRow w.heap.size #[.int .i64 g.num, .int .i64 g.rev, .int .i64 tm, .int .i64 g.size, s0, s1, s2, s3, s4, s5, s6, s7, .int .i64 g.m.live, .int .i64 g.m.garb])
   generalize W1.setRow w.heap.size #[.int .i64 g.num, .int .i64 g.rev, .int .i64 tm, .int .i64 g.size, s0, s1, s2, s3, s4, s5, s6, s7, .int .i64 g.m.live, .int .i64 g.m.garb] = W2 at *
   clear HS1 HZ1 MS1 B1
   obtain ⟨x0, x1, x2, x3, x4, x5, x6, x7, x8, x9, x10, x11, x12, x13⟩ := bx14 HS2.out
   go_wp2_with ((with_reducible refine storeRG (w.heap.size + 1) _ #[.int .i64 g.num, .int .i64 g.rev, .int .i64 tm, .int .i64 g.size, s0, s1, s2, s3, s4, s5, s6, s7, .int .i64 g.m.live, .int .i64 g.m.garb] ?_ ?_ HZ2.out rfl rfl ON.out ?_); exact rfl; exact rfl)
   refine bodyPost_ret (results_rt (S := 43) rfl _ _ (w.heap.size + 1) #[.int .i64 g.num, .int .i64 g.rev, .int .i64 tm, .int .i64 g.size, s0, s1, s2, s3, s4, s5, s6, s7, .int .i64 g.m.live, .int .i64 g.m.garb] rfl (setRow_heap _ _ _ _ _ _ HZ2.out) Tryz.underlying43 rfl infoRG14) rfl ?_
   exact modO_ok HK.out HM.out ⟨⟨_, rfl, s0, s1, s2, s3, s4, s5, s6, s7, rfl, ms_setRowF MS2.out HZ2.out zeroG_u64, HJ.out.1, HJ.out.2.1, HTO.out, HJ.out.2.2.2⟩, below_setRowM B2.out (Nat.le_succ _) _⟩
  ·have d1 : decide (g.mode = fr) = false := decide_eq_false h2
   have d2 : (g.mode == fr) = false := beq_false_of_ne h2
   have d3 : (g.mode != fr) = true := by simp [h2]
   have HM := Lh h2
   clear h2
   go_wp2_with ((with_reducible refine storeRG (w.heap.size + 1) _ #[.int .i64 0, .int .i64 0, .int .i64 0, .int .i64 0, .slice none 0 0, .slice none 0 0, .slice none 0 0, .slice none 0 0, .slice none 0 0, .slice none 0 0, .slice none 0 0, .slice none 0 0, .int .i64 0, .int .i64 0] ?_ ?_ HZ1.out rfl rfl zg_one ?_); exact rfl; exact rfl)
   refine bodyPost_ret (results_rt (S := 43) rfl _ _ (w.heap.size + 1) #[.int .i64 0, .int .i64 0, .int .i64 0, .int .i64 0, .slice none 0 0, .slice none 0 0, .slice none 0 0, .slice none 0 0, .slice none 0 0, .slice none 0 0, .slice none 0 0, .slice none 0 0, .int .i64 0, .int .i64 0] rfl (setRow_heap _ _ _ _ _ _ HZ1.out) Tryz.underlying43 rfl infoRG14) rfl ?_
   exact modO_state HK.out HM.out ⟨⟨_, rfl, g0_v _⟩, below_setRowM B1.out (Nat.le_succ _) _⟩
 ·rw [okGb_f h1]
  have HK := Lh h1
  clear h1
  go_wp2_with ((with_reducible refine storeRG (w.heap.size + 1) _ #[.int .i64 0, .int .i64 0, .int .i64 0, .int .i64 0, .slice none 0 0, .slice none 0 0, .slice none 0 0, .slice none 0 0, .slice none 0 0, .slice none 0 0, .slice none 0 0, .slice none 0 0, .int .i64 0, .int .i64 0] ?_ ?_ HZ1.out rfl rfl zg_one ?_); exact rfl; exact rfl)
  refine bodyPost_ret (results_rt (S := 43) rfl _ _ (w.heap.size + 1) #[.int .i64 0, .int .i64 0, .int .i64 0, .int .i64 0, .slice none 0 0, .slice none 0 0, .slice none 0 0, .slice none 0 0, .slice none 0 0, .slice none 0 0, .slice none 0 0, .slice none 0 0, .int .i64 0, .int .i64 0] rfl (setRow_heap _ _ _ _ _ _ HZ1.out) Tryz.underlying43 rfl infoRG14) rfl ?_
  exact modO_bad HK.out ⟨⟨_, rfl, g0_v _⟩, below_setRowM B1.out (Nat.le_succ _) _⟩
theorem rfreeze_any (v : Value) (g : Ge) (w : World) (hv : Gv w v g) (hf : Few g.m) (hn : g.m.st.flatten.length ≤ 1000) : Calls Tryz.prog 32 #[v] w (ModO g 1 2 w) := by
 obtain ⟨s0, s1, s2, s3, s4, s5, s6, s7, rfl, hm, hj⟩ := hv
 have q0 := al2 w (.cells #[.int .i64 g.num, .int .i64 g.rev, .int .i64 g.mode, .int .i64 g.size, s0, s1, s2, s3, s4, s5, s6, s7, .int .i64 g.m.live, .int .i64 g.m.garb] 43) (.cells #[.int .i64 0, .int .i64 0, .int .i64 0, .int .i64 0, .slice none 0 0, .slice none 0 0, .slice none 0 0, .slice none 0 0, .slice none 0 0, .slice none 0 0, .slice none 0 0, .slice none 0 0, .int .i64 0, .int .i64 0] 43)
 have HS := Lh q0.1
 have HZ := Lh q0.2.1
 have B0 := Lh q0.2.2
 have PV := Lh (rmoded_any (.agg #[.int .i64 g.num, .int .i64 g.rev, .int .i64 g.mode, .int .i64 g.size, s0, s1, s2, s3, s4, s5, s6, s7, .int .i64 g.m.live, .int .i64 g.m.garb]) g 1 2 (by unfold J64; decide) _ ⟨s0, s1, s2, s3, s4, s5, s6, s7, rfl, ms_below hm q0.2.2, hj⟩ hf hn)
 clear q0 hm hj hf hn
 go_enter Tryz.func32, Tryz.ntmps32
 go_upto_region 1 with fail
 generalize (w.alloc (.cells #[.int .i64 g.num, .int .i64 g.rev, .int .i64 g.mode, .int .i64 g.size, s0, s1, s2, s3, s4, s5, s6, s7, .int .i64 g.m.live, .int .i64 g.m.garb] 43)).alloc (.cells #[.int .i64 0, .int .i64 0, .int .i64 0, .int .i64 0, .slice none 0 0, .slice none 0 0, .slice none 0 0, .slice none 0 0, .slice none 0 0, .slice none 0 0, .slice none 0 0, .slice none 0 0, .int .i64 0, .int .i64 0] 43) = W0 at *
 obtain ⟨x0, x1, x2, x3, x4, x5, x6, x7, x8, x9, x10, x11, x12, x13⟩ := bx14 HS.out
 go_wp2_with fail
 clear x0 x1 x2 x3 x4 x5 x6 x7 x8 x9 x10 x11 x12 x13
 refine PV.out.mono ?_
 rintro e W1 ⟨⟨v1, rfl, hv1⟩, hb⟩
 obtain ⟨t0, t1, t2, t3, t4, t5, t6, t7, rfl, hm1, hj1⟩ := hv1
 have HZ1 := Lh ((hb.block _ (lt_of_some HZ.out)).trans HZ.out)
 have B1 := Lh (B0.out.trans (hb.mono B0.out.size))
 have ON := Lh (gc_one hm1)
 have MS1 := Lh hm1
 have HJ1 := Lh hj1
 generalize hT : modG g 1 2 = T at *
 generalize hC : modC g 1 = C at *
 have HT := Lh hT
 have HC := Lh hC
 clear hT hC
 clear hb HZ B0 PV hm1 hj1
 go_wp2_with ((with_reducible refine storeRG (w.heap.size + 1) _ #[.int .i64 T.num, .int .i64 T.rev, .int .i64 T.mode, .int .i64 T.size, t0, t1, t2, t3, t4, t5, t6, t7, .int .i64 T.m.live, .int .i64 T.m.garb] ?_ ?_ HZ1.out rfl rfl ON.out ?_); exact rfl; exact rfl)
 refine bodyPost_ret (results_rt (S := 43) rfl _ _ (w.heap.size + 1) #[.int .i64 T.num, .int .i64 T.rev, .int .i64 T.mode, .int .i64 T.size, t0, t1, t2, t3, t4, t5, t6, t7, .int .i64 T.m.live, .int .i64 T.m.garb] rfl (setRow_heap _ _ _ _ _ _ HZ1.out) Tryz.underlying43 rfl infoRG14) rfl ?_
 exact modO_of HT.out HC.out ⟨⟨_, rfl, t0, t1, t2, t3, t4, t5, t6, t7, rfl, ms_setRowF MS1.out HZ1.out zeroG_u64, HJ1.out⟩, below_setRowM B1.out (Nat.le_succ _) _⟩
end Go.Proofs.YtbmlpafbdbhaiaaGreatDoor.Gf
