/- What is proved here: slices.Backward over generations; look, and Find in any slot of few items. -/
import Derived.Test.YtgbnclepgjcakaaGreatGs27
namespace Go.Proofs.YtgbnclepgjcakaaGreat.Gf
open Go Go.Joins Go.ChangeShapes Go.WideShapes Go.ChangeAt Go.RowKit Go.Deep Go.Shelf Go.Proofs.YtgbnclepgjcakaaGreat.By Go.Proofs.YtgbnclepgjcakaaGreat.Qt
set_option maxRecDepth 100000
set_option maxHeartbeats 204800000
attribute [local go_sem] Oper.semAt_some

theorem pbackG_in (F : Fence) (n : Nat) (h8 : F.fn 77) (hro : F.round = none) (hn : 1 ≤ n) (l Bs n₀ b off len cap : Nat) (a : Option Addr) (C : Nat → Nat → Value) (hreach : len ≤ 100000) (ha : 0 < len → a = some ⟨b, off, none⟩ ∧ b < n₀) (J Jx : List { x : Nat // x < len } → World → Prop)
 (hY : ∀ pre x W, J pre W → pre.length < len → YieldAt F (n - 1) Tryz.prog l #[.int .i64 (x.1 : Int), .agg #[C x.1 0, C x.1 1, C x.1 2, C x.1 3, C x.1 4, C x.1 5, C x.1 6, C x.1 7, C x.1 8, C x.1 9, C x.1 10, C x.1 11, C x.1 12, C x.1 13]] W fun e W' =>
  (e = .returned (.bool true) ∧ J (pre ++ [x]) W' ∧ KpX n₀ Bs W W') ∨ (e = .returned (.bool false) ∧ Jx (pre ++ [x]) W'))
 (W : World) (hBs : W.heap[Bs]? = some (.cells #[.slice a len cap] 31 (0, 0))) (hc : ∀ j, j < len → W.cell? ⟨b, off + j * 14, none⟩ = some (C j 0) ∧ W.cell? ⟨b, off + j * 14 + 1, none⟩ = some (C j 1) ∧ W.cell? ⟨b, off + j * 14 + 2, none⟩ = some (C j 2) ∧ W.cell? ⟨b, off + j * 14 + 3, none⟩ = some (C j 3) ∧ W.cell? ⟨b, off + j * 14 + 4, none⟩ = some (C j 4) ∧ W.cell? ⟨b, off + j * 14 + 5, none⟩ = some (C j 5) ∧ W.cell? ⟨b, off + j * 14 + 6, none⟩ = some (C j 6) ∧ W.cell? ⟨b, off + j * 14 + 7, none⟩ = some (C j 7) ∧ W.cell? ⟨b, off + j * 14 + 8, none⟩ = some (C j 8) ∧ W.cell? ⟨b, off + j * 14 + 9, none⟩ = some (C j 9) ∧ W.cell? ⟨b, off + j * 14 + 10, none⟩ = some (C j 10) ∧ W.cell? ⟨b, off + j * 14 + 11, none⟩ = some (C j 11) ∧ W.cell? ⟨b, off + j * 14 + 12, none⟩ = some (C j 12) ∧ W.cell? ⟨b, off + j * 14 + 13, none⟩ = some (C j 13)) (h0 : J [] W) :
 CallsIn F n Tryz.prog 77 #[.func (.yield l) #[] #[], .pointer (some ⟨Bs, 0, none⟩)] W fun e W' => (∃ v, e = .returned v) ∧
  ((∃ ys, ys = dn len len ∧ J ys W') ∨ (∃ pre, (∃ k, k ≤ len ∧ pre = dn len k) ∧ Jx pre W')) := by
 refine callsIn_of_wp Tryz.func77 rfl h8 ?_ hro
 simp only [Tryz.ntmps77, List.size_toArray, List.length_cons, List.length_nil, Nat.reduceAdd, Nat.reduceSub, Array.replicate_succ, Array.replicate_zero, List.push_toArray, List.append_toArray, List.nil_append, List.cons_append]
 have hcb := cell_of_row W Bs 0 _ _ _ hBs
 gi_wp2
 gi_loopw [3] (fun i wr => ∃ k : Nat, k ≤ len ∧ i = .int .i64 ((len : Int) - 1 - (k : Int)) ∧ J (dn len k) wr ∧ KpX n₀ Bs W wr)
  (fun i _ => ((intOf i) + 1).toNat)
 case atStart => exact ⟨0, Nat.zero_le _, by simp, h0, Below.refl _ _, rfl⟩
 case round =>
  obtain ⟨k, hk, rfl, hJs, hnx⟩ := hrel
  have hcw := cell_of_row wr Bs 0 _ _ _ (hnx.2.trans hBs)
  by_cases hlt : k < len
  ·obtain ⟨rfl, hb⟩ := ha (by omega)
   obtain ⟨j, hj⟩ : ∃ j, j = len - 1 - k := ⟨_, rfl⟩
   have hjz : (len : Int) - 1 - (k : Int) = (j : Int) := by omega
   have hjl : j < len := by omega
   obtain ⟨fn, tmps, assign, body, hy, hR⟩ := hY _ ⟨j, hjl⟩ wr hJs (by rw [dn_length k (by omega)]; exact hlt)
   dsimp only at hy
   obtain ⟨c0, c1, c2, c3, c4, c5, c6, c7, c8, c9, c10, c11, c12, c13⟩ := hc j hjl
   replace c0 := (hnx.1.cell (p := ⟨b, off + j * 14, none⟩) hb).trans c0
   replace c1 := (hnx.1.cell (p := ⟨b, off + j * 14 + 1, none⟩) hb).trans c1
   replace c2 := (hnx.1.cell (p := ⟨b, off + j * 14 + 2, none⟩) hb).trans c2
   replace c3 := (hnx.1.cell (p := ⟨b, off + j * 14 + 3, none⟩) hb).trans c3
   replace c4 := (hnx.1.cell (p := ⟨b, off + j * 14 + 4, none⟩) hb).trans c4
   replace c5 := (hnx.1.cell (p := ⟨b, off + j * 14 + 5, none⟩) hb).trans c5
   replace c6 := (hnx.1.cell (p := ⟨b, off + j * 14 + 6, none⟩) hb).trans c6
   replace c7 := (hnx.1.cell (p := ⟨b, off + j * 14 + 7, none⟩) hb).trans c7
   replace c8 := (hnx.1.cell (p := ⟨b, off + j * 14 + 8, none⟩) hb).trans c8
   replace c9 := (hnx.1.cell (p := ⟨b, off + j * 14 + 9, none⟩) hb).trans c9
   replace c10 := (hnx.1.cell (p := ⟨b, off + j * 14 + 10, none⟩) hb).trans c10
   replace c11 := (hnx.1.cell (p := ⟨b, off + j * 14 + 11, none⟩) hb).trans c11
   replace c12 := (hnx.1.cell (p := ⟨b, off + j * 14 + 12, none⟩) hb).trans c12
   replace c13 := (hnx.1.cell (p := ⟨b, off + j * 14 + 13, none⟩) hb).trans c13
   have p0 : (0 : Int) ≤ (j : Int) := by omega
   have p1 : (j : Int) < (len : Int) := by omega
   rw [hjz]
   have HJ := Lh hj
   clear hj hjz
   gi_wp2
   refine hR.mono ?_
   rintro e W3 (⟨rfl, hJ3, hk3⟩ | ⟨rfl, hJx3⟩)
   ·gi_wp2
    go_roundw
    case rel => exact ⟨k + 1, by omega, by have hj := HJ.out; first | (simp; omega) | (congr 1; omega), by have hj := HJ.out; rw [dn_succ hlt]; subst hj; exact hJ3, hnx.trans hk3⟩
    case measure => have hj := HJ.out; simp only [intOf]; omega
   ·gi_wp2
    refine bodyPost_ret (results_none rfl _ _ _) rfl ?_
    exact ⟨⟨_, rfl⟩, .inr ⟨_, ⟨k + 1, by omega, by have hj := HJ.out; rw [dn_succ hlt]; subst hj; rfl⟩, hJx3⟩⟩
  ·obtain rfl : k = len := by omega
   have hjz : (k : Int) - 1 - (k : Int) = -1 := by omega
   rw [hjz]
   gi_wp2
   go_end0
   exact ⟨⟨_, rfl⟩, .inl ⟨_, rfl, hJs⟩⟩
theorem pbackG_any (a : Option Addr) (len cap : Nat) (w : World) : Calls Tryz.prog 51 #[.slice a len cap] w fun e w' => e = .returned (.func (.func 77) #[] #[.pointer (some ⟨w.heap.size, 0, none⟩)]) ∧ w' = w.alloc (.cells #[.slice a len cap] 31) := by
 have hmf : ∀ (fn : Fn) (first cap : Array Value) (w : World), (Instr.makeFunc fn first cap).run Tryz.prog w = .ok (.func fn first cap) w := fun _ _ _ _ => rfl
 go_enter Tryz.func51, Tryz.ntmps51
 go_wp2
 go_ret
 exact ⟨rfl, rfl⟩
theorem pbackG_stops (F : Fence) (n : Nat) (h8 : F.fn 77) (hro : F.round = none) (hn : 1 ≤ n) (Bs n₀ b off len cap : Nat) (a : Option Addr) (C : Nat → Nat → Value) (hreach : len ≤ 100000) (ha : 0 < len → a = some ⟨b, off, none⟩ ∧ b < n₀) (w : World) (hn₀ : n₀ ≤ w.heap.size)
 (hBs : w.heap[Bs]? = some (.cells #[.slice a len cap] 31 (0, 0))) (hc : ∀ j, j < len → w.cell? ⟨b, off + j * 14, none⟩ = some (C j 0) ∧ w.cell? ⟨b, off + j * 14 + 1, none⟩ = some (C j 1) ∧ w.cell? ⟨b, off + j * 14 + 2, none⟩ = some (C j 2) ∧ w.cell? ⟨b, off + j * 14 + 3, none⟩ = some (C j 3) ∧ w.cell? ⟨b, off + j * 14 + 4, none⟩ = some (C j 4) ∧ w.cell? ⟨b, off + j * 14 + 5, none⟩ = some (C j 5) ∧ w.cell? ⟨b, off + j * 14 + 6, none⟩ = some (C j 6) ∧ w.cell? ⟨b, off + j * 14 + 7, none⟩ = some (C j 7) ∧ w.cell? ⟨b, off + j * 14 + 8, none⟩ = some (C j 8) ∧ w.cell? ⟨b, off + j * 14 + 9, none⟩ = some (C j 9) ∧ w.cell? ⟨b, off + j * 14 + 10, none⟩ = some (C j 10) ∧ w.cell? ⟨b, off + j * 14 + 11, none⟩ = some (C j 11) ∧ w.cell? ⟨b, off + j * 14 + 12, none⟩ = some (C j 12) ∧ w.cell? ⟨b, off + j * 14 + 13, none⟩ = some (C j 13)) :
 SeqStopsK F n Tryz.prog 77 #[.pointer (some ⟨Bs, 0, none⟩)] (fun x : { x : Nat // x < len } => #[Value.int .i64 (x.1 : Int), .agg #[C x.1 0, C x.1 1, C x.1 2, C x.1 3, C x.1 4, C x.1 5, C x.1 6, C x.1 7, C x.1 8, C x.1 9, C x.1 10, C x.1 11, C x.1 12, C x.1 13]]) (KpX n₀ Bs) (fun ys => ys = dn len len)
  (fun pre => ∃ k, k ≤ len ∧ pre = dn len k) len w := fun l J Jx W hW _ _ hY h0 => by
 have hlt := (Array.getElem?_eq_some_iff.1 hBs).1
 refine pbackG_in F n h8 hro hn l Bs n₀ b off len cap a C hreach ha J Jx hY W ((hW.block Bs hlt).trans hBs) (fun j hj => ?_) h0
 have hb := (ha (by omega)).2
 obtain ⟨c0, c1, c2, c3, c4, c5, c6, c7, c8, c9, c10, c11, c12, c13⟩ := hc j hj
 exact ⟨(hW.cell (p := ⟨b, off + j * 14, none⟩) (by show b < _; omega)).trans c0, (hW.cell (p := ⟨b, off + j * 14 + 1, none⟩) (by show b < _; omega)).trans c1, (hW.cell (p := ⟨b, off + j * 14 + 2, none⟩) (by show b < _; omega)).trans c2, (hW.cell (p := ⟨b, off + j * 14 + 3, none⟩) (by show b < _; omega)).trans c3, (hW.cell (p := ⟨b, off + j * 14 + 4, none⟩) (by show b < _; omega)).trans c4, (hW.cell (p := ⟨b, off + j * 14 + 5, none⟩) (by show b < _; omega)).trans c5, (hW.cell (p := ⟨b, off + j * 14 + 6, none⟩) (by show b < _; omega)).trans c6, (hW.cell (p := ⟨b, off + j * 14 + 7, none⟩) (by show b < _; omega)).trans c7, (hW.cell (p := ⟨b, off + j * 14 + 8, none⟩) (by show b < _; omega)).trans c8, (hW.cell (p := ⟨b, off + j * 14 + 9, none⟩) (by show b < _; omega)).trans c9, (hW.cell (p := ⟨b, off + j * 14 + 10, none⟩) (by show b < _; omega)).trans c10, (hW.cell (p := ⟨b, off + j * 14 + 11, none⟩) (by show b < _; omega)).trans c11, (hW.cell (p := ⟨b, off + j * 14 + 12, none⟩) (by show b < _; omega)).trans c12, (hW.cell (p := ⟨b, off + j * 14 + 13, none⟩) (by show b < _; omega)).trans c13⟩

theorem al4 (w : World) (o1 o2 o3 o4 : Obj) : ((((w.alloc o1).alloc o2).alloc o3).alloc o4).heap[w.heap.size]? = some o1 ∧ ((((w.alloc o1).alloc o2).alloc o3).alloc o4).heap[w.heap.size + 1]? = some o2 ∧ ((((w.alloc o1).alloc o2).alloc o3).alloc o4).heap[w.heap.size + 2]? = some o3 ∧ ((((w.alloc o1).alloc o2).alloc o3).alloc o4).heap[w.heap.size + 3]? = some o4 ∧ Below w.heap.size w ((((w.alloc o1).alloc o2).alloc o3).alloc o4) ∧ ((((w.alloc o1).alloc o2).alloc o3).alloc o4).heap.size = w.heap.size + 4 := by
 have q1 := bel_al0 w o1
 have q2 := bel_al0 (w.alloc o1) o2
 have q3 := bel_al0 ((w.alloc o1).alloc o2) o3
 have q4 := bel_al0 (((w.alloc o1).alloc o2).alloc o3) o4
 have h1 := heap_alloc_new w o1
 have h2 := heap_alloc_new (w.alloc o1) o2
 have h3 := heap_alloc_new ((w.alloc o1).alloc o2) o3
 have h4 := heap_alloc_new (((w.alloc o1).alloc o2).alloc o3) o4
 have s1 : (w.alloc o1).heap.size = w.heap.size + 1 := by simp
 have s2 : ((w.alloc o1).alloc o2).heap.size = w.heap.size + 2 := by simp
 have s3 : (((w.alloc o1).alloc o2).alloc o3).heap.size = w.heap.size + 3 := by simp
 rw [s1] at h2
 rw [s2] at h3
 rw [s3] at h4
 have k1 := (q2.block _ (lt_of_some h1)).trans h1
 have k2 := (q3.block _ (lt_of_some k1)).trans k1
 have k3 := (q4.block _ (lt_of_some k2)).trans k2
 have m2 := (q3.block _ (lt_of_some h2)).trans h2
 have m3 := (q4.block _ (lt_of_some m2)).trans m2
 exact ⟨k3, m3, (q4.block _ (lt_of_some h3)).trans h3, h4, btA (btA (btA q1 q2) q3) q4, by simp⟩
theorem infoP7 : (Tryz.prog.info? 66).map (·.size) = some 7 := by kernel_rfl
theorem zp_one : (#[.int .i64 0, .int .i64 0, .int .i64 0, .int .u64 0, .int .u32 0, .int .i64 0, .int .i64 0] : Array Value).all (·.oneCell') = true := by kernel_rfl
theorem storeP {ops : Array Oper} {rest : List Oper} {x y : Operand} {pos : String} {after : Array Edge} {ty : TypeId} {a : Act} {w : World} {Q : Exit → Act → World → Prop}
 (g : Nat) (old cs : Array Value) (hx : a.eval x = .pointer (some ⟨g, 0, none⟩)) (hy : a.eval y = .agg cs) (hg : w.heap[g]? = some (.cells old 66 (0, 0))) (ho : old.size = 7) (hs : cs.size = 7) (h1 : cs.all (·.oneCell') = true)
 (h : wpList Tryz.prog ops Q rest a (w.setRow g cs)) : wpList Tryz.prog ops Q (⟨none, .store 66 x y, ty, pos, after, none⟩ :: rest) a w :=
 wpList_store_row rfl 66 x y rfl g cs hx hy 66 old hg (by rw [infoP7, hs]) (by omega) h1 h
/-- Two results: a boxed struct, then a boxed variable of one cell. -/
theorem results_cc {P : Program} {fn : Func} {p q : Tmp} {S T : TypeId} {tmps : Array Value} {w : World} {g g2 : Nat} {v : Value} {cs : Array Value} {d : TypeDesc} (h : fn.results = #[.cell p S, .cell q T]) (hp : tmps.getD p undef = .pointer (some ⟨g, 0, none⟩)) (hq : tmps.getD q undef = .pointer (some ⟨g2, 0, none⟩)) (ha : (isAgg T).run P w = .ok false w) (hc : w.cell? ⟨g2, 0, none⟩ = some v)
 (hg : w.heap[g]? = some (.cells cs S (0, 0))) (hu : P.underlying S = some d) (hd : (match d with | .struct _ | .array _ _ => true | _ => false) = true) (hi : (P.info? S).map (·.size) = some cs.size) : (results fn tmps).run P w = .ok (.tuple #[.agg cs, v]) w := by
 have hp' : tmps[p]?.getD undef = .pointer (some ⟨g, 0, none⟩) := by simpa using hp
 have hq' : tmps[q]?.getD undef = .pointer (some ⟨g2, 0, none⟩) := by simpa using hq
 have h1 := run_loadVar_row w g S S cs (0, 0) d hg hu hd hi
 have h2 : (loadVar T ⟨g2, 0, none⟩).run P w = .ok v w := by simp [loadVar, ha, hc]
 simp [results, h, hp', hq', asAddr, h1, h2]

theorem zh_one : (#[.int .i64 0, .int .i64 0, .int .i64 0, .int .u64 0, .int .u32 0, .int .i64 0, .int .i64 0, .bool false] : Array Value).all (·.oneCell') = true := by kernel_rfl
theorem infoH8 : (Tryz.prog.info? 106).map (·.size) = some 8 := by kernel_rfl
theorem storeH {ops : Array Oper} {rest : List Oper} {x y : Operand} {pos : String} {after : Array Edge} {ty : TypeId} {a : Act} {w : World} {Q : Exit → Act → World → Prop}
 (g : Nat) (old cs : Array Value) (hx : a.eval x = .pointer (some ⟨g, 0, none⟩)) (hy : a.eval y = .agg cs) (hg : w.heap[g]? = some (.cells old 106 (0, 0))) (ho : old.size = 8) (hs : cs.size = 8) (h1 : cs.all (·.oneCell') = true)
 (h : wpList Tryz.prog ops Q rest a (w.setRow g cs)) : wpList Tryz.prog ops Q (⟨none, .store 106 x y, ty, pos, after, none⟩ :: rest) a w :=
 wpList_store_row rfl 106 x y rfl g cs hx hy 106 old hg (by rw [infoH8, hs]) (by omega) h1 h

/-- A place as cells. -/
noncomputable def placeC (u : Ge) (key : Nat) : Array Value := #[.int .i64 u.num, .int .i64 u.mode, .int .i64 u.rev, .int .u64 ((fnL (gL u.m key) key).key : Int), .int .u32 ((fnL (gL u.m key) key).ck : Int), .int .i64 (fnL (gL u.m key) key).off, .int .i64 (fnL (gL u.m key) key).sz]
def hitB (u : Ge) (key : Nat) : Prop := hasL (gL u.m key) key = true
open Classical in
noncomputable def hitV (u : Ge) (key : Nat) : Array Value := if hitB u key then #[.int .i64 u.num, .int .i64 u.mode, .int .i64 u.rev, .int .u64 ((fnL (gL u.m key) key).key : Int), .int .u32 ((fnL (gL u.m key) key).ck : Int), .int .i64 (fnL (gL u.m key) key).off, .int .i64 (fnL (gL u.m key) key).sz, .bool true] else #[.int .i64 0, .int .i64 0, .int .i64 0, .int .u64 0, .int .u32 0, .int .i64 0, .int .i64 0, .bool false]
/-- The last generation that has the key. -/
def fndP (L : List Ge) (key j : Nat) : Prop := j < L.length ∧ hitB (L.getD j g0) key ∧ ∀ i, j < i → i < L.length → ¬ hitB (L.getD i g0) key
open Classical in
noncomputable def plcV (s : Slt) (key : Nat) : Array Value := if h : okS s ∧ ∃ j, fndP s.gens key j then placeC (s.gens.getD (Classical.choose h.2) g0) key else #[.int .i64 0, .int .i64 0, .int .i64 0, .int .u64 0, .int .u32 0, .int .i64 0, .int .i64 0]
open Classical in
noncomputable def plcB (s : Slt) (key : Nat) : Bool := @decide (okS s ∧ ∃ j, fndP s.gens key j) (Classical.propDecidable _)
theorem plc_some {s : Slt} {key j : Nat} (hk : okS s) (h : fndP s.gens key j) : plcV s key = placeC (s.gens.getD j g0) key ∧ plcB s key = true := by
 have he : okS s ∧ ∃ j, fndP s.gens key j := ⟨hk, j, h⟩
 refine ⟨?_, @decide_eq_true _ (Classical.propDecidable _) he⟩
 unfold plcV
 rw [dif_pos he]
 have q := Classical.choose_spec he.2
 have e : Classical.choose he.2 = j := by
  generalize Classical.choose he.2 = z at *
  rcases Nat.lt_trichotomy z j with e | e | e
  ·exact absurd h.2.1 (q.2.2 j e h.1)
  ·exact e
  ·exact absurd q.2.1 (h.2.2 z e q.1)
 rw [e]
theorem plc_none {s : Slt} {key : Nat} (h : okS s → ∀ j, j < s.gens.length → ¬ hitB (s.gens.getD j g0) key) : plcV s key = #[.int .i64 0, .int .i64 0, .int .i64 0, .int .u64 0, .int .u32 0, .int .i64 0, .int .i64 0] ∧ plcB s key = false := by
 have he : ¬ (okS s ∧ ∃ j, fndP s.gens key j) := fun ⟨h1, j, h2⟩ => h h1 j h2.1 h2.2.1
 refine ⟨?_, @decide_eq_false _ (Classical.propDecidable _) he⟩
 unfold plcV
 rw [dif_neg he]
theorem bx8 {w : World} {g : Nat} {c0 c1 c2 c3 c4 c5 c6 c7 : Value} {T : TypeId} {fr : Nat × Nat} (h : w.heap[g]? = some (.cells #[c0, c1, c2, c3, c4, c5, c6, c7] T fr)) : w.cell? ⟨g, 0, none⟩ = some c0 ∧ w.cell? ⟨g, 1, none⟩ = some c1 ∧ w.cell? ⟨g, 2, none⟩ = some c2 ∧ w.cell? ⟨g, 3, none⟩ = some c3 ∧ w.cell? ⟨g, 4, none⟩ = some c4 ∧ w.cell? ⟨g, 5, none⟩ = some c5 ∧ w.cell? ⟨g, 6, none⟩ = some c6 ∧ w.cell? ⟨g, 7, none⟩ = some c7 :=
 ⟨cell_of_row w g 0 _ _ _ h, cell_of_row w g 1 _ _ _ h, cell_of_row w g 2 _ _ _ h, cell_of_row w g 3 _ _ _ h, cell_of_row w g 4 _ _ _ h, cell_of_row w g 5 _ _ _ h, cell_of_row w g 6 _ _ _ h, cell_of_row w g 7 _ _ _ h⟩
theorem hv_one (u : Ge) (x : Itm) : (#[.int .i64 u.num, .int .i64 u.mode, .int .i64 u.rev, .int .u64 (x.key : Int), .int .u32 (x.ck : Int), .int .i64 x.off, .int .i64 x.sz, .bool true] : Array Value).all (·.oneCell') = true := by simp [show ∀ (k : IntKind) (z : Int), (Value.int k z).oneCell' = true from fun _ _ => rfl, show (Value.bool true).oneCell' = true from rfl]
theorem pl_one (u : Ge) (x : Itm) : (#[.int .i64 u.num, .int .i64 u.mode, .int .i64 u.rev, .int .u64 (x.key : Int), .int .u32 (x.ck : Int), .int .i64 x.off, .int .i64 x.sz] : Array Value).all (·.oneCell') = true := by simp [show ∀ (k : IntKind) (z : Int), (Value.int k z).oneCell' = true from fun _ _ => rfl]
theorem plook_any (u : Ge) (s0 s1 s2 s3 s4 s5 s6 s7 : Value) (key : Nat) (w : World) (MS : Ms w [s0, s1, s2, s3, s4, s5, s6, s7] u.m) (hf : Few u.m) : Calls Tryz.prog 52 #[.agg #[.int .i64 u.num, .int .i64 u.rev, .int .i64 u.mode, .int .i64 u.size, s0, s1, s2, s3, s4, s5, s6, s7, .int .i64 u.m.live, .int .i64 u.m.garb], .int .u64 (key : Int)] w fun e w' => e = .returned (.agg (hitV u key)) ∧ Below w.heap.size w w' := by
 have q0 := al2 w (.cells #[.int .i64 u.num, .int .i64 u.rev, .int .i64 u.mode, .int .i64 u.size, s0, s1, s2, s3, s4, s5, s6, s7, .int .i64 u.m.live, .int .i64 u.m.garb] 40) (.cells #[.int .i64 0, .int .i64 0, .int .i64 0, .int .u64 0, .int .u32 0, .int .i64 0, .int .i64 0, .bool false] 106)
 have HX := Lh q0.1
 have HZ := Lh q0.2.1
 have B0 := Lh q0.2.2
 have M0 := Lh (ms_below MS q0.2.2)
 have HF := Lh hf
 clear q0 MS hf
 go_enter Tryz.func52, Tryz.ntmps52
 go_upto_region 1 with fail
 generalize (w.alloc (.cells #[.int .i64 u.num, .int .i64 u.rev, .int .i64 u.mode, .int .i64 u.size, s0, s1, s2, s3, s4, s5, s6, s7, .int .i64 u.m.live, .int .i64 u.m.garb] 40)).alloc (.cells #[.int .i64 0, .int .i64 0, .int .i64 0, .int .u64 0, .int .u32 0, .int .i64 0, .int .i64 0, .bool false] 106) = W0 at *
 have PG := Lh (pget_any (.agg #[s0, s1, s2, s3, s4, s5, s6, s7, .int .i64 u.m.live, .int .i64 u.m.garb]) u.m key W0 ⟨s0, s1, s2, s3, s4, s5, s6, s7, rfl, M0.out⟩ HF.out)
 unfold FD TV at PG
 obtain ⟨hq, hhq⟩ : ∃ q, q = hasL (gL u.m key) key := ⟨_, rfl⟩
 obtain ⟨xi, hxi⟩ : ∃ q, q = fnL (gL u.m key) key := ⟨_, rfl⟩
 rw [← hhq, ← hxi] at PG
 have HHQ := Lh hhq
 have HXI := Lh hxi
 clear hhq hxi
 obtain ⟨x0, x1, x2, x3, x4, x5, x6, x7, x8, x9, x10, x11, x12, x13⟩ := bx14 HX.out
 go_wp2_with fail
 clear x0 x1 x2 x3 x4 x5 x6 x7 x8 x9 x10 x11 x12 x13
 refine PG.out.mono ?_
 rintro e W1 ⟨rfl, hb⟩
 have HX1 := Lh ((hb.block _ (lt_of_some HX.out)).trans HX.out)
 have HZ1 := Lh ((hb.block _ (lt_of_some HZ.out)).trans HZ.out)
 have B1 := Lh (B0.out.trans (hb.mono B0.out.size))
 clear hb HX HZ B0 PG M0
 go_upto_region 2 with fail
 have hb := bel_al W1 (.cells #[.int .u64 (xi.key : Int), .int .u32 (xi.ck : Int), .int .i64 xi.off, .int .i64 xi.sz] 64)
 have HI2 := Lh (heap_alloc_new W1 (.cells #[.int .u64 (xi.key : Int), .int .u32 (xi.ck : Int), .int .i64 xi.off, .int .i64 xi.sz] 64))
 have HX2 := Lh ((hb.block _ (lt_of_some HX1.out)).trans HX1.out)
 have HZ2 := Lh ((hb.block _ (lt_of_some HZ1.out)).trans HZ1.out)
 have B2 := Lh (B1.out.trans (hb.mono B1.out.size))
 clear hb HX1 HZ1 B1
 generalize W1.alloc (.cells #[.int .u64 (xi.key : Int), .int .u32 (xi.ck : Int), .int .i64 xi.off, .int .i64 xi.sz] 64) = W2 at *
 generalize W1.heap.size = gi at *
 cases hq
 case false =>
  have HV := Lh (show hitV u key = #[.int .i64 0, .int .i64 0, .int .i64 0, .int .u64 0, .int .u32 0, .int .i64 0, .int .i64 0, .bool false] from by unfold hitV; rw [if_neg (by unfold hitB; rw [← HHQ.out]; exact Bool.false_ne_true)])
  go_wp2_with ((with_reducible refine storeH (w.heap.size + 1) _ #[.int .i64 0, .int .i64 0, .int .i64 0, .int .u64 0, .int .u32 0, .int .i64 0, .int .i64 0, .bool false] ?_ ?_ HZ2.out rfl rfl zh_one ?_); exact rfl; exact rfl)
  refine bodyPost_ret (results_cell_row rfl _ _ (w.heap.size + 1) 106 #[.int .i64 0, .int .i64 0, .int .i64 0, .int .u64 0, .int .u32 0, .int .i64 0, .int .i64 0, .bool false] (0, 0) _ rfl (setRow_heap _ _ _ _ _ _ HZ2.out) Tryz.underlying106 rfl infoH8) rfl ?_
  exact ⟨by rw [HV.out], below_setRowM B2.out (Nat.le_succ _) _⟩
 case true =>
  have HV := Lh (show hitV u key = #[.int .i64 u.num, .int .i64 u.mode, .int .i64 u.rev, .int .u64 (xi.key : Int), .int .u32 (xi.ck : Int), .int .i64 xi.off, .int .i64 xi.sz, .bool true] from by unfold hitV; rw [if_pos (show hitB u key from HHQ.out.symm), ← HXI.out])
  obtain ⟨x0, x1, x2, x3, x4, x5, x6, x7, x8, x9, x10, x11, x12, x13⟩ := bx14 HX2.out
  obtain ⟨⟨y0, y1, y2, y3⟩, -⟩ := bx4 HI2.out
  go_wp2_with ((with_reducible refine storeH (w.heap.size + 1) _ #[.int .i64 u.num, .int .i64 u.mode, .int .i64 u.rev, .int .u64 (xi.key : Int), .int .u32 (xi.ck : Int), .int .i64 xi.off, .int .i64 xi.sz, .bool true] ?_ ?_ HZ2.out rfl rfl (hv_one u xi) ?_); exact rfl; exact rfl)
  refine bodyPost_ret (results_cell_row rfl _ _ (w.heap.size + 1) 106 #[.int .i64 u.num, .int .i64 u.mode, .int .i64 u.rev, .int .u64 (xi.key : Int), .int .u32 (xi.ck : Int), .int .i64 xi.off, .int .i64 xi.sz, .bool true] (0, 0) _ rfl (setRow_heap _ _ _ _ _ _ HZ2.out) Tryz.underlying106 rfl infoH8) rfl ?_
  exact ⟨by rw [HV.out], below_setRowM B2.out (Nat.le_succ _) _⟩
theorem wpListIn_store_row {F : Fence} {n : Nat} {P : Program} {ops : Array Oper} {rest : List Oper} {o : Oper} {a : Act} {w : World} {Q : Exit → Act → World → Prop} (hgd : o.guard = none) (ty : TypeId) (x y : Operand) (ho : o.op = .store ty x y)
 (g : Nat) (cells : Array Value) (hx : a.eval x = .pointer (some ⟨g, 0, none⟩)) (hy : a.eval y = .agg cells) (t : TypeId) (old : Array Value) (hg : w.heap[g]? = some (.cells old t (0, 0))) (hi : (P.info? ty).map (·.size) = some cells.size) (hold : old.size = cells.size) (h1 : cells.all (·.oneCell') = true)
 (h : wpListIn F n P ops Q rest (a.put o.dst undef) (w.setRow g cells)) : wpListIn F n P ops Q (o :: rest) a w := by
 refine wpListIn_plain hgd fun K hK => ?_
 refine ⟨fun f hf => (by unfold Oper.about at hf; rw [ho] at hf; cases hf), ?_⟩
 rw [Oper.semAt_eq _ _ _ (fun c => by rw [ho]; intro h; cases h)]
 unfold execOp
 simp only [ho, hx, hy, Instr.storeAt, Instr.sureAddr, Sem.run_bind, Sem.run_pure, Result.andThen_ok, run_storeVar_row w g t ty old cells hg hi hold h1]
 exact hK _ _ h
theorem storePIn {F : Fence} {n : Nat} {ops : Array Oper} {rest : List Oper} {x y : Operand} {pos : String} {after : Array Edge} {ty : TypeId} {a : Act} {w : World} {Q : Exit → Act → World → Prop}
 (g : Nat) (old cs : Array Value) (hx : a.eval x = .pointer (some ⟨g, 0, none⟩)) (hy : a.eval y = .agg cs) (hg : w.heap[g]? = some (.cells old 66 (0, 0))) (ho : old.size = 7) (hs : cs.size = 7) (h1 : cs.all (·.oneCell') = true)
 (h : wpListIn F n Tryz.prog ops Q rest a (w.setRow g cs)) : wpListIn F n Tryz.prog ops Q (⟨none, .store 66 x y, ty, pos, after, none⟩ :: rest) a w :=
 wpListIn_store_row rfl 66 x y rfl g cs hx hy 66 old hg (by rw [infoP7, hs]) (by omega) h1 h
theorem storeGIn {F : Fence} {n : Nat} {ops : Array Oper} {rest : List Oper} {x y : Operand} {pos : String} {after : Array Edge} {ty : TypeId} {a : Act} {w : World} {Q : Exit → Act → World → Prop}
 (g : Nat) (old cs : Array Value) (hx : a.eval x = .pointer (some ⟨g, 0, none⟩)) (hy : a.eval y = .agg cs) (hg : w.heap[g]? = some (.cells old 40 (0, 0))) (ho : old.size = 14) (hs : cs.size = 14) (h1 : cs.all (·.oneCell') = true)
 (h : wpListIn F n Tryz.prog ops Q rest a (w.setRow g cs)) : wpListIn F n Tryz.prog ops Q (⟨none, .store 40 x y, ty, pos, after, none⟩ :: rest) a w :=
 wpListIn_store_row rfl 40 x y rfl g cs hx hy 40 old hg (by rw [infoG14, hs]) (by omega) h1 h
theorem keeps_row {W : World} {g : Nat} {old cs : Array Value} {T : TypeId} {fr : Nat × Nat} (h : W.heap[g]? = some (.cells old T fr)) : KeepsOthers W (W.setRow g cs) := ⟨by rw [setRow_size]; exact Nat.le_refl _, fun k o hk ho => by
 rw [setRow_other W g k cs (fun e => by subst e; rw [h] at hk; cases hk; cases ho)]
 exact hk⟩
/-- The cells of a row of generations. -/
def rowC (V : List (List Value)) (L : List Ge) (j : Nat) : Nat → Value
 | 0 => .int .i64 (L.getD j g0).num | 1 => .int .i64 (L.getD j g0).rev | 2 => .int .i64 (L.getD j g0).mode | 3 => .int .i64 (L.getD j g0).size
 | 4 => (V.getD j []).getD 4 undef | 5 => (V.getD j []).getD 5 undef | 6 => (V.getD j []).getD 6 undef | 7 => (V.getD j []).getD 7 undef
 | 8 => (V.getD j []).getD 8 undef | 9 => (V.getD j []).getD 9 undef | 10 => (V.getD j []).getD 10 undef | 11 => (V.getD j []).getD 11 undef
 | 12 => .int .i64 (L.getD j g0).m.live | 13 => .int .i64 (L.getD j g0).m.garb | _ => undef
theorem rowC_at {w : World} {V : List (List Value)} {L : List Ge} {b off j : Nat} (hj : j < V.length) (hg : GC w (V.getD j []) (L.getD j g0)) (hs : SrcV 14 w b off V) : GAt w b (off + j * 14) ((V.getD j []).getD 4 undef) ((V.getD j []).getD 5 undef) ((V.getD j []).getD 6 undef) ((V.getD j []).getD 7 undef) ((V.getD j []).getD 8 undef) ((V.getD j []).getD 9 undef) ((V.getD j []).getD 10 undef) ((V.getD j []).getD 11 undef) (L.getD j g0) := by
 obtain ⟨s0, s1, s2, s3, s4, s5, s6, s7, hv, ga⟩ := row_at hj hg hs
 rw [hv]
 exact ga
theorem dn_last {n k : Nat} {p : List { x : Nat // x < n }} {x : { x : Nat // x < n }} (hk : k ≤ n) (h : dn n k = p ++ [x]) {i : Nat} (hi : x.1 < i) (hn : i < n) : ∃ y ∈ p, y.1 = i := by
 have hl : p.length + 1 = k := by
  have q := congrArg List.length h
  rw [dn_length k hk] at q
  simp at q
  omega
 have hx : x.1 = n - 1 - p.length := by
  have q := dn_get k hk p.length (by rw [dn_length k hk]; omega)
  simp only [h] at q
  rw [List.getElem_append_right (by omega)] at q
  simpa using q
 have hp : n - 1 - i < p.length := by omega
 refine ⟨p[n - 1 - i], List.getElem_mem _, ?_⟩
 have q := dn_get k hk (n - 1 - i) (by rw [dn_length k hk]; omega)
 simp only [h] at q
 rw [List.getElem_append_left hp] at q
 omega
theorem dn_all {n j : Nat} (hj : j < n) : ∃ y ∈ dn n n, y.1 = j := by
 have q := dn_get n (Nat.le_refl n) (n - 1 - j) (by rw [dn_length n (Nat.le_refl n)]; omega)
 exact ⟨_, List.getElem_mem _, by rw [q]; omega⟩
def FindO (s : Slt) (key : Nat) (w : World) (e : Ending) (w' : World) : Prop := e = .returned (.tuple #[.agg (plcV s key), .bool (plcB s key)]) ∧ Below w.heap.size w w'
theorem pfind_x (id lim : Int) (ro : Bool) (a : Option Addr) (n c : Nat) (L : List Ge) (key : Nat) (w : World) (hn : n = L.length) (hl : Gl w (.slice a n c) L) (hlen : n ≤ 10000) (hf : ∀ g ∈ L, LGe g) : Calls Tryz.prog 24 #[.agg #[.int .i64 id, .int .i64 lim, .bool ro, .slice a n c], .int .u64 (key : Int)] w (FindO ⟨id, lim, ro, L⟩ key w) := by
 obtain ⟨V, a', c', hVL, hav, hR, hGC, hSrc⟩ := gl_rows hl
 obtain ⟨rfl, -, rfl⟩ : a = a' ∧ n = L.length ∧ c = c' := by simpa using hav
 have A4 := al4 w (.cells #[.int .i64 id, .int .i64 lim, .bool ro, .slice a n c] 33) (.cells #[.int .u64 (key : Int)] 26) (.cells #[.int .i64 0, .int .i64 0, .int .i64 0, .int .u64 0, .int .u32 0, .int .i64 0, .int .i64 0] 66) (.cells #[.bool false] 4)
 have HS := Lh A4.1
 have HK := Lh A4.2.1
 have HP := Lh A4.2.2.1
 have HO := Lh A4.2.2.2.1
 have B0 := Lh A4.2.2.2.2.1
 have GL := Lh (gl_below hl B0.out)
 have HN := Lh hn
 have HLN := Lh hlen
 have HVL := Lh (hVL.trans hn.symm)
 have HGC := Lh hGC
 have HSC := Lh hSrc
 have HRW := Lh hR
 have HLF := Lh (show ∀ j, j < n → Few (L.getD j g0).m from fun j hj => (hf _ (by
  rw [List.getD_eq_getElem?_getD, List.getElem?_eq_getElem (show j < L.length by omega)]
  exact List.getElem_mem _)).1)
 have PV := Lh (fun W (h : Gl W (.slice a n c) L) => psvalid_x id lim ro a n c L W hn h hlen hf)
 clear hl hf hn hlen hav hVL hR hGC hSrc
 refine (callsIn_wide (n := 4)).1 ?_
 refine callsIn_of_wp_marks Tryz.func24 rfl trivial ?_ rfl
 refine wpIn_wide.2 ?_
 simp only [Tryz.ntmps24, List.size_toArray, List.length_cons, List.length_nil, Nat.reduceAdd, Nat.reduceSub, Array.replicate_succ, Array.replicate_zero, List.push_toArray, List.append_toArray, List.nil_append, List.cons_append]
 go_upto_region 1 with fail
 have SZ := Lh A4.2.2.2.2.2
 clear A4
 generalize (((w.alloc (.cells #[.int .i64 id, .int .i64 lim, .bool ro, .slice a n c] 33)).alloc (.cells #[.int .u64 (key : Int)] 26)).alloc (.cells #[.int .i64 0, .int .i64 0, .int .i64 0, .int .u64 0, .int .u32 0, .int .i64 0, .int .i64 0] 66)).alloc (.cells #[.bool false] 4) = W0 at *
 obtain ⟨⟨y0, y1, y2, y3⟩, -⟩ := bx4 HS.out
 go_wp2_with fail
 clear y0 y1 y2 y3
 refine (PV.out W0 GL.out).mono ?_
 rintro e W1 ⟨rfl, hb⟩
 have HS1 := Lh ((hb.block _ (lt_of_some HS.out)).trans HS.out)
 have HK1 := Lh ((hb.block _ (lt_of_some HK.out)).trans HK.out)
 have HP1 := Lh ((hb.block _ (lt_of_some HP.out)).trans HP.out)
 have HO1 := Lh ((hb.block _ (lt_of_some HO.out)).trans HO.out)
 have B1 := Lh (btA B0.out hb)
 have SZ1 := Lh (show w.heap.size + 4 ≤ W1.heap.size from by rw [← SZ.out]; exact hb.size)
 clear hb HS HK HP HO B0 GL SZ PV
 rcases Classical.em (okS ⟨id, lim, ro, L⟩) with h1 | h1
 case inr =>
  rw [okSb_f h1]
  have PN := Lh (plc_none (s := ⟨id, lim, ro, L⟩) (key := key) (fun h => absurd h h1))
  clear h1
  have ho2 : Boxed (W1.setRow (w.heap.size + 2) #[.int .i64 0, .int .i64 0, .int .i64 0, .int .u64 0, .int .u32 0, .int .i64 0, .int .i64 0]) (w.heap.size + 3) 4 (.bool false) := (setRow_other _ _ _ _ (by omega)).trans HO1.out
  have fO := ho2.frozen
  have cO := ho2.cell
  have HO2 := Lh ho2
  clear ho2
  go_wp2_with ((with_reducible refine storeP (w.heap.size + 2) _ #[.int .i64 0, .int .i64 0, .int .i64 0, .int .u64 0, .int .u32 0, .int .i64 0, .int .i64 0] ?_ ?_ HP1.out rfl rfl zp_one ?_); exact rfl; exact rfl)
  have h3 := (setRow_heap W1 (w.heap.size + 2) _ #[.int .i64 0, .int .i64 0, .int .i64 0, .int .u64 0, .int .u32 0, .int .i64 0, .int .i64 0] 66 (0, 0) HP1.out)
  have hx : ((W1.setRow (w.heap.size + 2) #[.int .i64 0, .int .i64 0, .int .i64 0, .int .u64 0, .int .u32 0, .int .i64 0, .int .i64 0]).setCell ⟨w.heap.size + 3, 0, none⟩ (.bool false)).heap[w.heap.size + 3]? = some (.cells #[.bool false] 4 (0, 0)) := HO2.out.set (.bool false)
  have hy : ((W1.setRow (w.heap.size + 2) #[.int .i64 0, .int .i64 0, .int .i64 0, .int .u64 0, .int .u32 0, .int .i64 0, .int .i64 0]).setCell ⟨w.heap.size + 3, 0, none⟩ (.bool false)).heap[w.heap.size + 2]? = some (.cells #[.int .i64 0, .int .i64 0, .int .i64 0, .int .u64 0, .int .u32 0, .int .i64 0, .int .i64 0] 66 (0, 0)) := (other1 (by omega)).trans h3
  exact ⟨_, results_cc (S := 66) (T := 4) rfl rfl rfl (agg_bool _) (cell_of_row _ _ 0 _ _ _ hx) hy Tryz.underlying66 rfl infoP7, by rw [PN.out.1, PN.out.2]; rfl, (below_setRowM B1.out (show w.heap.size ≤ w.heap.size + 2 by omega) _).setCell (p := ⟨w.heap.size + 3, 0, none⟩) (show w.heap.size ≤ w.heap.size + 3 by omega) _⟩
 rw [okSb_t h1]
 have HKS := Lh h1
 clear h1
 have HN0 := Lh (show 0 < n by have := HKS.out.n1; have := HN.out; simp only at *; omega)
 obtain ⟨b, off, rfl, hsrc⟩ := HSC.out (by have := HN0.out; have := HN.out; omega)
 have HSR := Lh hsrc
 have HBL := Lh (show b < w.heap.size from by
  have q := hsrc 0 0 (by have := HN0.out; have := HVL.out; omega) (by decide)
  have hl := gc_len (HGC.out 0 (by have := HN0.out; have := HN.out; omega))
  rw [List.getElem?_eq_getElem (by omega)] at q
  exact block_lt_of_cell q)
 clear hsrc HSC
 obtain ⟨⟨y0, y1, y2, y3⟩, -⟩ := bx4 HS1.out
 go_wp2_with fail
 clear y0 y1 y2 y3
 clear HS1
 refine (pbackG_any (some ⟨b, off, none⟩) n c W1).mono ?_
 rintro e W2 ⟨rfl, hW2⟩
 have hA1 := bel_al0 W1 (.cells #[.slice (some ⟨b, off, none⟩) n c] 31)
 have hbs := heap_alloc_new W1 (.cells #[.slice (some ⟨b, off, none⟩) n c] 31)
 rw [← hW2] at hA1 hbs
 have HK2 := Lh (show Boxed W2 (w.heap.size + 1) 26 (.int .u64 (key : Int)) from (hA1.block _ (lt_of_some HK1.out)).trans HK1.out)
 have HP2 := Lh ((hA1.block _ (lt_of_some HP1.out)).trans HP1.out)
 have HO2 := Lh (show Boxed W2 (w.heap.size + 3) 4 (.bool false) from (hA1.block _ (lt_of_some HO1.out)).trans HO1.out)
 have B2 := Lh (btA B1.out hA1)
 have hlt2 := lt_of_some hbs
 have hz1 := SZ1.out
 clear hW2 hA1 HK1 HP1 HO1 B1
 generalize W1.heap.size = bs at *
 have STP := pbackG_stops Fence.wide 3 trivial rfl (by decide) bs w.heap.size b off n c (some ⟨b, off, none⟩) (rowC V L) (by have := HLN.out; omega) (fun _ => ⟨rfl, HBL.out⟩) W2 (by have := B2.out.size; omega) hbs (fun j hj => (gat_below (rowC_at (by have := HVL.out; omega) (HGC.out j (by have := HN.out; omega)) HSR.out) B2.out).cells)
 have HLT := Lh (And.intro hlt2 hz1)
 have HBS := Lh hbs
 clear hbs hlt2 hz1
 go_wp2_with fail
 refine (wpIn_wide (n := 4)).1 ?_
 refine wpIn_rangeFunc_ownH (n := 4) rfl (by decide) (gf := 77) (lb := #[.pointer (some ⟨bs, 0, none⟩)]) rfl trivial (enters_of Tryz.func77 (by kernel_rfl) rfl)
  STP (fun h h2 => KpX.trans h h2) (fun W l o o' hl ho hoc _ => ⟨belowK_b (n₀ := w.heap.size) (w := W2) (by have := HLT.out; omega) W l o o' hl ho hoc (by assumption), World.putObj_heap_other (by have := HLT.out; omega)⟩) (Below.refl _ _) (fun _ => rfl)
  (fun pre W => ((Boxed W (w.heap.size + 1) 26 (.int .u64 (key : Int)) ∧ Boxed W (w.heap.size + 3) 4 (.bool false)) ∧ ((W.heap[w.heap.size + 2]? = some (.cells #[.int .i64 0, .int .i64 0, .int .i64 0, .int .u64 0, .int .u32 0, .int .i64 0, .int .i64 0] 66 (0, 0)) ∧ Boxed W bs 31 (.slice (some ⟨b, off, none⟩) n c)) ∧ (∀ y ∈ pre, ¬ hitB (L.getD y.1 g0) key))) ∧ Below w.heap.size w W)
  (fun c pre W => (c = .ret ∧ (∃ p x, pre = p ++ [x] ∧ hitB (L.getD x.1 g0) key ∧ (∀ y ∈ p, ¬ hitB (L.getD y.1 g0) key) ∧ W.heap[w.heap.size + 2]? = some (.cells (placeC (L.getD x.1 g0) key) 66 (0, 0))) ∧ Boxed W (w.heap.size + 3) 4 (.bool true)) ∧ Below w.heap.size w W)
  (OwnFrom.and (OwnFrom.and (OwnFrom.and (Go.Own.from (boxed_own _ _ (fun _ => .int .u64 (key : Int))) _) (Go.Own.from (boxed_own _ _ (fun _ => .bool false)) _)) (OwnFrom.and (OwnFrom.and (Go.Own.from (row_own _ _ (fun _ => #[.int .i64 0, .int .i64 0, .int .i64 0, .int .u64 0, .int .u32 0, .int .i64 0, .int .i64 0])) _) (Go.Own.from (boxed_own _ _ (fun _ => .slice (some ⟨b, off, none⟩) n c)) _)) (Go.Own.from (fun _ _ _ _ hs _ _ => hs) _))) (ownFrom_below (Nat.le_refl _) (by have := HLT.out; omega)))
  (fun _ => OwnFrom.and (OwnFrom.and (Go.Own.from (fun _ _ _ _ hs _ _ => hs) _) (OwnFrom.and (Go.Own.from (fun pre X Y row hs hg hr => by
   obtain ⟨p, x, e1, e2, e3, e4⟩ := hs
   exact ⟨p, x, e1, e2, e3, row_own (w.heap.size + 2) 66 (fun (_ : Unit) => placeC (L.getD x.1 g0) key) () X Y row e4 hg hr⟩) _) (Go.Own.from (boxed_own _ _ (fun _ => .bool true)) _))) (ownFrom_below (Nat.le_refl _) (by have := HLT.out; omega)))
  ⟨⟨⟨HK2.out, HO2.out⟩, ⟨HP2.out, HBS.out⟩, fun y hy => absurd hy (by simp)⟩, B2.out⟩
  (fun x a' W => ∃ Bx, W.heap[Bx]? = some (.cells #[rowC V L x.1 0, rowC V L x.1 1, rowC V L x.1 2, rowC V L x.1 3, rowC V L x.1 4, rowC V L x.1 5, rowC V L x.1 6, rowC V L x.1 7, rowC V L x.1 8, rowC V L x.1 9, rowC V L x.1 10, rowC V L x.1 11, rowC V L x.1 12, rowC V L x.1 13] 40 (0, 0)) ∧ a' = { tmps := #[.agg #[.int .i64 id, .int .i64 lim, .bool ro, .slice (some ⟨b, off, none⟩) n c], .int .u64 (key : Int), .pointer (some ⟨w.heap.size, 0, none⟩), .pointer (some ⟨w.heap.size + 1, 0, none⟩), .pointer (some ⟨w.heap.size + 1 + 1, 0, none⟩), .pointer (some ⟨w.heap.size + 1 + 1 + 1, 0, none⟩), undef, .pointer (some ⟨Bx, 0, none⟩), undef, .agg #[.int .i64 id, .int .i64 lim, .bool ro, .slice (some ⟨b, off, none⟩) n c], .bool true, .bool false, undef, .pointer (some ⟨w.heap.size, 3, none⟩), .slice (some ⟨b, off, none⟩) n c, .func (.func 77) #[] #[.pointer (some ⟨bs, 0, none⟩)], .int .i64 (x.1 : Int), .agg #[rowC V L x.1 0, rowC V L x.1 1, rowC V L x.1 2, rowC V L x.1 3, rowC V L x.1 4, rowC V L x.1 5, rowC V L x.1 6, rowC V L x.1 7, rowC V L x.1 8, rowC V L x.1 9, rowC V L x.1 10, rowC V L x.1 11, rowC V L x.1 12, rowC V L x.1 13], undef, undef, undef, undef, undef, undef, undef, undef], defers := [] })
  (fun x a' _ X Y row hs hg hr => by obtain ⟨Bx, h2, h3⟩ := hs; exact ⟨Bx, row_own Bx 40 (fun (_ : Unit) => #[rowC V L x.1 0, rowC V L x.1 1, rowC V L x.1 2, rowC V L x.1 3, rowC V L x.1 4, rowC V L x.1 5, rowC V L x.1 6, rowC V L x.1 7, rowC V L x.1 8, rowC V L x.1 9, rowC V L x.1 10, rowC V L x.1 11, rowC V L x.1 12, rowC V L x.1 13]) () X Y row h2 hg (fun r e => (hr r e).2), h3⟩)
  ?assign ?body ?done ?stop
 case assign =>
  rintro l' pre x W K ⟨⟨⟨hk, ho⟩, ⟨hp, hT⟩, hO⟩, hB⟩ hK
  have on := (rowC_at (L := L) (by have := HVL.out; have := x.2; omega) (HGC.out x.1 (by have := HN.out; have := x.2; omega)) HSR.out).one
  dsimp only [rowC] at hK ⊢
  generalize L.getD x.1 g0 = u at hK on ⊢
  generalize (V.getD x.1 []).getD 4 undef = s0 at hK on ⊢
  generalize (V.getD x.1 []).getD 5 undef = s1 at hK on ⊢
  generalize (V.getD x.1 []).getD 6 undef = s2 at hK on ⊢
  generalize (V.getD x.1 []).getD 7 undef = s3 at hK on ⊢
  generalize (V.getD x.1 []).getD 8 undef = s4 at hK on ⊢
  generalize (V.getD x.1 []).getD 9 undef = s5 at hK on ⊢
  generalize (V.getD x.1 []).getD 10 undef = s6 at hK on ⊢
  generalize (V.getD x.1 []).getD 11 undef = s7 at hK on ⊢
  have hz := heap_alloc_new W (.cells #[.int .i64 0, .int .i64 0, .int .i64 0, .int .i64 0, .slice none 0 0, .slice none 0 0, .slice none 0 0, .slice none 0 0, .slice none 0 0, .slice none 0 0, .slice none 0 0, .slice none 0 0, .int .i64 0, .int .i64 0] 40)
  gi_wp2_with ((with_reducible refine storeGIn W.heap.size _ #[.int .i64 u.num, .int .i64 u.rev, .int .i64 u.mode, .int .i64 u.size, s0, s1, s2, s3, s4, s5, s6, s7, .int .i64 u.m.live, .int .i64 u.m.garb] ?_ ?_ hz rfl rfl on ?_); exact rfl; exact rfl)
  rw [World.setRow_alloc_new]
  have hbw := bel_al0 W (.cells #[.int .i64 u.num, .int .i64 u.rev, .int .i64 u.mode, .int .i64 u.size, s0, s1, s2, s3, s4, s5, s6, s7, .int .i64 u.m.live, .int .i64 u.m.garb] 40)
  have hsz := hB.size
  exact hK _ _ ((KeepsOthers.alloc _ _).from _) ⟨hbw.mono (by omega), hbw.block _ hT.lt⟩ ⟨⟨⟨hk.alloc _, ho.alloc _⟩, ⟨(hbw.block _ (lt_of_some hp)).trans hp, hT.alloc _⟩, hO⟩, btA hB hbw⟩ ⟨W.heap.size, heap_alloc_new W _, rfl⟩
 case body =>
  rintro l' pre x a' W hl ⟨r, hr⟩ ⟨⟨⟨hk, ho⟩, ⟨hp, hT⟩, hO⟩, hB⟩ ⟨Bx, hX, rfl⟩ hlt
  have ck := hk.cell
  have hms := (rowC_at (L := L) (by have := HVL.out; have := x.2; omega) (HGC.out x.1 (by have := HN.out; have := x.2; omega)) HSR.out).ms
  have hms := ms_below hms hB
  have hfw := HLF.out x.1 x.2
  dsimp only [rowC] at hX ⊢
  generalize hxu : L.getD x.1 g0 = u at *
  generalize (V.getD x.1 []).getD 4 undef = s0 at *
  generalize (V.getD x.1 []).getD 5 undef = s1 at *
  generalize (V.getD x.1 []).getD 6 undef = s2 at *
  generalize (V.getD x.1 []).getD 7 undef = s3 at *
  generalize (V.getD x.1 []).getD 8 undef = s4 at *
  generalize (V.getD x.1 []).getD 9 undef = s5 at *
  generalize (V.getD x.1 []).getD 10 undef = s6 at *
  generalize (V.getD x.1 []).getD 11 undef = s7 at *
  have HXU := Lh hxu
  have PLK := plook_any u s0 s1 s2 s3 s4 s5 s6 s7 key W hms hfw
  obtain ⟨x0, x1, x2, x3, x4, x5, x6, x7, x8, x9, x10, x11, x12, x13⟩ := bx14 hX
  have HH := Lh (And.intro (And.intro hk ho) (And.intro (And.intro hp hT) hO))
  have HBB := Lh hB
  clear hms hfw hk ho hp hT hB hX hO hxu
  rcases Classical.em (hitB u key) with h1 | h1
  case inr =>
   have hv : hitV u key = #[.int .i64 0, .int .i64 0, .int .i64 0, .int .u64 0, .int .u32 0, .int .i64 0, .int .i64 0, .bool false] := by unfold hitV; rw [if_neg h1]
   rw [hv] at PLK
   have PLK := Lh PLK
   have HNH := Lh h1
   clear hv h1
   gi_wp2_with (refine ⟨trivial, ?_⟩; gi_at_call 52; refine (CallsIn.inRound l' (callsIn_wide.2 PLK.out)).mono ?_; rintro e W3 ⟨rfl, hb3⟩)
   have hb4 := btA hb3 (bel_al0 W3 (.cells #[.int .i64 0, .int .i64 0, .int .i64 0, .int .u64 0, .int .u32 0, .int .i64 0, .int .i64 0, .bool false] 106))
   obtain ⟨⟨hk, ho⟩, ⟨hp, hT⟩, hO⟩ := HH.out
   exact ⟨(keeps_below hb4).from _, ⟨hb4.mono HBB.out.size, hb4.block _ hT.lt⟩, ⟨⟨⟨(hb4.block _ hk.lt).trans hk, (hb4.block _ ho.lt).trans ho⟩, ⟨(hb4.block _ (lt_of_some hp)).trans hp, (hb4.block _ hT.lt).trans hT⟩, fun y hy => by
    rcases List.mem_append.1 hy with h | h
    ·exact hO y h
    ·obtain rfl := List.mem_singleton.1 h
     rw [HXU.out]; exact HNH.out⟩, btA HBB.out hb4⟩⟩
  case inl =>
   obtain ⟨xi, hxi⟩ : ∃ q, q = fnL (gL u.m key) key := ⟨_, rfl⟩
   have hv : hitV u key = #[.int .i64 u.num, .int .i64 u.mode, .int .i64 u.rev, .int .u64 (xi.key : Int), .int .u32 (xi.ck : Int), .int .i64 xi.off, .int .i64 xi.sz, .bool true] := by unfold hitV; rw [if_pos h1, ← hxi]
   rw [hv] at PLK
   have PLK := Lh PLK
   have HNH := Lh h1
   have HPC := Lh (show placeC u key = #[.int .i64 u.num, .int .i64 u.mode, .int .i64 u.rev, .int .u64 (xi.key : Int), .int .u32 (xi.ck : Int), .int .i64 xi.off, .int .i64 xi.sz] from by unfold placeC; rw [← hxi])
   clear hv h1 hxi
   gi_wp2_with (first | (refine ⟨trivial, ?_⟩; gi_at_call 52; refine (CallsIn.inRound l' (callsIn_wide.2 PLK.out)).mono ?_; rintro e W3 ⟨rfl, hb3⟩; have hb4 := Lh (btA hb3 (bel_al0 W3 (.cells #[.int .i64 u.num, .int .i64 u.mode, .int .i64 u.rev, .int .u64 (xi.key : Int), .int .u32 (xi.ck : Int), .int .i64 xi.off, .int .i64 xi.sz, .bool true] 106))); obtain ⟨k0, k1, k2, k3, k4, k5, k6, k7⟩ := bx8 (heap_alloc_new W3 (.cells #[.int .i64 u.num, .int .i64 u.mode, .int .i64 u.rev, .int .u64 (xi.key : Int), .int .u32 (xi.ck : Int), .int .i64 xi.off, .int .i64 xi.sz, .bool true] 106)); have HP4 := Lh ((hb4.out.block _ (lt_of_some HH.out.2.1.1)).trans HH.out.2.1.1); have ho4 : Boxed ((W3.alloc (.cells #[.int .i64 u.num, .int .i64 u.mode, .int .i64 u.rev, .int .u64 (xi.key : Int), .int .u32 (xi.ck : Int), .int .i64 xi.off, .int .i64 xi.sz, .bool true] 106)).setRow (w.heap.size + 2) #[.int .i64 u.num, .int .i64 u.mode, .int .i64 u.rev, .int .u64 (xi.key : Int), .int .u32 (xi.ck : Int), .int .i64 xi.off, .int .i64 xi.sz]) (w.heap.size + 3) 4 (.bool false) := (setRow_other _ _ _ _ (by omega)).trans ((hb4.out.block _ HH.out.1.2.lt).trans HH.out.1.2); have HO4 := Lh ho4; have fO := ho4.frozen; have cO := ho4.cell; clear ho4 hb3) | ((with_reducible refine storePIn (w.heap.size + 2) _ #[.int .i64 u.num, .int .i64 u.mode, .int .i64 u.rev, .int .u64 (xi.key : Int), .int .u32 (xi.ck : Int), .int .i64 xi.off, .int .i64 xi.sz] ?_ ?_ HP4.out rfl rfl (pl_one u xi) ?_); exact rfl; exact rfl))
   have h3 := setRow_heap _ (w.heap.size + 2) _ #[.int .i64 u.num, .int .i64 u.mode, .int .i64 u.rev, .int .u64 (xi.key : Int), .int .u32 (xi.ck : Int), .int .i64 xi.off, .int .i64 xi.sz] 66 (0, 0) HP4.out
   exact ⟨(((keeps_below hb4.out).trans (keeps_row HP4.out)).trans (KeepsOthers.setCell _ _ _)).from _, ⟨⟨rfl, ⟨pre, x, rfl, by rw [HXU.out]; exact HNH.out, HH.out.2.2, by rw [HXU.out, HPC.out]; exact (other1 (by omega)).trans h3⟩, HO4.out.set (.bool true)⟩, (below_setRowM (btA HBB.out hb4.out) (show w.heap.size ≤ w.heap.size + 2 by omega) _).setCell (p := ⟨w.heap.size + 3, 0, none⟩) (show w.heap.size ≤ w.heap.size + 3 by omega) _⟩⟩
 case done =>
  rintro D ys W hD rfl ⟨⟨⟨hk, ho⟩, ⟨hp, hT⟩, hO⟩, hB⟩ hK
  have PN := Lh (plc_none (s := ⟨id, lim, ro, L⟩) (key := key) (fun _ j hj => by
   obtain ⟨y, hy, rfl⟩ := dn_all (show j < n by rw [HN.out]; exact hj)
   exact hO y hy))
  have HH := Lh (And.intro hp ho)
  have HBB := Lh hB
  have HDD := Lh hD
  have ho2 : Boxed (W.setRow (w.heap.size + 2) #[.int .i64 0, .int .i64 0, .int .i64 0, .int .u64 0, .int .u32 0, .int .i64 0, .int .i64 0]) (w.heap.size + 3) 4 (.bool false) := (setRow_other _ _ _ _ (by omega)).trans ho
  have fO := ho2.frozen
  have cO := ho2.cell
  clear hk ho hp hT hB hD STP hO
  go_wp2_with ((with_reducible refine storeP (w.heap.size + 2) _ #[.int .i64 0, .int .i64 0, .int .i64 0, .int .u64 0, .int .u32 0, .int .i64 0, .int .i64 0] ?_ ?_ HH.out.1 rfl rfl zp_one ?_); exact rfl; exact rfl)
  have hd2 := HDD.out
  have hl := HLT.out
  have h3 := (setRow_heap W (w.heap.size + 2) _ #[.int .i64 0, .int .i64 0, .int .i64 0, .int .u64 0, .int .u32 0, .int .i64 0, .int .i64 0] 66 (0, 0) HH.out.1)
  have hK2 : ((W.setRow (w.heap.size + 2) #[.int .i64 0, .int .i64 0, .int .i64 0, .int .u64 0, .int .u32 0, .int .i64 0, .int .i64 0]).setCell ⟨w.heap.size + 3, 0, none⟩ (.bool false)).heap[D]? = some (.deferred (some [])) := (other1 (by omega)).trans ((setRow_other _ _ _ _ (by omega)).trans hK)
  refine ⟨by simp, .inl ⟨_, _, rfl, run_takeDeferred hK2, ?_⟩⟩
  have hx : (((W.setRow (w.heap.size + 2) #[.int .i64 0, .int .i64 0, .int .i64 0, .int .u64 0, .int .u32 0, .int .i64 0, .int .i64 0]).setCell ⟨w.heap.size + 3, 0, none⟩ (.bool false)).putObj D (.deferred none)).heap[w.heap.size + 3]? = some (.cells #[.bool false] 4 (0, 0)) := (World.putObj_heap_other (by omega)).trans (ho2.set (.bool false))
  have hy : (((W.setRow (w.heap.size + 2) #[.int .i64 0, .int .i64 0, .int .i64 0, .int .u64 0, .int .u32 0, .int .i64 0, .int .i64 0]).setCell ⟨w.heap.size + 3, 0, none⟩ (.bool false)).putObj D (.deferred none)).heap[w.heap.size + 2]? = some (.cells #[.int .i64 0, .int .i64 0, .int .i64 0, .int .u64 0, .int .u32 0, .int .i64 0, .int .i64 0] 66 (0, 0)) := (World.putObj_heap_other (by omega)).trans ((other1 (by omega)).trans h3)
  have hb1 := (below_setRowM HBB.out (show w.heap.size ≤ w.heap.size + 2 by omega) #[.int .i64 0, .int .i64 0, .int .i64 0, .int .u64 0, .int .u32 0, .int .i64 0, .int .i64 0]).setCell (p := ⟨w.heap.size + 3, 0, none⟩) (show w.heap.size ≤ w.heap.size + 3 by omega) (.bool false)
  exact ⟨_, results_cc (S := 66) (T := 4) rfl rfl rfl (agg_bool _) (cell_of_row _ _ 0 _ _ _ hx) hy Tryz.underlying66 rfl infoP7, by rw [PN.out.1, PN.out.2]; rfl, hb1.trans (belowK_b (w := w) (Nat.le_refl _) _ D _ _ (by omega) hK2 rfl rfl)⟩
 case stop =>
  rintro D c pre W hD ⟨k, hk, rfl⟩ ⟨⟨rfl, ⟨p, x, hpx, hhit, hno, hrow⟩, hbx⟩, hB⟩ hK
  have PS := Lh (plc_some (s := ⟨id, lim, ro, L⟩) (key := key) (j := x.1) HKS.out ⟨by show x.1 < L.length; have := x.2; have := HN.out; omega, hhit, fun i hi hin => by
   obtain ⟨y, hy, rfl⟩ := dn_last hk hpx hi (by rw [HN.out]; exact hin)
   exact hno y hy⟩)
  have HDD := Lh hD
  have HRR := Lh (And.intro hrow hbx)
  have HBB := Lh hB
  clear hrow hbx hB hD STP hpx hhit hno
  gi_wp2
  have hd2 := HDD.out
  have hl := HLT.out
  refine ⟨by simp, .inl ⟨_, _, rfl, run_takeDeferred hK, ?_⟩⟩
  have hx : (W.putObj D (.deferred none)).heap[w.heap.size + 3]? = some (.cells #[.bool true] 4 (0, 0)) := (World.putObj_heap_other (by omega)).trans HRR.out.2
  have hy : (W.putObj D (.deferred none)).heap[w.heap.size + 2]? = some (.cells (placeC (L.getD x.1 g0) key) 66 (0, 0)) := (World.putObj_heap_other (by omega)).trans HRR.out.1
  exact ⟨_, results_cc (S := 66) (T := 4) rfl rfl rfl (agg_bool _) (cell_of_row _ _ 0 _ _ _ hx) hy Tryz.underlying66 rfl infoP7, by rw [PS.out.1, PS.out.2]; rfl, HBB.out.trans (belowK_b (w := w) (Nat.le_refl _) _ D _ _ (by omega) hK rfl rfl)⟩
end Go.Proofs.YtgbnclepgjcakaaGreat.Gf
