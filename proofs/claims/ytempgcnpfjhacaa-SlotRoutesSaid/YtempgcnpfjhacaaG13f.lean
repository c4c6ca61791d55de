/- What is proved here: slices.Backward over generations (program); Find in a slot of one generation without items. -/
import Derived.Test.YtempgcnpfjhacaaG13e
namespace Go.Proofs.Ytempgcnpfjhacaa.Gf
open Go Go.RowKit Go.Shelf
attribute [local go_sem] Oper.semAt_some

set_option maxRecDepth 100000 in
set_option maxHeartbeats 4000000 in
theorem pbackG_in (F : Fence) (n : Nat) (h8 : F.fn 20) (hro : F.round = none) (hn : 1 ≤ n) (l Bs n₀ b off len cap : Nat) (a : Option Addr) (C : Nat → Nat → Value) (hreach : len ≤ 100000) (ha : 0 < len → a = some ⟨b, off, none⟩ ∧ b < n₀) (J Jx : List { x : Nat // x < len } → World → Prop)
    (hY : ∀ pre x W, J pre W → pre.length < len → YieldAt F (n - 1) Try.prog l #[.int .i64 (x.1 : Int), .agg #[C x.1 0, C x.1 1, C x.1 2, C x.1 3, C x.1 4, C x.1 5, C x.1 6, C x.1 7, C x.1 8, C x.1 9, C x.1 10, C x.1 11, C x.1 12, C x.1 13]] W fun e W' =>
      (e = .returned (.bool true) ∧ J (pre ++ [x]) W' ∧ KpX n₀ Bs W W') ∨ (e = .returned (.bool false) ∧ Jx (pre ++ [x]) W'))
    (W : World) (hBs : W.heap[Bs]? = some (.cells #[.slice a len cap] 28 (0, 0))) (hc : ∀ j, j < len → W.cell? ⟨b, off + j * 14, none⟩ = some (C j 0) ∧ W.cell? ⟨b, off + j * 14 + 1, none⟩ = some (C j 1) ∧ W.cell? ⟨b, off + j * 14 + 2, none⟩ = some (C j 2) ∧ W.cell? ⟨b, off + j * 14 + 3, none⟩ = some (C j 3) ∧ W.cell? ⟨b, off + j * 14 + 4, none⟩ = some (C j 4) ∧ W.cell? ⟨b, off + j * 14 + 5, none⟩ = some (C j 5) ∧ W.cell? ⟨b, off + j * 14 + 6, none⟩ = some (C j 6) ∧ W.cell? ⟨b, off + j * 14 + 7, none⟩ = some (C j 7) ∧ W.cell? ⟨b, off + j * 14 + 8, none⟩ = some (C j 8) ∧ W.cell? ⟨b, off + j * 14 + 9, none⟩ = some (C j 9) ∧ W.cell? ⟨b, off + j * 14 + 10, none⟩ = some (C j 10) ∧ W.cell? ⟨b, off + j * 14 + 11, none⟩ = some (C j 11) ∧ W.cell? ⟨b, off + j * 14 + 12, none⟩ = some (C j 12) ∧ W.cell? ⟨b, off + j * 14 + 13, none⟩ = some (C j 13)) (h0 : J [] W) :
    CallsIn F n Try.prog 20 #[.func (.yield l) #[] #[], .pointer (some ⟨Bs, 0, none⟩)] W fun e W' => (∃ v, e = .returned v) ∧
      ((∃ ys, ys = dn len len ∧ J ys W') ∨ (∃ pre, (∃ k, k ≤ len ∧ pre = dn len k) ∧ Jx pre W')) := by
  refine callsIn_of_wp Try.func20 rfl h8 ?_ hro
  simp only [Try.ntmps20, List.size_toArray, List.length_cons, List.length_nil, Nat.reduceAdd, Nat.reduceSub, Array.replicate_succ, Array.replicate_zero, List.push_toArray, List.append_toArray, List.nil_append, List.cons_append]
  have hcb := cell_of_row W Bs 0 _ _ _ hBs
  gi_wp2
  gi_loopw [3] (fun i wr => ∃ k : Nat, k ≤ len ∧ i = .int .i64 ((len : Int) - 1 - (k : Int)) ∧ J (dn len k) wr ∧ KpX n₀ Bs W wr)
    (fun i _ => ((intOf i) + 1).toNat)
  case atStart => exact ⟨0, Nat.zero_le _, by simp, h0, Below.refl _ _, rfl⟩
  case round =>
    obtain ⟨k, hk, rfl, hJs, hnx⟩ := hrel
    have hcw := cell_of_row wr Bs 0 _ _ _ (hnx.2.trans hBs)
    by_cases hlt : k < len
    · obtain ⟨rfl, hb⟩ := ha (by omega)
      obtain ⟨j, hj⟩ : ∃ j, j = len - 1 - k := ⟨_, rfl⟩
      have hjz : (len : Int) - 1 - (k : Int) = (j : Int) := by omega
      have hjl : j < len := by omega
      obtain ⟨fn, tmps, assign, body, hy, hR⟩ := hY _ ⟨j, hjl⟩ wr hJs (by rw [dn_length k (by omega)]; exact hlt)
      dsimp only at hy
      obtain ⟨c0, c1, c2, c3, c4, c5, c6, c7, c8, c9, c10, c11, c12, c13⟩ := hc j hjl
      replace c0 := (hnx.1.cell (p := ⟨b, off + j * 14, none⟩) hb).trans c0
      replace c1 := (hnx.1.cell (p := ⟨b, off + j * 14 + 1, none⟩) hb).trans c1
      replace c2 := (hnx.1.cell (p := ⟨b, off + j * 14 + 2, none⟩) hb).trans c2
      replace c3 := (hnx.1.cell (p := ⟨b, off + j * 14 + 3, none⟩) hb).trans c3
      replace c4 := (hnx.1.cell (p := ⟨b, off + j * 14 + 4, none⟩) hb).trans c4
      replace c5 := (hnx.1.cell (p := ⟨b, off + j * 14 + 5, none⟩) hb).trans c5
      replace c6 := (hnx.1.cell (p := ⟨b, off + j * 14 + 6, none⟩) hb).trans c6
      replace c7 := (hnx.1.cell (p := ⟨b, off + j * 14 + 7, none⟩) hb).trans c7
      replace c8 := (hnx.1.cell (p := ⟨b, off + j * 14 + 8, none⟩) hb).trans c8
      replace c9 := (hnx.1.cell (p := ⟨b, off + j * 14 + 9, none⟩) hb).trans c9
      replace c10 := (hnx.1.cell (p := ⟨b, off + j * 14 + 10, none⟩) hb).trans c10
      replace c11 := (hnx.1.cell (p := ⟨b, off + j * 14 + 11, none⟩) hb).trans c11
      replace c12 := (hnx.1.cell (p := ⟨b, off + j * 14 + 12, none⟩) hb).trans c12
      replace c13 := (hnx.1.cell (p := ⟨b, off + j * 14 + 13, none⟩) hb).trans c13
      have p0 : (0 : Int) ≤ (j : Int) := by omega
      have p1 : (j : Int) < (len : Int) := by omega
      rw [hjz]
      have HJ := Lib.hid hj
      clear hj hjz
      gi_wp2
      refine hR.mono ?_
      rintro e W3 (⟨rfl, hJ3, hk3⟩ | ⟨rfl, hJx3⟩)
      · gi_wp2
        go_roundw
        case rel => exact ⟨k + 1, by omega, by have hj := HJ.out; first | (simp; omega) | (congr 1; omega), by have hj := HJ.out; rw [dn_succ hlt]; subst hj; exact hJ3, hnx.trans hk3⟩
        case measure => have hj := HJ.out; simp only [intOf]; omega
      · gi_wp2
        refine bodyPost_ret (results_none rfl _ _ _) rfl ?_
        exact ⟨⟨_, rfl⟩, .inr ⟨_, ⟨k + 1, by omega, by have hj := HJ.out; rw [dn_succ hlt]; subst hj; rfl⟩, hJx3⟩⟩
    · obtain rfl : k = len := by omega
      have hjz : (k : Int) - 1 - (k : Int) = -1 := by omega
      rw [hjz]
      gi_wp2
      go_end0
      exact ⟨⟨_, rfl⟩, .inl ⟨_, rfl, hJs⟩⟩
set_option maxRecDepth 100000 in
theorem pbackG_any (a : Option Addr) (len cap : Nat) (w : World) : Calls Try.prog 12 #[.slice a len cap] w fun e w' => e = .returned (.func (.func 20) #[] #[.pointer (some ⟨w.heap.size, 0, none⟩)]) ∧ w' = w.alloc (.cells #[.slice a len cap] 28) := by
  have hmf : ∀ (fn : Fn) (first cap : Array Value) (w : World), (Instr.makeFunc fn first cap).run Try.prog w = .ok (.func fn first cap) w := fun _ _ _ _ => rfl
  go_enter Try.func12, Try.ntmps12
  go_wp2
  go_ret
  exact ⟨rfl, rfl⟩
theorem pbackG_stops (F : Fence) (n : Nat) (h8 : F.fn 20) (hro : F.round = none) (hn : 1 ≤ n) (Bs n₀ b off len cap : Nat) (a : Option Addr) (C : Nat → Nat → Value) (hreach : len ≤ 100000) (ha : 0 < len → a = some ⟨b, off, none⟩ ∧ b < n₀) (w : World) (hn₀ : n₀ ≤ w.heap.size)
    (hBs : w.heap[Bs]? = some (.cells #[.slice a len cap] 28 (0, 0))) (hc : ∀ j, j < len → w.cell? ⟨b, off + j * 14, none⟩ = some (C j 0) ∧ w.cell? ⟨b, off + j * 14 + 1, none⟩ = some (C j 1) ∧ w.cell? ⟨b, off + j * 14 + 2, none⟩ = some (C j 2) ∧ w.cell? ⟨b, off + j * 14 + 3, none⟩ = some (C j 3) ∧ w.cell? ⟨b, off + j * 14 + 4, none⟩ = some (C j 4) ∧ w.cell? ⟨b, off + j * 14 + 5, none⟩ = some (C j 5) ∧ w.cell? ⟨b, off + j * 14 + 6, none⟩ = some (C j 6) ∧ w.cell? ⟨b, off + j * 14 + 7, none⟩ = some (C j 7) ∧ w.cell? ⟨b, off + j * 14 + 8, none⟩ = some (C j 8) ∧ w.cell? ⟨b, off + j * 14 + 9, none⟩ = some (C j 9) ∧ w.cell? ⟨b, off + j * 14 + 10, none⟩ = some (C j 10) ∧ w.cell? ⟨b, off + j * 14 + 11, none⟩ = some (C j 11) ∧ w.cell? ⟨b, off + j * 14 + 12, none⟩ = some (C j 12) ∧ w.cell? ⟨b, off + j * 14 + 13, none⟩ = some (C j 13)) :
    SeqStopsK F n Try.prog 20 #[.pointer (some ⟨Bs, 0, none⟩)] (fun x : { x : Nat // x < len } => #[Value.int .i64 (x.1 : Int), .agg #[C x.1 0, C x.1 1, C x.1 2, C x.1 3, C x.1 4, C x.1 5, C x.1 6, C x.1 7, C x.1 8, C x.1 9, C x.1 10, C x.1 11, C x.1 12, C x.1 13]]) (KpX n₀ Bs) (fun ys => ys = dn len len)
      (fun pre => ∃ k, k ≤ len ∧ pre = dn len k) len w := fun l J Jx W hW _ _ hY h0 => by
  have hlt := (Array.getElem?_eq_some_iff.1 hBs).1
  refine pbackG_in F n h8 hro hn l Bs n₀ b off len cap a C hreach ha J Jx hY W ((hW.block Bs hlt).trans hBs) (fun j hj => ?_) h0
  have hb := (ha (by omega)).2
  obtain ⟨c0, c1, c2, c3, c4, c5, c6, c7, c8, c9, c10, c11, c12, c13⟩ := hc j hj
  exact ⟨(hW.cell (p := ⟨b, off + j * 14, none⟩) (by show b < _; omega)).trans c0, (hW.cell (p := ⟨b, off + j * 14 + 1, none⟩) (by show b < _; omega)).trans c1, (hW.cell (p := ⟨b, off + j * 14 + 2, none⟩) (by show b < _; omega)).trans c2, (hW.cell (p := ⟨b, off + j * 14 + 3, none⟩) (by show b < _; omega)).trans c3, (hW.cell (p := ⟨b, off + j * 14 + 4, none⟩) (by show b < _; omega)).trans c4, (hW.cell (p := ⟨b, off + j * 14 + 5, none⟩) (by show b < _; omega)).trans c5, (hW.cell (p := ⟨b, off + j * 14 + 6, none⟩) (by show b < _; omega)).trans c6, (hW.cell (p := ⟨b, off + j * 14 + 7, none⟩) (by show b < _; omega)).trans c7, (hW.cell (p := ⟨b, off + j * 14 + 8, none⟩) (by show b < _; omega)).trans c8, (hW.cell (p := ⟨b, off + j * 14 + 9, none⟩) (by show b < _; omega)).trans c9, (hW.cell (p := ⟨b, off + j * 14 + 10, none⟩) (by show b < _; omega)).trans c10, (hW.cell (p := ⟨b, off + j * 14 + 11, none⟩) (by show b < _; omega)).trans c11, (hW.cell (p := ⟨b, off + j * 14 + 12, none⟩) (by show b < _; omega)).trans c12, (hW.cell (p := ⟨b, off + j * 14 + 13, none⟩) (by show b < _; omega)).trans c13⟩

/-- The cells of a fresh generation. -/
def frC (s0 s1 s2 s3 s4 s5 s6 s7 : Value) (_ : Nat) : Nat → Value
  | 0 => .int .i64 1 | 1 => .int .i64 0 | 2 => .int .i64 1 | 3 => .int .i64 16
  | 4 => s0 | 5 => s1 | 6 => s2 | 7 => s3 | 8 => s4 | 9 => s5 | 10 => s6 | 11 => s7
  | 12 => .int .i64 0 | 13 => .int .i64 0 | _ => undef
theorem keeps_below {W W' : World} (h : Below W.heap.size W W') : KeepsOthers W W' := ⟨h.size, fun l _ ho _ => (h.block l (lt_of_some ho)).trans ho⟩
theorem row_own {β : Type} (B : Nat) (t : TypeId) (f : β → Array Value) : Go.Own (fun s W => W.heap[B]? = some (.cells (f s) t (0, 0))) := fun s X Y row hs hg hrow =>
  (hg.block B (Array.getElem?_eq_some_iff.1 hs).1 (fun e' => by obtain ⟨o, ho, hc⟩ := hrow B e'.symm; rw [hs] at ho; cases ho; cases hc)).trans hs
theorem al4 (w : World) (o1 o2 o3 o4 : Obj) : ((((w.alloc o1).alloc o2).alloc o3).alloc o4).heap[w.heap.size]? = some o1 ∧ ((((w.alloc o1).alloc o2).alloc o3).alloc o4).heap[w.heap.size + 1]? = some o2 ∧ ((((w.alloc o1).alloc o2).alloc o3).alloc o4).heap[w.heap.size + 2]? = some o3 ∧ ((((w.alloc o1).alloc o2).alloc o3).alloc o4).heap[w.heap.size + 3]? = some o4 ∧ Below w.heap.size w ((((w.alloc o1).alloc o2).alloc o3).alloc o4) ∧ ((((w.alloc o1).alloc o2).alloc o3).alloc o4).heap.size = w.heap.size + 4 := by
  have q1 := bel_al0 w o1
  have q2 := bel_al0 (w.alloc o1) o2
  have q3 := bel_al0 ((w.alloc o1).alloc o2) o3
  have q4 := bel_al0 (((w.alloc o1).alloc o2).alloc o3) o4
  have h1 := heap_alloc_new w o1
  have h2 := heap_alloc_new (w.alloc o1) o2
  have h3 := heap_alloc_new ((w.alloc o1).alloc o2) o3
  have h4 := heap_alloc_new (((w.alloc o1).alloc o2).alloc o3) o4
  have s1 : (w.alloc o1).heap.size = w.heap.size + 1 := by simp
  have s2 : ((w.alloc o1).alloc o2).heap.size = w.heap.size + 2 := by simp
  have s3 : (((w.alloc o1).alloc o2).alloc o3).heap.size = w.heap.size + 3 := by simp
  rw [s1] at h2
  rw [s2] at h3
  rw [s3] at h4
  have k1 := (q2.block _ (lt_of_some h1)).trans h1
  have k2 := (q3.block _ (lt_of_some k1)).trans k1
  have k3 := (q4.block _ (lt_of_some k2)).trans k2
  have m2 := (q3.block _ (lt_of_some h2)).trans h2
  have m3 := (q4.block _ (lt_of_some m2)).trans m2
  exact ⟨k3, m3, (q4.block _ (lt_of_some h3)).trans h3, h4, btA (btA (btA q1 q2) q3) q4, by simp⟩
theorem infoP7 : (Try.prog.info? 37).map (·.size) = some 7 := by kernel_rfl
theorem zp_one : (#[.int .i64 0, .int .i64 0, .int .i64 0, .int .u64 0, .int .u32 0, .int .i64 0, .int .i64 0] : Array Value).all (·.oneCell') = true := by kernel_rfl
theorem storeP {ops : Array Oper} {rest : List Oper} {x y : Operand} {pos : String} {after : Array Edge} {ty : TypeId} {a : Act} {w : World} {Q : Exit → Act → World → Prop}
    (g : Nat) (old cs : Array Value) (hx : a.eval x = .pointer (some ⟨g, 0, none⟩)) (hy : a.eval y = .agg cs) (hg : w.heap[g]? = some (.cells old 37 (0, 0))) (ho : old.size = 7) (hs : cs.size = 7) (h1 : cs.all (·.oneCell') = true)
    (h : wpList Try.prog ops Q rest a (w.setRow g cs)) : wpList Try.prog ops Q (⟨none, .store 37 x y, ty, pos, after, none⟩ :: rest) a w :=
  wpList_store_row rfl 37 x y rfl g cs hx hy 37 old hg (by rw [infoP7, hs]) (by omega) h1 h
/-- Two results: a boxed struct, then a boxed variable of one cell. -/
theorem results_cc {P : Program} {fn : Func} {p q : Tmp} {S T : TypeId} {tmps : Array Value} {w : World} {g g2 : Nat} {v : Value} {cs : Array Value} {d : TypeDesc} (h : fn.results = #[.cell p S, .cell q T]) (hp : tmps.getD p undef = .pointer (some ⟨g, 0, none⟩)) (hq : tmps.getD q undef = .pointer (some ⟨g2, 0, none⟩)) (ha : (isAgg T).run P w = .ok false w) (hc : w.cell? ⟨g2, 0, none⟩ = some v)
    (hg : w.heap[g]? = some (.cells cs S (0, 0))) (hu : P.underlying S = some d) (hd : (match d with | .struct _ | .array _ _ => true | _ => false) = true) (hi : (P.info? S).map (·.size) = some cs.size) : (results fn tmps).run P w = .ok (.tuple #[.agg cs, v]) w := by
  have hp' : tmps[p]?.getD undef = .pointer (some ⟨g, 0, none⟩) := by simpa using hp
  have hq' : tmps[q]?.getD undef = .pointer (some ⟨g2, 0, none⟩) := by simpa using hq
  have h1 := run_loadVar_row w g S S cs (0, 0) d hg hu hd hi
  have h2 : (loadVar T ⟨g2, 0, none⟩).run P w = .ok v w := by simp [loadVar, ha, hc]
  simp [results, h, hp', hq', asAddr, h1, h2]
set_option maxRecDepth 100000 in
set_option maxHeartbeats 12800000 in
theorem pfind_1 (gb : Nat) (s0 s1 s2 s3 s4 s5 s6 s7 : Value) (key : Nat) (w : World) (HB : w.heap[gb]? = some (.cells #[.int .i64 1, .int .i64 0, .int .i64 1, .int .i64 16, s0, s1, s2, s3, s4, s5, s6, s7, .int .i64 0, .int .i64 0] 46 (0, 0))) (MS : Ms w [s0, s1, s2, s3, s4, s5, s6, s7] mp0) : Calls Try.prog 7 #[.agg #[.int .i64 0, .int .i64 9000, .bool false, .slice (some ⟨gb, 0, none⟩) 1 1], .int .u64 (key : Int)] w fun e w' => e = .returned (.tuple #[.agg #[.int .i64 0, .int .i64 0, .int .i64 0, .int .u64 0, .int .u32 0, .int .i64 0, .int .i64 0], .bool false]) ∧ Below w.heap.size w w' := by
  obtain ⟨a0, k0, hs0, -⟩ := MS.2.2.2 0 (by decide)
  obtain rfl := Option.some.inj hs0
  obtain ⟨a1, k1, hs1, -⟩ := MS.2.2.2 1 (by decide)
  obtain rfl := Option.some.inj hs1
  obtain ⟨a2, k2, hs2, -⟩ := MS.2.2.2 2 (by decide)
  obtain rfl := Option.some.inj hs2
  obtain ⟨a3, k3, hs3, -⟩ := MS.2.2.2 3 (by decide)
  obtain rfl := Option.some.inj hs3
  obtain ⟨a4, k4, hs4, -⟩ := MS.2.2.2 4 (by decide)
  obtain rfl := Option.some.inj hs4
  obtain ⟨a5, k5, hs5, -⟩ := MS.2.2.2 5 (by decide)
  obtain rfl := Option.some.inj hs5
  obtain ⟨a6, k6, hs6, -⟩ := MS.2.2.2 6 (by decide)
  obtain rfl := Option.some.inj hs6
  obtain ⟨a7, k7, hs7, -⟩ := MS.2.2.2 7 (by decide)
  obtain rfl := Option.some.inj hs7
  simp only [ms_mp0, List.length_nil] at MS HB ⊢
  clear hs0 hs1 hs2 hs3 hs4 hs5 hs6 hs7
  have A4 := al4 w (.cells #[.int .i64 0, .int .i64 9000, .bool false, .slice (some ⟨gb, 0, none⟩) 1 1] 30) (.cells #[.int .u64 (key : Int)] 24) (.cells #[.int .i64 0, .int .i64 0, .int .i64 0, .int .u64 0, .int .u32 0, .int .i64 0, .int .i64 0] 37) (.cells #[.bool false] 4)
  have HS := Lib.hid A4.1
  have HK := Lib.hid A4.2.1
  have HP := Lib.hid A4.2.2.1
  have HO := Lib.hid A4.2.2.2.1
  have B0 := Lib.hid A4.2.2.2.2.1
  have HB0 := Lib.hid ((B0.out.block _ (lt_of_some HB)).trans HB)
  have MS0 := Lib.hid (ms_below MS B0.out)
  have ON := Lib.hid (fr_one MS)
  have GBL := Lib.hid (lt_of_some HB)
  have HBW := Lib.hid HB
  have MSW := Lib.hid MS
  clear HB MS
  refine (callsIn_wide (n := 4)).1 ?_
  refine callsIn_of_wp_marks Try.func7 rfl trivial ?_ rfl
  refine wpIn_wide.2 ?_
  simp only [Try.ntmps7, List.size_toArray, List.length_cons, List.length_nil, Nat.reduceAdd, Nat.reduceSub, Array.replicate_succ, Array.replicate_zero, List.push_toArray, List.append_toArray, List.nil_append, List.cons_append]
  go_upto_region 1 with fail
  have SZ := Lib.hid A4.2.2.2.2.2
  clear A4
  generalize (((w.alloc (.cells #[.int .i64 0, .int .i64 9000, .bool false, .slice (some ⟨gb, 0, none⟩) 1 1] 30)).alloc (.cells #[.int .u64 (key : Int)] 24)).alloc (.cells #[.int .i64 0, .int .i64 0, .int .i64 0, .int .u64 0, .int .u32 0, .int .i64 0, .int .i64 0] 37)).alloc (.cells #[.bool false] 4) = W0 at *
  obtain ⟨⟨y0, y1, y2, y3⟩, -⟩ := bx4 HS.out
  go_wp2_with fail
  clear y0 y1 y2 y3
  refine (psvalid_1 gb (.slice a0 0 k0) (.slice a1 0 k1) (.slice a2 0 k2) (.slice a3 0 k3) (.slice a4 0 k4) (.slice a5 0 k5) (.slice a6 0 k6) (.slice a7 0 k7) W0 HB0.out MS0.out).mono ?_
  rintro e W1 ⟨rfl, hb⟩
  have HS1 := Lib.hid ((hb.block _ (lt_of_some HS.out)).trans HS.out)
  have HK1 := Lib.hid ((hb.block _ (lt_of_some HK.out)).trans HK.out)
  have HP1 := Lib.hid ((hb.block _ (lt_of_some HP.out)).trans HP.out)
  have HO1 := Lib.hid ((hb.block _ (lt_of_some HO.out)).trans HO.out)
  have B1 := Lib.hid (btA B0.out hb)
  have SZ1 := Lib.hid (show w.heap.size + 4 ≤ W1.heap.size from by rw [← SZ.out]; exact hb.size)
  clear hb HS HK HP HO B0 HB0 MS0 SZ
  obtain ⟨⟨y0, y1, y2, y3⟩, -⟩ := bx4 HS1.out
  go_wp2_with fail
  clear y0 y1 y2 y3 HS1
  refine (pbackG_any (some ⟨gb, 0, none⟩) 1 1 W1).mono ?_
  rintro e W2 ⟨rfl, hW2⟩
  have hA1 := bel_al0 W1 (.cells #[.slice (some ⟨gb, 0, none⟩) 1 1] 28)
  have hbs := heap_alloc_new W1 (.cells #[.slice (some ⟨gb, 0, none⟩) 1 1] 28)
  rw [← hW2] at hA1 hbs
  have HK2 := Lib.hid (show Boxed W2 (w.heap.size + 1) 24 (.int .u64 (key : Int)) from (hA1.block _ (lt_of_some HK1.out)).trans HK1.out)
  have HP2 := Lib.hid ((hA1.block _ (lt_of_some HP1.out)).trans HP1.out)
  have HO2 := Lib.hid (show Boxed W2 (w.heap.size + 3) 4 (.bool false) from (hA1.block _ (lt_of_some HO1.out)).trans HO1.out)
  have B2 := Lib.hid (btA B1.out hA1)
  have hlt2 := lt_of_some hbs
  have hz1 := SZ1.out
  clear hW2 hA1 HK1 HP1 HO1 B1
  generalize W1.heap.size = bs at *
  have hbw := (B2.out.block _ GBL.out).trans HBW.out
  have STP := pbackG_stops Fence.wide 3 trivial rfl (by decide) bs w.heap.size gb 0 1 1 (some ⟨gb, 0, none⟩) (frC (.slice a0 0 k0) (.slice a1 0 k1) (.slice a2 0 k2) (.slice a3 0 k3) (.slice a4 0 k4) (.slice a5 0 k5) (.slice a6 0 k6) (.slice a7 0 k7) ) (by decide) (fun _ => ⟨rfl, GBL.out⟩) W2 (by have := B2.out.size; omega) hbs (fun j hj => by
    obtain rfl : j = 0 := by omega
    exact bx14 hbw)
  have HLT := Lib.hid (And.intro hlt2 hz1)
  have HBS := Lib.hid hbs
  clear hbs hlt2 hz1 hbw
  go_wp2_with fail
  refine (wpIn_wide (n := 4)).1 ?_
  refine wpIn_rangeFunc_ownH (n := 4) rfl (by decide) (gf := 20) (lb := #[.pointer (some ⟨bs, 0, none⟩)]) rfl trivial (enters_of Try.func20 (by kernel_rfl) rfl)
    STP (fun h h2 => KpX.trans h h2) (fun W l o o' hl ho hoc _ => ⟨belowK_b (n₀ := w.heap.size) (w := W2) (by have := HLT.out; omega) W l o o' hl ho hoc (by assumption), World.putObj_heap_other (by have := HLT.out; omega)⟩) (Below.refl _ _) (fun _ => rfl)
    (fun _ W => ((Boxed W (w.heap.size + 1) 24 (.int .u64 (key : Int)) ∧ Boxed W (w.heap.size + 3) 4 (.bool false)) ∧ (W.heap[w.heap.size + 2]? = some (.cells #[.int .i64 0, .int .i64 0, .int .i64 0, .int .u64 0, .int .u32 0, .int .i64 0, .int .i64 0] 37 (0, 0)) ∧ Boxed W bs 28 (.slice (some ⟨gb, 0, none⟩) 1 1))) ∧ Below w.heap.size w W)
    (fun _ _ _ => False)
    (OwnFrom.and (OwnFrom.and (OwnFrom.and (Go.Own.from (boxed_own _ _ (fun _ => .int .u64 (key : Int))) _) (Go.Own.from (boxed_own _ _ (fun _ => .bool false)) _)) (OwnFrom.and (Go.Own.from (row_own _ _ (fun _ => #[.int .i64 0, .int .i64 0, .int .i64 0, .int .u64 0, .int .u32 0, .int .i64 0, .int .i64 0])) _) (Go.Own.from (boxed_own _ _ (fun _ => .slice (some ⟨gb, 0, none⟩) 1 1)) _))) (ownFrom_below (Nat.le_refl _) (by have := HLT.out; omega)))
    (fun _ _ _ _ _ hs _ _ => hs)
    ⟨⟨⟨HK2.out, HO2.out⟩, HP2.out, HBS.out⟩, B2.out⟩
    (fun x a' W => ∃ Bx, W.heap[Bx]? = some (.cells #[.int .i64 1, .int .i64 0, .int .i64 1, .int .i64 16, .slice a0 0 k0, .slice a1 0 k1, .slice a2 0 k2, .slice a3 0 k3, .slice a4 0 k4, .slice a5 0 k5, .slice a6 0 k6, .slice a7 0 k7, .int .i64 0, .int .i64 0] 46 (0, 0)) ∧ a' = { tmps := #[.agg #[.int .i64 0, .int .i64 9000, .bool false, .slice (some ⟨gb, 0, none⟩) 1 1], .int .u64 (key : Int), .pointer (some ⟨w.heap.size, 0, none⟩), .pointer (some ⟨w.heap.size + 1, 0, none⟩), .pointer (some ⟨w.heap.size + 1 + 1, 0, none⟩), .pointer (some ⟨w.heap.size + 1 + 1 + 1, 0, none⟩), undef, .pointer (some ⟨Bx, 0, none⟩), undef, .agg #[.int .i64 0, .int .i64 9000, .bool false, .slice (some ⟨gb, 0, none⟩) 1 1], .bool true, .bool false, undef, .pointer (some ⟨w.heap.size, 3, none⟩), .slice (some ⟨gb, 0, none⟩) 1 1, .func (.func 20) #[] #[.pointer (some ⟨bs, 0, none⟩)], .int .i64 (x.1 : Int), .agg #[.int .i64 1, .int .i64 0, .int .i64 1, .int .i64 16, .slice a0 0 k0, .slice a1 0 k1, .slice a2 0 k2, .slice a3 0 k3, .slice a4 0 k4, .slice a5 0 k5, .slice a6 0 k6, .slice a7 0 k7, .int .i64 0, .int .i64 0], undef, undef, undef, undef, undef, undef, undef, undef], defers := [] })
    (fun x a' _ X Y row hs hg hr => by obtain ⟨Bx, h2, h3⟩ := hs; exact ⟨Bx, row_own Bx 46 (fun (_ : Unit) => #[.int .i64 1, .int .i64 0, .int .i64 1, .int .i64 16, .slice a0 0 k0, .slice a1 0 k1, .slice a2 0 k2, .slice a3 0 k3, .slice a4 0 k4, .slice a5 0 k5, .slice a6 0 k6, .slice a7 0 k7, .int .i64 0, .int .i64 0]) () X Y row h2 hg (fun r e => (hr r e).2), h3⟩)
    ?assign ?body ?done ?stop
  case assign =>
    rintro l' pre x W K ⟨⟨⟨hk, ho⟩, hp, hT⟩, hB⟩ hK
    dsimp only [frC]
    gi_wp2
    have hbw := bel_al0 W (.cells #[.int .i64 1, .int .i64 0, .int .i64 1, .int .i64 16, .slice a0 0 k0, .slice a1 0 k1, .slice a2 0 k2, .slice a3 0 k3, .slice a4 0 k4, .slice a5 0 k5, .slice a6 0 k6, .slice a7 0 k7, .int .i64 0, .int .i64 0] 46)
    have hsz := hB.size
    exact hK _ _ ((KeepsOthers.alloc _ _).from _) ⟨hbw.mono (by omega), hbw.block _ hT.lt⟩ ⟨⟨⟨hk.alloc _, ho.alloc _⟩, (hbw.block _ (lt_of_some hp)).trans hp, hT.alloc _⟩, btA hB hbw⟩ ⟨W.heap.size, heap_alloc_new W _, rfl⟩
  case body =>
    rintro l' pre x a' W hl ⟨r, hr⟩ ⟨⟨⟨hk, ho⟩, hp, hT⟩, hB⟩ ⟨Bx, hX, rfl⟩ hlt
    have ck := hk.cell
    have hms := ms_below MSW.out hB
    have PLK := Lib.hid (plook_1 (.slice a0 0 k0) (.slice a1 0 k1) (.slice a2 0 k2) (.slice a3 0 k3) (.slice a4 0 k4) (.slice a5 0 k5) (.slice a6 0 k6) (.slice a7 0 k7) key W hms)
    obtain ⟨x0, x1, x2, x3, x4, x5, x6, x7, x8, x9, x10, x11, x12, x13⟩ := bx14 hX
    have HH := Lib.hid (And.intro (And.intro hk ho) (And.intro hp hT))
    have HBB := Lib.hid hB
    clear hms hk ho hp hT hB hX
    gi_wp2_with (refine ⟨trivial, ?_⟩; gi_at_call 13; refine (CallsIn.inRound l' (callsIn_wide.2 PLK.out)).mono ?_; rintro e W3 ⟨rfl, hb3⟩)
    have hb4 := btA hb3 (bel_al0 W3 (.cells #[.int .i64 0, .int .i64 0, .int .i64 0, .int .u64 0, .int .u32 0, .int .i64 0, .int .i64 0, .bool false] 55))
    obtain ⟨⟨hk, ho⟩, hp, hT⟩ := HH.out
    exact ⟨(keeps_below hb4).from _, ⟨hb4.mono HBB.out.size, hb4.block _ hT.lt⟩, ⟨⟨⟨(hb4.block _ hk.lt).trans hk, (hb4.block _ ho.lt).trans ho⟩, (hb4.block _ (lt_of_some hp)).trans hp, (hb4.block _ hT.lt).trans hT⟩, btA HBB.out hb4⟩⟩
  case done =>
    rintro D ys W hD rfl ⟨⟨⟨hk, ho⟩, hp, hT⟩, hB⟩ hK
    have HH := Lib.hid (And.intro hp ho)
    have HBB := Lib.hid hB
    have HDD := Lib.hid hD
    have ho2 : Boxed (W.setRow (w.heap.size + 2) #[.int .i64 0, .int .i64 0, .int .i64 0, .int .u64 0, .int .u32 0, .int .i64 0, .int .i64 0]) (w.heap.size + 3) 4 (.bool false) := (setRow_other _ _ _ _ (by omega)).trans ho
    have fO := ho2.frozen
    have cO := ho2.cell
    clear hk ho hp hT hB hD STP
    go_wp2_with ((with_reducible refine storeP (w.heap.size + 2) _ #[.int .i64 0, .int .i64 0, .int .i64 0, .int .u64 0, .int .u32 0, .int .i64 0, .int .i64 0] ?_ ?_ HH.out.1 rfl rfl zp_one ?_); exact rfl; exact rfl)
    have hd2 := HDD.out
    have hl := HLT.out
    have h3 := (setRow_heap W (w.heap.size + 2) _ #[.int .i64 0, .int .i64 0, .int .i64 0, .int .u64 0, .int .u32 0, .int .i64 0, .int .i64 0] 37 (0, 0) HH.out.1)
    have e3 : (W.setRow (w.heap.size + 2) #[.int .i64 0, .int .i64 0, .int .i64 0, .int .u64 0, .int .u32 0, .int .i64 0, .int .i64 0]).heap.size = W.heap.size := setRow_size _ _ _
    have hK2 : ((W.setRow (w.heap.size + 2) #[.int .i64 0, .int .i64 0, .int .i64 0, .int .u64 0, .int .u32 0, .int .i64 0, .int .i64 0]).setCell ⟨w.heap.size + 3, 0, none⟩ (.bool false)).heap[D]? = some (.deferred (some [])) := (other1 (by omega)).trans ((setRow_other _ _ _ _ (by omega)).trans hK)
    refine ⟨by simp, .inl ⟨_, _, rfl, run_takeDeferred hK2, ?_⟩⟩
    have hx : (((W.setRow (w.heap.size + 2) #[.int .i64 0, .int .i64 0, .int .i64 0, .int .u64 0, .int .u32 0, .int .i64 0, .int .i64 0]).setCell ⟨w.heap.size + 3, 0, none⟩ (.bool false)).putObj D (.deferred none)).heap[w.heap.size + 3]? = some (.cells #[.bool false] 4 (0, 0)) := (World.putObj_heap_other (by omega)).trans (ho2.set (.bool false))
    have hy : (((W.setRow (w.heap.size + 2) #[.int .i64 0, .int .i64 0, .int .i64 0, .int .u64 0, .int .u32 0, .int .i64 0, .int .i64 0]).setCell ⟨w.heap.size + 3, 0, none⟩ (.bool false)).putObj D (.deferred none)).heap[w.heap.size + 2]? = some (.cells #[.int .i64 0, .int .i64 0, .int .i64 0, .int .u64 0, .int .u32 0, .int .i64 0, .int .i64 0] 37 (0, 0)) := (World.putObj_heap_other (by omega)).trans ((other1 (by omega)).trans h3)
    have hb1 := (below_setRowM HBB.out (show w.heap.size ≤ w.heap.size + 2 by omega) #[.int .i64 0, .int .i64 0, .int .i64 0, .int .u64 0, .int .u32 0, .int .i64 0, .int .i64 0]).setCell (p := ⟨w.heap.size + 3, 0, none⟩) (show w.heap.size ≤ w.heap.size + 3 by omega) (.bool false)
    exact ⟨_, results_cc (S := 37) (T := 4) rfl rfl rfl (agg_bool _) (cell_of_row _ _ 0 _ _ _ hx) hy Try.underlying37 rfl infoP7, rfl, hb1.trans (belowK_b (w := w) (Nat.le_refl _) _ D _ _ (by omega) hK2 rfl rfl)⟩
  case stop =>
    rintro D c pre W _ _ h _
    exact h.elim
end Go.Proofs.Ytempgcnpfjhacaa.Gf
