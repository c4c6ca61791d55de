/- What is proved here: further contracts that layer 12 shares with layer 13: Add as far as it is weak, lists of rows, turn, small. -/
import Derived.Test.YtbmlpafbdbhaiaaGreatDoorGt1
namespace Go.Proofs.YtbmlpafbdbhaiaaGreatDoor.Gf
open Go Go.Joins Go.ChangeShapes Go.WideShapes Go.ChangeAt Go.RowKit Go.Deep Go.Proofs.YtbmlpafbdbhaiaaGreatDoor.By Go.Proofs.YtbmlpafbdbhaiaaGreatDoor.Qt
set_option maxRecDepth 100000
set_option maxHeartbeats 204800000
theorem infoN4 : (Tryz.prog.info? 67).map (·.size) = some 4 := by kernel_rfl
theorem storeN {ops : Array Oper} {rest : List Oper} {x y : Operand} {pos : String} {after : Array Edge} {ty : TypeId} {a : Act} {w : World} {Q : Exit → Act → World → Prop}
 (g : Nat) (old cs : Array Value) (hx : a.eval x = .pointer (some ⟨g, 0, none⟩)) (hy : a.eval y = .agg cs) (hg : w.heap[g]? = some (.cells old 67 (0, 0))) (ho : old.size = 4) (hs : cs.size = 4) (h1 : cs.all (·.oneCell') = true)
 (h : wpList Tryz.prog ops Q rest a (w.setRow g cs)) : wpList Tryz.prog ops Q (⟨none, .store 67 x y, ty, pos, after, none⟩ :: rest) a w :=
 wpList_store_row rfl 67 x y rfl g cs hx hy 67 old hg (by rw [infoN4, hs]) (by omega) h1 h
theorem storeRM {ops : Array Oper} {rest : List Oper} {x y : Operand} {pos : String} {after : Array Edge} {ty : TypeId} {a : Act} {w w2 : World} {Q : Exit → Act → World → Prop} {T : TypeId}
 (g : Nat) (old cs : Array Value) (hx : a.eval x = .pointer (some ⟨g, 4, none⟩)) (hy : a.eval y = .agg cs) (hg : w.heap[g]? = some (.cells old T (0, 0))) (ho : old.size = 14) (hs : cs.size = 10) (h1 : cs.all (·.oneCell') = true)
 (hw : w.setCells g 4 cs.toList = w2) (h : wpList Tryz.prog ops Q rest a w2) : wpList Tryz.prog ops Q (⟨none, .store 41 x y, ty, pos, after, none⟩ :: rest) a w :=
 wpList_store_mid rfl 41 x y rfl g 4 cs hx hy (there_row hg (by omega)) (by rw [infoR10, hs]) h1 (by rw [hw]; exact h)
theorem nv_one (key ck : Nat) (del : Bool) (da : Option Addr) (dn dc : Nat) : (#[.int .u64 (key : Int), .int .u32 (ck : Int), .bool del, .slice da dn dc] : Array Value).all (·.oneCell') = true := by simp [show (Value.int .u64 (key : Int)).oneCell' = true from rfl, show (Value.int .u32 (ck : Int)).oneCell' = true from rfl, show (Value.bool del).oneCell' = true from rfl, show (Value.slice da dn dc).oneCell' = true from rfl]
theorem msG_u64 {w : World} {v0 v1 v2 v3 v4 v5 v6 v7 : Value} {m : Mp} (h : Ms w [v0, v1, v2, v3, v4, v5, v6, v7] m) (a b c d e f : Int) : ∀ (k : Nat) (n : Int), (#[.int .i64 a, .int .i64 b, .int .i64 c, .int .i64 d, v0, v1, v2, v3, v4, v5, v6, v7, .int .i64 e, .int .i64 f] : Array Value)[k]? ≠ some (.int .u64 n) := by
 obtain ⟨a0, k0, hs0, -⟩ := h.2.2.2 0 (by decide)
 obtain rfl := Option.some.inj hs0
 obtain ⟨a1, k1, hs1, -⟩ := h.2.2.2 1 (by decide)
 obtain rfl := Option.some.inj hs1
 obtain ⟨a2, k2, hs2, -⟩ := h.2.2.2 2 (by decide)
 obtain rfl := Option.some.inj hs2
 obtain ⟨a3, k3, hs3, -⟩ := h.2.2.2 3 (by decide)
 obtain rfl := Option.some.inj hs3
 obtain ⟨a4, k4, hs4, -⟩ := h.2.2.2 4 (by decide)
 obtain rfl := Option.some.inj hs4
 obtain ⟨a5, k5, hs5, -⟩ := h.2.2.2 5 (by decide)
 obtain rfl := Option.some.inj hs5
 obtain ⟨a6, k6, hs6, -⟩ := h.2.2.2 6 (by decide)
 obtain rfl := Option.some.inj hs6
 obtain ⟨a7, k7, hs7, -⟩ := h.2.2.2 7 (by decide)
 obtain rfl := Option.some.inj hs7
 intro k n h
 match k, h with
 | 0, h => simp at h
 | 1, h => simp at h
 | 2, h => simp at h
 | 3, h => simp at h
 | 4, h => simp at h
 | 5, h => simp at h
 | 6, h => simp at h
 | 7, h => simp at h
 | 8, h => simp at h
 | 9, h => simp at h
 | 10, h => simp at h
 | 11, h => simp at h
 | 12, h => simp at h
 | 13, h => simp at h
 | k + 14, h => simp at h
theorem mv_len {w : World} {v : Value} {m : Mp} (h : Mv w v m) : m.st.length = 8 := by
 obtain ⟨_, _, _, _, _, _, _, _, _, h⟩ := h
 exact h.1
theorem szI6_j (n : Int) : J64 (szI6 n) := by unfold J64 szI6; split <;> omega
theorem rnvalid_some (key ck : Nat) (del : Bool) (da : Option Addr) (dn dc : Nat) (w : World) : Calls Tryz.prog 65 #[.agg #[.int .u64 (key : Int), .int .u32 (ck : Int), .bool del, .slice da dn dc]] w fun e w' => e = .returned (.bool (decide (dn ≤ 4096) && !(del && decide (0 < dn)))) ∧ Below w.heap.size w w' := by
 have HB := Lh ((Below.refl w.heap.size w).alloc (Nat.le_refl _) (.cells #[.int .u64 (key : Int), .int .u32 (ck : Int), .bool del, .slice da dn dc] 67))
 obtain ⟨d1, hd1⟩ : ∃ b, decide ((dn : Int) ≤ 4096) = b := ⟨_, rfl⟩
 have e1 : decide (dn ≤ 4096) = d1 := by rw [← hd1]; exact decide_eq_decide.2 (by omega)
 rw [e1]
 clear e1
 cases d1 <;> cases del
 all_goals
  go_enter Tryz.func65, Tryz.ntmps65
  go_wp2
  go_ret
  exact ⟨by first | rfl | simp, HB.out⟩
end Go.Proofs.YtbmlpafbdbhaiaaGreatDoor.Gf
namespace Go.Proofs.YtbmlpafbdbhaiaaGreatDoor.Gf
open Go Go.Joins Go.ChangeShapes Go.WideShapes Go.ChangeAt Go.RowKit Go.Deep Go.Proofs.YtbmlpafbdbhaiaaGreatDoor.By Go.Proofs.YtbmlpafbdbhaiaaGreatDoor.Qt
/-- Rows of z cells. -/
def Rows (z : Nat) (V : List (List Value)) : Prop := ∀ p ∈ V, p.length = z ∧ ∀ u ∈ p, u.oneCell' = true
theorem rows_len {z : Nat} : ∀ {V : List (List Value)}, Rows z V → V.flatten.length = V.length * z
 | [], _ => by simp
 | p :: V, h => by
  rw [List.flatten_cons, List.length_append, rows_len (V := V) (fun q hq => h q (List.mem_cons_of_mem _ hq)), (h p List.mem_cons_self).1, List.length_cons, Nat.add_mul, Nat.one_mul, Nat.add_comm]
theorem rows_one {z : Nat} {V : List (List Value)} (h : Rows z V) : ∀ u ∈ V.flatten, u.oneCell' = true := fun u hu => by
 obtain ⟨p, hp, hup⟩ := List.mem_flatten.1 hu
 exact (h p hp).2 u hup
theorem rows_at {z : Nat} : ∀ {V : List (List Value)}, Rows z V → ∀ (k u : Nat), k < V.length → u < z → V.flatten[k * z + u]? = (V.getD k [])[u]?
 | [], _, k, u, hk, _ => absurd hk (Nat.not_lt_zero k)
 | p :: V, h, k, u, hk, hu => by
  have hp := (h p List.mem_cons_self).1
  cases k with
  | zero =>
   rw [Nat.zero_mul, Nat.zero_add, List.flatten_cons, List.getElem?_append_left (by omega)]
   rfl
  | succ k =>
   have e : (k + 1) * z + u = p.length + (k * z + u) := by rw [hp, Nat.add_mul, Nat.one_mul]; omega
   rw [e, List.flatten_cons, List.getElem?_append_right (by omega), Nat.add_sub_cancel_left, rows_at (V := V) (fun q hq => h q (List.mem_cons_of_mem _ hq)) k u (by simpa using hk) hu]
   rfl
theorem rows_append {z : Nat} {V W : List (List Value)} (h : Rows z V) (k : Rows z W) : Rows z (V ++ W) := fun p hp => by
 rcases List.mem_append.1 hp with q | q
 ·exact h p q
 ·exact k p q
/-- Rows that lie in memory. -/
def SrcV (z : Nat) (w : World) (b off : Nat) (V : List (List Value)) : Prop := ∀ k u, k < V.length → u < z → w.cell? ⟨b, off + (k * z + u), none⟩ = (V.getD k [])[u]?
theorem src_flat {z : Nat} {w : World} {b off : Nat} {V : List (List Value)} (hz : 0 < z) (hr : Rows z V) (h : SrcV z w b off V) : ∀ j u, V.flatten[j]? = some u → w.cell? ((⟨b, off, none⟩ : Addr).add j) = some u := fun j u hu => by
 have hj : j < V.length * z := by rw [← rows_len hr]; exact (List.getElem?_eq_some_iff.1 hu).1
 have hk : j / z < V.length := Nat.div_lt_of_lt_mul (by rw [Nat.mul_comm]; exact hj)
 have e : j / z * z + j % z = j := by rw [Nat.mul_comm]; exact Nat.div_add_mod j z
 have h1 := h (j / z) (j % z) hk (Nat.mod_lt _ hz)
 rw [e] at h1
 rw [show (⟨b, off, none⟩ : Addr).add j = ⟨b, off + j, none⟩ by unfold Addr.add; split <;> simp_all, h1, ← rows_at hr _ _ hk (Nat.mod_lt _ hz), e]
 exact hu
/-- A list of rows of the call's own. -/
def OwV (T : TypeId) (z : Nat) (w : World) (base : Nat) (v : Value) (V : List (List Value)) : Prop := Rows z V ∧ w.ownsRow base T z v V.length V.flatten
theorem ov_nil (T : TypeId) (z : Nat) (w : World) (base : Nat) : OwV T z w base (.slice none 0 0) [] := ⟨fun p hp => absurd hp (by simp), World.ownsRow_nil _ _ _ _⟩
theorem ov_lt {T : TypeId} {z : Nat} {w : World} {base : Nat} {v : Value} {V : List (List Value)} (h : OwV T z w base v V) : ∀ k, v.ownBlock = some k → base ≤ k ∧ k < w.heap.size := h.2.lt
theorem ov_move {T : TypeId} {z : Nat} {w w' : World} {base : Nat} {v : Value} {V : List (List Value)} (h : OwV T z w base v V) (hw : ∀ b, v.ownBlock = some b → b < w.heap.size → w'.heap[b]? = w.heap[b]?) : OwV T z w' base v V := by
 have hlt := h.2.lt
 obtain ⟨h0, e1, e2 | ⟨g, cap, cur, rfl, hg, hb, h3⟩⟩ := h
 ·exact ⟨h0, e1, Or.inl e2⟩
 ·exact ⟨h0, e1, Or.inr ⟨g, cap, cur, rfl, hg, (hw g rfl (hlt g rfl).2).trans hb, h3⟩⟩
theorem ov_below {T : TypeId} {z : Nat} {w w' : World} {base : Nat} {v : Value} {V : List (List Value)} (h : OwV T z w base v V) (hB : Below w.heap.size w w') : OwV T z w' base v V := ov_move h fun b _ hl => hB.block b hl
theorem ov_form {T : TypeId} {z : Nat} {w : World} {base : Nat} {v : Value} {V : List (List Value)} (h : OwV T z w base v V) : ∃ a cap, v = .slice a V.length cap ∧ V.length ≤ cap ∧ cap ≤ maxLen := by
 obtain ⟨h0, e1, ⟨rfl, e2⟩ | ⟨g, cap, cur, rfl, hg, hb, h3, h4, -⟩⟩ := h
 ·exact ⟨none, 0, by rw [e2], by omega, by decide⟩
 ·exact ⟨_, cap, rfl, h3, h4⟩
theorem ov_src {T : TypeId} {z : Nat} {w : World} {base : Nat} {v : Value} {V : List (List Value)} (h : OwV T z w base v V) (hp : 0 < V.length) : ∃ b cap, v = .slice (some ⟨b, 0, none⟩) V.length cap ∧ base ≤ b ∧ SrcV z w b 0 V := by
 obtain ⟨h0, e1, ⟨rfl, e2⟩ | ⟨g, cap, cur, rfl, hg, hb, h3, h4, h5, h6⟩⟩ := h
 ·omega
 ·refine ⟨g, cap, rfl, hg, fun k u hk hu => ?_⟩
  rw [Nat.zero_add, cell_of_row w g _ cur _ (0, 0) hb, ← rows_at h0 k u hk hu, ← h6]
  have hlt : k * z + u < V.length * z := by
   have h1 : (k + 1) * z ≤ V.length * z := Nat.mul_le_mul_right z hk
   rw [Nat.add_mul, Nat.one_mul] at h1
   omega
  rw [List.getElem?_take, if_pos hlt]
  simp
/-- The types of a list. -/
structure LsV (P : Program) (S T : TypeId) (z : Nat) : Prop where
 und : P.underlying S = some (.slice T)
 info : ∃ i x, P.info? T = some i ∧ i.zero = some x ∧ i.size = z ∧ i.bytes ≤ 1000 ∧ x.cells.size = z
 pos : 0 < z
/-- append of rows that lie in memory, onto a list of the call's own. -/
theorem run_app_v {P : Program} {S T : TypeId} {z : Nat} (ty : LsV P S T z) {W : World} {base b off c : Nat} {v : Value} {V M : List (List Value)} (r : TypeId) (hv : OwV T z W base v V) (hm : Rows z M) (hs : SrcV z W b off M) (hlm : V.length + M.length ≤ 100000000) (hb : base ≤ W.heap.size) :
 ∃ v' w', (Builtin.append_ #[S, S] r #[v, .slice (some ⟨b, off, none⟩) M.length c]).run P W = .ok v' w' ∧ OwV T z w' base v' (V ++ M) ∧ W.grownBy w' v.ownBlock ∧ (v'.ownBlock = v.ownBlock ∨ v'.ownBlock = some W.heap.size) := by
 obtain ⟨i, x, hi, hz0, hz1, hz2, hz3⟩ := ty.info
 obtain ⟨hr, hown⟩ := hv
 obtain ⟨v', w', hrun, ho, hgr, _, hat⟩ := run_append_own_at (P := P) W base S r T i x z i.bytes ty.und hi hz0 hz1 rfl hz3 ty.pos _ _ _ hown ⟨b, off, none⟩ M.length c M.flatten (rows_len hm) (src_flat ty.pos hm hs) (rows_one hm) (by unfold maxLen; omega) (by
  have := Nat.mul_le_mul (show V.length + M.length ≤ 100000000 by omega) hz2
  omega) hb
 exact ⟨v', w', hrun, ⟨rows_append hr hm, by rw [List.length_append, List.flatten_append]; exact ho⟩, hgr, hat⟩
theorem wp_app_v {P : Program} {S T : TypeId} {z : Nat} (ty : LsV P S T z) {dst : Option Tmp} {s x : Operand} {pos : String} {after : Array Edge} {r : TypeId} {gd : Option (Nat × Bool)} {a : Act} {W : World} {K : Act → World → Prop} {Q : Exit → Act → World → Prop}
 {base b off c n : Nat} {v : Value} {V M : List (List Value)} (hs : a.eval s = v) (hx : a.eval x = .slice (some ⟨b, off, none⟩) n c) (hn : n = M.length) (hv : OwV T z W base v V) (hm : Rows z M) (hsrc : SrcV z W b off M) (hlm : V.length + M.length ≤ 100000000) (hb : base ≤ W.heap.size)
 (h : ∀ v' w', OwV T z w' base v' (V ++ M) → W.grownBy w' v.ownBlock → (v'.ownBlock = v.ownBlock ∨ v'.ownBlock = some W.heap.size) → K (a.put dst v') w') : Oper.wp P ⟨dst, .call { callee := .builtin .append, args := #[s, x], argTypes := #[S, S] }, r, pos, after, gd⟩ a W K Q := by
 subst hn
 obtain ⟨v', w', hr, h2, h3, h4⟩ := run_app_v (c := c) ty r hv hm hsrc hlm hb
 unfold Oper.wp execOp
 simp only [resolve, invoke, builtin, Sem.run_bind, Sem.run_pure, Result.andThen_ok, List.map_toArray, List.map_cons, List.map_nil, hs, hx, hr]
 exact h v' w' h2 h3 h4
theorem app_v {P : Program} {S T : TypeId} {z : Nat} (ty : LsV P S T z) {ops : Array Oper} {rest : List Oper} {dst : Option Tmp} {s x : Operand} {pos : String} {after : Array Edge} {r : TypeId} {a : Act} {W : World} {Q : Exit → Act → World → Prop}
 {base b off c n : Nat} {v : Value} {V M : List (List Value)} (hs : a.eval s = v) (hx : a.eval x = .slice (some ⟨b, off, none⟩) n c) (hn : n = M.length) (hv : OwV T z W base v V) (hm : Rows z M) (hsrc : SrcV z W b off M) (hlm : V.length + M.length ≤ 100000000) (hb : base ≤ W.heap.size)
 (h : ∀ v' w', OwV T z w' base v' (V ++ M) → W.grownBy w' v.ownBlock → (v'.ownBlock = v.ownBlock ∨ v'.ownBlock = some W.heap.size) → wpList P ops Q rest (a.put dst v') w') : wpList P ops Q (⟨dst, .call { callee := .builtin .append, args := #[s, x], argTypes := #[S, S] }, r, pos, after, none⟩ :: rest) a W := by
 refine wpList_plain rfl fun _ hK => ?_
 exact wp_app_v ty hs hx hn hv hm hsrc hlm hb fun v' w' h1 h2 h3 => hK _ _ (h v' w' h1 h2 h3)
theorem lsN : LsV Tryz.prog 44 67 4 := by
 have h1 : (Tryz.prog.info? 67).map (fun i => (i.zero.map (·.cells.size), i.size, decide (i.bytes ≤ 1000))) = some (some 4, 4, true) := by kernel_rfl
 cases hp : Tryz.prog.info? 67 with
 | none => rw [hp] at h1; cases h1
 | some i =>
  rw [hp] at h1
  simp at h1
  obtain ⟨⟨x, hx, hxs⟩, h2, h3⟩ := h1
  exact ⟨Tryz.underlying44, ⟨i, x, hp, hx, h2, h3, hxs⟩, by decide⟩
end Go.Proofs.YtbmlpafbdbhaiaaGreatDoor.Gf
namespace Go.Proofs.YtbmlpafbdbhaiaaGreatDoor.Gf
open Go Go.Joins Go.ChangeShapes Go.WideShapes Go.ChangeAt Go.RowKit Go.Deep Go.Proofs.YtbmlpafbdbhaiaaGreatDoor.By Go.Proofs.YtbmlpafbdbhaiaaGreatDoor.Qt
set_option maxRecDepth 100000
set_option maxHeartbeats 204800000
theorem src_below {z : Nat} {w w' : World} {b off : Nat} {V : List (List Value)} (hr : Rows z V) (h : SrcV z w b off V) (hB : Below w.heap.size w w') : SrcV z w' b off V := fun k u hk hu => by
 have h1 := h k u hk hu
 have hp : (V.getD k []).length = z := by
  rw [List.getD_eq_getElem?_getD, List.getElem?_eq_getElem hk]
  exact (hr _ (List.getElem_mem hk)).1
 rw [List.getElem?_eq_getElem (by omega)] at h1 ⊢
 exact (hB.cell (p := ⟨b, off + (k * z + u), none⟩) (block_lt_of_cell h1)).trans h1
end Go.Proofs.YtbmlpafbdbhaiaaGreatDoor.Gf
namespace Go.Proofs.YtbmlpafbdbhaiaaGreatDoor.Gf
open Go Go.Joins Go.ChangeShapes Go.WideShapes Go.ChangeAt Go.RowKit Go.Deep Go.Proofs.YtbmlpafbdbhaiaaGreatDoor.By Go.Proofs.YtbmlpafbdbhaiaaGreatDoor.Qt
set_option maxRecDepth 100000
set_option maxHeartbeats 204800000
theorem rgsame_eq (v1 v2 : Value) (g : Ge) (w : World) (h1 : Gv w v1 g) (h2 : Gv w v2 g) : Calls Tryz.prog 24 #[v1, v2] w fun e w' => e = .returned (.bool true) ∧ Below w.heap.size w w' := by
 obtain ⟨s0, s1, s2, s3, s4, s5, s6, s7, rfl, hm1, -⟩ := h1
 obtain ⟨t0, t1, t2, t3, t4, t5, t6, t7, rfl, hm2, -⟩ := h2
 have q0 := al2 w (.cells #[.int .i64 g.num, .int .i64 g.rev, .int .i64 g.mode, .int .i64 g.size, s0, s1, s2, s3, s4, s5, s6, s7, .int .i64 g.m.live, .int .i64 g.m.garb] 43) (.cells #[.int .i64 g.num, .int .i64 g.rev, .int .i64 g.mode, .int .i64 g.size, t0, t1, t2, t3, t4, t5, t6, t7, .int .i64 g.m.live, .int .i64 g.m.garb] 43)
 have HS := Lh q0.1
 have HT := Lh q0.2.1
 have B0 := Lh q0.2.2
 have M1 := Lh (ms_below hm1 q0.2.2)
 have M2 := Lh (ms_below hm2 q0.2.2)
 clear q0 hm1 hm2
 go_enter Tryz.func24, Tryz.ntmps24
 go_upto_region 1 with fail
 generalize (w.alloc (.cells #[.int .i64 g.num, .int .i64 g.rev, .int .i64 g.mode, .int .i64 g.size, s0, s1, s2, s3, s4, s5, s6, s7, .int .i64 g.m.live, .int .i64 g.m.garb] 43)).alloc (.cells #[.int .i64 g.num, .int .i64 g.rev, .int .i64 g.mode, .int .i64 g.size, t0, t1, t2, t3, t4, t5, t6, t7, .int .i64 g.m.live, .int .i64 g.m.garb] 43) = W0 at *
 obtain ⟨x0, x1, x2, x3, x4, x5, x6, x7, x8, x9, x10, x11, x12, x13⟩ := bx14 HS.out
 obtain ⟨z0, z1, z2, z3, z4, z5, z6, z7, z8, z9, z10, z11, z12, z13⟩ := bx14 HT.out
 go_wp2_with fail
 clear x0 x1 x2 x3 x4 x5 x6 x7 x8 x9 x10 x11 x12 x13
 clear z0 z1 z2 z3 z4 z5 z6 z7 z8 z9 z10 z11 z12 z13
 refine (rsame11_any _ _ g.m g.m W0 ⟨s0, s1, s2, s3, s4, s5, s6, s7, rfl, M1.out⟩ ⟨t0, t1, t2, t3, t4, t5, t6, t7, rfl, M2.out⟩).mono ?_
 rintro e V1 ⟨rfl, hb⟩
 rw [sameM_self]
 have BB := Lh (B0.out.trans (hb.mono B0.out.size))
 clear hb
 go_wp2_with fail
 go_ret
 exact ⟨rfl, BB.out⟩
end Go.Proofs.YtbmlpafbdbhaiaaGreatDoor.Gf
namespace Go.Proofs.YtbmlpafbdbhaiaaGreatDoor.Gf
open Go Go.Joins Go.ChangeShapes Go.WideShapes Go.ChangeAt Go.RowKit Go.Deep Go.Proofs.YtbmlpafbdbhaiaaGreatDoor.By Go.Proofs.YtbmlpafbdbhaiaaGreatDoor.Qt
set_option maxRecDepth 100000
set_option maxHeartbeats 204800000
theorem and_low64 (r : Nat) (hr : r < 18446744073709551616) (k : Nat) (hk : k ≤ 32) : bits .and .u64 (r : Int) ((2 : Int) ^ k - 1) = ((r % 2 ^ k : Nat) : Int) := by
 have hp : (2 : Nat) ^ k ≤ 2 ^ 32 := Nat.pow_le_pow_right (by decide) hk
 have hp1 : 1 ≤ (2 : Nat) ^ k := Nat.one_le_two_pow
 have e0 : ((2 : Int) ^ k - 1) = ((2 ^ k - 1 : Nat) : Int) := by rw [Int.natCast_sub hp1]; simp
 have e1 : (BitVec.ofInt 64 (r : Int)).toNat = r := by rw [BitVec.toNat_ofInt]; omega
 have e2 : (BitVec.ofInt 64 ((2 : Int) ^ k - 1)).toNat = 2 ^ k - 1 := by
  rw [e0, BitVec.toNat_ofInt]
  omega
 have e3 : (BitVec.ofInt 64 (r : Int) &&& BitVec.ofInt 64 ((2 : Int) ^ k - 1)).toNat = r % 2 ^ k := by rw [BitVec.toNat_and, e1, e2]; exact Nat.and_two_pow_sub_one_eq_mod _ k
 show IntKind.u64.wrap ((BitVec.ofInt 64 (r : Int) &&& BitVec.ofInt 64 ((2 : Int) ^ k - 1)).toNat : Int) = _
 rw [e3]
 have hb : r % 2 ^ k ≤ r := Nat.mod_le _ _
 generalize r % 2 ^ k = z at *
 show (z : Int) % 18446744073709551616 = _
 omega
theorem w64s9 (i : Nat) (h : i < 9223372036854775807) : wrap64 ((i : Int) + 1) = (i : Int) + 1 := by unfold wrap64; omega
theorem meas9 (n i : Nat) (h : i < n) (hn : n ≤ 9223372036854775807) : n - (intOf (.int .i64 (wrap64 ((i : Int) + 1)))).toNat < n - (intOf (.int .i64 (i : Int))).toNat := by
 rw [w64s9 i (by omega)]
 simp [intOf]
 omega
end Go.Proofs.YtbmlpafbdbhaiaaGreatDoor.Gf
namespace Go.Proofs.YtbmlpafbdbhaiaaGreatDoor.Gf
open Go Go.Joins Go.ChangeShapes Go.WideShapes Go.ChangeAt Go.RowKit Go.Deep Go.Proofs.YtbmlpafbdbhaiaaGreatDoor.By Go.Proofs.YtbmlpafbdbhaiaaGreatDoor.Qt
set_option maxRecDepth 100000
set_option maxHeartbeats 204800000
/-- Four cells are a needle whose data are a slice. -/
def NCr (w : World) (b o : Nat) : Prop := ∃ (key ck : Nat) (del : Bool) (a : Option Addr) (n c : Nat), key < 18446744073709551616 ∧ ck < 4294967296 ∧ n ≤ c ∧ c ≤ maxLen ∧ w.cell? ⟨b, o, none⟩ = some (.int .u64 (key : Int)) ∧ w.cell? ⟨b, o + 1, none⟩ = some (.int .u32 (ck : Int)) ∧ w.cell? ⟨b, o + 2, none⟩ = some (.bool del) ∧ w.cell? ⟨b, o + 3, none⟩ = some (.slice a n c)
/-- A list of needles as it comes in. -/
def Nr (w : World) (v : Value) (n : Nat) : Prop := ∃ a c, v = .slice a n c ∧ n ≤ c ∧ c ≤ maxLen ∧ (0 < n → ∃ b off, a = some ⟨b, off, none⟩ ∧ ∀ i, i < n → NCr w b (off + i * 4))
end Go.Proofs.YtbmlpafbdbhaiaaGreatDoor.Gf
namespace Go.Proofs.YtbmlpafbdbhaiaaGreatDoor.Gf
open Go Go.Joins Go.ChangeShapes Go.WideShapes Go.ChangeAt Go.RowKit Go.Deep Go.Proofs.YtbmlpafbdbhaiaaGreatDoor.By Go.Proofs.YtbmlpafbdbhaiaaGreatDoor.Qt
set_option maxRecDepth 100000
set_option maxHeartbeats 204800000
/-- What stays while a list grows: the older blocks, and two boxes. -/
structure KeepG2 (w : World) (g1 : Nat) (o1 : Obj) (g2 : Nat) (o2 : Obj) (W : World) : Prop where
 be : Below w.heap.size w W
 a1 : W.heap[g1]? = some o1
 a2 : W.heap[g2]? = some o2
theorem KeepG2.below {w W W' : World} {g1 g2 : Nat} {o1 o2 : Obj} (h : KeepG2 w g1 o1 g2 o2 W) (hb : Below W.heap.size W W') : KeepG2 w g1 o1 g2 o2 W' :=
 ⟨h.be.trans (hb.mono h.be.size), (hb.block _ (lt_of_some h.a1)).trans h.a1, (hb.block _ (lt_of_some h.a2)).trans h.a2⟩
theorem KeepG2.grown {w W W' : World} {g1 g2 : Nat} {o1 o2 : Obj} {row : Option Nat} (h : KeepG2 w g1 o1 g2 o2 W) (hg : W.grownBy W' row) (hr : ∀ j, row = some j → w.heap.size ≤ j) (n1 : ¬ some g1 = row) (n2 : ¬ some g2 = row) : KeepG2 w g1 o1 g2 o2 W' :=
 ⟨h.be.grown hg h.be.size hr, (hg.block _ (lt_of_some h.a1) n1).trans h.a1, (hg.block _ (lt_of_some h.a2) n2).trans h.a2⟩
theorem KeepG2.row {w W : World} {g1 g2 p : Nat} {o1 o2 : Obj} (h : KeepG2 w g1 o1 g2 o2 W) (hp : w.heap.size ≤ p) (n1 : g1 ≠ p) (n2 : g2 ≠ p) (cs : Array Value) : KeepG2 w g1 o1 g2 o2 (W.setRow p cs) :=
 ⟨below_setRowM h.be hp cs, (setRow_other W p g1 cs n1).trans h.a1, (setRow_other W p g2 cs n2).trans h.a2⟩
theorem src_grown {z : Nat} {w w' : World} {b off : Nat} {V : List (List Value)} {row : Option Nat} (h : SrcV z w b off V) (hr : Rows z V) (hg : w.grownBy w' row) (hn : ¬ some b = row) : SrcV z w' b off V := fun k u hk hu => by
 have h1 := h k u hk hu
 have hp : (V.getD k []).length = z := by
  rw [List.getD_eq_getElem?_getD, List.getElem?_eq_getElem hk]
  exact (hr _ (List.getElem_mem hk)).1
 rw [List.getElem?_eq_getElem (by omega)] at h1 ⊢
 have hb := hg.block b (block_lt_of_cell h1) hn
 unfold World.cell? at h1 ⊢
 simp only at h1 ⊢
 rw [hb]
 exact h1
/-- What the region of Rotate keeps until its store. -/
structure R8 (w wx : World) (BQ : Nat) (so zo : Obj) (b off : Nat) (VT : List (List Value)) (fz : Nat) (fo : Obj) (fr : Nat) (ro : Obj) (X : World) : Prop where
 s : X.heap[w.heap.size]? = some so
 z : X.heap[w.heap.size + 1]? = some zo
 sr : SrcV 14 X b off VT
 sz : BQ ≤ X.heap.size
 k : KeepG2 w fz fo fr ro X
 bx : Below wx.heap.size wx X
theorem R8.below {w wx X X' : World} {BQ b off fz fr : Nat} {so zo fo ro : Obj} {VT : List (List Value)} (h : R8 w wx BQ so zo b off VT fz fo fr ro X) (hr : Rows 14 VT) (hb : Below X.heap.size X X') : R8 w wx BQ so zo b off VT fz fo fr ro X' :=
 ⟨(hb.block _ (lt_of_some h.s)).trans h.s, (hb.block _ (lt_of_some h.z)).trans h.z, src_below hr h.sr hb, Nat.le_trans h.sz hb.size, h.k.below hb, h.bx.trans (hb.mono h.bx.size)⟩
theorem R8.grown {w wx X X' : World} {BQ b off fz fr : Nat} {so zo fo ro : Obj} {VT : List (List Value)} {row : Option Nat} (h : R8 w wx BQ so zo b off VT fz fo fr ro X) (hr : Rows 14 VT) (hg : X.grownBy X' row) (hj : ∀ j, row = some j → BQ ≤ j) (q : (BQ = wx.heap.size ∧ b < BQ) ∧ w.heap.size + 1 < fz ∧ fz < BQ ∧ fr < BQ ∧ w.heap.size + 1 < fr) : R8 w wx BQ so zo b off VT fz fo fr ro X' := by
 have n : ∀ g, g < BQ → ¬ some g = row := fun g hg e => by have := hj g e.symm; omega
 exact ⟨(hg.block _ (lt_of_some h.s) (n _ (by omega))).trans h.s, (hg.block _ (lt_of_some h.z) (n _ (by omega))).trans h.z, src_grown h.sr hr hg (n _ q.1.2), Nat.le_trans h.sz hg.size, h.k.grown hg (fun j hj' => by have := hj j hj'; omega) (n _ q.2.2.1) (n _ q.2.2.2.1), h.bx.grown hg h.bx.size (fun j hj' => by have := hj j hj'; omega)⟩
end Go.Proofs.YtbmlpafbdbhaiaaGreatDoor.Gf
namespace Go.Proofs.YtbmlpafbdbhaiaaGreatDoor.Gf
open Go Go.Joins Go.ChangeShapes Go.WideShapes Go.ChangeAt Go.RowKit Go.Deep Go.Proofs.YtbmlpafbdbhaiaaGreatDoor.By Go.Proofs.YtbmlpafbdbhaiaaGreatDoor.Qt
theorem frG_ok {n : Int} (h1 : 1 ≤ n) (h8 : n ≤ 8) : okGe (frG n) := by
 refine ⟨⟨h1, h8, ?_, ?_, ?_, ?_, ?_, ?_, ?_⟩, mp0_ok.1, ?_, ?_⟩
 all_goals first | (show (_ : Int) ≤ _; simp only [frG]; decide) | skip
 ·rfl
 ·rfl
 ·have e : iL mp0 = [] := by decide
  show apL (iL mp0) 16
  rw [e]
  exact ⟨fun x hx => absurd hx (by simp), List.Pairwise.nil⟩
end Go.Proofs.YtbmlpafbdbhaiaaGreatDoor.Gf
namespace Go.Proofs.YtbmlpafbdbhaiaaGreatDoor.Gf
open Go Go.Joins Go.ChangeShapes Go.WideShapes Go.ChangeAt Go.RowKit Go.Deep Go.Shelf Go.Proofs.YtbmlpafbdbhaiaaGreatDoor.By Go.Proofs.YtbmlpafbdbhaiaaGreatDoor.Qt
set_option maxRecDepth 100000
set_option maxHeartbeats 204800000
attribute [local go_sem] Oper.semAt_some
end Go.Proofs.YtbmlpafbdbhaiaaGreatDoor.Gf
namespace Go.Proofs.YtbmlpafbdbhaiaaGreatDoor.Gf
open Go Go.Joins Go.ChangeShapes Go.WideShapes Go.ChangeAt Go.RowKit Go.Deep Go.Proofs.YtbmlpafbdbhaiaaGreatDoor.By Go.Proofs.YtbmlpafbdbhaiaaGreatDoor.Qt
set_option maxRecDepth 100000
set_option maxHeartbeats 204800000
theorem pturn_any (v : Value) (g : Ge) (fr tm : Int) (hto : J64 tm) (w : World) (hv : Gv w v g) (hf : Few g.m) (hn : g.m.st.flatten.length ≤ 1000) : Calls Tryz.prog 68 #[v, .int .i64 fr, .int .i64 tm] w (ModO g fr tm w) := by
 obtain ⟨s0, s1, s2, s3, s4, s5, s6, s7, rfl, hm, hj⟩ := hv
 have q0 := al2 w (.cells #[.int .i64 g.num, .int .i64 g.rev, .int .i64 g.mode, .int .i64 g.size, s0, s1, s2, s3, s4, s5, s6, s7, .int .i64 g.m.live, .int .i64 g.m.garb] 50) (.cells #[.int .i64 0, .int .i64 0, .int .i64 0, .int .i64 0, .slice none 0 0, .slice none 0 0, .slice none 0 0, .slice none 0 0, .slice none 0 0, .slice none 0 0, .slice none 0 0, .slice none 0 0, .int .i64 0, .int .i64 0] 50)
 have HS := Lh q0.1
 have HZ := Lh q0.2.1
 have B0 := Lh q0.2.2
 have MS := Lh (ms_below hm q0.2.2)
 have ON := Lh (gc_one (g := ⟨g.num, g.rev, tm, g.size, g.m⟩) hm)
 have UF := Lh (gc_u64 (g := g) hm)
 have HJ := Lh hj
 have HTO := Lh hto
 have PV := Lh (fun W (h : Gv W (.agg #[.int .i64 g.num, .int .i64 g.rev, .int .i64 g.mode, .int .i64 g.size, s0, s1, s2, s3, s4, s5, s6, s7, .int .i64 g.m.live, .int .i64 g.m.garb]) g) => pgvalid_any (.agg #[.int .i64 g.num, .int .i64 g.rev, .int .i64 g.mode, .int .i64 g.size, s0, s1, s2, s3, s4, s5, s6, s7, .int .i64 g.m.live, .int .i64 g.m.garb]) g W h hf hn)
 clear q0 hm hj hf hn hto
 go_enter Tryz.func68, Tryz.ntmps68
 go_upto_region 1 with fail
 generalize (w.alloc (.cells #[.int .i64 g.num, .int .i64 g.rev, .int .i64 g.mode, .int .i64 g.size, s0, s1, s2, s3, s4, s5, s6, s7, .int .i64 g.m.live, .int .i64 g.m.garb] 50)).alloc (.cells #[.int .i64 0, .int .i64 0, .int .i64 0, .int .i64 0, .slice none 0 0, .slice none 0 0, .slice none 0 0, .slice none 0 0, .slice none 0 0, .slice none 0 0, .slice none 0 0, .slice none 0 0, .int .i64 0, .int .i64 0] 50) = W0 at *
 obtain ⟨x0, x1, x2, x3, x4, x5, x6, x7, x8, x9, x10, x11, x12, x13⟩ := bx14 HS.out
 go_wp2_with fail
 clear x0 x1 x2 x3 x4 x5 x6 x7 x8 x9 x10 x11 x12 x13
 refine (PV.out W0 ⟨s0, s1, s2, s3, s4, s5, s6, s7, rfl, MS.out, HJ.out⟩).mono ?_
 rintro e W1 ⟨rfl, hb⟩
 have HS1 := Lh ((hb.block _ (lt_of_some HS.out)).trans HS.out)
 have HZ1 := Lh ((hb.block _ (lt_of_some HZ.out)).trans HZ.out)
 have MS1 := Lh (ms_below MS.out hb)
 have B1 := Lh (B0.out.trans (hb.mono B0.out.size))
 clear hb HS HZ MS B0 PV
 rcases Classical.em (okGe g) with h1 | h1
 ·rw [okGb_t h1]
  have HK := Lh h1
  clear h1
  obtain ⟨x0, x1, x2, x3, x4, x5, x6, x7, x8, x9, x10, x11, x12, x13⟩ := bx14 HS1.out
  by_cases h2 : g.mode = fr
  ·have d1 : decide (g.mode = fr) = true := decide_eq_true h2
   have d2 : (g.mode == fr) = true := beq_iff_eq.2 h2
   have d3 : (g.mode != fr) = false := by rw [h2]; simp
   have HM := Lh h2
   clear h2
   have f2 := frozen_of_row W1 w.heap.size 2 _ _ HS1.out
   go_upto_region 6 with fail
   clear x0 x1 x2 x3 x4 x5 x6 x7 x8 x9 x10 x11 x12 x13
   clear d1 d2 d3 f2
   rw [setCell_eq_setRow _ _ _ _ _ _ _ HS1.out]
   have HS2 := Lh (show (W1.setRow w.heap.size #[.int .i64 g.num, .int .i64 g.rev, .int .i64 tm, .int .i64 g.size, s0, s1, s2, s3, s4, s5, s6, s7, .int .i64 g.m.live, .int .i64 g.m.garb]).heap[w.heap.size]? = some (.cells #[.int .i64 g.num, .int .i64 g.rev, .int .i64 tm, .int .i64 g.size, s0, s1, s2, s3, s4, s5, s6, s7, .int .i64 g.m.live, .int .i64 g.m.garb] 50 (0, 0)) from setRow_heap _ _ _ _ _ _ HS1.out)
   have HZ2 := Lh ((setRow_other W1 w.heap.size (w.heap.size + 1) #[.int .i64 g.num, .int .i64 g.rev, .int .i64 tm, .int .i64 g.size, s0, s1, s2, s3, s4, s5, s6, s7, .int .i64 g.m.live, .int .i64 g.m.garb] (by omega)).trans HZ1.out)
   have MS2 := Lh (ms_setRowF MS1.out HS1.out UF.out (cs := #[.int .i64 g.num, .int .i64 g.rev, .int .i64 tm, .int .i64 g.size, s0, s1, s2, s3, s4, s5, s6, s7, .int .i64 g.m.live, .int .i64 g.m.garb]))
   have B2 := Lh (below_setRowM B1.out (Nat.le_refl _) #[.int .i64 g.num, .int .i64 g.rev, .int .i64 tm, .int .i64 g.size, s0, s1, s2, s3, s4, s5, s6, s7, .int .i64 g.m.live, .int .i64 g.m.garb])
   show Code.wp _ _ _ _ (W1.setRow w.heap.size #[.int .i64 g.num, .int .i64 g.rev, .int .i64 tm, .int .i64 g.size, s0, s1, s2, s3, s4, s5, s6, s7, .int .i64 g.m.live, .int .i64 g.m.garb])
   generalize W1.setRow w.heap.size #[.int .i64 g.num, .int .i64 g.rev, .int .i64 tm, .int .i64 g.size, s0, s1, s2, s3, s4, s5, s6, s7, .int .i64 g.m.live, .int .i64 g.m.garb] = W2 at *
   clear HS1 HZ1 MS1 B1
   obtain ⟨x0, x1, x2, x3, x4, x5, x6, x7, x8, x9, x10, x11, x12, x13⟩ := bx14 HS2.out
   go_wp2_with ((with_reducible refine storeG (w.heap.size + 1) _ #[.int .i64 g.num, .int .i64 g.rev, .int .i64 tm, .int .i64 g.size, s0, s1, s2, s3, s4, s5, s6, s7, .int .i64 g.m.live, .int .i64 g.m.garb] ?_ ?_ HZ2.out rfl rfl ON.out ?_); exact rfl; exact rfl)
   refine bodyPost_ret (results_rt (S := 50) rfl _ _ (w.heap.size + 1) #[.int .i64 g.num, .int .i64 g.rev, .int .i64 tm, .int .i64 g.size, s0, s1, s2, s3, s4, s5, s6, s7, .int .i64 g.m.live, .int .i64 g.m.garb] rfl (setRow_heap _ _ _ _ _ _ HZ2.out) Tryz.underlying50 rfl infoG14) rfl ?_
   exact modO_ok HK.out HM.out ⟨⟨_, rfl, s0, s1, s2, s3, s4, s5, s6, s7, rfl, ms_setRowF MS2.out HZ2.out zeroG_u64, HJ.out.1, HJ.out.2.1, HTO.out, HJ.out.2.2.2⟩, below_setRowM B2.out (Nat.le_succ _) _⟩
  ·have d1 : decide (g.mode = fr) = false := decide_eq_false h2
   have d2 : (g.mode == fr) = false := beq_false_of_ne h2
   have d3 : (g.mode != fr) = true := by simp [h2]
   have HM := Lh h2
   clear h2
   go_wp2_with ((with_reducible refine storeG (w.heap.size + 1) _ #[.int .i64 0, .int .i64 0, .int .i64 0, .int .i64 0, .slice none 0 0, .slice none 0 0, .slice none 0 0, .slice none 0 0, .slice none 0 0, .slice none 0 0, .slice none 0 0, .slice none 0 0, .int .i64 0, .int .i64 0] ?_ ?_ HZ1.out rfl rfl zg_one ?_); exact rfl; exact rfl)
   refine bodyPost_ret (results_rt (S := 50) rfl _ _ (w.heap.size + 1) #[.int .i64 0, .int .i64 0, .int .i64 0, .int .i64 0, .slice none 0 0, .slice none 0 0, .slice none 0 0, .slice none 0 0, .slice none 0 0, .slice none 0 0, .slice none 0 0, .slice none 0 0, .int .i64 0, .int .i64 0] rfl (setRow_heap _ _ _ _ _ _ HZ1.out) Tryz.underlying50 rfl infoG14) rfl ?_
   exact modO_state HK.out HM.out ⟨⟨_, rfl, g0_v _⟩, below_setRowM B1.out (Nat.le_succ _) _⟩
 ·rw [okGb_f h1]
  have HK := Lh h1
  clear h1
  go_wp2_with ((with_reducible refine storeG (w.heap.size + 1) _ #[.int .i64 0, .int .i64 0, .int .i64 0, .int .i64 0, .slice none 0 0, .slice none 0 0, .slice none 0 0, .slice none 0 0, .slice none 0 0, .slice none 0 0, .slice none 0 0, .slice none 0 0, .int .i64 0, .int .i64 0] ?_ ?_ HZ1.out rfl rfl zg_one ?_); exact rfl; exact rfl)
  refine bodyPost_ret (results_rt (S := 50) rfl _ _ (w.heap.size + 1) #[.int .i64 0, .int .i64 0, .int .i64 0, .int .i64 0, .slice none 0 0, .slice none 0 0, .slice none 0 0, .slice none 0 0, .slice none 0 0, .slice none 0 0, .slice none 0 0, .slice none 0 0, .int .i64 0, .int .i64 0] rfl (setRow_heap _ _ _ _ _ _ HZ1.out) Tryz.underlying50 rfl infoG14) rfl ?_
  exact modO_bad HK.out ⟨⟨_, rfl, g0_v _⟩, below_setRowM B1.out (Nat.le_succ _) _⟩
theorem pfreeze_any (v : Value) (g : Ge) (w : World) (hv : Gv w v g) (hf : Few g.m) (hn : g.m.st.flatten.length ≤ 1000) : Calls Tryz.prog 31 #[v] w (ModO g 1 2 w) := by
 obtain ⟨s0, s1, s2, s3, s4, s5, s6, s7, rfl, hm, hj⟩ := hv
 have q0 := al2 w (.cells #[.int .i64 g.num, .int .i64 g.rev, .int .i64 g.mode, .int .i64 g.size, s0, s1, s2, s3, s4, s5, s6, s7, .int .i64 g.m.live, .int .i64 g.m.garb] 50) (.cells #[.int .i64 0, .int .i64 0, .int .i64 0, .int .i64 0, .slice none 0 0, .slice none 0 0, .slice none 0 0, .slice none 0 0, .slice none 0 0, .slice none 0 0, .slice none 0 0, .slice none 0 0, .int .i64 0, .int .i64 0] 50)
 have HS := Lh q0.1
 have HZ := Lh q0.2.1
 have B0 := Lh q0.2.2
 have PV := Lh (pturn_any (.agg #[.int .i64 g.num, .int .i64 g.rev, .int .i64 g.mode, .int .i64 g.size, s0, s1, s2, s3, s4, s5, s6, s7, .int .i64 g.m.live, .int .i64 g.m.garb]) g 1 2 (by unfold J64; decide) _ ⟨s0, s1, s2, s3, s4, s5, s6, s7, rfl, ms_below hm q0.2.2, hj⟩ hf hn)
 clear q0 hm hj hf hn
 go_enter Tryz.func31, Tryz.ntmps31
 go_upto_region 1 with fail
 generalize (w.alloc (.cells #[.int .i64 g.num, .int .i64 g.rev, .int .i64 g.mode, .int .i64 g.size, s0, s1, s2, s3, s4, s5, s6, s7, .int .i64 g.m.live, .int .i64 g.m.garb] 50)).alloc (.cells #[.int .i64 0, .int .i64 0, .int .i64 0, .int .i64 0, .slice none 0 0, .slice none 0 0, .slice none 0 0, .slice none 0 0, .slice none 0 0, .slice none 0 0, .slice none 0 0, .slice none 0 0, .int .i64 0, .int .i64 0] 50) = W0 at *
 obtain ⟨x0, x1, x2, x3, x4, x5, x6, x7, x8, x9, x10, x11, x12, x13⟩ := bx14 HS.out
 go_wp2_with fail
 clear x0 x1 x2 x3 x4 x5 x6 x7 x8 x9 x10 x11 x12 x13
 refine PV.out.mono ?_
 rintro e W1 ⟨⟨v1, rfl, hv1⟩, hb⟩
 obtain ⟨t0, t1, t2, t3, t4, t5, t6, t7, rfl, hm1, hj1⟩ := hv1
 have HZ1 := Lh ((hb.block _ (lt_of_some HZ.out)).trans HZ.out)
 have B1 := Lh (B0.out.trans (hb.mono B0.out.size))
 have ON := Lh (gc_one hm1)
 have MS1 := Lh hm1
 have HJ1 := Lh hj1
 generalize hT : modG g 1 2 = T at *
 generalize hC : modC g 1 = C at *
 have HT := Lh hT
 have HC := Lh hC
 clear hT hC
 clear hb HZ B0 PV hm1 hj1
 go_wp2_with ((with_reducible refine storeG (w.heap.size + 1) _ #[.int .i64 T.num, .int .i64 T.rev, .int .i64 T.mode, .int .i64 T.size, t0, t1, t2, t3, t4, t5, t6, t7, .int .i64 T.m.live, .int .i64 T.m.garb] ?_ ?_ HZ1.out rfl rfl ON.out ?_); exact rfl; exact rfl)
 refine bodyPost_ret (results_rt (S := 50) rfl _ _ (w.heap.size + 1) #[.int .i64 T.num, .int .i64 T.rev, .int .i64 T.mode, .int .i64 T.size, t0, t1, t2, t3, t4, t5, t6, t7, .int .i64 T.m.live, .int .i64 T.m.garb] rfl (setRow_heap _ _ _ _ _ _ HZ1.out) Tryz.underlying50 rfl infoG14) rfl ?_
 exact modO_of HT.out HC.out ⟨⟨_, rfl, t0, t1, t2, t3, t4, t5, t6, t7, rfl, ms_setRowF MS1.out HZ1.out zeroG_u64, HJ1.out⟩, below_setRowM B1.out (Nat.le_succ _) _⟩
end Go.Proofs.YtbmlpafbdbhaiaaGreatDoor.Gf
