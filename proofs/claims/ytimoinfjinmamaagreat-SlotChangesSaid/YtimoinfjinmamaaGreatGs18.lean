/- What is proved here: lists of rows of cells that are a call's own, and append of rows to them; lists of generations out of them. No program text but the types. -/
/- What is proved here: lists of rows of cells that are a call's own, and append of rows to them; lists of generations out of them. No program text but the types. -/
import Derived.Test.YtimoinfjinmamaaGreatGs17
namespace Go.Proofs.YtimoinfjinmamaaGreat.Gf
open Joins ChangeShapes WideShapes ChangeAt RowKit Deep By Qt
def Rows (z : Nat) (V : List (List Value)) : Prop := ∀ p ∈ V, p.length = z ∧ ∀ u ∈ p, u.oneCell' = true
theorem rows_len {z : Nat} : ∀ {V : List (List Value)}, Rows z V → V.flatten.length = V.length * z
 | [], _ => by simp
 | p :: V, h => by
  rw [List.flatten_cons, List.length_append, rows_len (V := V) (fun q hq => h q (List.mem_cons_of_mem _ hq)), (h p List.mem_cons_self).1, List.length_cons, Nat.add_mul, Nat.one_mul, Nat.add_comm]
theorem rows_one {z : Nat} {V : List (List Value)} (h : Rows z V) : ∀ u ∈ V.flatten, u.oneCell' = true := fun u hu => by
 obtain ⟨p, hp, hup⟩ := List.mem_flatten.1 hu;exact (h p hp).2 u hup
theorem rows_at {z : Nat} : ∀ {V : List (List Value)}, Rows z V → ∀ (k u : Nat), k < V.length → u < z → V.flatten[k * z + u]? = (V.getD k [])[u]?
 | [], _, k, u, hk, _ => absurd hk (Nat.not_lt_zero k)
 | p :: V, h, k, u, hk, hu => by
  have hp := (h p List.mem_cons_self).1
  cases k with
  | zero =>
   rw [Nat.zero_mul, Nat.zero_add, List.flatten_cons, List.getElem?_append_left (by omega)];rfl
  | succ k =>
   have e : (k + 1) * z + u = p.length + (k * z + u) := by rw [hp, Nat.add_mul, Nat.one_mul]; omega
   rw [e, List.flatten_cons, List.getElem?_append_right (by omega), Nat.add_sub_cancel_left, rows_at (V := V) (fun q hq => h q (List.mem_cons_of_mem _ hq)) k u (by simpa using hk) hu];rfl
theorem rows_append {z : Nat} {V W : List (List Value)} (h : Rows z V) (k : Rows z W) : Rows z (V ++ W) := fun p hp => by
 rcases List.mem_append.1 hp with q | q
 ·exact h p q
 ·exact k p q
def SrcV (z : Nat) (w : World) (b off : Nat) (V : List (List Value)) : Prop := ∀ k u, k < V.length → u < z → w.cell? ⟨b, off + (k * z + u), none⟩ = (V.getD k [])[u]?
theorem src_flat {z : Nat} {w : World} {b off : Nat} {V : List (List Value)} (hz : 0 < z) (hr : Rows z V) (h : SrcV z w b off V) : ∀ j u, V.flatten[j]? = some u → w.cell? ((⟨b, off, none⟩ : Addr).add j) = some u := fun j u hu => by
 have hj : j < V.length * z := by rw [← rows_len hr]; exact (List.getElem?_eq_some_iff.1 hu).1
 have hk : j / z < V.length := Nat.div_lt_of_lt_mul (by rw [Nat.mul_comm]; exact hj);have e : j / z * z + j % z = j := by rw [Nat.mul_comm]; exact Nat.div_add_mod j z
 have h1 := h (j / z) (j % z) hk (Nat.mod_lt _ hz);rw [e] at h1;rw [show (⟨b, off, none⟩ : Addr).add j = ⟨b, off + j, none⟩ by unfold Addr.add; split <;> simp_all, h1, ← rows_at hr _ _ hk (Nat.mod_lt _ hz), e];exact hu
def OwV (T : TypeId) (z : Nat) (w : World) (base : Nat) (v : Value) (V : List (List Value)) : Prop := Rows z V ∧ w.ownsRow base T z v V.length V.flatten
theorem ov_nil (T : TypeId) (z : Nat) (w : World) (base : Nat) : OwV T z w base (.slice none 0 0) [] := ⟨fun p hp => absurd hp (by simp), World.ownsRow_nil _ _ _ _⟩
theorem jq9 {T : TypeId} {z : Nat} {w : World} {base : Nat} {v : Value} {V : List (List Value)} (h : OwV T z w base v V) : ∀ k, v.ownBlock = some k → base ≤ k ∧ k < w.heap.size := h.2.lt
theorem jw1 {T : TypeId} {z : Nat} {w w' : World} {base : Nat} {v : Value} {V : List (List Value)} (h : OwV T z w base v V) (hw : ∀ b, v.ownBlock = some b → b < w.heap.size → w'.heap[b]? = w.heap[b]?) : OwV T z w' base v V := by
 have hlt := h.2.lt;obtain ⟨h0, e1, e2 | ⟨g, cap, cur, rfl, hg, hb, h3⟩⟩ := h
 ·exact ⟨h0, e1, Or.inl e2⟩
 ·exact ⟨h0, e1, Or.inr ⟨g, cap, cur, rfl, hg, (hw g rfl (hlt g rfl).2).trans hb, h3⟩⟩
theorem jq5 {T : TypeId} {z : Nat} {w w' : World} {base : Nat} {v : Value} {V : List (List Value)} (h : OwV T z w base v V) (hB : Below w.heap.size w w') : OwV T z w' base v V := jw1 h fun b _ hl => hB.block b hl
theorem jq1 {T : TypeId} {z : Nat} {w : World} {base : Nat} {v : Value} {V : List (List Value)} (h : OwV T z w base v V) : ∃ a cap, v = .slice a V.length cap ∧ V.length ≤ cap ∧ cap ≤ maxLen := by
 obtain ⟨h0, e1, ⟨rfl, e2⟩ | ⟨g, cap, cur, rfl, hg, hb, h3, h4, -⟩⟩ := h
 ·exact ⟨none, 0, by rw [e2], by omega, by decide⟩
 ·exact ⟨_, cap, rfl, h3, h4⟩
theorem ov_src {T : TypeId} {z : Nat} {w : World} {base : Nat} {v : Value} {V : List (List Value)} (h : OwV T z w base v V) (hp : 0 < V.length) : ∃ b cap, v = .slice (some ⟨b, 0, none⟩) V.length cap ∧ base ≤ b ∧ SrcV z w b 0 V := by
 obtain ⟨h0, e1, ⟨rfl, e2⟩ | ⟨g, cap, cur, rfl, hg, hb, h3, h4, h5, h6⟩⟩ := h
 ·omega
 ·refine ⟨g, cap, rfl, hg, fun k u hk hu => ?_⟩
  rw [Nat.zero_add, cell_of_row w g _ cur _ (0, 0) hb, ← rows_at h0 k u hk hu, ← h6];have hlt : k * z + u < V.length * z := by
   have h1 : (k + 1) * z ≤ V.length * z := Nat.mul_le_mul_right z hk;rw [Nat.add_mul, Nat.one_mul] at h1;omega
  rw [List.getElem?_take, if_pos hlt];simp
structure LsV (P : Program) (S T : TypeId) (z : Nat) : Prop where
 und : P.underlying S = some (.slice T)
 info : ∃ i x, P.info? T = some i ∧ i.zero = some x ∧ i.size = z ∧ i.bytes ≤ 1000 ∧ x.cells.size = z
 pos : 0 < z
theorem run_app_v {P : Program} {S T : TypeId} {z : Nat} (ty : LsV P S T z) {W : World} {base b off c : Nat} {v : Value} {V M : List (List Value)} (r : TypeId) (hv : OwV T z W base v V) (hm : Rows z M) (hs : SrcV z W b off M) (hlm : V.length + M.length ≤ 100000000) (hb : base ≤ W.heap.size) :
 ∃ v' w', (Builtin.append_ #[S, S] r #[v, .slice (some ⟨b, off, none⟩) M.length c]).run P W = .ok v' w' ∧ OwV T z w' base v' (V ++ M) ∧ W.grownBy w' v.ownBlock ∧ (v'.ownBlock = v.ownBlock ∨ v'.ownBlock = some W.heap.size) := by
 obtain ⟨i, x, hi, hz0, hz1, hz2, hz3⟩ := ty.info;obtain ⟨hr, hown⟩ := hv;obtain ⟨v', w', hrun, ho, hgr, _, hat⟩ := run_append_own_at (P := P) W base S r T i x z i.bytes ty.und hi hz0 hz1 rfl hz3 ty.pos _ _ _ hown ⟨b, off, none⟩ M.length c M.flatten (rows_len hm) (src_flat ty.pos hm hs) (rows_one hm) (by unfold maxLen; omega) (by
  have := Nat.mul_le_mul (show V.length + M.length ≤ 100000000 by omega) hz2;omega) hb
 exact ⟨v', w', hrun, ⟨rows_append hr hm, by rw [List.length_append, List.flatten_append]; exact ho⟩, hgr, hat⟩
theorem jq4 {P : Program} {S T : TypeId} {z : Nat} (ty : LsV P S T z) {dst : Option Tmp} {s x : Operand} {pos : String} {after : Array Edge} {r : TypeId} {gd : Option (Nat × Bool)} {a : Act} {W : World} {K : Act → World → Prop} {Q : Exit → Act → World → Prop}
 {base b off c n : Nat} {v : Value} {V M : List (List Value)} (hs : a.eval s = v) (hx : a.eval x = .slice (some ⟨b, off, none⟩) n c) (hn : n = M.length) (hv : OwV T z W base v V) (hm : Rows z M) (hsrc : SrcV z W b off M) (hlm : V.length + M.length ≤ 100000000) (hb : base ≤ W.heap.size)
 (h : ∀ v' w', OwV T z w' base v' (V ++ M) → W.grownBy w' v.ownBlock → (v'.ownBlock = v.ownBlock ∨ v'.ownBlock = some W.heap.size) → K (a.put dst v') w') : Oper.wp P ⟨dst, .call { callee := .builtin .append, args := #[s, x], argTypes := #[S, S] }, r, pos, after, gd⟩ a W K Q := by
 subst hn;obtain ⟨v', w', hr, h2, h3, h4⟩ := run_app_v (c := c) ty r hv hm hsrc hlm hb;unfold Oper.wp execOp;simp only [resolve, invoke, builtin, Sem.run_bind, Sem.run_pure, Result.andThen_ok, List.map_toArray, List.map_cons, List.map_nil, hs, hx, hr];exact h v' w' h2 h3 h4
theorem app_v {P : Program} {S T : TypeId} {z : Nat} (ty : LsV P S T z) {ops : Array Oper} {rest : List Oper} {dst : Option Tmp} {s x : Operand} {pos : String} {after : Array Edge} {r : TypeId} {a : Act} {W : World} {Q : Exit → Act → World → Prop}
 {base b off c n : Nat} {v : Value} {V M : List (List Value)} (hs : a.eval s = v) (hx : a.eval x = .slice (some ⟨b, off, none⟩) n c) (hn : n = M.length) (hv : OwV T z W base v V) (hm : Rows z M) (hsrc : SrcV z W b off M) (hlm : V.length + M.length ≤ 100000000) (hb : base ≤ W.heap.size)
 (h : ∀ v' w', OwV T z w' base v' (V ++ M) → W.grownBy w' v.ownBlock → (v'.ownBlock = v.ownBlock ∨ v'.ownBlock = some W.heap.size) → wpList P ops Q rest (a.put dst v') w') : wpList P ops Q (⟨dst, .call { callee := .builtin .append, args := #[s, x], argTypes := #[S, S] }, r, pos, after, none⟩ :: rest) a W := by
 refine wpList_plain rfl fun _ hK => ?_;exact jq4 ty hs hx hn hv hm hsrc hlm hb fun v' w' h1 h2 h3 => hK _ _ (h v' w' h1 h2 h3)
theorem lsG : LsV Tryz.prog 37 55 14 := by
 have h1 : (Tryz.prog.info? 55).map (fun i => (i.zero.map (·.cells.size), i.size, decide (i.bytes ≤ 1000))) = some (some 14, 14, true) := by kernel_rfl
 cases hp : Tryz.prog.info? 55 with
 | none => rw [hp] at h1; cases h1
 | some i =>
  rw [hp] at h1;simp at h1;obtain ⟨⟨x, hx, hxs⟩, h2, h3⟩ := h1;exact ⟨Tryz.underlying37, ⟨i, x, hp, hx, h2, h3, hxs⟩, by decide⟩
theorem lsRG : LsV Tryz.prog 22 31 14 := by
 have h1 : (Tryz.prog.info? 31).map (fun i => (i.zero.map (·.cells.size), i.size, decide (i.bytes ≤ 1000))) = some (some 14, 14, true) := by kernel_rfl
 cases hp : Tryz.prog.info? 31 with
 | none => rw [hp] at h1; cases h1
 | some i =>
  rw [hp] at h1;simp at h1;obtain ⟨⟨x, hx, hxs⟩, h2, h3⟩ := h1;exact ⟨Tryz.underlying22, ⟨i, x, hp, hx, h2, h3, hxs⟩, by decide⟩
theorem lsN : LsV Tryz.prog 32 72 4 := by
 have h1 : (Tryz.prog.info? 72).map (fun i => (i.zero.map (·.cells.size), i.size, decide (i.bytes ≤ 1000))) = some (some 4, 4, true) := by kernel_rfl
 cases hp : Tryz.prog.info? 72 with
 | none => rw [hp] at h1; cases h1
 | some i =>
  rw [hp] at h1;simp at h1;obtain ⟨⟨x, hx, hxs⟩, h2, h3⟩ := h1;exact ⟨Tryz.underlying32, ⟨i, x, hp, hx, h2, h3, hxs⟩, by decide⟩
theorem gc_row {w : World} {cs : List Value} {g : Ge} (h : GC w cs g) : cs.length = 14 ∧ ∀ u ∈ cs, u.oneCell' = true := by
 obtain ⟨s0, s1, s2, s3, s4, s5, s6, s7, rfl, hm, hj⟩ := h;refine ⟨rfl, fun u hu => ?_⟩;have h1 := jwj (g := g) hm;rw [Array.all_eq_true_iff_forall_mem] at h1;exact h1 u (by simpa using hu)
theorem gl_rows {w : World} {v : Value} {L : List Ge} (h : Gl w v L) : ∃ (V : List (List Value)) (a : Option Addr) (c : Nat), V.length = L.length ∧ v = .slice a L.length c ∧ Rows 14 V ∧ (∀ k, k < L.length → GC w (V.getD k []) (L.getD k g0)) ∧ (0 < L.length → ∃ b off, a = some ⟨b, off, none⟩ ∧ SrcV 14 w b off V) := by
 obtain ⟨V, a, c, h0, h1, h2, h3, h4, h5⟩ := h;refine ⟨V, a, c, h0, h1, fun p hp => ?_, h4, fun hp => ?_⟩
 ·obtain ⟨k, hk, rfl⟩ := List.mem_iff_getElem.1 hp
  have := gc_row (h4 k (by omega))
  rwa [List.getD_eq_getElem?_getD, List.getElem?_eq_getElem hk] at this
 ·obtain ⟨b, off, ha, hc⟩ := h5 hp
  exact ⟨b, off, ha, fun k u hk hu => hc k u (by omega) hu⟩
theorem gl_own {T : TypeId} {w : World} {base : Nat} {v : Value} {V : List (List Value)} {L : List Ge} (h : OwV T 14 w base v V) (hl : V.length = L.length) (hg : ∀ k, k < L.length → GC w (V.getD k []) (L.getD k g0)) : Gl w v L := by
 obtain ⟨a, cap, rfl, h1, h2⟩ := jq1 h;refine ⟨V, a, cap, hl, by rw [hl], by omega, h2, hg, fun hp => ?_⟩;obtain ⟨b, cap2, he, -, hs⟩ := ov_src h (by omega);obtain ⟨rfl, rfl⟩ : a = some ⟨b, 0, none⟩ ∧ cap = cap2 := by simpa using he
 exact ⟨b, 0, rfl, fun k u hk hu => hs k u (by omega) hu⟩
end Go.Proofs.YtimoinfjinmamaaGreat.Gf
