/- What is proved here: the contract of the program's divide (scan). Condition: a list of at most 100000 records. -/
import Derived.Test.YtlnccofanicihaaDoorP9c
import Derived.Maps.AppendAt
import Derived.Maps.OwnSet
import Derived.Deep.Cut
namespace Go.Proofs.YtlnccofanicihaaDoor.Gf
open Go Go.Joins Go.ChangeShapes Go.WideShapes Go.ChangeAt Go.RowKit Go.Deep Go.Sort Go.Maps Go.Proofs.YtlnccofanicihaaDoor.By Go.Proofs.YtlnccofanicihaaDoor.Crc Go.Proofs.YtlnccofanicihaaDoor.Qt

theorem run_app_rc_at {S T : TypeId} {b0 : Nat} (ty : TyR S T) {W : World} {base g : Nat} {v s : Value} {R : List Rc} {r : Rc} {fr : Nat × Nat} (t : TypeId) (hv : OwR T b0 W base v R) (hg : W.heap[g]? = some (.cells #[.int .i64 r.off, .int .u64 (r.x.key : Int), .int .u32 (r.x.cookie : Int), .bool r.x.del, s] T fr)) (hs : KpB b0 W base s r.x.data) (ok : RvOk ⟨r.off, r.x, s⟩) (hlm : R.length ≤ 100000000) (hb : base ≤ W.heap.size) (h00 : b0 ≤ base) :
    ∃ v' w', (Builtin.append_ #[S, S] t #[v, .slice (some ⟨g, 0, none⟩) 1 1]).run Tryd.prog W = .ok v' w' ∧ OwR T b0 w' base v' (R ++ [r]) ∧ W.grownBy w' v.ownBlock ∧ (v'.ownBlock = v.ownBlock ∨ v'.ownBlock = some W.heap.size) := by
  obtain ⟨i, hi, hz0, hz1, hz2⟩ := info_parts ty.info
  obtain ⟨L, rfl, h0, hown⟩ := hv
  rw [List.length_map] at hlm
  have hc : ∀ j u, (cellsR [⟨r.off, r.x, s⟩])[j]? = some u → W.cell? ((⟨g, 0, none⟩ : Addr).add j) = some u := fun j u hu => by
    rw [add_none, Nat.zero_add, cell_of_row W g j _ _ _ hg]
    simpa [cellsR, rvV] using hu
  obtain ⟨v', w', hr, ho, hgr, _, hat⟩ := run_append_own_at (P := Tryd.prog) W base S t T i _ 5 48 ty.und hi hz0 hz1 hz2 rfl (by decide) _ _ _ hown ⟨g, 0, none⟩ 1 1 (cellsR [⟨r.off, r.x, s⟩]) (cellsR_length _) hc (cellsR_one _ (by simpa using ok)) (by unfold maxLen; omega) (by omega) hb
  refine ⟨v', w', hr, ⟨L ++ [⟨r.off, r.x, s⟩], by rw [List.map_append]; rfl, fun q hq => ?_, by rw [List.length_append, cellsR_append]; exact ho⟩, hgr, hat⟩
  rcases List.mem_append.1 hq with hq | hq
  · exact ⟨(h0 q hq).1, kp_growR ty (h0 q hq).2 hown hgr hb h00⟩
  · obtain rfl : q = ⟨r.off, r.x, s⟩ := by simpa using hq
    exact ⟨ok, kp_growR ty hs hown hgr hb h00⟩
/-- append of one record, as a step that says where the slice lies. -/
theorem app_rc_at {S T : TypeId} {b0 : Nat} (ty : TyR S T) {ops : Array Oper} {rest : List Oper} {dst : Option Tmp} {s x : Operand} {pos : String} {after : Array Edge} {t : TypeId} {a : Act} {W : World} {Q : Exit → Act → World → Prop}
    {base g : Nat} {v d : Value} {R : List Rc} {r : Rc} {fr : Nat × Nat} (hs : a.eval s = v) (hx : a.eval x = .slice (some ⟨g, 0, none⟩) 1 1) (hv : OwR T b0 W base v R) (hg : W.heap[g]? = some (.cells #[.int .i64 r.off, .int .u64 (r.x.key : Int), .int .u32 (r.x.cookie : Int), .bool r.x.del, d] T fr)) (hd : KpB b0 W base d r.x.data) (ok : RvOk ⟨r.off, r.x, d⟩) (hlm : R.length ≤ 100000000) (hb : base ≤ W.heap.size) (h00 : b0 ≤ base)
    (h : ∀ v' w', OwR T b0 w' base v' (R ++ [r]) → W.grownBy w' v.ownBlock → (v'.ownBlock = v.ownBlock ∨ v'.ownBlock = some W.heap.size) → wpList Tryd.prog ops Q rest (a.put dst v') w') : wpList Tryd.prog ops Q (⟨dst, .call { callee := .builtin .append, args := #[s, x], argTypes := #[S, S] }, t, pos, after, none⟩ :: rest) a W := by
  obtain ⟨v', w', hr, h2, h3, h4⟩ := run_app_rc_at ty t hv hg hd ok hlm hb h00
  refine wpList_plain rfl fun _ hK => ?_
  unfold Oper.wp execOp
  simp only [resolve, invoke, builtin, Sem.run_bind, Sem.run_pure, Result.andThen_ok, List.map_toArray, List.map_cons, List.map_nil, hs, hx, hr]
  exact hK _ _ (h v' w' h2 h3 h4)
/-- Two slices lie in different blocks. -/
def Apart (u v : Value) : Prop := ∀ k, u.ownBlock = some k → v.ownBlock ≠ some k
theorem apart_nil (v : Value) : Apart (.slice none 0 0) v := fun k hk => by cases hk
theorem Apart.symm {u v : Value} (h : Apart u v) : Apart v u := fun k hk e => h k e hk
/-- A list stays when another one grows. -/
theorem owR_kept {S T : TypeId} {b0 : Nat} (ty : TyR S T) {w w' : World} {base : Nat} {u v : Value} {R M : List Rc} (h : OwR T b0 w base v R) (hu : OwR T b0 w base u M) (hg : w.grownBy w' u.ownBlock) (ha : Apart u v) (hb : base ≤ w.heap.size) (h00 : b0 ≤ base) : OwR T b0 w' base v R := by
  obtain ⟨L, h1, h0, h2⟩ := h
  obtain ⟨LU, -, -, hu2⟩ := hu
  refine ⟨L, h1, fun r hr => ⟨(h0 r hr).1, kp_growR ty (h0 r hr).2 hu2 hg hb h00⟩, h2.kept hg ?_⟩
  cases e : v.ownBlock with
  | none => exact Or.inl rfl
  | some k => exact Or.inr fun e2 => ha k e2.symm e
theorem apart_grown {T : TypeId} {b0 : Nat} {w : World} {base : Nat} {u u' v : Value} {R : List Rc} (h : Apart u v) (hv : OwR T b0 w base v R) (hat : u'.ownBlock = u.ownBlock ∨ u'.ownBlock = some w.heap.size) : Apart u' v := fun k hk e => by
  rcases hat with h1 | h1
  · exact h k (h1 ▸ hk) e
  · have := (owR_lt hv k e).2
    rw [h1] at hk
    cases hk
    omega
theorem keyK9 : Keyed Tryd.prog 53 := int_keyed Tryd.underlying53
theorem wfK9 {g : Nat} (h : g < 18446744073709551616) : (Lit.int .u64 (g : Int)).wf = true := by
  simp only [Lit.wf, IntKind.min, IntKind.max, IntKind.signed, IntKind.bits, Bool.and_eq_true, decide_eq_true_eq, Bool.false_eq_true, if_false]
  omega
theorem wfI9 {g : Nat} (h : g < 9223372036854775808) : (Lit.int .i64 (g : Int)).wf = true := by
  simp [Lit.wf, IntKind.min, IntKind.max, IntKind.signed, IntKind.bits]
  omega
theorem run_makeMap9 (n : Nat) (w : World) : (Instr.makeMap 95 (some (.int .i64 (n : Int)))).run Tryd.prog w = .ok (.map (some w.heap.size)) (w.alloc (.map #[] 0)) := by
  simp [Instr.makeMap, run_underlying Tryd.underlying95, asInt, asIntOf]
theorem lookup_int {P : Program} {w : World} {t k e : TypeId} {b n : Nat} {D : DataW Unit} (h : w.ownsMap P k (plainElem P e) b n D) (K : Keyed P k) (ht : P.underlying t = some (.map k e)) (he : P.underlying e = some (.int .i64)) (hz : (zeroValue e).run P w = .ok (.int .i64 0) w)
    {key : Value} {kl : Lit} (hkey : keyOf P k key = some kl) {c : Int} (hc : D.atKey kl (.lit (.int .i64 0)) = .lit (.int .i64 c)) : (Instr.lookup t (.map (some b)) key false).run P w = .ok (.int .i64 c) w := by
  obtain ⟨v, ps, hrun, hv⟩ := h.lookup K ht hz (plainElem_int he (by decide)) hkey
  obtain ⟨x, rfl, hx, -⟩ := plainElem_int_inv he hv
  simp only [Prod.mk.injEq] at hx
  rw [hx.1] at hc
  have : x = c := by simpa using hc
  rw [← this]
  exact hrun
/-- The places of the last records, in block B. -/
def La (W : World) (B n : Nat) (R : List Rc) : Prop := W.ownsMap Tryd.prog 53 (plainElem Tryd.prog 3) B n (lastD R)
theorem La.later {W W' : World} {B n : Nat} {R : List Rc} (h : La W B n R) (hb : Below W.heap.size W W') : La W' B n R := by
  obtain ⟨es, clock, hg, r⟩ := h
  exact ⟨es, clock, (hb.block B (lt_of_some hg)).trans hg, r⟩
theorem La.grown {W W' : World} {B n : Nat} {M : List Rc} {T : TypeId} {b0 base : Nat} {v : Value} {R : List Rc} (h : La W B n M) (hg : W.grownBy W' v.ownBlock) (ho : OwR T b0 W base v R) (hB : B < base) : La W' B n M :=
  World.ownsMap.kept h hg (fun e => by have := (owR_lt ho B e.symm).1; omega)
theorem La.look {W : World} {B n : Nat} {R : List Rc} (h : La W B n R) {k : Nat} (hk : k < 18446744073709551616) : (Instr.lookup 95 (.map (some B)) (.int .u64 (k : Int)) false).run Tryd.prog W = .ok (.int .i64 ((lastN R k : Nat) : Int)) W :=
  lookup_int h keyK9 Tryd.underlying95 Tryd.underlying3 (Tryd.zeroValue3 W) (keyOf_int_mk Tryd.underlying53 (wfK9 hk)) (lastD_at k R)
theorem take_snoc9 {R : List Rc} {i : Nat} (h : i < R.length) : R.take (i + 1) = R.take i ++ [R.getD i rc0] := take_snocR h
/-- A call that answers the live records and the others. -/
def DVO (w : World) (R : List Rc) (e : Ending) (w' : World) : Prop := (∃ u v, e = .returned (.tuple #[u, v]) ∧ OwR 61 w.heap.size w' w.heap.size u (divF R R.length).1 ∧ OwR 61 w.heap.size w' w.heap.size v (divF R R.length).2) ∧ Below w.heap.size w w'
end Go.Proofs.YtlnccofanicihaaDoor.Gf
