/- What is proved here: lists of records in memory (both packages' type of a record), and what an append of a record answers. No condition. -/
import Derived.Test.YtlnccofanicihaaDoorM9a
import Derived.Test.YtlnccofanicihaaDoorQ6d
import Derived.OwnWalk
import Derived.IntWalk
import Derived.BigQuiet
import Derived.StillTailTactics
namespace Go.Proofs.YtlnccofanicihaaDoor.Gf
open Go Go.Joins Go.ChangeShapes Go.WideShapes Go.ChangeAt Go.RowKit Go.Deep Go.Proofs.YtlnccofanicihaaDoor.By

/-- A type of records: its slice type S, itself T. -/
structure TyR (S T : TypeId) : Prop where
  und : Tryd.prog.underlying S = some (.slice T)
  info : (Tryd.prog.info? T).map (fun i => (i.zero, i.size, i.bytes)) = some (some (.agg #[.int .i64 0, .int .u64 0, .int .u32 0, .bool false, .slice none 0 0]), 5, 48)
  ne : (5 == T) = false
theorem tyRef : TyR 35 77 := ⟨Tryd.underlying35, by kernel_rfl, by kernel_rfl⟩
theorem tyScan : TyR 31 61 := ⟨Tryd.underlying31, by kernel_rfl, by kernel_rfl⟩
/-- A record in memory: its place, its needle, and the value of the slice of its data. -/
structure RV where
  off : Int
  x : Ndl
  s : Value
def RV.rc (r : RV) : Rc := ⟨r.off, r.x⟩
def rv0 : RV := ⟨0, ⟨0, 0, false, []⟩, .slice none 0 0⟩
structure RvOk (r : RV) : Prop where
  off : -9223372036854775808 ≤ r.off ∧ r.off ≤ 9223372036854775807
  key : r.x.key < 18446744073709551616
  ck : r.x.cookie < 4294967296
  sl : ∃ a n c, r.s = .slice a n c
def rvV (r : RV) : List Value := [.int .i64 r.off, .int .u64 (r.x.key : Int), .int .u32 (r.x.cookie : Int), .bool r.x.del, r.s]
def cellsR (L : List RV) : List Value := L.flatMap rvV
theorem cellsR_append (L M : List RV) : cellsR (L ++ M) = cellsR L ++ cellsR M := by simp [cellsR]
theorem cellsR_cons (x : RV) (L : List RV) : cellsR (x :: L) = rvV x ++ cellsR L := by simp [cellsR]
theorem cellsR_length : ∀ (L : List RV), (cellsR L).length = L.length * 5
  | [] => rfl
  | x :: L => by rw [cellsR_cons, List.length_append, cellsR_length L, List.length_cons]; simp [rvV]; omega
theorem cellsR_at : ∀ (L : List RV) (k j : Nat), k < L.length → j < 5 → (cellsR L)[k * 5 + j]? = (rvV (L.getD k rv0))[j]?
  | [], k, _, h, _ => by simp at h
  | x :: L, 0, j, _, hj => by
    rw [cellsR_cons, Nat.zero_mul, Nat.zero_add, List.getElem?_append_left (by simpa [rvV] using hj)]
    rfl
  | x :: L, k + 1, j, h, hj => by
    have ih := cellsR_at L k j (by simpa using h) hj
    rw [cellsR_cons, List.getElem?_append_right (by simp [rvV]; omega), show (k + 1) * 5 + j - (rvV x).length = k * 5 + j by simp [rvV]; omega, ih]
    rfl
theorem cellsR_one (L : List RV) (h : ∀ r ∈ L, RvOk r) : ∀ u ∈ cellsR L, u.oneCell' = true := fun u hu => by
  simp only [cellsR, List.mem_flatMap] at hu
  obtain ⟨x, hm, hx⟩ := hu
  obtain ⟨a, n, c, hs⟩ := (h x hm).sl
  simp only [rvV, List.mem_cons, List.not_mem_nil, or_false] at hx
  rcases hx with rfl | rfl | rfl | rfl | rfl
  · rfl
  · rfl
  · rfl
  · rfl
  · rw [hs]; rfl
/-- The slice value v holds the cells of L. -/
def Rw (w : World) (v : Value) (L : List RV) : Prop :=
  (∀ r ∈ L, RvOk r) ∧ ∃ a cap, v = .slice a L.length cap ∧ L.length ≤ cap ∧ cap ≤ maxLen ∧ (0 < L.length → ∃ b off, a = some ⟨b, off, none⟩ ∧ ∀ j u, (cellsR L)[j]? = some u → w.cell? ⟨b, off + j, none⟩ = some u)
/-- The slice value v reads as the records R. -/
def Rs (w : World) (v : Value) (R : List Rc) : Prop := ∃ L : List RV, L.map RV.rc = R ∧ Rw w v L ∧ ∀ r ∈ L, Sl w r.s r.x.data
theorem rs_nil (w : World) : Rs w (.slice none 0 0) [] := ⟨[], rfl, ⟨by simp, none, 0, rfl, Nat.le_refl _, by simp, fun h => by simp at h⟩, by simp⟩
theorem rs_form {w : World} {v : Value} {R : List Rc} (h : Rs w v R) : ∃ a cap, v = .slice a R.length cap ∧ R.length ≤ cap ∧ cap ≤ maxLen := by
  obtain ⟨L, rfl, ⟨_, a, cap, h1, h2, h3, _⟩, _⟩ := h
  exact ⟨a, cap, by rw [List.length_map]; exact h1, by rw [List.length_map]; exact h2, h3⟩
theorem rs_below {w w' : World} {v : Value} {R : List Rc} (h : Rs w v R) (hB : Below w.heap.size w w') : Rs w' v R := by
  obtain ⟨L, h1, ⟨h0, a, cap, h2, h3, h4, h5⟩, h6⟩ := h
  refine ⟨L, h1, ⟨h0, a, cap, h2, h3, h4, fun hp => ?_⟩, fun r hr => sl_below (h6 r hr) hB⟩
  obtain ⟨b, off, e, hc⟩ := h5 hp
  exact ⟨b, off, e, fun j u hu => (hB.cell (block_lt_of_cell (hc j u hu))).trans (hc j u hu)⟩
/-- The five cells of a record. -/
structure C5 (w : World) (b o : Nat) (r : Rc) (s : Value) : Prop where
  c0 : w.cell? ⟨b, o, none⟩ = some (.int .i64 r.off)
  c1 : w.cell? ⟨b, o + 1, none⟩ = some (.int .u64 (r.x.key : Int))
  c2 : w.cell? ⟨b, o + 2, none⟩ = some (.int .u32 (r.x.cookie : Int))
  c3 : w.cell? ⟨b, o + 3, none⟩ = some (.bool r.x.del)
  c4 : w.cell? ⟨b, o + 4, none⟩ = some s
  ok : RvOk ⟨r.off, r.x, s⟩
  sl : Sl w s r.x.data
def rc0 : Rc := ⟨0, ⟨0, 0, false, []⟩⟩
theorem rs_cells {w : World} {v : Value} {R : List Rc} (h : Rs w v R) (hp : 0 < R.length) : ∃ b off cap, v = .slice (some ⟨b, off, none⟩) R.length cap ∧ R.length ≤ cap ∧ cap ≤ maxLen ∧ ∀ k, k < R.length → ∃ s, C5 w b (off + k * 5) (R.getD k rc0) s := by
  obtain ⟨L, rfl, ⟨h0, a, cap, h2, h3, h4, h5⟩, h6⟩ := h
  rw [List.length_map] at hp ⊢
  obtain ⟨b, off, rfl, hc⟩ := h5 hp
  refine ⟨b, off, cap, h2, h3, h4, fun k hk => ⟨(L.getD k rv0).s, ?_⟩⟩
  have hm : L.getD k rv0 ∈ L := by
    rw [List.getD_eq_getElem?_getD, List.getElem?_eq_getElem hk]
    exact List.getElem_mem _
  have he : (L.map RV.rc).getD k rc0 = (L.getD k rv0).rc := by
    rw [List.getD_eq_getElem?_getD, List.getElem?_map, List.getElem?_eq_getElem hk, List.getD_eq_getElem?_getD, List.getElem?_eq_getElem hk]
    rfl
  have hg : ∀ j, j < 5 → ∀ u, (rvV (L.getD k rv0))[j]? = some u → w.cell? ⟨b, off + (k * 5 + j), none⟩ = some u := fun j hj u hu => hc _ _ (by rw [cellsR_at L k j hk hj]; exact hu)
  rw [he]
  refine ⟨?_, ?_, ?_, ?_, ?_, h0 _ hm, h6 _ hm⟩
  · exact hg 0 (by decide) _ rfl
  · rw [Nat.add_assoc]; exact hg 1 (by decide) _ rfl
  · rw [Nat.add_assoc]; exact hg 2 (by decide) _ rfl
  · rw [Nat.add_assoc]; exact hg 3 (by decide) _ rfl
  · rw [Nat.add_assoc]; exact hg 4 (by decide) _ rfl
/-- Bytes of the call's own, or bytes in memory older than b0. -/
def KpB (b0 : Nat) (w : World) (base : Nat) (x : Value) (l : List Nat) : Prop := Own w base x l ∨ ∃ w0, w0.heap.size ≤ b0 ∧ Below w0.heap.size w0 w ∧ Sl w0 x l
theorem KpB.sl {b0 : Nat} {w : World} {base : Nat} {x : Value} {l : List Nat} (h : KpB b0 w base x l) : Sl w x l := by
  rcases h with h | ⟨w0, _, h2, h3⟩
  · exact h.sl
  · exact sl_below h3 h2
theorem KpB.later {b0 : Nat} {w w' : World} {base : Nat} {x : Value} {l : List Nat} (h : KpB b0 w base x l) (hb : Below w.heap.size w w') : KpB b0 w' base x l := by
  rcases h with h | ⟨w0, h1, h2, h3⟩
  · exact Or.inl (own_below' h hb)
  · exact Or.inr ⟨w0, h1, bt h2 hb, h3⟩
/-- The slice v is the call's own; its records' data are the call's own or older than base. -/
def OwR (T : TypeId) (b0 : Nat) (w : World) (base : Nat) (v : Value) (R : List Rc) : Prop := ∃ L : List RV, L.map RV.rc = R ∧ (∀ r ∈ L, RvOk r ∧ KpB b0 w base r.s r.x.data) ∧ w.ownsRow base T 5 v L.length (cellsR L)
theorem owR_nil (T : TypeId) (b0 : Nat) (w : World) (base : Nat) : OwR T b0 w base (.slice none 0 0) [] := ⟨[], rfl, by simp, World.ownsRow_nil _ _ _ _⟩
theorem owR_rs {T : TypeId} {b0 : Nat} {w : World} {base : Nat} {v : Value} {R : List Rc} (h : OwR T b0 w base v R) : Rs w v R := by
  obtain ⟨L, h1, h0, _, h2⟩ := h
  refine ⟨L, h1, ⟨fun r hr => (h0 r hr).1, ?_⟩, fun r hr => (h0 r hr).2.sl⟩
  rcases h2 with ⟨rfl, h2⟩ | ⟨g, cap, cur, rfl, hg, hb, hn, hm, hsz, ht⟩
  · obtain rfl := List.eq_nil_of_length_eq_zero h2
    exact ⟨none, 0, rfl, Nat.le_refl _, by simp, fun h => by simp at h⟩
  · refine ⟨_, _, rfl, hn, hm, fun _ => ⟨g, 0, rfl, fun j u hu => ?_⟩⟩
    rw [Nat.zero_add, cell_of_row w g j cur _ (0, 0) hb]
    rw [← ht, List.getElem?_take] at hu
    split at hu
    · simpa using hu
    · cases hu
theorem owR_form {T : TypeId} {b0 : Nat} {w : World} {base : Nat} {v : Value} {R : List Rc} (h : OwR T b0 w base v R) : ∃ a cap, v = .slice a R.length cap ∧ R.length ≤ cap ∧ cap ≤ maxLen := rs_form (owR_rs h)
theorem owR_lt {T : TypeId} {b0 : Nat} {w : World} {base : Nat} {v : Value} {R : List Rc} (h : OwR T b0 w base v R) : ∀ k, v.ownBlock = some k → base ≤ k ∧ k < w.heap.size := by
  obtain ⟨L, _, _, h2⟩ := h
  exact h2.lt
theorem owns5_below {T : TypeId} {w w' : World} {base n k : Nat} {v : Value} {xs : List Value} (h : w.ownsRow base T k v n xs) (hB : Below w.heap.size w w') : w'.ownsRow base T k v n xs := by
  have hlt := h.lt
  obtain ⟨h1, h2 | ⟨g, cap, cur, rfl, hg, hb, h3⟩⟩ := h
  · exact ⟨h1, Or.inl h2⟩
  · exact ⟨h1, Or.inr ⟨g, cap, cur, rfl, hg, (hB.block _ (hlt g rfl).2).trans hb, h3⟩⟩
theorem owR_below {T : TypeId} {b0 : Nat} {w w' : World} {base : Nat} {v : Value} {R : List Rc} (h : OwR T b0 w base v R) (hB : Below w.heap.size w w') : OwR T b0 w' base v R := by
  obtain ⟨L, h1, h0, h2⟩ := h
  exact ⟨L, h1, fun r hr => ⟨(h0 r hr).1, (h0 r hr).2.later hB⟩, owns5_below h2 hB⟩
/-- Bytes stay when a list of records grows. -/
theorem kp_growR {S T : TypeId} {b0 : Nat} (ty : TyR S T) {w w' : World} {base n : Nat} {v x : Value} {xs : List Value} {l : List Nat} (h : KpB b0 w base x l) (hv : w.ownsRow base T 5 v n xs) (hg : w.grownBy w' v.ownBlock) (hb : base ≤ w.heap.size) (h00 : b0 ≤ base) : KpB b0 w' base x l := by
  rcases h with h | ⟨w0, h1, h2, h3⟩
  · refine Or.inl (own_keep h fun k hk => ?_)
    obtain ⟨_, _, ⟨rfl, _⟩ | ⟨q, _, cq, rfl, _, hq, _⟩⟩ := h
    · cases hk
    · cases hk
      refine hg.block q (Array.getElem?_eq_some_iff.1 hq).1 fun e => ?_
      obtain ⟨_, ⟨rfl, _⟩ | ⟨q2, _, cq2, rfl, _, hq2, _⟩⟩ := hv
      · cases e
      · cases e
        rw [hq] at hq2
        have e3 : 5 = T := by simp at hq2; exact hq2.2
        have := ty.ne
        rw [← e3] at this
        simp at this
  · exact Or.inr ⟨w0, h1, h2.grown hg (Nat.le_trans (Nat.le_trans h1 h00) hb) (fun k hk => Nat.le_trans (Nat.le_trans h1 h00) (hv.lt k hk).1), h3⟩
theorem run_app_rc {S T : TypeId} {b0 : Nat} (ty : TyR S T) {W : World} {base g : Nat} {v s : Value} {R : List Rc} {r : Rc} {fr : Nat × Nat} (t : TypeId) (hv : OwR T b0 W base v R) (hg : W.heap[g]? = some (.cells #[.int .i64 r.off, .int .u64 (r.x.key : Int), .int .u32 (r.x.cookie : Int), .bool r.x.del, s] T fr)) (hs : KpB b0 W base s r.x.data) (ok : RvOk ⟨r.off, r.x, s⟩) (hlm : R.length ≤ 100000000) (hb : base ≤ W.heap.size) (h00 : b0 ≤ base) :
    ∃ v' w', (Builtin.append_ #[S, S] t #[v, .slice (some ⟨g, 0, none⟩) 1 1]).run Tryd.prog W = .ok v' w' ∧ OwR T b0 w' base v' (R ++ [r]) ∧ W.grownBy w' v.ownBlock := by
  obtain ⟨i, hi, hz0, hz1, hz2⟩ := info_parts ty.info
  obtain ⟨L, rfl, h0, hown⟩ := hv
  rw [List.length_map] at hlm
  have hc : ∀ j u, (cellsR [⟨r.off, r.x, s⟩])[j]? = some u → W.cell? ((⟨g, 0, none⟩ : Addr).add j) = some u := fun j u hu => by
    rw [add_none, Nat.zero_add, cell_of_row W g j _ _ _ hg]
    simpa [cellsR, rvV] using hu
  obtain ⟨v', w', hr, ho, hgr, _⟩ := run_append_own (P := Tryd.prog) W base S t T i _ 5 48 ty.und hi hz0 hz1 hz2 rfl (by decide) _ _ _ hown ⟨g, 0, none⟩ 1 1 (cellsR [⟨r.off, r.x, s⟩]) (cellsR_length _) hc (cellsR_one _ (by simpa using ok)) (by unfold maxLen; omega) (by omega) hb
  refine ⟨v', w', hr, ⟨L ++ [⟨r.off, r.x, s⟩], by rw [List.map_append]; rfl, fun q hq => ?_, by rw [List.length_append, cellsR_append]; exact ho⟩, hgr⟩
  rcases List.mem_append.1 hq with hq | hq
  · exact ⟨(h0 q hq).1, kp_growR ty (h0 q hq).2 hown hgr hb h00⟩
  · obtain rfl : q = ⟨r.off, r.x, s⟩ := by simpa using hq
    exact ⟨ok, kp_growR ty hs hown hgr hb h00⟩
/-- append of one record, as a step. -/
theorem app_rc {S T : TypeId} {b0 : Nat} (ty : TyR S T) {ops : Array Oper} {rest : List Oper} {dst : Option Tmp} {s x : Operand} {pos : String} {after : Array Edge} {t : TypeId} {a : Act} {W : World} {Q : Exit → Act → World → Prop}
    {base g : Nat} {v d : Value} {R : List Rc} {r : Rc} {fr : Nat × Nat} (hs : a.eval s = v) (hx : a.eval x = .slice (some ⟨g, 0, none⟩) 1 1) (hv : OwR T b0 W base v R) (hg : W.heap[g]? = some (.cells #[.int .i64 r.off, .int .u64 (r.x.key : Int), .int .u32 (r.x.cookie : Int), .bool r.x.del, d] T fr)) (hd : KpB b0 W base d r.x.data) (ok : RvOk ⟨r.off, r.x, d⟩) (hlm : R.length ≤ 100000000) (hb : base ≤ W.heap.size) (h00 : b0 ≤ base)
    (h : ∀ v' w', OwR T b0 w' base v' (R ++ [r]) → W.grownBy w' v.ownBlock → wpList Tryd.prog ops Q rest (a.put dst v') w') : wpList Tryd.prog ops Q (⟨dst, .call { callee := .builtin .append, args := #[s, x], argTypes := #[S, S] }, t, pos, after, none⟩ :: rest) a W := by
  obtain ⟨v', w', hr, h2, h3⟩ := run_app_rc ty t hv hg hd ok hlm hb h00
  refine wpList_plain rfl fun _ hK => ?_
  unfold Oper.wp execOp
  simp only [resolve, invoke, builtin, Sem.run_bind, Sem.run_pure, Result.andThen_ok, List.map_toArray, List.map_cons, List.map_nil, hs, hx, hr]
  exact hK _ _ (h v' w' h2 h3)
/-- What stays of a world behind an append. -/
theorem below_grownR {T : TypeId} {b0 : Nat} {B : Nat} {a w w' : World} {base : Nat} {v : Value} {R : List Rc} (h : Below B a w) (hg : w.grownBy w' v.ownBlock) (ho : OwR T b0 w base v R) (hB : B ≤ w.heap.size) (hb : B ≤ base) : Below B a w' :=
  h.grown hg hB (fun k hk => Nat.le_trans hb (owR_lt ho k hk).1)
theorem ownsRow_set {T : TypeId} {w : World} {base n k g o : Nat} {v y : Value} {xs : List Value} (h : w.ownsRow base T k v n xs) (hg : g < base) : (w.setCell ⟨g, o, none⟩ y).ownsRow base T k v n xs := by
  obtain ⟨h1, h2 | ⟨q, cap, cur, rfl, hq, hb, h3⟩⟩ := h
  · exact ⟨h1, Or.inl h2⟩
  · exact ⟨h1, Or.inr ⟨q, cap, cur, rfl, hq, (heap_setCell_other _ _ _ _ (by show q ≠ g; omega)).trans hb, h3⟩⟩
/-- A store into an older block, but not one that the data lie in. -/
theorem owR_set {T : TypeId} {b0 : Nat} {w : World} {base g o : Nat} {v y : Value} {R : List Rc} (h : OwR T b0 w base v R) (hg : g < base) (h0 : b0 ≤ g) : OwR T b0 (w.setCell ⟨g, o, none⟩ y) base v R := by
  obtain ⟨L, h1, h2, h3⟩ := h
  refine ⟨L, h1, fun r hr => ⟨(h2 r hr).1, ?_⟩, ownsRow_set h3 hg⟩
  rcases (h2 r hr).2 with h | ⟨w0, e1, e2, e3⟩
  · exact Or.inl ⟨h.1, ownsRow_set h.2 hg⟩
  · exact Or.inr ⟨w0, e1, e2.setCell (p := ⟨g, o, none⟩) (Nat.le_trans e1 h0) _, e3⟩
theorem owR_base {T : TypeId} {b0 : Nat} {w : World} {base b2 : Nat} {v : Value} {R : List Rc} (h : OwR T b0 w base v R) (hb : b2 ≤ base) : OwR T b0 w b2 v R := by
  obtain ⟨L, h1, h2, h3⟩ := h
  refine ⟨L, h1, fun r hr => ⟨(h2 r hr).1, ?_⟩, ?_⟩
  · rcases (h2 r hr).2 with h | h
    · exact Or.inl (own_weak h hb)
    · exact Or.inr h
  · obtain ⟨e1, e2 | ⟨q, cap, cur, rfl, hq, h4⟩⟩ := h3
    · exact ⟨e1, Or.inl e2⟩
    · exact ⟨e1, Or.inr ⟨q, cap, cur, rfl, by omega, h4⟩⟩
end Go.Proofs.YtlnccofanicihaaDoor.Gf
