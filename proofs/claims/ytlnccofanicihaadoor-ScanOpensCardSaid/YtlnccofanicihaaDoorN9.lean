/- What is proved here: lists of needles in memory, and what an append of a needle answers. No condition. -/
import Derived.Test.YtlnccofanicihaaDoorI9
import Derived.OwnWalk
import Derived.IntWalk
import Derived.BigQuiet
import Derived.StillTailTactics
namespace Go.Proofs.YtlnccofanicihaaDoor.Gf
open Go Go.Joins Go.ChangeShapes Go.WideShapes Go.ChangeAt Go.RowKit Go.Deep Go.Proofs.YtlnccofanicihaaDoor.By

theorem undN : Tryd.prog.underlying 23 = some (.slice 56) := Tryd.underlying23
theorem infoN4 : (Tryd.prog.info? 56).map (fun i => (i.zero, i.size, i.bytes)) = some (some (.agg #[.int .u64 0, .int .u32 0, .bool false, .slice none 0 0]), 4, 40) := by kernel_rfl
/-- A needle in memory, and the value of the slice of its data. -/
structure NV where
  x : Ndl
  s : Value
def nv0 : NV := ⟨⟨0, 0, false, []⟩, .slice none 0 0⟩
structure NvOk (r : NV) : Prop where
  key : r.x.key < 18446744073709551616
  ck : r.x.cookie < 4294967296
  sl : ∃ a n c, r.s = .slice a n c
def nvV (r : NV) : List Value := [.int .u64 (r.x.key : Int), .int .u32 (r.x.cookie : Int), .bool r.x.del, r.s]
def cellsN (L : List NV) : List Value := L.flatMap nvV
theorem cellsN_append (L M : List NV) : cellsN (L ++ M) = cellsN L ++ cellsN M := by simp [cellsN]
theorem cellsN_cons (x : NV) (L : List NV) : cellsN (x :: L) = nvV x ++ cellsN L := by simp [cellsN]
theorem cellsN_length : ∀ (L : List NV), (cellsN L).length = L.length * 4
  | [] => rfl
  | x :: L => by rw [cellsN_cons, List.length_append, cellsN_length L, List.length_cons]; simp [nvV]; omega
theorem cellsN_at : ∀ (L : List NV) (k j : Nat), k < L.length → j < 4 → (cellsN L)[k * 4 + j]? = (nvV (L.getD k nv0))[j]?
  | [], k, _, h, _ => by simp at h
  | x :: L, 0, j, _, hj => by
    rw [cellsN_cons, Nat.zero_mul, Nat.zero_add, List.getElem?_append_left (by simpa [nvV] using hj)]
    rfl
  | x :: L, k + 1, j, h, hj => by
    have ih := cellsN_at L k j (by simpa using h) hj
    rw [cellsN_cons, List.getElem?_append_right (by simp [nvV]; omega), show (k + 1) * 4 + j - (nvV x).length = k * 4 + j by simp [nvV]; omega, ih]
    rfl
theorem cellsN_one (L : List NV) (h : ∀ r ∈ L, NvOk r) : ∀ u ∈ cellsN L, u.oneCell' = true := fun u hu => by
  simp only [cellsN, List.mem_flatMap] at hu
  obtain ⟨x, hm, hx⟩ := hu
  obtain ⟨a, n, c, hs⟩ := (h x hm).sl
  simp only [nvV, List.mem_cons, List.not_mem_nil, or_false] at hx
  rcases hx with rfl | rfl | rfl | rfl
  · rfl
  · rfl
  · rfl
  · rw [hs]; rfl
/-- The slice value v holds the cells of L. -/
def Nw (w : World) (v : Value) (L : List NV) : Prop :=
  (∀ r ∈ L, NvOk r) ∧ ∃ a cap, v = .slice a L.length cap ∧ L.length ≤ cap ∧ cap ≤ maxLen ∧ (0 < L.length → ∃ b off, a = some ⟨b, off, none⟩ ∧ ∀ j u, (cellsN L)[j]? = some u → w.cell? ⟨b, off + j, none⟩ = some u)
/-- The slice value v reads as the records R. -/
def Ns (w : World) (v : Value) (R : List Ndl) : Prop := ∃ L : List NV, L.map NV.x = R ∧ Nw w v L ∧ ∀ r ∈ L, Sl w r.s r.x.data
theorem ns_nil (w : World) : Ns w (.slice none 0 0) [] := ⟨[], rfl, ⟨by simp, none, 0, rfl, Nat.le_refl _, by simp, fun h => by simp at h⟩, by simp⟩
theorem ns_form {w : World} {v : Value} {R : List Ndl} (h : Ns w v R) : ∃ a cap, v = .slice a R.length cap ∧ R.length ≤ cap ∧ cap ≤ maxLen := by
  obtain ⟨L, rfl, ⟨_, a, cap, h1, h2, h3, _⟩, _⟩ := h
  exact ⟨a, cap, by rw [List.length_map]; exact h1, by rw [List.length_map]; exact h2, h3⟩
theorem ns_below {w w' : World} {v : Value} {R : List Ndl} (h : Ns w v R) (hB : Below w.heap.size w w') : Ns w' v R := by
  obtain ⟨L, h1, ⟨h0, a, cap, h2, h3, h4, h5⟩, h6⟩ := h
  refine ⟨L, h1, ⟨h0, a, cap, h2, h3, h4, fun hp => ?_⟩, fun r hr => sl_below (h6 r hr) hB⟩
  obtain ⟨b, off, e, hc⟩ := h5 hp
  exact ⟨b, off, e, fun j u hu => (hB.cell (block_lt_of_cell (hc j u hu))).trans (hc j u hu)⟩
/-- The five cells of a record. -/
structure C4n (w : World) (b o : Nat) (r : Ndl) (s : Value) : Prop where
  c0 : w.cell? ⟨b, o, none⟩ = some (.int .u64 (r.key : Int))
  c1 : w.cell? ⟨b, o + 1, none⟩ = some (.int .u32 (r.cookie : Int))
  c2 : w.cell? ⟨b, o + 2, none⟩ = some (.bool r.del)
  c3 : w.cell? ⟨b, o + 3, none⟩ = some s
  ok : NvOk ⟨r, s⟩
  sl : Sl w s r.data
def nd0 : Ndl := ⟨0, 0, false, []⟩
theorem ns_cells {w : World} {v : Value} {R : List Ndl} (h : Ns w v R) (hp : 0 < R.length) : ∃ b off cap, v = .slice (some ⟨b, off, none⟩) R.length cap ∧ R.length ≤ cap ∧ cap ≤ maxLen ∧ ∀ k, k < R.length → ∃ s, C4n w b (off + k * 4) (R.getD k nd0) s := by
  obtain ⟨L, rfl, ⟨h0, a, cap, h2, h3, h4, h5⟩, h6⟩ := h
  rw [List.length_map] at hp ⊢
  obtain ⟨b, off, rfl, hc⟩ := h5 hp
  refine ⟨b, off, cap, h2, h3, h4, fun k hk => ⟨(L.getD k nv0).s, ?_⟩⟩
  have hm : L.getD k nv0 ∈ L := by
    rw [List.getD_eq_getElem?_getD, List.getElem?_eq_getElem hk]
    exact List.getElem_mem _
  have he : (L.map NV.x).getD k nd0 = (L.getD k nv0).x := by
    rw [List.getD_eq_getElem?_getD, List.getElem?_map, List.getElem?_eq_getElem hk, List.getD_eq_getElem?_getD, List.getElem?_eq_getElem hk]
    rfl
  have hg : ∀ j, j < 4 → ∀ u, (nvV (L.getD k nv0))[j]? = some u → w.cell? ⟨b, off + (k * 4 + j), none⟩ = some u := fun j hj u hu => hc _ _ (by rw [cellsN_at L k j hk hj]; exact hu)
  rw [he]
  refine ⟨?_, ?_, ?_, ?_, h0 _ hm, h6 _ hm⟩
  · exact hg 0 (by decide) _ rfl
  · rw [Nat.add_assoc]; exact hg 1 (by decide) _ rfl
  · rw [Nat.add_assoc]; exact hg 2 (by decide) _ rfl
  · rw [Nat.add_assoc]; exact hg 3 (by decide) _ rfl
/-- The slice v is the call's own; its records' data are the call's own or older than base. -/
def OwN (b0 : Nat) (w : World) (base : Nat) (v : Value) (R : List Ndl) : Prop := ∃ L : List NV, L.map NV.x = R ∧ (∀ r ∈ L, NvOk r ∧ KpB b0 w base r.s r.x.data) ∧ w.ownsRow base 56 4 v L.length (cellsN L)
theorem owN_nil (b0 : Nat) (w : World) (base : Nat) : OwN b0 w base (.slice none 0 0) [] := ⟨[], rfl, by simp, World.ownsRow_nil _ _ _ _⟩
theorem owN_rs {b0 : Nat} {w : World} {base : Nat} {v : Value} {R : List Ndl} (h : OwN b0 w base v R) : Ns w v R := by
  obtain ⟨L, h1, h0, _, h2⟩ := h
  refine ⟨L, h1, ⟨fun r hr => (h0 r hr).1, ?_⟩, fun r hr => (h0 r hr).2.sl⟩
  rcases h2 with ⟨rfl, h2⟩ | ⟨g, cap, cur, rfl, hg, hb, hn, hm, hsz, ht⟩
  · obtain rfl := List.eq_nil_of_length_eq_zero h2
    exact ⟨none, 0, rfl, Nat.le_refl _, by simp, fun h => by simp at h⟩
  · refine ⟨_, _, rfl, hn, hm, fun _ => ⟨g, 0, rfl, fun j u hu => ?_⟩⟩
    rw [Nat.zero_add, cell_of_row w g j cur _ (0, 0) hb]
    rw [← ht, List.getElem?_take] at hu
    split at hu
    · simpa using hu
    · cases hu
theorem owN_form {b0 : Nat} {w : World} {base : Nat} {v : Value} {R : List Ndl} (h : OwN b0 w base v R) : ∃ a cap, v = .slice a R.length cap ∧ R.length ≤ cap ∧ cap ≤ maxLen := ns_form (owN_rs h)
theorem owN_lt {b0 : Nat} {w : World} {base : Nat} {v : Value} {R : List Ndl} (h : OwN b0 w base v R) : ∀ k, v.ownBlock = some k → base ≤ k ∧ k < w.heap.size := by
  obtain ⟨L, _, _, h2⟩ := h
  exact h2.lt
theorem owN_below {b0 : Nat} {w w' : World} {base : Nat} {v : Value} {R : List Ndl} (h : OwN b0 w base v R) (hB : Below w.heap.size w w') : OwN b0 w' base v R := by
  obtain ⟨L, h1, h0, h2⟩ := h
  exact ⟨L, h1, fun r hr => ⟨(h0 r hr).1, (h0 r hr).2.later hB⟩, owns5_below h2 hB⟩
/-- Bytes stay when a list of records grows. -/
theorem kp_growN {b0 : Nat} {w w' : World} {base n : Nat} {v x : Value} {xs : List Value} {l : List Nat} (h : KpB b0 w base x l) (hv : w.ownsRow base 56 4 v n xs) (hg : w.grownBy w' v.ownBlock) (hb : base ≤ w.heap.size) (h00 : b0 ≤ base) : KpB b0 w' base x l := by
  rcases h with h | ⟨w0, h1, h2, h3⟩
  · refine Or.inl (own_keep h fun k hk => ?_)
    obtain ⟨_, _, ⟨rfl, _⟩ | ⟨q, _, cq, rfl, _, hq, _⟩⟩ := h
    · cases hk
    · cases hk
      refine hg.block q (Array.getElem?_eq_some_iff.1 hq).1 fun e => ?_
      obtain ⟨_, ⟨rfl, _⟩ | ⟨q2, _, cq2, rfl, _, hq2, _⟩⟩ := hv
      · cases e
      · cases e
        rw [hq] at hq2
        simp at hq2
  · exact Or.inr ⟨w0, h1, h2.grown hg (Nat.le_trans (Nat.le_trans h1 h00) hb) (fun k hk => Nat.le_trans (Nat.le_trans h1 h00) (hv.lt k hk).1), h3⟩
theorem run_app_nd {b0 : Nat} {W : World} {base g : Nat} {v s : Value} {R : List Ndl} {r : Ndl} {fr : Nat × Nat} (t : TypeId) (hv : OwN b0 W base v R) (hg : W.heap[g]? = some (.cells #[.int .u64 (r.key : Int), .int .u32 (r.cookie : Int), .bool r.del, s] 56 fr)) (hs : KpB b0 W base s r.data) (ok : NvOk ⟨r, s⟩) (hlm : R.length ≤ 100000000) (hb : base ≤ W.heap.size) (h00 : b0 ≤ base) :
    ∃ v' w', (Builtin.append_ #[23, 23] t #[v, .slice (some ⟨g, 0, none⟩) 1 1]).run Tryd.prog W = .ok v' w' ∧ OwN b0 w' base v' (R ++ [r]) ∧ W.grownBy w' v.ownBlock := by
  obtain ⟨i, hi, hz0, hz1, hz2⟩ := info_parts infoN4
  obtain ⟨L, rfl, h0, hown⟩ := hv
  rw [List.length_map] at hlm
  have hc : ∀ j u, (cellsN [⟨r, s⟩])[j]? = some u → W.cell? ((⟨g, 0, none⟩ : Addr).add j) = some u := fun j u hu => by
    rw [add_none, Nat.zero_add, cell_of_row W g j _ _ _ hg]
    simpa [cellsN, nvV] using hu
  obtain ⟨v', w', hr, ho, hgr, _⟩ := run_append_own (P := Tryd.prog) W base 23 t 56 i _ 4 40 undN hi hz0 hz1 hz2 rfl (by decide) _ _ _ hown ⟨g, 0, none⟩ 1 1 (cellsN [⟨r, s⟩]) (cellsN_length _) hc (cellsN_one _ (by simpa using ok)) (by unfold maxLen; omega) (by omega) hb
  refine ⟨v', w', hr, ⟨L ++ [⟨r, s⟩], by rw [List.map_append]; rfl, fun q hq => ?_, by rw [List.length_append, cellsN_append]; exact ho⟩, hgr⟩
  rcases List.mem_append.1 hq with hq | hq
  · exact ⟨(h0 q hq).1, kp_growN (h0 q hq).2 hown hgr hb h00⟩
  · obtain rfl : q = ⟨r, s⟩ := by simpa using hq
    exact ⟨ok, kp_growN hs hown hgr hb h00⟩
/-- append of one record, as a step. -/
theorem app_nd {b0 : Nat} {ops : Array Oper} {rest : List Oper} {dst : Option Tmp} {s x : Operand} {pos : String} {after : Array Edge} {t : TypeId} {a : Act} {W : World} {Q : Exit → Act → World → Prop}
    {base g : Nat} {v d : Value} {R : List Ndl} {r : Ndl} {fr : Nat × Nat} (hs : a.eval s = v) (hx : a.eval x = .slice (some ⟨g, 0, none⟩) 1 1) (hv : OwN b0 W base v R) (hg : W.heap[g]? = some (.cells #[.int .u64 (r.key : Int), .int .u32 (r.cookie : Int), .bool r.del, d] 56 fr)) (hd : KpB b0 W base d r.data) (ok : NvOk ⟨r, d⟩) (hlm : R.length ≤ 100000000) (hb : base ≤ W.heap.size) (h00 : b0 ≤ base)
    (h : ∀ v' w', OwN b0 w' base v' (R ++ [r]) → W.grownBy w' v.ownBlock → wpList Tryd.prog ops Q rest (a.put dst v') w') : wpList Tryd.prog ops Q (⟨dst, .call { callee := .builtin .append, args := #[s, x], argTypes := #[23, 23] }, t, pos, after, none⟩ :: rest) a W := by
  obtain ⟨v', w', hr, h2, h3⟩ := run_app_nd t hv hg hd ok hlm hb h00
  refine wpList_plain rfl fun _ hK => ?_
  unfold Oper.wp execOp
  simp only [resolve, invoke, builtin, Sem.run_bind, Sem.run_pure, Result.andThen_ok, List.map_toArray, List.map_cons, List.map_nil, hs, hx, hr]
  exact hK _ _ (h v' w' h2 h3)
/-- What stays of a world behind an append. -/
theorem below_grownN {b0 : Nat} {B : Nat} {a w w' : World} {base : Nat} {v : Value} {R : List Ndl} (h : Below B a w) (hg : w.grownBy w' v.ownBlock) (ho : OwN b0 w base v R) (hB : B ≤ w.heap.size) (hb : B ≤ base) : Below B a w' :=
  h.grown hg hB (fun k hk => Nat.le_trans hb (owN_lt ho k hk).1)
/-- A store into an older block, but not one that the data lie in. -/
theorem owN_set {b0 : Nat} {w : World} {base g o : Nat} {v y : Value} {R : List Ndl} (h : OwN b0 w base v R) (hg : g < base) (h0 : b0 ≤ g) : OwN b0 (w.setCell ⟨g, o, none⟩ y) base v R := by
  obtain ⟨L, h1, h2, h3⟩ := h
  refine ⟨L, h1, fun r hr => ⟨(h2 r hr).1, ?_⟩, ownsRow_set h3 hg⟩
  rcases (h2 r hr).2 with h | ⟨w0, e1, e2, e3⟩
  · exact Or.inl ⟨h.1, ownsRow_set h.2 hg⟩
  · exact Or.inr ⟨w0, e1, e2.setCell (p := ⟨g, o, none⟩) (Nat.le_trans e1 h0) _, e3⟩
theorem owN_base {b0 : Nat} {w : World} {base b2 : Nat} {v : Value} {R : List Ndl} (h : OwN b0 w base v R) (hb : b2 ≤ base) : OwN b0 w b2 v R := by
  obtain ⟨L, h1, h2, h3⟩ := h
  refine ⟨L, h1, fun r hr => ⟨(h2 r hr).1, ?_⟩, ?_⟩
  · rcases (h2 r hr).2 with h | h
    · exact Or.inl (own_weak h hb)
    · exact Or.inr h
  · obtain ⟨e1, e2 | ⟨q, cap, cur, rfl, hq, h4⟩⟩ := h3
    · exact ⟨e1, Or.inl e2⟩
    · exact ⟨e1, Or.inr ⟨q, cap, cur, rfl, by omega, h4⟩⟩
end Go.Proofs.YtlnccofanicihaaDoor.Gf
