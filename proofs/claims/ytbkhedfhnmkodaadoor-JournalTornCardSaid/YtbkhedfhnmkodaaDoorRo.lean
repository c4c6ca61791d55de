/- What is proved here: slices of numbers, of bools and of rows of bytes, as they come in and as a call makes them; append to them; rows in memory of a call's own. No condition on the program beyond its types. -/
import Derived.Test.YtbkhedfhnmkodaaDoorBy
import Derived.Test.YtbkhedfhnmkodaaDoorGf
import Derived.Deep.Matrix
import Derived.Lib.SmallJoins
import Derived.BigQuiet
import Derived.IntWalk
namespace Go.Proofs.YtbkhedfhnmkodaaDoor.Gf
open Go Go.Joins Go.ChangeShapes Go.WideShapes Go.ChangeAt Go.RowKit Go.Deep Go.Proofs.YtbkhedfhnmkodaaDoor.By

/-- A slice of the call's own stays as it is where its block does. -/
theorem own_keep {w w' : World} {base : Nat} {v : Value} {l : List Nat} (h : Own w base v l) (hk : ∀ k, v.ownBlock = some k → w'.heap[k]? = w.heap[k]?) : Own w' base v l := by
  obtain ⟨h0, h1, h2⟩ := h
  refine ⟨h0, h1, ?_⟩
  rcases h2 with h3 | ⟨g, cap, cur, h3, hg, hb, hn, hm, hsz, ht⟩
  · exact Or.inl h3
  · exact Or.inr ⟨g, cap, cur, h3, hg, (hk g (by rw [h3]; rfl)).trans hb, hn, hm, hsz, ht⟩
theorem own_one {w : World} {base : Nat} {v : Value} {l : List Nat} (h : Own w base v l) : v.oneCell' = true := by
  obtain ⟨_, _, ⟨rfl, _⟩ | ⟨_, _, _, rfl, _⟩⟩ := h <;> rfl
theorem own_form {w : World} {base : Nat} {v : Value} {l : List Nat} (h : Own w base v l) : ∃ a n cap, v = .slice a n cap ∧ n = l.length := by
  obtain ⟨_, _, ⟨rfl, h0⟩ | ⟨g, cap, _, rfl, _⟩⟩ := h
  · exact ⟨none, 0, 0, rfl, h0.symm⟩
  · exact ⟨_, _, cap, rfl, rfl⟩
theorem bt {w w1 w2 : World} (h : Below w.heap.size w w1) (h2 : Below w1.heap.size w1 w2) : Below w.heap.size w w2 := h.trans (h2.mono h.size)
theorem lt_of_some {w : World} {k : Nat} {o : Obj} (h : w.heap[k]? = some o) : k < w.heap.size := (Array.getElem?_eq_some_iff.1 h).1
theorem wrap_nat {n : Nat} (h : n < 4611686018427387904) : wrap64 (n : Int) = (n : Int) := by unfold wrap64; omega
theorem below_drewN (w : World) (n : Nat) : Below w.heap.size w (w.drewN n) := ⟨rfl, rfl, rfl, Nat.le_refl _, fun _ _ => rfl⟩
theorem own_base {w : World} {base base' : Nat} {v : Value} {l : List Nat} (hb : base' ≤ base) (h : Own w base v l) : Own w base' v l := by
  obtain ⟨a, b, d | ⟨q, cap, cur, d1, d2, d3⟩⟩ := h
  · exact ⟨a, b, Or.inl d⟩
  · exact ⟨a, b, Or.inr ⟨q, cap, cur, d1, by omega, d3⟩⟩
theorem own_some {w : World} {base : Nat} {v : Value} {l : List Nat} (h : Own w base v l) (hl : 0 < l.length) : ∃ g cap, v = .slice (some ⟨g, 0, none⟩) l.length cap ∧ base ≤ g ∧ g < w.heap.size := by
  obtain ⟨a, b, ⟨_, d⟩ | ⟨q, cap, cur, d1, d2, d3, _⟩⟩ := h
  · omega
  · exact ⟨q, cap, d1, d2, (Array.getElem?_eq_some_iff.1 d3).1⟩
theorem sl_cut {w : World} {b o n cap p c : Nat} {l : List Nat} (hl : ∀ x ∈ l, x < 256) (hn : l.length = n) (hm : cap ≤ maxLen) (hc : n ≤ cap) (hk : ∀ k, k < n → w.cell? ⟨b, o + k, none⟩ = some (.int .u8 ((l.getD k 0 : Nat) : Int))) (h : p + c ≤ n) :
    Sl w (.slice (some ⟨b, o + p, none⟩) c (cap - p)) ((l.drop p).take c) := by
  have hlen : ((l.drop p).take c).length = c := by simp; omega
  refine ⟨mem_take (mem_drop hl p) c, by rw [hlen]; omega, Or.inr ⟨b, o + p, cap - p, by rw [hlen], by rw [hlen]; omega, by omega, fun k hk2 => ?_⟩⟩
  rw [hlen] at hk2
  have := hk (p + k) (by omega)
  rw [show o + p + k = o + (p + k) by omega, this]
  simp [List.getD, hk2]
theorem getD_set_eq {α : Type} {l : List α} {k : Nat} {x d : α} (hk : k < l.length) : (l.set k x).getD k d = x := by simp [List.getD, hk]
theorem getD_set_other {α : Type} {l : List α} {k j : Nat} {x d : α} (h : j ≠ k) : (l.set k x).getD j d = l.getD j d := by
  simp only [List.getD, List.getElem?_set_ne (Ne.symm h)]
theorem getD_out {l : List Nat} {q : Nat} (h : l.length ≤ q) : l.getD q 0 = 0 := by simp [List.getD, List.getElem?_eq_none h]
theorem getD_outL {L : List (List Nat)} {k : Nat} (h : L.length ≤ k) : L.getD k [] = [] := by simp [List.getD, List.getElem?_eq_none h]
theorem first_bad (P : Nat → Prop) [DecidablePred P] : ∀ m, ∃ j, j ≤ m ∧ (∀ i, i < j → P i) ∧ (j < m → ¬ P j)
  | 0 => ⟨0, Nat.le_refl _, fun i hi => by omega, fun h => by omega⟩
  | m + 1 => by
    obtain ⟨j, h1, h2, h3⟩ := first_bad P m
    by_cases hj : j < m
    · exact ⟨j, by omega, h2, fun _ => h3 hj⟩
    · obtain rfl : j = m := by omega
      by_cases hp : P j
      · exact ⟨j + 1, Nat.le_refl _, fun i hi => by
          by_cases e : i = j
          · rw [e]; exact hp
          · exact h2 i (by omega), fun h => by omega⟩
      · exact ⟨j, by omega, h2, fun _ => hp⟩
/-- The slice value v reads as the ints l. -/
def Si (w : World) (v : Value) (l : List Int) : Prop :=
  (∀ z ∈ l, -9223372036854775808 ≤ z ∧ z ≤ 9223372036854775807) ∧ l.length ≤ maxLen ∧ ((∃ a cap, v = .slice a 0 cap ∧ l = [] ∧ cap ≤ maxLen) ∨ ∃ b off cap, v = .slice (some ⟨b, off, none⟩) l.length cap ∧ l.length ≤ cap ∧ cap ≤ maxLen ∧ ∀ k, k < l.length → w.cell? ⟨b, off + k, none⟩ = some (.int .i64 (l.getD k 0)))
theorem cellsI : Tryd.prog.cellsOf 3 = 1 := by kernel_rfl
theorem cellsS : Tryd.prog.cellsOf 23 = 1 := by kernel_rfl
theorem infoI : (Tryd.prog.info? 3).map (fun i => (i.zero, i.size, i.bytes)) = some (some (.int .i64 0), 1, 8) := by kernel_rfl
theorem infoS : (Tryd.prog.info? 23).map (fun i => (i.zero, i.size, i.bytes)) = some (some (.slice none 0 0), 1, 24) := by kernel_rfl
theorem add_none {b off : Nat} (k : Nat) : (⟨b, off, none⟩ : Addr).add k = ⟨b, off + k, none⟩ := by unfold Addr.add; split <;> simp_all
theorem si_below {w w' : World} {v : Value} {l : List Int} (h : Si w v l) (hB : Below w.heap.size w w') : Si w' v l := by
  obtain ⟨h1, h2, h3⟩ := h
  refine ⟨h1, h2, ?_⟩
  rcases h3 with h3 | ⟨b, off, cap, hv, hc1, hc2, hcell⟩
  · exact Or.inl h3
  · exact Or.inr ⟨b, off, cap, hv, hc1, hc2, fun k hk => (hB.cell (p := ⟨b, off + k, none⟩) (block_lt_of_cell (hcell k hk))).trans (hcell k hk)⟩
theorem si_form {w : World} {v : Value} {l : List Int} (h : Si w v l) : ∃ a cap, v = .slice a l.length cap ∧ l.length ≤ cap ∧ cap ≤ maxLen := by
  obtain ⟨_, _, ⟨a, cap, rfl, rfl, h3⟩ | ⟨b, off, cap, rfl, h3, h4, _⟩⟩ := h
  · exact ⟨a, cap, rfl, by simp, h3⟩
  · exact ⟨_, cap, rfl, h3, h4⟩
theorem si_cells {w : World} {v : Value} {l : List Int} (h : Si w v l) (hl : 0 < l.length) : ∃ b off cap, v = .slice (some ⟨b, off, none⟩) l.length cap ∧ l.length ≤ cap ∧ cap ≤ maxLen ∧ ∀ k, k < l.length → w.cell? ⟨b, off + k, none⟩ = some (.int .i64 (l.getD k 0)) := by
  obtain ⟨_, _, ⟨_, _, _, h0, _⟩ | h⟩ := h
  · subst h0
    simp at hl
  · exact h
/-- The slice value v reads as the rows of bytes L. -/
def Sr (w : World) (v : Value) (L : List (List Nat)) : Prop :=
  L.length ≤ maxLen ∧ ((∃ a cap, v = .slice a 0 cap ∧ L = [] ∧ cap ≤ maxLen) ∨ ∃ b off cap, v = .slice (some ⟨b, off, none⟩) L.length cap ∧ L.length ≤ cap ∧ cap ≤ maxLen ∧ ∀ k, k < L.length → ∃ x, w.cell? ⟨b, off + k, none⟩ = some x ∧ Sl w x (L.getD k []))
theorem sr_below {w w' : World} {v : Value} {L : List (List Nat)} (h : Sr w v L) (hB : Below w.heap.size w w') : Sr w' v L := by
  obtain ⟨h2, h3⟩ := h
  refine ⟨h2, ?_⟩
  rcases h3 with h3 | ⟨b, off, cap, hv, hc1, hc2, hcell⟩
  · exact Or.inl h3
  · refine Or.inr ⟨b, off, cap, hv, hc1, hc2, fun k hk => ?_⟩
    obtain ⟨x, hx, hs⟩ := hcell k hk
    exact ⟨x, (hB.cell (p := ⟨b, off + k, none⟩) (block_lt_of_cell hx)).trans hx, sl_below hs hB⟩
theorem sr_form {w : World} {v : Value} {L : List (List Nat)} (h : Sr w v L) : ∃ a cap, v = .slice a L.length cap ∧ L.length ≤ cap ∧ cap ≤ maxLen := by
  obtain ⟨_, ⟨a, cap, rfl, rfl, h3⟩ | ⟨b, off, cap, rfl, h3, h4, _⟩⟩ := h
  · exact ⟨a, cap, rfl, by simp, h3⟩
  · exact ⟨_, cap, rfl, h3, h4⟩
theorem sr_cells {w : World} {v : Value} {L : List (List Nat)} (h : Sr w v L) (hl : 0 < L.length) : ∃ b off cap, v = .slice (some ⟨b, off, none⟩) L.length cap ∧ L.length ≤ cap ∧ cap ≤ maxLen ∧ ∀ k, k < L.length → ∃ x, w.cell? ⟨b, off + k, none⟩ = some x ∧ Sl w x (L.getD k []) := by
  obtain ⟨_, ⟨_, _, _, h0, _⟩ | h⟩ := h
  · subst h0
    simp at hl
  · exact h
theorem sr_open {H : Type} {enc : TypeId × Value → H} {W : World} {base : Nat} {v : Value} {d : DataW H} {p : List MemPlace} (hv : Value.okWide Tryd.prog W .any base 26 v) (h : DataW.Trod enc Tryd.prog W 0 (fun _ => true) true 26 v d p) : ∃ L, Sr W v L := by
  obtain ⟨a, len, cap, rfl⟩ := okWide_slice Tryd.underlying26 hv
  obtain ⟨fuel, hf⟩ := h
  rcases open_int_rows Tryd.underlying26 Tryd.underlying23 Tryd.underlying5 cellsS cellsB hf with ⟨hcs, _⟩ | ⟨x, l, c, A, Ln, C, Z, hcs, _, hl, hm, _, hr⟩
  · simp [Value.cells] at hcs
    obtain ⟨rfl, rfl, rfl⟩ := hcs
    exact ⟨[], by simp, Or.inl ⟨none, 0, rfl, rfl, by simp⟩⟩
  · simp [Value.cells] at hcs
    obtain ⟨rfl, rfl, rfl⟩ := hcs
    by_cases h0 : 0 < cap
    · obtain ⟨b, off, spot⟩ := x
      have hc := (hr 0 (by omega)).1
      have hspot : spot = none := by simpa [Addr.add] using World.cell?_spot hc
      subst hspot
      refine ⟨(List.range len).map fun r => ((Z r).take (Ln r)).map Int.toNat, by simp; omega, Or.inr ⟨b, off, cap, by simp, by simpa using hl, hm, fun k hk => ?_⟩⟩
      have hk' : k < len := by simpa using hk
      obtain ⟨h1, h2, h3, h4, h5, h6, h7⟩ := hr k (by omega)
      rw [add_none] at h1
      refine ⟨_, h1, ?_⟩
      have hg : (List.map (fun r => ((Z r).take (Ln r)).map Int.toNat) (List.range len)).getD k [] = ((Z k).take (Ln k)).map Int.toNat := by simp [List.getD, hk']
      rw [hg]
      have hb : ∀ n ∈ Z k, 0 ≤ n ∧ n < 256 := fun n hn => by
        have := h5 n hn
        simp [Lit.wf, IntKind.min, IntKind.max, IntKind.signed, IntKind.bits] at this
        omega
      have hlen : (((Z k).take (Ln k)).map Int.toNat).length = Ln k := by simp; omega
      refine ⟨fun b hb' => ?_, by rw [hlen]; omega, ?_⟩
      · obtain ⟨n, hn, rfl⟩ := List.mem_map.1 hb'
        have := hb n (List.mem_of_mem_take hn)
        omega
      · by_cases hz : Ln k = 0
        · exact Or.inl ⟨_, _, by rw [hz], List.eq_nil_of_length_eq_zero (by rw [hlen, hz]), h3⟩
        · cases ha : A k with
          | none => have := h6 ha; omega
          | some a' =>
            obtain ⟨b', off', spot'⟩ := a'
            have hcell := (h7 _ ha).2
            have hspot : spot' = none := by simpa [Addr.add] using World.cell?_spot (hcell 0 (by omega))
            subst hspot
            refine Or.inr ⟨b', off', C k, by rw [hlen], by rw [hlen]; exact h2, h3, fun j hj => ?_⟩
            rw [hlen] at hj
            have hck := hcell j (by omega)
            rw [add_none] at hck
            rw [hck]
            have hj2 : j < (Z k).length := by omega
            have hn := hb ((Z k)[j]) (List.getElem_mem hj2)
            simp [List.getD, hj, hj2]
            omega
    · exact ⟨[], by simp, Or.inl ⟨some x, cap, by rw [show len = 0 by omega], rfl, hm⟩⟩
theorem sl_trod {H : Type} {enc : TypeId × Value → H} {W : World} {v : Value} {n : Nat} {y : DataW H × List MemPlace} (hf : DataW.trod enc Tryd.prog W 0 (fun _ => true) true n 23 [v] = some y) : ∃ l, Sl W v l := by
  rcases open_ints Tryd.underlying23 Tryd.underlying5 cellsB hf with ⟨hcs, _⟩ | ⟨x, len, cap, zs, hcs, _, hl, hm, hz, _, hcell, hwz⟩
  · obtain rfl : v = .slice none 0 0 := by simpa using hcs
    exact ⟨[], sl_nil W⟩
  · obtain rfl : v = .slice (some x) len cap := by simpa using hcs
    have hz' : zs.length = cap := by simpa using hz
    have hb : ∀ n ∈ zs, 0 ≤ n ∧ n < 256 := fun n hn => by
      have := hwz n hn
      simp [Lit.wf, IntKind.min, IntKind.max, IntKind.signed, IntKind.bits] at this
      omega
    have hlen : ((zs.take len).map Int.toNat).length = len := by simp; omega
    refine ⟨(zs.take len).map Int.toNat, fun b hb' => ?_, by rw [hlen]; omega, ?_⟩
    · obtain ⟨n, hn, rfl⟩ := List.mem_map.1 hb'
      have := hb n (List.mem_of_mem_take hn)
      omega
    · by_cases h0 : 0 < cap
      · refine Or.inr ?_
        obtain ⟨b, off, spot⟩ := x
        have hc := hcell 0 (by omega)
        have hspot : spot = none := by simpa [Addr.add] using World.cell?_spot hc
        subst hspot
        refine ⟨b, off, cap, by rw [hlen], by omega, hm, fun k hk => ?_⟩
        rw [hlen] at hk
        have hck := hcell k (by omega)
        rw [add_none] at hck
        rw [hck]
        have hk2 : k < zs.length := by omega
        have hn := hb (zs[k]) (List.getElem_mem hk2)
        simp [List.getD, hk, hk2]
        omega
      · exact Or.inl ⟨some x, cap, by rw [show len = 0 by omega], List.eq_nil_of_length_eq_zero (by rw [hlen]; omega), hm⟩
/-- append of one new value to a slice of the call's own. -/
theorem run_app1 {S E : TypeId} {z0 : Value} {bytes : Nat} (hS : Tryd.prog.underlying S = some (.slice E)) (hI : (Tryd.prog.info? E).map (fun i => (i.zero, i.size, i.bytes)) = some (some z0, 1, bytes)) (hz : z0.cells.size = 1)
    {W : World} {base n g : Nat} {v u : Value} {xs : List Value} {fr : Nat × Nat} (ty : TypeId) (hv : W.ownsRow base E 1 v n xs) (hg : W.heap[g]? = some (.cells #[u] E fr)) (hu : u.oneCell' = true) (hn : n ≤ 1000000) (hby : bytes ≤ 1000) (hb : base ≤ W.heap.size) :
    ∃ v' w', (Builtin.append_ #[S, S] ty #[v, .slice (some ⟨g, 0, none⟩) 1 1]).run Tryd.prog W = .ok v' w' ∧ w'.ownsRow base E 1 v' (n + 1) (xs ++ [u]) ∧ W.grownBy w' v.ownBlock := by
  obtain ⟨i, hi, hz0, hz1, hz2⟩ := info_parts hI
  obtain ⟨v', w', hr, ho, hg', _⟩ := run_append_own (P := Tryd.prog) W base S ty E i z0 1 bytes hS hi hz0 hz1 hz2 hz (by decide) _ _ _ hv ⟨g, 0, none⟩ 1 1 [u] (by simp) (fun j x hx => by
    have hj : j = 0 := by have := (List.getElem?_eq_some_iff.1 hx).1; simp at this; exact this
    subst hj
    obtain rfl : u = x := by simpa using hx
    rw [add_none, cell_of_row _ _ _ _ _ _ hg]
    rfl) (by simpa using hu) (by unfold maxLen; omega) (by have := Nat.mul_le_mul (show n + 1 ≤ 1000001 by omega) hby; omega) hb
  exact ⟨v', w', hr, ho, hg'⟩
theorem app1 {S E : TypeId} {z0 : Value} {bytes : Nat} (hS : Tryd.prog.underlying S = some (.slice E)) (hI : (Tryd.prog.info? E).map (fun i => (i.zero, i.size, i.bytes)) = some (some z0, 1, bytes)) (hz : z0.cells.size = 1) (hby : bytes ≤ 1000)
    {ops : Array Oper} {rest : List Oper} {dst : Option Tmp} {s x : Operand} {pos : String} {after : Array Edge} {ty : TypeId} {a : Act} {W : World} {Q : Exit → Act → World → Prop}
    {base n g : Nat} {v u : Value} {xs : List Value} {fr : Nat × Nat} (hs : a.eval s = v) (hy : a.eval x = .slice (some ⟨g, 0, none⟩) 1 1) (hv : W.ownsRow base E 1 v n xs) (hg : W.heap[g]? = some (.cells #[u] E fr)) (hu : u.oneCell' = true) (hn : n ≤ 1000000) (hb : base ≤ W.heap.size)
    (h : ∀ v' w', w'.ownsRow base E 1 v' (n + 1) (xs ++ [u]) → W.grownBy w' v.ownBlock → wpList Tryd.prog ops Q rest (a.put dst v') w') : wpList Tryd.prog ops Q (⟨dst, .call { callee := .builtin .append, args := #[s, x], argTypes := #[S, S] }, ty, pos, after, none⟩ :: rest) a W := by
  refine wpList_plain rfl fun _ hK => ?_
  obtain ⟨v', w', hr, h2, h3⟩ := run_app1 hS hI hz ty hv hg hu hn hby hb
  unfold Oper.wp execOp
  simp only [resolve, invoke, builtin, Sem.run_bind, Sem.run_pure, Result.andThen_ok, List.map_toArray, List.map_cons, List.map_nil, hs, hy, hr]
  exact hK _ _ (h v' w' h2 h3)
theorem ownsRow_form {w : World} {base n : Nat} {E : TypeId} {v : Value} {xs : List Value} (h : w.ownsRow base E 1 v n xs) : ∃ a cap, v = .slice a n cap := by
  obtain ⟨_, ⟨rfl, h0⟩ | ⟨g, cap, _, rfl, _⟩⟩ := h
  · exact ⟨none, 0, by rw [h0]⟩
  · exact ⟨_, cap, rfl⟩
theorem ownsRow_mono {w w' : World} {base n : Nat} {E : TypeId} {v : Value} {xs : List Value} (h : w.ownsRow base E 1 v n xs) (hB : Below w.heap.size w w') : w'.ownsRow base E 1 v n xs := by
  obtain ⟨h1, h2⟩ := h
  refine ⟨h1, ?_⟩
  rcases h2 with h3 | ⟨g, cap, cur, h3, hg, hb, hr⟩
  · exact Or.inl h3
  · exact Or.inr ⟨g, cap, cur, h3, hg, (hB.block g (Array.getElem?_eq_some_iff.1 hb).1).trans hb, hr⟩
/-- Ints in memory of the call's own. -/
def OwnI (w : World) (base : Nat) (v : Value) (l : List Int) : Prop := (∀ z ∈ l, -9223372036854775808 ≤ z ∧ z ≤ 9223372036854775807) ∧ w.ownsRow base 3 1 v l.length (l.map fun z => .int .i64 z)
theorem OwnI.si {w : World} {base : Nat} {v : Value} {l : List Int} (h : OwnI w base v l) : Si w v l := by
  obtain ⟨hl, _, h1⟩ := h
  rcases h1 with ⟨rfl, h2⟩ | ⟨g, cap, cur, rfl, hg, hb, hn, hm, hsz, ht⟩
  · obtain rfl := List.eq_nil_of_length_eq_zero h2
    exact ⟨by simp, by simp, Or.inl ⟨none, 0, rfl, rfl, by simp⟩⟩
  · refine ⟨hl, by omega, Or.inr ⟨g, 0, cap, rfl, hn, hm, fun k hk => ?_⟩⟩
    rw [Nat.zero_add, cell_of_row w g k cur 3 (0, 0) hb]
    have e := congrArg (·[k]?) ht
    simp only [Nat.mul_one, List.getElem?_take, hk, if_true, List.getElem?_map] at e
    simpa [List.getD, hk] using e
theorem owni_push {w : World} {base : Nat} {v : Value} {l : List Int} {z : Int} (hl : ∀ z ∈ l, -9223372036854775808 ≤ z ∧ z ≤ 9223372036854775807) (hz : -9223372036854775808 ≤ z ∧ z ≤ 9223372036854775807) (h : w.ownsRow base 3 1 v (l.length + 1) ((l.map fun z => Value.int .i64 z) ++ [.int .i64 z])) : OwnI w base v (l ++ [z]) := by
  refine ⟨fun x hx => ?_, by simpa using h⟩
  rcases List.mem_append.1 hx with hx | hx
  · exact hl x hx
  · rw [List.mem_singleton] at hx
    rw [hx]
    exact hz
/-- Rows of bytes, the rows and their list in memory of the call's own. -/
def OwnR (w : World) (base : Nat) (v : Value) (vs : List Value) (L : List (List Nat)) : Prop := w.ownsRow base 23 1 v vs.length vs ∧ vs.length = L.length ∧ ∀ k, k < L.length → Own w base (vs.getD k undef) (L.getD k [])
theorem OwnR.sr {w : World} {base : Nat} {v : Value} {vs : List Value} {L : List (List Nat)} (h : OwnR w base v vs L) : Sr w v L := by
  obtain ⟨⟨_, h1⟩, hl, hk⟩ := h
  rcases h1 with ⟨rfl, h2⟩ | ⟨g, cap, cur, rfl, hg, hb, hn, hm, hsz, ht⟩
  · obtain rfl : L = [] := List.eq_nil_of_length_eq_zero (by omega)
    exact ⟨by simp, Or.inl ⟨none, 0, rfl, rfl, by simp⟩⟩
  · refine ⟨by omega, Or.inr ⟨g, 0, cap, by rw [hl], by omega, hm, fun k hk2 => ⟨vs.getD k undef, ?_, (hk k hk2).sl⟩⟩⟩
    rw [Nat.zero_add, cell_of_row w g k cur 23 (0, 0) hb]
    have e := congrArg (·[k]?) ht
    have hk3 : k < vs.length := by omega
    simp only [Nat.mul_one, List.getElem?_take, hk3, if_true] at e
    simpa [List.getD, hk3] using e
theorem ownr_nil (w : World) (base : Nat) : OwnR w base (.slice none 0 0) [] [] := ⟨World.ownsRow_nil _ _ _ _, rfl, fun k hk => by simp at hk⟩
theorem own_below' {w w' : World} {base : Nat} {v : Value} {l : List Nat} (h : Own w base v l) (hB : Below w.heap.size w w') : Own w' base v l := ⟨h.1, ownsRow_mono h.2 hB⟩
theorem ownr_below {w w' : World} {base : Nat} {v : Value} {vs : List Value} {L : List (List Nat)} (h : OwnR w base v vs L) (hB : Below w.heap.size w w') : OwnR w' base v vs L :=
  ⟨ownsRow_mono h.1 hB, h.2.1, fun k hk => own_below' (h.2.2 k hk) hB⟩
/-- Bytes of the call's own stay when a list of rows grows. -/
theorem own_rows_grow {w w' : World} {base n : Nat} {v x : Value} {xs : List Value} {l : List Nat} (h : Own w base x l) (hv : w.ownsRow base 23 1 v n xs) (hg : w.grownBy w' v.ownBlock) : Own w' base x l := by
  refine own_keep h fun k hk => ?_
  obtain ⟨_, _, ⟨rfl, _⟩ | ⟨q, _, cq, rfl, _, hq, _⟩⟩ := h
  · cases hk
  · cases hk
    refine hg.block q (Array.getElem?_eq_some_iff.1 hq).1 fun e => ?_
    obtain ⟨_, ⟨rfl, _⟩ | ⟨q2, _, cq2, rfl, _, hq2, _⟩⟩ := hv
    · cases e
    · cases e
      rw [hq] at hq2
      simp at hq2
theorem ownr_push {w w' : World} {base : Nat} {v v' x : Value} {vs : List Value} {L : List (List Nat)} {l : List Nat} (h : OwnR w base v vs L) (hx : Own w base x l) (hg : w.grownBy w' v.ownBlock) (ho : w'.ownsRow base 23 1 v' (vs.length + 1) (vs ++ [x])) : OwnR w' base v' (vs ++ [x]) (L ++ [l]) := by
  refine ⟨by simpa using ho, by simp [h.2.1], fun k hk => ?_⟩
  have hl := h.2.1
  by_cases e : k < L.length
  · have h1 : (vs ++ [x]).getD k undef = vs.getD k undef := by simp [List.getD, List.getElem?_append, show k < vs.length by omega]
    have h2 : (L ++ [l]).getD k [] = L.getD k [] := by simp [List.getD, List.getElem?_append, e]
    rw [h1, h2]
    exact own_rows_grow (h.2.2 k e) h.1 hg
  · have e2 : k = L.length := by simp at hk; omega
    have h1 : (vs ++ [x]).getD k undef = x := by rw [e2, ← hl]; simp [List.getD]
    have h2 : (L ++ [l]).getD k [] = l := by rw [e2]; simp [List.getD]
    rw [h1, h2]
    exact own_rows_grow hx h.1 hg
theorem owns_sr {w : World} {base : Nat} {v : Value} {vs : List Value} {L : List (List Nat)} (h : w.ownsRow base 23 1 v vs.length vs) (hl : vs.length = L.length) (hk : ∀ k, k < L.length → Sl w (vs.getD k undef) (L.getD k [])) : Sr w v L := by
  obtain ⟨_, h1⟩ := h
  rcases h1 with ⟨rfl, h2⟩ | ⟨g, cap, cur, rfl, hg, hb, hn, hm, hsz, ht⟩
  · obtain rfl : L = [] := List.eq_nil_of_length_eq_zero (by omega)
    exact ⟨by simp, Or.inl ⟨none, 0, rfl, rfl, by simp⟩⟩
  · refine ⟨by omega, Or.inr ⟨g, 0, cap, by rw [hl], by omega, hm, fun k hk2 => ⟨vs.getD k undef, ?_, hk k hk2⟩⟩⟩
    rw [Nat.zero_add, cell_of_row w g k cur 23 (0, 0) hb]
    have e := congrArg (·[k]?) ht
    have hk3 : k < vs.length := by omega
    simp only [Nat.mul_one, List.getElem?_take, hk3, if_true] at e
    simpa [List.getD, hk3] using e
/-- The slice value v reads as the rows L, each of them in memory made behind base. -/
def SrO (w : World) (base : Nat) (v : Value) (L : List (List Nat)) : Prop :=
  L.length ≤ maxLen ∧ ((∃ a cap, v = .slice a 0 cap ∧ L = [] ∧ cap ≤ maxLen) ∨ ∃ b off cap, v = .slice (some ⟨b, off, none⟩) L.length cap ∧ L.length ≤ cap ∧ cap ≤ maxLen ∧ ∀ k, k < L.length → ∃ x, w.cell? ⟨b, off + k, none⟩ = some x ∧ Own w base x (L.getD k []))
theorem SrO.sr {w : World} {base : Nat} {v : Value} {L : List (List Nat)} (h : SrO w base v L) : Sr w v L := by
  obtain ⟨h1, h2 | ⟨b, off, cap, hv, h3, h4, hk⟩⟩ := h
  · exact ⟨h1, Or.inl h2⟩
  · exact ⟨h1, Or.inr ⟨b, off, cap, hv, h3, h4, fun k hkl => by obtain ⟨x, hx, ho⟩ := hk k hkl; exact ⟨x, hx, ho.sl⟩⟩⟩
theorem SrO.down {w : World} {base base' : Nat} {v : Value} {L : List (List Nat)} (h : SrO w base v L) (hb : base' ≤ base) : SrO w base' v L := by
  obtain ⟨h1, h2 | ⟨b, off, cap, hv, h3, h4, hk⟩⟩ := h
  · exact ⟨h1, Or.inl h2⟩
  · exact ⟨h1, Or.inr ⟨b, off, cap, hv, h3, h4, fun k hkl => by obtain ⟨x, hx, ho⟩ := hk k hkl; exact ⟨x, hx, own_base hb ho⟩⟩⟩
theorem sro_nil (w : World) (base : Nat) : SrO w base (.slice none 0 0) [] := ⟨by simp, Or.inl ⟨none, 0, rfl, rfl, by simp⟩⟩
/-- Bytes that writing to a list of rows made behind base does not touch. -/
def Kp (w : World) (base : Nat) (x : Value) (l : List Nat) : Prop := Own w base x l ∨ ∃ w0, w0.heap.size ≤ base ∧ Below w0.heap.size w0 w ∧ Sl w0 x l
theorem Kp.sl {w : World} {base : Nat} {x : Value} {l : List Nat} (h : Kp w base x l) : Sl w x l := by
  rcases h with h | ⟨w0, _, hb, hs⟩
  · exact h.sl
  · exact sl_below hs hb
theorem Kp.later {w w' : World} {base : Nat} {x : Value} {l : List Nat} (h : Kp w base x l) (hb : Below w.heap.size w w') : Kp w' base x l := by
  rcases h with h | ⟨w0, h1, h2, hs⟩
  · exact Or.inl (own_below' h hb)
  · exact Or.inr ⟨w0, h1, bt h2 hb, hs⟩
theorem Kp.grow {w w' : World} {base n : Nat} {v x : Value} {xs : List Value} {l : List Nat} (h : Kp w base x l) (hv : w.ownsRow base 23 1 v n xs) (hg : w.grownBy w' v.ownBlock) : Kp w' base x l := by
  rcases h with h | ⟨w0, h1, h2, hs⟩
  · exact Or.inl (own_rows_grow h hv hg)
  · exact Or.inr ⟨w0, h1, h2.grown hg h2.size fun q hq => Nat.le_trans h1 (hv.lt q hq).1, hs⟩
theorem Kp.set {w : World} {base n g q c : Nat} {x y : Value} {xs : List Value} {l : List Nat} (h : Kp w base x l) (hv : w.ownsRow base 23 1 (.slice (some ⟨g, 0, none⟩) n c) n xs) : Kp (w.setCell ⟨g, q, none⟩ y) base x l := by
  have hb := (hv.lt g rfl).1
  rcases h with h | ⟨w0, h1, h2, hs⟩
  · refine Or.inl (own_keep h fun k hk => heap_setCell_other _ _ _ _ fun e => ?_)
    subst e
    obtain ⟨_, ⟨h3, _⟩ | ⟨g2, cap, cur, h3, hg, hb, _⟩⟩ := hv
    · cases h3
    · cases h3
      obtain ⟨_, _, ⟨rfl, _⟩ | ⟨q2, _, cq, rfl, _, hq, _⟩⟩ := h
      · cases hk
      · cases hk
        rw [hb] at hq
        simp at hq
  · exact Or.inr ⟨w0, h1, h2.setCell (Nat.le_trans h1 hb) _, hs⟩
/-- A list of rows in memory of the call's own. -/
structure OwnK (w : World) (base : Nat) (v : Value) (vs : List Value) (L : List (List Nat)) : Prop where
  row : w.ownsRow base 23 1 v vs.length vs
  len : vs.length = L.length
  kp : ∀ k, k < L.length → Kp w base (vs.getD k undef) (L.getD k [])
section
variable {w w' : World} {b0 : Nat} {v : Value} {vs : List Value} {L : List (List Nat)}
theorem OwnK.sr (h : OwnK w b0 v vs L) : Sr w v L := owns_sr h.row h.len fun k hk => (h.kp k hk).sl
theorem OwnK.later (h : OwnK w b0 v vs L) (hb : Below w.heap.size w w') : OwnK w' b0 v vs L := ⟨ownsRow_mono h.row hb, h.len, fun k hk => (h.kp k hk).later hb⟩
theorem ownk_nil (w : World) (b0 : Nat) : OwnK w b0 (.slice none 0 0) [] [] := ⟨World.ownsRow_nil _ _ _ _, rfl, fun k hk => by simp at hk⟩
theorem ownk_empty (w : World) {b0 : Nat} (hb : b0 ≤ w.heap.size) : OwnK (w.alloc (.cells #[] 23)) b0 (.slice (some ⟨w.heap.size, 0, none⟩) 0 0) [] [] :=
  ⟨⟨by simp, Or.inr ⟨w.heap.size, 0, #[], rfl, hb, heap_alloc_new _ _, by simp, by simp, rfl, rfl⟩⟩, rfl, fun k hk => by simp at hk⟩
/-- Rows that append takes. -/
def Src (w : World) (b0 : Nat) (x : Value) (P : List (List Nat)) : Prop :=
  ∃ (b off cap : Nat) (ys : List Value), x = .slice (some ⟨b, off, none⟩) P.length cap ∧ ys.length = P.length ∧ (∀ k u, ys[k]? = some u → w.cell? ⟨b, off + k, none⟩ = some u) ∧ ∀ k, k < P.length → Kp w b0 (ys.getD k undef) (P.getD k [])
theorem src_of {b off cap n : Nat} {P : List (List Nat)} {x : Value} (hv : x = .slice (some ⟨b, off, none⟩) P.length cap) (hn : P.length = n) (hk : ∀ k, k < n → ∃ y, w.cell? ⟨b, off + k, none⟩ = some y ∧ Kp w b0 y (P.getD k [])) : Src w b0 x P := by
  subst hn
  refine ⟨b, off, cap, (List.range P.length).map fun k => (w.cell? ⟨b, off + k, none⟩).getD undef, hv, by simp, fun k u hu => ?_, fun k hkm => ?_⟩
  · simp only [List.getElem?_map, Option.map_eq_some_iff] at hu
    obtain ⟨n, hn, rfl⟩ := hu
    obtain ⟨hn1, rfl⟩ := List.getElem?_eq_some_iff.1 hn
    simp at hn1
    obtain ⟨y, hy, _⟩ := hk k hn1
    simp [hy]
  · obtain ⟨y, hy, hs⟩ := hk k hkm
    have : ((List.range P.length).map fun k => (w.cell? ⟨b, off + k, none⟩).getD undef).getD k undef = y := by simp [List.getD, hkm, hy]
    rw [this]
    exact hs
theorem SrO.src {x : Value} {P : List (List Nat)} (h : SrO w b0 x P) (hp : 0 < P.length) : Src w b0 x P := by
  obtain ⟨_, ⟨_, _, _, h0, _⟩ | ⟨b, off, cap, hv, _, _, hk⟩⟩ := h
  · subst h0
    simp at hp
  · exact src_of hv rfl fun k hkl => by
      obtain ⟨y, hy, ho⟩ := hk k hkl
      exact ⟨y, hy, Or.inl ho⟩
theorem Sr.src {w0 : World} {x : Value} {P : List (List Nat)} (h : Sr w0 x P) (hp : 0 < P.length) (hb : w0.heap.size ≤ b0) (hw : Below w0.heap.size w0 w) : Src w b0 x P := by
  obtain ⟨b, off, cap, hv, _, _, hk⟩ := sr_cells h hp
  exact src_of hv rfl fun k hkl => by
    obtain ⟨y, hy, hs⟩ := hk k hkl
    exact ⟨y, (hw.cell (p := ⟨b, off + k, none⟩) (block_lt_of_cell hy)).trans hy, Or.inr ⟨w0, hb, hw, hs⟩⟩
theorem OwnK.src (h : OwnK w b0 v vs L) (hp : 0 < L.length) : Src w b0 v L := by
  obtain ⟨⟨_, h1⟩, hl, hk⟩ := h
  rcases h1 with ⟨rfl, h2⟩ | ⟨g, cap, cur, rfl, hg, hb, hn, hm, hsz, ht⟩
  · omega
  · exact ⟨g, 0, cap, vs, by rw [hl], hl, fun k u hu => by
      have hk3 : k < vs.length := (List.getElem?_eq_some_iff.1 hu).1
      rw [Nat.zero_add, cell_of_row w g k cur 23 (0, 0) hb]
      have e := congrArg (·[k]?) ht
      simp only [Nat.mul_one, List.getElem?_take, hk3, if_true] at e
      simpa [hu] using e, hk⟩
theorem kp_one {x : Value} {l : List Nat} (h : Kp w b0 x l) : x.oneCell' = true := by
  obtain ⟨a, cap, rfl, _, _⟩ := sl_form h.sl
  rfl
end
set_option maxRecDepth 100000 in
/-- append of rows. -/
theorem run_app_rows {W : World} {b0 n : Nat} {v x : Value} {vs : List Value} {L P : List (List Nat)} (ty : TypeId) (hv : OwnK W b0 v vs L) (hn : L.length = n) (hx : Src W b0 x P) (hlm : n + P.length ≤ 1000) (hb : b0 ≤ W.heap.size) :
    ∃ v' w' ys, (Builtin.append_ #[26, 26] ty #[v, x]).run Tryd.prog W = .ok v' w' ∧ OwnK w' b0 v' (vs ++ ys) (L ++ P) ∧ W.grownBy w' v.ownBlock := by
  obtain ⟨b, off, cap, ys, rfl, hy, hc, hk⟩ := hx
  obtain ⟨i, hi, hz0, hz1, hz2⟩ := info_parts infoS
  obtain ⟨v', w', hr, ho, hg, _⟩ := run_append_own (P := Tryd.prog) W b0 26 ty 23 i (.slice none 0 0) 1 24 Tryd.underlying26 hi hz0 hz1 hz2 rfl (by decide) _ _ _ hv.row ⟨b, off, none⟩ P.length cap ys (by rw [hy, Nat.mul_one]) (fun j u hu => by rw [add_none]; exact hc j u hu)
    (fun u hu => by
      obtain ⟨j, hj, rfl⟩ := List.mem_iff_getElem.1 hu
      have := hk j (by omega)
      simp only [List.getD, List.getElem?_eq_getElem hj, Option.getD_some] at this
      exact kp_one this) (by have := hv.len; unfold maxLen; omega) (by have := hv.len; omega) hb
  have hl := hv.len
  refine ⟨v', w', ys, hr, ⟨by rw [List.length_append, hy]; exact ho, by simp [hl, hy], fun k hkl => ?_⟩, hg⟩
  by_cases e : k < L.length
  · have h1 : (vs ++ ys).getD k undef = vs.getD k undef := by simp [List.getD, List.getElem?_append, show k < vs.length by omega]
    have h2 : (L ++ P).getD k [] = L.getD k [] := by simp [List.getD, List.getElem?_append, e]
    rw [h1, h2]
    exact (hv.kp k e).grow hv.row hg
  · have h1 : (vs ++ ys).getD k undef = ys.getD (k - L.length) undef := by simp [List.getD, List.getElem?_append, hl, e]
    have h2 : (L ++ P).getD k [] = P.getD (k - L.length) [] := by simp [List.getD, List.getElem?_append, e]
    rw [h1, h2]
    exact (hk _ (by simp at hkl; omega)).grow hv.row hg
theorem app_rows {ops : Array Oper} {rest : List Oper} {dst : Option Tmp} {s x : Operand} {pos : String} {after : Array Edge} {ty : TypeId} {a : Act} {W : World} {Q : Exit → Act → World → Prop}
    {b0 n : Nat} {v y : Value} {vs : List Value} {L P : List (List Nat)} (hs : a.eval s = v) (hy : a.eval x = y) (hv : OwnK W b0 v vs L) (hn : L.length = n) (hx : Src W b0 y P) (hlm : n + P.length ≤ 1000) (hb : b0 ≤ W.heap.size)
    (h : ∀ v' w' ys, OwnK w' b0 v' (vs ++ ys) (L ++ P) → W.grownBy w' v.ownBlock → wpList Tryd.prog ops Q rest (a.put dst v') w') : wpList Tryd.prog ops Q (⟨dst, .call { callee := .builtin .append, args := #[s, x], argTypes := #[26, 26] }, ty, pos, after, none⟩ :: rest) a W := by
  refine wpList_plain rfl fun _ hK => ?_
  obtain ⟨v', w', ys, hr, h2, h3⟩ := run_app_rows ty hv hn hx hlm hb
  unfold Oper.wp execOp
  simp only [resolve, invoke, builtin, Sem.run_bind, Sem.run_pure, Result.andThen_ok, List.map_toArray, List.map_cons, List.map_nil, hs, hy, hr]
  exact hK _ _ (h v' w' ys h2 h3)
theorem src_one {w : World} {b0 g : Nat} {x : Value} {l : List Nat} {fr : Nat × Nat} (hg : w.heap[g]? = some (.cells #[x] 23 fr)) (hx : Kp w b0 x l) : Src w b0 (.slice (some ⟨g, 0, none⟩) 1 1) [l] :=
  ⟨g, 0, 1, [x], rfl, rfl, fun k u hu => by
    have hk : k = 0 := by have := (List.getElem?_eq_some_iff.1 hu).1; simp at this; exact this
    subst hk
    obtain rfl : x = u := by simpa using hu
    exact cell_of_row _ _ _ _ _ _ hg, fun k hk => by
    have hk : k = 0 := by simp at hk; exact hk
    subst hk
    exact hx⟩
theorem ownk_form {w : World} {b0 n : Nat} {v : Value} {vs : List Value} {L : List (List Nat)} (h : OwnK w b0 v vs L) (hn : L.length = n) (h0 : 0 < n) : ∃ g cap, v = .slice (some ⟨g, 0, none⟩) n cap ∧ n ≤ cap ∧ cap ≤ maxLen ∧ b0 ≤ g ∧ g < w.heap.size := by
  have hl := h.len
  obtain ⟨_, ⟨rfl, h2⟩ | ⟨g, cap, cur, rfl, hg, hb, hc, hm, _⟩⟩ := h.row
  · omega
  · exact ⟨g, cap, by rw [show vs.length = n by omega], by omega, hm, hg, lt_of_some hb⟩
/-- An element of a list of rows. -/
theorem ownk_cell {w : World} {b0 n g c q : Nat} {vs : List Value} {L : List (List Nat)} (h : OwnK w b0 (.slice (some ⟨g, 0, none⟩) n c) vs L) (hn : L.length = n) (hq : q < n) : w.cell? ⟨g, q, none⟩ = some (vs.getD q undef) ∧ w.frozen? ⟨g, q, none⟩ = false := by
  have hl := h.len
  obtain ⟨_, ⟨h3, _⟩ | ⟨g2, cap, cur, h3, hg, hb, hc, hm, hsz, ht⟩⟩ := h.row
  · cases h3
  · cases h3
    refine ⟨?_, frozen_of_row w g q cur 23 hb⟩
    rw [cell_of_row w g q cur 23 (0, 0) hb]
    have e := congrArg (·[q]?) ht
    have hk3 : q < vs.length := by omega
    simp only [Nat.mul_one, List.getElem?_take, hk3, if_true] at e
    simpa [List.getD, hk3] using e
theorem ownk_set {w : World} {b0 n g c q : Nat} {x : Value} {l : List Nat} {vs : List Value} {L : List (List Nat)} (h : OwnK w b0 (.slice (some ⟨g, 0, none⟩) n c) vs L) (hn : L.length = n) (hq : q < n) (hx : Kp w b0 x l) : OwnK (w.setCell ⟨g, q, none⟩ x) b0 (.slice (some ⟨g, 0, none⟩) n c) (vs.set q x) (L.set q l) := by
  have hl := h.len
  have hrow : w.ownsRow b0 23 1 (.slice (some ⟨g, 0, none⟩) n c) n vs := by
    have := h.row
    rwa [show vs.length = n by omega] at this
  refine ⟨?_, by simpa using hl, fun k hk => ?_⟩
  · obtain ⟨h1, ⟨h3, _⟩ | ⟨g2, cap, cur, h3, hg, hb, hc, hm, hsz, ht⟩⟩ := hrow
    · cases h3
    · cases h3
      refine ⟨by simp, Or.inr ⟨g, c, cur.setIfInBounds q x, by simp; omega, hg, heap_setCell_same w g q cur 23 _ hb, by simp; omega, hm, by simpa using hsz, ?_⟩⟩
      rw [List.length_set, show vs.length = n by omega, Array.toList_setIfInBounds, List.take_set, ht]
  · by_cases e : k = q
    · subst e
      rw [getD_set_eq (by omega), getD_set_eq (by omega)]
      exact hx.set hrow
    · rw [getD_set_other e, getD_set_other e]
      exact (h.kp k (by simpa using hk)).set hrow
end Go.Proofs.YtbkhedfhnmkodaaDoor.Gf
