/- What is proved here: slices of ints, slices of slices of bytes and matrices, as they come in and as a call makes them. No condition on the program beyond its types. -/
import Derived.Test.YtppfdaiehdbafaaR3
import Derived.Deep.Matrix
import Derived.Lib.SmallJoins
namespace Go.Proofs.Ytppfdaiehdbafaa.Gf
open Go Go.Joins Go.ChangeShapes Go.WideShapes Go.ChangeAt Go.RowKit Go.Deep Go.Proofs.Ytppfdaiehdbafaa.By

/-- The slice value v reads as the ints l. -/
def Si (w : World) (v : Value) (l : List Int) : Prop :=
  (∀ z ∈ l, -9223372036854775808 ≤ z ∧ z ≤ 9223372036854775807) ∧ l.length ≤ maxLen ∧ ((∃ a cap, v = .slice a 0 cap ∧ l = [] ∧ cap ≤ maxLen) ∨ ∃ b off cap, v = .slice (some ⟨b, off, none⟩) l.length cap ∧ l.length ≤ cap ∧ cap ≤ maxLen ∧ ∀ k, k < l.length → w.cell? ⟨b, off + k, none⟩ = some (.int .i64 (l.getD k 0)))
theorem cellsI : Try.prog.cellsOf 3 = 1 := by kernel_rfl
theorem cellsS : Try.prog.cellsOf 22 = 1 := by kernel_rfl
theorem infoI : (Try.prog.info? 3).map (fun i => (i.zero, i.size, i.bytes)) = some (some (.int .i64 0), 1, 8) := by kernel_rfl
theorem infoS : (Try.prog.info? 22).map (fun i => (i.zero, i.size, i.bytes)) = some (some (.slice none 0 0), 1, 24) := by kernel_rfl
theorem add_none {b off : Nat} (k : Nat) : (⟨b, off, none⟩ : Addr).add k = ⟨b, off + k, none⟩ := by unfold Addr.add; split <;> simp_all
theorem si_open {H : Type} {enc : TypeId × Value → H} {W : World} {base : Nat} {v : Value} {d : DataW H} {p : List MemPlace} (hv : Value.okWide Try.prog W .any base 28 v) (h : DataW.Trod enc Try.prog W 0 (fun _ => true) true 28 v d p) : ∃ l, Si W v l := by
  obtain ⟨a, len, cap, rfl⟩ := okWide_slice Try.underlying28 hv
  obtain ⟨fuel, hf⟩ := h
  rcases open_ints Try.underlying28 Try.underlying3 cellsI hf with ⟨hcs, _⟩ | ⟨x, l, c, zs, hcs, _, hl, hm, hz, _, hcell, hwz⟩
  · simp [Value.cells] at hcs
    obtain ⟨rfl, rfl, rfl⟩ := hcs
    exact ⟨[], by simp, by simp, Or.inl ⟨none, 0, rfl, rfl, by simp⟩⟩
  · simp [Value.cells] at hcs
    obtain ⟨rfl, rfl, rfl⟩ := hcs
    have hz' : zs.length = cap := by simpa using hz
    have hlen : (zs.take len).length = len := by simp; omega
    refine ⟨zs.take len, fun z hz2 => bounds_i64 (hwz z (List.mem_of_mem_take hz2)), by rw [hlen]; omega, ?_⟩
    by_cases h0 : 0 < cap
    · refine Or.inr ?_
      obtain ⟨b, off, spot⟩ := x
      have hc := hcell 0 (by omega)
      have hspot : spot = none := by simpa [Addr.add] using World.cell?_spot hc
      subst hspot
      refine ⟨b, off, cap, by rw [hlen], by omega, hm, fun k hk => ?_⟩
      rw [hlen] at hk
      have hck := hcell k (by omega)
      rw [add_none] at hck
      rw [hck]
      simp [List.getD, hk]
    · exact Or.inl ⟨some x, cap, by rw [show len = 0 by omega], List.eq_nil_of_length_eq_zero (by rw [hlen]; omega), hm⟩
theorem si_below {w w' : World} {v : Value} {l : List Int} (h : Si w v l) (hB : Below w.heap.size w w') : Si w' v l := by
  obtain ⟨h1, h2, h3⟩ := h
  refine ⟨h1, h2, ?_⟩
  rcases h3 with h3 | ⟨b, off, cap, hv, hc1, hc2, hcell⟩
  · exact Or.inl h3
  · exact Or.inr ⟨b, off, cap, hv, hc1, hc2, fun k hk => (hB.cell (p := ⟨b, off + k, none⟩) (block_lt_of_cell (hcell k hk))).trans (hcell k hk)⟩
theorem si_form {w : World} {v : Value} {l : List Int} (h : Si w v l) : ∃ a cap, v = .slice a l.length cap ∧ l.length ≤ cap ∧ cap ≤ maxLen := by
  obtain ⟨_, _, ⟨a, cap, rfl, rfl, h3⟩ | ⟨b, off, cap, rfl, h3, h4, _⟩⟩ := h
  · exact ⟨a, cap, rfl, by simp, h3⟩
  · exact ⟨_, cap, rfl, h3, h4⟩
theorem si_cells {w : World} {v : Value} {l : List Int} (h : Si w v l) (hl : 0 < l.length) : ∃ b off cap, v = .slice (some ⟨b, off, none⟩) l.length cap ∧ l.length ≤ cap ∧ cap ≤ maxLen ∧ ∀ k, k < l.length → w.cell? ⟨b, off + k, none⟩ = some (.int .i64 (l.getD k 0)) := by
  obtain ⟨_, _, ⟨_, _, _, h0, _⟩ | h⟩ := h
  · subst h0
    simp at hl
  · exact h

/-- The slice value v reads as the rows of bytes L. -/
def Sr (w : World) (v : Value) (L : List (List Nat)) : Prop :=
  L.length ≤ maxLen ∧ ((∃ a cap, v = .slice a 0 cap ∧ L = [] ∧ cap ≤ maxLen) ∨ ∃ b off cap, v = .slice (some ⟨b, off, none⟩) L.length cap ∧ L.length ≤ cap ∧ cap ≤ maxLen ∧ ∀ k, k < L.length → ∃ x, w.cell? ⟨b, off + k, none⟩ = some x ∧ Sl w x (L.getD k []))
theorem sr_below {w w' : World} {v : Value} {L : List (List Nat)} (h : Sr w v L) (hB : Below w.heap.size w w') : Sr w' v L := by
  obtain ⟨h2, h3⟩ := h
  refine ⟨h2, ?_⟩
  rcases h3 with h3 | ⟨b, off, cap, hv, hc1, hc2, hcell⟩
  · exact Or.inl h3
  · refine Or.inr ⟨b, off, cap, hv, hc1, hc2, fun k hk => ?_⟩
    obtain ⟨x, hx, hs⟩ := hcell k hk
    exact ⟨x, (hB.cell (p := ⟨b, off + k, none⟩) (block_lt_of_cell hx)).trans hx, sl_below hs hB⟩
theorem sr_form {w : World} {v : Value} {L : List (List Nat)} (h : Sr w v L) : ∃ a cap, v = .slice a L.length cap ∧ L.length ≤ cap ∧ cap ≤ maxLen := by
  obtain ⟨_, ⟨a, cap, rfl, rfl, h3⟩ | ⟨b, off, cap, rfl, h3, h4, _⟩⟩ := h
  · exact ⟨a, cap, rfl, by simp, h3⟩
  · exact ⟨_, cap, rfl, h3, h4⟩
theorem sr_cells {w : World} {v : Value} {L : List (List Nat)} (h : Sr w v L) (hl : 0 < L.length) : ∃ b off cap, v = .slice (some ⟨b, off, none⟩) L.length cap ∧ L.length ≤ cap ∧ cap ≤ maxLen ∧ ∀ k, k < L.length → ∃ x, w.cell? ⟨b, off + k, none⟩ = some x ∧ Sl w x (L.getD k []) := by
  obtain ⟨_, ⟨_, _, _, h0, _⟩ | h⟩ := h
  · subst h0
    simp at hl
  · exact h
theorem sr_open {H : Type} {enc : TypeId × Value → H} {W : World} {base : Nat} {v : Value} {d : DataW H} {p : List MemPlace} (hv : Value.okWide Try.prog W .any base 35 v) (h : DataW.Trod enc Try.prog W 0 (fun _ => true) true 35 v d p) : ∃ L, Sr W v L := by
  obtain ⟨a, len, cap, rfl⟩ := okWide_slice Try.underlying35 hv
  obtain ⟨fuel, hf⟩ := h
  rcases open_int_rows Try.underlying35 Try.underlying22 Try.underlying5 cellsS cellsB hf with ⟨hcs, _⟩ | ⟨x, l, c, A, Ln, C, Z, hcs, _, hl, hm, _, hr⟩
  · simp [Value.cells] at hcs
    obtain ⟨rfl, rfl, rfl⟩ := hcs
    exact ⟨[], by simp, Or.inl ⟨none, 0, rfl, rfl, by simp⟩⟩
  · simp [Value.cells] at hcs
    obtain ⟨rfl, rfl, rfl⟩ := hcs
    by_cases h0 : 0 < cap
    · obtain ⟨b, off, spot⟩ := x
      have hc := (hr 0 (by omega)).1
      have hspot : spot = none := by simpa [Addr.add] using World.cell?_spot hc
      subst hspot
      refine ⟨(List.range len).map fun r => ((Z r).take (Ln r)).map Int.toNat, by simp; omega, Or.inr ⟨b, off, cap, by simp, by simpa using hl, hm, fun k hk => ?_⟩⟩
      have hk' : k < len := by simpa using hk
      obtain ⟨h1, h2, h3, h4, h5, h6, h7⟩ := hr k (by omega)
      rw [add_none] at h1
      refine ⟨_, h1, ?_⟩
      have hg : (List.map (fun r => ((Z r).take (Ln r)).map Int.toNat) (List.range len)).getD k [] = ((Z k).take (Ln k)).map Int.toNat := by simp [List.getD, hk']
      rw [hg]
      have hb : ∀ n ∈ Z k, 0 ≤ n ∧ n < 256 := fun n hn => by
        have := h5 n hn
        simp [Lit.wf, IntKind.min, IntKind.max, IntKind.signed, IntKind.bits] at this
        omega
      have hlen : (((Z k).take (Ln k)).map Int.toNat).length = Ln k := by simp; omega
      refine ⟨fun b hb' => ?_, by rw [hlen]; omega, ?_⟩
      · obtain ⟨n, hn, rfl⟩ := List.mem_map.1 hb'
        have := hb n (List.mem_of_mem_take hn)
        omega
      · by_cases hz : Ln k = 0
        · exact Or.inl ⟨_, _, by rw [hz], List.eq_nil_of_length_eq_zero (by rw [hlen, hz]), h3⟩
        · cases ha : A k with
          | none => have := h6 ha; omega
          | some a' =>
            obtain ⟨b', off', spot'⟩ := a'
            have hcell := (h7 _ ha).2
            have hspot : spot' = none := by simpa [Addr.add] using World.cell?_spot (hcell 0 (by omega))
            subst hspot
            refine Or.inr ⟨b', off', C k, by rw [hlen], by rw [hlen]; exact h2, h3, fun j hj => ?_⟩
            rw [hlen] at hj
            have hck := hcell j (by omega)
            rw [add_none] at hck
            rw [hck]
            have hj2 : j < (Z k).length := by omega
            have hn := hb ((Z k)[j]) (List.getElem_mem hj2)
            simp [List.getD, hj, hj2]
            omega
    · exact ⟨[], by simp, Or.inl ⟨some x, cap, by rw [show len = 0 by omega], rfl, hm⟩⟩
theorem sl_trod {H : Type} {enc : TypeId × Value → H} {W : World} {v : Value} {n : Nat} {y : DataW H × List MemPlace} (hf : DataW.trod enc Try.prog W 0 (fun _ => true) true n 22 [v] = some y) : ∃ l, Sl W v l := by
  rcases open_ints Try.underlying22 Try.underlying5 cellsB hf with ⟨hcs, _⟩ | ⟨x, len, cap, zs, hcs, _, hl, hm, hz, _, hcell, hwz⟩
  · obtain rfl : v = .slice none 0 0 := by simpa using hcs
    exact ⟨[], sl_nil W⟩
  · obtain rfl : v = .slice (some x) len cap := by simpa using hcs
    have hz' : zs.length = cap := by simpa using hz
    have hb : ∀ n ∈ zs, 0 ≤ n ∧ n < 256 := fun n hn => by
      have := hwz n hn
      simp [Lit.wf, IntKind.min, IntKind.max, IntKind.signed, IntKind.bits] at this
      omega
    have hlen : ((zs.take len).map Int.toNat).length = len := by simp; omega
    refine ⟨(zs.take len).map Int.toNat, fun b hb' => ?_, by rw [hlen]; omega, ?_⟩
    · obtain ⟨n, hn, rfl⟩ := List.mem_map.1 hb'
      have := hb n (List.mem_of_mem_take hn)
      omega
    · by_cases h0 : 0 < cap
      · refine Or.inr ?_
        obtain ⟨b, off, spot⟩ := x
        have hc := hcell 0 (by omega)
        have hspot : spot = none := by simpa [Addr.add] using World.cell?_spot hc
        subst hspot
        refine ⟨b, off, cap, by rw [hlen], by omega, hm, fun k hk => ?_⟩
        rw [hlen] at hk
        have hck := hcell k (by omega)
        rw [add_none] at hck
        rw [hck]
        have hk2 : k < zs.length := by omega
        have hn := hb (zs[k]) (List.getElem_mem hk2)
        simp [List.getD, hk, hk2]
        omega
      · exact Or.inl ⟨some x, cap, by rw [show len = 0 by omega], List.eq_nil_of_length_eq_zero (by rw [hlen]; omega), hm⟩
/-- A matrix that came in. -/
theorem mx_open {H : Type} {enc : TypeId × Value → H} {W : World} {base : Nat} {v : Value} {d : DataW H} {p : List MemPlace} (hv : Value.okWide Try.prog W .any base 26 v) (h : DataW.Trod enc Try.prog W 0 (fun _ => true) true 26 v d p) : ∃ r c s l, v = mv r c s ∧ (-9223372036854775808 ≤ r ∧ r ≤ 9223372036854775807) ∧ (-9223372036854775808 ≤ c ∧ c ≤ 9223372036854775807) ∧ Sl W s l := by
  obtain ⟨v0, v1, v2, y0, y1, y2, n, rfl, rfl, rfl, h0, h1, h2⟩ := open_agg3 Try.underlying26 (by kernel_rfl) (by kernel_rfl) hv h
  obtain ⟨r, hr, _, wr⟩ := DataW.trod_int Try.underlying3 h0
  obtain ⟨c, hc, _, wc⟩ := DataW.trod_int Try.underlying3 h1
  obtain ⟨l, hl⟩ := sl_trod h2
  obtain rfl : v0 = .int .i64 r := by simpa using hr
  obtain rfl : v1 = .int .i64 c := by simpa using hc
  exact ⟨r, c, v2, l, rfl, bounds_i64 wr, bounds_i64 wc, hl⟩

/-- append of one new value to a slice of the call's own. -/
theorem run_app1 {S E : TypeId} {z0 : Value} {bytes : Nat} (hS : Try.prog.underlying S = some (.slice E)) (hI : (Try.prog.info? E).map (fun i => (i.zero, i.size, i.bytes)) = some (some z0, 1, bytes)) (hz : z0.cells.size = 1)
    {W : World} {base n g : Nat} {v u : Value} {xs : List Value} {fr : Nat × Nat} (ty : TypeId) (hv : W.ownsRow base E 1 v n xs) (hg : W.heap[g]? = some (.cells #[u] E fr)) (hu : u.oneCell' = true) (hn : n ≤ 1000000) (hby : bytes ≤ 1000) (hb : base ≤ W.heap.size) :
    ∃ v' w', (Builtin.append_ #[S, S] ty #[v, .slice (some ⟨g, 0, none⟩) 1 1]).run Try.prog W = .ok v' w' ∧ w'.ownsRow base E 1 v' (n + 1) (xs ++ [u]) ∧ W.grownBy w' v.ownBlock := by
  obtain ⟨i, hi, hz0, hz1, hz2⟩ := info_parts hI
  obtain ⟨v', w', hr, ho, hg', _⟩ := run_append_own (P := Try.prog) W base S ty E i z0 1 bytes hS hi hz0 hz1 hz2 hz (by decide) _ _ _ hv ⟨g, 0, none⟩ 1 1 [u] (by simp) (fun j x hx => by
    have hj : j = 0 := by have := (List.getElem?_eq_some_iff.1 hx).1; simp at this; exact this
    subst hj
    obtain rfl : u = x := by simpa using hx
    rw [add_none, cell_of_row _ _ _ _ _ _ hg]
    rfl) (by simpa using hu) (by unfold maxLen; omega) (by have := Nat.mul_le_mul (show n + 1 ≤ 1000001 by omega) hby; omega) hb
  exact ⟨v', w', hr, ho, hg'⟩
theorem app1 {S E : TypeId} {z0 : Value} {bytes : Nat} (hS : Try.prog.underlying S = some (.slice E)) (hI : (Try.prog.info? E).map (fun i => (i.zero, i.size, i.bytes)) = some (some z0, 1, bytes)) (hz : z0.cells.size = 1) (hby : bytes ≤ 1000)
    {ops : Array Oper} {rest : List Oper} {dst : Option Tmp} {s x : Operand} {pos : String} {after : Array Edge} {ty : TypeId} {a : Act} {W : World} {Q : Exit → Act → World → Prop}
    {base n g : Nat} {v u : Value} {xs : List Value} {fr : Nat × Nat} (hs : a.eval s = v) (hy : a.eval x = .slice (some ⟨g, 0, none⟩) 1 1) (hv : W.ownsRow base E 1 v n xs) (hg : W.heap[g]? = some (.cells #[u] E fr)) (hu : u.oneCell' = true) (hn : n ≤ 1000000) (hb : base ≤ W.heap.size)
    (h : ∀ v' w', w'.ownsRow base E 1 v' (n + 1) (xs ++ [u]) → W.grownBy w' v.ownBlock → wpList Try.prog ops Q rest (a.put dst v') w') : wpList Try.prog ops Q (⟨dst, .call { callee := .builtin .append, args := #[s, x], argTypes := #[S, S] }, ty, pos, after, none⟩ :: rest) a W := by
  refine wpList_plain rfl fun _ hK => ?_
  obtain ⟨v', w', hr, h2, h3⟩ := run_app1 hS hI hz ty hv hg hu hn hby hb
  unfold Oper.wp execOp
  simp only [resolve, invoke, builtin, Sem.run_bind, Sem.run_pure, Result.andThen_ok, List.map_toArray, List.map_cons, List.map_nil, hs, hy, hr]
  exact hK _ _ (h v' w' h2 h3)
theorem ownsRow_form {w : World} {base n : Nat} {E : TypeId} {v : Value} {xs : List Value} (h : w.ownsRow base E 1 v n xs) : ∃ a cap, v = .slice a n cap := by
  obtain ⟨_, ⟨rfl, h0⟩ | ⟨g, cap, _, rfl, _⟩⟩ := h
  · exact ⟨none, 0, by rw [h0]⟩
  · exact ⟨_, cap, rfl⟩
theorem ownsRow_mono {w w' : World} {base n : Nat} {E : TypeId} {v : Value} {xs : List Value} (h : w.ownsRow base E 1 v n xs) (hB : Below w.heap.size w w') : w'.ownsRow base E 1 v n xs := by
  obtain ⟨h1, h2⟩ := h
  refine ⟨h1, ?_⟩
  rcases h2 with h3 | ⟨g, cap, cur, h3, hg, hb, hr⟩
  · exact Or.inl h3
  · exact Or.inr ⟨g, cap, cur, h3, hg, (hB.block g (Array.getElem?_eq_some_iff.1 hb).1).trans hb, hr⟩
/-- Ints in memory of the call's own. -/
def OwnI (w : World) (base : Nat) (v : Value) (l : List Int) : Prop := (∀ z ∈ l, -9223372036854775808 ≤ z ∧ z ≤ 9223372036854775807) ∧ w.ownsRow base 3 1 v l.length (l.map fun z => .int .i64 z)
theorem OwnI.si {w : World} {base : Nat} {v : Value} {l : List Int} (h : OwnI w base v l) : Si w v l := by
  obtain ⟨hl, _, h1⟩ := h
  rcases h1 with ⟨rfl, h2⟩ | ⟨g, cap, cur, rfl, hg, hb, hn, hm, hsz, ht⟩
  · obtain rfl := List.eq_nil_of_length_eq_zero h2
    exact ⟨by simp, by simp, Or.inl ⟨none, 0, rfl, rfl, by simp⟩⟩
  · refine ⟨hl, by omega, Or.inr ⟨g, 0, cap, rfl, hn, hm, fun k hk => ?_⟩⟩
    rw [Nat.zero_add, cell_of_row w g k cur 3 (0, 0) hb]
    have e := congrArg (·[k]?) ht
    simp only [Nat.mul_one, List.getElem?_take, hk, if_true, List.getElem?_map] at e
    simpa [List.getD, hk] using e
theorem owni_push {w : World} {base : Nat} {v : Value} {l : List Int} {z : Int} (hl : ∀ z ∈ l, -9223372036854775808 ≤ z ∧ z ≤ 9223372036854775807) (hz : -9223372036854775808 ≤ z ∧ z ≤ 9223372036854775807) (h : w.ownsRow base 3 1 v (l.length + 1) ((l.map fun z => Value.int .i64 z) ++ [.int .i64 z])) : OwnI w base v (l ++ [z]) := by
  refine ⟨fun x hx => ?_, by simpa using h⟩
  rcases List.mem_append.1 hx with hx | hx
  · exact hl x hx
  · rw [List.mem_singleton] at hx
    rw [hx]
    exact hz
/-- Rows of bytes, the rows and their list in memory of the call's own. -/
def OwnR (w : World) (base : Nat) (v : Value) (vs : List Value) (L : List (List Nat)) : Prop := w.ownsRow base 22 1 v vs.length vs ∧ vs.length = L.length ∧ ∀ k, k < L.length → Own w base (vs.getD k undef) (L.getD k [])
theorem OwnR.sr {w : World} {base : Nat} {v : Value} {vs : List Value} {L : List (List Nat)} (h : OwnR w base v vs L) : Sr w v L := by
  obtain ⟨⟨_, h1⟩, hl, hk⟩ := h
  rcases h1 with ⟨rfl, h2⟩ | ⟨g, cap, cur, rfl, hg, hb, hn, hm, hsz, ht⟩
  · obtain rfl : L = [] := List.eq_nil_of_length_eq_zero (by omega)
    exact ⟨by simp, Or.inl ⟨none, 0, rfl, rfl, by simp⟩⟩
  · refine ⟨by omega, Or.inr ⟨g, 0, cap, by rw [hl], by omega, hm, fun k hk2 => ⟨vs.getD k undef, ?_, (hk k hk2).sl⟩⟩⟩
    rw [Nat.zero_add, cell_of_row w g k cur 22 (0, 0) hb]
    have e := congrArg (·[k]?) ht
    have hk3 : k < vs.length := by omega
    simp only [Nat.mul_one, List.getElem?_take, hk3, if_true] at e
    simpa [List.getD, hk3] using e
theorem ownr_nil (w : World) (base : Nat) : OwnR w base (.slice none 0 0) [] [] := ⟨World.ownsRow_nil _ _ _ _, rfl, fun k hk => by simp at hk⟩
theorem own_below' {w w' : World} {base : Nat} {v : Value} {l : List Nat} (h : Own w base v l) (hB : Below w.heap.size w w') : Own w' base v l := ⟨h.1, ownsRow_mono h.2 hB⟩
theorem ownr_below {w w' : World} {base : Nat} {v : Value} {vs : List Value} {L : List (List Nat)} (h : OwnR w base v vs L) (hB : Below w.heap.size w w') : OwnR w' base v vs L :=
  ⟨ownsRow_mono h.1 hB, h.2.1, fun k hk => own_below' (h.2.2 k hk) hB⟩
/-- Bytes of the call's own stay when a list of rows grows. -/
theorem own_rows_grow {w w' : World} {base n : Nat} {v x : Value} {xs : List Value} {l : List Nat} (h : Own w base x l) (hv : w.ownsRow base 22 1 v n xs) (hg : w.grownBy w' v.ownBlock) : Own w' base x l := by
  refine own_keep h fun k hk => ?_
  obtain ⟨_, _, ⟨rfl, _⟩ | ⟨q, _, cq, rfl, _, hq, _⟩⟩ := h
  · cases hk
  · cases hk
    refine hg.block q (Array.getElem?_eq_some_iff.1 hq).1 fun e => ?_
    obtain ⟨_, ⟨rfl, _⟩ | ⟨q2, _, cq2, rfl, _, hq2, _⟩⟩ := hv
    · cases e
    · cases e
      rw [hq] at hq2
      simp at hq2
theorem ownr_push {w w' : World} {base : Nat} {v v' x : Value} {vs : List Value} {L : List (List Nat)} {l : List Nat} (h : OwnR w base v vs L) (hx : Own w base x l) (hg : w.grownBy w' v.ownBlock) (ho : w'.ownsRow base 22 1 v' (vs.length + 1) (vs ++ [x])) : OwnR w' base v' (vs ++ [x]) (L ++ [l]) := by
  refine ⟨by simpa using ho, by simp [h.2.1], fun k hk => ?_⟩
  have hl := h.2.1
  by_cases e : k < L.length
  · have h1 : (vs ++ [x]).getD k undef = vs.getD k undef := by simp [List.getD, List.getElem?_append, show k < vs.length by omega]
    have h2 : (L ++ [l]).getD k [] = L.getD k [] := by simp [List.getD, List.getElem?_append, e]
    rw [h1, h2]
    exact own_rows_grow (h.2.2 k e) h.1 hg
  · have e2 : k = L.length := by simp at hk; omega
    have h1 : (vs ++ [x]).getD k undef = x := by rw [e2, ← hl]; simp [List.getD]
    have h2 : (L ++ [l]).getD k [] = l := by rw [e2]; simp [List.getD]
    rw [h1, h2]
    exact own_rows_grow hx h.1 hg
end Go.Proofs.Ytppfdaiehdbafaa.Gf
