/- What is proved here: arguments of any shape, as they come in, read as plain values. No program text. -/
import Derived.Test.YtbkhedfhnmkodaaDoorGn
import Derived.Deep.Slices
import Derived.Deep.Fields
namespace Go.Proofs.YtbkhedfhnmkodaaDoor.Gf
open Go Go.ChangeShapes Go.WideShapes Go.ChangeAt Go.RowKit Go.Deep

mutual
/-- The type T of the program has this shape. -/
inductive TyOf (P : Program) : TypeId → Ty → Prop
  | u8 {T : TypeId} (h : P.underlying T = some (.int .u8)) : TyOf P T .u8
  | i {T : TypeId} {k : IntKind} (h : P.underlying T = some (.int k)) : TyOf P T (.i k)
  | b {T : TypeId} (h : P.underlying T = some .bool) : TyOf P T .b
  | s {T : TypeId} (h : P.underlying T = some .string) : TyOf P T .s
  | sl {S T : TypeId} {t : Ty} (h : P.underlying S = some (.slice T)) (hc : P.cellsOf T = t.n) (ht : TyOf P T t) : TyOf P S (.sl t)
  | st {S : TypeId} {fs : Array Field} {t : Ty} (h : P.underlying S = some (.struct fs)) (hc : P.cellsOf S = t.n) (hf : Flds P 0 fs.toList t) : TyOf P S t
/-- These fields, from an offset on, have this shape. -/
inductive Flds (P : Program) : Nat → List Field → Ty → Prop
  | last {o : Nat} {f : Field} {t : Ty} (ho : f.offset = o) (hc : P.cellsOf f.type = t.n) (ht : TyOf P f.type t) : Flds P o [f] t
  | more {o : Nat} {f : Field} {r : List Field} {x y : Ty} (ho : f.offset = o) (hc : P.cellsOf f.type = x.n) (ht : TyOf P f.type x) (hr : Flds P (o + x.n) r y) : Flds P o (f :: r) (.pr x y)
end
theorem list_of {α : Type} (Q : Nat → α → Prop) : ∀ n, (∀ i, i < n → ∃ p, Q i p) → ∃ L : List α, L.length = n ∧ ∀ i p, L[i]? = some p → Q i p
  | 0, _ => ⟨[], rfl, fun i p h => by simp at h⟩
  | n + 1, h => by
    obtain ⟨L, hl, hq⟩ := list_of Q n fun i hi => h i (by omega)
    obtain ⟨p, hp⟩ := h n (by omega)
    refine ⟨L ++ [p], by rw [List.length_append, hl, List.length_singleton], fun i q hi => ?_⟩
    by_cases c : i < n
    · rw [List.getElem?_append_left (by omega)] at hi
      exact hq i q hi
    · have hlt := (List.getElem?_eq_some_iff.1 hi).1
      rw [List.length_append, List.length_singleton] at hlt
      obtain rfl : i = n := by omega
      rw [List.getElem?_append_right (by omega), hl, Nat.sub_self] at hi
      obtain rfl : p = q := by simpa using hi
      exact hp
theorem rd_open {H : Type} {enc : TypeId × Value → H} {P : Program} {w : World} {base : Nat} {spare : Nat → Bool} {held : Bool} : ∀ (n : Nat) {T : TypeId} {t : Ty}, TyOf P T t → ∀ {cs : List Value} {x : DataW H × List MemPlace}, DataW.trod enc P w base spare held n T cs = some x → ∃ v : t.T, Rd (fun _ => True) w t cs v := by
  intro n
  induction n with
  | zero =>
    intro T t _ cs x hx
    simp [DataW.trod] at hx
  | succ n ih =>
    intro T t h cs x hx
    cases h with
    | u8 h =>
      obtain ⟨k, hk, _, wk⟩ := DataW.trod_int h hx
      simp [Lit.wf, IntKind.min, IntKind.max, IntKind.signed, IntKind.bits] at wk
      exact ⟨k.toNat, by show k.toNat < 256; omega, by rw [hk, Int.toNat_of_nonneg (by omega)]⟩
    | i h =>
      obtain ⟨k, hk, _, wk⟩ := DataW.trod_int h hx
      exact ⟨k, by simpa [Lit.wf] using wk, hk⟩
    | b h =>
      obtain ⟨k, hk, _⟩ := DataW.trod_bool h hx
      exact ⟨k, hk⟩
    | s h =>
      obtain ⟨k, hk, _, hs⟩ := DataW.trod_string h hx
      exact ⟨k, hs, hk⟩
    | @sl _ T' t' h hc ht =>
      rcases DataW.trod_slice h hx with ⟨hcs, _⟩ | ⟨a, len, cap, elems, rest, n', hn, hcs, _, _, hl, hm, he, hi, _, _⟩
      · subst hcs
        exact ⟨[], rd_nil _ _ _⟩
      · obtain rfl : n = n' := by omega
        subst hcs
        obtain ⟨L, hL, hQ⟩ := list_of (α := List Value × t'.T) (fun i p => w.cells? base (a.add (i * P.cellsOf T')) (P.cellsOf T') = some p.1 ∧ Rd (fun _ => True) w t' p.1 p.2) len fun i h1 => by
          have h2 := hi i h1
          rw [List.getElem?_eq_getElem (by omega)] at h2
          rw [Option.bind_eq_some_iff] at h2
          obtain ⟨cs', hc', ht'⟩ := h2
          obtain ⟨v, hv⟩ := ih ht ht'
          exact ⟨(cs', v), hc', hv⟩
        have hR : ∀ p ∈ L, Rd (fun _ => True) w t' p.1 p.2 := fun p hp => by
          obtain ⟨i, hi', rfl⟩ := List.getElem_of_mem hp
          exact (hQ i _ (List.getElem?_eq_getElem hi')).2
        obtain ⟨b, o, sp⟩ := a
        have hadd : ∀ k, (⟨b, o, none⟩ : Addr).add k = ⟨b, o + k, none⟩ := fun k => by unfold Addr.add; split <;> simp_all
        have hspot : 0 < L.length → sp = none := fun hp => by
          obtain ⟨h1, h2⟩ := hQ _ _ (List.getElem?_eq_getElem hp)
          obtain ⟨_, h4, h5⟩ := World.cells?_some h1
          have hn := t'.n_pos
          have h6 := h5 0 (by omega)
          rw [List.getElem?_eq_getElem (by omega)] at h6
          have h7 := World.cell?_spot h6
          simpa [Addr.add] using h7
        refine ⟨L.map Prod.snd, L, some ⟨b, o, sp⟩, cap, by rw [hL], rfl, by omega, hm, hR, fun hp => ?_⟩
        obtain rfl := hspot hp
        refine ⟨b, o, rfl, trivial, fun j u hu => ?_⟩
        have hn := t'.n_pos
        have hj := (List.getElem?_eq_some_iff.1 hu).1
        rw [flat_lenG hR] at hj
        have hq : j / t'.n < L.length := Nat.div_lt_of_lt_mul (by rw [Nat.mul_comm]; exact hj)
        have hr : j % t'.n < t'.n := Nat.mod_lt _ hn
        have hjq : j = j / t'.n * t'.n + j % t'.n := by rw [Nat.mul_comm]; exact (Nat.div_add_mod j t'.n).symm
        obtain ⟨h1, h2⟩ := hQ _ _ (List.getElem?_eq_getElem hq)
        have hf := flat_at hR (j / t'.n) (j % t'.n) (List.getElem?_eq_getElem hq) hr
        rw [← hjq, hu] at hf
        obtain ⟨_, h4, h5⟩ := World.cells?_some h1
        have h6 := h5 (j % t'.n) (by rw [hc]; exact hr)
        rw [← hf, hc, hadd] at h6
        rw [show (⟨b, o + j / t'.n * t'.n, none⟩ : Addr).add (j % t'.n) = ⟨b, o + j, none⟩ by
          unfold Addr.add
          split
          · rename_i h0
            rw [h0, Nat.add_zero] at hjq
            rw [← hjq]
          · rw [show o + j / t'.n * t'.n + j % t'.n = o + j by omega]] at h6
        exact h6
    | @st _ fs _ h hc hf =>
      obtain ⟨xs, n', hn, _, hcl, hl, hi⟩ := DataW.trod_struct h hx
      obtain rfl : n = n' := by omega
      have go : ∀ (r : List Field) (o : Nat) (y : Ty), Flds P o r y → (∀ f ∈ r, ∃ z, DataW.trod enc P w base spare held n f.type ((cs.drop f.offset).take (P.cellsOf f.type)) = some z) → o + y.n = cs.length → ∃ v : y.T, Rd (fun _ => True) w y (cs.drop o) v := by
        intro r
        induction r with
        | nil =>
          intro o y hy
          cases hy
        | cons f r ihr =>
          intro o y hy hz hlen
          obtain ⟨z, hz1⟩ := hz f (List.mem_cons_self ..)
          cases hy with
          | last ho hcf ht =>
            obtain ⟨v, hv⟩ := ih ht hz1
            rw [ho, hcf, List.take_of_length_le (by rw [List.length_drop]; omega)] at hv
            exact ⟨v, hv⟩
          | @more _ _ _ x' y' ho hcf ht hr =>
            obtain ⟨v, hv⟩ := ih ht hz1
            have hlen' : o + (x'.n + y'.n) = cs.length := hlen
            obtain ⟨v2, hv2⟩ := ihr (o + x'.n) y' hr (fun g hg => hz g (List.mem_cons_of_mem _ hg)) (by omega)
            rw [ho, hcf] at hv
            exact ⟨(v, v2), (cs.drop o).take x'.n, cs.drop (o + x'.n), by rw [← List.drop_drop, List.take_append_drop], hv, hv2⟩
      obtain ⟨v, hv⟩ := go fs.toList 0 t hf (fun f hm => by
        obtain ⟨i, hi', rfl⟩ := List.getElem_of_mem hm
        have hi2 : i < fs.size := by simpa using hi'
        have h1 := hi i _ (Array.getElem?_eq_getElem hi2)
        rw [List.getElem?_eq_getElem (by omega)] at h1
        exact ⟨_, by simpa using h1⟩) (by rw [Nat.zero_add, hcl, hc])
      exact ⟨v, by simpa using hv⟩
end Go.Proofs.YtbkhedfhnmkodaaDoor.Gf
