/- What is proved here: data of any shape in memory (numbers, strings, structs, slices of such): reading them, what stays of them in later worlds, lists of a call's own and appending to them. No program text. -/
import Derived.Maps.AppendAt
import Derived.WalkKit
import Derived.ProofKit
import Derived.OpenShut
import Derived.Lib.Hide
import Derived.Deep.Slices
import Derived.Deep.Fields
import Derived.Test.YtbmlpafbdbhaiaaGreatDoorGt2
namespace Go.Proofs.YtbmlpafbdbhaiaaGreatDoor.Gf
open Go Go.ChangeShapes Go.WideShapes Go.ChangeAt Go.RowKit

/-- The shape of data: a byte, a number, a bool, a string, a slice, two fields one behind the other. -/
inductive Ty where
 | u8
 | i (k : IntKind)
 | b
 | s
 | sl (t : Ty)
 | pr (x y : Ty)
/-- What data of a shape are, as plain values. -/
@[reducible] def Ty.T : Ty → Type
 | .u8 => Nat
 | .i _ => Int
 | .b => Bool
 | .s => ByteArray
 | .sl t => List t.T
 | .pr x y => x.T × y.T
/-- The number of cells. -/
def Ty.n : Ty → Nat
 | .pr x y => x.n + y.n
 | _ => 1
theorem Ty.n_pos : ∀ t : Ty, 0 < t.n
 | .u8 => Nat.one_pos
 | .i _ => Nat.one_pos
 | .b => Nat.one_pos
 | .s => Nat.one_pos
 | .sl _ => Nat.one_pos
 | .pr x y => by
  have := x.n_pos
  show 0 < x.n + y.n
  omega
/-- The cells cs read as x in the world w, and what lies behind them in blocks of B. -/
def Rd (B : Nat → Prop) (w : World) : (t : Ty) → List Value → t.T → Prop
 | .u8, cs, x => x < 256 ∧ cs = [.int .u8 ((x : Nat) : Int)]
 | .i k, cs, x => (k.min ≤ x ∧ x ≤ k.max) ∧ cs = [.int k x]
 | .b, cs, x => cs = [.bool x]
 | .s, cs, x => x.size ≤ maxLen ∧ cs = [.string x]
 | .sl t, cs, l => ∃ (L : List (List Value × t.T)) (a : Option Addr) (cap : Nat), cs = [.slice a L.length cap] ∧ L.map Prod.snd = l ∧ L.length ≤ cap ∧ cap ≤ maxLen ∧ (∀ p ∈ L, Rd B w t p.1 p.2) ∧ (0 < L.length → ∃ b off, a = some ⟨b, off, none⟩ ∧ B b ∧ ∀ j u, (L.flatMap Prod.fst)[j]? = some u → w.cell? ⟨b, off + j, none⟩ = some u)
 | .pr x y, cs, v => ∃ c d, cs = c ++ d ∧ Rd B w x c v.1 ∧ Rd B w y d v.2
theorem rd_len {B : Nat → Prop} {w : World} : ∀ {t : Ty} {cs : List Value} {x : t.T}, Rd B w t cs x → cs.length = t.n
 | .u8, _, _, ⟨_, h⟩ => by rw [h]; rfl
 | .i _, _, _, ⟨_, h⟩ => by rw [h]; rfl
 | .b, _, _, h => by rw [show _ = _ from h]; rfl
 | .s, _, _, ⟨_, h⟩ => by rw [h]; rfl
 | .sl _, _, _, ⟨_, _, _, h, _⟩ => by rw [h]; rfl
 | .pr _ _, _, _, ⟨c, d, h, h1, h2⟩ => by
  rw [h, List.length_append, rd_len h1, rd_len h2]
  rfl
/-- The elements of a slice. -/
theorem rd_sl {B : Nat → Prop} {w : World} {t : Ty} {v : Value} {l : List t.T} (h : Rd B w (.sl t) [v] l) : ∃ a cap, v = .slice a l.length cap ∧ l.length ≤ cap ∧ cap ≤ maxLen := by
 obtain ⟨L, a, cap, h1, rfl, h3, h4, -⟩ := h
 rw [List.length_map]
 exact ⟨a, cap, by simpa using h1, h3, h4⟩
theorem flat_at {t : Ty} {B : Nat → Prop} {w : World} : ∀ {L : List (List Value × t.T)}, (∀ p ∈ L, Rd B w t p.1 p.2) → ∀ (j u : Nat) {p : List Value × t.T}, L[j]? = some p → u < t.n → (L.flatMap Prod.fst)[j * t.n + u]? = p.1[u]?
 | [], _, _, _, _, h, _ => by simp at h
 | q :: L, hL, 0, u, p, h, hu => by
  obtain rfl : q = p := by simpa using h
  have hl := rd_len (hL q (List.mem_cons_self ..))
  rw [List.flatMap_cons, Nat.zero_mul, Nat.zero_add, List.getElem?_append_left (by omega)]
 | q :: L, hL, j + 1, u, p, h, hu => by
  have hl := rd_len (hL q (List.mem_cons_self ..))
  have ih := flat_at (fun r hr => hL r (List.mem_cons_of_mem _ hr)) j u (p := p) (by simpa using h) hu
  have e : (j + 1) * t.n = j * t.n + t.n := Nat.succ_mul j t.n
  rw [List.flatMap_cons, List.getElem?_append_right (by omega), show (j + 1) * t.n + u - q.1.length = j * t.n + u by omega]
  exact ih
theorem flat_lenG {t : Ty} {B : Nat → Prop} {w : World} : ∀ {L : List (List Value × t.T)}, (∀ p ∈ L, Rd B w t p.1 p.2) → (L.flatMap Prod.fst).length = L.length * t.n
 | [], _ => by simp
 | q :: L, hL => by
  rw [List.flatMap_cons, List.length_append, rd_len (hL q (List.mem_cons_self ..)), flat_lenG fun r hr => hL r (List.mem_cons_of_mem _ hr), List.length_cons, Nat.succ_mul]
  omega
/-- A slice that is not empty: its block, and the cells of each element. -/
theorem rd_cells {B : Nat → Prop} {w : World} {t : Ty} {v : Value} {l : List t.T} (h : Rd B w (.sl t) [v] l) (hp : 0 < l.length) : ∃ b off cap, v = .slice (some ⟨b, off, none⟩) l.length cap ∧ l.length ≤ cap ∧ cap ≤ maxLen ∧ B b ∧ ∀ j x, l[j]? = some x → ∃ c, Rd B w t c x ∧ ∀ u, u < t.n → w.cell? ⟨b, off + (j * t.n + u), none⟩ = c[u]? := by
 obtain ⟨L, a, cap, h1, rfl, h3, h4, h5, h6⟩ := h
 rw [List.length_map] at hp ⊢
 obtain ⟨b, off, rfl, hb, hk⟩ := h6 hp
 refine ⟨b, off, cap, by simpa using h1, h3, h4, hb, fun j x hx => ?_⟩
 rw [List.getElem?_map, Option.map_eq_some_iff] at hx
 obtain ⟨p, hj, rfl⟩ := hx
 have hm : p ∈ L := List.mem_of_getElem? hj
 refine ⟨p.1, h5 p hm, fun u hu => ?_⟩
 have hf := flat_at h5 j u hj hu
 have hl := rd_len (h5 p hm)
 have hs : p.1[u]? = some (p.1[u]'(by omega)) := List.getElem?_eq_getElem _
 rw [hs] at hf ⊢
 exact hk _ _ hf
theorem rd_nil (B : Nat → Prop) (w : World) (t : Ty) : Rd B w (.sl t) [.slice none 0 0] [] := ⟨[], none, 0, rfl, rfl, Nat.le_refl _, by simp, by simp, fun h => by simp at h⟩
end Go.Proofs.YtbmlpafbdbhaiaaGreatDoor.Gf
namespace Go.Proofs.YtbmlpafbdbhaiaaGreatDoor.Gf
open Go Go.ChangeShapes Go.WideShapes Go.ChangeAt Go.RowKit Go.Deep

mutual
/-- The type T of the program has this shape. -/
inductive TyOf (P : Program) : TypeId → Ty → Prop
 | u8 {T : TypeId} (h : P.underlying T = some (.int .u8)) : TyOf P T .u8
 | i {T : TypeId} {k : IntKind} (h : P.underlying T = some (.int k)) : TyOf P T (.i k)
 | b {T : TypeId} (h : P.underlying T = some .bool) : TyOf P T .b
 | s {T : TypeId} (h : P.underlying T = some .string) : TyOf P T .s
 | sl {S T : TypeId} {t : Ty} (h : P.underlying S = some (.slice T)) (hc : P.cellsOf T = t.n) (ht : TyOf P T t) : TyOf P S (.sl t)
 | st {S : TypeId} {fs : Array Field} {t : Ty} (h : P.underlying S = some (.struct fs)) (hc : P.cellsOf S = t.n) (hf : Flds P 0 fs.toList t) : TyOf P S t
/-- These fields, from an offset on, have this shape. -/
inductive Flds (P : Program) : Nat → List Field → Ty → Prop
 | last {o : Nat} {f : Field} {t : Ty} (ho : f.offset = o) (hc : P.cellsOf f.type = t.n) (ht : TyOf P f.type t) : Flds P o [f] t
 | more {o : Nat} {f : Field} {r : List Field} {x y : Ty} (ho : f.offset = o) (hc : P.cellsOf f.type = x.n) (ht : TyOf P f.type x) (hr : Flds P (o + x.n) r y) : Flds P o (f :: r) (.pr x y)
end
theorem list_of {α : Type} (Q : Nat → α → Prop) : ∀ n, (∀ i, i < n → ∃ p, Q i p) → ∃ L : List α, L.length = n ∧ ∀ i p, L[i]? = some p → Q i p
 | 0, _ => ⟨[], rfl, fun i p h => by simp at h⟩
 | n + 1, h => by
  obtain ⟨L, hl, hq⟩ := list_of Q n fun i hi => h i (by omega)
  obtain ⟨p, hp⟩ := h n (by omega)
  refine ⟨L ++ [p], by rw [List.length_append, hl, List.length_singleton], fun i q hi => ?_⟩
  by_cases c : i < n
  ·rw [List.getElem?_append_left (by omega)] at hi
   exact hq i q hi
  ·have hlt := (List.getElem?_eq_some_iff.1 hi).1
   rw [List.length_append, List.length_singleton] at hlt
   obtain rfl : i = n := by omega
   rw [List.getElem?_append_right (by omega), hl, Nat.sub_self] at hi
   obtain rfl : p = q := by simpa using hi
   exact hp
theorem rd_open {H : Type} {enc : TypeId × Value → H} {P : Program} {w : World} {base : Nat} {spare : Nat → Bool} {held : Bool} : ∀ (n : Nat) {T : TypeId} {t : Ty}, TyOf P T t → ∀ {cs : List Value} {x : DataW H × List MemPlace}, DataW.trod enc P w base spare held n T cs = some x → ∃ v : t.T, Rd (fun _ => True) w t cs v := by
 intro n
 induction n with
 | zero =>
  intro T t _ cs x hx
  simp [DataW.trod] at hx
 | succ n ih =>
  intro T t h cs x hx
  cases h with
  | u8 h =>
   obtain ⟨k, hk, _, wk⟩ := DataW.trod_int h hx
   simp [Lit.wf, IntKind.min, IntKind.max, IntKind.signed, IntKind.bits] at wk
   exact ⟨k.toNat, by show k.toNat < 256; omega, by rw [hk, Int.toNat_of_nonneg (by omega)]⟩
  | i h =>
   obtain ⟨k, hk, _, wk⟩ := DataW.trod_int h hx
   exact ⟨k, by simpa [Lit.wf] using wk, hk⟩
  | b h =>
   obtain ⟨k, hk, _⟩ := DataW.trod_bool h hx
   exact ⟨k, hk⟩
  | s h =>
   obtain ⟨k, hk, _, hs⟩ := DataW.trod_string h hx
   exact ⟨k, hs, hk⟩
  | @sl _ T' t' h hc ht =>
   rcases DataW.trod_slice h hx with ⟨hcs, _⟩ | ⟨a, len, cap, elems, rest, n', hn, hcs, _, _, hl, hm, he, hi, _, _⟩
   ·subst hcs
    exact ⟨[], rd_nil _ _ _⟩
   ·obtain rfl : n = n' := by omega
    subst hcs
    obtain ⟨L, hL, hQ⟩ := list_of (α := List Value × t'.T) (fun i p => w.cells? base (a.add (i * P.cellsOf T')) (P.cellsOf T') = some p.1 ∧ Rd (fun _ => True) w t' p.1 p.2) len fun i h1 => by
     have h2 := hi i h1
     rw [List.getElem?_eq_getElem (by omega)] at h2
     rw [Option.bind_eq_some_iff] at h2
     obtain ⟨cs', hc', ht'⟩ := h2
     obtain ⟨v, hv⟩ := ih ht ht'
     exact ⟨(cs', v), hc', hv⟩
    have hR : ∀ p ∈ L, Rd (fun _ => True) w t' p.1 p.2 := fun p hp => by
     obtain ⟨i, hi', rfl⟩ := List.getElem_of_mem hp
     exact (hQ i _ (List.getElem?_eq_getElem hi')).2
    obtain ⟨b, o, sp⟩ := a
    have hadd : ∀ k, (⟨b, o, none⟩ : Addr).add k = ⟨b, o + k, none⟩ := fun k => by unfold Addr.add; split <;> simp_all
    have hspot : 0 < L.length → sp = none := fun hp => by
     obtain ⟨h1, h2⟩ := hQ _ _ (List.getElem?_eq_getElem hp)
     obtain ⟨_, h4, h5⟩ := World.cells?_some h1
     have hn := t'.n_pos
     have h6 := h5 0 (by omega)
     rw [List.getElem?_eq_getElem (by omega)] at h6
     have h7 := World.cell?_spot h6
     simpa [Addr.add] using h7
    refine ⟨L.map Prod.snd, L, some ⟨b, o, sp⟩, cap, by rw [hL], rfl, by omega, hm, hR, fun hp => ?_⟩
    obtain rfl := hspot hp
    refine ⟨b, o, rfl, trivial, fun j u hu => ?_⟩
    have hn := t'.n_pos
    have hj := (List.getElem?_eq_some_iff.1 hu).1
    rw [flat_lenG hR] at hj
    have hq : j / t'.n < L.length := Nat.div_lt_of_lt_mul (by rw [Nat.mul_comm]; exact hj)
    have hr : j % t'.n < t'.n := Nat.mod_lt _ hn
    have hjq : j = j / t'.n * t'.n + j % t'.n := by rw [Nat.mul_comm]; exact (Nat.div_add_mod j t'.n).symm
    obtain ⟨h1, h2⟩ := hQ _ _ (List.getElem?_eq_getElem hq)
    have hf := flat_at hR (j / t'.n) (j % t'.n) (List.getElem?_eq_getElem hq) hr
    rw [← hjq, hu] at hf
    obtain ⟨_, h4, h5⟩ := World.cells?_some h1
    have h6 := h5 (j % t'.n) (by rw [hc]; exact hr)
    rw [← hf, hc, hadd] at h6
    rw [show (⟨b, o + j / t'.n * t'.n, none⟩ : Addr).add (j % t'.n) = ⟨b, o + j, none⟩ by
     unfold Addr.add
     split
     ·rename_i h0
      rw [h0, Nat.add_zero] at hjq
      rw [← hjq]
     ·rw [show o + j / t'.n * t'.n + j % t'.n = o + j by omega]] at h6
    exact h6
  | @st _ fs _ h hc hf =>
   obtain ⟨xs, n', hn, _, hcl, hl, hi⟩ := DataW.trod_struct h hx
   obtain rfl : n = n' := by omega
   have go : ∀ (r : List Field) (o : Nat) (y : Ty), Flds P o r y → (∀ f ∈ r, ∃ z, DataW.trod enc P w base spare held n f.type ((cs.drop f.offset).take (P.cellsOf f.type)) = some z) → o + y.n = cs.length → ∃ v : y.T, Rd (fun _ => True) w y (cs.drop o) v := by
    intro r
    induction r with
    | nil =>
     intro o y hy
     cases hy
    | cons f r ihr =>
     intro o y hy hz hlen
     obtain ⟨z, hz1⟩ := hz f (List.mem_cons_self ..)
     cases hy with
     | last ho hcf ht =>
      obtain ⟨v, hv⟩ := ih ht hz1
      rw [ho, hcf, List.take_of_length_le (by rw [List.length_drop]; omega)] at hv
      exact ⟨v, hv⟩
     | @more _ _ _ x' y' ho hcf ht hr =>
      obtain ⟨v, hv⟩ := ih ht hz1
      have hlen' : o + (x'.n + y'.n) = cs.length := hlen
      obtain ⟨v2, hv2⟩ := ihr (o + x'.n) y' hr (fun g hg => hz g (List.mem_cons_of_mem _ hg)) (by omega)
      rw [ho, hcf] at hv
      exact ⟨(v, v2), (cs.drop o).take x'.n, cs.drop (o + x'.n), by rw [← List.drop_drop, List.take_append_drop], hv, hv2⟩
   obtain ⟨v, hv⟩ := go fs.toList 0 t hf (fun f hm => by
    obtain ⟨i, hi', rfl⟩ := List.getElem_of_mem hm
    have hi2 : i < fs.size := by simpa using hi'
    have h1 := hi i _ (Array.getElem?_eq_getElem hi2)
    rw [List.getElem?_eq_getElem (by omega)] at h1
    exact ⟨_, by simpa using h1⟩) (by rw [Nat.zero_add, hcl, hc])
   exact ⟨v, by simpa using hv⟩
end Go.Proofs.YtbmlpafbdbhaiaaGreatDoor.Gf
namespace Go.Proofs.YtbmlpafbdbhaiaaGreatDoor.Gf
open Go Go.Joins Go.ChangeShapes Go.WideShapes Go.ChangeAt Go.RowKit Go.Deep Go.Proofs.YtbmlpafbdbhaiaaGreatDoor.By
set_option maxRecDepth 100000
set_option maxHeartbeats 204800000

abbrev tyN : Ty := .pr (.i .u64) (.pr (.i .u32) (.pr .b (.sl .u8)))
theorem tyNOf : TyOf Tryz.prog 67 tyN := .st Tryz.underlying67 (by kernel_rfl) (.more rfl (by kernel_rfl) (.i Tryz.underlying53) (.more rfl (by kernel_rfl) (.i Tryz.underlying54) (.more rfl (by kernel_rfl) (.b Tryz.underlying4) (.last rfl (by kernel_rfl) (.sl Tryz.underlying65 (by kernel_rfl) (.u8 Tryz.underlying5))))))
theorem lt64 {x : Int} (h0 : 0 ≤ x) (h1 : x ≤ 18446744073709551615) : x.toNat < 18446744073709551616 := by omega
theorem lt32 {x : Int} (h0 : 0 ≤ x) (h1 : x ≤ 4294967295) : x.toNat < 4294967296 := by omega
theorem nr_of_rd {W : World} {v : Value} {l : List tyN.T} (h : Rd (fun _ => True) W (.sl tyN) [v] l) : Nr W v l.length := by
 obtain ⟨a, cap, rfl, h1, h2⟩ := rd_sl h
 refine ⟨a, cap, rfl, h1, h2, fun hp => ?_⟩
 obtain ⟨b, off, cap2, hv, -, -, -, hc⟩ := rd_cells h hp
 obtain ⟨rfl, -⟩ : a = some ⟨b, off, none⟩ ∧ cap = cap2 := by simpa using hv
 refine ⟨b, off, rfl, fun i hi => ?_⟩
 obtain ⟨cs, hr, hcell⟩ := hc i _ (List.getElem?_eq_getElem hi)
 generalize l[i]'hi = x at hr
 obtain ⟨k, r1, rfl, ⟨⟨hk0, hk1⟩, rfl⟩, q, r2, rfl, ⟨⟨hq0, hq1⟩, rfl⟩, e, r3, rfl, he, hd⟩ := hr
 have he' : e = [.bool x.2.2.1] := he
 subst he'
 obtain ⟨L, da, dc, rfl, -, hn, hm, -, -⟩ := hd
 have hk0 : (0 : Int) ≤ x.1 := hk0
 have hk1 : x.1 ≤ 18446744073709551615 := hk1
 have hq0 : (0 : Int) ≤ x.2.1 := hq0
 have hq1 : x.2.1 ≤ 4294967295 := hq1
 have c := fun u hu => hcell u (show u < 4 from hu)
 refine ⟨x.1.toNat, x.2.1.toNat, x.2.2.1, da, L.length, dc, lt64 hk0 hk1, lt32 hq0 hq1, hn, hm, ?_, ?_, ?_, ?_⟩
 ·rw [Int.toNat_of_nonneg hk0]; exact c 0 (by decide)
 ·rw [Int.toNat_of_nonneg hq0]; exact c 1 (by decide)
 ·exact c 2 (by decide)
 ·exact c 3 (by decide)
end Go.Proofs.YtbmlpafbdbhaiaaGreatDoor.Gf
namespace Go.Proofs.YtbmlpafbdbhaiaaGreatDoor.Gf
open Go Go.Joins Go.ChangeShapes Go.WideShapes Go.ChangeAt Go.RowKit Go.Deep Go.Proofs.YtbmlpafbdbhaiaaGreatDoor.By
set_option maxRecDepth 100000
set_option maxHeartbeats 204800000

theorem nds_open {H : Type} {enc : TypeId × Value → H} {W : World} {base : Nat} {v : Value} {d : DataW H} {p : List MemPlace} (hv : Value.okWide Tryz.prog W .any base 44 v) (h : DataW.Trod enc Tryz.prog W 0 (fun _ => true) true 44 v d p) : ∃ n : Nat, Nr W v n := by
 obtain ⟨a, len, cap, rfl⟩ := okWide_slice Tryz.underlying44 hv
 obtain ⟨fuel, hf⟩ := h
 obtain ⟨L, hL⟩ := rd_open fuel (.sl Tryz.underlying44 (by kernel_rfl) tyNOf) hf
 exact ⟨_, nr_of_rd hL⟩
end Go.Proofs.YtbmlpafbdbhaiaaGreatDoor.Gf
