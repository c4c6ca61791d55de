/- What is proved here: data of any shape in memory (numbers, strings, structs, slices of such): reading them, what stays of them in later worlds, lists of a call's own and appending to them. No program text. -/
import Derived.Maps.AppendAt
import Derived.WalkKit
import Derived.ProofKit
import Derived.OpenShut
import Derived.Lib.Hide
import Derived.Deep.Slices
import Derived.Deep.Fields
import Derived.Test.YtgbnclepgjcakaaGreatGs26
namespace Go.Proofs.YtgbnclepgjcakaaGreat.Gf
open Go Go.ChangeShapes Go.WideShapes Go.ChangeAt Go.RowKit

/-- The shape of data: a byte, a number, a bool, a string, a slice, two fields one behind the other. -/
inductive Ty where
 | u8
 | i (k : IntKind)
 | b
 | s
 | sl (t : Ty)
 | pr (x y : Ty)
/-- What data of a shape are, as plain values. -/
@[reducible] def Ty.T : Ty → Type
 | .u8 => Nat
 | .i _ => Int
 | .b => Bool
 | .s => ByteArray
 | .sl t => List t.T
 | .pr x y => x.T × y.T
/-- The number of cells. -/
def Ty.n : Ty → Nat
 | .pr x y => x.n + y.n
 | _ => 1
theorem Ty.n_pos : ∀ t : Ty, 0 < t.n
 | .u8 => Nat.one_pos
 | .i _ => Nat.one_pos
 | .b => Nat.one_pos
 | .s => Nat.one_pos
 | .sl _ => Nat.one_pos
 | .pr x y => by
  have := x.n_pos
  show 0 < x.n + y.n
  omega
/-- The cells cs read as x in the world w, and what lies behind them in blocks of B. -/
def Rd (B : Nat → Prop) (w : World) : (t : Ty) → List Value → t.T → Prop
 | .u8, cs, x => x < 256 ∧ cs = [.int .u8 ((x : Nat) : Int)]
 | .i k, cs, x => (k.min ≤ x ∧ x ≤ k.max) ∧ cs = [.int k x]
 | .b, cs, x => cs = [.bool x]
 | .s, cs, x => x.size ≤ maxLen ∧ cs = [.string x]
 | .sl t, cs, l => ∃ (L : List (List Value × t.T)) (a : Option Addr) (cap : Nat), cs = [.slice a L.length cap] ∧ L.map Prod.snd = l ∧ L.length ≤ cap ∧ cap ≤ maxLen ∧ (∀ p ∈ L, Rd B w t p.1 p.2) ∧ (0 < L.length → ∃ b off, a = some ⟨b, off, none⟩ ∧ B b ∧ ∀ j u, (L.flatMap Prod.fst)[j]? = some u → w.cell? ⟨b, off + j, none⟩ = some u)
 | .pr x y, cs, v => ∃ c d, cs = c ++ d ∧ Rd B w x c v.1 ∧ Rd B w y d v.2
theorem rd_len {B : Nat → Prop} {w : World} : ∀ {t : Ty} {cs : List Value} {x : t.T}, Rd B w t cs x → cs.length = t.n
 | .u8, _, _, ⟨_, h⟩ => by rw [h]; rfl
 | .i _, _, _, ⟨_, h⟩ => by rw [h]; rfl
 | .b, _, _, h => by rw [show _ = _ from h]; rfl
 | .s, _, _, ⟨_, h⟩ => by rw [h]; rfl
 | .sl _, _, _, ⟨_, _, _, h, _⟩ => by rw [h]; rfl
 | .pr _ _, _, _, ⟨c, d, h, h1, h2⟩ => by
  rw [h, List.length_append, rd_len h1, rd_len h2]
  rfl
/-- The elements of a slice. -/
theorem rd_sl {B : Nat → Prop} {w : World} {t : Ty} {v : Value} {l : List t.T} (h : Rd B w (.sl t) [v] l) : ∃ a cap, v = .slice a l.length cap ∧ l.length ≤ cap ∧ cap ≤ maxLen := by
 obtain ⟨L, a, cap, h1, rfl, h3, h4, -⟩ := h
 rw [List.length_map]
 exact ⟨a, cap, by simpa using h1, h3, h4⟩
theorem flat_at {t : Ty} {B : Nat → Prop} {w : World} : ∀ {L : List (List Value × t.T)}, (∀ p ∈ L, Rd B w t p.1 p.2) → ∀ (j u : Nat) {p : List Value × t.T}, L[j]? = some p → u < t.n → (L.flatMap Prod.fst)[j * t.n + u]? = p.1[u]?
 | [], _, _, _, _, h, _ => by simp at h
 | q :: L, hL, 0, u, p, h, hu => by
  obtain rfl : q = p := by simpa using h
  have hl := rd_len (hL q (List.mem_cons_self ..))
  rw [List.flatMap_cons, Nat.zero_mul, Nat.zero_add, List.getElem?_append_left (by omega)]
 | q :: L, hL, j + 1, u, p, h, hu => by
  have hl := rd_len (hL q (List.mem_cons_self ..))
  have ih := flat_at (fun r hr => hL r (List.mem_cons_of_mem _ hr)) j u (p := p) (by simpa using h) hu
  have e : (j + 1) * t.n = j * t.n + t.n := Nat.succ_mul j t.n
  rw [List.flatMap_cons, List.getElem?_append_right (by omega), show (j + 1) * t.n + u - q.1.length = j * t.n + u by omega]
  exact ih
theorem flat_lenG {t : Ty} {B : Nat → Prop} {w : World} : ∀ {L : List (List Value × t.T)}, (∀ p ∈ L, Rd B w t p.1 p.2) → (L.flatMap Prod.fst).length = L.length * t.n
 | [], _ => by simp
 | q :: L, hL => by
  rw [List.flatMap_cons, List.length_append, rd_len (hL q (List.mem_cons_self ..)), flat_lenG fun r hr => hL r (List.mem_cons_of_mem _ hr), List.length_cons, Nat.succ_mul]
  omega
/-- A slice that is not empty: its block, and the cells of each element. -/
theorem rd_cells {B : Nat → Prop} {w : World} {t : Ty} {v : Value} {l : List t.T} (h : Rd B w (.sl t) [v] l) (hp : 0 < l.length) : ∃ b off cap, v = .slice (some ⟨b, off, none⟩) l.length cap ∧ l.length ≤ cap ∧ cap ≤ maxLen ∧ B b ∧ ∀ j x, l[j]? = some x → ∃ c, Rd B w t c x ∧ ∀ u, u < t.n → w.cell? ⟨b, off + (j * t.n + u), none⟩ = c[u]? := by
 obtain ⟨L, a, cap, h1, rfl, h3, h4, h5, h6⟩ := h
 rw [List.length_map] at hp ⊢
 obtain ⟨b, off, rfl, hb, hk⟩ := h6 hp
 refine ⟨b, off, cap, by simpa using h1, h3, h4, hb, fun j x hx => ?_⟩
 rw [List.getElem?_map, Option.map_eq_some_iff] at hx
 obtain ⟨p, hj, rfl⟩ := hx
 have hm : p ∈ L := List.mem_of_getElem? hj
 refine ⟨p.1, h5 p hm, fun u hu => ?_⟩
 have hf := flat_at h5 j u hj hu
 have hl := rd_len (h5 p hm)
 have hs : p.1[u]? = some (p.1[u]'(by omega)) := List.getElem?_eq_getElem _
 rw [hs] at hf ⊢
 exact hk _ _ hf
theorem rd_nil (B : Nat → Prop) (w : World) (t : Ty) : Rd B w (.sl t) [.slice none 0 0] [] := ⟨[], none, 0, rfl, rfl, Nat.le_refl _, by simp, by simp, fun h => by simp at h⟩
end Go.Proofs.YtgbnclepgjcakaaGreat.Gf
namespace Go.Proofs.YtgbnclepgjcakaaGreat.Gf
open Go Go.ChangeShapes Go.WideShapes Go.ChangeAt Go.RowKit Go.Deep

mutual
/-- The type T of the program has this shape. -/
inductive TyOf (P : Program) : TypeId → Ty → Prop
 | u8 {T : TypeId} (h : P.underlying T = some (.int .u8)) : TyOf P T .u8
 | i {T : TypeId} {k : IntKind} (h : P.underlying T = some (.int k)) : TyOf P T (.i k)
 | b {T : TypeId} (h : P.underlying T = some .bool) : TyOf P T .b
 | s {T : TypeId} (h : P.underlying T = some .string) : TyOf P T .s
 | sl {S T : TypeId} {t : Ty} (h : P.underlying S = some (.slice T)) (hc : P.cellsOf T = t.n) (ht : TyOf P T t) : TyOf P S (.sl t)
 | st {S : TypeId} {fs : Array Field} {t : Ty} (h : P.underlying S = some (.struct fs)) (hc : P.cellsOf S = t.n) (hf : Flds P 0 fs.toList t) : TyOf P S t
/-- These fields, from an offset on, have this shape. -/
inductive Flds (P : Program) : Nat → List Field → Ty → Prop
 | last {o : Nat} {f : Field} {t : Ty} (ho : f.offset = o) (hc : P.cellsOf f.type = t.n) (ht : TyOf P f.type t) : Flds P o [f] t
 | more {o : Nat} {f : Field} {r : List Field} {x y : Ty} (ho : f.offset = o) (hc : P.cellsOf f.type = x.n) (ht : TyOf P f.type x) (hr : Flds P (o + x.n) r y) : Flds P o (f :: r) (.pr x y)
end
theorem list_of {α : Type} (Q : Nat → α → Prop) : ∀ n, (∀ i, i < n → ∃ p, Q i p) → ∃ L : List α, L.length = n ∧ ∀ i p, L[i]? = some p → Q i p
 | 0, _ => ⟨[], rfl, fun i p h => by simp at h⟩
 | n + 1, h => by
  obtain ⟨L, hl, hq⟩ := list_of Q n fun i hi => h i (by omega)
  obtain ⟨p, hp⟩ := h n (by omega)
  refine ⟨L ++ [p], by rw [List.length_append, hl, List.length_singleton], fun i q hi => ?_⟩
  by_cases c : i < n
  ·rw [List.getElem?_append_left (by omega)] at hi
   exact hq i q hi
  ·have hlt := (List.getElem?_eq_some_iff.1 hi).1
   rw [List.length_append, List.length_singleton] at hlt
   obtain rfl : i = n := by omega
   rw [List.getElem?_append_right (by omega), hl, Nat.sub_self] at hi
   obtain rfl : p = q := by simpa using hi
   exact hp
theorem rd_open {H : Type} {enc : TypeId × Value → H} {P : Program} {w : World} {base : Nat} {spare : Nat → Bool} {held : Bool} : ∀ (n : Nat) {T : TypeId} {t : Ty}, TyOf P T t → ∀ {cs : List Value} {x : DataW H × List MemPlace}, DataW.trod enc P w base spare held n T cs = some x → ∃ v : t.T, Rd (fun _ => True) w t cs v := by
 intro n
 induction n with
 | zero =>
  intro T t _ cs x hx
  simp [DataW.trod] at hx
 | succ n ih =>
  intro T t h cs x hx
  cases h with
  | u8 h =>
   obtain ⟨k, hk, _, wk⟩ := DataW.trod_int h hx
   simp [Lit.wf, IntKind.min, IntKind.max, IntKind.signed, IntKind.bits] at wk
   exact ⟨k.toNat, by show k.toNat < 256; omega, by rw [hk, Int.toNat_of_nonneg (by omega)]⟩
  | i h =>
   obtain ⟨k, hk, _, wk⟩ := DataW.trod_int h hx
   exact ⟨k, by simpa [Lit.wf] using wk, hk⟩
  | b h =>
   obtain ⟨k, hk, _⟩ := DataW.trod_bool h hx
   exact ⟨k, hk⟩
  | s h =>
   obtain ⟨k, hk, _, hs⟩ := DataW.trod_string h hx
   exact ⟨k, hs, hk⟩
  | @sl _ T' t' h hc ht =>
   rcases DataW.trod_slice h hx with ⟨hcs, _⟩ | ⟨a, len, cap, elems, rest, n', hn, hcs, _, _, hl, hm, he, hi, _, _⟩
   ·subst hcs
    exact ⟨[], rd_nil _ _ _⟩
   ·obtain rfl : n = n' := by omega
    subst hcs
    obtain ⟨L, hL, hQ⟩ := list_of (α := List Value × t'.T) (fun i p => w.cells? base (a.add (i * P.cellsOf T')) (P.cellsOf T') = some p.1 ∧ Rd (fun _ => True) w t' p.1 p.2) len fun i h1 => by
     have h2 := hi i h1
     rw [List.getElem?_eq_getElem (by omega)] at h2
     rw [Option.bind_eq_some_iff] at h2
     obtain ⟨cs', hc', ht'⟩ := h2
     obtain ⟨v, hv⟩ := ih ht ht'
     exact ⟨(cs', v), hc', hv⟩
    have hR : ∀ p ∈ L, Rd (fun _ => True) w t' p.1 p.2 := fun p hp => by
     obtain ⟨i, hi', rfl⟩ := List.getElem_of_mem hp
     exact (hQ i _ (List.getElem?_eq_getElem hi')).2
    obtain ⟨b, o, sp⟩ := a
    have hadd : ∀ k, (⟨b, o, none⟩ : Addr).add k = ⟨b, o + k, none⟩ := fun k => by unfold Addr.add; split <;> simp_all
    have hspot : 0 < L.length → sp = none := fun hp => by
     obtain ⟨h1, h2⟩ := hQ _ _ (List.getElem?_eq_getElem hp)
     obtain ⟨_, h4, h5⟩ := World.cells?_some h1
     have hn := t'.n_pos
     have h6 := h5 0 (by omega)
     rw [List.getElem?_eq_getElem (by omega)] at h6
     have h7 := World.cell?_spot h6
     simpa [Addr.add] using h7
    refine ⟨L.map Prod.snd, L, some ⟨b, o, sp⟩, cap, by rw [hL], rfl, by omega, hm, hR, fun hp => ?_⟩
    obtain rfl := hspot hp
    refine ⟨b, o, rfl, trivial, fun j u hu => ?_⟩
    have hn := t'.n_pos
    have hj := (List.getElem?_eq_some_iff.1 hu).1
    rw [flat_lenG hR] at hj
    have hq : j / t'.n < L.length := Nat.div_lt_of_lt_mul (by rw [Nat.mul_comm]; exact hj)
    have hr : j % t'.n < t'.n := Nat.mod_lt _ hn
    have hjq : j = j / t'.n * t'.n + j % t'.n := by rw [Nat.mul_comm]; exact (Nat.div_add_mod j t'.n).symm
    obtain ⟨h1, h2⟩ := hQ _ _ (List.getElem?_eq_getElem hq)
    have hf := flat_at hR (j / t'.n) (j % t'.n) (List.getElem?_eq_getElem hq) hr
    rw [← hjq, hu] at hf
    obtain ⟨_, h4, h5⟩ := World.cells?_some h1
    have h6 := h5 (j % t'.n) (by rw [hc]; exact hr)
    rw [← hf, hc, hadd] at h6
    rw [show (⟨b, o + j / t'.n * t'.n, none⟩ : Addr).add (j % t'.n) = ⟨b, o + j, none⟩ by
     unfold Addr.add
     split
     ·rename_i h0
      rw [h0, Nat.add_zero] at hjq
      rw [← hjq]
     ·rw [show o + j / t'.n * t'.n + j % t'.n = o + j by omega]] at h6
    exact h6
  | @st _ fs _ h hc hf =>
   obtain ⟨xs, n', hn, _, hcl, hl, hi⟩ := DataW.trod_struct h hx
   obtain rfl : n = n' := by omega
   have go : ∀ (r : List Field) (o : Nat) (y : Ty), Flds P o r y → (∀ f ∈ r, ∃ z, DataW.trod enc P w base spare held n f.type ((cs.drop f.offset).take (P.cellsOf f.type)) = some z) → o + y.n = cs.length → ∃ v : y.T, Rd (fun _ => True) w y (cs.drop o) v := by
    intro r
    induction r with
    | nil =>
     intro o y hy
     cases hy
    | cons f r ihr =>
     intro o y hy hz hlen
     obtain ⟨z, hz1⟩ := hz f (List.mem_cons_self ..)
     cases hy with
     | last ho hcf ht =>
      obtain ⟨v, hv⟩ := ih ht hz1
      rw [ho, hcf, List.take_of_length_le (by rw [List.length_drop]; omega)] at hv
      exact ⟨v, hv⟩
     | @more _ _ _ x' y' ho hcf ht hr =>
      obtain ⟨v, hv⟩ := ih ht hz1
      have hlen' : o + (x'.n + y'.n) = cs.length := hlen
      obtain ⟨v2, hv2⟩ := ihr (o + x'.n) y' hr (fun g hg => hz g (List.mem_cons_of_mem _ hg)) (by omega)
      rw [ho, hcf] at hv
      exact ⟨(v, v2), (cs.drop o).take x'.n, cs.drop (o + x'.n), by rw [← List.drop_drop, List.take_append_drop], hv, hv2⟩
   obtain ⟨v, hv⟩ := go fs.toList 0 t hf (fun f hm => by
    obtain ⟨i, hi', rfl⟩ := List.getElem_of_mem hm
    have hi2 : i < fs.size := by simpa using hi'
    have h1 := hi i _ (Array.getElem?_eq_getElem hi2)
    rw [List.getElem?_eq_getElem (by omega)] at h1
    exact ⟨_, by simpa using h1⟩) (by rw [Nat.zero_add, hcl, hc])
   exact ⟨v, by simpa using hv⟩
end Go.Proofs.YtgbnclepgjcakaaGreat.Gf
namespace Go.Proofs.YtgbnclepgjcakaaGreat.Gf
open Go Go.Joins Go.ChangeShapes Go.WideShapes Go.ChangeAt Go.RowKit Go.Deep Go.Proofs.YtgbnclepgjcakaaGreat.By
set_option maxRecDepth 100000
set_option maxHeartbeats 204800000

theorem j64_wf {n : Int} (h : (Lit.int .i64 n).wf = true) : J64 n := by
 simp [Lit.wf, IntKind.min, IntKind.max, IntKind.signed, IntKind.bits] at h
 unfold J64; omega
theorem cellsU64 : Tryz.prog.cellsOf 26 = 1 := by kernel_rfl
theorem cellsU32 : Tryz.prog.cellsOf 62 = 1 := by kernel_rfl
theorem cellsI64 : Tryz.prog.cellsOf 2 = 1 := by kernel_rfl
theorem cellsInt : Tryz.prog.cellsOf 3 = 1 := by kernel_rfl
theorem cellsItem : Tryz.prog.cellsOf 64 = 4 := by kernel_rfl
theorem four_cells13 {W : World} {base : Nat} {a : Addr} {cs : List Value} (h : W.cells? base a 4 = some cs) : ∃ c0 c1 c2 c3, cs = [c0, c1, c2, c3] ∧ W.cell? a = some c0 ∧ W.cell? (a.add 1) = some c1 ∧ W.cell? (a.add 2) = some c2 ∧ W.cell? (a.add 3) = some c3 := by
 obtain ⟨_, hl, hat⟩ := World.cells?_some h
 match cs, hl with
 | [c0, c1, c2, c3], _ =>
  exact ⟨c0, c1, c2, c3, rfl, by simpa [Addr.add] using hat 0 (by decide), hat 1 (by decide), hat 2 (by decide), hat 3 (by decide)⟩
/-- An item that was read. -/
theorem item_read {H : Type} {enc : TypeId × Value → H} {W : World} {base : Nat} {sp : Nat → Bool} {hd : Bool} {n : Nat} {c0 c1 c2 c3 : Value} {y : DataW H × List MemPlace} (h : DataW.trod enc Tryz.prog W base sp hd n 64 [c0, c1, c2, c3] = some y) :
 ∃ x : Itm, ItOk x ∧ c0 = .int .u64 (x.key : Int) ∧ c1 = .int .u32 (x.ck : Int) ∧ c2 = .int .i64 x.off ∧ c3 = .int .i64 x.sz := by
 obtain ⟨ys, m, _, _, _, hl, hf⟩ := DataW.trod_struct Tryz.underlying64 h
 have h0 : DataW.trod enc Tryz.prog W base sp hd m 26 (([c0, c1, c2, c3].drop 0).take (Tryz.prog.cellsOf 26)) = ys[0]? := hf 0 _ rfl
 have h1 : DataW.trod enc Tryz.prog W base sp hd m 62 (([c0, c1, c2, c3].drop 1).take (Tryz.prog.cellsOf 62)) = ys[1]? := hf 1 _ rfl
 have h2 : DataW.trod enc Tryz.prog W base sp hd m 2 (([c0, c1, c2, c3].drop 2).take (Tryz.prog.cellsOf 2)) = ys[2]? := hf 2 _ rfl
 have h3 : DataW.trod enc Tryz.prog W base sp hd m 3 (([c0, c1, c2, c3].drop 3).take (Tryz.prog.cellsOf 3)) = ys[3]? := hf 3 _ rfl
 match ys, hl with
 | [y0, y1, y2, y3], _ =>
  rw [cellsU64] at h0
  rw [cellsU32] at h1
  rw [cellsI64] at h2
  rw [cellsInt] at h3
  obtain ⟨k, hk, _, wk⟩ := DataW.trod_int Tryz.underlying26 (show DataW.trod enc Tryz.prog W base sp hd m 26 [c0] = some y0 from h0)
  obtain ⟨c, hc, _, wc⟩ := DataW.trod_int Tryz.underlying62 (show DataW.trod enc Tryz.prog W base sp hd m 62 [c1] = some y1 from h1)
  obtain ⟨o, ho, _, wo⟩ := DataW.trod_int Tryz.underlying2 (show DataW.trod enc Tryz.prog W base sp hd m 2 [c2] = some y2 from h2)
  obtain ⟨z, hz, _, wz⟩ := DataW.trod_int Tryz.underlying3 (show DataW.trod enc Tryz.prog W base sp hd m 3 [c3] = some y3 from h3)
  obtain rfl : c0 = .int .u64 k := by simpa using hk
  obtain rfl : c1 = .int .u32 c := by simpa using hc
  obtain rfl : c2 = .int .i64 o := by simpa using ho
  obtain rfl : c3 = .int .i64 z := by simpa using hz
  have jo := j64_wf wo
  have jz := j64_wf wz
  simp [Lit.wf, IntKind.min, IntKind.max, IntKind.signed, IntKind.bits] at wk wc
  exact ⟨⟨k.toNat, c.toNat, o, z⟩, ⟨by show k.toNat < _; omega, by show c.toNat < _; omega, jo, jz⟩, by rw [Int.toNat_of_nonneg (by omega)], by rw [Int.toNat_of_nonneg (by omega)], rfl, rfl⟩
/-- A slot that was read as a slice of items. -/
theorem it_read {H : Type} {enc : TypeId × Value → H} {W : World} {fuel : Nat} {c : Value} {y : DataW H × List MemPlace} (hf : DataW.trod enc Tryz.prog W 0 (fun _ => true) true fuel 35 [c] = some y) : ∃ L, It W c L := by
 rcases open_slice Tryz.underlying35 hf with ⟨hcs, _⟩ | ⟨x, len, cap, m, n, D, Pl, hcs, _, hl, hm, hmm, -, hi⟩
 ·obtain rfl : c = _ := by simpa using hcs

  exact ⟨[], it_nil W⟩
 ·obtain rfl : c = _ := by simpa using hcs
  have hmc : m = cap := by simpa using hmm
  subst hmc
  obtain ⟨b, off, spot⟩ := x
  have hspot : 0 < len → spot = none := fun h0 => by
   obtain ⟨cs', hc, ht⟩ := hi 0 (by omega)
   rw [cellsItem] at hc
   obtain ⟨c0, c1, c2, c3, rfl, e0, e1, e2, e3⟩ := four_cells13 hc
   simpa [Addr.add] using World.cell?_spot e0
  have hx : ∀ i, ∃ y : Itm, i < len → ItOk y ∧ spot = none ∧ C4 W b (off + i * 4) y := fun i => by
   by_cases h1 : i < len
   ·obtain ⟨cs', hc, ht⟩ := hi i (by omega)
    rw [cellsItem] at hc
    obtain ⟨c0, c1, c2, c3, rfl, e0, e1, e2, e3⟩ := four_cells13 hc
    obtain ⟨y, oky, rfl, rfl, rfl, rfl⟩ := item_read ht
    obtain rfl := hspot (by omega)
    simp only [add_none] at e0 e1 e2 e3
    exact ⟨y, fun _ => ⟨oky, rfl, e0, e1, e2, e3⟩⟩
   ·exact ⟨z0, fun h => absurd h h1⟩
  obtain ⟨f, hf'⟩ := Classical.axiomOfChoice hx
  have hlen : ((List.range len).map f).length = len := by simp
  have hget : ∀ i, i < len → ((List.range len).map f).getD i z0 = f i := fun i h1 => by simp [List.getD, h1]
  refine ⟨(List.range len).map f, fun y hy => ?_, some ⟨b, off, spot⟩, m, by rw [hlen], by rw [hlen]; exact hl, hm, fun hp => ?_⟩
  ·obtain ⟨i, hi2, rfl⟩ := List.mem_map.1 hy
   exact (hf' i (List.mem_range.1 hi2)).1
  ·rw [hlen] at hp
   refine ⟨b, off, by rw [(hf' 0 hp).2.1], fun j u hu => ?_⟩
   have hj : j < len * 4 := by
    have := (List.getElem?_eq_some_iff.1 hu).1
    rw [cellsT_length, hlen] at this
    exact this
   have hc := (hf' (j / 4) (by omega)).2.2
   have e := cellsT_at ((List.range len).map f) (j / 4) (j % 4) (by rw [hlen]; omega) (by omega)
   rw [show j / 4 * 4 + j % 4 = j by omega, hu, hget _ (by omega)] at e
   rw [show off + j = off + j / 4 * 4 + j % 4 by omega]
   obtain ⟨e0, e1, e2, e3⟩ := hc
   have hr : j % 4 = 0 ∨ j % 4 = 1 ∨ j % 4 = 2 ∨ j % 4 = 3 := by omega
   rcases hr with hr | hr | hr | hr
   all_goals
    rw [hr] at e ⊢
    have e' : u = _ := Option.some.inj e
    subst e'
    first | exact e0 | exact e1 | exact e2 | exact e3
theorem cells_map : Tryz.prog.cellsOf 44 = 10 := by kernel_rfl
theorem cells_st : Tryz.prog.cellsOf 36 = 8 := by kernel_rfl
theorem cells_its : Tryz.prog.cellsOf 35 = 1 := by kernel_rfl
theorem cells_i64m : Tryz.prog.cellsOf 2 = 1 := by kernel_rfl
theorem mp_read {H : Type} {enc : TypeId × Value → H} {W : World} {fuel : Nat} {c0 c1 c2 c3 c4 c5 c6 c7 c8 c9 : Value} {y : DataW H × List MemPlace} (hf : DataW.trod enc Tryz.prog W 0 (fun _ => true) true fuel 44 [c0, c1, c2, c3, c4, c5, c6, c7, c8, c9] = some y) : ∃ m : Mp, Ms W [c0, c1, c2, c3, c4, c5, c6, c7] m ∧ c8 = .int .i64 m.live ∧ c9 = .int .i64 m.garb := by
 obtain ⟨ys, m, _, _, _, hl, hfl⟩ := DataW.trod_struct Tryz.underlying44 hf
 have h0 : DataW.trod enc Tryz.prog W 0 (fun _ => true) true m 36 (([c0, c1, c2, c3, c4, c5, c6, c7, c8, c9].drop 0).take (Tryz.prog.cellsOf 36)) = ys[0]? := hfl 0 _ rfl
 have h1 : DataW.trod enc Tryz.prog W 0 (fun _ => true) true m 2 (([c0, c1, c2, c3, c4, c5, c6, c7, c8, c9].drop 8).take (Tryz.prog.cellsOf 2)) = ys[1]? := hfl 1 _ rfl
 have h2 : DataW.trod enc Tryz.prog W 0 (fun _ => true) true m 2 (([c0, c1, c2, c3, c4, c5, c6, c7, c8, c9].drop 9).take (Tryz.prog.cellsOf 2)) = ys[2]? := hfl 2 _ rfl
 rw [cells_st] at h0
 rw [cells_i64m] at h1 h2
 have hl3 : ys.length = 3 := hl
 match ys, hl3 with
 | [y0, y1, y2], _ =>
  have h0 : DataW.trod enc Tryz.prog W 0 (fun _ => true) true m 36 [c0, c1, c2, c3, c4, c5, c6, c7] = some y0 := h0
  obtain ⟨o, ho, _, wo⟩ := DataW.trod_int Tryz.underlying2 (show DataW.trod enc Tryz.prog W 0 (fun _ => true) true m 2 [c8] = some y1 from h1)
  obtain ⟨z, hz, _, wz⟩ := DataW.trod_int Tryz.underlying2 (show DataW.trod enc Tryz.prog W 0 (fun _ => true) true m 2 [c9] = some y2 from h2)
  obtain rfl : c8 = .int .i64 o := by simpa using ho
  obtain rfl : c9 = .int .i64 z := by simpa using hz
  obtain ⟨xs, m2, _, _, _, hx, ha⟩ := DataW.trod_array Tryz.underlying36 h0
  rw [cells_its] at ha
  have hk : ∀ (i : Nat) (c : Value), i < 8 → ([c0, c1, c2, c3, c4, c5, c6, c7].drop (i * 1)).take 1 = [c] → ∃ L, It W c L := fun i c hi hc => by
   have h3 := ha i hi
   have h4 : DataW.trod enc Tryz.prog W 0 (fun _ => true) true m2 35 (([c0, c1, c2, c3, c4, c5, c6, c7].drop (i * 1)).take 1) = xs[i]? := h3
   rw [hc, List.getElem?_eq_getElem (by omega)] at h4
   exact it_read h4
  obtain ⟨L0, s0⟩ := hk 0 c0 (by decide) rfl
  obtain ⟨L1, s1⟩ := hk 1 c1 (by decide) rfl
  obtain ⟨L2, s2⟩ := hk 2 c2 (by decide) rfl
  obtain ⟨L3, s3⟩ := hk 3 c3 (by decide) rfl
  obtain ⟨L4, s4⟩ := hk 4 c4 (by decide) rfl
  obtain ⟨L5, s5⟩ := hk 5 c5 (by decide) rfl
  obtain ⟨L6, s6⟩ := hk 6 c6 (by decide) rfl
  obtain ⟨L7, s7⟩ := hk 7 c7 (by decide) rfl
  refine ⟨⟨[L0, L1, L2, L3, L4, L5, L6, L7], o, z⟩, ⟨rfl, j64_wf wo, j64_wf wz, fun k hk8 => ?_⟩, rfl, rfl⟩
  have hc : k = 0 ∨ k = 1 ∨ k = 2 ∨ k = 3 ∨ k = 4 ∨ k = 5 ∨ k = 6 ∨ k = 7 := by omega
  rcases hc with rfl | rfl | rfl | rfl | rfl | rfl | rfl | rfl
  ·obtain ⟨a, q, he, -, -⟩ := it_form s0
   refine ⟨a, q, congrArg some he, ?_⟩
   rw [he] at s0
   exact s0
  ·obtain ⟨a, q, he, -, -⟩ := it_form s1
   refine ⟨a, q, congrArg some he, ?_⟩
   rw [he] at s1
   exact s1
  ·obtain ⟨a, q, he, -, -⟩ := it_form s2
   refine ⟨a, q, congrArg some he, ?_⟩
   rw [he] at s2
   exact s2
  ·obtain ⟨a, q, he, -, -⟩ := it_form s3
   refine ⟨a, q, congrArg some he, ?_⟩
   rw [he] at s3
   exact s3
  ·obtain ⟨a, q, he, -, -⟩ := it_form s4
   refine ⟨a, q, congrArg some he, ?_⟩
   rw [he] at s4
   exact s4
  ·obtain ⟨a, q, he, -, -⟩ := it_form s5
   refine ⟨a, q, congrArg some he, ?_⟩
   rw [he] at s5
   exact s5
  ·obtain ⟨a, q, he, -, -⟩ := it_form s6
   refine ⟨a, q, congrArg some he, ?_⟩
   rw [he] at s6
   exact s6
  ·obtain ⟨a, q, he, -, -⟩ := it_form s7
   refine ⟨a, q, congrArg some he, ?_⟩
   rw [he] at s7
   exact s7
theorem fourteen_list {α : Type} {l : List α} (h : l.length = 14) : ∃ c0 c1 c2 c3 c4 c5 c6 c7 c8 c9 c10 c11 c12 c13, l = [c0, c1, c2, c3, c4, c5, c6, c7, c8, c9, c10, c11, c12, c13] := by
 match l, h with
 | [c0, c1, c2, c3, c4, c5, c6, c7, c8, c9, c10, c11, c12, c13], _ => exact ⟨c0, c1, c2, c3, c4, c5, c6, c7, c8, c9, c10, c11, c12, c13, rfl⟩
theorem cells_gen : Tryz.prog.cellsOf 46 = 14 := by kernel_rfl
theorem cells_int13 : Tryz.prog.cellsOf 3 = 1 := by kernel_rfl
theorem cells_bool13 : Tryz.prog.cellsOf 4 = 1 := by kernel_rfl
theorem cells_gens : Tryz.prog.cellsOf 22 = 1 := by kernel_rfl
theorem cells_slot : Tryz.prog.cellsOf 24 = 4 := by kernel_rfl
theorem gc_read {H : Type} {enc : TypeId × Value → H} {W : World} {fuel : Nat} {cs : List Value} {y : DataW H × List MemPlace} (hl14 : cs.length = 14) (hf : DataW.trod enc Tryz.prog W 0 (fun _ => true) true fuel 46 cs = some y) : ∃ g, GC W cs g := by
 obtain ⟨c0, c1, c2, c3, c4, c5, c6, c7, c8, c9, c10, c11, c12, c13, rfl⟩ := fourteen_list hl14
 obtain ⟨ys, m, _, _, _, hl, hfl⟩ := DataW.trod_struct Tryz.underlying46 hf
 have h0 : DataW.trod enc Tryz.prog W 0 (fun _ => true) true m 3 (([c0, c1, c2, c3, c4, c5, c6, c7, c8, c9, c10, c11, c12, c13].drop 0).take (Tryz.prog.cellsOf 3)) = ys[0]? := hfl 0 _ rfl
 have h1 : DataW.trod enc Tryz.prog W 0 (fun _ => true) true m 2 (([c0, c1, c2, c3, c4, c5, c6, c7, c8, c9, c10, c11, c12, c13].drop 1).take (Tryz.prog.cellsOf 2)) = ys[1]? := hfl 1 _ rfl
 have h2 : DataW.trod enc Tryz.prog W 0 (fun _ => true) true m 3 (([c0, c1, c2, c3, c4, c5, c6, c7, c8, c9, c10, c11, c12, c13].drop 2).take (Tryz.prog.cellsOf 3)) = ys[2]? := hfl 2 _ rfl
 have h3 : DataW.trod enc Tryz.prog W 0 (fun _ => true) true m 2 (([c0, c1, c2, c3, c4, c5, c6, c7, c8, c9, c10, c11, c12, c13].drop 3).take (Tryz.prog.cellsOf 2)) = ys[3]? := hfl 3 _ rfl
 have h4 : DataW.trod enc Tryz.prog W 0 (fun _ => true) true m 44 (([c0, c1, c2, c3, c4, c5, c6, c7, c8, c9, c10, c11, c12, c13].drop 4).take (Tryz.prog.cellsOf 44)) = ys[4]? := hfl 4 _ rfl
 rw [cells_int13] at h0 h2
 rw [cells_i64m] at h1 h3
 rw [cells_map] at h4
 have hl5 : ys.length = 5 := hl
 match ys, hl5 with
 | [y0, y1, y2, y3, y4], _ =>
  obtain ⟨x0, e0, _, w0⟩ := DataW.trod_int Tryz.underlying3 (show DataW.trod enc Tryz.prog W 0 (fun _ => true) true m 3 [c0] = some y0 from h0)
  obtain ⟨x1, e1, _, w1⟩ := DataW.trod_int Tryz.underlying2 (show DataW.trod enc Tryz.prog W 0 (fun _ => true) true m 2 [c1] = some y1 from h1)
  obtain ⟨x2, e2, _, w2⟩ := DataW.trod_int Tryz.underlying3 (show DataW.trod enc Tryz.prog W 0 (fun _ => true) true m 3 [c2] = some y2 from h2)
  obtain ⟨x3, e3, _, w3⟩ := DataW.trod_int Tryz.underlying2 (show DataW.trod enc Tryz.prog W 0 (fun _ => true) true m 2 [c3] = some y3 from h3)
  obtain rfl : c0 = .int .i64 x0 := by simpa using e0
  obtain rfl : c1 = .int .i64 x1 := by simpa using e1
  obtain rfl : c2 = .int .i64 x2 := by simpa using e2
  obtain rfl : c3 = .int .i64 x3 := by simpa using e3
  obtain ⟨mm, hm, rfl, rfl⟩ := mp_read (show DataW.trod enc Tryz.prog W 0 (fun _ => true) true m 44 [c4, c5, c6, c7, c8, c9, c10, c11, c12, c13] = some y4 from h4)
  exact ⟨⟨x0, x1, x2, x3, mm⟩, c4, c5, c6, c7, c8, c9, c10, c11, rfl, hm, j64_wf w0, j64_wf w1, j64_wf w2, j64_wf w3⟩
/-- A list of generations that was read. -/
theorem gl_read {H : Type} {enc : TypeId × Value → H} {W : World} {fuel : Nat} {c : Value} {y : DataW H × List MemPlace} (hf : DataW.trod enc Tryz.prog W 0 (fun _ => true) true fuel 22 [c] = some y) : ∃ L, Gl W c L := by
 rcases open_slice Tryz.underlying22 hf with ⟨hcs, _⟩ | ⟨x, len, cap, m, n, D, Pl, hcs, _, hl, hm, hmm, -, hi⟩
 ·obtain rfl : c = _ := by simpa using hcs
  exact ⟨[], zeroS_ok W⟩
 ·obtain rfl : c = _ := by simpa using hcs
  have hmc : m = cap := by simpa using hmm
  subst hmc
  obtain ⟨b, off, spot⟩ := x
  have hspot : 0 < len → spot = none := fun h0 => by
   obtain ⟨cs', hc, ht⟩ := hi 0 (by omega)
   rw [cells_gen] at hc
   obtain ⟨_, hl14, hat⟩ := World.cells?_some hc
   have e0 := hat 0 (by omega)
   rw [List.getElem?_eq_getElem (by omega)] at e0
   simpa [Addr.add] using World.cell?_spot e0
  have hx : ∀ i, ∃ q : List Value × Ge, i < len → GC W q.1 q.2 ∧ spot = none ∧ ∀ u, u < 14 → W.cell? ⟨b, off + (i * 14 + u), none⟩ = q.1[u]? := fun i => by
   by_cases h1 : i < len
   ·obtain ⟨cs', hc, ht⟩ := hi i (by omega)
    rw [cells_gen] at hc
    obtain ⟨_, hl14, hat⟩ := World.cells?_some hc
    obtain ⟨g, hg⟩ := gc_read hl14 ht
    obtain rfl := hspot (by omega)
    refine ⟨(cs', g), fun _ => ⟨hg, rfl, fun u hu => ?_⟩⟩
    have h2 := hat u (by omega)
    rw [add_none, add_none] at h2
    rw [show off + (i * 14 + u) = off + i * 14 + u by omega]
    exact h2
   ·exact ⟨([], g0), fun h => absurd h h1⟩
  obtain ⟨f, hf'⟩ := Classical.axiomOfChoice hx
  have hlen : ((List.range len).map f).length = len := by simp
  refine ⟨(List.range len).map fun i => (f i).2, (List.range len).map fun i => (f i).1, some ⟨b, off, spot⟩, m, by simp, by simp, by simpa using hl, hm, fun k hk => ?_, fun hp => ?_⟩
  ·have hk : k < len := by simpa using hk
   rw [List.getD_eq_getElem?_getD, List.getD_eq_getElem?_getD, List.getElem?_map, List.getElem?_map, List.getElem?_range hk]
   exact (hf' k hk).1
  ·have hp : 0 < len := by simpa using hp
   refine ⟨b, off, by rw [(hf' 0 hp).2.1], fun k u hk hu => ?_⟩
   have hk : k < len := by simpa using hk
   rw [List.getD_eq_getElem?_getD, List.getElem?_map, List.getElem?_range hk]
   exact (hf' k hk).2.2 u hu
/-- A slot that came in as an argument. -/
theorem slt_open {H : Type} {enc : TypeId × Value → H} {W : World} {base : Nat} {v : Value} {d : DataW H} {p : List MemPlace} (hv : Value.okWide Tryz.prog W .any base 24 v) (h : DataW.Trod enc Tryz.prog W 0 (fun _ => true) true 24 v d p) : ∃ s, Sv W v s := by
 obtain ⟨cs, rfl, hsz⟩ := okWide_struct Tryz.underlying24 hv
 obtain ⟨fuel, hf⟩ := h
 rw [cells_slot] at hsz
 obtain ⟨l⟩ := cs
 have hl4 : l.length = 4 := by simpa using hsz
 match l, hl4 with
 | [c0, c1, c2, c3], _ =>
  obtain ⟨ys, m, _, _, _, hl, hfl⟩ := DataW.trod_struct Tryz.underlying24 hf
  have h0 : DataW.trod enc Tryz.prog W 0 (fun _ => true) true m 3 (([c0, c1, c2, c3].drop 0).take (Tryz.prog.cellsOf 3)) = ys[0]? := hfl 0 _ rfl
  have h1 : DataW.trod enc Tryz.prog W 0 (fun _ => true) true m 2 (([c0, c1, c2, c3].drop 1).take (Tryz.prog.cellsOf 2)) = ys[1]? := hfl 1 _ rfl
  have h2 : DataW.trod enc Tryz.prog W 0 (fun _ => true) true m 4 (([c0, c1, c2, c3].drop 2).take (Tryz.prog.cellsOf 4)) = ys[2]? := hfl 2 _ rfl
  have h3 : DataW.trod enc Tryz.prog W 0 (fun _ => true) true m 22 (([c0, c1, c2, c3].drop 3).take (Tryz.prog.cellsOf 22)) = ys[3]? := hfl 3 _ rfl
  rw [cells_int13] at h0
  rw [cells_i64m] at h1
  rw [cells_bool13] at h2
  rw [cells_gens] at h3
  have hl4 : ys.length = 4 := hl
  match ys, hl4 with
  | [y0, y1, y2, y3], _ =>
   obtain ⟨x0, e0, _, w0⟩ := DataW.trod_int Tryz.underlying3 (show DataW.trod enc Tryz.prog W 0 (fun _ => true) true m 3 [c0] = some y0 from h0)
   obtain ⟨x1, e1, _, w1⟩ := DataW.trod_int Tryz.underlying2 (show DataW.trod enc Tryz.prog W 0 (fun _ => true) true m 2 [c1] = some y1 from h1)
   obtain ⟨x2, e2, _⟩ := DataW.trod_bool Tryz.underlying4 (show DataW.trod enc Tryz.prog W 0 (fun _ => true) true m 4 [c2] = some y2 from h2)
   obtain ⟨L, hL⟩ := gl_read (show DataW.trod enc Tryz.prog W 0 (fun _ => true) true m 22 [c3] = some y3 from h3)
   obtain rfl : c0 = .int .i64 x0 := by simpa using e0
   obtain rfl : c1 = .int .i64 x1 := by simpa using e1
   obtain rfl : c2 = .bool x2 := by simpa using e2
   exact ⟨⟨x0, x1, x2, L⟩, c3, rfl, hL, j64_wf w0, j64_wf w1⟩
abbrev tyN : Ty := .pr (.i .u64) (.pr (.i .u32) (.pr .b (.sl .u8)))
abbrev tyA : Ty := .pr (.i .i64) (.pr (.sl tyN) (.pr (.i .i64) (.sl (.i .u64))))
theorem tyNOf : TyOf Tryz.prog 119 tyN := .st Tryz.underlying119 (by kernel_rfl) (.more rfl (by kernel_rfl) (.i Tryz.underlying26) (.more rfl (by kernel_rfl) (.i Tryz.underlying62) (.more rfl (by kernel_rfl) (.b Tryz.underlying4) (.last rfl (by kernel_rfl) (.sl Tryz.underlying117 (by kernel_rfl) (.u8 Tryz.underlying5))))))
theorem tyAOf : TyOf Tryz.prog 90 tyA := .st Tryz.underlying90 (by kernel_rfl) (.more rfl (by kernel_rfl) (.i Tryz.underlying3) (.more rfl (by kernel_rfl) (.sl Tryz.underlying79 (by kernel_rfl) tyNOf) (.more rfl (by kernel_rfl) (.i Tryz.underlying3) (.last rfl (by kernel_rfl) (.sl Tryz.underlying61 (by kernel_rfl) (.i Tryz.underlying26))))))
theorem lt64 {x : Int} (h0 : 0 ≤ x) (h1 : x ≤ 18446744073709551615) : x.toNat < 18446744073709551616 := by omega
theorem lt32 {x : Int} (h0 : 0 ≤ x) (h1 : x ≤ 4294967295) : x.toNat < 4294967296 := by omega
theorem nr_of_rd {W : World} {v : Value} {l : List tyN.T} (h : Rd (fun _ => True) W (.sl tyN) [v] l) : Nr W v l.length := by
 obtain ⟨a, cap, rfl, h1, h2⟩ := rd_sl h
 refine ⟨a, cap, rfl, h1, h2, fun hp => ?_⟩
 obtain ⟨b, off, cap2, hv, -, -, -, hc⟩ := rd_cells h hp
 obtain ⟨rfl, -⟩ : a = some ⟨b, off, none⟩ ∧ cap = cap2 := by simpa using hv
 refine ⟨b, off, rfl, fun i hi => ?_⟩
 obtain ⟨cs, hr, hcell⟩ := hc i _ (List.getElem?_eq_getElem hi)
 generalize l[i]'hi = x at hr
 obtain ⟨k, r1, rfl, ⟨⟨hk0, hk1⟩, rfl⟩, q, r2, rfl, ⟨⟨hq0, hq1⟩, rfl⟩, e, r3, rfl, he, hd⟩ := hr
 have he' : e = [.bool x.2.2.1] := he
 subst he'
 obtain ⟨L, da, dc, rfl, -, hn, hm, -, -⟩ := hd
 have hk0 : (0 : Int) ≤ x.1 := hk0
 have hk1 : x.1 ≤ 18446744073709551615 := hk1
 have hq0 : (0 : Int) ≤ x.2.1 := hq0
 have hq1 : x.2.1 ≤ 4294967295 := hq1
 have c := fun u hu => hcell u (show u < 4 from hu)
 refine ⟨x.1.toNat, x.2.1.toNat, x.2.2.1, da, L.length, dc, lt64 hk0 hk1, lt32 hq0 hq1, hn, hm, ?_, ?_, ?_, ?_⟩
 ·rw [Int.toNat_of_nonneg hk0]; exact c 0 (by decide)
 ·rw [Int.toNat_of_nonneg hq0]; exact c 1 (by decide)
 ·exact c 2 (by decide)
 ·exact c 3 (by decide)
theorem kl_of_rd {W : World} {v : Value} {l : List Int} (h : Rd (fun _ => True) W (.sl (.i .u64)) [v] l) : Kl W v l.length := by
 obtain ⟨a, cap, rfl, h1, h2⟩ := rd_sl h
 refine ⟨a, cap, rfl, h1, h2, fun hp => ?_⟩
 obtain ⟨b, off, cap2, hv, -, -, -, hc⟩ := rd_cells h hp
 obtain ⟨rfl, -⟩ : a = some ⟨b, off, none⟩ ∧ cap = cap2 := by simpa using hv
 refine ⟨b, off, rfl, fun i hi => ?_⟩
 obtain ⟨cs, hr, hcell⟩ := hc i _ (List.getElem?_eq_getElem hi)
 generalize l[i]'hi = x at hr
 obtain ⟨⟨hk0, hk1⟩, rfl⟩ := hr
 have hk0 : (0 : Int) ≤ x := hk0
 have hk1 : x ≤ 18446744073709551615 := hk1
 refine ⟨x.toNat, by omega, ?_⟩
 rw [Int.toNat_of_nonneg hk0]
 have c := hcell 0 (show 0 < 1 by decide)
 rw [show off + (i * Ty.n (.i .u64) + 0) = off + i by show off + (i * 1 + 0) = _; omega] at c
 exact c
theorem al_of_rd {W : World} {v : Value} {l : List tyA.T} (h : Rd (fun _ => True) W (.sl tyA) [v] l) : Al W v l.length := by
 obtain ⟨a, cap, rfl, h1, h2⟩ := rd_sl h
 refine ⟨a, cap, rfl, h1, h2, fun hp => ?_⟩
 obtain ⟨b, off, cap2, hv, -, -, -, hc⟩ := rd_cells h hp
 obtain ⟨rfl, -⟩ : a = some ⟨b, off, none⟩ ∧ cap = cap2 := by simpa using hv
 refine ⟨b, off, rfl, fun i hi => ?_⟩
 obtain ⟨cs, hr, hcell⟩ := hc i _ (List.getElem?_eq_getElem hi)
 obtain ⟨k, r1, rfl, ⟨-, rfl⟩, q, r2, rfl, hn, e, r3, rfl, ⟨-, rfl⟩, hk⟩ := hr
 have hql := rd_len hn
 have hrl := rd_len hk
 obtain ⟨vn, rfl⟩ : ∃ vn, q = [vn] := by
  match q, hql with
  | [vn], _ => exact ⟨vn, rfl⟩
 obtain ⟨vk, rfl⟩ : ∃ vk, r3 = [vk] := by
  match r3, hrl with
  | [vk], _ => exact ⟨vk, rfl⟩
 have n1 := nr_of_rd hn
 have k1 := kl_of_rd hk
 obtain ⟨na, nc, rfl, -⟩ := rd_sl hn
 obtain ⟨ka, kc, rfl, -⟩ := rd_sl hk
 have c := fun u hu => hcell u (show u < 4 from hu)
 exact ⟨_, _, na, _, nc, ka, _, kc, c 0 (by decide), c 1 (by decide), c 2 (by decide), c 3 (by decide), n1, k1⟩
theorem acts_open {H : Type} {enc : TypeId × Value → H} {W : World} {base : Nat} {v : Value} {d : DataW H} {p : List MemPlace} (hv : Value.okWide Tryz.prog W .any base 25 v) (h : DataW.Trod enc Tryz.prog W 0 (fun _ => true) true 25 v d p) : ∃ n : Nat, Al W v n := by
 obtain ⟨a, len, cap, rfl⟩ := okWide_slice Tryz.underlying25 hv
 obtain ⟨fuel, hf⟩ := h
 obtain ⟨L, hL⟩ := rd_open fuel (.sl Tryz.underlying25 (by kernel_rfl) tyAOf) hf
 exact ⟨_, al_of_rd hL⟩
end Go.Proofs.YtgbnclepgjcakaaGreat.Gf
