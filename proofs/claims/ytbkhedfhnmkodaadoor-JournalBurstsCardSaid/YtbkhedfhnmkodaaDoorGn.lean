/- What is proved here: data of any shape in memory (numbers, strings, structs, slices of such): reading them, what stays of them in later worlds, lists of a call's own and appending to them. No program text. -/
import Derived.Maps.AppendAt
import Derived.WalkKit
import Derived.ProofKit
import Derived.OpenShut
import Derived.Lib.Hide
namespace Go.Proofs.YtbkhedfhnmkodaaDoor.Gf
open Go Go.ChangeShapes Go.WideShapes Go.ChangeAt Go.RowKit

/-- The shape of data: a byte, a number, a bool, a string, a slice, two fields one behind the other. -/
inductive Ty where
  | u8
  | i (k : IntKind)
  | b
  | s
  | sl (t : Ty)
  | pr (x y : Ty)
/-- What data of a shape are, as plain values. -/
@[reducible] def Ty.T : Ty → Type
  | .u8 => Nat
  | .i _ => Int
  | .b => Bool
  | .s => ByteArray
  | .sl t => List t.T
  | .pr x y => x.T × y.T
/-- The number of cells. -/
def Ty.n : Ty → Nat
  | .pr x y => x.n + y.n
  | _ => 1
theorem Ty.n_pos : ∀ t : Ty, 0 < t.n
  | .u8 => Nat.one_pos
  | .i _ => Nat.one_pos
  | .b => Nat.one_pos
  | .s => Nat.one_pos
  | .sl _ => Nat.one_pos
  | .pr x y => by
    have := x.n_pos
    show 0 < x.n + y.n
    omega
/-- The cells cs read as x in the world w, and what lies behind them in blocks of B. -/
def Rd (B : Nat → Prop) (w : World) : (t : Ty) → List Value → t.T → Prop
  | .u8, cs, x => x < 256 ∧ cs = [.int .u8 ((x : Nat) : Int)]
  | .i k, cs, x => (k.min ≤ x ∧ x ≤ k.max) ∧ cs = [.int k x]
  | .b, cs, x => cs = [.bool x]
  | .s, cs, x => x.size ≤ maxLen ∧ cs = [.string x]
  | .sl t, cs, l => ∃ (L : List (List Value × t.T)) (a : Option Addr) (cap : Nat), cs = [.slice a L.length cap] ∧ L.map Prod.snd = l ∧ L.length ≤ cap ∧ cap ≤ maxLen ∧ (∀ p ∈ L, Rd B w t p.1 p.2) ∧ (0 < L.length → ∃ b off, a = some ⟨b, off, none⟩ ∧ B b ∧ ∀ j u, (L.flatMap Prod.fst)[j]? = some u → w.cell? ⟨b, off + j, none⟩ = some u)
  | .pr x y, cs, v => ∃ c d, cs = c ++ d ∧ Rd B w x c v.1 ∧ Rd B w y d v.2
theorem rd_len {B : Nat → Prop} {w : World} : ∀ {t : Ty} {cs : List Value} {x : t.T}, Rd B w t cs x → cs.length = t.n
  | .u8, _, _, ⟨_, h⟩ => by rw [h]; rfl
  | .i _, _, _, ⟨_, h⟩ => by rw [h]; rfl
  | .b, _, _, h => by rw [show _ = _ from h]; rfl
  | .s, _, _, ⟨_, h⟩ => by rw [h]; rfl
  | .sl _, _, _, ⟨_, _, _, h, _⟩ => by rw [h]; rfl
  | .pr _ _, _, _, ⟨c, d, h, h1, h2⟩ => by
    rw [h, List.length_append, rd_len h1, rd_len h2]
    rfl
theorem rd_one {B : Nat → Prop} {w : World} : ∀ {t : Ty} {cs : List Value} {x : t.T}, Rd B w t cs x → ∀ u ∈ cs, u.oneCell' = true
  | .u8, _, _, ⟨_, h⟩ => by subst h; intro u hu; rw [List.mem_singleton.1 hu]; rfl
  | .i _, _, _, ⟨_, h⟩ => by subst h; intro u hu; rw [List.mem_singleton.1 hu]; rfl
  | .b, cs, x, h => by have h' : cs = [.bool x] := h; subst h'; intro u hu; rw [List.mem_singleton.1 hu]; rfl
  | .s, _, _, ⟨_, h⟩ => by subst h; intro u hu; rw [List.mem_singleton.1 hu]; rfl
  | .sl _, _, _, ⟨_, _, _, h, _⟩ => by subst h; intro u hu; rw [List.mem_singleton.1 hu]; rfl
  | .pr _ _, _, _, ⟨c, d, h, h1, h2⟩ => by
    subst h
    intro u hu
    rcases List.mem_append.1 hu with hu | hu
    · exact rd_one h1 u hu
    · exact rd_one h2 u hu
theorem cell_heap {w w' : World} {b o : Nat} (h : w'.heap[b]? = w.heap[b]?) : w'.cell? ⟨b, o, none⟩ = w.cell? ⟨b, o, none⟩ := by
  unfold World.cell?
  simp only
  rw [h]
theorem cell_lt {w : World} {b o : Nat} {v : Value} (h : w.cell? ⟨b, o, none⟩ = some v) : b < w.heap.size := by
  unfold World.cell? at h
  simp only at h
  rcases Nat.lt_or_ge b w.heap.size with c | c
  · exact c
  · rw [Array.getElem?_eq_none (by omega)] at h
    cases h
/-- Data stay where the blocks that they lie in stay. -/
theorem rd_move {B C : Nat → Prop} {w w' : World} (hw : ∀ b, B b → b < w.heap.size → w'.heap[b]? = w.heap[b]?) (hc : ∀ b, B b → b < w.heap.size → C b) : ∀ {t : Ty} {cs : List Value} {x : t.T}, Rd B w t cs x → Rd C w' t cs x
  | .u8, _, _, h => h
  | .i _, _, _, h => h
  | .b, _, _, h => h
  | .s, _, _, h => h
  | .sl t, _, _, ⟨L, a, cap, h1, h2, h3, h4, h5, h6⟩ => by
    refine ⟨L, a, cap, h1, h2, h3, h4, fun p hp => rd_move hw hc (h5 p hp), fun hp => ?_⟩
    obtain ⟨b, off, e, hb, hk⟩ := h6 hp
    have hlt : b < w.heap.size := by
      match L, hp with
      | p :: L', _ =>
        have hl := rd_len (h5 p (List.mem_cons_self ..))
        have hn := t.n_pos
        match hq : p.1, hl with
        | u :: r, _ => exact cell_lt (hk 0 u (by simp [hq]))
        | [], hl => simp at hl; omega
    exact ⟨b, off, e, hc b hb hlt, fun j u hu => (cell_heap (hw b hb hlt)).trans (hk j u hu)⟩
  | .pr _ _, _, _, ⟨c, d, h, h1, h2⟩ => ⟨c, d, h, rd_move hw hc h1, rd_move hw hc h2⟩
theorem rd_mono {B C : Nat → Prop} {w : World} {t : Ty} {cs : List Value} {x : t.T} (h : Rd B w t cs x) (hc : ∀ b, B b → b < w.heap.size → C b) : Rd C w t cs x := rd_move (fun _ _ _ => rfl) hc h
theorem rd_below {B : Nat → Prop} {w w' : World} {t : Ty} {cs : List Value} {x : t.T} (h : Rd B w t cs x) (hB : Below w.heap.size w w') : Rd B w' t cs x := rd_move (fun b _ hb => hB.block b hb) (fun _ hb _ => hb) h
/-- The elements of a slice. -/
theorem rd_sl {B : Nat → Prop} {w : World} {t : Ty} {v : Value} {l : List t.T} (h : Rd B w (.sl t) [v] l) : ∃ a cap, v = .slice a l.length cap ∧ l.length ≤ cap ∧ cap ≤ maxLen := by
  obtain ⟨L, a, cap, h1, rfl, h3, h4, -⟩ := h
  rw [List.length_map]
  exact ⟨a, cap, by simpa using h1, h3, h4⟩
theorem flat_at {t : Ty} {B : Nat → Prop} {w : World} : ∀ {L : List (List Value × t.T)}, (∀ p ∈ L, Rd B w t p.1 p.2) → ∀ (j u : Nat) {p : List Value × t.T}, L[j]? = some p → u < t.n → (L.flatMap Prod.fst)[j * t.n + u]? = p.1[u]?
  | [], _, _, _, _, h, _ => by simp at h
  | q :: L, hL, 0, u, p, h, hu => by
    obtain rfl : q = p := by simpa using h
    have hl := rd_len (hL q (List.mem_cons_self ..))
    rw [List.flatMap_cons, Nat.zero_mul, Nat.zero_add, List.getElem?_append_left (by omega)]
  | q :: L, hL, j + 1, u, p, h, hu => by
    have hl := rd_len (hL q (List.mem_cons_self ..))
    have ih := flat_at (fun r hr => hL r (List.mem_cons_of_mem _ hr)) j u (p := p) (by simpa using h) hu
    have e : (j + 1) * t.n = j * t.n + t.n := Nat.succ_mul j t.n
    rw [List.flatMap_cons, List.getElem?_append_right (by omega), show (j + 1) * t.n + u - q.1.length = j * t.n + u by omega]
    exact ih
theorem flat_lenG {t : Ty} {B : Nat → Prop} {w : World} : ∀ {L : List (List Value × t.T)}, (∀ p ∈ L, Rd B w t p.1 p.2) → (L.flatMap Prod.fst).length = L.length * t.n
  | [], _ => by simp
  | q :: L, hL => by
    rw [List.flatMap_cons, List.length_append, rd_len (hL q (List.mem_cons_self ..)), flat_lenG fun r hr => hL r (List.mem_cons_of_mem _ hr), List.length_cons, Nat.succ_mul]
    omega
theorem flat_one {t : Ty} {B : Nat → Prop} {w : World} {L : List (List Value × t.T)} (hL : ∀ p ∈ L, Rd B w t p.1 p.2) : ∀ u ∈ L.flatMap Prod.fst, u.oneCell' = true := fun u hu => by
  obtain ⟨p, hp, hu⟩ := List.mem_flatMap.1 hu
  exact rd_one (hL p hp) u hu
/-- A slice that is not empty: its block, and the cells of each element. -/
theorem rd_cells {B : Nat → Prop} {w : World} {t : Ty} {v : Value} {l : List t.T} (h : Rd B w (.sl t) [v] l) (hp : 0 < l.length) : ∃ b off cap, v = .slice (some ⟨b, off, none⟩) l.length cap ∧ l.length ≤ cap ∧ cap ≤ maxLen ∧ B b ∧ ∀ j x, l[j]? = some x → ∃ c, Rd B w t c x ∧ ∀ u, u < t.n → w.cell? ⟨b, off + (j * t.n + u), none⟩ = c[u]? := by
  obtain ⟨L, a, cap, h1, rfl, h3, h4, h5, h6⟩ := h
  rw [List.length_map] at hp ⊢
  obtain ⟨b, off, rfl, hb, hk⟩ := h6 hp
  refine ⟨b, off, cap, by simpa using h1, h3, h4, hb, fun j x hx => ?_⟩
  rw [List.getElem?_map, Option.map_eq_some_iff] at hx
  obtain ⟨p, hj, rfl⟩ := hx
  have hm : p ∈ L := List.mem_of_getElem? hj
  refine ⟨p.1, h5 p hm, fun u hu => ?_⟩
  have hf := flat_at h5 j u hj hu
  have hl := rd_len (h5 p hm)
  have hs : p.1[u]? = some (p.1[u]'(by omega)) := List.getElem?_eq_getElem _
  rw [hs] at hf ⊢
  exact hk _ _ hf
theorem rd_nil (B : Nat → Prop) (w : World) (t : Ty) : Rd B w (.sl t) [.slice none 0 0] [] := ⟨[], none, 0, rfl, rfl, Nat.le_refl _, by simp, by simp, fun h => by simp at h⟩
/-- One element in a block, as a slice. -/
theorem rd_single {B : Nat → Prop} {w : World} {t : Ty} {cs : List Value} {x : t.T} (h : Rd B w t cs x) {g : Nat} {T : TypeId} {fr : Nat × Nat} (hg : w.heap[g]? = some (.cells cs.toArray T fr)) (hb : B g) : Rd B w (.sl t) [.slice (some ⟨g, 0, none⟩) 1 1] [x] := by
  refine ⟨[(cs, x)], some ⟨g, 0, none⟩, 1, rfl, rfl, Nat.le_refl _, by unfold maxLen; decide, by simpa using h, fun _ => ⟨g, 0, rfl, hb, fun j u hu => ?_⟩⟩
  rw [Nat.zero_add, cell_of_row w g j _ _ _ hg]
  simpa using hu
/-- A list of the call's own: a block of its own, of type T; what its elements lead to lies elsewhere, in blocks of B. -/
def OwG (T : TypeId) (t : Ty) (B : Nat → Prop) (w : World) (base : Nat) (v : Value) (l : List t.T) : Prop := ∃ L : List (List Value × t.T), L.map Prod.snd = l ∧ (∀ p ∈ L, Rd (fun b => B b ∧ v.ownBlock ≠ some b) w t p.1 p.2) ∧ w.ownsRow base T t.n v L.length (L.flatMap Prod.fst)
theorem og_nil (T : TypeId) (t : Ty) (B : Nat → Prop) (w : World) (base : Nat) : OwG T t B w base (.slice none 0 0) [] := ⟨[], rfl, by simp, World.ownsRow_nil _ _ _ _⟩
theorem og_rd {T : TypeId} {t : Ty} {B : Nat → Prop} {w : World} {base : Nat} {v : Value} {l : List t.T} (h : OwG T t B w base v l) (hb : ∀ b, base ≤ b → B b) : Rd B w (.sl t) [v] l := by
  obtain ⟨L, h1, h0, _, h2⟩ := h
  rcases h2 with ⟨rfl, h2⟩ | ⟨g, cap, cur, rfl, hg, hk, hn, hm, hsz, ht⟩
  · obtain rfl := List.eq_nil_of_length_eq_zero h2
    subst h1
    exact rd_nil _ _ _
  · refine ⟨L, _, _, rfl, h1, hn, hm, fun p hp => rd_mono (h0 p hp) fun b hb _ => hb.1, fun _ => ⟨g, 0, rfl, hb g hg, fun j u hu => ?_⟩⟩
    rw [Nat.zero_add, cell_of_row w g j cur _ (0, 0) hk]
    rw [← ht, List.getElem?_take] at hu
    split at hu
    · simpa using hu
    · cases hu
theorem og_form {T : TypeId} {t : Ty} {B : Nat → Prop} {w : World} {base : Nat} {v : Value} {l : List t.T} (h : OwG T t B w base v l) : ∃ a cap, v = .slice a l.length cap ∧ l.length ≤ cap ∧ cap ≤ maxLen := by
  obtain ⟨L, rfl, h0, h2⟩ := h
  exact rd_sl (og_rd ⟨L, rfl, fun p hp => rd_mono (h0 p hp) fun b hb _ => ⟨trivial, hb.2⟩, h2⟩ (B := fun _ => True) fun _ _ => trivial)
theorem og_lt {T : TypeId} {t : Ty} {B : Nat → Prop} {w : World} {base : Nat} {v : Value} {l : List t.T} (h : OwG T t B w base v l) : ∀ k, v.ownBlock = some k → base ≤ k ∧ k < w.heap.size := by
  obtain ⟨L, _, _, h2⟩ := h
  exact h2.lt
theorem og_mono {T : TypeId} {t : Ty} {B C : Nat → Prop} {w : World} {base : Nat} {v : Value} {l : List t.T} (h : OwG T t B w base v l) (hc : ∀ b, B b → b < w.heap.size → C b) : OwG T t C w base v l := by
  obtain ⟨L, h1, h0, h2⟩ := h
  exact ⟨L, h1, fun p hp => rd_mono (h0 p hp) fun b hb hl => ⟨hc b hb.1 hl, hb.2⟩, h2⟩
theorem og_base {T : TypeId} {t : Ty} {B : Nat → Prop} {w : World} {base b2 : Nat} {v : Value} {l : List t.T} (h : OwG T t B w base v l) (hb : b2 ≤ base) : OwG T t B w b2 v l := by
  obtain ⟨L, h1, h0, e1, e2 | ⟨q, cap, cur, rfl, hq, h4⟩⟩ := h
  · exact ⟨L, h1, h0, e1, Or.inl e2⟩
  · exact ⟨L, h1, h0, e1, Or.inr ⟨q, cap, cur, rfl, by omega, h4⟩⟩
/-- A list of the call's own stays where its blocks stay. -/
theorem og_move {T : TypeId} {t : Ty} {B : Nat → Prop} {w w' : World} {base : Nat} {v : Value} {l : List t.T} (h : OwG T t B w base v l) (hw : ∀ b, (B b ∨ v.ownBlock = some b) → b < w.heap.size → w'.heap[b]? = w.heap[b]?) : OwG T t B w' base v l := by
  obtain ⟨L, h1, h0, h2⟩ := h
  have hlt := h2.lt
  refine ⟨L, h1, fun p hp => rd_move (fun b hb hl => hw b (Or.inl hb.1) hl) (fun _ hb _ => hb) (h0 p hp), ?_⟩
  obtain ⟨e1, e2 | ⟨g, cap, cur, rfl, hg, hb, h3⟩⟩ := h2
  · exact ⟨e1, Or.inl e2⟩
  · exact ⟨e1, Or.inr ⟨g, cap, cur, rfl, hg, (hw g (Or.inr rfl) (hlt g rfl).2).trans hb, h3⟩⟩
theorem og_below {T : TypeId} {t : Ty} {B : Nat → Prop} {w w' : World} {base : Nat} {v : Value} {l : List t.T} (h : OwG T t B w base v l) (hB : Below w.heap.size w w') : OwG T t B w' base v l := og_move h fun b _ hl => hB.block b hl
/-- A type of slices, of its elements, and their shape. -/
structure LsT (P : Program) (S T : TypeId) (t : Ty) : Prop where
  und : P.underlying S = some (.slice T)
  info : ∃ i z, P.info? T = some i ∧ i.zero = some z ∧ i.size = t.n ∧ i.bytes ≤ 1000 ∧ z.cells.size = t.n
theorem lsT_of {P : Program} {S T : TypeId} {t : Ty} (h : P.underlying S = some (.slice T)) {z : Value} {n b : Nat} (hi : (P.info? T).map (fun i => (i.zero, i.size, i.bytes)) = some (some z, n, b)) (hn : n = t.n) (hb : b ≤ 1000) (hz : z.cells.size = t.n) : LsT P S T t := by
  refine ⟨h, ?_⟩
  cases hp : P.info? T with
  | none => rw [hp] at hi; cases hi
  | some i =>
    rw [hp] at hi
    simp at hi
    exact ⟨i, z, rfl, hi.1, by rw [hi.2.1, hn], by rw [hi.2.2]; exact hb, hz⟩
/-- append of a slice, onto a list of the call's own. -/
theorem run_app_g {P : Program} {S T : TypeId} {t : Ty} (ty : LsT P S T t) {B : Nat → Prop} {W : World} {base : Nat} {v y : Value} {l m : List t.T} (r : TypeId) (hv : OwG T t B W base v l) (hy : Rd (fun b => B b ∧ v.ownBlock ≠ some b) W (.sl t) [y] m) (hlm : l.length + m.length ≤ 100000000) (hb : base ≤ W.heap.size) :
    ∃ v' w', (Builtin.append_ #[S, S] r #[v, y]).run P W = .ok v' w' ∧ OwG T t B w' base v' (l ++ m) ∧ W.grownBy w' v.ownBlock ∧ (v'.ownBlock = v.ownBlock ∨ v'.ownBlock = some W.heap.size) := by
  obtain ⟨i, z, hi, hz0, hz1, hz2, hz3⟩ := ty.info
  obtain ⟨L, rfl, hL, hown⟩ := hv
  obtain ⟨L2, a, cap, h1, rfl, h3, h4, h5, h6⟩ := hy
  obtain rfl : y = .slice a L2.length cap := by simpa using h1
  rw [List.length_map, List.length_map] at hlm
  have some_case : ∀ (q : Addr), (∀ j u, (L2.flatMap Prod.fst)[j]? = some u → W.cell? (q.add j) = some u) →
      ∃ v' w', (Builtin.append_ #[S, S] r #[v, .slice (some q) L2.length cap]).run P W = .ok v' w' ∧ OwG T t B w' base v' (L.map Prod.snd ++ L2.map Prod.snd) ∧ W.grownBy w' v.ownBlock ∧ (v'.ownBlock = v.ownBlock ∨ v'.ownBlock = some W.heap.size) := fun q hc => by
    obtain ⟨v', w', hr, ho, hgr, _, hat⟩ := run_append_own_at (P := P) W base S r T i z t.n i.bytes ty.und hi hz0 hz1 rfl hz3 t.n_pos _ _ _ hown q L2.length cap (L2.flatMap Prod.fst) (flat_lenG h5) hc (flat_one h5) (by unfold maxLen; omega) (by
      have := Nat.mul_le_mul (show L.length + L2.length ≤ 100000000 by omega) hz2
      omega) hb
    refine ⟨v', w', hr, ⟨L ++ L2, by rw [List.map_append], fun p hp => ?_, by rw [List.length_append, List.flatMap_append]; exact ho⟩, hgr, hat⟩
    have hp2 : Rd (fun b => B b ∧ v.ownBlock ≠ some b) W t p.1 p.2 := by
      rcases List.mem_append.1 hp with hp | hp
      · exact hL p hp
      · exact h5 p hp
    refine rd_move (fun b hb hl => hgr.block b hl fun e => hb.2 e.symm) (fun b hb hl => ⟨hb.1, ?_⟩) hp2
    rcases hat with e | e
    · rw [e]; exact hb.2
    · rw [e]
      intro e2
      have : W.heap.size = b := by simpa using e2
      omega
  by_cases hp : 0 < L2.length
  · obtain ⟨b, off, rfl, -, hcell⟩ := h6 hp
    exact some_case _ fun j u hu => by
      rw [show (⟨b, off, none⟩ : Addr).add j = ⟨b, off + j, none⟩ by unfold Addr.add; split <;> simp_all]
      exact hcell j u hu
  · obtain rfl : L2 = [] := List.eq_nil_of_length_eq_zero (by omega)
    cases a with
    | some q => exact some_case q fun j u hu => by simp at hu
    | none =>
      have hsame : W.grownBy W v.ownBlock := ⟨rfl, rfl, rfl, Nat.le_refl _, fun _ _ _ => rfl⟩
      have hL' : OwG T t B W base v (L.map Prod.snd ++ ([] : List (List Value × t.T)).map Prod.snd) := by
        rw [List.map_nil, List.append_nil]
        exact ⟨L, rfl, hL, hown⟩
      rcases hown.2 with ⟨rfl, h0⟩ | ⟨g', cap', cur, rfl, hg, hbk, hn, hcm, hsz, ht⟩
      · refine ⟨.slice none 0 0, W, ?_, hL', hsame, Or.inl rfl⟩
        simp [Builtin.append_, run_underlying ty.und, sizeOf, typeInfo, hi, Builtin.lenOf, Builtin.firstCells]
      · refine ⟨_, W, ?_, hL', hsame, Or.inl rfl⟩
        simp [Builtin.append_, run_underlying ty.und, sizeOf, typeInfo, hi, Builtin.lenOf, Builtin.firstCells, loadCells, storeCells, hn]
/-- append, as a step of a walk. -/
theorem app_g {P : Program} {S T : TypeId} {t : Ty} (ty : LsT P S T t) {ops : Array Oper} {rest : List Oper} {dst : Option Tmp} {s x : Operand} {pos : String} {after : Array Edge} {r : TypeId} {a : Act} {W : World} {Q : Exit → Act → World → Prop}
    {B : Nat → Prop} {base : Nat} {v y : Value} {l m : List t.T} (hs : a.eval s = v) (hx : a.eval x = y) (hv : OwG T t B W base v l) (hy : Rd (fun b => B b ∧ v.ownBlock ≠ some b) W (.sl t) [y] m) (hlm : l.length + m.length ≤ 100000000) (hb : base ≤ W.heap.size)
    (h : ∀ v' w', OwG T t B w' base v' (l ++ m) → W.grownBy w' v.ownBlock → (v'.ownBlock = v.ownBlock ∨ v'.ownBlock = some W.heap.size) → wpList P ops Q rest (a.put dst v') w') : wpList P ops Q (⟨dst, .call { callee := .builtin .append, args := #[s, x], argTypes := #[S, S] }, r, pos, after, none⟩ :: rest) a W := by
  obtain ⟨v', w', hr, h2, h3, h4⟩ := run_app_g ty r hv hy hlm hb
  refine wpList_plain rfl fun _ hK => ?_
  unfold Oper.wp execOp
  simp only [resolve, invoke, builtin, Sem.run_bind, Sem.run_pure, Result.andThen_ok, List.map_toArray, List.map_cons, List.map_nil, hs, hx, hr]
  exact hK _ _ (h v' w' h2 h3 h4)
/-- What stays of a world behind an append. -/
theorem below_grownG {T : TypeId} {t : Ty} {C : Nat → Prop} {B : Nat} {a w w' : World} {base : Nat} {v : Value} {l : List t.T} (h : Below B a w) (hg : w.grownBy w' v.ownBlock) (ho : OwG T t C w base v l) (hB : B ≤ w.heap.size) (hb : B ≤ base) : Below B a w' :=
  h.grown hg hB (fun k hk => Nat.le_trans hb (og_lt ho k hk).1)
/-- Data that a growing list does not lie in. -/
theorem rd_grown {B : Nat → Prop} {w w' : World} {t : Ty} {cs : List Value} {x : t.T} {r : Option Nat} (h : Rd B w t cs x) (hg : w.grownBy w' r) (hr : ∀ b, B b → r ≠ some b) : Rd B w' t cs x := rd_move (fun b hb hl => hg.block b hl fun e => hr b hb e.symm) (fun _ hb _ => hb) h
end Go.Proofs.YtbkhedfhnmkodaaDoor.Gf
