/- What is proved here: what elimination keeps, in memory: two arrays of bytes that are written, all else as it was; and the steps of elimination on matrices. -/
import Derived.Test.YtppfdaiehdbafaaR3b
import Derived.Test.YtppfdaiehdbafaaSi
namespace Go.Proofs.Ytppfdaiehdbafaa.Gf
open Go Go.ChangeShapes Go.WideShapes Go.ChangeAt Go.RowKit Go.Proofs.Ytppfdaiehdbafaa.By

theorem own_base {w : World} {base base' : Nat} {v : Value} {l : List Nat} (hb : base' ≤ base) (h : Own w base v l) : Own w base' v l := by
  obtain ⟨a, b, d | ⟨q, cap, cur, d1, d2, d3⟩⟩ := h
  · exact ⟨a, b, Or.inl d⟩
  · exact ⟨a, b, Or.inr ⟨q, cap, cur, d1, by omega, d3⟩⟩
theorem own_some {w : World} {base : Nat} {v : Value} {l : List Nat} (h : Own w base v l) (hl : 0 < l.length) : ∃ g cap, v = .slice (some ⟨g, 0, none⟩) l.length cap ∧ base ≤ g ∧ g < w.heap.size := by
  obtain ⟨a, b, ⟨_, d⟩ | ⟨q, cap, cur, d1, d2, d3, _⟩⟩ := h
  · omega
  · exact ⟨q, cap, d1, d2, (Array.getElem?_eq_some_iff.1 d3).1⟩
/-- The two sides of an elimination. -/
structure IS (W wr : World) (n gl gr N cl cr base : Nat) (L R : Nat → Nat → Nat) : Prop where
  l : Own wr base (.slice (some ⟨gl, 0, none⟩) N cl) (flat n n L)
  r : Own wr base (.slice (some ⟨gr, 0, none⟩) N cr) (flat n n R)
  ne : gl ≠ gr
  os : wr.os = W.os
  tape : wr.tape = W.tape
  output : wr.output = W.output
  size : W.heap.size ≤ wr.heap.size
  keep : ∀ k, k < W.heap.size → k ≠ gl → k ≠ gr → wr.heap[k]? = W.heap[k]?
section
variable {W wr w' : World} {n gl gr N cl cr base : Nat} {L R L' R' : Nat → Nat → Nat}
theorem own_lt {w : World} {base g n cap : Nat} {l : List Nat} (h : Own w base (.slice (some ⟨g, 0, none⟩) n cap) l) : g < w.heap.size := (h.2.lt g rfl).2
theorem IS.lt (h : IS W wr n gl gr N cl cr base L R) : gl < wr.heap.size ∧ gr < wr.heap.size := ⟨own_lt h.l, own_lt h.r⟩
theorem IS.left (h : IS W wr n gl gr N cl cr base L R) (ho : Own w' base (.slice (some ⟨gl, 0, none⟩) N cl) (flat n n L')) (hg : wr.grownBy w' (some gl)) : IS W w' n gl gr N cl cr base L' R :=
  ⟨ho, own_keep h.r fun k hk => by
    obtain rfl : gr = k := Option.some.inj hk
    exact hg.block gr h.lt.2 (fun e => h.ne (Option.some.inj e).symm), h.ne, hg.os.trans h.os, hg.tape.trans h.tape, hg.output.trans h.output, Nat.le_trans h.size hg.size, fun k hk h1 h2 => (hg.block k (Nat.lt_of_lt_of_le hk h.size) (fun e => h1 (Option.some.inj e))).trans (h.keep k hk h1 h2)⟩
theorem IS.right (h : IS W wr n gl gr N cl cr base L R) (ho : Own w' base (.slice (some ⟨gr, 0, none⟩) N cr) (flat n n R')) (hg : wr.grownBy w' (some gr)) : IS W w' n gl gr N cl cr base L R' :=
  ⟨own_keep h.l fun k hk => by
    obtain rfl : gl = k := Option.some.inj hk
    exact hg.block gl h.lt.1 (fun e => h.ne (Option.some.inj e)), ho, h.ne, hg.os.trans h.os, hg.tape.trans h.tape, hg.output.trans h.output, Nat.le_trans h.size hg.size, fun k hk h1 h2 => (hg.block k (Nat.lt_of_lt_of_le hk h.size) (fun e => h2 (Option.some.inj e))).trans (h.keep k hk h1 h2)⟩
theorem IS.later (h : IS W wr n gl gr N cl cr base L R) (hb : Below wr.heap.size wr w') : IS W w' n gl gr N cl cr base L R :=
  ⟨own_below' h.l hb, own_below' h.r hb, h.ne, hb.os.trans h.os, hb.tape.trans h.tape, hb.output.trans h.output, Nat.le_trans h.size hb.size, fun k hk h1 h2 => (hb.block k (Nat.lt_of_lt_of_le hk h.size)).trans (h.keep k hk h1 h2)⟩
theorem IS.below (h : IS W wr n gl gr N cl cr base L R) {w : World} (hw : Below w.heap.size w W) (h1 : w.heap.size ≤ gl) (h2 : w.heap.size ≤ gr) : Below w.heap.size w wr :=
  ⟨h.os.trans hw.os, h.tape.trans hw.tape, h.output.trans hw.output, Nat.le_trans hw.size h.size, fun k hk => (h.keep k (Nat.lt_of_lt_of_le hk hw.size) (by omega) (by omega)).trans (hw.block k hk)⟩
/-- An element of the left side. -/
theorem IS.at (h : IS W wr n gl gr N cl cr base L R) (hN : N = n * n) {i c : Nat} (hi : i < n) (hc : c < n) : wr.cell? ⟨gl, i * n + c, none⟩ = some (.int .u8 ((L i c : Nat) : Int)) ∧ i * n + c < N := by
  have h1 := at_lt hi hc
  obtain ⟨f, _, _⟩ := own_cell h.l (by rw [flat_length, hN]) (show i * n + c < N by omega)
  rw [flat_getD h1, div_at hc, mod_at hc] at f
  exact ⟨f, by omega⟩
end
/-- The columns before c are those of the identity. -/
def Unit' (n c : Nat) (L : Nat → Nat → Nat) : Prop := ∀ j, j < c → ∀ i, i < n → L i j = idm i j
section
variable {n c k i s f : Nat} {M L R : Nat → Nat → Nat}
theorem rscale_radd (hL : Bd n n L) (hc : c < n) (hs : s < 256) : Eqm n n (radd c c (s ^^^ 1) L) (rscale c s L) := fun r _ q hq => by
  unfold radd rscale
  by_cases e : r = c
  · have hb := hL c hc q hq
    rw [if_pos e, if_pos e, gm_left _ hs (by decide), gm_one_left hb]
    rw [Nat.xor_comm, Nat.xor_assoc, Nat.xor_self, Nat.xor_zero]
  · rw [if_neg e, if_neg e]
/-- A row with a pivot is added where the pivot is 0. -/
theorem unit_pivot (hu : Unit' n c L) (hc : c < n) (hk : k < n) (hck : c < k) (_hL : Bd n n L) : Unit' n c (radd c k 1 L) := fun j hj i hi => by
  unfold radd
  by_cases e : i = c
  · rw [if_pos e, hu j hj c hc, hu j hj k hk, e]
    simp only [idm]
    rw [if_neg (by omega), if_neg (by omega), gm_zero_right]
    rfl
  · rw [if_neg e]
    exact hu j hj i hi
theorem pivot_at (h0 : L c c = 0) (hL : Bd n n L) (hc : c < n) (hk : k < n) : radd c k 1 L c c = L k c := by
  unfold radd
  rw [if_pos rfl, h0, Nat.zero_xor, gm_one_left (hL k hk c hc)]
theorem unit_scale (hu : Unit' n c L) (hc : c < n) : Unit' n c (rscale c s L) := fun j hj i hi => by
  unfold rscale
  by_cases e : i = c
  · rw [if_pos e, hu j hj c hc, e]
    simp only [idm]
    rw [if_neg (by omega), gm_zero_right]
  · rw [if_neg e]
    exact hu j hj i hi
theorem scale_at (hL : Bd n n L) (hc : c < n) (h0 : L c c ≠ 0) : rscale c (iv (L c c)) L c c = 1 := by
  unfold rscale
  have hb := hL c hc c hc
  rw [if_pos rfl, gm_comm (iv_lt _) hb, gm_iv hb h0]
/-- Rows before i have a 0 in column c, but row c has a 1. -/
def Col (n c i : Nat) (L : Nat → Nat → Nat) : Prop := L c c = 1 ∧ ∀ r, r < i → r < n → r ≠ c → L r c = 0
theorem unit_clear (hu : Unit' n c L) (hc : c < n) (hi : i < n) : Unit' n c (radd i c f L) := fun j hj r hr => by
  unfold radd
  by_cases e : r = i
  · rw [if_pos e, hu j hj i hi, hu j hj c hc, e]
    simp only [idm]
    rw [if_neg (show ¬ c = j by omega), gm_zero_right, Nat.xor_zero]
  · rw [if_neg e]
    exact hu j hj r hr
theorem col_clear (h : Col n c i L) (hL : Bd n n L) (hc : c < n) (hi : i < n) (hic : i ≠ c) : Col n c (i + 1) (radd i c (L i c) L) := by
  refine ⟨?_, fun r hr hrn hrc => ?_⟩
  · unfold radd
    rw [if_neg (fun e => hic e.symm)]
    exact h.1
  · unfold radd
    by_cases e : r = i
    · rw [if_pos e, h.1, gm_one (hL i hi c hc), Nat.xor_self]
    · rw [if_neg e]
      exact h.2 r (by omega) hrn hrc
theorem col_skip (h : Col n c i L) (h0 : i = c ∨ L i c = 0) : Col n c (i + 1) L := by
  refine ⟨h.1, fun r hr hrn hrc => ?_⟩
  by_cases e : r = i
  · rcases h0 with h0 | h0
    · exact absurd (e.trans h0) hrc
    · rw [e]; exact h0
  · exact h.2 r (by omega) hrn hrc
theorem col_unit (hu : Unit' n c L) (h : Col n c n L) : Unit' n (c + 1) L := fun j hj i hi => by
  by_cases e : j = c
  · subst e
    simp only [idm]
    by_cases e2 : i = j
    · rw [if_pos e2, e2]; exact h.1
    · rw [if_neg e2]; exact h.2 i hi hi e2
  · exact hu j (by omega) i hi
theorem unit_full (hu : Unit' n n L) : Eqm n n L idm := fun i hi j hj => hu j hj i hi
end
end Go.Proofs.Ytppfdaiehdbafaa.Gf
