/- What is proved here: a rotated slot is valid; steps in the life of a slot as they come in; the box of a slot is written anew. -/
/- What is proved here: a rotated slot is valid; steps in the life of a slot as they come in; the box of a slot is written anew. -/
import Derived.Test.YtimoinfjinmamaaGreatGs25
namespace Go.Proofs.YtimoinfjinmamaaGreat.Gf
open Joins ChangeShapes WideShapes ChangeAt RowKit Deep By Qt
theorem frG_ok {n : Int} (h1 : 1 ≤ n) (h8 : n ≤ 8) : okGe (frG n) := by
 refine ⟨⟨h1, h8, ?_, ?_, ?_, ?_, ?_, ?_, ?_⟩, mp0_ok.1, ?_, ?_⟩
 all_goals first | (show (_ : Int) ≤ _; simp only [frG]; decide) | skip
 ·rfl
 ·rfl
 ·have e : iL mp0 = [] := by decide
  show apL (iL mp0) 16;rw [e];exact ⟨fun x hx => absurd hx (by simp), List.Pairwise.nil⟩
theorem fzG_ok {g : Ge} (h : okGe g) : okGe (fzG g) := ⟨⟨h.hd.n1, h.hd.n8, h.hd.r0, h.hd.r1, (by show (1 : Int) ≤ 2; decide), (by show (2 : Int) ≤ 3; decide), h.hd.s0, h.hd.s1, h.hd.s8⟩, h.ok, h.eq, h.ap⟩
theorem num_lo {s : Slt} (h : okS s) : ∀ i, i < s.gens.length → ((i : Int) + 1 ≤ (s.gens.getD i g0).num)
 | 0, h0 => by have := (h.od 0 h0).ok.hd.n1; omega
 | i + 1, hi => by
  have ih := num_lo h i (by omega);have q := (h.od (i + 1) hi).asc (by omega);rw [Nat.add_sub_cancel] at q;omega
theorem rotL_at1 {s : Slt} {i : Nat} (hi : i < s.gens.length - 1) : (rotL s).gens.getD i g0 = s.gens.getD i g0 := by
 simp only [rotL];rw [List.getD_eq_getElem?_getD, List.getElem?_append_left (by rw [List.length_take]; omega), List.getElem?_take, if_pos hi, ← List.getD_eq_getElem?_getD]
theorem rotL_at2 {s : Slt} (h : 1 ≤ s.gens.length) : (rotL s).gens.getD (s.gens.length - 1) g0 = fzG (jwh s) := by
 have hl : (s.gens.take (s.gens.length - 1)).length = s.gens.length - 1 := by rw [List.length_take]; omega
 simp only [rotL];rw [List.getD_eq_getElem?_getD, List.getElem?_append_right (by omega), hl, Nat.sub_self];rfl
theorem rotL_at3 {s : Slt} (h : 1 ≤ s.gens.length) : (rotL s).gens.getD s.gens.length g0 = frG ((jwh s).num + 1) := by
 have hl : (s.gens.take (s.gens.length - 1)).length = s.gens.length - 1 := by rw [List.length_take]; omega
 simp only [rotL];rw [List.getD_eq_getElem?_getD, List.getElem?_append_right (by omega), hl, show s.gens.length - (s.gens.length - 1) = 1 by omega];rfl
theorem rotL_len {s : Slt} (h : 1 ≤ s.gens.length) : (rotL s).gens.length = s.gens.length + 1 := by
 simp only [rotL, List.length_append, List.length_take, List.length_cons, List.length_nil];omega
theorem rotL_mem {s : Slt} {x : Ge} (h : x ∈ (rotL s).gens) : x ∈ s.gens ∨ x = fzG (jwh s) ∨ x = frG ((jwh s).num + 1) := by
 simp only [rotL] at h;rcases List.mem_append.1 h with h | h
 ·exact Or.inl (List.mem_of_mem_take h)
 ·rcases List.mem_cons.1 h with h | h
  ·exact Or.inr (Or.inl h)
  ·exact Or.inr (Or.inr (List.mem_singleton.1 h))
theorem lastG_mem {s : Slt} (h : 1 ≤ s.gens.length) : jwh s ∈ s.gens := by
 unfold jwh;rw [List.getD_eq_getElem?_getD, List.getElem?_eq_getElem (by omega)];exact List.getElem_mem _
theorem rot_valid {s : Slt} (h : okS s) (hr : rotB s = true) : okS (rotL s) := by
 have f := rot_facts h hr;have h1 := h.n1;have hl := rotL_len h1;have hlo := num_lo h (s.gens.length - 1) (by omega);have hln : (jwh s).num = (s.gens.getD (s.gens.length - 1) g0).num := rfl;have hn7 : s.gens.length ≤ 7 := by have := f.2.2.2; omega
 refine ⟨h.i0, h.i4, h.l0, h.l1, by omega, by omega, fun i hi => ?_, fun i hi => ?_, ?_⟩
 ·rw [hl] at hi
  by_cases c1 : i < s.gens.length - 1
  ·have q := h.od i (by omega)
   refine ⟨by rw [rotL_at1 c1]; exact q.ok, by rw [rotL_at1 c1, hl, q.mode]; omega, fun h0 => ?_⟩;rw [rotL_at1 c1, rotL_at1 (by omega)];exact q.asc h0
  ·by_cases c2 : i = s.gens.length - 1
   ·subst c2
    have q := h.od (s.gens.length - 1) (by omega);refine ⟨by rw [rotL_at2 h1]; exact fzG_ok (last_ok h).1, by rw [rotL_at2 h1, hl]; show ((2 : Int) = 1) ↔ _; omega, fun h0 => ?_⟩;rw [rotL_at2 h1, rotL_at1 (by omega)];exact q.asc h0
   ·obtain rfl : i = s.gens.length := by omega
    refine ⟨by rw [rotL_at3 h1]; exact frG_ok (by omega) (by omega), by rw [rotL_at3 h1, hl]; show ((1 : Int) = 1) ↔ _; omega, fun h0 => ?_⟩;rw [rotL_at3 h1, rotL_at2 h1];show (jwh s).num < (jwh s).num + 1;omega
 ·rw [hl] at hi
  have l0 := h.l0
  by_cases c1 : i < s.gens.length - 1
  ·rw [rotL_at1 c1]
   exact h.rm.all i (by omega)
  ·by_cases c2 : i = s.gens.length - 1
   ·subst c2
    rw [rotL_at2 h1];exact h.rm.all (s.gens.length - 1) (by omega)
   ·obtain rfl : i = s.gens.length := by omega
    rw [rotL_at3 h1];show (16 : Int) ≤ 2 * s.limit;omega
 ·rw [hl, Nat.add_sub_cancel, rotL_at3 h1]
  have l0 := h.l0;have e : lenM mp0 = 0 := by
   unfold lenM;rw [if_pos mp0_ok.1];rfl
  show (16 : Int) + ((lenM mp0 * 24 : Nat) : Int) ≤ 2 * s.limit;rw [e];omega
theorem new_ok : okS ⟨1, 9000, false, [frG 1]⟩ := by
 refine ⟨by decide, by decide, by decide, by decide, by simp, by simp, fun i hi => ?_, fun i hi => ?_, ?_⟩
 ·obtain rfl : i = 0 := by simp at hi; omega
  exact ⟨frG_ok (by decide) (by decide), by show ((1 : Int) = 1) ↔ _; simp, fun h => absurd h (by omega)⟩
 ·obtain rfl : i = 0 := by simp at hi; omega
  show (16 : Int) ≤ 2 * 9000
  decide
 ·have e : lenM mp0 = 0 := by
   unfold lenM;rw [if_pos mp0_ok.1];rfl
  show (16 : Int) + ((lenM mp0 * 24 : Nat) : Int) ≤ 2 * 9000;rw [e]
  decide
theorem and3 (x : Int) : ∃ q : Nat, q < 4 ∧ bits .and .i64 x 3 = (q : Int) := by
 have e2 : (BitVec.ofInt 64 (3 : Int)).toNat = 3 := by decide
 have e3 : (BitVec.ofInt 64 x &&& BitVec.ofInt 64 (3 : Int)).toNat ≤ 3 := by rw [BitVec.toNat_and, e2]; exact Nat.and_le_right
 refine ⟨(BitVec.ofInt 64 x &&& BitVec.ofInt 64 (3 : Int)).toNat, by omega, ?_⟩;show IntKind.i64.wrap ((BitVec.ofInt 64 x &&& BitVec.ofInt 64 (3 : Int)).toNat : Int) = _;exact IntWalk.i64_in _ (by omega)
theorem mod_two (x : Int) (n : Nat) (h : 0 < n) : ∃ (t : Int) (p : Nat), x.tmod n = t ∧ -(n : Int) < t ∧ t < n ∧ (t + n).tmod n = (p : Int) ∧ p < n := by
 have h1 : -(n : Int) < x.tmod n := by have := Int.lt_tmod_of_pos x (show (0 : Int) < n by omega); exact this
 have h2 : x.tmod n < n := Int.tmod_lt_of_pos x (by omega);refine ⟨x.tmod n, ((x.tmod n + n).tmod n).toNat, rfl, h1, h2, ?_, ?_⟩
 ·have h3 : 0 ≤ (x.tmod n + n).tmod n := Int.tmod_nonneg _ (by omega)
  omega
 ·have h3 : 0 ≤ (x.tmod n + n).tmod n := Int.tmod_nonneg _ (by omega)
  have h4 : (x.tmod n + n).tmod n < n := Int.tmod_lt_of_pos _ (by omega);omega
theorem kl_take {w : World} {a : Option Addr} {n c m : Nat} (h : Kl w (.slice a n c) n) (hm : m ≤ n) : Kl w (.slice a m c) m := by
 obtain ⟨a2, c2, h1, h2, h3, h4⟩ := h;obtain ⟨rfl, rfl⟩ : a = a2 ∧ c = c2 := by simpa using h1
 refine ⟨a, c, rfl, by omega, h3, fun hp => ?_⟩;obtain ⟨b, off, ha, hc⟩ := h4 (by omega);exact ⟨b, off, ha, fun i hi => hc i (by omega)⟩
theorem gl_setRow {w : World} {p : Nat} {cs cs0 : Array Value} {T : TypeId} {v : Value} {L : List Ge} (h : Gl w v L) (hz : w.heap[p]? = some (.cells cs0 T (0, 0))) (hs : cs0.size ≤ 13) (hn : ∀ (k : Nat) (n : Int), cs0[k]? ≠ some (Value.int .u64 n)) : Gl (w.setRow p cs) v L := by
 obtain ⟨V, a, c, h0, h1, h2, h3, h4, h5⟩ := h;refine ⟨V, a, c, h0, h1, h2, h3, fun k hk => jwz (h4 k hk) hz hn, fun hp => ?_⟩;obtain ⟨b, off, ha, hc⟩ := h5 hp;refine ⟨b, off, ha, fun k u hk hu => ?_⟩;have hq := hc k u hk hu;have hbp : b ≠ p := by
  intro e;subst e;have q13 := hc k 13 hk (by decide);have hl := gc_len (h4 k hk);rw [List.getElem?_eq_getElem (show 13 < (V.getD k []).length by omega), cell_of_row w b _ _ _ _ hz, Array.getElem?_eq_none (by omega)] at q13
  cases q13
 rw [← hq];unfold World.cell?;simp only;rw [setRow_other w p b cs hbp]
def AC (w : World) (b o : Nat) : Prop := ∃ (kd gn : Int) (na : Option Addr) (nn nc : Nat) (ka : Option Addr) (kn kc : Nat), w.cell? ⟨b, o, none⟩ = some (.int .i64 kd) ∧ w.cell? ⟨b, o + 1, none⟩ = some (.slice na nn nc) ∧ w.cell? ⟨b, o + 2, none⟩ = some (.int .i64 gn) ∧ w.cell? ⟨b, o + 3, none⟩ = some (.slice ka kn kc) ∧ Nr w (.slice na nn nc) nn ∧ Kl w (.slice ka kn kc) kn
theorem ac_below {w w' : World} {b o : Nat} (h : AC w b o) (hB : Below w.heap.size w w') : AC w' b o := by
 obtain ⟨kd, gn, na, nn, nc, ka, kn, kc, k0, k1, k2, k3, hn, hk⟩ := h;have k : ∀ (p : Nat) (v : Value), w.cell? ⟨b, p, none⟩ = some v → w'.cell? ⟨b, p, none⟩ = some v := fun p v q => (hB.cell (p := ⟨b, p, none⟩) (block_lt_of_cell q)).trans q;exact ⟨kd, gn, na, nn, nc, ka, kn, kc, k _ _ k0, k _ _ k1, k _ _ k2, k _ _ k3, jxf hn hB, kl_below hk hB⟩
def Al (w : World) (v : Value) (n : Nat) : Prop := ∃ a c, v = .slice a n c ∧ n ≤ c ∧ c ≤ maxLen ∧ (0 < n → ∃ b off, a = some ⟨b, off, none⟩ ∧ ∀ i, i < n → AC w b (off + i * 4))
theorem al_below {w w' : World} {v : Value} {n : Nat} (h : Al w v n) (hB : Below w.heap.size w w') : Al w' v n := by
 obtain ⟨a, c, h1, h2, h3, h4⟩ := h;refine ⟨a, c, h1, h2, h3, fun hp => ?_⟩;obtain ⟨b, off, ha, hc⟩ := h4 hp;exact ⟨b, off, ha, fun i hi => ac_below (hc i hi) hB⟩
theorem al_at {w : World} {a : Option Addr} {n c i : Nat} (h : Al w (.slice a n c) n) (hi : i < n) : ∃ b off, a = some ⟨b, off, none⟩ ∧ AC w b (off + i * 4) := by
 obtain ⟨a2, c2, h1, -, -, h4⟩ := h;obtain ⟨rfl, rfl⟩ : a = a2 ∧ c = c2 := by simpa using h1
 obtain ⟨b, off, ha, hc⟩ := h4 (by omega);exact ⟨b, off, ha, hc i hi⟩
theorem infoA4 : (Tryz.prog.info? 84).map (·.size) = some 4 := by kernel_rfl
theorem storeA {ops : Array Oper} {rest : List Oper} {x y : Operand} {pos : String} {after : Array Edge} {ty : TypeId} {a : Act} {w : World} {Q : Exit → Act → World → Prop}
 (g : Nat) (old cs : Array Value) (hx : a.eval x = .pointer (some ⟨g, 0, none⟩)) (hy : a.eval y = .agg cs) (hg : w.heap[g]? = some (.cells old 84 (0, 0))) (ho : old.size = 4) (hs : cs.size = 4) (h1 : cs.all (·.oneCell') = true)
 (h : wpList Tryz.prog ops Q rest a (w.setRow g cs)) : wpList Tryz.prog ops Q (⟨none, .store 84 x y, ty, pos, after, none⟩ :: rest) a w :=
 wpList_store_row rfl 84 x y rfl g cs hx hy 84 old hg (by rw [infoA4, hs]) (by omega) h1 h
theorem av_one (kd gn : Int) (na : Option Addr) (nn nc : Nat) (ka : Option Addr) (kn kc : Nat) : (#[.int .i64 kd, .slice na nn nc, .int .i64 gn, .slice ka kn kc] : Array Value).all (·.oneCell') = true := by simp [show (Value.int .i64 kd).oneCell' = true from rfl, show (Value.int .i64 gn).oneCell' = true from rfl, show (Value.slice na nn nc).oneCell' = true from rfl, show (Value.slice ka kn kc).oneCell' = true from rfl]
end Go.Proofs.YtimoinfjinmamaaGreat.Gf
