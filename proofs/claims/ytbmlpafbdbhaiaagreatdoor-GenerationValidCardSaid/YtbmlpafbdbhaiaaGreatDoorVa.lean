/- What is proved here: what layer 11 leans on, out of the older layers. -/
import Derived.Test.YtbmlpafbdbhaiaaGreatDoorSq
import Derived.Test.YtbmlpafbdbhaiaaGreatDoorProg
import Derived.WalkKit
import Derived.ProofKit
import Derived.OpenShut
import Derived.Lib.Hide
import Derived.Deep.AppendSrc
import Derived.StillTailTactics
import Derived.Deep.Matrix
import Derived.Lib.SmallJoins
import Derived.BigQuiet
import Derived.IntWalk
import Derived.Deep.QuietTactic
import Derived.Lib.QuietBelow
import Derived.OrdersHeld
import Derived.OwnWalk
import Derived.Laws.ComplexArith
namespace Go.Proofs.YtbmlpafbdbhaiaaGreatDoor.Gf
/-- Times x. -/
def xt (a : Nat) : Nat := (2 * a) ^^^ (a / 128 * 285)
/-- A linear map on bytes. -/
def Lin (f : Nat → Nat) : Prop := ∀ x y, x < 256 → y < 256 → f (x ^^^ y) = f x ^^^ f y
theorem Lin.zero {f : Nat → Nat} (h : Lin f) : f 0 = 0 := by
 have := h 0 0 (by decide) (by decide)
 simp at this
 exact this
/-- The powers of 2. -/
def ex : Nat → Nat
 | 0 => 1
 | n + 1 => xt (ex n)
end Go.Proofs.YtbmlpafbdbhaiaaGreatDoor.Gf
namespace Go.Proofs.YtbmlpafbdbhaiaaGreatDoor.By
open Go Go.ChangeShapes Go.WideShapes Go.ChangeAt Go.RowKit
/-- Bytes as cells. -/
def cellsOf (l : List Nat) : List Value := l.map fun (b : Nat) => Value.int .u8 (b : Int)
end Go.Proofs.YtbmlpafbdbhaiaaGreatDoor.By
namespace Go.Proofs.YtbmlpafbdbhaiaaGreatDoor.Gf
open Go Go.Joins Go.ChangeShapes Go.WideShapes Go.ChangeAt Go.RowKit Go.Deep Go.Proofs.YtbmlpafbdbhaiaaGreatDoor.By
theorem bt {w w1 w2 : World} (h : Below w.heap.size w w1) (h2 : Below w1.heap.size w1 w2) : Below w.heap.size w w2 := h.trans (h2.mono h.size)
theorem lt_of_some {w : World} {k : Nat} {o : Obj} (h : w.heap[k]? = some o) : k < w.heap.size := (Array.getElem?_eq_some_iff.1 h).1
theorem below_drewN (w : World) (n : Nat) : Below w.heap.size w (w.drewN n) := ⟨rfl, rfl, rfl, Nat.le_refl _, fun _ _ => rfl⟩
theorem add_none {b off : Nat} (k : Nat) : (⟨b, off, none⟩ : Addr).add k = ⟨b, off + k, none⟩ := by unfold Addr.add; split <;> simp_all
section
variable {w w' : World} {b0 : Nat} {v : Value} {vs : List Value} {L : List (List Nat)}
end
end Go.Proofs.YtbmlpafbdbhaiaaGreatDoor.Gf
namespace Go.Proofs.YtbmlpafbdbhaiaaGreatDoor.Qt
open Go Go.RowKit Go.Sort
section
variable {P : Program} {ops : Array Oper} {md : Region.Mode} {C : World → Prop}
end
/-- The class of the worlds in which nothing old has changed. -/
def Bl (w : World) : World → Prop := fun w' => ∃ p : Regrown, w' = grow (redrawn w p.d) p.os
theorem bl_start (w : World) : Bl w { w with drawn := w.drawn + 1 } := ⟨⟨w.drawn + 1, #[]⟩, by rw [grow_empty]; rfl⟩
theorem bl_below {w w' : World} (h : Bl w w') : Below w.heap.size w w' := by
 obtain ⟨p, rfl⟩ := h
 exact below_regrown w p.d p.os
theorem wp_region_bl {P : Program} {id : Nat} {Q : Exit → Act → World → Prop} {a : Act} {w : World} {l : List Oper} (hm : P.follows .mixedOrders = true) (hB : Region.lexB .any l.toArray = true)
 (h : wpQuiet P l.toArray (fun w' => ∃ p : Regrown, w' = grow (redrawn w p.d) p.os) (fun a' => ∀ w', Below w.heap.size w w' → Q .normal a' w') l a) : (Code.region id l.toArray true).wp P Q a w :=
 wp_region_quiet (C := fun w' => ∃ p : Regrown, w' = grow (redrawn w p.d) p.os) hm hB (bl_start w) (by
  have h2 : ∀ (l' : List Oper) (a : Act), wpQuiet P l.toArray (fun w' => ∃ p : Regrown, w' = grow (redrawn w p.d) p.os) (fun a' => ∀ w', Below w.heap.size w w' → Q .normal a' w') l' a → wpQuiet P l.toArray (fun w' => ∃ p : Regrown, w' = grow (redrawn w p.d) p.os) (fun a' => ∀ w', (∃ p : Regrown, w' = grow (redrawn w p.d) p.os) → Q .normal a' w') l' a := by
   intro l'
   induction l' with
   | nil => exact fun a h w' hw' => h w' (bl_below hw')
   | cons o l' ih =>
    intro a h
    unfold wpQuiet at h ⊢
    split
    ·rename_i hw
     rw [if_pos hw] at h
     exact Oper.quiet_mono (fun a => ih a) h
    ·rename_i hw
     rw [if_neg hw] at h
     exact ih _ h
  simpa using h2 l a h)
theorem cells_regrown {w : World} {a : Addr} {v : Value} (h : w.cell? a = some v) : ∀ d os, (grow (redrawn w d) os).cell? a = some v := fun d os => cell_regrown h d os
end Go.Proofs.YtbmlpafbdbhaiaaGreatDoor.Qt
namespace Go.Proofs.YtbmlpafbdbhaiaaGreatDoor.Qt
open Go Go.RowKit Go.Sort
section
variable {P : Program} {ops : Array Oper} {md : Region.Mode} {C : World → Prop}
structure HInv (md : Region.Mode) (ops : Array Oper) (tl : List Nat) (listed : Array Bool) : Prop where
 size : listed.size = ops.size
 closed : ∀ j oj, ops[j]? = some oj → listed.getD j false = true → ∀ e ∈ oj.after, Region.binds md e = true → listed.getD e.on false = true
 tail : ∀ t ∈ tl, t < ops.size ∧ listed.getD t true = false
theorem HInv.set {tl : List Nat} {i : Nat} {listed : Array Bool} (inv : HInv md ops tl listed) (hi : i ∈ Region.ready md ops listed) (hin : i ∉ tl) : HInv md ops tl (listed.setIfInBounds i true) := by
 obtain ⟨_, oi, hoi, hall⟩ := mem_ready.1 hi
 refine ⟨by simp [inv.size], fun j oj hj hl e he hb => ?_, fun t ht => ⟨(inv.tail t ht).1, by
  have hne : i ≠ t := fun e => by subst e; exact hin ht
  rw [getD_set_ne true hne]; exact (inv.tail t ht).2⟩⟩
 by_cases hij : i = j
 ·subst hij
  have : oj = oi := Option.some.inj (hj.symm.trans hoi)
  subst this
  exact getD_set_true (hall e he hb)
 ·rw [getD_set_ne false hij] at hl
  exact getD_set_true (inv.closed j oj hj hl e he hb)
end
def pickOps (ops : Array Oper) (l : List Nat) : List Oper := l.filterMap fun t => ops[t]?
/-- A walk over operations that read only, each in every world that meets S. -/
def wpHeads (P : Program) (ops : Array Oper) (S : World → Prop) (Q : Act → Prop) : List Oper → Act → Prop
 | [], a => Q a
 | o :: rest, a => if Region.wanted o (yielded ops a.tmps) then ∃ v, (∀ w, S w → (execOp a.eval o).run P w = .ok (.value v) w) ∧ wpHeads P ops S Q rest (a.put o.dst v) else wpHeads P ops S Q rest (a.put o.dst undef)
theorem wpHeads_step {P : Program} {ops : Array Oper} {S : World → Prop} {Q : Act → Prop} {a : Act} {o : Oper} {rest : List Oper}
 (h : ∀ K : Act → Prop, (∀ a, wpHeads P ops S Q rest a → K a) → if Region.wanted o (yielded ops a.tmps) then ∃ v, (∀ w, S w → (execOp a.eval o).run P w = .ok (.value v) w) ∧ K (a.put o.dst v) else K (a.put o.dst undef)) : wpHeads P ops S Q (o :: rest) a :=
 h _ fun _ h => h
theorem wpHeads_nil {P : Program} {ops : Array Oper} {S : World → Prop} {Q : Act → Prop} {a : Act} (h : Q a) : wpHeads P ops S Q [] a := h
def headsB (md : Region.Mode) (ops : Array Oper) : List Nat → Array Bool → Bool
 | [], _ => true
 | k :: hd, listed => Region.free md ops listed k && (Region.ready md ops listed).contains k && headsB md ops hd (listed.setIfInBounds k true)
def listAll : List Nat → Array Bool → Array Bool
 | [], l => l
 | k :: hd, l => listAll hd (l.setIfInBounds k true)
theorem held_heads {P : Program} {ops : Array Oper} {md : Region.Mode} {Q : Exit → Act → World → Prop} {S : World → Prop} (hs : Region.noSelect ops = true) (hQ : ∀ c (a : Act) d v w, Q (.panic c) (a.put d v) w → Q (.panic c) a w) {fuel : Nat} {w : World} (hS : S w) :
 ∀ (hd : List Nat) (lh : List Oper) (listed : Array Bool) (a : Act), headsB md ops hd listed = true → lh.map some = hd.map (fun t => ops[t]?) → wpHeads P ops S (fun a' => wpAnyH P md ops Q S fuel (listAll hd listed) a' w) lh a → wpAnyH P md ops Q S (hd.length + fuel) listed a w
 | [], [], _, _, _, _, h => by rw [List.length_nil, Nat.zero_add]; exact h
 | [], _ :: _, _, _, _, hl, _ => by simp at hl
 | _ :: _, [], _, _, _, hl, _ => by simp at hl
 | k :: hd, o :: lh, listed, a, hB, hl, h => by
  simp only [List.map_cons, List.cons.injEq] at hl
  simp only [headsB, Bool.and_eq_true] at hB
  rw [List.length_cons, show hd.length + 1 + fuel = (hd.length + fuel) + 1 by omega]
  unfold wpHeads at h
  by_cases hw : Region.wanted o (yielded ops a.tmps) = true
  ·rw [if_pos hw] at h
   obtain ⟨v, hv, hr⟩ := h
   exact wpAnyH_take hl.1.symm hs hB.1.1 hB.1.2 (fun c a w => hQ c a _ _ w) (Or.inl ⟨hw, hv⟩) hS (held_heads hs hQ hS hd lh _ _ hB.2 hl.2 hr)
  ·rw [if_neg hw] at h
   exact wpAnyH_take hl.1.symm hs hB.1.1 hB.1.2 (fun c a w => hQ c a _ _ w) (Or.inr ⟨by simpa using hw, rfl⟩) hS (held_heads hs hQ hS hd lh _ _ hB.2 hl.2 h)
/-- One operation that alone may come up, in a held region. -/
theorem held_one {P : Program} {ops : Array Oper} {md : Region.Mode} {Q : Exit → Act → World → Prop} {S : World → Prop} {fuel : Nat} {listed : Array Bool} {a : Act} {w : World} (i : Nat) {oi : Oper} (hi : ops[i]? = some oi) (hg : oi.guard = none) (hr : Region.ready md ops listed = [i])
 (h : ∀ K : Act → World → Prop, (∀ a' w', S w' → wpAnyH P md ops Q S fuel (listed.setIfInBounds i true) a' w' → K a' w') → oi.wp P a w K Q) : wpAnyH P md ops Q S (fuel + 1) listed a w := by
 refine wpAnyH_all hr (by simp) fun j hj => ?_
 obtain rfl : j = i := by simpa using hj
 unfold wpOp
 simp only [hi]
 rw [if_pos (by simp [Region.wanted, hg])]
 exact Or.inl (h _ fun a' w' h1 h2 => ⟨h1, h2⟩)
end Go.Proofs.YtbmlpafbdbhaiaaGreatDoor.Qt
namespace Go.Proofs.YtbmlpafbdbhaiaaGreatDoor.Gf
open Go Go.ChangeShapes Go.WideShapes Go.ChangeAt Go.RowKit Go.Proofs.YtbmlpafbdbhaiaaGreatDoor.By
def I64b (n : Int) : Prop := -9223372036854775808 ≤ n ∧ n ≤ 9223372036854775807
def szI6 (n : Int) : Int := if n < 0 ∨ 4096 < n then 0 else (n + 31) / 8 * 8
theorem rsize6_any (n : Int) (w : World) (_h : I64b n) : Calls Tryz.prog 53 #[.int .i64 n] w fun e w' => e = .returned (.int .i64 (szI6 n)) ∧ w = w' := by
 by_cases h1 : n < 0
 ·have g1 : decide (n < 0) = true := decide_eq_true h1
  unfold szI6
  rw [if_pos (Or.inl h1)]
  go_enter Tryz.func53, Tryz.ntmps53
  go_wp2
  go_ret
  exact ⟨rfl, rfl⟩
 have g1 : decide (n < 0) = false := decide_eq_false h1
 by_cases h2 : 4096 < n
 ·have g2 : decide (4096 < n) = true := decide_eq_true h2
  unfold szI6
  rw [if_pos (Or.inr h2)]
  clear _h
  go_enter Tryz.func53, Tryz.ntmps53
  go_wp2
  go_ret
  exact ⟨rfl, rfl⟩
 have g2 : decide (4096 < n) = false := decide_eq_false h2
 unfold szI6
 rw [if_neg (by omega)]
 have e1 : (20 + n + 4 + 7).tdiv 8 = (n + 31) / 8 := by rw [Int.tdiv_eq_ediv_of_nonneg (by omega)]; congr 1; omega
 obtain ⟨q, hq⟩ : ∃ q, (n + 31) / 8 = q := ⟨_, rfl⟩
 have b1 : 0 ≤ q ∧ q ≤ 600 := by omega
 have b0 : 0 ≤ n ∧ n ≤ 4096 := by omega
 rw [hq] at e1 ⊢
 clear hq _h h1 h2
 go_enter Tryz.func53, Tryz.ntmps53
 go_wp2
 go_ret
 exact ⟨rfl, rfl⟩
end Go.Proofs.YtbmlpafbdbhaiaaGreatDoor.Gf
namespace Go.Proofs.YtbmlpafbdbhaiaaGreatDoor.Gf
open Go Ieee
set_option maxRecDepth 100000
set_option maxHeartbeats 204800000

/-- The rung of a whole number. -/
def rungN (m : Nat) : Nat := (m.log2 + 1022) * 2 ^ 52 + m * 2 ^ (52 - m.log2)
theorem log2_lo {m : Nat} (h : 0 < m) : 2 ^ m.log2 ≤ m := (Nat.le_log2 (by omega)).1 (Nat.le_refl _)
theorem log2_hi {m : Nat} : m < 2 ^ (m.log2 + 1) := Nat.lt_log2_self
theorem log2_le {m : Nat} (h : 0 < m) (hm : m < 2 ^ 53) : m.log2 ≤ 52 := by
 have h1 := (Nat.log2_lt (by omega) : m.log2 < 53 ↔ m < 2 ^ 53).2 hm
 omega
theorem kept_bd {m : Nat} (h : 0 < m) (hm : m < 2 ^ 53) : 2 ^ 52 ≤ m * 2 ^ (52 - m.log2) ∧ m * 2 ^ (52 - m.log2) < 2 ^ 53 := by
 have hl := log2_le h hm
 have h1 := log2_lo h
 have h2 := @log2_hi m
 constructor
 ·calc 2 ^ 52 = 2 ^ m.log2 * 2 ^ (52 - m.log2) := by rw [← Nat.pow_add]; congr 1; omega
   _ ≤ _ := Nat.mul_le_mul_right _ h1
 ·calc m * 2 ^ (52 - m.log2) < 2 ^ (m.log2 + 1) * 2 ^ (52 - m.log2) := Nat.mul_lt_mul_of_pos_right h2 (Nat.two_pow_pos _)
   _ = 2 ^ 53 := by rw [← Nat.pow_add]; congr 1; omega
theorem log2_shift {m : Nat} (h : 0 < m) (p : Nat) : (m * 2 ^ p).log2 = m.log2 + p := by
 refine (Nat.log2_eq_iff (by have := Nat.mul_pos h (Nat.two_pow_pos p); omega)).2 ⟨?_, ?_⟩
 ·rw [Nat.pow_add]
  exact Nat.mul_le_mul_right _ (log2_lo h)
 ·rw [show m.log2 + p + 1 = (m.log2 + 1) + p by omega, Nat.pow_add]
  exact Nat.mul_lt_mul_of_pos_right log2_hi (Nat.two_pow_pos p)
theorem cut_exact (way : Toward) (s : Bool) (k q : Nat) (hq : q ≤ (k * 2 ^ q).log2 + 2) : way.cut s (k * 2 ^ q) q = k := by
 unfold Toward.cut
 dsimp only
 rw [Nat.min_eq_left hq, Nat.one_shiftLeft, Nat.mul_div_cancel _ (Nat.two_pow_pos q), Nat.mul_mod_left]
 have h1 : (2 ^ q == 0) = false := by simp
 cases way <;> simp [h1]
theorem least_eq : double.leastPlace = -1074 := by decide
theorem nearest_nat (s : Bool) {m : Nat} (h : 0 < m) (hm : m < 2 ^ 53) (p : Nat) : double.nearest s (m * 2 ^ p) (-(p : Int)) = double.word s (rungN m) := by
 have hl := log2_le h hm
 have hk := kept_bd h hm
 have hpos : 0 < m * 2 ^ p := Nat.mul_pos h (Nat.two_pow_pos p)
 unfold Format.nearest
 rw [if_neg (by omega), log2_shift h, least_eq]
 dsimp only
 have e1 : max (-(p : Int) + ((m.log2 + p : Nat) : Int) - (double.fractionBits : Nat)) (-1074) = (m.log2 : Int) - 52 := by
  show max (-(p : Int) + ((m.log2 + p : Nat) : Int) - ((52 : Nat) : Int)) (-1074) = _
  omega
 rw [e1]
 have e2 : ((m.log2 : Int) - 52 - (-1074)).toNat = m.log2 + 1022 := by omega
 have e3 : Toward.even.cut s ((m * 2 ^ p) <<< (-(p : Int) - ((m.log2 : Int) - 52)).toNat) ((m.log2 : Int) - 52 - -(p : Int)).toNat = m * 2 ^ (52 - m.log2) := by
  by_cases c : p + m.log2 ≤ 52
  ·have a1 : (-(p : Int) - ((m.log2 : Int) - 52)).toNat = 52 - m.log2 - p := by omega
   have a2 : ((m.log2 : Int) - 52 - -(p : Int)).toNat = 0 := by omega
   rw [a1, a2, Nat.shiftLeft_eq]
   have a3 := cut_exact .even s (m * 2 ^ p * 2 ^ (52 - m.log2 - p)) 0 (by omega)
   rw [Nat.pow_zero, Nat.mul_one] at a3
   rw [a3, Nat.mul_assoc, ← Nat.pow_add]
   congr 2
   omega
  ·have a1 : (-(p : Int) - ((m.log2 : Int) - 52)).toNat = 0 := by omega
   have a2 : ((m.log2 : Int) - 52 - -(p : Int)).toNat = m.log2 + p - 52 := by omega
   rw [a1, a2, Nat.shiftLeft_zero]
   have a4 : m * 2 ^ p = m * 2 ^ (52 - m.log2) * 2 ^ (m.log2 + p - 52) := by
    rw [Nat.mul_assoc, ← Nat.pow_add]
    congr 2
    omega
   rw [a4]
   refine cut_exact .even s _ _ ?_
   rw [← a4, log2_shift h]
   omega
 rw [e2, e3]
 congr 1
 show min ((m.log2 + 1022) * 2 ^ 52 + m * 2 ^ (52 - m.log2)) (2047 * 2 ^ 52) = rungN m
 unfold rungN
 rw [Nat.min_eq_left]
 omega
theorem word_neg (s : Bool) {r : Nat} (h : r < 2 ^ 63) : (double.word s r / double.signWeight % 2 == 1) = s ∧ double.word s r % double.signWeight = r := by
 show (double.word s r / 2 ^ 63 % 2 == 1) = s ∧ double.word s r % 2 ^ 63 = r
 unfold Format.word
 cases s
 ·rw [if_neg (by decide)]
  constructor
  ·rw [Nat.div_eq_of_lt h]; rfl
  ·exact Nat.mod_eq_of_lt h
 ·rw [if_pos rfl]
  show ((2 ^ 63 + r) / 2 ^ 63 % 2 == 1) = true ∧ (2 ^ 63 + r) % 2 ^ 63 = r
  constructor
  ·have : (2 ^ 63 + r) / 2 ^ 63 = 1 := by omega
   rw [this]; rfl
  ·omega
/-- What a word reads as that has a whole significand. -/
theorem read_word (s : Bool) {e k : Nat} (he : e ≤ 2000) (h1 : 2 ^ 52 ≤ k) (h2 : k < 2 ^ 53) : double.read (double.word s (e * 2 ^ 52 + k)) = .number s k ((e : Int) - 1074) := by
 have hr : e * 2 ^ 52 + k < 2 ^ 63 := by omega
 obtain ⟨a1, a2⟩ := word_neg s hr
 unfold Format.read
 dsimp only
 rw [a1, a2, show double.binade = 2 ^ 52 from rfl, show double.infRung = 2047 * 2 ^ 52 from rfl, if_neg (show ¬ e * 2 ^ 52 + k < 2 ^ 52 by omega), if_pos (show e * 2 ^ 52 + k < 2047 * 2 ^ 52 by omega), least_eq]
 have b1 : 2 ^ 52 + (e * 2 ^ 52 + k) % 2 ^ 52 = k := by omega
 have b2 : (e * 2 ^ 52 + k) / 2 ^ 52 = e + 1 := by omega
 have b3 : (-1074 : Int) + ((e + 1 - 1 : Nat) : Int) = (e : Int) - 1074 := by omega
 rw [b1, b2, b3]
/-- The word of a whole number. -/
def flw (n : Int) : Nat := floatOfInt .f64 n
theorem flw_eq (n : Int) : flw n = double.nearest (decide (n < 0)) n.natAbs 0 := rfl
theorem flw_zero : flw 0 = 0 := by rw [flw_eq]; rfl
theorem flw_pos {n : Int} (h : n ≠ 0) (hn : n.natAbs < 2 ^ 53) : flw n = double.word (decide (n < 0)) (rungN n.natAbs) := by
 have := nearest_nat (decide (n < 0)) (m := n.natAbs) (by omega) hn 0
 rw [Nat.pow_zero, Nat.mul_one] at this
 rw [flw_eq]
 exact this
/-- What it reads as. -/
theorem flw_read {n : Int} (hn : n.natAbs < 2 ^ 53) : ∃ q : Nat, (n ≠ 0 → q ≤ 52) ∧ double.read (flw n) = .number (decide (n < 0)) (n.natAbs * 2 ^ q) (-(q : Int)) := by
 by_cases h : n = 0
 ·subst h
  obtain ⟨q, hq⟩ : ∃ q : Nat, q = 1074 := ⟨_, rfl⟩
  refine ⟨q, fun h => absurd rfl h, ?_⟩
  rw [flw_zero, Int.natAbs_zero, Nat.zero_mul, hq]
  rfl
 ·have h0 : 0 < n.natAbs := by omega
  obtain ⟨k1, k2⟩ := kept_bd h0 hn
  have hl := log2_le h0 hn
  refine ⟨52 - n.natAbs.log2, fun _ => by omega, ?_⟩
  rw [flw_pos h hn]
  unfold rungN
  rw [read_word _ (by omega) k1 k2, show ((n.natAbs.log2 + 1022 : Nat) : Int) - 1074 = -((52 - n.natAbs.log2 : Nat) : Int) by omega]
theorem signed_eq (n : Int) (q up : Nat) : signed (decide (n < 0)) (n.natAbs * 2 ^ q) up = n * 2 ^ (q + up) := by
 unfold signed
 rw [Nat.shiftLeft_eq, Nat.mul_assoc, ← Nat.pow_add]
 by_cases h : n < 0
 ·rw [if_pos (decide_eq_true h)]
  have : (n.natAbs : Int) = -n := by omega
  push_cast
  rw [this, Int.neg_mul, Int.neg_neg]
 ·rw [if_neg (by simpa using h)]
  have : (n.natAbs : Int) = n := by omega
  push_cast
  rw [this]
theorem write_exact {c : Int} (hc : c.natAbs < 2 ^ 53) (Q : Nat) : double.write (.number (decide (c < 0)) (c * 2 ^ Q).natAbs (-(Q : Int))) = flw c := by
 show double.nearest _ _ _ = _
 rw [Int.natAbs_mul]
 have e : ((2 : Int) ^ Q).natAbs = 2 ^ Q := by
  rw [Int.natAbs_pow]; rfl
 rw [e]
 by_cases h : c = 0
 ·subst h
  rw [flw_zero]
  unfold Format.nearest
  rw [if_pos (by simp)]
  rfl
 ·rw [nearest_nat _ (by omega) hc, flw_pos h hc]
theorem pow2_pos (q : Nat) : (0 : Int) < 2 ^ q := Int.pow_pos (by decide)
/-- A sum of whole numbers is exact. -/
theorem add_flw {a b : Int} (ha : a.natAbs < 2 ^ 53) (hb : b.natAbs < 2 ^ 53) (hc : (a + b).natAbs < 2 ^ 53) : floatBits .add .f64 (flw a) (flw b) = some (flw (a + b)) := by
 show double.add (flw a) (flw b) = _
 obtain ⟨p, -, e1⟩ := flw_read ha
 obtain ⟨q, -, e2⟩ := flw_read hb
 unfold Format.add
 rw [e1, e2]
 unfold Datum.sum
 dsimp only
 rw [Option.map_some]
 have eb : min (-(p : Int)) (-(q : Int)) = -((max p q : Nat) : Int) := by omega
 have u1 : (-(p : Int) - -((max p q : Nat) : Int)).toNat = max p q - p := by omega
 have u2 : (-(q : Int) - -((max p q : Nat) : Int)).toNat = max p q - q := by omega
 rw [eb, u1, u2, signed_eq, signed_eq, show p + (max p q - p) = max p q by omega, show q + (max p q - q) = max p q by omega, ← Int.add_mul]
 have hp := pow2_pos (max p q)
 congr 1
 rw [← write_exact hc (max p q)]
 congr 2
 by_cases h : a + b = 0
 ·rw [if_pos (by rw [h, Int.zero_mul]), h]
  by_cases ha0 : a < 0
  ·rw [decide_eq_false (show ¬ b < 0 by omega)]; simp
  ·rw [decide_eq_false ha0]; simp
 ·rw [if_neg (by intro e; rcases Int.mul_eq_zero.1 e with e | e <;> omega)]
  by_cases hs : a + b < 0
  ·rw [decide_eq_true hs, decide_eq_true (Int.mul_neg_of_neg_of_pos hs hp)]
  ·rw [decide_eq_false hs, decide_eq_false (by have := Int.mul_nonneg (show 0 ≤ a + b by omega) (Int.le_of_lt hp); omega)]
/-- A float of a whole number is cut to it. -/
theorem int_flw {n : Int} (hn : n.natAbs < 2 ^ 53) : floatToIntVal .f64 (flw n) .i64 = some n := by
 obtain ⟨q, hq, e⟩ := flw_read hn
 unfold floatToIntVal
 have e2 : (FloatKind.f64.decode (flw n)).toInt .zero = some n := by
  show (double.read (flw n)).toInt .zero = some n
  rw [e]
  unfold Datum.toInt Datum.integral
  dsimp only
  have u1 : (-(q : Int)).toNat = 0 := by omega
  have u2 : (- -(q : Int)).toNat = q := by omega
  rw [u1, u2, Nat.shiftLeft_zero]
  have e3 : Toward.zero.cut (decide (n < 0)) (n.natAbs * 2 ^ q) q = n.natAbs := by
   by_cases h : n = 0
   ·subst h
    unfold Toward.cut
    simp
   ·exact cut_exact .zero _ _ _ (by rw [log2_shift (by omega)]; omega)
  rw [e3]
  have e4 := signed_eq n 0 0
  rw [Nat.pow_zero, Nat.mul_one, Int.pow_zero, Int.mul_one] at e4
  rw [e4]
 rw [e2]
 dsimp only
 rw [if_pos]
 show -9223372036854775808 ≤ n ∧ n ≤ 9223372036854775807
 omega
theorem cmp_lt {a b : Int} (h : a < b) : compare a b = .lt := by
 show compareOfLessAndEq a b = _
 unfold compareOfLessAndEq
 rw [if_pos h]
theorem cmp_gt {a b : Int} (h : b < a) : compare a b = .gt := by
 show compareOfLessAndEq a b = _
 unfold compareOfLessAndEq
 rw [if_neg (by omega), if_neg (by omega)]
theorem cmp_self (a : Int) : compare a a = .eq := by
 show compareOfLessAndEq a a = _
 unfold compareOfLessAndEq
 rw [if_neg (by omega), if_pos rfl]
theorem cmp_mul (a b : Int) (q : Nat) : compare (a * 2 ^ q) (b * 2 ^ q) = compare a b := by
 have hp := pow2_pos q
 rcases Int.lt_trichotomy a b with h | h | h
 ·rw [cmp_lt h, cmp_lt (Int.mul_lt_mul_of_pos_right h hp)]
 ·subst h; rw [cmp_self, cmp_self]
 ·rw [cmp_gt h, cmp_gt (Int.mul_lt_mul_of_pos_right h hp)]
/-- Floats of whole numbers are in their order. -/
theorem order_flw {a b : Int} (ha : a.natAbs < 2 ^ 53) (hb : b.natAbs < 2 ^ 53) : FloatKind.f64.format.order (flw a) (flw b) = some (compare a b) := by
 show double.order (flw a) (flw b) = _
 obtain ⟨p, -, e1⟩ := flw_read ha
 obtain ⟨q, -, e2⟩ := flw_read hb
 unfold Format.order
 rw [e1, e2]
 unfold Datum.order
 dsimp only
 have eb : min (-(p : Int)) (-(q : Int)) = -((max p q : Nat) : Int) := by omega
 have u1 : (-(p : Int) - -((max p q : Nat) : Int)).toNat = max p q - p := by omega
 have u2 : (-(q : Int) - -((max p q : Nat) : Int)).toNat = max p q - q := by omega
 rw [eb, u1, u2, signed_eq, signed_eq, show p + (max p q - p) = max p q by omega, show q + (max p q - q) = max p q by omega, cmp_mul]
/-- A word of a number that is great. -/
def Big (P w : Nat) : Prop := ∃ k p : Nat, 2 ^ 52 ≤ k ∧ k < 2 ^ 53 ∧ p ≤ P ∧ double.read w = .number false k (p : Int)
theorem nearest_big {v P : Nat} (h : 2 ^ 52 ≤ v) (hv : v < 2 ^ (P + 52)) (hP : P ≤ 900) (q : Nat) : Big P (double.nearest false (v * 2 ^ q) (-(q : Int))) := by
 have h0 : 0 < v := Nat.lt_of_lt_of_le (Nat.two_pow_pos _) h
 have l1 : 52 ≤ v.log2 := (Nat.le_log2 (by omega)).2 h
 have l2 : v.log2 < P + 52 := (Nat.log2_lt (by omega)).2 hv
 have hpos : 0 < v * 2 ^ q := Nat.mul_pos h0 (Nat.two_pow_pos q)
 unfold Format.nearest
 rw [if_neg (by omega), log2_shift h0, least_eq]
 dsimp only
 have e1 : max (-(q : Int) + ((v.log2 + q : Nat) : Int) - (double.fractionBits : Nat)) (-1074) = (v.log2 : Int) - 52 := by
  show max (-(q : Int) + ((v.log2 + q : Nat) : Int) - ((52 : Nat) : Int)) (-1074) = _
  omega
 rw [e1]
 have e2 : ((v.log2 : Int) - 52 - (-1074)).toNat = v.log2 + 1022 := by omega
 have a1 : (-(q : Int) - ((v.log2 : Int) - 52)).toNat = 0 := by omega
 have a2 : ((v.log2 : Int) - 52 - -(q : Int)).toNat = v.log2 - 52 + q := by omega
 rw [e2, a1, a2, Nat.shiftLeft_zero]
 obtain ⟨k, hk⟩ : ∃ z, z = Toward.even.cut false (v * 2 ^ q) (v.log2 - 52 + q) := ⟨_, rfl⟩
 have hkb : 2 ^ 52 ≤ k ∧ k ≤ 2 ^ 53 := by
  have hlow : v * 2 ^ q / 2 ^ (v.log2 - 52 + q) = v / 2 ^ (v.log2 - 52) := by
   rw [Nat.pow_add, Nat.mul_div_mul_right _ _ (Nat.two_pow_pos q)]
  have hge : 2 ^ 52 ≤ v / 2 ^ (v.log2 - 52) := by
   rw [Nat.le_div_iff_mul_le (Nat.two_pow_pos _), ← Nat.pow_add, show 52 + (v.log2 - 52) = v.log2 by omega]
   exact log2_lo h0
  have hlt : v / 2 ^ (v.log2 - 52) < 2 ^ 53 := by
   rw [Nat.div_lt_iff_lt_mul (Nat.two_pow_pos _), ← Nat.pow_add, show 53 + (v.log2 - 52) = v.log2 + 1 by omega]
   exact log2_hi
  rw [hk]
  unfold Toward.cut
  dsimp only
  rw [log2_shift h0, Nat.min_eq_left (by omega), Nat.one_shiftLeft, hlow]
  have hb : ∀ b : Bool, b.toNat ≤ 1 := by decide
  have := hb (decide (2 ^ (v.log2 - 52 + q) < 2 * (v * 2 ^ q % 2 ^ (v.log2 - 52 + q))) || 2 ^ (v.log2 - 52 + q) == 2 * (v * 2 ^ q % 2 ^ (v.log2 - 52 + q)) && v / 2 ^ (v.log2 - 52) % 2 == 1)
  omega
 rw [← hk]
 clear hk a1 a2 e1 e2 hpos hv h
 have e3 : min ((v.log2 + 1022) * double.binade + k) double.infRung = (v.log2 + 1022) * 2 ^ 52 + k := by
  show min ((v.log2 + 1022) * 2 ^ 52 + k) (2047 * 2 ^ 52) = _
  exact Nat.min_eq_left (by omega)
 rw [e3]
 by_cases c : k < 2 ^ 53
 ·exact ⟨k, v.log2 - 52, hkb.1, c, by omega, by rw [read_word false (by omega) hkb.1 c, show ((v.log2 + 1022 : Nat) : Int) - 1074 = ((v.log2 - 52 : Nat) : Int) by omega]⟩
 ·refine ⟨2 ^ 52, v.log2 - 51, Nat.le_refl _, by decide, by omega, ?_⟩
  rw [show (v.log2 + 1022) * 2 ^ 52 + k = (v.log2 + 1022 + 1) * 2 ^ 52 + 2 ^ 52 by omega, read_word false (by omega) (Nat.le_refl _) (by decide), show ((v.log2 + 1022 + 1 : Nat) : Int) - 1074 = ((v.log2 - 51 : Nat) : Int) by omega]
theorem flw_big {n : Int} (h : 2 ^ 52 ≤ n) (hn : n < 2 ^ 64) : Big 12 (flw n) := by
 have := nearest_big (v := n.natAbs) (P := 12) (by omega) (show n.natAbs < 2 ^ 64 by omega) (by decide) 0
 rw [Nat.pow_zero, Nat.mul_one] at this
 rw [flw_eq, decide_eq_false (by omega)]
 exact this
/-- A sum with a great number. -/
theorem add_big {P w : Nat} (h : Big P w) (hP : P ≤ 800) {a : Int} (ha0 : 0 ≤ a) (ha : a.natAbs < 2 ^ 53) : ∃ r, floatBits .add .f64 (flw a) w = some r ∧ Big (P + 2) r := by
 obtain ⟨k, p, h1, h2, h3, e1⟩ := h
 obtain ⟨q, -, e2⟩ := flw_read ha
 rw [decide_eq_false (by omega)] at e2
 show ∃ r, double.add (flw a) w = some r ∧ Big (P + 2) r
 unfold Format.add
 rw [e1, e2]
 unfold Datum.sum
 dsimp only
 have eb : min (-(q : Int)) (p : Int) = -(q : Int) := by omega
 have u1 : (-(q : Int) - -(q : Int)).toNat = 0 := by omega
 have u2 : ((p : Int) - -(q : Int)).toNat = p + q := by omega
 rw [eb, u1, u2, Option.map_some]
 refine ⟨_, rfl, ?_⟩
 have et : signed false (a.natAbs * 2 ^ q) 0 + signed false k (p + q) = (((a.natAbs + k * 2 ^ p) * 2 ^ q : Nat) : Int) := by
  unfold signed
  rw [if_neg (by decide), if_neg (by decide), Nat.shiftLeft_zero, Nat.shiftLeft_eq, Nat.add_mul, Nat.mul_assoc k, ← Nat.pow_add]
  push_cast
  rfl
 have hpos : 0 < (a.natAbs + k * 2 ^ p) * 2 ^ q := Nat.mul_pos (by have := Nat.mul_pos (show 0 < k by omega) (Nat.two_pow_pos p); omega) (Nat.two_pow_pos q)
 rw [et, if_neg (by omega), Int.natAbs_natCast, decide_eq_false (by omega)]
 refine nearest_big ?_ ?_ (by omega) q
 ·have := Nat.mul_le_mul h1 (Nat.one_le_two_pow (n := p))
  omega
 ·have b1 : k * 2 ^ p < 2 ^ 53 * 2 ^ P := Nat.mul_lt_mul_of_lt_of_le h2 (Nat.pow_le_pow_right (by decide) h3) (Nat.two_pow_pos _)
  have b2 : (2 : Nat) ^ 53 ≤ 2 ^ 53 * 2 ^ P := Nat.le_mul_of_pos_right _ (Nat.two_pow_pos P)
  have b3 : (2 : Nat) ^ (P + 2 + 52) = 2 ^ 53 * 2 ^ P + 2 ^ 53 * 2 ^ P := by
   rw [show P + 2 + 52 = 1 + (53 + P) by omega, Nat.pow_add, Nat.pow_add 2 53 P]
   omega
  omega
theorem gt_big {P w : Nat} (h : Big P w) {a : Int} (ha0 : 0 ≤ a) (ha : a < 2 ^ 52) : FloatKind.f64.format.order w (flw a) = some .gt := by
 obtain ⟨k, p, h1, h2, h3, e1⟩ := h
 obtain ⟨q, -, e2⟩ := flw_read (n := a) (by omega)
 rw [decide_eq_false (by omega)] at e2
 show double.order w (flw a) = _
 unfold Format.order
 rw [e1, e2]
 unfold Datum.order
 dsimp only
 have eb : min (p : Int) (-(q : Int)) = -(q : Int) := by omega
 have u1 : (-(q : Int) - -(q : Int)).toNat = 0 := by omega
 have u2 : ((p : Int) - -(q : Int)).toNat = p + q := by omega
 rw [eb, u1, u2]
 have e3 : signed false (a.natAbs * 2 ^ q) 0 = ((a.natAbs * 2 ^ q : Nat) : Int) := by
  unfold signed
  rw [if_neg (by decide), Nat.shiftLeft_zero]
 have e4 : signed false k (p + q) = ((k * 2 ^ p * 2 ^ q : Nat) : Int) := by
  unfold signed
  rw [if_neg (by decide), Nat.shiftLeft_eq, Nat.mul_assoc, ← Nat.pow_add]
 rw [e3, e4]
 have hlt : a.natAbs * 2 ^ q < k * 2 ^ p * 2 ^ q := Nat.mul_lt_mul_of_pos_right (by
  have := Nat.mul_le_mul h1 (Nat.one_le_two_pow (n := p))
  omega) (Nat.two_pow_pos q)
 rw [cmp_gt (by omega)]
end Go.Proofs.YtbmlpafbdbhaiaaGreatDoor.Gf
