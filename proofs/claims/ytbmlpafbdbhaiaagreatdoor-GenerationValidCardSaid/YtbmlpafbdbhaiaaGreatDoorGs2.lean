/- What is proved here: slices.Backward over items; apart of any items (program, package generation). -/
import Derived.Test.YtbmlpafbdbhaiaaGreatDoorGs1
import Derived.Test.YtbmlpafbdbhaiaaGreatDoorRd
import Derived.RangeFuncNested
import Derived.RangeFuncBound
import Derived.RangeFuncCalls
import Derived.RangeFuncLeaves
import Derived.Shelf.Abstract
import Derived.Shelf.RegionOpen
import Derived.OwnWalkIn
import Derived.TacticsInMore
import Derived.LoopNIn
import Derived.LoopIn
import Derived.Test.YtbmlpafbdbhaiaaGreatDoorChecked
namespace Go.Proofs.YtbmlpafbdbhaiaaGreatDoor.Gf
open Go Go.RowKit Go.ChangeAt Go.Shelf Go.Proofs.YtbmlpafbdbhaiaaGreatDoor.Qt
set_option maxRecDepth 100000
set_option maxHeartbeats 204800000

/-- The indices from the last one down, k of them. -/
def dn (n : Nat) : Nat → List { x : Nat // x < n }
 | 0 => []
 | k + 1 => if h : n - 1 - k < n then dn n k ++ [⟨n - 1 - k, h⟩] else dn n k
theorem dn_succ {n k : Nat} (h : k < n) : dn n (k + 1) = dn n k ++ [⟨n - 1 - k, by omega⟩] := by
 rw [dn, dif_pos (by omega)]
theorem dn_length {n : Nat} : ∀ k, k ≤ n → (dn n k).length = k
 | 0, _ => rfl
 | k + 1, h => by rw [dn_succ (by omega), List.length_append, dn_length k (by omega)]; rfl
/-- What a round keeps: what lay below n₀, and the box. -/
def KpX (n₀ Bs : Nat) (W W' : World) : Prop := Below n₀ W W' ∧ W'.heap[Bs]? = W.heap[Bs]?
theorem KpX.trans {n₀ Bs : Nat} {A B C : World} (h : KpX n₀ Bs A B) (h2 : KpX n₀ Bs B C) : KpX n₀ Bs A C := ⟨h.1.trans h2.1, h2.2.trans h.2⟩
theorem bel_al0 (w : World) (o : Obj) : Below w.heap.size w (w.alloc o) := (Below.refl _ _).alloc (Nat.le_refl _) _
theorem btA {w w1 w2 : World} (h : Below w.heap.size w w1) (h2 : Below w1.heap.size w1 w2) : Below w.heap.size w w2 := h.trans (h2.mono h.size)
theorem other1 {W : World} {g o b : Nat} {v : Value} (hb : b ≠ g) : (W.setCell ⟨g, o, none⟩ v).heap[b]? = W.heap[b]? := heap_setCell_other _ _ _ _ hb
theorem pbackI_in (F : Fence) (n : Nat) (h8 : F.fn 117) (hro : F.round = none) (hn : 1 ≤ n) (l Bs n₀ b off len cap : Nat) (a : Option Addr) (A D C E : Nat → Value) (hreach : len ≤ 100000) (ha : 0 < len → a = some ⟨b, off, none⟩ ∧ b < n₀) (J Jx : List { x : Nat // x < len } → World → Prop)
 (hY : ∀ pre x W, J pre W → pre.length < len → YieldAt F (n - 1) Tryz.prog l #[.int .i64 (x.1 : Int), .agg #[A x.1, D x.1, C x.1, E x.1]] W fun e W' =>
  (e = .returned (.bool true) ∧ J (pre ++ [x]) W' ∧ KpX n₀ Bs W W') ∨ (e = .returned (.bool false) ∧ Jx (pre ++ [x]) W'))
 (W : World) (hBs : W.heap[Bs]? = some (.cells #[.slice a len cap] 38 (0, 0))) (hc : ∀ j, j < len → W.cell? ⟨b, off + j * 4, none⟩ = some (A j) ∧ W.cell? ⟨b, off + j * 4 + 1, none⟩ = some (D j) ∧ W.cell? ⟨b, off + j * 4 + 2, none⟩ = some (C j) ∧ W.cell? ⟨b, off + j * 4 + 3, none⟩ = some (E j)) (h0 : J [] W) :
 CallsIn F n Tryz.prog 117 #[.func (.yield l) #[] #[], .pointer (some ⟨Bs, 0, none⟩)] W fun e W' => (∃ v, e = .returned v) ∧
  ((∃ ys, ys = dn len len ∧ J ys W') ∨ (∃ pre, (∃ k, k ≤ len ∧ pre = dn len k) ∧ Jx pre W')) := by
 refine callsIn_of_wp Tryz.func117 rfl h8 ?_ hro
 simp only [Tryz.ntmps117, List.size_toArray, List.length_cons, List.length_nil, Nat.reduceAdd, Nat.reduceSub, Array.replicate_succ, Array.replicate_zero, List.push_toArray, List.append_toArray, List.nil_append, List.cons_append]
 have hcb := cell_of_row W Bs 0 _ _ _ hBs
 gi_wp2
 gi_loopw [3] (fun i wr => ∃ k : Nat, k ≤ len ∧ i = .int .i64 ((len : Int) - 1 - (k : Int)) ∧ J (dn len k) wr ∧ KpX n₀ Bs W wr)
  (fun i _ => ((intOf i) + 1).toNat)
 case atStart => exact ⟨0, Nat.zero_le _, by simp, h0, Below.refl _ _, rfl⟩
 case round =>
  obtain ⟨k, hk, rfl, hJs, hnx⟩ := hrel
  have hcw := cell_of_row wr Bs 0 _ _ _ (hnx.2.trans hBs)
  by_cases hlt : k < len
  ·obtain ⟨rfl, hb⟩ := ha (by omega)
   obtain ⟨j, hj⟩ : ∃ j, j = len - 1 - k := ⟨_, rfl⟩
   have hjz : (len : Int) - 1 - (k : Int) = (j : Int) := by omega
   have hjl : j < len := by omega
   obtain ⟨fn, tmps, assign, body, hy, hR⟩ := hY _ ⟨j, hjl⟩ wr hJs (by rw [dn_length k (by omega)]; exact hlt)
   dsimp only at hy
   obtain ⟨c0, c1, c2, c3⟩ := hc j hjl
   replace c0 := (hnx.1.cell (p := ⟨b, off + j * 4, none⟩) hb).trans c0
   replace c1 := (hnx.1.cell (p := ⟨b, off + j * 4 + 1, none⟩) hb).trans c1
   replace c2 := (hnx.1.cell (p := ⟨b, off + j * 4 + 2, none⟩) hb).trans c2
   replace c3 := (hnx.1.cell (p := ⟨b, off + j * 4 + 3, none⟩) hb).trans c3
   have p0 : (0 : Int) ≤ (j : Int) := by omega
   have p1 : (j : Int) < (len : Int) := by omega
   rw [hjz]
   have HJ := Lh hj
   clear hj hjz
   gi_wp2
   refine hR.mono ?_
   rintro e W3 (⟨rfl, hJ3, hk3⟩ | ⟨rfl, hJx3⟩)
   ·gi_wp2
    go_roundw
    case rel => exact ⟨k + 1, by omega, by have hj := HJ.out; first | (simp; omega) | (congr 1; omega), by have hj := HJ.out; rw [dn_succ hlt]; subst hj; exact hJ3, hnx.trans hk3⟩
    case measure => have hj := HJ.out; simp only [intOf]; omega
   ·gi_wp2
    refine bodyPost_ret (results_none rfl _ _ _) rfl ?_
    exact ⟨⟨_, rfl⟩, .inr ⟨_, ⟨k + 1, by omega, by have hj := HJ.out; rw [dn_succ hlt]; subst hj; rfl⟩, hJx3⟩⟩
  ·obtain rfl : k = len := by omega
   have hjz : (k : Int) - 1 - (k : Int) = -1 := by omega
   rw [hjz]
   gi_wp2
   go_end0
   exact ⟨⟨_, rfl⟩, .inl ⟨_, rfl, hJs⟩⟩
theorem pbackI_any (a : Option Addr) (len cap : Nat) (w : World) : Calls Tryz.prog 88 #[.slice a len cap] w fun e w' => e = .returned (.func (.func 117) #[] #[.pointer (some ⟨w.heap.size, 0, none⟩)]) ∧ w' = w.alloc (.cells #[.slice a len cap] 38) := by
 have hmf : ∀ (fn : Fn) (first cap : Array Value) (w : World), (Instr.makeFunc fn first cap).run Tryz.prog w = .ok (.func fn first cap) w := fun _ _ _ _ => rfl
 go_enter Tryz.func88, Tryz.ntmps88
 go_wp2
 go_ret
 exact ⟨rfl, rfl⟩
theorem pbackI_stops (F : Fence) (n : Nat) (h8 : F.fn 117) (hro : F.round = none) (hn : 1 ≤ n) (Bs n₀ b off len cap : Nat) (a : Option Addr) (A D C E : Nat → Value) (hreach : len ≤ 100000) (ha : 0 < len → a = some ⟨b, off, none⟩ ∧ b < n₀) (w : World) (hn₀ : n₀ ≤ w.heap.size)
 (hBs : w.heap[Bs]? = some (.cells #[.slice a len cap] 38 (0, 0))) (hc : ∀ j, j < len → w.cell? ⟨b, off + j * 4, none⟩ = some (A j) ∧ w.cell? ⟨b, off + j * 4 + 1, none⟩ = some (D j) ∧ w.cell? ⟨b, off + j * 4 + 2, none⟩ = some (C j) ∧ w.cell? ⟨b, off + j * 4 + 3, none⟩ = some (E j)) :
 SeqStopsK F n Tryz.prog 117 #[.pointer (some ⟨Bs, 0, none⟩)] (fun x : { x : Nat // x < len } => #[Value.int .i64 (x.1 : Int), .agg #[A x.1, D x.1, C x.1, E x.1]]) (KpX n₀ Bs) (fun ys => ys = dn len len)
  (fun pre => ∃ k, k ≤ len ∧ pre = dn len k) len w := fun l J Jx W hW _ _ hY h0 => by
 have hlt := (Array.getElem?_eq_some_iff.1 hBs).1
 refine pbackI_in F n h8 hro hn l Bs n₀ b off len cap a A D C E hreach ha J Jx hY W ((hW.block Bs hlt).trans hBs) (fun j hj => ?_) h0
 have hb := (ha (by omega)).2
 obtain ⟨c0, c1, c2, c3⟩ := hc j hj
 exact ⟨(hW.cell (p := ⟨b, off + j * 4, none⟩) (by show b < _; omega)).trans c0, (hW.cell (p := ⟨b, off + j * 4 + 1, none⟩) (by show b < _; omega)).trans c1, (hW.cell (p := ⟨b, off + j * 4 + 2, none⟩) (by show b < _; omega)).trans c2, (hW.cell (p := ⟨b, off + j * 4 + 3, none⟩) (by show b < _; omega)).trans c3⟩
/-- A result that is one boxed variable of one cell. -/
theorem results_c1 {P : Program} {fn : Func} {p : Tmp} {T : TypeId} {tmps : Array Value} {w : World} {g : Nat} {v : Value} (h : fn.results = #[.cell p T]) (hp : tmps.getD p undef = .pointer (some ⟨g, 0, none⟩)) (ha : (isAgg T).run P w = .ok false w) (hc : w.cell? ⟨g, 0, none⟩ = some v) : (results fn tmps).run P w = .ok v w := by
 have hp' : tmps[p]?.getD undef = .pointer (some ⟨g, 0, none⟩) := by simpa using hp
 simp [results, h, hp', asAddr, loadVar, ha, hc]
theorem agg_bool (w : World) : (isAgg 4).run Tryz.prog w = .ok false w := by kernel_rfl
theorem wpIn_region_headsS {P : Program} {n l id : Nat} {Q : Exit → Act → World → Prop} {a : Act} {w : World} {ls : List Oper} (S : World → Prop) (hd : List Nat) (fuel : Nat) (hm : P.follows .mixedOrders = true) (hdef : Rd.noDefB ls.toArray = true) (hL : ¬ LetsOut Q) (hQ : ∀ c (a : Act) d v w, Q (.panic c) (a.put d v) w → Q (.panic c) a w)
 (hB : (Region.noSelect ls.toArray && headsB .any ls.toArray hd (Array.replicate ls.toArray.size false)) = true) (hf : ls.toArray.size = hd.length + fuel) (h1 : (pickOps ls.toArray hd).map some = hd.map (fun t => ls.toArray[t]?)) (hS : S w.drew)
 (h : wpHeads P ls.toArray S (fun a' => wpAnyH P .any ls.toArray Q S fuel (listAll hd (Array.replicate ls.toArray.size false)) a' w.drew) (pickOps ls.toArray hd) a) : (Code.region id ls.toArray true).wpIn (Fence.wide.inRound l) n P Q a w := by
 simp only [Bool.and_eq_true] at hB
 refine Rd.wpIn_any hm hdef hL (wpAny_of_held (S := S) _ _ _ _ ?_)
 have := held_heads (P := P) (md := .any) (Q := Q) hB.1 hQ hS hd _ _ a hB.2 h1 h
 rw [hf] at *
 exact this
/-- Where the loop stands behind the items of pre. -/
def stE (M : List Itm) (sz : Int) {n : Nat} (pre : List { x : Nat // x < n }) : Int := match pre.getLast? with
 | none => sz
 | some x => (M.getD x.1 z0).off
/-- All steps of pre went through. -/
def okE (M : List Itm) (sz : Int) {n : Nat} (pre : List { x : Nat // x < n }) : Prop := ∀ (p : List { x : Nat // x < n }) (x : { x : Nat // x < n }) (q : List { x : Nat // x < n }), pre = p ++ x :: q → (M.getD x.1 z0).off + szT (M.getD x.1 z0) ≤ stE M sz p
theorem okE_nil (M : List Itm) (sz : Int) {n : Nat} : okE M sz ([] : List { x : Nat // x < n }) := fun p x q h => by simp at h
theorem stE_snoc (M : List Itm) (sz : Int) {n : Nat} (pre : List { x : Nat // x < n }) (x : { x : Nat // x < n }) : stE M sz (pre ++ [x]) = (M.getD x.1 z0).off := by
 unfold stE
 rw [List.getLast?_append]
 simp
theorem okE_snoc {M : List Itm} {sz : Int} {n : Nat} {pre : List { x : Nat // x < n }} {x : { x : Nat // x < n }} (h : okE M sz pre) (hx : (M.getD x.1 z0).off + szT (M.getD x.1 z0) ≤ stE M sz pre) : okE M sz (pre ++ [x]) := fun p y q e => by
 rcases List.eq_nil_or_concat q with rfl | ⟨q', z, rfl⟩
 ·obtain ⟨rfl, h2⟩ := List.append_inj' e rfl
  obtain rfl : x = y := by simpa using h2
  exact hx
 ·have e2 : pre ++ [x] = (p ++ y :: q') ++ [z] := by rw [e]; simp
  obtain ⟨rfl, -⟩ := List.append_inj' e2 rfl
  exact h p y q' rfl
theorem dn_get {n : Nat} : ∀ k, k ≤ n → ∀ i (h : i < (dn n k).length), ((dn n k)[i]).1 = n - 1 - i
 | 0, _, i, h => by simp [dn] at h
 | k + 1, hk, i, h => by
  have hl := dn_length k (n := n) (by omega)
  have e := dn_succ (n := n) (k := k) (by omega)
  simp only [e]
  rw [e, List.length_append, hl] at h
  by_cases hi : i < k
  ·rw [List.getElem_append_left (by rw [hl]; exact hi)]
   exact dn_get k (by omega) i (by rw [hl]; exact hi)
  ·obtain rfl : i = k := by simp at h; omega
   rw [List.getElem_append_right (by rw [hl]; exact Nat.le_refl _)]
   simp
theorem dn_take {n : Nat} : ∀ k i, i ≤ k → k ≤ n → (dn n k).take i = dn n i := fun k => by
 induction k with
 | zero =>
  intro i hi _
  obtain rfl : i = 0 := by omega
  rfl
 | succ k ih =>
  intro i hi hk
  by_cases h : i = k + 1
  ·subst h
   exact List.take_of_length_le (by rw [dn_length _ hk]; exact Nat.le_refl _)
  ·rw [dn_succ (by omega), List.take_append_of_le_length (by rw [dn_length k (by omega)]; omega)]
   exact ih i (by omega) (by omega)
theorem stE_dn {M : List Itm} {sz : Int} {n : Nat} (hn : n = M.length) {i : Nat} (h : i < n) : stE M sz (dn n (n - 1 - i)) = nxL M sz i := by
 unfold nxL
 by_cases e : i + 1 < M.length
 ·rw [if_pos e, show n - 1 - i = (n - 2 - i) + 1 by omega, dn_succ (by omega), stE_snoc]
  congr 2
  simp only
  omega
 ·rw [if_neg e, show n - 1 - i = 0 by omega]
  rfl
/-- All n steps went through exactly if the chain holds. -/
theorem okE_dn {M : List Itm} {sz : Int} {n : Nat} (hn : n = M.length) : okE M sz (dn n n) ↔ ∀ i, i < M.length → (M.getD i z0).off + szT (M.getD i z0) ≤ nxL M sz i := by
 have key : ∀ i, i < n → ∃ q, dn n n = dn n (n - 1 - i) ++ (if h : i < n then [⟨i, h⟩] else []) ++ q := fun i hi => by
  refine ⟨(dn n n).drop (n - i), ?_⟩
  rw [dif_pos hi]
  have h1 : dn n (n - 1 - i) ++ [⟨i, hi⟩] = dn n (n - i) := by
   have := dn_succ (n := n) (k := n - 1 - i) (by omega)
   rw [show n - 1 - i + 1 = n - i by omega] at this
   rw [this]
   congr 2
   apply Subtype.ext
   show i = n - 1 - (n - 1 - i)
   omega
  rw [h1, ← dn_take n (n - i) (by omega) (Nat.le_refl _), List.take_append_drop]
 constructor
 ·intro h i hi
  obtain ⟨q, hq⟩ := key i (by omega)
  rw [dif_pos (by omega), List.append_assoc] at hq
  have := h _ _ _ hq
  rw [stE_dn hn (by omega)] at this
  exact this
 ·intro h p x q e
  have hl : p.length < n := by
   have := congrArg List.length e
   rw [dn_length n (Nat.le_refl _), List.length_append, List.length_cons] at this
   omega
  have hp : p = dn n p.length := by
   have := congrArg (List.take p.length) e
   rw [dn_take n p.length (by omega) (Nat.le_refl _), List.take_left' rfl] at this
   exact this.symm
  have hx : x.1 = n - 1 - p.length := by
   have h1 : (dn n n)[p.length]? = some x := by rw [e]; simp
   obtain ⟨h2, h3⟩ := List.getElem?_eq_some_iff.1 h1
   rw [← h3]
   exact dn_get n (Nat.le_refl _) _ h2
  have := h x.1 (by omega)
  rw [← stE_dn hn (by omega), show n - 1 - x.1 = p.length by omega, ← hp] at this
  exact this
end Go.Proofs.YtbmlpafbdbhaiaaGreatDoor.Gf
