/- What is proved here: contracts of the program (disk): cuts, part. Conditions: see each. -/
import Derived.RangeFuncNested
import Derived.RangeFuncBound
import Derived.RangeFuncCalls
import Derived.RangeFuncLeaves
import Derived.Shelf.Abstract
import Derived.Shelf.RegionOpen
import Derived.WalkKit
import Derived.OwnWalkIn
import Derived.TacticsInMore
import Derived.LoopNIn
import Derived.LoopIn
import Derived.Lib.Hide
import Derived.Test.YtpipgbjkkiheaaaChecked
import Derived.Test.YtpipgbjkkiheaaaK10E
import Derived.BigQuiet
namespace Go.Proofs.Ytpipgbjkkiheaaa.Gf
open Go Go.RowKit Go.Shelf

/-- The indices from the last one down, k of them. -/
def dn (n : Nat) : Nat → List { x : Nat // x < n }
  | 0 => []
  | k + 1 => if h : n - 1 - k < n then dn n k ++ [⟨n - 1 - k, h⟩] else dn n k
theorem dn_succ {n k : Nat} (h : k < n) : dn n (k + 1) = dn n k ++ [⟨n - 1 - k, by omega⟩] := by
  rw [dn, dif_pos (by omega)]
theorem dn_length {n : Nat} : ∀ k, k ≤ n → (dn n k).length = k
  | 0, _ => rfl
  | k + 1, h => by rw [dn_succ (by omega), List.length_append, dn_length k (by omega)]; rfl
/-- What a round keeps: what lay below n₀, and the box. -/
def KpB (n₀ Bs : Nat) (W W' : World) : Prop := Below n₀ W W' ∧ W'.heap[Bs]? = W.heap[Bs]?
theorem KpB.trans {n₀ Bs : Nat} {A B C : World} (h : KpB n₀ Bs A B) (h2 : KpB n₀ Bs B C) : KpB n₀ Bs A C := ⟨h.1.trans h2.1, h2.2.trans h.2⟩
set_option maxRecDepth 100000 in
set_option maxHeartbeats 4000000 in
theorem pback1_in (F : Fence) (n : Nat) (h8 : F.fn 103) (hro : F.round = none) (hn : 1 ≤ n) (l Bs n₀ b off len cap : Nat) (a : Option Addr) (A D C : Nat → Value) (hreach : len ≤ 100000) (ha : 0 < len → a = some ⟨b, off, none⟩ ∧ b < n₀) (J Jx : List { x : Nat // x < len } → World → Prop)
    (hY : ∀ pre x W, J pre W → pre.length < len → YieldAt F (n - 1) Try.prog l #[.int .i64 (x.1 : Int), .agg #[A x.1, D x.1, C x.1]] W fun e W' =>
      (e = .returned (.bool true) ∧ J (pre ++ [x]) W' ∧ KpB n₀ Bs W W') ∨ (e = .returned (.bool false) ∧ Jx (pre ++ [x]) W'))
    (W : World) (hBs : W.heap[Bs]? = some (.cells #[.slice a len cap] 57 (0, 0))) (hc : ∀ j, j < len → W.cell? ⟨b, off + j * 3, none⟩ = some (A j) ∧ W.cell? ⟨b, off + j * 3 + 1, none⟩ = some (D j) ∧ W.cell? ⟨b, off + j * 3 + 2, none⟩ = some (C j)) (h0 : J [] W) :
    CallsIn F n Try.prog 103 #[.func (.yield l) #[] #[], .pointer (some ⟨Bs, 0, none⟩)] W fun e W' => (∃ v, e = .returned v) ∧
      ((∃ ys, ys = dn len len ∧ J ys W') ∨ (∃ pre, (∃ k, k ≤ len ∧ pre = dn len k) ∧ Jx pre W')) := by
  refine callsIn_of_wp Try.func103 rfl h8 ?_ hro
  simp only [Try.ntmps103, List.size_toArray, List.length_cons, List.length_nil, Nat.reduceAdd, Nat.reduceSub, Array.replicate_succ, Array.replicate_zero, List.push_toArray, List.append_toArray, List.nil_append, List.cons_append]
  have hcb := cell_of_row W Bs 0 _ _ _ hBs
  gi_wp2
  gi_loopw [3] (fun i wr => ∃ k : Nat, k ≤ len ∧ i = .int .i64 ((len : Int) - 1 - (k : Int)) ∧ J (dn len k) wr ∧ KpB n₀ Bs W wr)
    (fun i _ => ((intOf i) + 1).toNat)
  case atStart => exact ⟨0, Nat.zero_le _, by simp, h0, Below.refl _ _, rfl⟩
  case round =>
    obtain ⟨k, hk, rfl, hJs, hnx⟩ := hrel
    have hcw := cell_of_row wr Bs 0 _ _ _ (hnx.2.trans hBs)
    by_cases hlt : k < len
    · obtain ⟨rfl, hb⟩ := ha (by omega)
      obtain ⟨j, hj⟩ : ∃ j, j = len - 1 - k := ⟨_, rfl⟩
      have hjz : (len : Int) - 1 - (k : Int) = (j : Int) := by omega
      have hjl : j < len := by omega
      obtain ⟨fn, tmps, assign, body, hy, hR⟩ := hY _ ⟨j, hjl⟩ wr hJs (by rw [dn_length k (by omega)]; exact hlt)
      dsimp only at hy
      obtain ⟨c0, c1, c2⟩ := hc j hjl
      replace c0 := (hnx.1.cell (p := ⟨b, off + j * 3, none⟩) hb).trans c0
      replace c1 := (hnx.1.cell (p := ⟨b, off + j * 3 + 1, none⟩) hb).trans c1
      replace c2 := (hnx.1.cell (p := ⟨b, off + j * 3 + 2, none⟩) hb).trans c2
      have p0 : (0 : Int) ≤ (j : Int) := by omega
      have p1 : (j : Int) < (len : Int) := by omega
      rw [hjz]
      have HJ := Lib.hid hj
      clear hj hjz
      gi_wp2
      refine hR.mono ?_
      rintro e W3 (⟨rfl, hJ3, hk3⟩ | ⟨rfl, hJx3⟩)
      · gi_wp2
        go_roundw
        case rel => exact ⟨k + 1, by omega, by have hj := HJ.out; first | (simp; omega) | (congr 1; omega), by have hj := HJ.out; rw [dn_succ hlt]; subst hj; exact hJ3, hnx.trans hk3⟩
        case measure => have hj := HJ.out; simp only [intOf]; omega
      · gi_wp2
        refine bodyPost_ret (results_none rfl _ _ _) rfl ?_
        exact ⟨⟨_, rfl⟩, .inr ⟨_, ⟨k + 1, by omega, by have hj := HJ.out; rw [dn_succ hlt]; subst hj; rfl⟩, hJx3⟩⟩
    · obtain rfl : k = len := by omega
      have hjz : (k : Int) - 1 - (k : Int) = -1 := by omega
      rw [hjz]
      gi_wp2
      go_end0
      exact ⟨⟨_, rfl⟩, .inl ⟨_, rfl, hJs⟩⟩
end Go.Proofs.Ytpipgbjkkiheaaa.Gf
namespace Go.Proofs.Ytpipgbjkkiheaaa.Gf
open Go Go.RowKit Go.Shelf

set_option maxRecDepth 100000 in
theorem pback_any (a : Option Addr) (len cap : Nat) (w : World) : Calls Try.prog 96 #[.slice a len cap] w fun e w' => e = .returned (.func (.func 103) #[] #[.pointer (some ⟨w.heap.size, 0, none⟩)]) ∧ w' = w.alloc (.cells #[.slice a len cap] 57) := by
  have hmf : ∀ (fn : Fn) (first cap : Array Value) (w : World), (Instr.makeFunc fn first cap).run Try.prog w = .ok (.func fn first cap) w := fun _ _ _ _ => rfl
  go_enter Try.func96, Try.ntmps96
  go_wp2
  go_ret
  exact ⟨rfl, rfl⟩
theorem pback_stops (F : Fence) (n : Nat) (h8 : F.fn 103) (hro : F.round = none) (hn : 1 ≤ n) (Bs n₀ b off len cap : Nat) (a : Option Addr) (A D C : Nat → Value) (hreach : len ≤ 100000) (ha : 0 < len → a = some ⟨b, off, none⟩ ∧ b < n₀) (w : World) (hn₀ : n₀ ≤ w.heap.size)
    (hBs : w.heap[Bs]? = some (.cells #[.slice a len cap] 57 (0, 0))) (hc : ∀ j, j < len → w.cell? ⟨b, off + j * 3, none⟩ = some (A j) ∧ w.cell? ⟨b, off + j * 3 + 1, none⟩ = some (D j) ∧ w.cell? ⟨b, off + j * 3 + 2, none⟩ = some (C j)) :
    SeqStopsK F n Try.prog 103 #[.pointer (some ⟨Bs, 0, none⟩)] (fun x : { x : Nat // x < len } => #[Value.int .i64 (x.1 : Int), .agg #[A x.1, D x.1, C x.1]]) (KpB n₀ Bs) (fun ys => ys = dn len len)
      (fun pre => ∃ k, k ≤ len ∧ pre = dn len k) len w := fun l J Jx W hW _ _ hY h0 => by
  have hlt := (Array.getElem?_eq_some_iff.1 hBs).1
  refine pback1_in F n h8 hro hn l Bs n₀ b off len cap a A D C hreach ha J Jx hY W ((hW.block Bs hlt).trans hBs) (fun j hj => ?_) h0
  have hb := (ha (by omega)).2
  obtain ⟨c0, c1, c2⟩ := hc j hj
  exact ⟨(hW.cell (p := ⟨b, off + j * 3, none⟩) (by show b < _; omega)).trans c0, (hW.cell (p := ⟨b, off + j * 3 + 1, none⟩) (by show b < _; omega)).trans c1, (hW.cell (p := ⟨b, off + j * 3 + 2, none⟩) (by show b < _; omega)).trans c2⟩
/-- What a round makes of the ends and of the least cut. -/
def cutS (l : List Wr) (st : List Int × Nat) (x : Nat) : List Int × Nat := (st.1.set x (st.2 : Int), if (l.getD x wr0).2.2 then min st.2 (l.getD x wr0).1.toNat else st.2)
def cutF (l : List Wr) {n : Nat} (pre : List { x : Nat // x < n }) : List Int × Nat := pre.foldl (fun st x => cutS l st x.1) (List.replicate n 0, 1048576)
theorem cutF_snoc (l : List Wr) {n : Nat} (pre : List { x : Nat // x < n }) (x : { x : Nat // x < n }) : cutF l (pre ++ [x]) = cutS l (cutF l pre) x.1 := by
  unfold cutF
  rw [List.foldl_append]
  rfl
theorem cutF_len (l : List Wr) {n : Nat} (pre : List { x : Nat // x < n }) : (cutF l pre).1.length = n := by
  have h : ∀ (pre : List { x : Nat // x < n }) (st : List Int × Nat), (pre.foldl (fun st x => cutS l st x.1) st).1.length = st.1.length := fun pre => by
    induction pre with
    | nil => intro st; rfl
    | cons x pre ih =>
      intro st
      rw [List.foldl_cons, ih]
      simp [cutS]
  unfold cutF
  rw [h]
  simp
theorem cutF_le (l : List Wr) {n : Nat} (pre : List { x : Nat // x < n }) : (cutF l pre).2 ≤ 1048576 := by
  have h : ∀ (pre : List { x : Nat // x < n }) (st : List Int × Nat), (pre.foldl (fun st x => cutS l st x.1) st).2 ≤ st.2 := fun pre => by
    induction pre with
    | nil => intro st; exact Nat.le_refl _
    | cons x pre ih =>
      intro st
      rw [List.foldl_cons]
      refine Nat.le_trans (ih _) ?_
      unfold cutS
      dsimp only
      split <;> omega
  exact h pre _
def endsL (l : List Wr) : List Int := (List.range l.length).map fun j => ((minC (l.drop (j + 1)) : Nat) : Int)
theorem cutF_dn (l : List Wr) : ∀ k, k ≤ l.length → (∀ j, j < l.length → (cutF l (dn l.length k)).1[j]? = some (if l.length - k ≤ j then ((minC (l.drop (j + 1)) : Nat) : Int) else 0)) ∧ (cutF l (dn l.length k)).2 = minC (l.drop (l.length - k))
  | 0, _ => by
    refine ⟨fun j hj => ?_, ?_⟩
    · rw [if_neg (by omega)]
      show (List.replicate l.length (0 : Int))[j]? = _
      rw [List.getElem?_replicate, if_pos hj]
    · rw [Nat.sub_zero, List.drop_length]
      rfl
  | k + 1, hk => by
    obtain ⟨h1, h2⟩ := cutF_dn l k (by omega)
    have hlen := cutF_len l (dn l.length k)
    rw [dn_succ (by omega), cutF_snoc]
    unfold cutS
    dsimp only
    refine ⟨fun j hj => ?_, ?_⟩
    · rw [List.getElem?_set, hlen]
      by_cases c : l.length - 1 - k = j
      · rw [if_pos c, if_pos (by omega), if_pos (by omega), h2, show l.length - k = j + 1 by omega]
      · rw [if_neg c, h1 j hj]
        by_cases c2 : l.length - k ≤ j
        · rw [if_pos c2, if_pos (by omega)]
        · rw [if_neg c2, if_neg (by omega)]
    · rw [h2, show l.length - (k + 1) = l.length - 1 - k by omega]
      have hd : l.drop (l.length - 1 - k) = l.getD (l.length - 1 - k) wr0 :: l.drop (l.length - k) := by
        rw [List.drop_eq_getElem_cons (show l.length - 1 - k < l.length by omega), show l.length - 1 - k + 1 = l.length - k by omega]
        simp [List.getD, show l.length - 1 - k < l.length by omega]
      rw [hd, minC]
theorem cutF_all (l : List Wr) : (cutF l (dn l.length l.length)).1 = endsL l := by
  have h := (cutF_dn l l.length (Nat.le_refl _)).1
  refine List.ext_getElem? fun j => ?_
  by_cases hj : j < l.length
  · rw [h j hj, if_pos (by omega)]
    unfold endsL
    rw [List.getElem?_map, List.getElem?_range hj]
    rfl
  · rw [List.getElem?_eq_none (by rw [cutF_len]; omega), List.getElem?_eq_none (by simp [endsL]; omega)]
def i64s (l : List Int) : Array Value := (l.map fun z => Value.int .i64 z).toArray
theorem infoI64 : (Try.prog.info? 2).map (fun i => (i.zero, i.size, i.bytes)) = some (some (.int .i64 0), 1, 8) := by kernel_rfl
set_option maxRecDepth 100000 in
/-- make([]int64, n). -/
theorem make64 {ops : Array Oper} {rest : List Oper} {dst : Option Tmp} {x : Operand} {pos : String} {after : Array Edge} {ty : TypeId} {a : Act} {W : World} {Q : Exit → Act → World → Prop} {n : Nat}
    (hx : a.eval x = .int .i64 (n : Int)) (hn : n ≤ 10000000)
    (h : wpList Try.prog ops Q rest (a.put dst (.slice (some ⟨W.heap.size, 0, none⟩) n n)) (W.alloc (.cells (i64s (List.replicate n 0)) 2))) : wpList Try.prog ops Q (⟨dst, .makeSlice 130 x x, ty, pos, after, none⟩ :: rest) a W := by
  refine wpList_plain rfl fun K hK => ?_
  obtain ⟨i, hi, hz0, hz1, hz2⟩ := info_parts infoI64
  have hr := run_make (P := Try.prog) W 130 2 i (.int .i64 0) Try.underlying130 hi hz0 .i64 .i64 (n : Int) (n : Int) (by omega) (Int.le_refl _) (by rw [hz2]; omega) (by omega)
  simp only [Int.toNat_natCast, hz1, Nat.mul_one] at hr
  have hc : madeCells (Value.int .i64 0).cells n = i64s (List.replicate n 0) := by
    apply Array.ext'
    rw [show (Value.int .i64 0).cells = #[Value.int .i64 0] from rfl, toList_madeCells_one]
    simp [i64s]
  rw [hc] at hr
  unfold Oper.wp execOp
  simp only [hx, Sem.run_bind, Sem.run_pure, hr, Result.andThen_ok]
  exact hK _ _ h
theorem row_own {β : Type} (B : Nat) (t : TypeId) (f : β → Array Value) : Go.Own (fun s W => W.heap[B]? = some (.cells (f s) t (0, 0))) := fun s X Y row hs hg hrow =>
  (hg.block B (Array.getElem?_eq_some_iff.1 hs).1 (fun e' => by obtain ⟨o, ho, hc⟩ := hrow B e'.symm; rw [hs] at ho; cases ho; cases hc)).trans hs
/-- The ends as a list of the call's own. -/
theorem ends_og (B : Nat → Prop) {W : World} {base E n : Nat} {l : List Int} (hE : W.heap[E]? = some (.cells (i64s l) 2 (0, 0))) (hl : l.length = n) (hb : base ≤ E) (hm : n ≤ maxLen) (hr : ∀ z ∈ l, -9223372036854775808 ≤ z ∧ z ≤ 9223372036854775807) : OwG 2 (.i .i64) B W base (.slice (some ⟨E, 0, none⟩) n n) l := by
  refine ⟨l.map fun z => ([Value.int .i64 z], z), by rw [List.map_map]; exact List.map_id' _, fun p hp => ?_, ?_⟩
  · obtain ⟨z, hz, rfl⟩ := List.mem_map.1 hp
    exact ⟨hr z hz, rfl⟩
  · have hfl : (l.map fun z => ([Value.int .i64 z], z)).flatMap Prod.fst = l.map fun z => Value.int .i64 z := by
      clear hE hl hr
      induction l with
      | nil => rfl
      | cons z l ih => rw [List.map_cons, List.flatMap_cons, ih]; rfl
    rw [hfl, List.length_map, hl]
    refine ⟨by rw [List.length_map, hl]; show n = n * 1; omega, Or.inr ⟨E, n, i64s l, rfl, hb, hE, Nat.le_refl _, hm, by simp [i64s, hl]; show n = n * 1; omega, ?_⟩⟩
    rw [show (i64s l).toList = l.map fun z => Value.int .i64 z by simp [i64s]]
    exact List.take_of_length_le (by rw [List.length_map, hl]; show n ≤ n * 1; omega)
def svA : Value → Option Addr
  | .slice a _ _ => a
  | _ => none
def svN : Value → Nat
  | .slice _ n _ => n
  | _ => 0
def svC : Value → Nat
  | .slice _ _ c => c
  | _ => 0
theorem wr_cells {B : Nat → Prop} {w : World} {a : Option Addr} {n c : Nat} {l : List Wr} (sv : Rd B w (.sl tyW) [.slice a n c] l) (hn : n = l.length) : ∃ (b off : Nat) (fO : Nat → Int) (fA : Nat → Option Addr) (fN fC : Nat → Nat) (fB : Nat → Bool), (∀ j, fO j = (l.getD j wr0).1 ∧ fB j = (l.getD j wr0).2.2) ∧ (0 < n → a = some ⟨b, off, none⟩ ∧ b < w.heap.size) ∧ ∀ j, j < n → w.cell? ⟨b, off + j * 3, none⟩ = some (.int .i64 (fO j)) ∧ w.cell? ⟨b, off + j * 3 + 1, none⟩ = some (.slice (fA j) (fN j) (fC j)) ∧ w.cell? ⟨b, off + j * 3 + 2, none⟩ = some (.bool (fB j)) := by
  rcases Nat.eq_zero_or_pos n with h | h
  · exact ⟨0, 0, _, fun _ => none, fun _ => 0, fun _ => 0, _, fun j => ⟨rfl, rfl⟩, fun h2 => by omega, fun j hj => by omega⟩
  · obtain ⟨b, off, cap, dv, hv, k0, -, -, -, -⟩ := rd_wat sv (i := 0) (by omega)
    obtain ⟨rfl, -, -⟩ : a = some ⟨b, off, none⟩ ∧ n = l.length ∧ c = cap := by simpa using hv
    refine ⟨b, off, _, fun j => svA ((w.cell? ⟨b, off + j * 3 + 1, none⟩).getD undef), fun j => svN ((w.cell? ⟨b, off + j * 3 + 1, none⟩).getD undef), fun j => svC ((w.cell? ⟨b, off + j * 3 + 1, none⟩).getD undef), _, fun j => ⟨rfl, rfl⟩, fun _ => ⟨rfl, cell_lt k0⟩, fun j hj => ?_⟩
    obtain ⟨b2, off2, cap2, dv2, hv2, m0, m1, m2, -, hd⟩ := rd_wat sv (i := j) (by omega)
    obtain ⟨⟨rfl, rfl⟩, -, -⟩ : (b = b2 ∧ off = off2) ∧ n = l.length ∧ c = cap2 := by simpa using hv2
    obtain ⟨ad, cd, rfl, -, -⟩ := rd_sl hd
    refine ⟨m0, ?_, m2⟩
    show _ = some (Value.slice (svA ((w.cell? ⟨b, off + j * 3 + 1, none⟩).getD undef)) (svN ((w.cell? ⟨b, off + j * 3 + 1, none⟩).getD undef)) (svC ((w.cell? ⟨b, off + j * 3 + 1, none⟩).getD undef)))
    rw [m1]
    rfl
set_option maxRecDepth 100000 in
set_option maxHeartbeats 6400000 in
theorem pcuts_any {B : Nat → Prop} (v : Value) (l : List Wr) (w : World) (sv : Rd B w (.sl tyW) [v] l) (hlen : l.length ≤ 100000) (ho : ∀ x ∈ l, 0 ≤ x.1) : Calls Try.prog 82 #[v] w (LO 2 (.i .i64) B w (endsL l)) := by
  obtain ⟨a, c, rfl, -, -⟩ := rd_sl sv
  obtain ⟨n, hn⟩ : ∃ z, z = l.length := ⟨_, rfl⟩
  rw [← hn] at sv hlen ⊢
  obtain ⟨b, off, fO, fA, fN, fC, fB, hf, ha, hc⟩ := wr_cells sv hn
  have HF := Lib.hid hf
  have HN := Lib.hid hn
  have HO := Lib.hid ho
  have HLEN := Lib.hid hlen
  have HA := Lib.hid ha
  have HC := Lib.hid hc
  clear sv hn hlen ho ha hc hf
  refine (callsIn_wide (n := 4)).1 ?_
  refine callsIn_of_wp_marks Try.func82 rfl trivial ?_ rfl
  refine wpIn_wide.2 ?_
  simp only [Try.ntmps82, List.size_toArray, List.length_cons, List.length_nil, Nat.reduceAdd, Nat.reduceSub, Array.replicate_succ, Array.replicate_zero, List.push_toArray, List.append_toArray, List.nil_append, List.cons_append]
  go_upto_region 3 with (refine make64 (n := n) rfl (Nat.le_trans HLEN.out (by decide)) ?_)
  have A1 := bel_al0 w (.cells (i64s (List.replicate n 0)) 2)
  have A2 := btA A1 (bel_al0 _ (.cells #[.slice (some ⟨w.heap.size, 0, none⟩) n n] 130))
  have BX := Lib.hid (btA A2 (bel_al0 _ (.cells #[.int .i64 1048576] 2)))
  have HE := Lib.hid (show (((w.alloc (.cells (i64s (List.replicate n 0)) 2)).alloc (.cells #[.slice (some ⟨w.heap.size, 0, none⟩) n n] 130)).alloc (.cells #[.int .i64 1048576] 2)).heap[w.heap.size]? = some (.cells (i64s (List.replicate n 0)) 2 (0, 0)) from (heap_alloc_old _ _ _ (by simp; omega)).trans ((heap_alloc_old _ _ _ (by simp)).trans (heap_alloc_new w _)))
  have HS := Lib.hid (show Boxed (((w.alloc (.cells (i64s (List.replicate n 0)) 2)).alloc (.cells #[.slice (some ⟨w.heap.size, 0, none⟩) n n] 130)).alloc (.cells #[.int .i64 1048576] 2)) (w.heap.size + 1) 130 (.slice (some ⟨w.heap.size, 0, none⟩) n n) from (heap_alloc_old _ _ _ (by simp)).trans (heap_alloc2_new w _ _))
  have HL := Lib.hid (show Boxed (((w.alloc (.cells (i64s (List.replicate n 0)) 2)).alloc (.cells #[.slice (some ⟨w.heap.size, 0, none⟩) n n] 130)).alloc (.cells #[.int .i64 1048576] 2)) (w.heap.size + 2) 2 (.int .i64 1048576) from by
    have h := heap_alloc2_new (w.alloc (.cells (i64s (List.replicate n 0)) 2)) (.cells #[.slice (some ⟨w.heap.size, 0, none⟩) n n] 130) (.cells #[.int .i64 1048576] 2)
    simpa [Boxed, Nat.add_assoc] using h)
  have SZ : (((w.alloc (.cells (i64s (List.replicate n 0)) 2)).alloc (.cells #[.slice (some ⟨w.heap.size, 0, none⟩) n n] 130)).alloc (.cells #[.int .i64 1048576] 2)).heap.size = w.heap.size + 3 := by simp
  clear A1 A2
  generalize (((w.alloc (.cells (i64s (List.replicate n 0)) 2)).alloc (.cells #[.slice (some ⟨w.heap.size, 0, none⟩) n n] 130)).alloc (.cells #[.int .i64 1048576] 2)) = W0 at *
  have HZ := Lib.hid SZ
  clear SZ
  go_wp2_with fail
  refine (pback_any a n c W0).mono ?_
  rintro e W1 ⟨rfl, hW1⟩
  have hA1 := bel_al0 W0 (.cells #[.slice a n c] 57)
  have hbs := heap_alloc_new W0 (.cells #[.slice a n c] 57)
  rw [← hW1] at hA1 hbs
  have hz1 : W1.heap.size = w.heap.size + 4 := by rw [hW1]; have := HZ.out; simp; omega
  have B1 := Lib.hid (btA BX.out hA1)
  have HE1 := Lib.hid ((hA1.block _ (Array.getElem?_eq_some_iff.1 HE.out).1).trans HE.out)
  have HS1 := Lib.hid (show Boxed W1 (w.heap.size + 1) 130 (.slice (some ⟨w.heap.size, 0, none⟩) n n) from (hA1.block _ HS.out.lt).trans HS.out)
  have HL1 := Lib.hid (show Boxed W1 (w.heap.size + 2) 2 (.int .i64 1048576) from (hA1.block _ HL.out.lt).trans HL.out)
  have hBsz := HZ.out
  rw [hBsz] at hbs ⊢
  clear hW1 hA1 HE HS HL BX HZ hBsz
  have STP := pback_stops Fence.wide 3 trivial rfl (by decide) (w.heap.size + 3) w.heap.size b off n c a (fun j => .int .i64 (fO j)) (fun j => .slice (fA j) (fN j) (fC j)) (fun j => .bool (fB j)) HLEN.out HA.out W1 (by omega) hbs (fun j hj => by
    have hb := (HA.out (by omega)).2
    obtain ⟨c0, c1, c2⟩ := HC.out j hj
    exact ⟨(B1.out.cell (p := ⟨b, off + j * 3, none⟩) hb).trans c0, (B1.out.cell (p := ⟨b, off + j * 3 + 1, none⟩) hb).trans c1, (B1.out.cell (p := ⟨b, off + j * 3 + 2, none⟩) hb).trans c2⟩)
  have HBS := Lib.hid hbs
  clear hbs
  go_wp2_with fail
  have HZ1 := Lib.hid hz1
  clear hz1
  refine (wpIn_wide (n := 4)).1 ?_
  refine wpIn_rangeFunc_ownH (n := 4) rfl (by decide) (gf := 103) (lb := #[.pointer (some ⟨w.heap.size + 3, 0, none⟩)]) rfl trivial (enters_of Try.func103 (by kernel_rfl) rfl)
    STP (fun h h2 => KpB.trans h h2) (fun W l o o' hl ho hoc _ => ⟨belowK_b (n₀ := w.heap.size) (w := W1) (by have := HZ1.out; omega) W l o o' hl ho hoc (by assumption), World.putObj_heap_other (by have := HZ1.out; omega)⟩) (Below.refl _ _) (fun _ => rfl)
    (fun pre W => ((W.heap[w.heap.size]? = some (.cells (i64s (cutF l pre).1) 2 (0, 0)) ∧ Boxed W (w.heap.size + 1) 130 (.slice (some ⟨w.heap.size, 0, none⟩) n n)) ∧ Boxed W (w.heap.size + 2) 2 (.int .i64 ((cutF l pre).2 : Int)) ∧ Boxed W (w.heap.size + 3) 57 (.slice a n c)) ∧ Below w.heap.size w W)
    (fun _ _ _ => False)
    (OwnFrom.and (OwnFrom.and (OwnFrom.and (Go.Own.from (row_own _ _ (fun pre => i64s (cutF l pre).1)) _) (Go.Own.from (boxed_own _ _ (fun _ => .slice (some ⟨w.heap.size, 0, none⟩) n n)) _)) (OwnFrom.and (Go.Own.from (boxed_own _ _ (fun pre => .int .i64 ((cutF l pre).2 : Int))) _) (Go.Own.from (boxed_own _ _ (fun _ => .slice a n c)) _))) (ownFrom_below (Nat.le_refl _) (by have := HZ1.out; omega)))
    (fun _ _ _ _ _ hs _ _ => hs)
    ⟨⟨⟨HE1.out, HS1.out⟩, HL1.out, HBS.out⟩, B1.out⟩
    (fun x a' W => ∃ Bx, w.heap.size + 2 < Bx ∧ W.heap[Bx]? = some (.cells #[.int .i64 (fO x.1), .slice (fA x.1) (fN x.1) (fC x.1), .bool (fB x.1)] 96 (0, 0)) ∧ a' = { tmps := #[.slice a n c, undef, .slice none 0 0, .pointer (some ⟨w.heap.size + 1, 0, none⟩), .pointer (some ⟨w.heap.size + 1 + 1, 0, none⟩), .int .i64 (x.1 : Int), .pointer (some ⟨Bx, 0, none⟩), .slice a n c, .int .i64 (n : Int), .slice (some ⟨w.heap.size, 0, none⟩) n n, .slice a n c, .func (.func 103) #[] #[.pointer (some ⟨w.heap.size + 3, 0, none⟩)], .int .i64 (x.1 : Int), .agg #[.int .i64 (fO x.1), .slice (fA x.1) (fN x.1) (fC x.1), .bool (fB x.1)], undef, undef, undef, undef, undef, undef, undef, undef, undef, undef, undef], defers := [] })
    (fun x a' _ X Y row hs hg hr => by obtain ⟨Bx, h1, h2, h3⟩ := hs; exact ⟨Bx, h1, row_own Bx 96 (fun (_ : Unit) => #[.int .i64 (fO x.1), .slice (fA x.1) (fN x.1) (fC x.1), .bool (fB x.1)]) () X Y row h2 hg (fun r e => (hr r e).2), h3⟩)
    ?assign ?body ?done ?stop
  case assign =>
    rintro l' pre x W K ⟨⟨⟨hE, hS⟩, hL, hT⟩, hB⟩ hK
    gi_wp2_with (rw [Oper.semAt_eq _ _ _ (fun c h => by cases h)]; go_simp; try go_bits)
    have hbw := bel_al0 W (.cells #[.int .i64 (fO x.1), .slice (fA x.1) (fN x.1) (fC x.1), .bool (fB x.1)] 96)
    have hsz := hB.size
    have hl2 := hL.lt
    exact hK _ _ ((KeepsOthers.alloc _ _).from _) ⟨hbw.mono (by omega), hbw.block _ hT.lt⟩ ⟨⟨⟨(hbw.block _ (Array.getElem?_eq_some_iff.1 hE).1).trans hE, hS.alloc _⟩, hL.alloc _, hT.alloc _⟩, btA hB hbw⟩ ⟨W.heap.size, hl2, heap_alloc_new W _, rfl⟩
  case body =>
    rintro l' pre x a' W hl ⟨r, hr⟩ ⟨⟨⟨hE, hS⟩, hL, hT⟩, hB⟩ ⟨Bx, hBx, hX, rfl⟩ hlt
    have hx := x.2
    have p0 : (0 : Int) ≤ (x.1 : Int) := by omega
    have p1 : (x.1 : Int) < (n : Int) := by omega
    have HCS := Lib.hid (cutF_snoc l pre x)
    have HLN := Lib.hid (cutF_len l pre)
    have HLE := Lib.hid (cutF_le l pre)
    have HFX := Lib.hid (HF.out x.1)
    have HOX : Hid (0 ≤ fO x.1) := Lib.hid (by
      rw [HFX.out.1, List.getD_eq_getElem?_getD, List.getElem?_eq_getElem (by rw [← HN.out]; exact hx)]
      exact HO.out _ (List.getElem_mem _))
    obtain ⟨x, hxn⟩ := x
    dsimp only at hX p0 p1 HCS HFX HOX ⊢
    unfold cutS at HCS
    rw [← HFX.out.2, ← HFX.out.1] at HCS
    generalize (cutF l pre).1 = st at *
    generalize (cutF l pre).2 = q at *
    generalize fO x = o at *
    generalize fA x = ad at *
    generalize fN x = nd at *
    generalize fC x = cd at *
    generalize fB x = ct at *
    have cS := hS.cell
    have cL := hL.cell
    have fL := hL.frozen
    obtain ⟨x0, x1, x2⟩ := box3c hX
    have hsz : (i64s st).size = n := by rw [show (i64s st).size = st.length by simp [i64s]]; exact HLN.out
    have cE : W.cell? ⟨w.heap.size, x, none⟩ = some ((i64s st).getD x undef) := by rw [cell_of_row W w.heap.size x _ _ _ hE]; simp [hsz, hxn]
    have fE := frozen_of_row W w.heap.size x _ _ hE
    have hE2 : (W.setCell ⟨w.heap.size, x, none⟩ (.int .i64 (q : Int))).heap[w.heap.size]? = some (.cells (i64s (st.set x (q : Int))) 2 (0, 0)) := by
      rw [heap_setCell_same W w.heap.size x _ _ (.int .i64 (q : Int)) hE]
      congr 2
      apply Array.ext'
      simp [i64s, List.map_set]
    have hS2 : Boxed (W.setCell ⟨w.heap.size, x, none⟩ (.int .i64 (q : Int))) (w.heap.size + 1) 130 (.slice (some ⟨w.heap.size, 0, none⟩) n n) := (other1 (g := w.heap.size) (by omega)).trans hS
    have hL2 : Boxed (W.setCell ⟨w.heap.size, x, none⟩ (.int .i64 (q : Int))) (w.heap.size + 2) 2 (.int .i64 (q : Int)) := (other1 (g := w.heap.size) (by omega)).trans hL
    have hT2 : Boxed (W.setCell ⟨w.heap.size, x, none⟩ (.int .i64 (q : Int))) (w.heap.size + 3) 57 (.slice a n c) := (other1 (g := w.heap.size) (by omega)).trans hT
    have hX2 : (W.setCell ⟨w.heap.size, x, none⟩ (.int .i64 (q : Int))).heap[Bx]? = some (.cells #[.int .i64 o, .slice ad nd cd, .bool ct] 96 (0, 0)) := (other1 (g := w.heap.size) (by omega)).trans hX
    have hB2 := hB.setCell (p := ⟨w.heap.size, x, none⟩) (Nat.le_refl _) (.int .i64 (q : Int))
    obtain ⟨y0, y1, y2⟩ := box3c hX2
    have dL := hL2.cell
    have gL := hL2.frozen
    have HM : Hid (min (q : Int) o = ((min q o.toNat : Nat) : Int)) := Lib.hid (by have := HOX.out; omega)
    cases ct
    · gi_wp2_with (rw [Oper.semAt_eq _ _ _ (fun c h => by cases h)]; go_simp; try go_bits)
      refine ⟨(KeepsOthers.setCell _ _ _).from _, ⟨(Below.refl _ W).setCell (p := ⟨w.heap.size, x, none⟩) (Nat.le_refl _) _, other1 (g := w.heap.size) (by omega)⟩, ?_⟩
      dsimp only
      rw [HCS.out]
      exact ⟨⟨⟨hE2, hS2⟩, hL2, hT2⟩, hB2⟩
    · gi_wp2_with (rw [Oper.semAt_eq _ _ _ (fun c h => by cases h)]; go_simp; try go_bits)
      refine ⟨((KeepsOthers.setCell _ _ _).trans (KeepsOthers.setCell _ _ _)).from _, ⟨((Below.refl _ W).setCell (p := ⟨w.heap.size, x, none⟩) (Nat.le_refl _) _).setCell (p := ⟨w.heap.size + 2, 0, none⟩) (by show w.heap.size ≤ w.heap.size + 2; omega) _, (other1 (g := w.heap.size + 2) (by omega)).trans (other1 (g := w.heap.size) (by omega))⟩, ?_⟩
      dsimp only
      rw [HCS.out]
      have hL3 := hL2.set (.int .i64 (min (q : Int) o))
      rw [HM.out] at hL3 ⊢
      exact ⟨⟨⟨(other1 (g := w.heap.size + 2) (by omega)).trans hE2, (other1 (g := w.heap.size + 2) (by omega)).trans hS2⟩, hL3, (other1 (g := w.heap.size + 2) (by omega)).trans hT2⟩, hB2.setCell (p := ⟨w.heap.size + 2, 0, none⟩) (by show w.heap.size ≤ w.heap.size + 2; omega) _⟩
  case done =>
    rintro D ys W hD rfl ⟨⟨⟨hE, hS⟩, hL, hT⟩, hB⟩ hK
    have cS := hS.cell
    have hce : (cutF l (dn n n)).1 = endsL l := by
      have h := HN.out
      subst h
      exact cutF_all l
    rw [hce] at hE
    have HEE := Lib.hid hE
    have HBB := Lib.hid hB
    have HDD := Lib.hid hD
    clear hE hB hD hce hL hT STP
    go_wp2
    refine ⟨by simp, .inl ⟨_, _, rfl, run_takeDeferred hK, ?_⟩⟩
    have hsz := HZ1.out
    have hd2 := HDD.out
    refine ⟨_, results_tmp rfl _ _ _, ⟨_, rfl, ends_og _ ((World.putObj_heap_other (by omega)).trans HEE.out) (by rw [HN.out]; simp [endsL]) (Nat.le_refl _) (by have := HLEN.out; unfold maxLen; omega) fun z hz => ?_⟩, HBB.out.trans (belowK_b (w := w) (Nat.le_refl _) W D _ _ (by omega) hK rfl rfl)⟩
    unfold endsL at hz
    obtain ⟨j, -, rfl⟩ := List.mem_map.1 hz
    have := minC_le (l.drop (j + 1))
    omega
  case stop =>
    rintro D c pre W _ _ h _
    exact h.elim
end Go.Proofs.Ytpipgbjkkiheaaa.Gf
namespace Go.Proofs.Ytpipgbjkkiheaaa.Gf
open Go Go.Joins Go.ChangeShapes Go.WideShapes Go.ChangeAt Go.RowKit Go.Deep Go.Sort Go.Proofs.Ytpipgbjkkiheaaa.By Go.Proofs.Ytpipgbjkkiheaaa.Qt

/-- Bytes of the call's own (the library has another word of that name). -/
abbrev Own (w : World) (base : Nat) (v : Value) (l : List Nat) : Prop := Go.Proofs.Ytpipgbjkkiheaaa.By.Own w base v l
theorem run_min_ints3 (w : World) (ts : Array TypeId) (t : TypeId) (x y z : Int) : (Builtin.min_ ts t #[.int .i64 x, .int .i64 y, .int .i64 z]).run Try.prog w = .ok (.int .i64 (min (min x y) z)) w := by
  have e : ∀ x y : Int, (if y < x then y else x) = min x y := fun x y => by
    rw [Int.min_def]
    split <;> split <;> omega
  simp [Builtin.min_, Builtin.min2, e]
theorem min3_step {ops : Array Oper} {rest : List Oper} {dst : Option Tmp} {x1 x2 x3 : Operand} {pos : String} {after : Array Edge} {ty : TypeId} {ts : Array TypeId} {a : Act} {W : World} {Q : Exit → Act → World → Prop} {x y z : Int} {n : Nat}
    (h1 : a.eval x1 = .int .i64 x) (h2 : a.eval x2 = .int .i64 y) (h3 : a.eval x3 = .int .i64 z) (hn : min (min x y) z = (n : Int))
    (h : wpList Try.prog ops Q rest (a.put dst (.int .i64 (n : Int))) W) : wpList Try.prog ops Q (⟨dst, .call { callee := .builtin .min, args := #[x1, x2, x3], argTypes := ts }, ty, pos, after, none⟩ :: rest) a W := by
  refine wpList_plain rfl fun K hK => ?_
  have hr := run_min_ints3 W ts ty x y z
  rw [hn] at hr
  unfold Oper.wp execOp
  simp only [resolve, invoke, builtin, Sem.run_bind, Sem.run_pure, Result.andThen_ok, List.map_toArray, List.map_cons, List.map_nil, h1, h2, h3, hr]
  exact hK _ _ h
theorem run_sl8_from (W : World) (a : Option Addr) {n cap l : Nat} (h : l ≤ n) : (Instr.sliceAt 52 (.slice a n cap) (some (.int .i64 (l : Int))) none none).run Try.prog W = .ok (.slice (if cap = l then a else a.map (·.add l)) (n - l) (cap - l)) W := by
  simp [Instr.sliceAt, Instr.slice, Instr.sliceBounds, Instr.sliceBound, run_underlying Try.underlying52, asIntOf, h, Try.sizeOf5]
theorem run_sl8_mid (W : World) (a : Option Addr) {n cap l h : Nat} (h1 : l ≤ h) (h2 : h ≤ cap) : (Instr.sliceAt 52 (.slice a n cap) (some (.int .i64 (l : Int))) (some (.int .i64 (h : Int))) none).run Try.prog W = .ok (.slice (if cap = l then a else a.map (·.add l)) (h - l) (cap - l)) W := by
  simp [Instr.sliceAt, Instr.slice, Instr.sliceBounds, Instr.sliceBound, run_underlying Try.underlying52, asIntOf, h1, h2, Try.sizeOf5]
theorem own_bufL {w : World} {base : Nat} {v : Value} {L M : List Nat} (h : Own w base v L) (e : L = M) : Own w base v M := by rw [← e]; exact h
set_option maxRecDepth 100000 in
set_option maxHeartbeats 12800000 in
theorem ppart_any (s : ByteArray) (bv pv : Value) (b : List Nat) (p : List Wr) (off m en : Nat) (w : World) (sb : Sl w bv b) (sp : Rd (fun _ => True) w (.sl tyW) [pv] p) (hf : flB b p = true) (hm : off + m ≤ (apL b p).length) (hen : en = off + m) (hlen : p.length ≤ 90000) : Calls Try.prog 52 #[.agg #[.string s, bv, pv], .int .i64 (off : Int), .int .i64 (en : Int)] w (BA w (((apL b p).drop off).take m)) := by
  have hbnd : ∀ i, i < ((0, b, false) :: p : List Wr).length → 0 ≤ (((0, b, false) :: p : List Wr).getD i wr0).1 ∧ (((0, b, false) :: p : List Wr).getD i wr0).1 ≤ 1048576 ∧ (((0, b, false) :: p : List Wr).getD i wr0).2.1.length ≤ 1048576 := fun i hi => by
    unfold flB at hf
    rw [Bool.and_eq_true] at hf
    cases i with
    | zero => exact ⟨Int.le_refl _, by show (0 : Int) ≤ _; omega, by simpa using hf.1⟩
    | succ i =>
      have h := wOk_off (wOk_at hf.2 (i := i) (by simpa using hi))
      exact h
  have hle : (apL b p).length ≤ 1048576 := by
    unfold flB at hf
    rw [Bool.and_eq_true] at hf
    exact okP_le _ _ hf.2 (by simpa using hf.1)
  have HFIN := Lib.hid (bufL_all (off := off) (m := m) hf hm)
  have sb8 := sl_rd8 sb
  obtain ⟨ab, cb, rfl, -, -⟩ := sl_form sb
  obtain ⟨ap, cp, rfl, -, -⟩ := rd_sl sp
  have HB := Lib.hid sb8
  have HP := Lib.hid sp
  generalize ((apL b p).drop off).take m = RES at *
  obtain ⟨nb, hnb⟩ : ∃ z, z = b.length := ⟨_, rfl⟩
  obtain ⟨np, hnp⟩ : ∃ z, z = p.length := ⟨_, rfl⟩
  rw [← hnb] at HB ⊢
  rw [← hnp] at HP HFIN hlen ⊢
  have HNP := Lib.hid hnp
  have HLEN := Lib.hid hlen
  have HBND := Lib.hid hbnd
  have HEN := Lib.hid (And.intro hen (show en ≤ 1048576 by omega))
  have A1 := bel_al0 w (.cells #[.string s, .slice ab nb cb, .slice ap np cp] 59)
  have HX := Lib.hid (heap_alloc_new w (.cells #[.string s, .slice ab nb cb, .slice ap np cp] 59))
  have BX := Lib.hid A1
  clear sb sb8 sp hf hm hen hlen hbnd hnb hnp hle A1
  go_enter Try.func52, Try.ntmps52
  go_upto_region 1 with fail
  generalize w.alloc (.cells #[.string s, .slice ab nb cb, .slice ap np cp] 59) = W1 at *
  obtain ⟨x0, x1, x2⟩ := box3c HX.out
  have D1 := bel_al0 W1 (.cells #[.int .i64 0, .slice ab nb cb, .bool false] 96)
  have D2 := btA D1 (bel_al0 _ (.cells #[.slice (some ⟨W1.heap.size, 0, none⟩) 1 1, .slice ap np cp] 57))
  have hbox := heap_alloc2_new W1 (.cells #[.int .i64 0, .slice ab nb cb, .bool false] 96) (.cells #[.slice (some ⟨W1.heap.size, 0, none⟩) 1 1, .slice ap np cp] 57)
  have hsng : Rd (fun _ => True) (W1.alloc (.cells #[.int .i64 0, .slice ab nb cb, .bool false] 96)) (.sl tyW) [.slice (some ⟨W1.heap.size, 0, none⟩) 1 1] [(0, b, false)] := rd_single (t := tyW) (x := (0, b, false)) ⟨[_], [.slice ab nb cb, .bool false], rfl, ⟨⟨by show IntKind.i64.min ≤ (0 : Int); decide, by show (0 : Int) ≤ IntKind.i64.max; decide⟩, rfl⟩, [.slice ab nb cb], [.bool false], rfl, rd_below HB.out (btA BX.out D1), rfl⟩ (heap_alloc_new W1 _) trivial
  have CC := Lib.hid (pconcatW_any (W1.heap.size + 1) 2 [.slice (some ⟨W1.heap.size, 0, none⟩) 1 1, .slice ap np cp] [[(0, b, false)], p] (0, 0) _ hbox rfl rfl (fun i hi => by
    match i, hi with
    | 0, _ => exact rd_below hsng (bel_al0 _ _)
    | 1, _ => exact rd_below HP.out (btA BX.out D2)) (by decide) (by
      have h1 := HLEN.out
      have h2 := HNP.out
      simp
      omega))
  have hfl : ([[(0, b, false)], p] : List (List Wr)).flatten = (0, b, false) :: p := by simp
  rw [hfl] at CC
  have HX2 := Lib.hid ((D2.block _ (lt_of_some0 HX.out)).trans HX.out)
  have B2 := Lib.hid (btA BX.out D2)
  obtain ⟨-, -, x3⟩ := box3c ((D1.block _ (lt_of_some0 HX.out)).trans HX.out)
  clear D1 D2 hbox hsng hfl HX
  go_wp2_with fail
  refine CC.out.mono ?_
  rintro e w3 h3
  obtain ⟨⟨v3, rfl, hr3⟩, hb3⟩ := lo_slo h3
  have B3 := Lib.hid (btA B2.out hb3)
  have HX3 := Lib.hid ((hb3.block _ (lt_of_some0 HX2.out)).trans HX2.out)
  have R3 := Lib.hid (rd_mono (C := fun _ => True) hr3 fun _ _ _ => trivial)
  have HLL : Hid (((0, b, false) :: p : List Wr).length = np + 1) := Lib.hid (by rw [HNP.out]; rfl)
  generalize ((0, b, false) :: p : List Wr) = l at *
  obtain ⟨a3, c3, rfl, -, -⟩ := rd_sl hr3
  rw [HLL.out] at R3 ⊢
  have CU := Lib.hid (pcuts_any _ l w3 R3.out (by rw [HLL.out]; have := HLEN.out; omega) (fun x hx => by
    obtain ⟨i, hi, rfl⟩ := List.getElem_of_mem hx
    have h := (HBND.out i hi).1
    rwa [show l.getD i wr0 = l[i] by simp [List.getD, hi]] at h))
  clear hr3 hb3 h3 CC x0 x1 x2 x3 HX2 B2 BX
  go_wp2_with fail
  refine CU.out.mono ?_
  rintro e w4 ⟨⟨v4, rfl, ho4⟩, hb4⟩
  have B4 := Lib.hid (btA B3.out hb4)
  have R4 := Lib.hid (rd_below R3.out hb4)
  have E4 := Lib.hid (rd_mono (C := fun _ => True) (og_rdw ho4) fun _ _ _ => trivial)
  obtain ⟨a4, c4, rfl, -, -⟩ := og_form ho4
  have HEL : Hid ((endsL l).length = np + 1) := Lib.hid (by rw [show (endsL l).length = l.length by simp [endsL]]; exact HLL.out)
  rw [HEL.out] at E4 ⊢
  clear ho4 hb4 CU R3 HX3 B3
  have hs1 : wrap64 ((en : Int) - (off : Int)) = (m : Int) := by have := HEN.out; unfold wrap64; omega
  have hm1 : m ≤ 100000000 := by have := HEN.out; omega
  have OM := Lib.hid (own_made w4 (base := w4.heap.size) (n := m) (Nat.le_refl _) (by unfold maxLen; omega))
  have BM := Lib.hid (bel_al0 w4 (.cells (cellsOf (List.replicate m 0)).toArray 5))
  go_upto_region 4 with ((with_reducible refine make_step (n := m) ?_ hm1 ?_); first | exact rfl | exact congrArg (Value.int .i64) hs1)
  clear hs1 hm1
  obtain ⟨N, hN⟩ : ∃ z, z = np + 1 := ⟨_, rfl⟩
  rw [← hN] at HFIN HLL R4 E4 HEL ⊢
  have HNN : Hid (N ≤ 100000) := Lib.hid (by have := HLEN.out; omega)
  clear hN
  go_wp2_with fail
  go_loopw [30] (fun t wr => ∃ i : Nat, i ≤ N ∧ t = .int .i64 (i : Int) ∧ Hid (Own wr w4.heap.size (.slice (some ⟨w4.heap.size, 0, none⟩) m m) (bufL l i off m)) ∧ Hid (Below w4.heap.size w4 wr)) (fun t _ => N - (intOf t).toNat)
  case atStart => exact ⟨0, by omega, rfl, Lib.hid (by rw [bufL_zero]; exact OM.out), BM⟩
  case round =>
    obtain ⟨i, hi, rfl, HO, HBB⟩ := hrel
    have hnn := HNN.out
    by_cases hin : i < N
    · have l1 : decide ((i : Int) < (N : Int)) = true := decide_eq_true (by omega)
      have p0 : (0 : Int) ≤ (i : Int) := by omega
      have p1 : (i : Int) < (N : Int) := by omega
      have hip : i < l.length := by rw [HLL.out]; exact hin
      obtain ⟨b1, o1, c1, dv, hv, k0, k1, k2, -, hd⟩ := rd_wat (rd_below R4.out HBB.out) hip
      obtain ⟨rfl, -, -⟩ : a3 = some ⟨b1, o1, none⟩ ∧ N = l.length ∧ c3 = c1 := by simpa using hv
      obtain ⟨b2, o2, c2, hv2, -, -, -, he2⟩ := rd_cells (rd_below E4.out HBB.out) (by rw [HEL.out]; omega)
      obtain ⟨rfl, -, -⟩ : a4 = some ⟨b2, o2, none⟩ ∧ N = (endsL l).length ∧ c4 = c2 := by simpa using hv2
      obtain ⟨ce, ⟨-, rfl⟩, hce⟩ := he2 i _ (show (endsL l)[i]? = some ((minC (l.drop (i + 1)) : Nat) : Int) from by unfold endsL; rw [List.getElem?_map, List.getElem?_range hip]; rfl)
      have m0 := hce 0 (by decide)
      rw [show o2 + (i * (Ty.i .i64).n + 0) = o2 + i by show o2 + (i * 1 + 0) = _; omega, List.getElem?_cons_zero] at m0
      have SD := Lib.hid (rd8_sl hd)
      have HBI := Lib.hid (HBND.out i hip)
      have HML := Lib.hid (minC_le (l.drop (i + 1)))
      have HCP := Lib.hid (fun (a z : Nat) h1 h2 h3 h4 h5 h6 => bufL_copy (l := l) (i := i) (off := off) (m := m) (a := a) (z := z) h1 h2 h3 h4 h5 h6)
      have HSK := Lib.hid (fun h => bufL_skip (l := l) (i := i) (off := off) (m := m) h)
      have HLB := Lib.hid (bufL_length l i off m)
      generalize minC (l.drop (i + 1)) = me at *
      generalize bufL l i off m = BF at *
      obtain ⟨x, hx⟩ : ∃ z, z = l.getD i wr0 := ⟨_, rfl⟩
      rw [← hx] at k0 k2 SD HBI HCP HSK
      obtain ⟨offI, data, cut⟩ := x
      dsimp only at k0 k2 SD HBI HCP HSK
      obtain ⟨o, rfl⟩ : ∃ o : Nat, offI = (o : Int) := ⟨offI.toNat, by have := HBI.out.1; omega⟩
      rw [show ((o : Int)).toNat = o from Int.toNat_natCast o] at HCP HSK
      obtain ⟨ad, cd, rfl, hcd1, -⟩ := sl_form SD.out
      obtain ⟨nd, hnd⟩ : ∃ z, z = data.length := ⟨_, rfl⟩
      rw [← hnd] at SD k1 HBI HCP HSK hcd1
      have HND := Lib.hid hnd
      have HCD := Lib.hid hcd1
      have BA1 := Lib.hid (bel_al0 wr (.cells #[.int .i64 (o : Int), .slice ad nd cd, .bool cut] 96))
      have HB1 := Lib.hid (heap_alloc_new wr (.cells #[.int .i64 (o : Int), .slice ad nd cd, .bool cut] 96))
      have HI := Lib.hid hin
      have B7 := Lib.hid (HBB.out.trans (BA1.out.mono HBB.out.size))
      have SD7 := Lib.hid (sl_below SD.out BA1.out)
      have HO7 := Lib.hid (own_below' HO.out BA1.out)
      have M7 : Hid ((wr.alloc (.cells #[.int .i64 (o : Int), .slice ad nd cd, .bool cut] 96)).cell? ⟨b2, o2 + i, none⟩ = some (.int .i64 (me : Int))) := Lib.hid ((BA1.out.cell (p := ⟨b2, o2 + i, none⟩) (cell_lt m0)).trans m0)
      have hfr : max (o : Int) (off : Int) = ((max o off : Nat) : Int) := by omega
      obtain ⟨fr, hfr2⟩ : ∃ z, z = max o off := ⟨_, rfl⟩
      rw [← hfr2] at hfr
      have HFR := Lib.hid hfr2
      obtain ⟨tt, htt⟩ : ∃ z, z = min (min (o + nd) me) en := ⟨_, rfl⟩
      have HTT := Lib.hid htt
      have HMN : Hid (min (min ((o : Int) + (nd : Int)) (me : Int)) (en : Int) = (tt : Int)) := Lib.hid (by omega)
      have HFRZ := Lib.hid hfr
      clear hip hv hd hx hnd hv2 hce he2 m0 hcd1 hfr2 htt hfr hin
      have x0 := (box3c HB1.out).1
      go_upto_region 8 with fail
      rw [HFRZ.out]
      generalize wr.alloc (.cells #[.int .i64 (o : Int), .slice ad nd cd, .bool cut] 96) = W7 at *
      clear x0 k0 k1 k2 l1 p0 p1
      obtain ⟨y0, y1, y2⟩ := box3c HB1.out
      have c0 := cells_regrown y0
      have d1 := cells_regrown y1
      have e1 := cells_regrown M7.out
      have p0 : (0 : Int) ≤ (i : Int) := by omega
      have p1 : (i : Int) < (N : Int) := by have := HI.out; omega
      have hw : wrap64 ((o : Int) + (nd : Int)) = (o : Int) + (nd : Int) := by have := HBI.out; clear p0 p1; unfold wrap64; omega
      have hw2 : IntKind.i64.wrap ((o : Int) + (nd : Int)) = (o : Int) + (nd : Int) := IntWalk.i64_in _ (by have := HBI.out; clear hw p0 p1; omega)
      clear y0 y1 y2
      refine wp_region_bl_tail 11 (by kernel_rfl) (by kernel_rfl) ?_
      simp only [List.take_succ_cons, List.take_zero, List.drop_succ_cons, List.drop_zero]
      repeat (quiet_step (fail))
      refine wpQuiet_nil ?_
      intro w8 hb8
      have HB8 := Lib.hid ((hb8.block _ (lt_of_some0 HB1.out)).trans HB1.out)
      have SD8 := Lib.hid (sl_below SD7.out hb8)
      have HO8 := Lib.hid (own_below' HO7.out hb8)
      have B8 := Lib.hid (B7.out.trans (hb8.mono B7.out.size))
      clear hb8 c0 d1 e1 p0 p1 hw hw2 HB1 SD7 HO7 B7 M7
      have hmn := HMN.out
      refine min3_step rfl rfl rfl hmn ?_
      clear hmn
      by_cases hlt : fr < tt
      · have l2 : decide ((fr : Int) < (tt : Int)) = true := decide_eq_true (by omega)
        have HLT := Lib.hid hlt
        clear hlt
        go_upto_region 10 with fail
        clear l2
        obtain ⟨q1, hq1⟩ : ∃ z, z = fr - off := ⟨_, rfl⟩
        obtain ⟨q2, hq2⟩ : ∃ z, z = fr - o := ⟨_, rfl⟩
        obtain ⟨q3, hq3⟩ : ∃ z, z = tt - o := ⟨_, rfl⟩
        have HQ := Lib.hid (And.intro hq1 (And.intro hq2 hq3))
        have t1 : IntKind.i64.wrap ((fr : Int) - (off : Int)) = (q1 : Int) := by have := HFR.out; have := HTT.out; have := HEN.out; have := HBI.out; rw [IntWalk.i64_in _ (by omega)]; omega
        have t2 : IntKind.i64.wrap ((fr : Int) - (o : Int)) = (q2 : Int) := by have := HFR.out; have := HTT.out; have := HEN.out; have := HBI.out; clear t1; rw [IntWalk.i64_in _ (by omega)]; omega
        have t3 : IntKind.i64.wrap ((tt : Int) - (o : Int)) = (q3 : Int) := by have := HFR.out; have := HTT.out; have := HEN.out; have := HBI.out; have := HLT.out; clear t1 t2; rw [IntWalk.i64_in _ (by omega)]; omega
        have T := Lib.hid (And.intro t1 (And.intro t2 t3))
        clear t1 t2 t3 hq1 hq2 hq3
        have HX1 : Hid (q1 < m ∧ q2 + (tt - fr) = q3 ∧ q2 ≤ q3 ∧ q3 ≤ nd ∧ q1 + (tt - fr) ≤ m ∧ q1 + (tt - fr) = tt - off ∧ 1 ≤ tt - fr ∧ tt - fr ≤ m - q1) := Lib.hid (by have := HFR.out; have := HTT.out; have := HEN.out; have := HBI.out; have := HLT.out; have := HQ.out; omega)
        have r1 : ∀ W, (Instr.sliceAt 52 (.slice (some ⟨w4.heap.size, 0, none⟩) m m) (some (.int .i64 (q1 : Int))) none none).run Try.prog W = .ok (.slice (some ⟨w4.heap.size, q1, none⟩) (m - q1) (m - q1)) W := fun W => by
          have h1 := HX1.out.1
          rw [run_sl8_from W _ (show q1 ≤ m by omega), if_neg (by omega)]
          rw [show (some (⟨w4.heap.size, 0, none⟩ : Addr)).map (·.add q1) = some ⟨w4.heap.size, q1, none⟩ from by simp [Addr.add]; intro h; omega]
        have hsub := sl_sub SD8.out (lo := q2) (k := tt - fr) (by have := HX1.out; omega)
        obtain ⟨a9, ha9⟩ : ∃ z, z = (if cd = q2 then ad else ad.map (·.add q2)) := ⟨_, rfl⟩
        obtain ⟨k9, hk9⟩ : ∃ z, z = tt - fr := ⟨_, rfl⟩
        obtain ⟨c9, hc9⟩ : ∃ z, z = cd - q2 := ⟨_, rfl⟩
        have r2 : ∀ W, (Instr.sliceAt 52 (.slice ad nd cd) (some (.int .i64 (q2 : Int))) (some (.int .i64 (q3 : Int))) none).run Try.prog W = .ok (.slice a9 k9 c9) W := fun W => by
          have h1 := HX1.out
          have h2 := HCD.out
          rw [run_sl8_mid W _ (show q2 ≤ q3 by omega) (show q3 ≤ cd by omega), ha9, hc9, show q3 - q2 = k9 by omega]
        rw [← ha9, ← hc9, ← hk9] at hsub
        have HSUB := Lib.hid hsub
        have HK9 := Lib.hid hk9
        clear ha9 hk9 hc9 hsub
        obtain ⟨y0, y1, y2⟩ := box3c HB8.out
        have c0 := cells_regrown y0
        have d1 := cells_regrown y1
        have t1 := T.out.1
        have t2 := T.out.2.1
        have t3 := T.out.2.2
        clear y0 y1 y2
        refine wp_region_bl_tail 16 (by kernel_rfl) (by kernel_rfl) ?_
        simp only [List.take_succ_cons, List.take_zero, List.drop_succ_cons, List.drop_zero]
        repeat (quiet_step (fail))
        refine wpQuiet_nil ?_
        intro w9 hb9
        have HO9 := Lib.hid (own_below' HO8.out hb9)
        have SU9 := Lib.hid (sl_below HSUB.out hb9)
        have B9 := Lib.hid (B8.out.trans (hb9.mono B8.out.size))
        clear hb9 c0 d1 t1 t2 t3 r1 r2
        have hx1 := HX1.out
        have hlb := HLB.out
        refine copy_into (n := m) (off := q1) (dl := m - q1) (dc := m - q1) (k := k9) rfl rfl HO9.out hlb SU9.out (by have h2 := HK9.out; have h3 := HND.out; rw [List.length_take, List.length_drop]; omega) (by have h2 := HK9.out; omega) (by have h2 := HK9.out; omega) (by have h2 := HK9.out; omega) ?_
        intro z w10 ho10 hg10
        have O10 := Lib.hid ho10
        have B10 := Lib.hid (B9.out.grown hg10 B9.out.size (fun k hk => by cases hk; exact Nat.le_refl _))
        clear hx1 hlb ho10 hg10
        go_wp2
        go_roundw
        case rel =>
          have hi2 := HI.out
          refine ⟨i + 1, by omega, by go_num, Lib.hid ?_, B10⟩
          have h1 := HX1.out
          have h2 := HK9.out
          have h3 := HQ.out
          have hc := HCP.out fr tt (by have := HFR.out; omega) (by have := HTT.out; have := HEN.out; omega) HLT.out (by have := HFR.out; omega) (by have := HTT.out; omega) (fun p g1 g2 => by have := HFR.out; have := HTT.out; have := HEN.out; omega)
          rw [hc]
          have h4 := O10.out
          rw [show q1 + k9 = tt - off by omega, h3.1, h3.2.1, h2] at h4
          exact h4
        case measure =>
          have hi2 := HI.out
          simp [intOf]
          omega
      · have l2 : decide ((fr : Int) < (tt : Int)) = false := decide_eq_false (by omega)
        have HLT := Lib.hid hlt
        clear hlt
        go_wp2
        go_roundw
        case rel =>
          have hi2 := HI.out
          refine ⟨i + 1, by omega, by go_num, Lib.hid ?_, B8⟩
          rw [HSK.out fun p h1 h2 h3 => by have := HFR.out; have := HTT.out; have := HEN.out; have := HLT.out; omega]
          exact HO8.out
        case measure =>
          have hi2 := HI.out
          simp [intOf]
          omega
    · obtain rfl : i = N := by omega
      have l1 : decide ((i : Int) < (i : Int)) = false := decide_eq_false (by omega)
      rw [HFIN.out] at HO
      go_wp2
      go_ret
      exact ⟨⟨_, rfl, own_weak0 HO.out B4.out.size⟩, B4.out.trans (HBB.out.mono B4.out.size)⟩
end Go.Proofs.Ytpipgbjkkiheaaa.Gf
