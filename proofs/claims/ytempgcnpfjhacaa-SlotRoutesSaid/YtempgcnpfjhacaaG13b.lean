/- What is proved here: slices.Backward over items (program), apart of no items. -/
import Derived.Test.YtempgcnpfjhacaaG13a
namespace Go.Proofs.Ytempgcnpfjhacaa.Gf
open Go Go.RowKit Go.Shelf

/-- The indices from the last one down, k of them. -/
def dn (n : Nat) : Nat → List { x : Nat // x < n }
  | 0 => []
  | k + 1 => if h : n - 1 - k < n then dn n k ++ [⟨n - 1 - k, h⟩] else dn n k
theorem dn_succ {n k : Nat} (h : k < n) : dn n (k + 1) = dn n k ++ [⟨n - 1 - k, by omega⟩] := by
  rw [dn, dif_pos (by omega)]
theorem dn_length {n : Nat} : ∀ k, k ≤ n → (dn n k).length = k
  | 0, _ => rfl
  | k + 1, h => by rw [dn_succ (by omega), List.length_append, dn_length k (by omega)]; rfl
/-- What a round keeps: what lay below n₀, and the box. -/
def KpX (n₀ Bs : Nat) (W W' : World) : Prop := Below n₀ W W' ∧ W'.heap[Bs]? = W.heap[Bs]?
theorem KpX.trans {n₀ Bs : Nat} {A B C : World} (h : KpX n₀ Bs A B) (h2 : KpX n₀ Bs B C) : KpX n₀ Bs A C := ⟨h.1.trans h2.1, h2.2.trans h.2⟩
theorem bel_al0 (w : World) (o : Obj) : Below w.heap.size w (w.alloc o) := (Below.refl _ _).alloc (Nat.le_refl _) _
theorem btA {w w1 w2 : World} (h : Below w.heap.size w w1) (h2 : Below w1.heap.size w1 w2) : Below w.heap.size w w2 := h.trans (h2.mono h.size)
theorem other1 {W : World} {g o b : Nat} {v : Value} (hb : b ≠ g) : (W.setCell ⟨g, o, none⟩ v).heap[b]? = W.heap[b]? := heap_setCell_other _ _ _ _ hb
set_option maxRecDepth 100000 in
set_option maxHeartbeats 4000000 in
theorem pbackI_in (F : Fence) (n : Nat) (h8 : F.fn 56) (hro : F.round = none) (hn : 1 ≤ n) (l Bs n₀ b off len cap : Nat) (a : Option Addr) (A D C E : Nat → Value) (hreach : len ≤ 100000) (ha : 0 < len → a = some ⟨b, off, none⟩ ∧ b < n₀) (J Jx : List { x : Nat // x < len } → World → Prop)
    (hY : ∀ pre x W, J pre W → pre.length < len → YieldAt F (n - 1) Try.prog l #[.int .i64 (x.1 : Int), .agg #[A x.1, D x.1, C x.1, E x.1]] W fun e W' =>
      (e = .returned (.bool true) ∧ J (pre ++ [x]) W' ∧ KpX n₀ Bs W W') ∨ (e = .returned (.bool false) ∧ Jx (pre ++ [x]) W'))
    (W : World) (hBs : W.heap[Bs]? = some (.cells #[.slice a len cap] 41 (0, 0))) (hc : ∀ j, j < len → W.cell? ⟨b, off + j * 4, none⟩ = some (A j) ∧ W.cell? ⟨b, off + j * 4 + 1, none⟩ = some (D j) ∧ W.cell? ⟨b, off + j * 4 + 2, none⟩ = some (C j) ∧ W.cell? ⟨b, off + j * 4 + 3, none⟩ = some (E j)) (h0 : J [] W) :
    CallsIn F n Try.prog 56 #[.func (.yield l) #[] #[], .pointer (some ⟨Bs, 0, none⟩)] W fun e W' => (∃ v, e = .returned v) ∧
      ((∃ ys, ys = dn len len ∧ J ys W') ∨ (∃ pre, (∃ k, k ≤ len ∧ pre = dn len k) ∧ Jx pre W')) := by
  refine callsIn_of_wp Try.func56 rfl h8 ?_ hro
  simp only [Try.ntmps56, List.size_toArray, List.length_cons, List.length_nil, Nat.reduceAdd, Nat.reduceSub, Array.replicate_succ, Array.replicate_zero, List.push_toArray, List.append_toArray, List.nil_append, List.cons_append]
  have hcb := cell_of_row W Bs 0 _ _ _ hBs
  gi_wp2
  gi_loopw [3] (fun i wr => ∃ k : Nat, k ≤ len ∧ i = .int .i64 ((len : Int) - 1 - (k : Int)) ∧ J (dn len k) wr ∧ KpX n₀ Bs W wr)
    (fun i _ => ((intOf i) + 1).toNat)
  case atStart => exact ⟨0, Nat.zero_le _, by simp, h0, Below.refl _ _, rfl⟩
  case round =>
    obtain ⟨k, hk, rfl, hJs, hnx⟩ := hrel
    have hcw := cell_of_row wr Bs 0 _ _ _ (hnx.2.trans hBs)
    by_cases hlt : k < len
    · obtain ⟨rfl, hb⟩ := ha (by omega)
      obtain ⟨j, hj⟩ : ∃ j, j = len - 1 - k := ⟨_, rfl⟩
      have hjz : (len : Int) - 1 - (k : Int) = (j : Int) := by omega
      have hjl : j < len := by omega
      obtain ⟨fn, tmps, assign, body, hy, hR⟩ := hY _ ⟨j, hjl⟩ wr hJs (by rw [dn_length k (by omega)]; exact hlt)
      dsimp only at hy
      obtain ⟨c0, c1, c2, c3⟩ := hc j hjl
      replace c0 := (hnx.1.cell (p := ⟨b, off + j * 4, none⟩) hb).trans c0
      replace c1 := (hnx.1.cell (p := ⟨b, off + j * 4 + 1, none⟩) hb).trans c1
      replace c2 := (hnx.1.cell (p := ⟨b, off + j * 4 + 2, none⟩) hb).trans c2
      replace c3 := (hnx.1.cell (p := ⟨b, off + j * 4 + 3, none⟩) hb).trans c3
      have p0 : (0 : Int) ≤ (j : Int) := by omega
      have p1 : (j : Int) < (len : Int) := by omega
      rw [hjz]
      have HJ := Lib.hid hj
      clear hj hjz
      gi_wp2
      refine hR.mono ?_
      rintro e W3 (⟨rfl, hJ3, hk3⟩ | ⟨rfl, hJx3⟩)
      · gi_wp2
        go_roundw
        case rel => exact ⟨k + 1, by omega, by have hj := HJ.out; first | (simp; omega) | (congr 1; omega), by have hj := HJ.out; rw [dn_succ hlt]; subst hj; exact hJ3, hnx.trans hk3⟩
        case measure => have hj := HJ.out; simp only [intOf]; omega
      · gi_wp2
        refine bodyPost_ret (results_none rfl _ _ _) rfl ?_
        exact ⟨⟨_, rfl⟩, .inr ⟨_, ⟨k + 1, by omega, by have hj := HJ.out; rw [dn_succ hlt]; subst hj; rfl⟩, hJx3⟩⟩
    · obtain rfl : k = len := by omega
      have hjz : (k : Int) - 1 - (k : Int) = -1 := by omega
      rw [hjz]
      gi_wp2
      go_end0
      exact ⟨⟨_, rfl⟩, .inl ⟨_, rfl, hJs⟩⟩
set_option maxRecDepth 100000 in
theorem pbackI_any (a : Option Addr) (len cap : Nat) (w : World) : Calls Try.prog 39 #[.slice a len cap] w fun e w' => e = .returned (.func (.func 56) #[] #[.pointer (some ⟨w.heap.size, 0, none⟩)]) ∧ w' = w.alloc (.cells #[.slice a len cap] 41) := by
  have hmf : ∀ (fn : Fn) (first cap : Array Value) (w : World), (Instr.makeFunc fn first cap).run Try.prog w = .ok (.func fn first cap) w := fun _ _ _ _ => rfl
  go_enter Try.func39, Try.ntmps39
  go_wp2
  go_ret
  exact ⟨rfl, rfl⟩
theorem pbackI_stops (F : Fence) (n : Nat) (h8 : F.fn 56) (hro : F.round = none) (hn : 1 ≤ n) (Bs n₀ b off len cap : Nat) (a : Option Addr) (A D C E : Nat → Value) (hreach : len ≤ 100000) (ha : 0 < len → a = some ⟨b, off, none⟩ ∧ b < n₀) (w : World) (hn₀ : n₀ ≤ w.heap.size)
    (hBs : w.heap[Bs]? = some (.cells #[.slice a len cap] 41 (0, 0))) (hc : ∀ j, j < len → w.cell? ⟨b, off + j * 4, none⟩ = some (A j) ∧ w.cell? ⟨b, off + j * 4 + 1, none⟩ = some (D j) ∧ w.cell? ⟨b, off + j * 4 + 2, none⟩ = some (C j) ∧ w.cell? ⟨b, off + j * 4 + 3, none⟩ = some (E j)) :
    SeqStopsK F n Try.prog 56 #[.pointer (some ⟨Bs, 0, none⟩)] (fun x : { x : Nat // x < len } => #[Value.int .i64 (x.1 : Int), .agg #[A x.1, D x.1, C x.1, E x.1]]) (KpX n₀ Bs) (fun ys => ys = dn len len)
      (fun pre => ∃ k, k ≤ len ∧ pre = dn len k) len w := fun l J Jx W hW _ _ hY h0 => by
  have hlt := (Array.getElem?_eq_some_iff.1 hBs).1
  refine pbackI_in F n h8 hro hn l Bs n₀ b off len cap a A D C E hreach ha J Jx hY W ((hW.block Bs hlt).trans hBs) (fun j hj => ?_) h0
  have hb := (ha (by omega)).2
  obtain ⟨c0, c1, c2, c3⟩ := hc j hj
  exact ⟨(hW.cell (p := ⟨b, off + j * 4, none⟩) (by show b < _; omega)).trans c0, (hW.cell (p := ⟨b, off + j * 4 + 1, none⟩) (by show b < _; omega)).trans c1, (hW.cell (p := ⟨b, off + j * 4 + 2, none⟩) (by show b < _; omega)).trans c2, (hW.cell (p := ⟨b, off + j * 4 + 3, none⟩) (by show b < _; omega)).trans c3⟩
/-- A result that is one boxed variable of one cell. -/
theorem results_c1 {P : Program} {fn : Func} {p : Tmp} {T : TypeId} {tmps : Array Value} {w : World} {g : Nat} {v : Value} (h : fn.results = #[.cell p T]) (hp : tmps.getD p undef = .pointer (some ⟨g, 0, none⟩)) (ha : (isAgg T).run P w = .ok false w) (hc : w.cell? ⟨g, 0, none⟩ = some v) : (results fn tmps).run P w = .ok v w := by
  have hp' : tmps[p]?.getD undef = .pointer (some ⟨g, 0, none⟩) := by simpa using hp
  simp [results, h, hp', asAddr, loadVar, ha, hc]
theorem agg_bool (w : World) : (isAgg 4).run Try.prog w = .ok false w := by kernel_rfl
set_option maxRecDepth 100000 in
set_option maxHeartbeats 6400000 in
theorem papart_nil (v : Value) (sz : Int) (w : World) (sl : It w v []) : Calls Try.prog 28 #[v, .int .i64 sz] w fun e w' => e = .returned (.bool true) ∧ Below w.heap.size w w' := by
  obtain ⟨a, c, rfl, -, -⟩ := it_form sl
  have q0 := bel_al0 w (.cells #[.bool false] 4)
  have HG := Lib.hid (heap_alloc_new w (.cells #[.bool false] 4))
  have SL := Lib.hid (it_below sl q0)
  have B0 := Lib.hid q0
  have PCL : Hid (Calls Try.prog 35 #[.slice a 0 c] (w.alloc (.cells #[.bool false] 4)) fun e w' => (∃ a2 c2, e = .returned (.slice a2 0 c2)) ∧ Below (w.alloc (.cells #[.bool false] 4)).heap.size (w.alloc (.cells #[.bool false] 4)) w') := by
    cases a with
    | none => exact (pclone_none c _).mono fun e w' ⟨h1, h2⟩ => ⟨⟨_, _, h1⟩, by rw [← h2]; exact Below.refl _ _⟩
    | some p => exact (pcloneT_any p c [] _ SL.out (by decide)).mono fun e w' ⟨⟨v, h1, h2⟩, h3⟩ => ⟨by
        obtain ⟨a2, c2, rfl, -, -⟩ := owT_form h2
        exact ⟨a2, c2, h1⟩, h3⟩
  clear sl q0 SL
  refine (callsIn_wide (n := 4)).1 ?_
  refine callsIn_of_wp_marks Try.func28 rfl trivial ?_ rfl
  refine wpIn_wide.2 ?_
  simp only [Try.ntmps28, List.size_toArray, List.length_cons, List.length_nil, Nat.reduceAdd, Nat.reduceSub, Array.replicate_succ, Array.replicate_zero, List.push_toArray, List.append_toArray, List.nil_append, List.cons_append]
  go_upto_region 1 with fail
  generalize hw0 : w.alloc (.cells #[.bool false] 4) = W0 at *
  go_wp2_with fail
  refine PCL.out.mono ?_
  rintro e W1 ⟨⟨a2, c2, rfl⟩, hb⟩
  have HG1 := Lib.hid ((hb.block _ (lt_of_some HG.out)).trans HG.out)
  have B1 := Lib.hid (btA B0.out hb)
  clear hb PCL HG B0 hw0
  go_wp2_with fail
  refine (psort_0 a2 c2 _ W1).mono ?_
  rintro e W1' ⟨rfl, rfl⟩
  go_upto_region 4 with fail
  have hb := bel_al0 W1 (.cells #[.int .i64 sz] 2)
  have HG2 := Lib.hid ((hb.block _ (lt_of_some HG1.out)).trans HG1.out)
  have B2 := Lib.hid (btA B1.out hb)
  clear hb HG1 B1
  generalize W1.alloc (.cells #[.int .i64 sz] 2) = W2 at *
  go_wp2_with fail
  refine (pbackI_any a2 0 c2 W2).mono ?_
  rintro e W3 ⟨rfl, hW3⟩
  have hA1 := bel_al0 W2 (.cells #[.slice a2 0 c2] 41)
  have hbs := heap_alloc_new W2 (.cells #[.slice a2 0 c2] 41)
  rw [← hW3] at hA1 hbs
  have HG3 := Lib.hid ((hA1.block _ (lt_of_some HG2.out)).trans HG2.out)
  have B3 := Lib.hid (btA B2.out hA1)
  have hlt3 := lt_of_some hbs
  have hgz := lt_of_some HG3.out
  clear hW3 hA1 HG2 B2
  generalize W2.heap.size = bs at *
  have STP := pbackI_stops Fence.wide 3 trivial rfl (by decide) bs w.heap.size 0 0 0 c2 a2 (fun _ => undef) (fun _ => undef) (fun _ => undef) (fun _ => undef) (by decide) (fun h => absurd h (by decide)) W3 (by omega) hbs (fun j hj => absurd hj (by omega))
  have HLT := Lib.hid (And.intro hlt3 hgz)
  clear hbs hlt3 hgz
  go_wp2_with fail
  refine (wpIn_wide (n := 4)).1 ?_
  refine wpIn_rangeFunc_ownH (n := 4) rfl (by decide) (gf := 56) (lb := #[.pointer (some ⟨bs, 0, none⟩)]) rfl trivial (enters_of Try.func56 (by kernel_rfl) rfl)
    STP (fun h h2 => KpX.trans h h2) (fun W l o o' hl ho hoc _ => ⟨belowK_b (n₀ := w.heap.size) (w := W3) (by have := HLT.out; omega) W l o o' hl ho hoc (by assumption), World.putObj_heap_other (by have := HLT.out; omega)⟩) (Below.refl _ _) (fun _ => rfl)
    (fun _ W => Boxed W w.heap.size 4 (.bool false) ∧ Below w.heap.size w W)
    (fun _ _ _ => False)
    (OwnFrom.and (Go.Own.from (boxed_own _ _ (fun _ => .bool false)) _) (ownFrom_below (Nat.le_refl _) (by have := HLT.out; omega)))
    (fun _ _ _ _ _ hs _ _ => hs)
    ⟨HG3.out, B3.out⟩
    (fun _ _ _ => True)
    (fun x a' _ X Y row hs hg hr => trivial)
    ?assign ?body ?done ?stop
  case assign => exact fun l' pre x => absurd x.2 (by omega)
  case body => exact fun l' pre x => absurd x.2 (by omega)
  case stop =>
    rintro D c pre W _ _ h _
    exact h.elim
  case done =>
    rintro D ys W hD rfl ⟨hG, hB⟩ hK
    have fG := hG.frozen
    have cG := hG.cell
    have HDD := Lib.hid hD
    have HGG := Lib.hid hG
    have HBB := Lib.hid hB
    clear hG hB hD STP
    go_wp2
    have hsz := HLT.out
    have hd2 := HDD.out
    have hK2 : (W.setCell ⟨w.heap.size, 0, none⟩ (.bool true)).heap[D]? = some (.deferred (some [])) := (other1 (by omega)).trans hK
    refine ⟨by simp, .inl ⟨_, _, rfl, run_takeDeferred hK2, ?_⟩⟩
    have hsz2 := HBB.out.size
    have hx : ((W.setCell ⟨w.heap.size, 0, none⟩ (.bool true)).putObj D (.deferred none)).heap[w.heap.size]? = some (.cells #[.bool true] 4 (0, 0)) := (World.putObj_heap_other (by omega)).trans (HGG.out.set (.bool true))
    have hb1 := HBB.out.setCell (p := ⟨w.heap.size, 0, none⟩) (Nat.le_refl _) (.bool true)
    exact ⟨_, results_c1 (T := 4) rfl rfl (agg_bool _) (cell_of_row _ _ 0 _ _ _ hx), rfl, hb1.trans (belowK_b (w := w) (Nat.le_refl _) _ D _ _ (by omega) hK2 rfl rfl)⟩
end Go.Proofs.Ytempgcnpfjhacaa.Gf
