/- What is proved here: maps.Values, slices.AppendSeq and slices.Collect of a map of items: all its items come, each once, in some order. -/
import Derived.Test.YtbmlpafbdbhaiaaGreatDoorGm1
import Derived.Test.YtbmlpafbdbhaiaaGreatDoorGs3
import Derived.Deep.WholeRow
import Derived.RangeFuncNested
import Derived.RangeFuncBound
import Derived.RangeFuncCalls
import Derived.RangeFuncLeaves
import Derived.RangeFuncBox
import Derived.Maps.OwnIn
import Derived.Shelf.Abstract
import Derived.Shelf.RegionOpen
import Derived.OwnWalkIn
import Derived.TacticsInMore
import Derived.LoopNIn
import Derived.LoopIn
namespace Go.Proofs.YtbmlpafbdbhaiaaGreatDoor.Gf
open Go Go.Joins Go.ChangeShapes Go.WideShapes Go.ChangeAt Go.RowKit Go.Deep Go.Shelf Go.Proofs.YtbmlpafbdbhaiaaGreatDoor.By Go.Proofs.YtbmlpafbdbhaiaaGreatDoor.Qt
attribute [local go_sem] Oper.semAt_some
set_option maxRecDepth 100000
set_option maxHeartbeats 204800000
theorem infoI4 : (Tryz.prog.info? 56).map (·.size) = some 4 := by kernel_rfl
theorem tx_one (x : Itm) : (#[.int .u64 (x.key : Int), .int .u32 (x.ck : Int), .int .i64 x.off, .int .i64 x.sz] : Array Value).all (·.oneCell') = true := by simp [show ∀ (k : IntKind) (z : Int), (Value.int k z).oneCell' = true from fun _ _ => rfl]
theorem wpListIn_store_rowM {F : Fence} {n : Nat} {P : Program} {ops : Array Oper} {rest : List Oper} {o : Oper} {a : Act} {w : World} {Q : Exit → Act → World → Prop} (hgd : o.guard = none) (ty : TypeId) (x y : Operand) (ho : o.op = .store ty x y)
 (g : Nat) (cells : Array Value) (hx : a.eval x = .pointer (some ⟨g, 0, none⟩)) (hy : a.eval y = .agg cells) (t : TypeId) (old : Array Value) (hg : w.heap[g]? = some (.cells old t (0, 0))) (hi : (P.info? ty).map (·.size) = some cells.size) (hold : old.size = cells.size) (h1 : cells.all (·.oneCell') = true)
 (h : wpListIn F n P ops Q rest (a.put o.dst undef) (w.setRow g cells)) : wpListIn F n P ops Q (o :: rest) a w := by
 refine wpListIn_plain hgd fun K hK => ?_
 refine ⟨fun f hf => (by unfold Oper.about at hf; rw [ho] at hf; cases hf), ?_⟩
 rw [Oper.semAt_eq _ _ _ (fun c => by rw [ho]; intro h; cases h)]
 unfold execOp
 simp only [ho, hx, hy, Instr.storeAt, Instr.sureAddr, Sem.run_bind, Sem.run_pure, Result.andThen_ok, run_storeVar_row w g t ty old cells hg hi hold h1]
 exact hK _ _ h
theorem storeTIn {F : Fence} {n : Nat} {ops : Array Oper} {rest : List Oper} {x y : Operand} {pos : String} {after : Array Edge} {ty : TypeId} {a : Act} {w : World} {Q : Exit → Act → World → Prop}
 (g : Nat) (old cs : Array Value) (hx : a.eval x = .pointer (some ⟨g, 0, none⟩)) (hy : a.eval y = .agg cs) (hg : w.heap[g]? = some (.cells old 56 (0, 0))) (ho : old.size = 4) (hs : cs.size = 4) (h1 : cs.all (·.oneCell') = true)
 (h : wpListIn F n Tryz.prog ops Q rest a (w.setRow g cs)) : wpListIn F n Tryz.prog ops Q (⟨none, .store 56 x y, ty, pos, after, none⟩ :: rest) a w :=
 wpListIn_store_rowM rfl 56 x y rfl g cs hx hy 56 old hg (by rw [infoI4, hs]) (by omega) h1 h
theorem app_it1In {F : Fence} {nF : Nat} {ops : Array Oper} {rest : List Oper} {dst : Option Tmp} {s x : Operand} {pos : String} {after : Array Edge} {ty : TypeId} {a : Act} {W : World} {Q : Exit → Act → World → Prop}
 {base g c : Nat} {v : Value} {L : List Itm} {y : Itm} (hs : a.eval s = v) (hy : a.eval x = .slice (some ⟨g, 0, none⟩) 1 c) (hv : OwT W base v L) (hx : It W (.slice (some ⟨g, 0, none⟩) 1 c) [y]) (hlm : L.length + 1 ≤ 100000000) (hb : base ≤ W.heap.size)
 (h : ∀ v' w', OwT w' base v' (L ++ [y]) → W.grownBy w' v.ownBlock → wpListIn F nF Tryz.prog ops Q rest (a.put dst v') w') : wpListIn F nF Tryz.prog ops Q (⟨dst, .call { callee := .builtin .append, args := #[s, x], argTypes := #[38, 38] }, ty, pos, after, none⟩ :: rest) a W := by
 refine wpListIn_plain rfl fun K hK => ?_
 obtain ⟨v', w', hr, h2, h3⟩ := run_app_it ty hv hx hlm hb
 unfold Oper.wpIn
 refine ⟨by simp [Oper.about, resolve, Target.leads, Sem.run_pure], ?_⟩
 rw [Oper.semAt_plain F _ _ (by intro c hc'; cases hc')]
 simp [execOp, resolve, invoke, builtin, hs, hy, hr, Result.andThen]
 exact hK _ _ (h v' w' h2 h3)
theorem pvals_in (F : Fence) (n : Nat) (h8 : F.fn 122) (hro : F.round = none) (hn : 1 ≤ n) (l bm b nn : Nat) (f : Nat → Option Itm) (J Jx : List { x : Itm // ItOk x } → World → Prop)
 (hY : ∀ pre (x : { x : Itm // ItOk x }) W, J pre W → pre.length < nn → YieldAt F (n - 1) Tryz.prog l #[TV x.1] W fun e W' => (e = .returned (.bool true) ∧ J (pre ++ [x]) W' ∧ KeepsWalks W W') ∨ (e = .returned (.bool false) ∧ Jx (pre ++ [x]) W'))
 (W : World) (hJ : AbidesFrom W.heap.size J) (hm : W.cell? ⟨bm, 0, none⟩ = some (.map (some b))) (hmi : MI Tryz.prog 53 W b nn f) (h0 : J [] W) :
 CallsIn F n Tryz.prog 122 #[.func (.yield l) #[] #[], .pointer (some ⟨bm, 0, none⟩)] W fun e W' => (∃ v, e = .returned v) ∧ ((∃ xs, AllI f xs ∧ J xs W') ∨ (∃ pre, PartI f pre ∧ Jx pre W')) := by
 obtain ⟨D0, hown, hF⟩ := hmi
 have hsz := hown.size_le
 refine callsIn_of_wp Tryz.func122 rfl h8 ?_ hro
 simp only [Tryz.ntmps122, List.size_toArray, List.length_cons, List.length_nil, Nat.reduceAdd, Nat.reduceSub, Array.replicate_succ, Array.replicate_zero, List.push_toArray, List.append_toArray, List.nil_append, List.cons_append]
 gi_wp2_with (first
  | (gi_at_range; refine wpListIn_range_own _ rfl _ 107 rfl 53 56 (Maps.int_keyed Tryz.underlying53) Tryz.underlying107 _ b nn _ rfl hown ?_; intro w0 hrg0 hg0 hs0)
  | gi_in)
 go_frame
 gi_loopw [4] (fun _ wr => ∃ (left : Lit → Bool) (cnt : Nat) (xs : List { x : Itm // ItOk x }), wr.ranges Tryz.prog 53 itE b W.heap.size nn D0 left cnt ∧ xs.length + cnt ≤ Maps.size D0 ∧ CollI f left xs ∧ J xs wr) (fun _ wr => wr.rangeLeft b W.heap.size)
 case atStart => exact ⟨_, _, [], hrg0, by simp, coll_start hF, hJ [] W w0 none h0 hg0 (fun r e => by cases e)⟩
 case round =>
  obtain ⟨left, cnt, xs, hrg, hcs, hC, hJs⟩ := hrel
  gi_wp2_with (first
   | (gi_at_next; refine wpListIn_next_ranges _ rfl _ rfl 53 (Maps.int_keyed Tryz.underlying53) itE (Value.int .u64) TV (fun key kl hk => by obtain ⟨x, hx, _⟩ := Maps.keyOf_int_inv Tryz.underlying53 hk; exact ⟨x, hx⟩) (fun v y hv => by obtain ⟨c, -, hc, -⟩ := itE_inv hv; exact ⟨c, hc⟩) b W.heap.size nn _ _ _ rfl hrg ?_ ?_)
   | gi_in)
  · intro hc0 hl0
    gi_wp2
    go_end0
    exact ⟨⟨_, rfl⟩, .inl ⟨xs, coll_all hC hl0, hJs⟩⟩
  · intro x c kl yd yp w2 cnt2 hkey hlk hv hat hrg2 hlt hg2 hs2 hen
    obtain ⟨x', ex, rfl, hwf⟩ := Maps.keyOf_int_inv Tryz.underlying53 hkey
    obtain rfl : x = x' := by simpa using ex
    obtain ⟨key, rfl⟩ : ∃ k : Nat, x = (k : Int) := Int.eq_ofNat_of_zero_le (by
      have h : (decide ((0 : Int) ≤ x) && decide (x ≤ 18446744073709551615)) = true := hwf
      rw [Bool.and_eq_true] at h
      exact of_decide_eq_true h.1)
    obtain ⟨c', hco, ec, ez⟩ := itE_inv hv
    obtain rfl := TV_inj ec
    obtain rfl : yd = encD c := (Prod.mk.inj ez).1
    obtain ⟨-, -, hC2⟩ := coll_step hF hC hlk hco hat
    have hJ2 : J xs w2 := hJ xs wr w2 (some W.heap.size) hJs hg2 (fun r e => by cases e; exact ⟨Nat.le_refl _, hrg.iter_walk⟩)
    have hJ3 : J xs (w2.alloc (.cells #[.int .u64 (c.key : Int), .int .u32 (c.ck : Int), .int .i64 c.off, .int .i64 c.sz] 56)) := hJ xs w2 _ none hJ2 (World.grownBy_alloc _ _ none) (fun r e => by cases e)
    obtain ⟨fn, tmps, assign, body, hy, hR⟩ := hY xs ⟨c, hco⟩ _ hJ3 (by omega)
    have hz := heap_alloc_new w2 (.cells #[.int .u64 0, .int .u32 0, .int .i64 0, .int .i64 0] 56)
    have hnew := heap_alloc_new w2 (.cells #[.int .u64 (c.key : Int), .int .u32 (c.ck : Int), .int .i64 c.off, .int .i64 c.sz] 56)
    obtain ⟨⟨y0, y1, y2, y3⟩, -⟩ := bx4 hnew
    unfold TV at hy hen
    clear hs2 hnew
    gi_wp2_with (first | ((with_reducible refine storeTIn w2.heap.size _ #[.int .u64 (c.key : Int), .int .u32 (c.ck : Int), .int .i64 c.off, .int .i64 c.sz] ?_ ?_ hz rfl rfl (tx_one c) ?_); exact rfl; exact rfl; rw [World.setRow_alloc_new]) | gi_in)
    refine hR.mono ?_
    rintro e W3 (⟨rfl, hJ4, hk3⟩ | ⟨rfl, hJx3⟩)
    · gi_wp2
      have hrg3 := (hrg2.alloc _).of_walks hk3
      go_roundw
      case rel => exact ⟨_, cnt2, xs ++ [⟨c, hco⟩], hrg3, by simp; omega, hC2, hJ4⟩
      case measure => rw [hrg3.left_eq, hrg.left_eq]; exact hlt
    · gi_wp2
      refine bodyPost_ret (results_none rfl _ _ _) rfl ?_
      exact ⟨⟨_, rfl⟩, .inr ⟨xs ++ [⟨c, hco⟩], coll_part hC2, hJx3⟩⟩
theorem pvals_stops (F : Fence) (n : Nat) (h8 : F.fn 122) (hro : F.round = none) (hn : 1 ≤ n) (bm b nn : Nat) (f : Nat → Option Itm) (w : World) (hbm : bm < w.heap.size) (hm : w.cell? ⟨bm, 0, none⟩ = some (.map (some b))) (hmi : MI Tryz.prog 53 w b nn f) :
 SeqStopsK F n Tryz.prog 122 #[.pointer (some ⟨bm, 0, none⟩)] (fun x : { x : Itm // ItOk x } => #[TV x.1]) KeepsWalks (AllI f) (PartI f) nn w := fun l J Jx W hW hJ _ hY h0 =>
 pvals_in F n h8 hro hn l bm b nn f J Jx hY W hJ ((hW.cell (p := ⟨bm, 0, none⟩) hbm).trans hm) (mi_below hmi hW) h0
/-- A list with all items of the map. -/
def CoO (f : Nat → Option Itm) (w : World) (e : Ending) (w' : World) : Prop := (∃ v xs, e = .returned v ∧ AllI f xs ∧ OwT w' w.heap.size v (xs.map Subtype.val)) ∧ Below w.heap.size w w'
theorem pappseq_x (bm b nn : Nat) (f : Nat → Option Itm) (w : World) (hm : w.cell? ⟨bm, 0, none⟩ = some (.map (some b))) (hmi : MI Tryz.prog 53 w b nn f) (hnn : nn ≤ 100000) : Calls Tryz.prog 121 #[.slice none 0 0, .func (.func 122) #[] #[.pointer (some ⟨bm, 0, none⟩)]] w (CoO f w) := by
 have hb := bel_al0 w (.cells #[.slice none 0 0] 38)
 have HBX := Lh (Boxed.new w 38 (.slice none 0 0))
 have HMI := Lh (mi_below hmi hb)
 have hbm := block_lt_of_cell hm
 have HM := Lh ((hb.cell (p := ⟨bm, 0, none⟩) hbm).trans hm)
 have B0 := Lh hb
 have HSZ := Lh (show (w.alloc (.cells #[.slice none 0 0] 38)).heap.size = w.heap.size + 1 from by simp)
 have HBM := Lh (show bm < w.heap.size from hbm)
 clear hb hmi hm hbm
 refine (callsIn_wide (n := 4)).1 ?_
 refine callsIn_of_wp_marks Tryz.func121 rfl trivial ?_ rfl
 refine wpIn_wide.2 ?_
 simp only [Tryz.ntmps121, List.size_toArray, List.length_cons, List.length_nil, Nat.reduceAdd, Nat.reduceSub, Array.replicate_succ, Array.replicate_zero, List.push_toArray, List.append_toArray, List.nil_append, List.cons_append]
 go_upto_region 1 with fail
 generalize w.alloc (.cells #[.slice none 0 0] 38) = W0 at *
 go_wp2_with fail
 have STP := pvals_stops Fence.wide 3 trivial rfl (by decide) bm b nn f W0 (by have := HSZ.out; have := HBM.out; omega) HM.out HMI.out
 refine (wpIn_wide (n := 4)).1 ?_
 refine wpIn_rangeFunc_ownH (n := 4) rfl (by decide) (gf := 122) (lb := #[.pointer (some ⟨bm, 0, none⟩)]) rfl trivial (enters_of Tryz.func122 (by kernel_rfl) rfl) STP walksK_t walksK_b (Below.refl _ _) (fun _ => rfl)
  (fun pre W => (∃ v, Boxed W w.heap.size 38 v ∧ W.ownsRow w.heap.size 56 4 v (pre.map Subtype.val).length (cellsT (pre.map Subtype.val)) ∧ True) ∧ Below w.heap.size w W)
  (fun _ _ _ => False)
  (OwnFrom.and (Go.Own.from (holdsRow_own w.heap.size w.heap.size 38 56 4 (fun pre : List { x : Itm // ItOk x } => (pre.map Subtype.val).length) (fun pre => cellsT (pre.map Subtype.val)) (fun _ _ => True)) _) (ownFrom_below (Nat.le_refl _) (by have := HSZ.out; omega)))
  (fun _ => Go.Own.from (fun _ _ _ _ hs _ _ => hs) _)
  ⟨⟨_, HBX.out, World.ownsRow_nil _ _ _ _, trivial⟩, B0.out⟩
  (fun x a' W => ∃ bx, W.heap[bx]? = some (.cells #[.int .u64 (x.1.key : Int), .int .u32 (x.1.ck : Int), .int .i64 x.1.off, .int .i64 x.1.sz] 56 (0, 0)) ∧ a' = { tmps := #[.slice none 0 0, .func (.func 122) #[] #[.pointer (some ⟨bm, 0, none⟩)], .pointer (some ⟨w.heap.size, 0, none⟩), undef, .slice none 0 0, .pointer (some ⟨bx, 0, none⟩), .func (.func 122) #[] #[.pointer (some ⟨bm, 0, none⟩)], .agg #[.int .u64 (x.1.key : Int), .int .u32 (x.1.ck : Int), .int .i64 x.1.off, .int .i64 x.1.sz], undef, undef, undef, undef, undef], defers := [] })
  (fun x a' _ X Y row hs hg hr => by obtain ⟨bx, h2, h3⟩ := hs; exact ⟨bx, row_own bx 56 (fun (_ : Unit) => #[.int .u64 (x.1.key : Int), .int .u32 (x.1.ck : Int), .int .i64 x.1.off, .int .i64 x.1.sz]) () X Y row h2 hg (fun r e => (hr r e).2), h3⟩)
  ?assign ?body ?done ?stop
 case assign =>
  rintro l' pre x W K ⟨⟨v, hv, hrow, -⟩, hB⟩ hK
  obtain ⟨x, hx⟩ := x
  dsimp only [TV] at hK ⊢
  have hz := heap_alloc_new W (.cells #[.int .u64 0, .int .u32 0, .int .i64 0, .int .i64 0] 56)
  gi_wp2_with ((with_reducible refine storeTIn W.heap.size _ #[.int .u64 (x.key : Int), .int .u32 (x.ck : Int), .int .i64 x.off, .int .i64 x.sz] ?_ ?_ hz rfl rfl (tx_one x) ?_); exact rfl; exact rfl)
  rw [World.setRow_alloc_new]
  exact hK _ _ ((KeepsOthers.alloc _ _).from _) (KeepsWalks.alloc _ _) ⟨⟨v, hv.alloc _, hrow.alloc _, trivial⟩, btA hB (bel_al0 W _)⟩ ⟨W.heap.size, heap_alloc_new W _, rfl⟩
 case body =>
  rintro l' pre x a' W hl ⟨r, hr⟩ ⟨⟨v, hv, hrow, -⟩, hB⟩ ⟨bx, hX, rfl⟩ hlt
  obtain ⟨x, hx⟩ := x
  dsimp only at hX ⊢
  have hle : w.heap.size ≤ W.heap.size := hB.size
  have HOW := Lh (show OwT W w.heap.size v (pre.map Subtype.val) from ⟨fun y hy => by
    obtain ⟨z, -, rfl⟩ := List.mem_map.1 hy
    exact z.2, hrow⟩)
  have hbw := bel_al0 W (.cells #[.int .u64 (x.key : Int), .int .u32 (x.ck : Int), .int .i64 x.off, .int .i64 x.sz] 56)
  have HOA := Lh (owT_below HOW.out hbw)
  have HIT := Lh (it_one (w := W.alloc (.cells #[.int .u64 (x.key : Int), .int .u32 (x.ck : Int), .int .i64 x.off, .int .i64 x.sz] 56)) hx (heap_alloc_new W _))
  have HLE := Lh (show w.heap.size ≤ (W.alloc (.cells #[.int .u64 (x.key : Int), .int .u32 (x.ck : Int), .int .i64 x.off, .int .i64 x.sz] 56)).heap.size from Nat.le_trans hle hbw.size)
  have HLN := Lh (show (pre.map Subtype.val).length + 1 ≤ 100000000 from by rw [List.length_map]; omega)
  have ck := hv.cell
  obtain ⟨⟨y0, y1, y2, y3⟩, -⟩ := bx4 hX
  have HV := Lh (And.intro hv hrow)
  have HBB := Lh hB
  have HLW := Lh hle
  clear hv hrow hB hX hl hr hbw hle hlt
  gi_wp2_with (first | (gi_at_builtin; refine app_it1In ?_ ?_ HOA.out HIT.out HLN.out HLE.out ?_; exact rfl; exact rfl; intro v9 w9 ho hg; obtain ⟨a9, c9, hv9, -⟩ := owT_form ho; obtain ⟨n9, hn9⟩ : ∃ q, q = ((pre.map Subtype.val) ++ [x]).length := ⟨_, rfl⟩; rw [← hn9] at hv9; subst hv9; obtain ⟨q1, q2, q3, q4, q5⟩ := HV.out.1.appended (by decide) HV.out.2 HLW.out (Nat.le_refl _) ho.2 hg; have hc1 := q1.cell; have hf1 := q1.frozen; clear ho hg hn9) | gi_in)
  exact ⟨q4.from _, q4.walks, ⟨⟨_, q2, by rw [List.map_append]; exact q3, trivial⟩, HBB.out.trans q5⟩⟩
 case done =>
  rintro D xs W hD hall ⟨⟨v, hv, hrow, -⟩, hB⟩ hK
  have ck := hv.cell
  have HOW := Lh (show OwT W w.heap.size v (xs.map Subtype.val) from ⟨fun y hy => by
    obtain ⟨z, -, rfl⟩ := List.mem_map.1 hy
    exact z.2, hrow⟩)
  go_wp2
  refine ⟨by simp, .inl ⟨_, _, rfl, run_takeDeferred hK, ?_⟩⟩
  exact ⟨_, results_tmp rfl _ _ _, ⟨v, xs, rfl, hall, HOW.out.1, ownsRow_putObj HOW.out.2 _ hK rfl⟩, hB.trans (belowK_b (w := w) (Nat.le_refl _) W D _ _ (by have := HSZ.out; omega) hK rfl rfl)⟩
 case stop =>
  rintro D c pre W hD hp h hK
  exact h.elim
theorem pcollect_x (bm b nn : Nat) (f : Nat → Option Itm) (w : World) (hm : w.cell? ⟨bm, 0, none⟩ = some (.map (some b))) (hmi : MI Tryz.prog 53 w b nn f) (hnn : nn ≤ 100000) : Calls Tryz.prog 98 #[.func (.func 122) #[] #[.pointer (some ⟨bm, 0, none⟩)]] w (CoO f w) := by
 have PA := Lh (pappseq_x bm b nn f w hm hmi hnn)
 clear hm hmi hnn
 go_enter Tryz.func98, Tryz.ntmps98
 go_wp2_with fail
 refine PA.out.mono ?_
 rintro e W1 ⟨⟨v, xs, rfl, hall, ho⟩, hb⟩
 have HOW := Lh ho
 obtain ⟨a9, c9, rfl, -⟩ := owT_form ho
 obtain ⟨n9, hn9⟩ : ∃ q, q = (xs.map Subtype.val).length := ⟨_, rfl⟩
 rw [← hn9] at HOW ⊢
 clear ho hn9
 go_wp2_with fail
 go_ret
 exact ⟨⟨_, xs, rfl, hall, HOW.out⟩, hb⟩
theorem pvalues_x (mb : Option Nat) (w : World) : Calls Tryz.prog 99 #[.map mb] w fun e w' => e = .returned (.func (.func 122) #[] #[.pointer (some ⟨w.heap.size, 0, none⟩)]) ∧ w' = w.alloc (.cells #[.map mb] 107) := by
 go_enter Tryz.func99, Tryz.ntmps99
 go_wp2
 go_ret
 exact ⟨rfl, rfl⟩
end Go.Proofs.YtbmlpafbdbhaiaaGreatDoor.Gf
