/- What is proved here: apart of a list of items, empty or not (program, package generation). -/
import Derived.Test.YtbmlpafbdbhaiaaGreatDoorGs3
import Derived.Test.YtbmlpafbdbhaiaaGreatDoorVp
namespace Go.Proofs.YtbmlpafbdbhaiaaGreatDoor.Gf
open Go Go.RowKit Go.Shelf
set_option maxRecDepth 100000
set_option maxHeartbeats 204800000

theorem plen64_0 (w : World) : Calls Tryz.prog 154 #[.int .u64 0] w fun e w' => e = .returned (.int .i64 0) ∧ w = w' := by
 go_enter Tryz.func154, Tryz.ntmps154
 go_wp2
 go_ret
 exact ⟨by kernel_rfl, rfl⟩
theorem plen_0 (w : World) : Calls Tryz.prog 115 #[.int .u64 0] w fun e w' => e = .returned (.int .i64 0) ∧ w = w' := by
 go_enter Tryz.func115, Tryz.ntmps115
 go_wp2_with fail
 refine (plen64_0 w).mono ?_
 rintro e w1 ⟨rfl, rfl⟩
 go_wp2
 go_ret
 exact ⟨rfl, rfl⟩
theorem pins_0 (a : Option Addr) (c : Nat) (fv : Value) (w : World) : Calls Tryz.prog 145 #[.slice a 0 c, .int .i64 0, .int .i64 0, fv] w fun e w' => e = .returned (.tuple #[]) ∧ w = w' := by
 go_enter Tryz.func145, Tryz.ntmps145
 go_wp2
 go_loopw [8] (fun t wr => t = .int .i64 1 ∧ w = wr) (fun _ _ => 0)
 case atStart => exact ⟨rfl, rfl⟩
 case round =>
  obtain ⟨rfl, rfl⟩ := hrel
  go_wp2
  go_end0
  exact ⟨rfl, rfl⟩
theorem ppdq_0 (a : Option Addr) (c : Nat) (fv : Value) (w : World) : Calls Tryz.prog 114 #[.slice a 0 c, .int .i64 0, .int .i64 0, .int .i64 0, fv] w fun e w' => e = .returned (.tuple #[]) ∧ w = w' := by
 go_enter Tryz.func114, Tryz.ntmps114
 go_wp2
 go_loopw [1, 2, 3, 10, 11] (fun t1 t2 t3 t10 t11 wr => t1 = .int .i64 0 ∧ t2 = .int .i64 0 ∧ t3 = .int .i64 0 ∧ t10 = .bool true ∧ t11 = .bool true ∧ w = wr) (fun _ _ _ _ _ _ => 0)
 case atStart => exact ⟨rfl, rfl, rfl, rfl, rfl, rfl⟩
 case round =>
  obtain ⟨rfl, rfl, rfl, rfl, rfl, rfl⟩ := hrel
  go_wp2_with fail
  refine (pins_0 a c fv w).mono ?_
  rintro e w1 ⟨rfl, rfl⟩
  go_wp2
  refine bodyPost_ret (results_none rfl _ _ _) rfl ?_
  exact ⟨rfl, rfl⟩
theorem psort_0 (a : Option Addr) (c : Nat) (fv : Value) (w : World) : Calls Tryz.prog 85 #[.slice a 0 c, fv] w fun e w' => e = .returned (.tuple #[]) ∧ w = w' := by
 go_enter Tryz.func85, Tryz.ntmps85
 go_wp2_with fail
 refine (plen_0 w).mono ?_
 rintro e w1 ⟨rfl, rfl⟩
 go_wp2_with fail
 refine (ppdq_0 a c fv w).mono ?_
 rintro e w1 ⟨rfl, rfl⟩
 go_wp2
 go_end0
 exact ⟨rfl, rfl⟩
theorem run_none_nilT (w : World) (c : Nat) : (binOp .eql 38 (.slice none 0 c) (.slice none 0 0)).run Tryz.prog w = .ok (.bool true) w := by
 have h : ∀ d : Nat, (Op.equalIn (d + 1) 38 (.slice none 0 c) (.slice none 0 0)).run Tryz.prog w = .ok true w := fun d => by
  simp [Op.equalIn, run_underlying Tryz.underlying38]
 simp only [binOp]
 simp [Op.equal, Op.maxDepth, h 9999]
theorem pclone_none (c : Nat) (w : World) : Calls Tryz.prog 84 #[.slice none 0 c] w fun e w' => e = .returned (.slice none 0 0) ∧ w = w' := by
 have hq := run_none_nilT w c
 go_enter Tryz.func84, Tryz.ntmps84
 go_wp2
 go_ret
 exact ⟨rfl, rfl⟩
theorem papart_nil (v : Value) (sz : Int) (w : World) (sl : It w v []) : Calls Tryz.prog 49 #[v, .int .i64 sz] w fun e w' => e = .returned (.bool true) ∧ Below w.heap.size w w' := by
 obtain ⟨a, c, rfl, -, -⟩ := it_form sl
 have q0 := bel_al0 w (.cells #[.bool false] 4)
 have HG := Lh (heap_alloc_new w (.cells #[.bool false] 4))
 have SL := Lh (it_below sl q0)
 have B0 := Lh q0
 have PCL : Hid (Calls Tryz.prog 84 #[.slice a 0 c] (w.alloc (.cells #[.bool false] 4)) fun e w' => (∃ a2 c2, e = .returned (.slice a2 0 c2)) ∧ Below (w.alloc (.cells #[.bool false] 4)).heap.size (w.alloc (.cells #[.bool false] 4)) w') := by
  cases a with
  | none => exact (pclone_none c _).mono fun e w' ⟨h1, h2⟩ => ⟨⟨_, _, h1⟩, by rw [← h2]; exact Below.refl _ _⟩
  | some p => exact (pcloneT_any p c [] _ SL.out (by decide)).mono fun e w' ⟨⟨v, h1, h2⟩, h3⟩ => ⟨by
   obtain ⟨a2, c2, rfl, -, -⟩ := owT_form h2
   exact ⟨a2, c2, h1⟩, h3⟩
 clear sl q0 SL
 refine (callsIn_wide (n := 4)).1 ?_
 refine callsIn_of_wp_marks Tryz.func49 rfl trivial ?_ rfl
 refine wpIn_wide.2 ?_
 simp only [Tryz.ntmps49, List.size_toArray, List.length_cons, List.length_nil, Nat.reduceAdd, Nat.reduceSub, Array.replicate_succ, Array.replicate_zero, List.push_toArray, List.append_toArray, List.nil_append, List.cons_append]
 go_upto_region 1 with fail
 generalize hw0 : w.alloc (.cells #[.bool false] 4) = W0 at *
 go_wp2_with fail
 refine PCL.out.mono ?_
 rintro e W1 ⟨⟨a2, c2, rfl⟩, hb⟩
 have HG1 := Lh ((hb.block _ (lt_of_some HG.out)).trans HG.out)
 have B1 := Lh (btA B0.out hb)
 clear hb PCL HG B0 hw0
 go_wp2_with fail
 refine (psort_0 a2 c2 _ W1).mono ?_
 rintro e W1' ⟨rfl, rfl⟩
 go_upto_region 4 with fail
 have hb := bel_al0 W1 (.cells #[.int .i64 sz] 2)
 have HG2 := Lh ((hb.block _ (lt_of_some HG1.out)).trans HG1.out)
 have B2 := Lh (btA B1.out hb)
 clear hb HG1 B1
 generalize W1.alloc (.cells #[.int .i64 sz] 2) = W2 at *
 go_wp2_with fail
 refine (pbackI_any a2 0 c2 W2).mono ?_
 rintro e W3 ⟨rfl, hW3⟩
 have hA1 := bel_al0 W2 (.cells #[.slice a2 0 c2] 38)
 have hbs := heap_alloc_new W2 (.cells #[.slice a2 0 c2] 38)
 rw [← hW3] at hA1 hbs
 have HG3 := Lh ((hA1.block _ (lt_of_some HG2.out)).trans HG2.out)
 have B3 := Lh (btA B2.out hA1)
 have hlt3 := lt_of_some hbs
 have hgz := lt_of_some HG3.out
 clear hW3 hA1 HG2 B2
 generalize W2.heap.size = bs at *
 have STP := pbackI_stops Fence.wide 3 trivial rfl (by decide) bs w.heap.size 0 0 0 c2 a2 (fun _ => undef) (fun _ => undef) (fun _ => undef) (fun _ => undef) (by decide) (fun h => absurd h (by decide)) W3 (by omega) hbs (fun j hj => absurd hj (by omega))
 have HLT := Lh (And.intro hlt3 hgz)
 clear hbs hlt3 hgz
 go_wp2_with fail
 refine (wpIn_wide (n := 4)).1 ?_
 refine wpIn_rangeFunc_ownH (n := 4) rfl (by decide) (gf := 117) (lb := #[.pointer (some ⟨bs, 0, none⟩)]) rfl trivial (enters_of Tryz.func117 (by kernel_rfl) rfl)
  STP (fun h h2 => KpX.trans h h2) (fun W l o o' hl ho hoc _ => ⟨belowK_b (n₀ := w.heap.size) (w := W3) (by have := HLT.out; omega) W l o o' hl ho hoc (by assumption), World.putObj_heap_other (by have := HLT.out; omega)⟩) (Below.refl _ _) (fun _ => rfl)
  (fun _ W => Boxed W w.heap.size 4 (.bool false) ∧ Below w.heap.size w W)
  (fun _ _ _ => False)
  (OwnFrom.and (Go.Own.from (boxed_own _ _ (fun _ => .bool false)) _) (ownFrom_below (Nat.le_refl _) (by have := HLT.out; omega)))
  (fun _ _ _ _ _ hs _ _ => hs)
  ⟨HG3.out, B3.out⟩
  (fun _ _ _ => True)
  (fun x a' _ X Y row hs hg hr => trivial)
  ?assign ?body ?done ?stop
 case assign => exact fun l' pre x => absurd x.2 (by omega)
 case body => exact fun l' pre x => absurd x.2 (by omega)
 case stop =>
  rintro D c pre W _ _ h _
  exact h.elim
 case done =>
  rintro D ys W hD rfl ⟨hG, hB⟩ hK
  have fG := hG.frozen
  have cG := hG.cell
  have HDD := Lh hD
  have HGG := Lh hG
  have HBB := Lh hB
  clear hG hB hD STP
  go_wp2
  have hsz := HLT.out
  have hd2 := HDD.out
  have hK2 : (W.setCell ⟨w.heap.size, 0, none⟩ (.bool true)).heap[D]? = some (.deferred (some [])) := (other1 (by omega)).trans hK
  refine ⟨by simp, .inl ⟨_, _, rfl, run_takeDeferred hK2, ?_⟩⟩
  have hsz2 := HBB.out.size
  have hx : ((W.setCell ⟨w.heap.size, 0, none⟩ (.bool true)).putObj D (.deferred none)).heap[w.heap.size]? = some (.cells #[.bool true] 4 (0, 0)) := (World.putObj_heap_other (by omega)).trans (HGG.out.set (.bool true))
  have hb1 := HBB.out.setCell (p := ⟨w.heap.size, 0, none⟩) (Nat.le_refl _) (.bool true)
  exact ⟨_, results_c1 (T := 4) rfl rfl (agg_bool _) (cell_of_row _ _ 0 _ _ _ hx), rfl, hb1.trans (belowK_b (w := w) (Nat.le_refl _) _ D _ _ (by omega) hK2 rfl rfl)⟩
theorem apL_nil (n : Int) : apL [] n := ⟨fun x hx => by simp at hx, List.Pairwise.nil⟩
theorem papart_any (v : Value) (L : List Itm) (sz : Int) (w : World) (hlen : L.length ≤ 10000) (hok : ∀ x ∈ L, okI x) (hsz : J64 sz) (sl : It w v L) : Calls Tryz.prog 49 #[v, .int .i64 sz] w fun e w' => e = .returned (.bool (apB L sz)) ∧ Below w.heap.size w w' := by
 rcases Nat.eq_zero_or_pos L.length with h | h
 ·obtain rfl := List.eq_nil_of_length_eq_zero h
  rw [apB_t (apL_nil sz)]
  exact papart_nil v sz w sl
 ·obtain ⟨b, off, c, rfl, -, -, -⟩ := it_cells sl h
  exact papart_some b off L.length c L sz w rfl h hlen hok hsz sl
end Go.Proofs.YtbmlpafbdbhaiaaGreatDoor.Gf
