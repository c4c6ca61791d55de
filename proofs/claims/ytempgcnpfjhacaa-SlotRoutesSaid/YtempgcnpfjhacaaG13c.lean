/- What is proved here: the program's generations without items: Fresh, Valid. -/
import Derived.Test.YtempgcnpfjhacaaG13b
import Derived.Test.YtempgcnpfjhacaaFl
import Derived.Test.YtempgcnpfjhacaaQ13
namespace Go.Proofs.Ytempgcnpfjhacaa.Gf
open Go Go.Joins Go.ChangeShapes Go.WideShapes Go.ChangeAt Go.RowKit Go.Deep Go.Proofs.Ytempgcnpfjhacaa.By Go.Proofs.Ytempgcnpfjhacaa.Qt

theorem held_gw {P : Program} {ops : Array Oper} {md : Region.Mode} {Q : Exit → Act → World → Prop} {S : World → Prop} {fuel : Nat} {listed : Array Bool} {a : Act} {w : World} (i : Nat) {oi : Oper} (hi : ops[i]? = some oi) (hg : Region.wanted oi (yielded ops a.tmps) = true) (hr : Region.ready md ops listed = [i])
    (h : ∀ K : Act → World → Prop, (∀ a' w', S w' → wpAnyH P md ops Q S fuel (listed.setIfInBounds i true) a' w' → K a' w') → oi.wp P a w K Q) : wpAnyH P md ops Q S (fuel + 1) listed a w := by
  refine wpAnyH_all hr (by simp) fun j hj => ?_
  obtain rfl : j = i := by simpa using hj
  unfold wpOp
  simp only [hi]
  rw [if_pos hg]
  exact Or.inl (h _ fun a' w' h1 h2 => ⟨h1, h2⟩)
theorem infoG14 : (Try.prog.info? 46).map (·.size) = some 14 := by kernel_rfl
theorem bx14 {w : World} {g : Nat} {c0 c1 c2 c3 c4 c5 c6 c7 c8 c9 c10 c11 c12 c13 : Value} {T : TypeId} {fr : Nat × Nat} (h : w.heap[g]? = some (.cells #[c0, c1, c2, c3, c4, c5, c6, c7, c8, c9, c10, c11, c12, c13] T fr)) : w.cell? ⟨g, 0, none⟩ = some c0 ∧ w.cell? ⟨g, 1, none⟩ = some c1 ∧ w.cell? ⟨g, 2, none⟩ = some c2 ∧ w.cell? ⟨g, 3, none⟩ = some c3 ∧ w.cell? ⟨g, 4, none⟩ = some c4 ∧ w.cell? ⟨g, 5, none⟩ = some c5 ∧ w.cell? ⟨g, 6, none⟩ = some c6 ∧ w.cell? ⟨g, 7, none⟩ = some c7 ∧ w.cell? ⟨g, 8, none⟩ = some c8 ∧ w.cell? ⟨g, 9, none⟩ = some c9 ∧ w.cell? ⟨g, 10, none⟩ = some c10 ∧ w.cell? ⟨g, 11, none⟩ = some c11 ∧ w.cell? ⟨g, 12, none⟩ = some c12 ∧ w.cell? ⟨g, 13, none⟩ = some c13 :=
  ⟨cell_of_row w g 0 _ _ _ h, cell_of_row w g 1 _ _ _ h, cell_of_row w g 2 _ _ _ h, cell_of_row w g 3 _ _ _ h, cell_of_row w g 4 _ _ _ h, cell_of_row w g 5 _ _ _ h, cell_of_row w g 6 _ _ _ h, cell_of_row w g 7 _ _ _ h, cell_of_row w g 8 _ _ _ h, cell_of_row w g 9 _ _ _ h, cell_of_row w g 10 _ _ _ h, cell_of_row w g 11 _ _ _ h, cell_of_row w g 12 _ _ _ h, cell_of_row w g 13 _ _ _ h⟩
theorem storeG {ops : Array Oper} {rest : List Oper} {x y : Operand} {pos : String} {after : Array Edge} {ty : TypeId} {a : Act} {w : World} {Q : Exit → Act → World → Prop}
    (g : Nat) (old cs : Array Value) (hx : a.eval x = .pointer (some ⟨g, 0, none⟩)) (hy : a.eval y = .agg cs) (hg : w.heap[g]? = some (.cells old 46 (0, 0))) (ho : old.size = 14) (hs : cs.size = 14) (h1 : cs.all (·.oneCell') = true)
    (h : wpList Try.prog ops Q rest a (w.setRow g cs)) : wpList Try.prog ops Q (⟨none, .store 46 x y, ty, pos, after, none⟩ :: rest) a w :=
  wpList_store_row rfl 46 x y rfl g cs hx hy 46 old hg (by rw [infoG14, hs]) (by omega) h1 h
/-- A fresh generation (number 1) as a value. -/
def FrV (w : World) (v : Value) : Prop := ∃ s0 s1 s2 s3 s4 s5 s6 s7, v = .agg #[.int .i64 1, .int .i64 0, .int .i64 1, .int .i64 16, s0, s1, s2, s3, s4, s5, s6, s7, .int .i64 0, .int .i64 0] ∧ Ms w [s0, s1, s2, s3, s4, s5, s6, s7] mp0
theorem frV_below {w w' : World} {v : Value} (h : FrV w v) (hB : Below w.heap.size w w') : FrV w' v := by
  obtain ⟨s0, s1, s2, s3, s4, s5, s6, s7, rfl, h2⟩ := h
  exact ⟨s0, s1, s2, s3, s4, s5, s6, s7, rfl, ms_below h2 hB⟩
theorem fr_one {w : World} {s0 s1 s2 s3 s4 s5 s6 s7 : Value} (h : Ms w [s0, s1, s2, s3, s4, s5, s6, s7] mp0) : (#[.int .i64 1, .int .i64 0, .int .i64 1, .int .i64 16, s0, s1, s2, s3, s4, s5, s6, s7, .int .i64 0, .int .i64 0] : Array Value).all (·.oneCell') = true := by
  have h1 := ms_one h 0 0
  simp only [List.all_toArray, List.all_cons, Bool.and_eq_true] at h1 ⊢
  exact ⟨rfl, rfl, rfl, rfl, h1⟩
/-- A contract whose answer is a fresh generation and OK. -/
def FrO (w : World) (e : Ending) (w' : World) : Prop := (∃ v, e = .returned (.tuple #[v, .int .i64 0]) ∧ FrV w' v) ∧ Below w.heap.size w w'
theorem ms_setRowF {Y : World} {p : Nat} {vs : List Value} {m : Mp} {cs : Array Value} {cs0 : Array Value} {T : TypeId} (h : Ms Y vs m) (hz : Y.heap[p]? = some (.cells cs0 T (0, 0))) (hn : ∀ (k : Nat) (n : Int), cs0[k]? ≠ some (Value.int .u64 n)) : Ms (Y.setRow p cs) vs m := ⟨h.1, h.2.1, h.2.2.1, fun k hk => by
  obtain ⟨a, c, h1, h2⟩ := h.2.2.2 k hk
  exact ⟨a, c, h1, it_keepM h2 hz hn fun b hb => setRow_other _ _ _ _ hb⟩⟩
theorem zeroG_u64 : ∀ (k : Nat) (n : Int), (#[.int .i64 0, .int .i64 0, .int .i64 0, .int .i64 0, .slice none 0 0, .slice none 0 0, .slice none 0 0, .slice none 0 0, .slice none 0 0, .slice none 0 0, .slice none 0 0, .slice none 0 0, .int .i64 0, .int .i64 0] : Array Value)[k]? ≠ some (Value.int .u64 n) := fun k n h => by
  match k, h with
  | 0, h => simp at h
  | 1, h => simp at h
  | 2, h => simp at h
  | 3, h => simp at h
  | 4, h => simp at h
  | 5, h => simp at h
  | 6, h => simp at h
  | 7, h => simp at h
  | 8, h => simp at h
  | 9, h => simp at h
  | 10, h => simp at h
  | 11, h => simp at h
  | 12, h => simp at h
  | 13, h => simp at h
  | k + 14, h => simp at h
set_option maxRecDepth 100000 in
theorem pvalidNumber_1 (w : World) : Calls Try.prog 16 #[.int .i64 1] w fun e w' => e = .returned (.bool true) ∧ w = w' := by
  go_enter Try.func16, Try.ntmps16
  go_wp2
  go_ret
  exact ⟨rfl, rfl⟩
set_option maxRecDepth 100000 in
set_option maxHeartbeats 6400000 in
theorem pfresh_1 (w : World) : Calls Try.prog 9 #[.int .i64 1] w (FrO w) := by
  have B0 := Lib.hid (bel_al w (.cells #[.int .i64 0, .int .i64 0, .int .i64 0, .int .i64 0, .slice none 0 0, .slice none 0 0, .slice none 0 0, .slice none 0 0, .slice none 0 0, .slice none 0 0, .slice none 0 0, .slice none 0 0, .int .i64 0, .int .i64 0] 46))
  have HG := Lib.hid (heap_alloc_new w (.cells #[.int .i64 0, .int .i64 0, .int .i64 0, .int .i64 0, .slice none 0 0, .slice none 0 0, .slice none 0 0, .slice none 0 0, .slice none 0 0, .slice none 0 0, .slice none 0 0, .slice none 0 0, .int .i64 0, .int .i64 0] 46))
  go_enter Try.func9, Try.ntmps9
  go_upto_region 1 with fail
  generalize w.alloc (.cells #[.int .i64 0, .int .i64 0, .int .i64 0, .int .i64 0, .slice none 0 0, .slice none 0 0, .slice none 0 0, .slice none 0 0, .slice none 0 0, .slice none 0 0, .slice none 0 0, .slice none 0 0, .int .i64 0, .int .i64 0] 46) = W0 at *
  go_wp2_with fail
  refine (pvalidNumber_1 W0).mono ?_
  rintro e W0' ⟨rfl, rfl⟩
  go_wp2_with fail
  refine (pnew_any W0).mono ?_
  rintro e W1 ⟨⟨v1, rfl, hv1⟩, hb⟩
  obtain ⟨s0, s1, s2, s3, s4, s5, s6, s7, rfl, hms⟩ := hv1
  have HG1 := Lib.hid ((hb.block _ (lt_of_some HG.out)).trans HG.out)
  have B1 := Lib.hid (B0.out.trans (hb.mono B0.out.size))
  have ON := Lib.hid (fr_one hms)
  have MS := Lib.hid hms
  clear hb HG B0 hms
  go_wp2_with ((with_reducible refine storeG w.heap.size _ #[.int .i64 1, .int .i64 0, .int .i64 1, .int .i64 16, s0, s1, s2, s3, s4, s5, s6, s7, .int .i64 0, .int .i64 0] ?_ ?_ HG1.out rfl rfl ON.out ?_); exact rfl; exact rfl)
  refine bodyPost_ret (results_rt (S := 46) rfl _ _ w.heap.size #[.int .i64 1, .int .i64 0, .int .i64 1, .int .i64 16, s0, s1, s2, s3, s4, s5, s6, s7, .int .i64 0, .int .i64 0] rfl (setRow_heap _ _ _ _ _ _ HG1.out) Try.underlying46 rfl infoG14) rfl ?_
  exact ⟨⟨_, rfl, s0, s1, s2, s3, s4, s5, s6, s7, rfl, ms_setRowF MS.out HG1.out zeroG_u64⟩, below_setRowM B1.out (Nat.le_refl _) _⟩
set_option maxRecDepth 100000 in
set_option maxHeartbeats 12800000 in
theorem pgvalid_1 (v : Value) (w : World) (hv : FrV w v) : Calls Try.prog 23 #[v] w fun e w' => e = .returned (.bool true) ∧ Below w.heap.size w w' := by
  obtain ⟨s0, s1, s2, s3, s4, s5, s6, s7, rfl, hms⟩ := hv
  have B0 := Lib.hid (bel_al w (.cells #[.int .i64 1, .int .i64 0, .int .i64 1, .int .i64 16, s0, s1, s2, s3, s4, s5, s6, s7, .int .i64 0, .int .i64 0] 46))
  have HG := Lib.hid (heap_alloc_new w (.cells #[.int .i64 1, .int .i64 0, .int .i64 1, .int .i64 16, s0, s1, s2, s3, s4, s5, s6, s7, .int .i64 0, .int .i64 0] 46))
  have MS := Lib.hid (ms_below hms B0.out)
  have PV := Lib.hid (fun W (h : Ms W [s0, s1, s2, s3, s4, s5, s6, s7] mp0) => pvalid11_any (.agg #[s0, s1, s2, s3, s4, s5, s6, s7, .int .i64 0, .int .i64 0]) mp0 W ⟨s0, s1, s2, s3, s4, s5, s6, s7, rfl, h⟩ few_mp0)
  rw [okMb_t mp0_ok.1] at PV
  have PI := Lib.hid (fun W (h : Ms W [s0, s1, s2, s3, s4, s5, s6, s7] mp0) => pitems11_any (.agg #[s0, s1, s2, s3, s4, s5, s6, s7, .int .i64 0, .int .i64 0]) mp0 W ⟨s0, s1, s2, s3, s4, s5, s6, s7, rfl, h⟩ few_mp0 (by decide))
  have hI : itemsL mp0 = [] := by unfold itemsL; rw [if_pos mp0_ok.1]; rfl
  rw [hI] at PI
  clear hms hI
  go_enter Try.func23, Try.ntmps23
  go_upto_region 1 with fail
  generalize w.alloc (.cells #[.int .i64 1, .int .i64 0, .int .i64 1, .int .i64 16, s0, s1, s2, s3, s4, s5, s6, s7, .int .i64 0, .int .i64 0] 46) = W0 at *
  refine wp_onlyN ?_
  refine wp_region_headsS (fun W' => Below W0.heap.size W0 W') [0, 1] 64 (by kernel_rfl) (fun _ _ _ _ _ h => h.elim) (by kernel_rfl) (by rfl) (by rfl) (Below.refl W0.heap.size W0).drew ?_
  simp only [pickOps, List.filterMap_cons, List.filterMap_nil, List.getElem?_toArray]
  refine wpHeads_step (fun K hK => ?_)
  go_simp
  refine ⟨_, fun _ _ => rfl, hK _ ?_⟩
  clear hK K
  refine wpHeads_step (fun K hK => ?_)
  go_simp
  refine ⟨.int .i64 1, fun w' hw' => by
    obtain ⟨x0, x1, x2, x3, x4, x5, x6, x7, x8, x9, x10, x11, x12, x13⟩ := bx14 ((hw'.block _ (lt_of_some HG.out)).trans HG.out)
    go_simp, hK _ ?_⟩
  clear hK K
  refine wpHeads_nil ?_
  have SD := Lib.hid (Below.refl W0.heap.size W0).drew
  generalize W0.drew = WD at *
  refine held_gw 2 rfl (by kernel_rfl) (by kernel_rfl) fun K hK => ?_
  go_simp
  go_at_call 16
  refine (pvalidNumber_1 WD).mono ?_
  rintro e V1 ⟨rfl, rfl⟩
  refine hK _ _ SD.out ?_
  clear hK K
  obtain ⟨x0, x1, x2, x3, x4, x5, x6, x7, x8, x9, x10, x11, x12, x13⟩ := bx14 ((SD.out.block _ (lt_of_some HG.out)).trans HG.out)
  refine held_gw 3 rfl (by kernel_rfl) (by kernel_rfl) fun K hK => ?_
  go_simp
  refine hK _ _ SD.out ?_
  clear hK K
  refine held_gw 4 rfl (by kernel_rfl) (by kernel_rfl) fun K hK => ?_
  go_simp
  refine hK _ _ SD.out ?_
  clear hK K
  refine held_gw 5 rfl (by kernel_rfl) (by kernel_rfl) fun K hK => ?_
  go_simp
  refine hK _ _ SD.out ?_
  clear hK K
  refine held_gw 6 rfl (by kernel_rfl) (by kernel_rfl) fun K hK => ?_
  go_simp
  refine hK _ _ SD.out ?_
  clear hK K
  refine held_gw 7 rfl (by kernel_rfl) (by kernel_rfl) fun K hK => ?_
  go_simp
  refine hK _ _ SD.out ?_
  clear hK K
  refine held_gw 8 rfl (by kernel_rfl) (by kernel_rfl) fun K hK => ?_
  go_simp
  refine hK _ _ SD.out ?_
  clear hK K
  refine held_gw 9 rfl (by kernel_rfl) (by kernel_rfl) fun K hK => ?_
  go_simp
  refine hK _ _ SD.out ?_
  clear hK K
  refine held_gw 10 rfl (by kernel_rfl) (by kernel_rfl) fun K hK => ?_
  go_simp
  refine hK _ _ SD.out ?_
  clear hK K
  refine held_gw 11 rfl (by kernel_rfl) (by kernel_rfl) fun K hK => ?_
  go_simp
  refine hK _ _ SD.out ?_
  clear hK K
  refine held_gw 12 rfl (by kernel_rfl) (by kernel_rfl) fun K hK => ?_
  go_simp
  refine hK _ _ SD.out ?_
  clear hK K
  refine held_gw 13 rfl (by kernel_rfl) (by kernel_rfl) fun K hK => ?_
  go_simp
  refine hK _ _ SD.out ?_
  clear hK K
  refine held_gw 14 rfl (by kernel_rfl) (by kernel_rfl) fun K hK => ?_
  go_simp
  refine hK _ _ SD.out ?_
  clear hK K
  refine held_gw 15 rfl (by kernel_rfl) (by kernel_rfl) fun K hK => ?_
  go_simp
  refine hK _ _ SD.out ?_
  clear hK K
  refine held_gw 16 rfl (by kernel_rfl) (by kernel_rfl) fun K hK => ?_
  go_simp
  refine hK _ _ SD.out ?_
  clear hK K
  refine held_gw 17 rfl (by kernel_rfl) (by kernel_rfl) fun K hK => ?_
  go_simp
  refine hK _ _ SD.out ?_
  clear hK K
  refine held_gw 18 rfl (by kernel_rfl) (by kernel_rfl) fun K hK => ?_
  go_simp
  refine hK _ _ SD.out ?_
  clear hK K
  refine held_gw 19 rfl (by kernel_rfl) (by kernel_rfl) fun K hK => ?_
  go_simp
  refine hK _ _ SD.out ?_
  clear hK K
  refine held_gw 20 rfl (by kernel_rfl) (by kernel_rfl) fun K hK => ?_
  go_simp
  refine hK _ _ SD.out ?_
  clear hK K
  refine held_gw 21 rfl (by kernel_rfl) (by kernel_rfl) fun K hK => ?_
  go_simp
  refine hK _ _ SD.out ?_
  clear hK K
  refine held_gw 22 rfl (by kernel_rfl) (by kernel_rfl) fun K hK => ?_
  go_simp
  refine hK _ _ SD.out ?_
  clear hK K
  refine held_gw 23 rfl (by kernel_rfl) (by kernel_rfl) fun K hK => ?_
  go_simp
  refine hK _ _ SD.out ?_
  clear hK K
  refine held_gw 24 rfl (by kernel_rfl) (by kernel_rfl) fun K hK => ?_
  go_simp
  refine hK _ _ SD.out ?_
  clear hK K
  refine held_gw 25 rfl (by kernel_rfl) (by kernel_rfl) fun K hK => ?_
  go_simp
  refine hK _ _ SD.out ?_
  clear hK K
  refine held_gw 26 rfl (by kernel_rfl) (by kernel_rfl) fun K hK => ?_
  go_simp
  refine hK _ _ SD.out ?_
  clear hK K
  refine held_gw 27 rfl (by kernel_rfl) (by kernel_rfl) fun K hK => ?_
  go_simp
  refine hK _ _ SD.out ?_
  clear hK K
  refine held_gw 28 rfl (by kernel_rfl) (by kernel_rfl) fun K hK => ?_
  go_simp
  refine hK _ _ SD.out ?_
  clear hK K
  refine held_gw 29 rfl (by kernel_rfl) (by kernel_rfl) fun K hK => ?_
  go_simp
  refine hK _ _ SD.out ?_
  clear hK K
  refine held_gw 30 rfl (by kernel_rfl) (by kernel_rfl) fun K hK => ?_
  go_simp
  refine hK _ _ SD.out ?_
  clear hK K
  refine held_gw 31 rfl (by kernel_rfl) (by kernel_rfl) fun K hK => ?_
  go_simp
  refine hK _ _ SD.out ?_
  clear hK K
  refine held_gw 32 rfl (by kernel_rfl) (by kernel_rfl) fun K hK => ?_
  go_simp
  refine hK _ _ SD.out ?_
  clear hK K
  refine held_gw 33 rfl (by kernel_rfl) (by kernel_rfl) fun K hK => ?_
  go_simp
  refine hK _ _ SD.out ?_
  clear hK K
  refine held_gw 34 rfl (by kernel_rfl) (by kernel_rfl) fun K hK => ?_
  go_simp
  refine hK _ _ SD.out ?_
  clear hK K
  refine held_gw 35 rfl (by kernel_rfl) (by kernel_rfl) fun K hK => ?_
  go_simp
  refine hK _ _ SD.out ?_
  clear hK K
  refine held_gw 36 rfl (by kernel_rfl) (by kernel_rfl) fun K hK => ?_
  go_simp
  refine hK _ _ SD.out ?_
  clear hK K
  refine held_gw 37 rfl (by kernel_rfl) (by kernel_rfl) fun K hK => ?_
  go_simp
  refine hK _ _ SD.out ?_
  clear hK K
  refine held_gw 38 rfl (by kernel_rfl) (by kernel_rfl) fun K hK => ?_
  go_simp
  refine hK _ _ SD.out ?_
  clear hK K
  refine held_gw 39 rfl (by kernel_rfl) (by kernel_rfl) fun K hK => ?_
  go_simp
  refine hK _ _ SD.out ?_
  clear hK K
  refine held_gw 40 rfl (by kernel_rfl) (by kernel_rfl) fun K hK => ?_
  go_simp
  refine hK _ _ SD.out ?_
  clear hK K
  refine held_gw 41 rfl (by kernel_rfl) (by kernel_rfl) fun K hK => ?_
  go_simp
  refine hK _ _ SD.out ?_
  clear hK K
  clear x0 x1 x2 x3 x4 x5 x6 x7 x8 x9 x10 x11 x12 x13
  refine held_gw 42 rfl (by kernel_rfl) (by kernel_rfl) fun K hK => ?_
  go_simp
  go_at_call 25
  refine (PV.out WD (ms_below MS.out SD.out)).mono ?_
  rintro e V2 ⟨rfl, hb⟩
  refine hK _ _ (SD.out.trans (hb.mono SD.out.size)) ?_
  clear hK K
  have S1 := Lib.hid (SD.out.trans (hb.mono SD.out.size))
  clear hb SD
  refine held_gw 43 rfl (by kernel_rfl) (by kernel_rfl) fun K hK => ?_
  go_simp
  refine hK _ _ S1.out ?_
  clear hK K
  refine held_gw 44 rfl (by kernel_rfl) (by kernel_rfl) fun K hK => ?_
  go_simp
  refine hK _ _ S1.out ?_
  clear hK K
  refine wpAnyH_take (i := 45) (v := .pointer (some ⟨w.heap.size, 3, none⟩)) rfl (by kernel_rfl) (by kernel_rfl) (by kernel_rfl) (fun _ _ _ h => h) (Or.inl ⟨by kernel_rfl, fun w' hw' => by
    skip
    go_simp⟩) S1.out ?_
  refine wpAnyH_take (i := 46) (v := .int .i64 16) rfl (by kernel_rfl) (by kernel_rfl) (by kernel_rfl) (fun _ _ _ h => h) (Or.inl ⟨by kernel_rfl, fun w' hw' => by
    obtain ⟨x0, x1, x2, x3, x4, x5, x6, x7, x8, x9, x10, x11, x12, x13⟩ := bx14 ((hw'.block _ (lt_of_some HG.out)).trans HG.out)
    go_simp⟩) S1.out ?_
  refine wpAnyH_take (i := 47) (v := .pointer (some ⟨w.heap.size, 4, none⟩)) rfl (by kernel_rfl) (by kernel_rfl) (by kernel_rfl) (fun _ _ _ h => h) (Or.inl ⟨by kernel_rfl, fun w' hw' => by
    skip
    go_simp⟩) S1.out ?_
  refine wpAnyH_take (i := 48) (v := .pointer (some ⟨w.heap.size, 12, none⟩)) rfl (by kernel_rfl) (by kernel_rfl) (by kernel_rfl) (fun _ _ _ h => h) (Or.inl ⟨by kernel_rfl, fun w' hw' => by
    skip
    go_simp⟩) S1.out ?_
  refine wpAnyH_take (i := 49) (v := .int .i64 0) rfl (by kernel_rfl) (by kernel_rfl) (by kernel_rfl) (fun _ _ _ h => h) (Or.inl ⟨by kernel_rfl, fun w' hw' => by
    obtain ⟨x0, x1, x2, x3, x4, x5, x6, x7, x8, x9, x10, x11, x12, x13⟩ := bx14 ((hw'.block _ (lt_of_some HG.out)).trans HG.out)
    go_simp⟩) S1.out ?_
  refine wpAnyH_take (i := 50) (v := .int .i64 16) rfl (by kernel_rfl) (by kernel_rfl) (by kernel_rfl) (fun _ _ _ h => h) (Or.inl ⟨by kernel_rfl, fun w' hw' => by
    have e16 : IntKind.i64.wrap 16 = 16 := rfl
    go_simp⟩) S1.out ?_
  refine wpAnyH_take (i := 51) (v := .pointer (some ⟨w.heap.size, 4, none⟩)) rfl (by kernel_rfl) (by kernel_rfl) (by kernel_rfl) (fun _ _ _ h => h) (Or.inl ⟨by kernel_rfl, fun w' hw' => by
    skip
    go_simp⟩) S1.out ?_
  refine wpAnyH_take (i := 52) (v := .pointer (some ⟨w.heap.size, 13, none⟩)) rfl (by kernel_rfl) (by kernel_rfl) (by kernel_rfl) (fun _ _ _ h => h) (Or.inl ⟨by kernel_rfl, fun w' hw' => by
    skip
    go_simp⟩) S1.out ?_
  refine wpAnyH_take (i := 53) (v := .int .i64 0) rfl (by kernel_rfl) (by kernel_rfl) (by kernel_rfl) (fun _ _ _ h => h) (Or.inl ⟨by kernel_rfl, fun w' hw' => by
    obtain ⟨x0, x1, x2, x3, x4, x5, x6, x7, x8, x9, x10, x11, x12, x13⟩ := bx14 ((hw'.block _ (lt_of_some HG.out)).trans HG.out)
    go_simp⟩) S1.out ?_
  refine held_gw 54 rfl (by kernel_rfl) (by kernel_rfl) fun K hK => ?_
  go_simp
  refine hK _ _ S1.out ?_
  clear hK K
  refine held_gw 55 rfl (by kernel_rfl) (by kernel_rfl) fun K hK => ?_
  go_simp
  refine hK _ _ S1.out ?_
  clear hK K
  refine held_gw 56 rfl (by kernel_rfl) (by kernel_rfl) fun K hK => ?_
  go_simp
  refine hK _ _ S1.out ?_
  clear hK K
  refine held_gw 57 rfl (by kernel_rfl) (by kernel_rfl) fun K hK => ?_
  go_simp
  refine hK _ _ S1.out ?_
  clear hK K
  refine wpAnyH_take (i := 58) (v := .pointer (some ⟨w.heap.size, 4, none⟩)) rfl (by kernel_rfl) (by kernel_rfl) (by kernel_rfl) (fun _ _ _ h => h) (Or.inl ⟨by kernel_rfl, fun w' hw' => by
    skip
    go_simp⟩) S1.out ?_
  refine wpAnyH_take (i := 59) (v := .agg #[s0, s1, s2, s3, s4, s5, s6, s7, .int .i64 0, .int .i64 0]) rfl (by kernel_rfl) (by kernel_rfl) (by kernel_rfl) (fun _ _ _ h => h) (Or.inl ⟨by kernel_rfl, fun w' hw' => by
    obtain ⟨x0, x1, x2, x3, x4, x5, x6, x7, x8, x9, x10, x11, x12, x13⟩ := bx14 ((hw'.block _ (lt_of_some HG.out)).trans HG.out)
    go_simp⟩) S1.out ?_
  refine wpAnyH_take (i := 61) (v := .pointer (some ⟨w.heap.size, 3, none⟩)) rfl (by kernel_rfl) (by kernel_rfl) (by kernel_rfl) (fun _ _ _ h => h) (Or.inl ⟨by kernel_rfl, fun w' hw' => by
    skip
    go_simp⟩) S1.out ?_
  refine wpAnyH_take (i := 62) (v := .int .i64 16) rfl (by kernel_rfl) (by kernel_rfl) (by kernel_rfl) (fun _ _ _ h => h) (Or.inl ⟨by kernel_rfl, fun w' hw' => by
    obtain ⟨x0, x1, x2, x3, x4, x5, x6, x7, x8, x9, x10, x11, x12, x13⟩ := bx14 ((hw'.block _ (lt_of_some HG.out)).trans HG.out)
    go_simp⟩) S1.out ?_
  refine held_gw 60 rfl (by kernel_rfl) (by kernel_rfl) fun K hK => ?_
  go_simp
  go_at_call 29
  refine (PI.out V2 (ms_below MS.out S1.out)).mono ?_
  rintro e V3 ⟨⟨v2, rfl, hit⟩, hb⟩
  refine hK _ _ (S1.out.trans (hb.mono S1.out.size)) ?_
  clear hK K
  have PA := Lib.hid (papart_nil v2 16 V3 hit)
  obtain ⟨ai, ci, rfl, -, -⟩ := it_form hit
  clear hit
  have S2 := Lib.hid (S1.out.trans (hb.mono S1.out.size))
  clear hb S1
  refine held_gw 63 rfl (by kernel_rfl) (by kernel_rfl) fun K hK => ?_
  go_simp
  go_at_call 28
  refine PA.out.mono ?_
  rintro e V4 ⟨rfl, hb⟩
  refine hK _ _ (S2.out.trans (hb.mono S2.out.size)) ?_
  clear hK K
  have S9 := Lib.hid (S2.out.trans (hb.mono S2.out.size))
  clear hb S2
  refine held_gw 64 rfl (by kernel_rfl) (by kernel_rfl) fun K hK => ?_
  go_simp
  refine hK _ _ S9.out ?_
  clear hK K
  refine held_gw 65 rfl (by kernel_rfl) (by kernel_rfl) fun K hK => ?_
  go_simp
  refine hK _ _ S9.out ?_
  clear hK K
  refine wpAnyH_done (by kernel_rfl) ?_ _
  unfold onlyN
  dsimp only
  go_wp2
  go_ret
  exact ⟨rfl, B0.out.trans (S9.out.mono B0.out.size)⟩
end Go.Proofs.Ytempgcnpfjhacaa.Gf
