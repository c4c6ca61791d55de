/- What is proved here: apart of any items (program, package generation): the records do not overlap and end at most at the size. -/
import Derived.Test.YtbmlpafbdbhaiaaGreatDoorGs2
import Derived.Test.YtbmlpafbdbhaiaaGreatDoorJ11c
namespace Go.Proofs.YtbmlpafbdbhaiaaGreatDoor.Gf
open Go Go.RowKit Go.ChangeAt Go.Shelf Go.Proofs.YtbmlpafbdbhaiaaGreatDoor.Qt
set_option maxRecDepth 100000
set_option maxHeartbeats 204800000

attribute [local go_sem] Oper.semAt_some
theorem pgrec_any (n : Int) (hn : I64b n) (w : World) : Calls Tryz.prog 63 #[.int .i64 n] w fun e w' => e = .returned (.int .i64 (szI6 n)) ∧ w = w' := by
 go_enter Tryz.func63, Tryz.ntmps63
 go_wp2_with fail
 refine (psize_any n w hn).mono ?_
 rintro e w1 ⟨rfl, rfl⟩
 go_wp2_with fail
 go_ret
 exact ⟨rfl, rfl⟩
theorem keeps_below {W W' : World} (h : Below W.heap.size W W') : KeepsOthers W W' := ⟨h.size, fun l _ ho _ => (h.block l (lt_of_some ho)).trans ho⟩
theorem row_own {β : Type} (B : Nat) (t : TypeId) (f : β → Array Value) : Go.Own (fun s W => W.heap[B]? = some (.cells (f s) t (0, 0))) := fun s X Y row hs hg hrow =>
 (hg.block B (Array.getElem?_eq_some_iff.1 hs).1 (fun e' => by obtain ⟨o, ho, hc⟩ := hrow B e'.symm; rw [hs] at ho; cases ho; cases hc)).trans hs
theorem ok_J {y : Itm} (h : okI y) : J64 y.off ∧ I64b y.sz := by
 unfold okI at h
 unfold J64 I64b
 omega
theorem ok_sum {y : Itm} (h : okI y) : IntKind.i64.wrap (y.off + szI6 y.sz) = y.off + szI6 y.sz ∧ wrap64 (y.off + szI6 y.sz) = y.off + szI6 y.sz := by
 have h1 := szT_bd y
 unfold szT at h1
 unfold okI at h
 generalize szI6 y.sz = z at *
 exact ⟨IntWalk.i64_in _ (by omega), by unfold wrap64; omega⟩
theorem szT_pos {y : Itm} (h : okI y) : 0 < szT y := by
 unfold okI at h
 unfold szT szI6
 rw [if_neg (by omega)]
 omega
open Classical in
noncomputable def apB (L : List Itm) (n : Int) : Bool := decide (apL L n)
theorem apB_t {L : List Itm} {n : Int} (h : apL L n) : apB L n = true := by unfold apB; exact @decide_eq_true _ (Classical.propDecidable _) h
theorem apB_f {L : List Itm} {n : Int} (h : ¬ apL L n) : apB L n = false := by unfold apB; exact @decide_eq_false _ (Classical.propDecidable _) h
theorem papart_some (b off n c : Nat) (L : List Itm) (sz : Int) (w : World) (hn : n = L.length) (h0 : 0 < n) (hlen : L.length ≤ 10000) (hok : ∀ x ∈ L, okI x) (hsz : J64 sz) (sl : It w (.slice (some ⟨b, off, none⟩) n c) L) : Calls Tryz.prog 49 #[.slice (some ⟨b, off, none⟩) n c, .int .i64 sz] w fun e w' => e = .returned (.bool (apB L sz)) ∧ Below w.heap.size w w' := by
 have q0 := bel_al0 w (.cells #[.bool false] 4)
 have HG := Lh (heap_alloc_new w (.cells #[.bool false] 4))
 have SL := it_below sl q0
 have B0 := Lh q0
 rw [hn] at SL
 have PCL := Lh (pcloneT_any ⟨b, off, none⟩ c L _ SL (by omega))
 rw [← hn] at PCL
 have HN := Lh (And.intro hn (And.intro h0 hlen))
 have HOK := Lh hok
 have HL0 := Lh (show w.heap.size < (w.alloc (.cells #[.bool false] 4)).heap.size by rw [World.size_alloc]; exact Nat.lt_succ_self _)
 have HSZ := Lh hsz
 clear sl q0 SL hn h0 hlen hok hsz
 refine (callsIn_wide (n := 4)).1 ?_
 refine callsIn_of_wp_marks Tryz.func49 rfl trivial ?_ rfl
 refine wpIn_wide.2 ?_
 simp only [Tryz.ntmps49, List.size_toArray, List.length_cons, List.length_nil, Nat.reduceAdd, Nat.reduceSub, Array.replicate_succ, Array.replicate_zero, List.push_toArray, List.append_toArray, List.nil_append, List.cons_append]
 go_upto_region 1 with fail
 generalize hw0 : w.alloc (.cells #[.bool false] 4) = W0 at *
 go_wp2_with fail
 refine PCL.out.mono ?_
 rintro e W1 ⟨⟨v1, rfl, ho⟩, hb⟩
 have HG1 := Lh ((hb.block _ (lt_of_some HG.out)).trans HG.out)
 have B1 := Lh (btA B0.out hb)
 have HZ1 := Lh hb.size
 obtain ⟨a2, c2, rfl, -, -⟩ := owT_form ho
 rw [← HN.out.1] at ho ⊢
 obtain ⟨g, rfl, hg⟩ : ∃ g, a2 = some ⟨g, 0, none⟩ ∧ W0.heap.size ≤ g := by
  obtain ⟨-, -, ⟨h1, h2⟩ | ⟨g, cap, cur, h1, hg, -⟩⟩ := ho
  ·exact absurd h2 (by have := HN.out; omega)
  ·obtain ⟨rfl, -, -⟩ : a2 = some ⟨g, 0, none⟩ ∧ n = L.length ∧ c2 = cap := by simpa using h1
   exact ⟨g, rfl, hg⟩
 have PS := Lh (psortI_any g n c2 L W1 HN.out.1 ho (by have := HN.out.2.2; omega) hb.size)
 have HGL := Lh (holds_own HN.out.1 ho).2
 clear hb PCL HG B0 hw0 ho hg
 go_wp2_with fail
 refine PS.out.mono ?_
 rintro e W2 ⟨rfl, M, hM, hS, hC, hb⟩
 have HG2 := Lh ((hb.block _ HL0.out).trans HG1.out)
 have B2 := Lh (B1.out.trans (hb.mono (Nat.le_of_lt HL0.out)))
 have HSZ2 := Lh hb.size
 have HC2 := Lh hC
 have HMP := Lh hM
 have HMS := Lh hS
 clear hb HG1 B1 PS hC hM hS
 go_upto_region 4 with fail
 have hb := bel_al0 W2 (.cells #[.int .i64 sz] 2)
 have HE3 := Lh (heap_alloc_new W2 (.cells #[.int .i64 sz] 2))
 have HG3 := Lh ((hb.block _ (lt_of_some HG2.out)).trans HG2.out)
 have B3 := Lh (btA B2.out hb)
 have HC3 := Lh (fun j hj => (HC2.out j hj).below hb)
 have HSZ3 := Lh (show W2.heap.size < (W2.alloc (.cells #[.int .i64 sz] 2)).heap.size by rw [World.size_alloc]; exact Nat.lt_succ_self _)
 clear hb HG2 B2 HC2
 have HGE := Lh (show g < W2.heap.size from Nat.lt_of_lt_of_le HGL.out.2 HSZ2.out)
 generalize W2.alloc (.cells #[.int .i64 sz] 2) = W3 at *
 generalize W2.heap.size = bE at *
 go_wp2_with fail
 refine (pbackI_any (some ⟨g, 0, none⟩) n c2 W3).mono ?_
 rintro e W4 ⟨rfl, hW4⟩
 have hA1 := bel_al0 W3 (.cells #[.slice (some ⟨g, 0, none⟩) n c2] 38)
 have hbs := heap_alloc_new W3 (.cells #[.slice (some ⟨g, 0, none⟩) n c2] 38)
 rw [← hW4] at hA1 hbs
 have HG4 := Lh (show Boxed W4 w.heap.size 4 (.bool false) from (hA1.block _ (lt_of_some HG3.out)).trans HG3.out)
 have HE4 := Lh (show Boxed W4 bE 2 (.int .i64 sz) from (hA1.block _ (lt_of_some HE3.out)).trans HE3.out)
 have B4 := Lh (btA B3.out hA1)
 have HC4 := Lh (fun j hj => (HC3.out j hj).below hA1)
 have HSZ4 := Lh hA1.size
 have hlt3 := lt_of_some hbs
 have hsz3 := HSZ3.out
 clear hW4 hA1 HG3 B3 HC3 HE3 HSZ3
 generalize W3.heap.size = bs at *
 have STP := pbackI_stops Fence.wide 3 trivial rfl (by decide) bs bE g 0 n c2 (some ⟨g, 0, none⟩) (fun j => .int .u64 ((M.getD j z0).key : Int)) (fun j => .int .u32 ((M.getD j z0).ck : Int)) (fun j => .int .i64 (M.getD j z0).off) (fun j => .int .i64 (M.getD j z0).sz) (by have := HN.out; omega) (fun _ => ⟨rfl, HGE.out⟩) W4 (by omega) hbs (fun j hj => by
  have h := HC4.out j hj
  rw [Nat.zero_add]
  exact ⟨h.c0, h.c1, h.c2, h.c3⟩)
 have HLT := Lh (And.intro hlt3 (And.intro hsz3 HL0.out))
 have HBS := Lh (show Boxed W4 bs 38 (.slice (some ⟨g, 0, none⟩) n c2) from hbs)
 clear hbs hlt3 hsz3
 go_wp2_with fail
 have HBO := Lh (And.intro B4.out (And.intro HE4.out HG4.out))
 refine (wpIn_wide (n := 4)).1 ?_
 refine wpIn_rangeFunc_ownH (n := 4) rfl (by decide) (gf := 117) (lb := #[.pointer (some ⟨bs, 0, none⟩)]) rfl trivial (enters_of Tryz.func117 (by kernel_rfl) rfl)
  STP (fun h h2 => KpX.trans h h2) (fun W l o o' hl ho hoc _ => ⟨belowK_b (n₀ := bE) (w := W4) (by have := HLT.out; have := HSZ4.out; omega) W l o o' hl ho hoc (by assumption), World.putObj_heap_other (by have := HLT.out; omega)⟩) (Below.refl _ _) (fun _ => rfl)
  (fun pre W => ((Boxed W bE 2 (.int .i64 (stE M sz pre)) ∧ Boxed W w.heap.size 4 (.bool false)) ∧ (Boxed W bs 38 (.slice (some ⟨g, 0, none⟩) n c2) ∧ okE M sz pre)) ∧ Below w.heap.size w W)
  (fun c pre W => ((c = .ret ∧ (∃ p x, pre = p ++ [x] ∧ stE M sz p < (M.getD x.1 z0).off + szT (M.getD x.1 z0))) ∧ Boxed W w.heap.size 4 (.bool false)) ∧ Below w.heap.size w W)
  (OwnFrom.and (OwnFrom.and (OwnFrom.and (Go.Own.from (boxed_own _ _ (fun pre => .int .i64 (stE M sz pre))) _) (Go.Own.from (boxed_own _ _ (fun _ => .bool false)) _)) (OwnFrom.and (Go.Own.from (boxed_own _ _ (fun _ => .slice (some ⟨g, 0, none⟩) n c2)) _) (Go.Own.from (fun _ _ _ _ hs _ _ => hs) _))) (ownFrom_below (Nat.le_refl _) B4.out.size))
  (fun _ => OwnFrom.and (OwnFrom.and (Go.Own.from (fun _ _ _ _ hs _ _ => hs) _) (Go.Own.from (boxed_own _ _ (fun _ => .bool false)) _)) (ownFrom_below (Nat.le_refl _) B4.out.size))
  ⟨⟨⟨HE4.out, HG4.out⟩, HBS.out, okE_nil M sz⟩, B4.out⟩
  (fun x a' W => ∃ Bx, W.heap[Bx]? = some (.cells #[.int .u64 ((M.getD x.1 z0).key : Int), .int .u32 ((M.getD x.1 z0).ck : Int), .int .i64 (M.getD x.1 z0).off, .int .i64 (M.getD x.1 z0).sz] 56 (0, 0)) ∧ a' = { tmps := #[.slice (some ⟨g, 0, none⟩) n c2, .int .i64 sz, undef, undef, .pointer (some ⟨w.heap.size, 0, none⟩), .pointer (some ⟨bE, 0, none⟩), undef, .pointer (some ⟨Bx, 0, none⟩), .slice (some ⟨b, off, none⟩) n c, .slice (some ⟨g, 0, none⟩) n c2, .slice (some ⟨g, 0, none⟩) n c2, .tuple #[], .int .i64 sz, .slice (some ⟨g, 0, none⟩) n c2, .func (.func 117) #[] #[.pointer (some ⟨bs, 0, none⟩)], .int .i64 (x.1 : Int), .agg #[.int .u64 ((M.getD x.1 z0).key : Int), .int .u32 ((M.getD x.1 z0).ck : Int), .int .i64 (M.getD x.1 z0).off, .int .i64 (M.getD x.1 z0).sz], undef, undef, undef, undef, undef, undef, undef, undef, undef, undef], defers := [] })
  (fun x a' _ X Y row hs hg hr => by obtain ⟨Bx, h2, h3⟩ := hs; exact ⟨Bx, row_own Bx 56 (fun (_ : Unit) => #[.int .u64 ((M.getD x.1 z0).key : Int), .int .u32 ((M.getD x.1 z0).ck : Int), .int .i64 (M.getD x.1 z0).off, .int .i64 (M.getD x.1 z0).sz]) () X Y row h2 hg (fun r e => (hr r e).2), h3⟩)
  ?assign ?body ?done ?stop
 case assign =>
  rintro l' pre x W K ⟨⟨⟨hE, hR⟩, hT, hO⟩, hB⟩ hK
  dsimp only at hK ⊢
  generalize M.getD x.1 z0 = y at hK ⊢
  gi_wp2
  have hbw := bel_al0 W (.cells #[.int .u64 (y.key : Int), .int .u32 (y.ck : Int), .int .i64 y.off, .int .i64 y.sz] 56)
  have hsz := hB.size
  have hle := hE.lt
  exact hK _ _ ((KeepsOthers.alloc _ _).from _) ⟨hbw.mono (Nat.le_of_lt hle), hbw.block _ hT.lt⟩ ⟨⟨⟨hE.alloc _, hR.alloc _⟩, hT.alloc _, hO⟩, btA hB hbw⟩ ⟨W.heap.size, heap_alloc_new W _, rfl⟩
 case body =>
  rintro l' pre x a' W hl ⟨r, hr⟩ ⟨⟨⟨hE, hR⟩, hT, hO⟩, hB⟩ ⟨Bx, hX, rfl⟩ hlt
  have hxM : M.getD x.1 z0 ∈ M := getT_mem (by have := HMP.out.length_eq; have := HN.out.1; have := x.2; omega)
  have hokx := HOK.out _ (HMP.out.mem_iff.1 hxM)
  have hj := (HMP.out.mem_iff.1 hxM)
  generalize hy : M.getD x.1 z0 = y at *
  have cE := hE.cell
  obtain ⟨⟨x0, x1, x2, x3⟩, -⟩ := bx4 hX
  have HXX := Lh hX
  have HH := Lh (And.intro (And.intro hE hR) (And.intro hT hO))
  have HBB := Lh hB
  have HY := Lh hy
  have hI := ok_J hokx
  have HRC := Lh (fun W => pgrec_any y.sz hI.2 W)
  have hsum : IntKind.i64.wrap (y.off + szI6 y.sz) = y.off + szI6 y.sz ∧ wrap64 (y.off + szI6 y.sz) = y.off + szI6 y.sz := ok_sum hokx
  obtain ⟨hs1, hs2⟩ := hsum
  obtain ⟨eS, heS⟩ : ∃ e, e = stE M sz pre := ⟨_, rfl⟩
  rw [← heS] at cE
  obtain ⟨eN, heN⟩ : ∃ e, e = y.off + szI6 y.sz := ⟨_, rfl⟩
  have HES := Lh heS
  have HEN := Lh heN
  rw [← heN] at hs1 hs2
  clear hX hE hR hT hO hB hxM hokx hj hI hy heS heN
  gi_wp2_with fail
  refine wpIn_region_headsS (fun w' => w' = W.drew) [0, 1, 2, 3, 6] 3 (by kernel_rfl) (by kernel_rfl) (fun ⟨_, _, h0⟩ => h0) (fun _ _ _ _ _ h => h.elim) (by kernel_rfl) (by rfl) (by rfl) rfl ?_
  simp only [pickOps, List.filterMap_cons, List.filterMap_nil, List.getElem?_toArray, List.getElem?_cons_zero, List.getElem?_cons_succ]
  refine wpHeads_step (fun K hK => ?_)
  go_simp
  refine hK _ ?_
  clear hK K
  refine wpHeads_step (fun K hK => ?_)
  go_simp
  refine hK _ ?_
  clear hK K
  refine wpHeads_step (fun K hK => ?_)
  go_simp
  refine hK _ ?_
  clear hK K
  refine wpHeads_step (fun K hK => ?_)
  go_simp
  refine hK _ ?_
  clear hK K
  refine wpHeads_step (fun K hK => ?_)
  go_simp
  refine hK _ ?_
  clear hK K
  refine wpHeads_nil ?_
  refine held_one 4 rfl rfl (by kernel_rfl) fun K hK => ?_
  go_simp
  go_at_call 63
  refine (HRC.out _).mono ?_
  rintro e W3 ⟨rfl, rfl⟩
  refine hK _ _ rfl ?_
  clear hK K
  refine held_one 5 rfl rfl (by kernel_rfl) fun K hK => ?_
  go_simp
  refine hK _ _ rfl ?_
  clear hK K
  refine held_one 7 rfl rfl (by kernel_rfl) fun K hK => ?_
  go_simp
  refine hK _ _ rfl ?_
  clear hK K
  refine wpAnyH_done (by kernel_rfl) ?_ _

  rw [← HEN.out, hs1]
  have hb2 : Below W.heap.size W W.drew := (Below.refl _ _).drew
  have hE := HH.out.1.1
  have hR := HH.out.1.2
  have hT := HH.out.2.1
  have fR := hR.frozen
  have cR := hR.cell
  have fE := hE.frozen
  clear hs1 hs2 HRC hE hR hT
  by_cases hlt2 : eS < eN
  ·rw [decide_eq_true hlt2]
   have HL2 := Lh hlt2
   clear hlt2
   gi_wp2
   have hE := HH.out.1.1
   have hR := HH.out.1.2
   exact ⟨((keeps_below hb2).trans (KeepsOthers.setCell _ _ _)).from _, ⟨⟨rfl, pre, x, rfl, by have h := HL2.out; rw [HES.out, HEN.out] at h; rw [HY.out]; exact h⟩, hR.set (.bool false)⟩, (btA HBB.out hb2).setCell (p := ⟨w.heap.size, 0, none⟩) (Nat.le_refl _) _⟩
  ·rw [decide_eq_false hlt2]
   have HL2 := Lh hlt2
   clear hlt2
   gi_wp2
   have hE := HH.out.1.1
   have hR := HH.out.1.2
   have hT := HH.out.2.1
   have hl := HLT.out
   have hne1 : bE ≠ w.heap.size := by have := HGE.out; have := HGL.out.1; omega
   have hne2 : bs ≠ bE := by have := hl.2.1; omega
   exact ⟨((keeps_below hb2).trans (KeepsOthers.setCell _ _ _)).from _, ⟨(hb2.mono (Nat.le_of_lt hE.lt)).setCell (p := ⟨bE, 0, none⟩) (Nat.le_refl _) _, other1 hne2⟩, ⟨⟨by rw [stE_snoc, HY.out]; exact hE.set _, (other1 hne1.symm).trans hR⟩, (other1 hne2).trans hT, okE_snoc HH.out.2.2 (by have h := HL2.out; rw [HES.out, HEN.out] at h; rw [HY.out]; first | exact h | exact Int.not_lt.1 h)⟩, (btA HBB.out hb2).setCell (p := ⟨bE, 0, none⟩) (by show w.heap.size ≤ bE; have := HGE.out; have := HGL.out.1; have := hl.2.2; omega) _⟩
 case done =>
  rintro D ys W hD rfl ⟨⟨⟨hE, hR⟩, hT, hO⟩, hB⟩ hK
  have fG := hR.frozen
  have cG := hR.cell
  have HDD := Lh hD
  have HRR := Lh hR
  have HBB := Lh hB
  have HOO := Lh (apB_t ((apL_perm HMP.out sz).1 ((ap_chain HMS.out (fun x hx => szT_pos (HOK.out x (HMP.out.mem_iff.1 hx)))).2 ((okE_dn (by have := HMP.out.length_eq; have := HN.out.1; omega)).1 hO))))
  clear hE hR hT hO hB hD STP
  go_wp2
  have hd2 := HDD.out
  have hl := HLT.out
  have hs4 := HSZ4.out
  have hK2 : (W.setCell ⟨w.heap.size, 0, none⟩ (.bool true)).heap[D]? = some (.deferred (some [])) := (other1 (by have := HBO.out.1.size; have := HRR.out.lt; have := HGE.out; have := HGL.out.1; omega)).trans hK
  refine ⟨by simp, .inl ⟨_, _, rfl, run_takeDeferred hK2, ?_⟩⟩
  have hx : ((W.setCell ⟨w.heap.size, 0, none⟩ (.bool true)).putObj D (.deferred none)).heap[w.heap.size]? = some (.cells #[.bool true] 4 (0, 0)) := (World.putObj_heap_other (by have := HGE.out; have := HGL.out.1; omega)).trans (HRR.out.set (.bool true))
  have hb1 := HBB.out.setCell (p := ⟨w.heap.size, 0, none⟩) (Nat.le_refl _) (.bool true)
  exact ⟨_, results_c1 (T := 4) rfl rfl (agg_bool _) (cell_of_row _ _ 0 _ _ _ hx), by rw [HOO.out]; rfl, hb1.trans (belowK_b (w := w) (Nat.le_refl _) _ D _ _ (by have := HGE.out; have := HGL.out.1; omega) hK2 rfl rfl)⟩
 case stop =>
  rintro D c pre W hD ⟨k, hk, rfl⟩ ⟨⟨⟨rfl, p, x, hpx, hlt⟩, hR⟩, hB⟩ hK
  have HDD := Lh hD
  have HRR := Lh hR
  have HBB := Lh hB
  have HOO := Lh (apB_f (fun h => by
   have h1 := (okE_dn (n := n) (sz := sz) (by have := HMP.out.length_eq; have := HN.out.1; omega)).2 ((ap_chain HMS.out (fun x hx => szT_pos (HOK.out x (HMP.out.mem_iff.1 hx)))).1 ((apL_perm HMP.out sz).2 h))
   have h2 := h1 p x ((dn n n).drop k) (by rw [show p ++ x :: (dn n n).drop k = (p ++ [x]) ++ (dn n n).drop k by simp, ← hpx, ← dn_take n k hk (Nat.le_refl _), List.take_append_drop])
   omega))
  clear hR hB hD STP hpx hlt
  gi_wp2
  have hd2 := HDD.out
  have hl := HLT.out
  have hs4 := HSZ4.out
  refine ⟨by simp, .inl ⟨_, _, rfl, run_takeDeferred hK, ?_⟩⟩
  have hx : (W.putObj D (.deferred none)).heap[w.heap.size]? = some (.cells #[.bool false] 4 (0, 0)) := (World.putObj_heap_other (by have := HGE.out; have := HGL.out.1; omega)).trans HRR.out
  exact ⟨_, results_c1 (T := 4) rfl rfl (agg_bool _) (cell_of_row _ _ 0 _ _ _ hx), by rw [HOO.out]; rfl, HBB.out.trans (belowK_b (w := w) (Nat.le_refl _) _ D _ _ (by have := HGE.out; have := HGL.out.1; omega) hK rfl rfl)⟩
end Go.Proofs.YtbmlpafbdbhaiaaGreatDoor.Gf
