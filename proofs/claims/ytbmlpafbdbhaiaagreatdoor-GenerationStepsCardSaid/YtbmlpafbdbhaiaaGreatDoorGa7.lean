/- What is proved here: the walk of GenerationSteps. -/
import Derived.Test.YtbmlpafbdbhaiaaGreatDoorGa6
import Derived.Test.YtbmlpafbdbhaiaaGreatDoorGw3
namespace Go.Proofs.YtbmlpafbdbhaiaaGreatDoor.Gf
open Go Go.Joins Go.ChangeShapes Go.WideShapes Go.ChangeAt Go.RowKit Go.Deep Go.Proofs.YtbmlpafbdbhaiaaGreatDoor.By Go.Proofs.YtbmlpafbdbhaiaaGreatDoor.Qt
set_option maxRecDepth 100000
set_option maxHeartbeats 204800000
/-- What the loop of the law keeps. -/
structure StS (w : World) (p5 p6 : Nat) (gh ga : Ge) (v : Value) (M : List Rcd) (W : World) : Prop where
  b5 : BxG W p5 50 gh
  b6 : BxG W p6 50 ga
  nx : Nx W v M
  be : Below w.heap.size w W
theorem StS.below {w W W' : World} {p5 p6 : Nat} {gh ga : Ge} {v : Value} {M : List Rcd} (h : StS w p5 p6 gh ga v M W) (hb : Below W.heap.size W W') : StS w p5 p6 gh ga v M W' :=
  ⟨bxG_below h.b5 hb, bxG_below h.b6 hb, nx_below h.nx hb, h.be.trans (hb.mono h.be.size)⟩
theorem steps_next {g : Ge} {M : List Rcd} {i : Nat} (hg : OkA g 10 42016) (hM : ∀ x ∈ M, okR x) (hl : M.length ≤ 10) (hs : sumR M ≤ 42000) (hi : i < M.length) : OkA (gAdd g (M.take i)) 20 84016 ∧ addC (gAdd g (M.take i)) [M.getD i r0] = 0 ∧ addT (gAdd g (M.take i)) [M.getD i r0] = gAdd g (M.take (i + 1)) := by
  have hlt : (M.take i).length ≤ 10 := by rw [List.length_take]; omega
  obtain ⟨h1, -, -⟩ := okA_add hg (l := M.take i) (by omega) (fun x hx => hM x (List.mem_of_mem_take hx)) (y := 42000) (Int.le_trans (sumR_take M i) hs) (by decide)
  have h2 : OkA (gAdd g (M.take i)) 20 84016 := ⟨h1.ok, h1.st, Nat.le_trans h1.fl (by omega), h1.md, h1.sz⟩
  have hx : okR (M.getD i r0) := hM _ (getD_memR hi)
  obtain ⟨-, h4, h5⟩ := okA_add h2 (l := [M.getD i r0]) (by simp) (fun x hx2 => by rw [List.mem_singleton.1 hx2]; exact hx) (y := 4200) (by show szI6 _ + 0 ≤ _; have := (szI6_bd (M.getD i r0).sz).2; omega) (by decide)
  exact ⟨h2, h4, by rw [h5, gAdd_snoc, ← take_snocR hi]⟩
theorem steps_walk (v0 : Value) (n0 : Nat) (md : Int) (w : World) (s0 : Nr w v0 n0) (hsw : StrW w) : Calls Tryz.prog 6 #[v0, .int .i64 md] w fun e w' => e = .returned (.bool true) ∧ Below w.heap.size w w' := by
  obtain ⟨L, hL⟩ := ni_of_nr s0
  have NI0 := Lh hL
  have HSW := Lh hsw
  have HPO := Lh (ni_pos hL)
  have HMR := Lh (ok_smL (ni_pos hL))
  obtain ⟨q, hq⟩ : ∃ q, q = md % 8 := ⟨_, rfl⟩
  have EA : bits .and .i64 md 7 = q := by rw [hq]; exact and_lowI md 3 (by decide)
  have HQ := Lh (show 0 ≤ q ∧ q < 8 from by omega)
  clear s0 hsw hL hq
  go_enter Tryz.func6, Tryz.ntmps6
  go_wp2_with fail
  clear EA
  refine (made12_x v0 L q w NI0.out).mono ?_
  rintro e W1 ⟨⟨v, g, rfl, hgv, hok, hmd⟩, hb⟩
  have HMD := Lh (hmd (and24 HQ.out))
  have HOM := Lh hok
  have HGV := Lh hgv
  have B1 := Lh hb
  clear hb hok hmd hgv
  go_wp2_with fail
  refine (given12_any v g W1 HGV.out).mono ?_
  rintro e W1b ⟨rfl, hb⟩
  obtain ⟨s0, s1, s2, s3, s4, s5, s6, s7, hv, hm, hj⟩ := HGV.out
  subst hv
  have B1b := Lh (B1.out.trans (hb.mono B1.out.size))
  have MS := Lh (ms_below hm hb)
  have HJ := Lh hj
  have ON := Lh (gc_one hm)
  have hz := heap_alloc_new W1b (.cells #[.int .i64 0, .int .i64 0, .int .i64 0, .int .i64 0, .slice none 0 0, .slice none 0 0, .slice none 0 0, .slice none 0 0, .slice none 0 0, .slice none 0 0, .slice none 0 0, .slice none 0 0, .int .i64 0, .int .i64 0] 50)
  clear hb hm hj HGV B1
  go_upto_region 2 with ((with_reducible refine storeG W1b.heap.size _ #[.int .i64 g.num, .int .i64 g.rev, .int .i64 g.mode, .int .i64 g.size, s0, s1, s2, s3, s4, s5, s6, s7, .int .i64 g.m.live, .int .i64 g.m.garb] ?_ ?_ hz rfl rfl ON.out ?_); exact rfl; exact rfl)
  rw [World.setRow_alloc_new]
  have hb := bel_al W1b (.cells #[.int .i64 g.num, .int .i64 g.rev, .int .i64 g.mode, .int .i64 g.size, s0, s1, s2, s3, s4, s5, s6, s7, .int .i64 g.m.live, .int .i64 g.m.garb] 50)
  have HX := Lh (heap_alloc_new W1b (.cells #[.int .i64 g.num, .int .i64 g.rev, .int .i64 g.mode, .int .i64 g.size, s0, s1, s2, s3, s4, s5, s6, s7, .int .i64 g.m.live, .int .i64 g.m.garb] 50))
  have B2 := Lh (B1b.out.trans (hb.mono B1b.out.size))
  have NI2 := Lh (ni_belowL NI0.out B2.out)
  have MS2 := Lh (ms_below MS.out hb)
  have HGB := Lh (show w.heap.size ≤ W1b.heap.size from B1b.out.size)
  clear hb hz B1b MS ON
  generalize W1b.alloc (.cells #[.int .i64 g.num, .int .i64 g.rev, .int .i64 g.mode, .int .i64 g.size, s0, s1, s2, s3, s4, s5, s6, s7, .int .i64 g.m.live, .int .i64 g.m.garb] 50) = W2 at *
  generalize W1b.heap.size = p5 at *
  have HOA := Lh (HOM.out.okA HMD.out)
  have HLG := Lh HOM.out.lge
  have HAD := Lh (okA_add HOA.out (l := smL L) (by have := smL_le L; omega) HMR.out (sum_smL L) (by decide)).2
  have HOF := Lh (okA_add HOA.out (l := smL L) (by have := smL_le L; omega) HMR.out (sum_smL L) (by decide)).1
  go_cut [6, 7] from 17 to 24 (fun u6 u7 wz => ∃ p6 : Nat, u6 = .pointer (some ⟨p6, 0, none⟩) ∧ u7 = .int .i64 0 ∧ Hid (W2.heap.size ≤ p6) ∧ Hid (BxG wz p6 50 (gAdd g (smL L))) ∧ Hid (Below W2.heap.size W2 wz))
  case first =>
    refine wp_onlyN ?_
    refine wp_region_headsS (fun W' => Below W2.heap.size W2 W') [0, 1] 8 (by kernel_rfl) (fun _ _ _ _ _ h => h.elim) (by kernel_rfl) (by rfl) (by rfl) (Below.refl W2.heap.size W2).drew ?_
    simp only [pickOps, List.filterMap_cons, List.filterMap_nil, List.getElem?_toArray, List.getElem?_cons_zero, List.getElem?_cons_succ]
    refine wpHeads_step (fun K hK => ?_)
    go_simp
    refine ⟨.agg #[.int .i64 g.num, .int .i64 g.rev, .int .i64 g.mode, .int .i64 g.size, s0, s1, s2, s3, s4, s5, s6, s7, .int .i64 g.m.live, .int .i64 g.m.garb], fun w' hw' => by
      obtain ⟨x0, x1, x2, x3, x4, x5, x6, x7, x8, x9, x10, x11, x12, x13⟩ := bx14 ((hw'.block _ (lt_of_some HX.out)).trans HX.out)
      go_simp, hK _ ?_⟩
    clear hK K
    refine wpHeads_step (fun K hK => ?_)
    go_simp
    refine ⟨_, fun _ _ => rfl, hK _ ?_⟩
    clear hK K
    refine wpHeads_nil ?_
    have S0 := Lh (Below.refl W2.heap.size W2).drew
    generalize W2.drew = D0 at *
    refine held_two 2 7 rfl rfl rfl rfl (by kernel_rfl) (fun K hK => ?_) (fun K hK => ?_)
    · go_simp
      go_at_call 26
      refine (small_x _ L D0 (ni_belowL NI2.out S0.out)).mono ?_
      rintro e D1 ⟨⟨vs, rfl, hnx⟩, hb⟩
      have NX1 := Lh hnx
      have S1 := Lh (S0.out.trans (hb.mono S0.out.size))
      refine hK _ _ S1.out ?_
      clear hK K hb hnx
      refine held_two 3 7 rfl rfl rfl rfl (by kernel_rfl) (fun K hK => ?_) (fun K hK => ?_)
      · go_simp
        go_at_call 27
        refine (pgadd_x s0 s1 s2 s3 s4 s5 s6 s7 g vs (smL L) D1 (ms_below MS2.out S1.out) HJ.out HLG.out NX1.out (by have := smL_le L; omega)).mono ?_
        rintro e D2 ⟨⟨vx, rfl, hgx⟩, hb⟩
        rw [HAD.out.2] at hgx
        rw [HAD.out.1]
        have S2 := Lh (S1.out.trans (hb.mono S1.out.size))
        refine hK _ _ S2.out ?_
        clear hK K hb
        obtain ⟨ga, hga⟩ : ∃ ga, ga = gAdd g (smL L) := ⟨_, rfl⟩
        rw [← hga] at hgx
        have HGA := Lh hga
        obtain ⟨t0, t1, t2, t3, t4, t5, t6, t7, hvx, hmu, hju⟩ := hgx
        subst hvx
        have MU2 := Lh hmu
        have JU := Lh hju
        have ONU := Lh (gc_one hmu)
        clear hmu hju hga
        refine tky 4 _ rfl (fun _ _ => rfl) S2.out ?_
        refine tky 5 _ rfl (fun _ _ => rfl) S2.out ?_
        refine tky 6 _ rfl (fun _ _ => rfl) S2.out ?_
        refine gwq 7 fun K hK => ?_
        go_simp
        have hb := bel_al D2 (.cells #[.int .i64 0, .int .i64 0, .int .i64 0, .int .i64 0, .slice none 0 0, .slice none 0 0, .slice none 0 0, .slice none 0 0, .slice none 0 0, .slice none 0 0, .slice none 0 0, .slice none 0 0, .int .i64 0, .int .i64 0] 50)
        have hbk := heap_alloc_new D2 (.cells #[.int .i64 0, .int .i64 0, .int .i64 0, .int .i64 0, .slice none 0 0, .slice none 0 0, .slice none 0 0, .slice none 0 0, .slice none 0 0, .slice none 0 0, .slice none 0 0, .slice none 0 0, .int .i64 0, .int .i64 0] 50)
        have HGE := Lh (show W2.heap.size ≤ D2.heap.size from S2.out.size)
        obtain ⟨D3, hX⟩ : ∃ Y, Y = D2.alloc (.cells #[.int .i64 0, .int .i64 0, .int .i64 0, .int .i64 0, .slice none 0 0, .slice none 0 0, .slice none 0 0, .slice none 0 0, .slice none 0 0, .slice none 0 0, .slice none 0 0, .slice none 0 0, .int .i64 0, .int .i64 0] 50) := ⟨_, rfl⟩
        rw [← hX] at hb hbk ⊢
        have S3 := Lh (S2.out.trans (hb.mono S2.out.size))
        have HBK3 := Lh hbk
        have MU3 := Lh (ms_below MU2.out hb)
        refine hK _ _ S3.out ?_
        clear hK K hb hbk hX
        generalize D2.heap.size = gh6 at *
        refine gwq 8 fun K hK => ?_
        refine wp_store_row 50 _ _ rfl gh6 #[.int .i64 ga.num, .int .i64 ga.rev, .int .i64 ga.mode, .int .i64 ga.size, t0, t1, t2, t3, t4, t5, t6, t7, .int .i64 ga.m.live, .int .i64 ga.m.garb] (by rfl) (by rfl) 50 _ HBK3.out infoG14 rfl ONU.out ?_
        have S9 := Lh (below_setRowM S3.out HGE.out #[.int .i64 ga.num, .int .i64 ga.rev, .int .i64 ga.mode, .int .i64 ga.size, t0, t1, t2, t3, t4, t5, t6, t7, .int .i64 ga.m.live, .int .i64 ga.m.garb])
        have HX9 := Lh (setRow_heap D3 gh6 _ #[.int .i64 ga.num, .int .i64 ga.rev, .int .i64 ga.mode, .int .i64 ga.size, t0, t1, t2, t3, t4, t5, t6, t7, .int .i64 ga.m.live, .int .i64 ga.m.garb] _ _ HBK3.out)
        have MU9 := Lh (ms_setRowF MU3.out HBK3.out zeroG_u64 (cs := #[.int .i64 ga.num, .int .i64 ga.rev, .int .i64 ga.mode, .int .i64 ga.size, t0, t1, t2, t3, t4, t5, t6, t7, .int .i64 ga.m.live, .int .i64 ga.m.garb]))
        refine hK _ _ S9.out ?_
        clear hK K
        refine gwq 9 fun K hK => ?_
        go_simp
        refine hK _ _ S9.out ?_
        clear hK K
        refine wpAnyH_done (by kernel_rfl) ?_ _
        unfold onlyN
        dsimp only
        go_wp2_with fail
        go_meet
        exact ⟨gh6, rfl, rfl, HGE, Lh ⟨t0, t1, t2, t3, t4, t5, t6, t7, by rw [← HGA.out]; exact HX9.out, by rw [← HGA.out]; exact MU9.out, by rw [← HGA.out]; exact JU.out⟩, S9⟩
      · go_simp
        have hb := bel_al D1 (.cells #[.int .i64 0, .int .i64 0, .int .i64 0, .int .i64 0, .slice none 0 0, .slice none 0 0, .slice none 0 0, .slice none 0 0, .slice none 0 0, .slice none 0 0, .slice none 0 0, .slice none 0 0, .int .i64 0, .int .i64 0] 50)
        have hbk := heap_alloc_new D1 (.cells #[.int .i64 0, .int .i64 0, .int .i64 0, .int .i64 0, .slice none 0 0, .slice none 0 0, .slice none 0 0, .slice none 0 0, .slice none 0 0, .slice none 0 0, .slice none 0 0, .slice none 0 0, .int .i64 0, .int .i64 0] 50)
        have HGE := Lh (show W2.heap.size ≤ D1.heap.size from S1.out.size)
        obtain ⟨D2, hX⟩ : ∃ Y, Y = D1.alloc (.cells #[.int .i64 0, .int .i64 0, .int .i64 0, .int .i64 0, .slice none 0 0, .slice none 0 0, .slice none 0 0, .slice none 0 0, .slice none 0 0, .slice none 0 0, .slice none 0 0, .slice none 0 0, .int .i64 0, .int .i64 0] 50) := ⟨_, rfl⟩
        rw [← hX] at hb hbk ⊢
        have S2 := Lh (S1.out.trans (hb.mono S1.out.size))
        have HBK2 := Lh hbk
        have NX2 := Lh (nx_below NX1.out hb)
        refine hK _ _ S2.out ?_
        clear hK K hb hbk hX
        generalize D1.heap.size = gh6 at *
        refine gwq 3 fun K hK => ?_
        go_simp
        go_at_call 27
        refine (pgadd_x s0 s1 s2 s3 s4 s5 s6 s7 g vs (smL L) D2 (ms_below MS2.out S2.out) HJ.out HLG.out NX2.out (by have := smL_le L; omega)).mono ?_
        rintro e D3 ⟨⟨vx, rfl, hgx⟩, hb⟩
        rw [HAD.out.2] at hgx
        rw [HAD.out.1]
        have S3 := Lh (S2.out.trans (hb.mono S2.out.size))
        have HBK3 := Lh ((hb.block _ (lt_of_some HBK2.out)).trans HBK2.out)
        refine hK _ _ S3.out ?_
        clear hK K hb
        obtain ⟨ga, hga⟩ : ∃ ga, ga = gAdd g (smL L) := ⟨_, rfl⟩
        rw [← hga] at hgx
        have HGA := Lh hga
        obtain ⟨t0, t1, t2, t3, t4, t5, t6, t7, hvx, hmu, hju⟩ := hgx
        subst hvx
        have MU3 := Lh hmu
        have JU := Lh hju
        have ONU := Lh (gc_one hmu)
        clear hmu hju hga
        refine tky 4 _ rfl (fun _ _ => rfl) S3.out ?_
        refine tky 5 _ rfl (fun _ _ => rfl) S3.out ?_
        refine tky 6 _ rfl (fun _ _ => rfl) S3.out ?_
        refine gwq 8 fun K hK => ?_
        refine wp_store_row 50 _ _ rfl gh6 #[.int .i64 ga.num, .int .i64 ga.rev, .int .i64 ga.mode, .int .i64 ga.size, t0, t1, t2, t3, t4, t5, t6, t7, .int .i64 ga.m.live, .int .i64 ga.m.garb] (by rfl) (by rfl) 50 _ HBK3.out infoG14 rfl ONU.out ?_
        have S9 := Lh (below_setRowM S3.out HGE.out #[.int .i64 ga.num, .int .i64 ga.rev, .int .i64 ga.mode, .int .i64 ga.size, t0, t1, t2, t3, t4, t5, t6, t7, .int .i64 ga.m.live, .int .i64 ga.m.garb])
        have HX9 := Lh (setRow_heap D3 gh6 _ #[.int .i64 ga.num, .int .i64 ga.rev, .int .i64 ga.mode, .int .i64 ga.size, t0, t1, t2, t3, t4, t5, t6, t7, .int .i64 ga.m.live, .int .i64 ga.m.garb] _ _ HBK3.out)
        have MU9 := Lh (ms_setRowF MU3.out HBK3.out zeroG_u64 (cs := #[.int .i64 ga.num, .int .i64 ga.rev, .int .i64 ga.mode, .int .i64 ga.size, t0, t1, t2, t3, t4, t5, t6, t7, .int .i64 ga.m.live, .int .i64 ga.m.garb]))
        refine hK _ _ S9.out ?_
        clear hK K
        refine gwq 9 fun K hK => ?_
        go_simp
        refine hK _ _ S9.out ?_
        clear hK K
        refine wpAnyH_done (by kernel_rfl) ?_ _
        unfold onlyN
        dsimp only
        go_wp2_with fail
        go_meet
        exact ⟨gh6, rfl, rfl, HGE, Lh ⟨t0, t1, t2, t3, t4, t5, t6, t7, by rw [← HGA.out]; exact HX9.out, by rw [← HGA.out]; exact MU9.out, by rw [← HGA.out]; exact JU.out⟩, S9⟩
    · go_simp
      have hb := bel_al D0 (.cells #[.int .i64 0, .int .i64 0, .int .i64 0, .int .i64 0, .slice none 0 0, .slice none 0 0, .slice none 0 0, .slice none 0 0, .slice none 0 0, .slice none 0 0, .slice none 0 0, .slice none 0 0, .int .i64 0, .int .i64 0] 50)
      have hbk := heap_alloc_new D0 (.cells #[.int .i64 0, .int .i64 0, .int .i64 0, .int .i64 0, .slice none 0 0, .slice none 0 0, .slice none 0 0, .slice none 0 0, .slice none 0 0, .slice none 0 0, .slice none 0 0, .slice none 0 0, .int .i64 0, .int .i64 0] 50)
      have HGE := Lh (show W2.heap.size ≤ D0.heap.size from S0.out.size)
      obtain ⟨D1, hX⟩ : ∃ Y, Y = D0.alloc (.cells #[.int .i64 0, .int .i64 0, .int .i64 0, .int .i64 0, .slice none 0 0, .slice none 0 0, .slice none 0 0, .slice none 0 0, .slice none 0 0, .slice none 0 0, .slice none 0 0, .slice none 0 0, .int .i64 0, .int .i64 0] 50) := ⟨_, rfl⟩
      rw [← hX] at hb hbk ⊢
      have S1 := Lh (S0.out.trans (hb.mono S0.out.size))
      have HBK1 := Lh hbk
      refine hK _ _ S1.out ?_
      clear hK K hb hbk hX
      generalize D0.heap.size = gh6 at *
      refine gwq 2 fun K hK => ?_
      go_simp
      go_at_call 26
      refine (small_x _ L D1 (ni_belowL NI2.out S1.out)).mono ?_
      rintro e D2 ⟨⟨vs, rfl, hnx⟩, hb⟩
      have NX2 := Lh hnx
      have S2 := Lh (S1.out.trans (hb.mono S1.out.size))
      have HBK2 := Lh ((hb.block _ (lt_of_some HBK1.out)).trans HBK1.out)
      refine hK _ _ S2.out ?_
      clear hK K hb hnx
      refine gwq 3 fun K hK => ?_
      go_simp
      go_at_call 27
      refine (pgadd_x s0 s1 s2 s3 s4 s5 s6 s7 g vs (smL L) D2 (ms_below MS2.out S2.out) HJ.out HLG.out NX2.out (by have := smL_le L; omega)).mono ?_
      rintro e D3 ⟨⟨vx, rfl, hgx⟩, hb⟩
      rw [HAD.out.2] at hgx
      rw [HAD.out.1]
      have S3 := Lh (S2.out.trans (hb.mono S2.out.size))
      have HBK3 := Lh ((hb.block _ (lt_of_some HBK2.out)).trans HBK2.out)
      refine hK _ _ S3.out ?_
      clear hK K hb
      obtain ⟨ga, hga⟩ : ∃ ga, ga = gAdd g (smL L) := ⟨_, rfl⟩
      rw [← hga] at hgx
      have HGA := Lh hga
      obtain ⟨t0, t1, t2, t3, t4, t5, t6, t7, hvx, hmu, hju⟩ := hgx
      subst hvx
      have MU3 := Lh hmu
      have JU := Lh hju
      have ONU := Lh (gc_one hmu)
      clear hmu hju hga
      refine tky 4 _ rfl (fun _ _ => rfl) S3.out ?_
      refine tky 5 _ rfl (fun _ _ => rfl) S3.out ?_
      refine tky 6 _ rfl (fun _ _ => rfl) S3.out ?_
      refine gwq 8 fun K hK => ?_
      refine wp_store_row 50 _ _ rfl gh6 #[.int .i64 ga.num, .int .i64 ga.rev, .int .i64 ga.mode, .int .i64 ga.size, t0, t1, t2, t3, t4, t5, t6, t7, .int .i64 ga.m.live, .int .i64 ga.m.garb] (by rfl) (by rfl) 50 _ HBK3.out infoG14 rfl ONU.out ?_
      have S9 := Lh (below_setRowM S3.out HGE.out #[.int .i64 ga.num, .int .i64 ga.rev, .int .i64 ga.mode, .int .i64 ga.size, t0, t1, t2, t3, t4, t5, t6, t7, .int .i64 ga.m.live, .int .i64 ga.m.garb])
      have HX9 := Lh (setRow_heap D3 gh6 _ #[.int .i64 ga.num, .int .i64 ga.rev, .int .i64 ga.mode, .int .i64 ga.size, t0, t1, t2, t3, t4, t5, t6, t7, .int .i64 ga.m.live, .int .i64 ga.m.garb] _ _ HBK3.out)
      have MU9 := Lh (ms_setRowF MU3.out HBK3.out zeroG_u64 (cs := #[.int .i64 ga.num, .int .i64 ga.rev, .int .i64 ga.mode, .int .i64 ga.size, t0, t1, t2, t3, t4, t5, t6, t7, .int .i64 ga.m.live, .int .i64 ga.m.garb]))
      refine hK _ _ S9.out ?_
      clear hK K
      refine gwq 9 fun K hK => ?_
      go_simp
      refine hK _ _ S9.out ?_
      clear hK K
      refine wpAnyH_done (by kernel_rfl) ?_ _
      unfold onlyN
      dsimp only
      go_wp2_with fail
      go_meet
      exact ⟨gh6, rfl, rfl, HGE, Lh ⟨t0, t1, t2, t3, t4, t5, t6, t7, by rw [← HGA.out]; exact HX9.out, by rw [← HGA.out]; exact MU9.out, by rw [← HGA.out]; exact JU.out⟩, S9⟩
  case rest =>
    obtain ⟨p6, rfl, rfl, HG6, HB6, S3⟩ := hcut
    rename World => W3
    have B3 := Lh (B2.out.trans (S3.out.mono B2.out.size))
    have NI3 := Lh (ni_belowL NI2.out S3.out)
    have HB5 := Lh (show BxG W3 p5 50 g from bxG_below ⟨s0, s1, s2, s3, s4, s5, s6, s7, HX.out, MS2.out, HJ.out⟩ S3.out)
    have HNE := Lh (show p5 ≠ p6 from by have := HG6.out; have := lt_of_some HX.out; omega)
    clear S3 HX MS2 HJ NI2 B2
    go_wp2_with fail
    refine (small_x _ L W3 NI3.out).mono ?_
    rintro e W4 ⟨⟨v25, rfl, hnx⟩, hb⟩
    have ST := Lh (show StS w p5 p6 (gAdd g ((smL L).take 0)) (gAdd g (smL L)) v25 (smL L) W4 from ⟨by rw [List.take_zero, gAdd_nil]; exact bxG_below HB5.out hb, bxG_below HB6.out hb, hnx, B3.out.trans (hb.mono B3.out.size)⟩)
    obtain ⟨a25, c25, hv25, -⟩ := hnx
    clear hb HB5 HB6 B3 NI3
    subst hv25
    obtain ⟨M, hM⟩ : ∃ M, M = smL L := ⟨_, rfl⟩
    rw [← hM] at ST HMR ⊢
    have HML := Lh (show M.length ≤ 10 ∧ sumR M ≤ 42000 from by rw [hM]; exact ⟨smL_le L, sum_smL L⟩)
    rw [← hM] at HOF
    clear hM HAD
    obtain ⟨n, hn⟩ : ∃ n, n = M.length := ⟨_, rfl⟩
    rw [← hn] at ST ⊢
    have HN := Lh hn
    clear hn
    go_wp2_with fail
    go_loopw [27] (fun t wr => ∃ i : Nat, i ≤ n ∧ t = .int .i64 (i : Int) ∧ StS w p5 p6 (gAdd g (M.take i)) (gAdd g M) (.slice a25 n c25) M wr) (fun t _ => n - (intOf t).toNat)
    case atStart => exact ⟨0, Nat.zero_le _, rfl, ST.out⟩
    case round =>
      obtain ⟨i, hi, rfl, hst⟩ := hrel
      rename World => wl
      have SI := Lh hst
      clear hst ST
      by_cases hlt : i < n
      case neg =>
        obtain rfl : i = n := by omega
        have d1 : decide ((i : Int) < (i : Int)) = false := decide_eq_false (by omega)
        have HE := Lh (show gAdd g (M.take i) = gAdd g M from by rw [HN.out, List.take_length])
        clear hi hlt
        go_upto_region 11 with fail
        clear d1
        obtain ⟨t0, t1, t2, t3, t4, t5, t6, t7, hx6, hm6, hj6⟩ := SI.out.b6
        obtain ⟨u0, u1, u2, u3, u4, u5, u6, u7, hx5, hm5, hj5⟩ := SI.out.b5
        have B9 := Lh SI.out.be
        obtain ⟨ga, hga⟩ : ∃ ga, ga = gAdd g M := ⟨_, rfl⟩
        obtain ⟨gh, hgh⟩ : ∃ gh, gh = gAdd g (M.take i) := ⟨_, rfl⟩
        have HGE9 := Lh (show ga = gh from by rw [hga, hgh, HE.out])
        rw [← hga] at hx6 hm6 hj6 HOF
        rw [← hgh] at hx5 hm5 hj5
        have HA9 := Lh hx6
        have MA9 := Lh hm6
        have JA9 := Lh hj6
        have HH9 := Lh hx5
        have MH9 := Lh hm5
        have JH9 := Lh hj5
        have HOA9 := Lh HOF.out.ok
        have HLA9 := Lh (HOF.out.lge (by have := HML.out.1; omega))
        have HSW9 := Lh (strW_below HSW.out B9.out)
        clear hx6 hm6 hj6 hx5 hm5 hj5 hga hgh HE SI
        refine wp_onlyN ?_
        refine wp_region_headsS (fun W' => Below wl.heap.size wl W') [] 17 (by kernel_rfl) (fun _ _ _ _ _ h => h.elim) (by kernel_rfl) (by rfl) (by rfl) (Below.refl wl.heap.size wl).drew ?_
        simp only [pickOps, List.filterMap_nil, List.getElem?_toArray]
        refine wpHeads_nil ?_
        have SF0 := Lh (Below.refl wl.heap.size wl).drew
        generalize wl.drew = E0 at *
        refine gwq 0 fun K hK => ?_
        go_simp
        refine hK _ _ SF0.out ?_
        clear hK K
        refine gwq 1 fun K hK => ?_
        go_simp
        refine hK _ _ SF0.out ?_
        clear hK K
        refine gwq 2 fun K hK => ?_
        go_simp
        refine hK _ _ SF0.out ?_
        clear hK K
        refine tky 3 (.agg #[.int .i64 ga.num, .int .i64 ga.rev, .int .i64 ga.mode, .int .i64 ga.size, t0, t1, t2, t3, t4, t5, t6, t7, .int .i64 ga.m.live, .int .i64 ga.m.garb]) rfl (fun w' hw' => by
          obtain ⟨x0, x1, x2, x3, x4, x5, x6, x7, x8, x9, x10, x11, x12, x13⟩ := bx14 ((hw'.block _ (lt_of_some HA9.out)).trans HA9.out)
          go_simp) SF0.out ?_
        refine tky 5 (.agg #[.int .i64 gh.num, .int .i64 gh.rev, .int .i64 gh.mode, .int .i64 gh.size, u0, u1, u2, u3, u4, u5, u6, u7, .int .i64 gh.m.live, .int .i64 gh.m.garb]) rfl (fun w' hw' => by
          obtain ⟨x0, x1, x2, x3, x4, x5, x6, x7, x8, x9, x10, x11, x12, x13⟩ := bx14 ((hw'.block _ (lt_of_some HH9.out)).trans HH9.out)
          go_simp) SF0.out ?_
        refine gwq 4 fun K hK => ?_
        go_simp
        go_at_call 25
        refine (told12_any (.agg #[.int .i64 ga.num, .int .i64 ga.rev, .int .i64 ga.mode, .int .i64 ga.size, t0, t1, t2, t3, t4, t5, t6, t7, .int .i64 ga.m.live, .int .i64 ga.m.garb]) ga E0 ⟨t0, t1, t2, t3, t4, t5, t6, t7, rfl, ms_below MA9.out SF0.out, JA9.out⟩).mono ?_
        rintro e E1 ⟨rfl, hb⟩
        have SF1 := Lh (SF0.out.trans (hb.mono SF0.out.size))
        refine hK _ _ SF1.out ?_
        clear hK K hb
        refine gwq 6 fun K hK => ?_
        go_simp
        go_at_call 25
        refine (told12_any (.agg #[.int .i64 gh.num, .int .i64 gh.rev, .int .i64 gh.mode, .int .i64 gh.size, u0, u1, u2, u3, u4, u5, u6, u7, .int .i64 gh.m.live, .int .i64 gh.m.garb]) gh E1 ⟨u0, u1, u2, u3, u4, u5, u6, u7, rfl, ms_below MH9.out SF1.out, JH9.out⟩).mono ?_
        rintro e E2 ⟨rfl, hb⟩
        have SF2 := Lh (SF1.out.trans (hb.mono SF1.out.size))
        refine hK _ _ SF2.out ?_
        clear hK K hb
        refine gwq 7 fun K hK => ?_
        go_simp
        go_at_call 24
        refine (rgsame_eq (.agg #[.int .i64 ga.num, .int .i64 ga.rev, .int .i64 ga.mode, .int .i64 ga.size, t0, t1, t2, t3, t4, t5, t6, t7, .int .i64 ga.m.live, .int .i64 ga.m.garb]) (.agg #[.int .i64 gh.num, .int .i64 gh.rev, .int .i64 gh.mode, .int .i64 gh.size, u0, u1, u2, u3, u4, u5, u6, u7, .int .i64 gh.m.live, .int .i64 gh.m.garb]) ga E2 ⟨t0, t1, t2, t3, t4, t5, t6, t7, rfl, ms_below MA9.out SF2.out, JA9.out⟩ ⟨u0, u1, u2, u3, u4, u5, u6, u7, by rw [HGE9.out], by rw [HGE9.out]; exact ms_below MH9.out SF2.out, by rw [HGE9.out]; exact JH9.out⟩).mono ?_
        rintro e E3 ⟨rfl, hb⟩
        have SF3 := Lh (SF2.out.trans (hb.mono SF2.out.size))
        refine hK _ _ SF3.out ?_
        clear hK K hb
        refine gwq 8 fun K hK => ?_
        go_simp
        refine hK _ _ SF3.out ?_
        clear hK K
        refine gwq 9 fun K hK => ?_
        go_simp
        refine hK _ _ SF3.out ?_
        clear hK K
        refine tky 10 (.agg #[.int .i64 ga.num, .int .i64 ga.rev, .int .i64 ga.mode, .int .i64 ga.size, t0, t1, t2, t3, t4, t5, t6, t7, .int .i64 ga.m.live, .int .i64 ga.m.garb]) rfl (fun w' hw' => by
          obtain ⟨x0, x1, x2, x3, x4, x5, x6, x7, x8, x9, x10, x11, x12, x13⟩ := bx14 ((hw'.block _ (lt_of_some HA9.out)).trans HA9.out)
          go_simp) SF3.out ?_
        refine gwq 11 fun K hK => ?_
        go_simp
        go_at_call 18
        refine (pgvalid_any (.agg #[.int .i64 ga.num, .int .i64 ga.rev, .int .i64 ga.mode, .int .i64 ga.size, t0, t1, t2, t3, t4, t5, t6, t7, .int .i64 ga.m.live, .int .i64 ga.m.garb]) ga E3 ⟨t0, t1, t2, t3, t4, t5, t6, t7, rfl, ms_below MA9.out SF3.out, JA9.out⟩ HLA9.out.1 (Nat.le_trans HLA9.out.2 (by decide))).mono ?_
        rintro e E4 ⟨rfl, hb⟩
        rw [okGb_t HOA9.out]
        have SF4 := Lh (SF3.out.trans (hb.mono SF3.out.size))
        refine hK _ _ SF4.out ?_
        clear hK K hb
        refine gwq 12 fun K hK => ?_
        go_simp
        refine hK _ _ SF4.out ?_
        clear hK K
        refine gwq 13 fun K hK => ?_
        go_simp
        refine hK _ _ SF4.out ?_
        clear hK K
        refine gwq 14 fun K hK => ?_
        go_simp
        go_at_call 8
        refine (awake12_any E4 (strW_below HSW9.out SF4.out)).mono ?_
        rintro e E5 ⟨rfl, hb⟩
        have SF5 := Lh (SF4.out.trans (hb.mono SF4.out.size))
        refine hK _ _ SF5.out ?_
        clear hK K hb
        refine gwq 15 fun K hK => ?_
        go_simp
        refine hK _ _ SF5.out ?_
        clear hK K
        refine gwq 16 fun K hK => ?_
        go_simp
        refine hK _ _ SF5.out ?_
        clear hK K
        refine wpAnyH_done (by kernel_rfl) ?_ _
        unfold onlyN
        dsimp only
        have BF := Lh (B9.out.trans (SF5.out.mono B9.out.size))
        go_wp2_with fail
        go_ret
        exact ⟨rfl, BF.out⟩
      have d1 : decide ((i : Int) < (n : Int)) = true := decide_eq_true (by omega)
      have d2 : decide (i < n) = true := decide_eq_true hlt
      have HI := Lh hlt
      have p0 : (0 : Int) ≤ (i : Int) := by omega
      have p1 : (i : Int) < (n : Int) := by omega
      obtain ⟨b8, o8, hab, hnx⟩ := nx_at SI.out.nx hlt
      obtain rfl := hab
      have HNXT := Lh (steps_next HOA.out HMR.out HML.out.1 HML.out.2 (show i < M.length by rw [← HN.out]; exact hlt))
      obtain ⟨x, hx⟩ : ∃ x, x = M.getD i r0 := ⟨_, rfl⟩
      rw [← hx] at hnx HNXT
      clear hx
      obtain ⟨key, ck, del, z9⟩ := x
      obtain ⟨da, dn, dc, hsz, hdn, hk1, hk2, k0, k1, k2, k3⟩ := hnx
      simp only at hsz hdn hk1 hk2 k0 k1 k2 k3
      subst hsz
      have HKB := Lh (And.intro hdn (And.intro hk1 hk2))
      have hz := heap_alloc_new wl (.cells #[.int .u64 0, .int .u32 0, .bool false, .slice none 0 0] 67)
      clear hlt hi hdn hk1 hk2
      go_upto_region 6 with ((with_reducible refine storeN wl.heap.size _ #[.int .u64 (key : Int), .int .u32 (ck : Int), .bool del, .slice da dn dc] ?_ ?_ hz rfl rfl (nv_one key ck del da dn dc) ?_); exact rfl; exact rfl)
      rw [World.setRow_alloc_new]
      clear k0 k1 k2 k3 p0 p1 d1 d2 hz
      have hb := bel_al wl (.cells #[.int .u64 (key : Int), .int .u32 (ck : Int), .bool del, .slice da dn dc] 67)
      have HNX := Lh (heap_alloc_new wl (.cells #[.int .u64 (key : Int), .int .u32 (ck : Int), .bool del, .slice da dn dc] 67))
      have S1 := Lh (SI.out.below hb)
      clear hb SI
      generalize wl.alloc (.cells #[.int .u64 (key : Int), .int .u32 (ck : Int), .bool del, .slice da dn dc] 67) = V1 at *
      generalize wl.heap.size = gx at *
      obtain ⟨u0, u1, u2, u3, u4, u5, u6, u7, hx5, hm5, hj5⟩ := S1.out.b5
      obtain ⟨gh, hgh⟩ : ∃ gh, gh = gAdd g (M.take i) := ⟨_, rfl⟩
      rw [← hgh] at hx5 hm5 hj5 HNXT S1
      clear hgh
      have HX5 := Lh hx5
      have M5 := Lh hm5
      have J5 := Lh hj5
      clear hx5 hm5 hj5
      obtain ⟨⟨y0, y1, y2, y3⟩, -⟩ := bx4 HNX.out
      obtain ⟨x0, x1, x2, x3, x4, x5, x6, x7, x8, x9, x10, x11, x12, x13⟩ := bx14 HX5.out
      go_wp2_with fail
      clear y0 y1 y2 y3
      clear x0 x1 x2 x3 x4 x5 x6 x7 x8 x9 x10 x11 x12 x13
      have hb := bel_al V1 (.cells #[.int .u64 (key : Int), .int .u32 (ck : Int), .bool del, .slice da dn dc] 67)
      have HBK := Lh (heap_alloc_new V1 (.cells #[.int .u64 (key : Int), .int .u32 (ck : Int), .bool del, .slice da dn dc] 67))
      have S2 := Lh (S1.out.below hb)
      have M5b := Lh (ms_below M5.out hb)
      have HX5b := Lh ((hb.block _ (lt_of_some HX5.out)).trans HX5.out)
      clear hb S1 M5 HX5 HNX
      generalize V1.alloc (.cells #[.int .u64 (key : Int), .int .u32 (ck : Int), .bool del, .slice da dn dc] 67) = V2 at *
      generalize V1.heap.size = gk at *
      refine (pgadd_x u0 u1 u2 u3 u4 u5 u6 u7 gh (.slice (some ⟨gk, 0, none⟩) 1 1) [⟨key, ck, del, (dn : Int)⟩] V2 M5b.out J5.out (HNXT.out.1.lge (by decide)) ⟨some ⟨gk, 0, none⟩, 1, rfl, fun _ => ⟨gk, 0, rfl, fun j hj => by
        obtain rfl : j = 0 := by simpa using hj
        obtain ⟨⟨y0, y1, y2, y3⟩, -⟩ := bx4 HBK.out
        exact ⟨da, dn, dc, rfl, HKB.out.1, HKB.out.2.1, HKB.out.2.2, y0, y1, y2, y3⟩⟩⟩ (by simp)).mono ?_
      rintro e V3 ⟨⟨vx, rfl, hgx⟩, hb⟩
      rw [HNXT.out.2.2] at hgx
      rw [HNXT.out.2.1]
      have S3 := Lh (S2.out.below hb)
      have HX5c := Lh ((hb.block _ (lt_of_some HX5b.out)).trans HX5b.out)
      obtain ⟨gn, hgn⟩ : ∃ gn, gn = gAdd g (M.take (i + 1)) := ⟨_, rfl⟩
      rw [← hgn] at hgx
      have HGN := Lh hgn
      obtain ⟨t0, t1, t2, t3, t4, t5, t6, t7, hvx, hmt, hjt⟩ := hgx
      subst hvx
      have MT := Lh hmt
      have JT := Lh hjt
      have ONT := Lh (gc_one hmt)
      have hz := heap_alloc_new V3 (.cells #[.int .i64 0, .int .i64 0, .int .i64 0, .int .i64 0, .slice none 0 0, .slice none 0 0, .slice none 0 0, .slice none 0 0, .slice none 0 0, .slice none 0 0, .slice none 0 0, .slice none 0 0, .int .i64 0, .int .i64 0] 50)
      clear hb hmt hjt hgn S2 HX5b HBK
      go_upto_region 7 with ((with_reducible refine storeG V3.heap.size _ #[.int .i64 gn.num, .int .i64 gn.rev, .int .i64 gn.mode, .int .i64 gn.size, t0, t1, t2, t3, t4, t5, t6, t7, .int .i64 gn.m.live, .int .i64 gn.m.garb] ?_ ?_ hz rfl rfl ONT.out ?_); exact rfl; exact rfl)
      rw [World.setRow_alloc_new]
      have hb := bel_al V3 (.cells #[.int .i64 gn.num, .int .i64 gn.rev, .int .i64 gn.mode, .int .i64 gn.size, t0, t1, t2, t3, t4, t5, t6, t7, .int .i64 gn.m.live, .int .i64 gn.m.garb] 50)
      have HX10 := Lh (heap_alloc_new V3 (.cells #[.int .i64 gn.num, .int .i64 gn.rev, .int .i64 gn.mode, .int .i64 gn.size, t0, t1, t2, t3, t4, t5, t6, t7, .int .i64 gn.m.live, .int .i64 gn.m.garb] 50))
      have S4 := Lh (S3.out.below hb)
      have MT4 := Lh (ms_below MT.out hb)
      have HX5d := Lh ((hb.block _ (lt_of_some HX5c.out)).trans HX5c.out)
      clear hb hz S3 MT HX5c
      generalize V3.alloc (.cells #[.int .i64 gn.num, .int .i64 gn.rev, .int .i64 gn.mode, .int .i64 gn.size, t0, t1, t2, t3, t4, t5, t6, t7, .int .i64 gn.m.live, .int .i64 gn.m.garb] 50) = V4 at *
      generalize V3.heap.size = gy at *
      go_upto_region 9 with fail
      obtain ⟨x0, x1, x2, x3, x4, x5, x6, x7, x8, x9, x10, x11, x12, x13⟩ := bx14 HX10.out
      go_upto_region 10 with ((with_reducible refine storeG p5 _ #[.int .i64 gn.num, .int .i64 gn.rev, .int .i64 gn.mode, .int .i64 gn.size, t0, t1, t2, t3, t4, t5, t6, t7, .int .i64 gn.m.live, .int .i64 gn.m.garb] ?_ ?_ HX5d.out rfl rfl ONT.out ?_); exact rfl; exact rfl)
      clear x0 x1 x2 x3 x4 x5 x6 x7 x8 x9 x10 x11 x12 x13
      have HB5 := Lh (show BxG (V4.setRow p5 #[.int .i64 gn.num, .int .i64 gn.rev, .int .i64 gn.mode, .int .i64 gn.size, t0, t1, t2, t3, t4, t5, t6, t7, .int .i64 gn.m.live, .int .i64 gn.m.garb]) p5 50 (gAdd g (M.take (i + 1))) from by
        rw [← HGN.out]
        obtain ⟨y0, y1, y2, y3, y4, y5, y6, y7, k1, k2, k3⟩ := S4.out.b5
        exact ⟨t0, t1, t2, t3, t4, t5, t6, t7, setRow_heap _ _ _ _ _ _ HX5d.out, ms_setRowF MT4.out k1 (gc_u64 k2), JT.out⟩)
      have SN := Lh (show StS w p5 p6 (gAdd g (M.take (i + 1))) (gAdd g M) (.slice (some ⟨b8, o8, none⟩) n c25) M (V4.setRow p5 #[.int .i64 gn.num, .int .i64 gn.rev, .int .i64 gn.mode, .int .i64 gn.size, t0, t1, t2, t3, t4, t5, t6, t7, .int .i64 gn.m.live, .int .i64 gn.m.garb]) from ⟨HB5.out, bxG_set S4.out.b6 S4.out.b5 (fun e => HNE.out e.symm), by
        obtain ⟨y0, y1, y2, y3, y4, y5, y6, y7, k1, k2, k3⟩ := S4.out.b5
        exact nx_setRow S4.out.nx k1 (gc_u64 k2), below_setRowM S4.out.be HGB.out _⟩)
      have hw := w64s9 i (by have := HI.out; have := HN.out; have := HML.out.1; omega)
      go_wp2_with fail
      go_roundw
      case rel => exact ⟨i + 1, HI.out, by go_num, SN.out⟩
      case measure => exact meas9 n i HI.out (by have := HN.out; have := HML.out.1; omega)
end Go.Proofs.YtbmlpafbdbhaiaaGreatDoor.Gf
