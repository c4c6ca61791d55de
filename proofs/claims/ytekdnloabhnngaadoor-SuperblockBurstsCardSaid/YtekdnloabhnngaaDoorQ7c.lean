/- What is proved here: the contract of the reference's Decode (layer 7). No condition. -/
import Derived.Test.YtekdnloabhnngaaDoorQ7b
namespace Go.Proofs.YtekdnloabhnngaaDoor.Gf
open Go Go.ChangeShapes Go.WideShapes Go.ChangeAt Go.RowKit Go.Proofs.YtekdnloabhnngaaDoor.By Go.Proofs.YtekdnloabhnngaaDoor.Crc Go.Proofs.YtekdnloabhnngaaDoor.Qt

noncomputable def dX7 (l : List Nat) : Value := if dE7 l = 0 then SV (slS l) (gnS l) (rvS l) else SV 0 0 0
theorem set3_other {W : World} {g q : Nat} {k l m : Value} (hne : q ≠ g) : (((W.setCell ⟨g, 0, none⟩ k).setCell ⟨g, 1, none⟩ l).setCell ⟨g, 2, none⟩ m).heap[q]? = W.heap[q]? := by
  rw [heap_setCell_other _ _ _ _ hne, heap_setCell_other _ _ _ _ hne, heap_setCell_other _ _ _ _ hne]
/-- A call that answers a superblock and an error. -/
def DS (w : World) (v : Value) (err : Nat) (e : Ending) (w' : World) : Prop := e = .returned (.tuple #[v, .int .i64 (err : Int)]) ∧ Below w.heap.size w w'
theorem d7_cases {l : List Nat} (h1 : ¬ l.length < 16) : (¬ l.take 4 = [78, 86, 79, 76] → dE7 l = 3) ∧ (l.take 4 = [78, 86, 79, 76] → (¬ leL (ext 0 (l.take 12)) = (l.drop 12).take 4 → dE7 l = 5) ∧ (leL (ext 0 (l.take 12)) = (l.drop 12).take 4 → (okS (slS l) (gnS l) (rvS l) = false → dE7 l = 3) ∧ (okS (slS l) (gnS l) (rvS l) = true → dE7 l = 0))) := by
  unfold dE7
  rw [if_neg h1]
  refine ⟨fun h => by rw [if_pos h], fun h2 => ⟨fun h => by rw [if_neg (not_not_intro h2), if_pos h], fun h3 => ⟨fun h => by rw [if_neg (not_not_intro h2), if_neg (not_not_intro h3), if_pos h], fun h => by rw [if_neg (not_not_intro h2), if_neg (not_not_intro h3), if_neg (by rw [h]; decide)]⟩⟩⟩
theorem rdec7_end {R : Ending → World → Prop} {W : World} {g : Nat} {tmps : Array Value} {k c d : Value} (hp : tmps.getD 2 undef = .pointer (some ⟨g, 0, none⟩)) (hg : W.heap[g]? = some (.cells #[k, c, d] 23 (0, 0)))
    (hR : R (.returned (.tuple #[.agg #[k, c, d], tmps.getD 3 undef])) W) : bodyPost Tryd.prog Tryd.f18 R .ret { tmps := tmps, defers := [] } W :=
  bodyPost_ret (results_rt rfl _ _ g #[k, c, d] hp hg Tryd.underlying23 rfl info7) rfl hR
theorem err7 {w W : World} {l : List Nat} {err : Nat} (he : dE7 l = err) (h0 : err ≠ 0) (hb : Below w.heap.size w W) : Ending.returned (.tuple #[.agg #[.int .i64 0, .int .i64 0, .int .i64 0], .int .i64 (err : Int)]) = .returned (.tuple #[dX7 l, .int .i64 ((dE7 l : Nat) : Int)]) ∧ Below w.heap.size w W := by
  have hx : dX7 l = SV 0 0 0 := by unfold dX7; rw [if_neg (by rw [he]; exact h0)]
  rw [he, hx]
  exact ⟨rfl, hb⟩
theorem seg_small {l : List Nat} (h : ∀ b ∈ l, b < 256) (p n : Nat) : valL ((l.drop p).take n) < 256 ^ n := by
  have h1 := valL_lt _ (mem_seg h p n)
  have h2 : ((l.drop p).take n).length ≤ n := by rw [List.length_take]; omega
  exact Nat.lt_of_lt_of_le h1 (Nat.pow_le_pow_right (by decide) h2)
set_option maxRecDepth 100000 in
set_option maxHeartbeats 6400000 in
theorem rdecode7_any (v : Value) (l : List Nat) (w : World) (s : Sl w v l) : Calls Tryd.prog 18 #[v] w (DS w (dX7 l) (dE7 l)) := by
  have HB0 := Lib.hid ((Below.refl w.heap.size w).alloc (Nat.le_refl _) (.cells #[.int .i64 0, .int .i64 0, .int .i64 0] 23))
  have X0 := Lib.hid (heap_alloc_new w (.cells #[.int .i64 0, .int .i64 0, .int .i64 0] 23))
  unfold DS
  by_cases hsh : l.length < 16
  · have HE : Hid (dE7 l = 4) := by show _ = _; unfold dE7; rw [if_pos hsh]
    obtain ⟨a, c, rfl, -, -⟩ := sl_form s
    obtain ⟨n, hn⟩ : ∃ n, n = l.length := ⟨_, rfl⟩
    rw [← hn] at hsh ⊢
    have g1 : decide ((n : Int) < 16) = true := decide_eq_true (by omega)
    clear s hn
    go_enter Tryd.func18, Tryd.ntmps18
    go_wp2
    exact rdec7_end (g := w.heap.size) rfl (heap_alloc_new w _) (err7 (err := 4) HE.out (by decide) HB0.out)
  have HD := Lib.hid (d7_cases hsh)
  obtain ⟨b, o, c, hv, hc1, hc2, hk⟩ := sl_cells s (by omega)
  obtain ⟨n, hn⟩ : ∃ n, n = l.length := ⟨_, rfl⟩
  rw [← hn] at hv hsh hc1
  subst hv
  have g1 : decide ((n : Int) < 16) = false := decide_eq_false (by omega)
  have HCUT : Hid (∀ p q, p + q ≤ n → ∀ W, Below w.heap.size w W → Sl W (.slice (some ⟨b, o + p, none⟩) q (c - p)) ((l.drop p).take q)) := fun p q hpq W hW =>
    sl_below (sl_cut (w := w) (p := p) (c := q) s.1 hn.symm hc2 hc1 (by rw [hn]; exact hk) hpq) hW
  have H16 : Hid (16 ≤ n) := by show 16 ≤ n; omega
  have HL := Lib.hid s.1
  have HNL := Lib.hid hn
  have k4 := conv_sl (HCUT.out 0 4 (by omega) _ HB0.out)
  rw [Nat.add_zero, Nat.sub_zero, List.drop_zero] at k4
  have he4 := str_eq (mem_take s.1 4) (show ∀ x ∈ [78, 86, 79, 76], x < 256 by simp)
  have p4 : (4 : Int) ≤ (c : Int) := by omega
  have p12 : (12 : Int) ≤ (c : Int) ∧ (16 : Int) ≤ (c : Int) ∧ (6 : Int) ≤ (c : Int) ∧ (8 : Int) ≤ (c : Int) := by omega
  have q4 : ¬ c = 4 := by omega
  have q12 : ¬ c = 12 := by omega
  have q6 : ¬ c = 6 := by omega
  have q8 : ¬ c = 8 := by omega
  rw [show (strOf [78, 86, 79, 76]).toList = [78, 86, 79, 76] by rw [ByteArray.toList_eq]; rfl] at he4
  clear s hk hn hsh hc1 hc2
  by_cases hm : l.take 4 = [78, 86, 79, 76]
  case neg =>
    rw [decide_eq_false hm] at he4
    have HE := Lib.hid (HD.out.1 hm)
    clear hm
    generalize strOf (l.take 4) = T4 at *
    go_enter Tryd.func18, Tryd.ntmps18
    go_wp2_with fail
    exact rdec7_end (g := w.heap.size) rfl (heap_alloc_new w _) (err7 (err := 3) HE.out (by decide) HB0.out)
  rw [decide_eq_true hm] at he4
  have HD2 := Lib.hid (HD.out.2 hm)
  have hse := fun W (hW : Below w.heap.size w W) => HCUT.out 12 4 (by have := H16.out; omega) W hW
  have S12 := Lib.hid (fun W (hW : Below w.heap.size w W) => (by have h := HCUT.out 0 12 (by have := H16.out; omega) W hW; rwa [Nat.add_zero, Nat.sub_zero, List.drop_zero] at h : Sl W (.slice (some ⟨b, o, none⟩) 12 c) (l.take 12)))
  have S16 := Lib.hid hse
  clear hm hse HD
  generalize strOf (l.take 4) = T4 at *
  go_enter Tryd.func18, Tryd.ntmps18
  go_wp2_with fail
  clear k4 he4
  have B0 := Lib.hid HB0.out
  have hbox := X0.out
  generalize w.alloc (.cells #[.int .i64 0, .int .i64 0, .int .i64 0] 23) = W0 at *
  refine wp_onlyN ?_
  refine wp_region_headsS (fun w' => Below w.heap.size w w') [0, 1, 4, 5, 6] 3 (by kernel_rfl) (fun _ _ _ _ _ h => h.elim) (by kernel_rfl) (by rfl) (by rfl) HB0.out.drew ?_
  simp only [pickOps, List.filterMap_cons, List.filterMap_nil, List.getElem?_toArray, List.getElem?_cons_zero, List.getElem?_cons_succ]
  refine wpHeads_step (fun K hK => ?_)
  go_simp
  refine ⟨_, fun _ _ => rfl, hK _ ?_⟩
  clear hK K
  refine wpHeads_step (fun K hK => ?_)
  go_simp
  refine ⟨_, fun _ _ => rfl, hK _ ?_⟩
  clear hK K
  refine wpHeads_step (fun K hK => ?_)
  go_simp
  refine ⟨_, fun _ _ => rfl, hK _ ?_⟩
  clear hK K
  refine wpHeads_step (fun K hK => ?_)
  go_simp
  refine ⟨_, fun _ _ => rfl, hK _ ?_⟩
  clear hK K
  refine wpHeads_step (fun K hK => ?_)
  go_simp
  refine ⟨.string (strOf ((l.drop 12).take 4)), fun w' hw' => by rw [conv_sl (S16.out w' hw')]; rfl, hK _ ?_⟩
  clear hK K
  refine wpHeads_nil ?_
  refine held_one 2 rfl rfl (by kernel_rfl) fun K hK => ?_
  go_simp
  go_at_call 16
  refine (check_any _ _ _ (S12.out _ HB0.out.drew)).mono ?_
  rintro e W3 ⟨⟨s3, rfl, ho3⟩, hb3⟩
  have b3 := bt HB0.out.drew hb3
  have x3 : W3.heap[w.heap.size]? = _ := (hb3.block _ (lt_of_some hbox)).trans hbox
  refine hK _ _ b3 ?_
  clear hK K hb3
  obtain ⟨aa, na, ca, rfl, -⟩ := own_form ho3
  have u1 := conv_sl ho3.sl
  refine held_one 3 rfl rfl (by kernel_rfl) fun K hK => ?_
  go_simp
  refine hK _ _ b3 ?_
  clear hK K
  have hseq := str_eq ho3.sl.1 (S16.out w (Below.refl _ _)).1
  generalize hD : decide (leL (ext 0 (l.take 12)) = (l.drop 12).take 4) = D at hseq
  generalize strOf (leL (ext 0 (l.take 12))) = T1 at *
  generalize strOf ((l.drop 12).take 4) = T2 at *
  refine held_one 7 rfl rfl (by kernel_rfl) fun K hK => ?_
  go_simp
  refine hK _ _ b3 ?_
  clear hK K u1
  refine wpAnyH_done (by kernel_rfl) ?_ _
  unfold onlyN
  dsimp only
  have B3 := Lib.hid b3
  have X3 := Lib.hid x3
  clear b3 x3 ho3 hbox
  by_cases hck : leL (ext 0 (l.take 12)) = (l.drop 12).take 4
  case neg =>
    obtain rfl : D = false := by rw [← hD]; exact decide_eq_false hck
    have HE := Lib.hid (HD2.out.1 hck)
    rw [Bool.not_false]
    obtain ⟨u0, u1, u2, z0, z1, z2⟩ := bx3 X3.out
    clear hck hD hseq
    go_wp2_with fail
    exact rdec7_end (g := w.heap.size) rfl (set3 X3.out) (err7 (err := 5) HE.out (by decide) (below3 B3.out (Nat.le_refl _)))
  obtain rfl : D = true := by rw [← hD]; exact decide_eq_true hck
  have HD3 := Lib.hid (HD2.out.2 hck)
  rw [Bool.not_true]
  clear hck hD hseq HD2
  go_wp2_with fail
  have V4 := Lib.hid (fun W (hW : Below w.heap.size w W) => rvalue_any _ _ W (HCUT.out 4 2 (by have := H16.out; omega) W hW) (by have := H16.out; have := HNL.out; simp; omega) (by simp; omega))
  have V6 := Lib.hid (fun W (hW : Below w.heap.size w W) => rvalue_any _ _ W (HCUT.out 6 2 (by have := H16.out; omega) W hW) (by have := H16.out; have := HNL.out; simp; omega) (by simp; omega))
  have V8 := Lib.hid (fun W (hW : Below w.heap.size w W) => rvalue_any _ _ W (HCUT.out 8 4 (by have := H16.out; omega) W hW) (by have := H16.out; have := HNL.out; simp; omega) (by simp; omega))
  have n4 := seg_small HL.out 4 2
  have n6 := seg_small HL.out 6 2
  have n8 := seg_small HL.out 8 4
  have HDX : Hid (∀ e : Nat, dE7 l = e → dX7 l = if e = 0 then SV ((valL ((l.drop 4).take 2) : Nat) : Int) ((valL ((l.drop 6).take 2) : Nat) : Int) ((valL ((l.drop 8).take 4) : Nat) : Int) else SV 0 0 0) := fun e he => by unfold dX7; rw [he]; rfl
  have HD4 : Hid ((okS ((valL ((l.drop 4).take 2) : Nat) : Int) ((valL ((l.drop 6).take 2) : Nat) : Int) ((valL ((l.drop 8).take 4) : Nat) : Int) = false → dE7 l = 3) ∧ (okS ((valL ((l.drop 4).take 2) : Nat) : Int) ((valL ((l.drop 6).take 2) : Nat) : Int) ((valL ((l.drop 8).take 4) : Nat) : Int) = true → dE7 l = 0)) := HD3.out
  clear HD3
  generalize valL ((l.drop 4).take 2) = Y4 at *
  generalize valL ((l.drop 6).take 2) = Y6 at *
  generalize valL ((l.drop 8).take 4) = Y8 at *
  have w4 : IntKind.i64.wrap (Y4 : Int) = (Y4 : Int) := IntWalk.i64_in _ (by omega)
  have w6 : IntKind.i64.wrap (Y6 : Int) = (Y6 : Int) := IntWalk.i64_in _ (by omega)
  have w8 : IntKind.i64.wrap (Y8 : Int) = (Y8 : Int) := IntWalk.i64_in _ (by omega)
  have hb0 : Below w.heap.size w W3.drew := B3.out.drew
  have hx0 : W3.drew.heap[w.heap.size]? = _ := X3.out
  clear n4 n6 n8
  refine wp_onlyN ?_
  refine wp_region_headsS (fun w' => Below w.heap.size w w') [0, 1, 4, 5, 8, 9] 9 (by kernel_rfl) (fun _ _ _ _ _ h => h.elim) (by kernel_rfl) (by rfl) (by rfl) hb0 ?_
  simp only [pickOps, List.filterMap_cons, List.filterMap_nil, List.getElem?_toArray, List.getElem?_cons_zero, List.getElem?_cons_succ]
  refine wpHeads_step (fun K hK => ?_)
  go_simp
  refine ⟨_, fun _ _ => rfl, hK _ ?_⟩
  clear hK K
  refine wpHeads_step (fun K hK => ?_)
  go_simp
  refine ⟨_, fun _ _ => rfl, hK _ ?_⟩
  clear hK K
  refine wpHeads_step (fun K hK => ?_)
  go_simp
  refine ⟨_, fun _ _ => rfl, hK _ ?_⟩
  clear hK K
  refine wpHeads_step (fun K hK => ?_)
  go_simp
  refine ⟨_, fun _ _ => rfl, hK _ ?_⟩
  clear hK K
  refine wpHeads_step (fun K hK => ?_)
  go_simp
  refine ⟨_, fun _ _ => rfl, hK _ ?_⟩
  clear hK K
  refine wpHeads_step (fun K hK => ?_)
  go_simp
  refine ⟨_, fun _ _ => rfl, hK _ ?_⟩
  clear hK K
  refine wpHeads_nil ?_
  generalize W3.drew = Y0 at *
  refine held_two 2 13 rfl rfl rfl rfl (by kernel_rfl) (fun K hK => ?_) (fun K hK => ?_)
  · go_simp
    go_at_call 23
    refine (V4.out _ hb0).mono ?_
    rintro e Y ⟨rfl, rfl⟩
    refine hK _ _ hb0 ?_
    clear hK K
    refine wpAnyH_take (i := 3) (v := .int .i64 (IntKind.i64.wrap (Y4 : Int))) rfl (by kernel_rfl) (by kernel_rfl) (by kernel_rfl) (fun _ _ _ h => h) (Or.inl ⟨by kernel_rfl, fun w _ => by rfl⟩) hb0 ?_
    rw [w4]
    refine held_two 6 13 rfl rfl rfl rfl (by kernel_rfl) (fun K hK => ?_) (fun K hK => ?_)
    · go_simp
      go_at_call 23
      refine (V6.out _ hb0).mono ?_
      rintro e Y ⟨rfl, rfl⟩
      refine hK _ _ hb0 ?_
      clear hK K
      refine wpAnyH_take (i := 7) (v := .int .i64 (IntKind.i64.wrap (Y6 : Int))) rfl (by kernel_rfl) (by kernel_rfl) (by kernel_rfl) (fun _ _ _ h => h) (Or.inl ⟨by kernel_rfl, fun w _ => by rfl⟩) hb0 ?_
      rw [w6]
      refine held_two 10 13 rfl rfl rfl rfl (by kernel_rfl) (fun K hK => ?_) (fun K hK => ?_)
      · go_simp
        go_at_call 23
        refine (V8.out _ hb0).mono ?_
        rintro e Y ⟨rfl, rfl⟩
        refine hK _ _ hb0 ?_
        clear hK K
        refine wpAnyH_take (i := 11) (v := .int .i64 (IntKind.i64.wrap (Y8 : Int))) rfl (by kernel_rfl) (by kernel_rfl) (by kernel_rfl) (fun _ _ _ h => h) (Or.inl ⟨by kernel_rfl, fun w _ => by rfl⟩) hb0 ?_
        rw [w8]
        refine wpAnyH_take (i := 12) (v := .agg #[.int .i64 (Y4 : Int), .int .i64 (Y6 : Int), .int .i64 (Y8 : Int)]) rfl (by kernel_rfl) (by kernel_rfl) (by kernel_rfl) (fun _ _ _ h => h) (Or.inl ⟨by kernel_rfl, fun w _ => by go_simp⟩) hb0 ?_
        refine held_one 13 rfl rfl (by kernel_rfl) fun K hK => ?_
        go_simp
        have hb1 := hb0.alloc hb0.size (.cells #[.int .i64 0, .int .i64 0, .int .i64 0] 23)
        have hx1 : (Y0.alloc (.cells #[.int .i64 0, .int .i64 0, .int .i64 0] 23)).heap[w.heap.size]? = _ := (Below.heap_alloc Y0 _ _ (lt_of_some hx0)).trans hx0
        have hp1 := heap_alloc_new Y0 (.cells #[.int .i64 0, .int .i64 0, .int .i64 0] 23)
        have hne : w.heap.size ≠ Y0.heap.size := by have := lt_of_some hx0; omega
        have hge : w.heap.size ≤ Y0.heap.size := hb0.size
        refine hK _ _ hb1 ?_
        clear hK K
        generalize Y0.alloc (.cells #[.int .i64 0, .int .i64 0, .int .i64 0] 23) = Y1 at *
        generalize Y0.heap.size = p at *
        obtain ⟨t0, t1, t2, z0, z1, z2⟩ := bx3 hp1
        have HP := Lib.hid (set3 (k := .int .i64 (Y4 : Int)) (l := .int .i64 (Y6 : Int)) (m := .int .i64 (Y8 : Int)) hp1)
        have HXB := Lib.hid ((set3_other (k := .int .i64 (Y4 : Int)) (l := .int .i64 (Y6 : Int)) (m := .int .i64 (Y8 : Int)) hne).trans hx1)
        have HBV := Lib.hid (below3 (k := .int .i64 (Y4 : Int)) (l := .int .i64 (Y6 : Int)) (m := .int .i64 (Y8 : Int)) hb1 hge)
        refine held_one 14 rfl rfl (by kernel_rfl) fun K hK => ?_
        go_simp
        refine hK _ _ HBV.out ?_
        clear hK K t0 t1 t2 z0 z1 z2 hp1 hx1 hb1
        generalize ((Y1.setCell ⟨p, 0, none⟩ (.int .i64 (Y4 : Int))).setCell ⟨p, 1, none⟩ (.int .i64 (Y6 : Int))).setCell ⟨p, 2, none⟩ (.int .i64 (Y8 : Int)) = V2 at *
        refine wpAnyH_done (by kernel_rfl) ?_ _
        unfold onlyN
        dsimp only
        have RV := Lib.hid (rvalid7_any (Y4 : Int) (Y6 : Int) (Y8 : Int))
        unfold SV at RV
        obtain ⟨u0, u1, u2, -, -, -⟩ := bx3 HP.out
        go_wp2_with fail
        refine (RV.out _).mono ?_
        rintro e V3 ⟨rfl, hb3⟩
        have HP3 := Lib.hid ((hb3.block _ (lt_of_some HP.out)).trans HP.out)
        have HX3 := Lib.hid ((hb3.block _ (lt_of_some HXB.out)).trans HXB.out)
        have HB3 := Lib.hid (bt HBV.out hb3)
        clear u0 u1 u2 hb3
        obtain ⟨u0, u1, u2, -, -, -⟩ := bx3 HP3.out
        obtain ⟨t0, t1, t2, z0, z1, z2⟩ := bx3 HX3.out
        cases hok : okS (Y4 : Int) (Y6 : Int) (Y8 : Int)
        · have HE := Lib.hid (HD4.out.1 hok)
          clear hok
          go_wp2_with fail
          exact rdec7_end (g := w.heap.size) rfl (set3 HX3.out) (err7 (err := 3) HE.out (by decide) (below3 HB3.out (Nat.le_refl _)))
        · have HE := Lib.hid (HD4.out.2 hok)
          clear hok
          go_wp2_with fail
          refine rdec7_end (g := w.heap.size) rfl (set3 HX3.out) ⟨?_, below3 HB3.out (Nat.le_refl _)⟩
          rw [HDX.out 0 HE.out, HE.out, if_pos rfl]
          rfl
      · go_simp
        have hb1 := hb0.alloc hb0.size (.cells #[.int .i64 0, .int .i64 0, .int .i64 0] 23)
        have hx1 : (Y0.alloc (.cells #[.int .i64 0, .int .i64 0, .int .i64 0] 23)).heap[w.heap.size]? = _ := (Below.heap_alloc Y0 _ _ (lt_of_some hx0)).trans hx0
        have hp1 := heap_alloc_new Y0 (.cells #[.int .i64 0, .int .i64 0, .int .i64 0] 23)
        have hne : w.heap.size ≠ Y0.heap.size := by have := lt_of_some hx0; omega
        have hge : w.heap.size ≤ Y0.heap.size := hb0.size
        refine hK _ _ hb1 ?_
        clear hK K
        generalize Y0.alloc (.cells #[.int .i64 0, .int .i64 0, .int .i64 0] 23) = Y1 at *
        generalize Y0.heap.size = p at *
        refine held_one 10 rfl rfl (by kernel_rfl) fun K hK => ?_
        go_simp
        go_at_call 23
        refine (V8.out _ hb1).mono ?_
        rintro e Y ⟨rfl, rfl⟩
        refine hK _ _ hb1 ?_
        clear hK K
        refine wpAnyH_take (i := 11) (v := .int .i64 (IntKind.i64.wrap (Y8 : Int))) rfl (by kernel_rfl) (by kernel_rfl) (by kernel_rfl) (fun _ _ _ h => h) (Or.inl ⟨by kernel_rfl, fun w _ => by rfl⟩) hb1 ?_
        rw [w8]
        refine wpAnyH_take (i := 12) (v := .agg #[.int .i64 (Y4 : Int), .int .i64 (Y6 : Int), .int .i64 (Y8 : Int)]) rfl (by kernel_rfl) (by kernel_rfl) (by kernel_rfl) (fun _ _ _ h => h) (Or.inl ⟨by kernel_rfl, fun w _ => by go_simp⟩) hb1 ?_
        obtain ⟨t0, t1, t2, z0, z1, z2⟩ := bx3 hp1
        have HP := Lib.hid (set3 (k := .int .i64 (Y4 : Int)) (l := .int .i64 (Y6 : Int)) (m := .int .i64 (Y8 : Int)) hp1)
        have HXB := Lib.hid ((set3_other (k := .int .i64 (Y4 : Int)) (l := .int .i64 (Y6 : Int)) (m := .int .i64 (Y8 : Int)) hne).trans hx1)
        have HBV := Lib.hid (below3 (k := .int .i64 (Y4 : Int)) (l := .int .i64 (Y6 : Int)) (m := .int .i64 (Y8 : Int)) hb1 hge)
        refine held_one 14 rfl rfl (by kernel_rfl) fun K hK => ?_
        go_simp
        refine hK _ _ HBV.out ?_
        clear hK K t0 t1 t2 z0 z1 z2 hp1 hx1 hb1
        generalize ((Y1.setCell ⟨p, 0, none⟩ (.int .i64 (Y4 : Int))).setCell ⟨p, 1, none⟩ (.int .i64 (Y6 : Int))).setCell ⟨p, 2, none⟩ (.int .i64 (Y8 : Int)) = V2 at *
        refine wpAnyH_done (by kernel_rfl) ?_ _
        unfold onlyN
        dsimp only
        have RV := Lib.hid (rvalid7_any (Y4 : Int) (Y6 : Int) (Y8 : Int))
        unfold SV at RV
        obtain ⟨u0, u1, u2, -, -, -⟩ := bx3 HP.out
        go_wp2_with fail
        refine (RV.out _).mono ?_
        rintro e V3 ⟨rfl, hb3⟩
        have HP3 := Lib.hid ((hb3.block _ (lt_of_some HP.out)).trans HP.out)
        have HX3 := Lib.hid ((hb3.block _ (lt_of_some HXB.out)).trans HXB.out)
        have HB3 := Lib.hid (bt HBV.out hb3)
        clear u0 u1 u2 hb3
        obtain ⟨u0, u1, u2, -, -, -⟩ := bx3 HP3.out
        obtain ⟨t0, t1, t2, z0, z1, z2⟩ := bx3 HX3.out
        cases hok : okS (Y4 : Int) (Y6 : Int) (Y8 : Int)
        · have HE := Lib.hid (HD4.out.1 hok)
          clear hok
          go_wp2_with fail
          exact rdec7_end (g := w.heap.size) rfl (set3 HX3.out) (err7 (err := 3) HE.out (by decide) (below3 HB3.out (Nat.le_refl _)))
        · have HE := Lib.hid (HD4.out.2 hok)
          clear hok
          go_wp2_with fail
          refine rdec7_end (g := w.heap.size) rfl (set3 HX3.out) ⟨?_, below3 HB3.out (Nat.le_refl _)⟩
          rw [HDX.out 0 HE.out, HE.out, if_pos rfl]
          rfl
    · go_simp
      have hb1 := hb0.alloc hb0.size (.cells #[.int .i64 0, .int .i64 0, .int .i64 0] 23)
      have hx1 : (Y0.alloc (.cells #[.int .i64 0, .int .i64 0, .int .i64 0] 23)).heap[w.heap.size]? = _ := (Below.heap_alloc Y0 _ _ (lt_of_some hx0)).trans hx0
      have hp1 := heap_alloc_new Y0 (.cells #[.int .i64 0, .int .i64 0, .int .i64 0] 23)
      have hne : w.heap.size ≠ Y0.heap.size := by have := lt_of_some hx0; omega
      have hge : w.heap.size ≤ Y0.heap.size := hb0.size
      refine hK _ _ hb1 ?_
      clear hK K
      generalize Y0.alloc (.cells #[.int .i64 0, .int .i64 0, .int .i64 0] 23) = Y1 at *
      generalize Y0.heap.size = p at *
      refine held_one 6 rfl rfl (by kernel_rfl) fun K hK => ?_
      go_simp
      go_at_call 23
      refine (V6.out _ hb1).mono ?_
      rintro e Y ⟨rfl, rfl⟩
      refine hK _ _ hb1 ?_
      clear hK K
      refine wpAnyH_take (i := 7) (v := .int .i64 (IntKind.i64.wrap (Y6 : Int))) rfl (by kernel_rfl) (by kernel_rfl) (by kernel_rfl) (fun _ _ _ h => h) (Or.inl ⟨by kernel_rfl, fun w _ => by rfl⟩) hb1 ?_
      rw [w6]
      refine held_one 10 rfl rfl (by kernel_rfl) fun K hK => ?_
      go_simp
      go_at_call 23
      refine (V8.out _ hb1).mono ?_
      rintro e Y ⟨rfl, rfl⟩
      refine hK _ _ hb1 ?_
      clear hK K
      refine wpAnyH_take (i := 11) (v := .int .i64 (IntKind.i64.wrap (Y8 : Int))) rfl (by kernel_rfl) (by kernel_rfl) (by kernel_rfl) (fun _ _ _ h => h) (Or.inl ⟨by kernel_rfl, fun w _ => by rfl⟩) hb1 ?_
      rw [w8]
      refine wpAnyH_take (i := 12) (v := .agg #[.int .i64 (Y4 : Int), .int .i64 (Y6 : Int), .int .i64 (Y8 : Int)]) rfl (by kernel_rfl) (by kernel_rfl) (by kernel_rfl) (fun _ _ _ h => h) (Or.inl ⟨by kernel_rfl, fun w _ => by go_simp⟩) hb1 ?_
      obtain ⟨t0, t1, t2, z0, z1, z2⟩ := bx3 hp1
      have HP := Lib.hid (set3 (k := .int .i64 (Y4 : Int)) (l := .int .i64 (Y6 : Int)) (m := .int .i64 (Y8 : Int)) hp1)
      have HXB := Lib.hid ((set3_other (k := .int .i64 (Y4 : Int)) (l := .int .i64 (Y6 : Int)) (m := .int .i64 (Y8 : Int)) hne).trans hx1)
      have HBV := Lib.hid (below3 (k := .int .i64 (Y4 : Int)) (l := .int .i64 (Y6 : Int)) (m := .int .i64 (Y8 : Int)) hb1 hge)
      refine held_one 14 rfl rfl (by kernel_rfl) fun K hK => ?_
      go_simp
      refine hK _ _ HBV.out ?_
      clear hK K t0 t1 t2 z0 z1 z2 hp1 hx1 hb1
      generalize ((Y1.setCell ⟨p, 0, none⟩ (.int .i64 (Y4 : Int))).setCell ⟨p, 1, none⟩ (.int .i64 (Y6 : Int))).setCell ⟨p, 2, none⟩ (.int .i64 (Y8 : Int)) = V2 at *
      refine wpAnyH_done (by kernel_rfl) ?_ _
      unfold onlyN
      dsimp only
      have RV := Lib.hid (rvalid7_any (Y4 : Int) (Y6 : Int) (Y8 : Int))
      unfold SV at RV
      obtain ⟨u0, u1, u2, -, -, -⟩ := bx3 HP.out
      go_wp2_with fail
      refine (RV.out _).mono ?_
      rintro e V3 ⟨rfl, hb3⟩
      have HP3 := Lib.hid ((hb3.block _ (lt_of_some HP.out)).trans HP.out)
      have HX3 := Lib.hid ((hb3.block _ (lt_of_some HXB.out)).trans HXB.out)
      have HB3 := Lib.hid (bt HBV.out hb3)
      clear u0 u1 u2 hb3
      obtain ⟨u0, u1, u2, -, -, -⟩ := bx3 HP3.out
      obtain ⟨t0, t1, t2, z0, z1, z2⟩ := bx3 HX3.out
      cases hok : okS (Y4 : Int) (Y6 : Int) (Y8 : Int)
      · have HE := Lib.hid (HD4.out.1 hok)
        clear hok
        go_wp2_with fail
        exact rdec7_end (g := w.heap.size) rfl (set3 HX3.out) (err7 (err := 3) HE.out (by decide) (below3 HB3.out (Nat.le_refl _)))
      · have HE := Lib.hid (HD4.out.2 hok)
        clear hok
        go_wp2_with fail
        refine rdec7_end (g := w.heap.size) rfl (set3 HX3.out) ⟨?_, below3 HB3.out (Nat.le_refl _)⟩
        rw [HDX.out 0 HE.out, HE.out, if_pos rfl]
        rfl
  · go_simp
    have hb1 := hb0.alloc hb0.size (.cells #[.int .i64 0, .int .i64 0, .int .i64 0] 23)
    have hx1 : (Y0.alloc (.cells #[.int .i64 0, .int .i64 0, .int .i64 0] 23)).heap[w.heap.size]? = _ := (Below.heap_alloc Y0 _ _ (lt_of_some hx0)).trans hx0
    have hp1 := heap_alloc_new Y0 (.cells #[.int .i64 0, .int .i64 0, .int .i64 0] 23)
    have hne : w.heap.size ≠ Y0.heap.size := by have := lt_of_some hx0; omega
    have hge : w.heap.size ≤ Y0.heap.size := hb0.size
    refine hK _ _ hb1 ?_
    clear hK K
    generalize Y0.alloc (.cells #[.int .i64 0, .int .i64 0, .int .i64 0] 23) = Y1 at *
    generalize Y0.heap.size = p at *
    refine held_one 2 rfl rfl (by kernel_rfl) fun K hK => ?_
    go_simp
    go_at_call 23
    refine (V4.out _ hb1).mono ?_
    rintro e Y ⟨rfl, rfl⟩
    refine hK _ _ hb1 ?_
    clear hK K
    refine wpAnyH_take (i := 3) (v := .int .i64 (IntKind.i64.wrap (Y4 : Int))) rfl (by kernel_rfl) (by kernel_rfl) (by kernel_rfl) (fun _ _ _ h => h) (Or.inl ⟨by kernel_rfl, fun w _ => by rfl⟩) hb1 ?_
    rw [w4]
    refine held_one 6 rfl rfl (by kernel_rfl) fun K hK => ?_
    go_simp
    go_at_call 23
    refine (V6.out _ hb1).mono ?_
    rintro e Y ⟨rfl, rfl⟩
    refine hK _ _ hb1 ?_
    clear hK K
    refine wpAnyH_take (i := 7) (v := .int .i64 (IntKind.i64.wrap (Y6 : Int))) rfl (by kernel_rfl) (by kernel_rfl) (by kernel_rfl) (fun _ _ _ h => h) (Or.inl ⟨by kernel_rfl, fun w _ => by rfl⟩) hb1 ?_
    rw [w6]
    refine held_one 10 rfl rfl (by kernel_rfl) fun K hK => ?_
    go_simp
    go_at_call 23
    refine (V8.out _ hb1).mono ?_
    rintro e Y ⟨rfl, rfl⟩
    refine hK _ _ hb1 ?_
    clear hK K
    refine wpAnyH_take (i := 11) (v := .int .i64 (IntKind.i64.wrap (Y8 : Int))) rfl (by kernel_rfl) (by kernel_rfl) (by kernel_rfl) (fun _ _ _ h => h) (Or.inl ⟨by kernel_rfl, fun w _ => by rfl⟩) hb1 ?_
    rw [w8]
    refine wpAnyH_take (i := 12) (v := .agg #[.int .i64 (Y4 : Int), .int .i64 (Y6 : Int), .int .i64 (Y8 : Int)]) rfl (by kernel_rfl) (by kernel_rfl) (by kernel_rfl) (fun _ _ _ h => h) (Or.inl ⟨by kernel_rfl, fun w _ => by go_simp⟩) hb1 ?_
    obtain ⟨t0, t1, t2, z0, z1, z2⟩ := bx3 hp1
    have HP := Lib.hid (set3 (k := .int .i64 (Y4 : Int)) (l := .int .i64 (Y6 : Int)) (m := .int .i64 (Y8 : Int)) hp1)
    have HXB := Lib.hid ((set3_other (k := .int .i64 (Y4 : Int)) (l := .int .i64 (Y6 : Int)) (m := .int .i64 (Y8 : Int)) hne).trans hx1)
    have HBV := Lib.hid (below3 (k := .int .i64 (Y4 : Int)) (l := .int .i64 (Y6 : Int)) (m := .int .i64 (Y8 : Int)) hb1 hge)
    refine held_one 14 rfl rfl (by kernel_rfl) fun K hK => ?_
    go_simp
    refine hK _ _ HBV.out ?_
    clear hK K t0 t1 t2 z0 z1 z2 hp1 hx1 hb1
    generalize ((Y1.setCell ⟨p, 0, none⟩ (.int .i64 (Y4 : Int))).setCell ⟨p, 1, none⟩ (.int .i64 (Y6 : Int))).setCell ⟨p, 2, none⟩ (.int .i64 (Y8 : Int)) = V2 at *
    refine wpAnyH_done (by kernel_rfl) ?_ _
    unfold onlyN
    dsimp only
    have RV := Lib.hid (rvalid7_any (Y4 : Int) (Y6 : Int) (Y8 : Int))
    unfold SV at RV
    obtain ⟨u0, u1, u2, -, -, -⟩ := bx3 HP.out
    go_wp2_with fail
    refine (RV.out _).mono ?_
    rintro e V3 ⟨rfl, hb3⟩
    have HP3 := Lib.hid ((hb3.block _ (lt_of_some HP.out)).trans HP.out)
    have HX3 := Lib.hid ((hb3.block _ (lt_of_some HXB.out)).trans HXB.out)
    have HB3 := Lib.hid (bt HBV.out hb3)
    clear u0 u1 u2 hb3
    obtain ⟨u0, u1, u2, -, -, -⟩ := bx3 HP3.out
    obtain ⟨t0, t1, t2, z0, z1, z2⟩ := bx3 HX3.out
    cases hok : okS (Y4 : Int) (Y6 : Int) (Y8 : Int)
    · have HE := Lib.hid (HD4.out.1 hok)
      clear hok
      go_wp2_with fail
      exact rdec7_end (g := w.heap.size) rfl (set3 HX3.out) (err7 (err := 3) HE.out (by decide) (below3 HB3.out (Nat.le_refl _)))
    · have HE := Lib.hid (HD4.out.2 hok)
      clear hok
      go_wp2_with fail
      refine rdec7_end (g := w.heap.size) rfl (set3 HX3.out) ⟨?_, below3 HB3.out (Nat.le_refl _)⟩
      rw [HDX.out 0 HE.out, HE.out, if_pos rfl]
      rfl
end Go.Proofs.YtekdnloabhnngaaDoor.Gf
