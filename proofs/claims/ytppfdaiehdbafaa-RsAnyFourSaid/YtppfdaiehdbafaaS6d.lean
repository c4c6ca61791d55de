/- What is proved here: the walk of the law RsAnyFour. No condition. -/
import Derived.Test.YtppfdaiehdbafaaS6a
namespace Go.Proofs.Ytppfdaiehdbafaa.Gf
open Go Go.ChangeShapes Go.WideShapes Go.ChangeAt Go.RowKit Go.Sort Go.Proofs.Ytppfdaiehdbafaa.By Go.Proofs.Ytppfdaiehdbafaa.Qt

/-- All shards but x and y. -/
def but2 (x y : Nat) : List Bool := (List.range 6).map fun k => k != x && k != y
theorem but2_len (x y : Nat) : (but2 x y).length = 6 := by simp [but2]
theorem but2_getD {x y k : Nat} (hk : k < 6) : (but2 x y).getD k false = (k != x && k != y) := by simp [but2, List.getD, hk]
theorem but2_pres : ∀ x, x < 6 → ∀ y, y < 6 → pres (but2 x y) = skip2 x y 6 := by decide +kernel
theorem set_two {x y : Nat} (hx : x < 6) (hy : y < 6) : (([Value.bool true, .bool true, .bool true, .bool true, .bool true, .bool true].set x (.bool false)).set y (.bool false)).toArray = BV fun q => q != x && q != y := by
  rw [← List.setIfInBounds_toArray, set_true hx, BV_set _ _ hy]
  refine BV_ext fun i _ => ?_
  by_cases e : i = y
  · subst e; simp
  · by_cases e2 : i = x
    · subst e2; simp [e]
    · simp [e, e2]
theorem sb_two {w : World} {g x y : Nat} {T : TypeId} (hg : w.heap[g]? = some (.cells (BV fun q => q != x && q != y) T (0, 0))) : Sb w (.slice (some ⟨g, 0, none⟩) 6 6) (but2 x y) := by
  refine ⟨by rw [but2_len]; unfold maxLen; decide, Or.inr ⟨g, 0, 6, by rw [but2_len], by rw [but2_len]; exact Nat.le_refl _, by unfold maxLen; decide, fun k hk => ?_⟩⟩
  rw [but2_len] at hk
  rw [Nat.zero_add, cell_of_row _ _ _ _ _ _ hg, BV_get _ hk, but2_getD hk]
/-- What four shards of a code word make, whatever the other two are. -/
theorem any_four {m x y : Nat} {S : List (List Nat)} {p q : List Nat} (hS : Code6 m S) (hx : x < 6) (hy : y < 6) (hne : y ≠ x) : resL ((S.set x p).set y q) (but2 x y) = S ∧ resE ((S.set x p).set y q) (but2 x y) = 0 := by
  have hl := code_lv hS
  have hg := skip2_good x hx y hy hne
  have hp := but2_pres x hx y hy
  have h4 := good_length hg
  have hpick : pickL (skip2 x y 6) ((S.set x p).set y q) = pickL (skip2 x y 6) S := by
    unfold pickL
    refine List.map_congr_left fun i hi => ?_
    unfold skip2 at hi
    simp only [List.mem_filter, Bool.and_eq_true, bne_iff_ne] at hi
    rw [getD_set_other hi.2.2, getD_set_other hi.2.1]
  have hlv := pickL_lv hg hl
  have hf : Fit ((S.set x p).set y q) (but2 x y) := ⟨by simp [hl.len], but2_len x y, by rw [hp, hpick]; exact (lv_lev hlv).2⟩
  unfold resL resE
  rw [if_pos hf, if_pos hf, hp, h4, if_pos (by decide), if_pos (by decide), hpick, List.take_of_length_le (by omega), List.take_of_length_le (by rw [hlv.len]; decide), wid_lv hlv (by decide), code_rest hg hS]
  exact ⟨rfl, rfl⟩
set_option maxRecDepth 100000 in
set_option maxHeartbeats 6400000 in
theorem anyfour_walk (v0 : Value) (l0 : List Nat) (n1 n2 n3 : Int) (v4 : Value) (l4 : List (List Nat)) (w : World) (s0 : Sl w v0 l0) (s4 : Sr w v4 l4) : Calls Try.prog 6 #[v0, .int .i64 n1, .int .i64 n2, .int .i64 n3, v4] w fun e w' => e = .returned (.bool true) ∧ Below w.heap.size w w' := by
  obtain ⟨a4, c4, hv4, -, -⟩ := sr_form s4
  obtain ⟨m4, hm4⟩ : ∃ q, q = l4.length := ⟨_, rfl⟩
  rw [← hm4] at hv4
  subst hv4
  have FU := Lib.hid (full_any v0 l0 n1 w s0)
  have S4 := Lib.hid s4
  have HM4 := Lib.hid hm4
  clear s0 s4 hm4
  go_enter Try.func6, Try.ntmps6
  go_wp2_with fail
  refine FU.out.mono ?_
  rintro e w1 ⟨⟨v1, vs, S, rfl, hO, hC⟩, hb1⟩
  obtain ⟨gS, cS, rfl, -, -, -, -⟩ := ownk_form hO (code_lv hC).len (by decide)
  have LI := Lib.hid (light_any _ l4 w1 (sr_below S4.out hb1))
  have B1 := Lib.hid hb1
  have SO := Lib.hid hO.sr
  have HC := Lib.hid hC
  clear hO hC hb1 FU
  go_wp2_with fail
  refine LI.out.mono ?_
  rintro e w0 ⟨rfl, rfl⟩
  by_cases hl : Lgt l4
  · rw [decide_eq_true hl] at LI ⊢
    have HSM := Lib.hid hl
    clear hl
    obtain ⟨ti, x, h1, h2, h3, h4, h5⟩ := rmd6 n2
    obtain ⟨tj, yy, g1, g2, g3, g4, g5⟩ := rmd5 n3
    obtain ⟨k1, k2, k3⟩ := other6 h5 g5
    generalize (x + 1 + yy) % 6 = y at *
    have i0 : (0 : Int) ≤ (x : Int) := by omega
    have i1 : (x : Int) < 6 := by omega
    have i2 : (0 : Int) ≤ (y : Int) := by omega
    have i3 : (y : Int) < 6 := by omega
    have hz : (w1.alloc (.cells (([Value.bool true, .bool true, .bool true, .bool true, .bool true, .bool true].set x (.bool false)).set y (.bool false)).toArray 4)).heap.size = w1.heap.size + 1 := by simp
    have hal := (Below.refl w1.heap.size w1).alloc (Nat.le_refl _) (.cells (([Value.bool true, .bool true, .bool true, .bool true, .bool true, .bool true].set x (.bool false)).set y (.bool false)).toArray 4)
    have hsb := sb_two (x := x) (y := y) ((heap_alloc_new w1 (.cells (([Value.bool true, .bool true, .bool true, .bool true, .bool true, .bool true].set x (.bool false)).set y (.bool false)).toArray 4)).trans (congrArg (fun c => some (Obj.cells c 4 (0, 0))) (set_two h5 k2)))
    have hem := ownk_empty (w1.alloc (.cells (([Value.bool true, .bool true, .bool true, .bool true, .bool true, .bool true].set x (.bool false)).set y (.bool false)).toArray 4)) (Nat.le_refl _)
    have hsrc := SO.out.src (P := S) (by rw [(code_lv HC.out).len]; decide) (b0 := (w1.alloc (.cells (([Value.bool true, .bool true, .bool true, .bool true, .bool true, .bool true].set x (.bool false)).set y (.bool false)).toArray 4)).heap.size) hal.size (hal.alloc hal.size (.cells #[] 22))
    have EM : Hid (OwnK ((w1.alloc (.cells (([Value.bool true, .bool true, .bool true, .bool true, .bool true, .bool true].set x (.bool false)).set y (.bool false)).toArray 4)).alloc (.cells #[] 22)) (w1.alloc (.cells (([Value.bool true, .bool true, .bool true, .bool true, .bool true, .bool true].set x (.bool false)).set y (.bool false)).toArray 4)).heap.size (.slice (some ⟨w1.heap.size + 1, 0, none⟩) 0 0) [] []) := by
      have h := hem
      rw [show (Value.slice (some ⟨(w1.alloc (.cells (([Value.bool true, .bool true, .bool true, .bool true, .bool true, .bool true].set x (.bool false)).set y (.bool false)).toArray 4)).heap.size, 0, none⟩) 0 0) = .slice (some ⟨w1.heap.size + 1, 0, none⟩) 0 0 by rw [hz]] at h
      exact h
    have SRC := Lib.hid hsrc
    have SBH := Lib.hid hsb
    have AL := Lib.hid hal
    have HLEN := Lib.hid (code_lv HC.out).len
    clear hz hal hsb hem hsrc
    by_cases hm : 1 < m4
    · have hgt : (1 : Int) < (m4 : Int) := by omega
      go_wp2_with (at_builtin; refine app_rows (dst := some 59) (n := 0) (P := S) ?_ ?_ EM.out rfl SRC.out (by rw [HLEN.out]; decide) (by simp) ?_; exact rfl; exact rfl; intro v5 w5 ys ho5 hg5; rw [List.nil_append, List.nil_append] at ho5; obtain ⟨g5, c5, hv5, -, -, hg5b, -⟩ := ownk_form ho5 HLEN.out (by decide); subst hv5; have ho6 := ownk_set (x := .slice none 0 0) (l := []) ho5 HLEN.out h5 (Or.inl (own_nil _ _)); have hl6 : (S.set x []).length = 6 := (List.length_set ..).trans HLEN.out; have ho7 := ownk_set (x := .slice none 0 0) (l := []) ho6 hl6 k2 (Or.inl (own_nil _ _)); obtain ⟨q1, q2⟩ := ownk_cell ho5 HLEN.out h5; obtain ⟨q3, q4⟩ := ownk_cell ho6 hl6 k2; have HO7 := Lib.hid ho7; have HG5 := Lib.hid hg5; have HGB := Lib.hid hg5b; clear ho5 ho6 ho7 hl6 hg5 hg5b)
      have hb5 : Below (w1.alloc (.cells (([Value.bool true, .bool true, .bool true, .bool true, .bool true, .bool true].set x (.bool false)).set y (.bool false)).toArray 4)).heap.size (w1.alloc (.cells (([Value.bool true, .bool true, .bool true, .bool true, .bool true, .bool true].set x (.bool false)).set y (.bool false)).toArray 4)) w5 := (((Below.refl (w1.alloc (.cells (([Value.bool true, .bool true, .bool true, .bool true, .bool true, .bool true].set x (.bool false)).set y (.bool false)).toArray 4)).heap.size (w1.alloc (.cells (([Value.bool true, .bool true, .bool true, .bool true, .bool true, .bool true].set x (.bool false)).set y (.bool false)).toArray 4))).alloc (Nat.le_refl _) (.cells #[] 22))).grown HG5.out (by simp) fun q hq => (EM.out.row.lt q hq).1
      have hb7 := (hb5.setCell (p := ⟨g5, x, none⟩) HGB.out (.slice none 0 0)).setCell (p := ⟨g5, y, none⟩) HGB.out (.slice none 0 0)
      have HO := Lib.hid HO7.out
      have HB7 := Lib.hid hb7
      clear hb5 hb7 HG5 EM SRC q1 q2 q3 q4 HO7
      generalize (w5.setCell ⟨g5, x, none⟩ (.slice none 0 0)).setCell ⟨g5, y, none⟩ (.slice none 0 0) = W7 at *
      obtain ⟨b4, o4, c4', hv4, -, -, kc⟩ := sr_cells S4.out (by have := HM4.out; omega)
      obtain ⟨rfl, -, rfl⟩ : a4 = some ⟨b4, o4, none⟩ ∧ m4 = l4.length ∧ c4 = c4' := by simpa using hv4
      obtain ⟨z0, y0, t0⟩ := kc 0 (by have := HM4.out; omega)
      obtain ⟨z1, y1, t1⟩ := kc 1 (by have := HM4.out; omega)
      rw [Nat.add_zero] at y0
      obtain ⟨za, zc, rfl, -, -⟩ := sl_form t0
      obtain ⟨zb, zd, rfl, -, -⟩ := sl_form t1
      obtain ⟨n0, hn0⟩ : ∃ q, q = (l4.getD 0 []).length := ⟨_, rfl⟩
      obtain ⟨n9, hn9⟩ : ∃ q, q = (l4.getD 1 []).length := ⟨_, rfl⟩
      rw [← hn0] at y0 t0
      rw [← hn9] at y1 t1
      have Y0 := Lib.hid y0
      have Y1 := Lib.hid y1
      have T0 := Lib.hid t0
      have T1 := Lib.hid t1
      have BW := Lib.hid (bt B1.out AL.out)
      have j0 : 0 < m4 := by omega
      clear hv4 kc y0 y1 t0 t1 hn0 hn9
      refine wp_region_headsS (fun w' => Below w.heap.size w w') [0, 1, 2, 3, 4, 5, 6, 7, 8, 9] 4 (by kernel_rfl) (fun _ _ d _ _ h => by cases d <;> exact h) (by kernel_rfl) (by rfl) (by rfl) (bt BW.out HB7.out).drew ?_
      simp only [pickOps, List.filterMap_cons, List.filterMap_nil, List.getElem?_toArray, List.getElem?_cons_zero, List.getElem?_cons_succ]
      refine wpHeads_step (fun K hK => ?_)
      go_simp
      refine ⟨_, fun _ _ => rfl, hK _ ?_⟩
      clear hK K
      refine wpHeads_step (fun K hK => ?_)
      go_simp
      refine ⟨_, fun _ _ => rfl, hK _ ?_⟩
      clear hK K
      refine wpHeads_step (fun K hK => ?_)
      go_simp
      refine ⟨_, fun _ _ => rfl, hK _ ?_⟩
      clear hK K
      refine wpHeads_step (fun K hK => ?_)
      go_simp
      refine ⟨_, fun _ _ => rfl, hK _ ?_⟩
      clear hK K
      refine wpHeads_step (fun K hK => ?_)
      go_simp
      refine ⟨_, fun _ _ => rfl, hK _ ?_⟩
      clear hK K
      refine wpHeads_step (fun K hK => ?_)
      go_simp
      refine ⟨_, fun _ _ => rfl, hK _ ?_⟩
      clear hK K
      refine wpHeads_step (fun K hK => ?_)
      go_simp
      refine ⟨.slice za n0 zc, fun w' hw' => by rw [(hw'.cell (p := ⟨b4, o4, none⟩) (block_lt_of_cell Y0.out)).trans Y0.out]; rfl, hK _ ?_⟩
      clear hK K
      refine wpHeads_step (fun K hK => ?_)
      go_simp
      refine ⟨_, fun _ _ => rfl, hK _ ?_⟩
      clear hK K
      refine wpHeads_step (fun K hK => ?_)
      go_simp
      refine ⟨_, fun _ _ => rfl, hK _ ?_⟩
      clear hK K
      refine wpHeads_step (fun K hK => ?_)
      go_simp
      refine ⟨.slice zb n9 zd, fun w' hw' => by rw [(hw'.cell (p := ⟨b4, o4 + 1, none⟩) (block_lt_of_cell Y1.out)).trans Y1.out]; rfl, hK _ ?_⟩
      clear hK K
      refine wpHeads_nil ?_
      have hb8 := HB7.out.drew
      have ho8 := HO.out.later (Below.refl W7.heap.size W7).drew
      generalize W7.drew = W8 at *
      have hl8 : ((S.set x []).set y []).length = 6 := by rw [List.length_set, List.length_set]; exact HLEN.out
      have ho9 := ownk_set (x := .slice za n0 zc) (l := l4.getD 0 []) ho8 hl8 h5 (Or.inr ⟨w, BW.out.size, bt BW.out hb8, T0.out⟩)
      have hl9 : (((S.set x []).set y []).set x (l4.getD 0 [])).length = 6 := by rw [List.length_set]; exact hl8
      have ho10 := ownk_set (x := .slice zb n9 zd) (l := l4.getD 1 []) ho9 hl9 k2 (Or.inr ⟨w, BW.out.size, (bt BW.out hb8).setCell (Nat.le_trans BW.out.size HGB.out) _, T1.out⟩)
      obtain ⟨q1, q2⟩ := ownk_cell ho8 hl8 h5
      obtain ⟨q3, q4⟩ := ownk_cell ho9 hl9 k2
      have hb9 := hb8.setCell (p := ⟨g5, x, none⟩) HGB.out (.slice za n0 zc)
      have hb10 := hb9.setCell (p := ⟨g5, y, none⟩) HGB.out (.slice zb n9 zd)
      have hfix : (((S.set x []).set y []).set x (l4.getD 0 [])).set y (l4.getD 1 []) = (S.set x (l4.getD 0 [])).set y (l4.getD 1 []) := by
        apply List.ext_getElem (by simp)
        intro i _ _
        simp only [List.getElem_set]
        by_cases e1 : y = i
        · simp [e1]
        · by_cases e2 : x = i
          · simp [e1, e2]
          · simp [e1, e2]
      rw [hfix] at ho10
      have HO10 := Lib.hid ho10
      have HB8 := Lib.hid hb8
      have HB9 := Lib.hid hb9
      have HB10 := Lib.hid hb10
      clear ho8 hl8 ho9 hl9 ho10 hfix hb8 hb9 hb10 HO HB7
      refine held_one 10 rfl rfl (by kernel_rfl) fun K hK => ?_
      go_simp
      refine hK _ _ (bt BW.out HB8.out) ?_
      clear hK K
      refine held_one 11 rfl rfl (by kernel_rfl) fun K hK => ?_
      go_simp
      refine hK _ _ (bt BW.out HB9.out) ?_
      clear hK K
      refine held_one 12 rfl rfl (by kernel_rfl) fun K hK => ?_
      go_simp
      refine hK _ _ (bt BW.out HB9.out) ?_
      clear hK K
      refine held_one 13 rfl rfl (by kernel_rfl) fun K hK => ?_
      go_simp
      refine hK _ _ (bt BW.out HB10.out) ?_
      clear hK K q1 q2 q3 q4 HB8 HB9
      have HO := Lib.hid HO10.out
      have HB7 := Lib.hid HB10.out
      clear HO10 HB10
      generalize (W8.setCell ⟨g5, x, none⟩ (.slice za n0 zc)).setCell ⟨g5, y, none⟩ (.slice zb n9 zd) = W7 at *
      refine wpAnyH_done (by kernel_rfl) ?_ _
      have HSP : Hid (Small ((S.set x (l4.getD 0 [])).set y (l4.getD 1 []))) := fun k => by
        have hS := lv_small (code_lv HC.out) (show kk n1 ≤ 1000000 by have := kk_lt n1; omega)
        have hl := HLEN.out
        by_cases e : k = y
        · rw [e, getD_set_eq (by rw [List.length_set, hl]; exact k2)]; exact HSM.out.small 1
        · rw [getD_set_other e]
          by_cases e2 : k = x
          · rw [e2, getD_set_eq (by rw [hl]; exact h5)]; exact HSM.out.small 0
          · rw [getD_set_other e2]; exact hS k
      go_wp2_with fail
      have hres := any_four (p := (l4.getD 0 [])) (q := (l4.getD 1 [])) HC.out h5 k2 k3
      have hre := restore_any _ _ ((S.set x (l4.getD 0 [])).set y (l4.getD 1 [])) (but2 x y) W7 HO.out.sr (sb_below SBH.out HB7.out) HSP.out
      rw [hres.1, hres.2] at hre
      have HRE := Lib.hid hre
      have SO7 := Lib.hid (sr_below SO.out (bt AL.out HB7.out))
      have B7 := Lib.hid (bt (bt B1.out AL.out) HB7.out)
      have HSS : Hid (Small S) := lv_small (code_lv HC.out) (by have := kk_lt n1; omega)
      have HV : Hid (Ver S) := (ver_code (sr_byt SO.out)).2 ⟨_, HC.out⟩
      clear hres hre HO HSP SO HB7 SBH HC
      refine HRE.out.mono ?_
      unfold EP
      rintro e w8 ⟨⟨v8, rfl, hs8⟩, hb8⟩
      have hsame := rsame_any v8 _ S S w8 hs8 (sr_below SO7.out hb8)
      rw [decide_eq_true rfl] at hsame
      have HS8 := Lib.hid hs8
      have B8 := Lib.hid (bt B7.out hb8)
      have SM := Lib.hid hsame
      clear hs8 hb8 hsame HRE
      go_wp2_with fail
      refine SM.out.mono ?_
      rintro e w9 ⟨rfl, hb9⟩
      have hve := verify_any v8 S w9 (sr_below HS8.out hb9) HSS.out
      rw [decide_eq_true HV.out] at hve
      have B9 := Lib.hid (bt B8.out hb9)
      have VE := Lib.hid hve
      clear hb9 hve
      go_wp2_with fail
      refine VE.out.mono ?_
      rintro e w10 ⟨rfl, hb10⟩
      have B10 := Lib.hid (bt B9.out hb10)
      clear hb10
      go_wp2_with fail
      refine (awake4_any w10).mono ?_
      rintro e w11 ⟨rfl, hb11⟩
      go_wp2_with fail
      go_ret
      exact ⟨rfl, bt B10.out hb11⟩
    · have hgt : ¬ (1 : Int) < (m4 : Int) := by omega
      go_wp2_with (at_builtin; refine app_rows (dst := some 59) (n := 0) (P := S) ?_ ?_ EM.out rfl SRC.out (by rw [HLEN.out]; decide) (by simp) ?_; exact rfl; exact rfl; intro v5 w5 ys ho5 hg5; rw [List.nil_append, List.nil_append] at ho5; obtain ⟨g5, c5, hv5, -, -, hg5b, -⟩ := ownk_form ho5 HLEN.out (by decide); subst hv5; have ho6 := ownk_set (x := .slice none 0 0) (l := []) ho5 HLEN.out h5 (Or.inl (own_nil _ _)); have hl6 : (S.set x []).length = 6 := (List.length_set ..).trans HLEN.out; have ho7 := ownk_set (x := .slice none 0 0) (l := []) ho6 hl6 k2 (Or.inl (own_nil _ _)); obtain ⟨q1, q2⟩ := ownk_cell ho5 HLEN.out h5; obtain ⟨q3, q4⟩ := ownk_cell ho6 hl6 k2; have HO7 := Lib.hid ho7; have HG5 := Lib.hid hg5; have HGB := Lib.hid hg5b; clear ho5 ho6 ho7 hl6 hg5 hg5b)
      have hb5 : Below (w1.alloc (.cells (([Value.bool true, .bool true, .bool true, .bool true, .bool true, .bool true].set x (.bool false)).set y (.bool false)).toArray 4)).heap.size (w1.alloc (.cells (([Value.bool true, .bool true, .bool true, .bool true, .bool true, .bool true].set x (.bool false)).set y (.bool false)).toArray 4)) w5 := (((Below.refl (w1.alloc (.cells (([Value.bool true, .bool true, .bool true, .bool true, .bool true, .bool true].set x (.bool false)).set y (.bool false)).toArray 4)).heap.size (w1.alloc (.cells (([Value.bool true, .bool true, .bool true, .bool true, .bool true, .bool true].set x (.bool false)).set y (.bool false)).toArray 4))).alloc (Nat.le_refl _) (.cells #[] 22))).grown HG5.out (by simp) fun q hq => (EM.out.row.lt q hq).1
      have hb7 := (hb5.setCell (p := ⟨g5, x, none⟩) HGB.out (.slice none 0 0)).setCell (p := ⟨g5, y, none⟩) HGB.out (.slice none 0 0)
      have HO := Lib.hid HO7.out
      have HB7 := Lib.hid hb7
      clear hb5 hb7 HG5 EM SRC q1 q2 q3 q4 HO7
      generalize (w5.setCell ⟨g5, x, none⟩ (.slice none 0 0)).setCell ⟨g5, y, none⟩ (.slice none 0 0) = W7 at *
      have HSP : Hid (Small ((S.set x []).set y [])) := fun k => by
        have hS := lv_small (code_lv HC.out) (show kk n1 ≤ 1000000 by have := kk_lt n1; omega)
        have hl := HLEN.out
        by_cases e : k = y
        · rw [e, getD_set_eq (by rw [List.length_set, hl]; exact k2)]; simp
        · rw [getD_set_other e]
          by_cases e2 : k = x
          · rw [e2, getD_set_eq (by rw [hl]; exact h5)]; simp
          · rw [getD_set_other e2]; exact hS k
      have hres := any_four (p := []) (q := []) HC.out h5 k2 k3
      have hre := restore_any _ _ ((S.set x []).set y []) (but2 x y) W7 HO.out.sr (sb_below SBH.out HB7.out) HSP.out
      rw [hres.1, hres.2] at hre
      have HRE := Lib.hid hre
      have SO7 := Lib.hid (sr_below SO.out (bt AL.out HB7.out))
      have B7 := Lib.hid (bt (bt B1.out AL.out) HB7.out)
      have HSS : Hid (Small S) := lv_small (code_lv HC.out) (by have := kk_lt n1; omega)
      have HV : Hid (Ver S) := (ver_code (sr_byt SO.out)).2 ⟨_, HC.out⟩
      clear hres hre HO HSP SO HB7 SBH HC
      refine HRE.out.mono ?_
      unfold EP
      rintro e w8 ⟨⟨v8, rfl, hs8⟩, hb8⟩
      have hsame := rsame_any v8 _ S S w8 hs8 (sr_below SO7.out hb8)
      rw [decide_eq_true rfl] at hsame
      have HS8 := Lib.hid hs8
      have B8 := Lib.hid (bt B7.out hb8)
      have SM := Lib.hid hsame
      clear hs8 hb8 hsame HRE
      go_wp2_with fail
      refine SM.out.mono ?_
      rintro e w9 ⟨rfl, hb9⟩
      have hve := verify_any v8 S w9 (sr_below HS8.out hb9) HSS.out
      rw [decide_eq_true HV.out] at hve
      have B9 := Lib.hid (bt B8.out hb9)
      have VE := Lib.hid hve
      clear hb9 hve
      go_wp2_with fail
      refine VE.out.mono ?_
      rintro e w10 ⟨rfl, hb10⟩
      have B10 := Lib.hid (bt B9.out hb10)
      clear hb10
      go_wp2_with fail
      refine (awake4_any w10).mono ?_
      rintro e w11 ⟨rfl, hb11⟩
      go_wp2_with fail
      go_ret
      exact ⟨rfl, bt B10.out hb11⟩
  · rw [decide_eq_false hl] at LI ⊢
    go_wp2_with fail
    refine LI.out.mono ?_
    rintro e w0 ⟨rfl, rfl⟩
    go_wp2_with fail
    refine (awake4_any w1).mono ?_
    rintro e w9 ⟨rfl, hb9⟩
    go_wp2_with fail
    go_ret
    exact ⟨rfl, bt B1.out hb9⟩
end Go.Proofs.Ytppfdaiehdbafaa.Gf
