/- What is proved here: the contract of the program's Append, with the blocks that the disk lies in. Condition: as of Append. -/
import Derived.Test.YtpipgbjkkiheaaaK10H
namespace Go.Proofs.Ytpipgbjkkiheaaa.Gf
open Go Go.Joins Go.ChangeShapes Go.WideShapes Go.ChangeAt Go.RowKit Go.Deep Go.Proofs.Ytpipgbjkkiheaaa.By Go.Proofs.Ytpipgbjkkiheaaa.Qt

theorem dvb_keep {C : Nat → Prop} {w w' : World} {v : Value} {d : Dk} (h : DvB C w v d) (hB : Below w.heap.size w w') : DvB C w' v d := by
  obtain ⟨fv, h1, h2, h3⟩ := h
  exact ⟨fv, h1, h2, rd_below h3 hB⟩
set_option maxRecDepth 100000 in
set_option maxHeartbeats 12800000 in
theorem pappendB_any {B : Nat → Prop} (v : Value) (d : Dk) (s : ByteArray) (dv : Value) (b : List Nat) (w : World) (sd : Sl w dv b) (hbl : b.length ≤ 1099511627776) (hs : s.size ≤ maxLen) (k : Nat) (hv : DvB B w v d) (hsm : SmD d) (hpn : PnD d k) (hk : k ≤ 89990) : Calls Try.prog 38 #[v, .string s, dv] w (DE (fun b => B b ∧ b < w.heap.size) w (appendD d s b) (appendE d s b)) := by
  obtain ⟨fv, rfl, hr, sf⟩ := hv
  have sfo : Rd (fun b => B b ∧ b < w.heap.size) w (.sl tyF) [fv] d.2.2 := rd_mono sf fun _ hb h => ⟨hb, h⟩
  have RO := Lib.hid (fun W (h : Below w.heap.size w W) => popen_any (B := fun b => B b ∧ b < w.heap.size) _ d s hs W ⟨fv, rfl, hr, rd_below sfo h⟩ hsm)
  have HOK := Lib.hid (fun h => open_ok (d := d) (s := s) h)
  have HPN := Lib.hid hpn
  have HVL := Lib.hid (fun (h : validB d = true) => And.intro (valid_srt h) (valid_parts h).2.2.1)
  have HCE := Lib.hid (show appendE d s b = if atE d s = 0 then wEx d (fileAt d s) (contL (fileAt d s)).length b else atE d s from rfl)
  have HDD := Lib.hid (show appendD d s b = if appendE d s b = 0 then wDx d (fileAt d s) (((contL (fileAt d s)).length : Int), b, false) else dk0 from rfl)
  have HHV : Hid (DvB (fun b => B b ∧ b < w.heap.size) w (.agg #[.int .i64 d.1, .int .i64 d.2.1, fv]) d) := Lib.hid ⟨fv, rfl, hr, sfo⟩
  have HSD := Lib.hid sd
  have HBL := Lib.hid hbl
  obtain ⟨ad, cd, rfl, -, -⟩ := sl_form sd
  have SF := Lib.hid sfo
  have HR := Lib.hid hr
  obtain ⟨af, cf, rfl, -, -⟩ := rd_sl sf
  generalize appendD d s b = DD at *
  generalize appendE d s b = CE at *
  obtain ⟨nd, hnd⟩ : ∃ z, z = b.length := ⟨_, rfl⟩
  rw [← hnd] at HSD ⊢
  clear hnd
  generalize openF d s = OF at *
  generalize fileAt d s = FA at *
  generalize atE d s = E at *
  generalize readyE d s = RE at *
  generalize atI d s = IE at *
  obtain ⟨cap, left, L⟩ := d
  dsimp only at RO HOK SF HR HVL HPN HHV ⊢
  have HPL : Hid (∀ f ∈ L, f.2.2.length ≤ k) := Lib.hid HPN.out
  obtain ⟨n, hn⟩ : ∃ z, z = L.length := ⟨_, rfl⟩
  rw [← hn] at SF RO HVL HHV ⊢
  have HN := Lib.hid hn
  have A1 := bel_al0 w (.cells #[.int .i64 cap, .int .i64 left, .slice af n cf] 33)
  have BX := Lib.hid (btA A1 (bel_al0 _ (.cells #[.int .i64 0, .int .i64 0, .slice none 0 0] 33)))
  have HX := Lib.hid (show ((w.alloc (.cells #[.int .i64 cap, .int .i64 left, .slice af n cf] 33)).alloc (.cells #[.int .i64 0, .int .i64 0, .slice none 0 0] 33)).heap[w.heap.size]? = some (.cells #[.int .i64 cap, .int .i64 left, .slice af n cf] 33 (0, 0)) from (al_old (by simp)).trans (heap_alloc_new w _))
  have HY := Lib.hid (heap_alloc2_new w (.cells #[.int .i64 cap, .int .i64 left, .slice af n cf] 33) (.cells #[.int .i64 0, .int .i64 0, .slice none 0 0] 33))
  clear sf sfo hr hsm A1 hpn HPN hn
  go_enter Try.func38, Try.ntmps38
  go_upto_region 1 with fail
  generalize ((w.alloc (.cells #[.int .i64 cap, .int .i64 left, .slice af n cf] 33)).alloc (.cells #[.int .i64 0, .int .i64 0, .slice none 0 0] 33)) = W1 at *
  obtain ⟨x0, x1, x2⟩ := box3c HX.out
  go_wp2_with fail
  refine (RO.out _ BX.out).mono ?_
  rintro e w2 ⟨⟨bv, pv, rfl, hrd⟩, hb2⟩
  have B2 := Lib.hid (btA BX.out hb2)
  have HX2 := Lib.hid ((hb2.block _ (lt_of_some0 HX.out)).trans HX.out)
  have HY2 := Lib.hid ((hb2.block _ (lt_of_some0 HY.out)).trans HY.out)
  obtain ⟨bv', pv', he, hsz, hb, hp⟩ := rd_f hrd
  obtain ⟨rfl, rfl⟩ : bv = bv' ∧ pv = pv' := by simpa using he
  obtain ⟨ab, cb, rfl, -, -⟩ := rd_sl hb
  obtain ⟨ap, cp, rfl, -, -⟩ := rd_sl hp
  have BA1 := Lib.hid (bel_al0 w2 (.cells #[.string OF.1, .slice ab OF.2.1.length cb, .slice ap OF.2.2.length cp] 59))
  have HZ := Lib.hid (heap_alloc_new w2 (.cells #[.string OF.1, .slice ab OF.2.1.length cb, .slice ap OF.2.2.length cp] 59))
  have RF := Lib.hid (rd_mono (C := fun b => B b ∧ b < w.heap.size) (rd_below hrd BA1.out) fun b hb _ => hb.1)
  have RFO := Lib.hid (rd_mono (C := fun b => B b ∧ b < w.heap.size) (rd_below hrd BA1.out) fun b hb _ => hb.1)
  have B3 := Lib.hid (btA B2.out BA1.out)
  have HX3 := Lib.hid ((BA1.out.block _ (lt_of_some0 HX2.out)).trans HX2.out)
  have HY3 := Lib.hid ((BA1.out.block _ (lt_of_some0 HY2.out)).trans HY2.out)
  have HFZ := Lib.hid (lt_of_some0 HY2.out)
  clear hb2 hrd he hsz hb hp x0 x1 x2 RO HX HY HX2 HY2 BX BA1 B2
  generalize OF.2.1.length = nb at *
  generalize OF.2.2.length = np at *
  go_upto_region 2 with fail
  generalize w2.alloc (.cells #[.string OF.1, .slice ab nb cb, .slice ap np cp] 59) = W3 at *
  generalize w2.heap.size = fz at *
  have SF3 := Lib.hid (rd_below SF.out B3.out)
  by_cases h0 : E = 0
  · subst h0
    obtain ⟨rfl, hmem, hf, hnm, hvv, -⟩ := HOK.out rfl
    have HVV := Lib.hid hvv
    rw [if_pos rfl] at HCE
    have PLN := Lib.hid (fun W (h : Below W3.heap.size W3 W) => plength_any OF.1 (.slice ab nb cb) (.slice ap np cp) OF.2.1 OF.2.2 W (sl_below (rd8_sl (rd_fb RF.out)) h) (rd_mono (rd_below (rd_fp RF.out) h) fun _ _ _ => trivial) hf)
    rw [show (OF.1, OF.2.1, OF.2.2) = OF from rfl] at PLN
    have HLN : Hid (OF.2.2.length ≤ 89990) := Lib.hid (Nat.le_trans (HPL.out _ hmem) hk)
    have PWR := Lib.hid (fun (old : Nat) (ho : old = (contL OF).length) W (h : Below W3.heap.size W3 W) => pwrite_any (B := fun b => B b ∧ b < w.heap.size) _ (cap, left, L) OF _ _ _ old b W (dvb_keep HHV.out (btA B3.out h)) (rd_below RF.out h) (sl_below HSD.out (btA B3.out h)) HVV.out hf HLN.out (by have := contL_le OF; omega) HBL.out)
    obtain ⟨old, hold⟩ : ∃ z, z = (contL OF).length := ⟨_, rfl⟩
    rw [← hold] at PLN HCE HDD
    have PW2 := Lib.hid (PWR.out old hold)
    rw [← HCE.out, ← HDD.out] at PW2
    clear HCE HDD HOK HVL hmem hf hnm PWR hold
    go_upto_region 4 with fail
    have S0 : SBx w [(w.heap.size, (.cells #[.int .i64 cap, .int .i64 left, .slice af n cf] 33 (0, 0))), (fz, (.cells #[.string OF.1, .slice ab nb cb, .slice ap np cp] 59 (0, 0)))] W3.drew := ⟨B3.out.drew, fun p hp => by
      rcases List.mem_cons.1 hp with rfl | hp
      · exact HX3.out
      · rw [List.mem_singleton.1 hp]; exact HZ.out⟩
    refine wp_onlyN ?_
    refine wp_region_headsS (SBx w [(w.heap.size, (.cells #[.int .i64 cap, .int .i64 left, .slice af n cf] 33 (0, 0))), (fz, (.cells #[.string OF.1, .slice ab nb cb, .slice ap np cp] 59 (0, 0)))]) [0, 1, 2, 4] 6 (by kernel_rfl) (fun _ _ _ _ _ h => h.elim) (by kernel_rfl) (by rfl) (by rfl) S0 ?_
    simp only [pickOps, List.filterMap_cons, List.filterMap_nil, List.getElem?_toArray, List.getElem?_cons_zero, List.getElem?_cons_succ]
    refine wpHeads_step (fun K hK => ?_)
    go_simp
    refine ⟨.agg #[.int .i64 cap, .int .i64 left, .slice af n cf], fun w' hw' => by
      obtain ⟨q0, q1, q2⟩ := box3c (hw'.box _ (List.mem_cons_self ..))
      simp [q0, q1, q2], hK _ ?_⟩
    clear hK K
    refine wpHeads_step (fun K hK => ?_)
    go_simp
    refine ⟨.agg #[.string OF.1, .slice ab nb cb, .slice ap np cp], fun w' hw' => by
      obtain ⟨q0, q1, q2⟩ := box3c (hw'.box _ (List.mem_cons_of_mem _ (List.mem_cons_self ..)))
      simp [q0, q1, q2], hK _ ?_⟩
    clear hK K
    refine wpHeads_step (fun K hK => ?_)
    go_simp
    refine ⟨.agg #[.string OF.1, .slice ab nb cb, .slice ap np cp], fun w' hw' => by
      obtain ⟨q0, q1, q2⟩ := box3c (hw'.box _ (List.mem_cons_of_mem _ (List.mem_cons_self ..)))
      simp [q0, q1, q2], hK _ ?_⟩
    clear hK K
    refine wpHeads_step (fun K hK => ?_)
    go_simp
    refine ⟨_, fun _ _ => rfl, hK _ ?_⟩
    clear hK K
    refine wpHeads_nil ?_
    have SD := Lib.hid S0
    have HYD : Hid (W3.drew.heap[w.heap.size + 1]? = some (.cells #[.int .i64 0, .int .i64 0, .slice none 0 0] 33 (0, 0))) := Lib.hid HY3.out
    have BD := Lib.hid (show Below W3.heap.size W3 W3.drew from (Below.refl _ _).drew)
    have SZ3 := Lib.hid (lt_of_some0 HY3.out)
    generalize W3.drew = WD at *
    clear S0
    refine held_one 3 rfl rfl (by kernel_rfl) fun K hK => ?_
    go_simp
    go_at_call 50
    refine (PLN.out _ BD.out).mono ?_
    rintro e w5 ⟨rfl, hb5⟩
    refine hK _ _ (SD.out.below hb5) ?_
    clear hK K
    have S5 := Lib.hid (SD.out.below hb5)
    have HY5 := Lib.hid ((hb5.block _ (lt_of_some0 HYD.out)).trans HYD.out)
    have BD5 := Lib.hid (btA BD.out hb5)
    clear hb5 SD HYD
    refine held_one 5 rfl rfl (by kernel_rfl) fun K hK => ?_
    go_simp
    go_at_call 65
    refine (PW2.out _ BD5.out).mono ?_
    rintro e w7 ⟨⟨v7, rfl, hv7⟩, hb7⟩
    refine hK _ _ (S5.out.below hb7) ?_
    clear hK K
    have S7 := Lib.hid (S5.out.below hb7)
    have HY7 := Lib.hid ((hb7.block _ (lt_of_some0 HY5.out)).trans HY5.out)
    obtain ⟨fv7, rfl, hr7, sf7⟩ := hv7
    have HR7 := Lib.hid hr7
    have SF7 := Lib.hid (rd_mono (C := fun b => (B b ∧ b < w.heap.size) ∨ w.heap.size + 2 ≤ b) sf7 fun b hb _ => by
      rcases hb with hb | hb
      · exact Or.inl hb.1
      · exact Or.inr (by have h1 := lt_of_some0 HY5.out; omega))
    obtain ⟨a7, c7, rfl, -, -⟩ := rd_sl sf7
    obtain ⟨n7, hn7⟩ : ∃ z, z = DD.2.2.length := ⟨_, rfl⟩
    rw [← hn7] at SF7 ⊢
    clear hr7 sf7 hb7 S5 HY5 hn7
    refine wpAnyH_take (i := 6) (v := .agg #[.int .i64 DD.1, .int .i64 DD.2.1, .slice a7 n7 c7]) rfl (by kernel_rfl) (by kernel_rfl) (by kernel_rfl) (fun _ _ _ h => h) (Or.inl ⟨by kernel_rfl, fun w _ => by go_simp⟩) S7.out ?_
    refine wpAnyH_take (i := 7) (v := .int .i64 (CE : Int)) rfl (by kernel_rfl) (by kernel_rfl) (by kernel_rfl) (fun _ _ _ h => h) (Or.inl ⟨by kernel_rfl, fun w _ => by go_simp⟩) S7.out ?_
    obtain ⟨y0, y1, y2⟩ := box3c HY7.out
    have u0 := frozen_of_row w7 (w.heap.size + 1) 0 _ _ HY7.out
    have u1 := frozen_of_row w7 (w.heap.size + 1) 1 _ _ HY7.out
    have u2 := frozen_of_row w7 (w.heap.size + 1) 2 _ _ HY7.out
    refine held_one 8 rfl rfl (by kernel_rfl) fun K hK => ?_
    go_simp
    refine hK _ _ (S7.out.set3 (by omega) (fun p hp => by
      rcases List.mem_cons.1 hp with rfl | hp
      · show w.heap.size ≠ w.heap.size + 1; omega
      · rw [List.mem_singleton.1 hp]; show fz ≠ w.heap.size + 1; have := HFZ.out; omega)) ?_
    clear hK K
    refine held_one 9 rfl rfl (by kernel_rfl) fun K hK => ?_
    go_simp
    refine hK _ _ (S7.out.set3 (by omega) (fun p hp => by
      rcases List.mem_cons.1 hp with rfl | hp
      · show w.heap.size ≠ w.heap.size + 1; omega
      · rw [List.mem_singleton.1 hp]; show fz ≠ w.heap.size + 1; have := HFZ.out; omega)) ?_
    clear hK K
    refine wpAnyH_done (by kernel_rfl) ?_ _
    unfold onlyN
    dsimp only
    clear y0 y1 y2 u0 u1 u2
    go_wp2
    refine pdisk_end rfl (set3c HY7.out) rfl ?_
    exact ⟨⟨_, rfl, _, rfl, HR7.out, rd_move (fun b hb _ => set3_other (by rcases hb with h | h <;> omega)) (fun b hb _ => by rcases hb with h | h; exact Or.inl h; exact Or.inr (by omega)) SF7.out⟩, below_set3 S7.out.bel (by omega)⟩
  · rw [if_neg h0] at HCE
    have HDZ : Hid (DD = dk0) := Lib.hid (by rw [HDD.out, if_neg (by rw [HCE.out]; exact h0)])
    have e1 : ((E : Int) != 0) = true := by rw [bne_iff_ne]; omega
    clear h0 HDD HOK HVL
    obtain ⟨y0, y1, y2⟩ := box3c HY3.out
    have u0 := frozen_of_row W3 (w.heap.size + 1) 0 _ _ HY3.out
    have u1 := frozen_of_row W3 (w.heap.size + 1) 1 _ _ HY3.out
    have u2 := frozen_of_row W3 (w.heap.size + 1) 2 _ _ HY3.out
    go_wp2
    refine pdisk_end rfl (set3c HY3.out) rfl ?_
    rw [HDZ.out, HCE.out]
    exact de_zero (below_set3 B3.out (by omega))
end Go.Proofs.Ytpipgbjkkiheaaa.Gf
