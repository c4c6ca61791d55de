/- What is proved here: Waste of the program. -/
import Derived.Test.YtlooldnaoooehaaP11f
import Derived.Deep.CutRange
namespace Go.Proofs.Ytlooldnaoooehaa.Gf
open Go Go.Joins Go.ChangeShapes Go.WideShapes Go.ChangeAt Go.RowKit Go.Deep Go.Proofs.Ytlooldnaoooehaa.By Go.Proofs.Ytlooldnaoooehaa.Qt

theorem held_two {P : Program} {ops : Array Oper} {md : Region.Mode} {Q : Exit → Act → World → Prop} {S : World → Prop} {fuel : Nat} {listed : Array Bool} {a : Act} {w : World} (i k : Nat) {oi ok : Oper} (hi : ops[i]? = some oi) (hk : ops[k]? = some ok) (hg : oi.guard = none) (hg2 : ok.guard = none) (hr : Region.ready md ops listed = [i, k])
    (h : ∀ K : Act → World → Prop, (∀ a' w', S w' → wpAnyH P md ops Q S fuel (listed.setIfInBounds i true) a' w' → K a' w') → oi.wp P a w K Q)
    (h2 : ∀ K : Act → World → Prop, (∀ a' w', S w' → wpAnyH P md ops Q S fuel (listed.setIfInBounds k true) a' w' → K a' w') → ok.wp P a w K Q) : wpAnyH P md ops Q S (fuel + 1) listed a w := by
  refine wpAnyH_all hr (by simp) fun j hj => ?_
  have hj2 : j = i ∨ j = k := by simpa using hj
  rcases hj2 with rfl | rfl
  · unfold wpOp
    simp only [hi]
    rw [if_pos (by simp [Region.wanted, hg])]
    exact Or.inl (h _ fun a' w' h1 h2 => ⟨h1, h2⟩)
  · unfold wpOp
    simp only [hk]
    rw [if_pos (by simp [Region.wanted, hg2])]
    exact Or.inl (h2 _ fun a' w' h1 h2 => ⟨h1, h2⟩)
/-- Items stay where the block of a map is written. -/
theorem it_keepM {Y Y' : World} {p : Nat} {cs0 : Array Value} {T : TypeId} {v : Value} {L : List Itm} (s : It Y v L) (hz : Y.heap[p]? = some (.cells cs0 T (0, 0))) (hn : ∀ (k : Nat) (n : Int), cs0[k]? ≠ some (Value.int .u64 n)) (hk : ∀ b, b ≠ p → Y'.heap[b]? = Y.heap[b]?) : It Y' v L := by
  obtain ⟨h0, a, cap, h1, h2, h3, h4⟩ := s
  refine ⟨h0, a, cap, h1, h2, h3, fun hp => ?_⟩
  obtain ⟨b, off, e, hc⟩ := h4 hp
  refine ⟨b, off, e, fun j u hu => ?_⟩
  have hb : b ≠ p := fun e => by
    subst e
    match L, hp, hc with
    | x :: L, _, hc =>
      have h := hc 0 (.int .u64 (x.key : Int)) (by simp [cellsT, itV])
      rw [cell_of_row _ _ _ _ _ _ hz] at h
      exact hn _ _ h
  rw [← hc j u hu]
  simp only [World.cell?, hk b hb]
theorem zero_u64 : ∀ (k : Nat) (n : Int), (#[.slice none 0 0, .slice none 0 0, .slice none 0 0, .slice none 0 0, .slice none 0 0, .slice none 0 0, .slice none 0 0, .slice none 0 0, .int .i64 0, .int .i64 0] : Array Value)[k]? ≠ some (Value.int .u64 n) := fun k n h => by
  match k, h with
  | 0, h => simp at h
  | 1, h => simp at h
  | 2, h => simp at h
  | 3, h => simp at h
  | 4, h => simp at h
  | 5, h => simp at h
  | 6, h => simp at h
  | 7, h => simp at h
  | 8, h => simp at h
  | 9, h => simp at h
  | k + 10, h => simp at h
theorem ms_setRowZ {Y : World} {p : Nat} {vs : List Value} {m : Mp} {cs : Array Value} (h : Ms Y vs m) (hz : Y.heap[p]? = some (.cells #[.slice none 0 0, .slice none 0 0, .slice none 0 0, .slice none 0 0, .slice none 0 0, .slice none 0 0, .slice none 0 0, .slice none 0 0, .int .i64 0, .int .i64 0] 32 (0, 0))) : Ms (Y.setRow p cs) vs m := ⟨h.1, h.2.1, h.2.2.1, fun k hk => by
  obtain ⟨a, c, h1, h2⟩ := h.2.2.2 k hk
  exact ⟨a, c, h1, it_keepM h2 hz zero_u64 fun b hb => setRow_other _ _ _ _ hb⟩⟩
/-- A call that answers a map. -/
def MO (w : World) (m : Mp) (e : Ending) (w' : World) : Prop := (∃ v, e = .returned v ∧ Mv w' v m) ∧ Below w.heap.size w w'
theorem mo_end {fn : Func} {p : Tmp} {R : Ending → World → Prop} {W : World} {tmps : Array Value} {s0 s1 s2 s3 s4 s5 s6 s7 s8 s9 : Value} (hr : fn.results = #[.cell p 32]) (g : Nat) (hp : tmps.getD p undef = .pointer (some ⟨g, 0, none⟩)) (hg : W.heap[g]? = some (.cells #[s0, s1, s2, s3, s4, s5, s6, s7, s8, s9] 32 (0, 0)))
    (hR : R (.returned (.agg #[s0, s1, s2, s3, s4, s5, s6, s7, s8, s9])) W) : bodyPost Try.prog fn R .ret { tmps := tmps, defers := [] } W :=
  bodyPost_ret (results_cell_row hr _ _ g 32 #[s0, s1, s2, s3, s4, s5, s6, s7, s8, s9] (0, 0) _ hp hg Try.underlying32 rfl infoM10) rfl hR
theorem pwasted_bel (n : Int) (w : World) : Calls Try.prog 55 #[.int .i64 n] w fun e w' => e = .returned (.complex .f64 (flw 0) (flw n)) ∧ Below w.heap.size w w' := (pwasted_any n w).mono fun _ _ ⟨h1, h2⟩ => ⟨h1, by rw [h2]; exact Below.refl _ _⟩
theorem few_live {m : Mp} (hf : Few m) (h : okM m) (hl : m.st.length = 8) : 0 ≤ m.live ∧ m.live ≤ 33600000 := by
  have h1 := byT_bd m.st.flatten
  have h2 := flat_len hf hl 8 (Nat.le_refl _)
  rw [List.take_of_length_le (by omega)] at h2
  rw [h.live]
  omega
set_option maxRecDepth 100000 in
set_option maxHeartbeats 12800000 in
theorem pwaste_any (v : Value) (m : Mp) (n : Int) (w : World) (hv : Mv w v m) (hf : Few m) (hn : J64 n) : Calls Try.prog 31 #[v, .int .i64 n] w (MO w (wasteM m n)) := by
  have HNJ := Lib.hid hn
  have PV := Lib.hid (fun W (h : Below w.heap.size w W) => pvalid11_any v m W (mv_below hv h) hf)
  have HF := Lib.hid hf
  obtain ⟨s0, s1, s2, s3, s4, s5, s6, s7, rfl, hms⟩ := hv
  have q1 := bel_al w (.cells #[s0, s1, s2, s3, s4, s5, s6, s7, .int .i64 m.live, .int .i64 m.garb] 32)
  have h1 := heap_alloc_new w (.cells #[s0, s1, s2, s3, s4, s5, s6, s7, .int .i64 m.live, .int .i64 m.garb] 32)
  have hsz : (w.alloc (.cells #[s0, s1, s2, s3, s4, s5, s6, s7, .int .i64 m.live, .int .i64 m.garb] 32)).heap.size = w.heap.size + 1 := by simp
  have q2 := bel_al (w.alloc (.cells #[s0, s1, s2, s3, s4, s5, s6, s7, .int .i64 m.live, .int .i64 m.garb] 32)) (.cells #[.slice none 0 0, .slice none 0 0, .slice none 0 0, .slice none 0 0, .slice none 0 0, .slice none 0 0, .slice none 0 0, .slice none 0 0, .int .i64 0, .int .i64 0] 32)
  have h2 := heap_alloc_new (w.alloc (.cells #[s0, s1, s2, s3, s4, s5, s6, s7, .int .i64 m.live, .int .i64 m.garb] 32)) (.cells #[.slice none 0 0, .slice none 0 0, .slice none 0 0, .slice none 0 0, .slice none 0 0, .slice none 0 0, .slice none 0 0, .slice none 0 0, .int .i64 0, .int .i64 0] 32)
  rw [hsz] at h2
  have HZ2 := Lib.hid h2
  have HM2 := Lib.hid ((q2.block _ (lt_of_some h1)).trans h1)
  have B2 := Lib.hid (q1.trans (q2.mono q1.size))
  have MS2 := Lib.hid (ms_below hms B2.out)
  have HSZ := Lib.hid (show ((w.alloc (.cells #[s0, s1, s2, s3, s4, s5, s6, s7, .int .i64 m.live, .int .i64 m.garb] 32)).alloc (.cells #[.slice none 0 0, .slice none 0 0, .slice none 0 0, .slice none 0 0, .slice none 0 0, .slice none 0 0, .slice none 0 0, .slice none 0 0, .int .i64 0, .int .i64 0] 32)).heap.size = w.heap.size + 2 by simp)
  clear hms q1 q2 h1 h2 hsz
  clear hf hn
  go_enter Try.func31, Try.ntmps31
  go_upto_region 1 with fail
  generalize (w.alloc (.cells #[s0, s1, s2, s3, s4, s5, s6, s7, .int .i64 m.live, .int .i64 m.garb] 32)).alloc (.cells #[.slice none 0 0, .slice none 0 0, .slice none 0 0, .slice none 0 0, .slice none 0 0, .slice none 0 0, .slice none 0 0, .slice none 0 0, .int .i64 0, .int .i64 0] 32) = W2 at *
  have PV2 := Lib.hid (PV.out W2 B2.out)
  clear PV
  by_cases hok : okM m
  case neg =>
    rw [okMb_f hok] at PV2
    have HE := Lib.hid (show wasteM m n = m by unfold wasteM; rw [if_neg (fun h => hok h.1)])
    clear hok
    obtain ⟨x0, x1, x2, x3, x4, x5, x6, x7, x8, x9⟩ := bx10 HM2.out
    go_wp2_with fail
    clear x0 x1 x2 x3 x4 x5 x6 x7 x8 x9
    refine PV2.out.mono ?_
    rintro e w3 ⟨rfl, hb⟩
    have B3 := Lib.hid (B2.out.trans (hb.mono B2.out.size))
    have HZ3 := Lib.hid ((hb.block _ (lt_of_some HZ2.out)).trans HZ2.out)
    have HM3 := Lib.hid ((hb.block _ (lt_of_some HM2.out)).trans HM2.out)
    have MS3 := Lib.hid (ms_below MS2.out hb)
    clear hb PV2 HZ2 HM2 B2 MS2
    have ON := Lib.hid (ms_one MS3.out m.live m.garb)
    obtain ⟨x0, x1, x2, x3, x4, x5, x6, x7, x8, x9⟩ := bx10 HM3.out
    go_wp2_with ((with_reducible refine storeM (w.heap.size + 1) _ #[s0, s1, s2, s3, s4, s5, s6, s7, .int .i64 m.live, .int .i64 m.garb] ?_ ?_ HZ3.out rfl rfl ON.out ?_); exact rfl; exact rfl)
    have SZ := Lib.hid (setRow_heap w3 (w.heap.size + 1) _ #[s0, s1, s2, s3, s4, s5, s6, s7, .int .i64 m.live, .int .i64 m.garb] _ _ HZ3.out)
    have BE := Lib.hid (below_setRowM B3.out (Nat.le_succ w.heap.size) #[s0, s1, s2, s3, s4, s5, s6, s7, .int .i64 m.live, .int .i64 m.garb])
    refine mo_end (fn := Try.f31) rfl (w.heap.size + 1) rfl SZ.out ?_
    rw [HE.out]
    exact ⟨⟨_, rfl, s0, s1, s2, s3, s4, s5, s6, s7, rfl, ms_setRowZ MS3.out HZ3.out⟩, BE.out⟩
  rw [okMb_t hok] at PV2
  by_cases hn0 : n < 0
  case pos =>
    have l1 : decide (n < 0) = true := decide_eq_true hn0
    have HE := Lib.hid (show wasteM m n = m by unfold wasteM; rw [if_neg (fun h => by have := h.2.1; omega)])
    clear hok hn0
    obtain ⟨x0, x1, x2, x3, x4, x5, x6, x7, x8, x9⟩ := bx10 HM2.out
    go_wp2_with fail
    clear x0 x1 x2 x3 x4 x5 x6 x7 x8 x9
    refine PV2.out.mono ?_
    rintro e w3 ⟨rfl, hb⟩
    have B3 := Lib.hid (B2.out.trans (hb.mono B2.out.size))
    have HZ3 := Lib.hid ((hb.block _ (lt_of_some HZ2.out)).trans HZ2.out)
    have HM3 := Lib.hid ((hb.block _ (lt_of_some HM2.out)).trans HM2.out)
    have MS3 := Lib.hid (ms_below MS2.out hb)
    clear hb PV2 HZ2 HM2 B2 MS2
    have ON := Lib.hid (ms_one MS3.out m.live m.garb)
    obtain ⟨x0, x1, x2, x3, x4, x5, x6, x7, x8, x9⟩ := bx10 HM3.out
    go_wp2_with ((with_reducible refine storeM (w.heap.size + 1) _ #[s0, s1, s2, s3, s4, s5, s6, s7, .int .i64 m.live, .int .i64 m.garb] ?_ ?_ HZ3.out rfl rfl ON.out ?_); exact rfl; exact rfl)
    have SZ := Lib.hid (setRow_heap w3 (w.heap.size + 1) _ #[s0, s1, s2, s3, s4, s5, s6, s7, .int .i64 m.live, .int .i64 m.garb] _ _ HZ3.out)
    have BE := Lib.hid (below_setRowM B3.out (Nat.le_succ w.heap.size) #[s0, s1, s2, s3, s4, s5, s6, s7, .int .i64 m.live, .int .i64 m.garb])
    refine mo_end (fn := Try.f31) rfl (w.heap.size + 1) rfl SZ.out ?_
    rw [HE.out]
    exact ⟨⟨_, rfl, s0, s1, s2, s3, s4, s5, s6, s7, rfl, ms_setRowZ MS3.out HZ3.out⟩, BE.out⟩
  have l1 : decide (n < 0) = false := decide_eq_false hn0
  have hfl := few_live HF.out hok MS2.out.1
  obtain ⟨mm, q, hadd, hmm⟩ : ∃ mm q, (∀ W, Below W2.heap.size W2 W → Calls Try.prog 49 #[.agg #[s0, s1, s2, s3, s4, s5, s6, s7, .int .i64 m.live, .int .i64 m.garb], .complex .f64 (flw 0) (flw n)] W (AdO W mm q)) ∧ mm = wasteM m n := by
    have hmv : ∀ W, Below W2.heap.size W2 W → Mv W (.agg #[s0, s1, s2, s3, s4, s5, s6, s7, .int .i64 m.live, .int .i64 m.garb]) m := fun W h => ⟨s0, s1, s2, s3, s4, s5, s6, s7, rfl, ms_below MS2.out h⟩
    have hgl := hok.lo
    have hgh := hok.hi
    by_cases hbg : n < 2 ^ 52
    · refine ⟨_, _, fun W h => padd_any _ m 0 n W (hmv W h) (by omega) (by omega) (by decide) (by omega), ?_⟩
      unfold wasteM
      by_cases c : G40 < m.garb + n
      · rw [if_pos c, if_neg (fun h => by have := h.2.2; omega)]
      · rw [if_neg c, if_pos ⟨hok, by omega, by omega⟩, Int.add_zero]
    · have hJ := HNJ.out
      refine ⟨m, false, fun W h => padd_big _ m 12 (flw 0) (flw (m.live + 0)) (flw n) W (hmv W h) hgl (by omega) (flw_big (by omega) (by unfold J64 at hJ; omega)) (by decide) (add_flw (by omega) (by decide) (by omega)), ?_⟩
      unfold wasteM
      rw [if_neg (fun h => by have := h.2.2; unfold G40 at this; omega)]
  have CB2 := Lib.hid hadd
  have HE := Lib.hid hmm
  have CA2 := Lib.hid (fun W => pwasted_bel n W)
  clear hok hn0 hfl hadd hmm
  obtain ⟨y, hy⟩ : ∃ y, y = flw 0 := ⟨_, rfl⟩
  obtain ⟨z, hz⟩ : ∃ z, z = flw n := ⟨_, rfl⟩
  rw [← hy, ← hz] at CA2 CB2
  clear hy hz
  obtain ⟨x0, x1, x2, x3, x4, x5, x6, x7, x8, x9⟩ := bx10 HM2.out
  go_wp2_with fail
  clear x0 x1 x2 x3 x4 x5 x6 x7 x8 x9
  refine PV2.out.mono ?_
  rintro e w3 ⟨rfl, hb⟩
  have B3 := Lib.hid (B2.out.trans (hb.mono B2.out.size))
  have HZ3 := Lib.hid ((hb.block _ (lt_of_some HZ2.out)).trans HZ2.out)
  have HM3 := Lib.hid ((hb.block _ (lt_of_some HM2.out)).trans HM2.out)
  have MS3 := Lib.hid (ms_below MS2.out hb)
  have CB := Lib.hid (fun W (h : Below w3.heap.size w3 W) => CB2.out W (hb.trans (h.mono hb.size)))
  have CA := Lib.hid (fun W (_ : Below w3.heap.size w3 W) => CA2.out W)
  have HLE := Lib.hid (show w.heap.size + 2 ≤ w3.heap.size by have := hb.size; have := HSZ.out; omega)
  clear hb PV2 HZ2 HM2 B2 MS2 CA2 CB2
  go_upto_region 3 with fail
  clear l1
  go_cut [5, 6] from 15 to 21 (fun tp tq wx => ∃ (gn : Nat) (t0 t1 t2 t3 t4 t5 t6 t7 : Value), tp = .pointer (some ⟨gn, 0, none⟩) ∧ tq = .bool q ∧ Hid (wx.heap[gn]? = some (.cells #[t0, t1, t2, t3, t4, t5, t6, t7, .int .i64 mm.live, .int .i64 mm.garb] 32 (0, 0))) ∧ Hid (w3.heap.size ≤ gn) ∧ Hid (Ms wx [t0, t1, t2, t3, t4, t5, t6, t7] mm) ∧ Hid (Below w3.heap.size w3 wx))
  case first =>
    have S0 := Lib.hid (Below.refl w3.heap.size w3).drew
    refine wp_onlyN ?_
    refine wp_region_headsS (fun W' => Below w3.heap.size w3 W') [0, 1] 8 (by kernel_rfl) (fun _ _ _ _ _ h => h.elim) (by kernel_rfl) (by rfl) (by rfl) S0.out ?_
    simp only [pickOps, List.filterMap_cons, List.filterMap_nil, List.getElem?_toArray, List.getElem?_cons_zero, List.getElem?_cons_succ]
    refine wpHeads_step (fun K hK => ?_)
    go_simp
    refine ⟨.agg #[s0, s1, s2, s3, s4, s5, s6, s7, .int .i64 m.live, .int .i64 m.garb], fun w' hw' => by
      obtain ⟨x0, x1, x2, x3, x4, x5, x6, x7, x8, x9⟩ := bx10 ((hw'.block _ (lt_of_some HM3.out)).trans HM3.out)
      simp [x0, x1, x2, x3, x4, x5, x6, x7, x8, x9], hK _ ?_⟩
    clear hK K
    refine wpHeads_step (fun K hK => ?_)
    go_simp
    refine ⟨_, fun _ _ => rfl, hK _ ?_⟩
    clear hK K
    refine wpHeads_nil ?_
    have SD := S0
    generalize w3.drew = WD at *
    clear S0
    refine held_two 2 7 rfl rfl rfl rfl (by kernel_rfl) (fun K hK => ?_) (fun K hK => ?_)
    · go_simp
      go_at_call 55
      refine (CA.out WD SD.out).mono ?_
      rintro e w30 ⟨rfl, hb⟩
      refine hK _ _ (SD.out.trans (hb.mono SD.out.size)) ?_
      clear hK K
      have S30 := Lib.hid (SD.out.trans (hb.mono SD.out.size))
      clear hb SD
      refine held_two 3 7 rfl rfl rfl rfl (by kernel_rfl) (fun K hK => ?_) (fun K hK => ?_)
      · go_simp
        go_at_call 49
        refine (CB.out w30 S30.out).mono ?_
        rintro e w31 ⟨⟨v5, rfl, hv5⟩, hb⟩
        refine hK _ _ (S30.out.trans (hb.mono S30.out.size)) ?_
        clear hK K
        have S31 := Lib.hid (S30.out.trans (hb.mono S30.out.size))
        obtain ⟨t0, t1, t2, t3, t4, t5, t6, t7, rfl, hms5⟩ := hv5
        have R31 := Lib.hid hms5
        clear hb S30 hms5
        refine wpAnyH_take (i := 4) (v := .tuple #[.agg #[t0, t1, t2, t3, t4, t5, t6, t7, .int .i64 mm.live, .int .i64 mm.garb], .bool q]) rfl (by kernel_rfl) (by kernel_rfl) (by kernel_rfl) (fun _ _ _ h => h) (Or.inl ⟨by kernel_rfl, fun w _ => by go_simp⟩) S31.out ?_
        refine wpAnyH_take (i := 5) (v := .agg #[t0, t1, t2, t3, t4, t5, t6, t7, .int .i64 mm.live, .int .i64 mm.garb]) rfl (by kernel_rfl) (by kernel_rfl) (by kernel_rfl) (fun _ _ _ h => h) (Or.inl ⟨by kernel_rfl, fun w _ => by go_simp⟩) S31.out ?_
        refine wpAnyH_take (i := 6) (v := .bool q) rfl (by kernel_rfl) (by kernel_rfl) (by kernel_rfl) (fun _ _ _ h => h) (Or.inl ⟨by kernel_rfl, fun w _ => by go_simp⟩) S31.out ?_
        refine held_one 7 rfl rfl (by kernel_rfl) fun K hK => ?_
        go_simp
        have hb := bel_al w31 (.cells #[.slice none 0 0, .slice none 0 0, .slice none 0 0, .slice none 0 0, .slice none 0 0, .slice none 0 0, .slice none 0 0, .slice none 0 0, .int .i64 0, .int .i64 0] 32)
        refine hK _ _ (S31.out.trans (hb.mono S31.out.size)) ?_
        clear hK K
        have S32 := Lib.hid (S31.out.trans (hb.mono S31.out.size))
        have HG32 := Lib.hid (heap_alloc_new w31 (.cells #[.slice none 0 0, .slice none 0 0, .slice none 0 0, .slice none 0 0, .slice none 0 0, .slice none 0 0, .slice none 0 0, .slice none 0 0, .int .i64 0, .int .i64 0] 32))
        have GE := Lib.hid (show w3.heap.size ≤ w31.heap.size from S31.out.size)
        have R32 := Lib.hid (ms_below R31.out hb)
        clear R31
        clear hb S31
        generalize w31.alloc (.cells #[.slice none 0 0, .slice none 0 0, .slice none 0 0, .slice none 0 0, .slice none 0 0, .slice none 0 0, .slice none 0 0, .slice none 0 0, .int .i64 0, .int .i64 0] 32) = w32 at *
        generalize w31.heap.size = gn at *
        have ON := Lib.hid (ms_one R32.out mm.live mm.garb)
        refine held_one 8 rfl rfl (by kernel_rfl) fun K hK => ?_
        refine wp_store_row 32 _ _ rfl gn #[t0, t1, t2, t3, t4, t5, t6, t7, .int .i64 mm.live, .int .i64 mm.garb] (by rfl) (by rfl) 32 _ HG32.out infoM10 rfl ON.out ?_
        have SN := Lib.hid (below_setRowM S32.out GE.out #[t0, t1, t2, t3, t4, t5, t6, t7, .int .i64 mm.live, .int .i64 mm.garb])
        refine hK _ _ SN.out ?_
        clear hK K
        refine held_one 9 rfl rfl (by kernel_rfl) fun K hK => ?_
        go_simp
        refine hK _ _ SN.out ?_
        clear hK K
        refine wpAnyH_done (by kernel_rfl) ?_ _
        unfold onlyN
        dsimp only
        go_wp2_with fail
        go_meet
        exact ⟨gn, t0, t1, t2, t3, t4, t5, t6, t7, rfl, rfl, Lib.hid (setRow_heap _ _ _ _ _ _ HG32.out), GE, Lib.hid (ms_setRowZ R32.out HG32.out), SN⟩
      · go_simp
        have hb := bel_al w30 (.cells #[.slice none 0 0, .slice none 0 0, .slice none 0 0, .slice none 0 0, .slice none 0 0, .slice none 0 0, .slice none 0 0, .slice none 0 0, .int .i64 0, .int .i64 0] 32)
        refine hK _ _ (S30.out.trans (hb.mono S30.out.size)) ?_
        clear hK K
        have S31 := Lib.hid (S30.out.trans (hb.mono S30.out.size))
        have HG31 := Lib.hid (heap_alloc_new w30 (.cells #[.slice none 0 0, .slice none 0 0, .slice none 0 0, .slice none 0 0, .slice none 0 0, .slice none 0 0, .slice none 0 0, .slice none 0 0, .int .i64 0, .int .i64 0] 32))
        have GE := Lib.hid (show w3.heap.size ≤ w30.heap.size from S30.out.size)
        clear hb S30
        generalize w30.alloc (.cells #[.slice none 0 0, .slice none 0 0, .slice none 0 0, .slice none 0 0, .slice none 0 0, .slice none 0 0, .slice none 0 0, .slice none 0 0, .int .i64 0, .int .i64 0] 32) = w31 at *
        generalize w30.heap.size = gn at *
        refine held_one 3 rfl rfl (by kernel_rfl) fun K hK => ?_
        go_simp
        go_at_call 49
        refine (CB.out w31 S31.out).mono ?_
        rintro e w32 ⟨⟨v5, rfl, hv5⟩, hb⟩
        refine hK _ _ (S31.out.trans (hb.mono S31.out.size)) ?_
        clear hK K
        have S32 := Lib.hid (S31.out.trans (hb.mono S31.out.size))
        have HG32 := Lib.hid ((hb.block _ (lt_of_some HG31.out)).trans HG31.out)
        obtain ⟨t0, t1, t2, t3, t4, t5, t6, t7, rfl, hms5⟩ := hv5
        have R32 := Lib.hid hms5
        clear hb S31 hms5 HG31
        refine wpAnyH_take (i := 4) (v := .tuple #[.agg #[t0, t1, t2, t3, t4, t5, t6, t7, .int .i64 mm.live, .int .i64 mm.garb], .bool q]) rfl (by kernel_rfl) (by kernel_rfl) (by kernel_rfl) (fun _ _ _ h => h) (Or.inl ⟨by kernel_rfl, fun w _ => by go_simp⟩) S32.out ?_
        refine wpAnyH_take (i := 5) (v := .agg #[t0, t1, t2, t3, t4, t5, t6, t7, .int .i64 mm.live, .int .i64 mm.garb]) rfl (by kernel_rfl) (by kernel_rfl) (by kernel_rfl) (fun _ _ _ h => h) (Or.inl ⟨by kernel_rfl, fun w _ => by go_simp⟩) S32.out ?_
        refine wpAnyH_take (i := 6) (v := .bool q) rfl (by kernel_rfl) (by kernel_rfl) (by kernel_rfl) (fun _ _ _ h => h) (Or.inl ⟨by kernel_rfl, fun w _ => by go_simp⟩) S32.out ?_
        have ON := Lib.hid (ms_one R32.out mm.live mm.garb)
        refine held_one 8 rfl rfl (by kernel_rfl) fun K hK => ?_
        refine wp_store_row 32 _ _ rfl gn #[t0, t1, t2, t3, t4, t5, t6, t7, .int .i64 mm.live, .int .i64 mm.garb] (by rfl) (by rfl) 32 _ HG32.out infoM10 rfl ON.out ?_
        have SN := Lib.hid (below_setRowM S32.out GE.out #[t0, t1, t2, t3, t4, t5, t6, t7, .int .i64 mm.live, .int .i64 mm.garb])
        refine hK _ _ SN.out ?_
        clear hK K
        refine held_one 9 rfl rfl (by kernel_rfl) fun K hK => ?_
        go_simp
        refine hK _ _ SN.out ?_
        clear hK K
        refine wpAnyH_done (by kernel_rfl) ?_ _
        unfold onlyN
        dsimp only
        go_wp2_with fail
        go_meet
        exact ⟨gn, t0, t1, t2, t3, t4, t5, t6, t7, rfl, rfl, Lib.hid (setRow_heap _ _ _ _ _ _ HG32.out), GE, Lib.hid (ms_setRowZ R32.out HG32.out), SN⟩
    · go_simp
      have hb := bel_al WD (.cells #[.slice none 0 0, .slice none 0 0, .slice none 0 0, .slice none 0 0, .slice none 0 0, .slice none 0 0, .slice none 0 0, .slice none 0 0, .int .i64 0, .int .i64 0] 32)
      refine hK _ _ (SD.out.trans (hb.mono SD.out.size)) ?_
      clear hK K
      have S30 := Lib.hid (SD.out.trans (hb.mono SD.out.size))
      have HG30 := Lib.hid (heap_alloc_new WD (.cells #[.slice none 0 0, .slice none 0 0, .slice none 0 0, .slice none 0 0, .slice none 0 0, .slice none 0 0, .slice none 0 0, .slice none 0 0, .int .i64 0, .int .i64 0] 32))
      have GE := Lib.hid (show w3.heap.size ≤ WD.heap.size from SD.out.size)
      clear hb SD
      generalize WD.alloc (.cells #[.slice none 0 0, .slice none 0 0, .slice none 0 0, .slice none 0 0, .slice none 0 0, .slice none 0 0, .slice none 0 0, .slice none 0 0, .int .i64 0, .int .i64 0] 32) = w30 at *
      generalize WD.heap.size = gn at *
      refine held_one 2 rfl rfl (by kernel_rfl) fun K hK => ?_
      go_simp
      go_at_call 55
      refine (CA.out w30 S30.out).mono ?_
      rintro e w31 ⟨rfl, hb⟩
      refine hK _ _ (S30.out.trans (hb.mono S30.out.size)) ?_
      clear hK K
      have S31 := Lib.hid (S30.out.trans (hb.mono S30.out.size))
      have HG31 := Lib.hid ((hb.block _ (lt_of_some HG30.out)).trans HG30.out)
      clear hb S30 HG30
      refine held_one 3 rfl rfl (by kernel_rfl) fun K hK => ?_
      go_simp
      go_at_call 49
      refine (CB.out w31 S31.out).mono ?_
      rintro e w32 ⟨⟨v5, rfl, hv5⟩, hb⟩
      refine hK _ _ (S31.out.trans (hb.mono S31.out.size)) ?_
      clear hK K
      have S32 := Lib.hid (S31.out.trans (hb.mono S31.out.size))
      have HG32 := Lib.hid ((hb.block _ (lt_of_some HG31.out)).trans HG31.out)
      obtain ⟨t0, t1, t2, t3, t4, t5, t6, t7, rfl, hms5⟩ := hv5
      have R32 := Lib.hid hms5
      clear hb S31 hms5 HG31
      refine wpAnyH_take (i := 4) (v := .tuple #[.agg #[t0, t1, t2, t3, t4, t5, t6, t7, .int .i64 mm.live, .int .i64 mm.garb], .bool q]) rfl (by kernel_rfl) (by kernel_rfl) (by kernel_rfl) (fun _ _ _ h => h) (Or.inl ⟨by kernel_rfl, fun w _ => by go_simp⟩) S32.out ?_
      refine wpAnyH_take (i := 5) (v := .agg #[t0, t1, t2, t3, t4, t5, t6, t7, .int .i64 mm.live, .int .i64 mm.garb]) rfl (by kernel_rfl) (by kernel_rfl) (by kernel_rfl) (fun _ _ _ h => h) (Or.inl ⟨by kernel_rfl, fun w _ => by go_simp⟩) S32.out ?_
      refine wpAnyH_take (i := 6) (v := .bool q) rfl (by kernel_rfl) (by kernel_rfl) (by kernel_rfl) (fun _ _ _ h => h) (Or.inl ⟨by kernel_rfl, fun w _ => by go_simp⟩) S32.out ?_
      have ON := Lib.hid (ms_one R32.out mm.live mm.garb)
      refine held_one 8 rfl rfl (by kernel_rfl) fun K hK => ?_
      refine wp_store_row 32 _ _ rfl gn #[t0, t1, t2, t3, t4, t5, t6, t7, .int .i64 mm.live, .int .i64 mm.garb] (by rfl) (by rfl) 32 _ HG32.out infoM10 rfl ON.out ?_
      have SN := Lib.hid (below_setRowM S32.out GE.out #[t0, t1, t2, t3, t4, t5, t6, t7, .int .i64 mm.live, .int .i64 mm.garb])
      refine hK _ _ SN.out ?_
      clear hK K
      refine held_one 9 rfl rfl (by kernel_rfl) fun K hK => ?_
      go_simp
      refine hK _ _ SN.out ?_
      clear hK K
      refine wpAnyH_done (by kernel_rfl) ?_ _
      unfold onlyN
      dsimp only
      go_wp2_with fail
      go_meet
      exact ⟨gn, t0, t1, t2, t3, t4, t5, t6, t7, rfl, rfl, Lib.hid (setRow_heap _ _ _ _ _ _ HG32.out), GE, Lib.hid (ms_setRowZ R32.out HG32.out), SN⟩
  case rest =>
    rename World => w9
    obtain ⟨gn, t0, t1, t2, t3, t4, t5, t6, t7, rfl, rfl, HB9, HGN, MS9, S9⟩ := hcut
    have HZ9 := Lib.hid ((S9.out.block _ (lt_of_some HZ3.out)).trans HZ3.out)
    have B9 := Lib.hid (B3.out.trans (S9.out.mono B3.out.size))
    have ON := Lib.hid (ms_one MS9.out mm.live mm.garb)
    obtain ⟨x0, x1, x2, x3, x4, x5, x6, x7, x8, x9⟩ := bx10 HB9.out
    go_wp2_with ((with_reducible refine storeM (w.heap.size + 1) _ #[t0, t1, t2, t3, t4, t5, t6, t7, .int .i64 mm.live, .int .i64 mm.garb] ?_ ?_ HZ9.out rfl rfl ON.out ?_); exact rfl; exact rfl)
    have SZ := Lib.hid (setRow_heap w9 (w.heap.size + 1) _ #[t0, t1, t2, t3, t4, t5, t6, t7, .int .i64 mm.live, .int .i64 mm.garb] _ _ HZ9.out)
    have BE := Lib.hid (below_setRowM B9.out (Nat.le_succ w.heap.size) #[t0, t1, t2, t3, t4, t5, t6, t7, .int .i64 mm.live, .int .i64 mm.garb])
    refine mo_end (fn := Try.f31) rfl (w.heap.size + 1) rfl SZ.out ?_
    rw [← HE.out]
    exact ⟨⟨_, rfl, t0, t1, t2, t3, t4, t5, t6, t7, rfl, ms_setRowZ MS9.out HZ9.out⟩, BE.out⟩
end Go.Proofs.Ytlooldnaoooehaa.Gf
