/- What is proved here: From of the program, as far as its first loop. -/
import Derived.Test.YtlooldnaoooehaaP11t
namespace Go.Proofs.Ytlooldnaoooehaa.Gf
open Go Go.Joins Go.ChangeShapes Go.WideShapes Go.ChangeAt Go.RowKit Go.Deep Go.Proofs.Ytlooldnaoooehaa.By Go.Proofs.Ytlooldnaoooehaa.Qt

/-- The stripes as they stand in the second loop: the first k are sorted. -/
def mixM (L : List Itm) (k : Nat) : List (List Itm) := (List.range 8).map fun s => if s < k then sortL (fS s L) else fS s L
theorem mix_len (L : List Itm) (k : Nat) : (mixM L k).length = 8 := by simp [mixM]
theorem mix_get (L : List Itm) (k : Nat) {s : Nat} (h : s < 8) : (mixM L k).getD s [] = if s < k then sortL (fS s L) else fS s L := by
  unfold mixM
  rw [List.getD_eq_getElem?_getD, List.getElem?_map, List.getElem?_range h]
  rfl
theorem mix_succ {L : List Itm} {k : Nat} (hk : k < 8) : (mixM L k).set k (sortL (fS k L)) = mixM L (k + 1) := by
  refine st_ext (by rw [List.length_set]; exact mix_len _ _) (mix_len _ _) fun s hs => ?_
  rw [mix_get _ _ hs, List.getD_eq_getElem?_getD]
  by_cases e : k = s
  · subst e
    rw [List.getElem?_set_self (by rw [mix_len]; exact hk), if_pos (by omega)]
    rfl
  · rw [List.getElem?_set_ne e, ← List.getD_eq_getElem?_getD, mix_get _ _ hs]
    by_cases c : s < k
    · rw [if_pos c, if_pos (by omega)]
    · rw [if_neg c, if_neg (by omega)]
theorem mix_all (L : List Itm) : mixM L 8 = splitM (sortL L) := st_ext (mix_len _ _) (split_len _) fun s hs => by
  rw [mix_get _ _ hs, if_pos hs, split_get _ hs, split_sort]
theorem merge_nil (F : List Itm) : mergeL [] F [] = sortL F := by
  have h := merge_step [] F
  simpa [sortL] using h
theorem ms_mix {w : World} {base : Nat} {c0 c1 c2 c3 c4 c5 c6 c7 : Value} {L : List Itm} (h : OwS w base [c0, c1, c2, c3, c4, c5, c6, c7] (splitM L)) : Ms w [c0, c1, c2, c3, c4, c5, c6, c7] ⟨mixM L 0, 0, 0⟩ := ⟨mix_len _ _, by unfold J64; dsimp only; omega, by unfold J64; dsimp only; omega, fun k hk => by
  obtain ⟨v, h1, h2⟩ := h.own k hk
  rw [split_get _ hk] at h2
  have e : ms ⟨mixM L 0, 0, 0⟩ k = fS k L := by
    show (mixM L 0).getD k [] = _
    rw [mix_get _ _ hk, if_neg (by omega)]
  rw [e]
  have h3 := owT_it h2
  obtain ⟨a, q, rfl, -, -⟩ := owT_form h2
  exact ⟨a, q, h1, h3⟩⟩

theorem few_split {L : List Itm} (h : L.length ≤ 1000) : Few ⟨splitM (sortL L), 0, 0⟩ := fun k hk => by
  have e : ms ⟨splitM (sortL L), 0, 0⟩ k = fS k (sortL L) := split_get _ hk
  rw [e]
  exact Nat.le_trans (List.length_filter_le _ _) (Nat.le_trans (length_sortL L) h)
/-- What add makes of the records and the waste. -/
theorem from_add {L : List Itm} {gb : Int} (hok : ∀ x ∈ L, okI x) (h0 : 0 ≤ gb) (hJ : J64 gb) (hlen : L.length ≤ 1000) : ∃ Y Z mm q, cSumBits .add .f64 (flw (byT (splitM (sortL L)).flatten)) (flw 0) (flw 0) (flw gb) = some (Y, Z) ∧ (∀ v W, Mv W v ⟨splitM (sortL L), 0, 0⟩ → Calls Try.prog 49 #[v, .complex .f64 Y Z] W (AdO W mm q)) ∧ ((q = true → mm = fromL L gb) ∧ (q = false → fromL L gb = mp0)) := by
  have e1 := (flat_split (sortL L)).2
  have e2 := byT_bd (sortL L)
  have e3 : (sortL L).length ≤ L.length := length_sortL L
  rw [e1]
  have e4 : (sortL L).length ≤ 1000 := Nat.le_trans e3 hlen
  by_cases hbg : gb < 2 ^ 52
  · have hs := csum (a := byT (sortL L)) (b := 0) (c := 0) (d := gb) (by omega) (by decide) (by decide) (by omega) (by omega) (by omega)
    refine ⟨_, _, _, _, hs, fun v W hv => padd_any v _ (byT (sortL L) + 0) (0 + gb) W hv (by show (0 : Int).natAbs ≤ 2 ^ 50; decide) (by show (0 : Int).natAbs ≤ 2 ^ 50; decide) (by omega) (by omega), fun h => ?_, fun h => ?_⟩
    · have h := of_decide_eq_true h
      unfold fromL
      dsimp only at h ⊢
      rw [if_neg h, if_pos ⟨hok, h0, by omega⟩]
      simp
    · have h := of_decide_eq_false h
      unfold fromL
      dsimp only at h
      rw [if_neg (fun h2 => h (fun h3 => by have := h2.2.2; omega))]
  · obtain ⟨r, hr, hbr⟩ := add_big (flw_big (n := gb) (by omega) (by unfold J64 at hJ; omega)) (by decide) (a := 0) (by decide) (by decide)
    refine ⟨flw (byT (sortL L) + 0), r, _, false, ?_, fun v W hv => padd_big v _ 14 (flw (byT (sortL L) + 0)) _ r W hv (Int.le_refl 0) (by show (0 : Int).natAbs ≤ 2 ^ 50; decide) hbr (by decide) (add_flw (a := 0) (by decide) (by omega) (by omega)), fun h => (by cases h), fun _ => ?_⟩
    · unfold cSumBits
      rw [add_flw (by omega) (by decide) (by omega), hr]
      rfl
    · unfold fromL
      rw [if_neg (fun h => by have := h.2.2; unfold G40 at this; omega)]

set_option maxRecDepth 100000 in
set_option maxHeartbeats 25600000 in
theorem pfrom_any (v : Value) (L : List Itm) (gb : Int) (w : World) (hl : It w v L) (hlen : L.length ≤ 1000) (hgb : J64 gb) : Calls Try.prog 33 #[v, .int .i64 gb] w (MO w (fromL L gb)) := by
  have SL := Lib.hid hl
  have ON8 := Lib.hid (ms_one (mp0_ms w) 0 0)
  obtain ⟨a, c, rfl, -, hcm⟩ := it_form hl
  obtain ⟨n, hn⟩ : ∃ z, z = L.length := ⟨_, rfl⟩
  rw [← hn] at SL hlen ⊢
  have HN := Lib.hid (And.intro hn hlen)
  have HJ := Lib.hid hgb
  have BX := Lib.hid (bel_al w (.cells #[.slice none 0 0, .slice none 0 0, .slice none 0 0, .slice none 0 0, .slice none 0 0, .slice none 0 0, .slice none 0 0, .slice none 0 0, .int .i64 0, .int .i64 0] 32))
  have HZ := Lib.hid (heap_alloc_new w (.cells #[.slice none 0 0, .slice none 0 0, .slice none 0 0, .slice none 0 0, .slice none 0 0, .slice none 0 0, .slice none 0 0, .slice none 0 0, .int .i64 0, .int .i64 0] 32))
  have SZ1 := Lib.hid (show w.heap.size + 1 ≤ (w.alloc (.cells #[.slice none 0 0, .slice none 0 0, .slice none 0 0, .slice none 0 0, .slice none 0 0, .slice none 0 0, .slice none 0 0, .slice none 0 0, .int .i64 0, .int .i64 0] 32)).heap.size by simp)
  clear hl hn hlen hcm hgb
  go_enter Try.func33, Try.ntmps33
  go_upto_region 1 with fail
  generalize w.alloc (.cells #[.slice none 0 0, .slice none 0 0, .slice none 0 0, .slice none 0 0, .slice none 0 0, .slice none 0 0, .slice none 0 0, .slice none 0 0, .int .i64 0, .int .i64 0] 32) = W1 at *
  by_cases hg0 : gb < 0
  case pos =>
    have l1 : decide (gb < 0) = true := decide_eq_true hg0
    have HE := Lib.hid (show fromL L gb = mp0 by unfold fromL; rw [if_neg (fun h => by have := h.2.1; omega)])
    clear hg0
    go_wp2_with fail
    refine (pnew_nil W1).mono ?_
    rintro e w3 ⟨rfl, hb⟩
    have HZ3 := Lib.hid ((hb.block _ (lt_of_some HZ.out)).trans HZ.out)
    have B3 := Lib.hid (BX.out.trans (hb.mono BX.out.size))
    clear hb
    go_wp2_with ((with_reducible refine storeM w.heap.size _ #[.slice none 0 0, .slice none 0 0, .slice none 0 0, .slice none 0 0, .slice none 0 0, .slice none 0 0, .slice none 0 0, .slice none 0 0, .int .i64 0, .int .i64 0] ?_ ?_ HZ3.out rfl rfl ON8.out ?_); exact rfl; exact rfl)
    refine mo_end (fn := Try.f33) rfl w.heap.size rfl (setRow_heap _ _ _ _ _ _ HZ3.out) ?_
    rw [HE.out]
    exact ⟨⟨_, rfl, _, _, _, _, _, _, _, _, rfl, mp0_ms _⟩, below_setRowM B3.out (Nat.le_refl _) _⟩
  have l1 : decide (gb < 0) = false := decide_eq_false hg0
  have HG0 := Lib.hid (show 0 ≤ gb by omega)
  clear hg0
  go_upto_region 3 with fail
  go_wp2_with fail
  refine (pnew_nil W1).mono ?_
  rintro e w3 ⟨rfl, hb⟩
  have HZ3 := Lib.hid ((hb.block _ (lt_of_some HZ.out)).trans HZ.out)
  have B3 := Lib.hid (BX.out.trans (hb.mono BX.out.size))
  have q4 := bel_al w3 (.cells #[.slice none 0 0, .slice none 0 0, .slice none 0 0, .slice none 0 0, .slice none 0 0, .slice none 0 0, .slice none 0 0, .slice none 0 0, .int .i64 0, .int .i64 0] 32)
  have HG4 := Lib.hid (heap_alloc_new w3 (.cells #[.slice none 0 0, .slice none 0 0, .slice none 0 0, .slice none 0 0, .slice none 0 0, .slice none 0 0, .slice none 0 0, .slice none 0 0, .int .i64 0, .int .i64 0] 32))
  have HZ4 := Lib.hid ((q4.block _ (lt_of_some HZ3.out)).trans HZ3.out)
  have B4 := Lib.hid (B3.out.trans (q4.mono B3.out.size))
  have NG := Lib.hid (show w.heap.size < w3.heap.size by have := lt_of_some HZ3.out; omega)
  clear hb q4 HZ BX SZ1 HZ3 B3
  go_upto_region 4 with fail
  generalize w3.alloc (.cells #[.slice none 0 0, .slice none 0 0, .slice none 0 0, .slice none 0 0, .slice none 0 0, .slice none 0 0, .slice none 0 0, .slice none 0 0, .int .i64 0, .int .i64 0] 32) = w4 at *
  generalize hgg : w3.heap.size = g at *
  clear hgg
  clear l1
  go_wp2_with fail
  go_loopw [18] (fun t wr => ∃ i : Nat, i ≤ n ∧ t = .int .i64 (i : Int) ∧ Hid (∀ x ∈ L.take i, okI x) ∧ ∃ c0 c1 c2 c3 c4 c5 c6 c7 : Value, Hid (wr.heap[g]? = some (.cells #[c0, c1, c2, c3, c4, c5, c6, c7, .int .i64 0, .int .i64 0] 32 (0, 0))) ∧ Hid (OwS wr (g + 1) [c0, c1, c2, c3, c4, c5, c6, c7] (splitM (L.take i))) ∧ Hid (wr.heap[w.heap.size]? = some (.cells #[.slice none 0 0, .slice none 0 0, .slice none 0 0, .slice none 0 0, .slice none 0 0, .slice none 0 0, .slice none 0 0, .slice none 0 0, .int .i64 0, .int .i64 0] 32 (0, 0))) ∧ Hid (Below w.heap.size w wr)) (fun t _ => n - (intOf t).toNat)
  case atStart => exact ⟨0, by omega, rfl, Lib.hid (by simp), _, _, _, _, _, _, _, _, HG4, Lib.hid (by rw [List.take_zero]; exact ows_nil _ _), HZ4, B4⟩
  case round =>
    obtain ⟨i, hi, rfl, HT, c0, c1, c2, c3, c4, c5, c6, c7, HG, OS, HZ, BR⟩ := hrel
    rename World => wl
    clear HG4 HZ4 B4
    by_cases hlt : i < n
    case neg =>
      obtain rfl : i = n := by omega
      have hall : L.take i = L := List.take_of_length_le (by have := HN.out.1; omega)
      rw [hall] at OS HT
      clear hlt hi hall
      have l1 : decide ((i : Int) < (i : Int)) = false := decide_eq_false (by omega)
      have l2 : decide (i < i) = false := decide_eq_false (by omega)
      obtain ⟨x0, x1, x2, x3, x4, x5, x6, x7, x8, x9⟩ := bx10 HG.out
      go_wp2_with fail
      clear x0 x1 x2 x3 x4 x5 x6 x7 x8 x9 l1 l2
      have M0 := Lib.hid (ms_mix OS.out)
      have HLN := Lib.hid (show ∀ s, (fS s L).length ≤ 1000 from fun s => Nat.le_trans (List.length_filter_le _ _) (by have := HN.out; omega))
      go_loopw [42] (fun t wr => ∃ k : Nat, k ≤ 8 ∧ t = .int .i64 (k : Int) ∧ ∃ d0 d1 d2 d3 d4 d5 d6 d7 : Value, Hid (wr.heap[g]? = some (.cells #[d0, d1, d2, d3, d4, d5, d6, d7, .int .i64 0, .int .i64 0] 32 (0, 0))) ∧ Hid (Ms wr [d0, d1, d2, d3, d4, d5, d6, d7] ⟨mixM L k, 0, 0⟩) ∧ Hid (OwS wr (g + 1) [c0, c1, c2, c3, c4, c5, c6, c7] (splitM L)) ∧ Hid (wr.heap[w.heap.size]? = some (.cells #[.slice none 0 0, .slice none 0 0, .slice none 0 0, .slice none 0 0, .slice none 0 0, .slice none 0 0, .slice none 0 0, .slice none 0 0, .int .i64 0, .int .i64 0] 32 (0, 0))) ∧ Hid (Below w.heap.size w wr)) (fun t _ => 8 - (intOf t).toNat)
      case atStart => exact ⟨0, by omega, rfl, _, _, _, _, _, _, _, _, HG, M0, OS, HZ, BR⟩
      case round =>
        obtain ⟨k, hk, rfl, d0, d1, d2, d3, d4, d5, d6, d7, HG2, MS2, OS2, HZ2, B2⟩ := hrel
        rename World => w2
        clear HG M0 OS HZ BR
        by_cases hlt : k < 8
        case neg =>
          obtain rfl : k = 8 := by omega
          rw [mix_all] at MS2
          clear hlt hk OS2
          have l1 : decide (((8 : Nat) : Int) < 8) = false := by decide
          have l2 : decide (8 < 8) = false := by decide
          obtain ⟨Y, Z, mm, q, hsum, hadd, hq⟩ := from_add HT.out HG0.out HJ.out (by have := HN.out; omega)
          have HQ := Lib.hid hq
          have PR := Lib.hid (fun W (h : Below w2.heap.size w2 W) => precords_any (.agg #[d0, d1, d2, d3, d4, d5, d6, d7, .int .i64 0, .int .i64 0]) _ W ⟨_, _, _, _, _, _, _, _, rfl, ms_below MS2.out h⟩ (few_split (by have := HN.out; omega)))
          have PW := Lib.hid (fun W => pwasted_bel gb W)
          have PA := Lib.hid (fun W (h : Below w2.heap.size w2 W) => hadd (.agg #[d0, d1, d2, d3, d4, d5, d6, d7, .int .i64 0, .int .i64 0]) W ⟨_, _, _, _, _, _, _, _, rfl, ms_below MS2.out h⟩)
          dsimp only at PR
          obtain ⟨r1, hr1⟩ : ∃ z, z = flw (byT (splitM (sortL L)).flatten) := ⟨_, rfl⟩
          obtain ⟨r2, hr2⟩ : ∃ z, z = flw 0 := ⟨_, rfl⟩
          obtain ⟨r4, hr4⟩ : ∃ z, z = flw gb := ⟨_, rfl⟩
          rw [← hr1, ← hr2] at PR
          rw [← hr2, ← hr4] at PW
          rw [← hr1, ← hr2, ← hr4] at hsum
          have HADD := Lib.hid (fun W => run_complex_sum (P := Try.prog) W .add (Or.inl rfl) 75 .f64 r1 r2 r2 r4 Y Z hsum)
          clear hsum hadd hq hr1 hr2 hr4
          go_upto_region 17 with fail
          clear l1 l2
          have S0 := Lib.hid (Below.refl w2.heap.size w2).drew
          refine wp_onlyN ?_
          refine wp_region_headsS (fun W' => Below w.heap.size w2 W') [3] 11 (by kernel_rfl) (fun _ _ _ _ _ h => h.elim) (by kernel_rfl) (by rfl) (by rfl) (S0.out.mono B2.out.size) ?_
          simp only [pickOps, List.filterMap_cons, List.filterMap_nil, List.getElem?_toArray, List.getElem?_cons_zero, List.getElem?_cons_succ]
          refine wpHeads_step (fun K hK => ?_)
          go_simp
          refine ⟨_, fun _ _ => rfl, hK _ ?_⟩
          clear hK K
          refine wpHeads_nil ?_
          generalize hwd : w2.drew = wD at *
          clear hwd
          have TD := Lib.hid S0.out
          have HGD := Lib.hid ((S0.out.block _ (lt_of_some HG2.out)).trans HG2.out)
          have HZD := Lib.hid ((S0.out.block _ (lt_of_some HZ2.out)).trans HZ2.out)
          have BD := Lib.hid (B2.out.size)
          clear S0
          refine held_two 0 1 rfl rfl rfl rfl (by kernel_rfl) (fun K hK => ?_) (fun K hK => ?_)
          · obtain ⟨x0, x1, x2, x3, x4, x5, x6, x7, x8, x9⟩ := bx10 HGD.out
            go_simp
            refine hK _ _ (TD.out.mono BD.out) ?_
            clear hK K x0 x1 x2 x3 x4 x5 x6 x7 x8 x9
            refine held_one 1 rfl rfl (by kernel_rfl) fun K hK => ?_
            obtain ⟨x0, x1, x2, x3, x4, x5, x6, x7, x8, x9⟩ := bx10 HGD.out
            go_simp
            refine hK _ _ (TD.out.mono BD.out) ?_
            clear hK K x0 x1 x2 x3 x4 x5 x6 x7 x8 x9
            refine held_one 2 rfl rfl (by kernel_rfl) fun K hK => ?_
            go_simp
            go_at_call 43
            refine (PR.out _ TD.out).mono ?_
            rintro e y3 ⟨rfl, hb⟩
            have TN := Lib.hid (TD.out.trans (hb.mono TD.out.size))
            refine hK _ _ (TN.out.mono BD.out) ?_
            clear hK K
            have HGN := Lib.hid ((hb.block _ (lt_of_some HGD.out)).trans HGD.out)
            have HZN := Lib.hid ((hb.block _ (lt_of_some HZD.out)).trans HZD.out)
            clear hb TD HGD HZD
            have TD := TN
            have HGD := HGN
            have HZD := HZN
            clear TN HGN HZN
            refine held_one 4 rfl rfl (by kernel_rfl) fun K hK => ?_
            go_simp
            go_at_call 55
            refine (PW.out _).mono ?_
            rintro e y4 ⟨rfl, hb⟩
            have TN := Lib.hid (TD.out.trans (hb.mono TD.out.size))
            refine hK _ _ (TN.out.mono BD.out) ?_
            clear hK K
            have HGN := Lib.hid ((hb.block _ (lt_of_some HGD.out)).trans HGD.out)
            have HZN := Lib.hid ((hb.block _ (lt_of_some HZD.out)).trans HZD.out)
            clear hb TD HGD HZD
            have TD := TN
            have HGD := HGN
            have HZD := HZN
            clear TN HGN HZN
            refine held_one 5 rfl rfl (by kernel_rfl) fun K hK => ?_
            have hadd := HADD.out
            go_simp
            try simp only [hadd]
            refine hK _ _ (TD.out.mono BD.out) ?_
            clear hK K hadd
            refine held_one 6 rfl rfl (by kernel_rfl) fun K hK => ?_
            go_simp
            go_at_call 49
            refine (PA.out _ TD.out).mono ?_
            rintro e y6 ⟨⟨v5, rfl, hv5⟩, hb⟩
            have TN := Lib.hid (TD.out.trans (hb.mono TD.out.size))
            refine hK _ _ (TN.out.mono BD.out) ?_
            clear hK K
            have HGN := Lib.hid ((hb.block _ (lt_of_some HGD.out)).trans HGD.out)
            have HZN := Lib.hid ((hb.block _ (lt_of_some HZD.out)).trans HZD.out)
            clear hb TD HGD HZD
            have TD := TN
            have HGD := HGN
            have HZD := HZN
            clear TN HGN HZN
            obtain ⟨t0, t1, t2, t3, t4, t5, t6, t7, rfl, hms5⟩ := hv5
            have MS := Lib.hid hms5
            clear hms5
            refine wpAnyH_take (i := 7) (v := .tuple #[.agg #[t0, t1, t2, t3, t4, t5, t6, t7, .int .i64 mm.live, .int .i64 mm.garb], .bool q]) rfl (by kernel_rfl) (by kernel_rfl) (by kernel_rfl) (fun _ _ _ h => h) (Or.inl ⟨by kernel_rfl, fun w _ => by go_simp⟩) (TD.out.mono BD.out) ?_
            refine wpAnyH_take (i := 8) (v := .agg #[t0, t1, t2, t3, t4, t5, t6, t7, .int .i64 mm.live, .int .i64 mm.garb]) rfl (by kernel_rfl) (by kernel_rfl) (by kernel_rfl) (fun _ _ _ h => h) (Or.inl ⟨by kernel_rfl, fun w _ => by go_simp⟩) (TD.out.mono BD.out) ?_
            refine wpAnyH_take (i := 9) (v := .bool q) rfl (by kernel_rfl) (by kernel_rfl) (by kernel_rfl) (fun _ _ _ h => h) (Or.inl ⟨by kernel_rfl, fun w _ => by go_simp⟩) (TD.out.mono BD.out) ?_
            have ON := Lib.hid (ms_one MS.out mm.live mm.garb)
            refine held_one 10 rfl rfl (by kernel_rfl) fun K hK => ?_
            refine wp_store_row 32 _ _ rfl g #[t0, t1, t2, t3, t4, t5, t6, t7, .int .i64 mm.live, .int .i64 mm.garb] (by rfl) (by rfl) 32 _ HGD.out infoM10 rfl ON.out ?_
            have SN := Lib.hid (below_setRowM (TD.out.mono BD.out) (show w.heap.size ≤ g by have := NG.out; omega) #[t0, t1, t2, t3, t4, t5, t6, t7, .int .i64 mm.live, .int .i64 mm.garb])
            refine hK _ _ SN.out ?_
            clear hK K
            refine held_one 11 rfl rfl (by kernel_rfl) fun K hK => ?_
            go_simp
            refine hK _ _ SN.out ?_
            clear hK K
            have HGS := Lib.hid (setRow_heap _ _ _ #[t0, t1, t2, t3, t4, t5, t6, t7, .int .i64 mm.live, .int .i64 mm.garb] _ _ HGD.out)
            have HZS := Lib.hid ((setRow_other _ g w.heap.size #[t0, t1, t2, t3, t4, t5, t6, t7, .int .i64 mm.live, .int .i64 mm.garb] (by have := NG.out; omega)).trans HZD.out)
            have MSS := Lib.hid (ms_setRowM MS.out (ms_below MS2.out TD.out) HGD.out #[t0, t1, t2, t3, t4, t5, t6, t7, .int .i64 mm.live, .int .i64 mm.garb])
            have BS := Lib.hid (B2.out.trans SN.out)
            refine wpAnyH_done (by kernel_rfl) ?_ _
            unfold onlyN
            dsimp only
            clear SN MS HGD HZD TD PA PR PW HADD
            cases q
            case false =>
              have HE := Lib.hid (HQ.out.2 rfl)
              clear HQ
              go_wp2_with fail
              refine (pnew_nil _).mono ?_
              rintro e z3 ⟨rfl, hb⟩
              have HZ3 := Lib.hid ((hb.block _ (lt_of_some HZS.out)).trans HZS.out)
              have B3 := Lib.hid (BS.out.trans (hb.mono BS.out.size))
              clear hb
              go_wp2_with ((with_reducible refine storeM w.heap.size _ #[.slice none 0 0, .slice none 0 0, .slice none 0 0, .slice none 0 0, .slice none 0 0, .slice none 0 0, .slice none 0 0, .slice none 0 0, .int .i64 0, .int .i64 0] ?_ ?_ HZ3.out rfl rfl ON8.out ?_); exact rfl; exact rfl)
              refine mo_end (fn := Try.f33) rfl w.heap.size rfl (setRow_heap _ _ _ _ _ _ HZ3.out) ?_
              rw [HE.out]
              exact ⟨⟨_, rfl, _, _, _, _, _, _, _, _, rfl, mp0_ms _⟩, below_setRowM B3.out (Nat.le_refl _) _⟩
            have HE := Lib.hid (HQ.out.1 rfl)
            clear HQ
            obtain ⟨x0, x1, x2, x3, x4, x5, x6, x7, x8, x9⟩ := bx10 HGS.out
            go_wp2_with ((with_reducible refine storeM w.heap.size _ #[t0, t1, t2, t3, t4, t5, t6, t7, .int .i64 mm.live, .int .i64 mm.garb] ?_ ?_ HZS.out rfl rfl ON.out ?_); exact rfl; exact rfl)
            refine mo_end (fn := Try.f33) rfl w.heap.size rfl (setRow_heap _ _ _ _ _ _ HZS.out) ?_
            rw [← HE.out]
            exact ⟨⟨_, rfl, t0, t1, t2, t3, t4, t5, t6, t7, rfl, ms_setRowZ MSS.out HZS.out⟩, below_setRowM BS.out (Nat.le_refl _) _⟩
          · obtain ⟨x0, x1, x2, x3, x4, x5, x6, x7, x8, x9⟩ := bx10 HGD.out
            go_simp
            refine hK _ _ (TD.out.mono BD.out) ?_
            clear hK K x0 x1 x2 x3 x4 x5 x6 x7 x8 x9
            refine held_two 0 2 rfl rfl rfl rfl (by kernel_rfl) (fun K hK => ?_) (fun K hK => ?_)
            · obtain ⟨x0, x1, x2, x3, x4, x5, x6, x7, x8, x9⟩ := bx10 HGD.out
              go_simp
              refine hK _ _ (TD.out.mono BD.out) ?_
              clear hK K x0 x1 x2 x3 x4 x5 x6 x7 x8 x9
              refine held_one 2 rfl rfl (by kernel_rfl) fun K hK => ?_
              go_simp
              go_at_call 43
              refine (PR.out _ TD.out).mono ?_
              rintro e y9 ⟨rfl, hb⟩
              have TN := Lib.hid (TD.out.trans (hb.mono TD.out.size))
              refine hK _ _ (TN.out.mono BD.out) ?_
              clear hK K
              have HGN := Lib.hid ((hb.block _ (lt_of_some HGD.out)).trans HGD.out)
              have HZN := Lib.hid ((hb.block _ (lt_of_some HZD.out)).trans HZD.out)
              clear hb TD HGD HZD
              have TD := TN
              have HGD := HGN
              have HZD := HZN
              clear TN HGN HZN
              refine held_one 4 rfl rfl (by kernel_rfl) fun K hK => ?_
              go_simp
              go_at_call 55
              refine (PW.out _).mono ?_
              rintro e y10 ⟨rfl, hb⟩
              have TN := Lib.hid (TD.out.trans (hb.mono TD.out.size))
              refine hK _ _ (TN.out.mono BD.out) ?_
              clear hK K
              have HGN := Lib.hid ((hb.block _ (lt_of_some HGD.out)).trans HGD.out)
              have HZN := Lib.hid ((hb.block _ (lt_of_some HZD.out)).trans HZD.out)
              clear hb TD HGD HZD
              have TD := TN
              have HGD := HGN
              have HZD := HZN
              clear TN HGN HZN
              refine held_one 5 rfl rfl (by kernel_rfl) fun K hK => ?_
              have hadd := HADD.out
              go_simp
              try simp only [hadd]
              refine hK _ _ (TD.out.mono BD.out) ?_
              clear hK K hadd
              refine held_one 6 rfl rfl (by kernel_rfl) fun K hK => ?_
              go_simp
              go_at_call 49
              refine (PA.out _ TD.out).mono ?_
              rintro e y12 ⟨⟨v5, rfl, hv5⟩, hb⟩
              have TN := Lib.hid (TD.out.trans (hb.mono TD.out.size))
              refine hK _ _ (TN.out.mono BD.out) ?_
              clear hK K
              have HGN := Lib.hid ((hb.block _ (lt_of_some HGD.out)).trans HGD.out)
              have HZN := Lib.hid ((hb.block _ (lt_of_some HZD.out)).trans HZD.out)
              clear hb TD HGD HZD
              have TD := TN
              have HGD := HGN
              have HZD := HZN
              clear TN HGN HZN
              obtain ⟨t0, t1, t2, t3, t4, t5, t6, t7, rfl, hms5⟩ := hv5
              have MS := Lib.hid hms5
              clear hms5
              refine wpAnyH_take (i := 7) (v := .tuple #[.agg #[t0, t1, t2, t3, t4, t5, t6, t7, .int .i64 mm.live, .int .i64 mm.garb], .bool q]) rfl (by kernel_rfl) (by kernel_rfl) (by kernel_rfl) (fun _ _ _ h => h) (Or.inl ⟨by kernel_rfl, fun w _ => by go_simp⟩) (TD.out.mono BD.out) ?_
              refine wpAnyH_take (i := 8) (v := .agg #[t0, t1, t2, t3, t4, t5, t6, t7, .int .i64 mm.live, .int .i64 mm.garb]) rfl (by kernel_rfl) (by kernel_rfl) (by kernel_rfl) (fun _ _ _ h => h) (Or.inl ⟨by kernel_rfl, fun w _ => by go_simp⟩) (TD.out.mono BD.out) ?_
              refine wpAnyH_take (i := 9) (v := .bool q) rfl (by kernel_rfl) (by kernel_rfl) (by kernel_rfl) (fun _ _ _ h => h) (Or.inl ⟨by kernel_rfl, fun w _ => by go_simp⟩) (TD.out.mono BD.out) ?_
              have ON := Lib.hid (ms_one MS.out mm.live mm.garb)
              refine held_one 10 rfl rfl (by kernel_rfl) fun K hK => ?_
              refine wp_store_row 32 _ _ rfl g #[t0, t1, t2, t3, t4, t5, t6, t7, .int .i64 mm.live, .int .i64 mm.garb] (by rfl) (by rfl) 32 _ HGD.out infoM10 rfl ON.out ?_
              have SN := Lib.hid (below_setRowM (TD.out.mono BD.out) (show w.heap.size ≤ g by have := NG.out; omega) #[t0, t1, t2, t3, t4, t5, t6, t7, .int .i64 mm.live, .int .i64 mm.garb])
              refine hK _ _ SN.out ?_
              clear hK K
              refine held_one 11 rfl rfl (by kernel_rfl) fun K hK => ?_
              go_simp
              refine hK _ _ SN.out ?_
              clear hK K
              have HGS := Lib.hid (setRow_heap _ _ _ #[t0, t1, t2, t3, t4, t5, t6, t7, .int .i64 mm.live, .int .i64 mm.garb] _ _ HGD.out)
              have HZS := Lib.hid ((setRow_other _ g w.heap.size #[t0, t1, t2, t3, t4, t5, t6, t7, .int .i64 mm.live, .int .i64 mm.garb] (by have := NG.out; omega)).trans HZD.out)
              have MSS := Lib.hid (ms_setRowM MS.out (ms_below MS2.out TD.out) HGD.out #[t0, t1, t2, t3, t4, t5, t6, t7, .int .i64 mm.live, .int .i64 mm.garb])
              have BS := Lib.hid (B2.out.trans SN.out)
              refine wpAnyH_done (by kernel_rfl) ?_ _
              unfold onlyN
              dsimp only
              clear SN MS HGD HZD TD PA PR PW HADD
              cases q
              case false =>
                have HE := Lib.hid (HQ.out.2 rfl)
                clear HQ
                go_wp2_with fail
                refine (pnew_nil _).mono ?_
                rintro e z3 ⟨rfl, hb⟩
                have HZ3 := Lib.hid ((hb.block _ (lt_of_some HZS.out)).trans HZS.out)
                have B3 := Lib.hid (BS.out.trans (hb.mono BS.out.size))
                clear hb
                go_wp2_with ((with_reducible refine storeM w.heap.size _ #[.slice none 0 0, .slice none 0 0, .slice none 0 0, .slice none 0 0, .slice none 0 0, .slice none 0 0, .slice none 0 0, .slice none 0 0, .int .i64 0, .int .i64 0] ?_ ?_ HZ3.out rfl rfl ON8.out ?_); exact rfl; exact rfl)
                refine mo_end (fn := Try.f33) rfl w.heap.size rfl (setRow_heap _ _ _ _ _ _ HZ3.out) ?_
                rw [HE.out]
                exact ⟨⟨_, rfl, _, _, _, _, _, _, _, _, rfl, mp0_ms _⟩, below_setRowM B3.out (Nat.le_refl _) _⟩
              have HE := Lib.hid (HQ.out.1 rfl)
              clear HQ
              obtain ⟨x0, x1, x2, x3, x4, x5, x6, x7, x8, x9⟩ := bx10 HGS.out
              go_wp2_with ((with_reducible refine storeM w.heap.size _ #[t0, t1, t2, t3, t4, t5, t6, t7, .int .i64 mm.live, .int .i64 mm.garb] ?_ ?_ HZS.out rfl rfl ON.out ?_); exact rfl; exact rfl)
              refine mo_end (fn := Try.f33) rfl w.heap.size rfl (setRow_heap _ _ _ _ _ _ HZS.out) ?_
              rw [← HE.out]
              exact ⟨⟨_, rfl, t0, t1, t2, t3, t4, t5, t6, t7, rfl, ms_setRowZ MSS.out HZS.out⟩, below_setRowM BS.out (Nat.le_refl _) _⟩
            · go_simp
              go_at_call 43
              refine (PR.out _ TD.out).mono ?_
              rintro e y13 ⟨rfl, hb⟩
              have TN := Lib.hid (TD.out.trans (hb.mono TD.out.size))
              refine hK _ _ (TN.out.mono BD.out) ?_
              clear hK K
              have HGN := Lib.hid ((hb.block _ (lt_of_some HGD.out)).trans HGD.out)
              have HZN := Lib.hid ((hb.block _ (lt_of_some HZD.out)).trans HZD.out)
              clear hb TD HGD HZD
              have TD := TN
              have HGD := HGN
              have HZD := HZN
              clear TN HGN HZN
              refine held_two 0 4 rfl rfl rfl rfl (by kernel_rfl) (fun K hK => ?_) (fun K hK => ?_)
              · obtain ⟨x0, x1, x2, x3, x4, x5, x6, x7, x8, x9⟩ := bx10 HGD.out
                go_simp
                refine hK _ _ (TD.out.mono BD.out) ?_
                clear hK K x0 x1 x2 x3 x4 x5 x6 x7 x8 x9
                refine held_one 4 rfl rfl (by kernel_rfl) fun K hK => ?_
                go_simp
                go_at_call 55
                refine (PW.out _).mono ?_
                rintro e y15 ⟨rfl, hb⟩
                have TN := Lib.hid (TD.out.trans (hb.mono TD.out.size))
                refine hK _ _ (TN.out.mono BD.out) ?_
                clear hK K
                have HGN := Lib.hid ((hb.block _ (lt_of_some HGD.out)).trans HGD.out)
                have HZN := Lib.hid ((hb.block _ (lt_of_some HZD.out)).trans HZD.out)
                clear hb TD HGD HZD
                have TD := TN
                have HGD := HGN
                have HZD := HZN
                clear TN HGN HZN
                refine held_one 5 rfl rfl (by kernel_rfl) fun K hK => ?_
                have hadd := HADD.out
                go_simp
                try simp only [hadd]
                refine hK _ _ (TD.out.mono BD.out) ?_
                clear hK K hadd
                refine held_one 6 rfl rfl (by kernel_rfl) fun K hK => ?_
                go_simp
                go_at_call 49
                refine (PA.out _ TD.out).mono ?_
                rintro e y17 ⟨⟨v5, rfl, hv5⟩, hb⟩
                have TN := Lib.hid (TD.out.trans (hb.mono TD.out.size))
                refine hK _ _ (TN.out.mono BD.out) ?_
                clear hK K
                have HGN := Lib.hid ((hb.block _ (lt_of_some HGD.out)).trans HGD.out)
                have HZN := Lib.hid ((hb.block _ (lt_of_some HZD.out)).trans HZD.out)
                clear hb TD HGD HZD
                have TD := TN
                have HGD := HGN
                have HZD := HZN
                clear TN HGN HZN
                obtain ⟨t0, t1, t2, t3, t4, t5, t6, t7, rfl, hms5⟩ := hv5
                have MS := Lib.hid hms5
                clear hms5
                refine wpAnyH_take (i := 7) (v := .tuple #[.agg #[t0, t1, t2, t3, t4, t5, t6, t7, .int .i64 mm.live, .int .i64 mm.garb], .bool q]) rfl (by kernel_rfl) (by kernel_rfl) (by kernel_rfl) (fun _ _ _ h => h) (Or.inl ⟨by kernel_rfl, fun w _ => by go_simp⟩) (TD.out.mono BD.out) ?_
                refine wpAnyH_take (i := 8) (v := .agg #[t0, t1, t2, t3, t4, t5, t6, t7, .int .i64 mm.live, .int .i64 mm.garb]) rfl (by kernel_rfl) (by kernel_rfl) (by kernel_rfl) (fun _ _ _ h => h) (Or.inl ⟨by kernel_rfl, fun w _ => by go_simp⟩) (TD.out.mono BD.out) ?_
                refine wpAnyH_take (i := 9) (v := .bool q) rfl (by kernel_rfl) (by kernel_rfl) (by kernel_rfl) (fun _ _ _ h => h) (Or.inl ⟨by kernel_rfl, fun w _ => by go_simp⟩) (TD.out.mono BD.out) ?_
                have ON := Lib.hid (ms_one MS.out mm.live mm.garb)
                refine held_one 10 rfl rfl (by kernel_rfl) fun K hK => ?_
                refine wp_store_row 32 _ _ rfl g #[t0, t1, t2, t3, t4, t5, t6, t7, .int .i64 mm.live, .int .i64 mm.garb] (by rfl) (by rfl) 32 _ HGD.out infoM10 rfl ON.out ?_
                have SN := Lib.hid (below_setRowM (TD.out.mono BD.out) (show w.heap.size ≤ g by have := NG.out; omega) #[t0, t1, t2, t3, t4, t5, t6, t7, .int .i64 mm.live, .int .i64 mm.garb])
                refine hK _ _ SN.out ?_
                clear hK K
                refine held_one 11 rfl rfl (by kernel_rfl) fun K hK => ?_
                go_simp
                refine hK _ _ SN.out ?_
                clear hK K
                have HGS := Lib.hid (setRow_heap _ _ _ #[t0, t1, t2, t3, t4, t5, t6, t7, .int .i64 mm.live, .int .i64 mm.garb] _ _ HGD.out)
                have HZS := Lib.hid ((setRow_other _ g w.heap.size #[t0, t1, t2, t3, t4, t5, t6, t7, .int .i64 mm.live, .int .i64 mm.garb] (by have := NG.out; omega)).trans HZD.out)
                have MSS := Lib.hid (ms_setRowM MS.out (ms_below MS2.out TD.out) HGD.out #[t0, t1, t2, t3, t4, t5, t6, t7, .int .i64 mm.live, .int .i64 mm.garb])
                have BS := Lib.hid (B2.out.trans SN.out)
                refine wpAnyH_done (by kernel_rfl) ?_ _
                unfold onlyN
                dsimp only
                clear SN MS HGD HZD TD PA PR PW HADD
                cases q
                case false =>
                  have HE := Lib.hid (HQ.out.2 rfl)
                  clear HQ
                  go_wp2_with fail
                  refine (pnew_nil _).mono ?_
                  rintro e z3 ⟨rfl, hb⟩
                  have HZ3 := Lib.hid ((hb.block _ (lt_of_some HZS.out)).trans HZS.out)
                  have B3 := Lib.hid (BS.out.trans (hb.mono BS.out.size))
                  clear hb
                  go_wp2_with ((with_reducible refine storeM w.heap.size _ #[.slice none 0 0, .slice none 0 0, .slice none 0 0, .slice none 0 0, .slice none 0 0, .slice none 0 0, .slice none 0 0, .slice none 0 0, .int .i64 0, .int .i64 0] ?_ ?_ HZ3.out rfl rfl ON8.out ?_); exact rfl; exact rfl)
                  refine mo_end (fn := Try.f33) rfl w.heap.size rfl (setRow_heap _ _ _ _ _ _ HZ3.out) ?_
                  rw [HE.out]
                  exact ⟨⟨_, rfl, _, _, _, _, _, _, _, _, rfl, mp0_ms _⟩, below_setRowM B3.out (Nat.le_refl _) _⟩
                have HE := Lib.hid (HQ.out.1 rfl)
                clear HQ
                obtain ⟨x0, x1, x2, x3, x4, x5, x6, x7, x8, x9⟩ := bx10 HGS.out
                go_wp2_with ((with_reducible refine storeM w.heap.size _ #[t0, t1, t2, t3, t4, t5, t6, t7, .int .i64 mm.live, .int .i64 mm.garb] ?_ ?_ HZS.out rfl rfl ON.out ?_); exact rfl; exact rfl)
                refine mo_end (fn := Try.f33) rfl w.heap.size rfl (setRow_heap _ _ _ _ _ _ HZS.out) ?_
                rw [← HE.out]
                exact ⟨⟨_, rfl, t0, t1, t2, t3, t4, t5, t6, t7, rfl, ms_setRowZ MSS.out HZS.out⟩, below_setRowM BS.out (Nat.le_refl _) _⟩
              · go_simp
                go_at_call 55
                refine (PW.out _).mono ?_
                rintro e y18 ⟨rfl, hb⟩
                have TN := Lib.hid (TD.out.trans (hb.mono TD.out.size))
                refine hK _ _ (TN.out.mono BD.out) ?_
                clear hK K
                have HGN := Lib.hid ((hb.block _ (lt_of_some HGD.out)).trans HGD.out)
                have HZN := Lib.hid ((hb.block _ (lt_of_some HZD.out)).trans HZD.out)
                clear hb TD HGD HZD
                have TD := TN
                have HGD := HGN
                have HZD := HZN
                clear TN HGN HZN
                refine held_two 0 5 rfl rfl rfl rfl (by kernel_rfl) (fun K hK => ?_) (fun K hK => ?_)
                · obtain ⟨x0, x1, x2, x3, x4, x5, x6, x7, x8, x9⟩ := bx10 HGD.out
                  go_simp
                  refine hK _ _ (TD.out.mono BD.out) ?_
                  clear hK K x0 x1 x2 x3 x4 x5 x6 x7 x8 x9
                  refine held_one 5 rfl rfl (by kernel_rfl) fun K hK => ?_
                  have hadd := HADD.out
                  go_simp
                  try simp only [hadd]
                  refine hK _ _ (TD.out.mono BD.out) ?_
                  clear hK K hadd
                  refine held_one 6 rfl rfl (by kernel_rfl) fun K hK => ?_
                  go_simp
                  go_at_call 49
                  refine (PA.out _ TD.out).mono ?_
                  rintro e y21 ⟨⟨v5, rfl, hv5⟩, hb⟩
                  have TN := Lib.hid (TD.out.trans (hb.mono TD.out.size))
                  refine hK _ _ (TN.out.mono BD.out) ?_
                  clear hK K
                  have HGN := Lib.hid ((hb.block _ (lt_of_some HGD.out)).trans HGD.out)
                  have HZN := Lib.hid ((hb.block _ (lt_of_some HZD.out)).trans HZD.out)
                  clear hb TD HGD HZD
                  have TD := TN
                  have HGD := HGN
                  have HZD := HZN
                  clear TN HGN HZN
                  obtain ⟨t0, t1, t2, t3, t4, t5, t6, t7, rfl, hms5⟩ := hv5
                  have MS := Lib.hid hms5
                  clear hms5
                  refine wpAnyH_take (i := 7) (v := .tuple #[.agg #[t0, t1, t2, t3, t4, t5, t6, t7, .int .i64 mm.live, .int .i64 mm.garb], .bool q]) rfl (by kernel_rfl) (by kernel_rfl) (by kernel_rfl) (fun _ _ _ h => h) (Or.inl ⟨by kernel_rfl, fun w _ => by go_simp⟩) (TD.out.mono BD.out) ?_
                  refine wpAnyH_take (i := 8) (v := .agg #[t0, t1, t2, t3, t4, t5, t6, t7, .int .i64 mm.live, .int .i64 mm.garb]) rfl (by kernel_rfl) (by kernel_rfl) (by kernel_rfl) (fun _ _ _ h => h) (Or.inl ⟨by kernel_rfl, fun w _ => by go_simp⟩) (TD.out.mono BD.out) ?_
                  refine wpAnyH_take (i := 9) (v := .bool q) rfl (by kernel_rfl) (by kernel_rfl) (by kernel_rfl) (fun _ _ _ h => h) (Or.inl ⟨by kernel_rfl, fun w _ => by go_simp⟩) (TD.out.mono BD.out) ?_
                  have ON := Lib.hid (ms_one MS.out mm.live mm.garb)
                  refine held_one 10 rfl rfl (by kernel_rfl) fun K hK => ?_
                  refine wp_store_row 32 _ _ rfl g #[t0, t1, t2, t3, t4, t5, t6, t7, .int .i64 mm.live, .int .i64 mm.garb] (by rfl) (by rfl) 32 _ HGD.out infoM10 rfl ON.out ?_
                  have SN := Lib.hid (below_setRowM (TD.out.mono BD.out) (show w.heap.size ≤ g by have := NG.out; omega) #[t0, t1, t2, t3, t4, t5, t6, t7, .int .i64 mm.live, .int .i64 mm.garb])
                  refine hK _ _ SN.out ?_
                  clear hK K
                  refine held_one 11 rfl rfl (by kernel_rfl) fun K hK => ?_
                  go_simp
                  refine hK _ _ SN.out ?_
                  clear hK K
                  have HGS := Lib.hid (setRow_heap _ _ _ #[t0, t1, t2, t3, t4, t5, t6, t7, .int .i64 mm.live, .int .i64 mm.garb] _ _ HGD.out)
                  have HZS := Lib.hid ((setRow_other _ g w.heap.size #[t0, t1, t2, t3, t4, t5, t6, t7, .int .i64 mm.live, .int .i64 mm.garb] (by have := NG.out; omega)).trans HZD.out)
                  have MSS := Lib.hid (ms_setRowM MS.out (ms_below MS2.out TD.out) HGD.out #[t0, t1, t2, t3, t4, t5, t6, t7, .int .i64 mm.live, .int .i64 mm.garb])
                  have BS := Lib.hid (B2.out.trans SN.out)
                  refine wpAnyH_done (by kernel_rfl) ?_ _
                  unfold onlyN
                  dsimp only
                  clear SN MS HGD HZD TD PA PR PW HADD
                  cases q
                  case false =>
                    have HE := Lib.hid (HQ.out.2 rfl)
                    clear HQ
                    go_wp2_with fail
                    refine (pnew_nil _).mono ?_
                    rintro e z3 ⟨rfl, hb⟩
                    have HZ3 := Lib.hid ((hb.block _ (lt_of_some HZS.out)).trans HZS.out)
                    have B3 := Lib.hid (BS.out.trans (hb.mono BS.out.size))
                    clear hb
                    go_wp2_with ((with_reducible refine storeM w.heap.size _ #[.slice none 0 0, .slice none 0 0, .slice none 0 0, .slice none 0 0, .slice none 0 0, .slice none 0 0, .slice none 0 0, .slice none 0 0, .int .i64 0, .int .i64 0] ?_ ?_ HZ3.out rfl rfl ON8.out ?_); exact rfl; exact rfl)
                    refine mo_end (fn := Try.f33) rfl w.heap.size rfl (setRow_heap _ _ _ _ _ _ HZ3.out) ?_
                    rw [HE.out]
                    exact ⟨⟨_, rfl, _, _, _, _, _, _, _, _, rfl, mp0_ms _⟩, below_setRowM B3.out (Nat.le_refl _) _⟩
                  have HE := Lib.hid (HQ.out.1 rfl)
                  clear HQ
                  obtain ⟨x0, x1, x2, x3, x4, x5, x6, x7, x8, x9⟩ := bx10 HGS.out
                  go_wp2_with ((with_reducible refine storeM w.heap.size _ #[t0, t1, t2, t3, t4, t5, t6, t7, .int .i64 mm.live, .int .i64 mm.garb] ?_ ?_ HZS.out rfl rfl ON.out ?_); exact rfl; exact rfl)
                  refine mo_end (fn := Try.f33) rfl w.heap.size rfl (setRow_heap _ _ _ _ _ _ HZS.out) ?_
                  rw [← HE.out]
                  exact ⟨⟨_, rfl, t0, t1, t2, t3, t4, t5, t6, t7, rfl, ms_setRowZ MSS.out HZS.out⟩, below_setRowM BS.out (Nat.le_refl _) _⟩
                · have hadd := HADD.out
                  go_simp
                  try simp only [hadd]
                  refine hK _ _ (TD.out.mono BD.out) ?_
                  clear hK K hadd
                  refine held_one 0 rfl rfl (by kernel_rfl) fun K hK => ?_
                  obtain ⟨x0, x1, x2, x3, x4, x5, x6, x7, x8, x9⟩ := bx10 HGD.out
                  go_simp
                  refine hK _ _ (TD.out.mono BD.out) ?_
                  clear hK K x0 x1 x2 x3 x4 x5 x6 x7 x8 x9
                  refine held_one 6 rfl rfl (by kernel_rfl) fun K hK => ?_
                  go_simp
                  go_at_call 49
                  refine (PA.out _ TD.out).mono ?_
                  rintro e y24 ⟨⟨v5, rfl, hv5⟩, hb⟩
                  have TN := Lib.hid (TD.out.trans (hb.mono TD.out.size))
                  refine hK _ _ (TN.out.mono BD.out) ?_
                  clear hK K
                  have HGN := Lib.hid ((hb.block _ (lt_of_some HGD.out)).trans HGD.out)
                  have HZN := Lib.hid ((hb.block _ (lt_of_some HZD.out)).trans HZD.out)
                  clear hb TD HGD HZD
                  have TD := TN
                  have HGD := HGN
                  have HZD := HZN
                  clear TN HGN HZN
                  obtain ⟨t0, t1, t2, t3, t4, t5, t6, t7, rfl, hms5⟩ := hv5
                  have MS := Lib.hid hms5
                  clear hms5
                  refine wpAnyH_take (i := 7) (v := .tuple #[.agg #[t0, t1, t2, t3, t4, t5, t6, t7, .int .i64 mm.live, .int .i64 mm.garb], .bool q]) rfl (by kernel_rfl) (by kernel_rfl) (by kernel_rfl) (fun _ _ _ h => h) (Or.inl ⟨by kernel_rfl, fun w _ => by go_simp⟩) (TD.out.mono BD.out) ?_
                  refine wpAnyH_take (i := 8) (v := .agg #[t0, t1, t2, t3, t4, t5, t6, t7, .int .i64 mm.live, .int .i64 mm.garb]) rfl (by kernel_rfl) (by kernel_rfl) (by kernel_rfl) (fun _ _ _ h => h) (Or.inl ⟨by kernel_rfl, fun w _ => by go_simp⟩) (TD.out.mono BD.out) ?_
                  refine wpAnyH_take (i := 9) (v := .bool q) rfl (by kernel_rfl) (by kernel_rfl) (by kernel_rfl) (fun _ _ _ h => h) (Or.inl ⟨by kernel_rfl, fun w _ => by go_simp⟩) (TD.out.mono BD.out) ?_
                  have ON := Lib.hid (ms_one MS.out mm.live mm.garb)
                  refine held_one 10 rfl rfl (by kernel_rfl) fun K hK => ?_
                  refine wp_store_row 32 _ _ rfl g #[t0, t1, t2, t3, t4, t5, t6, t7, .int .i64 mm.live, .int .i64 mm.garb] (by rfl) (by rfl) 32 _ HGD.out infoM10 rfl ON.out ?_
                  have SN := Lib.hid (below_setRowM (TD.out.mono BD.out) (show w.heap.size ≤ g by have := NG.out; omega) #[t0, t1, t2, t3, t4, t5, t6, t7, .int .i64 mm.live, .int .i64 mm.garb])
                  refine hK _ _ SN.out ?_
                  clear hK K
                  refine held_one 11 rfl rfl (by kernel_rfl) fun K hK => ?_
                  go_simp
                  refine hK _ _ SN.out ?_
                  clear hK K
                  have HGS := Lib.hid (setRow_heap _ _ _ #[t0, t1, t2, t3, t4, t5, t6, t7, .int .i64 mm.live, .int .i64 mm.garb] _ _ HGD.out)
                  have HZS := Lib.hid ((setRow_other _ g w.heap.size #[t0, t1, t2, t3, t4, t5, t6, t7, .int .i64 mm.live, .int .i64 mm.garb] (by have := NG.out; omega)).trans HZD.out)
                  have MSS := Lib.hid (ms_setRowM MS.out (ms_below MS2.out TD.out) HGD.out #[t0, t1, t2, t3, t4, t5, t6, t7, .int .i64 mm.live, .int .i64 mm.garb])
                  have BS := Lib.hid (B2.out.trans SN.out)
                  refine wpAnyH_done (by kernel_rfl) ?_ _
                  unfold onlyN
                  dsimp only
                  clear SN MS HGD HZD TD PA PR PW HADD
                  cases q
                  case false =>
                    have HE := Lib.hid (HQ.out.2 rfl)
                    clear HQ
                    go_wp2_with fail
                    refine (pnew_nil _).mono ?_
                    rintro e z3 ⟨rfl, hb⟩
                    have HZ3 := Lib.hid ((hb.block _ (lt_of_some HZS.out)).trans HZS.out)
                    have B3 := Lib.hid (BS.out.trans (hb.mono BS.out.size))
                    clear hb
                    go_wp2_with ((with_reducible refine storeM w.heap.size _ #[.slice none 0 0, .slice none 0 0, .slice none 0 0, .slice none 0 0, .slice none 0 0, .slice none 0 0, .slice none 0 0, .slice none 0 0, .int .i64 0, .int .i64 0] ?_ ?_ HZ3.out rfl rfl ON8.out ?_); exact rfl; exact rfl)
                    refine mo_end (fn := Try.f33) rfl w.heap.size rfl (setRow_heap _ _ _ _ _ _ HZ3.out) ?_
                    rw [HE.out]
                    exact ⟨⟨_, rfl, _, _, _, _, _, _, _, _, rfl, mp0_ms _⟩, below_setRowM B3.out (Nat.le_refl _) _⟩
                  have HE := Lib.hid (HQ.out.1 rfl)
                  clear HQ
                  obtain ⟨x0, x1, x2, x3, x4, x5, x6, x7, x8, x9⟩ := bx10 HGS.out
                  go_wp2_with ((with_reducible refine storeM w.heap.size _ #[t0, t1, t2, t3, t4, t5, t6, t7, .int .i64 mm.live, .int .i64 mm.garb] ?_ ?_ HZS.out rfl rfl ON.out ?_); exact rfl; exact rfl)
                  refine mo_end (fn := Try.f33) rfl w.heap.size rfl (setRow_heap _ _ _ _ _ _ HZS.out) ?_
                  rw [← HE.out]
                  exact ⟨⟨_, rfl, t0, t1, t2, t3, t4, t5, t6, t7, rfl, ms_setRowZ MSS.out HZS.out⟩, below_setRowM BS.out (Nat.le_refl _) _⟩
        have l1 : decide ((k : Int) < 8) = true := decide_eq_true (by omega)
        have l2 : decide (k < 8) = true := decide_eq_true hlt
        have HK := Lib.hid hlt
        have EK := Lib.hid (show wrap64 ((k : Int) + 1) = ((k + 1 : Nat) : Int) by unfold wrap64; omega)
        obtain ⟨vk, hsel, how⟩ := OS2.out.own k hlt
        rw [split_get _ hlt] at how
        have hit := owT_it how
        obtain ⟨ak, ck, rfl, -, -⟩ := owT_form how
        have PM := Lib.hid (pmerge8_any (.slice none 0 0) _ (.slice none 0 0) [] _ [] w2 (it_nil w2) hit (su_nil11 w2) (by decide) (HLN.out k) (by decide))
        rw [merge_nil] at PM
        obtain ⟨nk, hnk⟩ : ∃ z, z = (fS k L).length := ⟨_, rfl⟩
        rw [← hnk] at hsel PM
        have hix := run_index8 w2 hlt hsel
        have p0 : (0 : Int) ≤ (k : Int) := by omega
        have p1 : (k : Int) < 8 := by omega
        clear how hit hsel hnk hlt hk
        go_wp2_with fail
        refine PM.out.mono ?_
        rintro e w3 ⟨⟨v3, rfl, hi3⟩, hb⟩
        obtain ⟨a3, q3, rfl, -, -⟩ := it_form hi3
        have B3 := Lib.hid (B2.out.trans (hb.mono B2.out.size))
        have HG3 := Lib.hid ((hb.block _ (lt_of_some HG2.out)).trans HG2.out)
        have HZ3 := Lib.hid ((hb.block _ (lt_of_some HZ2.out)).trans HZ2.out)
        have MS3 := Lib.hid (ms_below MS2.out hb)
        have OS3 := Lib.hid (OS2.out.below hb)
        have IT3 := Lib.hid hi3
        clear hb hi3 PM hix HG2 HZ2 MS2 OS2 B2
        obtain ⟨n3, hn3⟩ : ∃ z, z = (sortL (fS k L)).length := ⟨_, rfl⟩
        have HN3 := Lib.hid hn3
        rw [← hn3] at IT3 ⊢
        clear hn3
        obtain ⟨ad, cd, hseld, -⟩ := MS3.out.2.2.2 k HK.out
        have hcelld := bxk HG3.out HK.out hseld
        have fzd := frozen_of_row w3 g k _ _ HG3.out
        clear hseld
        go_upto_region 16 with fail
        obtain ⟨e0, e1, e2, e3, e4, e5, e6, e7, he, hd⟩ := set8 d0 d1 d2 d3 d4 d5 d6 d7 (.slice a3 n3 q3) (.int .i64 0) (.int .i64 0) k HK.out
        have hg4 := heap_setCell_same w3 g k _ _ (.slice a3 n3 q3) HG3.out
        rw [he] at hg4
        have HG4 := Lib.hid hg4
        have ms4 := ms_set (d0 := e0) (d1 := e1) (d2 := e2) (d3 := e3) (d4 := e4) (d5 := e5) (d6 := e6) (d7 := e7) (a := a3) (c := q3) (L := sortL (fS k L)) (l' := 0) (g' := 0) MS3.out HG3.out HK.out (by rw [← HN3.out]; exact IT3.out) (by rw [← HN3.out]; exact hd) MS3.out.2.1 MS3.out.2.2.1 (.slice a3 n3 q3)
        rw [mix_succ HK.out] at ms4
        have MS4 := Lib.hid ms4
        have OS4 := Lib.hid (OS3.out.store (i := k) (.slice a3 n3 q3))
        have HZ4 := Lib.hid (show (w3.setCell ⟨g, k, none⟩ (.slice a3 n3 q3)).heap[w.heap.size]? = some (.cells #[.slice none 0 0, .slice none 0 0, .slice none 0 0, .slice none 0 0, .slice none 0 0, .slice none 0 0, .slice none 0 0, .slice none 0 0, .int .i64 0, .int .i64 0] 32 (0, 0)) by
          rw [heap_setCell_other _ _ _ _ (show w.heap.size ≠ g by have := NG.out; omega)]
          exact HZ3.out)
        have B4 := Lib.hid (B3.out.setCell (p := ⟨g, k, none⟩) (show w.heap.size ≤ g by have := NG.out; omega) (.slice a3 n3 q3))
        clear he hd hg4 ms4 hcelld fzd MS3 HG3 HZ3 B3 OS3 IT3
        generalize w3.setCell ⟨g, k, none⟩ (.slice a3 n3 q3) = w4 at *
        go_wp2_with fail
        go_roundw
        case rel =>
          have h1 := HK.out
          exact ⟨k + 1, by omega, by first | rw [EK.out] | rfl, e0, e1, e2, e3, e4, e5, e6, e7, HG4, MS4, OS4, HZ4, B4⟩
        case measure =>
          have h1 := HK.out
          first | rw [EK.out] | skip
          simp [intOf]
          omega
    have l1 : decide ((i : Int) < (n : Int)) = true := decide_eq_true (by omega)
    have l2 : decide (i < n) = true := decide_eq_true hlt
    have HI := Lib.hid hlt
    have EW := Lib.hid (show wrap64 ((i : Int) + 1) = ((i + 1 : Nat) : Int) by have := HN.out; unfold wrap64; omega)
    obtain ⟨b, off, cap, hv, -, -, hc⟩ := it_cells (it_below SL.out BR.out) (by have := HN.out.1; omega)
    obtain ⟨rfl, -⟩ : a = some ⟨b, off, none⟩ ∧ (n = L.length ∧ c = cap) := by simpa using hv
    have CC := hc i (by have := HN.out.1; omega)
    obtain ⟨x, hx⟩ : ∃ z, z = L.getD i z0 := ⟨_, rfl⟩
    rw [← hx] at CC
    have HX := Lib.hid hx
    have hxo : ItOk x := by rw [hx]; exact SL.out.1 _ (getT_mem (by have := HN.out.1; omega))
    have HXO := Lib.hid hxo
    obtain ⟨k0, k1, k2, k3⟩ := CC
    have p0 : (0 : Int) ≤ (i : Int) := by omega
    have p1 : (i : Int) < (n : Int) := by omega
    clear hv hc hx hlt hi hxo
    go_upto_region 7 with fail
    clear k0 k1 k2 k3 p0 p1 l1 l2
    have q1 := bel_al wl (.cells #[.int .u64 (x.key : Int), .int .u32 (x.ck : Int), .int .i64 x.off, .int .i64 x.sz] 37)
    have HB := Lib.hid (heap_alloc_new wl (.cells #[.int .u64 (x.key : Int), .int .u32 (x.ck : Int), .int .i64 x.off, .int .i64 x.sz] 37))
    have B1 := Lib.hid (BR.out.trans (q1.mono BR.out.size))
    have OS1 := Lib.hid (OS.out.below q1)
    have HG1 := Lib.hid ((q1.block _ (lt_of_some HG.out)).trans HG.out)
    have HZ1 := Lib.hid ((q1.block _ (lt_of_some HZ.out)).trans HZ.out)
    have GI := Lib.hid (show g < wl.heap.size from lt_of_some HG.out)
    clear q1 BR OS HG HZ
    generalize wl.alloc (.cells #[.int .u64 (x.key : Int), .int .u32 (x.ck : Int), .int .i64 x.off, .int .i64 x.sz] 37) = W1 at *
    generalize wl.heap.size = gi at *
    obtain ⟨⟨x0, x1, x2, x3⟩, -⟩ := bx4 HB.out
    have PI := Lib.hid (pvalidItem_any x HXO.out W1)
    unfold TV at PI
    by_cases hok : okI x
    case neg =>
      have HE := Lib.hid (show fromL L gb = mp0 by
        unfold fromL
        rw [if_neg (fun h => hok (h.1 x (by rw [HX.out]; exact getT_mem (by have := HI.out; have := HN.out.1; omega))))])
      rw [decide_eq_false hok] at PI
      clear hok
      go_wp2_with fail
      refine PI.out.mono ?_
      rintro e w2 ⟨rfl, hb⟩
      have HZ2 := Lib.hid ((hb.block _ (lt_of_some HZ1.out)).trans HZ1.out)
      have B2 := Lib.hid (B1.out.trans (hb.mono B1.out.size))
      clear hb
      go_wp2_with fail
      refine (pnew_nil w2).mono ?_
      rintro e w3 ⟨rfl, hb⟩
      have HZ3 := Lib.hid ((hb.block _ (lt_of_some HZ2.out)).trans HZ2.out)
      have B3 := Lib.hid (B2.out.trans (hb.mono B2.out.size))
      clear hb
      go_wp2_with ((with_reducible refine storeM w.heap.size _ #[.slice none 0 0, .slice none 0 0, .slice none 0 0, .slice none 0 0, .slice none 0 0, .slice none 0 0, .slice none 0 0, .slice none 0 0, .int .i64 0, .int .i64 0] ?_ ?_ HZ3.out rfl rfl ON8.out ?_); exact rfl; exact rfl)
      refine mo_end (fn := Try.f33) rfl w.heap.size rfl (setRow_heap _ _ _ _ _ _ HZ3.out) ?_
      rw [HE.out]
      exact ⟨⟨_, rfl, _, _, _, _, _, _, _, _, rfl, mp0_ms _⟩, below_setRowM B3.out (Nat.le_refl _) _⟩
    have HOK := Lib.hid hok
    rw [decide_eq_true hok] at PI
    have ST := Lib.hid (fun W => pstripe_any x.key W)
    obtain ⟨u, hu⟩ : ∃ u, u = sp x.key := ⟨_, rfl⟩
    rw [← hu] at ST
    have HU := Lib.hid (And.intro hu (show u < 8 by rw [hu]; exact sp_lt _))
    have htk : L.take (i + 1) = L.take i ++ [x] := by
      rw [List.take_succ_eq_append_getElem (show i < L.length by have := HI.out; have := HN.out.1; omega), HX.out]
      congr 2
      simp [List.getD, show i < L.length by have := HI.out; have := HN.out.1; omega]
    have HST := Lib.hid (show (splitM (L.take i)).set u (fS u (L.take i) ++ [x]) = splitM (L.take (i + 1)) by rw [htk, split_snoc, ← hu])
    have HT1 := Lib.hid (show ∀ y ∈ L.take (i + 1), okI y by
      rw [htk]
      intro y hy
      rcases List.mem_append.1 hy with h | h
      · exact HT.out y h
      · rw [List.mem_singleton.1 h]; exact HOK.out)
    have HLN := Lib.hid (show (fS u (L.take i)).length + 1 ≤ 100000000 by
      have h1 : (fS u (L.take i)).length ≤ (L.take i).length := List.length_filter_le _ _
      rw [List.length_take] at h1
      have := HN.out
      omega)
    clear hok hu htk HT
    go_wp2_with fail
    refine PI.out.mono ?_
    rintro e w2 ⟨rfl, hb⟩
    have HB2 := Lib.hid ((hb.block _ (lt_of_some HB.out)).trans HB.out)
    have HZ2 := Lib.hid ((hb.block _ (lt_of_some HZ1.out)).trans HZ1.out)
    have HG2 := Lib.hid ((hb.block _ (lt_of_some HG1.out)).trans HG1.out)
    have OS2 := Lib.hid (OS1.out.below hb)
    have B2 := Lib.hid (B1.out.trans (hb.mono B1.out.size))
    clear hb PI x0 x1 x2 x3 HB HZ1 HG1 OS1 B1
    obtain ⟨⟨x0, x1, x2, x3⟩, -⟩ := bx4 HB2.out
    go_wp2_with fail
    refine (ST.out w2).mono ?_
    rintro e w2' ⟨rfl, rfl⟩
    clear ST
    go_upto_region 10 with fail
    clear x0 x1 x2 x3
    obtain ⟨vu, hsel, hown⟩ := OS2.out.own u HU.out.2
    have HS := Lib.hid hsel
    have p0 : (0 : Int) ≤ (u : Int) := by omega
    have p1 : (u : Int) < 8 := by have := HU.out.2; omega
    have OW := Lib.hid hown
    have GB := Lib.hid (show w.heap.size ≤ g by have := NG.out; omega)
    have GG := Lib.hid (show g + 1 ≤ w2.heap.size by have := lt_of_some HG2.out; omega)
    clear hsel hown
    have S0 := Lib.hid (Below.refl w2.heap.size w2).drew
    refine wp_onlyN ?_
    refine wp_region_headsS (fun W' => Below w.heap.size w2 W') [0, 1, 2, 3, 8] 6 (by kernel_rfl) (fun _ _ _ _ _ h => h.elim) (by kernel_rfl) (by rfl) (by rfl) (S0.out.mono B2.out.size) ?_
    simp only [pickOps, List.filterMap_cons, List.filterMap_nil, List.getElem?_toArray, List.getElem?_cons_zero, List.getElem?_cons_succ]
    refine wpHeads_step (fun K hK => ?_)
    go_simp
    refine ⟨_, fun _ _ => rfl, hK _ ?_⟩
    clear hK K
    refine wpHeads_step (fun K hK => ?_)
    go_simp
    refine ⟨_, fun _ _ => rfl, hK _ ?_⟩
    clear hK K
    refine wpHeads_step (fun K hK => ?_)
    go_simp
    refine ⟨_, fun _ _ => rfl, hK _ ?_⟩
    clear hK K
    refine wpHeads_step (fun K hK => ?_)
    go_simp
    refine ⟨_, fun _ _ => rfl, hK _ ?_⟩
    clear hK K
    refine wpHeads_step (fun K hK => ?_)
    go_simp
    refine ⟨_, fun _ _ => rfl, hK _ ?_⟩
    clear hK K
    refine wpHeads_nil ?_
    have SD := Lib.hid (S0.out.mono B2.out.size)
    have HGD := Lib.hid ((S0.out.block _ (lt_of_some HG2.out)).trans HG2.out)
    have HBD := Lib.hid ((S0.out.block _ (lt_of_some HB2.out)).trans HB2.out)
    have HZD := Lib.hid ((S0.out.block _ (lt_of_some HZ2.out)).trans HZ2.out)
    have OSD := Lib.hid (OS2.out.below S0.out)
    have GD := Lib.hid (show g + 1 ≤ w2.drew.heap.size from Nat.le_trans GG.out S0.out.size)
    clear S0 HG2 HB2 HZ2 OS2 GG
    generalize w2.drew = wD at *
    refine held_two 4 5 rfl rfl rfl rfl (by kernel_rfl) (fun K hK => ?_) (fun K hK => ?_)
    · have hc := bxk HGD.out HU.out.2 HS.out
      go_simp
      try simp only [hc]
      refine hK _ _ SD.out ?_
      clear hK K hc
      refine held_one 5 rfl rfl (by kernel_rfl) fun K hK => ?_
      obtain ⟨⟨x0, x1, x2, x3⟩, -⟩ := bx4 HBD.out
      go_simp
      try simp only [x0, x1, x2, x3]
      refine hK _ _ SD.out ?_
      clear hK K x0 x1 x2 x3
      refine held_one 6 rfl rfl (by kernel_rfl) fun K hK => ?_
      go_simp
      have hb := bel_al wD (.cells #[.int .u64 (x.key : Int), .int .u32 (x.ck : Int), .int .i64 x.off, .int .i64 x.sz] 37)
      refine hK _ _ (SD.out.trans (hb.mono (Nat.le_trans B2.out.size SD.out.size))) ?_
      clear hK K
      have SE := Lib.hid (SD.out.trans (hb.mono (Nat.le_trans B2.out.size SD.out.size)))
      have HGE := Lib.hid ((hb.block _ (lt_of_some HGD.out)).trans HGD.out)
      have HZE := Lib.hid ((hb.block _ (lt_of_some HZD.out)).trans HZD.out)
      have OSE := Lib.hid (OSD.out.below hb)
      have GE := Lib.hid (show g + 1 ≤ (wD.alloc (.cells #[.int .u64 (x.key : Int), .int .u32 (x.ck : Int), .int .i64 x.off, .int .i64 x.sz] 37)).heap.size from Nat.le_trans GD.out hb.size)
      have ITE := Lib.hid (it_one HXO.out (heap_alloc_new wD (.cells #[.int .u64 (x.key : Int), .int .u32 (x.ck : Int), .int .i64 x.off, .int .i64 x.sz] 37)))
      clear hb SD HGD HZD OSD HBD GD
      generalize wD.alloc (.cells #[.int .u64 (x.key : Int), .int .u32 (x.ck : Int), .int .i64 x.off, .int .i64 x.sz] 37) = wE at *
      generalize wD.heap.size = ge at *
      refine held_one 7 rfl rfl (by kernel_rfl) fun K hK => ?_
      obtain ⟨v2, hs2, ow⟩ := OSE.out.own u HU.out.2
      obtain rfl : vu = v2 := Option.some.inj (HS.out.symm.trans hs2)
      clear hs2
      rw [split_get _ HU.out.2] at ow
      refine wp_app_it1 (base := g + 1) (v := vu) (L := fS u (L.take i)) (y := x) rfl rfl ow ITE.out HLN.out GE.out (fun v7 w7 ho hg hat => ?_)
      obtain ⟨a7, q7, hv7, -, -⟩ := owT_form ho
      generalize (fS u (L.take i) ++ [x]).length = n7 at hv7
      subst hv7
      have S7 := Lib.hid (below_grownT SE.out hg ow (Nat.le_trans GB.out (Nat.le_trans (Nat.le_succ g) GE.out)) (Nat.le_trans GB.out (Nat.le_succ g)))
      refine hK _ _ S7.out ?_
      clear hK K
      have HG7 := Lib.hid ((hg.block g GE.out (fun e => by have := owT_lt ow g e.symm; omega)).trans HGE.out)
      have HZ7 := Lib.hid ((hg.block w.heap.size (lt_of_some HZE.out) (fun e => by have h1 := owT_lt ow _ e.symm; have h2 := GB.out; omega)).trans HZE.out)
      obtain ⟨d0, d1, d2, d3, d4, d5, d6, d7, he, hd⟩ := set8 c0 c1 c2 c3 c4 c5 c6 c7 (.slice a7 n7 q7) (.int .i64 0) (.int .i64 0) u HU.out.2
      have os7 := (OSE.out.grow HU.out.2 HS.out ho hg hat hd (split_len _)).store (i := u) (.slice a7 n7 q7)
      rw [HST.out] at os7
      have OS8 := Lib.hid os7
      have hg8 := heap_setCell_same w7 g u _ _ (.slice a7 n7 q7) HG7.out
      rw [he] at hg8
      have HG8 := Lib.hid hg8
      have HZz := Lib.hid (show (w7.setCell ⟨g, u, none⟩ (.slice a7 n7 q7)).heap[w.heap.size]? = some (.cells #[.slice none 0 0, .slice none 0 0, .slice none 0 0, .slice none 0 0, .slice none 0 0, .slice none 0 0, .slice none 0 0, .slice none 0 0, .int .i64 0, .int .i64 0] 32 (0, 0)) by
        rw [heap_setCell_other _ _ _ _ (show w.heap.size ≠ g by have := NG.out; omega)]
        exact HZ7.out)
      have S8 := Lib.hid (S7.out.setCell (p := ⟨g, u, none⟩) GB.out (.slice a7 n7 q7))
      have hc7 := bxk HG7.out HU.out.2 HS.out
      have fz7 := frozen_of_row w7 g u _ _ HG7.out
      clear os7 hg8 he hd ho hg hat ow HG7 HZ7 OSE HGE HZE SE GE ITE
      refine held_one 9 rfl rfl (by kernel_rfl) fun K hK => ?_
      go_simp
      refine hK _ _ S7.out ?_
      clear hK K
      refine held_one 10 rfl rfl (by kernel_rfl) fun K hK => ?_
      go_simp
      refine hK _ _ S8.out ?_
      clear hK K hc7 fz7 S7
      have B8 := Lib.hid (B2.out.trans S8.out)
      clear S8
      generalize w7.setCell ⟨g, u, none⟩ (.slice a7 n7 q7) = w8 at *
      refine wpAnyH_done (by kernel_rfl) ?_ _
      unfold onlyN
      dsimp only
      go_wp2_with fail
      go_roundw
      case rel =>
        have h1 := HI.out
        exact ⟨i + 1, by omega, by rw [EW.out], HT1, d0, d1, d2, d3, d4, d5, d6, d7, HG8, OS8, HZz, B8⟩
      case measure =>
        have h1 := HI.out
        rw [EW.out]
        simp [intOf]
        omega
    · obtain ⟨⟨x0, x1, x2, x3⟩, -⟩ := bx4 HBD.out
      go_simp
      try simp only [x0, x1, x2, x3]
      refine hK _ _ SD.out ?_
      clear hK K x0 x1 x2 x3
      refine held_two 4 6 rfl rfl rfl rfl (by kernel_rfl) (fun K hK => ?_) (fun K hK => ?_)
      · have hc := bxk HGD.out HU.out.2 HS.out
        go_simp
        try simp only [hc]
        refine hK _ _ SD.out ?_
        clear hK K hc
        refine held_one 6 rfl rfl (by kernel_rfl) fun K hK => ?_
        go_simp
        have hb := bel_al wD (.cells #[.int .u64 (x.key : Int), .int .u32 (x.ck : Int), .int .i64 x.off, .int .i64 x.sz] 37)
        refine hK _ _ (SD.out.trans (hb.mono (Nat.le_trans B2.out.size SD.out.size))) ?_
        clear hK K
        have SE := Lib.hid (SD.out.trans (hb.mono (Nat.le_trans B2.out.size SD.out.size)))
        have HGE := Lib.hid ((hb.block _ (lt_of_some HGD.out)).trans HGD.out)
        have HZE := Lib.hid ((hb.block _ (lt_of_some HZD.out)).trans HZD.out)
        have OSE := Lib.hid (OSD.out.below hb)
        have GE := Lib.hid (show g + 1 ≤ (wD.alloc (.cells #[.int .u64 (x.key : Int), .int .u32 (x.ck : Int), .int .i64 x.off, .int .i64 x.sz] 37)).heap.size from Nat.le_trans GD.out hb.size)
        have ITE := Lib.hid (it_one HXO.out (heap_alloc_new wD (.cells #[.int .u64 (x.key : Int), .int .u32 (x.ck : Int), .int .i64 x.off, .int .i64 x.sz] 37)))
        clear hb SD HGD HZD OSD HBD GD
        generalize wD.alloc (.cells #[.int .u64 (x.key : Int), .int .u32 (x.ck : Int), .int .i64 x.off, .int .i64 x.sz] 37) = wE at *
        generalize wD.heap.size = ge at *
        refine held_one 7 rfl rfl (by kernel_rfl) fun K hK => ?_
        obtain ⟨v2, hs2, ow⟩ := OSE.out.own u HU.out.2
        obtain rfl : vu = v2 := Option.some.inj (HS.out.symm.trans hs2)
        clear hs2
        rw [split_get _ HU.out.2] at ow
        refine wp_app_it1 (base := g + 1) (v := vu) (L := fS u (L.take i)) (y := x) rfl rfl ow ITE.out HLN.out GE.out (fun v7 w7 ho hg hat => ?_)
        obtain ⟨a7, q7, hv7, -, -⟩ := owT_form ho
        generalize (fS u (L.take i) ++ [x]).length = n7 at hv7
        subst hv7
        have S7 := Lib.hid (below_grownT SE.out hg ow (Nat.le_trans GB.out (Nat.le_trans (Nat.le_succ g) GE.out)) (Nat.le_trans GB.out (Nat.le_succ g)))
        refine hK _ _ S7.out ?_
        clear hK K
        have HG7 := Lib.hid ((hg.block g GE.out (fun e => by have := owT_lt ow g e.symm; omega)).trans HGE.out)
        have HZ7 := Lib.hid ((hg.block w.heap.size (lt_of_some HZE.out) (fun e => by have h1 := owT_lt ow _ e.symm; have h2 := GB.out; omega)).trans HZE.out)
        obtain ⟨d0, d1, d2, d3, d4, d5, d6, d7, he, hd⟩ := set8 c0 c1 c2 c3 c4 c5 c6 c7 (.slice a7 n7 q7) (.int .i64 0) (.int .i64 0) u HU.out.2
        have os7 := (OSE.out.grow HU.out.2 HS.out ho hg hat hd (split_len _)).store (i := u) (.slice a7 n7 q7)
        rw [HST.out] at os7
        have OS8 := Lib.hid os7
        have hg8 := heap_setCell_same w7 g u _ _ (.slice a7 n7 q7) HG7.out
        rw [he] at hg8
        have HG8 := Lib.hid hg8
        have HZz := Lib.hid (show (w7.setCell ⟨g, u, none⟩ (.slice a7 n7 q7)).heap[w.heap.size]? = some (.cells #[.slice none 0 0, .slice none 0 0, .slice none 0 0, .slice none 0 0, .slice none 0 0, .slice none 0 0, .slice none 0 0, .slice none 0 0, .int .i64 0, .int .i64 0] 32 (0, 0)) by
          rw [heap_setCell_other _ _ _ _ (show w.heap.size ≠ g by have := NG.out; omega)]
          exact HZ7.out)
        have S8 := Lib.hid (S7.out.setCell (p := ⟨g, u, none⟩) GB.out (.slice a7 n7 q7))
        have hc7 := bxk HG7.out HU.out.2 HS.out
        have fz7 := frozen_of_row w7 g u _ _ HG7.out
        clear os7 hg8 he hd ho hg hat ow HG7 HZ7 OSE HGE HZE SE GE ITE
        refine held_one 9 rfl rfl (by kernel_rfl) fun K hK => ?_
        go_simp
        refine hK _ _ S7.out ?_
        clear hK K
        refine held_one 10 rfl rfl (by kernel_rfl) fun K hK => ?_
        go_simp
        refine hK _ _ S8.out ?_
        clear hK K hc7 fz7 S7
        have B8 := Lib.hid (B2.out.trans S8.out)
        clear S8
        generalize w7.setCell ⟨g, u, none⟩ (.slice a7 n7 q7) = w8 at *
        refine wpAnyH_done (by kernel_rfl) ?_ _
        unfold onlyN
        dsimp only
        go_wp2_with fail
        go_roundw
        case rel =>
          have h1 := HI.out
          exact ⟨i + 1, by omega, by rw [EW.out], HT1, d0, d1, d2, d3, d4, d5, d6, d7, HG8, OS8, HZz, B8⟩
        case measure =>
          have h1 := HI.out
          rw [EW.out]
          simp [intOf]
          omega
      · go_simp
        have hb := bel_al wD (.cells #[.int .u64 (x.key : Int), .int .u32 (x.ck : Int), .int .i64 x.off, .int .i64 x.sz] 37)
        refine hK _ _ (SD.out.trans (hb.mono (Nat.le_trans B2.out.size SD.out.size))) ?_
        clear hK K
        have SE := Lib.hid (SD.out.trans (hb.mono (Nat.le_trans B2.out.size SD.out.size)))
        have HGE := Lib.hid ((hb.block _ (lt_of_some HGD.out)).trans HGD.out)
        have HZE := Lib.hid ((hb.block _ (lt_of_some HZD.out)).trans HZD.out)
        have OSE := Lib.hid (OSD.out.below hb)
        have GE := Lib.hid (show g + 1 ≤ (wD.alloc (.cells #[.int .u64 (x.key : Int), .int .u32 (x.ck : Int), .int .i64 x.off, .int .i64 x.sz] 37)).heap.size from Nat.le_trans GD.out hb.size)
        have ITE := Lib.hid (it_one HXO.out (heap_alloc_new wD (.cells #[.int .u64 (x.key : Int), .int .u32 (x.ck : Int), .int .i64 x.off, .int .i64 x.sz] 37)))
        clear hb SD HGD HZD OSD HBD GD
        generalize wD.alloc (.cells #[.int .u64 (x.key : Int), .int .u32 (x.ck : Int), .int .i64 x.off, .int .i64 x.sz] 37) = wE at *
        generalize wD.heap.size = ge at *
        refine held_one 4 rfl rfl (by kernel_rfl) fun K hK => ?_
        have hc := bxk HGE.out HU.out.2 HS.out
        go_simp
        try simp only [hc]
        refine hK _ _ SE.out ?_
        clear hK K hc
        refine held_one 7 rfl rfl (by kernel_rfl) fun K hK => ?_
        obtain ⟨v2, hs2, ow⟩ := OSE.out.own u HU.out.2
        obtain rfl : vu = v2 := Option.some.inj (HS.out.symm.trans hs2)
        clear hs2
        rw [split_get _ HU.out.2] at ow
        refine wp_app_it1 (base := g + 1) (v := vu) (L := fS u (L.take i)) (y := x) rfl rfl ow ITE.out HLN.out GE.out (fun v7 w7 ho hg hat => ?_)
        obtain ⟨a7, q7, hv7, -, -⟩ := owT_form ho
        generalize (fS u (L.take i) ++ [x]).length = n7 at hv7
        subst hv7
        have S7 := Lib.hid (below_grownT SE.out hg ow (Nat.le_trans GB.out (Nat.le_trans (Nat.le_succ g) GE.out)) (Nat.le_trans GB.out (Nat.le_succ g)))
        refine hK _ _ S7.out ?_
        clear hK K
        have HG7 := Lib.hid ((hg.block g GE.out (fun e => by have := owT_lt ow g e.symm; omega)).trans HGE.out)
        have HZ7 := Lib.hid ((hg.block w.heap.size (lt_of_some HZE.out) (fun e => by have h1 := owT_lt ow _ e.symm; have h2 := GB.out; omega)).trans HZE.out)
        obtain ⟨d0, d1, d2, d3, d4, d5, d6, d7, he, hd⟩ := set8 c0 c1 c2 c3 c4 c5 c6 c7 (.slice a7 n7 q7) (.int .i64 0) (.int .i64 0) u HU.out.2
        have os7 := (OSE.out.grow HU.out.2 HS.out ho hg hat hd (split_len _)).store (i := u) (.slice a7 n7 q7)
        rw [HST.out] at os7
        have OS8 := Lib.hid os7
        have hg8 := heap_setCell_same w7 g u _ _ (.slice a7 n7 q7) HG7.out
        rw [he] at hg8
        have HG8 := Lib.hid hg8
        have HZz := Lib.hid (show (w7.setCell ⟨g, u, none⟩ (.slice a7 n7 q7)).heap[w.heap.size]? = some (.cells #[.slice none 0 0, .slice none 0 0, .slice none 0 0, .slice none 0 0, .slice none 0 0, .slice none 0 0, .slice none 0 0, .slice none 0 0, .int .i64 0, .int .i64 0] 32 (0, 0)) by
          rw [heap_setCell_other _ _ _ _ (show w.heap.size ≠ g by have := NG.out; omega)]
          exact HZ7.out)
        have S8 := Lib.hid (S7.out.setCell (p := ⟨g, u, none⟩) GB.out (.slice a7 n7 q7))
        have hc7 := bxk HG7.out HU.out.2 HS.out
        have fz7 := frozen_of_row w7 g u _ _ HG7.out
        clear os7 hg8 he hd ho hg hat ow HG7 HZ7 OSE HGE HZE SE GE ITE
        refine held_one 9 rfl rfl (by kernel_rfl) fun K hK => ?_
        go_simp
        refine hK _ _ S7.out ?_
        clear hK K
        refine held_one 10 rfl rfl (by kernel_rfl) fun K hK => ?_
        go_simp
        refine hK _ _ S8.out ?_
        clear hK K hc7 fz7 S7
        have B8 := Lib.hid (B2.out.trans S8.out)
        clear S8
        generalize w7.setCell ⟨g, u, none⟩ (.slice a7 n7 q7) = w8 at *
        refine wpAnyH_done (by kernel_rfl) ?_ _
        unfold onlyN
        dsimp only
        go_wp2_with fail
        go_roundw
        case rel =>
          have h1 := HI.out
          exact ⟨i + 1, by omega, by rw [EW.out], HT1, d0, d1, d2, d3, d4, d5, d6, d7, HG8, OS8, HZz, B8⟩
        case measure =>
          have h1 := HI.out
          rw [EW.out]
          simp [intOf]
          omega
end Go.Proofs.Ytlooldnaoooehaa.Gf
