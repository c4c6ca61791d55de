/- What is proved here: From of the reference. -/
import Derived.Test.YtlooldnaoooehaaP11u
import Derived.Test.YtlooldnaoooehaaP11q
import Derived.Test.YtlooldnaoooehaaP11n
namespace Go.Proofs.Ytlooldnaoooehaa.Gf
open Go Go.Joins Go.ChangeShapes Go.WideShapes Go.ChangeAt Go.RowKit Go.Deep Go.Proofs.Ytlooldnaoooehaa.By Go.Proofs.Ytlooldnaoooehaa.Qt

theorem ms_own {w : World} {base : Nat} {c0 c1 c2 c3 c4 c5 c6 c7 : Value} {S : List Itm} {l g : Int} (h : OwS w base [c0, c1, c2, c3, c4, c5, c6, c7] (splitM S)) (hl : J64 l) (hg : J64 g) : Ms w [c0, c1, c2, c3, c4, c5, c6, c7] ⟨splitM S, l, g⟩ := ⟨split_len _, hl, hg, fun k hk => by
  obtain ⟨v, h1, h2⟩ := h.own k hk
  rw [split_get _ hk] at h2
  have e : ms ⟨splitM S, l, g⟩ k = fS k S := split_get _ hk
  rw [e]
  have h3 := owT_it h2
  obtain ⟨a, q, rfl, -, -⟩ := owT_form h2
  exact ⟨a, q, h1, h3⟩⟩
theorem ms_setRowR {Y : World} {p : Nat} {vs : List Value} {m : Mp} {cs : Array Value} (h : Ms Y vs m) (hz : Y.heap[p]? = some (.cells #[.slice none 0 0, .slice none 0 0, .slice none 0 0, .slice none 0 0, .slice none 0 0, .slice none 0 0, .slice none 0 0, .slice none 0 0, .int .i64 0, .int .i64 0] 25 (0, 0))) : Ms (Y.setRow p cs) vs m := ⟨h.1, h.2.1, h.2.2.1, fun k hk => by
  obtain ⟨a, c, h1, h2⟩ := h.2.2.2 k hk
  exact ⟨a, c, h1, it_keepM h2 hz zero_u64 fun b hb => setRow_other _ _ _ _ hb⟩⟩
theorem own_one {w : World} {base : Nat} {Ls : List (List Itm)} {c0 c1 c2 c3 c4 c5 c6 c7 : Value} (h : OwS w base [c0, c1, c2, c3, c4, c5, c6, c7] Ls) (l g : Int) : (#[c0, c1, c2, c3, c4, c5, c6, c7, .int .i64 l, .int .i64 g] : Array Value).all (·.oneCell') = true := by
  have hk : ∀ k v, k < 8 → [c0, c1, c2, c3, c4, c5, c6, c7][k]? = some v → v.oneCell' = true := fun k v hk hv => by
    obtain ⟨u, h1, h2⟩ := h.own k hk
    rw [hv] at h1
    cases h1
    obtain ⟨a, q, rfl, -, -⟩ := owT_form h2
    rfl
  have e0 := hk 0 c0 (by decide) rfl
  have e1 := hk 1 c1 (by decide) rfl
  have e2 := hk 2 c2 (by decide) rfl
  have e3 := hk 3 c3 (by decide) rfl
  have e4 := hk 4 c4 (by decide) rfl
  have e5 := hk 5 c5 (by decide) rfl
  have e6 := hk 6 c6 (by decide) rfl
  have e7 := hk 7 c7 (by decide) rfl
  simp [e0, e1, e2, e3, e4, e5, e6, e7, show (Value.int .i64 l).oneCell' = true from rfl, show (Value.int .i64 g).oneCell' = true from rfl]
set_option maxRecDepth 100000 in
set_option maxHeartbeats 25600000 in
theorem rfrom_any (v : Value) (L : List Itm) (gb : Int) (w : World) (hl : It w v L) (hlen : L.length ≤ 1000) (hgb : J64 gb) : Calls Try.prog 11 #[v, .int .i64 gb] w (MO w (fromL L gb)) := by
  have SL := Lib.hid hl
  have ON8 := Lib.hid (ms_one (mp0_ms w) 0 0)
  obtain ⟨a, c, rfl, -, hcm⟩ := it_form hl
  obtain ⟨n, hn⟩ : ∃ z, z = L.length := ⟨_, rfl⟩
  rw [← hn] at SL hlen ⊢
  have HN := Lib.hid (And.intro hn hlen)
  have HJ := Lib.hid hgb
  have BX := Lib.hid (bel_al w (.cells #[.slice none 0 0, .slice none 0 0, .slice none 0 0, .slice none 0 0, .slice none 0 0, .slice none 0 0, .slice none 0 0, .slice none 0 0, .int .i64 0, .int .i64 0] 25))
  have HZ := Lib.hid (heap_alloc_new w (.cells #[.slice none 0 0, .slice none 0 0, .slice none 0 0, .slice none 0 0, .slice none 0 0, .slice none 0 0, .slice none 0 0, .slice none 0 0, .int .i64 0, .int .i64 0] 25))
  clear hl hn hlen hcm hgb
  go_enter Try.func11, Try.ntmps11
  go_upto_region 1 with fail
  generalize w.alloc (.cells #[.slice none 0 0, .slice none 0 0, .slice none 0 0, .slice none 0 0, .slice none 0 0, .slice none 0 0, .slice none 0 0, .slice none 0 0, .int .i64 0, .int .i64 0] 25) = W1 at *
  go_wp2_with fail
  go_loopw [5] (fun t wr => ∃ i : Nat, i ≤ n ∧ t = .int .i64 (i : Int) ∧ Hid (∀ x ∈ L.take i, okI x) ∧ Hid (wr.heap[w.heap.size]? = some (.cells #[.slice none 0 0, .slice none 0 0, .slice none 0 0, .slice none 0 0, .slice none 0 0, .slice none 0 0, .slice none 0 0, .slice none 0 0, .int .i64 0, .int .i64 0] 25 (0, 0))) ∧ Hid (Below w.heap.size w wr)) (fun t _ => n - (intOf t).toNat)
  case atStart => exact ⟨0, by omega, rfl, Lib.hid (by simp), HZ, BX⟩
  case round =>
    obtain ⟨i, hi, rfl, HT, HZ1, BR⟩ := hrel
    rename World => wl
    clear HZ BX
    by_cases hlt : i < n
    case neg =>
      obtain rfl : i = n := by omega
      have hall : L.take i = L := List.take_of_length_le (by have := HN.out.1; omega)
      rw [hall] at HT
      clear hlt hi hall
      have l1 : decide ((i : Int) < (i : Int)) = false := decide_eq_false (by omega)
      have l2 : decide (i < i) = false := decide_eq_false (by omega)
      go_upto_region 6 with fail
      clear l1 l2
      by_cases hg0 : gb < 0
      case pos =>
        have HE := Lib.hid (show fromL L gb = mp0 by unfold fromL; rw [if_neg (fun h => by have := h.2.1; omega)])
        have l1 : decide (gb < 0) = true := decide_eq_true hg0
        clear hg0
        go_wp2_with ((with_reducible refine storeR w.heap.size _ #[.slice none 0 0, .slice none 0 0, .slice none 0 0, .slice none 0 0, .slice none 0 0, .slice none 0 0, .slice none 0 0, .slice none 0 0, .int .i64 0, .int .i64 0] ?_ ?_ HZ1.out rfl rfl ON8.out ?_); exact rfl; exact rfl)
        refine ro_end (fn := Try.f11) rfl w.heap.size rfl (setRow_heap _ _ _ _ _ _ HZ1.out) ?_
        rw [HE.out]
        exact ⟨⟨_, rfl, _, _, _, _, _, _, _, _, rfl, mp0_ms _⟩, below_setRowM BR.out (Nat.le_refl _) _⟩
      have l1 : decide (gb < 0) = false := decide_eq_false hg0
      by_cases hg1 : 1099511627776 < gb
      case pos =>
        have HE := Lib.hid (show fromL L gb = mp0 by unfold fromL G40; rw [if_neg (fun h => by have := h.2.2; omega)])
        have l2 : decide (1099511627776 < gb) = true := decide_eq_true hg1
        clear hg0 hg1
        go_wp2_with ((with_reducible refine storeR w.heap.size _ #[.slice none 0 0, .slice none 0 0, .slice none 0 0, .slice none 0 0, .slice none 0 0, .slice none 0 0, .slice none 0 0, .slice none 0 0, .int .i64 0, .int .i64 0] ?_ ?_ HZ1.out rfl rfl ON8.out ?_); exact rfl; exact rfl)
        refine ro_end (fn := Try.f11) rfl w.heap.size rfl (setRow_heap _ _ _ _ _ _ HZ1.out) ?_
        rw [HE.out]
        exact ⟨⟨_, rfl, _, _, _, _, _, _, _, _, rfl, mp0_ms _⟩, below_setRowM BR.out (Nat.le_refl _) _⟩
      have l2 : decide (1099511627776 < gb) = false := decide_eq_false hg1
      have HE := Lib.hid (show fromL L gb = ⟨splitM (sortL L), byT (sortL L), gb⟩ by unfold fromL G40; rw [if_pos ⟨HT.out, by omega, by omega⟩])
      clear hg0 hg1
      go_upto_region 8 with fail
      clear l1 l2
      have PS := Lib.hid (rsorted_any _ L wl (it_below SL.out BR.out) (by have := HN.out; omega))
      have hlS := length_sortL L
      have hbS := byT_bd (sortL L)
      have HLS := Lib.hid (show (sortL L).length ≤ 1000 by have := HN.out; omega)
      have HBS := Lib.hid (show J64 (byT (sortL L)) by have := HLS.out; unfold J64; omega)
      clear hlS hbS
      generalize sortL L = S at *
      go_wp2_with fail
      refine PS.out.mono ?_
      rintro e w3 ⟨⟨v3, rfl, ho3⟩, hb⟩
      have IS3 := Lib.hid (owT_it ho3)
      obtain ⟨aS, cS, rfl, -, -⟩ := owT_form ho3
      have HZ3 := Lib.hid ((hb.block _ (lt_of_some HZ1.out)).trans HZ1.out)
      have B3 := Lib.hid (BR.out.trans (hb.mono BR.out.size))
      have PB := Lib.hid (rbytes11_any _ S w3 IS3.out (Nat.le_trans HLS.out (by decide)))
      obtain ⟨nS, hnS⟩ : ∃ z, z = S.length := ⟨_, rfl⟩
      rw [← hnS] at IS3 PB HLS ⊢
      have HNS := Lib.hid hnS
      clear ho3 hb PS hnS HZ1 BR
      go_wp2_with fail
      refine PB.out.mono ?_
      rintro e w3' ⟨rfl, rfl⟩
      have hz4 := heap_alloc_new w3 (.cells #[.slice none 0 0, .slice none 0 0, .slice none 0 0, .slice none 0 0, .slice none 0 0, .slice none 0 0, .slice none 0 0, .slice none 0 0, .int .i64 0, .int .i64 0] 25)
      have ON4 := Lib.hid (ms_one (mp0_ms w3) (byT S) gb)
      go_upto_region 10 with ((with_reducible refine storeR w3.heap.size _ #[.slice none 0 0, .slice none 0 0, .slice none 0 0, .slice none 0 0, .slice none 0 0, .slice none 0 0, .slice none 0 0, .slice none 0 0, .int .i64 (byT S), .int .i64 gb] ?_ ?_ hz4 rfl rfl ON4.out ?_); exact rfl; exact rfl)
      rw [World.setRow_alloc_new]
      have q4 := bel_al w3 (.cells #[.slice none 0 0, .slice none 0 0, .slice none 0 0, .slice none 0 0, .slice none 0 0, .slice none 0 0, .slice none 0 0, .slice none 0 0, .int .i64 (byT S), .int .i64 gb] 25)
      have HG4 := Lib.hid (heap_alloc_new w3 (.cells #[.slice none 0 0, .slice none 0 0, .slice none 0 0, .slice none 0 0, .slice none 0 0, .slice none 0 0, .slice none 0 0, .slice none 0 0, .int .i64 (byT S), .int .i64 gb] 25))
      have B4 := Lib.hid q4
      clear hz4 q4 ON4 PB
      generalize w3.alloc (.cells #[.slice none 0 0, .slice none 0 0, .slice none 0 0, .slice none 0 0, .slice none 0 0, .slice none 0 0, .slice none 0 0, .slice none 0 0, .int .i64 (byT S), .int .i64 gb] 25) = w4 at *
      go_wp2_with fail
      go_loopw [7] (fun t wr => ∃ i : Nat, i ≤ nS ∧ t = .int .i64 (i : Int) ∧ ∃ c0 c1 c2 c3 c4 c5 c6 c7 : Value, Hid (wr.heap[w3.heap.size]? = some (.cells #[c0, c1, c2, c3, c4, c5, c6, c7, .int .i64 (byT S), .int .i64 gb] 25 (0, 0))) ∧ Hid (OwS wr (w3.heap.size + 1) [c0, c1, c2, c3, c4, c5, c6, c7] (splitM (S.take i))) ∧ Hid (Below w3.heap.size w3 wr)) (fun t _ => nS - (intOf t).toNat)
      case atStart => exact ⟨0, by omega, rfl, _, _, _, _, _, _, _, _, HG4, Lib.hid (by rw [List.take_zero]; exact ows_nil _ _), B4⟩
      case round =>
        obtain ⟨i, hi, rfl, c0, c1, c2, c3, c4, c5, c6, c7, HG, OS, BR⟩ := hrel
        rename World => wl
        clear HG4 B4
        by_cases hlt : i < nS
        case neg =>
          have l1 : decide ((i : Int) < (nS : Int)) = false := decide_eq_false (by omega)
          have l2 : decide (i < nS) = false := decide_eq_false hlt
          have OSN := Lib.hid (show OwS wl (w3.heap.size + 1) [c0, c1, c2, c3, c4, c5, c6, c7] (splitM S) by
            have h1 := OS.out
            rwa [List.take_of_length_le (by have := HNS.out; omega)] at h1)
          have ON := Lib.hid (own_one OSN.out (byT S) gb)
          have MSN := Lib.hid (ms_own (l := byT S) (g := gb) OSN.out HBS.out HJ.out)
          have HZ5 := Lib.hid ((BR.out.block _ (lt_of_some HZ3.out)).trans HZ3.out)
          have BZ := Lib.hid (B3.out.trans (BR.out.mono B3.out.size))
          obtain ⟨x0, x1, x2, x3, x4, x5, x6, x7, x8, x9⟩ := bx10 HG.out
          clear hlt hi OS OSN
          go_wp2_with ((with_reducible refine storeR w.heap.size _ #[c0, c1, c2, c3, c4, c5, c6, c7, .int .i64 (byT S), .int .i64 gb] ?_ ?_ HZ5.out rfl rfl ON.out ?_); exact rfl; exact rfl)
          refine ro_end (fn := Try.f11) rfl w.heap.size rfl (setRow_heap _ _ _ _ _ _ HZ5.out) ?_
          rw [HE.out]
          exact ⟨⟨_, rfl, c0, c1, c2, c3, c4, c5, c6, c7, rfl, ms_setRowR MSN.out HZ5.out⟩, below_setRowM BZ.out (Nat.le_refl _) _⟩
        have l1 : decide ((i : Int) < (nS : Int)) = true := decide_eq_true (by omega)
        have l2 : decide (i < nS) = true := decide_eq_true hlt
        have HI := Lib.hid hlt
        have EW := Lib.hid (show wrap64 ((i : Int) + 1) = ((i + 1 : Nat) : Int) by have := HLS.out; unfold wrap64; omega)
        obtain ⟨b, off, cap, hv, -, -, hc⟩ := it_cells IS3.out (by have := HNS.out; omega)
        obtain ⟨rfl, -⟩ : aS = some ⟨b, off, none⟩ ∧ (nS = S.length ∧ cS = cap) := by simpa using hv
        have hC := hc i (by have := HNS.out; omega)
        obtain ⟨x, hx⟩ : ∃ z, z = S.getD i z0 := ⟨_, rfl⟩
        rw [← hx] at hC
        have HX := Lib.hid hx
        have hxo : ItOk x := by rw [hx]; exact IS3.out.1 _ (getT_mem (by have := HNS.out; omega))
        have HXO := Lib.hid hxo
        have CX := Lib.hid hC
        have ST := Lib.hid (fun W => rstripe_any x.key W)
        obtain ⟨u, hu⟩ : ∃ u, u = sp x.key := ⟨_, rfl⟩
        rw [← hu] at ST
        have HU := Lib.hid (And.intro hu (show u < 8 by rw [hu]; exact sp_lt _))
        have htk : S.take (i + 1) = S.take i ++ [x] := by
          rw [List.take_succ_eq_append_getElem (show i < S.length by have := HI.out; have := HNS.out; omega), HX.out]
          congr 2
          simp [List.getD, show i < S.length by have := HI.out; have := HNS.out; omega]
        have HST := Lib.hid (show (splitM (S.take i)).set u (fS u (S.take i) ++ [x]) = splitM (S.take (i + 1)) by rw [htk, split_snoc, ← hu])
        have HLN := Lib.hid (show (fS u (S.take i)).length + 1 ≤ 100000000 by
          have h1 : (fS u (S.take i)).length ≤ (S.take i).length := List.length_filter_le _ _
          rw [List.length_take] at h1
          have := HNS.out
          have := HLS.out
          omega)
        obtain ⟨k0, k1, k2, k3⟩ := CX.out.below BR.out
        have p0 : (0 : Int) ≤ (i : Int) := by omega
        have p1 : (i : Int) < (nS : Int) := by omega
        clear hv hc hC hx hlt hi hxo htk hu
        go_upto_region 13 with fail
        go_wp2_with fail
        refine (ST.out wl).mono ?_
        rintro e w2' ⟨rfl, rfl⟩
        clear ST
        go_upto_region 14 with fail
        clear k0 k1 k2 k3 l1 l2
        obtain ⟨vu, hsel, hown⟩ := OS.out.own u HU.out.2
        have HS := Lib.hid hsel
        have q0 : (0 : Int) ≤ (u : Int) := by omega
        have q1 : (u : Int) < 8 := by have := HU.out.2; omega
        clear hsel hown
        refine wp_onlyN ?_
        refine wp_region_headsS (fun W' => Below w3.heap.size w3 W') [0, 1, 2, 3, 5, 6, 7, 8, 11] 5 (by kernel_rfl) (fun _ _ _ _ _ h => h.elim) (by kernel_rfl) (by rfl) (by rfl) BR.out.drew ?_
        simp only [pickOps, List.filterMap_cons, List.filterMap_nil, List.getElem?_toArray, List.getElem?_cons_zero, List.getElem?_cons_succ]
        refine wpHeads_step (fun K hK => ?_)
        go_simp
        refine ⟨_, fun _ _ => rfl, hK _ ?_⟩
        clear hK K
        refine wpHeads_step (fun K hK => ?_)
        go_simp
        refine ⟨_, fun _ _ => rfl, hK _ ?_⟩
        clear hK K
        refine wpHeads_step (fun K hK => ?_)
        go_simp
        refine ⟨_, fun _ _ => rfl, hK _ ?_⟩
        clear hK K
        refine wpHeads_step (fun K hK => ?_)
        go_simp
        refine ⟨_, fun _ _ => rfl, hK _ ?_⟩
        clear hK K
        refine wpHeads_step (fun K hK => ?_)
        go_simp
        refine ⟨_, fun _ _ => rfl, hK _ ?_⟩
        clear hK K
        refine wpHeads_step (fun K hK => ?_)
        go_simp
        refine ⟨_, fun _ _ => rfl, hK _ ?_⟩
        clear hK K
        refine wpHeads_step (fun K hK => ?_)
        go_simp
        refine ⟨_, fun _ _ => rfl, hK _ ?_⟩
        clear hK K
        refine wpHeads_step (fun K hK => ?_)
        go_simp
        refine ⟨.agg #[.int .u64 (x.key : Int), .int .u32 (x.ck : Int), .int .i64 x.off, .int .i64 x.sz], fun w' hw' => by
          obtain ⟨k0, k1, k2, k3⟩ := CX.out.below hw'
          go_simp, hK _ ?_⟩
        clear hK K
        refine wpHeads_step (fun K hK => ?_)
        go_simp
        refine ⟨_, fun _ _ => rfl, hK _ ?_⟩
        clear hK K
        refine wpHeads_nil ?_
        have S0 := Lib.hid (Below.refl wl.heap.size wl).drew
        have SD := Lib.hid BR.out.drew
        have HGD := Lib.hid ((S0.out.block _ (lt_of_some HG.out)).trans HG.out)
        have OSD := Lib.hid (OS.out.below S0.out)
        have GD := Lib.hid (show w3.heap.size + 1 ≤ wl.drew.heap.size from Nat.le_trans (lt_of_some HG.out) S0.out.size)
        clear S0 HG OS BR
        generalize wl.drew = wD at *
        refine held_two 4 9 rfl rfl rfl rfl (by kernel_rfl) (fun K hK => ?_) (fun K hK => ?_)
        · have hc := bxk HGD.out HU.out.2 HS.out
          go_simp
          try simp only [hc]
          refine hK _ _ SD.out ?_
          clear hK K hc
          refine held_one 9 rfl rfl (by kernel_rfl) fun K hK => ?_
          go_simp
          have hb := bel_al wD (.cells #[.int .u64 (x.key : Int), .int .u32 (x.ck : Int), .int .i64 x.off, .int .i64 x.sz] 37)
          refine hK _ _ (SD.out.trans (hb.mono SD.out.size)) ?_
          clear hK K
          have SE := Lib.hid (SD.out.trans (hb.mono SD.out.size))
          have HGE := Lib.hid ((hb.block _ (lt_of_some HGD.out)).trans HGD.out)
          have OSE := Lib.hid (OSD.out.below hb)
          have GE := Lib.hid (show w3.heap.size + 1 ≤ (wD.alloc (.cells #[.int .u64 (x.key : Int), .int .u32 (x.ck : Int), .int .i64 x.off, .int .i64 x.sz] 37)).heap.size from Nat.le_trans GD.out hb.size)
          have ITE := Lib.hid (it_one HXO.out (heap_alloc_new wD (.cells #[.int .u64 (x.key : Int), .int .u32 (x.ck : Int), .int .i64 x.off, .int .i64 x.sz] 37)))
          clear hb SD HGD OSD GD
          generalize wD.alloc (.cells #[.int .u64 (x.key : Int), .int .u32 (x.ck : Int), .int .i64 x.off, .int .i64 x.sz] 37) = wE at *
          generalize wD.heap.size = ge at *
          refine held_one 10 rfl rfl (by kernel_rfl) fun K hK => ?_
          obtain ⟨v2, hs2, ow⟩ := OSE.out.own u HU.out.2
          obtain rfl : vu = v2 := Option.some.inj (HS.out.symm.trans hs2)
          clear hs2
          rw [split_get _ HU.out.2] at ow
          refine wp_app_it1 (base := w3.heap.size + 1) (v := vu) (L := fS u (S.take i)) (y := x) rfl rfl ow ITE.out HLN.out GE.out (fun v7 w7 ho hg hat => ?_)
          obtain ⟨a7, q7, hv7, -, -⟩ := owT_form ho
          generalize (fS u (S.take i) ++ [x]).length = n7 at hv7
          subst hv7
          have S7 := Lib.hid (below_grownT SE.out hg ow (Nat.le_trans (Nat.le_succ w3.heap.size) GE.out) (Nat.le_succ w3.heap.size))
          refine hK _ _ S7.out ?_
          clear hK K
          have HG7 := Lib.hid ((hg.block w3.heap.size GE.out (fun e => by have := owT_lt ow w3.heap.size e.symm; omega)).trans HGE.out)
          obtain ⟨d0, d1, d2, d3, d4, d5, d6, d7, he, hd⟩ := set8 c0 c1 c2 c3 c4 c5 c6 c7 (.slice a7 n7 q7) (.int .i64 (byT S)) (.int .i64 gb) u HU.out.2
          have os7 := (OSE.out.grow HU.out.2 HS.out ho hg hat hd (split_len _)).store (i := u) (.slice a7 n7 q7)
          rw [HST.out] at os7
          have OS8 := Lib.hid os7
          have hg8 := heap_setCell_same w7 w3.heap.size u _ _ (.slice a7 n7 q7) HG7.out
          rw [he] at hg8
          have HG8 := Lib.hid hg8
          have S8 := Lib.hid (S7.out.setCell (p := ⟨w3.heap.size, u, none⟩) (Nat.le_refl _) (.slice a7 n7 q7))
          have hc7 := bxk HG7.out HU.out.2 HS.out
          have fz7 := frozen_of_row w7 w3.heap.size u _ _ HG7.out
          clear os7 hg8 he hd ho hg hat ow HG7 OSE HGE SE GE ITE
          refine held_one 12 rfl rfl (by kernel_rfl) fun K hK => ?_
          go_simp
          refine hK _ _ S7.out ?_
          clear hK K
          refine held_one 13 rfl rfl (by kernel_rfl) fun K hK => ?_
          go_simp
          refine hK _ _ S8.out ?_
          clear hK K hc7 fz7 S7
          generalize w7.setCell ⟨w3.heap.size, u, none⟩ (.slice a7 n7 q7) = w8 at *
          refine wpAnyH_done (by kernel_rfl) ?_ _
          unfold onlyN
          dsimp only
          go_wp2_with fail
          go_roundw
          case rel =>
            have h1 := HI.out
            exact ⟨i + 1, by omega, by rw [EW.out], d0, d1, d2, d3, d4, d5, d6, d7, HG8, OS8, S8⟩
          case measure =>
            have h1 := HI.out
            rw [EW.out]
            simp [intOf]
            omega
        · go_simp
          have hb := bel_al wD (.cells #[.int .u64 (x.key : Int), .int .u32 (x.ck : Int), .int .i64 x.off, .int .i64 x.sz] 37)
          refine hK _ _ (SD.out.trans (hb.mono SD.out.size)) ?_
          clear hK K
          have SE := Lib.hid (SD.out.trans (hb.mono SD.out.size))
          have HGE := Lib.hid ((hb.block _ (lt_of_some HGD.out)).trans HGD.out)
          have OSE := Lib.hid (OSD.out.below hb)
          have GE := Lib.hid (show w3.heap.size + 1 ≤ (wD.alloc (.cells #[.int .u64 (x.key : Int), .int .u32 (x.ck : Int), .int .i64 x.off, .int .i64 x.sz] 37)).heap.size from Nat.le_trans GD.out hb.size)
          have ITE := Lib.hid (it_one HXO.out (heap_alloc_new wD (.cells #[.int .u64 (x.key : Int), .int .u32 (x.ck : Int), .int .i64 x.off, .int .i64 x.sz] 37)))
          clear hb SD HGD OSD GD
          generalize wD.alloc (.cells #[.int .u64 (x.key : Int), .int .u32 (x.ck : Int), .int .i64 x.off, .int .i64 x.sz] 37) = wE at *
          generalize wD.heap.size = ge at *
          refine held_one 4 rfl rfl (by kernel_rfl) fun K hK => ?_
          have hc := bxk HGE.out HU.out.2 HS.out
          go_simp
          try simp only [hc]
          refine hK _ _ SE.out ?_
          clear hK K hc
          refine held_one 10 rfl rfl (by kernel_rfl) fun K hK => ?_
          obtain ⟨v2, hs2, ow⟩ := OSE.out.own u HU.out.2
          obtain rfl : vu = v2 := Option.some.inj (HS.out.symm.trans hs2)
          clear hs2
          rw [split_get _ HU.out.2] at ow
          refine wp_app_it1 (base := w3.heap.size + 1) (v := vu) (L := fS u (S.take i)) (y := x) rfl rfl ow ITE.out HLN.out GE.out (fun v7 w7 ho hg hat => ?_)
          obtain ⟨a7, q7, hv7, -, -⟩ := owT_form ho
          generalize (fS u (S.take i) ++ [x]).length = n7 at hv7
          subst hv7
          have S7 := Lib.hid (below_grownT SE.out hg ow (Nat.le_trans (Nat.le_succ w3.heap.size) GE.out) (Nat.le_succ w3.heap.size))
          refine hK _ _ S7.out ?_
          clear hK K
          have HG7 := Lib.hid ((hg.block w3.heap.size GE.out (fun e => by have := owT_lt ow w3.heap.size e.symm; omega)).trans HGE.out)
          obtain ⟨d0, d1, d2, d3, d4, d5, d6, d7, he, hd⟩ := set8 c0 c1 c2 c3 c4 c5 c6 c7 (.slice a7 n7 q7) (.int .i64 (byT S)) (.int .i64 gb) u HU.out.2
          have os7 := (OSE.out.grow HU.out.2 HS.out ho hg hat hd (split_len _)).store (i := u) (.slice a7 n7 q7)
          rw [HST.out] at os7
          have OS8 := Lib.hid os7
          have hg8 := heap_setCell_same w7 w3.heap.size u _ _ (.slice a7 n7 q7) HG7.out
          rw [he] at hg8
          have HG8 := Lib.hid hg8
          have S8 := Lib.hid (S7.out.setCell (p := ⟨w3.heap.size, u, none⟩) (Nat.le_refl _) (.slice a7 n7 q7))
          have hc7 := bxk HG7.out HU.out.2 HS.out
          have fz7 := frozen_of_row w7 w3.heap.size u _ _ HG7.out
          clear os7 hg8 he hd ho hg hat ow HG7 OSE HGE SE GE ITE
          refine held_one 12 rfl rfl (by kernel_rfl) fun K hK => ?_
          go_simp
          refine hK _ _ S7.out ?_
          clear hK K
          refine held_one 13 rfl rfl (by kernel_rfl) fun K hK => ?_
          go_simp
          refine hK _ _ S8.out ?_
          clear hK K hc7 fz7 S7
          generalize w7.setCell ⟨w3.heap.size, u, none⟩ (.slice a7 n7 q7) = w8 at *
          refine wpAnyH_done (by kernel_rfl) ?_ _
          unfold onlyN
          dsimp only
          go_wp2_with fail
          go_roundw
          case rel =>
            have h1 := HI.out
            exact ⟨i + 1, by omega, by rw [EW.out], d0, d1, d2, d3, d4, d5, d6, d7, HG8, OS8, S8⟩
          case measure =>
            have h1 := HI.out
            rw [EW.out]
            simp [intOf]
            omega
    have l1 : decide ((i : Int) < (n : Int)) = true := decide_eq_true (by omega)
    have l2 : decide (i < n) = true := decide_eq_true hlt
    have HI := Lib.hid hlt
    have EW := Lib.hid (show wrap64 ((i : Int) + 1) = ((i + 1 : Nat) : Int) by have := HN.out; unfold wrap64; omega)
    obtain ⟨b, off, cap, hv, -, -, hc⟩ := it_cells (it_below SL.out BR.out) (by have := HN.out.1; omega)
    obtain ⟨rfl, -⟩ : a = some ⟨b, off, none⟩ ∧ (n = L.length ∧ c = cap) := by simpa using hv
    have CC := hc i (by have := HN.out.1; omega)
    obtain ⟨x, hx⟩ : ∃ z, z = L.getD i z0 := ⟨_, rfl⟩
    rw [← hx] at CC
    have HX := Lib.hid hx
    obtain ⟨k0, k1, k2, k3⟩ := CC
    have p0 : (0 : Int) ≤ (i : Int) := by omega
    have p1 : (i : Int) < (n : Int) := by omega
    have PI := Lib.hid (rvitem_any x wl)
    unfold TV at PI
    by_cases hok : okI x
    case neg =>
      have HE := Lib.hid (show fromL L gb = mp0 by
        unfold fromL
        rw [if_neg (fun h => hok (h.1 x (by rw [HX.out]; exact getT_mem (by have := HI.out; have := HN.out.1; omega))))])
      rw [decide_eq_false hok] at PI
      clear hv hc hx hlt hi hok
      go_wp2_with fail
      clear k0 k1 k2 k3 p0 p1 l1 l2
      refine PI.out.mono ?_
      rintro e w2 ⟨rfl, hb⟩
      have HZ2 := Lib.hid ((hb.block _ (lt_of_some HZ1.out)).trans HZ1.out)
      have B2 := Lib.hid (BR.out.trans (hb.mono BR.out.size))
      clear hb
      go_wp2_with ((with_reducible refine storeR w.heap.size _ #[.slice none 0 0, .slice none 0 0, .slice none 0 0, .slice none 0 0, .slice none 0 0, .slice none 0 0, .slice none 0 0, .slice none 0 0, .int .i64 0, .int .i64 0] ?_ ?_ HZ2.out rfl rfl ON8.out ?_); exact rfl; exact rfl)
      refine ro_end (fn := Try.f11) rfl w.heap.size rfl (setRow_heap _ _ _ _ _ _ HZ2.out) ?_
      rw [HE.out]
      exact ⟨⟨_, rfl, _, _, _, _, _, _, _, _, rfl, mp0_ms _⟩, below_setRowM B2.out (Nat.le_refl _) _⟩
    have HT1 := Lib.hid (show ∀ y ∈ L.take (i + 1), okI y by
      rw [List.take_succ_eq_append_getElem (show i < L.length by have := HI.out; have := HN.out.1; omega)]
      intro y hy
      rcases List.mem_append.1 hy with h | h
      · exact HT.out y h
      · rw [List.mem_singleton.1 h]
        have h2 : x = L[i]'(by have := HI.out; have := HN.out.1; omega) := by
          rw [hx]; simp [List.getD, show i < L.length by have := HI.out; have := HN.out.1; omega]
        rw [← h2]; exact hok)
    rw [decide_eq_true hok] at PI
    clear hv hc hx hlt hi hok HT
    go_wp2_with fail
    clear k0 k1 k2 k3 p0 p1 l1 l2
    refine PI.out.mono ?_
    rintro e w2 ⟨rfl, hb⟩
    have HZ2 := Lib.hid ((hb.block _ (lt_of_some HZ1.out)).trans HZ1.out)
    have B2 := Lib.hid (BR.out.trans (hb.mono BR.out.size))
    clear hb PI
    go_wp2_with fail
    go_roundw
    case rel =>
      have h1 := HI.out
      exact ⟨i + 1, by omega, by rw [EW.out], HT1, HZ2, B2⟩
    case measure =>
      have h1 := HI.out
      rw [EW.out]
      simp [intOf]
      omega
end Go.Proofs.Ytlooldnaoooehaa.Gf
