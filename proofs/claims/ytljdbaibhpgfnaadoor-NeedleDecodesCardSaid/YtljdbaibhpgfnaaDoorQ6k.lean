/- What is proved here: the walk of the law NeedleUnique, over what it asks of the program. No condition. -/
import Derived.Test.YtljdbaibhpgfnaaDoorQ6g
namespace Go.Proofs.YtljdbaibhpgfnaaDoor.Gf
open Go Go.Joins Go.ChangeShapes Go.WideShapes Go.ChangeAt Go.RowKit Go.Deep Go.Proofs.YtljdbaibhpgfnaaDoor.By Go.Proofs.YtljdbaibhpgfnaaDoor.Crc Go.Proofs.YtljdbaibhpgfnaaDoor.Qt

theorem own_pos {w : World} {base : Nat} {v : Value} {l : List Nat} (h : Own w base v l) (hl : 0 < l.length) : ∃ g c, v = .slice (some ⟨g, 0, none⟩) l.length c ∧ base ≤ g := by
  obtain ⟨_, _, ⟨rfl, h0⟩ | ⟨g, cap, _, rfl, hg, _⟩⟩ := h
  · omega
  · exact ⟨g, cap, rfl, hg⟩
theorem recL_set_lt {l : List Nat} (h : ∀ b ∈ l, b < 256) {p c : Nat} (hc : c < 256) : ∀ b ∈ l.set p c, b < 256 := fun b hb => by
  rcases List.mem_or_eq_of_mem_set hb with h1 | h1
  · exact h b h1
  · omega
set_option maxRecDepth 100000 in
set_option maxHeartbeats 6400000 in
theorem unique_walk {Ok : World → Prop} (P : PC6 Ok) (u : Value) (RL : List Nat) (v : Value) (x : Ndl) (n0 : Int) (_hn : I64b n0) (cb : Nat) (hcb : cb < 256) (w : World) (hw : Ok w) (hu : Sl w u RL) (h : Nd w v x) : Calls Tryd.prog 7 #[u, v, .int .i64 n0, .int .u8 (cb : Int)] w fun e w' => e = .returned (.bool true) ∧ Below w.heap.size w w' := by
  have PD := Lib.hid P.dec
  have PE := Lib.hid P.enc
  have ST := Lib.hid (fun (W W' : World) => P.st (w := W) (w' := W'))
  have AW := Lib.hid (awake6_any P)
  clear P
  have HN := Lib.hid (fun W (hB : Below w.heap.size w W) => nd_below h hB)
  obtain ⟨s, rfl, -, -, h3⟩ := h
  obtain ⟨sa, sc, rfl, -, -⟩ := sl_form h3
  clear h3
  generalize x.data.length = xn at *
  have HCB := Lib.hid hcb
  have B0 := Lib.hid ((Below.refl w.heap.size w).alloc (Nat.le_refl _) (.cells #[.int .u64 (x.key : Int), .int .u32 (x.cookie : Int), .bool x.del, .slice sa xn sc] 26))
  clear hcb
  by_cases hbig : 6000 < RL.length
  · obtain ⟨ub, uo, uc, hv, hc1, hc2, -⟩ := sl_cells hu (by omega)
    subst hv
    have HRL := Lib.hid (fun W (hB : Below w.heap.size w W) => sl_take (n := 6000) (sl_below hu hB) (by omega))
    obtain ⟨un, hun⟩ : ∃ n, n = RL.length := ⟨_, rfl⟩
    rw [← hun] at hbig hc1 ⊢
    have g6 : decide ((6000 : Int) < (un : Int)) = true := decide_eq_true (by omega)
    have p6 : (6000 : Int) ≤ (uc : Int) := by omega
    clear hu hun hbig hc1 hc2
    go_enter Tryd.func7, Tryd.ntmps7
    go_wp2_with fail
    refine (cut6_any _ x _ (HN.out _ B0.out)).mono ?_
    rintro e w1 ⟨⟨v1, rfl, hc⟩, hb1⟩
    have B1 := Lib.hid (bt B0.out hb1)
    clear hb1 B0
    go_wp2_with fail
    refine (PE.out v1 (cutN x) w1 (ST.out _ _ hw B1.out) hc).mono ?_
    have HO := Lib.hid (nd_ok hc)
    clear hc HN
    generalize cutN x = X at *
    rintro e w2 ⟨⟨s2, rfl, hs⟩, hb2⟩
    have B2 := Lib.hid (bt B1.out hb2)
    clear hb2 B1
    by_cases hE : encE X = 0
    · rw [show encL X = recL X by unfold encL; rw [if_pos hE]] at hs
      rw [hE]
      have hge := szR_ge X.data.length
      obtain ⟨R, hR⟩ : ∃ R, R = szR X.data.length := ⟨_, rfl⟩
      have hlen : (recL X).length = R := by rw [recL_length, hR]
      have hle : R ≤ 4128 := by
        have h1 := (enc_ok hE).1
        have h2 := szR_lt X.data.length
        omega
      rw [← hR] at hge
      obtain ⟨b, o, c, hv, hc1, hc2, -⟩ := sl_cells hs (by omega)
      rw [hlen] at hv hc1
      subst hv
      obtain ⟨t, p, t1, t2, t3, t4, t5⟩ : ∃ (t : Int) (p : Nat), n0.tmod (R : Int) = t ∧ -(R : Int) < t ∧ t < (R : Int) ∧ (t + (R : Int)).tmod (R : Int) = (p : Int) ∧ p < R := ⟨_, _, rfl, (rmd_eq n0 (R := R) (by omega)).2.1, (rmd_eq n0 (R := R) (by omega)).2.2, (rmd_eq n0 (R := R) (by omega)).1, rmd_lt n0 (by omega)⟩
      have g1 : ((R : Int) == 0) = false := beq_false_of_ne (by omega)
      have g2 : ((R : Int) = 0) = False := eq_false (by omega)
      have g3 : decide ((0 : Int) < (R : Int)) = true := decide_eq_true (by omega)
      have p1 : (p : Int) < (R : Int) := by omega
      have p0 : (0 : Int) ≤ (p : Int) := by omega
      have o2 : wrap64 (t + (R : Int)) = t + (R : Int) := by unfold wrap64; omega
      have HS := Lib.hid hs
      have HLE := Lib.hid (And.intro hlen (And.intro hle t5))
      have HP : Hid (0 < (recL X).length) := by show 0 < _; omega
      have OE := Lib.hid (own_empty w2 (Nat.le_refl w2.heap.size))
      have BE := Lib.hid ((Below.refl w2.heap.size w2).alloc (Nat.le_refl _) (.cells #[] 5))
      clear hs hE hR hge hle hlen hc1 hc2 t2 t3
      go_wp2_with (at_builtin; refine app_sl (dst := some 38) ?_ ?_ OE.out (sl_below HS.out BE.out) (by have := HLE.out.1; have := HLE.out.2.1; simp; omega) (by simp) ?_; exact rfl; exact rfl; intro v5 w5 ho5 hg5; rw [List.nil_append] at ho5; have B5 := Lib.hid (BE.out.grown hg5 BE.out.size fun q hq => by have := OE.out.lt q hq; omega); obtain ⟨g5, c5, hv5, hge5⟩ := own_pos ho5 HP.out; rw [HLE.out.1] at hv5; subst hv5; obtain ⟨y0, y1, -⟩ := own_cell ho5 HLE.out.1 HLE.out.2.2; have O5 := Lib.hid ho5; have G5 := Lib.hid hge5; clear ho5 hg5 hge5)
      have BQ := Lib.hid ((bt B2.out B5.out).setCell (p := ⟨g5, p, none⟩) (Nat.le_trans B2.out.size G5.out) (.int .u8 (cb : Int)))
      have HQ0 := Lib.hid (HRL.out _ BQ.out)
      have HQ1 := Lib.hid (own_set O5.out HLE.out.1 HLE.out.2.2 HCB.out).sl
      clear y0 y1
      rw [o2]
      clear o2
      have AQ := (Below.refl (w5.setCell ⟨g5, p, none⟩ (.int .u8 (cb : Int))).heap.size (w5.setCell ⟨g5, p, none⟩ (.int .u8 (cb : Int)))).alloc (Nat.le_refl _) (.cells #[.slice (some ⟨ub, uo, none⟩) 6000 uc, .slice (some ⟨g5, 0, none⟩) R c5] 24)
      have xq := heap_alloc_new (w5.setCell ⟨g5, p, none⟩ (.int .u8 (cb : Int))) (.cells #[.slice (some ⟨ub, uo, none⟩) 6000 uc, .slice (some ⟨g5, 0, none⟩) R c5] 24)
      rw [show (w5.setCell ⟨g5, p, none⟩ (.int .u8 (cb : Int))).heap.size = w5.heap.size by simp] at xq
      have XQ := Lib.hid xq
      have S0 := Lib.hid (sl_below HQ0.out AQ)
      have S1 := Lib.hid (sl_below HQ1.out AQ)
      have BQ0 := Lib.hid (bt BQ.out AQ)
      clear AQ HQ0 HQ1 BQ xq
      generalize (w5.setCell ⟨g5, p, none⟩ (.int .u8 (cb : Int))).alloc (.cells #[.slice (some ⟨ub, uo, none⟩) 6000 uc, .slice (some ⟨g5, 0, none⟩) R c5] 24) = W0 at *
      generalize w5.heap.size = q at *
      go_loopw [12, 13, 14, 15, 16, 17, 56] (fun _ _ _ _ _ _ t wr => ∃ i : Nat, i ≤ 2 ∧ t = .int .i64 (i : Int) ∧ Below W0.heap.size W0 wr) (fun _ _ _ _ _ _ t _ => 2 - (intOf t).toNat)
      case atStart => exact ⟨0, by omega, rfl, Below.refl _ _⟩
      case round =>
        obtain ⟨i, hi, rfl, hB⟩ := hrel
        by_cases hi2 : i < 2
        · obtain ⟨sv, lv, hc, hs⟩ : ∃ sv lv, wr.cell? ⟨q, i, none⟩ = some sv ∧ (∀ W, Below W0.heap.size W0 W → Sl W sv lv) := by
            have hx := (hB.block q (lt_of_some XQ.out)).trans XQ.out
            rcases (show i = 0 ∨ i = 1 by omega) with rfl | rfl
            · exact ⟨_, _, cell_of_row wr q 0 _ _ _ hx, fun W hW => sl_below S0.out hW⟩
            · exact ⟨_, _, cell_of_row wr q 1 _ _ _ hx, fun W hW => sl_below S1.out hW⟩
          obtain ⟨la, lc, rfl, hlc, hlm⟩ := sl_form (hs wr hB)
          have HS := Lib.hid hs
          have HB := Lib.hid hB
          have LT := Lib.hid (hs wr hB).1
          obtain ⟨ln, hln⟩ : ∃ n, n = lv.length := ⟨_, rfl⟩
          rw [← hln] at hc HS hlc
          have HL := Lib.hid hln
          have HLC := Lib.hid (And.intro hlc hlm)
          have g0 : decide ((i : Int) < 2) = true := decide_eq_true (by omega)
          have p0 : (0 : Int) ≤ (i : Int) := by omega
          have p1 : (i : Int) < 2 := by omega
          clear hs hB hln hi hlc hlm
          go_wp2_with fail
          refine (PD.out _ lv wr (ST.out _ _ hw (bt BQ0.out HB.out)) (HS.out _ HB.out)).mono ?_
          unfold ED
          rintro e w3 ⟨⟨v3, rfl, s3, rfl, k1, k2, hs3⟩, hb3⟩
          have LT3 := Lib.hid (dec_nd LT.out)
          obtain ⟨a3, c3, rfl, -, -⟩ := sl_form hs3
          obtain ⟨Y, hY⟩ : ∃ Y, Y = decX lv := ⟨_, rfl⟩
          rw [← hY] at hs3 k1 k2 ⊢
          obtain ⟨yn, hyn⟩ : ∃ n, n = Y.data.length := ⟨_, rfl⟩
          rw [← hyn] at hs3 ⊢
          have B3 := Lib.hid (bt HB.out hb3)
          have AL := (Below.refl w3.heap.size w3).alloc (Nat.le_refl _) (.cells #[.int .u64 (Y.key : Int), .int .u32 (Y.cookie : Int), .bool Y.del, .slice a3 yn c3] 26)
          have B4 := Lib.hid (bt B3.out AL)
          have ND : Hid (Nd (w3.alloc (.cells #[.int .u64 (Y.key : Int), .int .u32 (Y.cookie : Int), .bool Y.del, .slice a3 yn c3] 26)) (.agg #[.int .u64 (Y.key : Int), .int .u32 (Y.cookie : Int), .bool Y.del, .slice a3 yn c3]) Y) := ⟨_, rfl, k1, k2, sl_below hs3 AL⟩
          have HY := Lib.hid hY
          have X4 := Lib.hid (heap_alloc_new w3 (.cells #[.int .u64 (Y.key : Int), .int .u32 (Y.cookie : Int), .bool Y.del, .slice a3 yn c3] 26))
          clear hs3 k1 k2 AL hY hb3 hyn
          by_cases hD : decE lv = 0
          · obtain ⟨d1, d2, d3, d4⟩ := dec_unique LT.out hD
            rw [← HY.out] at d1 d2
            obtain ⟨N, hN⟩ : ∃ N, N = decN lv := ⟨_, rfl⟩
            rw [← hN] at d2 d3 ⊢
            rw [hD]
            rw [← HL.out] at d3
            have D := Lib.hid (And.intro d1 (And.intro d2 d3))
            clear d1 d2 d3 d4 hD hN
            go_wp2_with fail
            refine (PE.out _ Y _ (ST.out _ _ hw (bt BQ0.out B4.out)) ND.out).mono ?_
            rw [D.out.1, show encL Y = recL Y by unfold encL; rw [if_pos D.out.1]]
            rintro e w4 ⟨⟨s4, rfl, hs4⟩, hb4⟩
            have B5 := Lib.hid (bt B4.out hb4)
            have X5 := Lib.hid ((hb4.block _ (lt_of_some X4.out)).trans X4.out)
            have k1 := fun W (hW : Below w4.heap.size w4 W) => conv_sl (sl_below hs4 hW)
            have hs5 := HS.out _ B5.out
            obtain ⟨a4, c4, rfl, -, -⟩ := sl_form hs4
            have hlv : lv.take N = lv.take N := rfl
            have k2 := fun W (hW : Below w4.heap.size w4 W) => conv_sl (sl_below (sl_take (n := N) (by rw [← HL.out]; exact hs5) (by rw [← HL.out]; exact D.out.2.2)) hW)
            obtain ⟨R, hR⟩ : ∃ R, R = (recL Y).length := ⟨_, rfl⟩
            rw [← hR] at k1 ⊢
            rw [D.out.2.1] at k1
            clear hR
            generalize strOf (lv.take N) = T at *
            have K1 := Lib.hid k1
            have K2 := Lib.hid k2
            clear k1 k2
            have g1 : ¬ ln < N := by have := D.out.2.2; omega
            have p2 : (N : Int) ≤ (lc : Int) := by have := D.out.2.2; have := HLC.out.1; omega
            clear hs4 hb4 hs5 hlv X4 B4 ND
            go_wp2_with fail
            refine wp_onlyN ?_
            have B0' := Lib.hid (Below.refl w4.heap.size w4).drew
            refine wp_region_headsS (fun w' => Below w4.heap.size w4 w') [] 17 (by kernel_rfl) (fun _ _ _ _ _ h => h.elim) (by kernel_rfl) (by rfl) (by rfl) B0'.out ?_
            simp only [pickOps, List.filterMap_nil]
            refine wpHeads_nil ?_
            refine held_g 0 rfl (by rfl) (by kernel_rfl) fun K hK => ?_
            go_simp
            refine hK _ _ B0'.out ?_
            clear hK K
            refine held_g 1 rfl (by rfl) (by kernel_rfl) fun K hK => ?_
            go_simp
            refine hK _ _ B0'.out ?_
            clear hK K
            refine held_g 2 rfl (by rfl) (by kernel_rfl) fun K hK => ?_
            go_simp
            refine hK _ _ B0'.out ?_
            clear hK K
            refine wpAnyH_take (i := 3) (v := .int .i64 (N : Int)) rfl (by kernel_rfl) (by kernel_rfl) (by kernel_rfl) (fun _ _ _ h => h) (Or.inl ⟨by rfl, fun w' hw' => by go_simp⟩) B0'.out ?_
            refine wpAnyH_take (i := 4) (v := .slice la ln lc) rfl (by kernel_rfl) (by kernel_rfl) (by kernel_rfl) (fun _ _ _ h => h) (Or.inl ⟨by rfl, fun w' hw' => by go_simp⟩) B0'.out ?_
            refine held_g 5 rfl (by rfl) (by kernel_rfl) fun K hK => ?_
            go_simp
            refine hK _ _ B0'.out ?_
            clear hK K
            refine held_g 6 rfl (by rfl) (by kernel_rfl) fun K hK => ?_
            go_simp
            refine hK _ _ B0'.out ?_
            clear hK K
            refine held_g 7 rfl (by rfl) (by kernel_rfl) fun K hK => ?_
            go_simp
            refine hK _ _ B0'.out ?_
            clear hK K
            refine held_g 8 rfl (by rfl) (by kernel_rfl) fun K hK => ?_
            go_simp
            refine hK _ _ B0'.out ?_
            clear hK K
            refine wpAnyH_take (i := 9) (v := .slice a4 R c4) rfl (by kernel_rfl) (by kernel_rfl) (by kernel_rfl) (fun _ _ _ h => h) (Or.inl ⟨by rfl, fun w' hw' => by go_simp⟩) B0'.out ?_
            refine wpAnyH_take (i := 11) (v := .slice la ln lc) rfl (by kernel_rfl) (by kernel_rfl) (by kernel_rfl) (fun _ _ _ h => h) (Or.inl ⟨by rfl, fun w' hw' => by go_simp⟩) B0'.out ?_
            refine wpAnyH_take (i := 12) (v := .int .i64 (N : Int)) rfl (by kernel_rfl) (by kernel_rfl) (by kernel_rfl) (fun _ _ _ h => h) (Or.inl ⟨by rfl, fun w' hw' => by go_simp⟩) B0'.out ?_
            refine wpAnyH_take (i := 10) (v := .string T) rfl (by kernel_rfl) (by kernel_rfl) (by kernel_rfl) (fun _ _ _ h => h) (Or.inl ⟨by rfl, fun w' hw' => by go_simp; rw [K1.out w' hw']; rfl⟩) B0'.out ?_
            refine held_g 13 rfl (by rfl) (by kernel_rfl) fun K hK => ?_
            go_simp
            refine hK _ _ B0'.out ?_
            clear hK K
            refine held_g 14 rfl (by rfl) (by kernel_rfl) fun K hK => ?_
            go_simp
            rw [K2.out _ B0'.out]
            go_simp
            refine hK _ _ B0'.out ?_
            clear hK K
            refine held_g 15 rfl (by rfl) (by kernel_rfl) fun K hK => ?_
            go_simp
            refine hK _ _ B0'.out ?_
            clear hK K
            refine held_g 16 rfl (by rfl) (by kernel_rfl) fun K hK => ?_
            go_simp
            refine hK _ _ B0'.out ?_
            clear hK K
            refine wpAnyH_done (by kernel_rfl) ?_ _
            unfold onlyN
            dsimp only
            go_wp2_with fail
            go_roundw
            case rel => exact ⟨i + 1, by omega, by go_num, B5.out.drew⟩
            case measure => simp [intOf]; omega
          · obtain ⟨E, hE2⟩ : ∃ E, E = decE lv := ⟨_, rfl⟩
            rw [← hE2] at hD ⊢
            have g1 : ((E : Int) != 0) = true := bne_iff_ne.2 (by omega)
            generalize decN lv = N at *
            clear hD hE2 HY ND X4 LT3
            go_wp2_with fail
            go_roundw
            case rel => exact ⟨i + 1, by omega, by go_num, B4.out⟩
            case measure => simp [intOf]; omega
        · obtain rfl : i = 2 := by omega
          have HB := Lib.hid hB
          clear hB hi hi2
          go_wp2_with fail
          refine (AW.out _ (ST.out _ _ hw (bt BQ0.out HB.out))).mono ?_
          rintro e w4 ⟨rfl, hb4⟩
          have B4 := Lib.hid (bt (bt BQ0.out HB.out) hb4)
          clear hb4 HB
          go_wp2_with fail
          go_ret
          exact ⟨rfl, B4.out⟩
    · obtain ⟨E, hE2⟩ : ∃ E, E = encE X := ⟨_, rfl⟩
      rw [show encL X = [] by unfold encL; rw [if_neg hE]] at hs
      rw [← hE2] at hE ⊢
      have g1 : ((E : Int) == 0) = false := beq_false_of_ne (by omega)
      obtain ⟨a2, c2, rfl, -, -⟩ := sl_form hs
      rw [show ([] : List Nat).length = 0 from rfl]
      have HQ1 := Lib.hid hs
      rw [show ([] : List Nat).length = 0 from rfl] at HQ1
      have HQ0 := Lib.hid (HRL.out _ B2.out)
      have BQ := B2
      clear hs hE hE2
      go_wp2_with fail
      have AQ := (Below.refl (w2).heap.size (w2)).alloc (Nat.le_refl _) (.cells #[.slice (some ⟨ub, uo, none⟩) 6000 uc, .slice a2 0 c2] 24)
      have xq := heap_alloc_new (w2) (.cells #[.slice (some ⟨ub, uo, none⟩) 6000 uc, .slice a2 0 c2] 24)
      have XQ := Lib.hid xq
      have S0 := Lib.hid (sl_below HQ0.out AQ)
      have S1 := Lib.hid (sl_below HQ1.out AQ)
      have BQ0 := Lib.hid (bt BQ.out AQ)
      clear AQ HQ0 HQ1 BQ xq
      generalize (w2).alloc (.cells #[.slice (some ⟨ub, uo, none⟩) 6000 uc, .slice a2 0 c2] 24) = W0 at *
      generalize w2.heap.size = q at *
      go_loopw [12, 13, 14, 15, 16, 17, 56] (fun _ _ _ _ _ _ t wr => ∃ i : Nat, i ≤ 2 ∧ t = .int .i64 (i : Int) ∧ Below W0.heap.size W0 wr) (fun _ _ _ _ _ _ t _ => 2 - (intOf t).toNat)
      case atStart => exact ⟨0, by omega, rfl, Below.refl _ _⟩
      case round =>
        obtain ⟨i, hi, rfl, hB⟩ := hrel
        by_cases hi2 : i < 2
        · obtain ⟨sv, lv, hc, hs⟩ : ∃ sv lv, wr.cell? ⟨q, i, none⟩ = some sv ∧ (∀ W, Below W0.heap.size W0 W → Sl W sv lv) := by
            have hx := (hB.block q (lt_of_some XQ.out)).trans XQ.out
            rcases (show i = 0 ∨ i = 1 by omega) with rfl | rfl
            · exact ⟨_, _, cell_of_row wr q 0 _ _ _ hx, fun W hW => sl_below S0.out hW⟩
            · exact ⟨_, _, cell_of_row wr q 1 _ _ _ hx, fun W hW => sl_below S1.out hW⟩
          obtain ⟨la, lc, rfl, hlc, hlm⟩ := sl_form (hs wr hB)
          have HS := Lib.hid hs
          have HB := Lib.hid hB
          have LT := Lib.hid (hs wr hB).1
          obtain ⟨ln, hln⟩ : ∃ n, n = lv.length := ⟨_, rfl⟩
          rw [← hln] at hc HS hlc
          have HL := Lib.hid hln
          have HLC := Lib.hid (And.intro hlc hlm)
          have g0 : decide ((i : Int) < 2) = true := decide_eq_true (by omega)
          have p0 : (0 : Int) ≤ (i : Int) := by omega
          have p1 : (i : Int) < 2 := by omega
          clear hs hB hln hi hlc hlm
          go_wp2_with fail
          refine (PD.out _ lv wr (ST.out _ _ hw (bt BQ0.out HB.out)) (HS.out _ HB.out)).mono ?_
          unfold ED
          rintro e w3 ⟨⟨v3, rfl, s3, rfl, k1, k2, hs3⟩, hb3⟩
          have LT3 := Lib.hid (dec_nd LT.out)
          obtain ⟨a3, c3, rfl, -, -⟩ := sl_form hs3
          obtain ⟨Y, hY⟩ : ∃ Y, Y = decX lv := ⟨_, rfl⟩
          rw [← hY] at hs3 k1 k2 ⊢
          obtain ⟨yn, hyn⟩ : ∃ n, n = Y.data.length := ⟨_, rfl⟩
          rw [← hyn] at hs3 ⊢
          have B3 := Lib.hid (bt HB.out hb3)
          have AL := (Below.refl w3.heap.size w3).alloc (Nat.le_refl _) (.cells #[.int .u64 (Y.key : Int), .int .u32 (Y.cookie : Int), .bool Y.del, .slice a3 yn c3] 26)
          have B4 := Lib.hid (bt B3.out AL)
          have ND : Hid (Nd (w3.alloc (.cells #[.int .u64 (Y.key : Int), .int .u32 (Y.cookie : Int), .bool Y.del, .slice a3 yn c3] 26)) (.agg #[.int .u64 (Y.key : Int), .int .u32 (Y.cookie : Int), .bool Y.del, .slice a3 yn c3]) Y) := ⟨_, rfl, k1, k2, sl_below hs3 AL⟩
          have HY := Lib.hid hY
          have X4 := Lib.hid (heap_alloc_new w3 (.cells #[.int .u64 (Y.key : Int), .int .u32 (Y.cookie : Int), .bool Y.del, .slice a3 yn c3] 26))
          clear hs3 k1 k2 AL hY hb3 hyn
          by_cases hD : decE lv = 0
          · obtain ⟨d1, d2, d3, d4⟩ := dec_unique LT.out hD
            rw [← HY.out] at d1 d2
            obtain ⟨N, hN⟩ : ∃ N, N = decN lv := ⟨_, rfl⟩
            rw [← hN] at d2 d3 ⊢
            rw [hD]
            rw [← HL.out] at d3
            have D := Lib.hid (And.intro d1 (And.intro d2 d3))
            clear d1 d2 d3 d4 hD hN
            go_wp2_with fail
            refine (PE.out _ Y _ (ST.out _ _ hw (bt BQ0.out B4.out)) ND.out).mono ?_
            rw [D.out.1, show encL Y = recL Y by unfold encL; rw [if_pos D.out.1]]
            rintro e w4 ⟨⟨s4, rfl, hs4⟩, hb4⟩
            have B5 := Lib.hid (bt B4.out hb4)
            have X5 := Lib.hid ((hb4.block _ (lt_of_some X4.out)).trans X4.out)
            have k1 := fun W (hW : Below w4.heap.size w4 W) => conv_sl (sl_below hs4 hW)
            have hs5 := HS.out _ B5.out
            obtain ⟨a4, c4, rfl, -, -⟩ := sl_form hs4
            have hlv : lv.take N = lv.take N := rfl
            have k2 := fun W (hW : Below w4.heap.size w4 W) => conv_sl (sl_below (sl_take (n := N) (by rw [← HL.out]; exact hs5) (by rw [← HL.out]; exact D.out.2.2)) hW)
            obtain ⟨R, hR⟩ : ∃ R, R = (recL Y).length := ⟨_, rfl⟩
            rw [← hR] at k1 ⊢
            rw [D.out.2.1] at k1
            clear hR
            generalize strOf (lv.take N) = T at *
            have K1 := Lib.hid k1
            have K2 := Lib.hid k2
            clear k1 k2
            have g1 : ¬ ln < N := by have := D.out.2.2; omega
            have p2 : (N : Int) ≤ (lc : Int) := by have := D.out.2.2; have := HLC.out.1; omega
            clear hs4 hb4 hs5 hlv X4 B4 ND
            go_wp2_with fail
            refine wp_onlyN ?_
            have B0' := Lib.hid (Below.refl w4.heap.size w4).drew
            refine wp_region_headsS (fun w' => Below w4.heap.size w4 w') [] 17 (by kernel_rfl) (fun _ _ _ _ _ h => h.elim) (by kernel_rfl) (by rfl) (by rfl) B0'.out ?_
            simp only [pickOps, List.filterMap_nil]
            refine wpHeads_nil ?_
            refine held_g 0 rfl (by rfl) (by kernel_rfl) fun K hK => ?_
            go_simp
            refine hK _ _ B0'.out ?_
            clear hK K
            refine held_g 1 rfl (by rfl) (by kernel_rfl) fun K hK => ?_
            go_simp
            refine hK _ _ B0'.out ?_
            clear hK K
            refine held_g 2 rfl (by rfl) (by kernel_rfl) fun K hK => ?_
            go_simp
            refine hK _ _ B0'.out ?_
            clear hK K
            refine wpAnyH_take (i := 3) (v := .int .i64 (N : Int)) rfl (by kernel_rfl) (by kernel_rfl) (by kernel_rfl) (fun _ _ _ h => h) (Or.inl ⟨by rfl, fun w' hw' => by go_simp⟩) B0'.out ?_
            refine wpAnyH_take (i := 4) (v := .slice la ln lc) rfl (by kernel_rfl) (by kernel_rfl) (by kernel_rfl) (fun _ _ _ h => h) (Or.inl ⟨by rfl, fun w' hw' => by go_simp⟩) B0'.out ?_
            refine held_g 5 rfl (by rfl) (by kernel_rfl) fun K hK => ?_
            go_simp
            refine hK _ _ B0'.out ?_
            clear hK K
            refine held_g 6 rfl (by rfl) (by kernel_rfl) fun K hK => ?_
            go_simp
            refine hK _ _ B0'.out ?_
            clear hK K
            refine held_g 7 rfl (by rfl) (by kernel_rfl) fun K hK => ?_
            go_simp
            refine hK _ _ B0'.out ?_
            clear hK K
            refine held_g 8 rfl (by rfl) (by kernel_rfl) fun K hK => ?_
            go_simp
            refine hK _ _ B0'.out ?_
            clear hK K
            refine wpAnyH_take (i := 9) (v := .slice a4 R c4) rfl (by kernel_rfl) (by kernel_rfl) (by kernel_rfl) (fun _ _ _ h => h) (Or.inl ⟨by rfl, fun w' hw' => by go_simp⟩) B0'.out ?_
            refine wpAnyH_take (i := 11) (v := .slice la ln lc) rfl (by kernel_rfl) (by kernel_rfl) (by kernel_rfl) (fun _ _ _ h => h) (Or.inl ⟨by rfl, fun w' hw' => by go_simp⟩) B0'.out ?_
            refine wpAnyH_take (i := 12) (v := .int .i64 (N : Int)) rfl (by kernel_rfl) (by kernel_rfl) (by kernel_rfl) (fun _ _ _ h => h) (Or.inl ⟨by rfl, fun w' hw' => by go_simp⟩) B0'.out ?_
            refine wpAnyH_take (i := 10) (v := .string T) rfl (by kernel_rfl) (by kernel_rfl) (by kernel_rfl) (fun _ _ _ h => h) (Or.inl ⟨by rfl, fun w' hw' => by go_simp; rw [K1.out w' hw']; rfl⟩) B0'.out ?_
            refine held_g 13 rfl (by rfl) (by kernel_rfl) fun K hK => ?_
            go_simp
            refine hK _ _ B0'.out ?_
            clear hK K
            refine held_g 14 rfl (by rfl) (by kernel_rfl) fun K hK => ?_
            go_simp
            rw [K2.out _ B0'.out]
            go_simp
            refine hK _ _ B0'.out ?_
            clear hK K
            refine held_g 15 rfl (by rfl) (by kernel_rfl) fun K hK => ?_
            go_simp
            refine hK _ _ B0'.out ?_
            clear hK K
            refine held_g 16 rfl (by rfl) (by kernel_rfl) fun K hK => ?_
            go_simp
            refine hK _ _ B0'.out ?_
            clear hK K
            refine wpAnyH_done (by kernel_rfl) ?_ _
            unfold onlyN
            dsimp only
            go_wp2_with fail
            go_roundw
            case rel => exact ⟨i + 1, by omega, by go_num, B5.out.drew⟩
            case measure => simp [intOf]; omega
          · obtain ⟨E, hE2⟩ : ∃ E, E = decE lv := ⟨_, rfl⟩
            rw [← hE2] at hD ⊢
            have g1 : ((E : Int) != 0) = true := bne_iff_ne.2 (by omega)
            generalize decN lv = N at *
            clear hD hE2 HY ND X4 LT3
            go_wp2_with fail
            go_roundw
            case rel => exact ⟨i + 1, by omega, by go_num, B4.out⟩
            case measure => simp [intOf]; omega
        · obtain rfl : i = 2 := by omega
          have HB := Lib.hid hB
          clear hB hi hi2
          go_wp2_with fail
          refine (AW.out _ (ST.out _ _ hw (bt BQ0.out HB.out))).mono ?_
          rintro e w4 ⟨rfl, hb4⟩
          have B4 := Lib.hid (bt (bt BQ0.out HB.out) hb4)
          clear hb4 HB
          go_wp2_with fail
          go_ret
          exact ⟨rfl, B4.out⟩
  · obtain ⟨ua, uc, rfl, -, -⟩ := sl_form hu
    obtain ⟨un, hun⟩ : ∃ n, n = RL.length := ⟨_, rfl⟩
    rw [← hun] at hbig hu ⊢
    have HRL := Lib.hid (fun W (hB : Below w.heap.size w W) => sl_below hu hB)
    have g6 : decide ((6000 : Int) < (un : Int)) = false := decide_eq_false (by omega)
    clear hu hun hbig
    go_enter Tryd.func7, Tryd.ntmps7
    go_wp2_with fail
    refine (cut6_any _ x _ (HN.out _ B0.out)).mono ?_
    rintro e w1 ⟨⟨v1, rfl, hc⟩, hb1⟩
    have B1 := Lib.hid (bt B0.out hb1)
    clear hb1 B0
    go_wp2_with fail
    refine (PE.out v1 (cutN x) w1 (ST.out _ _ hw B1.out) hc).mono ?_
    have HO := Lib.hid (nd_ok hc)
    clear hc HN
    generalize cutN x = X at *
    rintro e w2 ⟨⟨s2, rfl, hs⟩, hb2⟩
    have B2 := Lib.hid (bt B1.out hb2)
    clear hb2 B1
    by_cases hE : encE X = 0
    · rw [show encL X = recL X by unfold encL; rw [if_pos hE]] at hs
      rw [hE]
      have hge := szR_ge X.data.length
      obtain ⟨R, hR⟩ : ∃ R, R = szR X.data.length := ⟨_, rfl⟩
      have hlen : (recL X).length = R := by rw [recL_length, hR]
      have hle : R ≤ 4128 := by
        have h1 := (enc_ok hE).1
        have h2 := szR_lt X.data.length
        omega
      rw [← hR] at hge
      obtain ⟨b, o, c, hv, hc1, hc2, -⟩ := sl_cells hs (by omega)
      rw [hlen] at hv hc1
      subst hv
      obtain ⟨t, p, t1, t2, t3, t4, t5⟩ : ∃ (t : Int) (p : Nat), n0.tmod (R : Int) = t ∧ -(R : Int) < t ∧ t < (R : Int) ∧ (t + (R : Int)).tmod (R : Int) = (p : Int) ∧ p < R := ⟨_, _, rfl, (rmd_eq n0 (R := R) (by omega)).2.1, (rmd_eq n0 (R := R) (by omega)).2.2, (rmd_eq n0 (R := R) (by omega)).1, rmd_lt n0 (by omega)⟩
      have g1 : ((R : Int) == 0) = false := beq_false_of_ne (by omega)
      have g2 : ((R : Int) = 0) = False := eq_false (by omega)
      have g3 : decide ((0 : Int) < (R : Int)) = true := decide_eq_true (by omega)
      have p1 : (p : Int) < (R : Int) := by omega
      have p0 : (0 : Int) ≤ (p : Int) := by omega
      have o2 : wrap64 (t + (R : Int)) = t + (R : Int) := by unfold wrap64; omega
      have HS := Lib.hid hs
      have HLE := Lib.hid (And.intro hlen (And.intro hle t5))
      have HP : Hid (0 < (recL X).length) := by show 0 < _; omega
      have OE := Lib.hid (own_empty w2 (Nat.le_refl w2.heap.size))
      have BE := Lib.hid ((Below.refl w2.heap.size w2).alloc (Nat.le_refl _) (.cells #[] 5))
      clear hs hE hR hge hle hlen hc1 hc2 t2 t3
      go_wp2_with (at_builtin; refine app_sl (dst := some 38) ?_ ?_ OE.out (sl_below HS.out BE.out) (by have := HLE.out.1; have := HLE.out.2.1; simp; omega) (by simp) ?_; exact rfl; exact rfl; intro v5 w5 ho5 hg5; rw [List.nil_append] at ho5; have B5 := Lib.hid (BE.out.grown hg5 BE.out.size fun q hq => by have := OE.out.lt q hq; omega); obtain ⟨g5, c5, hv5, hge5⟩ := own_pos ho5 HP.out; rw [HLE.out.1] at hv5; subst hv5; obtain ⟨y0, y1, -⟩ := own_cell ho5 HLE.out.1 HLE.out.2.2; have O5 := Lib.hid ho5; have G5 := Lib.hid hge5; clear ho5 hg5 hge5)
      have BQ := Lib.hid ((bt B2.out B5.out).setCell (p := ⟨g5, p, none⟩) (Nat.le_trans B2.out.size G5.out) (.int .u8 (cb : Int)))
      have HQ0 := Lib.hid (HRL.out _ BQ.out)
      have HQ1 := Lib.hid (own_set O5.out HLE.out.1 HLE.out.2.2 HCB.out).sl
      clear y0 y1
      rw [o2]
      clear o2
      have AQ := (Below.refl (w5.setCell ⟨g5, p, none⟩ (.int .u8 (cb : Int))).heap.size (w5.setCell ⟨g5, p, none⟩ (.int .u8 (cb : Int)))).alloc (Nat.le_refl _) (.cells #[.slice ua un uc, .slice (some ⟨g5, 0, none⟩) R c5] 24)
      have xq := heap_alloc_new (w5.setCell ⟨g5, p, none⟩ (.int .u8 (cb : Int))) (.cells #[.slice ua un uc, .slice (some ⟨g5, 0, none⟩) R c5] 24)
      rw [show (w5.setCell ⟨g5, p, none⟩ (.int .u8 (cb : Int))).heap.size = w5.heap.size by simp] at xq
      have XQ := Lib.hid xq
      have S0 := Lib.hid (sl_below HQ0.out AQ)
      have S1 := Lib.hid (sl_below HQ1.out AQ)
      have BQ0 := Lib.hid (bt BQ.out AQ)
      clear AQ HQ0 HQ1 BQ xq
      generalize (w5.setCell ⟨g5, p, none⟩ (.int .u8 (cb : Int))).alloc (.cells #[.slice ua un uc, .slice (some ⟨g5, 0, none⟩) R c5] 24) = W0 at *
      generalize w5.heap.size = q at *
      go_loopw [12, 13, 14, 15, 16, 17, 56] (fun _ _ _ _ _ _ t wr => ∃ i : Nat, i ≤ 2 ∧ t = .int .i64 (i : Int) ∧ Below W0.heap.size W0 wr) (fun _ _ _ _ _ _ t _ => 2 - (intOf t).toNat)
      case atStart => exact ⟨0, by omega, rfl, Below.refl _ _⟩
      case round =>
        obtain ⟨i, hi, rfl, hB⟩ := hrel
        by_cases hi2 : i < 2
        · obtain ⟨sv, lv, hc, hs⟩ : ∃ sv lv, wr.cell? ⟨q, i, none⟩ = some sv ∧ (∀ W, Below W0.heap.size W0 W → Sl W sv lv) := by
            have hx := (hB.block q (lt_of_some XQ.out)).trans XQ.out
            rcases (show i = 0 ∨ i = 1 by omega) with rfl | rfl
            · exact ⟨_, _, cell_of_row wr q 0 _ _ _ hx, fun W hW => sl_below S0.out hW⟩
            · exact ⟨_, _, cell_of_row wr q 1 _ _ _ hx, fun W hW => sl_below S1.out hW⟩
          obtain ⟨la, lc, rfl, hlc, hlm⟩ := sl_form (hs wr hB)
          have HS := Lib.hid hs
          have HB := Lib.hid hB
          have LT := Lib.hid (hs wr hB).1
          obtain ⟨ln, hln⟩ : ∃ n, n = lv.length := ⟨_, rfl⟩
          rw [← hln] at hc HS hlc
          have HL := Lib.hid hln
          have HLC := Lib.hid (And.intro hlc hlm)
          have g0 : decide ((i : Int) < 2) = true := decide_eq_true (by omega)
          have p0 : (0 : Int) ≤ (i : Int) := by omega
          have p1 : (i : Int) < 2 := by omega
          clear hs hB hln hi hlc hlm
          go_wp2_with fail
          refine (PD.out _ lv wr (ST.out _ _ hw (bt BQ0.out HB.out)) (HS.out _ HB.out)).mono ?_
          unfold ED
          rintro e w3 ⟨⟨v3, rfl, s3, rfl, k1, k2, hs3⟩, hb3⟩
          have LT3 := Lib.hid (dec_nd LT.out)
          obtain ⟨a3, c3, rfl, -, -⟩ := sl_form hs3
          obtain ⟨Y, hY⟩ : ∃ Y, Y = decX lv := ⟨_, rfl⟩
          rw [← hY] at hs3 k1 k2 ⊢
          obtain ⟨yn, hyn⟩ : ∃ n, n = Y.data.length := ⟨_, rfl⟩
          rw [← hyn] at hs3 ⊢
          have B3 := Lib.hid (bt HB.out hb3)
          have AL := (Below.refl w3.heap.size w3).alloc (Nat.le_refl _) (.cells #[.int .u64 (Y.key : Int), .int .u32 (Y.cookie : Int), .bool Y.del, .slice a3 yn c3] 26)
          have B4 := Lib.hid (bt B3.out AL)
          have ND : Hid (Nd (w3.alloc (.cells #[.int .u64 (Y.key : Int), .int .u32 (Y.cookie : Int), .bool Y.del, .slice a3 yn c3] 26)) (.agg #[.int .u64 (Y.key : Int), .int .u32 (Y.cookie : Int), .bool Y.del, .slice a3 yn c3]) Y) := ⟨_, rfl, k1, k2, sl_below hs3 AL⟩
          have HY := Lib.hid hY
          have X4 := Lib.hid (heap_alloc_new w3 (.cells #[.int .u64 (Y.key : Int), .int .u32 (Y.cookie : Int), .bool Y.del, .slice a3 yn c3] 26))
          clear hs3 k1 k2 AL hY hb3 hyn
          by_cases hD : decE lv = 0
          · obtain ⟨d1, d2, d3, d4⟩ := dec_unique LT.out hD
            rw [← HY.out] at d1 d2
            obtain ⟨N, hN⟩ : ∃ N, N = decN lv := ⟨_, rfl⟩
            rw [← hN] at d2 d3 ⊢
            rw [hD]
            rw [← HL.out] at d3
            have D := Lib.hid (And.intro d1 (And.intro d2 d3))
            clear d1 d2 d3 d4 hD hN
            go_wp2_with fail
            refine (PE.out _ Y _ (ST.out _ _ hw (bt BQ0.out B4.out)) ND.out).mono ?_
            rw [D.out.1, show encL Y = recL Y by unfold encL; rw [if_pos D.out.1]]
            rintro e w4 ⟨⟨s4, rfl, hs4⟩, hb4⟩
            have B5 := Lib.hid (bt B4.out hb4)
            have X5 := Lib.hid ((hb4.block _ (lt_of_some X4.out)).trans X4.out)
            have k1 := fun W (hW : Below w4.heap.size w4 W) => conv_sl (sl_below hs4 hW)
            have hs5 := HS.out _ B5.out
            obtain ⟨a4, c4, rfl, -, -⟩ := sl_form hs4
            have hlv : lv.take N = lv.take N := rfl
            have k2 := fun W (hW : Below w4.heap.size w4 W) => conv_sl (sl_below (sl_take (n := N) (by rw [← HL.out]; exact hs5) (by rw [← HL.out]; exact D.out.2.2)) hW)
            obtain ⟨R, hR⟩ : ∃ R, R = (recL Y).length := ⟨_, rfl⟩
            rw [← hR] at k1 ⊢
            rw [D.out.2.1] at k1
            clear hR
            generalize strOf (lv.take N) = T at *
            have K1 := Lib.hid k1
            have K2 := Lib.hid k2
            clear k1 k2
            have g1 : ¬ ln < N := by have := D.out.2.2; omega
            have p2 : (N : Int) ≤ (lc : Int) := by have := D.out.2.2; have := HLC.out.1; omega
            clear hs4 hb4 hs5 hlv X4 B4 ND
            go_wp2_with fail
            refine wp_onlyN ?_
            have B0' := Lib.hid (Below.refl w4.heap.size w4).drew
            refine wp_region_headsS (fun w' => Below w4.heap.size w4 w') [] 17 (by kernel_rfl) (fun _ _ _ _ _ h => h.elim) (by kernel_rfl) (by rfl) (by rfl) B0'.out ?_
            simp only [pickOps, List.filterMap_nil]
            refine wpHeads_nil ?_
            refine held_g 0 rfl (by rfl) (by kernel_rfl) fun K hK => ?_
            go_simp
            refine hK _ _ B0'.out ?_
            clear hK K
            refine held_g 1 rfl (by rfl) (by kernel_rfl) fun K hK => ?_
            go_simp
            refine hK _ _ B0'.out ?_
            clear hK K
            refine held_g 2 rfl (by rfl) (by kernel_rfl) fun K hK => ?_
            go_simp
            refine hK _ _ B0'.out ?_
            clear hK K
            refine wpAnyH_take (i := 3) (v := .int .i64 (N : Int)) rfl (by kernel_rfl) (by kernel_rfl) (by kernel_rfl) (fun _ _ _ h => h) (Or.inl ⟨by rfl, fun w' hw' => by go_simp⟩) B0'.out ?_
            refine wpAnyH_take (i := 4) (v := .slice la ln lc) rfl (by kernel_rfl) (by kernel_rfl) (by kernel_rfl) (fun _ _ _ h => h) (Or.inl ⟨by rfl, fun w' hw' => by go_simp⟩) B0'.out ?_
            refine held_g 5 rfl (by rfl) (by kernel_rfl) fun K hK => ?_
            go_simp
            refine hK _ _ B0'.out ?_
            clear hK K
            refine held_g 6 rfl (by rfl) (by kernel_rfl) fun K hK => ?_
            go_simp
            refine hK _ _ B0'.out ?_
            clear hK K
            refine held_g 7 rfl (by rfl) (by kernel_rfl) fun K hK => ?_
            go_simp
            refine hK _ _ B0'.out ?_
            clear hK K
            refine held_g 8 rfl (by rfl) (by kernel_rfl) fun K hK => ?_
            go_simp
            refine hK _ _ B0'.out ?_
            clear hK K
            refine wpAnyH_take (i := 9) (v := .slice a4 R c4) rfl (by kernel_rfl) (by kernel_rfl) (by kernel_rfl) (fun _ _ _ h => h) (Or.inl ⟨by rfl, fun w' hw' => by go_simp⟩) B0'.out ?_
            refine wpAnyH_take (i := 11) (v := .slice la ln lc) rfl (by kernel_rfl) (by kernel_rfl) (by kernel_rfl) (fun _ _ _ h => h) (Or.inl ⟨by rfl, fun w' hw' => by go_simp⟩) B0'.out ?_
            refine wpAnyH_take (i := 12) (v := .int .i64 (N : Int)) rfl (by kernel_rfl) (by kernel_rfl) (by kernel_rfl) (fun _ _ _ h => h) (Or.inl ⟨by rfl, fun w' hw' => by go_simp⟩) B0'.out ?_
            refine wpAnyH_take (i := 10) (v := .string T) rfl (by kernel_rfl) (by kernel_rfl) (by kernel_rfl) (fun _ _ _ h => h) (Or.inl ⟨by rfl, fun w' hw' => by go_simp; rw [K1.out w' hw']; rfl⟩) B0'.out ?_
            refine held_g 13 rfl (by rfl) (by kernel_rfl) fun K hK => ?_
            go_simp
            refine hK _ _ B0'.out ?_
            clear hK K
            refine held_g 14 rfl (by rfl) (by kernel_rfl) fun K hK => ?_
            go_simp
            rw [K2.out _ B0'.out]
            go_simp
            refine hK _ _ B0'.out ?_
            clear hK K
            refine held_g 15 rfl (by rfl) (by kernel_rfl) fun K hK => ?_
            go_simp
            refine hK _ _ B0'.out ?_
            clear hK K
            refine held_g 16 rfl (by rfl) (by kernel_rfl) fun K hK => ?_
            go_simp
            refine hK _ _ B0'.out ?_
            clear hK K
            refine wpAnyH_done (by kernel_rfl) ?_ _
            unfold onlyN
            dsimp only
            go_wp2_with fail
            go_roundw
            case rel => exact ⟨i + 1, by omega, by go_num, B5.out.drew⟩
            case measure => simp [intOf]; omega
          · obtain ⟨E, hE2⟩ : ∃ E, E = decE lv := ⟨_, rfl⟩
            rw [← hE2] at hD ⊢
            have g1 : ((E : Int) != 0) = true := bne_iff_ne.2 (by omega)
            generalize decN lv = N at *
            clear hD hE2 HY ND X4 LT3
            go_wp2_with fail
            go_roundw
            case rel => exact ⟨i + 1, by omega, by go_num, B4.out⟩
            case measure => simp [intOf]; omega
        · obtain rfl : i = 2 := by omega
          have HB := Lib.hid hB
          clear hB hi hi2
          go_wp2_with fail
          refine (AW.out _ (ST.out _ _ hw (bt BQ0.out HB.out))).mono ?_
          rintro e w4 ⟨rfl, hb4⟩
          have B4 := Lib.hid (bt (bt BQ0.out HB.out) hb4)
          clear hb4 HB
          go_wp2_with fail
          go_ret
          exact ⟨rfl, B4.out⟩
    · obtain ⟨E, hE2⟩ : ∃ E, E = encE X := ⟨_, rfl⟩
      rw [show encL X = [] by unfold encL; rw [if_neg hE]] at hs
      rw [← hE2] at hE ⊢
      have g1 : ((E : Int) == 0) = false := beq_false_of_ne (by omega)
      obtain ⟨a2, c2, rfl, -, -⟩ := sl_form hs
      rw [show ([] : List Nat).length = 0 from rfl]
      have HQ1 := Lib.hid hs
      rw [show ([] : List Nat).length = 0 from rfl] at HQ1
      have HQ0 := Lib.hid (HRL.out _ B2.out)
      have BQ := B2
      clear hs hE hE2
      go_wp2_with fail
      have AQ := (Below.refl (w2).heap.size (w2)).alloc (Nat.le_refl _) (.cells #[.slice ua un uc, .slice a2 0 c2] 24)
      have xq := heap_alloc_new (w2) (.cells #[.slice ua un uc, .slice a2 0 c2] 24)
      have XQ := Lib.hid xq
      have S0 := Lib.hid (sl_below HQ0.out AQ)
      have S1 := Lib.hid (sl_below HQ1.out AQ)
      have BQ0 := Lib.hid (bt BQ.out AQ)
      clear AQ HQ0 HQ1 BQ xq
      generalize (w2).alloc (.cells #[.slice ua un uc, .slice a2 0 c2] 24) = W0 at *
      generalize w2.heap.size = q at *
      go_loopw [12, 13, 14, 15, 16, 17, 56] (fun _ _ _ _ _ _ t wr => ∃ i : Nat, i ≤ 2 ∧ t = .int .i64 (i : Int) ∧ Below W0.heap.size W0 wr) (fun _ _ _ _ _ _ t _ => 2 - (intOf t).toNat)
      case atStart => exact ⟨0, by omega, rfl, Below.refl _ _⟩
      case round =>
        obtain ⟨i, hi, rfl, hB⟩ := hrel
        by_cases hi2 : i < 2
        · obtain ⟨sv, lv, hc, hs⟩ : ∃ sv lv, wr.cell? ⟨q, i, none⟩ = some sv ∧ (∀ W, Below W0.heap.size W0 W → Sl W sv lv) := by
            have hx := (hB.block q (lt_of_some XQ.out)).trans XQ.out
            rcases (show i = 0 ∨ i = 1 by omega) with rfl | rfl
            · exact ⟨_, _, cell_of_row wr q 0 _ _ _ hx, fun W hW => sl_below S0.out hW⟩
            · exact ⟨_, _, cell_of_row wr q 1 _ _ _ hx, fun W hW => sl_below S1.out hW⟩
          obtain ⟨la, lc, rfl, hlc, hlm⟩ := sl_form (hs wr hB)
          have HS := Lib.hid hs
          have HB := Lib.hid hB
          have LT := Lib.hid (hs wr hB).1
          obtain ⟨ln, hln⟩ : ∃ n, n = lv.length := ⟨_, rfl⟩
          rw [← hln] at hc HS hlc
          have HL := Lib.hid hln
          have HLC := Lib.hid (And.intro hlc hlm)
          have g0 : decide ((i : Int) < 2) = true := decide_eq_true (by omega)
          have p0 : (0 : Int) ≤ (i : Int) := by omega
          have p1 : (i : Int) < 2 := by omega
          clear hs hB hln hi hlc hlm
          go_wp2_with fail
          refine (PD.out _ lv wr (ST.out _ _ hw (bt BQ0.out HB.out)) (HS.out _ HB.out)).mono ?_
          unfold ED
          rintro e w3 ⟨⟨v3, rfl, s3, rfl, k1, k2, hs3⟩, hb3⟩
          have LT3 := Lib.hid (dec_nd LT.out)
          obtain ⟨a3, c3, rfl, -, -⟩ := sl_form hs3
          obtain ⟨Y, hY⟩ : ∃ Y, Y = decX lv := ⟨_, rfl⟩
          rw [← hY] at hs3 k1 k2 ⊢
          obtain ⟨yn, hyn⟩ : ∃ n, n = Y.data.length := ⟨_, rfl⟩
          rw [← hyn] at hs3 ⊢
          have B3 := Lib.hid (bt HB.out hb3)
          have AL := (Below.refl w3.heap.size w3).alloc (Nat.le_refl _) (.cells #[.int .u64 (Y.key : Int), .int .u32 (Y.cookie : Int), .bool Y.del, .slice a3 yn c3] 26)
          have B4 := Lib.hid (bt B3.out AL)
          have ND : Hid (Nd (w3.alloc (.cells #[.int .u64 (Y.key : Int), .int .u32 (Y.cookie : Int), .bool Y.del, .slice a3 yn c3] 26)) (.agg #[.int .u64 (Y.key : Int), .int .u32 (Y.cookie : Int), .bool Y.del, .slice a3 yn c3]) Y) := ⟨_, rfl, k1, k2, sl_below hs3 AL⟩
          have HY := Lib.hid hY
          have X4 := Lib.hid (heap_alloc_new w3 (.cells #[.int .u64 (Y.key : Int), .int .u32 (Y.cookie : Int), .bool Y.del, .slice a3 yn c3] 26))
          clear hs3 k1 k2 AL hY hb3 hyn
          by_cases hD : decE lv = 0
          · obtain ⟨d1, d2, d3, d4⟩ := dec_unique LT.out hD
            rw [← HY.out] at d1 d2
            obtain ⟨N, hN⟩ : ∃ N, N = decN lv := ⟨_, rfl⟩
            rw [← hN] at d2 d3 ⊢
            rw [hD]
            rw [← HL.out] at d3
            have D := Lib.hid (And.intro d1 (And.intro d2 d3))
            clear d1 d2 d3 d4 hD hN
            go_wp2_with fail
            refine (PE.out _ Y _ (ST.out _ _ hw (bt BQ0.out B4.out)) ND.out).mono ?_
            rw [D.out.1, show encL Y = recL Y by unfold encL; rw [if_pos D.out.1]]
            rintro e w4 ⟨⟨s4, rfl, hs4⟩, hb4⟩
            have B5 := Lib.hid (bt B4.out hb4)
            have X5 := Lib.hid ((hb4.block _ (lt_of_some X4.out)).trans X4.out)
            have k1 := fun W (hW : Below w4.heap.size w4 W) => conv_sl (sl_below hs4 hW)
            have hs5 := HS.out _ B5.out
            obtain ⟨a4, c4, rfl, -, -⟩ := sl_form hs4
            have hlv : lv.take N = lv.take N := rfl
            have k2 := fun W (hW : Below w4.heap.size w4 W) => conv_sl (sl_below (sl_take (n := N) (by rw [← HL.out]; exact hs5) (by rw [← HL.out]; exact D.out.2.2)) hW)
            obtain ⟨R, hR⟩ : ∃ R, R = (recL Y).length := ⟨_, rfl⟩
            rw [← hR] at k1 ⊢
            rw [D.out.2.1] at k1
            clear hR
            generalize strOf (lv.take N) = T at *
            have K1 := Lib.hid k1
            have K2 := Lib.hid k2
            clear k1 k2
            have g1 : ¬ ln < N := by have := D.out.2.2; omega
            have p2 : (N : Int) ≤ (lc : Int) := by have := D.out.2.2; have := HLC.out.1; omega
            clear hs4 hb4 hs5 hlv X4 B4 ND
            go_wp2_with fail
            refine wp_onlyN ?_
            have B0' := Lib.hid (Below.refl w4.heap.size w4).drew
            refine wp_region_headsS (fun w' => Below w4.heap.size w4 w') [] 17 (by kernel_rfl) (fun _ _ _ _ _ h => h.elim) (by kernel_rfl) (by rfl) (by rfl) B0'.out ?_
            simp only [pickOps, List.filterMap_nil]
            refine wpHeads_nil ?_
            refine held_g 0 rfl (by rfl) (by kernel_rfl) fun K hK => ?_
            go_simp
            refine hK _ _ B0'.out ?_
            clear hK K
            refine held_g 1 rfl (by rfl) (by kernel_rfl) fun K hK => ?_
            go_simp
            refine hK _ _ B0'.out ?_
            clear hK K
            refine held_g 2 rfl (by rfl) (by kernel_rfl) fun K hK => ?_
            go_simp
            refine hK _ _ B0'.out ?_
            clear hK K
            refine wpAnyH_take (i := 3) (v := .int .i64 (N : Int)) rfl (by kernel_rfl) (by kernel_rfl) (by kernel_rfl) (fun _ _ _ h => h) (Or.inl ⟨by rfl, fun w' hw' => by go_simp⟩) B0'.out ?_
            refine wpAnyH_take (i := 4) (v := .slice la ln lc) rfl (by kernel_rfl) (by kernel_rfl) (by kernel_rfl) (fun _ _ _ h => h) (Or.inl ⟨by rfl, fun w' hw' => by go_simp⟩) B0'.out ?_
            refine held_g 5 rfl (by rfl) (by kernel_rfl) fun K hK => ?_
            go_simp
            refine hK _ _ B0'.out ?_
            clear hK K
            refine held_g 6 rfl (by rfl) (by kernel_rfl) fun K hK => ?_
            go_simp
            refine hK _ _ B0'.out ?_
            clear hK K
            refine held_g 7 rfl (by rfl) (by kernel_rfl) fun K hK => ?_
            go_simp
            refine hK _ _ B0'.out ?_
            clear hK K
            refine held_g 8 rfl (by rfl) (by kernel_rfl) fun K hK => ?_
            go_simp
            refine hK _ _ B0'.out ?_
            clear hK K
            refine wpAnyH_take (i := 9) (v := .slice a4 R c4) rfl (by kernel_rfl) (by kernel_rfl) (by kernel_rfl) (fun _ _ _ h => h) (Or.inl ⟨by rfl, fun w' hw' => by go_simp⟩) B0'.out ?_
            refine wpAnyH_take (i := 11) (v := .slice la ln lc) rfl (by kernel_rfl) (by kernel_rfl) (by kernel_rfl) (fun _ _ _ h => h) (Or.inl ⟨by rfl, fun w' hw' => by go_simp⟩) B0'.out ?_
            refine wpAnyH_take (i := 12) (v := .int .i64 (N : Int)) rfl (by kernel_rfl) (by kernel_rfl) (by kernel_rfl) (fun _ _ _ h => h) (Or.inl ⟨by rfl, fun w' hw' => by go_simp⟩) B0'.out ?_
            refine wpAnyH_take (i := 10) (v := .string T) rfl (by kernel_rfl) (by kernel_rfl) (by kernel_rfl) (fun _ _ _ h => h) (Or.inl ⟨by rfl, fun w' hw' => by go_simp; rw [K1.out w' hw']; rfl⟩) B0'.out ?_
            refine held_g 13 rfl (by rfl) (by kernel_rfl) fun K hK => ?_
            go_simp
            refine hK _ _ B0'.out ?_
            clear hK K
            refine held_g 14 rfl (by rfl) (by kernel_rfl) fun K hK => ?_
            go_simp
            rw [K2.out _ B0'.out]
            go_simp
            refine hK _ _ B0'.out ?_
            clear hK K
            refine held_g 15 rfl (by rfl) (by kernel_rfl) fun K hK => ?_
            go_simp
            refine hK _ _ B0'.out ?_
            clear hK K
            refine held_g 16 rfl (by rfl) (by kernel_rfl) fun K hK => ?_
            go_simp
            refine hK _ _ B0'.out ?_
            clear hK K
            refine wpAnyH_done (by kernel_rfl) ?_ _
            unfold onlyN
            dsimp only
            go_wp2_with fail
            go_roundw
            case rel => exact ⟨i + 1, by omega, by go_num, B5.out.drew⟩
            case measure => simp [intOf]; omega
          · obtain ⟨E, hE2⟩ : ∃ E, E = decE lv := ⟨_, rfl⟩
            rw [← hE2] at hD ⊢
            have g1 : ((E : Int) != 0) = true := bne_iff_ne.2 (by omega)
            generalize decN lv = N at *
            clear hD hE2 HY ND X4 LT3
            go_wp2_with fail
            go_roundw
            case rel => exact ⟨i + 1, by omega, by go_num, B4.out⟩
            case measure => simp [intOf]; omega
        · obtain rfl : i = 2 := by omega
          have HB := Lib.hid hB
          clear hB hi hi2
          go_wp2_with fail
          refine (AW.out _ (ST.out _ _ hw (bt BQ0.out HB.out))).mono ?_
          rintro e w4 ⟨rfl, hb4⟩
          have B4 := Lib.hid (bt (bt BQ0.out HB.out) hb4)
          clear hb4 HB
          go_wp2_with fail
          go_ret
          exact ⟨rfl, B4.out⟩
end Go.Proofs.YtljdbaibhpgfnaaDoor.Gf
