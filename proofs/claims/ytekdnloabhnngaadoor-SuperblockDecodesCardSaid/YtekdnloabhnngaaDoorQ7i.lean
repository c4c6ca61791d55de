/- What is proved here: the walk of the law SuperblockDecodes, over what it asks of the program. No condition. -/
import Derived.Test.YtekdnloabhnngaaDoorCp
namespace Go.Proofs.YtekdnloabhnngaaDoor.Gf
open Go Go.Joins Go.ChangeShapes Go.WideShapes Go.ChangeAt Go.RowKit Go.Deep Go.Proofs.YtekdnloabhnngaaDoor.By Go.Proofs.YtekdnloabhnngaaDoor.Crc Go.Proofs.YtekdnloabhnngaaDoor.Qt

theorem own_capl {w : World} {base g n c : Nat} {l : List Nat} (h : Own w base (.slice (some ⟨g, 0, none⟩) n c) l) : l.length ≤ c ∧ c ≤ maxLen := by
  obtain ⟨_, _, ⟨h0, _⟩ | ⟨g', cap, _, h0, _, _, h1, h2, _⟩⟩ := h
  · cases h0
  · cases h0
    exact ⟨h1, h2⟩
set_option maxRecDepth 100000 in
set_option maxHeartbeats 6400000 in
theorem decodes7_walk {Ok : World → Prop} (P : PC7 Ok) (u : Value) (RL : List Nat) (s g r : Int) (n0 : Int) (_hn : J64 n0) (cb : Nat) (hcb : cb < 256) (fx : Bool) (w : World) (hw : Ok w) (hu : Sl w u RL) : Calls Tryd.prog 4 #[u, SV s g r, .int .i64 n0, .int .u8 (cb : Int), .bool fx] w fun e w' => e = .returned (.bool true) ∧ Below w.heap.size w w' := by
  have PD := Lib.hid (fun v l W (h : Ok W) => P.dec v l W h)
  have ST := Lib.hid (fun (W W' : World) => P.st (w := W) (w' := W'))
  have AW := Lib.hid (awake7_any P)
  clear P
  have NR := Lib.hid (near_any s g r)
  obtain ⟨k1, k2, k3, k4, k5, k6⟩ := near_ok s g r
  unfold SV at NR ⊢
  generalize s % 4 = s0 at *
  generalize 1 + g % 8 = g0 at *
  generalize r % 4294967296 = r0 at *
  have hok := okS_iff.2 ⟨k1, k2, k3, k4, k5, k6⟩
  have RE := Lib.hid (rencode7_any s0 g0 r0)
  unfold EO SV at RE
  rw [show enE s0 g0 r0 = 0 by unfold enE; rw [if_pos hok]] at RE
  have HLE := Lib.hid (enV_back hok []).2.2
  generalize enV s0 g0 r0 = L at *
  have HCB := Lib.hid hcb
  have HB0 := Lib.hid ((Below.refl w.heap.size w).alloc (Nat.le_refl _) (.cells #[.int .i64 s, .int .i64 g, .int .i64 r] 23))
  clear k1 k2 k3 k4 k5 k6 hok hcb
  obtain ⟨A1, p, hA1, hP1, hW1, hp1⟩ : ∃ (A : Int) (p : Nat), n0.tmod 16 = A ∧ (A + 16).tmod 16 = (p : Int) ∧ wrap64 (A + 16) = A + 16 ∧ p < 16 := by
    have h1 := Int.tmod_lt_of_pos n0 (b := 16) (by omega)
    have h2 := Int.lt_tmod_of_pos n0 (b := 16) (by omega)
    refine ⟨n0.tmod 16, ((n0.tmod 16 + 16) % 16).toNat, rfl, ?_, ?_, by omega⟩
    · rw [Int.tmod_eq_emod_of_nonneg (by omega)]; omega
    · unfold wrap64; omega
  obtain ⟨A2, p2, hA2, hP2, hW2, hp2⟩ : ∃ (A : Int) (p : Nat), n0.tmod 17 = A ∧ (A + 17).tmod 17 = (p : Int) ∧ IntKind.i64.wrap (A + 17) = A + 17 ∧ p < 17 := by
    have h1 := Int.tmod_lt_of_pos n0 (b := 17) (by omega)
    have h2 := Int.lt_tmod_of_pos n0 (b := 17) (by omega)
    refine ⟨n0.tmod 17, ((n0.tmod 17 + 17) % 17).toNat, rfl, ?_, IntWalk.i64_in _ (by omega), by omega⟩
    rw [Int.tmod_eq_emod_of_nonneg (by omega)]; omega
  have HP1 := Lib.hid hp1
  have HP2 := Lib.hid hp2
  clear hp1 hp2
  by_cases hbig : 200 < RL.length
  · obtain ⟨ub, uo, uc, hv, hc1, hc2, -⟩ := sl_cells hu (by omega)
    subst hv
    have HRL0 := (fun W (hB : Below w.heap.size w W) => sl_take (n := 200) (sl_below hu hB) (by omega))
    obtain ⟨un, hun⟩ : ∃ n, n = RL.length := ⟨_, rfl⟩
    have hrn : (RL.take 200).length ≤ 6000 := by simp; omega
    rw [← hun] at hbig hc1 ⊢
    have g6 : decide ((200 : Int) < (un : Int)) = true := decide_eq_true (by omega)
    have p6 : (200 : Int) ≤ (uc : Int) := by omega
    clear hu hun hbig hc1 hc2
    generalize RL.take 200 = RL at *
    have HRL := Lib.hid HRL0
    have HRN := Lib.hid hrn
    clear HRL0 hrn
    go_enter Tryd.func4, Tryd.ntmps4
    go_wp2_with fail
    refine (NR.out _).mono ?_
    rintro e w1 ⟨rfl, hb1⟩
    have B1 := Lib.hid (bt HB0.out hb1)
    clear hb1
    go_wp2_with fail
    refine (RE.out _).mono ?_
    rintro e w2 ⟨⟨v2, rfl, ho⟩, hb2⟩
    have B2 := Lib.hid (bt B1.out hb2)
    obtain ⟨gb, c, hv, hge⟩ := own_pos ho (by rw [HLE.out]; decide)
    rw [HLE.out] at hv
    subst hv
    have hcap := (own_capl ho).1
    rw [HLE.out] at hcap
    have HCAP := Lib.hid hcap
    have HGE := Lib.hid (Nat.le_trans B1.out.size hge)
    obtain ⟨y0, y1, -⟩ := own_cell ho HLE.out HP1.out
    have O3 := Lib.hid (own_base (Nat.le_trans B1.out.size (Nat.le_refl _)) (own_set ho HLE.out HP1.out HCB.out))
    have B3 := Lib.hid (B2.out.setCell (p := ⟨gb, p, none⟩) HGE.out (.int .u8 (cb : Int)))
    have q1 : (p : Int) < 16 := by have := HP1.out; omega
    have q0 : (0 : Int) ≤ (p : Int) := by omega
    have HL3 : Hid ((L.set p cb).length = 16) := by show _ = _; rw [List.length_set]; exact HLE.out
    have q12 : (12 : Int) ≤ (c : Int) := by omega
    have q13 : ¬ c = 12 := by omega
    clear hcap hge hb2 ho
    cases fx
    · go_wp2_with fail
      clear y0 y1 q1 q0 q12 q13 hA1 hP1 hW1
      have OT := O3
      have BT := B3
      have HBL := HL3
      generalize w2.setCell ⟨gb, p, none⟩ (.int .u8 (cb : Int)) = WT at *
      generalize L.set p cb = BL at *
      have HR0 := Lib.hid (HRL.out _ BT.out)
      have HB1 := Lib.hid OT.out.sl
      have HB3 := Lib.hid (sl_take (n := p2) (show Sl WT (.slice (some ⟨gb, 0, none⟩) BL.length c) BL by rw [HBL.out]; exact HB1.out) (by have := HBL.out; have := HP2.out; omega))
      have u4 : (p2 : Int) ≤ (c : Int) := by have := HCAP.out; have := HP2.out; omega
      have u5 : (0 : Int) ≤ (p2 : Int) := by omega
      go_wp2_with fail
      refine wp_onlyN ?_
      have B0' := Lib.hid (Below.refl WT.heap.size WT).drew
      refine wp_region_headsS (fun w' => Below WT.heap.size WT w') [0, 1, 3, 5, 7, 8, 9, 10, 11, 12, 15] 5 (by kernel_rfl) (fun _ _ _ _ _ h => h.elim) (by kernel_rfl) (by rfl) (by rfl) B0'.out ?_
      simp only [pickOps, List.filterMap_cons, List.filterMap_nil, List.getElem?_toArray, List.getElem?_cons_zero, List.getElem?_cons_succ]
      refine wpHeads_step (fun K hK => ?_)
      go_simp
      refine ⟨_, fun _ _ => rfl, hK _ ?_⟩
      clear hK K
      refine wpHeads_step (fun K hK => ?_)
      go_simp
      refine ⟨_, fun _ _ => rfl, hK _ ?_⟩
      clear hK K
      refine wpHeads_step (fun K hK => ?_)
      go_simp
      refine ⟨_, fun _ _ => rfl, hK _ ?_⟩
      clear hK K
      refine wpHeads_step (fun K hK => ?_)
      go_simp
      refine ⟨_, fun _ _ => rfl, hK _ ?_⟩
      clear hK K
      refine wpHeads_step (fun K hK => ?_)
      go_simp
      refine ⟨_, fun _ _ => rfl, hK _ ?_⟩
      clear hK K
      refine wpHeads_step (fun K hK => ?_)
      go_simp
      refine ⟨_, fun _ _ => rfl, hK _ ?_⟩
      clear hK K
      refine wpHeads_step (fun K hK => ?_)
      go_simp
      refine ⟨_, fun _ _ => rfl, hK _ ?_⟩
      clear hK K
      refine wpHeads_step (fun K hK => ?_)
      go_simp
      refine ⟨_, fun _ _ => rfl, hK _ ?_⟩
      clear hK K
      refine wpHeads_step (fun K hK => ?_)
      go_simp
      refine ⟨_, fun _ _ => rfl, hK _ ?_⟩
      clear hK K
      refine wpHeads_step (fun K hK => ?_)
      go_simp
      refine ⟨_, fun _ _ => rfl, hK _ ?_⟩
      clear hK K
      refine wpHeads_step (fun K hK => ?_)
      go_simp
      refine ⟨_, fun _ _ => rfl, hK _ ?_⟩
      clear hK K
      refine wpHeads_nil ?_
      generalize WT.drew = W7 at *
      have OE := Lib.hid (own_empty W7 (base := WT.heap.size) B0'.out.size)
      have BE := Lib.hid (B0'.out.alloc B0'.out.size (.cells #[] 5))
      refine held_g 2 rfl (by kernel_rfl) (by kernel_rfl) fun K hK => ?_
      go_simp
      refine hK _ _ BE.out ?_
      clear hK K
      generalize W7.alloc (.cells #[] 5) = W8 at *
      generalize W7.heap.size = ge at *
      refine held_g 4 rfl (by kernel_rfl) (by kernel_rfl) fun K hK => ?_
      refine wp_app (l := []) (m := BL) rfl rfl OE.out (sl_below HB1.out BE.out) (by have := HBL.out; simp; omega) BE.out.size ?_
      intro v9 W9 ho9 hg9
      have B9 := Lib.hid (BE.out.grown hg9 BE.out.size fun q hq => by have := OE.out.lt q hq; omega)
      rw [List.nil_append] at ho9
      obtain ⟨a9, n9, c9, rfl, -⟩ := own_form ho9
      have O9 := Lib.hid ho9
      refine hK _ _ B9.out ?_
      clear hK K ho9 hg9
      refine held_g 6 rfl (by kernel_rfl) (by kernel_rfl) fun K hK => ?_
      refine wp_app (l := BL) (m := RL) rfl rfl O9.out (sl_below HR0.out B9.out) (by have := HBL.out; have := HRN.out; omega) B9.out.size ?_
      intro v10 W10 ho10 hg10
      have B10 := Lib.hid (B9.out.grown hg10 B9.out.size fun q hq => by have := O9.out.lt q hq; omega)
      obtain ⟨a10, n10, c10, rfl, -⟩ := own_form ho10
      have O10 := Lib.hid ho10
      refine hK _ _ B10.out ?_
      clear hK K ho10 hg10
      have AQ := (Below.refl W10.heap.size W10).alloc (Nat.le_refl _) (.cells #[.slice (some ⟨ub, uo, none⟩) 200 uc, .slice (some ⟨gb, 0, none⟩) 16 c, .slice a10 n10 c10, .slice (some ⟨gb, 0, none⟩) p2 c] 26)
      have XQ := Lib.hid (heap_alloc_new W10 (.cells #[.slice (some ⟨ub, uo, none⟩) 200 uc, .slice (some ⟨gb, 0, none⟩) 16 c, .slice a10 n10 c10, .slice (some ⟨gb, 0, none⟩) p2 c] 26))
      have BQ := bt B10.out AQ
      refine held_g 13 rfl (by kernel_rfl) (by kernel_rfl) fun K hK => ?_
      go_simp
      refine hK _ _ BQ ?_
      clear hK K
      have BQ0 := Lib.hid (bt BT.out BQ)
      have S0 := Lib.hid (sl_below HR0.out BQ)
      have S1 := Lib.hid (sl_below HB1.out BQ)
      have S3 := Lib.hid (sl_below HB3.out BQ)
      have S4 := Lib.hid (sl_below O10.out.sl AQ)
      have BQH := Lib.hid BQ
      clear AQ BQ B9 B10 O9 O10 BE OE
      generalize W10.alloc (.cells #[.slice (some ⟨ub, uo, none⟩) 200 uc, .slice (some ⟨gb, 0, none⟩) 16 c, .slice a10 n10 c10, .slice (some ⟨gb, 0, none⟩) p2 c] 26) = W0 at *
      generalize W10.heap.size = q at *
      refine held_g 14 rfl (by kernel_rfl) (by kernel_rfl) fun K hK => ?_
      go_simp
      refine hK _ _ BQH.out ?_
      clear hK K
      refine wpAnyH_done (by kernel_rfl) ?_ _
      unfold onlyN
      dsimp only
      clear BQH HR0 HB1 HB3 B0' BT u4 u5 hA2 hP2 hW2
      go_wp2_with fail
      go_loopw [14, 15, 16, 17, 18, 59] (fun _ _ _ _ _ t wr => ∃ i : Nat, i ≤ 4 ∧ t = .int .i64 (i : Int) ∧ Below W0.heap.size W0 wr) (fun _ _ _ _ _ t _ => 4 - (intOf t).toNat)
      case atStart => exact ⟨0, by omega, rfl, Below.refl _ _⟩
      case round =>
        obtain ⟨i, hi, rfl, hB⟩ := hrel
        by_cases hi2 : i < 4
        · obtain ⟨sv, lv, hc, hs⟩ : ∃ sv lv, wr.cell? ⟨q, i, none⟩ = some sv ∧ (∀ W, Below W0.heap.size W0 W → Sl W sv lv) := by
            have hx := (hB.block q (lt_of_some XQ.out)).trans XQ.out
            rcases (show i = 0 ∨ i = 1 ∨ i = 2 ∨ i = 3 by omega) with rfl | rfl | rfl | rfl
            · exact ⟨_, _, cell_of_row wr q 0 _ _ _ hx, fun W hW => sl_below S0.out hW⟩
            · exact ⟨_, _, cell_of_row wr q 1 _ _ _ hx, fun W hW => sl_below S1.out hW⟩
            · exact ⟨_, _, cell_of_row wr q 2 _ _ _ hx, fun W hW => sl_below S4.out hW⟩
            · exact ⟨_, _, cell_of_row wr q 3 _ _ _ hx, fun W hW => sl_below S3.out hW⟩
          obtain ⟨la, lc, rfl, -, -⟩ := sl_form (hs wr hB)
          have HS := Lib.hid hs
          have HB := Lib.hid hB
          generalize lv.length = ln at *
          have g0' : decide ((i : Int) < 4) = true := decide_eq_true (by omega)
          have p0 : (0 : Int) ≤ (i : Int) := by omega
          have p1 : (i : Int) < 4 := by omega
          obtain ⟨a, b, d, hv⟩ : ∃ a b d : Int, dX7 lv = SV a b d := by unfold dX7; split <;> exact ⟨_, _, _, rfl⟩
          have D1 := Lib.hid (PD.out _ lv wr (ST.out _ _ hw (bt BQ0.out HB.out)) (HS.out _ HB.out))
          have RD := Lib.hid (fun W (hW : Below W0.heap.size W0 W) => rdecode7_any _ lv W (HS.out W hW))
          rw [hv] at D1 RD
          unfold DS SV at D1 RD
          generalize dE7 lv = E at *
          clear hs hB hi hv
          go_wp2_with fail
          refine D1.out.mono ?_
          rintro e w3 ⟨rfl, hb3⟩
          have AL := (Below.refl w3.heap.size w3).alloc (Nat.le_refl _) (.cells #[.int .i64 a, .int .i64 b, .int .i64 d] 23)
          have B4 := Lib.hid (bt (bt HB.out hb3) AL)
          have X4 := Lib.hid (heap_alloc_new w3 (.cells #[.int .i64 a, .int .i64 b, .int .i64 d] 23))
          clear AL hb3 D1
          go_wp2_with fail
          refine (RD.out _ B4.out).mono ?_
          rintro e w5 ⟨rfl, hb5⟩
          have AL := (Below.refl w5.heap.size w5).alloc (Nat.le_refl _) (.cells #[.int .i64 a, .int .i64 b, .int .i64 d] 23)
          have B6 := Lib.hid (bt (bt B4.out hb5) AL)
          have hx6 := (AL.block _ (lt_of_some ((hb5.block _ (lt_of_some X4.out)).trans X4.out))).trans ((hb5.block _ (lt_of_some X4.out)).trans X4.out)
          have hx7 := heap_alloc_new w5 (.cells #[.int .i64 a, .int .i64 b, .int .i64 d] 23)
          obtain ⟨q0, q1, q2, -, -, -⟩ := bx3 hx6
          obtain ⟨r0', r1, r2, -, -, -⟩ := bx3 hx7
          clear AL hb5 hx6 hx7 X4 RD
          go_wp2_with fail
          go_roundw
          case rel => exact ⟨i + 1, by omega, by go_num, B6.out⟩
          case measure => simp [intOf]; omega
        · obtain rfl : i = 4 := by omega
          have HB := Lib.hid hB
          clear hB hi hi2
          go_wp2_with fail
          refine (AW.out _ (ST.out _ _ hw (bt BQ0.out HB.out))).mono ?_
          rintro e w4 ⟨rfl, hb4⟩
          have B4 := Lib.hid (bt (bt BQ0.out HB.out) hb4)
          clear hb4 HB
          go_wp2_with fail
          go_ret
          exact ⟨rfl, B4.out⟩
    · go_wp2_with fail
      clear y0 y1 q1 q0 hA1 hP1 hW1
      refine wp_region_any (by kernel_rfl) ?_
      change wpAny _ _ _ _ _ _ _ (w2.setCell ⟨gb, p, none⟩ (.int .u8 (cb : Int))).drew
      have O4 := Lib.hid O3.out.drew
      have B4 := Lib.hid B3.out.drew
      generalize (w2.setCell ⟨gb, p, none⟩ (.int .u8 (cb : Int))).drew = W4 at *
      generalize L.set p cb = L3 at *
      refine wpAny_take (i := 0) (v := .slice (some ⟨gb, 0, none⟩) 16 c) rfl (by kernel_rfl) (by kernel_rfl) (by kernel_rfl) (fun _ _ _ h => h) (Or.inl ⟨by kernel_rfl, fun w => by go_simp⟩) ?_
      refine wpAny_take (i := 1) (v := .slice (some ⟨gb, 12, none⟩) 4 (c - 12)) rfl (by kernel_rfl) (by kernel_rfl) (by kernel_rfl) (fun _ _ _ h => h) (Or.inl ⟨by kernel_rfl, fun w => by go_simp⟩) ?_
      refine wpAny_take (i := 2) (v := .slice (some ⟨gb, 0, none⟩) 16 c) rfl (by kernel_rfl) (by kernel_rfl) (by kernel_rfl) (fun _ _ _ h => h) (Or.inl ⟨by kernel_rfl, fun w => by go_simp⟩) ?_
      refine wpAny_take (i := 3) (v := .slice (some ⟨gb, 0, none⟩) 12 c) rfl (by kernel_rfl) (by kernel_rfl) (by kernel_rfl) (fun _ _ _ h => h) (Or.inl ⟨by kernel_rfl, fun w => by go_simp⟩) ?_
      refine any_tail 4 (by kernel_rfl) ?_
      simp only [List.drop_succ_cons, List.drop_zero]
      have S12 := Lib.hid (sl_take (n := 12) (show Sl W4 (.slice (some ⟨gb, 0, none⟩) L3.length c) L3 by rw [HL3.out]; exact O4.out.sl) (by rw [HL3.out]; decide))
      go_wp2_with (first
        | (go_at_call 16; refine (check_any _ _ _ S12.out).mono ?_; rintro e w5 ⟨⟨s5, rfl, ho5⟩, hb5⟩; obtain ⟨a5, n5, c5, rfl, hn5⟩ := own_form ho5; rw [leL_length] at hn5; subst hn5; have S5 := Lib.hid ho5.sl; have O5 := Lib.hid (own_below' O4.out hb5); have B5 := Lib.hid (bt B4.out hb5); clear ho5 hb5)
        | (refine copy_into (dst := some 43) (off := 12) (k := 4) (dl := 4) (dc := c - 12) (n := 16) (R := leL (ext 0 (L3.take 12))) ?_ ?_ O5.out HL3.out S5.out (leL_length _) (by decide) (by decide) (by decide) ?_; exact rfl; exact rfl; intro z6 w6 ho6 hg6; have OT := Lib.hid ho6; have BT := Lib.hid (B5.out.grown hg6 B5.out.size (fun q hq => by cases hq; exact HGE.out)); clear ho6 hg6))
      have HBL : Hid ((L3.take 12 ++ (leL (ext 0 (L3.take 12)) ++ L3.drop (12 + 4))).length = 16) := by
        show _ = _
        have := HL3.out
        simp only [List.length_append, List.length_take, List.length_drop, leL_length]
        omega
      generalize L3.take 12 ++ (leL (ext 0 (L3.take 12)) ++ L3.drop (12 + 4)) = BL at *
      clear O5 S5 B5 S12 O4 B4 O3 B3 HL3 q12 q13
      have HR0 := Lib.hid (HRL.out _ BT.out)
      have HB1 := Lib.hid OT.out.sl
      have HB3 := Lib.hid (sl_take (n := p2) (show Sl w6 (.slice (some ⟨gb, 0, none⟩) BL.length c) BL by rw [HBL.out]; exact HB1.out) (by have := HBL.out; have := HP2.out; omega))
      have u4 : (p2 : Int) ≤ (c : Int) := by have := HCAP.out; have := HP2.out; omega
      have u5 : (0 : Int) ≤ (p2 : Int) := by omega
      go_wp2_with fail
      refine wp_onlyN ?_
      have B0' := Lib.hid (Below.refl w6.heap.size w6).drew
      refine wp_region_headsS (fun w' => Below w6.heap.size w6 w') [0, 1, 3, 5, 7, 8, 9, 10, 11, 12, 15] 5 (by kernel_rfl) (fun _ _ _ _ _ h => h.elim) (by kernel_rfl) (by rfl) (by rfl) B0'.out ?_
      simp only [pickOps, List.filterMap_cons, List.filterMap_nil, List.getElem?_toArray, List.getElem?_cons_zero, List.getElem?_cons_succ]
      refine wpHeads_step (fun K hK => ?_)
      go_simp
      refine ⟨_, fun _ _ => rfl, hK _ ?_⟩
      clear hK K
      refine wpHeads_step (fun K hK => ?_)
      go_simp
      refine ⟨_, fun _ _ => rfl, hK _ ?_⟩
      clear hK K
      refine wpHeads_step (fun K hK => ?_)
      go_simp
      refine ⟨_, fun _ _ => rfl, hK _ ?_⟩
      clear hK K
      refine wpHeads_step (fun K hK => ?_)
      go_simp
      refine ⟨_, fun _ _ => rfl, hK _ ?_⟩
      clear hK K
      refine wpHeads_step (fun K hK => ?_)
      go_simp
      refine ⟨_, fun _ _ => rfl, hK _ ?_⟩
      clear hK K
      refine wpHeads_step (fun K hK => ?_)
      go_simp
      refine ⟨_, fun _ _ => rfl, hK _ ?_⟩
      clear hK K
      refine wpHeads_step (fun K hK => ?_)
      go_simp
      refine ⟨_, fun _ _ => rfl, hK _ ?_⟩
      clear hK K
      refine wpHeads_step (fun K hK => ?_)
      go_simp
      refine ⟨_, fun _ _ => rfl, hK _ ?_⟩
      clear hK K
      refine wpHeads_step (fun K hK => ?_)
      go_simp
      refine ⟨_, fun _ _ => rfl, hK _ ?_⟩
      clear hK K
      refine wpHeads_step (fun K hK => ?_)
      go_simp
      refine ⟨_, fun _ _ => rfl, hK _ ?_⟩
      clear hK K
      refine wpHeads_step (fun K hK => ?_)
      go_simp
      refine ⟨_, fun _ _ => rfl, hK _ ?_⟩
      clear hK K
      refine wpHeads_nil ?_
      generalize w6.drew = W7 at *
      have OE := Lib.hid (own_empty W7 (base := w6.heap.size) B0'.out.size)
      have BE := Lib.hid (B0'.out.alloc B0'.out.size (.cells #[] 5))
      refine held_g 2 rfl (by kernel_rfl) (by kernel_rfl) fun K hK => ?_
      go_simp
      refine hK _ _ BE.out ?_
      clear hK K
      generalize W7.alloc (.cells #[] 5) = W8 at *
      generalize W7.heap.size = ge at *
      refine held_g 4 rfl (by kernel_rfl) (by kernel_rfl) fun K hK => ?_
      refine wp_app (l := []) (m := BL) rfl rfl OE.out (sl_below HB1.out BE.out) (by have := HBL.out; simp; omega) BE.out.size ?_
      intro v9 W9 ho9 hg9
      have B9 := Lib.hid (BE.out.grown hg9 BE.out.size fun q hq => by have := OE.out.lt q hq; omega)
      rw [List.nil_append] at ho9
      obtain ⟨a9, n9, c9, rfl, -⟩ := own_form ho9
      have O9 := Lib.hid ho9
      refine hK _ _ B9.out ?_
      clear hK K ho9 hg9
      refine held_g 6 rfl (by kernel_rfl) (by kernel_rfl) fun K hK => ?_
      refine wp_app (l := BL) (m := RL) rfl rfl O9.out (sl_below HR0.out B9.out) (by have := HBL.out; have := HRN.out; omega) B9.out.size ?_
      intro v10 W10 ho10 hg10
      have B10 := Lib.hid (B9.out.grown hg10 B9.out.size fun q hq => by have := O9.out.lt q hq; omega)
      obtain ⟨a10, n10, c10, rfl, -⟩ := own_form ho10
      have O10 := Lib.hid ho10
      refine hK _ _ B10.out ?_
      clear hK K ho10 hg10
      have AQ := (Below.refl W10.heap.size W10).alloc (Nat.le_refl _) (.cells #[.slice (some ⟨ub, uo, none⟩) 200 uc, .slice (some ⟨gb, 0, none⟩) 16 c, .slice a10 n10 c10, .slice (some ⟨gb, 0, none⟩) p2 c] 26)
      have XQ := Lib.hid (heap_alloc_new W10 (.cells #[.slice (some ⟨ub, uo, none⟩) 200 uc, .slice (some ⟨gb, 0, none⟩) 16 c, .slice a10 n10 c10, .slice (some ⟨gb, 0, none⟩) p2 c] 26))
      have BQ := bt B10.out AQ
      refine held_g 13 rfl (by kernel_rfl) (by kernel_rfl) fun K hK => ?_
      go_simp
      refine hK _ _ BQ ?_
      clear hK K
      have BQ0 := Lib.hid (bt BT.out BQ)
      have S0 := Lib.hid (sl_below HR0.out BQ)
      have S1 := Lib.hid (sl_below HB1.out BQ)
      have S3 := Lib.hid (sl_below HB3.out BQ)
      have S4 := Lib.hid (sl_below O10.out.sl AQ)
      have BQH := Lib.hid BQ
      clear AQ BQ B9 B10 O9 O10 BE OE
      generalize W10.alloc (.cells #[.slice (some ⟨ub, uo, none⟩) 200 uc, .slice (some ⟨gb, 0, none⟩) 16 c, .slice a10 n10 c10, .slice (some ⟨gb, 0, none⟩) p2 c] 26) = W0 at *
      generalize W10.heap.size = q at *
      refine held_g 14 rfl (by kernel_rfl) (by kernel_rfl) fun K hK => ?_
      go_simp
      refine hK _ _ BQH.out ?_
      clear hK K
      refine wpAnyH_done (by kernel_rfl) ?_ _
      unfold onlyN
      dsimp only
      clear BQH HR0 HB1 HB3 B0' BT u4 u5 hA2 hP2 hW2
      go_wp2_with fail
      go_loopw [14, 15, 16, 17, 18, 59] (fun _ _ _ _ _ t wr => ∃ i : Nat, i ≤ 4 ∧ t = .int .i64 (i : Int) ∧ Below W0.heap.size W0 wr) (fun _ _ _ _ _ t _ => 4 - (intOf t).toNat)
      case atStart => exact ⟨0, by omega, rfl, Below.refl _ _⟩
      case round =>
        obtain ⟨i, hi, rfl, hB⟩ := hrel
        by_cases hi2 : i < 4
        · obtain ⟨sv, lv, hc, hs⟩ : ∃ sv lv, wr.cell? ⟨q, i, none⟩ = some sv ∧ (∀ W, Below W0.heap.size W0 W → Sl W sv lv) := by
            have hx := (hB.block q (lt_of_some XQ.out)).trans XQ.out
            rcases (show i = 0 ∨ i = 1 ∨ i = 2 ∨ i = 3 by omega) with rfl | rfl | rfl | rfl
            · exact ⟨_, _, cell_of_row wr q 0 _ _ _ hx, fun W hW => sl_below S0.out hW⟩
            · exact ⟨_, _, cell_of_row wr q 1 _ _ _ hx, fun W hW => sl_below S1.out hW⟩
            · exact ⟨_, _, cell_of_row wr q 2 _ _ _ hx, fun W hW => sl_below S4.out hW⟩
            · exact ⟨_, _, cell_of_row wr q 3 _ _ _ hx, fun W hW => sl_below S3.out hW⟩
          obtain ⟨la, lc, rfl, -, -⟩ := sl_form (hs wr hB)
          have HS := Lib.hid hs
          have HB := Lib.hid hB
          generalize lv.length = ln at *
          have g0' : decide ((i : Int) < 4) = true := decide_eq_true (by omega)
          have p0 : (0 : Int) ≤ (i : Int) := by omega
          have p1 : (i : Int) < 4 := by omega
          obtain ⟨a, b, d, hv⟩ : ∃ a b d : Int, dX7 lv = SV a b d := by unfold dX7; split <;> exact ⟨_, _, _, rfl⟩
          have D1 := Lib.hid (PD.out _ lv wr (ST.out _ _ hw (bt BQ0.out HB.out)) (HS.out _ HB.out))
          have RD := Lib.hid (fun W (hW : Below W0.heap.size W0 W) => rdecode7_any _ lv W (HS.out W hW))
          rw [hv] at D1 RD
          unfold DS SV at D1 RD
          generalize dE7 lv = E at *
          clear hs hB hi hv
          go_wp2_with fail
          refine D1.out.mono ?_
          rintro e w3 ⟨rfl, hb3⟩
          have AL := (Below.refl w3.heap.size w3).alloc (Nat.le_refl _) (.cells #[.int .i64 a, .int .i64 b, .int .i64 d] 23)
          have B4 := Lib.hid (bt (bt HB.out hb3) AL)
          have X4 := Lib.hid (heap_alloc_new w3 (.cells #[.int .i64 a, .int .i64 b, .int .i64 d] 23))
          clear AL hb3 D1
          go_wp2_with fail
          refine (RD.out _ B4.out).mono ?_
          rintro e w5 ⟨rfl, hb5⟩
          have AL := (Below.refl w5.heap.size w5).alloc (Nat.le_refl _) (.cells #[.int .i64 a, .int .i64 b, .int .i64 d] 23)
          have B6 := Lib.hid (bt (bt B4.out hb5) AL)
          have hx6 := (AL.block _ (lt_of_some ((hb5.block _ (lt_of_some X4.out)).trans X4.out))).trans ((hb5.block _ (lt_of_some X4.out)).trans X4.out)
          have hx7 := heap_alloc_new w5 (.cells #[.int .i64 a, .int .i64 b, .int .i64 d] 23)
          obtain ⟨q0, q1, q2, -, -, -⟩ := bx3 hx6
          obtain ⟨r0', r1, r2, -, -, -⟩ := bx3 hx7
          clear AL hb5 hx6 hx7 X4 RD
          go_wp2_with fail
          go_roundw
          case rel => exact ⟨i + 1, by omega, by go_num, B6.out⟩
          case measure => simp [intOf]; omega
        · obtain rfl : i = 4 := by omega
          have HB := Lib.hid hB
          clear hB hi hi2
          go_wp2_with fail
          refine (AW.out _ (ST.out _ _ hw (bt BQ0.out HB.out))).mono ?_
          rintro e w4 ⟨rfl, hb4⟩
          have B4 := Lib.hid (bt (bt BQ0.out HB.out) hb4)
          clear hb4 HB
          go_wp2_with fail
          go_ret
          exact ⟨rfl, B4.out⟩
  · obtain ⟨ua, uc, rfl, -, -⟩ := sl_form hu
    have HRN : Hid (RL.length ≤ 6000) := by show _ ≤ _; omega
    obtain ⟨un, hun⟩ : ∃ n, n = RL.length := ⟨_, rfl⟩
    rw [← hun] at hbig hu ⊢
    have HRL := Lib.hid (fun W (hB : Below w.heap.size w W) => sl_below hu hB)
    have g6 : decide ((200 : Int) < (un : Int)) = false := decide_eq_false (by omega)
    clear hu hun hbig
    go_enter Tryd.func4, Tryd.ntmps4
    go_wp2_with fail
    refine (NR.out _).mono ?_
    rintro e w1 ⟨rfl, hb1⟩
    have B1 := Lib.hid (bt HB0.out hb1)
    clear hb1
    go_wp2_with fail
    refine (RE.out _).mono ?_
    rintro e w2 ⟨⟨v2, rfl, ho⟩, hb2⟩
    have B2 := Lib.hid (bt B1.out hb2)
    obtain ⟨gb, c, hv, hge⟩ := own_pos ho (by rw [HLE.out]; decide)
    rw [HLE.out] at hv
    subst hv
    have hcap := (own_capl ho).1
    rw [HLE.out] at hcap
    have HCAP := Lib.hid hcap
    have HGE := Lib.hid (Nat.le_trans B1.out.size hge)
    obtain ⟨y0, y1, -⟩ := own_cell ho HLE.out HP1.out
    have O3 := Lib.hid (own_base (Nat.le_trans B1.out.size (Nat.le_refl _)) (own_set ho HLE.out HP1.out HCB.out))
    have B3 := Lib.hid (B2.out.setCell (p := ⟨gb, p, none⟩) HGE.out (.int .u8 (cb : Int)))
    have q1 : (p : Int) < 16 := by have := HP1.out; omega
    have q0 : (0 : Int) ≤ (p : Int) := by omega
    have HL3 : Hid ((L.set p cb).length = 16) := by show _ = _; rw [List.length_set]; exact HLE.out
    have q12 : (12 : Int) ≤ (c : Int) := by omega
    have q13 : ¬ c = 12 := by omega
    clear hcap hge hb2 ho
    cases fx
    · go_wp2_with fail
      clear y0 y1 q1 q0 q12 q13 hA1 hP1 hW1
      have OT := O3
      have BT := B3
      have HBL := HL3
      generalize w2.setCell ⟨gb, p, none⟩ (.int .u8 (cb : Int)) = WT at *
      generalize L.set p cb = BL at *
      have HR0 := Lib.hid (HRL.out _ BT.out)
      have HB1 := Lib.hid OT.out.sl
      have HB3 := Lib.hid (sl_take (n := p2) (show Sl WT (.slice (some ⟨gb, 0, none⟩) BL.length c) BL by rw [HBL.out]; exact HB1.out) (by have := HBL.out; have := HP2.out; omega))
      have u4 : (p2 : Int) ≤ (c : Int) := by have := HCAP.out; have := HP2.out; omega
      have u5 : (0 : Int) ≤ (p2 : Int) := by omega
      go_wp2_with fail
      refine wp_onlyN ?_
      have B0' := Lib.hid (Below.refl WT.heap.size WT).drew
      refine wp_region_headsS (fun w' => Below WT.heap.size WT w') [0, 1, 3, 5, 7, 8, 9, 10, 11, 12, 15] 5 (by kernel_rfl) (fun _ _ _ _ _ h => h.elim) (by kernel_rfl) (by rfl) (by rfl) B0'.out ?_
      simp only [pickOps, List.filterMap_cons, List.filterMap_nil, List.getElem?_toArray, List.getElem?_cons_zero, List.getElem?_cons_succ]
      refine wpHeads_step (fun K hK => ?_)
      go_simp
      refine ⟨_, fun _ _ => rfl, hK _ ?_⟩
      clear hK K
      refine wpHeads_step (fun K hK => ?_)
      go_simp
      refine ⟨_, fun _ _ => rfl, hK _ ?_⟩
      clear hK K
      refine wpHeads_step (fun K hK => ?_)
      go_simp
      refine ⟨_, fun _ _ => rfl, hK _ ?_⟩
      clear hK K
      refine wpHeads_step (fun K hK => ?_)
      go_simp
      refine ⟨_, fun _ _ => rfl, hK _ ?_⟩
      clear hK K
      refine wpHeads_step (fun K hK => ?_)
      go_simp
      refine ⟨_, fun _ _ => rfl, hK _ ?_⟩
      clear hK K
      refine wpHeads_step (fun K hK => ?_)
      go_simp
      refine ⟨_, fun _ _ => rfl, hK _ ?_⟩
      clear hK K
      refine wpHeads_step (fun K hK => ?_)
      go_simp
      refine ⟨_, fun _ _ => rfl, hK _ ?_⟩
      clear hK K
      refine wpHeads_step (fun K hK => ?_)
      go_simp
      refine ⟨_, fun _ _ => rfl, hK _ ?_⟩
      clear hK K
      refine wpHeads_step (fun K hK => ?_)
      go_simp
      refine ⟨_, fun _ _ => rfl, hK _ ?_⟩
      clear hK K
      refine wpHeads_step (fun K hK => ?_)
      go_simp
      refine ⟨_, fun _ _ => rfl, hK _ ?_⟩
      clear hK K
      refine wpHeads_step (fun K hK => ?_)
      go_simp
      refine ⟨_, fun _ _ => rfl, hK _ ?_⟩
      clear hK K
      refine wpHeads_nil ?_
      generalize WT.drew = W7 at *
      have OE := Lib.hid (own_empty W7 (base := WT.heap.size) B0'.out.size)
      have BE := Lib.hid (B0'.out.alloc B0'.out.size (.cells #[] 5))
      refine held_g 2 rfl (by kernel_rfl) (by kernel_rfl) fun K hK => ?_
      go_simp
      refine hK _ _ BE.out ?_
      clear hK K
      generalize W7.alloc (.cells #[] 5) = W8 at *
      generalize W7.heap.size = ge at *
      refine held_g 4 rfl (by kernel_rfl) (by kernel_rfl) fun K hK => ?_
      refine wp_app (l := []) (m := BL) rfl rfl OE.out (sl_below HB1.out BE.out) (by have := HBL.out; simp; omega) BE.out.size ?_
      intro v9 W9 ho9 hg9
      have B9 := Lib.hid (BE.out.grown hg9 BE.out.size fun q hq => by have := OE.out.lt q hq; omega)
      rw [List.nil_append] at ho9
      obtain ⟨a9, n9, c9, rfl, -⟩ := own_form ho9
      have O9 := Lib.hid ho9
      refine hK _ _ B9.out ?_
      clear hK K ho9 hg9
      refine held_g 6 rfl (by kernel_rfl) (by kernel_rfl) fun K hK => ?_
      refine wp_app (l := BL) (m := RL) rfl rfl O9.out (sl_below HR0.out B9.out) (by have := HBL.out; have := HRN.out; omega) B9.out.size ?_
      intro v10 W10 ho10 hg10
      have B10 := Lib.hid (B9.out.grown hg10 B9.out.size fun q hq => by have := O9.out.lt q hq; omega)
      obtain ⟨a10, n10, c10, rfl, -⟩ := own_form ho10
      have O10 := Lib.hid ho10
      refine hK _ _ B10.out ?_
      clear hK K ho10 hg10
      have AQ := (Below.refl W10.heap.size W10).alloc (Nat.le_refl _) (.cells #[.slice ua un uc, .slice (some ⟨gb, 0, none⟩) 16 c, .slice a10 n10 c10, .slice (some ⟨gb, 0, none⟩) p2 c] 26)
      have XQ := Lib.hid (heap_alloc_new W10 (.cells #[.slice ua un uc, .slice (some ⟨gb, 0, none⟩) 16 c, .slice a10 n10 c10, .slice (some ⟨gb, 0, none⟩) p2 c] 26))
      have BQ := bt B10.out AQ
      refine held_g 13 rfl (by kernel_rfl) (by kernel_rfl) fun K hK => ?_
      go_simp
      refine hK _ _ BQ ?_
      clear hK K
      have BQ0 := Lib.hid (bt BT.out BQ)
      have S0 := Lib.hid (sl_below HR0.out BQ)
      have S1 := Lib.hid (sl_below HB1.out BQ)
      have S3 := Lib.hid (sl_below HB3.out BQ)
      have S4 := Lib.hid (sl_below O10.out.sl AQ)
      have BQH := Lib.hid BQ
      clear AQ BQ B9 B10 O9 O10 BE OE
      generalize W10.alloc (.cells #[.slice ua un uc, .slice (some ⟨gb, 0, none⟩) 16 c, .slice a10 n10 c10, .slice (some ⟨gb, 0, none⟩) p2 c] 26) = W0 at *
      generalize W10.heap.size = q at *
      refine held_g 14 rfl (by kernel_rfl) (by kernel_rfl) fun K hK => ?_
      go_simp
      refine hK _ _ BQH.out ?_
      clear hK K
      refine wpAnyH_done (by kernel_rfl) ?_ _
      unfold onlyN
      dsimp only
      clear BQH HR0 HB1 HB3 B0' BT u4 u5 hA2 hP2 hW2
      go_wp2_with fail
      go_loopw [14, 15, 16, 17, 18, 59] (fun _ _ _ _ _ t wr => ∃ i : Nat, i ≤ 4 ∧ t = .int .i64 (i : Int) ∧ Below W0.heap.size W0 wr) (fun _ _ _ _ _ t _ => 4 - (intOf t).toNat)
      case atStart => exact ⟨0, by omega, rfl, Below.refl _ _⟩
      case round =>
        obtain ⟨i, hi, rfl, hB⟩ := hrel
        by_cases hi2 : i < 4
        · obtain ⟨sv, lv, hc, hs⟩ : ∃ sv lv, wr.cell? ⟨q, i, none⟩ = some sv ∧ (∀ W, Below W0.heap.size W0 W → Sl W sv lv) := by
            have hx := (hB.block q (lt_of_some XQ.out)).trans XQ.out
            rcases (show i = 0 ∨ i = 1 ∨ i = 2 ∨ i = 3 by omega) with rfl | rfl | rfl | rfl
            · exact ⟨_, _, cell_of_row wr q 0 _ _ _ hx, fun W hW => sl_below S0.out hW⟩
            · exact ⟨_, _, cell_of_row wr q 1 _ _ _ hx, fun W hW => sl_below S1.out hW⟩
            · exact ⟨_, _, cell_of_row wr q 2 _ _ _ hx, fun W hW => sl_below S4.out hW⟩
            · exact ⟨_, _, cell_of_row wr q 3 _ _ _ hx, fun W hW => sl_below S3.out hW⟩
          obtain ⟨la, lc, rfl, -, -⟩ := sl_form (hs wr hB)
          have HS := Lib.hid hs
          have HB := Lib.hid hB
          generalize lv.length = ln at *
          have g0' : decide ((i : Int) < 4) = true := decide_eq_true (by omega)
          have p0 : (0 : Int) ≤ (i : Int) := by omega
          have p1 : (i : Int) < 4 := by omega
          obtain ⟨a, b, d, hv⟩ : ∃ a b d : Int, dX7 lv = SV a b d := by unfold dX7; split <;> exact ⟨_, _, _, rfl⟩
          have D1 := Lib.hid (PD.out _ lv wr (ST.out _ _ hw (bt BQ0.out HB.out)) (HS.out _ HB.out))
          have RD := Lib.hid (fun W (hW : Below W0.heap.size W0 W) => rdecode7_any _ lv W (HS.out W hW))
          rw [hv] at D1 RD
          unfold DS SV at D1 RD
          generalize dE7 lv = E at *
          clear hs hB hi hv
          go_wp2_with fail
          refine D1.out.mono ?_
          rintro e w3 ⟨rfl, hb3⟩
          have AL := (Below.refl w3.heap.size w3).alloc (Nat.le_refl _) (.cells #[.int .i64 a, .int .i64 b, .int .i64 d] 23)
          have B4 := Lib.hid (bt (bt HB.out hb3) AL)
          have X4 := Lib.hid (heap_alloc_new w3 (.cells #[.int .i64 a, .int .i64 b, .int .i64 d] 23))
          clear AL hb3 D1
          go_wp2_with fail
          refine (RD.out _ B4.out).mono ?_
          rintro e w5 ⟨rfl, hb5⟩
          have AL := (Below.refl w5.heap.size w5).alloc (Nat.le_refl _) (.cells #[.int .i64 a, .int .i64 b, .int .i64 d] 23)
          have B6 := Lib.hid (bt (bt B4.out hb5) AL)
          have hx6 := (AL.block _ (lt_of_some ((hb5.block _ (lt_of_some X4.out)).trans X4.out))).trans ((hb5.block _ (lt_of_some X4.out)).trans X4.out)
          have hx7 := heap_alloc_new w5 (.cells #[.int .i64 a, .int .i64 b, .int .i64 d] 23)
          obtain ⟨q0, q1, q2, -, -, -⟩ := bx3 hx6
          obtain ⟨r0', r1, r2, -, -, -⟩ := bx3 hx7
          clear AL hb5 hx6 hx7 X4 RD
          go_wp2_with fail
          go_roundw
          case rel => exact ⟨i + 1, by omega, by go_num, B6.out⟩
          case measure => simp [intOf]; omega
        · obtain rfl : i = 4 := by omega
          have HB := Lib.hid hB
          clear hB hi hi2
          go_wp2_with fail
          refine (AW.out _ (ST.out _ _ hw (bt BQ0.out HB.out))).mono ?_
          rintro e w4 ⟨rfl, hb4⟩
          have B4 := Lib.hid (bt (bt BQ0.out HB.out) hb4)
          clear hb4 HB
          go_wp2_with fail
          go_ret
          exact ⟨rfl, B4.out⟩
    · go_wp2_with fail
      clear y0 y1 q1 q0 hA1 hP1 hW1
      refine wp_region_any (by kernel_rfl) ?_
      change wpAny _ _ _ _ _ _ _ (w2.setCell ⟨gb, p, none⟩ (.int .u8 (cb : Int))).drew
      have O4 := Lib.hid O3.out.drew
      have B4 := Lib.hid B3.out.drew
      generalize (w2.setCell ⟨gb, p, none⟩ (.int .u8 (cb : Int))).drew = W4 at *
      generalize L.set p cb = L3 at *
      refine wpAny_take (i := 0) (v := .slice (some ⟨gb, 0, none⟩) 16 c) rfl (by kernel_rfl) (by kernel_rfl) (by kernel_rfl) (fun _ _ _ h => h) (Or.inl ⟨by kernel_rfl, fun w => by go_simp⟩) ?_
      refine wpAny_take (i := 1) (v := .slice (some ⟨gb, 12, none⟩) 4 (c - 12)) rfl (by kernel_rfl) (by kernel_rfl) (by kernel_rfl) (fun _ _ _ h => h) (Or.inl ⟨by kernel_rfl, fun w => by go_simp⟩) ?_
      refine wpAny_take (i := 2) (v := .slice (some ⟨gb, 0, none⟩) 16 c) rfl (by kernel_rfl) (by kernel_rfl) (by kernel_rfl) (fun _ _ _ h => h) (Or.inl ⟨by kernel_rfl, fun w => by go_simp⟩) ?_
      refine wpAny_take (i := 3) (v := .slice (some ⟨gb, 0, none⟩) 12 c) rfl (by kernel_rfl) (by kernel_rfl) (by kernel_rfl) (fun _ _ _ h => h) (Or.inl ⟨by kernel_rfl, fun w => by go_simp⟩) ?_
      refine any_tail 4 (by kernel_rfl) ?_
      simp only [List.drop_succ_cons, List.drop_zero]
      have S12 := Lib.hid (sl_take (n := 12) (show Sl W4 (.slice (some ⟨gb, 0, none⟩) L3.length c) L3 by rw [HL3.out]; exact O4.out.sl) (by rw [HL3.out]; decide))
      go_wp2_with (first
        | (go_at_call 16; refine (check_any _ _ _ S12.out).mono ?_; rintro e w5 ⟨⟨s5, rfl, ho5⟩, hb5⟩; obtain ⟨a5, n5, c5, rfl, hn5⟩ := own_form ho5; rw [leL_length] at hn5; subst hn5; have S5 := Lib.hid ho5.sl; have O5 := Lib.hid (own_below' O4.out hb5); have B5 := Lib.hid (bt B4.out hb5); clear ho5 hb5)
        | (refine copy_into (dst := some 43) (off := 12) (k := 4) (dl := 4) (dc := c - 12) (n := 16) (R := leL (ext 0 (L3.take 12))) ?_ ?_ O5.out HL3.out S5.out (leL_length _) (by decide) (by decide) (by decide) ?_; exact rfl; exact rfl; intro z6 w6 ho6 hg6; have OT := Lib.hid ho6; have BT := Lib.hid (B5.out.grown hg6 B5.out.size (fun q hq => by cases hq; exact HGE.out)); clear ho6 hg6))
      have HBL : Hid ((L3.take 12 ++ (leL (ext 0 (L3.take 12)) ++ L3.drop (12 + 4))).length = 16) := by
        show _ = _
        have := HL3.out
        simp only [List.length_append, List.length_take, List.length_drop, leL_length]
        omega
      generalize L3.take 12 ++ (leL (ext 0 (L3.take 12)) ++ L3.drop (12 + 4)) = BL at *
      clear O5 S5 B5 S12 O4 B4 O3 B3 HL3 q12 q13
      have HR0 := Lib.hid (HRL.out _ BT.out)
      have HB1 := Lib.hid OT.out.sl
      have HB3 := Lib.hid (sl_take (n := p2) (show Sl w6 (.slice (some ⟨gb, 0, none⟩) BL.length c) BL by rw [HBL.out]; exact HB1.out) (by have := HBL.out; have := HP2.out; omega))
      have u4 : (p2 : Int) ≤ (c : Int) := by have := HCAP.out; have := HP2.out; omega
      have u5 : (0 : Int) ≤ (p2 : Int) := by omega
      go_wp2_with fail
      refine wp_onlyN ?_
      have B0' := Lib.hid (Below.refl w6.heap.size w6).drew
      refine wp_region_headsS (fun w' => Below w6.heap.size w6 w') [0, 1, 3, 5, 7, 8, 9, 10, 11, 12, 15] 5 (by kernel_rfl) (fun _ _ _ _ _ h => h.elim) (by kernel_rfl) (by rfl) (by rfl) B0'.out ?_
      simp only [pickOps, List.filterMap_cons, List.filterMap_nil, List.getElem?_toArray, List.getElem?_cons_zero, List.getElem?_cons_succ]
      refine wpHeads_step (fun K hK => ?_)
      go_simp
      refine ⟨_, fun _ _ => rfl, hK _ ?_⟩
      clear hK K
      refine wpHeads_step (fun K hK => ?_)
      go_simp
      refine ⟨_, fun _ _ => rfl, hK _ ?_⟩
      clear hK K
      refine wpHeads_step (fun K hK => ?_)
      go_simp
      refine ⟨_, fun _ _ => rfl, hK _ ?_⟩
      clear hK K
      refine wpHeads_step (fun K hK => ?_)
      go_simp
      refine ⟨_, fun _ _ => rfl, hK _ ?_⟩
      clear hK K
      refine wpHeads_step (fun K hK => ?_)
      go_simp
      refine ⟨_, fun _ _ => rfl, hK _ ?_⟩
      clear hK K
      refine wpHeads_step (fun K hK => ?_)
      go_simp
      refine ⟨_, fun _ _ => rfl, hK _ ?_⟩
      clear hK K
      refine wpHeads_step (fun K hK => ?_)
      go_simp
      refine ⟨_, fun _ _ => rfl, hK _ ?_⟩
      clear hK K
      refine wpHeads_step (fun K hK => ?_)
      go_simp
      refine ⟨_, fun _ _ => rfl, hK _ ?_⟩
      clear hK K
      refine wpHeads_step (fun K hK => ?_)
      go_simp
      refine ⟨_, fun _ _ => rfl, hK _ ?_⟩
      clear hK K
      refine wpHeads_step (fun K hK => ?_)
      go_simp
      refine ⟨_, fun _ _ => rfl, hK _ ?_⟩
      clear hK K
      refine wpHeads_step (fun K hK => ?_)
      go_simp
      refine ⟨_, fun _ _ => rfl, hK _ ?_⟩
      clear hK K
      refine wpHeads_nil ?_
      generalize w6.drew = W7 at *
      have OE := Lib.hid (own_empty W7 (base := w6.heap.size) B0'.out.size)
      have BE := Lib.hid (B0'.out.alloc B0'.out.size (.cells #[] 5))
      refine held_g 2 rfl (by kernel_rfl) (by kernel_rfl) fun K hK => ?_
      go_simp
      refine hK _ _ BE.out ?_
      clear hK K
      generalize W7.alloc (.cells #[] 5) = W8 at *
      generalize W7.heap.size = ge at *
      refine held_g 4 rfl (by kernel_rfl) (by kernel_rfl) fun K hK => ?_
      refine wp_app (l := []) (m := BL) rfl rfl OE.out (sl_below HB1.out BE.out) (by have := HBL.out; simp; omega) BE.out.size ?_
      intro v9 W9 ho9 hg9
      have B9 := Lib.hid (BE.out.grown hg9 BE.out.size fun q hq => by have := OE.out.lt q hq; omega)
      rw [List.nil_append] at ho9
      obtain ⟨a9, n9, c9, rfl, -⟩ := own_form ho9
      have O9 := Lib.hid ho9
      refine hK _ _ B9.out ?_
      clear hK K ho9 hg9
      refine held_g 6 rfl (by kernel_rfl) (by kernel_rfl) fun K hK => ?_
      refine wp_app (l := BL) (m := RL) rfl rfl O9.out (sl_below HR0.out B9.out) (by have := HBL.out; have := HRN.out; omega) B9.out.size ?_
      intro v10 W10 ho10 hg10
      have B10 := Lib.hid (B9.out.grown hg10 B9.out.size fun q hq => by have := O9.out.lt q hq; omega)
      obtain ⟨a10, n10, c10, rfl, -⟩ := own_form ho10
      have O10 := Lib.hid ho10
      refine hK _ _ B10.out ?_
      clear hK K ho10 hg10
      have AQ := (Below.refl W10.heap.size W10).alloc (Nat.le_refl _) (.cells #[.slice ua un uc, .slice (some ⟨gb, 0, none⟩) 16 c, .slice a10 n10 c10, .slice (some ⟨gb, 0, none⟩) p2 c] 26)
      have XQ := Lib.hid (heap_alloc_new W10 (.cells #[.slice ua un uc, .slice (some ⟨gb, 0, none⟩) 16 c, .slice a10 n10 c10, .slice (some ⟨gb, 0, none⟩) p2 c] 26))
      have BQ := bt B10.out AQ
      refine held_g 13 rfl (by kernel_rfl) (by kernel_rfl) fun K hK => ?_
      go_simp
      refine hK _ _ BQ ?_
      clear hK K
      have BQ0 := Lib.hid (bt BT.out BQ)
      have S0 := Lib.hid (sl_below HR0.out BQ)
      have S1 := Lib.hid (sl_below HB1.out BQ)
      have S3 := Lib.hid (sl_below HB3.out BQ)
      have S4 := Lib.hid (sl_below O10.out.sl AQ)
      have BQH := Lib.hid BQ
      clear AQ BQ B9 B10 O9 O10 BE OE
      generalize W10.alloc (.cells #[.slice ua un uc, .slice (some ⟨gb, 0, none⟩) 16 c, .slice a10 n10 c10, .slice (some ⟨gb, 0, none⟩) p2 c] 26) = W0 at *
      generalize W10.heap.size = q at *
      refine held_g 14 rfl (by kernel_rfl) (by kernel_rfl) fun K hK => ?_
      go_simp
      refine hK _ _ BQH.out ?_
      clear hK K
      refine wpAnyH_done (by kernel_rfl) ?_ _
      unfold onlyN
      dsimp only
      clear BQH HR0 HB1 HB3 B0' BT u4 u5 hA2 hP2 hW2
      go_wp2_with fail
      go_loopw [14, 15, 16, 17, 18, 59] (fun _ _ _ _ _ t wr => ∃ i : Nat, i ≤ 4 ∧ t = .int .i64 (i : Int) ∧ Below W0.heap.size W0 wr) (fun _ _ _ _ _ t _ => 4 - (intOf t).toNat)
      case atStart => exact ⟨0, by omega, rfl, Below.refl _ _⟩
      case round =>
        obtain ⟨i, hi, rfl, hB⟩ := hrel
        by_cases hi2 : i < 4
        · obtain ⟨sv, lv, hc, hs⟩ : ∃ sv lv, wr.cell? ⟨q, i, none⟩ = some sv ∧ (∀ W, Below W0.heap.size W0 W → Sl W sv lv) := by
            have hx := (hB.block q (lt_of_some XQ.out)).trans XQ.out
            rcases (show i = 0 ∨ i = 1 ∨ i = 2 ∨ i = 3 by omega) with rfl | rfl | rfl | rfl
            · exact ⟨_, _, cell_of_row wr q 0 _ _ _ hx, fun W hW => sl_below S0.out hW⟩
            · exact ⟨_, _, cell_of_row wr q 1 _ _ _ hx, fun W hW => sl_below S1.out hW⟩
            · exact ⟨_, _, cell_of_row wr q 2 _ _ _ hx, fun W hW => sl_below S4.out hW⟩
            · exact ⟨_, _, cell_of_row wr q 3 _ _ _ hx, fun W hW => sl_below S3.out hW⟩
          obtain ⟨la, lc, rfl, -, -⟩ := sl_form (hs wr hB)
          have HS := Lib.hid hs
          have HB := Lib.hid hB
          generalize lv.length = ln at *
          have g0' : decide ((i : Int) < 4) = true := decide_eq_true (by omega)
          have p0 : (0 : Int) ≤ (i : Int) := by omega
          have p1 : (i : Int) < 4 := by omega
          obtain ⟨a, b, d, hv⟩ : ∃ a b d : Int, dX7 lv = SV a b d := by unfold dX7; split <;> exact ⟨_, _, _, rfl⟩
          have D1 := Lib.hid (PD.out _ lv wr (ST.out _ _ hw (bt BQ0.out HB.out)) (HS.out _ HB.out))
          have RD := Lib.hid (fun W (hW : Below W0.heap.size W0 W) => rdecode7_any _ lv W (HS.out W hW))
          rw [hv] at D1 RD
          unfold DS SV at D1 RD
          generalize dE7 lv = E at *
          clear hs hB hi hv
          go_wp2_with fail
          refine D1.out.mono ?_
          rintro e w3 ⟨rfl, hb3⟩
          have AL := (Below.refl w3.heap.size w3).alloc (Nat.le_refl _) (.cells #[.int .i64 a, .int .i64 b, .int .i64 d] 23)
          have B4 := Lib.hid (bt (bt HB.out hb3) AL)
          have X4 := Lib.hid (heap_alloc_new w3 (.cells #[.int .i64 a, .int .i64 b, .int .i64 d] 23))
          clear AL hb3 D1
          go_wp2_with fail
          refine (RD.out _ B4.out).mono ?_
          rintro e w5 ⟨rfl, hb5⟩
          have AL := (Below.refl w5.heap.size w5).alloc (Nat.le_refl _) (.cells #[.int .i64 a, .int .i64 b, .int .i64 d] 23)
          have B6 := Lib.hid (bt (bt B4.out hb5) AL)
          have hx6 := (AL.block _ (lt_of_some ((hb5.block _ (lt_of_some X4.out)).trans X4.out))).trans ((hb5.block _ (lt_of_some X4.out)).trans X4.out)
          have hx7 := heap_alloc_new w5 (.cells #[.int .i64 a, .int .i64 b, .int .i64 d] 23)
          obtain ⟨q0, q1, q2, -, -, -⟩ := bx3 hx6
          obtain ⟨r0', r1, r2, -, -, -⟩ := bx3 hx7
          clear AL hb5 hx6 hx7 X4 RD
          go_wp2_with fail
          go_roundw
          case rel => exact ⟨i + 1, by omega, by go_num, B6.out⟩
          case measure => simp [intOf]; omega
        · obtain rfl : i = 4 := by omega
          have HB := Lib.hid hB
          clear hB hi hi2
          go_wp2_with fail
          refine (AW.out _ (ST.out _ _ hw (bt BQ0.out HB.out))).mono ?_
          rintro e w4 ⟨rfl, hb4⟩
          have B4 := Lib.hid (bt (bt BQ0.out HB.out) hb4)
          clear hb4 HB
          go_wp2_with fail
          go_ret
          exact ⟨rfl, B4.out⟩
end Go.Proofs.YtekdnloabhnngaaDoor.Gf
