/- What is proved here: the walk of the law NeedleDecodes, over what it asks of the program. No condition. -/
import Derived.Test.YtljdbaibhpgfnaaDoorQ6l
import Derived.Deep.Cut
namespace Go.Proofs.YtljdbaibhpgfnaaDoor.Gf
open Go Go.Joins Go.ChangeShapes Go.WideShapes Go.ChangeAt Go.RowKit Go.Deep Go.Proofs.YtljdbaibhpgfnaaDoor.By Go.Proofs.YtljdbaibhpgfnaaDoor.Crc Go.Proofs.YtljdbaibhpgfnaaDoor.Qt

theorem same_refl (x : Ndl) : sameB x x = true := by simp [sameB]
set_option maxRecDepth 100000 in
set_option maxHeartbeats 6400000 in
theorem decodes_walk {Ok : World → Prop} (P : PC6 Ok) (u : Value) (RL : List Nat) (v : Value) (x : Ndl) (n0 : Int) (_hn : I64b n0) (cb : Nat) (hcb : cb < 256) (n4 : Int) (_hn4 : I64b n4) (w : World) (hw : Ok w) (hu : Sl w u RL) (h : Nd w v x) : Calls Tryd.prog 5 #[u, v, .int .i64 n0, .int .u8 (cb : Int), .int .i64 n4] w fun e w' => e = .returned (.bool true) ∧ Below w.heap.size w w' := by
  have PD := Lib.hid P.dec
  have ST := Lib.hid (fun (W W' : World) => P.st (w := W) (w' := W'))
  have AW := Lib.hid (awake6_any P)
  clear P
  have HN := Lib.hid (fun W (hB : Below w.heap.size w W) => nd_below h hB)
  obtain ⟨s, rfl, -, -, h3⟩ := h
  obtain ⟨sa, sc, rfl, -, -⟩ := sl_form h3
  clear h3
  generalize x.data.length = xn at *
  have HCB := Lib.hid hcb
  have B0 := Lib.hid ((Below.refl w.heap.size w).alloc (Nat.le_refl _) (.cells #[.int .u64 (x.key : Int), .int .u32 (x.cookie : Int), .bool x.del, .slice sa xn sc] 26))
  clear hcb
  by_cases hbig : 6000 < RL.length
  · obtain ⟨ub, uo, uc, hv, hc1, hc2, -⟩ := sl_cells hu (by omega)
    subst hv
    have HRL0 := (fun W (hB : Below w.heap.size w W) => sl_take (n := 6000) (sl_below hu hB) (by omega))
    obtain ⟨un, hun⟩ : ∃ n, n = RL.length := ⟨_, rfl⟩
    have hrn : (RL.take 6000).length ≤ 6000 := by simp; omega
    rw [← hun] at hbig hc1 ⊢
    have g6 : decide ((6000 : Int) < (un : Int)) = true := decide_eq_true (by omega)
    have p6 : (6000 : Int) ≤ (uc : Int) := by omega
    clear hu hun hbig hc1 hc2
    generalize RL.take 6000 = RL at *
    have HRL := Lib.hid HRL0
    have HRN := Lib.hid hrn
    clear HRL0 hrn
    go_enter Tryd.func5, Tryd.ntmps5
    go_wp2_with fail
    refine (cut6_any _ x _ (HN.out _ B0.out)).mono ?_
    rintro e w1 ⟨⟨v1, rfl, hc⟩, hb1⟩
    have B1 := Lib.hid (bt B0.out hb1)
    clear hb1 B0
    go_wp2_with fail
    refine (rencode_any v1 (cutN x) w1 hc).mono ?_
    unfold EO
    have HO := Lib.hid (nd_ok hc)
    clear hc HN
    generalize cutN x = X at *
    rintro e w2 ⟨⟨s2, rfl, ho⟩, hb2⟩
    have B2 := Lib.hid (bt B1.out hb2)
    clear hb2 B1
    by_cases hE : encE X = 0
    · rw [show encL X = recL X by unfold encL; rw [if_pos hE]] at ho
      rw [hE]
      have hge := szR_ge X.data.length
      obtain ⟨R, hR⟩ : ∃ R, R = szR X.data.length := ⟨_, rfl⟩
      have hlen : (recL X).length = R := by rw [recL_length, hR]
      have hle : R ≤ 4128 := by
        have h1 := (enc_ok hE).1
        have h2 := szR_lt X.data.length
        omega
      rw [← hR] at hge
      obtain ⟨gb, c, hv, -⟩ := own_pos ho (by omega)
      subst hv
      have HCAP := Lib.hid (own_capl ho).1
      rw [hlen] at HCAP ho ⊢
      have HSB := Lib.hid ho.sl
      have HLB : Hid ((recL X).length = R ∧ 1 ≤ R ∧ R ≤ 5000 ∧ RL.length ≤ 6000) := ⟨hlen, by omega, by omega, HRN.out⟩
      clear hE hR hlen hle hge ho
      obtain ⟨t, p, t1, t2, t3, t4, t5⟩ : ∃ (t : Int) (p : Nat), n0.tmod (R : Int) = t ∧ -(R : Int) < t ∧ t < (R : Int) ∧ (t + (R : Int)).tmod (R : Int) = (p : Int) ∧ p < R := ⟨_, _, rfl, (rmd_eq n0 (R := R) HLB.out.2.1).2.1, (rmd_eq n0 (R := R) HLB.out.2.1).2.2, (rmd_eq n0 (R := R) HLB.out.2.1).1, rmd_lt n0 HLB.out.2.1⟩
      have g1 : ((R : Int) == 0) = false := beq_false_of_ne (by have := HLB.out.2.1; omega)
      have g2 : ((R : Int) = 0) = False := eq_false (by have := HLB.out.2.1; omega)
      have p1 : (p : Int) < (R : Int) := by omega
      have p0 : (0 : Int) ≤ (p : Int) := by omega
      have o2 : wrap64 (t + (R : Int)) = t + (R : Int) := by have := HLB.out.2.2.1; unfold wrap64; omega
      have HP : Hid (0 < (recL X).length) := by show 0 < _; have := HLB.out; omega
      have HT5 := Lib.hid t5
      have OE := Lib.hid (own_empty w2 (Nat.le_refl w2.heap.size))
      have BE := Lib.hid ((Below.refl w2.heap.size w2).alloc (Nat.le_refl _) (.cells #[] 5))
      clear t2 t3 t5
      go_wp2_with (at_builtin; refine app_sl (dst := some 38) ?_ ?_ OE.out (sl_below HSB.out BE.out) (by have := HLB.out.1; have := HLB.out.2.2.1; simp; omega) (by simp) ?_; exact rfl; exact rfl; intro v5 w5 ho5 hg5; rw [List.nil_append] at ho5; have B5 := Lib.hid (BE.out.grown hg5 BE.out.size fun q hq => by have := OE.out.lt q hq; omega); obtain ⟨g5, c5, hv5, hge5⟩ := own_pos ho5 HP.out; rw [HLB.out.1] at hv5; subst hv5; obtain ⟨y0, y1, -⟩ := own_cell ho5 HLB.out.1 HT5.out; have O5 := Lib.hid ho5; have G5 := Lib.hid hge5; clear ho5 hg5 hge5)
      have B6 := Lib.hid (B5.out.setCell (p := ⟨g5, p, none⟩) G5.out (.int .u8 (cb : Int)))
      have BT := Lib.hid (bt B2.out B6.out)
      have HR0 := Lib.hid (HRL.out _ BT.out)
      have HB1 := Lib.hid (sl_below HSB.out B6.out)
      have HS1 := Lib.hid (own_set O5.out HLB.out.1 HT5.out HCB.out).sl
      rw [o2]
      clear y0 y1 o2 B6 B5 O5 G5 OE BE t1 t4 g1 p0 p1 HP
      generalize w5.setCell ⟨g5, p, none⟩ (.int .u8 (cb : Int)) = WT at *
      obtain ⟨t2, p2, s1, s2, s3, s4, s5⟩ : ∃ (t : Int) (p : Nat), n4.tmod (R : Int) = t ∧ -(R : Int) < t ∧ t < (R : Int) ∧ (t + (R : Int)).tmod (R : Int) = (p : Int) ∧ p < R := ⟨_, _, rfl, (rmd_eq n4 (R := R) HLB.out.2.1).2.1, (rmd_eq n4 (R := R) HLB.out.2.1).2.2, (rmd_eq n4 (R := R) HLB.out.2.1).1, rmd_lt n4 HLB.out.2.1⟩
      have u2 : wrap64 (t2 + (R : Int)) = t2 + (R : Int) := by have := HLB.out.2.2.1; unfold wrap64; omega
      have u3 : IntKind.i64.wrap (t2 + (R : Int)) = t2 + (R : Int) := IntWalk.i64_in _ (by have := HLB.out.2.2.1; omega)
      have u4 : (p2 : Int) ≤ (c : Int) := by have := HCAP.out; omega
      have u5 : (0 : Int) ≤ (p2 : Int) := by omega
      have HB3 := Lib.hid (sl_take (n := p2) (show Sl WT (.slice (some ⟨gb, 0, none⟩) (recL X).length c) (recL X) by rw [HLB.out.1]; exact HB1.out) (by have := HLB.out.1; omega))
      have g2 : ((R : Int) == 0) = false := beq_false_of_ne (by have := HLB.out.2.1; omega)
      have g4 : ¬ R = 0 := by have := HLB.out.2.1; omega
      clear s2 s3 s5
      go_wp2_with fail
      refine wp_onlyN ?_
      have B0' := Lib.hid (Below.refl WT.heap.size WT).drew
      refine wp_region_headsS (fun w' => Below WT.heap.size WT w') [0, 1, 2, 3, 4, 5, 6, 7, 8, 9, 10, 11, 12, 13, 14, 16, 18, 22] 5 (by kernel_rfl) (fun _ _ _ _ _ h => h.elim) (by kernel_rfl) (by rfl) (by rfl) B0'.out ?_
      simp only [pickOps, List.filterMap_cons, List.filterMap_nil, List.getElem?_toArray, List.getElem?_cons_zero, List.getElem?_cons_succ]
      refine wpHeads_step (fun K hK => ?_)
      go_simp
      refine ⟨_, fun _ _ => rfl, hK _ ?_⟩
      clear hK K
      refine wpHeads_step (fun K hK => ?_)
      go_simp
      refine ⟨_, fun _ _ => rfl, hK _ ?_⟩
      clear hK K
      refine wpHeads_step (fun K hK => ?_)
      go_simp
      refine ⟨_, fun _ _ => rfl, hK _ ?_⟩
      clear hK K
      refine wpHeads_step (fun K hK => ?_)
      go_simp
      refine ⟨_, fun _ _ => rfl, hK _ ?_⟩
      clear hK K
      refine wpHeads_step (fun K hK => ?_)
      go_simp
      refine ⟨_, fun _ _ => rfl, hK _ ?_⟩
      clear hK K
      refine wpHeads_step (fun K hK => ?_)
      go_simp
      refine ⟨_, fun _ _ => rfl, hK _ ?_⟩
      clear hK K
      refine wpHeads_step (fun K hK => ?_)
      go_simp
      refine ⟨_, fun _ _ => rfl, hK _ ?_⟩
      clear hK K
      refine wpHeads_step (fun K hK => ?_)
      go_simp
      refine ⟨_, fun _ _ => rfl, hK _ ?_⟩
      clear hK K
      refine wpHeads_step (fun K hK => ?_)
      go_simp
      refine ⟨_, fun _ _ => rfl, hK _ ?_⟩
      clear hK K
      refine wpHeads_step (fun K hK => ?_)
      go_simp
      refine ⟨_, fun _ _ => rfl, hK _ ?_⟩
      clear hK K
      refine wpHeads_step (fun K hK => ?_)
      go_simp
      refine ⟨_, fun _ _ => rfl, hK _ ?_⟩
      clear hK K
      refine wpHeads_step (fun K hK => ?_)
      go_simp
      refine ⟨_, fun _ _ => rfl, hK _ ?_⟩
      clear hK K
      refine wpHeads_step (fun K hK => ?_)
      go_simp
      refine ⟨_, fun _ _ => rfl, hK _ ?_⟩
      clear hK K
      refine wpHeads_step (fun K hK => ?_)
      go_simp
      refine ⟨_, fun _ _ => rfl, hK _ ?_⟩
      clear hK K
      refine wpHeads_step (fun K hK => ?_)
      go_simp
      refine ⟨_, fun _ _ => rfl, hK _ ?_⟩
      clear hK K
      refine wpHeads_step (fun K hK => ?_)
      go_simp
      refine ⟨_, fun _ _ => rfl, hK _ ?_⟩
      clear hK K
      refine wpHeads_step (fun K hK => ?_)
      go_simp
      refine ⟨_, fun _ _ => rfl, hK _ ?_⟩
      clear hK K
      refine wpHeads_step (fun K hK => ?_)
      go_simp
      refine ⟨_, fun _ _ => rfl, hK _ ?_⟩
      clear hK K
      refine wpHeads_nil ?_
      generalize WT.drew = W7 at *
      have OE := Lib.hid (own_empty W7 (base := WT.heap.size) B0'.out.size)
      have BE := Lib.hid (B0'.out.alloc B0'.out.size (.cells #[] 5))
      refine held_g 15 rfl (by kernel_rfl) (by kernel_rfl) fun K hK => ?_
      go_simp
      refine hK _ _ BE.out ?_
      clear hK K
      generalize W7.alloc (.cells #[] 5) = W8 at *
      generalize W7.heap.size = ge at *
      refine held_g 17 rfl (by kernel_rfl) (by kernel_rfl) fun K hK => ?_
      refine wp_app (l := []) (m := (recL X)) rfl rfl OE.out (sl_below HB1.out BE.out) (by have := HLB.out.1; have := HLB.out.2.2.1; simp; omega) BE.out.size ?_
      intro v9 W9 ho9 hg9
      have B9 := Lib.hid (BE.out.grown hg9 BE.out.size fun q hq => by have := OE.out.lt q hq; omega)
      rw [List.nil_append] at ho9
      obtain ⟨a9, n9, c9, rfl, -⟩ := own_form ho9
      have O9 := Lib.hid ho9
      refine hK _ _ B9.out ?_
      clear hK K ho9 hg9
      refine held_g 19 rfl (by kernel_rfl) (by kernel_rfl) fun K hK => ?_
      refine wp_app (l := (recL X)) (m := RL) rfl rfl O9.out (sl_below HR0.out B9.out) (by have := HLB.out; omega) B9.out.size ?_
      intro v10 W10 ho10 hg10
      have B10 := Lib.hid (B9.out.grown hg10 B9.out.size fun q hq => by have := O9.out.lt q hq; omega)
      obtain ⟨a10, n10, c10, rfl, -⟩ := own_form ho10
      have O10 := Lib.hid ho10
      refine hK _ _ B10.out ?_
      clear hK K ho10 hg10
      have AQ := (Below.refl W10.heap.size W10).alloc (Nat.le_refl _) (.cells #[.slice (some ⟨ub, uo, none⟩) 6000 uc, .slice (some ⟨gb, 0, none⟩) R c, .slice (some ⟨g5, 0, none⟩) R c5, .slice (some ⟨gb, 0, none⟩) p2 c, .slice a10 n10 c10] 24)
      have XQ := Lib.hid (heap_alloc_new W10 (.cells #[.slice (some ⟨ub, uo, none⟩) 6000 uc, .slice (some ⟨gb, 0, none⟩) R c, .slice (some ⟨g5, 0, none⟩) R c5, .slice (some ⟨gb, 0, none⟩) p2 c, .slice a10 n10 c10] 24))
      have BQ := bt B10.out AQ
      refine held_g 20 rfl (by kernel_rfl) (by kernel_rfl) fun K hK => ?_
      go_simp
      refine hK _ _ BQ ?_
      clear hK K
      have BQ0 := Lib.hid (bt BT.out BQ)
      have S0 := Lib.hid (sl_below HR0.out BQ)
      have S1 := Lib.hid (sl_below HB1.out BQ)
      have S2 := Lib.hid (sl_below HS1.out BQ)
      have S3 := Lib.hid (sl_below HB3.out BQ)
      have S4 := Lib.hid (sl_below O10.out.sl AQ)
      have BQH := Lib.hid BQ
      clear AQ BQ B9 B10 O9 O10 BE OE
      generalize W10.alloc (.cells #[.slice (some ⟨ub, uo, none⟩) 6000 uc, .slice (some ⟨gb, 0, none⟩) R c, .slice (some ⟨g5, 0, none⟩) R c5, .slice (some ⟨gb, 0, none⟩) p2 c, .slice a10 n10 c10] 24) = W0 at *
      generalize W10.heap.size = q at *
      refine held_g 21 rfl (by kernel_rfl) (by kernel_rfl) fun K hK => ?_
      go_simp
      refine hK _ _ BQH.out ?_
      clear hK K
      refine wpAnyH_done (by kernel_rfl) ?_ _
      unfold onlyN
      dsimp only
      clear BQH HR0 HB1 HS1 HB3 B0' BT u2 u3 u4 u5 s1 s4 g2 g4
      go_wp2_with fail
      go_loopw [15, 16, 17, 18, 19, 20, 21, 74] (fun _ _ _ _ _ _ _ t wr => ∃ i : Nat, i ≤ 5 ∧ t = .int .i64 (i : Int) ∧ Below W0.heap.size W0 wr) (fun _ _ _ _ _ _ _ t _ => 5 - (intOf t).toNat)
      case atStart => exact ⟨0, by omega, rfl, Below.refl _ _⟩
      case round =>
        obtain ⟨i, hi, rfl, hB⟩ := hrel
        by_cases hi2 : i < 5
        · obtain ⟨sv, lv, hc, hs⟩ : ∃ sv lv, wr.cell? ⟨q, i, none⟩ = some sv ∧ (∀ W, Below W0.heap.size W0 W → Sl W sv lv) := by
            have hx := (hB.block q (lt_of_some XQ.out)).trans XQ.out
            rcases (show i = 0 ∨ i = 1 ∨ i = 2 ∨ i = 3 ∨ i = 4 by omega) with rfl | rfl | rfl | rfl | rfl
            · exact ⟨_, _, cell_of_row wr q 0 _ _ _ hx, fun W hW => sl_below S0.out hW⟩
            · exact ⟨_, _, cell_of_row wr q 1 _ _ _ hx, fun W hW => sl_below S1.out hW⟩
            · exact ⟨_, _, cell_of_row wr q 2 _ _ _ hx, fun W hW => sl_below S2.out hW⟩
            · exact ⟨_, _, cell_of_row wr q 3 _ _ _ hx, fun W hW => sl_below S3.out hW⟩
            · exact ⟨_, _, cell_of_row wr q 4 _ _ _ hx, fun W hW => sl_below S4.out hW⟩
          obtain ⟨la, lc, rfl, -, -⟩ := sl_form (hs wr hB)
          have HS := Lib.hid hs
          have HB := Lib.hid hB
          generalize lv.length = ln at *
          have g0 : decide ((i : Int) < 5) = true := decide_eq_true (by omega)
          have p0 : (0 : Int) ≤ (i : Int) := by omega
          have p1 : (i : Int) < 5 := by omega
          clear hs hB hi
          go_wp2_with fail
          refine (PD.out _ lv wr (ST.out _ _ hw (bt BQ0.out HB.out)) (HS.out _ HB.out)).mono ?_
          have RD := Lib.hid (fun W (hW : Below W0.heap.size W0 W) => rdecode_any _ lv W (HS.out W hW))
          unfold ED at RD ⊢
          generalize decX lv = Y at *
          generalize decN lv = N at *
          generalize decE lv = E at *
          rintro e w3 ⟨⟨v3, rfl, s3, rfl, k1, k2, hs3⟩, hb3⟩
          obtain ⟨a3, c3, rfl, -, -⟩ := sl_form hs3
          obtain ⟨yn, hyn⟩ : ∃ n, n = Y.data.length := ⟨_, rfl⟩
          rw [← hyn] at hs3 ⊢
          have HYN := Lib.hid hyn
          have B3 := Lib.hid (bt HB.out hb3)
          have AL := (Below.refl w3.heap.size w3).alloc (Nat.le_refl _) (.cells #[.int .u64 (Y.key : Int), .int .u32 (Y.cookie : Int), .bool Y.del, .slice a3 yn c3] 26)
          have B4 := Lib.hid (bt B3.out AL)
          have ND : Hid (∀ W, Below (w3.alloc (.cells #[.int .u64 (Y.key : Int), .int .u32 (Y.cookie : Int), .bool Y.del, .slice a3 yn c3] 26)).heap.size (w3.alloc (.cells #[.int .u64 (Y.key : Int), .int .u32 (Y.cookie : Int), .bool Y.del, .slice a3 yn c3] 26)) W → Nd W (.agg #[.int .u64 (Y.key : Int), .int .u32 (Y.cookie : Int), .bool Y.del, .slice a3 yn c3]) Y) := fun W hW => ⟨_, rfl, k1, k2, sl_below (sl_below hs3 AL) hW⟩
          have X4 := Lib.hid (heap_alloc_new w3 (.cells #[.int .u64 (Y.key : Int), .int .u32 (Y.cookie : Int), .bool Y.del, .slice a3 yn c3] 26))
          clear hs3 k1 k2 AL hb3 hyn
          go_wp2_with fail
          refine (RD.out _ B4.out).mono ?_
          rintro e w5 ⟨⟨v5, rfl, s5, rfl, j1, j2, hs5⟩, hb5⟩
          obtain ⟨a4, c4, rfl, -, -⟩ := sl_form hs5
          rw [← HYN.out] at hs5 ⊢
          have AL := (Below.refl w5.heap.size w5).alloc (Nat.le_refl _) (.cells #[.int .u64 (Y.key : Int), .int .u32 (Y.cookie : Int), .bool Y.del, .slice a4 yn c4] 26)
          have B6 := Lib.hid (bt (bt B4.out hb5) AL)
          have hx6 := (AL.block _ (lt_of_some ((hb5.block _ (lt_of_some X4.out)).trans X4.out))).trans ((hb5.block _ (lt_of_some X4.out)).trans X4.out)
          have ND2 : Hid (Nd (w5.alloc (.cells #[.int .u64 (Y.key : Int), .int .u32 (Y.cookie : Int), .bool Y.del, .slice a4 yn c4] 26)) (.agg #[.int .u64 (Y.key : Int), .int .u32 (Y.cookie : Int), .bool Y.del, .slice a4 yn c4]) Y) := ⟨_, rfl, j1, j2, sl_below hs5 AL⟩
          have ND1 := Lib.hid (ND.out _ (bt hb5 AL))
          have hx7 := heap_alloc_new w5 (.cells #[.int .u64 (Y.key : Int), .int .u32 (Y.cookie : Int), .bool Y.del, .slice a4 yn c4] 26)
          obtain ⟨q0, q1, q2, q3⟩ := bx_cell hx6
          obtain ⟨r0, r1, r2, r3⟩ := bx_cell hx7
          clear hs5 j1 j2 AL hb5 hx6 hx7 ND X4 RD
          go_wp2_with (go_at_call 20; refine (rsame_any _ _ Y Y _ ND1.out ND2.out).mono ?_; rw [same_refl]; rintro e w7 ⟨rfl, hb7⟩; have B7 := Lib.hid (bt B6.out hb7); clear hb7)
          go_roundw
          case rel => exact ⟨i + 1, by omega, by go_num, B7.out⟩
          case measure => simp [intOf]; omega
        · obtain rfl : i = 5 := by omega
          have HB := Lib.hid hB
          clear hB hi hi2
          go_wp2_with fail
          refine (AW.out _ (ST.out _ _ hw (bt BQ0.out HB.out))).mono ?_
          rintro e w4 ⟨rfl, hb4⟩
          have B4 := Lib.hid (bt (bt BQ0.out HB.out) hb4)
          clear hb4 HB
          go_wp2_with fail
          go_ret
          exact ⟨rfl, B4.out⟩
    · obtain ⟨E, hE2⟩ : ∃ E, E = encE X := ⟨_, rfl⟩
      rw [show encL X = [] by unfold encL; rw [if_neg hE]] at ho
      rw [← hE2] at hE ⊢
      have g9 : ((E : Int) != 0) = true := bne_iff_ne.2 (by omega)
      obtain ⟨a2, n2, c2, rfl, -⟩ := own_form ho
      have HB9 := (Below.refl w2.heap.size w2).alloc (Nat.le_refl _) (.cells #[.int .u8 0] 5)
      have hs9 := sl_one (w := w2.alloc (.cells #[.int .u8 0] 5)) (z := 0) (by decide) (heap_alloc_new w2 _)
      obtain ⟨wb, hwb⟩ : ∃ wb, wb = w2.alloc (.cells #[.int .u8 0] 5) := ⟨_, rfl⟩
      have B3 := Lib.hid (bt B2.out HB9)
      have HS9 := Lib.hid hs9
      clear hE hE2 ho HB9 hs9 hwb wb
      go_upto_region 6 with fail
      generalize w2.alloc (.cells #[.int .u8 0] 5) = wb at *
      generalize w2.heap.size = gb at *
      obtain ⟨BL, hBL⟩ : ∃ BL : List Nat, BL = [0] := ⟨_, rfl⟩
      rw [← hBL] at HS9
      obtain ⟨R, hR⟩ : ∃ R : Nat, R = 1 := ⟨_, rfl⟩
      have HSB : Hid (Sl wb (.slice (some ⟨gb, 0, none⟩) R R) BL) := by show Sl _ _ _; rw [hR]; exact HS9.out
      have HLB : Hid (BL.length = R ∧ 1 ≤ R ∧ R ≤ 5000 ∧ RL.length ≤ 6000) := ⟨by rw [hBL, hR]; rfl, by omega, by omega, HRN.out⟩
      have HCAP : Hid (R ≤ R) := Nat.le_refl _
      have B2 := B3
      rw [show (Value.slice (some ⟨gb, 0, none⟩) 1 1) = Value.slice (some ⟨gb, 0, none⟩) R R by rw [hR]]
      clear hR
      clear HS9 hBL B3
      obtain ⟨t, p, t1, t2, t3, t4, t5⟩ : ∃ (t : Int) (p : Nat), n0.tmod (R : Int) = t ∧ -(R : Int) < t ∧ t < (R : Int) ∧ (t + (R : Int)).tmod (R : Int) = (p : Int) ∧ p < R := ⟨_, _, rfl, (rmd_eq n0 (R := R) HLB.out.2.1).2.1, (rmd_eq n0 (R := R) HLB.out.2.1).2.2, (rmd_eq n0 (R := R) HLB.out.2.1).1, rmd_lt n0 HLB.out.2.1⟩
      have g1 : ((R : Int) == 0) = false := beq_false_of_ne (by have := HLB.out.2.1; omega)
      have g2 : ((R : Int) = 0) = False := eq_false (by have := HLB.out.2.1; omega)
      have p1 : (p : Int) < (R : Int) := by omega
      have p0 : (0 : Int) ≤ (p : Int) := by omega
      have o2 : wrap64 (t + (R : Int)) = t + (R : Int) := by have := HLB.out.2.2.1; unfold wrap64; omega
      have HP : Hid (0 < BL.length) := by show 0 < _; have := HLB.out; omega
      have HT5 := Lib.hid t5
      have OE := Lib.hid (own_empty wb (Nat.le_refl wb.heap.size))
      have BE := Lib.hid ((Below.refl wb.heap.size wb).alloc (Nat.le_refl _) (.cells #[] 5))
      clear t2 t3 t5
      go_wp2_with (at_builtin; refine app_sl (dst := some 38) ?_ ?_ OE.out (sl_below HSB.out BE.out) (by have := HLB.out.1; have := HLB.out.2.2.1; simp; omega) (by simp) ?_; exact rfl; exact rfl; intro v5 w5 ho5 hg5; rw [List.nil_append] at ho5; have B5 := Lib.hid (BE.out.grown hg5 BE.out.size fun q hq => by have := OE.out.lt q hq; omega); obtain ⟨g5, c5, hv5, hge5⟩ := own_pos ho5 HP.out; rw [HLB.out.1] at hv5; subst hv5; obtain ⟨y0, y1, -⟩ := own_cell ho5 HLB.out.1 HT5.out; have O5 := Lib.hid ho5; have G5 := Lib.hid hge5; clear ho5 hg5 hge5)
      have B6 := Lib.hid (B5.out.setCell (p := ⟨g5, p, none⟩) G5.out (.int .u8 (cb : Int)))
      have BT := Lib.hid (bt B2.out B6.out)
      have HR0 := Lib.hid (HRL.out _ BT.out)
      have HB1 := Lib.hid (sl_below HSB.out B6.out)
      have HS1 := Lib.hid (own_set O5.out HLB.out.1 HT5.out HCB.out).sl
      rw [o2]
      clear y0 y1 o2 B6 B5 O5 G5 OE BE t1 t4 g1 p0 p1 HP
      generalize w5.setCell ⟨g5, p, none⟩ (.int .u8 (cb : Int)) = WT at *
      obtain ⟨t2, p2, s1, s2, s3, s4, s5⟩ : ∃ (t : Int) (p : Nat), n4.tmod (R : Int) = t ∧ -(R : Int) < t ∧ t < (R : Int) ∧ (t + (R : Int)).tmod (R : Int) = (p : Int) ∧ p < R := ⟨_, _, rfl, (rmd_eq n4 (R := R) HLB.out.2.1).2.1, (rmd_eq n4 (R := R) HLB.out.2.1).2.2, (rmd_eq n4 (R := R) HLB.out.2.1).1, rmd_lt n4 HLB.out.2.1⟩
      have u2 : wrap64 (t2 + (R : Int)) = t2 + (R : Int) := by have := HLB.out.2.2.1; unfold wrap64; omega
      have u3 : IntKind.i64.wrap (t2 + (R : Int)) = t2 + (R : Int) := IntWalk.i64_in _ (by have := HLB.out.2.2.1; omega)
      have u4 : (p2 : Int) ≤ (R : Int) := by have := HCAP.out; omega
      have u5 : (0 : Int) ≤ (p2 : Int) := by omega
      have HB3 := Lib.hid (sl_take (n := p2) (show Sl WT (.slice (some ⟨gb, 0, none⟩) BL.length R) BL by rw [HLB.out.1]; exact HB1.out) (by have := HLB.out.1; omega))
      have g2 : ((R : Int) == 0) = false := beq_false_of_ne (by have := HLB.out.2.1; omega)
      have g4 : ¬ R = 0 := by have := HLB.out.2.1; omega
      clear s2 s3 s5
      go_wp2_with fail
      refine wp_onlyN ?_
      have B0' := Lib.hid (Below.refl WT.heap.size WT).drew
      refine wp_region_headsS (fun w' => Below WT.heap.size WT w') [0, 1, 2, 3, 4, 5, 6, 7, 8, 9, 10, 11, 12, 13, 14, 16, 18, 22] 5 (by kernel_rfl) (fun _ _ _ _ _ h => h.elim) (by kernel_rfl) (by rfl) (by rfl) B0'.out ?_
      simp only [pickOps, List.filterMap_cons, List.filterMap_nil, List.getElem?_toArray, List.getElem?_cons_zero, List.getElem?_cons_succ]
      refine wpHeads_step (fun K hK => ?_)
      go_simp
      refine ⟨_, fun _ _ => rfl, hK _ ?_⟩
      clear hK K
      refine wpHeads_step (fun K hK => ?_)
      go_simp
      refine ⟨_, fun _ _ => rfl, hK _ ?_⟩
      clear hK K
      refine wpHeads_step (fun K hK => ?_)
      go_simp
      refine ⟨_, fun _ _ => rfl, hK _ ?_⟩
      clear hK K
      refine wpHeads_step (fun K hK => ?_)
      go_simp
      refine ⟨_, fun _ _ => rfl, hK _ ?_⟩
      clear hK K
      refine wpHeads_step (fun K hK => ?_)
      go_simp
      refine ⟨_, fun _ _ => rfl, hK _ ?_⟩
      clear hK K
      refine wpHeads_step (fun K hK => ?_)
      go_simp
      refine ⟨_, fun _ _ => rfl, hK _ ?_⟩
      clear hK K
      refine wpHeads_step (fun K hK => ?_)
      go_simp
      refine ⟨_, fun _ _ => rfl, hK _ ?_⟩
      clear hK K
      refine wpHeads_step (fun K hK => ?_)
      go_simp
      refine ⟨_, fun _ _ => rfl, hK _ ?_⟩
      clear hK K
      refine wpHeads_step (fun K hK => ?_)
      go_simp
      refine ⟨_, fun _ _ => rfl, hK _ ?_⟩
      clear hK K
      refine wpHeads_step (fun K hK => ?_)
      go_simp
      refine ⟨_, fun _ _ => rfl, hK _ ?_⟩
      clear hK K
      refine wpHeads_step (fun K hK => ?_)
      go_simp
      refine ⟨_, fun _ _ => rfl, hK _ ?_⟩
      clear hK K
      refine wpHeads_step (fun K hK => ?_)
      go_simp
      refine ⟨_, fun _ _ => rfl, hK _ ?_⟩
      clear hK K
      refine wpHeads_step (fun K hK => ?_)
      go_simp
      refine ⟨_, fun _ _ => rfl, hK _ ?_⟩
      clear hK K
      refine wpHeads_step (fun K hK => ?_)
      go_simp
      refine ⟨_, fun _ _ => rfl, hK _ ?_⟩
      clear hK K
      refine wpHeads_step (fun K hK => ?_)
      go_simp
      refine ⟨_, fun _ _ => rfl, hK _ ?_⟩
      clear hK K
      refine wpHeads_step (fun K hK => ?_)
      go_simp
      refine ⟨_, fun _ _ => rfl, hK _ ?_⟩
      clear hK K
      refine wpHeads_step (fun K hK => ?_)
      go_simp
      refine ⟨_, fun _ _ => rfl, hK _ ?_⟩
      clear hK K
      refine wpHeads_step (fun K hK => ?_)
      go_simp
      refine ⟨_, fun _ _ => rfl, hK _ ?_⟩
      clear hK K
      refine wpHeads_nil ?_
      generalize WT.drew = W7 at *
      have OE := Lib.hid (own_empty W7 (base := WT.heap.size) B0'.out.size)
      have BE := Lib.hid (B0'.out.alloc B0'.out.size (.cells #[] 5))
      refine held_g 15 rfl (by kernel_rfl) (by kernel_rfl) fun K hK => ?_
      go_simp
      refine hK _ _ BE.out ?_
      clear hK K
      generalize W7.alloc (.cells #[] 5) = W8 at *
      generalize W7.heap.size = ge at *
      refine held_g 17 rfl (by kernel_rfl) (by kernel_rfl) fun K hK => ?_
      refine wp_app (l := []) (m := BL) rfl rfl OE.out (sl_below HB1.out BE.out) (by have := HLB.out.1; have := HLB.out.2.2.1; simp; omega) BE.out.size ?_
      intro v9 W9 ho9 hg9
      have B9 := Lib.hid (BE.out.grown hg9 BE.out.size fun q hq => by have := OE.out.lt q hq; omega)
      rw [List.nil_append] at ho9
      obtain ⟨a9, n9, c9, rfl, -⟩ := own_form ho9
      have O9 := Lib.hid ho9
      refine hK _ _ B9.out ?_
      clear hK K ho9 hg9
      refine held_g 19 rfl (by kernel_rfl) (by kernel_rfl) fun K hK => ?_
      refine wp_app (l := BL) (m := RL) rfl rfl O9.out (sl_below HR0.out B9.out) (by have := HLB.out; omega) B9.out.size ?_
      intro v10 W10 ho10 hg10
      have B10 := Lib.hid (B9.out.grown hg10 B9.out.size fun q hq => by have := O9.out.lt q hq; omega)
      obtain ⟨a10, n10, c10, rfl, -⟩ := own_form ho10
      have O10 := Lib.hid ho10
      refine hK _ _ B10.out ?_
      clear hK K ho10 hg10
      have AQ := (Below.refl W10.heap.size W10).alloc (Nat.le_refl _) (.cells #[.slice (some ⟨ub, uo, none⟩) 6000 uc, .slice (some ⟨gb, 0, none⟩) R R, .slice (some ⟨g5, 0, none⟩) R c5, .slice (some ⟨gb, 0, none⟩) p2 R, .slice a10 n10 c10] 24)
      have XQ := Lib.hid (heap_alloc_new W10 (.cells #[.slice (some ⟨ub, uo, none⟩) 6000 uc, .slice (some ⟨gb, 0, none⟩) R R, .slice (some ⟨g5, 0, none⟩) R c5, .slice (some ⟨gb, 0, none⟩) p2 R, .slice a10 n10 c10] 24))
      have BQ := bt B10.out AQ
      refine held_g 20 rfl (by kernel_rfl) (by kernel_rfl) fun K hK => ?_
      go_simp
      refine hK _ _ BQ ?_
      clear hK K
      have BQ0 := Lib.hid (bt BT.out BQ)
      have S0 := Lib.hid (sl_below HR0.out BQ)
      have S1 := Lib.hid (sl_below HB1.out BQ)
      have S2 := Lib.hid (sl_below HS1.out BQ)
      have S3 := Lib.hid (sl_below HB3.out BQ)
      have S4 := Lib.hid (sl_below O10.out.sl AQ)
      have BQH := Lib.hid BQ
      clear AQ BQ B9 B10 O9 O10 BE OE
      generalize W10.alloc (.cells #[.slice (some ⟨ub, uo, none⟩) 6000 uc, .slice (some ⟨gb, 0, none⟩) R R, .slice (some ⟨g5, 0, none⟩) R c5, .slice (some ⟨gb, 0, none⟩) p2 R, .slice a10 n10 c10] 24) = W0 at *
      generalize W10.heap.size = q at *
      refine held_g 21 rfl (by kernel_rfl) (by kernel_rfl) fun K hK => ?_
      go_simp
      refine hK _ _ BQH.out ?_
      clear hK K
      refine wpAnyH_done (by kernel_rfl) ?_ _
      unfold onlyN
      dsimp only
      clear BQH HR0 HB1 HS1 HB3 B0' BT u2 u3 u4 u5 s1 s4 g2 g4
      go_wp2_with fail
      go_loopw [15, 16, 17, 18, 19, 20, 21, 74] (fun _ _ _ _ _ _ _ t wr => ∃ i : Nat, i ≤ 5 ∧ t = .int .i64 (i : Int) ∧ Below W0.heap.size W0 wr) (fun _ _ _ _ _ _ _ t _ => 5 - (intOf t).toNat)
      case atStart => exact ⟨0, by omega, rfl, Below.refl _ _⟩
      case round =>
        obtain ⟨i, hi, rfl, hB⟩ := hrel
        by_cases hi2 : i < 5
        · obtain ⟨sv, lv, hc, hs⟩ : ∃ sv lv, wr.cell? ⟨q, i, none⟩ = some sv ∧ (∀ W, Below W0.heap.size W0 W → Sl W sv lv) := by
            have hx := (hB.block q (lt_of_some XQ.out)).trans XQ.out
            rcases (show i = 0 ∨ i = 1 ∨ i = 2 ∨ i = 3 ∨ i = 4 by omega) with rfl | rfl | rfl | rfl | rfl
            · exact ⟨_, _, cell_of_row wr q 0 _ _ _ hx, fun W hW => sl_below S0.out hW⟩
            · exact ⟨_, _, cell_of_row wr q 1 _ _ _ hx, fun W hW => sl_below S1.out hW⟩
            · exact ⟨_, _, cell_of_row wr q 2 _ _ _ hx, fun W hW => sl_below S2.out hW⟩
            · exact ⟨_, _, cell_of_row wr q 3 _ _ _ hx, fun W hW => sl_below S3.out hW⟩
            · exact ⟨_, _, cell_of_row wr q 4 _ _ _ hx, fun W hW => sl_below S4.out hW⟩
          obtain ⟨la, lc, rfl, -, -⟩ := sl_form (hs wr hB)
          have HS := Lib.hid hs
          have HB := Lib.hid hB
          generalize lv.length = ln at *
          have g0 : decide ((i : Int) < 5) = true := decide_eq_true (by omega)
          have p0 : (0 : Int) ≤ (i : Int) := by omega
          have p1 : (i : Int) < 5 := by omega
          clear hs hB hi
          go_wp2_with fail
          refine (PD.out _ lv wr (ST.out _ _ hw (bt BQ0.out HB.out)) (HS.out _ HB.out)).mono ?_
          have RD := Lib.hid (fun W (hW : Below W0.heap.size W0 W) => rdecode_any _ lv W (HS.out W hW))
          unfold ED at RD ⊢
          generalize decX lv = Y at *
          generalize decN lv = N at *
          generalize decE lv = E at *
          rintro e w3 ⟨⟨v3, rfl, s3, rfl, k1, k2, hs3⟩, hb3⟩
          obtain ⟨a3, c3, rfl, -, -⟩ := sl_form hs3
          obtain ⟨yn, hyn⟩ : ∃ n, n = Y.data.length := ⟨_, rfl⟩
          rw [← hyn] at hs3 ⊢
          have HYN := Lib.hid hyn
          have B3 := Lib.hid (bt HB.out hb3)
          have AL := (Below.refl w3.heap.size w3).alloc (Nat.le_refl _) (.cells #[.int .u64 (Y.key : Int), .int .u32 (Y.cookie : Int), .bool Y.del, .slice a3 yn c3] 26)
          have B4 := Lib.hid (bt B3.out AL)
          have ND : Hid (∀ W, Below (w3.alloc (.cells #[.int .u64 (Y.key : Int), .int .u32 (Y.cookie : Int), .bool Y.del, .slice a3 yn c3] 26)).heap.size (w3.alloc (.cells #[.int .u64 (Y.key : Int), .int .u32 (Y.cookie : Int), .bool Y.del, .slice a3 yn c3] 26)) W → Nd W (.agg #[.int .u64 (Y.key : Int), .int .u32 (Y.cookie : Int), .bool Y.del, .slice a3 yn c3]) Y) := fun W hW => ⟨_, rfl, k1, k2, sl_below (sl_below hs3 AL) hW⟩
          have X4 := Lib.hid (heap_alloc_new w3 (.cells #[.int .u64 (Y.key : Int), .int .u32 (Y.cookie : Int), .bool Y.del, .slice a3 yn c3] 26))
          clear hs3 k1 k2 AL hb3 hyn
          go_wp2_with fail
          refine (RD.out _ B4.out).mono ?_
          rintro e w5 ⟨⟨v5, rfl, s5, rfl, j1, j2, hs5⟩, hb5⟩
          obtain ⟨a4, c4, rfl, -, -⟩ := sl_form hs5
          rw [← HYN.out] at hs5 ⊢
          have AL := (Below.refl w5.heap.size w5).alloc (Nat.le_refl _) (.cells #[.int .u64 (Y.key : Int), .int .u32 (Y.cookie : Int), .bool Y.del, .slice a4 yn c4] 26)
          have B6 := Lib.hid (bt (bt B4.out hb5) AL)
          have hx6 := (AL.block _ (lt_of_some ((hb5.block _ (lt_of_some X4.out)).trans X4.out))).trans ((hb5.block _ (lt_of_some X4.out)).trans X4.out)
          have ND2 : Hid (Nd (w5.alloc (.cells #[.int .u64 (Y.key : Int), .int .u32 (Y.cookie : Int), .bool Y.del, .slice a4 yn c4] 26)) (.agg #[.int .u64 (Y.key : Int), .int .u32 (Y.cookie : Int), .bool Y.del, .slice a4 yn c4]) Y) := ⟨_, rfl, j1, j2, sl_below hs5 AL⟩
          have ND1 := Lib.hid (ND.out _ (bt hb5 AL))
          have hx7 := heap_alloc_new w5 (.cells #[.int .u64 (Y.key : Int), .int .u32 (Y.cookie : Int), .bool Y.del, .slice a4 yn c4] 26)
          obtain ⟨q0, q1, q2, q3⟩ := bx_cell hx6
          obtain ⟨r0, r1, r2, r3⟩ := bx_cell hx7
          clear hs5 j1 j2 AL hb5 hx6 hx7 ND X4 RD
          go_wp2_with (go_at_call 20; refine (rsame_any _ _ Y Y _ ND1.out ND2.out).mono ?_; rw [same_refl]; rintro e w7 ⟨rfl, hb7⟩; have B7 := Lib.hid (bt B6.out hb7); clear hb7)
          go_roundw
          case rel => exact ⟨i + 1, by omega, by go_num, B7.out⟩
          case measure => simp [intOf]; omega
        · obtain rfl : i = 5 := by omega
          have HB := Lib.hid hB
          clear hB hi hi2
          go_wp2_with fail
          refine (AW.out _ (ST.out _ _ hw (bt BQ0.out HB.out))).mono ?_
          rintro e w4 ⟨rfl, hb4⟩
          have B4 := Lib.hid (bt (bt BQ0.out HB.out) hb4)
          clear hb4 HB
          go_wp2_with fail
          go_ret
          exact ⟨rfl, B4.out⟩
  · obtain ⟨ua, uc, rfl, -, -⟩ := sl_form hu
    have HRN : Hid (RL.length ≤ 6000) := by show _ ≤ _; omega
    obtain ⟨un, hun⟩ : ∃ n, n = RL.length := ⟨_, rfl⟩
    rw [← hun] at hbig hu ⊢
    have HRL := Lib.hid (fun W (hB : Below w.heap.size w W) => sl_below hu hB)
    have g6 : decide ((6000 : Int) < (un : Int)) = false := decide_eq_false (by omega)
    clear hu hun hbig
    go_enter Tryd.func5, Tryd.ntmps5
    go_wp2_with fail
    refine (cut6_any _ x _ (HN.out _ B0.out)).mono ?_
    rintro e w1 ⟨⟨v1, rfl, hc⟩, hb1⟩
    have B1 := Lib.hid (bt B0.out hb1)
    clear hb1 B0
    go_wp2_with fail
    refine (rencode_any v1 (cutN x) w1 hc).mono ?_
    unfold EO
    have HO := Lib.hid (nd_ok hc)
    clear hc HN
    generalize cutN x = X at *
    rintro e w2 ⟨⟨s2, rfl, ho⟩, hb2⟩
    have B2 := Lib.hid (bt B1.out hb2)
    clear hb2 B1
    by_cases hE : encE X = 0
    · rw [show encL X = recL X by unfold encL; rw [if_pos hE]] at ho
      rw [hE]
      have hge := szR_ge X.data.length
      obtain ⟨R, hR⟩ : ∃ R, R = szR X.data.length := ⟨_, rfl⟩
      have hlen : (recL X).length = R := by rw [recL_length, hR]
      have hle : R ≤ 4128 := by
        have h1 := (enc_ok hE).1
        have h2 := szR_lt X.data.length
        omega
      rw [← hR] at hge
      obtain ⟨gb, c, hv, -⟩ := own_pos ho (by omega)
      subst hv
      have HCAP := Lib.hid (own_capl ho).1
      rw [hlen] at HCAP ho ⊢
      have HSB := Lib.hid ho.sl
      have HLB : Hid ((recL X).length = R ∧ 1 ≤ R ∧ R ≤ 5000 ∧ RL.length ≤ 6000) := ⟨hlen, by omega, by omega, HRN.out⟩
      clear hE hR hlen hle hge ho
      obtain ⟨t, p, t1, t2, t3, t4, t5⟩ : ∃ (t : Int) (p : Nat), n0.tmod (R : Int) = t ∧ -(R : Int) < t ∧ t < (R : Int) ∧ (t + (R : Int)).tmod (R : Int) = (p : Int) ∧ p < R := ⟨_, _, rfl, (rmd_eq n0 (R := R) HLB.out.2.1).2.1, (rmd_eq n0 (R := R) HLB.out.2.1).2.2, (rmd_eq n0 (R := R) HLB.out.2.1).1, rmd_lt n0 HLB.out.2.1⟩
      have g1 : ((R : Int) == 0) = false := beq_false_of_ne (by have := HLB.out.2.1; omega)
      have g2 : ((R : Int) = 0) = False := eq_false (by have := HLB.out.2.1; omega)
      have p1 : (p : Int) < (R : Int) := by omega
      have p0 : (0 : Int) ≤ (p : Int) := by omega
      have o2 : wrap64 (t + (R : Int)) = t + (R : Int) := by have := HLB.out.2.2.1; unfold wrap64; omega
      have HP : Hid (0 < (recL X).length) := by show 0 < _; have := HLB.out; omega
      have HT5 := Lib.hid t5
      have OE := Lib.hid (own_empty w2 (Nat.le_refl w2.heap.size))
      have BE := Lib.hid ((Below.refl w2.heap.size w2).alloc (Nat.le_refl _) (.cells #[] 5))
      clear t2 t3 t5
      go_wp2_with (at_builtin; refine app_sl (dst := some 38) ?_ ?_ OE.out (sl_below HSB.out BE.out) (by have := HLB.out.1; have := HLB.out.2.2.1; simp; omega) (by simp) ?_; exact rfl; exact rfl; intro v5 w5 ho5 hg5; rw [List.nil_append] at ho5; have B5 := Lib.hid (BE.out.grown hg5 BE.out.size fun q hq => by have := OE.out.lt q hq; omega); obtain ⟨g5, c5, hv5, hge5⟩ := own_pos ho5 HP.out; rw [HLB.out.1] at hv5; subst hv5; obtain ⟨y0, y1, -⟩ := own_cell ho5 HLB.out.1 HT5.out; have O5 := Lib.hid ho5; have G5 := Lib.hid hge5; clear ho5 hg5 hge5)
      have B6 := Lib.hid (B5.out.setCell (p := ⟨g5, p, none⟩) G5.out (.int .u8 (cb : Int)))
      have BT := Lib.hid (bt B2.out B6.out)
      have HR0 := Lib.hid (HRL.out _ BT.out)
      have HB1 := Lib.hid (sl_below HSB.out B6.out)
      have HS1 := Lib.hid (own_set O5.out HLB.out.1 HT5.out HCB.out).sl
      rw [o2]
      clear y0 y1 o2 B6 B5 O5 G5 OE BE t1 t4 g1 p0 p1 HP
      generalize w5.setCell ⟨g5, p, none⟩ (.int .u8 (cb : Int)) = WT at *
      obtain ⟨t2, p2, s1, s2, s3, s4, s5⟩ : ∃ (t : Int) (p : Nat), n4.tmod (R : Int) = t ∧ -(R : Int) < t ∧ t < (R : Int) ∧ (t + (R : Int)).tmod (R : Int) = (p : Int) ∧ p < R := ⟨_, _, rfl, (rmd_eq n4 (R := R) HLB.out.2.1).2.1, (rmd_eq n4 (R := R) HLB.out.2.1).2.2, (rmd_eq n4 (R := R) HLB.out.2.1).1, rmd_lt n4 HLB.out.2.1⟩
      have u2 : wrap64 (t2 + (R : Int)) = t2 + (R : Int) := by have := HLB.out.2.2.1; unfold wrap64; omega
      have u3 : IntKind.i64.wrap (t2 + (R : Int)) = t2 + (R : Int) := IntWalk.i64_in _ (by have := HLB.out.2.2.1; omega)
      have u4 : (p2 : Int) ≤ (c : Int) := by have := HCAP.out; omega
      have u5 : (0 : Int) ≤ (p2 : Int) := by omega
      have HB3 := Lib.hid (sl_take (n := p2) (show Sl WT (.slice (some ⟨gb, 0, none⟩) (recL X).length c) (recL X) by rw [HLB.out.1]; exact HB1.out) (by have := HLB.out.1; omega))
      have g2 : ((R : Int) == 0) = false := beq_false_of_ne (by have := HLB.out.2.1; omega)
      have g4 : ¬ R = 0 := by have := HLB.out.2.1; omega
      clear s2 s3 s5
      go_wp2_with fail
      refine wp_onlyN ?_
      have B0' := Lib.hid (Below.refl WT.heap.size WT).drew
      refine wp_region_headsS (fun w' => Below WT.heap.size WT w') [0, 1, 2, 3, 4, 5, 6, 7, 8, 9, 10, 11, 12, 13, 14, 16, 18, 22] 5 (by kernel_rfl) (fun _ _ _ _ _ h => h.elim) (by kernel_rfl) (by rfl) (by rfl) B0'.out ?_
      simp only [pickOps, List.filterMap_cons, List.filterMap_nil, List.getElem?_toArray, List.getElem?_cons_zero, List.getElem?_cons_succ]
      refine wpHeads_step (fun K hK => ?_)
      go_simp
      refine ⟨_, fun _ _ => rfl, hK _ ?_⟩
      clear hK K
      refine wpHeads_step (fun K hK => ?_)
      go_simp
      refine ⟨_, fun _ _ => rfl, hK _ ?_⟩
      clear hK K
      refine wpHeads_step (fun K hK => ?_)
      go_simp
      refine ⟨_, fun _ _ => rfl, hK _ ?_⟩
      clear hK K
      refine wpHeads_step (fun K hK => ?_)
      go_simp
      refine ⟨_, fun _ _ => rfl, hK _ ?_⟩
      clear hK K
      refine wpHeads_step (fun K hK => ?_)
      go_simp
      refine ⟨_, fun _ _ => rfl, hK _ ?_⟩
      clear hK K
      refine wpHeads_step (fun K hK => ?_)
      go_simp
      refine ⟨_, fun _ _ => rfl, hK _ ?_⟩
      clear hK K
      refine wpHeads_step (fun K hK => ?_)
      go_simp
      refine ⟨_, fun _ _ => rfl, hK _ ?_⟩
      clear hK K
      refine wpHeads_step (fun K hK => ?_)
      go_simp
      refine ⟨_, fun _ _ => rfl, hK _ ?_⟩
      clear hK K
      refine wpHeads_step (fun K hK => ?_)
      go_simp
      refine ⟨_, fun _ _ => rfl, hK _ ?_⟩
      clear hK K
      refine wpHeads_step (fun K hK => ?_)
      go_simp
      refine ⟨_, fun _ _ => rfl, hK _ ?_⟩
      clear hK K
      refine wpHeads_step (fun K hK => ?_)
      go_simp
      refine ⟨_, fun _ _ => rfl, hK _ ?_⟩
      clear hK K
      refine wpHeads_step (fun K hK => ?_)
      go_simp
      refine ⟨_, fun _ _ => rfl, hK _ ?_⟩
      clear hK K
      refine wpHeads_step (fun K hK => ?_)
      go_simp
      refine ⟨_, fun _ _ => rfl, hK _ ?_⟩
      clear hK K
      refine wpHeads_step (fun K hK => ?_)
      go_simp
      refine ⟨_, fun _ _ => rfl, hK _ ?_⟩
      clear hK K
      refine wpHeads_step (fun K hK => ?_)
      go_simp
      refine ⟨_, fun _ _ => rfl, hK _ ?_⟩
      clear hK K
      refine wpHeads_step (fun K hK => ?_)
      go_simp
      refine ⟨_, fun _ _ => rfl, hK _ ?_⟩
      clear hK K
      refine wpHeads_step (fun K hK => ?_)
      go_simp
      refine ⟨_, fun _ _ => rfl, hK _ ?_⟩
      clear hK K
      refine wpHeads_step (fun K hK => ?_)
      go_simp
      refine ⟨_, fun _ _ => rfl, hK _ ?_⟩
      clear hK K
      refine wpHeads_nil ?_
      generalize WT.drew = W7 at *
      have OE := Lib.hid (own_empty W7 (base := WT.heap.size) B0'.out.size)
      have BE := Lib.hid (B0'.out.alloc B0'.out.size (.cells #[] 5))
      refine held_g 15 rfl (by kernel_rfl) (by kernel_rfl) fun K hK => ?_
      go_simp
      refine hK _ _ BE.out ?_
      clear hK K
      generalize W7.alloc (.cells #[] 5) = W8 at *
      generalize W7.heap.size = ge at *
      refine held_g 17 rfl (by kernel_rfl) (by kernel_rfl) fun K hK => ?_
      refine wp_app (l := []) (m := (recL X)) rfl rfl OE.out (sl_below HB1.out BE.out) (by have := HLB.out.1; have := HLB.out.2.2.1; simp; omega) BE.out.size ?_
      intro v9 W9 ho9 hg9
      have B9 := Lib.hid (BE.out.grown hg9 BE.out.size fun q hq => by have := OE.out.lt q hq; omega)
      rw [List.nil_append] at ho9
      obtain ⟨a9, n9, c9, rfl, -⟩ := own_form ho9
      have O9 := Lib.hid ho9
      refine hK _ _ B9.out ?_
      clear hK K ho9 hg9
      refine held_g 19 rfl (by kernel_rfl) (by kernel_rfl) fun K hK => ?_
      refine wp_app (l := (recL X)) (m := RL) rfl rfl O9.out (sl_below HR0.out B9.out) (by have := HLB.out; omega) B9.out.size ?_
      intro v10 W10 ho10 hg10
      have B10 := Lib.hid (B9.out.grown hg10 B9.out.size fun q hq => by have := O9.out.lt q hq; omega)
      obtain ⟨a10, n10, c10, rfl, -⟩ := own_form ho10
      have O10 := Lib.hid ho10
      refine hK _ _ B10.out ?_
      clear hK K ho10 hg10
      have AQ := (Below.refl W10.heap.size W10).alloc (Nat.le_refl _) (.cells #[.slice ua un uc, .slice (some ⟨gb, 0, none⟩) R c, .slice (some ⟨g5, 0, none⟩) R c5, .slice (some ⟨gb, 0, none⟩) p2 c, .slice a10 n10 c10] 24)
      have XQ := Lib.hid (heap_alloc_new W10 (.cells #[.slice ua un uc, .slice (some ⟨gb, 0, none⟩) R c, .slice (some ⟨g5, 0, none⟩) R c5, .slice (some ⟨gb, 0, none⟩) p2 c, .slice a10 n10 c10] 24))
      have BQ := bt B10.out AQ
      refine held_g 20 rfl (by kernel_rfl) (by kernel_rfl) fun K hK => ?_
      go_simp
      refine hK _ _ BQ ?_
      clear hK K
      have BQ0 := Lib.hid (bt BT.out BQ)
      have S0 := Lib.hid (sl_below HR0.out BQ)
      have S1 := Lib.hid (sl_below HB1.out BQ)
      have S2 := Lib.hid (sl_below HS1.out BQ)
      have S3 := Lib.hid (sl_below HB3.out BQ)
      have S4 := Lib.hid (sl_below O10.out.sl AQ)
      have BQH := Lib.hid BQ
      clear AQ BQ B9 B10 O9 O10 BE OE
      generalize W10.alloc (.cells #[.slice ua un uc, .slice (some ⟨gb, 0, none⟩) R c, .slice (some ⟨g5, 0, none⟩) R c5, .slice (some ⟨gb, 0, none⟩) p2 c, .slice a10 n10 c10] 24) = W0 at *
      generalize W10.heap.size = q at *
      refine held_g 21 rfl (by kernel_rfl) (by kernel_rfl) fun K hK => ?_
      go_simp
      refine hK _ _ BQH.out ?_
      clear hK K
      refine wpAnyH_done (by kernel_rfl) ?_ _
      unfold onlyN
      dsimp only
      clear BQH HR0 HB1 HS1 HB3 B0' BT u2 u3 u4 u5 s1 s4 g2 g4
      go_wp2_with fail
      go_loopw [15, 16, 17, 18, 19, 20, 21, 74] (fun _ _ _ _ _ _ _ t wr => ∃ i : Nat, i ≤ 5 ∧ t = .int .i64 (i : Int) ∧ Below W0.heap.size W0 wr) (fun _ _ _ _ _ _ _ t _ => 5 - (intOf t).toNat)
      case atStart => exact ⟨0, by omega, rfl, Below.refl _ _⟩
      case round =>
        obtain ⟨i, hi, rfl, hB⟩ := hrel
        by_cases hi2 : i < 5
        · obtain ⟨sv, lv, hc, hs⟩ : ∃ sv lv, wr.cell? ⟨q, i, none⟩ = some sv ∧ (∀ W, Below W0.heap.size W0 W → Sl W sv lv) := by
            have hx := (hB.block q (lt_of_some XQ.out)).trans XQ.out
            rcases (show i = 0 ∨ i = 1 ∨ i = 2 ∨ i = 3 ∨ i = 4 by omega) with rfl | rfl | rfl | rfl | rfl
            · exact ⟨_, _, cell_of_row wr q 0 _ _ _ hx, fun W hW => sl_below S0.out hW⟩
            · exact ⟨_, _, cell_of_row wr q 1 _ _ _ hx, fun W hW => sl_below S1.out hW⟩
            · exact ⟨_, _, cell_of_row wr q 2 _ _ _ hx, fun W hW => sl_below S2.out hW⟩
            · exact ⟨_, _, cell_of_row wr q 3 _ _ _ hx, fun W hW => sl_below S3.out hW⟩
            · exact ⟨_, _, cell_of_row wr q 4 _ _ _ hx, fun W hW => sl_below S4.out hW⟩
          obtain ⟨la, lc, rfl, -, -⟩ := sl_form (hs wr hB)
          have HS := Lib.hid hs
          have HB := Lib.hid hB
          generalize lv.length = ln at *
          have g0 : decide ((i : Int) < 5) = true := decide_eq_true (by omega)
          have p0 : (0 : Int) ≤ (i : Int) := by omega
          have p1 : (i : Int) < 5 := by omega
          clear hs hB hi
          go_wp2_with fail
          refine (PD.out _ lv wr (ST.out _ _ hw (bt BQ0.out HB.out)) (HS.out _ HB.out)).mono ?_
          have RD := Lib.hid (fun W (hW : Below W0.heap.size W0 W) => rdecode_any _ lv W (HS.out W hW))
          unfold ED at RD ⊢
          generalize decX lv = Y at *
          generalize decN lv = N at *
          generalize decE lv = E at *
          rintro e w3 ⟨⟨v3, rfl, s3, rfl, k1, k2, hs3⟩, hb3⟩
          obtain ⟨a3, c3, rfl, -, -⟩ := sl_form hs3
          obtain ⟨yn, hyn⟩ : ∃ n, n = Y.data.length := ⟨_, rfl⟩
          rw [← hyn] at hs3 ⊢
          have HYN := Lib.hid hyn
          have B3 := Lib.hid (bt HB.out hb3)
          have AL := (Below.refl w3.heap.size w3).alloc (Nat.le_refl _) (.cells #[.int .u64 (Y.key : Int), .int .u32 (Y.cookie : Int), .bool Y.del, .slice a3 yn c3] 26)
          have B4 := Lib.hid (bt B3.out AL)
          have ND : Hid (∀ W, Below (w3.alloc (.cells #[.int .u64 (Y.key : Int), .int .u32 (Y.cookie : Int), .bool Y.del, .slice a3 yn c3] 26)).heap.size (w3.alloc (.cells #[.int .u64 (Y.key : Int), .int .u32 (Y.cookie : Int), .bool Y.del, .slice a3 yn c3] 26)) W → Nd W (.agg #[.int .u64 (Y.key : Int), .int .u32 (Y.cookie : Int), .bool Y.del, .slice a3 yn c3]) Y) := fun W hW => ⟨_, rfl, k1, k2, sl_below (sl_below hs3 AL) hW⟩
          have X4 := Lib.hid (heap_alloc_new w3 (.cells #[.int .u64 (Y.key : Int), .int .u32 (Y.cookie : Int), .bool Y.del, .slice a3 yn c3] 26))
          clear hs3 k1 k2 AL hb3 hyn
          go_wp2_with fail
          refine (RD.out _ B4.out).mono ?_
          rintro e w5 ⟨⟨v5, rfl, s5, rfl, j1, j2, hs5⟩, hb5⟩
          obtain ⟨a4, c4, rfl, -, -⟩ := sl_form hs5
          rw [← HYN.out] at hs5 ⊢
          have AL := (Below.refl w5.heap.size w5).alloc (Nat.le_refl _) (.cells #[.int .u64 (Y.key : Int), .int .u32 (Y.cookie : Int), .bool Y.del, .slice a4 yn c4] 26)
          have B6 := Lib.hid (bt (bt B4.out hb5) AL)
          have hx6 := (AL.block _ (lt_of_some ((hb5.block _ (lt_of_some X4.out)).trans X4.out))).trans ((hb5.block _ (lt_of_some X4.out)).trans X4.out)
          have ND2 : Hid (Nd (w5.alloc (.cells #[.int .u64 (Y.key : Int), .int .u32 (Y.cookie : Int), .bool Y.del, .slice a4 yn c4] 26)) (.agg #[.int .u64 (Y.key : Int), .int .u32 (Y.cookie : Int), .bool Y.del, .slice a4 yn c4]) Y) := ⟨_, rfl, j1, j2, sl_below hs5 AL⟩
          have ND1 := Lib.hid (ND.out _ (bt hb5 AL))
          have hx7 := heap_alloc_new w5 (.cells #[.int .u64 (Y.key : Int), .int .u32 (Y.cookie : Int), .bool Y.del, .slice a4 yn c4] 26)
          obtain ⟨q0, q1, q2, q3⟩ := bx_cell hx6
          obtain ⟨r0, r1, r2, r3⟩ := bx_cell hx7
          clear hs5 j1 j2 AL hb5 hx6 hx7 ND X4 RD
          go_wp2_with (go_at_call 20; refine (rsame_any _ _ Y Y _ ND1.out ND2.out).mono ?_; rw [same_refl]; rintro e w7 ⟨rfl, hb7⟩; have B7 := Lib.hid (bt B6.out hb7); clear hb7)
          go_roundw
          case rel => exact ⟨i + 1, by omega, by go_num, B7.out⟩
          case measure => simp [intOf]; omega
        · obtain rfl : i = 5 := by omega
          have HB := Lib.hid hB
          clear hB hi hi2
          go_wp2_with fail
          refine (AW.out _ (ST.out _ _ hw (bt BQ0.out HB.out))).mono ?_
          rintro e w4 ⟨rfl, hb4⟩
          have B4 := Lib.hid (bt (bt BQ0.out HB.out) hb4)
          clear hb4 HB
          go_wp2_with fail
          go_ret
          exact ⟨rfl, B4.out⟩
    · obtain ⟨E, hE2⟩ : ∃ E, E = encE X := ⟨_, rfl⟩
      rw [show encL X = [] by unfold encL; rw [if_neg hE]] at ho
      rw [← hE2] at hE ⊢
      have g9 : ((E : Int) != 0) = true := bne_iff_ne.2 (by omega)
      obtain ⟨a2, n2, c2, rfl, -⟩ := own_form ho
      have HB9 := (Below.refl w2.heap.size w2).alloc (Nat.le_refl _) (.cells #[.int .u8 0] 5)
      have hs9 := sl_one (w := w2.alloc (.cells #[.int .u8 0] 5)) (z := 0) (by decide) (heap_alloc_new w2 _)
      obtain ⟨wb, hwb⟩ : ∃ wb, wb = w2.alloc (.cells #[.int .u8 0] 5) := ⟨_, rfl⟩
      have B3 := Lib.hid (bt B2.out HB9)
      have HS9 := Lib.hid hs9
      clear hE hE2 ho HB9 hs9 hwb wb
      go_upto_region 6 with fail
      generalize w2.alloc (.cells #[.int .u8 0] 5) = wb at *
      generalize w2.heap.size = gb at *
      obtain ⟨BL, hBL⟩ : ∃ BL : List Nat, BL = [0] := ⟨_, rfl⟩
      rw [← hBL] at HS9
      obtain ⟨R, hR⟩ : ∃ R : Nat, R = 1 := ⟨_, rfl⟩
      have HSB : Hid (Sl wb (.slice (some ⟨gb, 0, none⟩) R R) BL) := by show Sl _ _ _; rw [hR]; exact HS9.out
      have HLB : Hid (BL.length = R ∧ 1 ≤ R ∧ R ≤ 5000 ∧ RL.length ≤ 6000) := ⟨by rw [hBL, hR]; rfl, by omega, by omega, HRN.out⟩
      have HCAP : Hid (R ≤ R) := Nat.le_refl _
      have B2 := B3
      rw [show (Value.slice (some ⟨gb, 0, none⟩) 1 1) = Value.slice (some ⟨gb, 0, none⟩) R R by rw [hR]]
      clear hR
      clear HS9 hBL B3
      obtain ⟨t, p, t1, t2, t3, t4, t5⟩ : ∃ (t : Int) (p : Nat), n0.tmod (R : Int) = t ∧ -(R : Int) < t ∧ t < (R : Int) ∧ (t + (R : Int)).tmod (R : Int) = (p : Int) ∧ p < R := ⟨_, _, rfl, (rmd_eq n0 (R := R) HLB.out.2.1).2.1, (rmd_eq n0 (R := R) HLB.out.2.1).2.2, (rmd_eq n0 (R := R) HLB.out.2.1).1, rmd_lt n0 HLB.out.2.1⟩
      have g1 : ((R : Int) == 0) = false := beq_false_of_ne (by have := HLB.out.2.1; omega)
      have g2 : ((R : Int) = 0) = False := eq_false (by have := HLB.out.2.1; omega)
      have p1 : (p : Int) < (R : Int) := by omega
      have p0 : (0 : Int) ≤ (p : Int) := by omega
      have o2 : wrap64 (t + (R : Int)) = t + (R : Int) := by have := HLB.out.2.2.1; unfold wrap64; omega
      have HP : Hid (0 < BL.length) := by show 0 < _; have := HLB.out; omega
      have HT5 := Lib.hid t5
      have OE := Lib.hid (own_empty wb (Nat.le_refl wb.heap.size))
      have BE := Lib.hid ((Below.refl wb.heap.size wb).alloc (Nat.le_refl _) (.cells #[] 5))
      clear t2 t3 t5
      go_wp2_with (at_builtin; refine app_sl (dst := some 38) ?_ ?_ OE.out (sl_below HSB.out BE.out) (by have := HLB.out.1; have := HLB.out.2.2.1; simp; omega) (by simp) ?_; exact rfl; exact rfl; intro v5 w5 ho5 hg5; rw [List.nil_append] at ho5; have B5 := Lib.hid (BE.out.grown hg5 BE.out.size fun q hq => by have := OE.out.lt q hq; omega); obtain ⟨g5, c5, hv5, hge5⟩ := own_pos ho5 HP.out; rw [HLB.out.1] at hv5; subst hv5; obtain ⟨y0, y1, -⟩ := own_cell ho5 HLB.out.1 HT5.out; have O5 := Lib.hid ho5; have G5 := Lib.hid hge5; clear ho5 hg5 hge5)
      have B6 := Lib.hid (B5.out.setCell (p := ⟨g5, p, none⟩) G5.out (.int .u8 (cb : Int)))
      have BT := Lib.hid (bt B2.out B6.out)
      have HR0 := Lib.hid (HRL.out _ BT.out)
      have HB1 := Lib.hid (sl_below HSB.out B6.out)
      have HS1 := Lib.hid (own_set O5.out HLB.out.1 HT5.out HCB.out).sl
      rw [o2]
      clear y0 y1 o2 B6 B5 O5 G5 OE BE t1 t4 g1 p0 p1 HP
      generalize w5.setCell ⟨g5, p, none⟩ (.int .u8 (cb : Int)) = WT at *
      obtain ⟨t2, p2, s1, s2, s3, s4, s5⟩ : ∃ (t : Int) (p : Nat), n4.tmod (R : Int) = t ∧ -(R : Int) < t ∧ t < (R : Int) ∧ (t + (R : Int)).tmod (R : Int) = (p : Int) ∧ p < R := ⟨_, _, rfl, (rmd_eq n4 (R := R) HLB.out.2.1).2.1, (rmd_eq n4 (R := R) HLB.out.2.1).2.2, (rmd_eq n4 (R := R) HLB.out.2.1).1, rmd_lt n4 HLB.out.2.1⟩
      have u2 : wrap64 (t2 + (R : Int)) = t2 + (R : Int) := by have := HLB.out.2.2.1; unfold wrap64; omega
      have u3 : IntKind.i64.wrap (t2 + (R : Int)) = t2 + (R : Int) := IntWalk.i64_in _ (by have := HLB.out.2.2.1; omega)
      have u4 : (p2 : Int) ≤ (R : Int) := by have := HCAP.out; omega
      have u5 : (0 : Int) ≤ (p2 : Int) := by omega
      have HB3 := Lib.hid (sl_take (n := p2) (show Sl WT (.slice (some ⟨gb, 0, none⟩) BL.length R) BL by rw [HLB.out.1]; exact HB1.out) (by have := HLB.out.1; omega))
      have g2 : ((R : Int) == 0) = false := beq_false_of_ne (by have := HLB.out.2.1; omega)
      have g4 : ¬ R = 0 := by have := HLB.out.2.1; omega
      clear s2 s3 s5
      go_wp2_with fail
      refine wp_onlyN ?_
      have B0' := Lib.hid (Below.refl WT.heap.size WT).drew
      refine wp_region_headsS (fun w' => Below WT.heap.size WT w') [0, 1, 2, 3, 4, 5, 6, 7, 8, 9, 10, 11, 12, 13, 14, 16, 18, 22] 5 (by kernel_rfl) (fun _ _ _ _ _ h => h.elim) (by kernel_rfl) (by rfl) (by rfl) B0'.out ?_
      simp only [pickOps, List.filterMap_cons, List.filterMap_nil, List.getElem?_toArray, List.getElem?_cons_zero, List.getElem?_cons_succ]
      refine wpHeads_step (fun K hK => ?_)
      go_simp
      refine ⟨_, fun _ _ => rfl, hK _ ?_⟩
      clear hK K
      refine wpHeads_step (fun K hK => ?_)
      go_simp
      refine ⟨_, fun _ _ => rfl, hK _ ?_⟩
      clear hK K
      refine wpHeads_step (fun K hK => ?_)
      go_simp
      refine ⟨_, fun _ _ => rfl, hK _ ?_⟩
      clear hK K
      refine wpHeads_step (fun K hK => ?_)
      go_simp
      refine ⟨_, fun _ _ => rfl, hK _ ?_⟩
      clear hK K
      refine wpHeads_step (fun K hK => ?_)
      go_simp
      refine ⟨_, fun _ _ => rfl, hK _ ?_⟩
      clear hK K
      refine wpHeads_step (fun K hK => ?_)
      go_simp
      refine ⟨_, fun _ _ => rfl, hK _ ?_⟩
      clear hK K
      refine wpHeads_step (fun K hK => ?_)
      go_simp
      refine ⟨_, fun _ _ => rfl, hK _ ?_⟩
      clear hK K
      refine wpHeads_step (fun K hK => ?_)
      go_simp
      refine ⟨_, fun _ _ => rfl, hK _ ?_⟩
      clear hK K
      refine wpHeads_step (fun K hK => ?_)
      go_simp
      refine ⟨_, fun _ _ => rfl, hK _ ?_⟩
      clear hK K
      refine wpHeads_step (fun K hK => ?_)
      go_simp
      refine ⟨_, fun _ _ => rfl, hK _ ?_⟩
      clear hK K
      refine wpHeads_step (fun K hK => ?_)
      go_simp
      refine ⟨_, fun _ _ => rfl, hK _ ?_⟩
      clear hK K
      refine wpHeads_step (fun K hK => ?_)
      go_simp
      refine ⟨_, fun _ _ => rfl, hK _ ?_⟩
      clear hK K
      refine wpHeads_step (fun K hK => ?_)
      go_simp
      refine ⟨_, fun _ _ => rfl, hK _ ?_⟩
      clear hK K
      refine wpHeads_step (fun K hK => ?_)
      go_simp
      refine ⟨_, fun _ _ => rfl, hK _ ?_⟩
      clear hK K
      refine wpHeads_step (fun K hK => ?_)
      go_simp
      refine ⟨_, fun _ _ => rfl, hK _ ?_⟩
      clear hK K
      refine wpHeads_step (fun K hK => ?_)
      go_simp
      refine ⟨_, fun _ _ => rfl, hK _ ?_⟩
      clear hK K
      refine wpHeads_step (fun K hK => ?_)
      go_simp
      refine ⟨_, fun _ _ => rfl, hK _ ?_⟩
      clear hK K
      refine wpHeads_step (fun K hK => ?_)
      go_simp
      refine ⟨_, fun _ _ => rfl, hK _ ?_⟩
      clear hK K
      refine wpHeads_nil ?_
      generalize WT.drew = W7 at *
      have OE := Lib.hid (own_empty W7 (base := WT.heap.size) B0'.out.size)
      have BE := Lib.hid (B0'.out.alloc B0'.out.size (.cells #[] 5))
      refine held_g 15 rfl (by kernel_rfl) (by kernel_rfl) fun K hK => ?_
      go_simp
      refine hK _ _ BE.out ?_
      clear hK K
      generalize W7.alloc (.cells #[] 5) = W8 at *
      generalize W7.heap.size = ge at *
      refine held_g 17 rfl (by kernel_rfl) (by kernel_rfl) fun K hK => ?_
      refine wp_app (l := []) (m := BL) rfl rfl OE.out (sl_below HB1.out BE.out) (by have := HLB.out.1; have := HLB.out.2.2.1; simp; omega) BE.out.size ?_
      intro v9 W9 ho9 hg9
      have B9 := Lib.hid (BE.out.grown hg9 BE.out.size fun q hq => by have := OE.out.lt q hq; omega)
      rw [List.nil_append] at ho9
      obtain ⟨a9, n9, c9, rfl, -⟩ := own_form ho9
      have O9 := Lib.hid ho9
      refine hK _ _ B9.out ?_
      clear hK K ho9 hg9
      refine held_g 19 rfl (by kernel_rfl) (by kernel_rfl) fun K hK => ?_
      refine wp_app (l := BL) (m := RL) rfl rfl O9.out (sl_below HR0.out B9.out) (by have := HLB.out; omega) B9.out.size ?_
      intro v10 W10 ho10 hg10
      have B10 := Lib.hid (B9.out.grown hg10 B9.out.size fun q hq => by have := O9.out.lt q hq; omega)
      obtain ⟨a10, n10, c10, rfl, -⟩ := own_form ho10
      have O10 := Lib.hid ho10
      refine hK _ _ B10.out ?_
      clear hK K ho10 hg10
      have AQ := (Below.refl W10.heap.size W10).alloc (Nat.le_refl _) (.cells #[.slice ua un uc, .slice (some ⟨gb, 0, none⟩) R R, .slice (some ⟨g5, 0, none⟩) R c5, .slice (some ⟨gb, 0, none⟩) p2 R, .slice a10 n10 c10] 24)
      have XQ := Lib.hid (heap_alloc_new W10 (.cells #[.slice ua un uc, .slice (some ⟨gb, 0, none⟩) R R, .slice (some ⟨g5, 0, none⟩) R c5, .slice (some ⟨gb, 0, none⟩) p2 R, .slice a10 n10 c10] 24))
      have BQ := bt B10.out AQ
      refine held_g 20 rfl (by kernel_rfl) (by kernel_rfl) fun K hK => ?_
      go_simp
      refine hK _ _ BQ ?_
      clear hK K
      have BQ0 := Lib.hid (bt BT.out BQ)
      have S0 := Lib.hid (sl_below HR0.out BQ)
      have S1 := Lib.hid (sl_below HB1.out BQ)
      have S2 := Lib.hid (sl_below HS1.out BQ)
      have S3 := Lib.hid (sl_below HB3.out BQ)
      have S4 := Lib.hid (sl_below O10.out.sl AQ)
      have BQH := Lib.hid BQ
      clear AQ BQ B9 B10 O9 O10 BE OE
      generalize W10.alloc (.cells #[.slice ua un uc, .slice (some ⟨gb, 0, none⟩) R R, .slice (some ⟨g5, 0, none⟩) R c5, .slice (some ⟨gb, 0, none⟩) p2 R, .slice a10 n10 c10] 24) = W0 at *
      generalize W10.heap.size = q at *
      refine held_g 21 rfl (by kernel_rfl) (by kernel_rfl) fun K hK => ?_
      go_simp
      refine hK _ _ BQH.out ?_
      clear hK K
      refine wpAnyH_done (by kernel_rfl) ?_ _
      unfold onlyN
      dsimp only
      clear BQH HR0 HB1 HS1 HB3 B0' BT u2 u3 u4 u5 s1 s4 g2 g4
      go_wp2_with fail
      go_loopw [15, 16, 17, 18, 19, 20, 21, 74] (fun _ _ _ _ _ _ _ t wr => ∃ i : Nat, i ≤ 5 ∧ t = .int .i64 (i : Int) ∧ Below W0.heap.size W0 wr) (fun _ _ _ _ _ _ _ t _ => 5 - (intOf t).toNat)
      case atStart => exact ⟨0, by omega, rfl, Below.refl _ _⟩
      case round =>
        obtain ⟨i, hi, rfl, hB⟩ := hrel
        by_cases hi2 : i < 5
        · obtain ⟨sv, lv, hc, hs⟩ : ∃ sv lv, wr.cell? ⟨q, i, none⟩ = some sv ∧ (∀ W, Below W0.heap.size W0 W → Sl W sv lv) := by
            have hx := (hB.block q (lt_of_some XQ.out)).trans XQ.out
            rcases (show i = 0 ∨ i = 1 ∨ i = 2 ∨ i = 3 ∨ i = 4 by omega) with rfl | rfl | rfl | rfl | rfl
            · exact ⟨_, _, cell_of_row wr q 0 _ _ _ hx, fun W hW => sl_below S0.out hW⟩
            · exact ⟨_, _, cell_of_row wr q 1 _ _ _ hx, fun W hW => sl_below S1.out hW⟩
            · exact ⟨_, _, cell_of_row wr q 2 _ _ _ hx, fun W hW => sl_below S2.out hW⟩
            · exact ⟨_, _, cell_of_row wr q 3 _ _ _ hx, fun W hW => sl_below S3.out hW⟩
            · exact ⟨_, _, cell_of_row wr q 4 _ _ _ hx, fun W hW => sl_below S4.out hW⟩
          obtain ⟨la, lc, rfl, -, -⟩ := sl_form (hs wr hB)
          have HS := Lib.hid hs
          have HB := Lib.hid hB
          generalize lv.length = ln at *
          have g0 : decide ((i : Int) < 5) = true := decide_eq_true (by omega)
          have p0 : (0 : Int) ≤ (i : Int) := by omega
          have p1 : (i : Int) < 5 := by omega
          clear hs hB hi
          go_wp2_with fail
          refine (PD.out _ lv wr (ST.out _ _ hw (bt BQ0.out HB.out)) (HS.out _ HB.out)).mono ?_
          have RD := Lib.hid (fun W (hW : Below W0.heap.size W0 W) => rdecode_any _ lv W (HS.out W hW))
          unfold ED at RD ⊢
          generalize decX lv = Y at *
          generalize decN lv = N at *
          generalize decE lv = E at *
          rintro e w3 ⟨⟨v3, rfl, s3, rfl, k1, k2, hs3⟩, hb3⟩
          obtain ⟨a3, c3, rfl, -, -⟩ := sl_form hs3
          obtain ⟨yn, hyn⟩ : ∃ n, n = Y.data.length := ⟨_, rfl⟩
          rw [← hyn] at hs3 ⊢
          have HYN := Lib.hid hyn
          have B3 := Lib.hid (bt HB.out hb3)
          have AL := (Below.refl w3.heap.size w3).alloc (Nat.le_refl _) (.cells #[.int .u64 (Y.key : Int), .int .u32 (Y.cookie : Int), .bool Y.del, .slice a3 yn c3] 26)
          have B4 := Lib.hid (bt B3.out AL)
          have ND : Hid (∀ W, Below (w3.alloc (.cells #[.int .u64 (Y.key : Int), .int .u32 (Y.cookie : Int), .bool Y.del, .slice a3 yn c3] 26)).heap.size (w3.alloc (.cells #[.int .u64 (Y.key : Int), .int .u32 (Y.cookie : Int), .bool Y.del, .slice a3 yn c3] 26)) W → Nd W (.agg #[.int .u64 (Y.key : Int), .int .u32 (Y.cookie : Int), .bool Y.del, .slice a3 yn c3]) Y) := fun W hW => ⟨_, rfl, k1, k2, sl_below (sl_below hs3 AL) hW⟩
          have X4 := Lib.hid (heap_alloc_new w3 (.cells #[.int .u64 (Y.key : Int), .int .u32 (Y.cookie : Int), .bool Y.del, .slice a3 yn c3] 26))
          clear hs3 k1 k2 AL hb3 hyn
          go_wp2_with fail
          refine (RD.out _ B4.out).mono ?_
          rintro e w5 ⟨⟨v5, rfl, s5, rfl, j1, j2, hs5⟩, hb5⟩
          obtain ⟨a4, c4, rfl, -, -⟩ := sl_form hs5
          rw [← HYN.out] at hs5 ⊢
          have AL := (Below.refl w5.heap.size w5).alloc (Nat.le_refl _) (.cells #[.int .u64 (Y.key : Int), .int .u32 (Y.cookie : Int), .bool Y.del, .slice a4 yn c4] 26)
          have B6 := Lib.hid (bt (bt B4.out hb5) AL)
          have hx6 := (AL.block _ (lt_of_some ((hb5.block _ (lt_of_some X4.out)).trans X4.out))).trans ((hb5.block _ (lt_of_some X4.out)).trans X4.out)
          have ND2 : Hid (Nd (w5.alloc (.cells #[.int .u64 (Y.key : Int), .int .u32 (Y.cookie : Int), .bool Y.del, .slice a4 yn c4] 26)) (.agg #[.int .u64 (Y.key : Int), .int .u32 (Y.cookie : Int), .bool Y.del, .slice a4 yn c4]) Y) := ⟨_, rfl, j1, j2, sl_below hs5 AL⟩
          have ND1 := Lib.hid (ND.out _ (bt hb5 AL))
          have hx7 := heap_alloc_new w5 (.cells #[.int .u64 (Y.key : Int), .int .u32 (Y.cookie : Int), .bool Y.del, .slice a4 yn c4] 26)
          obtain ⟨q0, q1, q2, q3⟩ := bx_cell hx6
          obtain ⟨r0, r1, r2, r3⟩ := bx_cell hx7
          clear hs5 j1 j2 AL hb5 hx6 hx7 ND X4 RD
          go_wp2_with (go_at_call 20; refine (rsame_any _ _ Y Y _ ND1.out ND2.out).mono ?_; rw [same_refl]; rintro e w7 ⟨rfl, hb7⟩; have B7 := Lib.hid (bt B6.out hb7); clear hb7)
          go_roundw
          case rel => exact ⟨i + 1, by omega, by go_num, B7.out⟩
          case measure => simp [intOf]; omega
        · obtain rfl : i = 5 := by omega
          have HB := Lib.hid hB
          clear hB hi hi2
          go_wp2_with fail
          refine (AW.out _ (ST.out _ _ hw (bt BQ0.out HB.out))).mono ?_
          rintro e w4 ⟨rfl, hb4⟩
          have B4 := Lib.hid (bt (bt BQ0.out HB.out) hb4)
          clear hb4 HB
          go_wp2_with fail
          go_ret
          exact ⟨rfl, B4.out⟩
end Go.Proofs.YtljdbaibhpgfnaaDoor.Gf
