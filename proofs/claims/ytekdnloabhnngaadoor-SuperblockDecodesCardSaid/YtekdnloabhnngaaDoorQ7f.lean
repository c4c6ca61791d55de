/- What is proved here: the walk of the law SuperblockBack, over what it asks of the program. Condition: the tail has at most 1048576 bytes. -/
import Derived.Test.YtekdnloabhnngaaDoorQ7e
namespace Go.Proofs.YtekdnloabhnngaaDoor.Gf
open Go Go.Joins Go.ChangeShapes Go.WideShapes Go.ChangeAt Go.RowKit Go.Deep Go.Proofs.YtekdnloabhnngaaDoor.By Go.Proofs.YtekdnloabhnngaaDoor.Crc Go.Proofs.YtekdnloabhnngaaDoor.Qt

theorem enV_back {a b c : Int} (h : okS a b c = true) (T : List Nat) : dE7 (enV a b c ++ T) = 0 ∧ dX7 (enV a b c ++ T) = SV a b c ∧ (enV a b c).length = 16 := by
  have e : enV a b c = encS a.toNat b.toNat c.toNat := by unfold enV; rw [if_pos h]
  obtain ⟨h1, h2, h3, h4, h5, h6⟩ := okS_iff.1 h
  have ha : ((a.toNat : Nat) : Int) = a := by omega
  have hb : ((b.toNat : Nat) : Int) = b := by omega
  have hc : ((c.toNat : Nat) : Int) = c := by omega
  obtain ⟨d1, d2, d3, d4⟩ := back7 (s := a.toNat) (g := b.toNat) (r := c.toNat) (by rw [ha, hb, hc]; exact h) T
  rw [e]
  refine ⟨d1, ?_, encS_length _ _ _⟩
  unfold dX7
  rw [if_pos d1, d2, d3, d4, ha, hb, hc]
/-- The six cells of two superblocks, one behind the other. -/
theorem six {W : World} {q : Nat} {a b c d e f : Value} (h : W.heap[q]? = some (.cells #[a, b, c, d, e, f] 23 (0, 0))) : (W.cell? ⟨q, 0, none⟩ = some a ∧ W.cell? ⟨q, 1, none⟩ = some b ∧ W.cell? ⟨q, 2, none⟩ = some c) ∧ W.cell? ⟨q, 3, none⟩ = some d ∧ W.cell? ⟨q, 4, none⟩ = some e ∧ W.cell? ⟨q, 5, none⟩ = some f :=
  ⟨⟨cell_of_row W q 0 _ _ _ h, cell_of_row W q 1 _ _ _ h, cell_of_row W q 2 _ _ _ h⟩, cell_of_row W q 3 _ _ _ h, cell_of_row W q 4 _ _ _ h, cell_of_row W q 5 _ _ _ h⟩
set_option maxRecDepth 100000 in
set_option maxHeartbeats 6400000 in
theorem back7_walk {Ok : World → Prop} (P : PC7 Ok) (s g r : Int) (js : J64 s) (jg : J64 g) (jr : J64 r) (u : Value) (T : List Nat) (hT : T.length ≤ 1048576) (w : World) (hw : Ok w) (hu : Sl w u T) : Calls Tryd.prog 5 #[SV s g r, u] w fun e w' => e = .returned (.bool true) ∧ Below w.heap.size w w' := by
  have PE := Lib.hid (fun s g r W (h : Ok W) => P.enc s g r W h)
  have PV := Lib.hid (fun s g r W (h : Ok W) => P.valid s g r W h)
  have PD := Lib.hid (fun v l W (h : Ok W) => P.dec v l W h)
  have ST := Lib.hid (fun (W W' : World) => P.st (w := W) (w' := W'))
  have AW := Lib.hid (awake7_any P)
  clear P
  have HU := Lib.hid (fun W (hB : Below w.heap.size w W) => sl_below hu hB)
  have HT := Lib.hid hT
  obtain ⟨ua, uc, rfl, -, -⟩ := sl_form hu
  have NR := Lib.hid (near_any s g r)
  have HJ := Lib.hid (And.intro js (And.intro jg jr))
  obtain ⟨k1, k2, k3, k4, k5, k6⟩ := near_ok s g r
  unfold SV at NR ⊢
  generalize s % 4 = s0 at *
  generalize 1 + g % 8 = g0 at *
  generalize r % 4294967296 = r0 at *
  have HOK0 := Lib.hid (okS_iff.2 ⟨k1, k2, k3, k4, k5, k6⟩)
  have HJ0 : Hid (J64 s0 ∧ J64 g0 ∧ J64 r0) := ⟨j64_small (by omega), j64_small (by omega), j64_small (by omega)⟩
  have HB0 := Lib.hid ((Below.refl w.heap.size w).alloc (Nat.le_refl _) (.cells #[.int .i64 s, .int .i64 g, .int .i64 r] 23))
  have X0 := Lib.hid (heap_alloc_new w (.cells #[.int .i64 s, .int .i64 g, .int .i64 r] 23))
  clear k1 k2 k3 k4 k5 k6 hu hT js jg jr
  go_enter Tryd.func5, Tryd.ntmps5
  go_wp2_with fail
  generalize w.alloc (.cells #[.int .i64 s, .int .i64 g, .int .i64 r] 23) = W0 at *
  refine wp_onlyN ?_
  have C0 : Hid (∀ W, SB w #[.int .i64 s, .int .i64 g, .int .i64 r] W → _) := fun W hW => bx3 hW.box
  refine wp_region_headsS (SB w #[.int .i64 s, .int .i64 g, .int .i64 r]) [0, 1, 5] 3 (by kernel_rfl) (fun _ _ _ _ _ h => h.elim) (by kernel_rfl) (by rfl) (by rfl) ⟨HB0.out.drew, X0.out⟩ ?_
  simp only [pickOps, List.filterMap_cons, List.filterMap_nil, List.getElem?_toArray, List.getElem?_cons_zero, List.getElem?_cons_succ]
  refine wpHeads_step (fun K hK => ?_)
  go_simp
  refine ⟨.agg #[.int .i64 s, .int .i64 g, .int .i64 r], fun w' hw' => by obtain ⟨u0, u1, u2, -, -, -⟩ := C0.out w' hw'; simp [u0, u1, u2], hK _ ?_⟩
  clear hK K
  refine wpHeads_step (fun K hK => ?_)
  go_simp
  refine ⟨.agg #[.int .i64 s, .int .i64 g, .int .i64 r], fun w' hw' => by obtain ⟨u0, u1, u2, -, -, -⟩ := C0.out w' hw'; simp [u0, u1, u2], hK _ ?_⟩
  clear hK K
  refine wpHeads_step (fun K hK => ?_)
  go_simp
  refine ⟨_, fun _ _ => rfl, hK _ ?_⟩
  clear hK K
  refine wpHeads_nil ?_
  have b0 : Below w.heap.size w W0.drew := HB0.out.drew
  have x0 : W0.drew.heap[w.heap.size]? = _ := X0.out
  refine held_one 2 rfl rfl (by kernel_rfl) fun K hK => ?_
  go_simp
  go_at_call 8
  refine (NR.out _).mono ?_
  rintro e w1 ⟨rfl, hb1⟩
  have b1 := bt b0 hb1
  have x1 := (hb1.block _ (lt_of_some x0)).trans x0
  refine hK _ _ ⟨b1, x1⟩ ?_
  clear hK K
  have AL := (Below.refl w1.heap.size w1).alloc (Nat.le_refl _) (.cells #[.int .i64 s, .int .i64 g, .int .i64 r, .int .i64 s0, .int .i64 g0, .int .i64 r0] 23)
  have XQ := Lib.hid (heap_alloc_new w1 (.cells #[.int .i64 s, .int .i64 g, .int .i64 r, .int .i64 s0, .int .i64 g0, .int .i64 r0] 23))
  have b2 := bt b1 AL
  have x2 := (AL.block _ (lt_of_some x1)).trans x1
  refine held_one 3 rfl rfl (by kernel_rfl) fun K hK => ?_
  go_simp
  refine hK _ _ ⟨b2, x2⟩ ?_
  clear hK K
  refine held_one 4 rfl rfl (by kernel_rfl) fun K hK => ?_
  go_simp
  refine hK _ _ ⟨b2, x2⟩ ?_
  clear hK K
  refine wpAnyH_done (by kernel_rfl) ?_ _
  unfold onlyN
  dsimp only
  have B2 := Lib.hid b2
  have X2 := Lib.hid x2
  clear b0 x0 b1 x1 b2 x2 hb1 AL
  go_wp2_with fail
  generalize w1.alloc (.cells #[.int .i64 s, .int .i64 g, .int .i64 r, .int .i64 s0, .int .i64 g0, .int .i64 r0] 23) = W1 at *
  generalize w1.heap.size = q at *
  go_loopw [6, 7, 8, 9, 10, 16] (fun _ _ _ _ _ t wr => ∃ i : Nat, i ≤ 2 ∧ t = .int .i64 (i : Int) ∧ Below W1.heap.size W1 wr) (fun _ _ _ _ _ t _ => 2 - (intOf t).toNat)
  case atStart => exact ⟨0, by omega, rfl, Below.refl _ _⟩
  case round =>
    obtain ⟨i, hi, rfl, hB⟩ := hrel
    have HB := Lib.hid hB
    by_cases hi2 : i < 2
    · obtain ⟨a, b, c, ja, jb, jc, c0, c1, c2⟩ : ∃ a b c, J64 a ∧ J64 b ∧ J64 c ∧ wr.cell? ⟨q, i * 3, none⟩ = some (.int .i64 a) ∧ wr.cell? ⟨q, i * 3 + 1, none⟩ = some (.int .i64 b) ∧ wr.cell? ⟨q, i * 3 + 2, none⟩ = some (.int .i64 c) := by
        obtain ⟨⟨h0, h1, h2⟩, h3, h4, h5⟩ := six ((hB.block q (lt_of_some XQ.out)).trans XQ.out)
        rcases (show i = 0 ∨ i = 1 by omega) with rfl | rfl
        · exact ⟨_, _, _, HJ.out.1, HJ.out.2.1, HJ.out.2.2, h0, h1, h2⟩
        · exact ⟨_, _, _, HJ0.out.1, HJ0.out.2.1, HJ0.out.2.2, h3, h4, h5⟩
      have g0' : decide ((i : Int) < 2) = true := decide_eq_true (by omega)
      have p0 : (0 : Int) ≤ (i : Int) := by omega
      have p1 : (i : Int) < 2 := by omega
      clear hB hi
      have AL := (Below.refl wr.heap.size wr).alloc (Nat.le_refl _) (.cells #[.int .i64 a, .int .i64 b, .int .i64 c] 23)
      have B3 := Lib.hid (bt HB.out AL)
      have X3 := Lib.hid (heap_alloc_new wr (.cells #[.int .i64 a, .int .i64 b, .int .i64 c] 23))
      have BT := Lib.hid (bt B2.out B3.out)
      have E := Lib.hid (PE.out a b c _ (ST.out _ _ hw BT.out) ja jb jc)
      have VV := Lib.hid (fun W (h : Ok W) => PV.out a b c W h ja jb jc)
      unfold EW at E
      unfold SV at E VV
      clear AL
      go_wp2_with fail
      refine E.out.mono ?_
      clear c0 c1 c2 E
      generalize wr.alloc (.cells #[.int .i64 a, .int .i64 b, .int .i64 c] 23) = W3 at *
      generalize wr.heap.size = kb at *
      rintro e W4 ⟨⟨v4, rfl, hs4⟩, hb4⟩
      have B4 := Lib.hid (bt B3.out hb4)
      have X4 := Lib.hid ((hb4.block _ (lt_of_some X3.out)).trans X3.out)
      have S4 := Lib.hid hs4
      obtain ⟨a4, n4, rfl, -, -⟩ := sl_form hs4
      obtain ⟨u0, u1, u2, -, -, -⟩ := bx3 X4.out
      clear hs4 hb4 B3 X3
      cases hok : okS a b c
      · have e1 : enE a b c = 1 := by unfold enE; rw [if_neg (by rw [hok]; decide)]
        rw [e1]
        rw [hok] at VV
        generalize (enV a b c).length = L4 at *
        clear e1 hok
        go_wp2_with fail
        refine (VV.out _ (ST.out _ _ hw (bt B2.out B4.out))).mono ?_
        rintro e W5 ⟨rfl, hb5⟩
        have B5 := Lib.hid (bt B4.out hb5)
        clear hb5 u0 u1 u2
        go_wp2_with fail
        go_roundw
        case rel => exact ⟨i + 1, by omega, by go_num, B5.out⟩
        case measure => simp [intOf]; omega
      · have e1 : enE a b c = 0 := by unfold enE; rw [if_pos hok]
        obtain ⟨d1, d2, d3⟩ := enV_back hok T
        rw [e1]
        rw [hok] at VV
        rw [d3] at S4 ⊢
        have D := Lib.hid (And.intro d1 (And.intro d2 d3))
        clear e1 hok d1 d2 d3
        go_wp2_with fail
        refine (VV.out _ (ST.out _ _ hw (bt B2.out B4.out))).mono ?_
        rintro e W5 ⟨rfl, hb5⟩
        have B5 := Lib.hid (bt B4.out hb5)
        have X5 := Lib.hid ((hb5.block _ (lt_of_some X4.out)).trans X4.out)
        have S5 := Lib.hid (sl_below S4.out hb5)
        clear hb5 u0 u1 u2 S4
        have OE := Lib.hid (own_empty W5 (Nat.le_refl W5.heap.size))
        have BE := Lib.hid ((Below.refl W5.heap.size W5).alloc (Nat.le_refl _) (.cells #[] 5))
        go_wp2_with (first
          | (at_builtin; refine app_sl (dst := some 35) ?_ ?_ OE.out (sl_below S5.out BE.out) (by have := D.out.2.2; simp; omega) (by simp) ?_; exact rfl; exact rfl; intro v6 w6 ho6 hg6; rw [List.nil_append] at ho6; have B6 := Lib.hid (BE.out.grown hg6 BE.out.size fun q hq => by have := OE.out.lt q hq; omega); have O6 := Lib.hid ho6; clear ho6 hg6)
          | (at_builtin; refine app_sl (dst := some 37) ?_ ?_ O6.out (HU.out _ (bt (bt B2.out B5.out) B6.out)) (by have := D.out.2.2; have := HT.out; omega) B6.out.size ?_; exact rfl; exact rfl; intro v7 w7 ho7 hg7; have B7 := Lib.hid (B6.out.grown hg7 B6.out.size fun q hq => by have := O6.out.lt q hq; omega); have O7 := Lib.hid ho7; clear ho7 hg7))
        have B8 := Lib.hid (bt B5.out B7.out)
        have X7 := Lib.hid ((B7.out.block _ (lt_of_some X5.out)).trans X5.out)
        refine (PD.out v7 (enV a b c ++ T) w7 (ST.out _ _ hw (bt B2.out B8.out)) O7.out.sl).mono ?_
        unfold DS
        rw [D.out.1, D.out.2.1]
        unfold SV
        rintro e w8 ⟨rfl, hb8⟩
        have AL := (Below.refl w8.heap.size w8).alloc (Nat.le_refl _) (.cells #[.int .i64 a, .int .i64 b, .int .i64 c] 23)
        have X8 := Lib.hid ((AL.block _ (lt_of_some ((hb8.block _ (lt_of_some X7.out)).trans X7.out))).trans ((hb8.block _ (lt_of_some X7.out)).trans X7.out))
        have Y8 := Lib.hid (heap_alloc_new w8 (.cells #[.int .i64 a, .int .i64 b, .int .i64 c] 23))
        have B9 := Lib.hid (bt (bt B8.out hb8) AL)
        obtain ⟨u0, u1, u2, -, -, -⟩ := bx3 X8.out
        obtain ⟨t0, t1, t2, -, -, -⟩ := bx3 Y8.out
        clear hb8 AL B6 O6 O7 B7 OE BE X5 X7 S5
        go_wp2_with fail
        go_roundw
        case rel => exact ⟨i + 1, by omega, by go_num, B9.out⟩
        case measure => simp [intOf]; omega
    · obtain rfl : i = 2 := by omega
      have X3 := Lib.hid ((hB.block _ (lt_of_some X2.out)).trans X2.out)
      obtain ⟨u0, u1, u2, -, -, -⟩ := bx3 X3.out
      have VV := Lib.hid (fun W (h : Ok W) => PV.out s0 g0 r0 W h HJ0.out.1 HJ0.out.2.1 HJ0.out.2.2)
      unfold SV at VV
      rw [HOK0.out] at VV
      clear hB hi hi2
      go_wp2_with fail
      refine (NR.out _).mono ?_
      rintro e w4 ⟨rfl, hb4⟩
      have B4 := Lib.hid (bt (bt B2.out HB.out) hb4)
      clear hb4
      go_wp2_with fail
      refine (VV.out _ (ST.out _ _ hw B4.out)).mono ?_
      rintro e w5 ⟨rfl, hb5⟩
      have B5 := Lib.hid (bt B4.out hb5)
      clear hb5
      go_wp2_with fail
      refine (AW.out _ (ST.out _ _ hw B5.out)).mono ?_
      rintro e w6 ⟨rfl, hb6⟩
      have B6 := Lib.hid (bt B5.out hb6)
      clear hb6
      go_wp2_with fail
      go_ret
      exact ⟨rfl, B6.out⟩
end Go.Proofs.YtekdnloabhnngaaDoor.Gf
