/- What is proved here: the walk of the law SuperblockEncodes, over what it asks of the program. No condition. -/
import Derived.Test.YtekdnloabhnngaaDoorQ7g
namespace Go.Proofs.YtekdnloabhnngaaDoor.Gf
open Go Go.Joins Go.ChangeShapes Go.WideShapes Go.ChangeAt Go.RowKit Go.Deep Go.Proofs.YtekdnloabhnngaaDoor.By Go.Proofs.YtekdnloabhnngaaDoor.Crc Go.Proofs.YtekdnloabhnngaaDoor.Qt

set_option maxRecDepth 100000 in
set_option maxHeartbeats 6400000 in
theorem encodes7_walk {Ok : World → Prop} (P : PC7 Ok) (s g r : Int) (js : J64 s) (jg : J64 g) (jr : J64 r) (w : World) (hw : Ok w) : Calls Tryd.prog 3 #[SV s g r] w fun e w' => e = .returned (.bool true) ∧ Below w.heap.size w w' := by
  have PE := Lib.hid (fun s g r W (h : Ok W) => P.enc s g r W h)
  have PV := Lib.hid (fun s g r W (h : Ok W) => P.valid s g r W h)
  have PN := Lib.hid (fun s g r W (h : Ok W) => P.next s g r W h)
  have ST := Lib.hid (fun (W W' : World) => P.st (w := W) (w' := W'))
  have AW := Lib.hid (awake7_any P)
  clear P
  have NR := Lib.hid (near_any s g r)
  have HJ := Lib.hid (And.intro js (And.intro jg jr))
  obtain ⟨k1, k2, k3, k4, k5, k6⟩ := near_ok s g r
  unfold SV at NR ⊢
  generalize s % 4 = s0 at *
  generalize 1 + g % 8 = g0 at *
  generalize r % 4294967296 = r0 at *
  have HOK0 := Lib.hid (okS_iff.2 ⟨k1, k2, k3, k4, k5, k6⟩)
  have HJ0 : Hid (J64 s0 ∧ J64 g0 ∧ J64 r0) := ⟨j64_small (by omega), j64_small (by omega), j64_small (by omega)⟩
  have HB0 := Lib.hid ((Below.refl w.heap.size w).alloc (Nat.le_refl _) (.cells #[.int .i64 s, .int .i64 g, .int .i64 r] 23))
  have X0 := Lib.hid (heap_alloc_new w (.cells #[.int .i64 s, .int .i64 g, .int .i64 r] 23))
  clear k1 k2 k3 k4 k5 k6 js jg jr
  go_enter Tryd.func3, Tryd.ntmps3
  go_wp2_with fail
  generalize w.alloc (.cells #[.int .i64 s, .int .i64 g, .int .i64 r] 23) = W0 at *
  refine wp_onlyN ?_
  have C0 : Hid (∀ W, SB w #[.int .i64 s, .int .i64 g, .int .i64 r] W → _) := fun W hW => bx3 hW.box
  refine wp_region_headsS (SB w #[.int .i64 s, .int .i64 g, .int .i64 r]) [0, 1, 5] 3 (by kernel_rfl) (fun _ _ _ _ _ h => h.elim) (by kernel_rfl) (by rfl) (by rfl) ⟨HB0.out.drew, X0.out⟩ ?_
  simp only [pickOps, List.filterMap_cons, List.filterMap_nil, List.getElem?_toArray, List.getElem?_cons_zero, List.getElem?_cons_succ]
  refine wpHeads_step (fun K hK => ?_)
  go_simp
  refine ⟨.agg #[.int .i64 s, .int .i64 g, .int .i64 r], fun w' hw' => by obtain ⟨u0, u1, u2, -, -, -⟩ := C0.out w' hw'; simp [u0, u1, u2], hK _ ?_⟩
  clear hK K
  refine wpHeads_step (fun K hK => ?_)
  go_simp
  refine ⟨.agg #[.int .i64 s, .int .i64 g, .int .i64 r], fun w' hw' => by obtain ⟨u0, u1, u2, -, -, -⟩ := C0.out w' hw'; simp [u0, u1, u2], hK _ ?_⟩
  clear hK K
  refine wpHeads_step (fun K hK => ?_)
  go_simp
  refine ⟨_, fun _ _ => rfl, hK _ ?_⟩
  clear hK K
  refine wpHeads_nil ?_
  have b0 : Below w.heap.size w W0.drew := HB0.out.drew
  have x0 : W0.drew.heap[w.heap.size]? = _ := X0.out
  refine held_one 2 rfl rfl (by kernel_rfl) fun K hK => ?_
  go_simp
  go_at_call 8
  refine (NR.out _).mono ?_
  rintro e w1 ⟨rfl, hb1⟩
  have b1 := bt b0 hb1
  have x1 := (hb1.block _ (lt_of_some x0)).trans x0
  refine hK _ _ ⟨b1, x1⟩ ?_
  clear hK K
  have AL := (Below.refl w1.heap.size w1).alloc (Nat.le_refl _) (.cells #[.int .i64 s, .int .i64 g, .int .i64 r, .int .i64 s0, .int .i64 g0, .int .i64 r0] 23)
  have XQ := Lib.hid (heap_alloc_new w1 (.cells #[.int .i64 s, .int .i64 g, .int .i64 r, .int .i64 s0, .int .i64 g0, .int .i64 r0] 23))
  have b2 := bt b1 AL
  have x2 := (AL.block _ (lt_of_some x1)).trans x1
  refine held_one 3 rfl rfl (by kernel_rfl) fun K hK => ?_
  go_simp
  refine hK _ _ ⟨b2, x2⟩ ?_
  clear hK K
  refine held_one 4 rfl rfl (by kernel_rfl) fun K hK => ?_
  go_simp
  refine hK _ _ ⟨b2, x2⟩ ?_
  clear hK K
  refine wpAnyH_done (by kernel_rfl) ?_ _
  unfold onlyN
  dsimp only
  have B2 := Lib.hid b2
  have X2 := Lib.hid x2
  clear b0 x0 b1 x1 b2 x2 hb1 AL
  go_wp2_with fail
  generalize w1.alloc (.cells #[.int .i64 s, .int .i64 g, .int .i64 r, .int .i64 s0, .int .i64 g0, .int .i64 r0] 23) = W1 at *
  generalize w1.heap.size = q at *
  go_loopw [4, 5, 6, 7, 8, 9, 10, 11, 12, 18] (fun _ _ _ _ _ _ _ _ _ t wr => ∃ i : Nat, i ≤ 2 ∧ t = .int .i64 (i : Int) ∧ Below W1.heap.size W1 wr) (fun _ _ _ _ _ _ _ _ _ t _ => 2 - (intOf t).toNat)
  case atStart => exact ⟨0, by omega, rfl, Below.refl _ _⟩
  case round =>
    obtain ⟨i, hi, rfl, hB⟩ := hrel
    have HB := Lib.hid hB
    by_cases hi2 : i < 2
    · obtain ⟨a, b, c, ja, jb, jc, c0, c1, c2⟩ : ∃ a b c, J64 a ∧ J64 b ∧ J64 c ∧ wr.cell? ⟨q, i * 3, none⟩ = some (.int .i64 a) ∧ wr.cell? ⟨q, i * 3 + 1, none⟩ = some (.int .i64 b) ∧ wr.cell? ⟨q, i * 3 + 2, none⟩ = some (.int .i64 c) := by
        obtain ⟨⟨h0, h1, h2⟩, h3, h4, h5⟩ := six ((hB.block q (lt_of_some XQ.out)).trans XQ.out)
        rcases (show i = 0 ∨ i = 1 by omega) with rfl | rfl
        · exact ⟨_, _, _, HJ.out.1, HJ.out.2.1, HJ.out.2.2, h0, h1, h2⟩
        · exact ⟨_, _, _, HJ0.out.1, HJ0.out.2.1, HJ0.out.2.2, h3, h4, h5⟩
      have g0' : decide ((i : Int) < 2) = true := decide_eq_true (by omega)
      have p0 : (0 : Int) ≤ (i : Int) := by omega
      have p1 : (i : Int) < 2 := by omega
      clear hB hi
      have AL := (Below.refl wr.heap.size wr).alloc (Nat.le_refl _) (.cells #[.int .i64 a, .int .i64 b, .int .i64 c] 23)
      have B3 := Lib.hid (bt HB.out AL)
      have X3 := Lib.hid (heap_alloc_new wr (.cells #[.int .i64 a, .int .i64 b, .int .i64 c] 23))
      have E4 := Lib.hid (PE.out a b c _ (ST.out _ _ hw (bt B2.out B3.out)) ja jb jc)
      have VV := Lib.hid (fun W (h : Ok W) => PV.out a b c W h ja jb jc)
      have NN := Lib.hid (fun W (h : Ok W) => PN.out a b c W h ja jb jc)
      have RE := Lib.hid (rencode7_any a b c)
      have RN := Lib.hid (rnext_any a b c)
      have RVV := Lib.hid (rvalid7_any a b c)
      obtain ⟨x, y, z, hxyz⟩ : ∃ x y z, nxV a b c = SV x y z := by unfold nxV; split <;> exact ⟨_, _, _, rfl⟩
      rw [hxyz] at NN RN
      unfold EW at E4
      unfold EO at RE
      unfold SV at E4 VV NN RE RN RVV
      generalize enE a b c = E at *
      generalize nxE a b c = N at *
      generalize okS a b c = V0 at *
      generalize enV a b c = L4 at *
      clear AL hxyz ja jb jc
      go_wp2_with fail
      refine E4.out.mono ?_
      clear c0 c1 c2 E4
      generalize wr.alloc (.cells #[.int .i64 a, .int .i64 b, .int .i64 c] 23) = W3 at *
      generalize wr.heap.size = kb at *
      rintro e W4 ⟨⟨v4, rfl, hs4⟩, hb4⟩
      have B4 := Lib.hid (bt B3.out hb4)
      have X4 := Lib.hid ((hb4.block _ (lt_of_some X3.out)).trans X3.out)
      obtain ⟨a4, c4, rfl, -, -⟩ := sl_form hs4
      obtain ⟨n4, hn4⟩ : ∃ n, n = L4.length := ⟨_, rfl⟩
      rw [← hn4] at hs4 ⊢
      have S4 := Lib.hid hs4
      have HN4 := Lib.hid hn4
      obtain ⟨u0, u1, u2, -, -, -⟩ := bx3 X4.out
      clear hs4 hb4 B3 X3 hn4
      go_wp2_with fail
      refine (RE.out _).mono ?_
      rintro e W5 ⟨⟨v5, rfl, ho5⟩, hb5⟩
      have B5 := Lib.hid (bt B4.out hb5)
      have X5 := Lib.hid ((hb5.block _ (lt_of_some X4.out)).trans X4.out)
      obtain ⟨a5, n5, c5, rfl, -⟩ := own_form ho5
      have S5 := Lib.hid ho5.sl
      have S4 := Lib.hid (sl_below S4.out hb5)
      clear u0 u1 u2 hb5 ho5 X4 B4 RE
      obtain ⟨u0, u1, u2, -, -, -⟩ := bx3 X5.out
      go_wp2_with fail
      refine (NN.out _ (ST.out _ _ hw (bt B2.out B5.out))).mono ?_
      rintro e W6 ⟨rfl, hb6⟩
      have AL := (Below.refl W6.heap.size W6).alloc (Nat.le_refl _) (.cells #[.int .i64 x, .int .i64 y, .int .i64 z] 23)
      have hb7 := bt hb6 AL
      have B7 := Lib.hid (bt B5.out hb7)
      have X7 := Lib.hid ((hb7.block _ (lt_of_some X5.out)).trans X5.out)
      have Y7 := Lib.hid (heap_alloc_new W6 (.cells #[.int .i64 x, .int .i64 y, .int .i64 z] 23))
      have S4 := Lib.hid (sl_below S4.out hb7)
      have S5 := Lib.hid (sl_below S5.out hb7)
      clear u0 u1 u2 hb6 hb7 AL X5 B5 NN
      obtain ⟨u0, u1, u2, -, -, -⟩ := bx3 X7.out
      go_wp2_with fail
      refine (RN.out _).mono ?_
      generalize W6.alloc (.cells #[.int .i64 x, .int .i64 y, .int .i64 z] 23) = W7 at *
      generalize W6.heap.size = y7 at *
      rintro e W8' ⟨rfl, hb8⟩
      have AL := (Below.refl W8'.heap.size W8').alloc (Nat.le_refl _) (.cells #[.int .i64 x, .int .i64 y, .int .i64 z] 23)
      have hb9 := bt hb8 AL
      have B9 := Lib.hid (bt B7.out hb9)
      have B8 := Lib.hid (bt B2.out B9.out)
      have X8 := Lib.hid ((hb9.block _ (lt_of_some X7.out)).trans X7.out)
      have Y8 := Lib.hid ((hb9.block _ (lt_of_some Y7.out)).trans Y7.out)
      have Z8 := Lib.hid (heap_alloc_new W8' (.cells #[.int .i64 x, .int .i64 y, .int .i64 z] 23))
      have S4 := Lib.hid (sl_below S4.out hb9)
      have S5 := Lib.hid (sl_below S5.out hb9)
      clear u0 u1 u2 hb8 hb9 AL X7 Y7 B7 RN
      go_wp2_with fail
      generalize W8'.alloc (.cells #[.int .i64 x, .int .i64 y, .int .i64 z] 23) = W8 at *
      generalize W8'.heap.size = z8 at *
      have K1 := Lib.hid (fun W (hW : Below W8.heap.size W8 W) => conv_sl (sl_below S4.out hW))
      have K2 := Lib.hid (fun W (hW : Below W8.heap.size W8 W) => conv_sl (sl_below S5.out hW))
      generalize strOf L4 = T at *
      refine wp_onlyN ?_
      have BB := Lib.hid (Below.refl W8.heap.size W8).drew
      refine wp_region_headsS (fun w' => Below W8.heap.size W8 w') [] 27 (by kernel_rfl) (fun _ _ _ _ _ h => h.elim) (by kernel_rfl) (by rfl) (by rfl) BB.out ?_
      simp only [pickOps, List.filterMap_nil]
      refine wpHeads_nil ?_
      refine wpAnyH_take (i := 0) (v := .agg #[.int .i64 a, .int .i64 b, .int .i64 c]) rfl (by kernel_rfl) (by kernel_rfl) (by kernel_rfl) (fun _ _ _ h => h) (Or.inl ⟨by kernel_rfl, fun w' hw' => by obtain ⟨u0, u1, u2, -, -, -⟩ := bx3 ((hw'.block _ (lt_of_some X8.out)).trans X8.out); go_simp⟩) BB.out ?_
      refine wpAnyH_take (i := 2) (v := .agg #[.int .i64 a, .int .i64 b, .int .i64 c]) rfl (by kernel_rfl) (by kernel_rfl) (by kernel_rfl) (fun _ _ _ h => h) (Or.inl ⟨by kernel_rfl, fun w' hw' => by obtain ⟨u0, u1, u2, -, -, -⟩ := bx3 ((hw'.block _ (lt_of_some X8.out)).trans X8.out); go_simp⟩) BB.out ?_
      refine held_g 1 rfl (by kernel_rfl) (by kernel_rfl) fun K hK => ?_
      go_simp
      go_at_call 13
      refine (VV.out _ (ST.out _ _ hw (bt B8.out BB.out))).mono ?_
      rintro e V ⟨rfl, hbv⟩
      have b9 := bt BB.out hbv
      refine hK _ _ b9 ?_
      clear hK K hbv BB
      have BB := Lib.hid b9
      clear b9
      refine held_g 3 rfl (by kernel_rfl) (by kernel_rfl) fun K hK => ?_
      go_simp
      go_at_call 14
      refine (RVV.out _).mono ?_
      rintro e V ⟨rfl, hbv⟩
      have b9 := bt BB.out hbv
      refine hK _ _ b9 ?_
      clear hK K hbv BB
      have BB := Lib.hid b9
      clear b9
      refine held_g 4 rfl (by kernel_rfl) (by kernel_rfl) fun K hK => ?_
      go_simp
      refine hK _ _ BB.out ?_
      clear hK K
      refine held_g 5 rfl (by kernel_rfl) (by kernel_rfl) fun K hK => ?_
      go_simp
      refine hK _ _ BB.out ?_
      clear hK K
      refine wpAnyH_take (i := 6) (v := .int .i64 E) rfl (by kernel_rfl) (by kernel_rfl) (by kernel_rfl) (fun _ _ _ h => h) (Or.inl ⟨by kernel_rfl, fun w' hw' => by go_simp⟩) BB.out ?_
      refine wpAnyH_take (i := 7) (v := .int .i64 E) rfl (by kernel_rfl) (by kernel_rfl) (by kernel_rfl) (fun _ _ _ h => h) (Or.inl ⟨by kernel_rfl, fun w' hw' => by go_simp⟩) BB.out ?_
      refine held_g 8 rfl (by kernel_rfl) (by kernel_rfl) fun K hK => ?_
      go_simp
      refine hK _ _ BB.out ?_
      clear hK K
      refine held_g 9 rfl (by kernel_rfl) (by kernel_rfl) fun K hK => ?_
      go_simp
      refine hK _ _ BB.out ?_
      clear hK K
      refine held_g 10 rfl (by kernel_rfl) (by kernel_rfl) fun K hK => ?_
      go_simp
      refine hK _ _ BB.out ?_
      clear hK K
      refine wpAnyH_take (i := 11) (v := .int .i64 N) rfl (by kernel_rfl) (by kernel_rfl) (by kernel_rfl) (fun _ _ _ h => h) (Or.inl ⟨by kernel_rfl, fun w' hw' => by go_simp⟩) BB.out ?_
      refine wpAnyH_take (i := 12) (v := .int .i64 N) rfl (by kernel_rfl) (by kernel_rfl) (by kernel_rfl) (fun _ _ _ h => h) (Or.inl ⟨by kernel_rfl, fun w' hw' => by go_simp⟩) BB.out ?_
      refine held_g 13 rfl (by kernel_rfl) (by kernel_rfl) fun K hK => ?_
      go_simp
      refine hK _ _ BB.out ?_
      clear hK K
      refine held_g 14 rfl (by kernel_rfl) (by kernel_rfl) fun K hK => ?_
      go_simp
      refine hK _ _ BB.out ?_
      clear hK K
      refine held_g 15 rfl (by kernel_rfl) (by kernel_rfl) fun K hK => ?_
      go_simp
      refine hK _ _ BB.out ?_
      clear hK K
      refine wpAnyH_take (i := 16) (v := .slice a4 n4 c4) rfl (by kernel_rfl) (by kernel_rfl) (by kernel_rfl) (fun _ _ _ h => h) (Or.inl ⟨by kernel_rfl, fun w' hw' => by go_simp⟩) BB.out ?_
      refine wpAnyH_take (i := 18) (v := .slice a5 n5 c5) rfl (by kernel_rfl) (by kernel_rfl) (by kernel_rfl) (fun _ _ _ h => h) (Or.inl ⟨by kernel_rfl, fun w' hw' => by go_simp⟩) BB.out ?_
      refine wpAnyH_take (i := 17) (v := .string T) rfl (by kernel_rfl) (by kernel_rfl) (by kernel_rfl) (fun _ _ _ h => h) (Or.inl ⟨by kernel_rfl, fun w' hw' => by go_simp; rw [K1.out w' hw']; rfl⟩) BB.out ?_
      refine wpAnyH_take (i := 19) (v := .string T) rfl (by kernel_rfl) (by kernel_rfl) (by kernel_rfl) (fun _ _ _ h => h) (Or.inl ⟨by kernel_rfl, fun w' hw' => by go_simp; rw [K2.out w' hw']; rfl⟩) BB.out ?_
      refine held_g 20 rfl (by kernel_rfl) (by kernel_rfl) fun K hK => ?_
      go_simp
      refine hK _ _ BB.out ?_
      clear hK K
      refine held_g 21 rfl (by kernel_rfl) (by kernel_rfl) fun K hK => ?_
      go_simp
      refine hK _ _ BB.out ?_
      clear hK K
      refine held_g 22 rfl (by kernel_rfl) (by kernel_rfl) fun K hK => ?_
      go_simp
      refine hK _ _ BB.out ?_
      clear hK K
      refine wpAnyH_take (i := 23) (v := .agg #[.int .i64 x, .int .i64 y, .int .i64 z]) rfl (by kernel_rfl) (by kernel_rfl) (by kernel_rfl) (fun _ _ _ h => h) (Or.inl ⟨by kernel_rfl, fun w' hw' => by obtain ⟨u0, u1, u2, -, -, -⟩ := bx3 ((hw'.block _ (lt_of_some Y8.out)).trans Y8.out); go_simp⟩) BB.out ?_
      refine wpAnyH_take (i := 24) (v := .agg #[.int .i64 x, .int .i64 y, .int .i64 z]) rfl (by kernel_rfl) (by kernel_rfl) (by kernel_rfl) (fun _ _ _ h => h) (Or.inl ⟨by kernel_rfl, fun w' hw' => by obtain ⟨u0, u1, u2, -, -, -⟩ := bx3 ((hw'.block _ (lt_of_some Z8.out)).trans Z8.out); go_simp⟩) BB.out ?_
      refine held_g 25 rfl (by kernel_rfl) (by kernel_rfl) fun K hK => ?_
      go_simp
      refine hK _ _ BB.out ?_
      clear hK K
      refine held_g 26 rfl (by kernel_rfl) (by kernel_rfl) fun K hK => ?_
      go_simp
      refine hK _ _ BB.out ?_
      clear hK K
      refine wpAnyH_done (by kernel_rfl) ?_ _
      unfold onlyN
      dsimp only
      go_wp2_with fail
      go_roundw
      case rel => exact ⟨i + 1, by omega, by go_num, bt B9.out BB.out⟩
      case measure => simp [intOf]; omega
    · obtain rfl : i = 2 := by omega
      clear hB hi hi2
      go_wp2_with fail
      refine (AW.out _ (ST.out _ _ hw (bt B2.out HB.out))).mono ?_
      rintro e w6 ⟨rfl, hb6⟩
      have B6 := Lib.hid (bt (bt B2.out HB.out) hb6)
      clear hb6
      go_wp2_with fail
      go_ret
      exact ⟨rfl, B6.out⟩
end Go.Proofs.YtekdnloabhnngaaDoor.Gf
