/- What is proved here: the contract of the program's Flip (disk). Condition: data of at most 2^40 bytes. -/
import Derived.Test.YtpipgbjkkiheaaaR10t
import Derived.StillTailTactics
namespace Go.Proofs.Ytpipgbjkkiheaaa.Gf
open Go Go.Joins Go.ChangeShapes Go.WideShapes Go.ChangeAt Go.RowKit Go.Deep Go.Proofs.Ytpipgbjkkiheaaa.By Go.Proofs.Ytpipgbjkkiheaaa.Qt

/-- What find answers, in Flip's words. -/
theorem flip_find (d : Dk) (s : ByteArray) (bit : Int) : (findE d s ≠ 0 → flipE d s bit = findE d s) ∧ (findE d s = 0 → findF d s = flipF d s ∧ flipE d s bit = (if 0 < (flipF d s).2.2.length then 12 else if bit < 0 ∨ ((flipF d s).2.1.length : Int) ≤ bit / 8 then 2 else 0) ∧ (flipE d s bit = 0 → flipD d s bit = (d.1, d.2.1, putG nmF d.2.2 ((flipF d s).1, flipB (flipF d s).2.1 bit, (flipF d s).2.2))) ∧ flipF d s ∈ d.2.2 ∧ SrtF d.2.2 ∧ d.2.2.length ≤ 256 ∧ (flipF d s).2.1.length ≤ 1048576) := by
  unfold findE
  by_cases hv : validB d = true
  · by_cases hnm : nameB s = true
    · have hs := valid_srt hv
      have hfl := fnd_lb (s := s) hs
      have hn : nmF = fun f : Fl => f.1 := rfl
      rw [if_pos (by rw [hv, hnm]; rfl), hn]
      have hE : flipE d s bit = (if fndL d.2.2 s < 0 then 6 else if 0 < (flipF d s).2.2.length then 12 else if bit < 0 ∨ ((flipF d s).2.1.length : Int) ≤ bit / 8 then 2 else 0) := by unfold flipE; rw [if_pos ⟨hv, hnm⟩]
      by_cases hh : hasG (fun f : Fl => f.1) d.2.2 s = true
      · rw [if_pos hh] at hfl ⊢
        have hf : findF d s = flipF d s := by
          unfold findF findE flipF
          rw [if_pos (by rw [hv, hnm, if_pos (by rfl)]; exact if_pos hh), hfl, Int.toNat_natCast]
        have hlt := hasG_lt hh
        have hp : 0 ≤ fndL d.2.2 s := by omega
        have hmem : flipF d s ∈ d.2.2 := by
          unfold flipF
          rw [hfl, Int.toNat_natCast, getD_F hlt]
          exact List.getElem_mem hlt
        have hname : (flipF d s).1 = s := by
          unfold flipF
          rw [hfl, Int.toNat_natCast]
          unfold hasG at hh
          rw [List.getElem?_eq_getElem hlt] at hh
          rw [getD_F hlt]
          exact nmEq_iff.1 hh
        refine ⟨fun h => absurd rfl h, fun _ => ⟨hf, by rw [hE, if_neg (by omega)], fun h0 => ?_, hmem, hs, (valid_parts hv).2.2.1, ?_⟩⟩
        · unfold flipD
          rw [if_pos h0, ← hn, set_put (f := ((flipF d s).1, flipB (flipF d s).2.1 bit, (flipF d s).2.2)) hs (by show 0 ≤ fndL d.2.2 (flipF d s).1; rw [hname]; exact hp)]
          show _ = (d.1, d.2.1, d.2.2.set (fndL d.2.2 (flipF d s).1).toNat _)
          rw [hname]
        · have h := ok_mem (valid_parts hv).2.2.2 _ hmem
          unfold fileB flB at h
          simp only [Bool.and_eq_true, decide_eq_true_eq] at h
          exact h.2.1
      · rw [if_neg hh] at hfl ⊢
        exact ⟨fun _ => by rw [hE, if_pos (by omega)], fun h => absurd h (by decide)⟩
    · rw [if_neg (by rw [hv]; simpa using hnm)]
      exact ⟨fun _ => by unfold flipE; rw [if_neg fun h => hnm h.2], fun h => absurd h (by decide)⟩
  · rw [if_neg (by simp [hv])]
    exact ⟨fun _ => by unfold flipE; rw [if_neg fun h => hv h.1], fun h => absurd h (by decide)⟩
theorem ne_of_own {g n c q f : Nat} (h : (Value.slice (some ⟨g, 0, none⟩) n c).ownBlock = some q) (hf : f < g) : q ≠ f := by
  have e : g = q := by simpa [Value.ownBlock] using h
  omega
theorem flip_val2 {y r : Nat} (hy : y < 256) (hr : r < 8) : bits .xor .u8 ((y : Nat) : Int) (2 ^ min r 8 % 256) = ((y ^^^ 2 ^ r : Nat) : Int) := by
  rw [Nat.min_eq_left (by omega)]
  have h2 := pow_lt10 r hr
  have h3 : (2 : Int) ^ r % 256 = ((2 ^ r : Nat) : Int) := by
    have : (2 : Int) ^ r = ((2 ^ r : Nat) : Int) := by simp
    rw [this]
    generalize 2 ^ r = z at h2
    omega
  rw [h3, u8_xor_nat _ _ hy h2]
theorem flipD_zero {d : Dk} {s : ByteArray} {bit : Int} (h : flipE d s bit ≠ 0) : flipD d s bit = dk0 := by unfold flipD; rw [if_neg h]
set_option maxRecDepth 100000 in
set_option maxHeartbeats 12800000 in
theorem pflip_any (v : Value) (d : Dk) (s : ByteArray) (bit : Int) (hbit : -9223372036854775808 ≤ bit ∧ bit ≤ 9223372036854775807) (hs : s.size ≤ maxLen) (w : World) (hv : Dv w v d) (hsm : SmD d) : Calls Try.prog 55 #[v, .string s, .int .i64 bit] w (DE (fun b => b < w.heap.size) w (flipD d s bit) (flipE d s bit)) := by
  obtain ⟨fv, rfl, hr, sf⟩ := hv
  have sfo : Rd (fun q => q < w.heap.size) w (.sl tyF) [fv] d.2.2 := rd_mono sf fun _ _ h => h
  have PF := Lib.hid (fun W (h : Below w.heap.size w W) => pfind10_any (B := fun q => q < w.heap.size) (.agg #[.int .i64 d.1, .int .i64 d.2.1, fv]) d s hs W ⟨fv, rfl, hr, rd_below sfo h⟩ hsm)
  obtain ⟨af, cf, rfl, -, -⟩ := rd_sl sf
  have SF := Lib.hid sfo
  have HR := Lib.hid hr
  have HBT := Lib.hid hbit
  have HF0 := Lib.hid (flip_find d s bit)
  have HDZ := Lib.hid (fun h => flipD_zero (d := d) (s := s) (bit := bit) h)
  generalize flipD d s bit = DD at *
  generalize flipE d s bit = EE at *
  generalize flipF d s = x at *
  generalize findF d s = y at *
  generalize findE d s = FE at *
  obtain ⟨cap, left, L⟩ := d
  dsimp only at SF HR HF0 PF ⊢
  obtain ⟨n, hn⟩ : ∃ z, z = L.length := ⟨_, rfl⟩
  rw [← hn] at SF PF HF0 ⊢
  have HN := Lib.hid hn
  have A1 := bel_al0 w (.cells #[.int .i64 cap, .int .i64 left, .slice af n cf] 33)
  have BX := Lib.hid (btA A1 (bel_al0 _ (.cells #[.int .i64 0, .int .i64 0, .slice none 0 0] 33)))
  have HX := Lib.hid (show ((w.alloc (.cells #[.int .i64 cap, .int .i64 left, .slice af n cf] 33)).alloc (.cells #[.int .i64 0, .int .i64 0, .slice none 0 0] 33)).heap[w.heap.size]? = some (.cells #[.int .i64 cap, .int .i64 left, .slice af n cf] 33 (0, 0)) from (al_old (by simp)).trans (heap_alloc_new w _))
  have HY := Lib.hid (heap_alloc2_new w (.cells #[.int .i64 cap, .int .i64 left, .slice af n cf] 33) (.cells #[.int .i64 0, .int .i64 0, .slice none 0 0] 33))
  clear sf sfo hr A1 hn hbit hs hsm
  go_enter Try.func55, Try.ntmps55
  go_upto_region 1 with fail
  generalize ((w.alloc (.cells #[.int .i64 cap, .int .i64 left, .slice af n cf] 33)).alloc (.cells #[.int .i64 0, .int .i64 0, .slice none 0 0] 33)) = W1 at *
  obtain ⟨x0, x1, x2⟩ := box3c HX.out
  go_wp2_with fail
  refine (PF.out _ BX.out).mono ?_
  rintro e w2 ⟨⟨bv, pv, rfl, hrd⟩, hb2⟩
  have B2 := Lib.hid (btA BX.out hb2)
  have HX2 := Lib.hid ((hb2.block _ (lt_of_some0 HX.out)).trans HX.out)
  have HY2 := Lib.hid ((hb2.block _ (lt_of_some0 HY.out)).trans HY.out)
  obtain ⟨bv', pv', he, hsz, hbb, hpp⟩ := rd_f hrd
  obtain ⟨rfl, rfl⟩ : bv = bv' ∧ pv = pv' := by simpa using he
  obtain ⟨sa, xb, xp⟩ := y
  dsimp only at hsz hbb hpp HF0 ⊢
  obtain ⟨ab, cb, rfl, -, -⟩ := rd_sl hbb
  obtain ⟨ap, cp, rfl, -, -⟩ := rd_sl hpp
  have RB2 := Lib.hid (rd_mono (C := fun q => q < w.heap.size) hbb fun q hq _ => hq.1)
  have RP2 := Lib.hid (rd_mono (C := fun q => q < w.heap.size) hpp fun q hq _ => hq.1)
  have HSA := Lib.hid hsz
  obtain ⟨nb, hnb⟩ : ∃ z, z = xb.length := ⟨_, rfl⟩
  obtain ⟨np, hnp⟩ : ∃ z, z = xp.length := ⟨_, rfl⟩
  rw [← hnb] at RB2 ⊢
  rw [← hnp] at RP2 ⊢
  have HNB := Lib.hid hnb
  have HNP := Lib.hid hnp
  clear hb2 hrd he hsz hbb hpp hnb hnp x0 x1 x2 PF HX HY BX
  go_upto_region 2 with fail
  have q3 := bel_al0 w2 (.cells #[.string sa, .slice ab nb cb, .slice ap np cp] 59)
  have HZ3 := Lib.hid (heap_alloc_new w2 (.cells #[.string sa, .slice ab nb cb, .slice ap np cp] 59))
  have HX3 := Lib.hid ((q3.block _ (lt_of_some0 HX2.out)).trans HX2.out)
  have HY3 := Lib.hid ((q3.block _ (lt_of_some0 HY2.out)).trans HY2.out)
  have B3 := Lib.hid (btA B2.out q3)
  have RB3 := Lib.hid (rd_below RB2.out q3)
  have RP3 := Lib.hid (rd_below RP2.out q3)
  have SZ3 := Lib.hid (show w.heap.size + 2 ≤ w2.heap.size from lt_of_some0 HY2.out)
  clear q3 HX2 HY2 B2 RB2 RP2
  generalize w2.alloc (.cells #[.string sa, .slice ab nb cb, .slice ap np cp] 59) = W3 at *
  generalize w2.heap.size = fz at *
  by_cases hfe : FE = 0
  case neg =>
    have e1 : ((FE : Int) != 0) = true := by rw [bne_iff_ne]; omega
    have HEF := Lib.hid (HF0.out.1 hfe)
    have HD0 := Lib.hid (HDZ.out (by rw [HEF.out]; exact hfe))
    clear hfe HF0 HDZ
    obtain ⟨y0, y1, y2⟩ := box3c HY3.out
    have u0 := frozen_of_row W3 (w.heap.size + 1) 0 _ _ HY3.out
    have u1 := frozen_of_row W3 (w.heap.size + 1) 1 _ _ HY3.out
    have u2 := frozen_of_row W3 (w.heap.size + 1) 2 _ _ HY3.out
    go_wp2
    refine pdisk_end rfl (set3c HY3.out) rfl ?_
    rw [HD0.out, HEF.out]
    exact de_zero (below_set3 B3.out (by omega))
  subst hfe
  obtain ⟨hxy, hE, hD, hmem, hsrt, hle, hbl⟩ := HF0.out.2 rfl
  subst hxy
  dsimp only at hE hD hbl
  rw [← HNB.out, ← HNP.out] at hE
  rw [← HNB.out] at hbl
  have HE := Lib.hid hE
  have HD := Lib.hid hD
  have HSRT := Lib.hid hsrt
  have HLE := Lib.hid hle
  have HBL := Lib.hid hbl
  clear hE hD hmem hsrt hle hbl HF0
  obtain ⟨z0, z1, z2⟩ := box3c HZ3.out
  by_cases hp0 : 0 < np
  · have e2 : decide ((np : Int) > 0) = true := decide_eq_true (by omega)
    have e3 : decide ((0 : Int) < (np : Int)) = true := decide_eq_true (by omega)
    have e4 : decide (0 < np) = true := decide_eq_true hp0
    rw [if_pos hp0] at HE
    have HD0 := Lib.hid (HDZ.out (by rw [HE.out]; decide))
    clear hp0 HD HDZ
    obtain ⟨y0, y1, y2⟩ := box3c HY3.out
    have u0 := frozen_of_row W3 (w.heap.size + 1) 0 _ _ HY3.out
    have u1 := frozen_of_row W3 (w.heap.size + 1) 1 _ _ HY3.out
    have u2 := frozen_of_row W3 (w.heap.size + 1) 2 _ _ HY3.out
    go_wp2
    refine pdisk_end rfl (set3c HY3.out) rfl ?_
    rw [HD0.out, HE.out]
    exact de_zero (below_set3 B3.out (by omega))
  have e2 : decide ((np : Int) > 0) = false := decide_eq_false (by omega)
  have e3 : decide ((0 : Int) < (np : Int)) = false := decide_eq_false (by omega)
  have e4 : decide (0 < np) = false := decide_eq_false hp0
  rw [if_neg hp0] at HE
  clear hp0
  go_upto_region 6 with fail
  clear e2 e3 e4
  by_cases hneg : bit < 0
  · have e1 : decide (bit < 0) = true := decide_eq_true hneg
    rw [if_pos (Or.inl hneg)] at HE
    have HD0 := Lib.hid (HDZ.out (by rw [HE.out]; decide))
    clear hneg HD HDZ
    obtain ⟨y0, y1, y2⟩ := box3c HY3.out
    have u0 := frozen_of_row W3 (w.heap.size + 1) 0 _ _ HY3.out
    have u1 := frozen_of_row W3 (w.heap.size + 1) 1 _ _ HY3.out
    have u2 := frozen_of_row W3 (w.heap.size + 1) 2 _ _ HY3.out
    go_wp2
    refine pdisk_end rfl (set3c HY3.out) rfl ?_
    rw [HD0.out, HE.out]
    exact de_zero (below_set3 B3.out (by omega))
  have e1 : decide (bit < 0) = false := decide_eq_false hneg
  obtain ⟨bt, rfl⟩ : ∃ z : Nat, bit = (z : Int) := ⟨bit.toNat, by omega⟩
  obtain ⟨j, hj⟩ : ∃ z, z = bt / 8 := ⟨_, rfl⟩
  obtain ⟨r, hr⟩ : ∃ z, z = bt % 8 := ⟨_, rfl⟩
  have q1 : Int.tdiv (bt : Int) 8 = (j : Int) := by rw [Int.tdiv_eq_ediv_of_nonneg (by omega)]; omega
  have q2 : Int.tmod (bt : Int) 8 = (r : Int) := by rw [Int.tmod_eq_emod_of_nonneg (by omega)]; omega
  have qw : wrap64 (j : Int) = (j : Int) := by have := HBT.out; unfold wrap64; omega
  have HQW := Lib.hid qw
  have HJ := Lib.hid (show (bt : Int) / 8 = (j : Int) ∧ (bt : Int) % 8 = (r : Int) ∧ r < 8 by omega)
  have HQ := Lib.hid (And.intro q1 q2)
  clear hneg hj hr q2
  by_cases hge : nb ≤ j
  · have e2 : decide ((j : Int) ≥ (nb : Int)) = true := decide_eq_true (by omega)
    have e3 : decide ((nb : Int) ≤ (j : Int)) = true := decide_eq_true (by omega)
    have e4 : decide (nb ≤ j) = true := decide_eq_true hge
    rw [if_pos (Or.inr (by rw [HJ.out.1]; omega))] at HE
    have HD0 := Lib.hid (HDZ.out (by rw [HE.out]; decide))
    clear hge HD HDZ
    obtain ⟨y0, y1, y2⟩ := box3c HY3.out
    have u0 := frozen_of_row W3 (w.heap.size + 1) 0 _ _ HY3.out
    have u1 := frozen_of_row W3 (w.heap.size + 1) 1 _ _ HY3.out
    have u2 := frozen_of_row W3 (w.heap.size + 1) 2 _ _ HY3.out
    go_wp2
    refine pdisk_end rfl (set3c HY3.out) rfl ?_
    rw [HD0.out, HE.out]
    exact de_zero (below_set3 B3.out (by omega))
  have e2 : decide ((j : Int) ≥ (nb : Int)) = false := decide_eq_false (by omega)
  have e3 : decide ((nb : Int) ≤ (j : Int)) = false := decide_eq_false (by omega)
  have e4 : decide (nb ≤ j) = false := decide_eq_false hge
  have HJL := Lib.hid (show j < nb by omega)
  rw [if_neg (by rw [HJ.out.1]; omega)] at HE
  have HDD := Lib.hid (HD.out HE.out)
  clear hge HD HDZ
  have PC := Lib.hid (pclone8_any (.slice ab nb cb) xb W3 (rd8_sl RB3.out) (by have := HBL.out; have := HNB.out; omega))
  go_wp2_with fail
  refine PC.out.mono ?_
  rintro e w5 ⟨⟨v5, rfl, ho5⟩, hb5⟩
  have B5 := Lib.hid (btA B3.out hb5)
  have HX5 := Lib.hid ((hb5.block _ (lt_of_some0 HX3.out)).trans HX3.out)
  have HY5 := Lib.hid ((hb5.block _ (lt_of_some0 HY3.out)).trans HY3.out)
  have HZ5 := Lib.hid ((hb5.block _ (lt_of_some0 HZ3.out)).trans HZ3.out)
  have RP5 := Lib.hid (rd_below RP3.out hb5)
  obtain ⟨a5, c5, rfl, -, -⟩ := sl_form ho5.sl
  rw [← HNB.out] at ho5 ⊢
  obtain ⟨g5, rfl⟩ : ∃ g, a5 = some ⟨g, 0, none⟩ := by
    obtain ⟨_, _, ⟨h1, h2⟩ | ⟨g, cap, cur, h1, -⟩⟩ := ho5
    · exact absurd h2 (by have := HNB.out; have := HJL.out; omega)
    · have := Value.slice.inj h1
      exact ⟨g, this.1⟩
  have O5 := Lib.hid ho5
  have HW3 := Lib.hid (Nat.le_of_lt (lt_of_some0 HZ3.out))
  have G5 := Lib.hid (show fz < g5 from Nat.lt_of_lt_of_le (lt_of_some0 HZ3.out) (ho5.2.lt g5 rfl).1)
  clear ho5 hb5 PC z0 z1 z2 e1 e2 e3 e4 q1 qw HX3 HY3 HZ3 B3 RB3 RP3
  have SZF := Lib.hid (show w.heap.size + 2 ≤ fz from SZ3.out)
  obtain ⟨z0, z1, z2⟩ := box3c HZ5.out
  have f1 := frozen_of_row w5 fz 1 _ _ HZ5.out
  go_upto_region 9 with fail
  have HZ6 := Lib.hid (show (w5.setCell ⟨fz, 1, none⟩ (.slice (some ⟨g5, 0, none⟩) nb c5)).heap[fz]? = some (.cells #[.string sa, .slice (some ⟨g5, 0, none⟩) nb c5, .slice ap np cp] 59 (0, 0)) from (by simpa using heap_setCell_same w5 fz 1 _ _ (.slice (some ⟨g5, 0, none⟩) nb c5) HZ5.out))
  have HX6 := Lib.hid ((other1 (g := fz) (o := 1) (v := .slice (some ⟨g5, 0, none⟩) nb c5) (by have := SZF.out; omega : w.heap.size ≠ fz)).trans HX5.out)
  have HY6 := Lib.hid ((other1 (g := fz) (o := 1) (v := .slice (some ⟨g5, 0, none⟩) nb c5) (by have := SZF.out; omega : w.heap.size + 1 ≠ fz)).trans HY5.out)
  have B6 := Lib.hid (B5.out.setCell (p := ⟨fz, 1, none⟩) (show w.heap.size ≤ fz by have := SZF.out; omega) (.slice (some ⟨g5, 0, none⟩) nb c5))
  have O6 := Lib.hid (own_keep (w' := w5.setCell ⟨fz, 1, none⟩ (.slice (some ⟨g5, 0, none⟩) nb c5)) O5.out fun q hq => other1 (g := fz) (ne_of_own hq G5.out))
  have RP6 := Lib.hid (rd_move (w' := w5.setCell ⟨fz, 1, none⟩ (.slice (some ⟨g5, 0, none⟩) nb c5)) (fun q hq _ => other1 (g := fz) (by have := SZF.out; omega)) (fun q hq _ => hq) RP5.out)
  clear z0 z1 z2 f1 HZ5 HX5 HY5 B5 O5 RP5
  generalize w5.setCell ⟨fz, 1, none⟩ (.slice (some ⟨g5, 0, none⟩) nb c5) = W6 at *
  obtain ⟨z0, z1, z2⟩ := box3c HZ6.out
  obtain ⟨hc, hfz, hbg⟩ := own_cell O6.out HNB.out.symm HJL.out
  have hy := getD_lt O6.out.1 j
  obtain ⟨y, hye⟩ : ∃ y, y = xb.getD j 0 := ⟨_, rfl⟩
  rw [← hye] at hc hy
  have HYE := Lib.hid hye
  have HY256 := Lib.hid hy
  have q1 := HQ.out.1
  have q2 := HQ.out.2
  have qw := HQW.out
  have qw2 : IntKind.i64.wrap (j : Int) = (j : Int) := by have := HBT.out; have := HJ.out.1; rw [IntWalk.i64_in _ (by omega)]
  have qw3 : IntKind.i64.wrap (r : Int) = (r : Int) := by have := HJ.out.2.2; rw [IntWalk.i64_in _ (by omega)]
  have p0 : (0 : Int) ≤ (j : Int) := by omega
  have p1 : (j : Int) < (nb : Int) := by have := HJL.out; omega
  have p2 : (0 : Int) ≤ (r : Int) := by omega
  have p3 : ¬ (r : Int) < 0 := by omega
  clear hye hy
  go_still_tail 10, (by kernel_rfl)
  go_upto_region 10 with fail
  have hval : bits .xor .u8 ((y : Nat) : Int) (2 ^ min r 8 % 256) = ((y ^^^ 2 ^ r : Nat) : Int) := flip_val2 HY256.out HJ.out.2.2
  rw [hval]
  have HYX := Lib.hid (xor_lt10 HY256.out (pow_lt10 r HJ.out.2.2))
  have HXS := Lib.hid (show xb.set j (y ^^^ 2 ^ r) = flipB xb (bt : Int) by unfold flipB; rw [HJ.out.1, HJ.out.2.1, Int.toNat_natCast, Int.toNat_natCast, HYE.out])
  generalize y ^^^ 2 ^ r = yx at *
  have hd := (Below.refl (W6.setCell ⟨g5, j, none⟩ (.int .u8 (yx : Int))).heap.size (W6.setCell ⟨g5, j, none⟩ (.int .u8 (yx : Int)))).drew
  have O7 := Lib.hid (own_below' (own_set O6.out HNB.out.symm HJL.out HYX.out) hd)
  have HX7 : Hid ((W6.setCell ⟨g5, j, none⟩ (.int .u8 (yx : Int))).drew.heap[w.heap.size]? = some (.cells #[.int .i64 cap, .int .i64 left, .slice af n cf] 33 (0, 0))) := Lib.hid ((other1 (g := g5) (o := j) (v := .int .u8 (yx : Int)) (by have := SZF.out; have := G5.out; omega : w.heap.size ≠ g5)).trans HX6.out)
  have HY7 : Hid ((W6.setCell ⟨g5, j, none⟩ (.int .u8 (yx : Int))).drew.heap[w.heap.size + 1]? = some (.cells #[.int .i64 0, .int .i64 0, .slice none 0 0] 33 (0, 0))) := Lib.hid ((other1 (g := g5) (o := j) (v := .int .u8 (yx : Int)) (by have := SZF.out; have := G5.out; omega : w.heap.size + 1 ≠ g5)).trans HY6.out)
  have HZ7 : Hid ((W6.setCell ⟨g5, j, none⟩ (.int .u8 (yx : Int))).drew.heap[fz]? = some (.cells #[.string sa, .slice (some ⟨g5, 0, none⟩) nb c5, .slice ap np cp] 59 (0, 0))) := Lib.hid ((other1 (g := g5) (o := j) (v := .int .u8 (yx : Int)) (by have := G5.out; omega : fz ≠ g5)).trans HZ6.out)
  have B7 := Lib.hid ((B6.out.setCell (p := ⟨g5, j, none⟩) (show w.heap.size ≤ g5 by have := SZF.out; have := G5.out; omega) (.int .u8 (yx : Int))).drew)
  have RP7 := Lib.hid (rd_below (rd_move (w' := W6.setCell ⟨g5, j, none⟩ (.int .u8 (yx : Int))) (fun q hq _ => other1 (g := g5) (by have := SZF.out; have := G5.out; omega)) (fun q hq _ => hq) RP6.out) hd)
  clear hval hd hc hfz hbg q1 q2 qw qw2 qw3 p0 p1 p2 p3 z0 z1 z2 O6 HX6 HY6 HZ6 B6 RP6
  generalize (W6.setCell ⟨g5, j, none⟩ (.int .u8 (yx : Int))).drew = W7 at *
  rw [HXS.out] at O7
  have RO7 := Lib.hid (rd_mono (C := fun q => q < w.heap.size ∨ w.heap.size + 2 ≤ q) (own_rd8 O7.out) fun q hq _ => Or.inr (by have := SZF.out; have := HW3.out; omega))
  have PP := Lib.hid (pput_any (B := fun q => q < w.heap.size ∨ w.heap.size + 2 ≤ q) (.slice af n cf) L (sa, flipB xb (bt : Int), xp) (.slice (some ⟨g5, 0, none⟩) nb c5) (.slice ap np cp) W7 (rd_mono (rd_below SF.out B7.out) fun q hq _ => Or.inl hq) (rd_f_mk (x := (sa, flipB xb (bt : Int), xp)) HSA.out RO7.out (rd_mono RP7.out fun q hq _ => Or.inl hq)) HSRT.out (by have := HLE.out; have := HN.out; omega))
  obtain ⟨x0, x1, x2⟩ := box3c HX7.out
  obtain ⟨z0, z1, z2⟩ := box3c HZ7.out
  go_wp2_with fail
  refine PP.out.mono ?_
  rintro e w8 ⟨⟨v8, rfl, hr8⟩, hb8⟩
  have B8 := Lib.hid (btA B7.out hb8)
  have HX8 := Lib.hid ((hb8.block _ (lt_of_some0 HX7.out)).trans HX7.out)
  have HY8 := Lib.hid ((hb8.block _ (lt_of_some0 HY7.out)).trans HY7.out)
  have R8 := Lib.hid (rd_mono (C := fun q => q < w.heap.size ∨ w.heap.size + 2 ≤ q) hr8 fun q hq _ => by
    have := lt_of_some0 HY7.out
    rcases hq with hq | hq
    · exact hq.1
    · exact Or.inr (by omega))
  obtain ⟨a8, c8, rfl, -, -⟩ := rd_sl hr8
  obtain ⟨n8, hn8⟩ : ∃ z, z = (putG nmF L (sa, flipB xb (bt : Int), xp)).length := ⟨_, rfl⟩
  rw [← hn8] at R8 ⊢
  clear hr8 hb8 hn8 x0 x1 x2 z0 z1 z2 PP HX7 HY7 HZ7 B7 RP7 RO7 O7
  obtain ⟨x0, x1, x2⟩ := box3c HX8.out
  have f2 := frozen_of_row w8 w.heap.size 2 _ _ HX8.out
  go_upto_region 11 with fail
  have HX9 := Lib.hid (show (w8.setCell ⟨w.heap.size, 2, none⟩ (.slice a8 n8 c8)).heap[w.heap.size]? = some (.cells #[.int .i64 cap, .int .i64 left, .slice a8 n8 c8] 33 (0, 0)) from (by simpa using heap_setCell_same w8 w.heap.size 2 _ _ (.slice a8 n8 c8) HX8.out))
  have HY9 := Lib.hid ((other1 (g := w.heap.size) (o := 2) (v := .slice a8 n8 c8) (by omega : w.heap.size + 1 ≠ w.heap.size)).trans HY8.out)
  have B9 := Lib.hid (B8.out.setCell (p := ⟨w.heap.size, 2, none⟩) (Nat.le_refl _) (.slice a8 n8 c8))
  have R9 := Lib.hid (rd_move (w' := w8.setCell ⟨w.heap.size, 2, none⟩ (.slice a8 n8 c8)) (fun q hq _ => other1 (g := w.heap.size) (by rcases hq with h | h <;> omega)) (fun q hq _ => hq) R8.out)
  clear x0 x1 x2 f2 HX8 HY8 B8 R8
  generalize w8.setCell ⟨w.heap.size, 2, none⟩ (.slice a8 n8 c8) = W9 at *
  obtain ⟨x0, x1, x2⟩ := box3c HX9.out
  obtain ⟨y0, y1, y2⟩ := box3c HY9.out
  have u0 := frozen_of_row W9 (w.heap.size + 1) 0 _ _ HY9.out
  have u1 := frozen_of_row W9 (w.heap.size + 1) 1 _ _ HY9.out
  have u2 := frozen_of_row W9 (w.heap.size + 1) 2 _ _ HY9.out
  go_wp2
  refine pdisk_end rfl (set3c HY9.out) rfl ?_
  rw [HDD.out, HE.out]
  exact ⟨⟨_, rfl, _, rfl, HR.out, rd_move (B := fun q => q < w.heap.size ∨ w.heap.size + 2 ≤ q) (fun q hq _ => set3_other (by rcases hq with hq | hq <;> omega)) (fun q hq _ => hq.imp id fun h => by omega) R9.out⟩, below_set3 B9.out (by omega)⟩

end Go.Proofs.Ytpipgbjkkiheaaa.Gf
