/- What is proved here: the contract of the program's Put, with the blocks that the disk lies in. Condition: as of Append. -/
import Derived.Test.YtpipgbjkkiheaaaPB10
-- halved
namespace Go.Proofs.Ytpipgbjkkiheaaa.Gf
open Go Go.Joins Go.ChangeShapes Go.WideShapes Go.ChangeAt Go.RowKit Go.Deep Go.Proofs.Ytpipgbjkkiheaaa.By Go.Proofs.Ytpipgbjkkiheaaa.Qt

set_option maxRecDepth 100000 in
set_option maxHeartbeats 12800000 in
theorem pputB_any {B : Nat → Prop} (v : Value) (d : Dk) (s : ByteArray) (off : Int) (hoff : -9223372036854775808 ≤ off ∧ off ≤ 9223372036854775807) (dv : Value) (b : List Nat) (w : World) (sd : Sl w dv b) (hbl : b.length ≤ 1099511627776) (hs : s.size ≤ maxLen) (k : Nat) (hv : DvB B w v d) (hsm : SmD d) (hpn : PnD d k) (hk : k ≤ 89990) : Calls Try.prog 39 #[v, .string s, .int .i64 off, dv] w (DE (fun b => B b ∧ b < w.heap.size) w (putD d s off b) (putE d s off b)) := by
 obtain ⟨fv, rfl, hr, sf⟩ := hv
 have sfo : Rd (fun b => B b ∧ b < w.heap.size) w (.sl tyF) [fv] d.2.2 := rd_mono sf fun _ hb h => ⟨hb, h⟩
 have RO := Lib.hid (fun W (h : Below w.heap.size w W) => popen_any (B := fun b => B b ∧ b < w.heap.size) _ d s hs W ⟨fv, rfl, hr, rd_below sfo h⟩ hsm)
 have HOK := Lib.hid (fun h => open_ok (d := d) (s := s) h)
 have HPN := Lib.hid hpn
 have HVL := Lib.hid (fun (h : validB d = true) => And.intro (valid_srt h) (valid_parts h).2.2.1)
 have HCE := Lib.hid (show putE d s off b = if atE d s = 0 then (if off < 0 ∨ ((contL (fileAt d s)).length : Int) < off then 2 else wEx d (fileAt d s) off.toNat b) else atE d s from rfl)
 have HDD := Lib.hid (show putD d s off b = if putE d s off b = 0 then wDx d (fileAt d s) (off, b, false) else dk0 from rfl)
 have HOF := Lib.hid hoff
 have HHV : Hid (DvB (fun b => B b ∧ b < w.heap.size) w (.agg #[.int .i64 d.1, .int .i64 d.2.1, fv]) d) := Lib.hid ⟨fv, rfl, hr, sfo⟩
 have HSD := Lib.hid sd
 have HBL := Lib.hid hbl
 obtain ⟨ad, cd, rfl, -, -⟩ := sl_form sd
 have SF := Lib.hid sfo
 have HR := Lib.hid hr
 obtain ⟨af, cf, rfl, -, -⟩ := rd_sl sf
 generalize putD d s off b = DD at *
 generalize putE d s off b = CE at *
 obtain ⟨nd, hnd⟩ : ∃ z, z = b.length := ⟨_, rfl⟩
 rw [← hnd] at HSD ⊢
 clear hnd
 generalize openF d s = OF at *
 generalize fileAt d s = FA at *
 generalize atE d s = E at *
 generalize readyE d s = RE at *
 generalize atI d s = IE at *
 obtain ⟨cap, left, L⟩ := d
 dsimp only at RO HOK SF HR HVL HPN HHV ⊢
 have HPL : Hid (∀ f ∈ L, f.2.2.length ≤ k) := Lib.hid HPN.out
 obtain ⟨n, hn⟩ : ∃ z, z = L.length := ⟨_, rfl⟩
 rw [← hn] at SF RO HVL HHV ⊢
 have HN := Lib.hid hn
 have A1 := bel_al0 w (.cells #[.int .i64 cap, .int .i64 left, .slice af n cf] 33)
 have BX := Lib.hid (btA A1 (bel_al0 _ (.cells #[.int .i64 0, .int .i64 0, .slice none 0 0] 33)))
 have HX := Lib.hid (show ((w.alloc (.cells #[.int .i64 cap, .int .i64 left, .slice af n cf] 33)).alloc (.cells #[.int .i64 0, .int .i64 0, .slice none 0 0] 33)).heap[w.heap.size]? = some (.cells #[.int .i64 cap, .int .i64 left, .slice af n cf] 33 (0, 0)) from (al_old (by simp)).trans (heap_alloc_new w _))
 have HY := Lib.hid (heap_alloc2_new w (.cells #[.int .i64 cap, .int .i64 left, .slice af n cf] 33) (.cells #[.int .i64 0, .int .i64 0, .slice none 0 0] 33))
 clear sf sfo hr hsm A1 hpn HPN hn hoff
 go_enter Try.func39, Try.ntmps39
 go_upto_region 1 with fail
 generalize ((w.alloc (.cells #[.int .i64 cap, .int .i64 left, .slice af n cf] 33)).alloc (.cells #[.int .i64 0, .int .i64 0, .slice none 0 0] 33)) = W1 at *
 obtain ⟨x0, x1, x2⟩ := box3c HX.out
 go_wp2_with fail
 refine (RO.out _ BX.out).mono ?_
 rintro e w2 ⟨⟨bv, pv, rfl, hrd⟩, hb2⟩
 have B2 := Lib.hid (btA BX.out hb2)
 have HX2 := Lib.hid ((hb2.block _ (lt_of_some0 HX.out)).trans HX.out)
 have HY2 := Lib.hid ((hb2.block _ (lt_of_some0 HY.out)).trans HY.out)
 obtain ⟨bv', pv', he, hsz, hb, hp⟩ := rd_f hrd
 obtain ⟨rfl, rfl⟩ : bv = bv' ∧ pv = pv' := by simpa using he
 obtain ⟨ab, cb, rfl, -, -⟩ := rd_sl hb
 obtain ⟨ap, cp, rfl, -, -⟩ := rd_sl hp
 have BA1 := Lib.hid (bel_al0 w2 (.cells #[.string OF.1, .slice ab OF.2.1.length cb, .slice ap OF.2.2.length cp] 59))
 have HZ := Lib.hid (heap_alloc_new w2 (.cells #[.string OF.1, .slice ab OF.2.1.length cb, .slice ap OF.2.2.length cp] 59))
 have RF := Lib.hid (rd_mono (C := fun b => B b ∧ b < w.heap.size) (rd_below hrd BA1.out) fun b hb _ => hb.1)
 have RFO := Lib.hid (rd_mono (C := fun b => B b ∧ b < w.heap.size) (rd_below hrd BA1.out) fun b hb _ => hb.1)
 have B3 := Lib.hid (btA B2.out BA1.out)
 have HX3 := Lib.hid ((BA1.out.block _ (lt_of_some0 HX2.out)).trans HX2.out)
 have HY3 := Lib.hid ((BA1.out.block _ (lt_of_some0 HY2.out)).trans HY2.out)
 have HFZ := Lib.hid (lt_of_some0 HY2.out)
 clear hb2 hrd he hsz hb hp x0 x1 x2 RO HX HY HX2 HY2 BX BA1 B2
 generalize OF.2.1.length = nb at *
 generalize OF.2.2.length = np at *
 go_upto_region 2 with fail
 generalize w2.alloc (.cells #[.string OF.1, .slice ab nb cb, .slice ap np cp] 59) = W3 at *
 generalize w2.heap.size = fz at *
 have SF3 := Lib.hid (rd_below SF.out B3.out)
 by_cases h0 : E = 0
 ·subst h0
  obtain ⟨rfl, hmem, hf, hnm, hvv, -⟩ := HOK.out rfl
  have HVV := Lib.hid hvv
  rw [if_pos rfl] at HCE
  have PLN := Lib.hid (fun W (h : Below W3.heap.size W3 W) => plength_any OF.1 (.slice ab nb cb) (.slice ap np cp) OF.2.1 OF.2.2 W (sl_below (rd8_sl (rd_fb RF.out)) h) (rd_mono (rd_below (rd_fp RF.out) h) fun _ _ _ => trivial) hf)
  rw [show (OF.1, OF.2.1, OF.2.2) = OF from rfl] at PLN
  have HLN : Hid (OF.2.2.length ≤ 89990) := Lib.hid (Nat.le_trans (HPL.out _ hmem) hk)
  obtain ⟨old, hold⟩ : ∃ z, z = (contL OF).length := ⟨_, rfl⟩
  rw [← hold] at PLN HCE
  have HOLD := Lib.hid (show old ≤ 1048576 by rw [hold]; exact contL_le OF)
  clear hold HOK HVL hmem hnm
  obtain ⟨y0, y1, y2⟩ := box3c HY3.out
  have u0 := frozen_of_row W3 (w.heap.size + 1) 0 _ _ HY3.out
  have u1 := frozen_of_row W3 (w.heap.size + 1) 1 _ _ HY3.out
  have u2 := frozen_of_row W3 (w.heap.size + 1) 2 _ _ HY3.out
  obtain ⟨k0, k1, k2⟩ := box3c HZ.out
  by_cases hneg : off < 0
  ·have hc := HCE.out
   rw [if_pos (Or.inl hneg)] at hc
   subst hc
   have HDZ : Hid (DD = dk0) := Lib.hid (by rw [HDD.out, if_neg (by decide)])
   have e2 : decide (off < 0) = true := decide_eq_true hneg
   clear PLN HDD HCE
   go_wp2
   refine pdisk_end rfl (set3c HY3.out) rfl ?_
   rw [HDZ.out]
   exact de_zero (below_set3 B3.out (by omega))
  have e2 : decide (off < 0) = false := decide_eq_false hneg
  obtain ⟨o, rfl⟩ := Int.eq_ofNat_of_zero_le (by omega : 0 ≤ off)
  go_wp2_with fail
  refine (PLN.out _ (Below.refl _ _)).mono ?_
  rintro e w5 ⟨rfl, hb5⟩
  have HX5 := Lib.hid ((hb5.block _ (lt_of_some0 HX3.out)).trans HX3.out)
  have HY5 := Lib.hid ((hb5.block _ (lt_of_some0 HY3.out)).trans HY3.out)
  have HZ5 := Lib.hid ((hb5.block _ (lt_of_some0 HZ.out)).trans HZ.out)
  have B5 := Lib.hid (btA B3.out hb5)
  have BD5 := Lib.hid hb5
  clear hb5 y0 y1 y2 u0 u1 u2 k0 k1 k2 PLN
  obtain ⟨x0, x1, x2⟩ := box3c HX5.out
  obtain ⟨y0, y1, y2⟩ := box3c HY5.out
  have u0 := frozen_of_row w5 (w.heap.size + 1) 0 _ _ HY5.out
  have u1 := frozen_of_row w5 (w.heap.size + 1) 1 _ _ HY5.out
  have u2 := frozen_of_row w5 (w.heap.size + 1) 2 _ _ HY5.out
  obtain ⟨k0, k1, k2⟩ := box3c HZ5.out
  by_cases hbig : old < o
  ·have hc := HCE.out
   rw [if_pos (Or.inr (by omega))] at hc
   subst hc
   have HDZ : Hid (DD = dk0) := Lib.hid (by rw [HDD.out, if_neg (by decide)])
   have e3 : decide ((old : Int) < (o : Int)) = true := decide_eq_true (by omega)
   have e4 : decide (old < o) = true := decide_eq_true hbig
   clear HDD HCE
   go_wp2
   refine pdisk_end rfl (set3c HY5.out) rfl ?_
   rw [HDZ.out]
   exact de_zero (below_set3 B5.out (by omega))
  ·have hc := HCE.out
   rw [if_neg (by omega), Int.toNat_natCast] at hc
   have e3 : decide ((old : Int) < (o : Int)) = false := decide_eq_false (by omega)
   have e4 : decide (old < o) = false := decide_eq_false hbig
   have PW2 := Lib.hid (pwrite_any (B := fun b => B b ∧ b < w.heap.size) _ (cap, left, L) OF _ _ _ o b w5 (dvb_keep HHV.out B5.out) (rd_below RF.out BD5.out) (sl_below HSD.out B5.out) HVV.out hf HLN.out (by have := HOLD.out; omega) HBL.out)
   have HDD2 : Hid ((if wEx (cap, left, L) OF o b = 0 then wDx (cap, left, L) OF ((o : Int), b, false) else dk0) = DD) := Lib.hid (by rw [HDD.out, hc])
   rw [HDD2.out, ← hc] at PW2
   clear HDD HDD2 hc HCE
   go_wp2_with fail
   refine PW2.out.mono ?_
   rintro e w7 ⟨⟨v7, rfl, hv7⟩, hb7⟩
   have B7 := Lib.hid (btA B5.out hb7)
   have HY7 := Lib.hid ((hb7.block _ (lt_of_some0 HY5.out)).trans HY5.out)
   obtain ⟨fv7, rfl, hr7, sf7⟩ := hv7
   have HR7 := Lib.hid hr7
   have SF7 := Lib.hid (rd_mono (C := fun b => (B b ∧ b < w.heap.size) ∨ w.heap.size + 2 ≤ b) sf7 fun b hb _ => by
    rcases hb with hb | hb
    ·exact Or.inl hb.1
    ·exact Or.inr (by have h1 := lt_of_some0 HY5.out; omega))
   obtain ⟨a7, c7, rfl, -, -⟩ := rd_sl sf7
   obtain ⟨n7, hn7⟩ : ∃ z, z = DD.2.2.length := ⟨_, rfl⟩
   rw [← hn7] at SF7 ⊢
   clear hr7 sf7 hb7 hn7 PW2 x0 x1 x2 y0 y1 y2 u0 u1 u2 k0 k1 k2 HX5 HY5 HZ5
   obtain ⟨y0, y1, y2⟩ := box3c HY7.out
   have u0 := frozen_of_row w7 (w.heap.size + 1) 0 _ _ HY7.out
   have u1 := frozen_of_row w7 (w.heap.size + 1) 1 _ _ HY7.out
   have u2 := frozen_of_row w7 (w.heap.size + 1) 2 _ _ HY7.out
   go_wp2
   refine pdisk_end rfl (set3c HY7.out) rfl ?_
   exact ⟨⟨_, rfl, _, rfl, HR7.out, rd_move (fun b hb _ => set3_other (by rcases hb with h | h <;> omega)) (fun b hb _ => by rcases hb with h | h; exact Or.inl h; exact Or.inr (by omega)) SF7.out⟩, below_set3 B7.out (by omega)⟩
 ·rw [if_neg h0] at HCE
  have HDZ : Hid (DD = dk0) := Lib.hid (by rw [HDD.out, if_neg (by rw [HCE.out]; exact h0)])
  have e1 : ((E : Int) != 0) = true := by rw [bne_iff_ne]; omega
  clear h0 HDD HOK HVL
  obtain ⟨y0, y1, y2⟩ := box3c HY3.out
  have u0 := frozen_of_row W3 (w.heap.size + 1) 0 _ _ HY3.out
  have u1 := frozen_of_row W3 (w.heap.size + 1) 1 _ _ HY3.out
  have u2 := frozen_of_row W3 (w.heap.size + 1) 2 _ _ HY3.out
  go_wp2
  refine pdisk_end rfl (set3c HY3.out) rfl ?_
  rw [HDZ.out, HCE.out]
  exact de_zero (below_set3 B3.out (by omega))
end Go.Proofs.Ytpipgbjkkiheaaa.Gf
