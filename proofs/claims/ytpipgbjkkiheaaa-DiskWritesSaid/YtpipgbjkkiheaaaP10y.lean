/- What is proved here: the contract of the program's Truncate, with the blocks that the disk lies in. Condition: as of Append. -/
import Derived.Test.YtpipgbjkkiheaaaPB10
-- halved
namespace Go.Proofs.Ytpipgbjkkiheaaa.Gf
open Go Go.Joins Go.ChangeShapes Go.WideShapes Go.ChangeAt Go.RowKit Go.Deep Go.Proofs.Ytpipgbjkkiheaaa.By Go.Proofs.Ytpipgbjkkiheaaa.Qt

set_option maxRecDepth 100000 in
set_option maxHeartbeats 12800000 in
theorem ptruncB_any {B : Nat → Prop} (v : Value) (d : Dk) (s : ByteArray) (off : Int) (hoff : -9223372036854775808 ≤ off ∧ off ≤ 9223372036854775807) (w : World) (hs : s.size ≤ maxLen) (k : Nat) (hv : DvB B w v d) (hsm : SmD d) (hpn : PnD d k) (hk : k ≤ 89990) : Calls Try.prog 40 #[v, .string s, .int .i64 off] w (DE (fun b => B b ∧ b < w.heap.size) w (truncD d s off) (truncE d s off)) := by
 obtain ⟨fv, rfl, hr, sf⟩ := hv
 have sfo : Rd (fun b => B b ∧ b < w.heap.size) w (.sl tyF) [fv] d.2.2 := rd_mono sf fun _ hb h => ⟨hb, h⟩
 have RO := Lib.hid (fun W (h : Below w.heap.size w W) => popen_any (B := fun b => B b ∧ b < w.heap.size) _ d s hs W ⟨fv, rfl, hr, rd_below sfo h⟩ hsm)
 have HOK := Lib.hid (fun h => open_ok (d := d) (s := s) h)
 have HPN := Lib.hid hpn
 have HVL := Lib.hid (fun (h : validB d = true) => And.intro (valid_srt h) (valid_parts h).2.2.1)
 have HCE := Lib.hid (show truncE d s off = if atE d s = 0 then (if off < 0 ∨ ((contL (fileAt d s)).length : Int) < off then 2 else 0) else atE d s from rfl)
 have HDD := Lib.hid (show truncD d s off = if truncE d s off = 0 then wDx d (fileAt d s) (off, [], true) else dk0 from rfl)
 have HOF := Lib.hid hoff
 have HHV : Hid (DvB (fun b => B b ∧ b < w.heap.size) w (.agg #[.int .i64 d.1, .int .i64 d.2.1, fv]) d) := Lib.hid ⟨fv, rfl, hr, sfo⟩
 have SF := Lib.hid sfo
 have HR := Lib.hid hr
 obtain ⟨af, cf, rfl, -, -⟩ := rd_sl sf
 generalize truncD d s off = DD at *
 generalize truncE d s off = CE at *
 generalize openF d s = OF at *
 generalize fileAt d s = FA at *
 generalize atE d s = E at *
 generalize readyE d s = RE at *
 generalize atI d s = IE at *
 obtain ⟨cap, left, L⟩ := d
 dsimp only at RO HOK SF HR HVL HPN HHV ⊢
 have HPL : Hid (∀ f ∈ L, f.2.2.length ≤ k) := Lib.hid HPN.out
 obtain ⟨n, hn⟩ : ∃ z, z = L.length := ⟨_, rfl⟩
 rw [← hn] at SF RO HVL HHV ⊢
 have HN := Lib.hid hn
 have A1 := bel_al0 w (.cells #[.int .i64 cap, .int .i64 left, .slice af n cf] 33)
 have BX := Lib.hid (btA A1 (bel_al0 _ (.cells #[.int .i64 0, .int .i64 0, .slice none 0 0] 33)))
 have HX := Lib.hid (show ((w.alloc (.cells #[.int .i64 cap, .int .i64 left, .slice af n cf] 33)).alloc (.cells #[.int .i64 0, .int .i64 0, .slice none 0 0] 33)).heap[w.heap.size]? = some (.cells #[.int .i64 cap, .int .i64 left, .slice af n cf] 33 (0, 0)) from (al_old (by simp)).trans (heap_alloc_new w _))
 have HY := Lib.hid (heap_alloc2_new w (.cells #[.int .i64 cap, .int .i64 left, .slice af n cf] 33) (.cells #[.int .i64 0, .int .i64 0, .slice none 0 0] 33))
 clear sf sfo hr hsm A1 hpn HPN hn hoff
 go_enter Try.func40, Try.ntmps40
 go_upto_region 1 with fail
 generalize ((w.alloc (.cells #[.int .i64 cap, .int .i64 left, .slice af n cf] 33)).alloc (.cells #[.int .i64 0, .int .i64 0, .slice none 0 0] 33)) = W1 at *
 obtain ⟨x0, x1, x2⟩ := box3c HX.out
 go_wp2_with fail
 refine (RO.out _ BX.out).mono ?_
 rintro e w2 ⟨⟨bv, pv, rfl, hrd⟩, hb2⟩
 have B2 := Lib.hid (btA BX.out hb2)
 have HX2 := Lib.hid ((hb2.block _ (lt_of_some0 HX.out)).trans HX.out)
 have HY2 := Lib.hid ((hb2.block _ (lt_of_some0 HY.out)).trans HY.out)
 obtain ⟨bv', pv', he, hsz, hb, hp⟩ := rd_f hrd
 obtain ⟨rfl, rfl⟩ : bv = bv' ∧ pv = pv' := by simpa using he
 obtain ⟨ab, cb, rfl, -, -⟩ := rd_sl hb
 obtain ⟨ap, cp, rfl, -, -⟩ := rd_sl hp
 have BA1 := Lib.hid (bel_al0 w2 (.cells #[.string OF.1, .slice ab OF.2.1.length cb, .slice ap OF.2.2.length cp] 59))
 have HZ := Lib.hid (heap_alloc_new w2 (.cells #[.string OF.1, .slice ab OF.2.1.length cb, .slice ap OF.2.2.length cp] 59))
 have RF := Lib.hid (rd_mono (C := fun b => B b ∧ b < w.heap.size) (rd_below hrd BA1.out) fun b hb _ => hb.1)
 have RFO := Lib.hid (rd_mono (C := fun b => B b ∧ b < w.heap.size) (rd_below hrd BA1.out) fun b hb _ => hb.1)
 have B3 := Lib.hid (btA B2.out BA1.out)
 have HX3 := Lib.hid ((BA1.out.block _ (lt_of_some0 HX2.out)).trans HX2.out)
 have HY3 := Lib.hid ((BA1.out.block _ (lt_of_some0 HY2.out)).trans HY2.out)
 have HFZ := Lib.hid (lt_of_some0 HY2.out)
 clear hb2 hrd he hsz hb hp x0 x1 x2 RO HX HY HX2 HY2 BX BA1 B2
 generalize OF.2.1.length = nb at *
 generalize OF.2.2.length = np at *
 go_upto_region 2 with fail
 generalize w2.alloc (.cells #[.string OF.1, .slice ab nb cb, .slice ap np cp] 59) = W3 at *
 generalize w2.heap.size = fz at *
 have SF3 := Lib.hid (rd_below SF.out B3.out)
 by_cases h0 : E = 0
 ·subst h0
  obtain ⟨rfl, hmem, hf, hnm, hvv, -⟩ := HOK.out rfl
  have HVV := Lib.hid hvv
  rw [if_pos rfl] at HCE
  have PLN := Lib.hid (fun W (h : Below W3.heap.size W3 W) => plength_any OF.1 (.slice ab nb cb) (.slice ap np cp) OF.2.1 OF.2.2 W (sl_below (rd8_sl (rd_fb RF.out)) h) (rd_mono (rd_below (rd_fp RF.out) h) fun _ _ _ => trivial) hf)
  rw [show (OF.1, OF.2.1, OF.2.2) = OF from rfl] at PLN
  have HLN : Hid (OF.2.2.length ≤ 89990) := Lib.hid (Nat.le_trans (HPL.out _ hmem) hk)
  obtain ⟨old, hold⟩ : ∃ z, z = (contL OF).length := ⟨_, rfl⟩
  rw [← hold] at PLN HCE
  have HOLD := Lib.hid (show old ≤ 1048576 by rw [hold]; exact contL_le OF)
  have HSRT := Lib.hid (HVL.out hvv)
  clear hold HOK HVL hmem hnm
  obtain ⟨y0, y1, y2⟩ := box3c HY3.out
  have u0 := frozen_of_row W3 (w.heap.size + 1) 0 _ _ HY3.out
  have u1 := frozen_of_row W3 (w.heap.size + 1) 1 _ _ HY3.out
  have u2 := frozen_of_row W3 (w.heap.size + 1) 2 _ _ HY3.out
  obtain ⟨k0, k1, k2⟩ := box3c HZ.out
  by_cases hneg : off < 0
  ·have hc := HCE.out
   rw [if_pos (Or.inl hneg)] at hc
   subst hc
   have HDZ : Hid (DD = dk0) := Lib.hid (by rw [HDD.out, if_neg (by decide)])
   have e2 : decide (off < 0) = true := decide_eq_true hneg
   clear PLN HDD HCE
   go_wp2
   refine pdisk_end rfl (set3c HY3.out) rfl ?_
   rw [HDZ.out]
   exact de_zero (below_set3 B3.out (by omega))
  have e2 : decide (off < 0) = false := decide_eq_false hneg
  obtain ⟨o, rfl⟩ := Int.eq_ofNat_of_zero_le (by omega : 0 ≤ off)
  go_wp2_with fail
  refine (PLN.out _ (Below.refl _ _)).mono ?_
  rintro e w5 ⟨rfl, hb5⟩
  have HX5 := Lib.hid ((hb5.block _ (lt_of_some0 HX3.out)).trans HX3.out)
  have HY5 := Lib.hid ((hb5.block _ (lt_of_some0 HY3.out)).trans HY3.out)
  have HZ5 := Lib.hid ((hb5.block _ (lt_of_some0 HZ.out)).trans HZ.out)
  have B5 := Lib.hid (btA B3.out hb5)
  have BD5 := Lib.hid hb5
  clear hb5 y0 y1 y2 u0 u1 u2 k0 k1 k2 PLN
  obtain ⟨x0, x1, x2⟩ := box3c HX5.out
  obtain ⟨y0, y1, y2⟩ := box3c HY5.out
  have u0 := frozen_of_row w5 (w.heap.size + 1) 0 _ _ HY5.out
  have u1 := frozen_of_row w5 (w.heap.size + 1) 1 _ _ HY5.out
  have u2 := frozen_of_row w5 (w.heap.size + 1) 2 _ _ HY5.out
  obtain ⟨k0, k1, k2⟩ := box3c HZ5.out
  by_cases hbig : old < o
  ·have hc := HCE.out
   rw [if_pos (Or.inr (by omega))] at hc
   subst hc
   have HDZ : Hid (DD = dk0) := Lib.hid (by rw [HDD.out, if_neg (by decide)])
   have e3 : decide ((old : Int) < (o : Int)) = true := decide_eq_true (by omega)
   have e4 : decide (old < o) = true := decide_eq_true hbig
   clear HDD HCE
   go_wp2
   refine pdisk_end rfl (set3c HY5.out) rfl ?_
   rw [HDZ.out]
   exact de_zero (below_set3 B5.out (by omega))
  ·have hc := HCE.out
   rw [if_neg (by omega)] at hc
   subst hc
   have e3 : decide ((old : Int) < (o : Int)) = false := decide_eq_false (by omega)
   have e4 : decide (old < o) = false := decide_eq_false hbig
   have HWD : Hid (DD = (cap, leftN left, putG nmF L (OF.1, OF.2.1, OF.2.2 ++ [((o : Int), [], true)]))) := Lib.hid (by rw [HDD.out, if_pos rfl]; rfl)
   have HON := Lib.hid (show o ≤ 1048576 by have := HOLD.out; omega)
   clear HDD HCE
   go_upto_region 6 with fail
   clear x0 x1 x2 y0 y1 y2 u0 u1 u2 k0 k1 k2
   have SF6 := Lib.hid (rd_mono (C := fun b => (B b ∧ b < w.heap.size) ∨ w.heap.size + 2 ≤ b) (rd_below SF.out B5.out) fun b hb _ => Or.inl hb)
   have SX6 := Lib.hid (rd_mono (C := fun b => (B b ∧ b < w.heap.size) ∨ w.heap.size + 2 ≤ b) (rd_below RF.out BD5.out) fun b hb _ => Or.inl hb)
   have S0 : SBx w [(w.heap.size, (Obj.cells #[.int .i64 cap, .int .i64 left, .slice af n cf] 33 (0, 0))), (fz, (Obj.cells #[.string OF.1, .slice ab nb cb, .slice ap np cp] 59 (0, 0)))] w5.drew := ⟨B5.out.drew, fun p hp => by
    rcases List.mem_cons.1 hp with rfl | hp
    ·exact HX5.out
    ·rw [List.mem_singleton.1 hp]; exact HZ5.out⟩
   refine wp_onlyN ?_
   refine wp_region_headsS (SBx w [(w.heap.size, (Obj.cells #[.int .i64 cap, .int .i64 left, .slice af n cf] 33 (0, 0))), (fz, (Obj.cells #[.string OF.1, .slice ab nb cb, .slice ap np cp] 59 (0, 0)))]) [0, 1, 2, 3, 4, 5] 5 (by kernel_rfl) (fun _ _ _ _ _ h => h.elim) (by kernel_rfl) (by rfl) (by rfl) S0 ?_
   simp only [pickOps, List.filterMap_cons, List.filterMap_nil, List.getElem?_toArray, List.getElem?_cons_zero, List.getElem?_cons_succ]
   refine wpHeads_step (fun K hK => ?_)
   go_simp
   refine ⟨.agg #[.int .i64 cap, .int .i64 left, .slice af n cf], fun w' hw' => by
    obtain ⟨q0, q1, q2⟩ := box3c (hw'.box _ (List.mem_cons_self ..))
    simp [q0, q1, q2], hK _ ?_⟩
   clear hK K
   refine wpHeads_step (fun K hK => ?_)
   go_simp
   first | refine hK _ ?_ | refine ⟨_, fun _ _ => rfl, hK _ ?_⟩
   clear hK K
   refine wpHeads_step (fun K hK => ?_)
   go_simp
   refine ⟨.slice af n cf, fun w' hw' => by
    obtain ⟨q0, q1, q2⟩ := box3c (hw'.box _ (List.mem_cons_self ..))
    simp [q2], hK _ ?_⟩
   clear hK K
   refine wpHeads_step (fun K hK => ?_)
   go_simp
   refine ⟨.agg #[.string OF.1, .slice ab nb cb, .slice ap np cp], fun w' hw' => by
    obtain ⟨q0, q1, q2⟩ := box3c (hw'.box _ (List.mem_cons_of_mem _ (List.mem_cons_self ..)))
    simp [q0, q1, q2], hK _ ?_⟩
   clear hK K
   refine wpHeads_step (fun K hK => ?_)
   go_simp
   first | refine hK _ ?_ | refine ⟨_, fun _ _ => rfl, hK _ ?_⟩
   clear hK K
   refine wpHeads_step (fun K hK => ?_)
   go_simp
   first | refine hK _ ?_ | refine ⟨.agg #[.int .i64 (o : Int), .slice none 0 0, .bool true], fun w' _ => (by first | rfl | go_simp), hK _ ?_⟩
   clear hK K
   refine wpHeads_nil ?_
   have SD := Lib.hid S0
   have HYD : Hid (w5.drew.heap[w.heap.size + 1]? = some (.cells #[.int .i64 0, .int .i64 0, .slice none 0 0] 33 (0, 0))) := Lib.hid HY5.out
   have BD := Lib.hid (show Below w5.heap.size w5 w5.drew from (Below.refl _ _).drew)
   have SZ6 := Lib.hid (lt_of_some0 HY5.out)
   generalize w5.drew = WD at *
   have SZD : Hid (w.heap.size + 2 ≤ WD.heap.size) := Lib.hid (by have h1 := SZ6.out; have h2 := BD.out.size; omega)
   clear S0 HX5 HZ5 HY5
   refine held_one 6 rfl rfl (by kernel_rfl) fun K hK => ?_
   go_simp
   go_at_call 68
   refine (pwith_any (B := fun b => (B b ∧ b < w.heap.size) ∨ w.heap.size + 2 ≤ b) OF ((o : Int), [], true) _ _ _ _ (rd_below SX6.out BD.out) ⟨[_], [.slice none 0 0, .bool true], rfl, ⟨⟨by show IntKind.i64.min ≤ (o : Int); have : IntKind.i64.min = -9223372036854775808 := rfl; omega, by have h := HON.out; have : IntKind.i64.max = 9223372036854775807 := rfl; show (o : Int) ≤ IntKind.i64.max; omega⟩, rfl⟩, [.slice none 0 0], [.bool true], rfl, rd_nil _ _ _, rfl⟩ (Nat.le_trans HLN.out (by decide))).mono ?_
   rintro e w7 ⟨⟨bv7, pv7, rfl, hr7⟩, hb7⟩
   refine hK _ _ (SD.out.below hb7) ?_
   clear hK K
   have S7 := Lib.hid (SD.out.below hb7)
   have HY7 := Lib.hid ((hb7.block _ (lt_of_some0 HYD.out)).trans HYD.out)
   have RF7 := Lib.hid (rd_mono (C := fun b => (B b ∧ b < w.heap.size) ∨ w.heap.size + 2 ≤ b) hr7 fun b hb _ => hb.elim (fun h => h.1) fun h => Or.inr (by have h1 := SZD.out; omega))
   have SF7 := Lib.hid (rd_below (rd_below SF6.out BD.out) hb7)
   have SZ7 : Hid (w.heap.size + 2 ≤ w7.heap.size) := Lib.hid (by have h1 := SZD.out; have h2 := hb7.size; omega)
   dsimp only at RF7
   obtain ⟨bvx, pvx, hex, -, hbx, hpx⟩ := rd_f hr7
   obtain ⟨rfl, rfl⟩ : bv7 = bvx ∧ pv7 = pvx := by simpa using hex
   obtain ⟨ab7, cb7, rfl, -, -⟩ := rd_sl hbx
   obtain ⟨ap7, cp7, rfl, -, -⟩ := rd_sl hpx
   dsimp only at RF7 ⊢
   generalize (OF.2.2 ++ [((o : Int), [], true)]) = NP at *
   generalize OF.2.1.length = nb7 at *
   generalize NP.length = np7 at *
   clear hr7 hex hbx hpx hb7 SD HYD SX6 SF6
   refine held_one 7 rfl rfl (by kernel_rfl) fun K hK => ?_
   go_simp
   go_at_call 67
   refine (pput_any (B := fun b => (B b ∧ b < w.heap.size) ∨ w.heap.size + 2 ≤ b) _ L (OF.1, OF.2.1, NP) _ _ _ SF7.out RF7.out HSRT.out.1 (by have h1 := HSRT.out.2; have h2 := HN.out; omega)).mono ?_
   rintro e w8 ⟨⟨v8, rfl, hr8⟩, hb8⟩
   refine hK _ _ (S7.out.below hb8) ?_
   clear hK K
   have S8 := Lib.hid (S7.out.below hb8)
   have HY8 := Lib.hid ((hb8.block _ (lt_of_some0 HY7.out)).trans HY7.out)
   have R8 := Lib.hid (rd_mono (C := fun b => (B b ∧ b < w.heap.size) ∨ w.heap.size + 2 ≤ b) hr8 fun b hb _ => hb.elim (fun h => h.1) fun h => Or.inr (by have h1 := SZ7.out; omega))
   have SZ8 : Hid (w.heap.size + 2 ≤ w8.heap.size) := Lib.hid (by have h1 := SZ7.out; have h2 := hb8.size; omega)
   obtain ⟨a8, c8, rfl, -, -⟩ := rd_sl hr8
   obtain ⟨n8, hn8⟩ : ∃ z, z = (putG nmF L (OF.1, OF.2.1, NP)).length := ⟨_, rfl⟩
   rw [← hn8] at R8 ⊢
   clear hr8 hn8 hb8 S7 HY7 SF7 RF7
   refine held_one 8 rfl rfl (by kernel_rfl) fun K hK => ?_
   go_simp
   go_at_call 66
   refine (pnext_any (B := fun b => (B b ∧ b < w.heap.size) ∨ w.heap.size + 2 ≤ b) (.agg #[.int .i64 cap, .int .i64 left, .slice af n cf]) _ (cap, left, L) (putG nmF L (OF.1, OF.2.1, NP)) _ ⟨_, rfl, _, _, _, rfl⟩ HR.out R8.out).mono ?_
   rintro e w9 ⟨⟨v9, rfl, hv9⟩, hb9⟩
   refine hK _ _ (S8.out.below hb9) ?_
   clear hK K
   have S9 := Lib.hid (S8.out.below hb9)
   have HY9 := Lib.hid ((hb9.block _ (lt_of_some0 HY8.out)).trans HY8.out)
   obtain ⟨fv9, rfl, hr9, sf9⟩ := hv9
   have HR9 := Lib.hid hr9
   have SF9 := Lib.hid (rd_mono (C := fun b => (B b ∧ b < w.heap.size) ∨ w.heap.size + 2 ≤ b) sf9 fun b hb _ => hb.elim (fun h => h.1) fun h => Or.inr (by have h1 := SZ8.out; omega))
   obtain ⟨a9, c9, rfl, -, -⟩ := rd_sl sf9
   dsimp only at HR9 SF9 ⊢
   generalize (putG nmF L (OF.1, OF.2.1, NP)).length = n9 at *
   clear hr9 sf9 hb9 S8 HY8 R8
   obtain ⟨y0, y1, y2⟩ := box3c HY9.out
   have u0 := frozen_of_row w9 (w.heap.size + 1) 0 _ _ HY9.out
   have u1 := frozen_of_row w9 (w.heap.size + 1) 1 _ _ HY9.out
   have u2 := frozen_of_row w9 (w.heap.size + 1) 2 _ _ HY9.out
   have HNE : ∀ p ∈ [(w.heap.size, (Obj.cells #[.int .i64 cap, .int .i64 left, .slice af n cf] 33 (0, 0))), (fz, (Obj.cells #[.string OF.1, .slice ab nb cb, .slice ap np cp] 59 (0, 0)))], p.1 ≠ w.heap.size + 1 := fun p hp => by
    rcases List.mem_cons.1 hp with rfl | hp
    ·show w.heap.size ≠ w.heap.size + 1; omega
    ·rw [List.mem_singleton.1 hp]; show fz ≠ w.heap.size + 1; have := HFZ.out; omega
   refine held_one 9 rfl rfl (by kernel_rfl) fun K hK => ?_
   go_simp
   refine hK _ _ (S9.out.set3 (by omega) HNE) ?_
   clear hK K
   refine held_one 10 rfl rfl (by kernel_rfl) fun K hK => ?_
   go_simp
   refine hK _ _ (S9.out.set3 (by omega) HNE) ?_
   clear hK K HNE
   refine wpAnyH_done (by kernel_rfl) ?_ _
   unfold onlyN
   dsimp only
   clear y0 y1 y2 u0 u1 u2
   go_wp2
   refine pdisk_end rfl (set3c HY9.out) rfl ?_
   rw [HWD.out]
   exact ⟨⟨_, rfl, _, rfl, HR9.out, rd_move (fun b hb _ => set3_other (by rcases hb with h | h <;> omega)) (fun b hb _ => hb.elim Or.inl fun h => Or.inr (by omega)) SF9.out⟩, below_set3 S9.out.bel (by omega)⟩
 ·rw [if_neg h0] at HCE
  have HDZ : Hid (DD = dk0) := Lib.hid (by rw [HDD.out, if_neg (by rw [HCE.out]; exact h0)])
  have e1 : ((E : Int) != 0) = true := by rw [bne_iff_ne]; omega
  clear h0 HDD HOK HVL
  obtain ⟨y0, y1, y2⟩ := box3c HY3.out
  have u0 := frozen_of_row W3 (w.heap.size + 1) 0 _ _ HY3.out
  have u1 := frozen_of_row W3 (w.heap.size + 1) 1 _ _ HY3.out
  have u2 := frozen_of_row W3 (w.heap.size + 1) 2 _ _ HY3.out
  go_wp2
  refine pdisk_end rfl (set3c HY3.out) rfl ?_
  rw [HDZ.out, HCE.out]
  exact de_zero (below_set3 B3.out (by omega))
end Go.Proofs.Ytpipgbjkkiheaaa.Gf
