/- What is proved here: the law DiskDurable answers true. No condition. -/
import Derived.Test.YtecneepgmpoepaaD10
-- halved
namespace Go.Proofs.Ytecneepgmpoepaa.Gf
open Go Go.Joins Go.ChangeShapes Go.WideShapes Go.ChangeAt Go.RowKit Go.Deep Go.Proofs.Ytecneepgmpoepaa.By Go.Proofs.Ytecneepgmpoepaa.Qt

theorem dv_BH {w : World} {v : Value} {d : Dk} (h : Dv w v d) : DvB (fun _ => True) w v d := h
theorem keep_cut {w : World} {a : Option Addr} {c : Nat} {l : List Kep} (h : Rd (fun _ => True) w (.sl tyK) [.slice a l.length c] l) (m : Nat) (hm : m ≤ l.length) : Rd (fun _ => True) w (.sl tyK) [.slice a m c] (l.take m) := rd_take h hm
theorem name_at {w : World} {a : Option Addr} {n c : Nat} {l : List ByteArray} (h : Rd (fun _ => True) w (.sl .s) [.slice a n c] l) {j : Nat} {x : ByteArray} (hx : l[j]? = some x) : ∃ b o, a = some ⟨b, o, none⟩ ∧ w.cell? ⟨b, o + j, none⟩ = some (.string x) := by
 have hj := (List.getElem?_eq_some_iff.1 hx).1
 obtain ⟨b2, o2, c2, hv2, -, -, -, hc2⟩ := rd_cells h (by omega)
 obtain ⟨rfl, -⟩ : a = some ⟨b2, o2, none⟩ ∧ (n = l.length ∧ c = c2) := by simpa using hv2
 obtain ⟨cs2, hrd2, hk2⟩ := hc2 j x hx
 obtain ⟨-, rfl⟩ : x.size ≤ maxLen ∧ cs2 = [.string x] := hrd2
 have k0 := hk2 0 (by decide)
 rw [show o2 + (j * Ty.s.n + 0) = o2 + j by show o2 + (j * 1 + 0) = _; omega] at k0
 exact ⟨b2, o2, rfl, k0⟩
set_option maxRecDepth 100000 in
set_option maxHeartbeats 25600000 in
theorem durable_any (vl : Value) (L : List Opn) (s : ByteArray) (kv : Value) (K : List Kep) (w : World) (sl : Rd (fun _ => True) w (.sl tyOp) [vl] L) (hs : s.size ≤ maxLen) (sk : Rd (fun _ => True) w (.sl tyK) [kv] K) : Calls Try.prog 8 #[vl, .string s, kv] w fun e w' => e = .returned (.bool true) ∧ Below w.heap.size w w' := by
 have HS := Lib.hid hs
 have SLL := Lib.hid sl
 obtain ⟨al, cl, rfl, -, -⟩ := rd_sl sl
 obtain ⟨ak, ck, rfl, hck, -⟩ := rd_sl sk
 have SKK := Lib.hid (fun m hm => keep_cut sk m hm)
 obtain ⟨nl, hnl⟩ : ∃ z, z = L.length := ⟨_, rfl⟩
 rw [← hnl] at SLL ⊢
 obtain ⟨nk, hnk⟩ : ∃ z, z = K.length := ⟨_, rfl⟩
 rw [← hnk] at SKK hck ⊢
 have HNK := Lib.hid hnk
 clear sl sk hnl hnk hs
 go_enter Try.func8, Try.ntmps8
 by_cases h10 : 10 < nk
 ·have e1 : decide ((10 : Int) < (nk : Int)) = true := decide_eq_true (by omega)
  have e2 : decide (10 < nk) = true := decide_eq_true h10
  have e3 : 10 ≤ ck := by omega
  have e4 : (10 : Int) ≤ (ck : Int) := by omega
  have SK := Lib.hid (SKK.out 10 (by omega))
  have HKL := Lib.hid (show (K.take 10).length ≤ 19 by rw [List.length_take]; omega)
  generalize K.take 10 = KE at *
  clear h10 hck SKK
  go_upto_region 3 with fail
  clear e1 e2 e3 e4
  go_wp2_with fail
  refine (made10_any 0 (-1) (.slice al nl cl) L w (by decide) (by decide) SLL.out).mono ?_
  rintro e w1 ⟨⟨v1, d, rfl, hm, hv⟩, hb1⟩
  have GV := Lib.hid (given10_any v1 d w1 (dv_BH hv) (Nat.le_trans (valid_parts hm.val).2.2.1 (by decide)) (fun f hf => Nat.le_trans (hm.pn f hf) (by decide)))
  have MD := Lib.hid hm
  have B1 := Lib.hid hb1
  obtain ⟨a1, c1, rfl, -⟩ := dv_form (dv_BH hv)
  obtain ⟨n1, hn1⟩ : ∃ z, z = d.2.2.length := ⟨_, rfl⟩
  rw [← hn1] at GV ⊢
  clear hm hv hb1 hn1
  go_wp2_with fail
  refine GV.out.mono ?_
  rintro e w2 ⟨⟨v2, rfl, hv2⟩, hb2⟩
  have V2 := Lib.hid (dvB_dv hv2)
  obtain ⟨a2, c2, rfl, -⟩ := dv_form hv2
  obtain ⟨n2, hn2⟩ : ∃ z, z = d.2.2.length := ⟨_, rfl⟩
  rw [← hn2] at V2 ⊢
  have B2 := Lib.hid (btA B1.out hb2)
  clear hv2 hb2 hn2 B1 GV
  go_upto_region 4 with fail
  have q3 := bel_al0 w2 (.cells #[.int .i64 d.1, .int .i64 d.2.1, .slice a2 n2 c2] 33)
  have HX3 := Lib.hid (heap_alloc_new w2 (.cells #[.int .i64 d.1, .int .i64 d.2.1, .slice a2 n2 c2] 33))
  have V3 := Lib.hid (dv_below V2.out q3)
  have B3 := Lib.hid (btA B2.out q3)
  clear q3 V2 B2
  generalize w2.alloc (.cells #[.int .i64 d.1, .int .i64 d.2.1, .slice a2 n2 c2] 33) = w3 at *
  generalize w2.heap.size = gd at *
  have SY := Lib.hid (psync_any _ d s HS.out 14 w3 V3.out (valid_sm MD.out.val) MD.out.pn (by decide))
  have DU := Lib.hid (fun h => dur MD.out (s := s) h KE)
  obtain ⟨E, hE⟩ : ∃ z, z = atE d s := ⟨_, rfl⟩
  rw [← hE] at SY DU
  obtain ⟨X, hX⟩ : ∃ z, z = syncD d s := ⟨_, rfl⟩
  rw [← hX] at SY DU
  clear hE hX MD V3
  obtain ⟨x0, x1, x2⟩ := box3c HX3.out
  go_wp2_with fail
  clear x0 x1 x2
  refine SY.out.mono ?_
  rintro e w3b ⟨⟨v3, rfl, hv3⟩, hb3⟩
  have V4 := Lib.hid (dvB_dv hv3)
  obtain ⟨ax, cx, rfl, -⟩ := dv_form hv3
  obtain ⟨nx, hnx⟩ : ∃ z, z = X.2.2.length := ⟨_, rfl⟩
  rw [← hnx] at V4 ⊢
  have B3b := Lib.hid (btA B3.out hb3)
  clear hv3 hb3 hnx SY HX3 B3
  go_upto_region 5 with fail
  have q4 := bel_al0 w3b (.cells #[.int .i64 X.1, .int .i64 X.2.1, .slice ax nx cx] 33)
  have HX4 := Lib.hid (heap_alloc_new w3b (.cells #[.int .i64 X.1, .int .i64 X.2.1, .slice ax nx cx] 33))
  have VX4 := Lib.hid (dv_below V4.out q4)
  have B4 := Lib.hid (btA B3b.out q4)
  clear q4 V4 B3b
  generalize w3b.alloc (.cells #[.int .i64 X.1, .int .i64 X.2.1, .slice ax nx cx] 33) = w4 at *
  generalize w3b.heap.size = gx at *
  by_cases hE : E = 0
  case neg =>
   have e1 : ((E : Int) != 0) = true := by rw [bne_iff_ne]; omega
   clear hE DU
   go_wp2_with fail
   refine (awake10_any _).mono ?_
   rintro e wz ⟨rfl, hbz⟩
   have BZ := Lib.hid (btA B4.out hbz)
   clear hbz
   go_wp2
   go_ret
   exact ⟨rfl, BZ.out⟩
  have e1 : ((E : Int) != 0) = false := by rw [bne_eq_false_iff_eq]; omega
  obtain ⟨b, hbl, hmx, hmy, hzx, hzy, hny⟩ := DU.out hE
  have HBL := Lib.hid hbl
  have MX := Lib.hid hmx
  have MY := Lib.hid hmy
  have ZX := Lib.hid hzx
  have ZY := Lib.hid hzy
  have NY := Lib.hid hny
  clear hE DU hbl hmx hmy hzx hzy hny
  have CR := Lib.hid (fun W kv (h : Below w4.heap.size w4 W) (hk : Rd (fun _ => True) W (.sl tyK) [kv] KE) => pcrash_any _ kv X KE W (dv_below VX4.out h) (valid_sm MX.out.val) (fun f hf => Nat.le_trans (MX.out.pn f hf) (by decide)) hk HKL.out)
  obtain ⟨Y, hY⟩ : ∃ z, z = crashD X KE := ⟨_, rfl⟩
  rw [← hY] at CR MY ZY NY
  clear hY
  go_upto_region 7 with fail
  clear e1
  go_cut [10] from 39 to 42 (fun tx wx => ∃ (gy : Nat) (a9 : Option Addr) (n9 c9 : Nat), tx = .pointer (some ⟨gy, 0, none⟩) ∧ Hid (n9 = Y.2.2.length) ∧ Hid (wx.heap[gy]? = some (.cells #[.int .i64 Y.1, .int .i64 Y.2.1, .slice a9 n9 c9] 33 (0, 0))) ∧ Hid (w4.heap.size ≤ gy) ∧ Hid (Dv wx (.agg #[.int .i64 Y.1, .int .i64 Y.2.1, .slice a9 n9 c9]) Y) ∧ Hid (Below w4.heap.size w4 wx))
  case first =>
   have S0 : SBx w4 [(gx, (.cells #[.int .i64 X.1, .int .i64 X.2.1, .slice ax nx cx] 33 (0, 0)))] w4.drew := ⟨(Below.refl _ _).drew, fun p hp => by rw [List.mem_singleton.1 hp]; exact HX4.out⟩
   refine wp_onlyN ?_
   refine wp_region_headsS (SBx w4 [(gx, (.cells #[.int .i64 X.1, .int .i64 X.2.1, .slice ax nx cx] 33 (0, 0)))]) [0, 1] 4 (by kernel_rfl) (fun _ _ _ _ _ h => h.elim) (by kernel_rfl) (by rfl) (by rfl) S0 ?_
   simp only [pickOps, List.filterMap_cons, List.filterMap_nil, List.getElem?_toArray, List.getElem?_cons_zero, List.getElem?_cons_succ]
   refine wpHeads_step (fun K hK => ?_)
   go_simp
   refine ⟨.agg #[.int .i64 X.1, .int .i64 X.2.1, .slice ax nx cx], fun w' hw' => by
    obtain ⟨q0, q1, q2⟩ := box3c (hw'.box _ (List.mem_cons_self ..))
    simp [q0, q1, q2], hK _ ?_⟩
   clear hK K
   refine wpHeads_step (fun K hK => ?_)
   go_simp
   refine ⟨_, fun _ _ => rfl, hK _ ?_⟩
   clear hK K
   refine wpHeads_nil ?_
   have SD := Lib.hid S0
   generalize w4.drew = WD at *
   clear S0
   refine held_two10 2 4 rfl rfl rfl rfl (by kernel_rfl) (fun K hK => ?_) (fun K hK => ?_)
   ·go_simp
    go_at_call 43
    refine (keeps10_any _ KE WD (rd_below (rd_below SK.out B4.out) SD.out.bel) (by have := HKL.out; omega)).mono ?_
    rintro e w20 ⟨⟨vk, rfl, hvk⟩, hb20⟩
    refine hK _ _ (SD.out.below hb20) ?_
    clear hK K
    have S20 := Lib.hid (SD.out.below hb20)
    have VK20 := Lib.hid hvk
    clear hb20 hvk SD
    refine held_two10 3 4 rfl rfl rfl rfl (by kernel_rfl) (fun K hK => ?_) (fun K hK => ?_)
    ·go_simp
     go_at_call 42
     refine (CR.out _ _ S20.out.bel VK20.out).mono ?_
     rintro e w21 ⟨⟨v5, rfl, hv5⟩, hb21⟩
     refine hK _ _ (S20.out.below hb21) ?_
     clear hK K
     have S21 := Lib.hid (S20.out.below hb21)
     obtain ⟨a9, c9, rfl, r9⟩ := dv_form hv5
     obtain ⟨-, -, hr9, -⟩ := hv5
     have HR9 := Lib.hid hr9
     obtain ⟨n9, hn9⟩ : ∃ z, z = Y.2.2.length := ⟨_, rfl⟩
     rw [← hn9] at r9 ⊢
     have R21 := Lib.hid r9
     have HN9 := Lib.hid hn9
     clear hb21 S20 VK20 r9 hr9 hn9
     refine held_one 4 rfl rfl (by kernel_rfl) fun K hK => ?_
     go_simp
     have hb22 := bel_al0 w21 (.cells #[.int .i64 0, .int .i64 0, .slice none 0 0] 33)
     refine hK _ _ (S21.out.below hb22) ?_
     clear hK K
     have S22 := Lib.hid (S21.out.below hb22)
     have HGX22 := Lib.hid (heap_alloc_new w21 (.cells #[.int .i64 0, .int .i64 0, .slice none 0 0] 33))
     have GNE := Lib.hid (show w21.heap.size ≠ gx from by have h := lt_of_some0 (S21.out.box _ (List.mem_cons_self ..)); change gx < _ at h; omega)
     have GGE := Lib.hid (show w4.heap.size ≤ w21.heap.size from S21.out.bel.size)
     have R22 := Lib.hid (rd_below R21.out hb22)
     clear hb22 S21 R21
     generalize w21.alloc (.cells #[.int .i64 0, .int .i64 0, .slice none 0 0] 33) = w22 at *
     generalize w21.heap.size = gy at *
     obtain ⟨z0, z1, z2⟩ := box3c HGX22.out
     have f0 := frozen_of_row _ gy 0 _ _ HGX22.out
     have f1 := frozen_of_row _ gy 1 _ _ HGX22.out
     have f2 := frozen_of_row _ gy 2 _ _ HGX22.out
     refine held_one 5 rfl rfl (by kernel_rfl) fun K hK => ?_
     go_simp
     refine hK _ _ (S22.out.set3 (by have := GGE.out; omega) (fun p hp => by rw [List.mem_singleton.1 hp]; exact GNE.out.symm)) ?_
     clear hK K
     refine wpAnyH_done (by kernel_rfl) ?_ _
     unfold onlyN
     dsimp only
     clear z0 z1 z2 f0 f1 f2
     go_wp2_with fail
     go_meet
     exact ⟨gy, a9, n9, c9, rfl, HN9, Lib.hid (set3c HGX22.out), GGE, Lib.hid (dv_boxset HGX22.out ⟨_, rfl, HR9.out, R22.out⟩), Lib.hid (below_set3 S22.out.bel GGE.out)⟩
    ·go_simp
     have hb21 := bel_al0 w20 (.cells #[.int .i64 0, .int .i64 0, .slice none 0 0] 33)
     refine hK _ _ (S20.out.below hb21) ?_
     clear hK K
     have S21 := Lib.hid (S20.out.below hb21)
     have HGX21 := Lib.hid (heap_alloc_new w20 (.cells #[.int .i64 0, .int .i64 0, .slice none 0 0] 33))
     have GNE := Lib.hid (show w20.heap.size ≠ gx from by have h := lt_of_some0 (S20.out.box _ (List.mem_cons_self ..)); change gx < _ at h; omega)
     have GGE := Lib.hid (show w4.heap.size ≤ w20.heap.size from S20.out.bel.size)
     have VK21 := Lib.hid (rd_below VK20.out hb21)
     clear hb21 S20 VK20
     generalize w20.alloc (.cells #[.int .i64 0, .int .i64 0, .slice none 0 0] 33) = w21 at *
     generalize w20.heap.size = gy at *
     refine held_one 3 rfl rfl (by kernel_rfl) fun K hK => ?_
     go_simp
     go_at_call 42
     refine (CR.out _ _ S21.out.bel VK21.out).mono ?_
     rintro e w22 ⟨⟨v5, rfl, hv5⟩, hb22⟩
     refine hK _ _ (S21.out.below hb22) ?_
     clear hK K
     have S22 := Lib.hid (S21.out.below hb22)
     have HGX22 := Lib.hid ((hb22.block _ (lt_of_some0 HGX21.out)).trans HGX21.out)
     obtain ⟨a9, c9, rfl, r9⟩ := dv_form hv5
     obtain ⟨-, -, hr9, -⟩ := hv5
     have HR9 := Lib.hid hr9
     obtain ⟨n9, hn9⟩ : ∃ z, z = Y.2.2.length := ⟨_, rfl⟩
     rw [← hn9] at r9 ⊢
     have R22 := Lib.hid r9
     have HN9 := Lib.hid hn9
     clear hb22 S21 VK21 r9 hr9 hn9 HGX21
     obtain ⟨z0, z1, z2⟩ := box3c HGX22.out
     have f0 := frozen_of_row _ gy 0 _ _ HGX22.out
     have f1 := frozen_of_row _ gy 1 _ _ HGX22.out
     have f2 := frozen_of_row _ gy 2 _ _ HGX22.out
     refine held_one 5 rfl rfl (by kernel_rfl) fun K hK => ?_
     go_simp
     refine hK _ _ (S22.out.set3 (by have := GGE.out; omega) (fun p hp => by rw [List.mem_singleton.1 hp]; exact GNE.out.symm)) ?_
     clear hK K
     refine wpAnyH_done (by kernel_rfl) ?_ _
     unfold onlyN
     dsimp only
     clear z0 z1 z2 f0 f1 f2
     go_wp2_with fail
     go_meet
     exact ⟨gy, a9, n9, c9, rfl, HN9, Lib.hid (set3c HGX22.out), GGE, Lib.hid (dv_boxset HGX22.out ⟨_, rfl, HR9.out, R22.out⟩), Lib.hid (below_set3 S22.out.bel GGE.out)⟩
   ·go_simp
    have hb20 := bel_al0 WD (.cells #[.int .i64 0, .int .i64 0, .slice none 0 0] 33)
    refine hK _ _ (SD.out.below hb20) ?_
    clear hK K
    have S20 := Lib.hid (SD.out.below hb20)
    have HGX20 := Lib.hid (heap_alloc_new WD (.cells #[.int .i64 0, .int .i64 0, .slice none 0 0] 33))
    have GNE := Lib.hid (show WD.heap.size ≠ gx from by have h := lt_of_some0 (SD.out.box _ (List.mem_cons_self ..)); change gx < _ at h; omega)
    have GGE := Lib.hid (show w4.heap.size ≤ WD.heap.size from SD.out.bel.size)
    clear hb20 SD
    generalize WD.alloc (.cells #[.int .i64 0, .int .i64 0, .slice none 0 0] 33) = w20 at *
    generalize WD.heap.size = gy at *
    refine held_one 2 rfl rfl (by kernel_rfl) fun K hK => ?_
    go_simp
    go_at_call 43
    refine (keeps10_any _ KE w20 (rd_below (rd_below SK.out B4.out) S20.out.bel) (by have := HKL.out; omega)).mono ?_
    rintro e w21 ⟨⟨vk, rfl, hvk⟩, hb21⟩
    refine hK _ _ (S20.out.below hb21) ?_
    clear hK K
    have S21 := Lib.hid (S20.out.below hb21)
    have VK21 := Lib.hid hvk
    have HGX21 := Lib.hid ((hb21.block _ (lt_of_some0 HGX20.out)).trans HGX20.out)
    clear hb21 hvk S20 HGX20
    refine held_one 3 rfl rfl (by kernel_rfl) fun K hK => ?_
    go_simp
    go_at_call 42
    refine (CR.out _ _ S21.out.bel VK21.out).mono ?_
    rintro e w22 ⟨⟨v5, rfl, hv5⟩, hb22⟩
    refine hK _ _ (S21.out.below hb22) ?_
    clear hK K
    have S22 := Lib.hid (S21.out.below hb22)
    have HGX22 := Lib.hid ((hb22.block _ (lt_of_some0 HGX21.out)).trans HGX21.out)
    obtain ⟨a9, c9, rfl, r9⟩ := dv_form hv5
    obtain ⟨-, -, hr9, -⟩ := hv5
    have HR9 := Lib.hid hr9
    obtain ⟨n9, hn9⟩ : ∃ z, z = Y.2.2.length := ⟨_, rfl⟩
    rw [← hn9] at r9 ⊢
    have R22 := Lib.hid r9
    have HN9 := Lib.hid hn9
    clear hb22 S21 VK21 r9 hr9 hn9 HGX21
    obtain ⟨z0, z1, z2⟩ := box3c HGX22.out
    have f0 := frozen_of_row _ gy 0 _ _ HGX22.out
    have f1 := frozen_of_row _ gy 1 _ _ HGX22.out
    have f2 := frozen_of_row _ gy 2 _ _ HGX22.out
    refine held_one 5 rfl rfl (by kernel_rfl) fun K hK => ?_
    go_simp
    refine hK _ _ (S22.out.set3 (by have := GGE.out; omega) (fun p hp => by rw [List.mem_singleton.1 hp]; exact GNE.out.symm)) ?_
    clear hK K
    refine wpAnyH_done (by kernel_rfl) ?_ _
    unfold onlyN
    dsimp only
    clear z0 z1 z2 f0 f1 f2
    go_wp2_with fail
    go_meet
    exact ⟨gy, a9, n9, c9, rfl, HN9, Lib.hid (set3c HGX22.out), GGE, Lib.hid (dv_boxset HGX22.out ⟨_, rfl, HR9.out, R22.out⟩), Lib.hid (below_set3 S22.out.bel GGE.out)⟩
  case rest =>
   rename World => w5
   obtain ⟨gy, ay, ny, cy, rfl, HNY, HY5, HLY, VY5, B45⟩ := hcut
   have HX5 := Lib.hid ((B45.out.block _ (lt_of_some0 HX4.out)).trans HX4.out)
   have VX5 := Lib.hid (dv_below VX4.out B45.out)
   have B5 := Lib.hid (btA B4.out B45.out)
   clear HX4 VX4 B4 B45 HLY CR SK HKL
   have P1 := Lib.hid (psize_any _ X s HS.out w5 VX5.out (valid_sm MX.out.val))
   rw [ZX.out.size, ZX.out.at0] at P1
   obtain ⟨nb, hnb⟩ : ∃ z, z = b.length := ⟨_, rfl⟩
   rw [← hnb] at P1 HBL
   have HNB := Lib.hid hnb
   clear hnb
   obtain ⟨x0, x1, x2⟩ := box3c HX5.out
   go_wp2_with fail
   clear x0 x1 x2
   refine P1.out.mono ?_
   rintro e w6 ⟨rfl, hb⟩
   have HX6 := Lib.hid ((hb.block _ (lt_of_some0 HX5.out)).trans HX5.out)
   have HY6 := Lib.hid ((hb.block _ (lt_of_some0 HY5.out)).trans HY5.out)
   have VX6 := Lib.hid (dv_below VX5.out hb)
   have VY6 := Lib.hid (dv_below VY5.out hb)
   have B6 := Lib.hid (btA B5.out hb)
   clear hb P1 HX5 HY5 VX5 VY5 B5
   have P1 := Lib.hid (pread_any _ X s HS.out 15 w6 VX6.out (valid_sm MX.out.val) MX.out.pn (by decide) 0 (nb : Int) (by decide) (by have := HBL.out; omega))
   rw [HNB.out, ZX.out.re, ZX.out.rl, ← HNB.out] at P1
   obtain ⟨x0, x1, x2⟩ := box3c HX6.out
   go_wp2_with fail
   clear x0 x1 x2
   refine P1.out.mono ?_
   rintro e w7 ⟨⟨sav, rfl, sah⟩, hb⟩
   obtain ⟨saa, sac, rfl, -, -⟩ := sl_form sah
   have sa7 := Lib.hid sah
   rw [← HNB.out] at sa7 ⊢
   have HX7 := Lib.hid ((hb.block _ (lt_of_some0 HX6.out)).trans HX6.out)
   have HY7 := Lib.hid ((hb.block _ (lt_of_some0 HY6.out)).trans HY6.out)
   have VX7 := Lib.hid (dv_below VX6.out hb)
   have VY7 := Lib.hid (dv_below VY6.out hb)
   have B7 := Lib.hid (btA B6.out hb)
   clear hb P1 sah HX6 HY6 VX6 VY6 B6 
   have P1 := Lib.hid (psize_any _ Y s HS.out w7 VY7.out (valid_sm MY.out.val))
   rw [ZY.out.size, ZY.out.at0, ← HNB.out] at P1
   obtain ⟨x0, x1, x2⟩ := box3c HY7.out
   go_wp2_with fail
   clear x0 x1 x2
   refine P1.out.mono ?_
   rintro e w8 ⟨rfl, hb⟩
   have HX8 := Lib.hid ((hb.block _ (lt_of_some0 HX7.out)).trans HX7.out)
   have HY8 := Lib.hid ((hb.block _ (lt_of_some0 HY7.out)).trans HY7.out)
   have VX8 := Lib.hid (dv_below VX7.out hb)
   have VY8 := Lib.hid (dv_below VY7.out hb)
   have B8 := Lib.hid (btA B7.out hb)
   have sa8 := Lib.hid (sl_below sa7.out hb)
   clear hb P1 HX7 HY7 VX7 VY7 B7 sa7
   have P1 := Lib.hid (pread_any _ Y s HS.out 16 w8 VY8.out (valid_sm MY.out.val) MY.out.pn (by decide) 0 (nb : Int) (by decide) (by have := HBL.out; omega))
   rw [HNB.out, ZY.out.re, ZY.out.rl, ← HNB.out] at P1
   obtain ⟨x0, x1, x2⟩ := box3c HY8.out
   go_wp2_with fail
   clear x0 x1 x2
   refine P1.out.mono ?_
   rintro e w9 ⟨⟨sbv, rfl, sbh⟩, hb⟩
   obtain ⟨sba, sbc, rfl, -, -⟩ := sl_form sbh
   have sb9 := Lib.hid sbh
   rw [← HNB.out] at sb9 ⊢
   have HX9 := Lib.hid ((hb.block _ (lt_of_some0 HX8.out)).trans HX8.out)
   have HY9 := Lib.hid ((hb.block _ (lt_of_some0 HY8.out)).trans HY8.out)
   have VX9 := Lib.hid (dv_below VX8.out hb)
   have VY9 := Lib.hid (dv_below VY8.out hb)
   have B9 := Lib.hid (btA B8.out hb)
   have sa9 := Lib.hid (sl_below sa8.out hb)
   clear hb P1 sbh HX8 HY8 VX8 VY8 B8 sa8
   go_upto_region 12 with fail
   have S0 : SBx w9 [(gx, (.cells #[.int .i64 X.1, .int .i64 X.2.1, .slice ax nx cx] 33 (0, 0))), (gy, (.cells #[.int .i64 Y.1, .int .i64 Y.2.1, .slice ay ny cy] 33 (0, 0)))] w9.drew := ⟨(Below.refl _ _).drew, fun p hp => by
    rcases List.mem_cons.1 hp with rfl | hp
    ·exact HX9.out
    ·rw [List.mem_singleton.1 hp]; exact HY9.out⟩
   refine wp_onlyN ?_
   refine wp_region_headsS (SBx w9 [(gx, (.cells #[.int .i64 X.1, .int .i64 X.2.1, .slice ax nx cx] 33 (0, 0))), (gy, (.cells #[.int .i64 Y.1, .int .i64 Y.2.1, .slice ay ny cy] 33 (0, 0)))]) [0, 2] 4 (by kernel_rfl) (fun _ _ _ _ _ h => h.elim) (by kernel_rfl) (by rfl) (by rfl) S0 ?_
   simp only [pickOps, List.filterMap_cons, List.filterMap_nil, List.getElem?_toArray, List.getElem?_cons_zero, List.getElem?_cons_succ]
   refine wpHeads_step (fun K hK => ?_)
   go_simp
   refine ⟨.agg #[.int .i64 X.1, .int .i64 X.2.1, .slice ax nx cx], fun w' hw' => by
    obtain ⟨q0, q1, q2⟩ := box3c (hw'.box _ (List.mem_cons_self ..))
    simp [q0, q1, q2], hK _ ?_⟩
   clear hK K
   refine wpHeads_step (fun K hK => ?_)
   go_simp
   refine ⟨.agg #[.int .i64 Y.1, .int .i64 Y.2.1, .slice ay ny cy], fun w' hw' => by
    obtain ⟨q0, q1, q2⟩ := box3c (hw'.box _ (List.mem_cons_of_mem _ (List.mem_cons_self ..)))
    simp [q0, q1, q2], hK _ ?_⟩
   clear hK K
   refine wpHeads_nil ?_
   have SD := Lib.hid S0
   generalize w9.drew = WD at *
   clear S0
   have PX := Lib.hid (pnames_any _ X WD (dv_below VX9.out SD.out.bel) (valid_sm MX.out.val))
   obtain ⟨NL, hNL⟩ : ∃ z, z = namesL X := ⟨_, rfl⟩
   rw [← hNL] at PX NY
   have HLEN := Lib.hid (show NL.length ≤ 256 by rw [hNL]; unfold namesL; rw [if_pos MX.out.val, List.length_map]; exact (valid_parts MX.out.val).2.2.1)
   clear hNL
   refine held_one 1 rfl rfl (by kernel_rfl) fun K hK => ?_
   go_simp
   go_at_call 27
   refine PX.out.mono ?_
   rintro e wA ⟨⟨vn, rfl, ho⟩, hb⟩
   refine hK _ _ (SD.out.below hb) ?_
   clear hK K
   have SA := Lib.hid (SD.out.below hb)
   have RA := Lib.hid (og_rd (B := fun _ => True) ho fun _ _ => trivial)
   obtain ⟨am, cm, rfl, -, -⟩ := og_form ho
   obtain ⟨n, hn⟩ : ∃ z, z = NL.length := ⟨_, rfl⟩
   rw [← hn] at RA HLEN ⊢
   have HN := Lib.hid hn
   clear hb ho PX SD hn
   have PY := Lib.hid (pnames_any _ Y wA (dv_below VY9.out SA.out.bel) (valid_sm MY.out.val))
   rw [NY.out] at PY
   refine held_one 3 rfl rfl (by kernel_rfl) fun K hK => ?_
   go_simp
   go_at_call 27
   refine PY.out.mono ?_
   rintro e wB ⟨⟨vm, rfl, ho⟩, hb⟩
   refine hK _ _ (SA.out.below hb) ?_
   clear hK K
   have SB := Lib.hid (SA.out.below hb)
   have RB := Lib.hid (rd_below RA.out hb)
   have QB := Lib.hid (og_rd (B := fun _ => True) ho fun _ _ => trivial)
   obtain ⟨an, cn, rfl, -, -⟩ := og_form ho
   rw [← HN.out] at QB ⊢
   clear hb ho PY SA RA
   refine held_one 4 rfl rfl (by kernel_rfl) fun K hK => ?_
   go_simp
   refine hK _ _ SB.out ?_
   clear hK K
   refine held_one 5 rfl rfl (by kernel_rfl) fun K hK => ?_
   go_simp
   refine hK _ _ SB.out ?_
   clear hK K
   refine wpAnyH_done (by kernel_rfl) ?_ _
   unfold onlyN
   dsimp only
   have saB := Lib.hid (sl_below sa9.out SB.out.bel)
   have sbB := Lib.hid (sl_below sb9.out SB.out.bel)
   have BB := Lib.hid (btA B9.out SB.out.bel)
   clear SB sa9 sb9 B9 HX9 HY9 VX9 VY9 NY ZX ZY MX MY
   go_wp2_with fail
   go_loopw [80] (fun t wr => ∃ i : Nat, i ≤ n ∧ t = .int .i64 (i : Int) ∧ Hid (Below wB.heap.size wB wr)) (fun t _ => n - (intOf t).toNat)
   case atStart => exact ⟨0, by omega, rfl, Lib.hid (Below.refl _ _)⟩
   case round =>
    obtain ⟨i, hi, rfl, BR⟩ := hrel
    by_cases hlt : i < n
    case neg =>
     have l1 : decide ((i : Int) < (n : Int)) = false := decide_eq_false (by omega)
     have l2 : decide (i < n) = false := decide_eq_false hlt
     have z1 := conv_sl (sl_below saB.out BR.out)
     have z2 := conv_sl (sl_below sbB.out BR.out)
     have BE := Lib.hid (btA BB.out BR.out)
     clear hlt hi
     go_wp2_with fail
     refine (awake10_any _).mono ?_
     rintro e wz ⟨rfl, hbz⟩
     have BZ := Lib.hid (btA BE.out hbz)
     clear hbz
     go_wp2
     go_ret
     exact ⟨rfl, BZ.out⟩
    have l1 : decide ((i : Int) < (n : Int)) = true := decide_eq_true (by omega)
    have l2 : decide (i < n) = true := decide_eq_true hlt
    obtain ⟨x, hx⟩ : ∃ z, NL[i]? = some z := ⟨_, List.getElem?_eq_getElem (by have := HN.out; omega)⟩
    obtain ⟨bm, om, rfl, k0⟩ := name_at (rd_below RB.out BR.out) hx
    obtain ⟨bn, on_, rfl, k1⟩ := name_at (rd_below QB.out BR.out) hx
    have p0 : (0 : Int) ≤ (i : Int) := by omega
    have p1 : (i : Int) < (n : Int) := by omega
    have EW := Lib.hid (show wrap64 ((i : Int) + 1) = ((i + 1 : Nat) : Int) by have := HLEN.out; unfold wrap64; omega)
    have HI := Lib.hid hlt
    clear hx hlt hi
    go_wp2_with fail
    go_quiet (fail)
    go_wp2
    go_roundw
    case rel =>
     have h1 := HI.out
     exact ⟨i + 1, by omega, by rw [EW.out], Lib.hid (btA BR.out (below_drewN _ _))⟩
    case measure =>
     have h1 := HI.out
     rw [EW.out]
     simp [intOf]; omega
 ·have e1 : decide ((10 : Int) < (nk : Int)) = false := decide_eq_false (by omega)
  have e2 : decide (10 < nk) = false := decide_eq_false h10
  have SK := Lib.hid (SKK.out nk (Nat.le_refl _))
  have HKL := Lib.hid (show (K.take nk).length ≤ 19 by rw [List.length_take]; omega)
  generalize K.take nk = KE at *
  clear h10 hck SKK
  go_upto_region 3 with fail
  clear e1 e2
  go_wp2_with fail
  refine (made10_any 0 (-1) (.slice al nl cl) L w (by decide) (by decide) SLL.out).mono ?_
  rintro e w1 ⟨⟨v1, d, rfl, hm, hv⟩, hb1⟩
  have GV := Lib.hid (given10_any v1 d w1 (dv_BH hv) (Nat.le_trans (valid_parts hm.val).2.2.1 (by decide)) (fun f hf => Nat.le_trans (hm.pn f hf) (by decide)))
  have MD := Lib.hid hm
  have B1 := Lib.hid hb1
  obtain ⟨a1, c1, rfl, -⟩ := dv_form (dv_BH hv)
  obtain ⟨n1, hn1⟩ : ∃ z, z = d.2.2.length := ⟨_, rfl⟩
  rw [← hn1] at GV ⊢
  clear hm hv hb1 hn1
  go_wp2_with fail
  refine GV.out.mono ?_
  rintro e w2 ⟨⟨v2, rfl, hv2⟩, hb2⟩
  have V2 := Lib.hid (dvB_dv hv2)
  obtain ⟨a2, c2, rfl, -⟩ := dv_form hv2
  obtain ⟨n2, hn2⟩ : ∃ z, z = d.2.2.length := ⟨_, rfl⟩
  rw [← hn2] at V2 ⊢
  have B2 := Lib.hid (btA B1.out hb2)
  clear hv2 hb2 hn2 B1 GV
  go_upto_region 4 with fail
  have q3 := bel_al0 w2 (.cells #[.int .i64 d.1, .int .i64 d.2.1, .slice a2 n2 c2] 33)
  have HX3 := Lib.hid (heap_alloc_new w2 (.cells #[.int .i64 d.1, .int .i64 d.2.1, .slice a2 n2 c2] 33))
  have V3 := Lib.hid (dv_below V2.out q3)
  have B3 := Lib.hid (btA B2.out q3)
  clear q3 V2 B2
  generalize w2.alloc (.cells #[.int .i64 d.1, .int .i64 d.2.1, .slice a2 n2 c2] 33) = w3 at *
  generalize w2.heap.size = gd at *
  have SY := Lib.hid (psync_any _ d s HS.out 14 w3 V3.out (valid_sm MD.out.val) MD.out.pn (by decide))
  have DU := Lib.hid (fun h => dur MD.out (s := s) h KE)
  obtain ⟨E, hE⟩ : ∃ z, z = atE d s := ⟨_, rfl⟩
  rw [← hE] at SY DU
  obtain ⟨X, hX⟩ : ∃ z, z = syncD d s := ⟨_, rfl⟩
  rw [← hX] at SY DU
  clear hE hX MD V3
  obtain ⟨x0, x1, x2⟩ := box3c HX3.out
  go_wp2_with fail
  clear x0 x1 x2
  refine SY.out.mono ?_
  rintro e w3b ⟨⟨v3, rfl, hv3⟩, hb3⟩
  have V4 := Lib.hid (dvB_dv hv3)
  obtain ⟨ax, cx, rfl, -⟩ := dv_form hv3
  obtain ⟨nx, hnx⟩ : ∃ z, z = X.2.2.length := ⟨_, rfl⟩
  rw [← hnx] at V4 ⊢
  have B3b := Lib.hid (btA B3.out hb3)
  clear hv3 hb3 hnx SY HX3 B3
  go_upto_region 5 with fail
  have q4 := bel_al0 w3b (.cells #[.int .i64 X.1, .int .i64 X.2.1, .slice ax nx cx] 33)
  have HX4 := Lib.hid (heap_alloc_new w3b (.cells #[.int .i64 X.1, .int .i64 X.2.1, .slice ax nx cx] 33))
  have VX4 := Lib.hid (dv_below V4.out q4)
  have B4 := Lib.hid (btA B3b.out q4)
  clear q4 V4 B3b
  generalize w3b.alloc (.cells #[.int .i64 X.1, .int .i64 X.2.1, .slice ax nx cx] 33) = w4 at *
  generalize w3b.heap.size = gx at *
  by_cases hE : E = 0
  case neg =>
   have e1 : ((E : Int) != 0) = true := by rw [bne_iff_ne]; omega
   clear hE DU
   go_wp2_with fail
   refine (awake10_any _).mono ?_
   rintro e wz ⟨rfl, hbz⟩
   have BZ := Lib.hid (btA B4.out hbz)
   clear hbz
   go_wp2
   go_ret
   exact ⟨rfl, BZ.out⟩
  have e1 : ((E : Int) != 0) = false := by rw [bne_eq_false_iff_eq]; omega
  obtain ⟨b, hbl, hmx, hmy, hzx, hzy, hny⟩ := DU.out hE
  have HBL := Lib.hid hbl
  have MX := Lib.hid hmx
  have MY := Lib.hid hmy
  have ZX := Lib.hid hzx
  have ZY := Lib.hid hzy
  have NY := Lib.hid hny
  clear hE DU hbl hmx hmy hzx hzy hny
  have CR := Lib.hid (fun W kv (h : Below w4.heap.size w4 W) (hk : Rd (fun _ => True) W (.sl tyK) [kv] KE) => pcrash_any _ kv X KE W (dv_below VX4.out h) (valid_sm MX.out.val) (fun f hf => Nat.le_trans (MX.out.pn f hf) (by decide)) hk HKL.out)
  obtain ⟨Y, hY⟩ : ∃ z, z = crashD X KE := ⟨_, rfl⟩
  rw [← hY] at CR MY ZY NY
  clear hY
  go_upto_region 7 with fail
  clear e1
  go_cut [10] from 39 to 42 (fun tx wx => ∃ (gy : Nat) (a9 : Option Addr) (n9 c9 : Nat), tx = .pointer (some ⟨gy, 0, none⟩) ∧ Hid (n9 = Y.2.2.length) ∧ Hid (wx.heap[gy]? = some (.cells #[.int .i64 Y.1, .int .i64 Y.2.1, .slice a9 n9 c9] 33 (0, 0))) ∧ Hid (w4.heap.size ≤ gy) ∧ Hid (Dv wx (.agg #[.int .i64 Y.1, .int .i64 Y.2.1, .slice a9 n9 c9]) Y) ∧ Hid (Below w4.heap.size w4 wx))
  case first =>
   have S0 : SBx w4 [(gx, (.cells #[.int .i64 X.1, .int .i64 X.2.1, .slice ax nx cx] 33 (0, 0)))] w4.drew := ⟨(Below.refl _ _).drew, fun p hp => by rw [List.mem_singleton.1 hp]; exact HX4.out⟩
   refine wp_onlyN ?_
   refine wp_region_headsS (SBx w4 [(gx, (.cells #[.int .i64 X.1, .int .i64 X.2.1, .slice ax nx cx] 33 (0, 0)))]) [0, 1] 4 (by kernel_rfl) (fun _ _ _ _ _ h => h.elim) (by kernel_rfl) (by rfl) (by rfl) S0 ?_
   simp only [pickOps, List.filterMap_cons, List.filterMap_nil, List.getElem?_toArray, List.getElem?_cons_zero, List.getElem?_cons_succ]
   refine wpHeads_step (fun K hK => ?_)
   go_simp
   refine ⟨.agg #[.int .i64 X.1, .int .i64 X.2.1, .slice ax nx cx], fun w' hw' => by
    obtain ⟨q0, q1, q2⟩ := box3c (hw'.box _ (List.mem_cons_self ..))
    simp [q0, q1, q2], hK _ ?_⟩
   clear hK K
   refine wpHeads_step (fun K hK => ?_)
   go_simp
   refine ⟨_, fun _ _ => rfl, hK _ ?_⟩
   clear hK K
   refine wpHeads_nil ?_
   have SD := Lib.hid S0
   generalize w4.drew = WD at *
   clear S0
   refine held_two10 2 4 rfl rfl rfl rfl (by kernel_rfl) (fun K hK => ?_) (fun K hK => ?_)
   ·go_simp
    go_at_call 43
    refine (keeps10_any _ KE WD (rd_below (rd_below SK.out B4.out) SD.out.bel) (by have := HKL.out; omega)).mono ?_
    rintro e w20 ⟨⟨vk, rfl, hvk⟩, hb20⟩
    refine hK _ _ (SD.out.below hb20) ?_
    clear hK K
    have S20 := Lib.hid (SD.out.below hb20)
    have VK20 := Lib.hid hvk
    clear hb20 hvk SD
    refine held_two10 3 4 rfl rfl rfl rfl (by kernel_rfl) (fun K hK => ?_) (fun K hK => ?_)
    ·go_simp
     go_at_call 42
     refine (CR.out _ _ S20.out.bel VK20.out).mono ?_
     rintro e w21 ⟨⟨v5, rfl, hv5⟩, hb21⟩
     refine hK _ _ (S20.out.below hb21) ?_
     clear hK K
     have S21 := Lib.hid (S20.out.below hb21)
     obtain ⟨a9, c9, rfl, r9⟩ := dv_form hv5
     obtain ⟨-, -, hr9, -⟩ := hv5
     have HR9 := Lib.hid hr9
     obtain ⟨n9, hn9⟩ : ∃ z, z = Y.2.2.length := ⟨_, rfl⟩
     rw [← hn9] at r9 ⊢
     have R21 := Lib.hid r9
     have HN9 := Lib.hid hn9
     clear hb21 S20 VK20 r9 hr9 hn9
     refine held_one 4 rfl rfl (by kernel_rfl) fun K hK => ?_
     go_simp
     have hb22 := bel_al0 w21 (.cells #[.int .i64 0, .int .i64 0, .slice none 0 0] 33)
     refine hK _ _ (S21.out.below hb22) ?_
     clear hK K
     have S22 := Lib.hid (S21.out.below hb22)
     have HGX22 := Lib.hid (heap_alloc_new w21 (.cells #[.int .i64 0, .int .i64 0, .slice none 0 0] 33))
     have GNE := Lib.hid (show w21.heap.size ≠ gx from by have h := lt_of_some0 (S21.out.box _ (List.mem_cons_self ..)); change gx < _ at h; omega)
     have GGE := Lib.hid (show w4.heap.size ≤ w21.heap.size from S21.out.bel.size)
     have R22 := Lib.hid (rd_below R21.out hb22)
     clear hb22 S21 R21
     generalize w21.alloc (.cells #[.int .i64 0, .int .i64 0, .slice none 0 0] 33) = w22 at *
     generalize w21.heap.size = gy at *
     obtain ⟨z0, z1, z2⟩ := box3c HGX22.out
     have f0 := frozen_of_row _ gy 0 _ _ HGX22.out
     have f1 := frozen_of_row _ gy 1 _ _ HGX22.out
     have f2 := frozen_of_row _ gy 2 _ _ HGX22.out
     refine held_one 5 rfl rfl (by kernel_rfl) fun K hK => ?_
     go_simp
     refine hK _ _ (S22.out.set3 (by have := GGE.out; omega) (fun p hp => by rw [List.mem_singleton.1 hp]; exact GNE.out.symm)) ?_
     clear hK K
     refine wpAnyH_done (by kernel_rfl) ?_ _
     unfold onlyN
     dsimp only
     clear z0 z1 z2 f0 f1 f2
     go_wp2_with fail
     go_meet
     exact ⟨gy, a9, n9, c9, rfl, HN9, Lib.hid (set3c HGX22.out), GGE, Lib.hid (dv_boxset HGX22.out ⟨_, rfl, HR9.out, R22.out⟩), Lib.hid (below_set3 S22.out.bel GGE.out)⟩
    ·go_simp
     have hb21 := bel_al0 w20 (.cells #[.int .i64 0, .int .i64 0, .slice none 0 0] 33)
     refine hK _ _ (S20.out.below hb21) ?_
     clear hK K
     have S21 := Lib.hid (S20.out.below hb21)
     have HGX21 := Lib.hid (heap_alloc_new w20 (.cells #[.int .i64 0, .int .i64 0, .slice none 0 0] 33))
     have GNE := Lib.hid (show w20.heap.size ≠ gx from by have h := lt_of_some0 (S20.out.box _ (List.mem_cons_self ..)); change gx < _ at h; omega)
     have GGE := Lib.hid (show w4.heap.size ≤ w20.heap.size from S20.out.bel.size)
     have VK21 := Lib.hid (rd_below VK20.out hb21)
     clear hb21 S20 VK20
     generalize w20.alloc (.cells #[.int .i64 0, .int .i64 0, .slice none 0 0] 33) = w21 at *
     generalize w20.heap.size = gy at *
     refine held_one 3 rfl rfl (by kernel_rfl) fun K hK => ?_
     go_simp
     go_at_call 42
     refine (CR.out _ _ S21.out.bel VK21.out).mono ?_
     rintro e w22 ⟨⟨v5, rfl, hv5⟩, hb22⟩
     refine hK _ _ (S21.out.below hb22) ?_
     clear hK K
     have S22 := Lib.hid (S21.out.below hb22)
     have HGX22 := Lib.hid ((hb22.block _ (lt_of_some0 HGX21.out)).trans HGX21.out)
     obtain ⟨a9, c9, rfl, r9⟩ := dv_form hv5
     obtain ⟨-, -, hr9, -⟩ := hv5
     have HR9 := Lib.hid hr9
     obtain ⟨n9, hn9⟩ : ∃ z, z = Y.2.2.length := ⟨_, rfl⟩
     rw [← hn9] at r9 ⊢
     have R22 := Lib.hid r9
     have HN9 := Lib.hid hn9
     clear hb22 S21 VK21 r9 hr9 hn9 HGX21
     obtain ⟨z0, z1, z2⟩ := box3c HGX22.out
     have f0 := frozen_of_row _ gy 0 _ _ HGX22.out
     have f1 := frozen_of_row _ gy 1 _ _ HGX22.out
     have f2 := frozen_of_row _ gy 2 _ _ HGX22.out
     refine held_one 5 rfl rfl (by kernel_rfl) fun K hK => ?_
     go_simp
     refine hK _ _ (S22.out.set3 (by have := GGE.out; omega) (fun p hp => by rw [List.mem_singleton.1 hp]; exact GNE.out.symm)) ?_
     clear hK K
     refine wpAnyH_done (by kernel_rfl) ?_ _
     unfold onlyN
     dsimp only
     clear z0 z1 z2 f0 f1 f2
     go_wp2_with fail
     go_meet
     exact ⟨gy, a9, n9, c9, rfl, HN9, Lib.hid (set3c HGX22.out), GGE, Lib.hid (dv_boxset HGX22.out ⟨_, rfl, HR9.out, R22.out⟩), Lib.hid (below_set3 S22.out.bel GGE.out)⟩
   ·go_simp
    have hb20 := bel_al0 WD (.cells #[.int .i64 0, .int .i64 0, .slice none 0 0] 33)
    refine hK _ _ (SD.out.below hb20) ?_
    clear hK K
    have S20 := Lib.hid (SD.out.below hb20)
    have HGX20 := Lib.hid (heap_alloc_new WD (.cells #[.int .i64 0, .int .i64 0, .slice none 0 0] 33))
    have GNE := Lib.hid (show WD.heap.size ≠ gx from by have h := lt_of_some0 (SD.out.box _ (List.mem_cons_self ..)); change gx < _ at h; omega)
    have GGE := Lib.hid (show w4.heap.size ≤ WD.heap.size from SD.out.bel.size)
    clear hb20 SD
    generalize WD.alloc (.cells #[.int .i64 0, .int .i64 0, .slice none 0 0] 33) = w20 at *
    generalize WD.heap.size = gy at *
    refine held_one 2 rfl rfl (by kernel_rfl) fun K hK => ?_
    go_simp
    go_at_call 43
    refine (keeps10_any _ KE w20 (rd_below (rd_below SK.out B4.out) S20.out.bel) (by have := HKL.out; omega)).mono ?_
    rintro e w21 ⟨⟨vk, rfl, hvk⟩, hb21⟩
    refine hK _ _ (S20.out.below hb21) ?_
    clear hK K
    have S21 := Lib.hid (S20.out.below hb21)
    have VK21 := Lib.hid hvk
    have HGX21 := Lib.hid ((hb21.block _ (lt_of_some0 HGX20.out)).trans HGX20.out)
    clear hb21 hvk S20 HGX20
    refine held_one 3 rfl rfl (by kernel_rfl) fun K hK => ?_
    go_simp
    go_at_call 42
    refine (CR.out _ _ S21.out.bel VK21.out).mono ?_
    rintro e w22 ⟨⟨v5, rfl, hv5⟩, hb22⟩
    refine hK _ _ (S21.out.below hb22) ?_
    clear hK K
    have S22 := Lib.hid (S21.out.below hb22)
    have HGX22 := Lib.hid ((hb22.block _ (lt_of_some0 HGX21.out)).trans HGX21.out)
    obtain ⟨a9, c9, rfl, r9⟩ := dv_form hv5
    obtain ⟨-, -, hr9, -⟩ := hv5
    have HR9 := Lib.hid hr9
    obtain ⟨n9, hn9⟩ : ∃ z, z = Y.2.2.length := ⟨_, rfl⟩
    rw [← hn9] at r9 ⊢
    have R22 := Lib.hid r9
    have HN9 := Lib.hid hn9
    clear hb22 S21 VK21 r9 hr9 hn9 HGX21
    obtain ⟨z0, z1, z2⟩ := box3c HGX22.out
    have f0 := frozen_of_row _ gy 0 _ _ HGX22.out
    have f1 := frozen_of_row _ gy 1 _ _ HGX22.out
    have f2 := frozen_of_row _ gy 2 _ _ HGX22.out
    refine held_one 5 rfl rfl (by kernel_rfl) fun K hK => ?_
    go_simp
    refine hK _ _ (S22.out.set3 (by have := GGE.out; omega) (fun p hp => by rw [List.mem_singleton.1 hp]; exact GNE.out.symm)) ?_
    clear hK K
    refine wpAnyH_done (by kernel_rfl) ?_ _
    unfold onlyN
    dsimp only
    clear z0 z1 z2 f0 f1 f2
    go_wp2_with fail
    go_meet
    exact ⟨gy, a9, n9, c9, rfl, HN9, Lib.hid (set3c HGX22.out), GGE, Lib.hid (dv_boxset HGX22.out ⟨_, rfl, HR9.out, R22.out⟩), Lib.hid (below_set3 S22.out.bel GGE.out)⟩
  case rest =>
   rename World => w5
   obtain ⟨gy, ay, ny, cy, rfl, HNY, HY5, HLY, VY5, B45⟩ := hcut
   have HX5 := Lib.hid ((B45.out.block _ (lt_of_some0 HX4.out)).trans HX4.out)
   have VX5 := Lib.hid (dv_below VX4.out B45.out)
   have B5 := Lib.hid (btA B4.out B45.out)
   clear HX4 VX4 B4 B45 HLY CR SK HKL
   have P1 := Lib.hid (psize_any _ X s HS.out w5 VX5.out (valid_sm MX.out.val))
   rw [ZX.out.size, ZX.out.at0] at P1
   obtain ⟨nb, hnb⟩ : ∃ z, z = b.length := ⟨_, rfl⟩
   rw [← hnb] at P1 HBL
   have HNB := Lib.hid hnb
   clear hnb
   obtain ⟨x0, x1, x2⟩ := box3c HX5.out
   go_wp2_with fail
   clear x0 x1 x2
   refine P1.out.mono ?_
   rintro e w6 ⟨rfl, hb⟩
   have HX6 := Lib.hid ((hb.block _ (lt_of_some0 HX5.out)).trans HX5.out)
   have HY6 := Lib.hid ((hb.block _ (lt_of_some0 HY5.out)).trans HY5.out)
   have VX6 := Lib.hid (dv_below VX5.out hb)
   have VY6 := Lib.hid (dv_below VY5.out hb)
   have B6 := Lib.hid (btA B5.out hb)
   clear hb P1 HX5 HY5 VX5 VY5 B5
   have P1 := Lib.hid (pread_any _ X s HS.out 15 w6 VX6.out (valid_sm MX.out.val) MX.out.pn (by decide) 0 (nb : Int) (by decide) (by have := HBL.out; omega))
   rw [HNB.out, ZX.out.re, ZX.out.rl, ← HNB.out] at P1
   obtain ⟨x0, x1, x2⟩ := box3c HX6.out
   go_wp2_with fail
   clear x0 x1 x2
   refine P1.out.mono ?_
   rintro e w7 ⟨⟨sav, rfl, sah⟩, hb⟩
   obtain ⟨saa, sac, rfl, -, -⟩ := sl_form sah
   have sa7 := Lib.hid sah
   rw [← HNB.out] at sa7 ⊢
   have HX7 := Lib.hid ((hb.block _ (lt_of_some0 HX6.out)).trans HX6.out)
   have HY7 := Lib.hid ((hb.block _ (lt_of_some0 HY6.out)).trans HY6.out)
   have VX7 := Lib.hid (dv_below VX6.out hb)
   have VY7 := Lib.hid (dv_below VY6.out hb)
   have B7 := Lib.hid (btA B6.out hb)
   clear hb P1 sah HX6 HY6 VX6 VY6 B6 
   have P1 := Lib.hid (psize_any _ Y s HS.out w7 VY7.out (valid_sm MY.out.val))
   rw [ZY.out.size, ZY.out.at0, ← HNB.out] at P1
   obtain ⟨x0, x1, x2⟩ := box3c HY7.out
   go_wp2_with fail
   clear x0 x1 x2
   refine P1.out.mono ?_
   rintro e w8 ⟨rfl, hb⟩
   have HX8 := Lib.hid ((hb.block _ (lt_of_some0 HX7.out)).trans HX7.out)
   have HY8 := Lib.hid ((hb.block _ (lt_of_some0 HY7.out)).trans HY7.out)
   have VX8 := Lib.hid (dv_below VX7.out hb)
   have VY8 := Lib.hid (dv_below VY7.out hb)
   have B8 := Lib.hid (btA B7.out hb)
   have sa8 := Lib.hid (sl_below sa7.out hb)
   clear hb P1 HX7 HY7 VX7 VY7 B7 sa7
   have P1 := Lib.hid (pread_any _ Y s HS.out 16 w8 VY8.out (valid_sm MY.out.val) MY.out.pn (by decide) 0 (nb : Int) (by decide) (by have := HBL.out; omega))
   rw [HNB.out, ZY.out.re, ZY.out.rl, ← HNB.out] at P1
   obtain ⟨x0, x1, x2⟩ := box3c HY8.out
   go_wp2_with fail
   clear x0 x1 x2
   refine P1.out.mono ?_
   rintro e w9 ⟨⟨sbv, rfl, sbh⟩, hb⟩
   obtain ⟨sba, sbc, rfl, -, -⟩ := sl_form sbh
   have sb9 := Lib.hid sbh
   rw [← HNB.out] at sb9 ⊢
   have HX9 := Lib.hid ((hb.block _ (lt_of_some0 HX8.out)).trans HX8.out)
   have HY9 := Lib.hid ((hb.block _ (lt_of_some0 HY8.out)).trans HY8.out)
   have VX9 := Lib.hid (dv_below VX8.out hb)
   have VY9 := Lib.hid (dv_below VY8.out hb)
   have B9 := Lib.hid (btA B8.out hb)
   have sa9 := Lib.hid (sl_below sa8.out hb)
   clear hb P1 sbh HX8 HY8 VX8 VY8 B8 sa8
   go_upto_region 12 with fail
   have S0 : SBx w9 [(gx, (.cells #[.int .i64 X.1, .int .i64 X.2.1, .slice ax nx cx] 33 (0, 0))), (gy, (.cells #[.int .i64 Y.1, .int .i64 Y.2.1, .slice ay ny cy] 33 (0, 0)))] w9.drew := ⟨(Below.refl _ _).drew, fun p hp => by
    rcases List.mem_cons.1 hp with rfl | hp
    ·exact HX9.out
    ·rw [List.mem_singleton.1 hp]; exact HY9.out⟩
   refine wp_onlyN ?_
   refine wp_region_headsS (SBx w9 [(gx, (.cells #[.int .i64 X.1, .int .i64 X.2.1, .slice ax nx cx] 33 (0, 0))), (gy, (.cells #[.int .i64 Y.1, .int .i64 Y.2.1, .slice ay ny cy] 33 (0, 0)))]) [0, 2] 4 (by kernel_rfl) (fun _ _ _ _ _ h => h.elim) (by kernel_rfl) (by rfl) (by rfl) S0 ?_
   simp only [pickOps, List.filterMap_cons, List.filterMap_nil, List.getElem?_toArray, List.getElem?_cons_zero, List.getElem?_cons_succ]
   refine wpHeads_step (fun K hK => ?_)
   go_simp
   refine ⟨.agg #[.int .i64 X.1, .int .i64 X.2.1, .slice ax nx cx], fun w' hw' => by
    obtain ⟨q0, q1, q2⟩ := box3c (hw'.box _ (List.mem_cons_self ..))
    simp [q0, q1, q2], hK _ ?_⟩
   clear hK K
   refine wpHeads_step (fun K hK => ?_)
   go_simp
   refine ⟨.agg #[.int .i64 Y.1, .int .i64 Y.2.1, .slice ay ny cy], fun w' hw' => by
    obtain ⟨q0, q1, q2⟩ := box3c (hw'.box _ (List.mem_cons_of_mem _ (List.mem_cons_self ..)))
    simp [q0, q1, q2], hK _ ?_⟩
   clear hK K
   refine wpHeads_nil ?_
   have SD := Lib.hid S0
   generalize w9.drew = WD at *
   clear S0
   have PX := Lib.hid (pnames_any _ X WD (dv_below VX9.out SD.out.bel) (valid_sm MX.out.val))
   obtain ⟨NL, hNL⟩ : ∃ z, z = namesL X := ⟨_, rfl⟩
   rw [← hNL] at PX NY
   have HLEN := Lib.hid (show NL.length ≤ 256 by rw [hNL]; unfold namesL; rw [if_pos MX.out.val, List.length_map]; exact (valid_parts MX.out.val).2.2.1)
   clear hNL
   refine held_one 1 rfl rfl (by kernel_rfl) fun K hK => ?_
   go_simp
   go_at_call 27
   refine PX.out.mono ?_
   rintro e wA ⟨⟨vn, rfl, ho⟩, hb⟩
   refine hK _ _ (SD.out.below hb) ?_
   clear hK K
   have SA := Lib.hid (SD.out.below hb)
   have RA := Lib.hid (og_rd (B := fun _ => True) ho fun _ _ => trivial)
   obtain ⟨am, cm, rfl, -, -⟩ := og_form ho
   obtain ⟨n, hn⟩ : ∃ z, z = NL.length := ⟨_, rfl⟩
   rw [← hn] at RA HLEN ⊢
   have HN := Lib.hid hn
   clear hb ho PX SD hn
   have PY := Lib.hid (pnames_any _ Y wA (dv_below VY9.out SA.out.bel) (valid_sm MY.out.val))
   rw [NY.out] at PY
   refine held_one 3 rfl rfl (by kernel_rfl) fun K hK => ?_
   go_simp
   go_at_call 27
   refine PY.out.mono ?_
   rintro e wB ⟨⟨vm, rfl, ho⟩, hb⟩
   refine hK _ _ (SA.out.below hb) ?_
   clear hK K
   have SB := Lib.hid (SA.out.below hb)
   have RB := Lib.hid (rd_below RA.out hb)
   have QB := Lib.hid (og_rd (B := fun _ => True) ho fun _ _ => trivial)
   obtain ⟨an, cn, rfl, -, -⟩ := og_form ho
   rw [← HN.out] at QB ⊢
   clear hb ho PY SA RA
   refine held_one 4 rfl rfl (by kernel_rfl) fun K hK => ?_
   go_simp
   refine hK _ _ SB.out ?_
   clear hK K
   refine held_one 5 rfl rfl (by kernel_rfl) fun K hK => ?_
   go_simp
   refine hK _ _ SB.out ?_
   clear hK K
   refine wpAnyH_done (by kernel_rfl) ?_ _
   unfold onlyN
   dsimp only
   have saB := Lib.hid (sl_below sa9.out SB.out.bel)
   have sbB := Lib.hid (sl_below sb9.out SB.out.bel)
   have BB := Lib.hid (btA B9.out SB.out.bel)
   clear SB sa9 sb9 B9 HX9 HY9 VX9 VY9 NY ZX ZY MX MY
   go_wp2_with fail
   go_loopw [80] (fun t wr => ∃ i : Nat, i ≤ n ∧ t = .int .i64 (i : Int) ∧ Hid (Below wB.heap.size wB wr)) (fun t _ => n - (intOf t).toNat)
   case atStart => exact ⟨0, by omega, rfl, Lib.hid (Below.refl _ _)⟩
   case round =>
    obtain ⟨i, hi, rfl, BR⟩ := hrel
    by_cases hlt : i < n
    case neg =>
     have l1 : decide ((i : Int) < (n : Int)) = false := decide_eq_false (by omega)
     have l2 : decide (i < n) = false := decide_eq_false hlt
     have z1 := conv_sl (sl_below saB.out BR.out)
     have z2 := conv_sl (sl_below sbB.out BR.out)
     have BE := Lib.hid (btA BB.out BR.out)
     clear hlt hi
     go_wp2_with fail
     refine (awake10_any _).mono ?_
     rintro e wz ⟨rfl, hbz⟩
     have BZ := Lib.hid (btA BE.out hbz)
     clear hbz
     go_wp2
     go_ret
     exact ⟨rfl, BZ.out⟩
    have l1 : decide ((i : Int) < (n : Int)) = true := decide_eq_true (by omega)
    have l2 : decide (i < n) = true := decide_eq_true hlt
    obtain ⟨x, hx⟩ : ∃ z, NL[i]? = some z := ⟨_, List.getElem?_eq_getElem (by have := HN.out; omega)⟩
    obtain ⟨bm, om, rfl, k0⟩ := name_at (rd_below RB.out BR.out) hx
    obtain ⟨bn, on_, rfl, k1⟩ := name_at (rd_below QB.out BR.out) hx
    have p0 : (0 : Int) ≤ (i : Int) := by omega
    have p1 : (i : Int) < (n : Int) := by omega
    have EW := Lib.hid (show wrap64 ((i : Int) + 1) = ((i + 1 : Nat) : Int) by have := HLEN.out; unfold wrap64; omega)
    have HI := Lib.hid hlt
    clear hx hlt hi
    go_wp2_with fail
    go_quiet (fail)
    go_wp2
    go_roundw
    case rel =>
     have h1 := HI.out
     exact ⟨i + 1, by omega, by rw [EW.out], Lib.hid (btA BR.out (below_drewN _ _))⟩
    case measure =>
     have h1 := HI.out
     rw [EW.out]
     simp [intOf]; omega
end Go.Proofs.Ytecneepgmpoepaa.Gf
