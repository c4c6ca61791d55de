/- What is proved here: the contract of the laws' made (disk) once more: a valid disk whose files are short. No condition. For DiskWrites. -/
import Derived.Test.YtpipgbjkkiheaaaW10
import Derived.Test.YtpipgbjkkiheaaaH10g
namespace Go.Proofs.Ytpipgbjkkiheaaa.Gf
-- halved
open Go Go.Joins Go.ChangeShapes Go.WideShapes Go.ChangeAt Go.RowKit Go.Deep Go.Proofs.Ytpipgbjkkiheaaa.By Go.Proofs.Ytpipgbjkkiheaaa.Qt

/-- The state of a disk that operations have made, with the length of its files. -/
structure MadeW (c l : Int) (d : Dk) (k : Nat) : Prop where
 val : validB d = true
 lim : d.1 = c
 left : l = -1 → d.2.1 = -1
 pn : PnD d k
 ends : EndD d (200 * k)
theorem madeW_P {c l : Int} {d : Dk} {k : Nat} (h : MadeW c l d k) : MadeP c l d k := ⟨h.val, h.lim, h.left, h.pn⟩
theorem opw_made {c l : Int} {d : Dk} {k : Nat} (h : MadeW c l d k) (kk : Nat) (hk : kk ≤ 9) (nm tn : ByteArray) (off : Int) (b : List Nat) (hb : b.length ≤ 200) (ke : List Kep) (he : opE d kk nm tn off b = 0) : MadeW c l (opD d kk nm tn off b ke) (k + 1) := by
 have h1 := op_made (madeW_P h) kk hk nm tn off b ke he
 exact ⟨h1.val, h1.lim, h1.left, h1.pn, endD_up (op_ends h.val h.ends kk hk nm tn off b hb ke he) (by omega)⟩
theorem made_startw (limit left : Int) : MadeW (max 0 limit) left (armD (newD limit) left) 0 := by
 have h1 := made_start limit left
 exact ⟨h1.val, h1.lim, h1.left, h1.pn, fun f hf => by cases hf⟩
theorem made_upw {c l : Int} {d : Dk} {k m : Nat} (h : MadeW c l d k) (hm : k ≤ m) : MadeW c l d m := by
 have h1 := made_up (madeW_P h) hm
 exact ⟨h1.val, h1.lim, h1.left, h1.pn, endD_up h.ends (by omega)⟩
def MdW (c l : Int) (w : World) (e : Ending) (w' : World) : Prop := (∃ v d, e = .returned v ∧ MadeW c l d 14 ∧ Dv w' v d) ∧ Below w.heap.size w w'
set_option maxRecDepth 100000 in
set_option maxHeartbeats 12800000 in
theorem made10w_any (limit left : Int) (vl : Value) (L : List Opn) (w : World) (hlim : -9223372036854775808 ≤ limit ∧ limit ≤ 9223372036854775807) (hleft : -9223372036854775808 ≤ left ∧ left ≤ 9223372036854775807) (sl : Rd (fun _ => True) w (.sl tyOp) [vl] L) : Calls Try.prog 15 #[.int .i64 limit, .int .i64 left, vl] w (MdW (max 0 limit) left w) := by
 have BX := Lib.hid (bel_al0 w (.cells #[.int .i64 0, .int .i64 0, .slice none 0 0] 24))
 have HY := Lib.hid (heap_alloc_new w (.cells #[.int .i64 0, .int .i64 0, .slice none 0 0] 24))
 have HLL := Lib.hid (And.intro hlim hleft)
 have SLL := Lib.hid sl
 obtain ⟨al, cl, rfl, -, -⟩ := rd_sl sl
 obtain ⟨nl, hnl⟩ : ∃ z, z = L.length := ⟨_, rfl⟩
 rw [← hnl] at SLL ⊢
 have HL := Lib.hid hnl
 have MS := Lib.hid (made_startw limit left)
 clear sl hnl hlim hleft
 go_enter Try.func15, Try.ntmps15
 go_upto_region 1 with fail
 generalize w.alloc (.cells #[.int .i64 0, .int .i64 0, .slice none 0 0] 24) = W1 at *
 go_wp2_with fail
 refine (rnew_any limit HLL.out.1 (fun _ => True) W1).mono ?_
 rintro e w2 ⟨⟨v2, rfl, hv2⟩, hb2⟩
 have RA := Lib.hid (rarm_any v2 (newD limit) left HLL.out.2 w2 hv2)
 obtain ⟨a2, c2, rfl, -⟩ := dv_form hv2
 generalize newD limit = d1 at *
 have HY2 := Lib.hid ((hb2.block _ (lt_of_some0 HY.out)).trans HY.out)
 have B2 := Lib.hid (btA BX.out hb2)
 clear hb2 hv2 HY BX
 obtain ⟨n2, hn2⟩ : ∃ z, z = d1.2.2.length := ⟨_, rfl⟩
 rw [← hn2] at RA ⊢
 clear hn2
 go_wp2_with fail
 refine RA.out.mono ?_
 rintro e w3 ⟨⟨v3, rfl, hv3⟩, hb3⟩
 obtain ⟨a3, c3, rfl, r3⟩ := dv_form hv3
 obtain ⟨-, -, hr3, -⟩ := hv3
 have HY3 := Lib.hid ((hb3.block _ (lt_of_some0 HY2.out)).trans HY2.out)
 have B3 := Lib.hid (btA B2.out hb3)
 have R3 := Lib.hid r3
 have HR3 := Lib.hid hr3
 generalize armD d1 left = d3 at *
 clear hb3 r3 hr3 HY2 B2 RA
 obtain ⟨n3, hn3⟩ : ∃ z, z = d3.2.2.length := ⟨_, rfl⟩
 rw [← hn3] at R3 ⊢
 have HN3 := Lib.hid hn3
 clear hn3
 go_upto_region 2 with fail
 have q4 := bel_al0 w3 (.cells #[.int .i64 d3.1, .int .i64 d3.2.1, .slice a3 n3 c3] 24)
 have HD4 := Lib.hid (heap_alloc_new w3 (.cells #[.int .i64 d3.1, .int .i64 d3.2.1, .slice a3 n3 c3] 24))
 have HY4 := Lib.hid ((q4.block _ (lt_of_some0 HY3.out)).trans HY3.out)
 have B4 := Lib.hid (btA B3.out q4)
 have R4 := Lib.hid (rd_below R3.out q4)
 have LG := Lib.hid (show w.heap.size + 1 ≤ w3.heap.size from lt_of_some0 HY3.out)
 clear q4 HY3 B3 R3
 generalize w3.alloc (.cells #[.int .i64 d3.1, .int .i64 d3.2.1, .slice a3 n3 c3] 24) = W4 at *
 generalize w3.heap.size = g at *
 go_wp2_with fail
 go_loopw [8] (fun t8 wr => ∃ i : Nat, i ≤ 14 ∧ t8 = .int .i64 (i : Int) ∧ Hid (∃ (d : Dk) (a : Option Addr) (c : Nat), wr.heap[g]? = some (.cells #[.int .i64 d.1, .int .i64 d.2.1, .slice a d.2.2.length c] 24 (0, 0)) ∧ Dv wr (.agg #[.int .i64 d.1, .int .i64 d.2.1, .slice a d.2.2.length c]) d ∧ MadeW (max 0 limit) left d i) ∧ Hid (wr.heap[w.heap.size]? = some (.cells #[.int .i64 0, .int .i64 0, .slice none 0 0] 24 (0, 0))) ∧ Hid (Below w.heap.size w wr)) (fun t _ => 14 - (intOf t).toNat)
 case atStart => exact ⟨0, by omega, rfl, Lib.hid ⟨d3, a3, c3, by rw [← HN3.out]; exact HD4.out, by rw [← HN3.out]; exact ⟨_, rfl, HR3.out, R4.out⟩, MS.out⟩, HY4, B4⟩
 case round =>
  clear HD4 HY4 B4 R4 HR3 MS HN3
  obtain ⟨i, hi, rfl, HB, HY, BB⟩ := hrel
  obtain ⟨d, a, c, hd, hdv, hmd⟩ := HB.out
  have HRR := Lib.hid (show ((-9223372036854775808 ≤ d.1 ∧ d.1 ≤ 9223372036854775807) ∧ (-9223372036854775808 ≤ d.2.1 ∧ d.2.1 ≤ 9223372036854775807)) from by obtain ⟨_, _, h, _⟩ := hdv; exact h)
  have DV := Lib.hid hdv
  have MD := Lib.hid hmd
  obtain ⟨n, hn⟩ : ∃ z, z = d.2.2.length := ⟨_, rfl⟩
  rw [← hn] at hd DV
  have HD := Lib.hid hd
  have HN := Lib.hid hn
  have EW := Lib.hid (show wrap64 ((i : Int) + 1) = ((i + 1 : Nat) : Int) by unfold wrap64; omega)
  clear hd hdv hmd hn HB
  by_cases hlt : i < nl
  case neg =>
   have l1 : decide ((i : Int) < (nl : Int)) = false := decide_eq_false (by omega)
   have l2 : decide (i < nl) = false := decide_eq_false hlt
   have MF := Lib.hid (made_upw MD.out hi)
   clear hlt hi
   obtain ⟨x0, x1, x2⟩ := box3c HD.out
   obtain ⟨y0, y1, y2⟩ := box3c HY.out
   have u0 := frozen_of_row wr w.heap.size 0 _ _ HY.out
   have u1 := frozen_of_row wr w.heap.size 1 _ _ HY.out
   have u2 := frozen_of_row wr w.heap.size 2 _ _ HY.out
   go_wp2
   refine bodyPost_ret (results_cell_row Try.results15 _ _ w.heap.size 24 _ (0, 0) _ rfl (set3c HY.out) Try.underlying24 rfl infoD) rfl ?_
   exact ⟨⟨_, d, rfl, MF.out, dv_boxset HY.out DV.out⟩, below_set3 BB.out (Nat.le_refl _)⟩
  have l1 : decide ((i : Int) < (nl : Int)) = true := decide_eq_true (by omega)
  have l2 : decide (i < nl) = true := decide_eq_true hlt
  by_cases h14 : i < 14
  case neg =>
   have l3 : decide ((i : Int) < 14) = false := decide_eq_false (by omega)
   have l4 : decide (i < 14) = false := decide_eq_false h14
   have MF := Lib.hid (made_upw MD.out hi)
   clear hlt hi h14
   obtain ⟨x0, x1, x2⟩ := box3c HD.out
   obtain ⟨y0, y1, y2⟩ := box3c HY.out
   have u0 := frozen_of_row wr w.heap.size 0 _ _ HY.out
   have u1 := frozen_of_row wr w.heap.size 1 _ _ HY.out
   have u2 := frozen_of_row wr w.heap.size 2 _ _ HY.out
   go_wp2
   refine bodyPost_ret (results_cell_row Try.results15 _ _ w.heap.size 24 _ (0, 0) _ rfl (set3c HY.out) Try.underlying24 rfl infoD) rfl ?_
   exact ⟨⟨_, d, rfl, MF.out, dv_boxset HY.out DV.out⟩, below_set3 BB.out (Nat.le_refl _)⟩
  have l3 : decide ((i : Int) < 14) = true := decide_eq_true (by omega)
  have l4 : decide (i < 14) = true := decide_eq_true h14
  have HI := Lib.hid (And.intro hlt h14)
  obtain ⟨b1, o1, c1, hv1, ⟨kd, nm, tn, off, ad, ak, nd, cd, nk, ck, db, ke, hK, hkd, hnm, htn, hoff, hcd, hck, hsd, hdb, hsk, hkel⟩⟩ := op_at (rd_below SLL.out BB.out) (i := i) (by have := HL.out; omega)
  obtain ⟨rfl, -, -⟩ : al = some ⟨b1, o1, none⟩ ∧ nl = L.length ∧ cl = c1 := by simpa using hv1
  obtain ⟨kk, hkk, hk9⟩ := kk_of kd hkd
  have CUT := Lib.hid (fun W => cut10_any kd nm tn off ad ak nd cd nk ck hcd hck W)
  obtain ⟨md, hmd⟩ : ∃ z, z = min nd 200 := ⟨_, rfl⟩
  obtain ⟨mk, hmk⟩ : ∃ z, z = min nk 10 := ⟨_, rfl⟩
  rw [← hmd, ← hmk] at CUT
  have WT := Lib.hid (fun W (h : Below wr.heap.size wr W) => want_any (.agg #[.int .i64 d.1, .int .i64 d.2.1, .slice a n c]) d kd kk nm tn off ad ak md cd mk ck db ke W (dv_below DV.out h) (valid_sm MD.out.val) i MD.out.pn (by omega) hkd hkk hk9 hoff hnm htn (by omega) (by rw [hmd]; exact hsd W h) (by rw [hmk]; exact hsk W h) (by omega))
  have MNX := Lib.hid (fun h => opw_made MD.out kk hk9 nm tn off db hdb ke h)
  have KK := Lib.hid hK
  generalize opD d kk nm tn off db ke = DD at *
  generalize opE d kk nm tn off db = EE at *
  have p0 : (0 : Int) ≤ (i : Int) := by omega
  have p1 : (i : Int) < (nl : Int) := by omega
  clear hv1 hK hkd hnm htn hoff hcd hck hsd hdb hsk hkel hkk hk9 hmd hmk hlt h14 hi
  obtain ⟨x0, x1, x2⟩ := box3c HD.out
  go_upto_region 5 with fail
  clear l1 l2 l3 l4
  go_cut [9, 10] from 15 to 37 (fun t9 t10 wx => ∃ (gx : Nat) (a9 : Option Addr) (n9 c9 : Nat), t9 = .pointer (some ⟨gx, 0, none⟩) ∧ t10 = .int .i64 (EE : Int) ∧ Hid (n9 = DD.2.2.length) ∧ Hid (wx.heap[gx]? = some (.cells #[.int .i64 DD.1, .int .i64 DD.2.1, .slice a9 n9 c9] 24 (0, 0))) ∧ Hid (gx ≠ g) ∧ Hid (Dv wx (.agg #[.int .i64 DD.1, .int .i64 DD.2.1, .slice a9 n9 c9]) DD) ∧ Hid (Below wr.heap.size wr wx))
  case first =>
   have S0 : SBx wr [(g, (.cells #[.int .i64 d.1, .int .i64 d.2.1, .slice a n c] 24 (0, 0)))] wr.drew := ⟨(Below.refl _ _).drew, fun p hp => by rw [List.mem_singleton.1 hp]; exact HD.out⟩
   refine wp_onlyN ?_
   refine wp_region_headsS (SBx wr [(g, (.cells #[.int .i64 d.1, .int .i64 d.2.1, .slice a n c] 24 (0, 0)))]) [0, 1, 2, 3, 4] 8 (by kernel_rfl) (fun _ _ _ _ _ h => h.elim) (by kernel_rfl) (by rfl) (by rfl) S0 ?_
   simp only [pickOps, List.filterMap_cons, List.filterMap_nil, List.getElem?_toArray, List.getElem?_cons_zero, List.getElem?_cons_succ]
   refine wpHeads_step (fun K hK => ?_)
   go_simp
   refine ⟨.agg #[.int .i64 d.1, .int .i64 d.2.1, .slice a n c], fun w' hw' => by
    obtain ⟨q0, q1, q2⟩ := box3c (hw'.box _ (List.mem_cons_self ..))
    simp [q0, q1, q2], hK _ ?_⟩
   clear hK K
   iterate 2
    refine wpHeads_step (fun K hK => ?_)
    go_simp
    refine ⟨_, fun _ _ => rfl, hK _ ?_⟩
    clear hK K
   refine wpHeads_step (fun K hK => ?_)
   go_simp
   refine ⟨.pointer (some ⟨b1, o1 + i * 6, none⟩), fun w' hw' => by go_simp, hK _ ?_⟩
   clear hK K
   refine wpHeads_step (fun K hK => ?_)
   go_simp
   refine ⟨.agg #[.int .i64 kd, .string nm, .string tn, .int .i64 off, .slice ad nd cd, .slice ak nk ck], fun w' hw' => by
    obtain ⟨q0, q1, q2, q3, q4, q5⟩ := KK.out w' hw'.bel
    simp [q0, q1, q2, q3, q4, q5], hK _ ?_⟩
   clear hK K
   refine wpHeads_nil ?_
   have SD := Lib.hid S0
   generalize wr.drew = WD at *
   clear S0 x0 x1 x2 p0 p1
   have LGW := Lib.hid (lt_of_some0 HD.out)
   refine held_two10 5 10 rfl rfl rfl rfl (by kernel_rfl) (fun K hK => ?_) (fun K hK => ?_)
   ·go_simp
    go_at_call 35
    refine (CUT.out _).mono ?_
    rintro e w20 ⟨rfl, hb20⟩
    refine hK _ _ (SD.out.below hb20) ?_
    clear hK K
    have S20 := Lib.hid (SD.out.below hb20)
    clear hb20 SD
    refine held_two10 6 10 rfl rfl rfl rfl (by kernel_rfl) (fun K hK => ?_) (fun K hK => ?_)
    ·go_simp
     go_at_call 37
     refine (WT.out _ S20.out.bel).mono ?_
     rintro e w21 ⟨⟨v5, rfl, hv5⟩, hb21⟩
     refine hK _ _ (S20.out.below hb21) ?_
     clear hK K
     have S21 := Lib.hid (S20.out.below hb21)
     obtain ⟨a9, c9, rfl, r9⟩ := dv_form hv5
     obtain ⟨-, -, hr9, -⟩ := hv5
     have HR9 := Lib.hid hr9
     obtain ⟨n9, hn9⟩ : ∃ z, z = DD.2.2.length := ⟨_, rfl⟩
     rw [← hn9] at r9 ⊢
     have R21 := Lib.hid r9
     have HN9 := Lib.hid hn9
     clear hb21 S20 r9 hr9 hn9
     refine wpAnyH_take (i := 7) (v := .tuple #[.agg #[.int .i64 DD.1, .int .i64 DD.2.1, .slice a9 n9 c9], .int .i64 (EE : Int)]) rfl (by kernel_rfl) (by kernel_rfl) (by kernel_rfl) (fun _ _ _ h => h) (Or.inl ⟨by kernel_rfl, fun w _ => by go_simp⟩) S21.out ?_
     refine wpAnyH_take (i := 8) (v := .agg #[.int .i64 DD.1, .int .i64 DD.2.1, .slice a9 n9 c9]) rfl (by kernel_rfl) (by kernel_rfl) (by kernel_rfl) (fun _ _ _ h => h) (Or.inl ⟨by kernel_rfl, fun w _ => by go_simp⟩) S21.out ?_
     refine wpAnyH_take (i := 9) (v := .int .i64 (EE : Int)) rfl (by kernel_rfl) (by kernel_rfl) (by kernel_rfl) (fun _ _ _ h => h) (Or.inl ⟨by kernel_rfl, fun w _ => by go_simp⟩) S21.out ?_
     refine held_one 10 rfl rfl (by kernel_rfl) fun K hK => ?_
     go_simp
     have hb22 := bel_al0 w21 (.cells #[.int .i64 0, .int .i64 0, .slice none 0 0] 24)
     refine hK _ _ (S21.out.below hb22) ?_
     clear hK K
     have S22 := Lib.hid (S21.out.below hb22)
     have HGX22 := Lib.hid (heap_alloc_new w21 (.cells #[.int .i64 0, .int .i64 0, .slice none 0 0] 24))
     have GNE := Lib.hid (show w21.heap.size ≠ g from by have h := lt_of_some0 (S21.out.box _ (List.mem_cons_self ..)); change g < _ at h; omega)
     have GGE := Lib.hid (show wr.heap.size ≤ w21.heap.size from S21.out.bel.size)
     have R22 := Lib.hid (rd_below R21.out hb22)
     clear hb22 S21 R21
     generalize w21.alloc (.cells #[.int .i64 0, .int .i64 0, .slice none 0 0] 24) = w22 at *
     generalize w21.heap.size = gx at *
     obtain ⟨z0, z1, z2⟩ := box3c HGX22.out
     have f0 := frozen_of_row _ gx 0 _ _ HGX22.out
     have f1 := frozen_of_row _ gx 1 _ _ HGX22.out
     have f2 := frozen_of_row _ gx 2 _ _ HGX22.out
     refine held_one 11 rfl rfl (by kernel_rfl) fun K hK => ?_
     go_simp
     refine hK _ _ (S22.out.set3 (by have := GGE.out; omega) (fun p hp => by rw [List.mem_singleton.1 hp]; exact GNE.out.symm)) ?_
     clear hK K
     refine held_one 12 rfl rfl (by kernel_rfl) fun K hK => ?_
     go_simp
     refine hK _ _ (S22.out.set3 (by have := GGE.out; omega) (fun p hp => by rw [List.mem_singleton.1 hp]; exact GNE.out.symm)) ?_
     clear hK K
     refine wpAnyH_done (by kernel_rfl) ?_ _
     unfold onlyN
     dsimp only
     clear z0 z1 z2 f0 f1 f2
     go_wp2_with fail
     go_meet
     exact ⟨gx, a9, n9, c9, rfl, rfl, HN9, Lib.hid (set3c HGX22.out), GNE, Lib.hid (dv_boxset HGX22.out ⟨_, rfl, HR9.out, R22.out⟩), Lib.hid (below_set3 S22.out.bel GGE.out)⟩
    ·go_simp
     have hb21 := bel_al0 w20 (.cells #[.int .i64 0, .int .i64 0, .slice none 0 0] 24)
     refine hK _ _ (S20.out.below hb21) ?_
     clear hK K
     have S21 := Lib.hid (S20.out.below hb21)
     have HGX21 := Lib.hid (heap_alloc_new w20 (.cells #[.int .i64 0, .int .i64 0, .slice none 0 0] 24))
     have GNE := Lib.hid (show w20.heap.size ≠ g from by have h := lt_of_some0 (S20.out.box _ (List.mem_cons_self ..)); change g < _ at h; omega)
     have GGE := Lib.hid (show wr.heap.size ≤ w20.heap.size from S20.out.bel.size)
     clear hb21 S20
     generalize w20.alloc (.cells #[.int .i64 0, .int .i64 0, .slice none 0 0] 24) = w21 at *
     generalize w20.heap.size = gx at *
     refine held_one 6 rfl rfl (by kernel_rfl) fun K hK => ?_
     go_simp
     go_at_call 37
     refine (WT.out _ S21.out.bel).mono ?_
     rintro e w22 ⟨⟨v5, rfl, hv5⟩, hb22⟩
     refine hK _ _ (S21.out.below hb22) ?_
     clear hK K
     have S22 := Lib.hid (S21.out.below hb22)
     have HGX22 := Lib.hid ((hb22.block _ (lt_of_some0 HGX21.out)).trans HGX21.out)
     obtain ⟨a9, c9, rfl, r9⟩ := dv_form hv5
     obtain ⟨-, -, hr9, -⟩ := hv5
     have HR9 := Lib.hid hr9
     obtain ⟨n9, hn9⟩ : ∃ z, z = DD.2.2.length := ⟨_, rfl⟩
     rw [← hn9] at r9 ⊢
     have R22 := Lib.hid r9
     have HN9 := Lib.hid hn9
     clear hb22 S21 r9 hr9 hn9 HGX21
     refine wpAnyH_take (i := 7) (v := .tuple #[.agg #[.int .i64 DD.1, .int .i64 DD.2.1, .slice a9 n9 c9], .int .i64 (EE : Int)]) rfl (by kernel_rfl) (by kernel_rfl) (by kernel_rfl) (fun _ _ _ h => h) (Or.inl ⟨by kernel_rfl, fun w _ => by go_simp⟩) S22.out ?_
     refine wpAnyH_take (i := 8) (v := .agg #[.int .i64 DD.1, .int .i64 DD.2.1, .slice a9 n9 c9]) rfl (by kernel_rfl) (by kernel_rfl) (by kernel_rfl) (fun _ _ _ h => h) (Or.inl ⟨by kernel_rfl, fun w _ => by go_simp⟩) S22.out ?_
     refine wpAnyH_take (i := 9) (v := .int .i64 (EE : Int)) rfl (by kernel_rfl) (by kernel_rfl) (by kernel_rfl) (fun _ _ _ h => h) (Or.inl ⟨by kernel_rfl, fun w _ => by go_simp⟩) S22.out ?_
     obtain ⟨z0, z1, z2⟩ := box3c HGX22.out
     have f0 := frozen_of_row _ gx 0 _ _ HGX22.out
     have f1 := frozen_of_row _ gx 1 _ _ HGX22.out
     have f2 := frozen_of_row _ gx 2 _ _ HGX22.out
     refine held_one 11 rfl rfl (by kernel_rfl) fun K hK => ?_
     go_simp
     refine hK _ _ (S22.out.set3 (by have := GGE.out; omega) (fun p hp => by rw [List.mem_singleton.1 hp]; exact GNE.out.symm)) ?_
     clear hK K
     refine held_one 12 rfl rfl (by kernel_rfl) fun K hK => ?_
     go_simp
     refine hK _ _ (S22.out.set3 (by have := GGE.out; omega) (fun p hp => by rw [List.mem_singleton.1 hp]; exact GNE.out.symm)) ?_
     clear hK K
     refine wpAnyH_done (by kernel_rfl) ?_ _
     unfold onlyN
     dsimp only
     clear z0 z1 z2 f0 f1 f2
     go_wp2_with fail
     go_meet
     exact ⟨gx, a9, n9, c9, rfl, rfl, HN9, Lib.hid (set3c HGX22.out), GNE, Lib.hid (dv_boxset HGX22.out ⟨_, rfl, HR9.out, R22.out⟩), Lib.hid (below_set3 S22.out.bel GGE.out)⟩
   ·go_simp
    have hb20 := bel_al0 WD (.cells #[.int .i64 0, .int .i64 0, .slice none 0 0] 24)
    refine hK _ _ (SD.out.below hb20) ?_
    clear hK K
    have S20 := Lib.hid (SD.out.below hb20)
    have HGX20 := Lib.hid (heap_alloc_new WD (.cells #[.int .i64 0, .int .i64 0, .slice none 0 0] 24))
    have GNE := Lib.hid (show WD.heap.size ≠ g from by have h := lt_of_some0 (SD.out.box _ (List.mem_cons_self ..)); change g < _ at h; omega)
    have GGE := Lib.hid (show wr.heap.size ≤ WD.heap.size from SD.out.bel.size)
    clear hb20 SD
    generalize WD.alloc (.cells #[.int .i64 0, .int .i64 0, .slice none 0 0] 24) = w20 at *
    generalize WD.heap.size = gx at *
    refine held_one 5 rfl rfl (by kernel_rfl) fun K hK => ?_
    go_simp
    go_at_call 35
    refine (CUT.out _).mono ?_
    rintro e w21 ⟨rfl, hb21⟩
    refine hK _ _ (S20.out.below hb21) ?_
    clear hK K
    have S21 := Lib.hid (S20.out.below hb21)
    have HGX21 := Lib.hid ((hb21.block _ (lt_of_some0 HGX20.out)).trans HGX20.out)
    clear hb21 S20 HGX20
    refine held_one 6 rfl rfl (by kernel_rfl) fun K hK => ?_
    go_simp
    go_at_call 37
    refine (WT.out _ S21.out.bel).mono ?_
    rintro e w22 ⟨⟨v5, rfl, hv5⟩, hb22⟩
    refine hK _ _ (S21.out.below hb22) ?_
    clear hK K
    have S22 := Lib.hid (S21.out.below hb22)
    have HGX22 := Lib.hid ((hb22.block _ (lt_of_some0 HGX21.out)).trans HGX21.out)
    obtain ⟨a9, c9, rfl, r9⟩ := dv_form hv5
    obtain ⟨-, -, hr9, -⟩ := hv5
    have HR9 := Lib.hid hr9
    obtain ⟨n9, hn9⟩ : ∃ z, z = DD.2.2.length := ⟨_, rfl⟩
    rw [← hn9] at r9 ⊢
    have R22 := Lib.hid r9
    have HN9 := Lib.hid hn9
    clear hb22 S21 r9 hr9 hn9 HGX21
    refine wpAnyH_take (i := 7) (v := .tuple #[.agg #[.int .i64 DD.1, .int .i64 DD.2.1, .slice a9 n9 c9], .int .i64 (EE : Int)]) rfl (by kernel_rfl) (by kernel_rfl) (by kernel_rfl) (fun _ _ _ h => h) (Or.inl ⟨by kernel_rfl, fun w _ => by go_simp⟩) S22.out ?_
    refine wpAnyH_take (i := 8) (v := .agg #[.int .i64 DD.1, .int .i64 DD.2.1, .slice a9 n9 c9]) rfl (by kernel_rfl) (by kernel_rfl) (by kernel_rfl) (fun _ _ _ h => h) (Or.inl ⟨by kernel_rfl, fun w _ => by go_simp⟩) S22.out ?_
    refine wpAnyH_take (i := 9) (v := .int .i64 (EE : Int)) rfl (by kernel_rfl) (by kernel_rfl) (by kernel_rfl) (fun _ _ _ h => h) (Or.inl ⟨by kernel_rfl, fun w _ => by go_simp⟩) S22.out ?_
    obtain ⟨z0, z1, z2⟩ := box3c HGX22.out
    have f0 := frozen_of_row _ gx 0 _ _ HGX22.out
    have f1 := frozen_of_row _ gx 1 _ _ HGX22.out
    have f2 := frozen_of_row _ gx 2 _ _ HGX22.out
    refine held_one 11 rfl rfl (by kernel_rfl) fun K hK => ?_
    go_simp
    refine hK _ _ (S22.out.set3 (by have := GGE.out; omega) (fun p hp => by rw [List.mem_singleton.1 hp]; exact GNE.out.symm)) ?_
    clear hK K
    refine held_one 12 rfl rfl (by kernel_rfl) fun K hK => ?_
    go_simp
    refine hK _ _ (S22.out.set3 (by have := GGE.out; omega) (fun p hp => by rw [List.mem_singleton.1 hp]; exact GNE.out.symm)) ?_
    clear hK K
    refine wpAnyH_done (by kernel_rfl) ?_ _
    unfold onlyN
    dsimp only
    clear z0 z1 z2 f0 f1 f2
    go_wp2_with fail
    go_meet
    exact ⟨gx, a9, n9, c9, rfl, rfl, HN9, Lib.hid (set3c HGX22.out), GNE, Lib.hid (dv_boxset HGX22.out ⟨_, rfl, HR9.out, R22.out⟩), Lib.hid (below_set3 S22.out.bel GGE.out)⟩
  case rest =>
   obtain ⟨gx, a9, n9, c9, rfl, rfl, HN9, HGX, HNE, DV9, B9⟩ := hcut
   have B10 := Lib.hid (btA BB.out B9.out)
   have HD9 := Lib.hid ((B9.out.block _ (lt_of_some0 HD.out)).trans HD.out)
   have HY9 := Lib.hid ((B9.out.block _ (lt_of_some0 HY.out)).trans HY.out)
   by_cases he : EE = 0
   case neg =>
    have e1 : ((EE : Int) == 0) = false := by rw [beq_eq_false_iff_ne]; omega
    have DV2 := Lib.hid (dv_below DV.out B9.out)
    clear he x0 x1 x2 p0 p1
    go_wp2
    go_roundw
    case rel =>
     have h1 := HI.out
     exact ⟨i + 1, by omega, by rw [EW.out], Lib.hid ⟨d, a, c, by rw [← HN.out]; exact HD9.out, by rw [← HN.out]; exact DV2.out, made_upw MD.out (by omega)⟩, HY9, B10⟩
    case measure =>
     have h1 := HI.out
     rw [EW.out]
     simp [intOf]; omega
   have e1 : ((EE : Int) == 0) = true := by rw [beq_iff_eq]; omega
   have MN := Lib.hid (MNX.out he)
   clear he x0 x1 x2 p0 p1
   obtain ⟨x0, x1, x2⟩ := box3c HGX.out
   obtain ⟨z0, z1, z2⟩ := box3c HD9.out
   have f0 := frozen_of_row _ g 0 _ _ HD9.out
   have f1 := frozen_of_row _ g 1 _ _ HD9.out
   have f2 := frozen_of_row _ g 2 _ _ HD9.out
   go_upto_region 4 with fail
   have HDA := Lib.hid (set3c (k := .int .i64 DD.1) (l := .int .i64 DD.2.1) (m := .slice a9 n9 c9) HD9.out)
   have HYA := Lib.hid ((set3_other (k := .int .i64 DD.1) (l := .int .i64 DD.2.1) (m := .slice a9 n9 c9) (by have := LG.out; omega : w.heap.size ≠ g)).trans HY9.out)
   have BA := Lib.hid (below_set3 (k := .int .i64 DD.1) (l := .int .i64 DD.2.1) (m := .slice a9 n9 c9) B10.out (by have := LG.out; omega : w.heap.size ≤ g))
   have DVA := Lib.hid (dv_boxset (x' := DD.1) (y' := DD.2.1) (a' := a9) (n' := n9) (c' := c9) HD9.out DV9.out)
   clear x0 x1 x2 z0 z1 z2 f0 f1 f2 HD9 HY9 B10 DV9 HGX
   generalize ((wc.setCell ⟨g, 0, none⟩ (.int .i64 DD.1)).setCell ⟨g, 1, none⟩ (.int .i64 DD.2.1)).setCell ⟨g, 2, none⟩ (.slice a9 n9 c9) = W10 at *
   go_wp2
   go_roundw
   case rel =>
    have h1 := HI.out
    exact ⟨i + 1, by omega, by rw [EW.out], Lib.hid ⟨DD, a9, c9, by rw [← HN9.out]; exact HDA.out, by rw [← HN9.out]; exact DVA.out, MN.out⟩, HYA, BA⟩
   case measure =>
    have h1 := HI.out
    rw [EW.out]
    simp [intOf]; omega
end Go.Proofs.Ytpipgbjkkiheaaa.Gf
