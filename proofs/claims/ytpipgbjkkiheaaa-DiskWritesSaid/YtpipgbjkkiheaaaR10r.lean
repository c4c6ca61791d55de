/- What is proved here: the contract of the reference's kept (disk). Condition: valid files. -/
import Derived.Test.YtpipgbjkkiheaaaMW10
namespace Go.Proofs.Ytpipgbjkkiheaaa.Gf
open Go Go.Joins Go.ChangeShapes Go.WideShapes Go.ChangeAt Go.RowKit Go.Deep Go.Proofs.Ytpipgbjkkiheaaa.By Go.Proofs.Ytpipgbjkkiheaaa.Qt

theorem fst_drop {l : List Kep} {s : ByteArray} {j : Nat} {x : Kep} (h : l[j]? = some x) : fstK s (l.drop j) = if nmEq x.1 s = true then some x else fstK s (l.drop (j + 1)) := by
  obtain ⟨hj, rfl⟩ := List.getElem?_eq_some_iff.1 h
  rw [List.drop_eq_getElem_cons hj]
  unfold fstK
  rw [List.find?_cons]
  cases nmEq (l[j]).1 s <;> rfl
theorem nKp_max (a : Int) (n : Nat) : max 0 (min a (n : Int)) = ((nKp a n : Nat) : Int) := by unfold nKp; omega
theorem kep_rng {B : Nat → Prop} {w : World} {v : Value} {l : List Kep} (h : Rd B w (.sl tyK) [v] l) (s : ByteArray) (j : Nat) : (-9223372036854775808 ≤ ((fstK s (l.drop j)).getD kep0).2.1 ∧ ((fstK s (l.drop j)).getD kep0).2.1 ≤ 9223372036854775807) ∧ (-9223372036854775808 ≤ ((fstK s (l.drop j)).getD kep0).2.2 ∧ ((fstK s (l.drop j)).getD kep0).2.2 ≤ 9223372036854775807) := by
  cases hc : fstK s (l.drop j) with
  | none => exact ⟨⟨by decide, by decide⟩, by decide, by decide⟩
  | some x =>
    have hm : x ∈ l := List.mem_of_mem_drop (List.mem_of_find?_eq_some hc)
    obtain ⟨i, hi⟩ := List.mem_iff_getElem?.1 hm
    exact rd_kr h hi
/-- What is left of a file's writes, as the reference says it. -/
theorem keepW_ref {b : List Nat} {p : List Wr} (a t : Int) (h : flB b p = true) {s : ByteArray} : contL (s, b, keepW p a t) = if nKp a p.length = p.length ∨ (p.getD (nKp a p.length) wr0).2.2 = true ∨ nKp t (p.getD (nKp a p.length) wr0).2.1.length = 0 then contL (⟨#[]⟩, b, p.take (nKp a p.length)) else apW (contL (⟨#[]⟩, b, p.take (nKp a p.length))) ((p.getD (nKp a p.length) wr0).1, (p.getD (nKp a p.length) wr0).2.1.take (nKp t (p.getD (nKp a p.length) wr0).2.1.length), (p.getD (nKp a p.length) wr0).2.2) := by
  have hn := nKp_le a p.length
  have hp : okP b p = true := by unfold flB at h; rw [Bool.and_eq_true] at h; exact h.2
  have hbl : decide (b.length ≤ 1048576) = true := by unfold flB at h; rw [Bool.and_eq_true] at h; exact h.1
  have ht : flB b (p.take (nKp a p.length)) = true := by unfold flB; rw [hbl, okP_take hp]; rfl
  have hk := flB_keepW a t h
  have e1 : contL (s, b, keepW p a t) = apL b (keepW p a t) := by unfold contL; rw [if_pos hk]
  have e2 : contL ((⟨#[]⟩ : ByteArray), b, p.take (nKp a p.length)) = apL b (p.take (nKp a p.length)) := by unfold contL; rw [if_pos ht]
  rw [e1, e2]
  unfold keepW
  generalize nKp a p.length = n at *
  by_cases c1 : n = p.length
  · rw [if_pos (Or.inl c1), if_neg (by omega), List.append_nil]
  · have hlt : n < p.length := by omega
    have hcut := okP_cut p b hp (p.getD n wr0) (by
      rw [List.getD_eq_getElem?_getD, List.getElem?_eq_getElem hlt]
      exact List.getElem_mem hlt)
    have hm0 := nKp_le t (p.getD n wr0).2.1.length
    by_cases c2 : (p.getD n wr0).2.2 = true
    · have h0 := hcut c2
      have hC : ¬ (n < p.length ∧ 0 < nKp t (p.getD n wr0).2.1.length) := fun hc => by
        have h3 := hc.2
        have h5 : (p.getD n wr0).2.1.length = 0 := by rw [h0]; rfl
        omega
      rw [if_pos (Or.inr (Or.inl c2)), if_neg hC, List.append_nil]
    · by_cases c3 : nKp t (p.getD n wr0).2.1.length = 0
      · rw [if_pos (Or.inr (Or.inr c3)), if_neg (by omega), List.append_nil]
      · have hD : ¬ (n = p.length ∨ (p.getD n wr0).2.2 = true ∨ nKp t (p.getD n wr0).2.1.length = 0) := fun h1 => by
          rcases h1 with h1 | h1 | h1
          · exact c1 h1
          · exact c2 h1
          · exact c3 h1
        have hC : n < p.length ∧ 0 < nKp t (p.getD n wr0).2.1.length := ⟨hlt, by omega⟩
        rw [if_neg hD, if_pos hC, apL_append, apL_one]
theorem wOk_take {y : Wr} {m : Nat} (h : wOk y = true) (hc : y.2.2 = false) : wOk (y.1, y.2.1.take m, y.2.2) = true := by
  simp [wOk, hc] at h ⊢
  omega
set_option maxRecDepth 100000 in
set_option maxHeartbeats 12800000 in
theorem rkept_any (nm : ByteArray) (bv pv kv : Value) (b : List Nat) (p : List Wr) (l : List Kep) (w : World) (sb : Sl w bv b) (sp : Rd (fun _ => True) w (.sl tyW) [pv] p) (sl : Rd (fun _ => True) w (.sl tyK) [kv] l) (hf : flB b p = true) : Calls Try.prog 87 #[.agg #[.string nm, bv, pv], kv] w (BA w (contL (nm, b, keepW p ((fstK nm l).getD kep0).2.1 ((fstK nm l).getD kep0).2.2))) := by
  obtain ⟨ab, cb, rfl, -, -⟩ := sl_form sb
  obtain ⟨ap, cp, rfl, hcp, hcm⟩ := rd_sl sp
  obtain ⟨ak, ck, rfl, hck, hckm⟩ := rd_sl sl
  have HPO := Lib.hid (rd_mono (C := fun q => q < w.heap.size) sp fun _ _ h => h)
  have HBO := Lib.hid (fun W (h : Below w.heap.size w W) => sl_below sb h)
  have HKO := Lib.hid (fun W (h : Below w.heap.size w W) => rd_below sl h)
  have HKR := Lib.hid (kep_rng sl nm)
  have HOK : Hid (okP b p = true) := Lib.hid (by unfold flB at hf; rw [Bool.and_eq_true] at hf; exact hf.2)
  have HKW := Lib.hid (fun a t => keepW_ref (s := nm) a t hf)
  obtain ⟨nb, hnb⟩ : ∃ z, z = b.length := ⟨_, rfl⟩
  obtain ⟨np, hnp⟩ : ∃ z, z = p.length := ⟨_, rfl⟩
  obtain ⟨nk, hnk⟩ : ∃ z, z = l.length := ⟨_, rfl⟩
  rw [← hnb] at HBO ⊢
  rw [← hnp] at HPO HKW hcp ⊢
  rw [← hnk] at HKO hck ⊢
  have HNP := Lib.hid hnp
  have HNK := Lib.hid hnk
  have HCP := Lib.hid hcp
  have HKM : Hid (nk ≤ 9223372036854775807) := Lib.hid (by unfold maxLen at hckm; omega)
  have HPM : Hid (np ≤ 9223372036854775807) := Lib.hid (by unfold maxLen at hcm; omega)
  have BX := Lib.hid (btA (bel_al0 w (.cells #[.string nm, .slice ab nb cb, .slice ap np cp] 63)) (bel_al0 _ (.cells #[.string ⟨#[]⟩, .int .i64 0, .int .i64 0] 124)))
  have HX := Lib.hid (show ((w.alloc (.cells #[.string nm, .slice ab nb cb, .slice ap np cp] 63)).alloc (.cells #[.string ⟨#[]⟩, .int .i64 0, .int .i64 0] 124)).heap[w.heap.size]? = some (.cells #[.string nm, .slice ab nb cb, .slice ap np cp] 63 (0, 0)) from (al_old (by simp)).trans (heap_alloc_new w _))
  have HZ := Lib.hid (heap_alloc2_new w (.cells #[.string nm, .slice ab nb cb, .slice ap np cp] 63) (.cells #[.string ⟨#[]⟩, .int .i64 0, .int .i64 0] 124))
  have wk : wrap64 ((nk : Int) - 1) = (nk : Int) - 1 := by have := HKM.out; unfold wrap64; omega
  clear sb sp sl hf hcp hcm hck hckm hnb hnp hnk
  go_enter Try.func87, Try.ntmps87
  go_upto_region 2 with fail
  generalize ((w.alloc (.cells #[.string nm, .slice ab nb cb, .slice ap np cp] 63)).alloc (.cells #[.string ⟨#[]⟩, .int .i64 0, .int .i64 0] 124)) = W1 at *
  go_wp2_with fail
  have WK := Lib.hid wk
  clear wk
  go_loopw [6] (fun t wr => ∃ i : Nat, i ≤ nk ∧ t = .int .i64 ((i : Int) - 1) ∧ Hid (wr.heap[w.heap.size + 1]? = some (.cells #[.string ((fstK nm (l.drop i)).getD kep0).1, .int .i64 ((fstK nm (l.drop i)).getD kep0).2.1, .int .i64 ((fstK nm (l.drop i)).getD kep0).2.2] 124 (0, 0))) ∧ Hid (wr.heap[w.heap.size]? = some (.cells #[.string nm, .slice ab nb cb, .slice ap np cp] 63 (0, 0))) ∧ Hid (Below w.heap.size w wr)) (fun t _ => (intOf t + 1).toNat)
  case atStart =>
    refine ⟨nk, by omega, by rw [WK.out], Lib.hid ?_, HX, BX⟩
    rw [List.drop_of_length_le (by have := HNK.out; omega)]
    exact HZ.out
  case round =>
    clear HX HZ BX
    obtain ⟨i, hi, rfl, HK, HF, BB⟩ := hrel
    obtain ⟨x0, x1, x2⟩ := box3c HF.out
    by_cases hi0 : 0 < i
    · obtain ⟨j, rfl⟩ : ∃ j, i = j + 1 := ⟨i - 1, by omega⟩
      have e0 : (((j + 1 : Nat) : Int) - 1) = (j : Int) := by omega
      rw [e0]
      have l1 : decide ((j : Int) ≥ 0) = true := decide_eq_true (by omega)
      have l2 : decide ((0 : Int) ≤ (j : Int)) = true := decide_eq_true (by omega)
      have p0 : (0 : Int) ≤ (j : Int) := by omega
      have p1 : (j : Int) < (nk : Int) := by omega
      obtain ⟨x, hx⟩ : ∃ z, l[j]? = some z := ⟨_, List.getElem?_eq_getElem (by have := HNK.out; omega)⟩
      obtain ⟨b1, o1, c1, hv, k0, k1, k2⟩ := rd_kat (HKO.out _ BB.out) hx
      obtain ⟨rfl, -, -⟩ : ak = some ⟨b1, o1, none⟩ ∧ nk = l.length ∧ ck = c1 := by simpa using hv
      have HFD := Lib.hid (fst_drop (s := nm) hx)
      obtain ⟨kn, kw, kt⟩ := x
      dsimp only at k0 k1 k2 HFD
      have heq : (kn.toList == nm.toList) = nmEq kn nm := rfl
      obtain ⟨eb, hEB⟩ : ∃ z, z = nmEq kn nm := ⟨_, rfl⟩
      rw [← hEB] at heq HFD
      have ew : wrap64 ((j : Int) - 1) = (j : Int) - 1 := by have := HKM.out; unfold wrap64; omega
      have EW := Lib.hid ew
      have HJ := Lib.hid (show j + 1 ≤ nk from hi)
      clear hv hx hEB e0 hi hi0 ew
      cases eb
      · have hne : ¬ kn.toList = nm.toList := by simpa using heq
        have ew := EW.out
        go_wp2_with fail
        go_quiet (fail)
        go_wp2
        go_roundw
        case rel =>
          have hj := HJ.out
          refine ⟨j, by omega, by go_num, Lib.hid ?_, Lib.hid HF.out, Lib.hid ?_⟩
          · rw [HFD.out, if_neg (by simp)]
            exact HK.out
          · exact btA BB.out (below_drewN wr _)
        case measure => simp [intOf]; omega
      · have hne : kn.toList = nm.toList := by simpa using heq
        have ew := EW.out
        go_wp2_with fail
        go_quiet (fail)
        have hd := below_drewN wr nq
        have HF2 := Lib.hid ((hd.block _ (lt_of_some0 HF.out)).trans HF.out)
        have HK2 := Lib.hid ((hd.block _ (lt_of_some0 HK.out)).trans HK.out)
        have B2 := Lib.hid (btA BB.out hd)
        replace k0 := (hd.cell (block_lt_of_cell k0)).trans k0
        replace k1 := (hd.cell (block_lt_of_cell k1)).trans k1
        replace k2 := (hd.cell (block_lt_of_cell k2)).trans k2
        clear hd x0 x1 x2 HF HK BB
        generalize wr.drewN nq = W2 at *
        obtain ⟨z0, z1, z2⟩ := box3c HK2.out
        have f0 := frozen_of_row W2 (w.heap.size + 1) 0 _ _ HK2.out
        have f1 := frozen_of_row W2 (w.heap.size + 1) 1 _ _ HK2.out
        have f2 := frozen_of_row W2 (w.heap.size + 1) 2 _ _ HK2.out
        go_wp2
        go_roundw
        case rel =>
          have hj := HJ.out
          refine ⟨j, by omega, by go_num, Lib.hid ?_, Lib.hid ((set3_other (by omega : w.heap.size ≠ w.heap.size + 1)).trans HF2.out), Lib.hid (below_set3 B2.out (by omega))⟩
          rw [HFD.out]
          first | rw [if_pos rfl] | rw [if_pos trivial]
          exact set3c HK2.out
        case measure => simp [intOf]; omega
    · obtain rfl : i = 0 := by omega
      have e0 : (((0 : Nat) : Int) - 1) = -1 := by omega
      rw [e0]
      rw [List.drop_zero] at HK
      have HKR0 := Lib.hid (HKR.out 0)
      rw [List.drop_zero] at HKR0
      have l1 : decide ((-1 : Int) ≥ 0) = false := by decide
      have l2 : decide ((0 : Int) ≤ (-1 : Int)) = false := by decide
      generalize (fstK nm l).getD kep0 = kk at *
      obtain ⟨kn, ka, kt⟩ := kk
      dsimp only at HK HKR0 ⊢
      have HKW2 := Lib.hid (HKW.out ka kt)
      have hnk2 := nKp_max ka np
      obtain ⟨n, hn⟩ : ∃ z, z = nKp ka np := ⟨_, rfl⟩
      rw [← hn] at hnk2 HKW2
      have HNL := Lib.hid (show n ≤ np by rw [hn]; exact nKp_le ka np)
      clear e0 hn HKW hi0 hi
      obtain ⟨z0, z1, z2⟩ := box3c HK.out
      go_upto_region 8 with fail
      clear hnk2 l1 l2
      have S0 : SBx w [(w.heap.size, (.cells #[.string nm, .slice ab nb cb, .slice ap np cp] 63 (0, 0)))] wr.drew := ⟨BB.out.drew, fun p hp => by rw [List.mem_singleton.1 hp]; exact HF.out⟩
      refine wp_onlyN ?_
      refine wp_region_headsS (SBx w [(w.heap.size, (.cells #[.string nm, .slice ab nb cb, .slice ap np cp] 63 (0, 0)))]) [0, 1, 2, 3, 4, 5, 6] 2 (by kernel_rfl) (fun _ _ _ _ _ h => h.elim) (by kernel_rfl) (by rfl) (by rfl) S0 ?_
      simp only [pickOps, List.filterMap_cons, List.filterMap_nil, List.getElem?_toArray, List.getElem?_cons_zero, List.getElem?_cons_succ]
      refine wpHeads_step (fun K hK => ?_)
      go_simp
      refine ⟨_, fun _ _ => rfl, hK _ ?_⟩
      clear hK K
      refine wpHeads_step (fun K hK => ?_)
      go_simp
      refine ⟨.slice ab nb cb, fun w' hw' => by
        obtain ⟨q0, q1, q2⟩ := box3c (hw'.box _ (List.mem_cons_self ..))
        simp [q1], hK _ ?_⟩
      clear hK K
      refine wpHeads_step (fun K hK => ?_)
      go_simp
      refine ⟨_, fun _ _ => rfl, hK _ ?_⟩
      clear hK K
      refine wpHeads_step (fun K hK => ?_)
      go_simp
      refine ⟨.slice ap np cp, fun w' hw' => by
        obtain ⟨q0, q1, q2⟩ := box3c (hw'.box _ (List.mem_cons_self ..))
        simp [q2], hK _ ?_⟩
      clear hK K
      refine wpHeads_step (fun K hK => ?_)
      go_simp
      refine ⟨_, fun _ _ => rfl, hK _ ?_⟩
      clear hK K
      refine wpHeads_step (fun K hK => ?_)
      refine ⟨.slice ap n cp, fun wx _ => exec_head lsW rfl rfl HCP.out HNL.out, hK _ ?_⟩
      clear hK K
      refine wpHeads_step (fun K hK => ?_)
      go_simp
      refine ⟨_, fun _ _ => rfl, hK _ ?_⟩
      clear hK K
      refine wpHeads_nil ?_
      have SD := Lib.hid S0
      have HZD : Hid (wr.drew.heap[w.heap.size + 1]? = some (.cells #[.string kn, .int .i64 ka, .int .i64 kt] 124 (0, 0))) := Lib.hid HK.out
      generalize wr.drew = WD at *
      clear S0 z0 z1 z2 x0 x1 x2 HK HF BB
      have RC := Lib.hid (rcontent_any ⟨#[]⟩ _ _ b (p.take n) WD (HBO.out _ SD.out.bel) (rd_take (rd_mono (C := fun _ => True) (rd_below HPO.out SD.out.bel) fun _ _ _ => trivial) HNL.out))
      refine held_one 7 rfl rfl (by kernel_rfl) fun K hK => ?_
      go_simp
      go_at_call 34
      refine RC.out.mono ?_
      rintro e w5 ⟨⟨v5, rfl, ho5⟩, hb5⟩
      have HO5 := Lib.hid (own_weak0 ho5 SD.out.bel.size)
      have HCL := Lib.hid (contL_le ((⟨#[]⟩ : ByteArray), b, p.take n))
      generalize contL ((⟨#[]⟩ : ByteArray), b, p.take n) = C at *
      obtain ⟨a5, c5, rfl, -, -⟩ := sl_form ho5.sl
      obtain ⟨n5, hn5⟩ : ∃ z, z = C.length := ⟨_, rfl⟩
      rw [← hn5] at HO5 ⊢
      refine hK _ _ (SD.out.below hb5) ?_
      clear hK K
      have S5 := Lib.hid (SD.out.below hb5)
      have HZ5 := Lib.hid ((hb5.block _ (lt_of_some0 HZD.out)).trans HZD.out)
      clear ho5 hb5 RC SD HZD hn5
      refine held_one 8 rfl rfl (by kernel_rfl) fun K hK => ?_
      go_simp
      refine hK _ _ S5.out ?_
      clear hK K
      refine wpAnyH_done (by kernel_rfl) ?_ _
      unfold onlyN
      dsimp only
      have HF5 := Lib.hid (S5.out.box _ (List.mem_cons_self ..))
      have B5 := Lib.hid S5.out.bel
      obtain ⟨x0, x1, x2⟩ := box3c HF5.out
      clear S5
      by_cases hnn : n = np
      · have e1 : ((n : Int) == (np : Int)) = true := by rw [beq_iff_eq]; omega
        have HR := Lib.hid HKW2.out
        rw [if_pos (Or.inl hnn)] at HR
        clear hnn HKW2
        go_wp2
        go_ret
        rw [HR.out]
        exact ⟨⟨_, rfl, HO5.out⟩, B5.out⟩
      have e1 : ((n : Int) == (np : Int)) = false := by rw [beq_eq_false_iff_ne]; omega
      have hlt : n < np := by have := HNL.out; omega
      obtain ⟨g, off, cc, dv, he, c0, c1, c2, hdv⟩ := rd_wat (rd_below HPO.out B5.out) (i := n) (by rw [← HNP.out]; exact hlt)
      obtain ⟨rfl, hcc⟩ : ap = some ⟨g, off, none⟩ ∧ cp = cc := by
        have := Value.slice.inj he
        exact ⟨this.1, this.2.2⟩
      have HWO := Lib.hid (wOk_at HOK.out (i := n) (by rw [← HNP.out]; exact hlt))
      clear he hcc
      have HNN := Lib.hid hnn
      generalize p.getD n wr0 = y at *
      obtain ⟨yo, yd, yc⟩ := y
      dsimp only at c0 c1 c2 hdv HKW2 HWO
      obtain ⟨ad, cd, rfl, hcd, -⟩ := rd_sl hdv.2
      have HDV := Lib.hid (rd8_sl hdv.2)
      have HDQ := Lib.hid hdv.2
      obtain ⟨nd, hnd⟩ : ∃ z, z = yd.length := ⟨_, rfl⟩
      rw [← hnd] at HDV HDQ HKW2 hcd c1
      have HND := Lib.hid (And.intro hnd hcd)
      have HLT := Lib.hid hlt
      have l3 : (0 : Int) ≤ (n : Int) := by omega
      have l4 : (n : Int) < (np : Int) := by omega
      clear hdv hnd hcd hlt hnn
      cases yc
      case true =>
        have HR := Lib.hid HKW2.out
        rw [if_pos (Or.inr (Or.inl rfl))] at HR
        clear HKW2
        go_wp2
        go_ret
        rw [HR.out]
        exact ⟨⟨_, rfl, HO5.out⟩, B5.out⟩
      have HMT := Lib.hid (nKp_max kt nd)
      obtain ⟨m, hm⟩ : ∃ z, z = nKp kt nd := ⟨_, rfl⟩
      rw [← hm] at HMT HKW2
      have HML := Lib.hid (show m ≤ nd by rw [hm]; exact nKp_le kt nd)
      clear hm
      go_upto_region 12 with fail
      have BA6 := Lib.hid (bel_al0 w5 (.cells #[.int .i64 yo, .slice ad nd cd, .bool false] 94))
      have HJ := Lib.hid (heap_alloc_new w5 (.cells #[.int .i64 yo, .slice ad nd cd, .bool false] 94))
      have HZ6 := Lib.hid ((BA6.out.block _ (lt_of_some0 HZ5.out)).trans HZ5.out)
      have B6 := Lib.hid (btA B5.out BA6.out)
      have DV6 := Lib.hid (rd_below HDQ.out BA6.out)
      have HOQ := Lib.hid (show ∀ q, (Value.slice a5 n5 c5).ownBlock = some q → q ≠ w5.heap.size from fun q hq => by have := (HO5.out.2.lt q hq).2; omega)
      have HO6 := Lib.hid (own_below' HO5.out BA6.out)
      have SJ := Lib.hid (show w.heap.size + 2 ≤ w5.heap.size from lt_of_some0 HZ5.out)
      clear x0 x1 x2 c0 c1 c2 l3 l4 e1 HF5 HZ5 B5 HDV HDQ HO5 BA6
      generalize w5.alloc (.cells #[.int .i64 yo, .slice ad nd cd, .bool false] 94) = W6 at *
      generalize w5.heap.size = jj at *
      obtain ⟨j0, j1, j2⟩ := box3c HJ.out
      obtain ⟨z0, z1, z2⟩ := box3c HZ6.out
      have f1 := frozen_of_row W6 jj 1 _ _ HJ.out
      have hmt := HMT.out
      have l5 : m ≤ cd := Nat.le_trans HML.out HND.out.2
      have l6 : (m : Int) ≤ (cd : Int) := by omega
      have l7 : (0 : Int) ≤ (m : Int) := by omega
      have HJ7 := Lib.hid (show (W6.setCell ⟨jj, 1, none⟩ (.slice ad m cd)).heap[jj]? = some (.cells #[.int .i64 yo, .slice ad m cd, .bool false] 94 (0, 0)) from (by simpa using heap_setCell_same W6 jj 1 _ _ (.slice ad m cd) HJ.out))
      have B7 := Lib.hid (B6.out.setCell (p := ⟨jj, 1, none⟩) (by show w.heap.size ≤ jj; have := SJ.out; omega) (.slice ad m cd))
      have JLT := Lib.hid (lt_of_some0 HJ.out)
      have DV7 := Lib.hid (rd8_sl (rd_take (rd_move (w' := W6.setCell ⟨jj, 1, none⟩ (.slice ad m cd)) (fun q hq _ => other1 (g := jj) (by have := SJ.out; omega)) (fun _ h _ => h) DV6.out) HML.out))
      have HO7 := Lib.hid (own_keep (w' := W6.setCell ⟨jj, 1, none⟩ (.slice ad m cd)) HO6.out fun q hq => other1 (g := jj) (HOQ.out q hq))
      go_upto_region 13 with fail
      clear j0 j1 j2 z0 z1 z2 f1 hmt l5 l6 l7 HJ HZ6 B6 DV6 HO6
      generalize W6.setCell ⟨jj, 1, none⟩ (.slice ad m cd) = W7 at *
      obtain ⟨j0, j1, j2⟩ := box3c HJ7.out
      by_cases hm0 : m = 0
      · have e2 : ((m : Int) == 0) = true := by rw [beq_iff_eq]; omega
        have HR := Lib.hid HKW2.out
        rw [if_pos (Or.inr (Or.inr hm0))] at HR
        clear hm0 HKW2
        go_wp2
        go_ret
        rw [HR.out]
        exact ⟨⟨_, rfl, HO7.out⟩, B7.out⟩
      have e2 : ((m : Int) == 0) = false := by rw [beq_eq_false_iff_ne]; omega
      have HR := Lib.hid HKW2.out
      rw [if_neg (by
        rintro (h | h | h)
        · exact HNN.out h
        · exact absurd h (by decide)
        · exact hm0 h)] at HR
      have RA := Lib.hid (rapplied_w (.slice a5 n5 c5) (.slice ad m cd) C (yo, yd.take m, false) W7 HO7.out.sl DV7.out HCL.out (wOk_take HWO.out rfl))
      clear hm0 HKW2
      go_wp2_with fail
      refine RA.out.mono ?_
      rintro e w8 ⟨⟨v8, rfl, ho8⟩, hb8⟩
      have B8 := Lib.hid (btA B7.out hb8)
      have HO8 := Lib.hid (own_weak0 ho8 B7.out.size)
      obtain ⟨a8, c8, rfl, -, -⟩ := sl_form ho8.sl
      clear ho8 hb8 RA j0 j1 j2
      go_wp2
      go_ret
      rw [HR.out]
      exact ⟨⟨_, rfl, HO8.out⟩, B8.out⟩
end Go.Proofs.Ytpipgbjkkiheaaa.Gf
