/- What is proved here: Items and Len of the program. -/
import Derived.Test.YtempgcnpfjhacaaP11j
import Derived.Test.YtempgcnpfjhacaaM12
namespace Go.Proofs.Ytempgcnpfjhacaa.Gf
open Go Go.Joins Go.ChangeShapes Go.WideShapes Go.ChangeAt Go.RowKit Go.Deep Go.Proofs.Ytempgcnpfjhacaa.By Go.Proofs.Ytempgcnpfjhacaa.Qt

theorem su_nil11 (w : World) : Su w (.slice none 0 0) [] := ⟨by simp, none, 0, rfl, Nat.le_refl _, by simp, fun h => by simp at h⟩
theorem flat_take_le {m : Mp} (k : Nat) : (m.st.take k).flatten.length ≤ m.st.flatten.length := by
  have e : m.st.flatten = (m.st.take k).flatten ++ (m.st.drop k).flatten := by rw [← List.flatten_append, List.take_append_drop]
  rw [e, List.length_append]
  omega
set_option maxRecDepth 100000 in
set_option maxHeartbeats 12800000 in
theorem pitems11_any (v : Value) (m : Mp) (w : World) (hv : Mv w v m) (hf : Few m) (hn : m.st.flatten.length ≤ 1000) : Calls Try.prog 29 #[v] w (LI w (itemsL m)) := by
  have HF := Lib.hid hf
  have HNN := Lib.hid hn
  have PV := Lib.hid (fun W (h : Below w.heap.size w W) => pvalid11_any v m W (mv_below hv h) hf)
  obtain ⟨s0, s1, s2, s3, s4, s5, s6, s7, rfl, hms⟩ := hv
  have BX := Lib.hid (bel_al w (.cells #[s0, s1, s2, s3, s4, s5, s6, s7, .int .i64 m.live, .int .i64 m.garb] 44))
  have HX := Lib.hid (heap_alloc_new w (.cells #[s0, s1, s2, s3, s4, s5, s6, s7, .int .i64 m.live, .int .i64 m.garb] 44))
  have MS := Lib.hid (ms_below hms BX.out)
  have SW := Lib.hid (show w.heap.size ≤ (w.alloc (.cells #[s0, s1, s2, s3, s4, s5, s6, s7, .int .i64 m.live, .int .i64 m.garb] 44)).heap.size from BX.out.size)
  clear hms hf
  go_enter Try.func29, Try.ntmps29
  go_upto_region 1 with fail
  generalize w.alloc (.cells #[s0, s1, s2, s3, s4, s5, s6, s7, .int .i64 m.live, .int .i64 m.garb] 44) = W1 at *
  have PV1 := Lib.hid (PV.out W1 BX.out)
  clear PV
  clear hn
  by_cases hok : okM m
  case neg =>
    rw [okMb_f hok] at PV1
    have HE := Lib.hid (show itemsL m = [] by unfold itemsL; rw [if_neg hok])
    clear hok
    obtain ⟨x0, x1, x2, x3, x4, x5, x6, x7, x8, x9⟩ := bx10 HX.out
    go_wp2_with fail
    clear x0 x1 x2 x3 x4 x5 x6 x7 x8 x9
    refine PV1.out.mono ?_
    rintro e w2 ⟨rfl, hb⟩
    have B2 := Lib.hid (BX.out.trans (hb.mono SW.out))
    have S2 := Lib.hid hb
    have HX2 := Lib.hid ((hb.block _ (lt_of_some HX.out)).trans HX.out)
    have MS2 := Lib.hid (ms_below MS.out hb)
    clear hb PV1 HX MS
    go_wp2_with fail
    go_ret
    exact ⟨⟨_, rfl, by rw [HE.out]; exact it_nil _⟩, B2.out⟩
  rw [okMb_t hok] at PV1
  have HE := Lib.hid (show itemsL m = iL m by unfold itemsL; rw [if_pos hok])
  clear hok
  obtain ⟨x0, x1, x2, x3, x4, x5, x6, x7, x8, x9⟩ := bx10 HX.out
  go_wp2_with fail
  clear x0 x1 x2 x3 x4 x5 x6 x7 x8 x9
  refine PV1.out.mono ?_
  rintro e w2 ⟨rfl, hb⟩
  have B2 := Lib.hid (BX.out.trans (hb.mono SW.out))
  have S2 := Lib.hid hb
  have HX2 := Lib.hid ((hb.block _ (lt_of_some HX.out)).trans HX.out)
  have MS2 := Lib.hid (ms_below MS.out hb)
  clear hb PV1 HX MS
  obtain ⟨x0, x1, x2, x3, x4, x5, x6, x7, x8, x9⟩ := bx10 HX2.out
  go_wp2_with fail
  clear x0 x1 x2 x3 x4 x5 x6 x7 x8 x9
  go_loopw [3, 11] (fun t3 t11 wr => ∃ k : Nat, k ≤ 8 ∧ t11 = .int .i64 (k : Int) ∧ Hid (It wr t3 (sortL (m.st.take k).flatten)) ∧ Hid (Below w2.heap.size w2 wr)) (fun _ t _ => 8 - (intOf t).toNat)
  case atStart => exact ⟨0, by omega, rfl, Lib.hid (it_nil _), Lib.hid (Below.refl _ _)⟩
  case round =>
    obtain ⟨k, hk, rfl, HI, BR⟩ := hrel
    rename World => wl
    have HLN := Lib.hid (show (sortL (m.st.take k).flatten).length ≤ 1000 from Nat.le_trans (length_sortL _) (Nat.le_trans (flat_take_le k) HNN.out))
    by_cases hlt : k < 8
    case neg =>
      have l1 : decide ((k : Int) < 8) = false := decide_eq_false (by omega)
      have l2 : decide (k < 8) = false := decide_eq_false hlt
      have HR := Lib.hid (show sortL (m.st.take k).flatten = itemsL m by rw [HE.out, List.take_of_length_le (by have := MS2.out.1; omega)]; rfl)
      clear hlt hk
      obtain ⟨ai, ci, rfl, -, -⟩ := it_form HI.out
      go_wp2_with fail
      go_ret
      exact ⟨⟨_, rfl, by rw [← HR.out]; exact HI.out⟩, B2.out.trans (BR.out.mono B2.out.size)⟩
    have l1 : decide ((k : Int) < 8) = true := decide_eq_true (by omega)
    have l2 : decide (k < 8) = true := decide_eq_true hlt
    have HK := Lib.hid hlt
    have EK := Lib.hid (show wrap64 ((k : Int) + 1) = ((k + 1 : Nat) : Int) by unfold wrap64; omega)
    obtain ⟨a, c, hsel, hit⟩ := MS2.out.2.2.2 k hlt
    have hit2 := it_below hit BR.out
    have hst : sortL (m.st.take (k + 1)).flatten = mergeL (sortL (m.st.take k).flatten) (ms m k) [] := by
      rw [merge_step, List.take_succ_eq_append_getElem (by have := MS2.out.1; omega), List.flatten_append, ← ms_of (by have := MS2.out.1; omega)]
      simp
    have HST := Lib.hid hst
    have PM := Lib.hid (fun v1 (h : It wl v1 (sortL (m.st.take k).flatten)) => pmerge8_any v1 _ (.slice none 0 0) _ _ [] wl h hit2 (su_nil11 wl) HLN.out (HF.out k hlt) (by decide))
    rw [← hst] at PM
    have PM2 := Lib.hid (PM.out _ HI.out)
    obtain ⟨n, hn⟩ : ∃ z, z = (ms m k).length := ⟨_, rfl⟩
    rw [← hn] at hsel PM2
    have hix := run_index8 wl hlt hsel
    obtain ⟨ai, ci, rfl, -, -⟩ := it_form HI.out
    clear hsel hit hit2 hst PM hn hlt hk HI
    go_wp2_with fail
    refine PM2.out.mono ?_
    rintro e w3 ⟨⟨v3, rfl, hi3⟩, hb⟩
    have B3 := Lib.hid (BR.out.trans (hb.mono BR.out.size))
    have I3 := Lib.hid hi3
    clear hb hi3 PM2 hix
    go_wp2_with fail
    go_roundw
    case rel =>
      have h1 := HK.out
      exact ⟨k + 1, by omega, by rw [EK.out], I3, B3⟩
    case measure =>
      have h1 := HK.out
      rw [EK.out]
      simp [intOf]; omega
end Go.Proofs.Ytempgcnpfjhacaa.Gf
