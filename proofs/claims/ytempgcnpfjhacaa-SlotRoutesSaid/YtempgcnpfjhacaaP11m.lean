/- What is proved here: Len of the program. -/
import Derived.Test.YtempgcnpfjhacaaP11l
import Derived.Test.YtempgcnpfjhacaaM13
namespace Go.Proofs.Ytempgcnpfjhacaa.Gf
open Go Go.Joins Go.ChangeShapes Go.WideShapes Go.ChangeAt Go.RowKit Go.Deep Go.Proofs.Ytempgcnpfjhacaa.By Go.Proofs.Ytempgcnpfjhacaa.Qt

open Classical in
noncomputable def lenM (m : Mp) : Nat := if okM m then m.st.flatten.length else 0
set_option maxRecDepth 100000 in
set_option maxHeartbeats 12800000 in
theorem plen11_any (v : Value) (m : Mp) (w : World) (hv : Mv w v m) (hf : Few m) (hn : m.st.flatten.length ≤ 1000) : Calls Try.prog 24 #[v] w fun e w' => e = .returned (.int .i64 ((lenM m : Nat) : Int)) ∧ Below w.heap.size w w' := by
  have HF := Lib.hid hf
  have HNN := Lib.hid hn
  have PV := Lib.hid (fun W (h : Below w.heap.size w W) => pvalid11_any v m W (mv_below hv h) hf)
  obtain ⟨s0, s1, s2, s3, s4, s5, s6, s7, rfl, hms⟩ := hv
  have BX := Lib.hid (bel_al w (.cells #[s0, s1, s2, s3, s4, s5, s6, s7, .int .i64 m.live, .int .i64 m.garb] 44))
  have HX := Lib.hid (heap_alloc_new w (.cells #[s0, s1, s2, s3, s4, s5, s6, s7, .int .i64 m.live, .int .i64 m.garb] 44))
  have MS := Lib.hid (ms_below hms BX.out)
  have SW := Lib.hid (show w.heap.size ≤ (w.alloc (.cells #[s0, s1, s2, s3, s4, s5, s6, s7, .int .i64 m.live, .int .i64 m.garb] 44)).heap.size from BX.out.size)
  clear hms hf
  go_enter Try.func24, Try.ntmps24
  go_upto_region 1 with fail
  generalize w.alloc (.cells #[s0, s1, s2, s3, s4, s5, s6, s7, .int .i64 m.live, .int .i64 m.garb] 44) = W1 at *
  have PV1 := Lib.hid (PV.out W1 BX.out)
  clear PV
  clear hn
  by_cases hok : okM m
  case neg =>
    rw [okMb_f hok] at PV1
    have HE := Lib.hid (show lenM m = 0 by unfold lenM; rw [if_neg hok])
    clear hok
    obtain ⟨x0, x1, x2, x3, x4, x5, x6, x7, x8, x9⟩ := bx10 HX.out
    go_wp2_with fail
    clear x0 x1 x2 x3 x4 x5 x6 x7 x8 x9
    refine PV1.out.mono ?_
    rintro e w2 ⟨rfl, hb⟩
    have B2 := Lib.hid (BX.out.trans (hb.mono SW.out))
    have S2 := Lib.hid hb
    have HX2 := Lib.hid ((hb.block _ (lt_of_some HX.out)).trans HX.out)
    have MS2 := Lib.hid (ms_below MS.out hb)
    clear hb PV1 HX MS
    go_wp2_with fail
    go_ret
    exact ⟨by rw [HE.out]; rfl, B2.out⟩
  rw [okMb_t hok] at PV1
  have HE := Lib.hid (show lenM m = m.st.flatten.length by unfold lenM; rw [if_pos hok])
  clear hok
  obtain ⟨x0, x1, x2, x3, x4, x5, x6, x7, x8, x9⟩ := bx10 HX.out
  go_wp2_with fail
  clear x0 x1 x2 x3 x4 x5 x6 x7 x8 x9
  refine PV1.out.mono ?_
  rintro e w2 ⟨rfl, hb⟩
  have B2 := Lib.hid (BX.out.trans (hb.mono SW.out))
  have S2 := Lib.hid hb
  have HX2 := Lib.hid ((hb.block _ (lt_of_some HX.out)).trans HX.out)
  have MS2 := Lib.hid (ms_below MS.out hb)
  clear hb PV1 HX MS
  obtain ⟨x0, x1, x2, x3, x4, x5, x6, x7, x8, x9⟩ := bx10 HX2.out
  go_wp2_with fail
  clear x0 x1 x2 x3 x4 x5 x6 x7 x8 x9
  go_loopw [3, 11] (fun t3 t11 wr => ∃ (k T : Nat), k ≤ 8 ∧ t11 = .int .i64 (k : Int) ∧ t3 = .int .i64 (T : Int) ∧ Hid (T = (m.st.take k).flatten.length) ∧ Hid (Below w2.heap.size w2 wr)) (fun _ t _ => 8 - (intOf t).toNat)
  case atStart => exact ⟨0, 0, by omega, rfl, rfl, Lib.hid rfl, Lib.hid (Below.refl _ _)⟩
  case round =>
    obtain ⟨k, T, hk, rfl, rfl, HT, BR⟩ := hrel
    rename World => wl
    by_cases hlt : k < 8
    case neg =>
      have l1 : decide ((k : Int) < 8) = false := decide_eq_false (by omega)
      have l2 : decide (k < 8) = false := decide_eq_false hlt
      have HR := Lib.hid (show T = lenM m by rw [HE.out, HT.out, List.take_of_length_le (by have := MS2.out.1; omega)])
      clear hlt hk
      go_wp2_with fail
      go_ret
      exact ⟨by rw [← HR.out]; rfl, B2.out.trans (BR.out.mono B2.out.size)⟩
    have l1 : decide ((k : Int) < 8) = true := decide_eq_true (by omega)
    have l2 : decide (k < 8) = true := decide_eq_true hlt
    have HK := Lib.hid hlt
    have EK := Lib.hid (show wrap64 ((k : Int) + 1) = ((k + 1 : Nat) : Int) by unfold wrap64; omega)
    obtain ⟨a, c, hsel, -⟩ := MS2.out.2.2.2 k hlt
    have hst : (m.st.take (k + 1)).flatten.length = (m.st.take k).flatten.length + (ms m k).length := by
      rw [List.take_succ_eq_append_getElem (by have := MS2.out.1; omega), List.flatten_append, List.length_append, ← ms_of (by have := MS2.out.1; omega)]
      simp
    have hle := flat_take_le (m := m) (k + 1)
    obtain ⟨n, hn⟩ : ∃ z, z = (ms m k).length := ⟨_, rfl⟩
    rw [← hn] at hsel hst
    have hix := run_index8 wl hlt hsel
    have HT1 := Lib.hid (show T + n = (m.st.take (k + 1)).flatten.length by rw [hst, HT.out])
    have ET := Lib.hid (show wrap64 ((T : Int) + (n : Int)) = ((T + n : Nat) : Int) by have := HNN.out; have := HT1.out; unfold wrap64; omega)
    clear hsel hst hle hn hlt hk HT
    go_wp2_with fail
    go_roundw
    case rel =>
      have h1 := HK.out
      exact ⟨k + 1, T + n, by omega, by rw [EK.out], by rw [ET.out], HT1, BR⟩
    case measure =>
      have h1 := HK.out
      rw [EK.out]
      simp [intOf]; omega
end Go.Proofs.Ytempgcnpfjhacaa.Gf
