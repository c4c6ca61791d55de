/- What is proved here: bytes and Valid of the reference. -/
import Derived.Test.YtlooldnaoooehaaP11o
namespace Go.Proofs.Ytlooldnaoooehaa.Gf
open Go Go.Joins Go.ChangeShapes Go.WideShapes Go.ChangeAt Go.RowKit Go.Deep Go.Proofs.Ytlooldnaoooehaa.By Go.Proofs.Ytlooldnaoooehaa.Qt

set_option maxRecDepth 100000 in
set_option maxHeartbeats 6400000 in
theorem rbytes11_any (v : Value) (L : List Itm) (w : World) (sl : It w v L) (hlen : L.length ≤ 100000) : Calls Try.prog 38 #[v] w fun e w' => e = .returned (.int .i64 (byT L)) ∧ w = w' := by
  have SL := Lib.hid sl
  obtain ⟨a, c, rfl, -, -⟩ := it_form sl
  obtain ⟨n, hn⟩ : ∃ z, z = L.length := ⟨_, rfl⟩
  rw [← hn] at SL ⊢
  have HN := Lib.hid (And.intro hn hlen)
  clear sl hn hlen
  go_enter Try.func38, Try.ntmps38
  go_wp2_with fail
  go_loop [3, 4] (fun t3 t4 => ∃ (i : Nat) (T : Int), i ≤ n ∧ t4 = .int .i64 (i : Int) ∧ t3 = .int .i64 T ∧ Hid (T = byT (L.take i))) (fun _ t => n - (intOf t).toNat)
  case atStart => exact ⟨0, 0, by omega, rfl, rfl, Lib.hid rfl⟩
  case round =>
    obtain ⟨i, T, hi, rfl, rfl, HT⟩ := hrel
    by_cases hlt : i < n
    case neg =>
      have l1 : decide ((i : Int) < (n : Int)) = false := decide_eq_false (by omega)
      have l2 : decide (i < n) = false := decide_eq_false hlt
      have hT : T = byT L := by rw [HT.out, List.take_of_length_le (by have := HN.out.1; omega)]
      clear hlt hi HT
      subst hT
      go_wp2_with fail
      go_ret
      exact ⟨rfl, rfl⟩
    have l1 : decide ((i : Int) < (n : Int)) = true := decide_eq_true (by omega)
    have l2 : decide (i < n) = true := decide_eq_true hlt
    have HI := Lib.hid hlt
    have EI := Lib.hid (show wrap64 ((i : Int) + 1) = ((i + 1 : Nat) : Int) by have := HN.out; unfold wrap64; omega)
    obtain ⟨b, off, cap, hv, -, -, hc⟩ := it_cells SL.out (by have := HN.out.1; omega)
    simp only [Value.slice.injEq] at hv
    obtain ⟨rfl, -, -⟩ := hv
    have C := hc i (by have := HN.out.1; omega)
    have hok := getT_ok SL.out.1 i
    have hst := byT_takeI (L := L) (i := i) (by have := HN.out.1; omega)
    have hbd := byT_bd (L.take i)
    have hbd2 := szT_bd (L.getD i z0)
    have hln : (L.take i).length ≤ 100000 := by rw [List.length_take]; have := HN.out; omega
    obtain ⟨y, hy⟩ : ∃ z, z = L.getD i z0 := ⟨_, rfl⟩
    rw [← hy] at C hok hst hbd2
    have PS := Lib.hid (rsize6_any y.sz w hok.sz)
    obtain ⟨k0, k1, k2, k3⟩ := C
    obtain ⟨T1, hT1⟩ : ∃ z, z = T + szT y := ⟨_, rfl⟩
    have ew := Lib.hid (show wrap64 (T + szI6 y.sz) = T1 by
      have h1 := HT.out
      have h2 : szT y = szI6 y.sz := rfl
      rw [hT1]
      unfold wrap64
      omega)
    have HT1 := Lib.hid (show T1 = byT (L.take (i + 1)) by rw [hst, hT1, HT.out])
    have p0 : (0 : Int) ≤ (i : Int) := by omega
    have p1 : (i : Int) < (n : Int) := by omega
    clear hc hok hst hbd hbd2 hln hy hT1 hlt hi HT
    generalize szI6 y.sz = zz at *
    go_wp2_with fail
    refine PS.out.mono ?_
    rintro e w2 ⟨rfl, rfl⟩
    go_wp2_with fail
    go_round
    case rel =>
      have h1 := HI.out
      exact ⟨i + 1, T1, by omega, by rw [EI.out], by rw [ew.out], HT1⟩
    case measure =>
      have h1 := HI.out
      rw [EI.out]
      simp [intOf]; omega
set_option maxRecDepth 100000 in
set_option maxHeartbeats 12800000 in
theorem rvalid11_any (v : Value) (m : Mp) (w : World) (hv : Mv w v m) (hf : Few m) : Calls Try.prog 17 #[v] w fun e w' => e = .returned (.bool (okMb m)) ∧ Below w.heap.size w w' := by
  obtain ⟨s0, s1, s2, s3, s4, s5, s6, s7, rfl, hms⟩ := hv
  have HF := Lib.hid hf
  have BX := Lib.hid (bel_al w (.cells #[s0, s1, s2, s3, s4, s5, s6, s7, .int .i64 m.live, .int .i64 m.garb] 25))
  have HX := Lib.hid (heap_alloc_new w (.cells #[s0, s1, s2, s3, s4, s5, s6, s7, .int .i64 m.live, .int .i64 m.garb] 25))
  have MS := Lib.hid (ms_below hms BX.out)
  have SW := Lib.hid (show w.heap.size ≤ (w.alloc (.cells #[s0, s1, s2, s3, s4, s5, s6, s7, .int .i64 m.live, .int .i64 m.garb] 25)).heap.size from BX.out.size)
  obtain ⟨q, hq⟩ : ∃ q, q = okMb m := ⟨_, rfl⟩
  rw [← hq]
  have HQ := Lib.hid hq
  clear hms hf hq
  go_enter Try.func17, Try.ntmps17
  go_upto_region 1 with fail
  generalize w.alloc (.cells #[s0, s1, s2, s3, s4, s5, s6, s7, .int .i64 m.live, .int .i64 m.garb] 25) = W1 at *
  go_wp2_with fail
  go_loopw [3, 4] (fun t3 t4 wr => ∃ (k : Nat) (T : Int), k ≤ 8 ∧ t4 = .int .i64 (k : Int) ∧ t3 = .int .i64 T ∧ Hid (T = byT (m.st.take k).flatten) ∧ Hid (okSt m k) ∧ Hid (Below W1.heap.size W1 wr)) (fun _ t _ => 8 - (intOf t).toNat)
  case atStart => exact ⟨0, 0, by omega, rfl, rfl, Lib.hid rfl, Lib.hid (fun s hs => by omega), Lib.hid (Below.refl _ _)⟩
  case round =>
    obtain ⟨k, T, hk, rfl, rfl, HT, HO, BR⟩ := hrel
    rename World => wl
    have HXl := Lib.hid ((BR.out.block _ (lt_of_some HX.out)).trans HX.out)
    by_cases hlt : k < 8
    case neg =>
      have l1 : decide ((k : Int) < 8) = false := decide_eq_false (by omega)
      have l2 : decide (k < 8) = false := decide_eq_false hlt
      have HO8 := Lib.hid (show okSt m 8 by rw [show 8 = k by omega]; exact HO.out)
      have HIF := Lib.hid (show okM m ↔ okSt m 8 ∧ m.live = T ∧ 0 ≤ m.garb ∧ m.garb ≤ 1099511627776 by
        have h : T = byT m.st.flatten := by rw [HT.out, List.take_of_length_le (by have := MS.out.1; omega)]
        rw [h]
        exact okM_iff)
      have BL := Lib.hid (BX.out.trans (BR.out.mono SW.out))
      obtain ⟨-, -, -, -, -, -, -, -, x8, x9⟩ := bx10 HXl.out
      clear hlt hk HO HT
      by_cases c1 : m.live = T
      case neg =>
        have hqf : q = false := by rw [HQ.out]; exact okMb_f fun h => c1 (HIF.out.1 h).2.1
        have l3 : (m.live == T) = false := by simpa using c1
        have l4 : decide (m.live = T) = false := decide_eq_false c1
        clear c1
        subst hqf
        go_wp2_with fail
        go_ret
        exact ⟨rfl, BL.out⟩
      have l3 : (m.live == T) = true := by simpa using c1
      have l4 : decide (m.live = T) = true := decide_eq_true c1
      have l5 : (T == T) = true := by simp
      by_cases c2 : 0 ≤ m.garb
      case neg =>
        have hqf : q = false := by rw [HQ.out]; exact okMb_f fun h => c2 (HIF.out.1 h).2.2.1
        have l6 : decide (0 ≤ m.garb) = false := decide_eq_false c2
        clear c1 c2
        subst hqf
        go_wp2_with fail
        go_ret
        exact ⟨rfl, BL.out⟩
      have l6 : decide (0 ≤ m.garb) = true := decide_eq_true c2
      by_cases c3 : m.garb ≤ 1099511627776
      case neg =>
        have hqf : q = false := by rw [HQ.out]; exact okMb_f fun h => c3 (HIF.out.1 h).2.2.2
        have l7 : decide (m.garb ≤ 1099511627776) = false := decide_eq_false c3
        clear c1 c2 c3
        subst hqf
        go_wp2_with fail
        go_ret
        exact ⟨rfl, BL.out⟩
      have hqt : q = true := by rw [HQ.out]; exact okMb_t (HIF.out.2 ⟨HO8.out, c1, c2, c3⟩)
      have l7 : decide (m.garb ≤ 1099511627776) = true := decide_eq_true c3
      clear c1 c2 c3
      subst hqt
      go_wp2_with fail
      go_ret
      exact ⟨rfl, BL.out⟩
    have l1 : decide ((k : Int) < 8) = true := decide_eq_true (by omega)
    have l2 : decide (k < 8) = true := decide_eq_true hlt
    have HK := Lib.hid hlt
    obtain ⟨a, c, hsel, hit⟩ := MS.out.2.2.2 k hlt
    have hcell := bxk HXl.out hlt hsel
    obtain ⟨L, hL⟩ : ∃ z, z = ms m k := ⟨_, rfl⟩
    have hln := HF.out k hlt
    rw [← hL] at hsel hit hln hcell
    have IT := Lib.hid (it_below hit BR.out)
    have PV := Lib.hid (rvalid8_any _ L wl IT.out)
    obtain ⟨n, hn⟩ : ∃ z, z = L.length := ⟨_, rfl⟩
    rw [← hn] at hcell PV IT hln
    have HN := Lib.hid (And.intro hn hln)
    have HML := Lib.hid hL
    have HC := Lib.hid hcell
    have p0 : (0 : Int) ≤ (k : Int) := by omega
    have p1 : (k : Int) < 8 := by omega
    clear hsel hit hL hn hlt hk hln
    by_cases c1 : okT L
    case neg =>
      have hqf : q = false := by rw [HQ.out]; exact okMb_f fun h => c1 (by rw [HML.out]; exact h.ok k HK.out)
      rw [decide_eq_false c1] at PV
      clear c1
      subst hqf
      go_wp2_with fail
      refine PV.out.mono ?_
      rintro e w2 ⟨rfl, hb⟩
      have B2 := Lib.hid (BX.out.trans ((BR.out.trans (hb.mono BR.out.size)).mono SW.out))
      clear hb
      go_wp2_with fail
      go_ret
      exact ⟨rfl, B2.out⟩
    rw [decide_eq_true c1] at PV
    have HOKL := Lib.hid c1
    clear c1
    go_wp2_with fail
    refine PV.out.mono ?_
    rintro e w2 ⟨rfl, hb⟩
    have B2 := Lib.hid (BR.out.trans (hb.mono BR.out.size))
    have IT2 := Lib.hid (it_below IT.out hb)
    have hcell := (hb.cell (block_lt_of_cell HC.out)).trans HC.out
    clear hb PV l1 l2 IT HC
    have HC := Lib.hid hcell
    clear hcell
    go_wp2_with fail
    go_loop [5] (fun t5 => ∃ i : Nat, i ≤ n ∧ t5 = .int .i64 (i : Int) ∧ Hid (∀ x ∈ L.take i, sp x.key = k)) (fun t => n - (intOf t).toNat)
    case atStart => exact ⟨0, by omega, rfl, Lib.hid (by simp)⟩
    case round =>
      obtain ⟨i, hi, rfl, HS⟩ := hrel
      have hcell := HC.out
      by_cases hlt : i < n
      case neg =>
        have l1 : decide ((i : Int) < (n : Int)) = false := decide_eq_false (by omega)
        have l2 : decide (i < n) = false := decide_eq_false hlt
        have HSL := Lib.hid (show ∀ x ∈ L, sp x.key = k from fun x hx => HS.out x (by rw [List.take_of_length_le (by have := HN.out.1; omega)]; exact hx))
        have HO1 := Lib.hid (show okSt m (k + 1) from fun s hs => by
          rcases Nat.lt_or_ge s k with h | h
          · exact HO.out s h
          · obtain rfl : s = k := by omega
            rw [← HML.out]
            exact ⟨HOKL.out, HSL.out⟩)
        have PB := Lib.hid (rbytes11_any _ L w2 IT2.out (by have := HN.out; omega))
        have hst := byT_take_st (m := m) MS.out.1 HK.out
        have hb1 := byT_bd (m.st.take k).flatten
        have hb2 := flat_len HF.out MS.out.1 k (by have := HK.out; omega)
        have hb3 := byT_bd L
        have hk8 := HK.out
        obtain ⟨T1, hT1⟩ : ∃ z, z = T + byT L := ⟨_, rfl⟩
        have ew := Lib.hid (show wrap64 (T + byT L) = T1 by
          have h1 := HT.out
          have h2 := HN.out
          rw [hT1]
          unfold wrap64
          omega)
        have HT1 := Lib.hid (show T1 = byT (m.st.take (k + 1)).flatten by rw [hst, hT1, HT.out, HML.out])
        clear hlt hi HS HT HO hst hb1 hb2 hb3 hk8 hT1
        generalize byT L = bL at *
        go_wp2_with fail
        refine PB.out.mono ?_
        rintro e w3 ⟨rfl, rfl⟩
        go_wp2_with fail
        go_roundw
        case rel =>
          have h1 := HK.out
          exact ⟨k + 1, T1, by omega, rfl, by rw [ew.out], HT1, HO1, B2⟩
        case measure =>
          have h1 := HK.out
          simp [intOf]; omega
      have l1 : decide ((i : Int) < (n : Int)) = true := decide_eq_true (by omega)
      have l2 : decide (i < n) = true := decide_eq_true hlt
      have HI := Lib.hid hlt
      have EI := Lib.hid (show wrap64 ((i : Int) + 1) = ((i + 1 : Nat) : Int) by have := HN.out; unfold wrap64; omega)
      obtain ⟨b, off, cap, hv, -, -, hc⟩ := it_cells IT2.out (by have := HN.out.1; omega)
      simp only [Value.slice.injEq] at hv
      obtain ⟨rfl, -, -⟩ := hv
      have C := hc i (by have := HN.out.1; omega)
      obtain ⟨y, hy⟩ : ∃ z, z = L.getD i z0 := ⟨_, rfl⟩
      rw [← hy] at C
      have HY := Lib.hid hy
      obtain ⟨k0, k1, k2, k3⟩ := C
      have ST := Lib.hid (rstripe_any y.key w2)
      have p2 : (0 : Int) ≤ (i : Int) := by omega
      have p3 : (i : Int) < (n : Int) := by omega
      clear hc hy hlt hi
      by_cases hsp : sp y.key = k
      case neg =>
        have l3 : (((sp y.key : Nat) : Int) != (k : Int)) = true := by rw [bne_iff_ne]; omega
        have hqf : q = false := by
          rw [HQ.out]
          refine okMb_f fun h => hsp ?_
          have h2 := h.sp k HK.out y (by rw [← HML.out, HY.out]; exact getT_mem (by have h1 := HI.out; have h2 := HN.out.1; omega))
          exact h2
        have B3 := Lib.hid (BX.out.trans (B2.out.mono SW.out))
        clear hsp HS
        subst hqf
        generalize sp y.key = u at *
        go_wp2_with fail
        refine ST.out.mono ?_
        rintro e w3 ⟨rfl, rfl⟩
        go_wp2_with fail
        go_ret
        exact ⟨rfl, B3.out⟩
      have l3 : (((sp y.key : Nat) : Int) != (k : Int)) = false := by rw [bne_eq_false_iff_eq]; omega
      have HS1 := Lib.hid (spTo_succ HS.out (by have := HI.out; have := HN.out.1; omega) (by rw [← HY.out]; exact hsp))
      clear hsp HS
      generalize sp y.key = u at *
      go_wp2_with fail
      refine ST.out.mono ?_
      rintro e w3 ⟨rfl, rfl⟩
      go_wp2_with fail
      go_round
      case rel =>
        have h1 := HI.out
        exact ⟨i + 1, by omega, by rw [EI.out], HS1⟩
      case measure =>
        have h1 := HI.out
        rw [EI.out]
        simp [intOf]; omega
end Go.Proofs.Ytlooldnaoooehaa.Gf
