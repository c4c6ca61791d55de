/- What is proved here: records of the program: what all items of a map count. -/
import Derived.Test.YtempgcnpfjhacaaP11b
namespace Go.Proofs.Ytempgcnpfjhacaa.Gf
open Go Go.Joins Go.ChangeShapes Go.WideShapes Go.ChangeAt Go.RowKit Go.Deep Go.Proofs.Ytempgcnpfjhacaa.By Go.Proofs.Ytempgcnpfjhacaa.Qt

theorem csum {a b c d : Int} (ha : a.natAbs < 2 ^ 53) (hb : b.natAbs < 2 ^ 53) (hc : c.natAbs < 2 ^ 53) (hd : d.natAbs < 2 ^ 53) (h1 : (a + c).natAbs < 2 ^ 53) (h2 : (b + d).natAbs < 2 ^ 53) : cSumBits .add .f64 (flw a) (flw b) (flw c) (flw d) = some (flw (a + c), flw (b + d)) := by
  unfold cSumBits
  rw [add_flw ha hc h1, add_flw hb hd h2]
  rfl
/-- Few items in each stripe. -/
def Few (m : Mp) : Prop := ∀ k, k < 8 → (ms m k).length ≤ 1000
theorem flat_len {m : Mp} (h : Few m) (hl : m.st.length = 8) : ∀ s, s ≤ 8 → (m.st.take s).flatten.length ≤ 1000 * s
  | 0, _ => by simp
  | s + 1, hs => by
    have ih := flat_len h hl s (by omega)
    have := h s (by omega)
    rw [List.take_succ_eq_append_getElem (by omega), List.flatten_append, List.length_append, ← ms_of (by omega), show [ms m s].flatten = ms m s by simp]
    omega
theorem byT_take_st {m : Mp} (hl : m.st.length = 8) {s : Nat} (hs : s < 8) : byT (m.st.take (s + 1)).flatten = byT (m.st.take s).flatten + byT (ms m s) := by
  rw [List.take_succ_eq_append_getElem (by omega), List.flatten_append, byT_append, ← ms_of (by omega), show [ms m s].flatten = ms m s by simp]
theorem byT_takeI {L : List Itm} {i : Nat} (hi : i < L.length) : byT (L.take (i + 1)) = byT (L.take i) + szT (L.getD i z0) := by
  rw [take_snocT hi, byT_append, byT_cons, byT_nil]
  omega
/-- A sum of records as a complex number. -/
def Cx (z0' z1' : Nat) (a b : Int) : Prop := z0' = flw a ∧ z1' = flw b
set_option maxRecDepth 100000 in
set_option maxHeartbeats 12800000 in
theorem precords_any (v : Value) (m : Mp) (w : World) (hv : Mv w v m) (hf : Few m) : Calls Try.prog 32 #[v] w fun e w' => e = .returned (.complex .f64 (flw (byT m.st.flatten)) (flw 0)) ∧ Below w.heap.size w w' := by
  obtain ⟨s0, s1, s2, s3, s4, s5, s6, s7, rfl, hms⟩ := hv
  have HL := Lib.hid hms.1
  have HF := Lib.hid hf
  have BX := Lib.hid (bel_al w (.cells #[s0, s1, s2, s3, s4, s5, s6, s7, .int .i64 m.live, .int .i64 m.garb] 44))
  have HX := Lib.hid (heap_alloc_new w (.cells #[s0, s1, s2, s3, s4, s5, s6, s7, .int .i64 m.live, .int .i64 m.garb] 44))
  have MS := Lib.hid (ms_below hms BX.out)
  clear hms hf
  go_enter Try.func32, Try.ntmps32
  go_upto_region 1 with fail
  generalize w.alloc (.cells #[s0, s1, s2, s3, s4, s5, s6, s7, .int .i64 m.live, .int .i64 m.garb] 44) = W1 at *
  obtain ⟨x0, x1, x2, x3, x4, x5, x6, x7, x8, x9⟩ := bx10 HX.out
  go_wp2_with fail
  clear x0 x1 x2 x3 x4 x5 x6 x7 x8 x9
  go_loopw [3, 10] (fun t3 t10 wr => ∃ (k y z : Nat), k ≤ 8 ∧ t10 = .int .i64 (k : Int) ∧ t3 = .complex .f64 y z ∧ Hid (Cx y z (byT (m.st.take k).flatten) 0) ∧ Hid (Below W1.heap.size W1 wr)) (fun _ t _ => 8 - (intOf t).toNat)
  case atStart => exact ⟨0, 0, 0, by omega, rfl, rfl, Lib.hid ⟨flw_zero.symm, flw_zero.symm⟩, Lib.hid (Below.refl _ _)⟩
  case round =>
    obtain ⟨k, y, z, hk, rfl, rfl, HC, BR⟩ := hrel
    rename World => wl
    by_cases hlt : k < 8
    case neg =>
      have l1 : decide ((k : Int) < 8) = false := decide_eq_false (by omega)
      have l2 : decide (k < 8) = false := decide_eq_false hlt
      have HE := Lib.hid (show y = flw (byT m.st.flatten) ∧ z = flw 0 by
        have h := HC.out
        rw [List.take_of_length_le (by have := HL.out; omega)] at h
        exact h)
      clear hlt hk HC
      go_wp2_with fail
      go_ret
      exact ⟨by rw [HE.out.1, HE.out.2]; rfl, BX.out.trans (BR.out.mono BX.out.size)⟩
    have l1 : decide ((k : Int) < 8) = true := decide_eq_true (by omega)
    have l2 : decide (k < 8) = true := decide_eq_true hlt
    have HK := Lib.hid hlt
    have EK := Lib.hid (show wrap64 ((k : Int) + 1) = ((k + 1 : Nat) : Int) by unfold wrap64; omega)
    obtain ⟨a, c, hsel, hit⟩ := MS.out.2.2.2 k hlt
    obtain ⟨L, hL⟩ : ∃ z, z = ms m k := ⟨_, rfl⟩
    rw [← hL] at hsel hit
    obtain ⟨n, hn⟩ : ∃ z, z = L.length := ⟨_, rfl⟩
    rw [← hn] at hsel hit
    have IT := Lib.hid (it_below hit BR.out)
    have HN := Lib.hid (show n = L.length ∧ n ≤ 1000 from ⟨hn, by rw [hn, hL]; exact HF.out k hlt⟩)
    have HML := Lib.hid hL
    have hix := run_index8 wl hlt hsel
    clear hsel hit hL hn hlt hk
    go_upto_region 5 with fail
    clear hix l1 l2
    go_wp2_with fail
    go_loopw [3, 15] (fun t3 t15 wr => ∃ (i y2 z2 : Nat), i ≤ n ∧ t15 = .int .i64 (i : Int) ∧ t3 = .complex .f64 y2 z2 ∧ Hid (Cx y2 z2 (byT (m.st.take k).flatten + byT (L.take i)) 0) ∧ Hid (Below wl.heap.size wl wr)) (fun _ t _ => n - (intOf t).toNat)
    case atStart => exact ⟨0, y, z, by omega, rfl, rfl, Lib.hid (by simpa [byT_nil] using HC.out), Lib.hid (Below.refl _ _)⟩
    case round =>
      clear HC
      obtain ⟨i, y2, z2, hi, rfl, rfl, HC, BQ⟩ := hrel
      rename World => wk
      by_cases hlt : i < n
      case neg =>
        have l1 : decide ((i : Int) < (n : Int)) = false := decide_eq_false (by omega)
        have l2 : decide (i < n) = false := decide_eq_false hlt
        have BE := Lib.hid (show Below W1.heap.size W1 wk from BR.out.trans (BQ.out.mono BR.out.size))
        have HE := Lib.hid (show Cx y2 z2 (byT (m.st.take (k + 1)).flatten) 0 by
          have h := HC.out
          rw [show L.take i = L from List.take_of_length_le (by have := HN.out.1; omega)] at h
          rw [byT_take_st HL.out HK.out, ← HML.out]
          exact h)
        clear hlt hi HC
        go_wp2_with fail
        go_roundw
        case rel =>
          have h1 := HK.out
          exact ⟨k + 1, y2, z2, by omega, by rw [EK.out], rfl, HE, BE⟩
        case measure =>
          have h1 := HK.out
          rw [EK.out]
          simp [intOf]; omega
      have l1 : decide ((i : Int) < (n : Int)) = true := decide_eq_true (by omega)
      have l2 : decide (i < n) = true := decide_eq_true hlt
      have HI := Lib.hid hlt
      have EI := Lib.hid (show wrap64 ((i : Int) + 1) = ((i + 1 : Nat) : Int) by have := HN.out; unfold wrap64; omega)
      obtain ⟨b, off, cap, hv, -, -, hc⟩ := it_cells (it_below IT.out BQ.out) (by have := HN.out.1; omega)
      obtain ⟨rfl, -⟩ : a = some ⟨b, off, none⟩ ∧ (n = L.length ∧ c = cap) := by simpa using hv
      have C := hc i (by have := HN.out.1; omega)
      have hok : ItOk (L.getD i z0) := getT_ok IT.out.1 i
      have hsum := byT_takeI (L := L) (i := i) (by have := HN.out.1; omega)
      obtain ⟨x, hx⟩ : ∃ z, z = L.getD i z0 := ⟨_, rfl⟩
      rw [← hx] at C hok hsum
      have PW := Lib.hid (fun W => pwritten_any x hok.sz W)
      obtain ⟨k0, k1, k2, k3⟩ := C
      have b1 := byT_bd (m.st.take k).flatten
      have b2 := flat_len HF.out HL.out k (by have := HK.out; omega)
      have b3 := byT_bd (L.take i)
      have b4 := szT_bd x
      have b5 : (L.take i).length ≤ 1000 := by rw [List.length_take]; have := HN.out; omega
      obtain ⟨y3, hy3⟩ : ∃ y3, y3 = flw (szT x) := ⟨_, rfl⟩
      obtain ⟨zz, hzz⟩ : ∃ zz, zz = flw 0 := ⟨_, rfl⟩
      obtain ⟨y4, hy4⟩ : ∃ y4, y4 = flw (byT (m.st.take k).flatten + byT (L.take i) + szT x) := ⟨_, rfl⟩
      have hz2 : z2 = zz := by rw [hzz]; exact HC.out.2
      subst hz2
      have hadd : cSumBits .add .f64 y2 z2 y3 z2 = some (y4, z2) := by
        have h := csum (a := byT (m.st.take k).flatten + byT (L.take i)) (b := 0) (c := szT x) (d := 0) (by have := HK.out; omega) (by decide) (by omega) (by decide) (by have := HK.out; omega) (by decide)
        rw [← HC.out.1, ← hy3, ← hy4, show (0 : Int) + 0 = 0 from rfl, ← hzz] at h
        exact h
      have HADD := Lib.hid (fun W => run_complex_sum (P := Try.prog) W .add (Or.inl rfl) 77 .f64 y2 z2 y3 z2 y4 z2 hadd)
      have HE := Lib.hid (show Cx y4 z2 (byT (m.st.take k).flatten + byT (L.take (i + 1))) 0 from ⟨by rw [hy4, hsum]; congr 1; omega, hzz⟩)
      rw [← hy3, ← hzz] at PW
      have p0 : (0 : Int) ≤ (i : Int) := by omega
      have p1 : (i : Int) < (n : Int) := by omega
      clear hv hc hok hsum hx hlt hi hadd hy3 hy4 hzz HC b1 b2 b3 b4 b5
      go_upto_region 8 with fail
      clear k0 k1 k2 k3 p0 p1 l1 l2
      have q1 := bel_al wk (.cells #[.int .u64 (x.key : Int), .int .u32 (x.ck : Int), .int .i64 x.off, .int .i64 x.sz] 35)
      have HB := Lib.hid (heap_alloc_new wk (.cells #[.int .u64 (x.key : Int), .int .u32 (x.ck : Int), .int .i64 x.off, .int .i64 x.sz] 35))
      have B1 := Lib.hid (BQ.out.trans (q1.mono BQ.out.size))
      clear q1
      generalize wk.alloc (.cells #[.int .u64 (x.key : Int), .int .u32 (x.ck : Int), .int .i64 x.off, .int .i64 x.sz] 35) = W2 at *
      obtain ⟨⟨x0, x1, x2, x3⟩, -⟩ := bx4 HB.out
      go_wp2_with fail
      clear x0 x1 x2 x3
      refine (PW.out _).mono ?_
      rintro e w3 ⟨rfl, hb⟩
      have hadd := HADD.out w3
      have B3 := Lib.hid (B1.out.trans (hb.mono B1.out.size))
      clear hb HADD PW
      go_wp2_with fail
      clear hadd
      go_roundw
      case rel =>
        have h1 := HI.out
        exact ⟨i + 1, y4, z2, by omega, by rw [EI.out], rfl, HE, B3⟩
      case measure =>
        have h1 := HI.out
        rw [EI.out]
        simp [intOf]; omega
end Go.Proofs.Ytempgcnpfjhacaa.Gf
