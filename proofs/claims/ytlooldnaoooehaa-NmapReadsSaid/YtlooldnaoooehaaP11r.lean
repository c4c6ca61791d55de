/- What is proved here: Items, Get and Len of the reference, the laws' light. -/
import Derived.Test.YtlooldnaoooehaaP11q
namespace Go.Proofs.Ytlooldnaoooehaa.Gf
open Go Go.Joins Go.ChangeShapes Go.WideShapes Go.ChangeAt Go.RowKit Go.Deep Go.Proofs.Ytlooldnaoooehaa.By Go.Proofs.Ytlooldnaoooehaa.Qt

set_option maxRecDepth 100000 in
set_option maxHeartbeats 12800000 in
theorem ritems11_any (v : Value) (m : Mp) (w : World) (hv : Mv w v m) (hf : Few m) : Calls Try.prog 22 #[v] w (LI w (itemsL m)) := by
  have HF := Lib.hid hf
  have PV := Lib.hid (fun W (h : Below w.heap.size w W) => rvalid11_any v m W (mv_below hv h) hf)
  obtain ⟨s0, s1, s2, s3, s4, s5, s6, s7, rfl, hms⟩ := hv
  have BX := Lib.hid (bel_al w (.cells #[s0, s1, s2, s3, s4, s5, s6, s7, .int .i64 m.live, .int .i64 m.garb] 25))
  have HX := Lib.hid (heap_alloc_new w (.cells #[s0, s1, s2, s3, s4, s5, s6, s7, .int .i64 m.live, .int .i64 m.garb] 25))
  have MS := Lib.hid (ms_below hms BX.out)
  have SW := Lib.hid (show w.heap.size ≤ (w.alloc (.cells #[s0, s1, s2, s3, s4, s5, s6, s7, .int .i64 m.live, .int .i64 m.garb] 25)).heap.size from BX.out.size)
  clear hms hf
  go_enter Try.func22, Try.ntmps22
  go_upto_region 1 with fail
  generalize w.alloc (.cells #[s0, s1, s2, s3, s4, s5, s6, s7, .int .i64 m.live, .int .i64 m.garb] 25) = W1 at *
  have OE := Lib.hid (show OwT W1 W1.heap.size (.slice none 0 0) (m.st.take 0).flatten from owT_nil _ _)
  go_wp2_with fail
  go_loopw [3, 4] (fun t3 t4 wr => ∃ k : Nat, k ≤ 8 ∧ t4 = .int .i64 (k : Int) ∧ Hid (OwT wr W1.heap.size t3 (m.st.take k).flatten) ∧ Hid (okM m ∨ k = 0) ∧ Hid (Below W1.heap.size W1 wr)) (fun _ t _ => 8 - (intOf t).toNat)
  case atStart => exact ⟨0, by omega, rfl, OE, Lib.hid (Or.inr rfl), Lib.hid (Below.refl _ _)⟩
  case round =>
    clear OE
    obtain ⟨k, hk, rfl, HO, HK0, BR⟩ := hrel
    rename World => wl
    obtain ⟨ao, co, rfl, -, -⟩ := owT_form HO.out
    have HLK := Lib.hid (show (m.st.take k).flatten.length ≤ 8000 by have := flat_len HF.out MS.out.1 k hk; omega)
    have HXl := Lib.hid ((BR.out.block _ (lt_of_some HX.out)).trans HX.out)
    have BL := Lib.hid (BX.out.trans (BR.out.mono SW.out))
    obtain ⟨no, hno⟩ : ∃ z, z = (m.st.take k).flatten.length := ⟨_, rfl⟩
    rw [← hno] at HO ⊢
    have HNO := Lib.hid hno
    clear hno
    by_cases hlt : k < 8
    case neg =>
      have l1 : decide ((k : Int) < 8) = false := decide_eq_false (by omega)
      have l2 : decide (k < 8) = false := decide_eq_false hlt
      have hok : okM m := HK0.out.resolve_right (by omega)
      have HR := Lib.hid (show sortL (m.st.take k).flatten = itemsL m by unfold itemsL; rw [if_pos hok, List.take_of_length_le (by have := MS.out.1; omega)]; rfl)
      have PS := Lib.hid (rsorted_any _ _ wl (owT_it HO.out) (by have := HLK.out; omega))
      rw [HR.out] at PS
      clear hlt hk hok HK0
      go_wp2_with fail
      refine PS.out.mono ?_
      rintro e w5 ⟨⟨v5, rfl, ho5⟩, hb⟩
      have B5 := Lib.hid (BL.out.trans (hb.mono BL.out.size))
      have I5 := Lib.hid (owT_it ho5)
      clear hb ho5 PS
      go_wp2_with fail
      go_ret
      exact ⟨⟨_, rfl, I5.out⟩, B5.out⟩
    have l1 : decide ((k : Int) < 8) = true := decide_eq_true (by omega)
    have l2 : decide (k < 8) = true := decide_eq_true hlt
    have PV1 := Lib.hid (PV.out wl BL.out)
    by_cases hok : okM m
    case neg =>
      rw [okMb_f hok] at PV1
      have hk0 : k = 0 := HK0.out.resolve_left hok
      have HI0 := Lib.hid (show itemsL m = [] by unfold itemsL; rw [if_neg hok])
      have PS := Lib.hid (fun W (h : Below wl.heap.size wl W) => rsorted_any _ _ W (it_below (owT_it HO.out) h) (by have := HLK.out; omega))
      have HS0 := Lib.hid (show sortL (m.st.take k).flatten = [] by rw [hk0]; rfl)
      rw [HS0.out] at PS
      obtain ⟨x0, x1, x2, x3, x4, x5, x6, x7, x8, x9⟩ := bx10 HXl.out
      clear hlt hk hok hk0
      go_wp2_with fail
      clear x0 x1 x2 x3 x4 x5 x6 x7 x8 x9
      refine PV1.out.mono ?_
      rintro e w4 ⟨rfl, hb4⟩
      have B4 := Lib.hid (BL.out.trans (hb4.mono BL.out.size))
      have PS4 := Lib.hid (PS.out w4 hb4)
      clear hb4 PV1 PS
      go_wp2_with fail
      refine PS4.out.mono ?_
      rintro e w5 ⟨⟨v5, rfl, ho5⟩, hb⟩
      have B5 := Lib.hid (B4.out.trans (hb.mono B4.out.size))
      have I5 := Lib.hid (owT_it ho5)
      clear hb ho5 PS4
      go_wp2_with fail
      go_ret
      exact ⟨⟨_, rfl, by rw [HI0.out]; exact I5.out⟩, B5.out⟩
    rw [okMb_t hok] at PV1
    have HK := Lib.hid hlt
    have HOK := Lib.hid hok
    have EK := Lib.hid (show wrap64 ((k : Int) + 1) = ((k + 1 : Nat) : Int) by unfold wrap64; omega)
    obtain ⟨a, c, hsel, hit⟩ := MS.out.2.2.2 k hlt
    have CE := Lib.hid (bxk HXl.out hlt hsel)
    have IT := Lib.hid (it_below hit BR.out)
    have HST := Lib.hid (show (m.st.take (k + 1)).flatten = (m.st.take k).flatten ++ ms m k by
      rw [List.take_succ_eq_append_getElem (by have := MS.out.1; omega), List.flatten_append, ← ms_of (by have := MS.out.1; omega)]
      simp)
    have HLE := Lib.hid (show (m.st.take k).flatten.length + (ms m k).length ≤ 100000000 by have := HLK.out; have := HF.out k hlt; omega)
    have p0 : (0 : Int) ≤ (k : Int) := by omega
    have p1 : (k : Int) < 8 := by omega
    obtain ⟨x0, x1, x2, x3, x4, x5, x6, x7, x8, x9⟩ := bx10 HXl.out
    clear hsel hit hlt hk hok HK0
    go_wp2_with fail
    clear x0 x1 x2 x3 x4 x5 x6 x7 x8 x9
    refine PV1.out.mono ?_
    rintro e w4 ⟨rfl, hb4⟩
    have O4 := Lib.hid (owT_below HO.out hb4)
    have B4 := Lib.hid (BR.out.trans (hb4.mono BR.out.size))
    have I4 := Lib.hid (it_below IT.out hb4)
    have hc4 := (hb4.cell (block_lt_of_cell CE.out)).trans CE.out
    have LE := Lib.hid (show W1.heap.size ≤ w4.heap.size from B4.out.size)
    clear hb4 PV1 HO IT l1 l2
    go_wp2_with (at_builtin; refine app_it (dst := some 18) ?_ ?_ O4.out I4.out HLE.out LE.out ?_; exact rfl; exact rfl; intro v9 w9 ho9 hg9; rw [← HST.out] at ho9; have O9 := Lib.hid ho9; have B9 := Lib.hid (below_grownT B4.out hg9 O4.out LE.out (Nat.le_refl _)); clear ho9 hg9 O4 I4 B4 hc4)
    go_roundw
    case rel =>
      have h1 := HK.out
      exact ⟨k + 1, by omega, by first | rfl | rw [EK.out], O9, Lib.hid (Or.inl HOK.out), B9⟩
    case measure =>
      have h1 := HK.out
      first | rw [EK.out] | skip
      simp [intOf]; omega
theorem rget_end {R : Ending → World → Prop} {W : World} {g : Nat} {tmps : Array Value} {k c d s : Value} (hp : tmps.getD 4 undef = .pointer (some ⟨g, 0, none⟩)) (hg : W.heap[g]? = some (.cells #[k, c, d, s] 37 (0, 0)))
    (hR : R (.returned (.tuple #[.agg #[k, c, d, s], tmps.getD 5 undef])) W) : bodyPost Try.prog Try.f15 R .ret { tmps := tmps, defers := [] } W :=
  bodyPost_ret (results_rt rfl _ _ g #[k, c, d, s] hp hg Try.underlying37 rfl infoT4) rfl hR
set_option maxRecDepth 100000 in
set_option maxHeartbeats 6400000 in
theorem rget11_any (v : Value) (m : Mp) (k : Nat) (w : World) (hv : Mv w v m) (hf : Few m) : Calls Try.prog 15 #[v, .int .u64 (k : Int)] w (FD w (itemsL m) k) := by
  have PI := Lib.hid (fun W (h : Below w.heap.size w W) => ritems11_any v m W (mv_below hv h) hf)
  obtain ⟨s0, s1, s2, s3, s4, s5, s6, s7, rfl, hms⟩ := hv
  have q1 := bel_al w (.cells #[s0, s1, s2, s3, s4, s5, s6, s7, .int .i64 m.live, .int .i64 m.garb] 25)
  have h1 := heap_alloc_new w (.cells #[s0, s1, s2, s3, s4, s5, s6, s7, .int .i64 m.live, .int .i64 m.garb] 25)
  have hsz : (w.alloc (.cells #[s0, s1, s2, s3, s4, s5, s6, s7, .int .i64 m.live, .int .i64 m.garb] 25)).heap.size = w.heap.size + 1 := by simp
  have q2 := bel_al (w.alloc (.cells #[s0, s1, s2, s3, s4, s5, s6, s7, .int .i64 m.live, .int .i64 m.garb] 25)) (.cells #[.int .u64 0, .int .u32 0, .int .i64 0, .int .i64 0] 37)
  have h2 := heap_alloc_new (w.alloc (.cells #[s0, s1, s2, s3, s4, s5, s6, s7, .int .i64 m.live, .int .i64 m.garb] 25)) (.cells #[.int .u64 0, .int .u32 0, .int .i64 0, .int .i64 0] 37)
  rw [hsz] at h2
  have HZ2 := Lib.hid h2
  have HM2 := Lib.hid ((q2.block _ (lt_of_some h1)).trans h1)
  have B2 := Lib.hid (q1.trans (q2.mono q1.size))
  clear hms hf q1 q2 h1 h2 hsz
  go_enter Try.func15, Try.ntmps15
  go_upto_region 1 with fail
  generalize (w.alloc (.cells #[s0, s1, s2, s3, s4, s5, s6, s7, .int .i64 m.live, .int .i64 m.garb] 25)).alloc (.cells #[.int .u64 0, .int .u32 0, .int .i64 0, .int .i64 0] 37) = W2 at *
  have PI2 := Lib.hid (PI.out W2 B2.out)
  clear PI
  obtain ⟨x0, x1, x2, x3, x4, x5, x6, x7, x8, x9⟩ := bx10 HM2.out
  go_wp2_with fail
  clear x0 x1 x2 x3 x4 x5 x6 x7 x8 x9
  refine PI2.out.mono ?_
  rintro e w3 ⟨⟨v3, rfl, hi3⟩, hb⟩
  have B3 := Lib.hid (B2.out.trans (hb.mono B2.out.size))
  have HZ3 := Lib.hid ((hb.block _ (lt_of_some HZ2.out)).trans HZ2.out)
  have PF := Lib.hid (rfind8_any v3 (itemsL m) k w3 hi3)
  unfold FD at PF ⊢
  obtain ⟨y, hy⟩ : ∃ y, y = fnL (itemsL m) k := ⟨_, rfl⟩
  obtain ⟨qq, hq⟩ : ∃ q, q = hasL (itemsL m) k := ⟨_, rfl⟩
  rw [← hy, ← hq] at PF
  have HYQ := Lib.hid (And.intro hy hq)
  obtain ⟨a3, c3, rfl, -, -⟩ := it_form hi3
  generalize (itemsL m).length = n3 at *
  clear hb PI2 HZ2 HM2 B2 hi3 hy hq
  go_wp2_with fail
  refine PF.out.mono ?_
  rintro e w5 ⟨rfl, hb⟩
  have B5 := Lib.hid (B3.out.trans (hb.mono B3.out.size))
  have HZ5 := Lib.hid ((hb.block _ (lt_of_some HZ3.out)).trans HZ3.out)
  clear hb HZ3 B3 PF
  obtain ⟨⟨d0, d1, d2, d3⟩, f0, f1, f2, f3⟩ := bx4 HZ5.out
  unfold TV
  go_wp2_with fail
  exact rget_end (g := w.heap.size + 1) rfl (set4J HZ5.out) ⟨by rw [← HYQ.out.1, ← HYQ.out.2]; rfl, below4J B5.out (Nat.le_succ _)⟩
set_option maxRecDepth 100000 in
set_option maxHeartbeats 6400000 in
theorem rlen11_any (v : Value) (m : Mp) (w : World) (hv : Mv w v m) (hf : Few m) : Calls Try.prog 19 #[v] w fun e w' => e = .returned (.int .i64 (((itemsL m).length : Nat) : Int)) ∧ Below w.heap.size w w' := by
  have PI := Lib.hid (fun W (h : Below w.heap.size w W) => ritems11_any v m W (mv_below hv h) hf)
  obtain ⟨s0, s1, s2, s3, s4, s5, s6, s7, rfl, hms⟩ := hv
  have BX := Lib.hid (bel_al w (.cells #[s0, s1, s2, s3, s4, s5, s6, s7, .int .i64 m.live, .int .i64 m.garb] 25))
  have HX := Lib.hid (heap_alloc_new w (.cells #[s0, s1, s2, s3, s4, s5, s6, s7, .int .i64 m.live, .int .i64 m.garb] 25))
  obtain ⟨n3, hn3⟩ : ∃ z, z = (itemsL m).length := ⟨_, rfl⟩
  rw [← hn3]
  have HN3 := Lib.hid hn3
  clear hms hf hn3
  go_enter Try.func19, Try.ntmps19
  go_upto_region 1 with fail
  generalize w.alloc (.cells #[s0, s1, s2, s3, s4, s5, s6, s7, .int .i64 m.live, .int .i64 m.garb] 25) = W1 at *
  have PI1 := Lib.hid (PI.out W1 BX.out)
  obtain ⟨x0, x1, x2, x3, x4, x5, x6, x7, x8, x9⟩ := bx10 HX.out
  clear PI
  go_wp2_with fail
  clear x0 x1 x2 x3 x4 x5 x6 x7 x8 x9
  refine PI1.out.mono ?_
  rintro e w3 ⟨⟨v3, rfl, hi3⟩, hb⟩
  have B3 := Lib.hid (BX.out.trans (hb.mono BX.out.size))
  obtain ⟨a3, c3, rfl, -, -⟩ := it_form hi3
  rw [← HN3.out]
  clear hb PI1 hi3
  go_wp2_with fail
  go_ret
  exact ⟨rfl, B3.out⟩
end Go.Proofs.Ytlooldnaoooehaa.Gf
