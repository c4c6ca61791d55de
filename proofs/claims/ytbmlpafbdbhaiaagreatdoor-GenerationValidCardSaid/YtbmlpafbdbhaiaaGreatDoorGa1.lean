/- What is proved here: the reference's Add of a generation, exact. -/
import Derived.Test.YtbmlpafbdbhaiaaGreatDoorGm7
namespace Go.Proofs.YtbmlpafbdbhaiaaGreatDoor.Gf
open Go Go.Joins Go.ChangeShapes Go.WideShapes Go.ChangeAt Go.RowKit Go.Deep Go.Proofs.YtbmlpafbdbhaiaaGreatDoor.By Go.Proofs.YtbmlpafbdbhaiaaGreatDoor.Qt
set_option maxRecDepth 100000
set_option maxHeartbeats 204800000
theorem w64_jA (x : Int) : J64 (wrap64 x) := by unfold J64 wrap64; omega
theorem nv_okR (key ck : Nat) (del : Bool) (dn : Nat) : (decide (dn ≤ 4096) && !(del && decide (0 < dn))) = decide (okR ⟨key, ck, del, (dn : Int)⟩) := by
  by_cases h1 : dn ≤ 4096 <;> cases del <;> by_cases h2 : 0 < dn <;> simp [okR, h1, h2] <;> omega
theorem radd_x (v : Value) (g : Ge) (N : Nat) (vk : Value) (l : List Rcd) (w : World) (hv : Gv w v g) (hfl : g.m.st.flatten.length ≤ N) (hN : N + l.length ≤ 890) (hk : Nx w vk l) : Calls Tryz.prog 28 #[v, vk] w (AddO g l w) := by
  have KX := Lib.hid hk
  obtain ⟨ak, ck0, rfl, -⟩ := hk
  obtain ⟨n, hn⟩ : ∃ q, q = l.length := ⟨_, rfl⟩
  have HN := Lib.hid hn
  rw [← hn] at KX hN ⊢
  clear hn
  obtain ⟨s0, s1, s2, s3, s4, s5, s6, s7, rfl, hm, hj⟩ := hv
  have q0 := al2 w (.cells #[.int .i64 g.num, .int .i64 g.rev, .int .i64 g.mode, .int .i64 g.size, s0, s1, s2, s3, s4, s5, s6, s7, .int .i64 g.m.live, .int .i64 g.m.garb] 43) (.cells #[.int .i64 0, .int .i64 0, .int .i64 0, .int .i64 0, .slice none 0 0, .slice none 0 0, .slice none 0 0, .slice none 0 0, .slice none 0 0, .slice none 0 0, .slice none 0 0, .slice none 0 0, .int .i64 0, .int .i64 0] 43)
  have HS := Lib.hid q0.1
  have HZ := Lib.hid q0.2.1
  have B0 := Lib.hid q0.2.2
  have MS := Lib.hid (ms_below hm q0.2.2)
  have ON0 := Lib.hid (gc_one hm)
  have HJ := Lib.hid hj
  have HFL0 := Lib.hid hfl
  have HNN := Lib.hid hN
  have HNK := Lib.hid (show n ≤ 890 by omega)
  have PV := Lib.hid (fun W (h : Gv W (.agg #[.int .i64 g.num, .int .i64 g.rev, .int .i64 g.mode, .int .i64 g.size, s0, s1, s2, s3, s4, s5, s6, s7, .int .i64 g.m.live, .int .i64 g.m.garb]) g) => rgvalid_any (.agg #[.int .i64 g.num, .int .i64 g.rev, .int .i64 g.mode, .int .i64 g.size, s0, s1, s2, s3, s4, s5, s6, s7, .int .i64 g.m.live, .int .i64 g.m.garb]) g W h (few_of hm.1 (by omega)) (by omega))
  clear q0 hm hj hfl hN
  go_enter Tryz.func28, Tryz.ntmps28
  go_upto_region 1 with fail
  generalize (w.alloc (.cells #[.int .i64 g.num, .int .i64 g.rev, .int .i64 g.mode, .int .i64 g.size, s0, s1, s2, s3, s4, s5, s6, s7, .int .i64 g.m.live, .int .i64 g.m.garb] 43)).alloc (.cells #[.int .i64 0, .int .i64 0, .int .i64 0, .int .i64 0, .slice none 0 0, .slice none 0 0, .slice none 0 0, .slice none 0 0, .slice none 0 0, .slice none 0 0, .slice none 0 0, .slice none 0 0, .int .i64 0, .int .i64 0] 43) = W0 at *
  obtain ⟨x0, x1, x2, x3, x4, x5, x6, x7, x8, x9, x10, x11, x12, x13⟩ := bx14 HS.out
  go_wp2_with fail
  clear x0 x1 x2 x3 x4 x5 x6 x7 x8 x9 x10 x11 x12 x13
  refine (PV.out W0 ⟨s0, s1, s2, s3, s4, s5, s6, s7, rfl, MS.out, HJ.out⟩).mono ?_
  rintro e W1 ⟨rfl, hb⟩
  have HS1 := Lib.hid ((hb.block _ (lt_of_some HS.out)).trans HS.out)
  have HZ1 := Lib.hid ((hb.block _ (lt_of_some HZ.out)).trans HZ.out)
  have MS1 := Lib.hid (ms_below MS.out hb)
  have B1 := Lib.hid (B0.out.trans (hb.mono B0.out.size))
  clear hb HS HZ MS B0 PV
  rcases Classical.em (okGe g) with h1 | h1
  case inr =>
    rw [okGb_f h1]
    have HBAD := Lib.hid (show ¬ (okGe g ∧ ∀ x ∈ l, okR x) from fun h => h1 h.1)
    clear h1
    go_wp2_with ((with_reducible refine storeRG (w.heap.size + 1) _ #[.int .i64 0, .int .i64 0, .int .i64 0, .int .i64 0, .slice none 0 0, .slice none 0 0, .slice none 0 0, .slice none 0 0, .slice none 0 0, .slice none 0 0, .slice none 0 0, .slice none 0 0, .int .i64 0, .int .i64 0] ?_ ?_ HZ1.out rfl rfl zg_one ?_); exact rfl; exact rfl)
    refine bodyPost_ret (results_rt (S := 43) rfl _ _ (w.heap.size + 1) #[.int .i64 0, .int .i64 0, .int .i64 0, .int .i64 0, .slice none 0 0, .slice none 0 0, .slice none 0 0, .slice none 0 0, .slice none 0 0, .slice none 0 0, .slice none 0 0, .slice none 0 0, .int .i64 0, .int .i64 0] rfl (setRow_heap _ _ _ _ _ _ HZ1.out) Tryz.underlying43 rfl infoRG14) rfl ?_
    exact addO_bad HBAD.out ⟨⟨_, rfl, g0_v _⟩, below_setRowM B1.out (Nat.le_succ _) _⟩
  rw [okGb_t h1]
  have HK := Lib.hid h1
  clear h1
  obtain ⟨x0, x1, x2, x3, x4, x5, x6, x7, x8, x9, x10, x11, x12, x13⟩ := bx14 HS1.out
  go_wp2_with fail
  clear x0 x1 x2 x3 x4 x5 x6 x7 x8 x9 x10 x11 x12 x13
  go_loopw [6, 7] (fun t6 t7 wr => ∃ i : Nat, i ≤ n ∧ t7 = .int .i64 (i : Int) ∧ t6 = .int .i64 (g.size + sumR (l.take i)) ∧ (∀ x ∈ l.take i, okR x) ∧ Below W1.heap.size W1 wr) (fun _ t _ => n - (intOf t).toNat)
  case atStart => exact ⟨0, Nat.zero_le _, rfl, by simp [sumR], (fun x hx => by simp at hx), Below.refl _ _⟩
  case round =>
    obtain ⟨i, hi, rfl, rfl, hP, hB⟩ := hrel
    rename World => wl
    have HP := Lib.hid hP
    obtain ⟨S, hS⟩ : ∃ S, S = g.size + sumR (l.take i) := ⟨_, rfl⟩
    rw [← hS]
    have HSE := Lib.hid hS
    clear hP hS
    have HS2 := Lib.hid ((hB.block _ (lt_of_some HS1.out)).trans HS1.out)
    have HZ2 := Lib.hid ((hB.block _ (lt_of_some HZ1.out)).trans HZ1.out)
    have MS2 := Lib.hid (ms_below MS1.out hB)
    have B2 := Lib.hid (B1.out.trans (hB.mono B1.out.size))
    have HB := Lib.hid hB
    clear hB
    by_cases hlt : i < n
    case neg =>
      obtain rfl : n = i := by omega
      have d1 : decide ((n : Int) < (n : Int)) = false := decide_eq_false (by omega)
      have HALL := Lib.hid (show l.take n = l from by rw [HN.out, List.take_length])
      have HSF := Lib.hid (show S = g.size + sumR l from by rw [HSE.out, HALL.out])
      have HOKR := Lib.hid (show ∀ x ∈ l, okR x from by have h := HP.out; rw [HALL.out] at h; exact h)
      clear hlt hi HS1 HZ1 MS1 B1 HB
      obtain ⟨x0, x1, x2, x3, x4, x5, x6, x7, x8, x9, x10, x11, x12, x13⟩ := bx14 HS2.out
      by_cases h2 : g.mode = 1
      case neg =>
        have d2 : decide (g.mode = 1) = false := decide_eq_false h2
        have d3 : (g.mode == 1) = false := beq_false_of_ne h2
        have d4 : (g.mode != 1) = true := by simp [h2]
        have HMO := Lib.hid h2
        clear h2
        go_wp2_with ((with_reducible refine storeRG (w.heap.size + 1) _ #[.int .i64 0, .int .i64 0, .int .i64 0, .int .i64 0, .slice none 0 0, .slice none 0 0, .slice none 0 0, .slice none 0 0, .slice none 0 0, .slice none 0 0, .slice none 0 0, .slice none 0 0, .int .i64 0, .int .i64 0] ?_ ?_ HZ2.out rfl rfl zg_one ?_); exact rfl; exact rfl)
        refine bodyPost_ret (results_rt (S := 43) rfl _ _ (w.heap.size + 1) #[.int .i64 0, .int .i64 0, .int .i64 0, .int .i64 0, .slice none 0 0, .slice none 0 0, .slice none 0 0, .slice none 0 0, .slice none 0 0, .slice none 0 0, .slice none 0 0, .slice none 0 0, .int .i64 0, .int .i64 0] rfl (setRow_heap _ _ _ _ _ _ HZ2.out) Tryz.underlying43 rfl infoRG14) rfl ?_
        exact addO_state HK.out HOKR.out HMO.out ⟨⟨_, rfl, g0_v _⟩, below_setRowM B2.out (Nat.le_succ _) _⟩
      have d2 : decide (g.mode = 1) = true := decide_eq_true h2
      have d3 : (g.mode == 1) = true := beq_iff_eq.2 h2
      have d4 : (g.mode != 1) = false := by rw [h2]; rfl
      have HMO := Lib.hid h2
      clear h2
      by_cases h3 : 1048576 < S
      · have d5 : decide (1048576 < S) = true := decide_eq_true h3
        have HFU := Lib.hid (show 1048576 < g.size + sumR l from by rw [← HSF.out]; exact h3)
        clear h3
        go_wp2_with ((with_reducible refine storeRG (w.heap.size + 1) _ #[.int .i64 0, .int .i64 0, .int .i64 0, .int .i64 0, .slice none 0 0, .slice none 0 0, .slice none 0 0, .slice none 0 0, .slice none 0 0, .slice none 0 0, .slice none 0 0, .slice none 0 0, .int .i64 0, .int .i64 0] ?_ ?_ HZ2.out rfl rfl zg_one ?_); exact rfl; exact rfl)
        refine bodyPost_ret (results_rt (S := 43) rfl _ _ (w.heap.size + 1) #[.int .i64 0, .int .i64 0, .int .i64 0, .int .i64 0, .slice none 0 0, .slice none 0 0, .slice none 0 0, .slice none 0 0, .slice none 0 0, .slice none 0 0, .slice none 0 0, .slice none 0 0, .int .i64 0, .int .i64 0] rfl (setRow_heap _ _ _ _ _ _ HZ2.out) Tryz.underlying43 rfl infoRG14) rfl ?_
        exact addO_full HK.out HOKR.out HMO.out HFU.out ⟨⟨_, rfl, g0_v _⟩, below_setRowM B2.out (Nat.le_succ _) _⟩
      have d5 : decide (1048576 < S) = false := decide_eq_false h3
      have HTOP := Lib.hid (show g.size + sumR l ≤ 1048576 from by rw [← HSF.out]; omega)
      clear h3
      go_wp2_with fail
      clear x0 x1 x2 x3 x4 x5 x6 x7 x8 x9 x10 x11 x12 x13
      clear d1 d2 d3 d4 d5
      go_loopw [8, 9, 10] (fun t8 _ _ wr => ∃ i : Nat, i ≤ n ∧ t8 = .int .i64 (i : Int) ∧ ∃ (m : Mp) (sz : Int) (t0 t1 t2 t3 t4 t5 t6 t7 : Value), wr.heap[w.heap.size]? = some (.cells #[.int .i64 g.num, .int .i64 g.rev, .int .i64 g.mode, .int .i64 sz, t0, t1, t2, t3, t4, t5, t6, t7, .int .i64 m.live, .int .i64 m.garb] 43 (0, 0)) ∧ wr.heap[w.heap.size + 1]? = some (.cells #[.int .i64 0, .int .i64 0, .int .i64 0, .int .i64 0, .slice none 0 0, .slice none 0 0, .slice none 0 0, .slice none 0 0, .slice none 0 0, .slice none 0 0, .slice none 0 0, .slice none 0 0, .int .i64 0, .int .i64 0] 43 (0, 0)) ∧ Ms wr [t0, t1, t2, t3, t4, t5, t6, t7] m ∧ J64 sz ∧ m.st.flatten.length ≤ N + i ∧ m = (addL g.m g.size (l.take i)).1 ∧ sz = g.size + sumR (l.take i) ∧ Below w.heap.size w wr) (fun t _ _ _ => n - (intOf t).toNat)
      case atStart => exact ⟨0, Nat.zero_le _, rfl, g.m, g.size, s0, s1, s2, s3, s4, s5, s6, s7, HS2.out, HZ2.out, MS2.out, HJ.out.2.2.2, HFL0.out, rfl, by simp [sumR], B2.out⟩
      case round =>
        obtain ⟨i, hi, rfl, m, sz, t0, t1, t2, t3, t4, t5, t6, t7, hx, hzz, hms, hjs, hfl, hma, hsa, hB⟩ := hrel
        rename World => wl2
        have HX := Lib.hid hx
        have HZ := Lib.hid hzz
        have HMS := Lib.hid hms
        have HFL := Lib.hid hfl
        have HJS := Lib.hid hjs
        have HB := Lib.hid hB
        have HMA := Lib.hid hma
        have HSA := Lib.hid hsa
        clear hx hzz hms hfl hB hjs hma hsa
        by_cases hlt : i < n
        case neg =>
          obtain rfl : i = n := by omega
          have d1 : decide ((i : Int) < (i : Int)) = false := decide_eq_false (by omega)
          have ON := Lib.hid (gc_one (g := ⟨g.num, g.rev, g.mode, sz, m⟩) HMS.out)
          have HME := Lib.hid (show m = (addL g.m g.size l).1 from by rw [HMA.out, HALL.out])
          have HEE := Lib.hid (show sz = g.size + sumR l from by rw [HSA.out, HALL.out])
          clear hlt hi
          obtain ⟨x0, x1, x2, x3, x4, x5, x6, x7, x8, x9, x10, x11, x12, x13⟩ := bx14 HX.out
          go_wp2_with ((with_reducible refine storeRG (w.heap.size + 1) _ #[.int .i64 g.num, .int .i64 g.rev, .int .i64 g.mode, .int .i64 sz, t0, t1, t2, t3, t4, t5, t6, t7, .int .i64 m.live, .int .i64 m.garb] ?_ ?_ HZ.out rfl rfl ON.out ?_); exact rfl; exact rfl)
          refine bodyPost_ret (results_rt (S := 43) rfl _ _ (w.heap.size + 1) #[.int .i64 g.num, .int .i64 g.rev, .int .i64 g.mode, .int .i64 sz, t0, t1, t2, t3, t4, t5, t6, t7, .int .i64 m.live, .int .i64 m.garb] rfl (setRow_heap _ _ _ _ _ _ HZ.out) Tryz.underlying43 rfl infoRG14) rfl ?_
          exact addO_ok HK.out HOKR.out HMO.out HTOP.out HEE.out HME.out ⟨⟨_, rfl, ⟨t0, t1, t2, t3, t4, t5, t6, t7, rfl, ms_setRowF HMS.out HZ.out zeroG_u64, HJ.out.1, HJ.out.2.1, HJ.out.2.2.1, HJS.out⟩⟩, below_setRowM HB.out (Nat.le_succ _) _⟩
        have d1 : decide ((i : Int) < (n : Int)) = true := decide_eq_true (by omega)
        have d2 : decide (i < n) = true := decide_eq_true hlt
        obtain ⟨b, off, rfl, NN⟩ := nx_at (nx_below KX.out HB.out) hlt
        have HTK := Lib.hid (take_snocR (show i < l.length by have := HN.out; omega))
        obtain ⟨x, hx⟩ : ∃ q, q = l.getD i r0 := ⟨_, rfl⟩
        rw [← hx] at NN HTK
        have HXM := Lib.hid (show okR x from HOKR.out x (by rw [hx]; exact getD_memR (by have := HN.out; omega)))
        clear hx
        obtain ⟨key, ck, del, z9⟩ := x
        obtain ⟨da, dn, dc, hsz, hdn, hk1, hk2, k0, k1, k2, k3⟩ := NN
        simp only at hsz hdn hk1 hk2 k0 k1 k2 k3 HXM
        subst hsz
        have HJD := Lib.hid (show J64 (dn : Int) by unfold J64; unfold maxLen at hdn; omega)
        have p0 : (0 : Int) ≤ (i : Int) := by omega
        have p1 : (i : Int) < (n : Int) := by omega
        have HI := Lib.hid hlt
        have hz := heap_alloc_new wl2 (.cells #[.int .u64 0, .int .u32 0, .bool false, .slice none 0 0] 67)
        have HOK := Lib.hid (And.intro hk1 hk2)
        clear hk1 hk2 hdn hlt hi
        go_upto_region 18 with ((with_reducible refine storeN wl2.heap.size _ #[.int .u64 (key : Int), .int .u32 (ck : Int), .bool del, .slice da dn dc] ?_ ?_ hz rfl rfl (nv_one key ck del da dn dc) ?_); exact rfl; exact rfl)
        rw [World.setRow_alloc_new]
        clear k0 k1 k2 k3 p0 p1 d1 d2 hz
        have hb := bel_al wl2 (.cells #[.int .u64 (key : Int), .int .u32 (ck : Int), .bool del, .slice da dn dc] 67)
        have HNX := Lib.hid (heap_alloc_new wl2 (.cells #[.int .u64 (key : Int), .int .u32 (ck : Int), .bool del, .slice da dn dc] 67))
        have HXa := Lib.hid ((hb.block _ (lt_of_some HX.out)).trans HX.out)
        have HZa := Lib.hid ((hb.block _ (lt_of_some HZ.out)).trans HZ.out)
        have MSa := Lib.hid (ms_below HMS.out hb)
        have Ba := Lib.hid (HB.out.trans (hb.mono HB.out.size))
        have HUF := Lib.hid (msG_u64 HMS.out g.num g.rev g.mode sz m.live m.garb)
        have HF8 := Lib.hid HMS.out.1
        clear hb HX HZ HMS HB
        generalize wl2.alloc (.cells #[.int .u64 (key : Int), .int .u32 (ck : Int), .bool del, .slice da dn dc] 67) = wa at *
        generalize wl2.heap.size = gx at *
        obtain ⟨Z, hZ⟩ : ∃ Z, Z = szI6 dn := ⟨_, rfl⟩
        have HJZ := Lib.hid (show J64 Z by rw [hZ]; exact szI6_j _)
        obtain ⟨E, hE⟩ : ∃ E, wrap64 (sz + Z) = E := ⟨_, rfl⟩
        have HE := Lib.hid hE
        have HJE := Lib.hid (show J64 E by rw [← hE]; exact w64_jA _)
        have HZZ := Lib.hid hZ
        have HSN := Lib.hid (show sz + Z = g.size + sumR (l.take (i + 1)) from by rw [HTK.out, sumR_snoc, HSA.out, hZ]; simp only; omega)
        have HEE := Lib.hid (show E = g.size + sumR (l.take (i + 1)) from by
          have h1 := sumR_take l (i + 1)
          have h2 := sumR_lo (l.take (i + 1))
          have h3 := HSN.out
          have h4 := HTOP.out
          have h5 := HK.out.hd.s0
          rw [← hE]
          unfold wrap64
          omega)
        have HMX := Lib.hid (show (addL g.m g.size (l.take (i + 1))).1 = if del = true then wasteM (delM m key) Z else putM m ⟨key, ck, sz, (dn : Int)⟩ from by
          rw [HTK.out, addL_snoc]
          unfold addR
          rw [addL_sz, ← HMA.out, ← HSA.out, hZ])
        clear hE hZ
        obtain ⟨⟨y0, y1, y2, y3⟩, -⟩ := bx4 HNX.out
        go_wp2_with fail
        refine (rsize6_any dn wa HJD.out).mono ?_
        rintro e _ ⟨rfl, rfl⟩
        rw [← HZZ.out]
        obtain ⟨x0, x1, x2, x3, x4, x5, x6, x7, x8, x9, x10, x11, x12, x13⟩ := bx14 HXa.out
        cases del
        · go_wp2_with fail
          refine (rput11_any (.agg #[t0, t1, t2, t3, t4, t5, t6, t7, .int .i64 m.live, .int .i64 m.garb]) m ⟨key, ck, sz, (dn : Int)⟩ wa ⟨t0, t1, t2, t3, t4, t5, t6, t7, rfl, MSa.out⟩ (few_of HF8.out (Nat.le_trans HFL.out (by have := HNN.out; have := HI.out; omega))) (Nat.le_trans HFL.out (by have := HNN.out; have := HI.out; omega)) ⟨HOK.out.1, HOK.out.2, HJS.out, HJD.out⟩).mono ?_
          rintro e V ⟨⟨v2, rfl, hv⟩, hb⟩
          have HXv := Lib.hid ((hb.block _ (lt_of_some HXa.out)).trans HXa.out)
          have HZv := Lib.hid ((hb.block _ (lt_of_some HZa.out)).trans HZa.out)
          have Bv := Lib.hid (Ba.out.trans (hb.mono Ba.out.size))
          clear y0 y1 y2 y3 hb HXa HZa Ba
          clear x0 x1 x2 x3 x4 x5 x6 x7 x8 x9 x10 x11 x12 x13
          obtain ⟨v0, v1, v2, v3, v4, v5, v6, v7, rfl, hms⟩ := hv
          have ON := Lib.hid (ms_one hms (putM m ⟨key, ck, sz, (dn : Int)⟩).live (putM m ⟨key, ck, sz, (dn : Int)⟩).garb)
          have hw9 : V.setCells w.heap.size 4 (#[v0, v1, v2, v3, v4, v5, v6, v7, .int .i64 (putM m ⟨key, ck, sz, (dn : Int)⟩).live, .int .i64 (putM m ⟨key, ck, sz, (dn : Int)⟩).garb] : Array Value).toList = V.setRow w.heap.size #[.int .i64 g.num, .int .i64 g.rev, .int .i64 g.mode, .int .i64 sz, v0, v1, v2, v3, v4, v5, v6, v7, .int .i64 (putM m ⟨key, ck, sz, (dn : Int)⟩).live, .int .i64 (putM m ⟨key, ck, sz, (dn : Int)⟩).garb] := setMap HXv.out
          have UF := Lib.hid HUF.out
          have MS2 := Lib.hid (ms_setRowF hms HXv.out UF.out (cs := #[.int .i64 g.num, .int .i64 g.rev, .int .i64 g.mode, .int .i64 sz, v0, v1, v2, v3, v4, v5, v6, v7, .int .i64 (putM m ⟨key, ck, sz, (dn : Int)⟩).live, .int .i64 (putM m ⟨key, ck, sz, (dn : Int)⟩).garb]))
          have HX2 := Lib.hid (setRow_heap V w.heap.size _ #[.int .i64 g.num, .int .i64 g.rev, .int .i64 g.mode, .int .i64 sz, v0, v1, v2, v3, v4, v5, v6, v7, .int .i64 (putM m ⟨key, ck, sz, (dn : Int)⟩).live, .int .i64 (putM m ⟨key, ck, sz, (dn : Int)⟩).garb] _ _ HXv.out)
          have HZ2 := Lib.hid ((setRow_other V w.heap.size (w.heap.size + 1) #[.int .i64 g.num, .int .i64 g.rev, .int .i64 g.mode, .int .i64 sz, v0, v1, v2, v3, v4, v5, v6, v7, .int .i64 (putM m ⟨key, ck, sz, (dn : Int)⟩).live, .int .i64 (putM m ⟨key, ck, sz, (dn : Int)⟩).garb] (by omega)).trans HZv.out)
          have B2 := Lib.hid (below_setRowM Bv.out (Nat.le_refl _) #[.int .i64 g.num, .int .i64 g.rev, .int .i64 g.mode, .int .i64 sz, v0, v1, v2, v3, v4, v5, v6, v7, .int .i64 (putM m ⟨key, ck, sz, (dn : Int)⟩).live, .int .i64 (putM m ⟨key, ck, sz, (dn : Int)⟩).garb])
          have HFX := Lib.hid (fl_put HFL.out ⟨key, ck, sz, (dn : Int)⟩)
          have HM5 := Lib.hid (show putM m ⟨key, ck, sz, (dn : Int)⟩ = (addL g.m g.size (l.take (i + 1))).1 from by have h := HMX.out; simp only [Bool.false_eq_true, if_false] at h; exact h.symm)
          clear hms
          go_upto_region 22 with ((with_reducible refine storeRM w.heap.size _ #[v0, v1, v2, v3, v4, v5, v6, v7, .int .i64 (putM m ⟨key, ck, sz, (dn : Int)⟩).live, .int .i64 (putM m ⟨key, ck, sz, (dn : Int)⟩).garb] ?_ ?_ HXv.out rfl rfl ON.out hw9 ?_); exact rfl; exact rfl)
          clear hw9 HXv HZv Bv UF HUF ON
          generalize V.setRow w.heap.size #[.int .i64 g.num, .int .i64 g.rev, .int .i64 g.mode, .int .i64 sz, v0, v1, v2, v3, v4, v5, v6, v7, .int .i64 (putM m ⟨key, ck, sz, (dn : Int)⟩).live, .int .i64 (putM m ⟨key, ck, sz, (dn : Int)⟩).garb] = W5 at *
          generalize putM m ⟨key, ck, sz, (dn : Int)⟩ = m5 at *
          have f3 := frozen_of_row W5 w.heap.size 3 _ _ HX2.out
          have e6 : wrap64 (sz + Z) = E := HE.out
          obtain ⟨x0, x1, x2, x3, x4, x5, x6, x7, x8, x9, x10, x11, x12, x13⟩ := bx14 HX2.out
          go_upto_region 16 with fail
          clear x0 x1 x2 x3 x4 x5 x6 x7 x8 x9 x10 x11 x12 x13
          clear f3 e6
          rw [setCell_eq_setRow _ _ _ _ _ _ _ HX2.out]
          show Code.wp _ _ _ _ (W5.setRow w.heap.size #[.int .i64 g.num, .int .i64 g.rev, .int .i64 g.mode, .int .i64 E, v0, v1, v2, v3, v4, v5, v6, v7, .int .i64 m5.live, .int .i64 m5.garb])
          have HX6 := Lib.hid (setRow_heap W5 w.heap.size _ #[.int .i64 g.num, .int .i64 g.rev, .int .i64 g.mode, .int .i64 E, v0, v1, v2, v3, v4, v5, v6, v7, .int .i64 m5.live, .int .i64 m5.garb] _ _ HX2.out)
          have HZ6 := Lib.hid ((setRow_other W5 w.heap.size (w.heap.size + 1) #[.int .i64 g.num, .int .i64 g.rev, .int .i64 g.mode, .int .i64 E, v0, v1, v2, v3, v4, v5, v6, v7, .int .i64 m5.live, .int .i64 m5.garb] (by omega)).trans HZ2.out)
          have B6 := Lib.hid (below_setRowM B2.out (Nat.le_refl _) #[.int .i64 g.num, .int .i64 g.rev, .int .i64 g.mode, .int .i64 E, v0, v1, v2, v3, v4, v5, v6, v7, .int .i64 m5.live, .int .i64 m5.garb])
          have MS6 := Lib.hid (ms_setRowF MS2.out HX2.out (msG_u64 MS2.out g.num g.rev g.mode sz m5.live m5.garb) (cs := #[.int .i64 g.num, .int .i64 g.rev, .int .i64 g.mode, .int .i64 E, v0, v1, v2, v3, v4, v5, v6, v7, .int .i64 m5.live, .int .i64 m5.garb]))
          generalize W5.setRow w.heap.size #[.int .i64 g.num, .int .i64 g.rev, .int .i64 g.mode, .int .i64 E, v0, v1, v2, v3, v4, v5, v6, v7, .int .i64 m5.live, .int .i64 m5.garb] = W6 at *
          have hw := w64s8 i (by have := HNK.out; have := HI.out; omega)
          go_wp2_with fail
          go_roundw
          case rel => exact ⟨i + 1, HI.out, by go_num, m5, E, v0, v1, v2, v3, v4, v5, v6, v7, HX6.out, HZ6.out, MS6.out, HJE.out, by have := HFX.out; omega, HM5.out, HEE.out, B6.out⟩
          case measure => exact meas8 n i HI.out (by have := HNK.out; omega)
        · go_wp2_with fail
          refine (rdelete11_any (.agg #[t0, t1, t2, t3, t4, t5, t6, t7, .int .i64 m.live, .int .i64 m.garb]) m key wa ⟨t0, t1, t2, t3, t4, t5, t6, t7, rfl, MSa.out⟩ (few_of HF8.out (Nat.le_trans HFL.out (by have := HNN.out; have := HI.out; omega))) (Nat.le_trans HFL.out (by have := HNN.out; have := HI.out; omega))).mono ?_
          rintro e V1 ⟨⟨v1, rfl, hv1⟩, hb1⟩
          clear y0 y1 y2 y3
          clear x0 x1 x2 x3 x4 x5 x6 x7 x8 x9 x10 x11 x12 x13
          go_wp2_with fail
          refine (rwaste_any v1 (delM m key) Z V1 hv1 (few_of (mv_len hv1) (Nat.le_trans (fl_del HFL.out key) (by have := HNN.out; have := HI.out; omega))) HJZ.out).mono ?_
          rintro e V ⟨⟨v2, rfl, hv⟩, hb2⟩
          have hb := hb1.trans (hb2.mono hb1.size)
          have HXv := Lib.hid ((hb.block _ (lt_of_some HXa.out)).trans HXa.out)
          have HZv := Lib.hid ((hb.block _ (lt_of_some HZa.out)).trans HZa.out)
          have Bv := Lib.hid (Ba.out.trans (hb.mono Ba.out.size))
          have HUF := Lib.hid HUF.out
          clear hb hb1 hb2 HXa HZa Ba hv1
          obtain ⟨v0, v1, v2, v3, v4, v5, v6, v7, rfl, hms⟩ := hv
          have ON := Lib.hid (ms_one hms (wasteM (delM m key) Z).live (wasteM (delM m key) Z).garb)
          have hw9 : V.setCells w.heap.size 4 (#[v0, v1, v2, v3, v4, v5, v6, v7, .int .i64 (wasteM (delM m key) Z).live, .int .i64 (wasteM (delM m key) Z).garb] : Array Value).toList = V.setRow w.heap.size #[.int .i64 g.num, .int .i64 g.rev, .int .i64 g.mode, .int .i64 sz, v0, v1, v2, v3, v4, v5, v6, v7, .int .i64 (wasteM (delM m key) Z).live, .int .i64 (wasteM (delM m key) Z).garb] := setMap HXv.out
          have UF := Lib.hid HUF.out
          have MS2 := Lib.hid (ms_setRowF hms HXv.out UF.out (cs := #[.int .i64 g.num, .int .i64 g.rev, .int .i64 g.mode, .int .i64 sz, v0, v1, v2, v3, v4, v5, v6, v7, .int .i64 (wasteM (delM m key) Z).live, .int .i64 (wasteM (delM m key) Z).garb]))
          have HX2 := Lib.hid (setRow_heap V w.heap.size _ #[.int .i64 g.num, .int .i64 g.rev, .int .i64 g.mode, .int .i64 sz, v0, v1, v2, v3, v4, v5, v6, v7, .int .i64 (wasteM (delM m key) Z).live, .int .i64 (wasteM (delM m key) Z).garb] _ _ HXv.out)
          have HZ2 := Lib.hid ((setRow_other V w.heap.size (w.heap.size + 1) #[.int .i64 g.num, .int .i64 g.rev, .int .i64 g.mode, .int .i64 sz, v0, v1, v2, v3, v4, v5, v6, v7, .int .i64 (wasteM (delM m key) Z).live, .int .i64 (wasteM (delM m key) Z).garb] (by omega)).trans HZv.out)
          have B2 := Lib.hid (below_setRowM Bv.out (Nat.le_refl _) #[.int .i64 g.num, .int .i64 g.rev, .int .i64 g.mode, .int .i64 sz, v0, v1, v2, v3, v4, v5, v6, v7, .int .i64 (wasteM (delM m key) Z).live, .int .i64 (wasteM (delM m key) Z).garb])
          have HFX := Lib.hid (fl_waste (fl_del HFL.out key) Z)
          have HM5 := Lib.hid (show wasteM (delM m key) Z = (addL g.m g.size (l.take (i + 1))).1 from by have h := HMX.out; simp only [if_true] at h; exact h.symm)
          clear hms
          go_upto_region 22 with ((with_reducible refine storeRM w.heap.size _ #[v0, v1, v2, v3, v4, v5, v6, v7, .int .i64 (wasteM (delM m key) Z).live, .int .i64 (wasteM (delM m key) Z).garb] ?_ ?_ HXv.out rfl rfl ON.out hw9 ?_); exact rfl; exact rfl)
          clear hw9 HXv HZv Bv UF HUF ON
          generalize V.setRow w.heap.size #[.int .i64 g.num, .int .i64 g.rev, .int .i64 g.mode, .int .i64 sz, v0, v1, v2, v3, v4, v5, v6, v7, .int .i64 (wasteM (delM m key) Z).live, .int .i64 (wasteM (delM m key) Z).garb] = W5 at *
          generalize wasteM (delM m key) Z = m5 at *
          have f3 := frozen_of_row W5 w.heap.size 3 _ _ HX2.out
          have e6 : wrap64 (sz + Z) = E := HE.out
          obtain ⟨x0, x1, x2, x3, x4, x5, x6, x7, x8, x9, x10, x11, x12, x13⟩ := bx14 HX2.out
          go_upto_region 16 with fail
          clear x0 x1 x2 x3 x4 x5 x6 x7 x8 x9 x10 x11 x12 x13
          clear f3 e6
          rw [setCell_eq_setRow _ _ _ _ _ _ _ HX2.out]
          show Code.wp _ _ _ _ (W5.setRow w.heap.size #[.int .i64 g.num, .int .i64 g.rev, .int .i64 g.mode, .int .i64 E, v0, v1, v2, v3, v4, v5, v6, v7, .int .i64 m5.live, .int .i64 m5.garb])
          have HX6 := Lib.hid (setRow_heap W5 w.heap.size _ #[.int .i64 g.num, .int .i64 g.rev, .int .i64 g.mode, .int .i64 E, v0, v1, v2, v3, v4, v5, v6, v7, .int .i64 m5.live, .int .i64 m5.garb] _ _ HX2.out)
          have HZ6 := Lib.hid ((setRow_other W5 w.heap.size (w.heap.size + 1) #[.int .i64 g.num, .int .i64 g.rev, .int .i64 g.mode, .int .i64 E, v0, v1, v2, v3, v4, v5, v6, v7, .int .i64 m5.live, .int .i64 m5.garb] (by omega)).trans HZ2.out)
          have B6 := Lib.hid (below_setRowM B2.out (Nat.le_refl _) #[.int .i64 g.num, .int .i64 g.rev, .int .i64 g.mode, .int .i64 E, v0, v1, v2, v3, v4, v5, v6, v7, .int .i64 m5.live, .int .i64 m5.garb])
          have MS6 := Lib.hid (ms_setRowF MS2.out HX2.out (msG_u64 MS2.out g.num g.rev g.mode sz m5.live m5.garb) (cs := #[.int .i64 g.num, .int .i64 g.rev, .int .i64 g.mode, .int .i64 E, v0, v1, v2, v3, v4, v5, v6, v7, .int .i64 m5.live, .int .i64 m5.garb]))
          generalize W5.setRow w.heap.size #[.int .i64 g.num, .int .i64 g.rev, .int .i64 g.mode, .int .i64 E, v0, v1, v2, v3, v4, v5, v6, v7, .int .i64 m5.live, .int .i64 m5.garb] = W6 at *
          have hw := w64s8 i (by have := HNK.out; have := HI.out; omega)
          go_wp2_with fail
          go_roundw
          case rel => exact ⟨i + 1, HI.out, by go_num, m5, E, v0, v1, v2, v3, v4, v5, v6, v7, HX6.out, HZ6.out, MS6.out, HJE.out, by have := HFX.out; omega, HM5.out, HEE.out, B6.out⟩
          case measure => exact meas8 n i HI.out (by have := HNK.out; omega)
    have d1 : decide ((i : Int) < (n : Int)) = true := decide_eq_true (by omega)
    have d2 : decide (i < n) = true := decide_eq_true hlt
    obtain ⟨b, off, rfl, NN⟩ := nx_at (nx_below KX.out B2.out) hlt
    have HTK := Lib.hid (take_snocR (show i < l.length by have := HN.out; omega))
    obtain ⟨x, hx⟩ : ∃ q, q = l.getD i r0 := ⟨_, rfl⟩
    rw [← hx] at NN HTK
    have HXL := Lib.hid (show x ∈ l from by rw [hx]; exact getD_memR (by have := HN.out; omega))
    clear hx
    obtain ⟨key, ck, del, z9⟩ := x
    obtain ⟨da, dn, dc, hsz, hdn, hk1, hk2, k0, k1, k2, k3⟩ := NN
    simp only at hsz hdn hk1 hk2 k0 k1 k2 k3
    subst hsz
    have HJD := Lib.hid (show J64 (dn : Int) by unfold J64; unfold maxLen at hdn; omega)
    have p0 : (0 : Int) ≤ (i : Int) := by omega
    have p1 : (i : Int) < (n : Int) := by omega
    have HI := Lib.hid hlt
    have HK3 := Lib.hid k3
    clear hk1 hk2 hdn hlt hi
    go_wp2_with fail
    clear k0 k1 k2 k3
    refine (rnvalid_some key ck del da dn dc wl).mono ?_
    rintro e wy ⟨rfl, hb⟩
    have HDK := Lib.hid (nv_okR key ck del dn)
    have k3 := (hb.cell (p := ⟨b, off + i * 4 + 3, none⟩) (block_lt_of_cell HK3.out)).trans HK3.out
    have HZ3 := Lib.hid ((hb.block _ (lt_of_some HZ2.out)).trans HZ2.out)
    have B3 := Lib.hid (B2.out.trans (hb.mono B2.out.size))
    have HB3 := Lib.hid (HB.out.trans (hb.mono HB.out.size))
    clear hb
    generalize (decide (dn ≤ 4096) && !(del && decide (0 < dn))) = okk at *
    cases okk
    · have HBAD := Lib.hid (show ¬ (okGe g ∧ ∀ x ∈ l, okR x) from fun h => by have h2 := HDK.out; rw [decide_eq_true (h.2 _ HXL.out)] at h2; cases h2)
      go_wp2_with ((with_reducible refine storeRG (w.heap.size + 1) _ #[.int .i64 0, .int .i64 0, .int .i64 0, .int .i64 0, .slice none 0 0, .slice none 0 0, .slice none 0 0, .slice none 0 0, .slice none 0 0, .slice none 0 0, .slice none 0 0, .slice none 0 0, .int .i64 0, .int .i64 0] ?_ ?_ HZ3.out rfl rfl zg_one ?_); exact rfl; exact rfl)
      refine bodyPost_ret (results_rt (S := 43) rfl _ _ (w.heap.size + 1) #[.int .i64 0, .int .i64 0, .int .i64 0, .int .i64 0, .slice none 0 0, .slice none 0 0, .slice none 0 0, .slice none 0 0, .slice none 0 0, .slice none 0 0, .slice none 0 0, .slice none 0 0, .int .i64 0, .int .i64 0] rfl (setRow_heap _ _ _ _ _ _ HZ3.out) Tryz.underlying43 rfl infoRG14) rfl ?_
      exact addO_bad HBAD.out ⟨⟨_, rfl, g0_v _⟩, below_setRowM B3.out (Nat.le_succ _) _⟩
    go_wp2_with fail
    refine (rsize6_any dn wy HJD.out).mono ?_
    rintro e _ ⟨rfl, rfl⟩
    have hw := w64s8 i (by have := HNK.out; have := HI.out; omega)
    obtain ⟨Z, hZ⟩ : ∃ Z, Z = szI6 dn := ⟨_, rfl⟩
    rw [← hZ]
    have HSN := Lib.hid (show g.size + sumR (l.take (i + 1)) = S + Z from by rw [HTK.out, sumR_snoc, HSE.out, hZ]; simp only; omega)
    have HWR := Lib.hid (show wrap64 (S + Z) = S + Z from by
      have h1 := sumR_hi (l.take (i + 1))
      have h2 := sumR_lo (l.take (i + 1))
      have h3 := HSN.out
      have h4 := HK.out.hd.s0
      have h5 := HK.out.hd.s1
      have h6 : (l.take (i + 1)).length ≤ 900 := by rw [List.length_take]; have := HNK.out; have := HN.out; omega
      unfold wrap64
      omega)
    have HOX := Lib.hid (show okR ⟨key, ck, del, (dn : Int)⟩ from of_decide_eq_true HDK.out.symm)
    have hw2 := HWR.out
    clear hZ
    go_wp2_with fail
    go_roundw
    case rel => exact ⟨i + 1, HI.out, by go_num, by rw [HSN.out, HWR.out], (fun y hy => by
      rw [HTK.out] at hy
      rcases List.mem_append.1 hy with h | h
      · exact HP.out y h
      · obtain rfl := List.mem_singleton.1 h
        exact HOX.out), HB3.out⟩
    case measure => exact meas8 n i HI.out (by have := HNK.out; omega)
end Go.Proofs.YtbmlpafbdbhaiaaGreatDoor.Gf
