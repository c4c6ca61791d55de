/- What is proved here: the laws' made answers a valid, small generation. -/
import Derived.Test.YtbmlpafbdbhaiaaGreatDoorGa1
import Derived.Test.YtbmlpafbdbhaiaaGreatDoorGa2
import Derived.Test.YtbmlpafbdbhaiaaGreatDoorGa3
import Derived.Test.YtbmlpafbdbhaiaaGreatDoorGt1
import Derived.Test.YtbmlpafbdbhaiaaGreatDoorGs39a
namespace Go.Proofs.YtbmlpafbdbhaiaaGreatDoor.Gf
open Go Go.Joins Go.ChangeShapes Go.WideShapes Go.ChangeAt Go.RowKit Go.Deep Go.Proofs.YtbmlpafbdbhaiaaGreatDoor.By Go.Proofs.YtbmlpafbdbhaiaaGreatDoor.Qt
set_option maxRecDepth 100000
set_option maxHeartbeats 204800000
theorem and_lowI (r : Int) (k : Nat) (hk : k ≤ 32) : bits .and .i64 r ((2 : Int) ^ k - 1) = r % 2 ^ k := by
  have hp : (2 : Nat) ^ k ≤ 2 ^ 32 := Nat.pow_le_pow_right (by decide) hk
  have hp1 : 1 ≤ (2 : Nat) ^ k := Nat.one_le_two_pow
  have e0 : ((2 : Int) ^ k - 1) = ((2 ^ k - 1 : Nat) : Int) := by rw [Int.natCast_sub hp1]; simp
  have e1 : (BitVec.ofInt 64 r).toNat = (r % 18446744073709551616).toNat := by rw [BitVec.toNat_ofInt]; rfl
  have e2 : (BitVec.ofInt 64 ((2 : Int) ^ k - 1)).toNat = 2 ^ k - 1 := by
    rw [e0, BitVec.toNat_ofInt]
    omega
  have e3 : (BitVec.ofInt 64 r &&& BitVec.ofInt 64 ((2 : Int) ^ k - 1)).toNat = (r % 18446744073709551616).toNat % 2 ^ k := by rw [BitVec.toNat_and, e1, e2]; exact Nat.and_two_pow_sub_one_eq_mod _ k
  show IntKind.i64.wrap ((BitVec.ofInt 64 r &&& BitVec.ofInt 64 ((2 : Int) ^ k - 1)).toNat : Int) = _
  have hd : (2 : Int) ^ k ∣ 18446744073709551616 := by
    rw [show (18446744073709551616 : Int) = 2 ^ k * 2 ^ (64 - k) by rw [← Int.pow_add, show k + (64 - k) = 64 by omega]; rfl]
    exact Int.dvd_mul_right _ _
  have hc : ((2 : Int) ^ k) = ((2 ^ k : Nat) : Int) := by simp
  have e4 : (((r % 18446744073709551616).toNat % 2 ^ k : Nat) : Int) = r % 2 ^ k := by
    rw [Int.natCast_emod, Int.toNat_of_nonneg (by omega), ← hc, Int.emod_emod_of_dvd _ hd]
  have hb := Int.emod_lt_of_pos r (show (0 : Int) < 2 ^ k by rw [hc]; omega)
  have hb0 := Int.emod_nonneg r (show (2 : Int) ^ k ≠ 0 by rw [hc]; omega)
  rw [e3, e4, IntKind.wrap_i64]
  rw [hc] at hb hb0 ⊢
  generalize r % ((2 ^ k : Nat) : Int) = z at *
  omega
/-- What the laws' made answers, whatever its mode. -/
structure OkM (g : Ge) : Prop where
  ok : okGe g
  st : g.m.st.length = 8
  fl : g.m.st.flatten.length ≤ 10
  sz : g.size ≤ 42016
theorem OkM.okA {g : Ge} (h : OkM g) (hm : g.mode = 1) : OkA g 10 42016 := ⟨h.ok, h.st, h.fl, hm, h.sz⟩
theorem OkM.lge {g : Ge} (h : OkM g) : LGe g := ⟨few_of h.st (Nat.le_trans h.fl (by decide)), Nat.le_trans h.fl (by decide)⟩
theorem OkM.mod {g : Ge} (h : OkM g) {k : Int} (h1 : 1 ≤ k) (h3 : k ≤ 3) : OkM { g with mode := k } := ⟨⟨⟨h.ok.hd.n1, h.ok.hd.n8, h.ok.hd.r0, h.ok.hd.r1, h1, h3, h.ok.hd.s0, h.ok.hd.s1, h.ok.hd.s8⟩, h.ok.ok, h.ok.eq, h.ok.ap⟩, h.st, h.fl, h.sz⟩
theorem ok_smR {x : Rcd} (h : 0 ≤ x.sz) : okR (smR x) := by
  unfold okR smR
  simp only
  by_cases h1 : x.del = true
  · rw [if_pos h1]; exact ⟨by decide, by decide, fun _ => rfl⟩
  · rw [if_neg h1]
    refine ⟨?_, ?_, fun h2 => absurd h2 h1⟩ <;> split <;> omega
theorem ok_smL {L : List Rcd} (h : ∀ x ∈ L, 0 ≤ x.sz) : ∀ x ∈ smL L, okR x := fun x hx => by
  unfold smL at hx
  obtain ⟨y, hy, rfl⟩ := List.mem_map.1 hx
  exact ok_smR (h y (List.mem_of_mem_take hy))
theorem ni_pos {w : World} {v : Value} {L : List Rcd} (h : Ni w v L) : ∀ x ∈ L, 0 ≤ x.sz := fun x hx => by
  obtain ⟨i, hi, rfl⟩ := List.mem_iff_getElem.1 hx
  obtain ⟨a, c, -, -, -, h4⟩ := h
  obtain ⟨b, off, -, hc⟩ := h4 (by omega)
  obtain ⟨da, dn, dc, h1, -⟩ := hc i hi
  rw [List.getD_eq_getElem?_getD, List.getElem?_eq_getElem hi] at h1
  have h2 : (L[i]).sz = (dn : Int) := h1
  omega
theorem sum_smL (L : List Rcd) : sumR (smL L) ≤ 42000 := by
  have h1 := sumR_hi (smL L)
  have h2 := smL_le L
  omega
theorem okA_made {n : Int} (h1 : 1 ≤ n) (h8 : n ≤ 8) {L : List Rcd} (h : ∀ x ∈ L, 0 ≤ x.sz) : OkA (gAdd (frG n) (smL L)) 10 42016 ∧ addC (frG n) (smL L) = 0 ∧ addT (frG n) (smL L) = gAdd (frG n) (smL L) := by
  have hl := smL_le L
  obtain ⟨h2, h3, h4⟩ := okA_add (okA_fr h1 h8) (l := smL L) (by omega) (ok_smL h) (sum_smL L) (by decide)
  exact ⟨⟨h2.ok, h2.st, Nat.le_trans h2.fl (by omega), h2.md, h2.sz⟩, h3, h4⟩
theorem made12_x (v : Value) (L : List Rcd) (md : Int) (w : World) (hv : Ni w v L) : Calls Tryz.prog 17 #[v, .int .i64 md] w fun e w' => (∃ v' g, e = .returned v' ∧ Gv w' v' g ∧ OkM g ∧ (bits .and .i64 md 24 = 0 → g.mode = 1)) ∧ Below w.heap.size w w' := by
  have NI0 := Lh hv
  have HPO := Lh (ni_pos hv)
  have HR := Lh (heap_alloc_new w (.cells #[.int .i64 0, .int .i64 0, .int .i64 0, .int .i64 0, .slice none 0 0, .slice none 0 0, .slice none 0 0, .slice none 0 0, .slice none 0 0, .slice none 0 0, .slice none 0 0, .slice none 0 0, .int .i64 0, .int .i64 0] 43))
  have B0 := Lh (bel_al w (.cells #[.int .i64 0, .int .i64 0, .int .i64 0, .int .i64 0, .slice none 0 0, .slice none 0 0, .slice none 0 0, .slice none 0 0, .slice none 0 0, .slice none 0 0, .slice none 0 0, .slice none 0 0, .int .i64 0, .int .i64 0] 43))
  obtain ⟨q, hq⟩ : ∃ q, q = md % 8 := ⟨_, rfl⟩
  have EA : bits .and .i64 md 7 = q := by rw [hq]; exact and_lowI md 3 (by decide)
  have HQ := Lh (show 1 ≤ 1 + q ∧ 1 + q ≤ 8 from by omega)
  have EW : wrap64 (1 + q) = 1 + q := by unfold wrap64; omega
  obtain ⟨c24, hc⟩ : ∃ c, c = bits .and .i64 md 24 := ⟨_, rfl⟩
  have EC := Lh hc.symm
  rw [← hc]
  clear hv hq hc
  go_enter Tryz.func17, Tryz.ntmps17
  go_upto_region 1 with fail
  generalize w.alloc (.cells #[.int .i64 0, .int .i64 0, .int .i64 0, .int .i64 0, .slice none 0 0, .slice none 0 0, .slice none 0 0, .slice none 0 0, .slice none 0 0, .slice none 0 0, .slice none 0 0, .slice none 0 0, .int .i64 0, .int .i64 0] 43) = W0 at *
  go_wp2_with fail
  clear EA EW
  obtain ⟨nn, hnn⟩ : ∃ nn, nn = 1 + q := ⟨_, rfl⟩
  rw [← hnn] at HQ ⊢
  clear hnn
  refine (rfresh_any nn W0).mono ?_
  rintro e W1 ⟨⟨v, rfl, hg⟩, hb⟩
  rw [if_pos HQ.out] at hg
  rw [if_pos HQ.out]
  obtain ⟨t0, t1, t2, t3, t4, t5, t6, t7, hv, hm, hj⟩ := hg
  obtain rfl : v = .agg #[.int .i64 nn, .int .i64 0, .int .i64 1, .int .i64 16, t0, t1, t2, t3, t4, t5, t6, t7, .int .i64 mp0.live, .int .i64 mp0.garb] := hv
  have HR1 := Lh ((hb.block _ (lt_of_some HR.out)).trans HR.out)
  have B1 := Lh (B0.out.trans (hb.mono B0.out.size))
  have NI1 := Lh (ni_belowL NI0.out B1.out)
  have MS := Lh hm
  have HJ := Lh (show J64 (frG nn).num ∧ J64 (frG nn).rev ∧ J64 (frG nn).mode ∧ J64 (frG nn).size from hj)
  have ON := Lh (show (#[.int .i64 nn, .int .i64 0, .int .i64 1, .int .i64 16, t0, t1, t2, t3, t4, t5, t6, t7, .int .i64 mp0.live, .int .i64 mp0.garb] : Array Value).all (·.oneCell') = true from gc_one (g := frG nn) hm)
  have hz := heap_alloc_new W1 (.cells #[.int .i64 0, .int .i64 0, .int .i64 0, .int .i64 0, .slice none 0 0, .slice none 0 0, .slice none 0 0, .slice none 0 0, .slice none 0 0, .slice none 0 0, .slice none 0 0, .slice none 0 0, .int .i64 0, .int .i64 0] 43)
  clear hb hm hj B0 HR NI0
  go_upto_region 2 with ((with_reducible refine storeRG W1.heap.size _ #[.int .i64 nn, .int .i64 0, .int .i64 1, .int .i64 16, t0, t1, t2, t3, t4, t5, t6, t7, .int .i64 mp0.live, .int .i64 mp0.garb] ?_ ?_ hz rfl rfl ON.out ?_); exact rfl; exact rfl)
  rw [World.setRow_alloc_new]
  have hb := bel_al W1 (.cells #[.int .i64 nn, .int .i64 0, .int .i64 1, .int .i64 16, t0, t1, t2, t3, t4, t5, t6, t7, .int .i64 mp0.live, .int .i64 mp0.garb] 43)
  have HX := Lh (heap_alloc_new W1 (.cells #[.int .i64 nn, .int .i64 0, .int .i64 1, .int .i64 16, t0, t1, t2, t3, t4, t5, t6, t7, .int .i64 mp0.live, .int .i64 mp0.garb] 43))
  have HR2 := Lh ((hb.block _ (lt_of_some HR1.out)).trans HR1.out)
  have B2 := Lh (B1.out.trans (hb.mono B1.out.size))
  have NI2 := Lh (ni_belowL NI1.out hb)
  have MS2 := Lh (ms_below MS.out hb)
  have HGB := Lh (show w.heap.size < W1.heap.size from lt_of_some HR1.out)
  clear hb hz B1 HR1 NI1 MS ON
  generalize W1.alloc (.cells #[.int .i64 nn, .int .i64 0, .int .i64 1, .int .i64 16, t0, t1, t2, t3, t4, t5, t6, t7, .int .i64 mp0.live, .int .i64 mp0.garb] 43) = W2 at *
  generalize W1.heap.size = gx at *
  go_cut [] from 14 to 21 (fun wz => ∃ (ga : Ge) (u0 u1 u2 u3 u4 u5 u6 u7 : Value), Hid (wz.heap[gx]? = some (.cells #[.int .i64 ga.num, .int .i64 ga.rev, .int .i64 ga.mode, .int .i64 ga.size, u0, u1, u2, u3, u4, u5, u6, u7, .int .i64 ga.m.live, .int .i64 ga.m.garb] 43 (0, 0))) ∧ Hid (Ms wz [u0, u1, u2, u3, u4, u5, u6, u7] ga.m) ∧ Hid (J64 ga.num ∧ J64 ga.rev ∧ J64 ga.mode ∧ J64 ga.size) ∧ Hid (OkA ga 10 42016) ∧ Hid (wz.heap[w.heap.size]? = some (.cells #[.int .i64 0, .int .i64 0, .int .i64 0, .int .i64 0, .slice none 0 0, .slice none 0 0, .slice none 0 0, .slice none 0 0, .slice none 0 0, .slice none 0 0, .slice none 0 0, .slice none 0 0, .int .i64 0, .int .i64 0] 43 (0, 0))) ∧ Hid (Below w.heap.size w wz))
  case first =>
    refine wp_onlyN ?_
    refine wp_region_headsS (fun W' => Below w.heap.size w W') [1] 7 (by kernel_rfl) (fun _ _ _ _ _ h => h.elim) (by kernel_rfl) (by rfl) (by rfl) B2.out.drew ?_
    simp only [pickOps, List.filterMap_cons, List.filterMap_nil, List.getElem?_toArray]
    refine wpHeads_step (fun K hK => ?_)
    go_simp
    refine ⟨_, fun _ _ => rfl, hK _ ?_⟩
    clear hK K
    refine wpHeads_nil ?_
    have S0 := Lh (Below.drew B2.out)
    have T0 := Lh (Below.drew (Below.refl W2.heap.size W2))
    have HX0 := Lh (show W2.drew.heap[gx]? = some (.cells #[.int .i64 nn, .int .i64 0, .int .i64 1, .int .i64 16, t0, t1, t2, t3, t4, t5, t6, t7, .int .i64 mp0.live, .int .i64 mp0.garb] 43 (0, 0)) from HX.out)
    generalize W2.drew = D0 at *
    refine held_two 0 2 rfl rfl rfl rfl (by kernel_rfl) (fun K hK => ?_) (fun K hK => ?_)
    · obtain ⟨x0, x1, x2, x3, x4, x5, x6, x7, x8, x9, x10, x11, x12, x13⟩ := bx14 HX0.out
      go_simp
      refine hK _ _ S0.out ?_
      clear x0 x1 x2 x3 x4 x5 x6 x7 x8 x9 x10 x11 x12 x13 hK K
      refine gwq 2 fun K hK => ?_
      go_simp
      go_at_call 26
      refine (small_x _ L D0 (ni_belowL NI2.out T0.out)).mono ?_
      rintro e D1 ⟨⟨vs, rfl, hnx⟩, hb⟩
      have NX := Lh hnx
      have T1 := Lh (T0.out.trans (hb.mono T0.out.size))
      have S1 := Lh (S0.out.trans (hb.mono S0.out.size))
      have HX1 := Lh ((hb.block _ (lt_of_some HX0.out)).trans HX0.out)
      refine hK _ _ S1.out ?_
      clear hK K hb hnx
      refine gwq 3 fun K hK => ?_
      go_simp
      go_at_call 28
      refine (radd_x (.agg #[.int .i64 nn, .int .i64 0, .int .i64 1, .int .i64 16, t0, t1, t2, t3, t4, t5, t6, t7, .int .i64 mp0.live, .int .i64 mp0.garb]) (frG nn) 0 vs (smL L) D1 ⟨t0, t1, t2, t3, t4, t5, t6, t7, rfl, ms_below MS2.out T1.out, HJ.out⟩ (by show mp0.st.flatten.length ≤ 0; decide) (by have := smL_le L; omega) NX.out).mono ?_
      rintro e D2 ⟨⟨vx, rfl, hgx⟩, hb⟩
      obtain ⟨hoa, hc0, hct⟩ := okA_made HQ.out.1 HQ.out.2 HPO.out
      rw [hct] at hgx
      rw [hc0]
      have S2 := Lh (S1.out.trans (hb.mono S1.out.size))
      have HX2 := Lh ((hb.block _ (lt_of_some HX1.out)).trans HX1.out)
      have HRb := Lh ((hb.block _ (lt_of_some ((T1.out.block _ (lt_of_some HR2.out)).trans HR2.out))).trans ((T1.out.block _ (lt_of_some HR2.out)).trans HR2.out))
      refine hK _ _ S2.out ?_
      clear hK K hb hc0 hct
      obtain ⟨ga, hga⟩ : ∃ ga, ga = gAdd (frG nn) (smL L) := ⟨_, rfl⟩
      rw [← hga] at hgx hoa
      clear hga
      obtain ⟨u0, u1, u2, u3, u4, u5, u6, u7, hvx, hmu, hju⟩ := hgx
      subst hvx
      have MU := Lh hmu
      have JU := Lh hju
      have OA := Lh hoa
      have ONU := Lh (gc_one hmu)
      clear hmu hju hoa
      refine tky 4 _ rfl (fun _ _ => rfl) S2.out ?_
      refine tky 5 _ rfl (fun _ _ => rfl) S2.out ?_
      refine tky 6 _ rfl (fun _ _ => rfl) S2.out ?_
      refine gwq 7 fun K hK => ?_
      refine wp_store_row 43 _ _ rfl gx #[.int .i64 ga.num, .int .i64 ga.rev, .int .i64 ga.mode, .int .i64 ga.size, u0, u1, u2, u3, u4, u5, u6, u7, .int .i64 ga.m.live, .int .i64 ga.m.garb] (by rfl) (by rfl) 43 _ HX2.out infoRG14 rfl ONU.out ?_
      have S3 := Lh (below_setRowM S2.out (Nat.le_of_lt HGB.out) #[.int .i64 ga.num, .int .i64 ga.rev, .int .i64 ga.mode, .int .i64 ga.size, u0, u1, u2, u3, u4, u5, u6, u7, .int .i64 ga.m.live, .int .i64 ga.m.garb])
      have HX3 := Lh (setRow_heap D2 gx _ #[.int .i64 ga.num, .int .i64 ga.rev, .int .i64 ga.mode, .int .i64 ga.size, u0, u1, u2, u3, u4, u5, u6, u7, .int .i64 ga.m.live, .int .i64 ga.m.garb] _ _ HX2.out)
      have MU3 := Lh (ms_setRowF MU.out HX2.out (gc_u64 (g := frG nn) (ms_below MS2.out T1.out)) (cs := #[.int .i64 ga.num, .int .i64 ga.rev, .int .i64 ga.mode, .int .i64 ga.size, u0, u1, u2, u3, u4, u5, u6, u7, .int .i64 ga.m.live, .int .i64 ga.m.garb]))
      have HR3 := Lh ((setRow_other D2 gx w.heap.size #[.int .i64 ga.num, .int .i64 ga.rev, .int .i64 ga.mode, .int .i64 ga.size, u0, u1, u2, u3, u4, u5, u6, u7, .int .i64 ga.m.live, .int .i64 ga.m.garb] (by have := HGB.out; omega)).trans HRb.out)
      refine hK _ _ S3.out ?_
      clear hK K
      refine wpAnyH_done (by kernel_rfl) ?_ _
      unfold onlyN
      dsimp only
      go_wp2_with fail
      go_meet
      exact ⟨ga, u0, u1, u2, u3, u4, u5, u6, u7, HX3, MU3, JU, OA, HR3, S3⟩
    · go_simp
      go_at_call 26
      refine (small_x _ L D0 (ni_belowL NI2.out T0.out)).mono ?_
      rintro e D1 ⟨⟨vs, rfl, hnx⟩, hb⟩
      have NX := Lh hnx
      have T1 := Lh (T0.out.trans (hb.mono T0.out.size))
      have S1 := Lh (S0.out.trans (hb.mono S0.out.size))
      have HX1 := Lh ((hb.block _ (lt_of_some HX0.out)).trans HX0.out)
      refine hK _ _ S1.out ?_
      clear hK K hb hnx
      refine gwq 0 fun K hK => ?_
      obtain ⟨x0, x1, x2, x3, x4, x5, x6, x7, x8, x9, x10, x11, x12, x13⟩ := bx14 HX1.out
      go_simp
      refine hK _ _ S1.out ?_
      clear x0 x1 x2 x3 x4 x5 x6 x7 x8 x9 x10 x11 x12 x13 hK K
      refine gwq 3 fun K hK => ?_
      go_simp
      go_at_call 28
      refine (radd_x (.agg #[.int .i64 nn, .int .i64 0, .int .i64 1, .int .i64 16, t0, t1, t2, t3, t4, t5, t6, t7, .int .i64 mp0.live, .int .i64 mp0.garb]) (frG nn) 0 vs (smL L) D1 ⟨t0, t1, t2, t3, t4, t5, t6, t7, rfl, ms_below MS2.out T1.out, HJ.out⟩ (by show mp0.st.flatten.length ≤ 0; decide) (by have := smL_le L; omega) NX.out).mono ?_
      rintro e D2 ⟨⟨vx, rfl, hgx⟩, hb⟩
      obtain ⟨hoa, hc0, hct⟩ := okA_made HQ.out.1 HQ.out.2 HPO.out
      rw [hct] at hgx
      rw [hc0]
      have S2 := Lh (S1.out.trans (hb.mono S1.out.size))
      have HX2 := Lh ((hb.block _ (lt_of_some HX1.out)).trans HX1.out)
      have HRb := Lh ((hb.block _ (lt_of_some ((T1.out.block _ (lt_of_some HR2.out)).trans HR2.out))).trans ((T1.out.block _ (lt_of_some HR2.out)).trans HR2.out))
      refine hK _ _ S2.out ?_
      clear hK K hb hc0 hct
      obtain ⟨ga, hga⟩ : ∃ ga, ga = gAdd (frG nn) (smL L) := ⟨_, rfl⟩
      rw [← hga] at hgx hoa
      clear hga
      obtain ⟨u0, u1, u2, u3, u4, u5, u6, u7, hvx, hmu, hju⟩ := hgx
      subst hvx
      have MU := Lh hmu
      have JU := Lh hju
      have OA := Lh hoa
      have ONU := Lh (gc_one hmu)
      clear hmu hju hoa
      refine tky 4 _ rfl (fun _ _ => rfl) S2.out ?_
      refine tky 5 _ rfl (fun _ _ => rfl) S2.out ?_
      refine tky 6 _ rfl (fun _ _ => rfl) S2.out ?_
      refine gwq 7 fun K hK => ?_
      refine wp_store_row 43 _ _ rfl gx #[.int .i64 ga.num, .int .i64 ga.rev, .int .i64 ga.mode, .int .i64 ga.size, u0, u1, u2, u3, u4, u5, u6, u7, .int .i64 ga.m.live, .int .i64 ga.m.garb] (by rfl) (by rfl) 43 _ HX2.out infoRG14 rfl ONU.out ?_
      have S3 := Lh (below_setRowM S2.out (Nat.le_of_lt HGB.out) #[.int .i64 ga.num, .int .i64 ga.rev, .int .i64 ga.mode, .int .i64 ga.size, u0, u1, u2, u3, u4, u5, u6, u7, .int .i64 ga.m.live, .int .i64 ga.m.garb])
      have HX3 := Lh (setRow_heap D2 gx _ #[.int .i64 ga.num, .int .i64 ga.rev, .int .i64 ga.mode, .int .i64 ga.size, u0, u1, u2, u3, u4, u5, u6, u7, .int .i64 ga.m.live, .int .i64 ga.m.garb] _ _ HX2.out)
      have MU3 := Lh (ms_setRowF MU.out HX2.out (gc_u64 (g := frG nn) (ms_below MS2.out T1.out)) (cs := #[.int .i64 ga.num, .int .i64 ga.rev, .int .i64 ga.mode, .int .i64 ga.size, u0, u1, u2, u3, u4, u5, u6, u7, .int .i64 ga.m.live, .int .i64 ga.m.garb]))
      have HR3 := Lh ((setRow_other D2 gx w.heap.size #[.int .i64 ga.num, .int .i64 ga.rev, .int .i64 ga.mode, .int .i64 ga.size, u0, u1, u2, u3, u4, u5, u6, u7, .int .i64 ga.m.live, .int .i64 ga.m.garb] (by have := HGB.out; omega)).trans HRb.out)
      refine hK _ _ S3.out ?_
      clear hK K
      refine wpAnyH_done (by kernel_rfl) ?_ _
      unfold onlyN
      dsimp only
      go_wp2_with fail
      go_meet
      exact ⟨ga, u0, u1, u2, u3, u4, u5, u6, u7, HX3, MU3, JU, OA, HR3, S3⟩
  case rest =>
    obtain ⟨ga, u0, u1, u2, u3, u4, u5, u6, u7, HX5, MS5, HJ5, OA5, HR5, B5⟩ := hcut
    rename World => W5
    have OK5 := Lh (show OkM ga from ⟨OA5.out.ok, OA5.out.st, OA5.out.fl, OA5.out.sz⟩)
    have HLG5 := Lh OK5.out.lge
    have ON5 := Lh (gc_one (g := ga) MS5.out)
    have ec := EC.out
    by_cases h8 : 8 < c24
    case neg =>
      have d1 : decide (8 < c24) = false := decide_eq_false h8
      have d2 : decide (c24 = 24) = false := decide_eq_false (by omega)
      have d3 : (c24 == 24) = false := beq_false_of_ne (by omega)
      clear h8
      obtain ⟨x0, x1, x2, x3, x4, x5, x6, x7, x8, x9, x10, x11, x12, x13⟩ := bx14 HX5.out
      go_wp2_with ((with_reducible refine storeRG w.heap.size _ #[.int .i64 ga.num, .int .i64 ga.rev, .int .i64 ga.mode, .int .i64 ga.size, u0, u1, u2, u3, u4, u5, u6, u7, .int .i64 ga.m.live, .int .i64 ga.m.garb] ?_ ?_ HR5.out rfl rfl ON5.out ?_); exact rfl; exact rfl)
      refine bodyPost_ret (results_cell_row rfl _ _ w.heap.size 43 #[.int .i64 ga.num, .int .i64 ga.rev, .int .i64 ga.mode, .int .i64 ga.size, u0, u1, u2, u3, u4, u5, u6, u7, .int .i64 ga.m.live, .int .i64 ga.m.garb] (0, 0) _ rfl (setRow_heap _ _ _ _ _ _ HR5.out) Tryz.underlying43 rfl infoRG14) rfl ?_
      exact ⟨⟨_, ga, rfl, ⟨u0, u1, u2, u3, u4, u5, u6, u7, rfl, ms_setRowF MS5.out HR5.out zeroG_u64, HJ5.out⟩, OK5.out, fun _ => OA5.out.md⟩, below_setRowM B5.out (Nat.le_refl _) _⟩
    have d1 : decide (8 < c24) = true := decide_eq_true h8
    by_cases h24 : c24 = 24
    case neg =>
      have d2 : decide (c24 = 24) = false := decide_eq_false h24
      have d3 : (c24 == 24) = false := beq_false_of_ne h24
      have HC9 := Lh h8
      clear h8 h24
      obtain ⟨x0, x1, x2, x3, x4, x5, x6, x7, x8, x9, x10, x11, x12, x13⟩ := bx14 HX5.out
      go_wp2_with fail
      clear x0 x1 x2 x3 x4 x5 x6 x7 x8 x9 x10 x11 x12 x13 d1
      refine (rfreeze_any (.agg #[.int .i64 ga.num, .int .i64 ga.rev, .int .i64 ga.mode, .int .i64 ga.size, u0, u1, u2, u3, u4, u5, u6, u7, .int .i64 ga.m.live, .int .i64 ga.m.garb]) ga _ ⟨u0, u1, u2, u3, u4, u5, u6, u7, rfl, MS5.out, HJ5.out⟩ HLG5.out.1 (Nat.le_trans HLG5.out.2 (by decide))).mono ?_
      rintro e W6 ⟨⟨vx, rfl, hgx⟩, hb⟩
      rw [show modG ga 1 2 = { ga with mode := 2 } from by unfold modG; rw [if_pos ⟨okGb_t OK5.out.ok, OA5.out.md⟩]] at hgx
      obtain ⟨gb, hng⟩ : ∃ x : Ge, x = { ga with mode := 2 } := ⟨_, rfl⟩
      rw [← hng] at hgx
      have OK6 := Lh (show OkM gb from by rw [hng]; exact OK5.out.mod (by decide) (by decide))
      have MD6 := Lh (show gb.mode = 2 from by rw [hng])
      have HLG6 := Lh OK6.out.lge
      clear hng
      obtain ⟨t0, t1, t2, t3, t4, t5, t6, t7, rfl, hmn, hjn⟩ := hgx
      have MN := Lh hmn
      have HJ6 := Lh hjn
      have ON6 := Lh (gc_one hmn)
      have HXn := Lh ((hb.block _ (lt_of_some HX5.out)).trans HX5.out)
      have HRn := Lh ((hb.block _ (lt_of_some HR5.out)).trans HR5.out)
      have Bn := Lh (B5.out.trans (hb.mono B5.out.size))
      have hbx := hb
      clear hmn hjn hb
      go_upto_region 5 with ((with_reducible refine storeRG gx _ #[.int .i64 gb.num, .int .i64 gb.rev, .int .i64 gb.mode, .int .i64 gb.size, t0, t1, t2, t3, t4, t5, t6, t7, .int .i64 gb.m.live, .int .i64 gb.m.garb] ?_ ?_ HXn.out rfl rfl ON6.out ?_); exact rfl; exact rfl)
      have HX6 := Lh (setRow_heap W6 gx _ #[.int .i64 gb.num, .int .i64 gb.rev, .int .i64 gb.mode, .int .i64 gb.size, t0, t1, t2, t3, t4, t5, t6, t7, .int .i64 gb.m.live, .int .i64 gb.m.garb] _ _ HXn.out)
      have HR6 := Lh ((setRow_other W6 gx w.heap.size #[.int .i64 gb.num, .int .i64 gb.rev, .int .i64 gb.mode, .int .i64 gb.size, t0, t1, t2, t3, t4, t5, t6, t7, .int .i64 gb.m.live, .int .i64 gb.m.garb] (by have := HGB.out; omega)).trans HRn.out)
      have B6 := Lh (below_setRowM Bn.out (Nat.le_of_lt HGB.out) #[.int .i64 gb.num, .int .i64 gb.rev, .int .i64 gb.mode, .int .i64 gb.size, t0, t1, t2, t3, t4, t5, t6, t7, .int .i64 gb.m.live, .int .i64 gb.m.garb])
      have MS6 := Lh (ms_setRowF MN.out HXn.out (gc_u64 (g := ga) (ms_below MS5.out hbx)) (cs := #[.int .i64 gb.num, .int .i64 gb.rev, .int .i64 gb.mode, .int .i64 gb.size, t0, t1, t2, t3, t4, t5, t6, t7, .int .i64 gb.m.live, .int .i64 gb.m.garb]))
      clear HXn HRn Bn MN
      generalize W6.setRow gx #[.int .i64 gb.num, .int .i64 gb.rev, .int .i64 gb.mode, .int .i64 gb.size, t0, t1, t2, t3, t4, t5, t6, t7, .int .i64 gb.m.live, .int .i64 gb.m.garb] = V6 at *
      obtain ⟨x0, x1, x2, x3, x4, x5, x6, x7, x8, x9, x10, x11, x12, x13⟩ := bx14 HX6.out
      go_wp2_with ((with_reducible refine storeRG w.heap.size _ #[.int .i64 gb.num, .int .i64 gb.rev, .int .i64 gb.mode, .int .i64 gb.size, t0, t1, t2, t3, t4, t5, t6, t7, .int .i64 gb.m.live, .int .i64 gb.m.garb] ?_ ?_ HR6.out rfl rfl ON6.out ?_); exact rfl; exact rfl)
      refine bodyPost_ret (results_cell_row rfl _ _ w.heap.size 43 #[.int .i64 gb.num, .int .i64 gb.rev, .int .i64 gb.mode, .int .i64 gb.size, t0, t1, t2, t3, t4, t5, t6, t7, .int .i64 gb.m.live, .int .i64 gb.m.garb] (0, 0) _ rfl (setRow_heap _ _ _ _ _ _ HR6.out) Tryz.underlying43 rfl infoRG14) rfl ?_
      exact ⟨⟨_, gb, rfl, ⟨t0, t1, t2, t3, t4, t5, t6, t7, rfl, ms_setRowF MS6.out HR6.out zeroG_u64, HJ6.out⟩, OK6.out, fun h => by have := HC9.out; omega⟩, below_setRowM B6.out (Nat.le_refl _) _⟩
    have d2 : decide (c24 = 24) = true := decide_eq_true h24
    have d3 : (c24 == 24) = true := beq_iff_eq.2 h24
    have HC9 := Lh h8
    clear h8 h24
    obtain ⟨x0, x1, x2, x3, x4, x5, x6, x7, x8, x9, x10, x11, x12, x13⟩ := bx14 HX5.out
    go_wp2_with fail
    clear x0 x1 x2 x3 x4 x5 x6 x7 x8 x9 x10 x11 x12 x13 d1
    refine (rfreeze_any (.agg #[.int .i64 ga.num, .int .i64 ga.rev, .int .i64 ga.mode, .int .i64 ga.size, u0, u1, u2, u3, u4, u5, u6, u7, .int .i64 ga.m.live, .int .i64 ga.m.garb]) ga _ ⟨u0, u1, u2, u3, u4, u5, u6, u7, rfl, MS5.out, HJ5.out⟩ HLG5.out.1 (Nat.le_trans HLG5.out.2 (by decide))).mono ?_
    rintro e W6 ⟨⟨vx, rfl, hgx⟩, hb⟩
    rw [show modG ga 1 2 = { ga with mode := 2 } from by unfold modG; rw [if_pos ⟨okGb_t OK5.out.ok, OA5.out.md⟩]] at hgx
    obtain ⟨gb, hng⟩ : ∃ x : Ge, x = { ga with mode := 2 } := ⟨_, rfl⟩
    rw [← hng] at hgx
    have OK6 := Lh (show OkM gb from by rw [hng]; exact OK5.out.mod (by decide) (by decide))
    have MD6 := Lh (show gb.mode = 2 from by rw [hng])
    have HLG6 := Lh OK6.out.lge
    clear hng
    obtain ⟨t0, t1, t2, t3, t4, t5, t6, t7, rfl, hmn, hjn⟩ := hgx
    have MN := Lh hmn
    have HJ6 := Lh hjn
    have ON6 := Lh (gc_one hmn)
    have HXn := Lh ((hb.block _ (lt_of_some HX5.out)).trans HX5.out)
    have HRn := Lh ((hb.block _ (lt_of_some HR5.out)).trans HR5.out)
    have Bn := Lh (B5.out.trans (hb.mono B5.out.size))
    have hbx := hb
    clear hmn hjn hb
    go_upto_region 5 with ((with_reducible refine storeRG gx _ #[.int .i64 gb.num, .int .i64 gb.rev, .int .i64 gb.mode, .int .i64 gb.size, t0, t1, t2, t3, t4, t5, t6, t7, .int .i64 gb.m.live, .int .i64 gb.m.garb] ?_ ?_ HXn.out rfl rfl ON6.out ?_); exact rfl; exact rfl)
    have HX6 := Lh (setRow_heap W6 gx _ #[.int .i64 gb.num, .int .i64 gb.rev, .int .i64 gb.mode, .int .i64 gb.size, t0, t1, t2, t3, t4, t5, t6, t7, .int .i64 gb.m.live, .int .i64 gb.m.garb] _ _ HXn.out)
    have HR6 := Lh ((setRow_other W6 gx w.heap.size #[.int .i64 gb.num, .int .i64 gb.rev, .int .i64 gb.mode, .int .i64 gb.size, t0, t1, t2, t3, t4, t5, t6, t7, .int .i64 gb.m.live, .int .i64 gb.m.garb] (by have := HGB.out; omega)).trans HRn.out)
    have B6 := Lh (below_setRowM Bn.out (Nat.le_of_lt HGB.out) #[.int .i64 gb.num, .int .i64 gb.rev, .int .i64 gb.mode, .int .i64 gb.size, t0, t1, t2, t3, t4, t5, t6, t7, .int .i64 gb.m.live, .int .i64 gb.m.garb])
    have MS6 := Lh (ms_setRowF MN.out HXn.out (gc_u64 (g := ga) (ms_below MS5.out hbx)) (cs := #[.int .i64 gb.num, .int .i64 gb.rev, .int .i64 gb.mode, .int .i64 gb.size, t0, t1, t2, t3, t4, t5, t6, t7, .int .i64 gb.m.live, .int .i64 gb.m.garb]))
    clear HXn HRn Bn MN
    generalize W6.setRow gx #[.int .i64 gb.num, .int .i64 gb.rev, .int .i64 gb.mode, .int .i64 gb.size, t0, t1, t2, t3, t4, t5, t6, t7, .int .i64 gb.m.live, .int .i64 gb.m.garb] = V6 at *
    obtain ⟨x0, x1, x2, x3, x4, x5, x6, x7, x8, x9, x10, x11, x12, x13⟩ := bx14 HX6.out
    go_wp2_with fail
    clear x0 x1 x2 x3 x4 x5 x6 x7 x8 x9 x10 x11 x12 x13 d2 d3
    refine (rseal_any (.agg #[.int .i64 gb.num, .int .i64 gb.rev, .int .i64 gb.mode, .int .i64 gb.size, t0, t1, t2, t3, t4, t5, t6, t7, .int .i64 gb.m.live, .int .i64 gb.m.garb]) gb _ ⟨t0, t1, t2, t3, t4, t5, t6, t7, rfl, MS6.out, HJ6.out⟩ HLG6.out.1 (Nat.le_trans HLG6.out.2 (by decide))).mono ?_
    rintro e W7 ⟨⟨vx, rfl, hgx⟩, hb⟩
    rw [show modG gb 2 3 = { gb with mode := 3 } from by unfold modG; rw [if_pos ⟨okGb_t OK6.out.ok, MD6.out⟩]] at hgx
    obtain ⟨gc, hng⟩ : ∃ x : Ge, x = { gb with mode := 3 } := ⟨_, rfl⟩
    rw [← hng] at hgx
    have OK7 := Lh (show OkM gc from by rw [hng]; exact OK6.out.mod (by decide) (by decide))
    have MD7 := Lh (show gc.mode = 3 from by rw [hng])
    have HLG7 := Lh OK7.out.lge
    clear hng
    obtain ⟨s0, s1, s2, s3, s4, s5, s6, s7, rfl, hmn, hjn⟩ := hgx
    have MN := Lh hmn
    have HJ7 := Lh hjn
    have ON7 := Lh (gc_one hmn)
    have HXn := Lh ((hb.block _ (lt_of_some HX6.out)).trans HX6.out)
    have HRn := Lh ((hb.block _ (lt_of_some HR6.out)).trans HR6.out)
    have Bn := Lh (B6.out.trans (hb.mono B6.out.size))
    have hbx := hb
    clear hmn hjn hb
    go_upto_region 7 with ((with_reducible refine storeRG gx _ #[.int .i64 gc.num, .int .i64 gc.rev, .int .i64 gc.mode, .int .i64 gc.size, s0, s1, s2, s3, s4, s5, s6, s7, .int .i64 gc.m.live, .int .i64 gc.m.garb] ?_ ?_ HXn.out rfl rfl ON7.out ?_); exact rfl; exact rfl)
    have HX7 := Lh (setRow_heap W7 gx _ #[.int .i64 gc.num, .int .i64 gc.rev, .int .i64 gc.mode, .int .i64 gc.size, s0, s1, s2, s3, s4, s5, s6, s7, .int .i64 gc.m.live, .int .i64 gc.m.garb] _ _ HXn.out)
    have HR7 := Lh ((setRow_other W7 gx w.heap.size #[.int .i64 gc.num, .int .i64 gc.rev, .int .i64 gc.mode, .int .i64 gc.size, s0, s1, s2, s3, s4, s5, s6, s7, .int .i64 gc.m.live, .int .i64 gc.m.garb] (by have := HGB.out; omega)).trans HRn.out)
    have B7 := Lh (below_setRowM Bn.out (Nat.le_of_lt HGB.out) #[.int .i64 gc.num, .int .i64 gc.rev, .int .i64 gc.mode, .int .i64 gc.size, s0, s1, s2, s3, s4, s5, s6, s7, .int .i64 gc.m.live, .int .i64 gc.m.garb])
    have MS7 := Lh (ms_setRowF MN.out HXn.out (gc_u64 (g := gb) (ms_below MS6.out hbx)) (cs := #[.int .i64 gc.num, .int .i64 gc.rev, .int .i64 gc.mode, .int .i64 gc.size, s0, s1, s2, s3, s4, s5, s6, s7, .int .i64 gc.m.live, .int .i64 gc.m.garb]))
    clear HXn HRn Bn MN
    generalize W7.setRow gx #[.int .i64 gc.num, .int .i64 gc.rev, .int .i64 gc.mode, .int .i64 gc.size, s0, s1, s2, s3, s4, s5, s6, s7, .int .i64 gc.m.live, .int .i64 gc.m.garb] = V7 at *
    obtain ⟨x0, x1, x2, x3, x4, x5, x6, x7, x8, x9, x10, x11, x12, x13⟩ := bx14 HX7.out
    go_wp2_with ((with_reducible refine storeRG w.heap.size _ #[.int .i64 gc.num, .int .i64 gc.rev, .int .i64 gc.mode, .int .i64 gc.size, s0, s1, s2, s3, s4, s5, s6, s7, .int .i64 gc.m.live, .int .i64 gc.m.garb] ?_ ?_ HR7.out rfl rfl ON7.out ?_); exact rfl; exact rfl)
    refine bodyPost_ret (results_cell_row rfl _ _ w.heap.size 43 #[.int .i64 gc.num, .int .i64 gc.rev, .int .i64 gc.mode, .int .i64 gc.size, s0, s1, s2, s3, s4, s5, s6, s7, .int .i64 gc.m.live, .int .i64 gc.m.garb] (0, 0) _ rfl (setRow_heap _ _ _ _ _ _ HR7.out) Tryz.underlying43 rfl infoRG14) rfl ?_
    exact ⟨⟨_, gc, rfl, ⟨s0, s1, s2, s3, s4, s5, s6, s7, rfl, ms_setRowF MS7.out HR7.out zeroG_u64, HJ7.out⟩, OK7.out, fun h => by have := HC9.out; omega⟩, below_setRowM B7.out (Nat.le_refl _) _⟩
end Go.Proofs.YtbmlpafbdbhaiaaGreatDoor.Gf
