/- What is proved here: the program's Kill of a generation, exact. -/
import Derived.Test.YtbmlpafbdbhaiaaGreatDoorGm4
namespace Go.Proofs.YtbmlpafbdbhaiaaGreatDoor.Gf
open Go Go.Joins Go.ChangeShapes Go.WideShapes Go.ChangeAt Go.RowKit Go.Deep Go.Proofs.YtbmlpafbdbhaiaaGreatDoor.By Go.Proofs.YtbmlpafbdbhaiaaGreatDoor.Qt
set_option maxRecDepth 100000
set_option maxHeartbeats 204800000
/-- A list of keys in memory. -/
def Kx (w : World) (v : Value) (ks : List Nat) : Prop := ∃ a c, v = .slice a ks.length c ∧ (0 < ks.length → ∃ b off, a = some ⟨b, off, none⟩ ∧ ∀ i, i < ks.length → ks.getD i 0 < 18446744073709551616 ∧ w.cell? ⟨b, off + i, none⟩ = some (.int .u64 ((ks.getD i 0 : Nat) : Int)))
theorem kx_below {w w' : World} {v : Value} {ks : List Nat} (h : Kx w v ks) (hB : Below w.heap.size w w') : Kx w' v ks := by
 obtain ⟨a, c, h1, h4⟩ := h
 refine ⟨a, c, h1, fun hp => ?_⟩
 obtain ⟨b, off, ha, hc⟩ := h4 hp
 refine ⟨b, off, ha, fun i hi => ?_⟩
 obtain ⟨h5, h6⟩ := hc i hi
 exact ⟨h5, (hB.cell (p := ⟨b, off + i, none⟩) (block_lt_of_cell h6)).trans h6⟩
theorem kx_at {w : World} {a : Option Addr} {n c i : Nat} {ks : List Nat} (h : Kx w (.slice a n c) ks) (hi : i < n) : ∃ b off, a = some ⟨b, off, none⟩ ∧ ks.getD i 0 < 18446744073709551616 ∧ w.cell? ⟨b, off + i, none⟩ = some (.int .u64 ((ks.getD i 0 : Nat) : Int)) := by
 obtain ⟨a2, c2, h1, h4⟩ := h
 obtain ⟨rfl, rfl, rfl⟩ : a = a2 ∧ n = ks.length ∧ c = c2 := by simpa using h1
 obtain ⟨b, off, ha, hc⟩ := h4 (by omega)
 exact ⟨b, off, ha, hc i hi⟩
theorem okGe_gd {g : Ge} (h : okGe g) (hl : g.m.st.length = 8) (hf : g.m.st.flatten.length ≤ 900) : GdS g.m g.size 900 := ⟨⟨h.ok, hl, hf⟩, by have := h.eq; omega, h.hd.s1, by decide⟩
noncomputable def killC (g : Ge) : Int := if okGb g = true then (if g.mode = 1 then 12 else 0) else 1
noncomputable def killT (g : Ge) (ks : List Nat) : Ge := if killC g = 0 then { g with m := delK g.m ks } else g0
def KilO (g : Ge) (ks : List Nat) (w : World) (e : Ending) (w' : World) : Prop := (∃ v, e = .returned (.tuple #[v, .int .i64 (killC g)]) ∧ Gv w' v (killT g ks)) ∧ Below w.heap.size w w'
theorem kilO_of {g T : Ge} {ks : List Nat} {C : Int} {w w' : World} {e : Ending} (h1 : killC g = C) (h2 : killT g ks = T) (q : (∃ v, e = .returned (.tuple #[v, .int .i64 C]) ∧ Gv w' v T) ∧ Below w.heap.size w w') : KilO g ks w e w' := by
 unfold KilO
 rw [h1, h2]
 exact q
theorem killT_bad {g : Ge} {ks : List Nat} (h : killC g ≠ 0) : killT g ks = g0 := by unfold killT; rw [if_neg h]
theorem kilO_bad {g : Ge} {ks : List Nat} {w w' : World} {e : Ending} (h : ¬ okGe g) (q : (∃ v, e = .returned (.tuple #[v, .int .i64 1]) ∧ Gv w' v g0) ∧ Below w.heap.size w w') : KilO g ks w e w' := by
 have hc : killC g = 1 := by unfold killC; rw [okGb_f h, if_neg (by decide)]
 exact kilO_of hc (killT_bad (by rw [hc]; decide)) q
theorem kilO_state {g : Ge} {ks : List Nat} {w w' : World} {e : Ending} (h : okGe g) (hm : g.mode = 1) (q : (∃ v, e = .returned (.tuple #[v, .int .i64 12]) ∧ Gv w' v g0) ∧ Below w.heap.size w w') : KilO g ks w e w' := by
 have hc : killC g = 12 := by unfold killC; rw [okGb_t h, if_pos rfl, if_pos hm]
 exact kilO_of hc (killT_bad (by rw [hc]; decide)) q
theorem kilO_ok {g : Ge} {ks : List Nat} {w w' : World} {e : Ending} (h : okGe g) (hm : ¬ g.mode = 1) (q : (∃ v, e = .returned (.tuple #[v, .int .i64 0]) ∧ Gv w' v { g with m := delK g.m ks }) ∧ Below w.heap.size w w') : KilO g ks w e w' := by
 have hc : killC g = 0 := by unfold killC; rw [okGb_t h, if_pos rfl, if_neg hm]
 exact kilO_of hc (by unfold killT; rw [if_pos hc]) q
theorem pkill_x (s0 s1 s2 s3 s4 s5 s6 s7 : Value) (g : Ge) (vk : Value) (ks : List Nat) (w : World) (hms : Ms w [s0, s1, s2, s3, s4, s5, s6, s7] g.m) (hj : J64 g.num ∧ J64 g.rev ∧ J64 g.mode ∧ J64 g.size) (hlg : LGe g) (hk : Kx w vk ks) (hlen : ks.length ≤ 10000) : Calls Tryz.prog 29 #[.agg #[.int .i64 g.num, .int .i64 g.rev, .int .i64 g.mode, .int .i64 g.size, s0, s1, s2, s3, s4, s5, s6, s7, .int .i64 g.m.live, .int .i64 g.m.garb], vk] w (KilO g ks w) := by
 have q0 := al2 w (.cells #[.int .i64 g.num, .int .i64 g.rev, .int .i64 g.mode, .int .i64 g.size, s0, s1, s2, s3, s4, s5, s6, s7, .int .i64 g.m.live, .int .i64 g.m.garb] 50) (.cells #[.int .i64 0, .int .i64 0, .int .i64 0, .int .i64 0, .slice none 0 0, .slice none 0 0, .slice none 0 0, .slice none 0 0, .slice none 0 0, .slice none 0 0, .slice none 0 0, .slice none 0 0, .int .i64 0, .int .i64 0] 50)
 have HS := Lh q0.1
 have HZ := Lh q0.2.1
 have B0 := Lh q0.2.2
 have MS0 := Lh hms
 have MS := Lh (ms_below hms q0.2.2)
 have HJ := Lh hj
 have HLG := Lh hlg
 have PV := Lh (fun W (h : Gv W (.agg #[.int .i64 g.num, .int .i64 g.rev, .int .i64 g.mode, .int .i64 g.size, s0, s1, s2, s3, s4, s5, s6, s7, .int .i64 g.m.live, .int .i64 g.m.garb]) g) => pgvalid_any (.agg #[.int .i64 g.num, .int .i64 g.rev, .int .i64 g.mode, .int .i64 g.size, s0, s1, s2, s3, s4, s5, s6, s7, .int .i64 g.m.live, .int .i64 g.m.garb]) g W h hlg.1 (Nat.le_trans hlg.2 (by decide)))
 have KX := Lh hk
 have HKN := Lh hlen
 obtain ⟨a, c, rfl, -⟩ := hk
 obtain ⟨n, hn⟩ : ∃ q, q = ks.length := ⟨_, rfl⟩
 have HN := Lh hn
 rw [← hn] at KX ⊢
 clear q0 hms hj hlg hlen hn
 go_enter Tryz.func29, Tryz.ntmps29
 go_upto_region 1 with fail
 generalize (w.alloc (.cells #[.int .i64 g.num, .int .i64 g.rev, .int .i64 g.mode, .int .i64 g.size, s0, s1, s2, s3, s4, s5, s6, s7, .int .i64 g.m.live, .int .i64 g.m.garb] 50)).alloc (.cells #[.int .i64 0, .int .i64 0, .int .i64 0, .int .i64 0, .slice none 0 0, .slice none 0 0, .slice none 0 0, .slice none 0 0, .slice none 0 0, .slice none 0 0, .slice none 0 0, .slice none 0 0, .int .i64 0, .int .i64 0] 50) = W0 at *
 obtain ⟨x0, x1, x2, x3, x4, x5, x6, x7, x8, x9, x10, x11, x12, x13⟩ := bx14 HS.out
 go_wp2_with fail
 clear x0 x1 x2 x3 x4 x5 x6 x7 x8 x9 x10 x11 x12 x13
 refine (PV.out W0 ⟨s0, s1, s2, s3, s4, s5, s6, s7, rfl, MS.out, HJ.out⟩).mono ?_
 rintro e W1 ⟨rfl, hb⟩
 have HS1 := Lh ((hb.block _ (lt_of_some HS.out)).trans HS.out)
 have HZ1 := Lh ((hb.block _ (lt_of_some HZ.out)).trans HZ.out)
 have MS1 := Lh (ms_below MS.out hb)
 have B1 := Lh (B0.out.trans (hb.mono B0.out.size))
 clear hb HS HZ MS B0 PV
 rcases Classical.em (okGe g) with h1 | h1
 case inr =>
   rw [okGb_f h1]
   have HK := Lh h1
   clear h1
   go_wp2_with ((with_reducible refine storeG (w.heap.size + 1) _ #[.int .i64 0, .int .i64 0, .int .i64 0, .int .i64 0, .slice none 0 0, .slice none 0 0, .slice none 0 0, .slice none 0 0, .slice none 0 0, .slice none 0 0, .slice none 0 0, .slice none 0 0, .int .i64 0, .int .i64 0] ?_ ?_ HZ1.out rfl rfl zg_one ?_); exact rfl; exact rfl)
   refine bodyPost_ret (results_rt (S := 50) rfl _ _ (w.heap.size + 1) #[.int .i64 0, .int .i64 0, .int .i64 0, .int .i64 0, .slice none 0 0, .slice none 0 0, .slice none 0 0, .slice none 0 0, .slice none 0 0, .slice none 0 0, .slice none 0 0, .slice none 0 0, .int .i64 0, .int .i64 0] rfl (setRow_heap _ _ _ _ _ _ HZ1.out) Tryz.underlying50 rfl infoG14) rfl ?_
   exact kilO_bad HK.out ⟨⟨_, rfl, g0_v _⟩, below_setRowM B1.out (Nat.le_succ _) _⟩
 rw [okGb_t h1]
 have HK := Lh h1
 clear h1
 obtain ⟨x0, x1, x2, x3, x4, x5, x6, x7, x8, x9, x10, x11, x12, x13⟩ := bx14 HS1.out
 by_cases h2 : g.mode = 1
 · have d1 : decide (g.mode = 1) = true := decide_eq_true h2
   have d2 : (g.mode == 1) = true := beq_iff_eq.2 h2
   have HM := Lh h2
   clear h2
   go_wp2_with ((with_reducible refine storeG (w.heap.size + 1) _ #[.int .i64 0, .int .i64 0, .int .i64 0, .int .i64 0, .slice none 0 0, .slice none 0 0, .slice none 0 0, .slice none 0 0, .slice none 0 0, .slice none 0 0, .slice none 0 0, .slice none 0 0, .int .i64 0, .int .i64 0] ?_ ?_ HZ1.out rfl rfl zg_one ?_); exact rfl; exact rfl)
   refine bodyPost_ret (results_rt (S := 50) rfl _ _ (w.heap.size + 1) #[.int .i64 0, .int .i64 0, .int .i64 0, .int .i64 0, .slice none 0 0, .slice none 0 0, .slice none 0 0, .slice none 0 0, .slice none 0 0, .slice none 0 0, .slice none 0 0, .slice none 0 0, .int .i64 0, .int .i64 0] rfl (setRow_heap _ _ _ _ _ _ HZ1.out) Tryz.underlying50 rfl infoG14) rfl ?_
   exact kilO_state HK.out HM.out ⟨⟨_, rfl, g0_v _⟩, below_setRowM B1.out (Nat.le_succ _) _⟩
 have d1 : decide (g.mode = 1) = false := decide_eq_false h2
 have d2 : (g.mode == 1) = false := beq_false_of_ne h2
 have HM := Lh h2
 clear h2
 go_wp2_with fail
 clear x0 x1 x2 x3 x4 x5 x6 x7 x8 x9 x10 x11 x12 x13 d1 d2
 refine (ptable_x s0 s1 s2 s3 s4 s5 s6 s7 g.m 900 W1 MS1.out ⟨HK.out.ok, MS1.out.1, HLG.out.2⟩ (by decide)).mono ?_
 rintro e W2 ⟨⟨b, nn, rfl, hbb, hmi, hnn⟩, hb⟩
 have HS2 := Lh ((hb.block _ (lt_of_some HS1.out)).trans HS1.out)
 have HZ2 := Lh ((hb.block _ (lt_of_some HZ1.out)).trans HZ1.out)
 have B2 := Lh (B1.out.trans (hb.mono B1.out.size))
 have HMI := Lh hmi
 have HNN := Lh hnn
 have HBB := Lh (Nat.le_trans B1.out.size hbb)
 have HGS := Lh (okGe_gd HK.out MS1.out.1 HLG.out.2)
 clear hb hmi hnn hbb HS1 HZ1 MS1 B1
 go_wp2_with fail
 go_loopw [8, 22] (fun _ t wr => ∃ i : Nat, i ≤ n ∧ t = .int .i64 (i : Int) ∧ MI Tryz.prog 53 wr b nn (gO (delK g.m (ks.take i))) ∧ wr.heap[w.heap.size]? = some (.cells #[.int .i64 g.num, .int .i64 g.rev, .int .i64 g.mode, .int .i64 g.size, s0, s1, s2, s3, s4, s5, s6, s7, .int .i64 g.m.live, .int .i64 g.m.garb] 50 (0, 0)) ∧ wr.heap[w.heap.size + 1]? = some (.cells #[.int .i64 0, .int .i64 0, .int .i64 0, .int .i64 0, .slice none 0 0, .slice none 0 0, .slice none 0 0, .slice none 0 0, .slice none 0 0, .slice none 0 0, .slice none 0 0, .slice none 0 0, .int .i64 0, .int .i64 0] 50 (0, 0)) ∧ Below w.heap.size w wr) (fun _ t _ => n - (intOf t).toNat)
 case atStart => exact ⟨0, Nat.zero_le _, rfl, HMI.out, HS2.out, HZ2.out, B2.out⟩
 case round =>
   obtain ⟨i, hi, rfl, hm, hs, hz, hB⟩ := hrel
   rename World => wl
   have HM1 := Lh hm
   have HS3 := Lh hs
   have HZ3 := Lh hz
   have B3 := Lh hB
   have KX3 := Lh (kx_below KX.out hB)
   clear hm hs hz hB HS2 HZ2 B2 HMI
   by_cases hlt : i < n
   case neg =>
     obtain rfl : i = n := by omega
     have d1 : decide ((i : Int) < (i : Int)) = false := decide_eq_false (by omega)
     have MS3 := Lh (ms_below MS0.out B3.out)
     have HE := Lh (show ks.take i = ks from by rw [HN.out, List.take_length])
     rw [HE.out] at HM1
     have HGK := Lh (gdS_delK ks HGS.out).1
     clear hi hlt
     obtain ⟨x0, x1, x2, x3, x4, x5, x6, x7, x8, x9, x10, x11, x12, x13⟩ := bx14 HS3.out
     go_wp2_with fail
     clear x0 x1 x2 x3 x4 x5 x6 x7 x8 x9 x10 x11 x12 x13 d1
     refine (pfilled_x s0 s1 s2 s3 s4 s5 s6 s7 g g.size b nn (delK g.m ks) 900 wl MS3.out HJ.out HM1.out (by have := HNN.out; omega) HGK.out HK.out.hd.s0).mono ?_
     rintro e W5 ⟨⟨v, rfl, hgv⟩, hb⟩
     obtain ⟨r0, r1, r2, r3, r4, r5, r6, r7, rfl, hmr, hjr⟩ := hgv
     have HZ5 := Lh ((hb.block _ (lt_of_some HZ3.out)).trans HZ3.out)
     have B5 := Lh (B3.out.trans (hb.mono B3.out.size))
     have MR := Lh hmr
     have ON := Lh (gc_one (g := { g with m := delK g.m ks }) hmr)
     clear hb hmr hjr HS3 HZ3 B3
     go_wp2_with ((with_reducible refine storeG (w.heap.size + 1) _ #[.int .i64 g.num, .int .i64 g.rev, .int .i64 g.mode, .int .i64 g.size, r0, r1, r2, r3, r4, r5, r6, r7, .int .i64 (delK g.m ks).live, .int .i64 (delK g.m ks).garb] ?_ ?_ HZ5.out rfl rfl ON.out ?_); exact rfl; exact rfl)
     refine bodyPost_ret (results_rt (S := 50) rfl _ _ (w.heap.size + 1) #[.int .i64 g.num, .int .i64 g.rev, .int .i64 g.mode, .int .i64 g.size, r0, r1, r2, r3, r4, r5, r6, r7, .int .i64 (delK g.m ks).live, .int .i64 (delK g.m ks).garb] rfl (setRow_heap _ _ _ _ _ _ HZ5.out) Tryz.underlying50 rfl infoG14) rfl ?_
     exact kilO_ok HK.out HM.out ⟨⟨_, rfl, r0, r1, r2, r3, r4, r5, r6, r7, rfl, ms_setRowF MR.out HZ5.out zeroG_u64, HJ.out⟩, below_setRowM B5.out (Nat.le_succ _) _⟩
   have d1 : decide ((i : Int) < (n : Int)) = true := decide_eq_true (by omega)
   have d2 : decide (i < n) = true := decide_eq_true hlt
   obtain ⟨b8, off, rfl, hkk, hck⟩ := kx_at KX3.out hlt
   have HLT := Lh hlt
   have HKK := Lh hkk
   have HTK := Lh (show ks.take (i + 1) = ks.take i ++ [ks.getD i 0] from by
     rw [List.take_add_one, List.getElem?_eq_getElem (by have := HN.out; omega), Option.toList_some, List.getD_eq_getElem?_getD, List.getElem?_eq_getElem (by have := HN.out; omega)]
     rfl)
   generalize ks.getD i 0 = q at *
   have p0 : (0 : Int) ≤ (i : Int) := by omega
   have p1 : (i : Int) < (n : Int) := by omega
   have HDD := Lh (gdS_delK (ks.take i) HGS.out).1
   clear hlt hi hkk
   go_wp2_with (at_delete; refine mi_del Tryz.underlying53 Tryz.underlying107 rfl rfl HM1.out HKK.out rfl rfl ?_; intro W4 hm4 hg4; have HM4 := Lh hm4; have HS4 := Lh (heap_mi HS3.out HM1.out hg4); have HZ4 := Lh (heap_mi HZ3.out HM1.out hg4); have B4 := Lh (B3.out.grown hg4 B3.out.size (fun j hj => by cases hj; exact HBB.out)); clear hm4 hg4)
   have hw := w64s8 i (by have := HLT.out; have := HKN.out; have := HN.out; omega)
   go_wp2_with fail
   go_roundw
   case rel => exact ⟨i + 1, HLT.out, by go_num, by
     have e : gO (delK g.m (ks.take (i + 1))) = (fun r => if q = r then none else gO (delK g.m (ks.take i)) r) := funext fun r => by rw [HTK.out, delK_snoc]; exact (gdS_del HDD.out q).2 r
     rw [e]
     exact HM4.out, HS4.out, HZ4.out, B4.out⟩
   case measure => exact meas8 n i HLT.out (by have := HKN.out; have := HN.out; omega)
end Go.Proofs.YtbmlpafbdbhaiaaGreatDoor.Gf
