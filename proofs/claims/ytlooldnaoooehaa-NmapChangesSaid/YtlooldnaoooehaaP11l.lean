/- What is proved here: the laws' awake answers true. -/
import Derived.Test.YtlooldnaoooehaaP11k
namespace Go.Proofs.Ytlooldnaoooehaa.Gf
open Go Go.Joins Go.ChangeShapes Go.WideShapes Go.ChangeAt Go.RowKit Go.Deep Go.Proofs.Ytlooldnaoooehaa.By Go.Proofs.Ytlooldnaoooehaa.Qt

def xA : Itm := ⟨1, 0, 16, 0⟩
theorem xA_ok : okI xA := by decide
theorem xA_it : ItOk xA := ⟨by decide, by decide, by unfold J64 xA; decide, by unfold J64 xA; decide⟩
theorem ms_mp0 (s : Nat) : ms mp0 s = [] := by
  unfold ms mp0
  rw [List.getD_eq_getElem?_getD, List.getElem?_replicate]
  split <;> rfl
theorem awakeA : putM mp0 xA = ⟨mp0.st.set 4 [xA], 24, 0⟩ := by
  have h := put_eq mp0_ok.1 mp0_ok.2 xA_ok (by rw [ms_mp0]; decide)
  rw [ms_mp0] at h
  exact h
theorem awakeB : delM (putM mp0 xA) 1 = ⟨(mp0.st.set 4 [xA]).set 4 [], 0, 24⟩ := by
  have hok := putM_ok mp0_ok.1 mp0_ok.2 xA_ok
  have e : ms (putM mp0 xA) (sp 1) = [xA] := by rw [awakeA]; rfl
  have h := del_eq hok.1 hok.2 (k := 1) (by rw [e]; rfl) (by rw [e, awakeA]; decide)
  rw [e, awakeA] at h
  rw [awakeA]
  exact h
theorem few_mp0 : Few mp0 := fun k _ => by rw [ms_mp0]; exact Nat.zero_le _
theorem few_A : Few (putM mp0 xA) := by
  rw [awakeA]
  exact few_set (fun k hk => by rw [ms_mp0]; exact Nat.zero_le _) (by decide)
set_option maxRecDepth 100000 in
set_option maxHeartbeats 12800000 in
theorem awake11_any (w : World) : Calls Try.prog 10 #[] w fun e w' => e = .returned (.bool true) ∧ Below w.heap.size w w' := by
  have PN := Lib.hid (pnew_any w)
  have ST := Lib.hid (fun k W => pstripe_any k W)
  have hsp0 : sp 0 = 0 := by decide
  have hsp1 : sp 1 = 4 := by decide
  have ST0 := Lib.hid (fun W => pstripe_any 0 W)
  have ST1 := Lib.hid (fun W => pstripe_any 1 W)
  rw [hsp0] at ST0
  rw [hsp1] at ST1
  clear hsp0 hsp1 ST
  go_enter Try.func10, Try.ntmps10
  go_wp2_with fail
  refine PN.out.mono ?_
  rintro e w1 ⟨⟨v1, rfl, hv1⟩, hb⟩
  have B1 := Lib.hid hb
  have PP := Lib.hid (pput11_any v1 mp0 xA w1 hv1 few_mp0 xA_it)
  obtain ⟨s0, s1, s2, s3, s4, s5, s6, s7, rfl, -⟩ := hv1
  clear hb PN
  go_wp2_with fail
  refine PP.out.mono ?_
  rintro e w2 ⟨⟨v2, rfl, hv2⟩, hb⟩
  have B2 := Lib.hid (B1.out.trans (hb.mono B1.out.size))
  obtain ⟨t0, t1, t2, t3, t4, t5, t6, t7, rfl, hms2⟩ := hv2
  clear hb PP B1
  have ON2 := Lib.hid (ms_one hms2 (putM mp0 xA).live (putM mp0 xA).garb)
  have hz2 := heap_alloc_new w2 (.cells #[.slice none 0 0, .slice none 0 0, .slice none 0 0, .slice none 0 0, .slice none 0 0, .slice none 0 0, .slice none 0 0, .slice none 0 0, .int .i64 0, .int .i64 0] 32)
  go_upto_region 2 with ((with_reducible refine storeM w2.heap.size _ #[t0, t1, t2, t3, t4, t5, t6, t7, .int .i64 (putM mp0 xA).live, .int .i64 (putM mp0 xA).garb] ?_ ?_ hz2 rfl rfl ON2.out ?_); exact rfl; exact rfl)
  rw [World.setRow_alloc_new]
  clear hz2
  have q3 := bel_al w2 (.cells #[t0, t1, t2, t3, t4, t5, t6, t7, .int .i64 (putM mp0 xA).live, .int .i64 (putM mp0 xA).garb] 32)
  have HB3 := Lib.hid (heap_alloc_new w2 (.cells #[t0, t1, t2, t3, t4, t5, t6, t7, .int .i64 (putM mp0 xA).live, .int .i64 (putM mp0 xA).garb] 32))
  have B3 := Lib.hid (B2.out.trans (q3.mono B2.out.size))
  have hms3 := ms_below hms2 q3
  have PD := Lib.hid (pdelete_any _ (putM mp0 xA) 1 _ ⟨t0, t1, t2, t3, t4, t5, t6, t7, rfl, hms3⟩ few_A)
  clear q3 hms2 hms3 B2 ON2
  generalize w2.alloc (.cells #[t0, t1, t2, t3, t4, t5, t6, t7, .int .i64 (putM mp0 xA).live, .int .i64 (putM mp0 xA).garb] 32) = w3 at *
  obtain ⟨x0, x1, x2, x3, x4, x5, x6, x7, x8, x9⟩ := bx10 HB3.out
  go_wp2_with fail
  clear x0 x1 x2 x3 x4 x5 x6 x7 x8 x9
  refine PD.out.mono ?_
  rintro e w4 ⟨⟨v4, rfl, hv4⟩, hb⟩
  have B4 := Lib.hid (B3.out.trans (hb.mono B3.out.size))
  have HB4 := Lib.hid ((hb.block _ (lt_of_some HB3.out)).trans HB3.out)
  obtain ⟨r0, r1, r2, r3, r4, r5, r6, r7, rfl, hms4⟩ := hv4
  clear hb PD B3 HB3
  have ON4 := Lib.hid (ms_one hms4 (delM (putM mp0 xA) 1).live (delM (putM mp0 xA) 1).garb)
  have hz4 := heap_alloc_new w4 (.cells #[.slice none 0 0, .slice none 0 0, .slice none 0 0, .slice none 0 0, .slice none 0 0, .slice none 0 0, .slice none 0 0, .slice none 0 0, .int .i64 0, .int .i64 0] 32)
  go_upto_region 3 with ((with_reducible refine storeM w4.heap.size _ #[r0, r1, r2, r3, r4, r5, r6, r7, .int .i64 (delM (putM mp0 xA) 1).live, .int .i64 (delM (putM mp0 xA) 1).garb] ?_ ?_ hz4 rfl rfl ON4.out ?_); exact rfl; exact rfl)
  rw [World.setRow_alloc_new]
  clear hz4 hms4 ON4
  have q5 := bel_al w4 (.cells #[r0, r1, r2, r3, r4, r5, r6, r7, .int .i64 (delM (putM mp0 xA) 1).live, .int .i64 (delM (putM mp0 xA) 1).garb] 32)
  have HD5 := Lib.hid (heap_alloc_new w4 (.cells #[r0, r1, r2, r3, r4, r5, r6, r7, .int .i64 (delM (putM mp0 xA) 1).live, .int .i64 (delM (putM mp0 xA) 1).garb] 32))
  have B5 := Lib.hid (B4.out.trans (q5.mono B4.out.size))
  have HB5 := Lib.hid ((q5.block _ (lt_of_some HB4.out)).trans HB4.out)
  clear q5 B4 HB4
  generalize w4.alloc (.cells #[r0, r1, r2, r3, r4, r5, r6, r7, .int .i64 (delM (putM mp0 xA) 1).live, .int .i64 (delM (putM mp0 xA) 1).garb] 32) = w5 at *
  rw [awakeB] at HD5
  rw [awakeA] at HB5
  go_wp2_with fail
  refine (ST0.out w5).mono ?_
  rintro e w6 ⟨rfl, rfl⟩
  go_wp2_with fail
  refine (ST1.out w5).mono ?_
  rintro e w7 ⟨rfl, rfl⟩
  obtain ⟨-, -, -, -, -, -, -, -, x8, x9⟩ := bx10 HB5.out
  obtain ⟨-, -, -, -, -, -, -, -, y8, y9⟩ := bx10 HD5.out
  go_wp2_with fail
  go_ret
  exact ⟨rfl, B5.out⟩
end Go.Proofs.Ytlooldnaoooehaa.Gf
