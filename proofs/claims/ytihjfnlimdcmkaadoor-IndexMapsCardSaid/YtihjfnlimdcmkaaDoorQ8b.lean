/- What is proved here: IndexValid returns true, over what the laws ask of the program. No condition. -/
import Derived.Test.YtihjfnlimdcmkaaDoorQ8a
namespace Go.Proofs.YtihjfnlimdcmkaaDoor.Gf
open Go Go.Joins Go.ChangeShapes Go.WideShapes Go.ChangeAt Go.RowKit Go.Deep Go.Sort Go.Proofs.YtihjfnlimdcmkaaDoor.By Go.Proofs.YtihjfnlimdcmkaaDoor.Crc Go.Proofs.YtihjfnlimdcmkaaDoor.Qt

theorem take40 (L : List Itm) : (L.take 40).length ≤ 40 := by rw [List.length_take]; omega
set_option maxRecDepth 100000 in
set_option maxHeartbeats 6400000 in
theorem valid8_walk {Ok : World → Prop} (P : PC8a Ok) (v : Value) (L : List Itm) (w : World) (hw : Ok w) (s : It w v L) : Calls Tryd.prog 3 #[v] w fun e w' => e = .returned (.bool true) ∧ Below w.heap.size w w' := by
  have CT := Lib.hid (cut8_any v L w s)
  have PV := Lib.hid (fun v M W (h : Ok W) a b => P.valid v M W h a b)
  have ST := Lib.hid (fun (W W' : World) => P.st (w := W) (w' := W'))
  have AW := Lib.hid (awake8_any P)
  have L40 := Lib.hid (take40 L)
  clear P
  obtain ⟨al, cl, rfl, -, -⟩ := it_form s
  generalize L.length = n0 at *
  generalize L.take 40 = M at *
  clear s
  go_enter Tryd.func3, Tryd.ntmps3
  go_wp2_with fail
  refine CT.out.mono ?_
  rintro e w1 ⟨⟨v1, rfl, hs1⟩, rfl⟩
  obtain ⟨a1, c1, hv1, -, -⟩ := it_form hs1
  obtain ⟨m, hm⟩ : ∃ m, m = M.length := ⟨_, rfl⟩
  rw [← hm] at hv1
  subst hv1
  have S1 := Lib.hid hs1
  clear hs1 CT hm
  go_wp2_with fail
  refine (PV.out _ M w hw S1.out (by have := L40.out; omega)).mono ?_
  rintro e w2 ⟨rfl, hb2⟩
  have K2 := Lib.hid (ST.out _ _ hw hb2)
  have S2 := Lib.hid (it_below S1.out hb2)
  have B2 := Lib.hid hb2
  clear hb2
  go_wp2_with fail
  refine (rvalid8_any _ M w2 S2.out).mono ?_
  rintro e w3 ⟨rfl, hb3⟩
  have K3 := Lib.hid (ST.out _ _ K2.out hb3)
  have S3 := Lib.hid (it_below S2.out hb3)
  have B3 := Lib.hid (bt B2.out hb3)
  clear hb3
  have hbe : (decide (okT M) == decide (okT M)) = true := by simp
  generalize decide (okT M) = D at *
  go_wp2_with fail
  refine (made_any _ M w3 S3.out).mono ?_
  rintro e w4 ⟨⟨v4, rfl, ho4⟩, hb4⟩
  have K4 := Lib.hid (ST.out _ _ K3.out hb4)
  have S4 := Lib.hid (owT_it ho4)
  have B4 := Lib.hid (bt B3.out hb4)
  obtain ⟨a4, c4, hv4, -, -⟩ := owT_form ho4
  obtain ⟨m4, hm4⟩ : ∃ q, q = (madeL M).length := ⟨_, rfl⟩
  rw [← hm4] at hv4
  subst hv4
  clear ho4 hb4 hm4
  go_wp2_with fail
  refine (PV.out _ (madeL M) w4 K4.out S4.out (by have := made_length M; omega)).mono ?_
  rw [decide_eq_true (made_ok M)]
  rintro e w5 ⟨rfl, hb5⟩
  have K5 := Lib.hid (ST.out _ _ K4.out hb5)
  have B5 := Lib.hid (bt B4.out hb5)
  clear hb5
  go_wp2_with fail
  refine (AW.out _ K5.out).mono ?_
  rintro e w6 ⟨rfl, hb6⟩
  go_wp2
  go_ret
  exact ⟨rfl, bt B5.out hb6⟩
end Go.Proofs.YtihjfnlimdcmkaaDoor.Gf
