/- What is proved here: the walk of the law StripeSizes, over what it asks of the program. No condition. -/
import Derived.Test.YtjpehjgcpnogiaaV5e
namespace Go.Proofs.Ytjpehjgcpnogiaa.Gf
open Go Go.Joins Go.ChangeShapes Go.WideShapes Go.ChangeAt Go.RowKit Go.Deep Go.Proofs.Ytjpehjgcpnogiaa.By

set_option maxRecDepth 100000 in
set_option maxHeartbeats 6400000 in
theorem sizes_walk (P : PC5) (n0 : Int) (h : I64b n0) (w : World) : Calls Try.prog 3 #[.int .i64 n0] w fun e w' => e = .returned (.bool true) ∧ Below w.heap.size w w' := by
  have PP := Lib.hid fun W => P.place n0 W h
  have PS := Lib.hid fun W => P.sizeB n0 W h
  have RP := Lib.hid fun W => rplace_any n0 W h
  have RS := Lib.hid fun W => rsize5_any n0 W h
  have AW := Lib.hid (awake5_any P)
  clear P h
  generalize plS n0 = a at *
  generalize plA n0 = b at *
  generalize plE n0 = c at *
  generalize szI n0 = z at *
  have x1 : (a == a) = true := by simp
  have x2 : (b == b) = true := by simp
  have x3 : (c == c) = true := by simp
  have x4 : (z == z) = true := by simp
  go_enter Try.func3, Try.ntmps3
  go_wp2_with fail
  refine (PP.out w).mono ?_
  rintro e w1 ⟨rfl, hb1⟩
  have B1 := Lib.hid hb1
  clear hb1
  go_wp2_with fail
  refine (RP.out w1).mono ?_
  rintro e w' ⟨rfl, rfl⟩
  go_wp2_with fail
  refine (PS.out w1).mono ?_
  rintro e w2 ⟨rfl, hb2⟩
  have B2 := Lib.hid (bt B1.out hb2)
  clear hb2
  go_wp2_with fail
  refine (RS.out w2).mono ?_
  rintro e w' ⟨rfl, rfl⟩
  go_wp2_with fail
  refine (AW.out w2).mono ?_
  rintro e w3 ⟨rfl, hb3⟩
  have hb := bt B2.out hb3
  go_wp2_with fail
  go_ret
  exact ⟨rfl, hb⟩
end Go.Proofs.Ytjpehjgcpnogiaa.Gf
