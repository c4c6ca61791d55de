/- What is proved here: digit of the reference. -/
import Derived.Test.YtbmlpafbdbhaiaaGreatDoorGw5
import Derived.Laws.BytesArg
namespace Go.Proofs.YtbmlpafbdbhaiaaGreatDoor.Gf
open Go Go.Joins Go.ChangeShapes Go.WideShapes Go.ChangeAt Go.RowKit Go.Deep Go.Proofs.YtbmlpafbdbhaiaaGreatDoor.By Go.Proofs.YtbmlpafbdbhaiaaGreatDoor.Qt Go.Proofs
set_option maxRecDepth 100000
set_option maxHeartbeats 204800000
theorem rdigit (m : Nat) (h1 : m < 10) (w : World) : Calls Tryz.prog 45 #[.int .i64 (m : Int)] w fun e w' => e = .returned (.string ⟨#[dgB (m : Int)]⟩) ∧ Below w.heap.size w w' := by
 have hb := Lh (bel_al w (.cells #[.int .u8 (48 + (m : Int))] 5))
 have hc := cell_of_row _ w.heap.size 0 _ _ _ (heap_alloc_new w (.cells #[.int .u8 (48 + (m : Int))] 5))
 have hv := run_convert_bytes_arg (P := Tryz.prog) (w.alloc (.cells #[.int .u8 (48 + (m : Int))] 5)) 65 5 Tryz.underlying65 Tryz.underlying5 w.heap.size 0 1 1 [48 + (m : Int)] rfl (fun i hi => by
  obtain rfl : i = 0 := by omega
  exact hc) 9 Tryz.underlying9
 rw [show strOfNums [48 + (m : Int)] = ⟨#[dgB (m : Int)]⟩ from (by decide : ∀ q : Fin 10, strOfNums [48 + ((q.val : Nat) : Int)] = ⟨#[dgB ((q.val : Nat) : Int)]⟩) ⟨m, h1⟩] at hv
 have a1 : IntKind.i64.wrap (48 + (m : Int)) = 48 + (m : Int) := IntWalk.i64_in _ (by omega)
 have a2 : wrap64 (48 + (m : Int)) = 48 + (m : Int) := by unfold wrap64; omega
 have a3 : IntKind.u8.wrap (48 + (m : Int)) = 48 + (m : Int) := by unfold IntKind.wrap; simp [IntKind.signed, IntKind.bits]; omega
 clear hc h1
 go_enter Tryz.func45, Tryz.ntmps45
 go_wp2_with fail
 go_ret
 exact ⟨rfl, hb.out⟩
end Go.Proofs.YtbmlpafbdbhaiaaGreatDoor.Gf
