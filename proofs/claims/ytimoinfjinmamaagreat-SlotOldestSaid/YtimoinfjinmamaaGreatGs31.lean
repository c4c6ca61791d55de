/- What is proved here: the reference's Find in any slot of few items; Older of both sides. -/
import Derived.Test.YtimoinfjinmamaaGreatGs29
import Derived.Test.YtimoinfjinmamaaGreatVq
import Derived.Test.YtimoinfjinmamaaGreatEx
namespace Go.Proofs.YtimoinfjinmamaaGreat.Gf
open Joins ChangeShapes WideShapes ChangeAt RowKit Deep By Qt
noncomputable def oldF (L : List Ge) (key i : Nat) : List Int := ((L.take i).filter fun g => hasL (gL g.m key) key).map fun g => g.num
end Go.Proofs.YtimoinfjinmamaaGreat.Gf
