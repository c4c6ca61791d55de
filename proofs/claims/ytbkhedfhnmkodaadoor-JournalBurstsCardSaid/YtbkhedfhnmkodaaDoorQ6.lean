/- What is proved here: needles as values, and the contracts of the reference's Size, Valid, Number, Value, Check. No condition. -/
import Derived.Test.YtbkhedfhnmkodaaDoorM6
import Derived.Test.YtbkhedfhnmkodaaDoorCr
import Derived.Test.YtbkhedfhnmkodaaDoorRo
import Derived.OwnWalk
import Derived.IntWalk
import Derived.BigQuiet
namespace Go.Proofs.YtbkhedfhnmkodaaDoor.Gf
open Go Go.ChangeShapes Go.WideShapes Go.ChangeAt Go.RowKit Go.Proofs.YtbkhedfhnmkodaaDoor.By Go.Proofs.YtbkhedfhnmkodaaDoor.Crc

end Go.Proofs.YtbkhedfhnmkodaaDoor.Gf
