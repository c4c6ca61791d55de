/- What is proved here: the laws' told: what the program has is what the reference has. -/
import Derived.Test.YtgbnclepgjcakaaGreatGs19
namespace Go.Proofs.YtgbnclepgjcakaaGreat.Gf
open Go Go.Joins Go.ChangeShapes Go.WideShapes Go.ChangeAt Go.RowKit Go.Deep Go.Proofs.YtgbnclepgjcakaaGreat.By Go.Proofs.YtgbnclepgjcakaaGreat.Qt

end Go.Proofs.YtgbnclepgjcakaaGreat.Gf
