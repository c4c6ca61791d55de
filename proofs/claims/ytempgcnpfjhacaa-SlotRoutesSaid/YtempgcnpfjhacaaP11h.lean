/- What is proved here: Delete of the program. -/
import Derived.Test.YtempgcnpfjhacaaP11g
namespace Go.Proofs.Ytempgcnpfjhacaa.Gf
open Go Go.Joins Go.ChangeShapes Go.WideShapes Go.ChangeAt Go.RowKit Go.Deep Go.Proofs.Ytempgcnpfjhacaa.By Go.Proofs.Ytempgcnpfjhacaa.Qt

end Go.Proofs.Ytempgcnpfjhacaa.Gf
