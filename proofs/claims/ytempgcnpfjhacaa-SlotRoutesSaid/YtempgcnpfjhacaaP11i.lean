/- What is proved here: Put of the program. -/
import Derived.Test.YtempgcnpfjhacaaP11h
import Derived.Deep.WholeRow
namespace Go.Proofs.Ytempgcnpfjhacaa.Gf
open Go Go.Joins Go.ChangeShapes Go.WideShapes Go.ChangeAt Go.RowKit Go.Deep Go.Proofs.Ytempgcnpfjhacaa.By Go.Proofs.Ytempgcnpfjhacaa.Qt

end Go.Proofs.Ytempgcnpfjhacaa.Gf
