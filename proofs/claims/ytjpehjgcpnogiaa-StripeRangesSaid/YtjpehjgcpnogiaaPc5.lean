/- What is proved here: the program's functions are what the laws of layer 5 ask for. No condition. -/
import Derived.Test.YtjpehjgcpnogiaaPj
import Derived.Test.YtjpehjgcpnogiaaPp
namespace Go.Proofs.Ytjpehjgcpnogiaa.Gf
open Go Go.RowKit

theorem pcs5 : PC5 where
  size := psize_any
  place := fun n W h => (pplace_any n W h).mono fun _ _ h => ⟨h.1, h.2 ▸ Below.refl _ _⟩
  split := psplit_any
  join := fun v L n W s hn hm => pjoin_any v L n W s hn hm
  pieces := fun off n W ho hn => ppieces_any off n W ho hn
end Go.Proofs.Ytjpehjgcpnogiaa.Gf
