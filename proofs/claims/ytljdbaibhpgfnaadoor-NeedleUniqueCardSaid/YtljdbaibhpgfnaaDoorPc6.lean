/- What is proved here: what the laws ask of the program, in the worlds in which the table of crc32c lies as laid. -/
import Derived.Test.YtljdbaibhpgfnaaDoorQ6e
import Derived.Test.YtljdbaibhpgfnaaDoorPe
import Derived.Test.YtljdbaibhpgfnaaDoorPf
namespace Go.Proofs.YtljdbaibhpgfnaaDoor.Gf
open Go Go.ChangeShapes Go.WideShapes Go.ChangeAt Go.RowKit Go.Proofs.YtljdbaibhpgfnaaDoor.By Go.Proofs.YtljdbaibhpgfnaaDoor.Crc

theorem pcs6 : PC6 Tab where
  st := tab_below
  size := fun n W _ h => (psize_any n W h).mono fun _ _ ⟨h1, h2⟩ => ⟨h1, h2 ▸ Below.refl _ _⟩
  valid := fun v x W _ h => pvalid_any v x W h
  enc := fun v x W h1 h2 => (pencode_any v x W h2 h1).mono fun _ _ ⟨⟨s, hs, ho⟩, hb⟩ => ⟨⟨s, hs, ho.sl⟩, hb⟩
  dec := fun v l W h1 h2 => pdecode_any v l W h2 h1
end Go.Proofs.YtljdbaibhpgfnaaDoor.Gf
