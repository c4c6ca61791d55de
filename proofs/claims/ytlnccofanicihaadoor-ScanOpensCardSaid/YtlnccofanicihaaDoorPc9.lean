/- What is proved here: what the laws of layer 9 ask of the program holds of it, in the worlds whose table of crc32c is as laid. -/
import Derived.Test.YtlnccofanicihaaDoorQ9a
import Derived.Test.YtlnccofanicihaaDoorP9a
import Derived.Test.YtlnccofanicihaaDoorP9b
import Derived.Test.YtlnccofanicihaaDoorP9f
namespace Go.Proofs.YtlnccofanicihaaDoor.Gf
open Go Go.Joins Go.ChangeShapes Go.WideShapes Go.ChangeAt Go.RowKit Go.Deep Go.Proofs.YtlnccofanicihaaDoor.By Go.Proofs.YtlnccofanicihaaDoor.Crc Go.Proofs.YtlnccofanicihaaDoor.Qt

theorem pcs9 : PC9 Tab where
  st := tab_below
  opn := fun v l W ht s hl => popen_any v l W s ht hl
  itm := fun v R W s hl => pitems_any v R W s hl
  byt := fun v R W s hl => pbytes_any v R W s hl
  slvg := fun v l W ht s hl => psalvage_any v l W s ht hl
  dec := fun v l W ht s => pdecode_any v l W s ht
  siz := fun n W h => psize_any n W h
end Go.Proofs.YtlnccofanicihaaDoor.Gf
