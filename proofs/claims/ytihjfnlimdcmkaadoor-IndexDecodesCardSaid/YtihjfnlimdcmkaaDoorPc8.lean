/- What is proved here: the program keeps what the laws of layer 8 ask of it, in the worlds where the table of crc32c is laid. -/
import Derived.Test.YtihjfnlimdcmkaaDoorP8g
namespace Go.Proofs.YtihjfnlimdcmkaaDoor.Gf
open Go Go.Joins Go.ChangeShapes Go.WideShapes Go.ChangeAt Go.RowKit Go.Deep Go.Sort Go.Proofs.YtihjfnlimdcmkaaDoor.By Go.Proofs.YtihjfnlimdcmkaaDoor.Crc Go.Proofs.YtihjfnlimdcmkaaDoor.Qt

theorem pcs8a : PC8a Tab where
  st := fun h hb => tab_below h hb
  valid := fun v L W _ s _ => pvalid8_any v L W s
  enc := fun v L W hT s hl => pencode8_any v L W s hl hT
  dec := fun v l W hT s hl => pdecode8_any v l W s hl hT
  find0 := fun v L k W _ s _ hl _ => pfind8_any v L k W s hl
  merge0 := fun vo vf vg O F G W _ so sf sg _ _ h1 h2 h3 => pmerge8_any vo vf vg O F G W so sf sg h1 h2 h3
theorem pcs8 : PC8 Tab where
  toPC8a := pcs8a
  find := fun v L k W _ s hl _ => pfind8_any v L k W s hl
  put := fun v L x W _ s hl ok => pput8_any v L x W s hl ok
  drop := fun v L k W _ s hl _ => pdrop8_any v L k W s hl
  merge := fun vo vf vg O F G W _ so sf sg h1 h2 h3 => pmerge8_any vo vf vg O F G W so sf sg h1 h2 h3
end Go.Proofs.YtihjfnlimdcmkaaDoor.Gf
