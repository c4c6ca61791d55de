/- What is proved here: the contracts of the program's eight functions of layer 2, as one. No condition. -/
import Derived.Test.YtkmmpfmemjnbmaaL2
import Derived.Test.YtkmmpfmemjnbmaaMa
namespace Go.Proofs.Ytkmmpfmemjnbmaa.Gf
theorem pcs : PC (fun _ => True) where
  st := fun _ _ _ _ => trivial
  add := fun a b w ha hb _ => add_any a b w ha hb
  mul := fun a b w ha hb _ => mul_bel a b w ha hb
  inv := fun a w ha _ => inv_any a w ha
  div := fun a b w ha hb _ => div_any a b w ha hb
  exp := fun n w h1 h2 _ => exp_any n w h1 h2
  log := fun a w ha _ => log_any a w ha
  pow := fun a n w ha h1 h2 _ => pow_any a n w ha h1 h2
  ma := fun v1 v2 d s c w h1 h2 l1 _ hc _ => ma_any v1 v2 d s c w h1 h2 (by omega) hc
end Go.Proofs.Ytkmmpfmemjnbmaa.Gf
