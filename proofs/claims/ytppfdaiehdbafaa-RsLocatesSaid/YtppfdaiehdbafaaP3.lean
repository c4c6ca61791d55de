/- What is proved here: what the program's functions keep, as one. No condition. -/
import Derived.Test.YtppfdaiehdbafaaG3g
import Derived.Test.YtppfdaiehdbafaaG4g
import Derived.Test.YtppfdaiehdbafaaG5
namespace Go.Proofs.Ytppfdaiehdbafaa.Gf
open Go Go.RowKit Go.Proofs.Ytppfdaiehdbafaa.By
set_option maxRecDepth 100000

theorem pcs3 : PC3 (fun _ => True) where
  st := fun _ _ _ _ => trivial
  valid := fun r c v l w _ _ s _ => by
    obtain ⟨a, cap, rfl, -, -⟩ := sl_form s
    exact valid_any r c a l.length cap w
  vander := fun r c w _ _ _ => vander_any r c w
  mul := fun ra ca rb cb v1 v2 la lb w _ _ _ _ s1 s2 _ => mul3_any ra ca rb cb v1 v2 la lb w s1 s2
  pick := fun r c v1 v2 l zs w _ _ s1 s2 _ => pick_any r c v1 v2 l zs w s1 s2
  invert := fun r c v l w _ _ s _ => invert_any r c v l w s
  apply := fun r c v1 v2 l L w _ _ s1 s2 hm _ => applyP_any r c v1 v2 l L w s1 s2 hm
  gmul := fun a b w ha hb _ => (mul_any a b w ha hb).mono fun _ _ ⟨he, hw⟩ => ⟨he, hw ▸ Below.refl _ _⟩
end Go.Proofs.Ytppfdaiehdbafaa.Gf
