/- What is proved here: the walk of the law GfmatrixApplies over PC3. -/
import Derived.Test.YtcckhgadgiaofaaL6i
import Derived.Test.YtcckhgadgiaofaaR3j
namespace Go.Proofs.Ytcckhgadgiaofaa.Gf
open Go Go.RowKit Go.Proofs.Ytcckhgadgiaofaa.By

theorem applies_walk {Ok : World → Prop} (P : PC3 Ok) (r c : Int) (v : Value) (l : List Nat) (v5 : Value) (l5 : List (List Nat)) (w : World) (hr : I64 r) (hc : I64 c) (s : Sl w v l) (s5 : Sr w v5 l5) (ok : Ok w) : Calls Try.prog 10 #[mv r c v, v5] w fun e w' => e = .returned (.bool true) ∧ Below w.heap.size w w' :=
  applies_walk0 P (fun r c v1 v2 l L w s1 s2 hm => rapply_any r c v1 v2 l L w s1 s2 hm) r c v l v5 l5 w hr hc s s5 ok
end Go.Proofs.Ytcckhgadgiaofaa.Gf
