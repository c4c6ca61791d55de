/- What is proved here: one more write at most. No program text but the kinds of change. -/
import Derived.Test.YtpipgbjkkiheaaaMN10
import Derived.Test.YtpipgbjkkiheaaaH10a
namespace Go.Proofs.Ytpipgbjkkiheaaa.Gf
open Go

theorem pn_put {d : Dk} {k : Nat} (hv : validB d = true) (h : PnD d k) {f : Fl} (hf : f.2.2.length ≤ k + 1) (c l : Int) : PnD (c, l, putG nmF d.2.2 f) (k + 1) := fun g hg => by
  have hg2 : g ∈ putG nmF d.2.2 f := hg
  rw [putG_insR nmF f (valid_srt hv)] at hg2
  rcases insR_mem nmF f _ g hg2 with rfl | hg3
  · exact hf
  · have := h g hg3
    omega
theorem pn_drop {d : Dk} {k : Nat} (h : PnD d k) (s : ByteArray) (c l : Int) : PnD (c, l, dropG nmF d.2.2 s) k := fun g hg => by
  have hg2 : g ∈ dropG nmF d.2.2 s := hg
  unfold dropG at hg2
  split at hg2
  · rcases List.mem_append.1 hg2 with hg3 | hg3
    · exact h g (List.mem_of_mem_take hg3)
    · exact h g (List.mem_of_mem_drop hg3)
  · exact h g hg2
theorem pn_up {d : Dk} {k : Nat} (h : PnD d k) : PnD d (k + 1) := fun g hg => by
  have := h g hg
  omega
end Go.Proofs.Ytpipgbjkkiheaaa.Gf
