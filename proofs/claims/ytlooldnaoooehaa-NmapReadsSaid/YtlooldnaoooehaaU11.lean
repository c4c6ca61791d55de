/- What is proved here: lists of bools and of small numbers that came in read as plain values. -/
import Derived.Test.YtlooldnaoooehaaProg
import Derived.Test.YtlooldnaoooehaaGo
namespace Go.Proofs.Ytlooldnaoooehaa.Gf
open Go Go.ChangeShapes Go.WideShapes Go.ChangeAt Go.RowKit Go.Deep

theorem bls_open {H : Type} {enc : TypeId × Value → H} {W : World} {base : Nat} {v : Value} {d : DataW H} {p : List MemPlace} (hv : Value.okWide Try.prog W .any base 60 v) (h : DataW.Trod enc Try.prog W 0 (fun _ => true) true 60 v d p) : ∃ L, Rd (fun _ => True) W (.sl .b) [v] L := by
  obtain ⟨a, len, cap, rfl⟩ := okWide_slice Try.underlying60 hv
  obtain ⟨fuel, hf⟩ := h
  exact rd_open fuel (.sl Try.underlying60 (by kernel_rfl) (.b Try.underlying4)) hf
theorem u16s_open {H : Type} {enc : TypeId × Value → H} {W : World} {base : Nat} {v : Value} {d : DataW H} {p : List MemPlace} (hv : Value.okWide Try.prog W .any base 62 v) (h : DataW.Trod enc Try.prog W 0 (fun _ => true) true 62 v d p) : ∃ L, Rd (fun _ => True) W (.sl (.i .u16)) [v] L := by
  obtain ⟨a, len, cap, rfl⟩ := okWide_slice Try.underlying62 hv
  obtain ⟨fuel, hf⟩ := h
  exact rd_open fuel (.sl Try.underlying62 (by kernel_rfl) (.i Try.underlying64)) hf
end Go.Proofs.Ytlooldnaoooehaa.Gf
