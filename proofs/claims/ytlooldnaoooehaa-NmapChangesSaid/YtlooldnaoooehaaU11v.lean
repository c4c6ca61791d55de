/- What is proved here: an item that came in as an argument. No condition. -/
import Derived.Test.YtlooldnaoooehaaL11
import Derived.Lib.SmallJoins
namespace Go.Proofs.Ytlooldnaoooehaa.Gf
open Go Go.Joins Go.ChangeShapes Go.WideShapes Go.ChangeAt Go.RowKit Go.Proofs.Ytlooldnaoooehaa.By

/-- An item that came in. -/
theorem item_open {H : Type} {enc : TypeId × Value → H} {W : World} {base : Nat} {v : Value} {d : DataW H} {p : List MemPlace} (hv : Value.okWide Try.prog W .any base 37 v) (h : DataW.Trod enc Try.prog W 0 (fun _ => true) true 37 v d p) : ∃ x, v = TV x ∧ ItOk x := by
  obtain ⟨v0, v1, v2, v3, y0, y1, y2, y3, n, rfl, rfl, rfl, h0, h1, h2, h3⟩ := open_agg4 Try.underlying37 (by kernel_rfl) (by kernel_rfl) hv h
  obtain ⟨k, hk, _, wk⟩ := DataW.trod_int Try.underlying26 h0
  obtain ⟨c, hc, _, wc⟩ := DataW.trod_int Try.underlying35 h1
  obtain ⟨o, ho, _, wo⟩ := DataW.trod_int Try.underlying2 h2
  obtain ⟨z, hz, _, wz⟩ := DataW.trod_int Try.underlying3 h3
  obtain rfl : v0 = .int .u64 k := by simpa using hk
  obtain rfl : v1 = .int .u32 c := by simpa using hc
  obtain rfl : v2 = .int .i64 o := by simpa using ho
  obtain rfl : v3 = .int .i64 z := by simpa using hz
  have jo := j64_wf wo
  have jz := j64_wf wz
  simp [Lit.wf, IntKind.min, IntKind.max, IntKind.signed, IntKind.bits] at wk wc
  refine ⟨⟨k.toNat, c.toNat, o, z⟩, ?_, ⟨by show k.toNat < _; omega, by show c.toNat < _; omega, jo, jz⟩⟩
  show _ = Value.agg #[.int .u64 ((k.toNat : Nat) : Int), .int .u32 ((c.toNat : Nat) : Int), .int .i64 o, .int .i64 z]
  rw [Int.toNat_of_nonneg (by omega), Int.toNat_of_nonneg (by omega)]
end Go.Proofs.Ytlooldnaoooehaa.Gf
