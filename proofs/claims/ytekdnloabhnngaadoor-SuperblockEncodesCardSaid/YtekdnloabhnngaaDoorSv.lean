/- What is proved here: a superblock that came in as an argument. No condition. -/
import Derived.Test.YtekdnloabhnngaaDoorR7
import Derived.Lib.SmallJoins
namespace Go.Proofs.YtekdnloabhnngaaDoor.Gf
open Go Go.Joins Go.ChangeShapes Go.WideShapes Go.ChangeAt Go.RowKit Go.Proofs.YtekdnloabhnngaaDoor.By Go.Proofs.YtekdnloabhnngaaDoor.Crc

/-- A superblock that came in. -/
theorem sv_open {H : Type} {enc : TypeId × Value → H} {W : World} {base : Nat} {v : Value} {d : DataW H} {p : List MemPlace} (hv : Value.okWide Tryd.prog W .any base 23 v) (h : DataW.Trod enc Tryd.prog W 0 (fun _ => true) true 23 v d p) : ∃ s g r, v = SV s g r ∧ J64 s ∧ J64 g ∧ J64 r := by
  obtain ⟨v0, v1, v2, y0, y1, y2, n, rfl, rfl, rfl, h0, h1, h2⟩ := open_agg3 Tryd.underlying23 (by kernel_rfl) (by kernel_rfl) hv h
  obtain ⟨k, hk, _, wk⟩ := DataW.trod_int Tryd.underlying3 h0
  obtain ⟨c, hc, _, wc⟩ := DataW.trod_int Tryd.underlying3 h1
  obtain ⟨z, hz, _, wz⟩ := DataW.trod_int Tryd.underlying2 h2
  obtain rfl : v0 = .int .i64 k := by simpa using hk
  obtain rfl : v1 = .int .i64 c := by simpa using hc
  obtain rfl : v2 = .int .i64 z := by simpa using hz
  simp [Lit.wf, IntKind.min, IntKind.max, IntKind.signed, IntKind.bits] at wk wc wz
  exact ⟨k, c, z, rfl, by unfold J64; omega, by unfold J64; omega, by unfold J64; omega⟩
end Go.Proofs.YtekdnloabhnngaaDoor.Gf
