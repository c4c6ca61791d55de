/- What is proved here: a needle that came in as an argument. No condition. -/
import Derived.Test.YtljdbaibhpgfnaaDoorQ6
import Derived.Lib.SmallJoins
namespace Go.Proofs.YtljdbaibhpgfnaaDoor.Gf
open Go Go.Joins Go.ChangeShapes Go.WideShapes Go.ChangeAt Go.RowKit Go.Proofs.YtljdbaibhpgfnaaDoor.By Go.Proofs.YtljdbaibhpgfnaaDoor.Crc

/-- A needle that came in. -/
theorem nd_open {H : Type} {enc : TypeId × Value → H} {W : World} {base : Nat} {v : Value} {d : DataW H} {p : List MemPlace} (hv : Value.okWide Tryd.prog W .any base 26 v) (h : DataW.Trod enc Tryd.prog W 0 (fun _ => true) true 26 v d p) : ∃ x, Nd W v x := by
  obtain ⟨v0, v1, v2, v3, y0, y1, y2, y3, n, rfl, rfl, rfl, h0, h1, h2, h3⟩ := open_agg4 Tryd.underlying26 (by kernel_rfl) (by kernel_rfl) hv h
  obtain ⟨k, hk, _, wk⟩ := DataW.trod_int Tryd.underlying22 h0
  obtain ⟨c, hc, _, wc⟩ := DataW.trod_int Tryd.underlying23 h1
  obtain ⟨b, hb, _⟩ := DataW.trod_bool Tryd.underlying4 h2
  obtain ⟨l, hl⟩ := sl_trod h3
  obtain rfl : v0 = .int .u64 k := by simpa using hk
  obtain rfl : v1 = .int .u32 c := by simpa using hc
  obtain rfl : v2 = .bool b := by simpa using hb
  simp [Lit.wf, IntKind.min, IntKind.max, IntKind.signed, IntKind.bits] at wk wc
  refine ⟨⟨k.toNat, c.toNat, b, l⟩, v3, ?_, by show k.toNat < _; omega, by show c.toNat < _; omega, hl⟩
  show _ = Value.agg #[.int .u64 ((k.toNat : Nat) : Int), .int .u32 ((c.toNat : Nat) : Int), .bool b, v3]
  rw [Int.toNat_of_nonneg (by omega), Int.toNat_of_nonneg (by omega)]
end Go.Proofs.YtljdbaibhpgfnaaDoor.Gf
