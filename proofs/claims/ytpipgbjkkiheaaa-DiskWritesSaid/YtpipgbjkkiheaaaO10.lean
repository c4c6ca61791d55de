/- What is proved here: the arguments of the laws of disk: lists of operations. -/
import Derived.Test.YtpipgbjkkiheaaaH10a
import Derived.Test.YtpipgbjkkiheaaaGo
namespace Go.Proofs.Ytpipgbjkkiheaaa.Gf
open Go Go.Joins Go.ChangeShapes Go.WideShapes Go.ChangeAt Go.RowKit Go.Deep Go.Proofs.Ytpipgbjkkiheaaa.By Go.Proofs.Ytpipgbjkkiheaaa.Qt

abbrev tyOp : Ty := .pr (.i .i64) (.pr .s (.pr .s (.pr (.i .i64) (.pr (.sl .u8) (.sl tyK)))))
/-- An operation: kind, name, other name, offset, data, keeps. -/
abbrev Opn : Type := Int × ByteArray × ByteArray × Int × List Nat × List Kep
theorem rd_op {B : Nat → Prop} {w : World} {cs : List Value} {x : Opn} (h : Rd B w tyOp cs x) : ∃ dv kv, cs = [.int .i64 x.1, .string x.2.1, .string x.2.2.1, .int .i64 x.2.2.2.1, dv, kv] ∧ (-9223372036854775808 ≤ x.1 ∧ x.1 ≤ 9223372036854775807) ∧ x.2.1.size ≤ maxLen ∧ x.2.2.1.size ≤ maxLen ∧ (-9223372036854775808 ≤ x.2.2.2.1 ∧ x.2.2.2.1 ≤ 9223372036854775807) ∧ Rd B w (.sl .u8) [dv] x.2.2.2.2.1 ∧ Rd B w (.sl tyK) [kv] x.2.2.2.2.2 := by
  obtain ⟨c0, d0, rfl, ⟨h0, rfl⟩, c1, d1, rfl, ⟨h1, rfl⟩, c2, d2, rfl, ⟨h2, rfl⟩, c3, d3, rfl, ⟨h3, rfl⟩, c4, d4, rfl, h4, h5⟩ := h
  have e4 := h4
  have e5 := h5
  obtain ⟨L4, a4, p4, rfl, -⟩ := e4
  obtain ⟨L5, a5, p5, rfl, -⟩ := e5
  exact ⟨_, _, rfl, h0, h1, h2, h3, h4, h5⟩
set_option maxRecDepth 100000 in
theorem tyKeepOf : TyOf Try.prog 124 tyK := .st Try.underlying124 (by kernel_rfl) (.more rfl (by kernel_rfl) (.s Try.underlying9) (.more rfl (by kernel_rfl) (.i Try.underlying3) (.last rfl (by kernel_rfl) (.i Try.underlying3))))
set_option maxRecDepth 100000 in
theorem tyOpOf : TyOf Try.prog 67 tyOp := .st Try.underlying67 (by kernel_rfl) (.more rfl (by kernel_rfl) (.i Try.underlying3) (.more rfl (by kernel_rfl) (.s Try.underlying9) (.more rfl (by kernel_rfl) (.s Try.underlying9) (.more rfl (by kernel_rfl) (.i Try.underlying2) (.more rfl (by kernel_rfl) (.sl Try.underlying52 (by kernel_rfl) (.u8 Try.underlying5)) (.last rfl (by kernel_rfl) (.sl Try.underlying65 (by kernel_rfl) tyKeepOf)))))))
set_option maxRecDepth 100000 in
theorem ops_open {H : Type} {enc : TypeId × Value → H} {W : World} {base : Nat} {v : Value} {d : DataW H} {p : List MemPlace} (hv : Value.okWide Try.prog W .any base 25 v) (h : DataW.Trod enc Try.prog W 0 (fun _ => true) true 25 v d p) : ∃ L, Rd (fun _ => True) W (.sl tyOp) [v] L := by
  obtain ⟨a, len, cap, rfl⟩ := okWide_slice Try.underlying25 hv
  obtain ⟨fuel, hf⟩ := h
  exact rd_open fuel (.sl Try.underlying25 (by kernel_rfl) tyOpOf) hf
end Go.Proofs.Ytpipgbjkkiheaaa.Gf
