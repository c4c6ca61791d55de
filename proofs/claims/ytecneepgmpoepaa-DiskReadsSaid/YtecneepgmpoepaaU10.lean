/- What is proved here: the arguments of the laws of disk: a disk, an operation, a string, a list of keeps, as they come in. -/
import Derived.Test.YtecneepgmpoepaaO10
namespace Go.Proofs.Ytecneepgmpoepaa.Gf
open Go Go.Joins Go.ChangeShapes Go.WideShapes Go.ChangeAt Go.RowKit Go.Deep Go.Proofs.Ytecneepgmpoepaa.By Go.Proofs.Ytecneepgmpoepaa.Qt

abbrev tyDk : Ty := .pr (.i .i64) (.pr (.i .i64) (.sl tyF))
set_option maxRecDepth 100000 in
theorem tyWOf : TyOf Try.prog 94 tyW := .st Try.underlying94 (by kernel_rfl) (.more rfl (by kernel_rfl) (.i Try.underlying2) (.more rfl (by kernel_rfl) (.sl Try.underlying52 (by kernel_rfl) (.u8 Try.underlying5)) (.last rfl (by kernel_rfl) (.b Try.underlying4))))
set_option maxRecDepth 100000 in
theorem tyFOf : TyOf Try.prog 63 tyF := .st Try.underlying63 (by kernel_rfl) (.more rfl (by kernel_rfl) (.s Try.underlying9) (.more rfl (by kernel_rfl) (.sl Try.underlying52 (by kernel_rfl) (.u8 Try.underlying5)) (.last rfl (by kernel_rfl) (.sl Try.underlying61 (by kernel_rfl) tyWOf))))
set_option maxRecDepth 100000 in
theorem tyDkOf : TyOf Try.prog 24 tyDk := .st Try.underlying24 (by kernel_rfl) (.more rfl (by kernel_rfl) (.i Try.underlying2) (.more rfl (by kernel_rfl) (.i Try.underlying2) (.last rfl (by kernel_rfl) (.sl Try.underlying22 (by kernel_rfl) tyFOf))))
theorem rd_dkv {w : World} {cs : List Value} {x : tyDk.T} (h : Rd (fun _ => True) w tyDk cs x) : ∃ fv, cs = [.int .i64 x.1, .int .i64 x.2.1, fv] ∧ (-9223372036854775808 ≤ x.1 ∧ x.1 ≤ 9223372036854775807) ∧ (-9223372036854775808 ≤ x.2.1 ∧ x.2.1 ≤ 9223372036854775807) ∧ Rd (fun _ => True) w (.sl tyF) [fv] x.2.2 := by
  obtain ⟨c0, d0, rfl, ⟨h0, rfl⟩, c1, d1, rfl, ⟨h1, rfl⟩, h2⟩ := h
  have e2 := h2
  obtain ⟨L2, a2, p2, rfl, -⟩ := e2
  exact ⟨_, rfl, h0, h1, h2⟩
set_option maxRecDepth 100000 in
theorem dk_open {H : Type} {enc : TypeId × Value → H} {W : World} {base : Nat} {v : Value} {d : DataW H} {p : List MemPlace} (hv : Value.okWide Try.prog W .any base 24 v) (h : DataW.Trod enc Try.prog W 0 (fun _ => true) true 24 v d p) : ∃ D : Dk, Dv W v D := by
  obtain ⟨cs, rfl, -⟩ := okWide_struct Try.underlying24 hv
  obtain ⟨fuel, hf⟩ := h
  obtain ⟨x, hx⟩ := rd_open fuel tyDkOf hf
  obtain ⟨fv, hcs, h0, h1, h2⟩ := rd_dkv hx
  have e : cs = #[.int .i64 x.1, .int .i64 x.2.1, fv] := by
    cases cs
    simpa [Value.cells] using hcs
  subst e
  exact ⟨x, fv, rfl, ⟨h0, h1⟩, h2⟩
set_option maxRecDepth 100000 in
theorem opv_open {H : Type} {enc : TypeId × Value → H} {W : World} {base : Nat} {v : Value} {d : DataW H} {p : List MemPlace} (hv : Value.okWide Try.prog W .any base 67 v) (h : DataW.Trod enc Try.prog W 0 (fun _ => true) true 67 v d p) : ∃ (k : Int) (nm tn : ByteArray) (off : Int) (dv kv : Value) (db : List Nat) (ke : List Kep), v = .agg #[.int .i64 k, .string nm, .string tn, .int .i64 off, dv, kv] ∧ nm.size ≤ maxLen ∧ tn.size ≤ maxLen ∧ (-9223372036854775808 ≤ off ∧ off ≤ 9223372036854775807) ∧ Rd (fun _ => True) W (.sl .u8) [dv] db ∧ Rd (fun _ => True) W (.sl tyK) [kv] ke := by
  obtain ⟨cs, rfl, -⟩ := okWide_struct Try.underlying67 hv
  obtain ⟨fuel, hf⟩ := h
  obtain ⟨x, hx⟩ := rd_open fuel tyOpOf hf
  obtain ⟨dv, kv, hcs, -, h1, h2, h3, h4, h5⟩ := rd_op hx
  have e : cs = #[.int .i64 x.1, .string x.2.1, .string x.2.2.1, .int .i64 x.2.2.2.1, dv, kv] := by
    cases cs
    simpa [Value.cells] using hcs
  subst e
  exact ⟨_, _, _, _, dv, kv, _, _, rfl, h1, h2, h3, h4, h5⟩
set_option maxRecDepth 100000 in
theorem kps_open {H : Type} {enc : TypeId × Value → H} {W : World} {base : Nat} {v : Value} {d : DataW H} {p : List MemPlace} (hv : Value.okWide Try.prog W .any base 65 v) (h : DataW.Trod enc Try.prog W 0 (fun _ => true) true 65 v d p) : ∃ L, Rd (fun _ => True) W (.sl tyK) [v] L := by
  obtain ⟨a, len, cap, rfl⟩ := okWide_slice Try.underlying65 hv
  obtain ⟨fuel, hf⟩ := h
  exact rd_open fuel (.sl Try.underlying65 (by kernel_rfl) tyKeepOf) hf
end Go.Proofs.Ytecneepgmpoepaa.Gf
