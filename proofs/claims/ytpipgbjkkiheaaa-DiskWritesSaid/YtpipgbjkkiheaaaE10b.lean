/- What is proved here: a disk at a place, a name in a list. No program text but the types of strings and disks. -/
import Derived.Test.YtpipgbjkkiheaaaH10g
import Derived.Test.YtpipgbjkkiheaaaP10z
namespace Go.Proofs.Ytpipgbjkkiheaaa.Gf
open Go Go.Joins Go.ChangeShapes Go.WideShapes Go.ChangeAt Go.RowKit Go.Deep Go.Proofs.Ytpipgbjkkiheaaa.By Go.Proofs.Ytpipgbjkkiheaaa.Qt

/-- A disk that lies at a place. -/
def DAt (W : World) (b o : Nat) (d : Dk) : Prop := ∃ a c, W.cell? ⟨b, o, none⟩ = some (.int .i64 d.1) ∧ W.cell? ⟨b, o + 1, none⟩ = some (.int .i64 d.2.1) ∧ W.cell? ⟨b, o + 2, none⟩ = some (.slice a d.2.2.length c) ∧ Dv W (.agg #[.int .i64 d.1, .int .i64 d.2.1, .slice a d.2.2.length c]) d
theorem dv_BV {w : World} {v : Value} {d : Dk} (h : Dv w v d) : DvB (fun _ => True) w v d := h
theorem str_at {w : World} {a : Option Addr} {n c : Nat} {l : List ByteArray} (h : Rd (fun _ => True) w (.sl .s) [.slice a n c] l) {j : Nat} {x : ByteArray} (hx : l[j]? = some x) : ∃ b o, a = some ⟨b, o, none⟩ ∧ w.cell? ⟨b, o + j, none⟩ = some (.string x) ∧ x.size ≤ maxLen := by
  have hj := (List.getElem?_eq_some_iff.1 hx).1
  obtain ⟨b2, o2, c2, hv2, -, -, -, hc2⟩ := rd_cells h (by omega)
  obtain ⟨rfl, -⟩ : a = some ⟨b2, o2, none⟩ ∧ (n = l.length ∧ c = c2) := by simpa using hv2
  obtain ⟨cs2, hrd2, hk2⟩ := hc2 j x hx
  obtain ⟨hs, rfl⟩ : x.size ≤ maxLen ∧ cs2 = [.string x] := hrd2
  have k0 := hk2 0 (by decide)
  rw [show o2 + (j * Ty.s.n + 0) = o2 + j by show o2 + (j * 1 + 0) = _; omega] at k0
  exact ⟨b2, o2, rfl, k0, hs⟩
end Go.Proofs.Ytpipgbjkkiheaaa.Gf
