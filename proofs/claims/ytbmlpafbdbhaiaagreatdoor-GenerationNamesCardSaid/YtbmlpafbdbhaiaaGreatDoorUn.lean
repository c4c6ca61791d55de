/- What is proved here: a name that came in as an argument. No condition. -/
import Derived.Test.YtbmlpafbdbhaiaaGreatDoorLift12
import Derived.Lib.SmallJoins
namespace Go.Proofs.YtbmlpafbdbhaiaaGreatDoor.Gf
open Go Go.Joins Go.ChangeShapes Go.WideShapes Go.ChangeAt Go.RowKit Go.Deep Go.Proofs.YtbmlpafbdbhaiaaGreatDoor.By
set_option maxRecDepth 100000
theorem list5 {α : Type} {l : List α} (h : l.length = 5) : ∃ c0 c1 c2 c3 c4, l = [c0, c1, c2, c3, c4] := by
  match l, h with
  | [c0, c1, c2, c3, c4], _ => exact ⟨c0, c1, c2, c3, c4, rfl⟩
/-- A name that came in as an argument. -/
theorem nm_open {H : Type} {enc : TypeId × Value → H} {W : World} {base : Nat} {v : Value} {d : DataW H} {p : List MemPlace} (hv : Value.okWide Tryz.prog W .any base 23 v) (h : DataW.Trod enc Tryz.prog W 0 (fun _ => true) true 23 v d p) : ∃ (k s g h : Int) (t : Bool), v = .agg #[.int .i64 k, .int .i64 s, .int .i64 g, .int .i64 h, .bool t] := by
  obtain ⟨cs, rfl, hsz⟩ := okWide_struct Tryz.underlying23 hv
  obtain ⟨fuel, hf⟩ := h
  rw [show Tryz.prog.cellsOf 23 = 5 by kernel_rfl] at hsz
  obtain ⟨l⟩ := cs
  obtain ⟨c0, c1, c2, c3, c4, rfl⟩ := list5 (show l.length = 5 by simpa using hsz)
  have e3 : Tryz.prog.cellsOf 3 = 1 := by kernel_rfl
  have e4 : Tryz.prog.cellsOf 4 = 1 := by kernel_rfl
  obtain ⟨xs, n, -, -, -, hlen, hr⟩ := DataW.trod_struct Tryz.underlying23 hf
  obtain ⟨y0, y1, y2, y3, y4, rfl⟩ := list5 (show xs.length = 5 by simpa using hlen)
  have h0 : DataW.trod enc Tryz.prog W 0 (fun _ => true) true n 3 (([c0, c1, c2, c3, c4].drop 0).take (Tryz.prog.cellsOf 3)) = some y0 := hr 0 _ rfl
  have h1 : DataW.trod enc Tryz.prog W 0 (fun _ => true) true n 3 (([c0, c1, c2, c3, c4].drop 1).take (Tryz.prog.cellsOf 3)) = some y1 := hr 1 _ rfl
  have h2 : DataW.trod enc Tryz.prog W 0 (fun _ => true) true n 3 (([c0, c1, c2, c3, c4].drop 2).take (Tryz.prog.cellsOf 3)) = some y2 := hr 2 _ rfl
  have h3 : DataW.trod enc Tryz.prog W 0 (fun _ => true) true n 3 (([c0, c1, c2, c3, c4].drop 3).take (Tryz.prog.cellsOf 3)) = some y3 := hr 3 _ rfl
  have h4 : DataW.trod enc Tryz.prog W 0 (fun _ => true) true n 4 (([c0, c1, c2, c3, c4].drop 4).take (Tryz.prog.cellsOf 4)) = some y4 := hr 4 _ rfl
  rw [e3] at h0 h1 h2 h3
  rw [e4] at h4
  obtain ⟨k, hk, -, -⟩ := DataW.trod_int Tryz.underlying3 h0
  obtain ⟨s, hs, -, -⟩ := DataW.trod_int Tryz.underlying3 h1
  obtain ⟨g, hg, -, -⟩ := DataW.trod_int Tryz.underlying3 h2
  obtain ⟨q, hq, -, -⟩ := DataW.trod_int Tryz.underlying3 h3
  obtain ⟨t, ht, -⟩ := DataW.trod_bool Tryz.underlying4 h4
  obtain rfl : c0 = .int .i64 k := by simpa [Value.cells] using hk
  obtain rfl : c1 = .int .i64 s := by simpa [Value.cells] using hs
  obtain rfl : c2 = .int .i64 g := by simpa [Value.cells] using hg
  obtain rfl : c3 = .int .i64 q := by simpa [Value.cells] using hq
  obtain rfl : c4 = .bool t := by simpa [Value.cells] using ht
  exact ⟨k, s, g, q, t, rfl⟩
end Go.Proofs.YtbmlpafbdbhaiaaGreatDoor.Gf
