/- What is proved here: what every law of this seat needs to open and shut its arguments, what the listed variables give, and a world for the witness. No condition. -/
import Derived.Test.YtbmlpafbdbhaiaaGreatDoorCards
import Derived.Test.YtbmlpafbdbhaiaaGreatDoorTie
import Derived.Test.YtbmlpafbdbhaiaaGreatDoorGw3
import Derived.Test.YtbmlpafbdbhaiaaGreatDoorVu
import Derived.Deep.DeepHandedRow
import Derived.Stop.LaidErr
import Derived.Shelf.Vars
import Derived.Lay
namespace Go.Proofs.YtbmlpafbdbhaiaaGreatDoor.Gf
open Go Go.ChangeShapes Go.WideShapes Go.ChangeAt Go.RowKit Go.Proofs

theorem own : ownKnob Tryz.prog.godebug = none := by kernel_rfl
theorem laidOut : laidOutB Tryz.prog = true := by kernel_rfl
theorem gES : Tryz.prog.globalNamed "strconv.ErrSyntax" = some 2 := by kernel_rfl
theorem gEST : (Tryz.prog.globals[2]?).map (·.type) = some 124 := by kernel_rfl
theorem gER : Tryz.prog.globalNamed "strconv.ErrRange" = some 3 := by kernel_rfl
theorem gERT : (Tryz.prog.globals[3]?).map (·.type) = some 124 := by kernel_rfl
theorem cellsES : Tryz.prog.cellsOf 237 = 1 := by kernel_rfl
theorem cellsStr : Tryz.prog.cellsOf 9 = 1 := by kernel_rfl
theorem starES : "*" ++ "errors.errorString" = "*errors.errorString" := by decide
theorem rowES (u : TypeId) (h : Tryz.prog.typeName? 3 u = some "*errors.errorString") : u = 235 :=
  typeName_ptr_named (nm := "errors.errorString") (by rw [starES]; kernel_rfl) (by kernel_rfl) (by decide) u (by rw [starES]; exact h)
/-- What the listed variables and the shape of the world give. -/
theorem strW_of {W : World} (h : laidMetH Tryz.prog Rows.generationNamesRow.laid W) (hsh : W.ShapedOpen Tryz.prog) : StrW W := by
  refine ⟨cell_of_shapedOpen_int hsh (by decide +kernel) (t := 3) (zero := #[.int .i64 0]) (by kernel_rfl) rfl (by kernel_rfl) (by kernel_rfl) Tryz.underlying3, ?_, ?_⟩
  · rw [MakeChecks.laidMetH_plain _ _ _ (by kernel_rfl)] at h
    obtain ⟨a, s, hv, -, -, -⟩ := laid_sentinel h.tail.tail.tail.tail.tail gES gEST Tryz.underlying124 rowES Tryz.underlying235 Tryz.underlying237 rfl rfl Tryz.underlying9 cellsES cellsStr
    exact ⟨_, _, by rw [World.var?_cell gES hv 0]; rfl⟩
  · rw [MakeChecks.laidMetH_plain _ _ _ (by kernel_rfl)] at h
    obtain ⟨a, s, hv, -, -, -⟩ := laid_sentinel h.tail.tail.tail.tail gER gERT Tryz.underlying124 rowES Tryz.underlying235 Tryz.underlying237 rfl rfl Tryz.underlying9 cellsES cellsStr
    exact ⟨_, _, by rw [World.var?_cell gER hv 0]; rfl⟩
/-- A world for the witness: the settled one, the listed variables laid. -/
noncomputable def laidWorld (os : Os) : World := World.laidAll Tryz.prog os Rows.generationNamesRow.laid
end Go.Proofs.YtbmlpafbdbhaiaaGreatDoor.Gf
