/- What is proved here: what every law of this seat needs to open and shut its arguments, and that the listed table gives the cells that the walks read. No condition. -/
import Derived.Test.YtffpbmlpnclmkaaDoorCards
import Derived.Test.YtffpbmlpnclmkaaDoorTie
import Derived.Test.YtffpbmlpnclmkaaDoorW9
import Derived.Deep.DeepHandedRow
import Derived.Lib.LaidTab
namespace Go.Proofs.YtffpbmlpnclmkaaDoor.Crc
open Go Go.ChangeShapes Go.WideShapes Go.ChangeAt Go.RowKit

theorem own : ownKnob Tryd.prog.godebug = none := by kernel_rfl
theorem laidOut : laidOutB Tryd.prog = true := by kernel_rfl
theorem gTab : Tryd.prog.globalNamed "needlestore/crc32c.nibbles" = some 0 := by kernel_rfl
theorem gTabType : (Tryd.prog.globals[0]?).map (·.type) = some 38 := by kernel_rfl
theorem cells38 : Tryd.prog.cellsOf 38 = 16 := by kernel_rfl
theorem cells23 : Tryd.prog.cellsOf 23 = 1 := by kernel_rfl
theorem cells5 : Tryd.prog.cellsOf 5 = 1 := by kernel_rfl
def nibs : List Int := [0, 274646895, 549293790, 820201905, 1098587580, 1361435347, 1640403810, 1905808397, 2197175160, 2460548119, 2722870694, 2987750089, 3280807620, 3553878443, 3811616794, 4084100981]
theorem nibs_get : ∀ i, i < 16 → nibs.getD i 0 = ((nib i : Nat) : Int) := by decide
/-- The listed table gives its cells. -/
theorem tab_of {W : World} (h : laidMetH Tryd.prog [("needlestore/crc32c.nibbles", Lib.tabData .u32 nibs)] W) : Tab W := fun i hi => by
  have ht : Lib.TabIs Tryd.prog W "needlestore/crc32c.nibbles" .u32 nibs := Lib.tabIs_of_head (rest := []) gTab gTabType Tryd.underlying38 Tryd.underlying23 cells23 cells38 h
  rw [ht.cell gTab i hi, nibs_get i hi]
/-- A slice of bytes that came in reads as a list. -/
theorem sl_open {H : Type} {enc : TypeId × Value → H} {W : World} {base : Nat} {v : Value} {d : DataW H} {p : List MemPlace} (hv : Value.okWide Tryd.prog W .any base 22 v) (h : DataW.Trod enc Tryd.prog W 0 (fun _ => true) true 22 v d p) : ∃ l, Sl W v l := by
  obtain ⟨a, len, cap, rfl⟩ := okWide_slice Tryd.underlying22 hv
  obtain ⟨fuel, hf⟩ := h
  rcases open_ints Tryd.underlying22 Tryd.underlying5 cells5 hf with ⟨hcs, _⟩ | ⟨x, l, c, zs, hcs, _, hl, hm, hz, _, hcell, hwz⟩
  · simp [Value.cells] at hcs
    obtain ⟨rfl, rfl, rfl⟩ := hcs
    exact ⟨[], by simp, by simp, Or.inl ⟨_, _, rfl, rfl, by simp⟩⟩
  · simp [Value.cells] at hcs
    obtain ⟨rfl, rfl, rfl⟩ := hcs
    have hz' : zs.length = cap := by simpa using hz
    have hb : ∀ n ∈ zs, 0 ≤ n ∧ n < 256 := fun n hn => by
      have := hwz n hn
      simp [Lit.wf, IntKind.min, IntKind.max, IntKind.signed, IntKind.bits] at this
      omega
    have hlen : ((zs.take len).map Int.toNat).length = len := by simp; omega
    refine ⟨(zs.take len).map Int.toNat, fun b hb' => ?_, by rw [hlen]; omega, ?_⟩
    · obtain ⟨n, hn, rfl⟩ := List.mem_map.1 hb'
      have := hb n (List.mem_of_mem_take hn)
      omega
    · by_cases h0 : 0 < cap
      · refine Or.inr ?_
        obtain ⟨b, off, spot⟩ := x
        have hc := hcell 0 (by omega)
        have hspot : spot = none := by simpa [Addr.add] using World.cell?_spot hc
        subst hspot
        refine ⟨b, off, cap, by rw [hlen], by omega, hm, fun k hk => ?_⟩
        rw [hlen] at hk
        have hck := hcell k (by omega)
        have ha : (⟨b, off, none⟩ : Addr).add k = ⟨b, off + k, none⟩ := by unfold Addr.add; split <;> simp_all
        rw [ha] at hck
        rw [hck]
        have hkz : k < zs.length := by omega
        have hz0 := hb zs[k] (List.getElem_mem hkz)
        have e1 : zs.getD k 0 = zs[k] := by simp [List.getD, hkz]
        have e2 : ((zs.take len).map Int.toNat).getD k 0 = (zs[k]).toNat := by simp [List.getD, hk, hkz]
        rw [e1, e2]
        congr 2
        omega
      · obtain rfl : len = 0 := by omega
        exact Or.inl ⟨_, _, rfl, by simp, hm⟩
theorem u32_nat {n : Int} (h : (Lit.int .u32 n).wf = true) : ∃ x : Nat, n = x ∧ x < 4294967296 := by
  simp [Lit.wf, IntKind.min, IntKind.max, IntKind.signed, IntKind.bits] at h
  exact ⟨n.toNat, by omega, by omega⟩
theorem i64_bounds {n : Int} (h : (Lit.int .i64 n).wf = true) : -9223372036854775808 ≤ n ∧ n < 9223372036854775808 := by
  simp [Lit.wf, IntKind.min, IntKind.max, IntKind.signed, IntKind.bits] at h
  omega
/-- A world for the witness: the settled one, the table holding what its initialiser lays. -/
noncomputable def laidWorld (os : Os) : World :=
  { World.holding Tryd.prog os ⟨#[], #[], []⟩ with heap := (World.holding Tryd.prog os ⟨#[], #[], []⟩).heap.modify 0 fun
      | .cells _ t frozen => .cells (nibs.map fun z => Value.int .u32 z).toArray t frozen
      | o => o }
end Go.Proofs.YtffpbmlpnclmkaaDoor.Crc
