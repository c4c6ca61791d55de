/- What is proved here: a slice of bytes that came in is no longer than its datum's bulk. No condition. -/
import Derived.Test.YtekdnloabhnngaaDoorBulk
import Derived.Test.YtekdnloabhnngaaDoorBy
namespace Go.Proofs.YtekdnloabhnngaaDoor.Gf
open Go Go.ChangeShapes Go.WideShapes Go.ChangeAt Go.RowKit Go.Proofs.YtekdnloabhnngaaDoor.By

theorem len_bulk {H : Type} {enc : TypeId × Value → H} {W : World} {v : Value} {l : List Nat} {d : DataW H} {p : List MemPlace} (h : DataW.Trod enc Tryd.prog W 0 (fun _ => true) true 26 v d p) (hs : Sl W v l) : l.length ≤ Rows.uptoBulk d := by
  obtain ⟨a, c, rfl, -, -⟩ := sl_form hs
  obtain ⟨fuel, hf⟩ := h
  rcases open_ints Tryd.underlying26 Tryd.underlying5 cellsB hf with ⟨hcs, _⟩ | ⟨x, n, c', zs, hcs, _, hl, hm, hz, hd, -, -⟩
  · simp [Value.cells] at hcs
    obtain ⟨-, h0, -⟩ := hcs
    simp [h0]
  · simp [Value.cells] at hcs
    obtain ⟨-, rfl, rfl⟩ := hcs
    obtain ⟨rfl, -⟩ : d = .slice (lits .u8 (zs.take l.length)) (lits .u8 (zs.drop l.length)) ∧ p = _ := by simpa using hd
    have hz' : zs.length = c := by simpa using hz
    have := bulks.slice_le (lits (H := H) .u8 (zs.take l.length)) (lits .u8 (zs.drop l.length))
    have e : (lits (H := H) .u8 (zs.take l.length)).length = l.length := by simp [lits]; omega
    omega
theorem len_small {H : Type} {d : DataW H} {l : List (DataW H)} {n : Nat} (hk : Rows.uptoSmall H l = true) (hd : d ∈ l) (hn : n ≤ Rows.uptoBulk d) : n ≤ 1048576 :=
  Nat.le_trans hn (Nat.le_trans (bulks.part_le hd) (bulks.bound hk))
end Go.Proofs.YtekdnloabhnngaaDoor.Gf
