/- What is proved here: the program gives what the laws of layer 7 ask of it. Condition: the table of crc32c as laid. -/
import Derived.Test.YtekdnloabhnngaaDoorP7b
import Derived.Test.YtekdnloabhnngaaDoorP7c
import Derived.Test.YtekdnloabhnngaaDoorQ7d
namespace Go.Proofs.YtekdnloabhnngaaDoor.Gf
open Go Go.ChangeShapes Go.WideShapes Go.ChangeAt Go.RowKit Go.Proofs.YtekdnloabhnngaaDoor.By Go.Proofs.YtekdnloabhnngaaDoor.Crc Go.Proofs.YtekdnloabhnngaaDoor.Qt

theorem ew_of_eo {W w' : World} {l : List Nat} {err : Int} {e : Ending} (h : EO W l err e w') : EW W l err e w' := by
  obtain ⟨⟨v, hv, ho⟩, hb⟩ := h
  exact ⟨⟨v, hv, ho.sl⟩, hb⟩
theorem pencode7_any (s g r : Int) (w : World) (ht : Tab w) : Calls Tryd.prog 9 #[SV s g r] w (EW w (enV s g r) (enE s g r)) := by
  unfold enV enE
  cases h : okS s g r
  · rw [if_neg (by decide), if_neg (by decide)]
    exact (pencode7_bad s g r w h).mono fun _ _ h => ew_of_eo h
  · rw [if_pos rfl, if_pos rfl]
    obtain ⟨h1, h2, h3, h4, h5, h6⟩ := okS_iff.1 h
    obtain ⟨a, rfl⟩ := Int.eq_ofNat_of_zero_le h1
    obtain ⟨b, rfl⟩ := Int.eq_ofNat_of_zero_le (show 0 ≤ g by omega)
    obtain ⟨c, rfl⟩ := Int.eq_ofNat_of_zero_le h5
    exact (pencode7_ok a b c w h ht).mono fun _ _ h => ew_of_eo h
theorem pcs7 : PC7 Tab where
  st h hb := tab_below h hb
  valid s g r W _ _ _ _ := pvalid7_any s g r W
  enc s g r W ht _ _ _ := pencode7_any s g r W ht
  dec v l W ht s := pdecode7_any v l W s ht
  next s g r W _ _ _ _ := pnext7_any s g r W
end Go.Proofs.YtekdnloabhnngaaDoor.Gf
