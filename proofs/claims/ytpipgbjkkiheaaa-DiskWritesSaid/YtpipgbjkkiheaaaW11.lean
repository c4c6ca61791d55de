/- What is proved here: a disk after a write to a file: the file, and the other files. No program text. For DiskWrites. -/
import Derived.Test.YtpipgbjkkiheaaaW10
import Derived.Test.YtpipgbjkkiheaaaMW10
namespace Go.Proofs.Ytpipgbjkkiheaaa.Gf
open Go

theorem insR_self {α : Type} (nm : α → ByteArray) (f : α) : ∀ L : List α, f ∈ insR nm L f
  | [] => by simp [insR]
  | x :: L => by
    unfold insR
    split
    · exact List.mem_cons_of_mem _ (insR_self nm f L)
    · split
      · exact List.mem_cons_self ..
      · exact List.mem_cons_self ..
theorem insR_keep {α : Type} (nm : α → ByteArray) (f : α) : ∀ (L : List α) (y : α), y ∈ L → nmEq (nm y) (nm f) = false → y ∈ insR nm L f
  | x :: L, y, hy, hn => by
    unfold insR
    split
    · rcases List.mem_cons.1 hy with rfl | h
      · exact List.mem_cons_self ..
      · exact List.mem_cons_of_mem _ (insR_keep nm f L y h hn)
    · split
      · rename_i he
        rcases List.mem_cons.1 hy with rfl | h
        · rw [he] at hn; cases hn
        · exact List.mem_cons_of_mem _ h
      · exact List.mem_cons_of_mem _ hy
/-- A disk after a write to a file that is there. -/
theorem wr_facts {d : Dk} {s : ByteArray} {y : Wr} (h0 : atE d s = 0) (hl : d.2.1 = -1) (hv : validB (wDx d (fileAt d s) y) = true) : atE (wDx d (fileAt d s) y) s = 0 ∧ fileAt (wDx d (fileAt d s) y) s = (s, (fileAt d s).2.1, (fileAt d s).2.2 ++ [y]) ∧ (wDx d (fileAt d s) y).2.1 = -1 ∧ ∀ g ∈ d.2.2, nmEq g.1 s = false → g ∈ (wDx d (fileAt d s) y).2.2 := by
  obtain ⟨-, -, -, hn, hvd, -, -, -⟩ := open_ok h0
  have hz : (wDx d (fileAt d s) y).2.2 = insR nmF d.2.2 (s, (fileAt d s).2.1, (fileAt d s).2.2 ++ [y]) := by
    unfold wDx
    dsimp only
    rw [putG_insR nmF _ (valid_srt hvd), hn]
  have h1 : (wDx d (fileAt d s) y).2.1 = -1 := by
    show leftN d.2.1 = -1
    rw [hl]
    rfl
  have hm : (s, (fileAt d s).2.1, (fileAt d s).2.2 ++ [y]) ∈ (wDx d (fileAt d s) y).2.2 := by
    rw [hz]
    exact insR_self ..
  have ha := at_mem hv (by rw [h1]; decide) hm
  exact ⟨ha.1, ha.2, h1, fun g hg hne => by rw [hz]; exact insR_keep nmF _ _ _ hg hne⟩
/-- The content of a file after a write within it, or at its end. -/
theorem cont_put {x : Fl} (h : flB x.2.1 x.2.2 = true) {off : Nat} {b : List Nat} (ho : off ≤ (contL x).length) (hm : off + b.length ≤ 1048576) : contL (x.1, x.2.1, x.2.2 ++ [((off : Int), b, false)]) = (contL x).take off ++ (b ++ (contL x).drop (off + b.length)) := by
  have hx : contL x = apL x.2.1 x.2.2 := by unfold contL; rw [if_pos h]
  have hcl := contL_le x
  rw [hx] at ho hcl ⊢
  have hf := flB_write h (off := off) (x := b) ho (by omega)
  unfold contL
  rw [if_pos hf, apL_append, apL_one]
  unfold apW padL
  rw [if_neg (by simp)]
  dsimp only
  rw [Int.toNat_natCast, Nat.sub_eq_zero_of_le ho, List.replicate_zero, List.append_nil]
/-- The content of a file after it was cut. -/
theorem cont_cut {x : Fl} (h : flB x.2.1 x.2.2 = true) {off : Nat} (ho : off ≤ (contL x).length) : contL (x.1, x.2.1, x.2.2 ++ [((off : Int), [], true)]) = (contL x).take off := by
  have hx : contL x = apL x.2.1 x.2.2 := by unfold contL; rw [if_pos h]
  rw [hx] at ho ⊢
  have hf := flB_trunc h (off := off) ho
  unfold contL
  rw [if_pos hf, apL_append, apL_one]
  unfold apW
  rw [if_pos rfl]
  dsimp only
  rw [Int.toNat_natCast]
end Go.Proofs.Ytpipgbjkkiheaaa.Gf
