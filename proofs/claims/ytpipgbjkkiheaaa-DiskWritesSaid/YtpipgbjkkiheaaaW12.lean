/- What is proved here: what the law DiskWrites reads of the three disks that it makes. No program text. -/
import Derived.Test.YtpipgbjkkiheaaaW11
import Derived.Test.YtpipgbjkkiheaaaE10b
import Derived.Test.YtpipgbjkkiheaaaH10w
namespace Go.Proofs.Ytpipgbjkkiheaaa.Gf
open Go

/-- A disk after a write to one file of d. -/
structure WrD (d : Dk) (s : ByteArray) (c : List Nat) (V : Dk) : Prop where
  sm : SmD V
  pn : PnD V 15
  len : V.2.2.length ≤ 256
  size : sizeD V s = (c.length : Int)
  at0 : atE V s = 0
  rdE : readE V s 0 (c.length : Int) = 0
  rdL : readL V s 0 (c.length : Int) = c
  other : ∀ g ∈ d.2.2, nmEq g.1 s = false → readE V g.1 0 ((contL g).length : Int) = 0 ∧ readL V g.1 0 ((contL g).length : Int) = contL g
theorem rd_file {V : Dk} {s : ByteArray} {c : List Nat} (h0 : atE V s = 0) (hc : contL (fileAt V s) = c) : readE V s 0 (c.length : Int) = 0 ∧ readL V s 0 (c.length : Int) = c ∧ sizeD V s = (c.length : Int) := by
  have h1 : readE V s 0 (c.length : Int) = 0 := by
    unfold readE
    rw [if_pos h0, hc, if_neg (by omega)]
  refine ⟨h1, ?_, ?_⟩
  · unfold readL
    rw [if_pos h1, hc]
    simp
  · unfold sizeD
    rw [if_pos h0, hc]
theorem wr_rec {d V : Dk} {s : ByteArray} {c : List Nat} (hv : validB V = true) (hl : V.2.1 = -1) (hp : PnD V 15) (h0 : atE V s = 0) (hc : contL (fileAt V s) = c) (ho : ∀ g ∈ d.2.2, nmEq g.1 s = false → g ∈ V.2.2) : WrD d s c V where
  sm := valid_sm hv
  pn := hp
  len := (valid_parts hv).2.2.1
  size := (rd_file h0 hc).2.2
  at0 := h0
  rdE := (rd_file h0 hc).1
  rdL := (rd_file h0 hc).2.1
  other := fun g hg hn => by
    have ha := at_mem hv (by rw [hl]; decide) (ho g hg hn)
    have hr := rd_file ha.1 (c := contL g) (by rw [ha.2])
    exact ⟨hr.1, hr.2.1⟩
theorem put_pn {d : Dk} {k : Nat} (hv : validB d = true) (hp : PnD d k) {f : Fl} (hf : f.2.2.length ≤ k + 1) (c l : Int) : PnD (c, l, putG nmF d.2.2 f) (k + 1) := fun g hg => by
  rw [putG_insR nmF _ (valid_srt hv)] at hg
  rcases insR_mem nmF f _ g hg with h | h
  · rw [h]; exact hf
  · have := hp g h; omega
/-- What the law's three disks are. -/
theorem wr_append {d : Dk} {s : ByteArray} {b : List Nat} (hm : MadeW 0 (-1) d 14) (h0 : atE d s = 0) (hb : b.length ≤ 200) : appendE d s b = 0 ∧ WrD d s (contL (fileAt d s) ++ b) (appendD d s b) := by
  obtain ⟨-, hmem, hfl, hn, -, -, -, -⟩ := open_ok h0
  have hcl : (contL (fileAt d s)).length ≤ 2800 := cont_ends (hm.ends _ hmem)
  have he : appendE d s b = 0 := by
    unfold appendE wEx
    rw [if_pos h0, if_neg (by omega), if_neg (by intro h; exact h.1 hm.lim)]
  have hd : appendD d s b = wDx d (fileAt d s) (((contL (fileAt d s)).length : Int), b, false) := by unfold appendD; rw [if_pos he]
  have hv := append_valid he
  have hpn : PnD (appendD d s b) 15 := by
    rw [hd]
    exact put_pn hm.val hm.pn (by have := hm.pn _ hmem; show ((fileAt d s).2.2 ++ [_]).length ≤ _; rw [List.length_append]; simp; omega) _ _
  rw [hd] at hv hpn ⊢
  obtain ⟨h1, h2, h3, h4⟩ := wr_facts h0 (hm.left rfl) hv
  refine ⟨he, wr_rec hv h3 hpn h1 ?_ h4⟩
  rw [h2]
  have hc := cont_put hfl (off := (contL (fileAt d s)).length) (b := b) (Nat.le_refl _) (by omega)
  rw [hn] at hc
  rw [hc]
  simp
theorem wr_put {d : Dk} {s : ByteArray} {b : List Nat} {off : Nat} (hm : MadeW 0 (-1) d 14) (h0 : atE d s = 0) (hb : b.length ≤ 200) (ho : off ≤ (contL (fileAt d s)).length) : putE d s (off : Int) b = 0 ∧ WrD d s ((contL (fileAt d s)).take off ++ (b ++ (contL (fileAt d s)).drop (off + b.length))) (putD d s (off : Int) b) := by
  obtain ⟨-, hmem, hfl, hn, -, -, -, -⟩ := open_ok h0
  have hcl : (contL (fileAt d s)).length ≤ 2800 := cont_ends (hm.ends _ hmem)
  have he : putE d s (off : Int) b = 0 := by
    unfold putE wEx
    rw [if_pos h0, if_neg (by omega), if_neg (by rw [Int.toNat_natCast]; omega), if_neg (by intro h; exact h.1 hm.lim)]
  have hd : putD d s (off : Int) b = wDx d (fileAt d s) ((off : Int), b, false) := by unfold putD; rw [if_pos he]
  have hv := putD_valid he
  have hpn : PnD (putD d s (off : Int) b) 15 := by
    rw [hd]
    exact put_pn hm.val hm.pn (by have := hm.pn _ hmem; show ((fileAt d s).2.2 ++ [_]).length ≤ _; rw [List.length_append]; simp; omega) _ _
  rw [hd] at hv hpn ⊢
  obtain ⟨h1, h2, h3, h4⟩ := wr_facts h0 (hm.left rfl) hv
  refine ⟨he, wr_rec hv h3 hpn h1 ?_ h4⟩
  rw [h2]
  have hc := cont_put hfl (off := off) (b := b) ho (by omega)
  rw [hn] at hc
  rw [hc]
theorem wr_trunc {d : Dk} {s : ByteArray} {off : Nat} (hm : MadeW 0 (-1) d 14) (h0 : atE d s = 0) (ho : off ≤ (contL (fileAt d s)).length) : truncE d s (off : Int) = 0 ∧ WrD d s ((contL (fileAt d s)).take off) (truncD d s (off : Int)) := by
  obtain ⟨-, hmem, hfl, hn, -, -, -, -⟩ := open_ok h0
  have he : truncE d s (off : Int) = 0 := by
    unfold truncE
    rw [if_pos h0, if_neg (by omega)]
  have hd : truncD d s (off : Int) = wDx d (fileAt d s) ((off : Int), [], true) := by unfold truncD; rw [if_pos he]
  have hv := trunc_valid he
  have hpn : PnD (truncD d s (off : Int)) 15 := by
    rw [hd]
    exact put_pn hm.val hm.pn (by have := hm.pn _ hmem; show ((fileAt d s).2.2 ++ [_]).length ≤ _; rw [List.length_append]; simp; omega) _ _
  rw [hd] at hv hpn ⊢
  obtain ⟨h1, h2, h3, h4⟩ := wr_facts h0 (hm.left rfl) hv
  refine ⟨he, wr_rec hv h3 hpn h1 ?_ h4⟩
  rw [h2]
  have hc := cont_cut hfl (off := off) ho
  rw [hn] at hc
  rw [hc]
end Go.Proofs.Ytpipgbjkkiheaaa.Gf
