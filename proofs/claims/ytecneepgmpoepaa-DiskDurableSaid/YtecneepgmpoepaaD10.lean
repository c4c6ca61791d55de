/- What is proved here: what was synced survives a crash, in plain lists. No program text. -/
import Derived.Test.YtecneepgmpoepaaH10f
import Derived.Test.YtecneepgmpoepaaP10z
-- halved
namespace Go.Proofs.Ytecneepgmpoepaa.Gf
open Go

/-- The state of a file of a disk whose bytes are b. -/
structure Zf (Z : Dk) (s : ByteArray) (b : List Nat) : Prop where
 at0 : atE Z s = 0
 size : sizeD Z s = (b.length : Int)
 re : readE Z s 0 (b.length : Int) = 0
 rl : readL Z s 0 (b.length : Int) = b
theorem cont_nil {Z : Dk} {s : ByteArray} {b : List Nat} (hv : validB Z = true) (hm : (s, b, []) ∈ Z.2.2) : contL (s, b, []) = b ∧ b.length ≤ 1048576 := by
 have hb := ok_mem (valid_parts hv).2.2.2 _ hm
 unfold fileB at hb
 rw [Bool.and_eq_true] at hb
 have hf : flB b [] = true := hb.2
 have hl := hf
 unfold flB at hl
 rw [Bool.and_eq_true] at hl
 refine ⟨?_, of_decide_eq_true hl.1⟩
 show (if flB b [] then apL b [] else []) = b
 rw [if_pos hf]
 rfl
theorem zf_of {Z : Dk} {s : ByteArray} {b : List Nat} (hv : validB Z = true) (h0 : Z.2.1 ≠ 0) (hm : (s, b, []) ∈ Z.2.2) : Zf Z s b := by
 obtain ⟨h1, h2⟩ := at_mem hv h0 hm
 have h1 : atE Z s = 0 := h1
 have h2 : fileAt Z s = (s, b, []) := h2
 have hc := (cont_nil hv hm).1
 have hr : readE Z s 0 (b.length : Int) = 0 := by
  unfold readE
  rw [if_pos h1, h2, hc, if_neg (by omega)]
 refine ⟨h1, ?_, hr, ?_⟩
 ·unfold sizeD
  rw [if_pos h1, h2, hc]
 ·unfold readL
  rw [if_pos hr, h2, hc]
  simp
theorem rem_nil {s : ByteArray} {b : List Nat} (k : Kep) (hc : contL (s, b, []) = b) : remF (s, b, []) k = (s, b, []) := by
 have hk : keepW [] k.2.1 k.2.2 = [] := List.eq_nil_of_length_eq_zero (Nat.le_zero.1 (keepW_len [] k.2.1 k.2.2))
 show (s, contL (s, b, keepW [] k.2.1 k.2.2), ([] : List Wr)) = _
 rw [hk, hc]
theorem dur {c : Int} {d : Dk} (h : MadeP c (-1) d 14) {s : ByteArray} (h0 : atE d s = 0) (ke : List Kep) : ∃ b : List Nat, b.length ≤ 1048576 ∧ MadeP c (-1) (syncD d s) 15 ∧ MadeP c (-1) (crashD (syncD d s) ke) 16 ∧ Zf (syncD d s) s b ∧ Zf (crashD (syncD d s) ke) s b ∧ namesL (crashD (syncD d s) ke) = namesL (syncD d s) := by
 have hx : MadeP c (-1) (syncD d s) 15 := op_made h 5 (by decide) s s 0 [] [] h0
 have hy : MadeP c (-1) (crashD (syncD d s) ke) 16 := op_made hx 8 (by decide) s s 0 [] ke rfl
 have hm : (s, contL (fileAt d s), []) ∈ (syncD d s).2.2 := by
  have hb := at_ok h0
  unfold syncD
  rw [if_pos h0]
  exact List.mem_of_getElem? (i := (atI d s).toNat) (List.getElem?_set_self (by omega))
 have hc := cont_nil hx.val hm
 have hx1 : (syncD d s).2.1 ≠ 0 := by rw [hx.left rfl]; decide
 have hy1 : (crashD (syncD d s) ke).2.1 ≠ 0 := by rw [hy.left rfl]; decide
 have hcr : crashD (syncD d s) ke = ((syncD d s).1, -1, (syncD d s).2.2.map fun f => remF f ((fstK f.1 ke).getD kep0)) := if_pos hx.val
 have hm2 : (s, contL (fileAt d s), []) ∈ (crashD (syncD d s) ke).2.2 := by
  rw [hcr]
  exact List.mem_map.2 ⟨_, hm, rem_nil _ hc.1⟩
 refine ⟨contL (fileAt d s), hc.2, hx, hy, zf_of hx.val hx1 hm, zf_of hy.val hy1 hm2, ?_⟩
 unfold namesL
 rw [if_pos hy.val, if_pos hx.val, hcr]
 show ((syncD d s).2.2.map _).map _ = _
 rw [List.map_map]
 rfl
end Go.Proofs.Ytecneepgmpoepaa.Gf
