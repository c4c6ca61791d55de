/- What is proved here: what the laws' operations, all ten kinds, make of a disk: valid, with one more write at most. No program text but the kinds of change. -/
import Derived.Test.YtpipgbjkkiheaaaMO10
import Derived.Test.YtpipgbjkkiheaaaH10e
namespace Go.Proofs.Ytpipgbjkkiheaaa.Gf
open Go

/-- The state of a disk that operations have made. -/
structure MadeP (c l : Int) (d : Dk) (k : Nat) : Prop where
  val : validB d = true
  lim : d.1 = c
  left : l = -1 → d.2.1 = -1
  pn : PnD d k
theorem flip_made {d : Dk} {s : ByteArray} {bit : Int} (hv : validB d = true) (h : flipE d s bit = 0) : flipD d s bit = (d.1, d.2.1, putG nmF d.2.2 ((flipF d s).1, flipB (flipF d s).2.1 bit, (flipF d s).2.2)) ∧ validB (flipD d s bit) = true ∧ (flipF d s).2.2 = [] := by
  have hf := flip_find d s bit
  have h0 : findE d s = 0 := by
    by_cases c : findE d s = 0
    · exact c
    · rw [hf.1 c] at h; exact absurd h c
  obtain ⟨-, hE, hD, hmem, hsrt, hle, hbl⟩ := hf.2 h0
  have hD := hD h
  rw [h] at hE
  have hp : (flipF d s).2.2 = [] := by
    by_cases c : 0 < (flipF d s).2.2.length
    · rw [if_pos c] at hE; cases hE
    · exact List.eq_nil_of_length_eq_zero (by omega)
  have hfile := ok_mem (valid_parts hv).2.2.2 _ hmem
  have hnm : nameB (flipF d s).1 = true := by
    unfold fileB at hfile
    rw [Bool.and_eq_true] at hfile
    exact hfile.1
  have hh : hasG nmF d.2.2 (flipF d s).1 = true := by
    have hpos : 0 ≤ fndL d.2.2 (flipF d s).1 := by
      have e := fnd_lb (s := (flipF d s).1) hsrt
      by_cases c : hasG (fun f : Fl => f.1) d.2.2 (flipF d s).1 = true
      · rw [if_pos c] at e; omega
      · exfalso
        obtain ⟨i, hi, he⟩ := List.getElem_of_mem hmem
        have hn : fndL d.2.2 (flipF d s).1 = -1 := by rw [e, if_neg c]
        unfold fndL at hn
        split at hn
        · omega
        · rename_i hnone
          rw [List.findIdx?_eq_none_iff] at hnone
          have := hnone _ hmem
          simp [nmEq_refl] at this
    exact (fnd_has hsrt hpos).1
  refine ⟨hD, ?_, hp⟩
  rw [hD]
  refine put_valid hv ?_ (by rw [put_len (f := ((flipF d s).1, flipB (flipF d s).2.1 bit, (flipF d s).2.2)) hv hh]; exact hle) (valid_parts hv).2.1
  unfold fileB flB
  rw [hp, hnm]
  have hl : (flipB (flipF d s).2.1 bit).length ≤ 1048576 := by
    unfold flipB
    rw [List.length_set]
    exact hbl
  simp [okP, hl]
theorem made_append {c l : Int} {d : Dk} {k : Nat} (h : MadeP c l d k) {nm : ByteArray} {b : List Nat} (he : appendE d nm b = 0) : MadeP c l (appendD d nm b) (k + 1) := by
  have hl : l = -1 → leftN d.2.1 = -1 := fun e => by rw [h.left e]; rfl
  have hv := append_valid he
  obtain ⟨ha, -⟩ := append_parts he
  obtain ⟨-, hm, -⟩ := open_ok ha
  unfold appendD at hv ⊢
  rw [if_pos he] at hv ⊢
  unfold wDx at hv ⊢
  have hp := h.pn _ hm
  exact ⟨hv, h.lim, hl, pn_put h.val h.pn (by simp; omega) _ _⟩
theorem op_made {c l : Int} {d : Dk} {k : Nat} (h : MadeP c l d k) (kk : Nat) (hk : kk ≤ 9) (nm tn : ByteArray) (off : Int) (b : List Nat) (ke : List Kep) (he : opE d kk nm tn off b = 0) : MadeP c l (opD d kk nm tn off b ke) (k + 1) := by
  have hl : l = -1 → leftN d.2.1 = -1 := fun e => by rw [h.left e]; rfl
  obtain rfl | rfl | rfl | rfl | rfl | rfl | rfl | rfl | rfl | rfl : kk = 0 ∨ kk = 1 ∨ kk = 2 ∨ kk = 3 ∨ kk = 4 ∨ kk = 5 ∨ kk = 6 ∨ kk = 7 ∨ kk = 8 ∨ kk = 9 := by omega
  · have he : createE d nm = 0 := he
    have hv := create_valid he
    show MadeP c l (createD d nm) (k + 1)
    rw [create_eq he] at hv ⊢
    exact ⟨hv, h.lim, hl, pn_put h.val h.pn (by simp) _ _⟩
  · exact made_append h he
  · exact made_append h he
  · have he : putE d nm off b = 0 := he
    have hv := putD_valid he
    obtain ⟨ha, -⟩ := put_parts he
    obtain ⟨-, hm, -⟩ := open_ok ha
    show MadeP c l (putD d nm off b) (k + 1)
    unfold putD at hv ⊢
    rw [if_pos he] at hv ⊢
    unfold wDx at hv ⊢
    have hp := h.pn _ hm
    exact ⟨hv, h.lim, hl, pn_put h.val h.pn (by simp; omega) _ _⟩
  · have he : truncE d nm off = 0 := he
    have hv := trunc_valid he
    obtain ⟨ha, -⟩ := trunc_parts he
    obtain ⟨-, hm, -⟩ := open_ok ha
    show MadeP c l (truncD d nm off) (k + 1)
    unfold truncD at hv ⊢
    rw [if_pos he] at hv ⊢
    unfold wDx at hv ⊢
    have hp := h.pn _ hm
    exact ⟨hv, h.lim, hl, pn_put h.val h.pn (by simp; omega) _ _⟩
  · have he : atE d nm = 0 := he
    have hv := sync_valid he
    show MadeP c l (syncD d nm) (k + 1)
    rw [sync_eq he] at hv ⊢
    exact ⟨hv, h.lim, hl, pn_put h.val h.pn (by simp) _ _⟩
  · have he : renameE d nm tn = 0 := he
    have hv := rename_valid he
    have ha : atE d nm = 0 := by
      unfold renameE at he
      by_cases c : nameB tn = true
      · rw [if_pos c] at he; exact he
      · rw [if_neg c] at he; exact absurd he (by decide)
    obtain ⟨-, hm, -⟩ := open_ok ha
    show MadeP c l (renameD d nm tn) (k + 1)
    rw [rename_eq he] at hv ⊢
    have hp := h.pn _ hm
    refine ⟨hv, h.lim, hl, ?_⟩
    exact pn_put (d := (d.1, leftN d.2.1, dropG nmF d.2.2 nm)) (drop_valid h.val nm (leftN_ge (valid_parts h.val).2.1)).1 (pn_drop h.pn nm _ _) (by show (fileAt d nm).2.2.length ≤ k + 1; omega) _ _
  · have he : atE d nm = 0 := he
    have hv := remove_valid he
    show MadeP c l (removeD d nm) (k + 1)
    rw [remove_eq he] at hv ⊢
    exact ⟨hv, h.lim, hl, pn_up (pn_drop h.pn nm _ _)⟩
  · have hv := crash_valid (l := ke) h.val
    show MadeP c l (crashD d ke) (k + 1)
    have e : crashD d ke = (d.1, -1, d.2.2.map fun f => remF f ((fstK f.1 ke).getD kep0)) := by unfold crashD; rw [if_pos h.val]
    rw [e] at hv ⊢
    refine ⟨hv, h.lim, fun _ => rfl, fun f hf => ?_⟩
    obtain ⟨g, -, rfl⟩ := List.mem_map.1 hf
    exact Nat.zero_le _
  · have he : flipE d nm off = 0 := he
    show MadeP c l (flipD d nm off) (k + 1)
    obtain ⟨hd, hv, hp⟩ := flip_made h.val he
    rw [hd] at hv ⊢
    exact ⟨hv, h.lim, h.left, pn_put h.val h.pn (by rw [hp]; simp) _ _⟩
theorem made_start (limit left : Int) : MadeP (max 0 limit) left (armD (newD limit) left) 0 := ⟨by
  unfold validB armD newD
  simp only [Bool.and_eq_true, decide_eq_true_eq]
  refine ⟨⟨⟨by omega, by omega⟩, by show 0 ≤ 256; decide⟩, fun i hi => ?_⟩
  simp at hi, rfl, fun e => by subst e; rfl, fun f hf => by cases hf⟩
theorem made_up {c l : Int} {d : Dk} {k m : Nat} (h : MadeP c l d k) (hm : k ≤ m) : MadeP c l d m := ⟨h.val, h.lim, h.left, fun f hf => Nat.le_trans (h.pn f hf) hm⟩
end Go.Proofs.Ytpipgbjkkiheaaa.Gf
