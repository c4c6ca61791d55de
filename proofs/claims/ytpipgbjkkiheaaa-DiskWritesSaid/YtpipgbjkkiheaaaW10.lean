/- What is proved here: how long the files of a made disk are, whatever a crash leaves of their writes. No program text but the kinds of change. For DiskWrites. -/
import Derived.Test.YtpipgbjkkiheaaaMM10
namespace Go.Proofs.Ytpipgbjkkiheaaa.Gf
open Go

/-- The base and every pending write of a file end at most at N. -/
def Ends (N : Nat) (f : Fl) : Prop := f.2.1.length ≤ N ∧ ∀ x ∈ f.2.2, x.1.toNat + x.2.1.length ≤ N
def EndD (d : Dk) (N : Nat) : Prop := ∀ f ∈ d.2.2, Ends N f
theorem ends_up {N M : Nat} {f : Fl} (h : Ends N f) (hm : N ≤ M) : Ends M f := ⟨Nat.le_trans h.1 hm, fun x hx => Nat.le_trans (h.2 x hx) hm⟩
theorem endD_up {N M : Nat} {d : Dk} (h : EndD d N) (hm : N ≤ M) : EndD d M := fun f hf => ends_up (h f hf) hm
theorem apW_ends {b : List Nat} {x : Wr} {N : Nat} (hb : b.length ≤ N) (hx : x.1.toNat + x.2.1.length ≤ N) : (apW b x).length ≤ N := by
  unfold apW padL
  split
  · rw [List.length_take]; omega
  · simp only [List.length_append, List.length_take, List.length_drop, List.length_replicate]; omega
theorem apL_ends {N : Nat} : ∀ {p : List Wr} {b : List Nat}, b.length ≤ N → (∀ x ∈ p, x.1.toNat + x.2.1.length ≤ N) → (apL b p).length ≤ N
  | [], _, hb, _ => hb
  | x :: p, b, hb, h => by
    show (apL (apW b x) p).length ≤ N
    exact apL_ends (apW_ends hb (h x (List.mem_cons_self ..))) fun y hy => h y (List.mem_cons_of_mem _ hy)
theorem cont_ends {N : Nat} {f : Fl} (h : Ends N f) : (contL f).length ≤ N := by
  unfold contL
  split
  · exact apL_ends h.1 h.2
  · exact Nat.zero_le _
theorem keepW_ends {N : Nat} {p : List Wr} (h : ∀ x ∈ p, x.1.toNat + x.2.1.length ≤ N) (a t : Int) : ∀ x ∈ keepW p a t, x.1.toNat + x.2.1.length ≤ N := fun x hx => by
  unfold keepW at hx
  rcases List.mem_append.1 hx with hx | hx
  · exact h x (List.mem_of_mem_take hx)
  · split at hx
    · rename_i hc
      obtain rfl := List.mem_singleton.1 hx
      have hm : p.getD (nKp a p.length) wr0 ∈ p := by
        rw [List.getD_eq_getElem?_getD, List.getElem?_eq_getElem hc.1]
        exact List.getElem_mem hc.1
      have := h _ hm
      show _ + (List.take _ _).length ≤ N
      rw [List.length_take]
      show (p.getD (nKp a p.length) wr0).1.toNat + _ ≤ N
      omega
    · cases hx
theorem rem_ends {N : Nat} {f : Fl} (h : Ends N f) (k : Kep) : Ends N (remF f k) := ⟨cont_ends (f := (f.1, f.2.1, keepW f.2.2 k.2.1 k.2.2)) ⟨h.1, keepW_ends h.2 _ _⟩, fun x hx => by cases hx⟩
theorem put_ends {d : Dk} {N : Nat} (hv : validB d = true) (h : EndD d N) {f : Fl} (hf : Ends N f) (c l : Int) : EndD (c, l, putG nmF d.2.2 f) N := fun g hg => by
  have hg2 : g ∈ putG nmF d.2.2 f := hg
  rw [putG_insR nmF f (valid_srt hv)] at hg2
  rcases insR_mem nmF f _ g hg2 with rfl | hg3
  · exact hf
  · exact h g hg3
theorem drop_ends {d : Dk} {N : Nat} (h : EndD d N) (s : ByteArray) (c l : Int) : EndD (c, l, dropG nmF d.2.2 s) N := fun g hg => by
  have hg2 : g ∈ dropG nmF d.2.2 s := hg
  unfold dropG at hg2
  split at hg2
  · rcases List.mem_append.1 hg2 with hg3 | hg3
    · exact h g (List.mem_of_mem_take hg3)
    · exact h g (List.mem_of_mem_drop hg3)
  · exact h g hg2
theorem add_ends {N M : Nat} {f : Fl} (h : Ends N f) (hm : N ≤ M) {y : Wr} (hy : y.1.toNat + y.2.1.length ≤ M) : Ends M (f.1, f.2.1, f.2.2 ++ [y]) := ⟨Nat.le_trans h.1 hm, fun x hx => by
  rcases List.mem_append.1 (show x ∈ f.2.2 ++ [y] from hx) with hx | hx
  · exact Nat.le_trans (h.2 x hx) hm
  · obtain rfl := List.mem_singleton.1 hx
    exact hy⟩
theorem append_ends {d : Dk} {N : Nat} (hv : validB d = true) (h : EndD d N) {nm : ByteArray} {b : List Nat} (hb : b.length ≤ 200) (he : appendE d nm b = 0) : EndD (appendD d nm b) (N + 200) := by
  obtain ⟨ha, -⟩ := append_parts he
  obtain ⟨-, hm, -⟩ := open_ok ha
  have hc := cont_ends (h _ hm)
  unfold appendD
  rw [if_pos he]
  exact put_ends hv (endD_up h (by omega)) (add_ends (h _ hm) (by omega) (by show (((contL (fileAt d nm)).length : Nat) : Int).toNat + b.length ≤ N + 200; omega)) _ _
/-- An operation raises the bound by 200. -/
theorem op_ends {d : Dk} {N : Nat} (hv : validB d = true) (h : EndD d N) (kk : Nat) (hk : kk ≤ 9) (nm tn : ByteArray) (off : Int) (b : List Nat) (hb : b.length ≤ 200) (ke : List Kep) (he : opE d kk nm tn off b = 0) : EndD (opD d kk nm tn off b ke) (N + 200) := by
  have h2 : EndD d (N + 200) := endD_up h (by omega)
  obtain rfl | rfl | rfl | rfl | rfl | rfl | rfl | rfl | rfl | rfl : kk = 0 ∨ kk = 1 ∨ kk = 2 ∨ kk = 3 ∨ kk = 4 ∨ kk = 5 ∨ kk = 6 ∨ kk = 7 ∨ kk = 8 ∨ kk = 9 := by omega
  · have he : createE d nm = 0 := he
    show EndD (createD d nm) _
    rw [create_eq he]
    exact put_ends hv h2 ⟨Nat.zero_le _, fun x hx => by cases hx⟩ _ _
  · exact append_ends hv h hb he
  · exact append_ends hv h hb he
  · have he : putE d nm off b = 0 := he
    have hp := put_parts he
    obtain ⟨-, hm, -⟩ := open_ok hp.1
    have hc := cont_ends (h _ hm)
    have ho : ¬(off < 0 ∨ ((contL (fileAt d nm)).length : Int) < off) := fun c => by
      have he2 := he
      unfold putE at he2
      rw [if_pos hp.1, if_pos c] at he2
      cases he2
    show EndD (putD d nm off b) _
    unfold putD
    rw [if_pos he]
    exact put_ends hv h2 (add_ends (h _ hm) (by omega) (by show off.toNat + b.length ≤ N + 200; omega)) _ _
  · have he : truncE d nm off = 0 := he
    have hp := trunc_parts he
    obtain ⟨-, hm, -⟩ := open_ok hp.1
    have hc := cont_ends (h _ hm)
    have ho : ¬(off < 0 ∨ ((contL (fileAt d nm)).length : Int) < off) := fun c => by
      have he2 := he
      unfold truncE at he2
      rw [if_pos hp.1, if_pos c] at he2
      cases he2
    show EndD (truncD d nm off) _
    unfold truncD
    rw [if_pos he]
    exact put_ends hv h2 (add_ends (h _ hm) (by omega) (by show off.toNat + ([] : List Nat).length ≤ N + 200; simp; omega)) _ _
  · have he : atE d nm = 0 := he
    obtain ⟨-, hm, -⟩ := open_ok he
    have hc := cont_ends (h _ hm)
    show EndD (syncD d nm) _
    rw [sync_eq he]
    exact put_ends hv h2 ⟨by show (contL (fileAt d nm)).length ≤ _; omega, fun x hx => by cases hx⟩ _ _
  · have he : renameE d nm tn = 0 := he
    have ha : atE d nm = 0 := by
      unfold renameE at he
      by_cases c : nameB tn = true
      · rw [if_pos c] at he; exact he
      · rw [if_neg c] at he; exact absurd he (by decide)
    obtain ⟨-, hm, -⟩ := open_ok ha
    show EndD (renameD d nm tn) _
    rw [rename_eq he]
    exact put_ends (d := (d.1, leftN d.2.1, dropG nmF d.2.2 nm)) (f := (tn, (fileAt d nm).2.1, (fileAt d nm).2.2)) (drop_valid hv nm (leftN_ge (valid_parts hv).2.1)).1 (drop_ends h2 nm _ _) ⟨(h2 _ hm).1, (h2 _ hm).2⟩ _ _
  · have he : atE d nm = 0 := he
    show EndD (removeD d nm) _
    rw [remove_eq he]
    exact drop_ends h2 nm _ _
  · show EndD (crashD d ke) _
    have e : crashD d ke = (d.1, -1, d.2.2.map fun f => remF f ((fstK f.1 ke).getD kep0)) := by unfold crashD; rw [if_pos hv]
    rw [e]
    intro f hf
    obtain ⟨g, hg, rfl⟩ := List.mem_map.1 hf
    exact rem_ends (h2 g hg) _
  · have he : flipE d nm off = 0 := he
    show EndD (flipD d nm off) _
    have hf := flip_find d nm off
    have h0 : findE d nm = 0 := by
      by_cases c : findE d nm = 0
      · exact c
      · rw [hf.1 c] at he; exact absurd he c
    obtain ⟨-, -, -, hmem, -, -, -⟩ := hf.2 h0
    obtain ⟨hd, -, hp⟩ := flip_made hv he
    rw [hd]
    refine put_ends (f := ((flipF d nm).1, flipB (flipF d nm).2.1 off, (flipF d nm).2.2)) hv h2 ⟨?_, fun x hx => (h2 _ hmem).2 x hx⟩ _ _
    show (flipB (flipF d nm).2.1 off).length ≤ _
    unfold flipB
    rw [List.length_set]
    exact (h2 _ hmem).1
end Go.Proofs.Ytpipgbjkkiheaaa.Gf
