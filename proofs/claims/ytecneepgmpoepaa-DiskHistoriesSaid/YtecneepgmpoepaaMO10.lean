/- What is proved here: what the laws' change makes of a disk: valid, within its limit, one more write at most. No program text but the kinds of change. -/
import Derived.Test.YtecneepgmpoepaaMN10
import Derived.Test.YtecneepgmpoepaaH10a
namespace Go.Proofs.Ytecneepgmpoepaa.Gf
open Go

def chE (d : Dk) (k : Nat) (nm to : ByteArray) (off : Int) (b : List Nat) : Nat := match k with | 0 => createE d nm | 1 => appendE d nm b | 2 => appendE d nm b | 3 => putE d nm off b | 4 => truncE d nm off | 5 => atE d nm | 6 => renameE d nm to | _ => atE d nm
def chD (d : Dk) (k : Nat) (nm to : ByteArray) (off : Int) (b : List Nat) : Dk := match k with | 0 => createD d nm | 1 => appendD d nm b | 2 => appendD d nm b | 3 => putD d nm off b | 4 => truncD d nm off | 5 => syncD d nm | 6 => renameD d nm to | _ => removeD d nm
theorem pn_put {d : Dk} {k : Nat} (hv : validB d = true) (h : PnD d k) {f : Fl} (hf : f.2.2.length ≤ k + 1) (c l : Int) : PnD (c, l, putG nmF d.2.2 f) (k + 1) := fun g hg => by
  have hg2 : g ∈ putG nmF d.2.2 f := hg
  rw [putG_insR nmF f (valid_srt hv)] at hg2
  rcases insR_mem nmF f _ g hg2 with rfl | hg3
  · exact hf
  · have := h g hg3
    omega
theorem pn_drop {d : Dk} {k : Nat} (h : PnD d k) (s : ByteArray) (c l : Int) : PnD (c, l, dropG nmF d.2.2 s) k := fun g hg => by
  have hg2 : g ∈ dropG nmF d.2.2 s := hg
  unfold dropG at hg2
  split at hg2
  · rcases List.mem_append.1 hg2 with hg3 | hg3
    · exact h g (List.mem_of_mem_take hg3)
    · exact h g (List.mem_of_mem_drop hg3)
  · exact h g hg2
theorem pn_up {d : Dk} {k : Nat} (h : PnD d k) : PnD d (k + 1) := fun g hg => by
  have := h g hg
  omega
/-- The state of DiskCapacity's disk. -/
structure CapOk (cap : Nat) (d : Dk) (k : Nat) : Prop where
  val : validB d = true
  lim : d.1 = (cap : Int)
  left : d.2.1 = -1
  tot : totN d.2.2 ≤ cap
  pn : PnD d k
theorem wEx_cap {d : Dk} {x : Fl} {off : Nat} {b : List Nat} (hc : d.1 ≠ 0) (h : wEx d x off b = 0) : (contL x).length < max (contL x).length (off + b.length) → (totN d.2.2 : Int) - ((contL x).length : Int) + (max (contL x).length (off + b.length) : Nat) ≤ d.1 := fun hlt => by
  have hm := wEx_max h
  unfold wEx at h
  rw [if_neg (by omega)] at h
  by_cases c : d.1 ≠ 0 ∧ (contL x).length < max (contL x).length (off + b.length) ∧ d.1 < (totN d.2.2 : Int) - ((contL x).length : Int) + (max (contL x).length (off + b.length) : Nat)
  · rw [if_pos c] at h; cases h
  · by_cases c2 : d.1 < (totN d.2.2 : Int) - ((contL x).length : Int) + (max (contL x).length (off + b.length) : Nat)
    · exact absurd ⟨hc, hlt, c2⟩ c
    · omega
theorem cap_append {cap k : Nat} {d : Dk} {nm : ByteArray} {b : List Nat} (hcap0 : d.1 ≠ 0) (hl : leftN d.2.1 = -1) (h : CapOk cap d k) (he : appendE d nm b = 0) : CapOk cap (appendD d nm b) (k + 1) := by
  have ht := tot_append he
  have hv := append_valid he
  obtain ⟨ha, hw⟩ := append_parts he
  obtain ⟨-, hm, hf, hn, -⟩ := open_ok ha
  have hwc := wEx_cap hcap0 hw
  rw [h.lim] at hwc
  unfold appendD at ht hv ⊢
  rw [if_pos he] at ht hv ⊢
  unfold wDx at ht hv ⊢
  have hp := h.pn _ hm
  refine ⟨hv, h.lim, hl, ?_, pn_put h.val h.pn (by simp; omega) _ _⟩
  have := h.tot
  rw [ht]
  omega
theorem capOk_next {cap k : Nat} {d : Dk} (hc : 0 < cap) (h : CapOk cap d k) (kk : Nat) (hk : kk ≤ 7) (nm to : ByteArray) (off : Int) (b : List Nat) (he : chE d kk nm to off b = 0) : CapOk cap (chD d kk nm to off b) (k + 1) := by
  have hl : leftN d.2.1 = -1 := by rw [h.left]; rfl
  have hcap0 : d.1 ≠ 0 := by rw [h.lim]; omega
  obtain rfl | rfl | rfl | rfl | rfl | rfl | rfl | rfl : kk = 0 ∨ kk = 1 ∨ kk = 2 ∨ kk = 3 ∨ kk = 4 ∨ kk = 5 ∨ kk = 6 ∨ kk = 7 := by omega
  · have he : createE d nm = 0 := he
    have ht := tot_create he
    have hv := create_valid he
    show CapOk cap (createD d nm) (k + 1)
    rw [create_eq he] at ht hv ⊢
    exact ⟨hv, h.lim, hl, by rw [ht]; exact h.tot, pn_put h.val h.pn (by simp) _ _⟩
  · have he : appendE d nm b = 0 := he
    show CapOk cap (appendD d nm b) (k + 1)
    exact cap_append hcap0 hl h he
  · have he : appendE d nm b = 0 := he
    show CapOk cap (appendD d nm b) (k + 1)
    exact cap_append hcap0 hl h he
  · have he : putE d nm off b = 0 := he
    have ht := tot_putD he
    have hv := putD_valid he
    obtain ⟨ha, h0, h1, hw⟩ := put_parts he
    obtain ⟨-, hm, hf, hn, -⟩ := open_ok ha
    show CapOk cap (putD d nm off b) (k + 1)
    have hwc := wEx_cap hcap0 hw
    rw [h.lim] at hwc
    unfold putD at ht hv ⊢
    rw [if_pos he] at ht hv ⊢
    unfold wDx at ht hv ⊢
    have hp := h.pn _ hm
    refine ⟨hv, h.lim, hl, ?_, pn_put h.val h.pn (by simp; omega) _ _⟩
    have := h.tot
    omega
  · have he : truncE d nm off = 0 := he
    have ht := tot_trunc he
    have hv := trunc_valid he
    obtain ⟨ha, h0, h1⟩ := trunc_parts he
    obtain ⟨-, hm, hf, hn, -⟩ := open_ok ha
    show CapOk cap (truncD d nm off) (k + 1)
    unfold truncD at ht hv ⊢
    rw [if_pos he] at ht hv ⊢
    unfold wDx at ht hv ⊢
    have hp := h.pn _ hm
    exact ⟨hv, h.lim, hl, Nat.le_trans ht h.tot, pn_put h.val h.pn (by simp; omega) _ _⟩
  · have he : atE d nm = 0 := he
    have ht := tot_sync he
    have hv := sync_valid he
    show CapOk cap (syncD d nm) (k + 1)
    rw [sync_eq he] at ht hv ⊢
    exact ⟨hv, h.lim, hl, by rw [ht]; exact h.tot, pn_put h.val h.pn (by simp) _ _⟩
  · have he : renameE d nm to = 0 := he
    have ht := tot_rename he
    have hv := rename_valid he
    have ha : atE d nm = 0 := by
      unfold renameE at he
      by_cases c : nameB to = true
      · rw [if_pos c] at he; exact he
      · rw [if_neg c] at he; exact absurd he (by decide)
    obtain ⟨-, hm, hf, hn, -⟩ := open_ok ha
    show CapOk cap (renameD d nm to) (k + 1)
    rw [rename_eq he] at ht hv ⊢
    have hp := h.pn _ hm
    refine ⟨hv, h.lim, hl, Nat.le_trans ht h.tot, ?_⟩
    exact pn_put (d := (d.1, leftN d.2.1, dropG nmF d.2.2 nm)) (drop_valid h.val nm (by rw [hl]; decide)).1 (pn_drop h.pn nm _ _) (by show (fileAt d nm).2.2.length ≤ k + 1; omega) _ _
  · have he : atE d nm = 0 := he
    have ht := tot_remove he
    have hv := remove_valid he
    show CapOk cap (removeD d nm) (k + 1)
    rw [remove_eq he] at ht hv ⊢
    exact ⟨hv, h.lim, hl, Nat.le_trans ht h.tot, pn_up (pn_drop h.pn nm _ _)⟩
theorem tot_mem {L : List Fl} {f : Fl} (h : f ∈ L) : (contL f).length ≤ totN L := by
  induction L with
  | nil => cases h
  | cons x L ih =>
    rw [totN_cons]
    rcases List.mem_cons.1 h with rfl | h
    · omega
    · have := ih h
      omega
/-- When the disk is full: what DiskCapacity asks of Append. -/
theorem cap_err {cap k : Nat} {d : Dk} (hc : 0 < cap) (hc2 : cap ≤ 256) (h : CapOk cap d k) (nm : ByteArray) {b : List Nat} (hb : b.length ≤ 200) : appendE d nm b = 9 ↔ cap < totN d.2.2 + b.length ∧ appendE d nm b ≠ 6 ∧ appendE d nm b ≠ 1 := by
  have hcap0 : d.1 ≠ 0 := by rw [h.lim]; omega
  have ht := h.tot
  by_cases ha : atE d nm = 0
  · obtain ⟨-, hm, -⟩ := open_ok ha
    have hl := tot_mem hm
    have e : appendE d nm b = wEx d (fileAt d nm) (contL (fileAt d nm)).length b := by
      unfold appendE
      rw [if_pos ha]
    rw [e]
    unfold wEx
    rw [if_neg (by omega)]
    split
    · rename_i c
      have hcl := c.2.2
      rw [h.lim] at hcl
      simp only [true_iff]
      exact ⟨by omega, by decide, by decide⟩
    · rename_i c
      constructor
      · intro h9; cases h9
      · rintro ⟨h9, -⟩
        exact absurd ⟨hcap0, by omega, by rw [h.lim]; omega⟩ c
  · have e : appendE d nm b = atE d nm := by
      unfold appendE
      rw [if_neg ha]
    have h2 : atE d nm = 1 ∨ atE d nm = 6 := by
      unfold atE at ha ⊢
      by_cases hr : readyE d nm = 0
      · rw [if_pos hr] at ha ⊢
        split at ha
        · rename_i c
          rw [if_pos c]
          exact Or.inr rfl
        · exact absurd rfl ha
      · rw [if_neg hr]
        left
        unfold readyE at hr ⊢
        rw [h.left] at hr ⊢
        split at hr
        · rename_i c
          rw [if_pos c]
        · exact absurd rfl hr
    rw [e]
    rcases h2 with h2 | h2 <;> rw [h2] <;> simp
end Go.Proofs.Ytecneepgmpoepaa.Gf
