/- What is proved here: the contracts of the laws' small functions heavy, given, same. -/
import Derived.Test.YtcckhgadgiaofaaL3
namespace Go.Proofs.Ytcckhgadgiaofaa.Gf
open Go Go.ChangeShapes Go.WideShapes Go.ChangeAt Go.RowKit Go.Proofs.Ytcckhgadgiaofaa.By

set_option maxRecDepth 100000 in
theorem heavy_any (r c : Int) (a : Option Addr) (n cap : Nat) (w : World) : Calls Try.prog 12 #[mv r c (.slice a n cap)] w fun e w' => e = .returned (.bool (decide (400 < n))) ∧ Below w.heap.size w w' := by
  have hb : ∀ cs, Below w.heap.size w (w.alloc (.cells cs 24)) := fun cs => (Below.refl _ _).alloc (Nat.le_refl _) _
  have hd : decide ((400 : Int) < (n : Int)) = decide (400 < n) := by rw [decide_eq_decide]; omega
  unfold mv
  go_enter Try.func12, Try.ntmps12
  go_wp2
  go_ret
  exact ⟨by first | rfl | simp [hd], hb _⟩
set_option maxRecDepth 100000 in
theorem given_any (r c : Int) (a : Option Addr) (n cap : Nat) (w : World) : Calls Try.prog 19 #[mv r c (.slice a n cap)] w fun e w' => e = .returned (mv r c (.slice a n cap)) ∧ Below w.heap.size w w' := by
  unfold mv
  go_enter Try.func19, Try.ntmps19
  go_wp2
  exact bodyPost_ret (results_cell_row Try.results19 _ _ (w.heap.size + 1) 27 _ (0, 0) _ rfl (heap_alloc2_new _ _ _) Try.underlying27 rfl size27) rfl ⟨rfl, ((Below.refl _ _).alloc (Nat.le_refl _) _).alloc (by simp) _⟩
set_option maxRecDepth 100000 in
set_option maxHeartbeats 1600000 in
theorem same_any (r c r' c' : Int) (v v' : Value) (l l' : List Nat) (w : World) (s : Sl w v l) (s' : Sl w v' l') : Calls Try.prog 21 #[mv r c v, mv r' c' v'] w fun e w' => e = .returned (.bool (decide (r = r' ∧ c = c' ∧ l = l'))) ∧ Below w.heap.size w w' := by
  have hb : ∀ A B, Below w.heap.size w ((w.alloc A).alloc B) := fun A B => ((Below.refl _ _).alloc (Nat.le_refl _) _).alloc (by simp) _
  have k1 := fun A B => conv_sl (sl_below s (hb A B))
  have k2 := fun A B => conv_sl (sl_below s' (hb A B))
  have hse := str_eq s.1 s'.1
  obtain ⟨a, cap, rfl, -, -⟩ := sl_form s
  obtain ⟨a', cap', rfl, -, -⟩ := sl_form s'
  generalize l.length = n at k1
  generalize l'.length = n' at k2
  generalize strOf l = t at k1 hse
  generalize strOf l' = t' at k2 hse
  clear s s'
  unfold mv
  by_cases h1 : r = r'
  · by_cases h2 : c = c'
    · subst h1
      subst h2
      have hd : decide (r = r ∧ c = c ∧ l = l') = decide (l = l') := by simp
      rw [hd, ← hse]
      clear hse hd
      go_enter Try.func21, Try.ntmps21
      go_wp2
      go_ret
      exact ⟨rfl, hb _ _⟩
    · have hd : decide (r = r' ∧ c = c' ∧ l = l') = false := decide_eq_false fun x => h2 x.2.1
      have hc : (c == c') = false := beq_false_of_ne h2
      rw [hd]
      subst h1
      go_enter Try.func21, Try.ntmps21
      go_wp2
      go_ret
      exact ⟨rfl, hb _ _⟩
  · have hd : decide (r = r' ∧ c = c' ∧ l = l') = false := decide_eq_false fun x => h1 x.1
    have hc : (r == r') = false := beq_false_of_ne h1
    rw [hd]
    go_enter Try.func21, Try.ntmps21
    go_wp2
    go_ret
    exact ⟨rfl, hb _ _⟩
end Go.Proofs.Ytcckhgadgiaofaa.Gf
