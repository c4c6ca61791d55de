/- What is proved here: the contract of the reference's Invert, in all cases. No condition. -/
import Derived.Test.YtppfdaiehdbafaaR3f
import Derived.Test.YtppfdaiehdbafaaL3
import Derived.Test.YtppfdaiehdbafaaG3g
namespace Go.Proofs.Ytppfdaiehdbafaa.Gf
open Go Go.ChangeShapes Go.WideShapes Go.ChangeAt Go.RowKit Go.Proofs.Ytppfdaiehdbafaa.By

set_option maxRecDepth 100000 in
set_option maxHeartbeats 1600000 in
theorem rinv_bad (r c : Int) (a : Option Addr) (n cap : Nat) (w : World) (h : ¬ (Vd r c n ∧ r = c)) : Calls Try.prog 31 #[mv r c (.slice a n cap)] w (MO w 0 0 [] 1) := by
  have hv := fun w => rvalid_any r c a n cap w
  by_cases h1 : Vd r c n
  · have h2 : (r != c) = true := bne_iff_ne.2 fun e => h ⟨h1, e⟩
    rw [decide_eq_true h1] at hv
    have HV := Lib.hid hv
    clear hv h h1
    unfold MO mv at *
    go_enter Try.func31, Try.ntmps31
    go_wp2_with fail
    refine (HV.out _).mono ?_
    rintro e w1 ⟨rfl, hb1⟩
    obtain ⟨r1, r2, hs, hb⟩ := two_later hb1
    obtain ⟨x0, x1, x2⟩ := row_cells r1
    have R2 := Lib.hid r2
    clear r1 r2 hb1
    go_wp2_with ((with_reducible refine storeM (w.heap.size + 1) (.int .i64 0) (.int .i64 0) (.slice none 0 0) ?_ ?_ R2.out ?_ ?_ ?_ ?_); exact rfl; exact rfl; exact rfl; exact rfl; exact rfl)
    exact bodyPost_ret (results_mx rfl _ _ (w.heap.size + 1) _ _ _ (0, 0) rfl (setRow_heap _ _ _ _ _ _ R2.out)) rfl ⟨⟨_, rfl, own_nil _ _⟩, below_setRow hb (by omega) _⟩
  · rw [decide_eq_false h1] at hv
    have HV := Lib.hid hv
    clear hv h h1
    unfold MO mv at *
    go_enter Try.func31, Try.ntmps31
    go_wp2_with fail
    refine (HV.out _).mono ?_
    rintro e w1 ⟨rfl, hb1⟩
    obtain ⟨r1, r2, hs, hb⟩ := two_later hb1
    have R2 := Lib.hid r2
    clear r1 r2 hb1
    go_wp2_with ((with_reducible refine storeM (w.heap.size + 1) (.int .i64 0) (.int .i64 0) (.slice none 0 0) ?_ ?_ R2.out ?_ ?_ ?_ ?_); exact rfl; exact rfl; exact rfl; exact rfl; exact rfl)
    exact bodyPost_ret (results_mx rfl _ _ (w.heap.size + 1) _ _ _ (0, 0) rfl (setRow_heap _ _ _ _ _ _ R2.out)) rfl ⟨⟨_, rfl, own_nil _ _⟩, below_setRow hb (by omega) _⟩
theorem rinvert_any (r c : Int) (v : Value) (l : List Nat) (w : World) (s : Sl w v l) : Calls Try.prog 31 #[mv r c v] w (invPostS r c l w) := by
  by_cases h : Vd r c l.length ∧ r = c
  · obtain ⟨h1, rfl⟩ := h
    obtain ⟨R, C, rfl, e, p1, p2, p3, _, p5⟩ := vd_prod h1
    obtain rfl : R = C := by exact_mod_cast e
    obtain ⟨b, o, cap, rfl, d1, d2, k1⟩ := sl_cells s (by rw [p5]; exact Nat.mul_pos p1 p1)
    refine (rinvert_pos R l.length b o cap l w ⟨p1, p2⟩ p5 rfl s).mono fun e w' hp => ?_
    unfold invPostS
    rw [if_pos ⟨h1, rfl⟩]
    rcases hp with ⟨X, hX, hm⟩ | ⟨hs, hm⟩
    · exact Or.inl ⟨X, hX, hm.ms⟩
    · exact Or.inr ⟨hs, hm.ms⟩
  · obtain ⟨a, cap, rfl, -, -⟩ := sl_form s
    refine (rinv_bad r c a _ cap w h).mono fun e w' hm => ?_
    unfold invPostS
    rw [if_neg h]
    exact hm.ms
end Go.Proofs.Ytppfdaiehdbafaa.Gf
