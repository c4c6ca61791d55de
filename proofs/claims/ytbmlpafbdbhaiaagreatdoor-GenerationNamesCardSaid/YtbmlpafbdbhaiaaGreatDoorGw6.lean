/- What is proved here: ValidName of the reference. -/
import Derived.Test.YtbmlpafbdbhaiaaGreatDoorGw4
namespace Go.Proofs.YtbmlpafbdbhaiaaGreatDoor.Gf
open Go Go.Joins Go.ChangeShapes Go.WideShapes Go.ChangeAt Go.RowKit Go.Deep Go.Proofs.YtbmlpafbdbhaiaaGreatDoor.By Go.Proofs.YtbmlpafbdbhaiaaGreatDoor.Qt Go.Proofs
set_option maxRecDepth 100000
set_option maxHeartbeats 204800000
theorem rvname_any (k s g h : Int) (t : Bool) (w : World) : Calls Tryz.prog 44 #[.agg #[.int .i64 k, .int .i64 s, .int .i64 g, .int .i64 h, .bool t]] w fun e w' => e = .returned (.bool (decide (NameOk k s g h t))) ∧ Below w.heap.size w w' := by
 have q0 := heap_alloc_new w (.cells #[.int .i64 k, .int .i64 s, .int .i64 g, .int .i64 h, .bool t] 23)
 have B0 := Lh (bel_al w (.cells #[.int .i64 k, .int .i64 s, .int .i64 g, .int .i64 h, .bool t] 23))
 obtain ⟨x0, x1, x2, x3, x4⟩ := bx5 q0
 clear q0
 obtain ⟨R, hR⟩ : ∃ R, R = decide (NameOk k s g h t) := ⟨_, rfl⟩
 have HR := Lh hR
 rw [← hR]
 clear hR
 go_enter Tryz.func44, Tryz.ntmps44
 go_upto_region 1 with fail
 generalize w.alloc (.cells #[.int .i64 k, .int .i64 s, .int .i64 g, .int .i64 h, .bool t] 23) = W1 at *
 by_cases h0 : k < 1
 · have d0 : decide (k < 1) = true := decide_eq_true h0
   have HF := Lh (show R = false from HR.out.trans (decide_eq_false fun q => by have := q.1; have := q.2.1; have := q.2.2; omega))
   clear h0
   go_wp2_with fail
   go_ret
   exact ⟨by rw [HF.out]; rfl, B0.out⟩
 have d0 : decide (k < 1) = false := decide_eq_false h0
 by_cases h1 : 5 < k
 · have d1 : decide (5 < k) = true := decide_eq_true h1
   have HF := Lh (show R = false from HR.out.trans (decide_eq_false fun q => by have := q.1; have := q.2.1; have := q.2.2; omega))
   clear h0 h1
   go_wp2_with fail
   go_ret
   exact ⟨by rw [HF.out]; rfl, B0.out⟩
 have d1 : decide (5 < k) = false := decide_eq_false h1
 by_cases h2 : s < 0
 · have d2 : decide (s < 0) = true := decide_eq_true h2
   have HF := Lh (show R = false from HR.out.trans (decide_eq_false fun q => by have := q.1; have := q.2.1; have := q.2.2; omega))
   clear h0 h1 h2
   go_wp2_with fail
   go_ret
   exact ⟨by rw [HF.out]; rfl, B0.out⟩
 have d2 : decide (s < 0) = false := decide_eq_false h2
 by_cases h3 : 4 ≤ s
 · have d3 : decide (4 ≤ s) = true := decide_eq_true h3
   have HF := Lh (show R = false from HR.out.trans (decide_eq_false fun q => by have := q.1; have := q.2.1; have := q.2.2; omega))
   clear h0 h1 h2 h3
   go_wp2_with fail
   go_ret
   exact ⟨by rw [HF.out]; rfl, B0.out⟩
 have d3 : decide (4 ≤ s) = false := decide_eq_false h3
 by_cases h4 : g < 1
 · have d4 : decide (g < 1) = true := decide_eq_true h4
   have HF := Lh (show R = false from HR.out.trans (decide_eq_false fun q => by have := q.1; have := q.2.1; have := q.2.2; omega))
   clear h0 h1 h2 h3 h4
   go_wp2_with fail
   go_ret
   exact ⟨by rw [HF.out]; rfl, B0.out⟩
 have d4 : decide (g < 1) = false := decide_eq_false h4
 by_cases h5 : 8 < g
 · have d5 : decide (8 < g) = true := decide_eq_true h5
   have HF := Lh (show R = false from HR.out.trans (decide_eq_false fun q => by have := q.1; have := q.2.1; have := q.2.2; omega))
   clear h0 h1 h2 h3 h4 h5
   go_wp2_with fail
   go_ret
   exact ⟨by rw [HF.out]; rfl, B0.out⟩
 have d5 : decide (8 < g) = false := decide_eq_false h5
 have HB := Lh (show (1 ≤ k ∧ k ≤ 5) ∧ (0 ≤ s ∧ s < 4) ∧ (1 ≤ g ∧ g ≤ 8) by omega)
 clear h0 h1 h2 h3 h4 h5
 by_cases k5 : k = 5
 · subst k5
   by_cases h5 : 0 ≤ h
   · have e5 : decide (0 ≤ h) = true := decide_eq_true h5
     by_cases h6 : h < 6
     · have e6 : decide (h < 6) = true := decide_eq_true h6
       have HF := Lh (show R = true from HR.out.trans (decide_eq_true ⟨HB.out.2.1, HB.out.2.2, Or.inr (Or.inr ⟨rfl, h5, h6⟩)⟩))
       clear h5 h6
       go_wp2_with fail
       go_ret
       exact ⟨by rw [HF.out]; rfl, B0.out⟩
     · have e6 : decide (h < 6) = false := decide_eq_false h6
       have HF := Lh (show R = false from HR.out.trans (decide_eq_false fun q => by have := q.2.2; omega))
       clear h5 h6
       go_wp2_with fail
       go_ret
       exact ⟨by rw [HF.out]; rfl, B0.out⟩
   · have e5 : decide (0 ≤ h) = false := decide_eq_false h5
     have HF := Lh (show R = false from HR.out.trans (decide_eq_false fun q => by have := q.2.2; omega))
     clear h5
     go_wp2_with fail
     go_ret
     exact ⟨by rw [HF.out]; rfl, B0.out⟩
 have e5 : decide (k = 5) = false := decide_eq_false k5
 have f5 : (k == 5) = false := beq_false_of_ne k5
 by_cases h5 : h = 0
 case neg =>
   have e6 : decide (h = 0) = false := decide_eq_false h5
   have f6 : (h == 0) = false := beq_false_of_ne h5
   have HF := Lh (show R = false from HR.out.trans (decide_eq_false fun q => by have := q.2.2; omega))
   clear h5 k5
   go_wp2_with fail
   go_ret
   exact ⟨by rw [HF.out]; rfl, B0.out⟩
 subst h5
 by_cases k4 : k = 4
 · have HF := Lh (show R = true from HR.out.trans (decide_eq_true ⟨HB.out.2.1, HB.out.2.2, Or.inr (Or.inl ⟨k4, rfl⟩)⟩))
   clear k5
   have e7 : decide (k = 4) = true := decide_eq_true k4
   have f7 : (k == 4) = true := beq_iff_eq.2 k4
   clear k4
   go_wp2_with fail
   go_ret
   exact ⟨by rw [HF.out]; rfl, B0.out⟩
 have e7 : decide (k = 4) = false := decide_eq_false k4
 have f7 : (k == 4) = false := beq_false_of_ne k4
 cases t
 · have HF := Lh (show R = true from HR.out.trans (decide_eq_true ⟨HB.out.2.1, HB.out.2.2, Or.inl ⟨by have := HB.out.1; omega, rfl, rfl⟩⟩))
   clear k4 k5
   go_wp2_with fail
   go_ret
   exact ⟨by rw [HF.out]; rfl, B0.out⟩
 · have HF := Lh (show R = false from HR.out.trans (decide_eq_false fun q => by have := q.2.2; simp at this; omega))
   clear k4 k5
   go_wp2_with fail
   go_ret
   exact ⟨by rw [HF.out]; rfl, B0.out⟩
end Go.Proofs.YtbmlpafbdbhaiaaGreatDoor.Gf
