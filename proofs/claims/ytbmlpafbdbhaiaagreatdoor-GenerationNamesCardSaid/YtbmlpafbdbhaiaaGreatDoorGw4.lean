/- What is proved here: validName, ending and Format of the program at every name. -/
import Derived.Test.YtbmlpafbdbhaiaaGreatDoorGw1
namespace Go.Proofs.YtbmlpafbdbhaiaaGreatDoor.Gf
open Go Go.Joins Go.ChangeShapes Go.WideShapes Go.ChangeAt Go.RowKit Go.Deep Go.Proofs.YtbmlpafbdbhaiaaGreatDoor.By Go.Proofs.YtbmlpafbdbhaiaaGreatDoor.Qt Go.Proofs
set_option maxRecDepth 100000
set_option maxHeartbeats 204800000
/-- A name that has a text. -/
def NameOk (k s g h : Int) (t : Bool) : Prop := (0 ≤ s ∧ s < 4) ∧ (1 ≤ g ∧ g ≤ 8) ∧ ((k = 1 ∨ k = 2 ∨ k = 3) ∧ t = false ∧ h = 0 ∨ k = 4 ∧ h = 0 ∨ k = 5 ∧ 0 ≤ h ∧ h < 6)
instance (k s g h : Int) (t : Bool) : Decidable (NameOk k s g h t) := by unfold NameOk; infer_instance
theorem pvnum_any (n : Int) (w : World) : Calls Tryz.prog 47 #[.int .i64 n] w fun e w' => e = .returned (.bool (decide (1 ≤ n ∧ n ≤ 8))) ∧ w' = w := by
 go_enter Tryz.func47, Tryz.ntmps47
 by_cases h1 : 1 ≤ n
 · have d1 : decide (1 ≤ n) = true := decide_eq_true h1
   by_cases h2 : n ≤ 8
   · have d2 : decide (n ≤ 8) = true := decide_eq_true h2
     have HR := Lh (show decide (1 ≤ n ∧ n ≤ 8) = true from decide_eq_true ⟨h1, h2⟩)
     clear h1 h2
     go_wp2_with fail
     go_ret
     exact ⟨by rw [HR.out]; rfl, rfl⟩
   · have d2 : decide (n ≤ 8) = false := decide_eq_false h2
     have HR := Lh (show decide (1 ≤ n ∧ n ≤ 8) = false from decide_eq_false fun h => h2 h.2)
     clear h1 h2
     go_wp2_with fail
     go_ret
     exact ⟨by rw [HR.out]; rfl, rfl⟩
 · have d1 : decide (1 ≤ n) = false := decide_eq_false h1
   have HR := Lh (show decide (1 ≤ n ∧ n ≤ 8) = false from decide_eq_false fun h => h1 h.1)
   clear h1
   go_wp2_with fail
   go_ret
   exact ⟨by rw [HR.out]; rfl, rfl⟩
theorem pvname_any (k s g h : Int) (t : Bool) (w : World) : Calls Tryz.prog 40 #[.agg #[.int .i64 k, .int .i64 s, .int .i64 g, .int .i64 h, .bool t]] w fun e w' => e = .returned (.bool (decide (NameOk k s g h t))) ∧ Below w.heap.size w w' := by
 have q0 := heap_alloc_new w (.cells #[.int .i64 k, .int .i64 s, .int .i64 g, .int .i64 h, .bool t] 29)
 have B0 := Lh (bel_al w (.cells #[.int .i64 k, .int .i64 s, .int .i64 g, .int .i64 h, .bool t] 29))
 obtain ⟨x0, x1, x2, x3, x4⟩ := bx5 q0
 clear q0
 obtain ⟨R, hR⟩ : ∃ R, R = decide (NameOk k s g h t) := ⟨_, rfl⟩
 have HR := Lh hR
 rw [← hR]
 clear hR
 go_enter Tryz.func40, Tryz.ntmps40
 go_upto_region 1 with fail
 generalize w.alloc (.cells #[.int .i64 k, .int .i64 s, .int .i64 g, .int .i64 h, .bool t] 29) = W1 at *
 by_cases h1 : s < 0
 · have d1 : decide (s < 0) = true := decide_eq_true h1
   have HF := Lh (show R = false from HR.out.trans (decide_eq_false fun q => by have := q.1; omega))
   clear h1
   go_wp2_with fail
   go_ret
   exact ⟨by rw [HF.out]; rfl, B0.out⟩
 have d1 : decide (s < 0) = false := decide_eq_false h1
 by_cases h2 : 4 ≤ s
 · have d2 : decide (4 ≤ s) = true := decide_eq_true h2
   have HF := Lh (show R = false from HR.out.trans (decide_eq_false fun q => by have := q.1; omega))
   clear h1 h2
   go_wp2_with fail
   go_ret
   exact ⟨by rw [HF.out]; rfl, B0.out⟩
 have d2 : decide (4 ≤ s) = false := decide_eq_false h2
 have HS := Lh (show 0 ≤ s ∧ s < 4 by omega)
 clear h1 h2
 go_wp2_with fail
 refine (pvnum_any g W1).mono ?_
 rintro e W2 ⟨rfl, rfl⟩
 clear d1 d2
 by_cases h3 : 1 ≤ g ∧ g ≤ 8
 case neg =>
   rw [decide_eq_false h3]
   have HF := Lh (show R = false from HR.out.trans (decide_eq_false fun q => h3 q.2.1))
   clear h3
   go_wp2_with fail
   go_ret
   exact ⟨by rw [HF.out]; rfl, B0.out⟩
 rw [decide_eq_true h3]
 have HG := Lh h3
 clear h3
 by_cases k1 : k = 1
 · subst k1
   cases t
   · by_cases h5 : h = 0
     · subst h5
       have HF := Lh (show R = true from HR.out.trans (decide_eq_true ⟨HS.out, HG.out, by simp⟩))
       go_wp2_with fail
       go_ret
       exact ⟨by rw [HF.out]; rfl, B0.out⟩
     · have d5 : decide (h = 0) = false := decide_eq_false h5
       have d6 : (h == 0) = false := beq_false_of_ne h5
       have HF := Lh (show R = false from HR.out.trans (decide_eq_false fun q => by have := q.2.2; simp at this; omega))
       clear h5
       go_wp2_with fail
       go_ret
       exact ⟨by rw [HF.out]; rfl, B0.out⟩
   · have HF := Lh (show R = false from HR.out.trans (decide_eq_false fun q => by have := q.2.2; simp at this))
     go_wp2_with fail
     go_ret
     exact ⟨by rw [HF.out]; rfl, B0.out⟩
 have e1 : decide (k = 1) = false := decide_eq_false k1
 have f1 : (k == 1) = false := beq_false_of_ne k1
 by_cases k2 : k = 2
 · subst k2
   cases t
   · by_cases h5 : h = 0
     · subst h5
       have HF := Lh (show R = true from HR.out.trans (decide_eq_true ⟨HS.out, HG.out, by simp⟩))
       go_wp2_with fail
       go_ret
       exact ⟨by rw [HF.out]; rfl, B0.out⟩
     · have d5 : decide (h = 0) = false := decide_eq_false h5
       have d6 : (h == 0) = false := beq_false_of_ne h5
       have HF := Lh (show R = false from HR.out.trans (decide_eq_false fun q => by have := q.2.2; simp at this; omega))
       clear h5
       go_wp2_with fail
       go_ret
       exact ⟨by rw [HF.out]; rfl, B0.out⟩
   · have HF := Lh (show R = false from HR.out.trans (decide_eq_false fun q => by have := q.2.2; simp at this))
     go_wp2_with fail
     go_ret
     exact ⟨by rw [HF.out]; rfl, B0.out⟩
 have e2 : decide (k = 2) = false := decide_eq_false k2
 have f2 : (k == 2) = false := beq_false_of_ne k2
 by_cases k3 : k = 3
 · subst k3
   cases t
   · by_cases h5 : h = 0
     · subst h5
       have HF := Lh (show R = true from HR.out.trans (decide_eq_true ⟨HS.out, HG.out, by simp⟩))
       go_wp2_with fail
       go_ret
       exact ⟨by rw [HF.out]; rfl, B0.out⟩
     · have d5 : decide (h = 0) = false := decide_eq_false h5
       have d6 : (h == 0) = false := beq_false_of_ne h5
       have HF := Lh (show R = false from HR.out.trans (decide_eq_false fun q => by have := q.2.2; simp at this; omega))
       clear h5
       go_wp2_with fail
       go_ret
       exact ⟨by rw [HF.out]; rfl, B0.out⟩
   · have HF := Lh (show R = false from HR.out.trans (decide_eq_false fun q => by have := q.2.2; simp at this))
     go_wp2_with fail
     go_ret
     exact ⟨by rw [HF.out]; rfl, B0.out⟩
 have e3 : decide (k = 3) = false := decide_eq_false k3
 have f3 : (k == 3) = false := beq_false_of_ne k3
 by_cases k4 : k = 4
 · subst k4
   by_cases h5 : h = 0
   · subst h5
     have HF := Lh (show R = true from HR.out.trans (decide_eq_true ⟨HS.out, HG.out, by simp⟩))
     go_wp2_with fail
     go_ret
     exact ⟨by rw [HF.out]; rfl, B0.out⟩
   · have d5 : decide (h = 0) = false := decide_eq_false h5
     have d6 : (h == 0) = false := beq_false_of_ne h5
     have HF := Lh (show R = false from HR.out.trans (decide_eq_false fun q => by have := q.2.2; simp at this; omega))
     clear h5
     go_wp2_with fail
     go_ret
     exact ⟨by rw [HF.out]; rfl, B0.out⟩
 have e4 : decide (k = 4) = false := decide_eq_false k4
 have f4 : (k == 4) = false := beq_false_of_ne k4
 by_cases k5 : k = 5
 · subst k5
   by_cases h5 : 0 ≤ h
   · have d5 : decide (0 ≤ h) = true := decide_eq_true h5
     by_cases h6 : h < 6
     · have d6 : decide (h < 6) = true := decide_eq_true h6
       have HF := Lh (show R = true from HR.out.trans (decide_eq_true ⟨HS.out, HG.out, Or.inr (Or.inr ⟨rfl, h5, h6⟩)⟩))
       clear h5 h6
       go_wp2_with fail
       go_ret
       exact ⟨by rw [HF.out]; rfl, B0.out⟩
     · have d6 : decide (h < 6) = false := decide_eq_false h6
       have HF := Lh (show R = false from HR.out.trans (decide_eq_false fun q => by have := q.2.2; simp at this; omega))
       clear h5 h6
       go_wp2_with fail
       go_ret
       exact ⟨by rw [HF.out]; rfl, B0.out⟩
   · have d5 : decide (0 ≤ h) = false := decide_eq_false h5
     have HF := Lh (show R = false from HR.out.trans (decide_eq_false fun q => by have := q.2.2; simp at this; omega))
     clear h5
     go_wp2_with fail
     go_ret
     exact ⟨by rw [HF.out]; rfl, B0.out⟩
 have e5 : decide (k = 5) = false := decide_eq_false k5
 have f5 : (k == 5) = false := beq_false_of_ne k5
 have HF := Lh (show R = false from HR.out.trans (decide_eq_false fun q => by have := q.2.2; omega))
 clear k1 k2 k3 k4 k5
 go_wp2_with fail
 go_ret
 exact ⟨by rw [HF.out]; rfl, B0.out⟩
end Go.Proofs.YtbmlpafbdbhaiaaGreatDoor.Gf
