/- What is proved here: the chapter's examples, as the laws ask for them. Condition: the contracts PC3. -/
import Derived.Test.YtcckhgadgiaofaaL3
namespace Go.Proofs.Ytcckhgadgiaofaa.Gf
open Go Go.ChangeShapes Go.WideShapes Go.ChangeAt Go.RowKit Go.Proofs.Ytcckhgadgiaofaa.By

theorem awake_facts {Ok : World → Prop} (P : PC3 Ok) :
    (∀ w, Ok w → Calls Try.prog 16 #[.int .i64 3, .int .i64 2] w (MS w 3 2 [1, 0, 1, 1, 1, 2] 0)) ∧
    (∀ (w : World) (v : Value), Sl w v [1, 1, 1, 1] → Ok w → Calls Try.prog 26 #[mv 2 2 v] w (MS w 0 0 [] 14)) ∧
    (∀ (w : World) (v1 v2 : Value), Sl w v1 [2] → Sr w v2 [[1, 128]] → Ok w → Calls Try.prog 31 #[mv 1 1 v1, v2] w fun e w' => (∃ v, e = .returned (.tuple #[v, .int .i64 0]) ∧ Sr w' v [[2, 29]]) ∧ Below w.heap.size w w') :=
  ⟨fun w ok => (P.vander 3 2 w (by unfold I64; omega) (by unfold I64; omega) ok).mono fun _ _ => vander32,
   fun w v s ok => (P.invert 2 2 v _ w (by unfold I64; omega) (by unfold I64; omega) s ok).mono fun _ _ => ones_sing,
   fun w v1 v2 s1 s2 ok => (P.apply 1 1 v1 v2 _ _ w (by unfold I64; omega) (by unfold I64; omega) s1 s2 (by decide) ok).mono fun _ _ => apply_one⟩
theorem four (w : World) (A B C D : Obj) : ((((w.alloc A).alloc B).alloc C).alloc D).heap[w.heap.size + 1]? = some B ∧ ((((w.alloc A).alloc B).alloc C).alloc D).heap[w.heap.size + 2]? = some C ∧ ((((w.alloc A).alloc B).alloc C).alloc D).heap[w.heap.size + 3]? = some D ∧ Below w.heap.size w ((((w.alloc A).alloc B).alloc C).alloc D) := by
  have z : ∀ (v : World) (o : Obj), (v.alloc o).heap.size = v.heap.size + 1 := fun v o => by simp
  refine ⟨?_, ?_, ?_, ((((Below.refl _ _).alloc (Nat.le_refl _) _).alloc (by simp) _).alloc (by simp; omega) _).alloc (by simp; omega) _⟩
  · rw [heap_alloc_old _ _ (by simp), heap_alloc_old _ _ (by simp)]
    exact heap_alloc2_new w A B
  · rw [heap_alloc_old _ _ (by simp)]
    have := heap_alloc2_new (w.alloc A) B C
    rwa [z] at this
  · have := heap_alloc2_new ((w.alloc A).alloc B) C D
    rwa [z, z] at this
set_option maxRecDepth 100000 in
set_option maxHeartbeats 6400000 in
theorem awake_any {Ok : World → Prop} (P : PC3 Ok) (w : World) (ok : Ok w) : Calls Try.prog 13 #[] w fun e w' => e = .returned (.bool true) ∧ Below w.heap.size w w' := by
  have HO := Lib.hid ok
  obtain ⟨h1, h2, h3⟩ := awake_facts P
  have H1 := Lib.hid h1
  have H2 := Lib.hid h2
  have H3 := Lib.hid h3
  have ST := Lib.hid P.st
  clear ok h1 h2 h3 P
  go_enter Try.func13, Try.ntmps13
  go_wp2_with fail
  refine (H1.out w HO.out).mono ?_
  unfold MS mv
  rintro e w1 ⟨⟨s1, rfl, hs1⟩, hb1⟩
  obtain ⟨a1, c1, hv1, -, -⟩ := sl_form hs1
  rw [show ([1, 0, 1, 1, 1, 2] : List Nat).length = 6 from rfl] at hv1
  subst hv1
  have S1 := Lib.hid hs1
  have B1 := Lib.hid hb1
  clear hs1 hb1
  go_wp2_with fail
  have hw2 := (B1.out.alloc B1.out.size (.cells #[.int .i64 3, .int .i64 2, .slice a1 6 c1] 27))
  have hS1 := sl_below S1.out ((Below.refl w1.heap.size w1).alloc (Nat.le_refl _) (.cells #[.int .i64 3, .int .i64 2, .slice a1 6 c1] 27))
  have hr1 := heap_alloc_new w1 (.cells #[.int .i64 3, .int .i64 2, .slice a1 6 c1] 27)
  have hz1 : (w1.alloc (.cells #[.int .i64 3, .int .i64 2, .slice a1 6 c1] 27)).heap.size = w1.heap.size + 1 := by simp
  generalize w1.alloc (.cells #[.int .i64 3, .int .i64 2, .slice a1 6 c1] 27) = W1 at *
  have hb2 := hw2.alloc hw2.size (.cells #[.int .u8 1, .int .u8 1, .int .u8 1, .int .u8 1] 5)
  have hs2 : Sl (W1.alloc (.cells #[.int .u8 1, .int .u8 1, .int .u8 1, .int .u8 1] 5)) (.slice (some ⟨w1.heap.size + 1, 0, none⟩) 4 4) [1, 1, 1, 1] := by
    rw [← hz1]
    exact sl_block (l := [1, 1, 1, 1]) (by decide) rfl (by unfold maxLen; decide) rfl (heap_alloc_new _ _)
  have hr2 := (heap_alloc_old W1 (.cells #[.int .u8 1, .int .u8 1, .int .u8 1, .int .u8 1] 5) (show w1.heap.size < W1.heap.size by omega)).trans hr1
  have hS2 := sl_below hS1 ((Below.refl W1.heap.size W1).alloc (Nat.le_refl _) (.cells #[.int .u8 1, .int .u8 1, .int .u8 1, .int .u8 1] 5))
  have hz2 : (W1.alloc (.cells #[.int .u8 1, .int .u8 1, .int .u8 1, .int .u8 1] 5)).heap.size = w1.heap.size + 2 := by simp; omega
  generalize W1.alloc (.cells #[.int .u8 1, .int .u8 1, .int .u8 1, .int .u8 1] 5) = W2 at *
  have hok2 := ST.out _ _ HO.out hb2
  refine (H2.out W2 _ hs2 hok2).mono ?_
  unfold MS mv
  rintro e w3 ⟨⟨s3, rfl, hs3⟩, hb3⟩
  obtain ⟨a3, c3, hv3, -, -⟩ := sl_form hs3
  rw [show ([] : List Nat).length = 0 from rfl] at hv3
  subst hv3
  have R3 := Lib.hid ((hb3.block _ (show w1.heap.size < W2.heap.size by omega)).trans hr2)
  have S3 := Lib.hid (sl_below hS2 hb3)
  have B3 := Lib.hid (bt hb2 hb3)
  have Z3 := Lib.hid (show w1.heap.size + 2 ≤ w3.heap.size by have := hb3.size; omega)
  clear hb2 hs2 hr2 hS2 hz2 hok2 hs3 hb3 hw2 hS1 hr1 hz1 S1 B1
  go_wp2_with fail
  obtain ⟨q1, q2, q3, qb⟩ := four w3 (.cells #[.int .i64 0, .int .i64 0, .slice a3 0 c3] 27) (.cells #[.int .u8 2] 5) (.cells #[.int .u8 1, .int .u8 128] 5) (.cells #[.slice (some ⟨w3.heap.size + 1 + 1, 0, none⟩) 2 2] 22)
  have R5 := Lib.hid ((qb.block _ (show w1.heap.size < w3.heap.size by have := Z3.out; omega)).trans R3.out)
  have S5 := Lib.hid (sl_below S3.out qb)
  have B5 := Lib.hid (bt B3.out qb)
  have hq1 : w3.heap.size ≤ ((((w3.alloc (.cells #[.int .i64 0, .int .i64 0, .slice a3 0 c3] 27)).alloc (.cells #[.int .u8 2] 5)).alloc (.cells #[.int .u8 1, .int .u8 128] 5)).alloc (.cells #[.slice (some ⟨w3.heap.size + 1 + 1, 0, none⟩) 2 2] 22)).heap.size := qb.size
  generalize ((((w3.alloc (.cells #[.int .i64 0, .int .i64 0, .slice a3 0 c3] 27)).alloc (.cells #[.int .u8 2] 5)).alloc (.cells #[.int .u8 1, .int .u8 128] 5)).alloc (.cells #[.slice (some ⟨w3.heap.size + 1 + 1, 0, none⟩) 2 2] 22)) = W5 at *
  have u1 : Sl W5 (.slice (some ⟨w3.heap.size + 1, 0, none⟩) 1 1) [2] := sl_block (by decide) rfl (by unfold maxLen; decide) rfl q1
  have u2 : Sl W5 (.slice (some ⟨w3.heap.size + 1 + 1, 0, none⟩) 2 2) [1, 128] := sl_block (by decide) rfl (by unfold maxLen; decide) rfl q2
  have u3 : Sr W5 (.slice (some ⟨w3.heap.size + 1 + 1 + 1, 0, none⟩) 1 1) [[1, 128]] := ⟨by unfold maxLen; decide, Or.inr ⟨w3.heap.size + 1 + 1 + 1, 0, 1, rfl, by decide, by unfold maxLen; decide, fun k hk => by
    obtain rfl : k = 0 := by simp at hk; omega
    exact ⟨_, cell_of_row _ _ _ _ _ _ q3, u2⟩⟩⟩
  have hok5 := ST.out _ _ HO.out B5.out
  refine (H3.out W5 _ _ u1 u3 hok5).mono ?_
  rintro e w6 ⟨⟨v6, rfl, hv6⟩, hb6⟩
  obtain ⟨b6, o6, c6, hv6', -, -, hk6⟩ := sr_cells hv6 (by decide)
  rw [show ([[2, 29]] : List (List Nat)).length = 1 from rfl] at hv6'
  subst hv6'
  obtain ⟨x6, hx6, hs6⟩ := hk6 0 (by decide)
  rw [Nat.add_zero] at hx6
  have R6 := (hb6.block _ (Nat.lt_of_lt_of_le (show w1.heap.size < w3.heap.size by have := Z3.out; omega) hq1)).trans R5.out
  obtain ⟨r0, r1, r2⟩ := row_cells R6
  have S6 := Lib.hid (sl_below S5.out hb6)
  have X6 := Lib.hid hs6
  have B6 := Lib.hid (bt B5.out hb6)
  clear q1 q2 q3 qb hq1 u1 u2 u3 hok5 hv6 hb6 hk6 hs6 R6 r0 r1 R3 S3 B3 R5 S5 B5 H1 H2 H3 Z3
  have da := (Below.refl w6.heap.size w6).drew
  have db := ((Below.refl w6.heap.size w6).alloc (Nat.le_refl _) (.cells #[.int .u8 1, .int .u8 0, .int .u8 1, .int .u8 1, .int .u8 1, .int .u8 2] 5)).drew
  have dc := (((Below.refl w6.heap.size w6).alloc (Nat.le_refl _) (.cells #[.int .u8 1, .int .u8 0, .int .u8 1, .int .u8 1, .int .u8 1, .int .u8 2] 5)).alloc (by simp) (.cells #[.int .u8 2, .int .u8 29] 5)).drew
  have v1a := conv_sl (sl_below S6.out da)
  have v1b := conv_sl (sl_below S6.out db)
  have v2b := conv_sl (sl_below X6.out db)
  have v2c := conv_sl (sl_below X6.out dc)
  have l1b : Sl (w6.alloc (.cells #[.int .u8 1, .int .u8 0, .int .u8 1, .int .u8 1, .int .u8 1, .int .u8 2] 5)).drew (.slice (some ⟨w6.heap.size, 0, none⟩) 6 6) [1, 0, 1, 1, 1, 2] := sl_block (by decide) rfl (by unfold maxLen; decide) rfl (heap_alloc_new w6 _)
  have l2c : Sl ((w6.alloc (.cells #[.int .u8 1, .int .u8 0, .int .u8 1, .int .u8 1, .int .u8 1, .int .u8 2] 5)).alloc (.cells #[.int .u8 2, .int .u8 29] 5)).drew (.slice (some ⟨w6.heap.size + 1, 0, none⟩) 2 2) [2, 29] := sl_block (by decide) rfl (by unfold maxLen; decide) rfl (heap_alloc2_new w6 _ _)
  have v3b := conv_sl l1b
  have v4c := conv_sl l2c
  have g2b := (db.cell (p := ⟨w1.heap.size, 2, none⟩) (block_lt_of_cell r2)).trans r2
  have g6b := (db.cell (p := ⟨b6, o6, none⟩) (block_lt_of_cell hx6)).trans hx6
  have g6c := (dc.cell (p := ⟨b6, o6, none⟩) (block_lt_of_cell hx6)).trans hx6
  rw [show ([[2, 29]] : List (List Nat)).getD 0 [] = [2, 29] from rfl] at v2b v2c
  have BD := Lib.hid dc
  generalize strOf [1, 0, 1, 1, 1, 2] = t1 at *
  generalize strOf [2, 29] = t2 at *
  clear da db dc l1b l2c
  go_wp2_with fail
  go_region

  go_wp2

  go_ret
  exact ⟨rfl, bt B6.out BD.out⟩
end Go.Proofs.Ytcckhgadgiaofaa.Gf
