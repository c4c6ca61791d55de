/- What is proved here: the contract of the writer's number. No condition but on lengths. -/
import Derived.Test.YtljdbaibhpgfnaaDoorPw
namespace Go.Proofs.YtljdbaibhpgfnaaDoor.Gf
open Go Go.ChangeShapes Go.WideShapes Go.ChangeAt Go.RowKit Go.Proofs.YtljdbaibhpgfnaaDoor.By Go.Proofs.YtljdbaibhpgfnaaDoor.Crc Go.Proofs.YtljdbaibhpgfnaaDoor.Qt

set_option maxRecDepth 100000 in
theorem wnumber_any {w W : World} {g q : Nat} {F : Array Value} {x : Ndl} {s r : Value} {L : List Nat} (v n : Nat) (h : Wb w g q F x s L W r) (hl : L.length ≤ 90000) (hn : n ≤ 8) : Calls Tryd.prog 36 #[.pointer (some ⟨g, 0, none⟩), .int .u64 (v : Int), .int .i64 (n : Int)] W (WC w g q F x s (L ++ beL n v)) := by
  have HL := Lib.hid hl
  have H := Lib.hid h
  clear h hl
  go_enter Tryd.func36, Tryd.ntmps36
  go_wp2_with fail
  go_loopw [6] (fun t wr => ∃ j : Nat, j ≤ n ∧ t = .int .i64 ((n : Int) - 1 - (j : Int)) ∧ ∃ r, Wb w g q F x s (L ++ (beL n v).take j) wr r) (fun t _ => (intOf t + 1).toNat)
  case atStart => exact ⟨0, by omega, by go_num, r, by simpa using H.out⟩
  case round =>
    obtain ⟨j, hj, rfl, r1, hW⟩ := hrel
    obtain ⟨ra, rn, rc, rfl, -⟩ := own_form hW.own
    by_cases hjn : j < n
    · obtain ⟨i, hi⟩ : ∃ i : Nat, i = n - 1 - j := ⟨_, rfl⟩
      have e0 : (n : Int) - 1 - (j : Int) = (i : Int) := by omega
      rw [e0]
      have hg : decide ((0 : Int) ≤ (i : Int)) = true := decide_eq_true (by omega)
      have hi8 : i < 8 := by omega
      have HS := Lib.hid (beL_take_succ (v := v) hjn)
      rw [← hi] at HS
      obtain ⟨z, hz⟩ : ∃ z, z = v / 256 ^ i % 256 := ⟨_, rfl⟩
      rw [← hz] at HS
      have hz2 : (v : Int) / 2 ^ (8 * i) % 256 = (z : Int) := by
        rw [hz, show (256 : Nat) ^ i = 2 ^ (8 * i) by rw [Nat.pow_mul]]
        simp
      have HZ : Hid (z < 256) := by show z < 256; rw [hz]; exact Nat.mod_lt _ (by decide)
      have HLN : Hid ((L ++ (beL n v).take j).length + [z].length ≤ 100000000) := by show _ ≤ _; have := HL.out; rw [List.length_append, List.length_take]; simp; omega
      have HI : Hid (i = n - 1 - j) := hi
      have HW0 := Lib.hid hW
      have HJ := Lib.hid hjn
      have k1 : IntKind.i64.wrap (8 * (i : Int)) = 8 * (i : Int) := IntWalk.i64_in _ (by omega)
      have k2 : (8 * (i : Int)).toNat = 8 * i := by omega
      have k3 : IntKind.u8.wrap ((v : Int) / 2 ^ (8 * i)) = (z : Int) := hz2
      clear hW hi e0 hz hjn
      go_wp2_with fail
      refine wp_region_any (by kernel_rfl) ?_
      change wpAny _ _ _ _ _ _ _ wr.drew
      have hW1 : Wb w g q F x s (L ++ (beL n v).take j) wr.drew (.slice ra rn rc) := HW0.out.later ⟨rfl, rfl, rfl, Nat.le_refl _, fun _ _ => rfl⟩
      generalize wr.drew = W1 at *
      obtain ⟨-, -, -, -, c4, -⟩ := hW1.cells
      have hW2 := hW1.later ((Below.refl W1.heap.size W1).alloc (Nat.le_refl _) (.cells #[.int .u8 (z : Int)] 5))
      obtain ⟨-, -, -, -, d4, -⟩ := hW2.cells
      have HW := Lib.hid hW2
      clear hW1 hW2
      refine wpAny_take (i := 0) (v := Value.pointer (some ⟨g, 0, none⟩)) rfl (by kernel_rfl) (by kernel_rfl) (by kernel_rfl) (fun _ _ _ h => h) (Or.inl ⟨by rfl, fun w => by go_simp⟩) ?_
      refine wpAny_take (i := 1) (v := Value.pointer (some ⟨g, 0, none⟩)) rfl (by kernel_rfl) (by kernel_rfl) (by kernel_rfl) (fun _ _ _ h => h) (Or.inl ⟨by rfl, fun w => by go_simp⟩) ?_
      refine wpAny_take (i := 2) (v := Value.pointer (some ⟨g, 0, none⟩)) rfl (by kernel_rfl) (by kernel_rfl) (by kernel_rfl) (fun _ _ _ h => h) (Or.inl ⟨by rfl, fun w => by go_simp⟩) ?_
      refine wpAny_take (i := 3) (v := Value.pointer (some ⟨g, 4, none⟩)) rfl (by kernel_rfl) (by kernel_rfl) (by kernel_rfl) (fun _ _ _ h => h) (Or.inl ⟨by rfl, fun w => by go_simp⟩) ?_
      refine wpAny_take (i := 5) (v := .int .u64 (v : Int)) rfl (by kernel_rfl) (by kernel_rfl) (by kernel_rfl) (fun _ _ _ h => h) (Or.inl ⟨by rfl, fun w => by go_simp⟩) ?_
      refine wpAny_take (i := 6) (v := .int .i64 (i : Int)) rfl (by kernel_rfl) (by kernel_rfl) (by kernel_rfl) (fun _ _ _ h => h) (Or.inl ⟨by rfl, fun w => by go_simp⟩) ?_
      refine wpAny_take (i := 7) (v := .int .i64 (8 * (i : Int))) rfl (by kernel_rfl) (by kernel_rfl) (by kernel_rfl) (fun _ _ _ h => h) (Or.inl ⟨by rfl, fun w => by go_simp⟩) ?_
      refine wpAny_take (i := 8) (v := .int .u64 ((v : Int) / 2 ^ (8 * i))) rfl (by kernel_rfl) (by kernel_rfl) (by kernel_rfl) (fun _ _ _ h => h) (Or.inl ⟨by rfl, fun w => by go_simp⟩) ?_
      refine wpAny_take (i := 9) (v := .int .u8 (z : Int)) rfl (by kernel_rfl) (by kernel_rfl) (by kernel_rfl) (fun _ _ _ h => h) (Or.inl ⟨by rfl, fun w => by go_simp⟩) ?_
      refine wpAny_ready (rs := [4, 10]) (by kernel_rfl) (by simp) ?_
      refine AllReady.cons rfl (fun K hK => ?_) (AllReady.cons rfl (fun K hK => ?_) AllReady.nil)
      · go_simp
        refine hK _ _ ?_
        clear hK K
        refine any_tail 10 (by kernel_rfl) ?_
        simp only [List.drop_succ_cons, List.drop_zero]
        go_wp2_with (at_builtin; refine app_sl (dst := some 24) ?_ ?_ HW.out.own (sl_one HZ.out (heap_alloc_new W1 _)) HLN.out HW.out.size ?_; exact rfl; exact rfl; intro v5 w5 ho5 hg5; rw [List.append_assoc, ← HS.out] at ho5; obtain ⟨sa5, sn5, sc5, rfl, -⟩ := own_form ho5; have c5 := cell_of_row w5 g 4 _ _ _ (HW.out.grown hg5); have f5 := frozen_of_row w5 g 4 _ _ (HW.out.grown hg5); have HO5 := Lib.hid ho5; have HG5 := Lib.hid hg5; clear ho5 hg5)
        go_roundw
        case rel => exact ⟨j + 1, HJ.out, by have := HI.out; have := HJ.out; exact congrArg (Value.int .i64) (by omega), _, HW.out.put HG5.out HO5.out⟩
        case measure => simp [intOf]
      · go_simp
        refine hK _ _ ?_
        clear hK K
        refine wpAny_ready (rs := [4]) (by kernel_rfl) (by simp) ?_
        refine AllReady.cons rfl (fun K hK => ?_) AllReady.nil
        go_simp
        refine hK _ _ ?_
        clear hK K
        refine any_tail 11 (by kernel_rfl) ?_
        simp only [List.drop_succ_cons, List.drop_zero]
        go_wp2_with (at_builtin; refine app_sl (dst := some 24) ?_ ?_ HW.out.own (sl_one HZ.out (heap_alloc_new W1 _)) HLN.out HW.out.size ?_; exact rfl; exact rfl; intro v5 w5 ho5 hg5; rw [List.append_assoc, ← HS.out] at ho5; obtain ⟨sa5, sn5, sc5, rfl, -⟩ := own_form ho5; have c5 := cell_of_row w5 g 4 _ _ _ (HW.out.grown hg5); have f5 := frozen_of_row w5 g 4 _ _ (HW.out.grown hg5); have HO5 := Lib.hid ho5; have HG5 := Lib.hid hg5; clear ho5 hg5)
        go_roundw
        case rel => exact ⟨j + 1, HJ.out, by have := HI.out; have := HJ.out; exact congrArg (Value.int .i64) (by omega), _, HW.out.put HG5.out HO5.out⟩
        case measure => simp [intOf]
    · obtain rfl : j = n := by omega
      have hg : decide ((0 : Int) ≤ (j : Int) - 1 - (j : Int)) = false := decide_eq_false (by omega)
      rw [List.take_of_length_le (by rw [beL_length]; exact Nat.le_refl _)] at hW
      have HW := Lib.hid hW
      clear hW
      go_wp2
      go_end0
      exact ⟨rfl, _, HW.out⟩
end Go.Proofs.YtljdbaibhpgfnaaDoor.Gf
