/- What is proved here: the laws' light: a light generation has few items. -/
import Derived.Test.YtbmlpafbdbhaiaaGreatDoorGa6
namespace Go.Proofs.YtbmlpafbdbhaiaaGreatDoor.Gf
open Go Go.Joins Go.ChangeShapes Go.WideShapes Go.ChangeAt Go.RowKit Go.Deep Go.Proofs.YtbmlpafbdbhaiaaGreatDoor.By Go.Proofs.YtbmlpafbdbhaiaaGreatDoor.Qt
set_option maxRecDepth 100000
set_option maxHeartbeats 204800000
theorem bxk14 {w : World} {g : Nat} {c0 c1 c2 c3 s0 s1 s2 s3 s4 s5 s6 s7 s8 s9 : Value} {T : TypeId} {fr : Nat × Nat} (h : w.heap[g]? = some (.cells #[c0, c1, c2, c3, s0, s1, s2, s3, s4, s5, s6, s7, s8, s9] T fr)) {k : Nat} (hk : k < 8) {v : Value} (hv : [s0, s1, s2, s3, s4, s5, s6, s7][k]? = some v) : w.cell? ⟨g, 4 + k, none⟩ = some v := by
  rw [cell_of_row w g (4 + k) _ _ _ h, ← hv]
  obtain rfl | rfl | rfl | rfl | rfl | rfl | rfl | rfl : k = 0 ∨ k = 1 ∨ k = 2 ∨ k = 3 ∨ k = 4 ∨ k = 5 ∨ k = 6 ∨ k = 7 := by omega
  all_goals rfl
/-- What light answers. -/
def LgT (g : Ge) (e : Ending) : Prop := ∃ q : Bool, e = .returned (.bool q) ∧ (q = true → g.m.st.length = 8 ∧ FewN g.m 8)
theorem flat_lenF {m : Mp} {n : Nat} (h : FewN m n) (hl : m.st.length = 8) : ∀ s, s ≤ 8 → (m.st.take s).flatten.length ≤ n * s
  | 0, _ => by simp
  | s + 1, hs => by
    have ih := flat_lenF h hl s (by omega)
    have := h s (by omega)
    rw [List.take_succ_eq_append_getElem (by omega), List.flatten_append, List.length_append, ← ms_of (by omega), show [ms m s].flatten = ms m s by simp, Nat.mul_succ]
    omega
theorem light12_any (v : Value) (g : Ge) (w : World) (hv : Gv w v g) : Calls Tryz.prog 16 #[v] w fun e w' => LgT g e ∧ Below w.heap.size w w' := by
  obtain ⟨s0, s1, s2, s3, s4, s5, s6, s7, rfl, hms, -⟩ := hv
  have BX := Lh (bel_al w (.cells #[.int .i64 g.num, .int .i64 g.rev, .int .i64 g.mode, .int .i64 g.size, s0, s1, s2, s3, s4, s5, s6, s7, .int .i64 g.m.live, .int .i64 g.m.garb] 43))
  have HX := Lh (heap_alloc_new w (.cells #[.int .i64 g.num, .int .i64 g.rev, .int .i64 g.mode, .int .i64 g.size, s0, s1, s2, s3, s4, s5, s6, s7, .int .i64 g.m.live, .int .i64 g.m.garb] 43))
  have MS := Lh (ms_below hms BX.out)
  clear hms
  go_enter Tryz.func16, Tryz.ntmps16
  go_upto_region 1 with fail
  generalize w.alloc (.cells #[.int .i64 g.num, .int .i64 g.rev, .int .i64 g.mode, .int .i64 g.size, s0, s1, s2, s3, s4, s5, s6, s7, .int .i64 g.m.live, .int .i64 g.m.garb] 43) = W1 at *
  go_wp2_with fail
  go_loop [4] (fun t4 => ∃ k : Nat, k ≤ 8 ∧ t4 = .int .i64 (k : Int) ∧ Hid (∀ s, s < k → (ms g.m s).length ≤ 8)) (fun t => 8 - (intOf t).toNat)
  case atStart => exact ⟨0, by omega, rfl, Lh (fun s h => by omega)⟩
  case round =>
    obtain ⟨k, hk, rfl, HO⟩ := hrel
    by_cases hlt : k < 8
    case neg =>
      have l1 : decide ((k : Int) < 8) = false := decide_eq_false (by omega)
      have l2 : decide (k < 8) = false := decide_eq_false hlt
      have HF := Lh (show FewN g.m 8 from fun s hs => HO.out s (by omega))
      clear hlt hk HO
      go_wp2_with fail
      go_ret
      exact ⟨⟨true, rfl, fun _ => ⟨MS.out.1, HF.out⟩⟩, BX.out⟩
    have l1 : decide ((k : Int) < 8) = true := decide_eq_true (by omega)
    have l2 : decide (k < 8) = true := decide_eq_true hlt
    have HK := Lh hlt
    have EK := Lh (show wrap64 ((k : Int) + 1) = ((k + 1 : Nat) : Int) by unfold wrap64; omega)
    obtain ⟨a, c, hsel, -⟩ := MS.out.2.2.2 k hlt
    have hcell := bxk14 HX.out hlt hsel
    obtain ⟨n, hn⟩ : ∃ z, z = (ms g.m k).length := ⟨_, rfl⟩
    rw [← hn] at hcell
    have HN := Lh hn
    have p0 : (0 : Int) ≤ (k : Int) := by omega
    have p1 : (k : Int) < 8 := by omega
    clear hsel hn hlt hk
    by_cases hc : 8 < n
    case pos =>
      have l3 : decide ((8 : Int) < (n : Int)) = true := decide_eq_true (by omega)
      have l4 : decide (8 < n) = true := decide_eq_true hc
      clear hc HO
      go_wp2_with fail
      go_ret
      exact ⟨⟨false, rfl, fun h => by cases h⟩, BX.out⟩
    have l3 : decide ((8 : Int) < (n : Int)) = false := decide_eq_false (by omega)
    have l4 : decide (8 < n) = false := decide_eq_false hc
    have HO1 := Lh (show ∀ s, s < k + 1 → (ms g.m s).length ≤ 8 from fun s hs => by
      rcases Nat.lt_or_ge s k with h | h
      · exact HO.out s h
      · obtain rfl : s = k := by omega
        rw [← HN.out]; omega)
    clear hc HO
    go_wp2_with fail
    go_round
    case rel =>
      have h1 := HK.out
      exact ⟨k + 1, by omega, by first | rw [EK.out] | rfl, HO1⟩
    case measure =>
      have h1 := HK.out
      first | rw [EK.out] | skip
      simp [intOf]; omega
/-- A light generation has at most 64 items. -/
theorem lge_light {g : Ge} (h : g.m.st.length = 8 ∧ FewN g.m 8) : LGe g ∧ g.m.st.flatten.length ≤ 64 := by
  have f := flat_lenF h.2 h.1 8 (Nat.le_refl 8)
  rw [List.take_of_length_le (by rw [h.1]; exact Nat.le_refl 8)] at f
  exact ⟨⟨fun k hk => Nat.le_trans (h.2 k hk) (by decide), by omega⟩, by omega⟩
end Go.Proofs.YtbmlpafbdbhaiaaGreatDoor.Gf
