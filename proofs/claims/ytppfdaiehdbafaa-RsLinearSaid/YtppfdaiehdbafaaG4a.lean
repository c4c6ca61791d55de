/- What is proved here: the contract of the program's plusMultiple. No condition. -/
import Derived.Test.YtppfdaiehdbafaaG3f
import Derived.Test.YtppfdaiehdbafaaG4m
import Derived.Test.YtppfdaiehdbafaaMa
namespace Go.Proofs.Ytppfdaiehdbafaa.Gf
open Go Go.ChangeShapes Go.WideShapes Go.ChangeAt Go.RowKit Go.Sort Go.Proofs.Ytppfdaiehdbafaa.By Go.Proofs.Ytppfdaiehdbafaa.Qt

/-- A callee that reads only, met in a world of the class. -/
theorem regrown_same {P : Program} {f : FuncId} {args : Array Value} {w : World} {d : Nat} {os : Array Obj} {v : Value}
    (h : Calls P f args (grow (redrawn w d) os) fun e w' => e = .returned v ∧ grow (redrawn w d) os = w') : Calls P f args (grow (redrawn w d) os) fun e w'' => e = .returned v ∧ ∃ p : Regrown, w'' = grow (redrawn w p.d) p.os :=
  h.mono fun _ _ ⟨he, hb⟩ => ⟨he, ⟨d, os⟩, hb.symm⟩
set_option maxRecDepth 100000 in
set_option maxHeartbeats 1600000 in
theorem plus_pos (b1 o1 c1 b2 o2 c2 n c : Nat) (d s : List Nat) (w : World) (hd : d.length = n) (hs : s.length = n) (hn : n ≤ 1000) (hc : c < 256) (d1 : ∀ b ∈ d, b < 256) (s1 : ∀ b ∈ s, b < 256)
    (k1 : ∀ k, k < n → w.cell? ⟨b1, o1 + k, none⟩ = some (.int .u8 ((d.getD k 0 : Nat) : Int))) (k2 : ∀ k, k < n → w.cell? ⟨b2, o2 + k, none⟩ = some (.int .u8 ((s.getD k 0 : Nat) : Int))) :
    Calls Try.prog 58 #[.slice (some ⟨b1, o1, none⟩) n c1, .slice (some ⟨b2, o2, none⟩) n c2, .int .u8 (c : Int)] w fun e w' => (∃ v, e = .returned v ∧ Own w' w.heap.size v (ma c d s)) ∧ Below w.heap.size w w' := by
  have K1 := Lib.hid k1
  have K2 := Lib.hid k2
  have D1 := Lib.hid d1
  have S1 := Lib.hid s1
  have HD := Lib.hid hd
  have HS := Lib.hid hs
  have LM := Lib.hid (show (ma c d s).length = n by rw [ma_length c (hd.trans hs.symm), hd])
  clear k1 k2 d1 s1 hd hs
  go_enter Try.func58, Try.ntmps58
  go_wp2_with ((with_reducible refine make_step (n := n) ?_ (by omega) ?_); exact rfl)
  go_loopw [15] (fun i wr => ∃ k : Nat, k ≤ n ∧ i = .int .i64 (k : Int) ∧ Own wr w.heap.size (.slice (some ⟨w.heap.size, 0, none⟩) n n) (Part (ma c d s) n k) ∧ Below w.heap.size w wr) (fun i _ => n - (intOf i).toNat)
  case atStart => exact ⟨0, by omega, rfl, by simpa [Part] using own_made w (Nat.le_refl _) (show n ≤ maxLen by unfold maxLen; omega), (Below.refl _ _).alloc (Nat.le_refl _) _⟩
  case round =>
    obtain ⟨k, hk, rfl, hO, hB⟩ := hrel
    have HO := Lib.hid hO
    have HB := Lib.hid hB
    clear hO hB
    by_cases hlt : k < n
    · have f1 := (HB.out.cell (p := ⟨b1, o1 + k, none⟩) (block_lt_of_cell (K1.out k hlt))).trans (K1.out k hlt)
      have f2 := (HB.out.cell (p := ⟨b2, o2 + k, none⟩) (block_lt_of_cell (K2.out k hlt))).trans (K2.out k hlt)
      have u1 := getD_lt D1.out k
      have u2 := getD_lt S1.out k
      have hg := ma_getD c k (d := d) (s := s) (by rw [HD.out]; exact hlt) (by rw [HD.out, HS.out])
      have ht := part_set LM.out hlt
      rw [hg] at ht
      have hmul := fun w => mul_any c (s.getD k 0) w hc u2
      have u3 : gm c (s.getD k 0) < 256 := gm_lt hc
      have hadd := fun w => add_same (d.getD k 0) (gm c (s.getD k 0)) w u1 u3
      have z1 : d.getD k 0 ^^^ gm c (s.getD k 0) < 256 := xor_lt u1 u3
      have LP := Lib.hid (part_length LM.out hk)
      generalize Part (ma c d s) n k = L at HO ht LP
      generalize d.getD k 0 ^^^ gm c (s.getD k 0) = z at ht z1 hadd
      generalize gm c (s.getD k 0) = g at hmul hadd u3
      generalize s.getD k 0 = x2 at f2 hmul u2
      generalize d.getD k 0 = x1 at f1 hadd u1
      have HT := Lib.hid ht
      have hM : ∀ dd os, Calls Try.prog 63 #[.int .u8 (c : Int), .int .u8 (x2 : Int)] (grow (redrawn wr dd) os) fun e w'' => e = .returned (.int .u8 (g : Int)) ∧ ∃ p : Regrown, w'' = grow (redrawn wr p.d) p.os := fun dd os => regrown_same (hmul _)
      have hA : ∀ dd os, Calls Try.prog 66 #[.int .u8 (x1 : Int), .int .u8 (g : Int)] (grow (redrawn wr dd) os) fun e w'' => e = .returned (.int .u8 (z : Int)) ∧ ∃ p : Regrown, w'' = grow (redrawn wr p.d) p.os := fun dd os => regrown_same (hadd _)
      have HM := Lib.hid hM
      have HA := Lib.hid hA
      clear ht hg hmul hadd hM hA
      have p0 : (0 : Int) ≤ (k : Int) := by omega
      have p1 : (k : Int) < (n : Int) := by omega
      go_wp2
      have g1 := cells_regrown f1
      clear f1 f2
      refine wp_region_bl_tail 11 (by kernel_rfl) (by kernel_rfl) ?_
      simp only [List.take_succ_cons, List.take_zero, List.drop_succ_cons, List.drop_zero]
      repeat (quiet_step (first | (go_at_call 63; exact HM.out _ _) | (go_at_call 66; exact HA.out _ _)))
      refine wpQuiet_nil ?_
      intro w9 hb9
      clear g1
      have HO9 := Lib.hid (own_below' HO.out hb9)
      have HB9 := Lib.hid (bt HB.out hb9)
      obtain ⟨q1, q2, _⟩ := own_cell HO9.out LP.out hlt
      clear HO HB hb9
      go_wp2
      go_roundw
      case rel => exact ⟨k + 1, by omega, by go_num, by rw [← HT.out]; exact own_set HO9.out LP.out hlt z1, HB9.out.setCell (Nat.le_refl _) _⟩
      case measure => simp [intOf]; omega
    · obtain rfl : k = n := by omega
      rw [part_full LM.out] at HO
      go_wp2
      go_ret
      exact ⟨⟨_, rfl, HO.out⟩, HB.out⟩
theorem plus_any (v1 v2 : Value) (d s : List Nat) (c : Nat) (w : World) (hd : Sl w v1 d) (hs : Sl w v2 s) (hl : d.length = s.length) (h0 : 1 ≤ d.length) (h1 : d.length ≤ 1000) (hc : c < 256) :
    Calls Try.prog 58 #[v1, v2, .int .u8 (c : Int)] w fun e w' => (∃ v, e = .returned v ∧ Own w' w.heap.size v (ma c d s)) ∧ Below w.heap.size w w' := by
  obtain ⟨b1, o1, c1, rfl, _, _, k1⟩ := sl_cells hd (by omega)
  obtain ⟨b2, o2, c2, rfl, _, _, k2⟩ := sl_cells hs (by omega)
  rw [← hl]
  exact plus_pos b1 o1 c1 b2 o2 c2 d.length c d s w rfl hl.symm h1 hc hd.1 hs.1 k1 (fun k hk => k2 k (by omega))
end Go.Proofs.Ytppfdaiehdbafaa.Gf
