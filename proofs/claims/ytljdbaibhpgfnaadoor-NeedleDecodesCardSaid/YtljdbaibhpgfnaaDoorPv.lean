/- What is proved here: the contracts of the program's Valid, number, and of bytes.Clone. No condition but on lengths. -/
import Derived.Test.YtljdbaibhpgfnaaDoorPm
namespace Go.Proofs.YtljdbaibhpgfnaaDoor.Gf
open Go Go.ChangeShapes Go.WideShapes Go.ChangeAt Go.RowKit Go.Proofs.YtljdbaibhpgfnaaDoor.By Go.Proofs.YtljdbaibhpgfnaaDoor.Crc

theorem pvalid_any (v : Value) (x : Ndl) (w : World) (h : Nd w v x) : Calls Tryd.prog 12 #[v] w fun e w' => e = .returned (.bool (okB x)) ∧ Below w.heap.size w w' := by
  obtain ⟨s, rfl, h1, h2, h3⟩ := h
  obtain ⟨a, c, hv, -, -⟩ := sl_form h3
  unfold okB
  obtain ⟨n, hn⟩ : ∃ n, n = x.data.length := ⟨_, rfl⟩
  rw [← hn] at hv ⊢
  subst hv
  have HB := Lib.hid ((Below.refl w.heap.size w).alloc (Nat.le_refl _) (.cells #[.int .u64 (x.key : Int), .int .u32 (x.cookie : Int), .bool x.del, .slice a n c] 26))
  clear h1 h2 h3 hn
  obtain ⟨d1, hd1⟩ : ∃ b, decide ((n : Int) ≤ 4096) = b := ⟨_, rfl⟩
  have e1 : decide (n ≤ 4096) = d1 := by rw [← hd1]; exact decide_eq_decide.2 (by omega)
  rw [e1]
  clear e1
  obtain ⟨d2, hd2⟩ : ∃ b, ((n : Int) == 0) = b := ⟨_, rfl⟩
  have e2 : decide (0 < n) = !d2 := by
    rw [← hd2]
    by_cases h : n = 0
    · subst h; rfl
    · rw [decide_eq_true (by omega), beq_false_of_ne (by omega)]; rfl
  rw [e2]
  clear e2
  generalize x.key = key at *
  generalize x.cookie = ck at *
  generalize x.del = d at *
  cases d1 <;> cases d <;> cases d2
  all_goals
    go_enter Tryd.func12, Tryd.ntmps12
    go_wp2
    go_ret
    exact ⟨by first | rfl | simp, HB.out⟩
set_option maxRecDepth 100000 in
theorem pnumber_some (b o c : Nat) (l : List Nat) (w : World) (hn : l.length ≤ 8) (s : Sl w (.slice (some ⟨b, o, none⟩) l.length c) l) (h0 : 0 < l.length) : Calls Tryd.prog 33 #[.slice (some ⟨b, o, none⟩) l.length c] w fun e w' => e = .returned (.int .u64 ((valL l : Nat) : Int)) ∧ w = w' := by
  obtain ⟨n, hln⟩ : ∃ n, n = l.length := ⟨_, rfl⟩
  have HC : Hid (∀ k, k < n → w.cell? ⟨b, o + k, none⟩ = some (.int .u8 ((l.getD k 0 : Nat) : Int))) := fun k hk => by
    obtain ⟨b', o', c', hv, -, -, h⟩ := sl_cells s (by omega)
    obtain ⟨⟨rfl, rfl⟩, rfl⟩ : (b = b' ∧ o = o') ∧ c = c' := by simpa using hv
    exact h k (by omega)
  have HL := Lib.hid s.1
  rw [← hln] at hn h0 ⊢
  have HN := Lib.hid hln
  clear s hln h0
  go_enter Tryd.func33, Tryd.ntmps33
  go_wp2_with fail
  go_loopw [3, 5, 8] (fun r _ t wr => ∃ j : Nat, j ≤ n ∧ t = .int .i64 (j : Int) ∧ r = .int .u64 ((valL (l.take j) : Nat) : Int) ∧ wr = w) (fun _ _ t _ => n - (intOf t).toNat)
  case atStart => exact ⟨0, by omega, rfl, rfl, rfl⟩
  case round =>
    obtain ⟨j, hj, rfl, rfl, rfl⟩ := hrel
    by_cases hjn : j < n
    · have hl4 : decide ((j : Int) < (n : Int)) = true := decide_eq_true (by omega)
      have hc := HC.out j hjn
      have hb := getD_lt HL.out j
      have HS := Lib.hid (valL_take_succ (l := l) (j := j) (by have := HN.out; omega))
      have hv : valL (l.take j) < 72057594037927936 := by
        have h1 := valL_lt (l.take j) (mem_take HL.out j)
        have h2 : (l.take j).length ≤ 7 := by rw [List.length_take]; omega
        exact Nat.lt_of_lt_of_le h1 (by have := Nat.pow_le_pow_right (n := 256) (by decide) h2; simpa using this)
      have ho := or_byte hv hb
      generalize valL (l.take j) = V at *
      generalize l.getD j 0 = y at *
      have hs : (V : Int) * 256 % 18446744073709551616 = (V : Int) * 256 := by omega
      have p0 : (0 : Int) ≤ (j : Int) := by omega
      have p1 : (j : Int) < (n : Int) := by omega
      go_wp2
      go_roundw
      case rel => exact ⟨j + 1, by omega, by go_num, by rw [HS.out]; simp, by first | rfl | trivial⟩
      case measure => simp [intOf]; omega
    · obtain rfl : j = n := by omega
      have hl4 : decide ((j : Int) < (j : Int)) = false := decide_eq_false (by omega)
      have HV : Hid (valL (l.take j) = valL l) := by show _ = _; rw [List.take_of_length_le (by rw [← HN.out]; exact Nat.le_refl _)]
      rw [HV.out]
      go_wp2
      go_ret
      exact ⟨rfl, rfl⟩
theorem pnumber_nil (a : Option Addr) (c : Nat) (w : World) : Calls Tryd.prog 33 #[.slice a 0 c] w fun e w' => e = .returned (.int .u64 0) ∧ w = w' := by
  go_enter Tryd.func33, Tryd.ntmps33
  go_wp2_with fail
  refine wp_loop_rounds 1 ?_
  rw [rounds_succ]
  go_wp2
  go_ret
  exact ⟨rfl, rfl⟩
theorem pnumber_any (v : Value) (l : List Nat) (w : World) (s : Sl w v l) (hn : l.length ≤ 8) : Calls Tryd.prog 33 #[v] w fun e w' => e = .returned (.int .u64 ((valL l : Nat) : Int)) ∧ w = w' := by
  by_cases h : l = []
  · subst h
    obtain ⟨a, c, rfl, -, -⟩ := sl_form s
    exact pnumber_nil a c w
  · have h0 : 0 < l.length := List.length_pos_iff.2 h
    obtain ⟨b, o, c, rfl, -, -, -⟩ := sl_cells s h0
    exact pnumber_some b o c l w hn s h0
theorem run_some_nil (w : World) (a : Addr) (n c : Nat) : (binOp .eql 24 (.slice (some a) n c) (.slice none 0 0)).run Tryd.prog w = .ok (.bool false) w := by
  have h : ∀ d : Nat, (Op.equalIn (d + 1) 24 (.slice (some a) n c) (.slice none 0 0)).run Tryd.prog w = .ok false w := fun d => by
    simp [Op.equalIn, run_underlying Tryd.underlying24]
  simp only [binOp]
  simp [Op.equal, Op.maxDepth, h 9999]
set_option maxRecDepth 100000 in
theorem pclone_any (a : Addr) (c : Nat) (l : List Nat) (w : World) (s : Sl w (.slice (some a) l.length c) l) (hl : l.length ≤ 100000) : Calls Tryd.prog 34 #[.slice (some a) l.length c] w fun e w' => (∃ v, e = .returned v ∧ Own w' w.heap.size v l) ∧ Below w.heap.size w w' := by
  obtain ⟨n, hn⟩ : ∃ n, n = l.length := ⟨_, rfl⟩
  have HS := Lib.hid s
  have HL : Hid (([] : List Nat).length + l.length ≤ 100000000) := by show _ ≤ _; simp; omega
  rw [← hn] at HS ⊢
  clear s hn hl
  have hq := run_some_nil w a n c
  go_enter Tryd.func34, Tryd.ntmps34
  go_wp2_with (at_builtin; refine app_sl (dst := some 7) ?_ ?_ (own_empty w (Nat.le_refl _)) (sl_below HS.out ((Below.refl w.heap.size w).alloc (Nat.le_refl _) _)) HL.out (by simp) ?_; exact rfl; exact rfl; intro v5 w5 ho5 hg5; obtain ⟨sa5, sn5, sc5, rfl, -⟩ := own_form ho5; have HO5 := Lib.hid ho5; have HG5 := Lib.hid hg5; clear ho5 hg5)
  go_ret
  exact ⟨⟨_, rfl, by simpa using HO5.out⟩, below_grown ((Below.refl w.heap.size w).alloc (Nat.le_refl _) _) HG5.out (own_empty w (Nat.le_refl _)) (by simp) (Nat.le_refl _)⟩
end Go.Proofs.YtljdbaibhpgfnaaDoor.Gf
