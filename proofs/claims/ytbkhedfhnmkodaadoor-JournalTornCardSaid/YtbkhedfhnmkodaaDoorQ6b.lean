/- What is proved here: the contracts of the reference's Number, Value and Check. No condition but on lengths. -/
import Derived.Test.YtbkhedfhnmkodaaDoorQ6
namespace Go.Proofs.YtbkhedfhnmkodaaDoor.Gf
open Go Go.ChangeShapes Go.WideShapes Go.ChangeAt Go.RowKit Go.Proofs.YtbkhedfhnmkodaaDoor.By Go.Proofs.YtbkhedfhnmkodaaDoor.Crc

theorem beL_take_succ {n v j : Nat} (h : j < n) : (beL n v).take (j + 1) = (beL n v).take j ++ [v / 256 ^ (n - 1 - j) % 256] := by
  rw [List.take_succ_eq_append_getElem (by rw [beL_length]; exact h)]
  simp [beL]
set_option maxRecDepth 100000 in
theorem number_any (v n : Nat) (w : World) (hn : n ≤ 8) : Calls Tryd.prog 14 #[.int .u64 (v : Int), .int .i64 (n : Int)] w fun e w' => (∃ s, e = .returned s ∧ Own w' w.heap.size s (beL n v)) ∧ Below w.heap.size w w' := by
  go_enter Tryd.func14, Tryd.ntmps14
  go_wp2_with fail
  go_loopw [5, 6] (fun out t wr => ∃ j : Nat, j ≤ n ∧ t = .int .i64 ((n : Int) - 1 - (j : Int)) ∧ Own wr w.heap.size out ((beL n v).take j) ∧ Below w.heap.size w wr) (fun _ t _ => (intOf t + 1).toNat)
  case atStart => exact ⟨0, by omega, by go_num, by simpa using own_nil w w.heap.size, Below.refl _ _⟩
  case round =>
    obtain ⟨j, hj, rfl, hO, hB⟩ := hrel
    obtain ⟨oa, on, oc, rfl, hon⟩ := own_form hO
    by_cases hjn : j < n
    · obtain ⟨i, hi⟩ : ∃ i : Nat, i = n - 1 - j := ⟨_, rfl⟩
      have e0 : (n : Int) - 1 - (j : Int) = (i : Int) := by omega
      rw [e0]
      have hg : decide ((0 : Int) ≤ (i : Int)) = true := decide_eq_true (by omega)
      have hi8 : i < 8 := by omega
      have HS := Lib.hid (beL_take_succ (v := v) hjn)
      rw [← hi] at HS
      obtain ⟨z, hz⟩ : ∃ z, z = v / 256 ^ i % 256 := ⟨_, rfl⟩
      rw [← hz] at HS
      have hz2 : (v : Int) / 2 ^ (8 * i) % 256 = (z : Int) := by
        rw [hz, show (256 : Nat) ^ i = 2 ^ (8 * i) by rw [Nat.pow_mul]]
        simp
      have HZ : Hid (z < 256) := by show z < 256; rw [hz]; exact Nat.mod_lt _ (by decide)
      have HLN : Hid (((beL n v).take j).length + [z].length ≤ 100000000) := by show _ ≤ _; rw [List.length_take]; simp; omega
      have HI : Hid (i = n - 1 - j) := hi
      have HO := Lib.hid hO
      have HB := Lib.hid hB
      have HJ := Lib.hid hjn
      clear hO hB hi e0 hon hz hjn
      go_wp2_with (at_builtin; refine app_sl (dst := some 21) ?_ ?_ (own_below' HO.out ((Below.refl wr.heap.size wr).alloc (Nat.le_refl _) _)) (sl_one HZ.out (heap_alloc_new _ _)) HLN.out (by have := HB.out.size; simp; omega) ?_; exact rfl; exact rfl; intro v5 w5 ho5 hg5; rw [← HS.out] at ho5; obtain ⟨sa, sn, sc, hv5, -⟩ := own_form ho5; subst hv5; have HO5 := Lib.hid ho5; have HG5 := Lib.hid hg5; clear ho5 hg5)
      have hbf : Below w.heap.size w w5 := (HB.out.alloc HB.out.size _).grown HG5.out (by have := HB.out.size; simp; omega) fun q hq => HO.out.lt q hq
      have HBF := Lib.hid hbf
      clear hbf
      go_roundw
      case rel => exact ⟨j + 1, HJ.out, by have := HI.out; have := HJ.out; exact congrArg (Value.int .i64) (by omega), HO5.out, HBF.out⟩
      case measure => simp [intOf]
    · obtain rfl : j = n := by omega
      have hg : decide ((0 : Int) ≤ (j : Int) - 1 - (j : Int)) = false := decide_eq_false (by omega)
      rw [List.take_of_length_le (by rw [beL_length]; exact Nat.le_refl _)] at hO
      have HO := Lib.hid hO
      have HB := Lib.hid hB
      clear hO hB hon
      go_wp2
      go_ret
      exact ⟨⟨_, rfl, HO.out⟩, HB.out⟩
theorem valL_take_succ {l : List Nat} {j : Nat} (h : j < l.length) : valL (l.take (j + 1)) = valL (l.take j) * 256 + l.getD j 0 := by
  rw [take_snoc l j h, valL_snoc]
theorem or_byte {v b : Nat} (hv : v < 72057594037927936) (hb : b < 256) : bits .or .u64 ((v : Int) * 256) (b : Int) = ((v * 256 + b : Nat) : Int) := by
  have h := Nat.two_pow_add_eq_or_of_lt (i := 8) (b := b) (by simpa using hb) v
  rw [show (v : Int) * 256 = ((v * 256 : Nat) : Int) by simp, u64_or_nat _ _ (by omega) (by omega), Nat.mul_comm v 256, show (256 : Nat) = 2 ^ 8 from rfl, ← h]
set_option maxRecDepth 100000 in
theorem rvalue_some (b o c : Nat) (l : List Nat) (w : World) (hn : l.length ≤ 8) (s : Sl w (.slice (some ⟨b, o, none⟩) l.length c) l) : Calls Tryd.prog 18 #[.slice (some ⟨b, o, none⟩) l.length c] w fun e w' => e = .returned (.int .u64 ((valL l : Nat) : Int)) ∧ w = w' := by
  obtain ⟨n, hln⟩ : ∃ n, n = l.length := ⟨_, rfl⟩
  have HC : Hid (∀ k, k < n → w.cell? ⟨b, o + k, none⟩ = some (.int .u8 ((l.getD k 0 : Nat) : Int))) := fun k hk => by
    obtain ⟨b', o', c', hv, -, -, h⟩ := sl_cells s (by omega)
    obtain ⟨⟨rfl, rfl⟩, rfl⟩ : (b = b' ∧ o = o') ∧ c = c' := by simpa using hv
    exact h k (by omega)
  have HL := Lib.hid s.1
  rw [← hln] at hn ⊢
  have HN := Lib.hid hln
  clear s hln
  go_enter Tryd.func18, Tryd.ntmps18
  go_wp2_with fail
  go_loopw [3, 4] (fun r t wr => ∃ j : Nat, j ≤ n ∧ t = .int .i64 (j : Int) ∧ r = .int .u64 ((valL (l.take j) : Nat) : Int) ∧ wr = w) (fun _ t _ => n - (intOf t).toNat)
  case atStart => exact ⟨0, by omega, rfl, rfl, rfl⟩
  case round =>
    obtain ⟨j, hj, rfl, rfl, rfl⟩ := hrel
    by_cases hjn : j < n
    · have hl4 : decide ((j : Int) < (n : Int)) = true := decide_eq_true (by omega)
      have hc := HC.out j hjn
      have hb := getD_lt HL.out j
      have HS := Lib.hid (valL_take_succ (l := l) (j := j) (by have := HN.out; omega))
      have hv : valL (l.take j) < 72057594037927936 := by
        have h1 := valL_lt (l.take j) (mem_take HL.out j)
        have h2 : (l.take j).length ≤ 7 := by rw [List.length_take]; omega
        exact Nat.lt_of_lt_of_le h1 (by have := Nat.pow_le_pow_right (n := 256) (by decide) h2; simpa using this)
      have ho := or_byte hv hb
      generalize valL (l.take j) = V at *
      generalize l.getD j 0 = y at *
      have hs : (V : Int) * 256 % 18446744073709551616 = (V : Int) * 256 := by omega
      have p0 : (0 : Int) ≤ (j : Int) := by omega
      have p1 : (j : Int) < (n : Int) := by omega
      go_wp2
      go_roundw
      case rel => exact ⟨j + 1, by omega, by go_num, by rw [HS.out]; simp, by first | rfl | trivial⟩
      case measure => simp [intOf]; omega
    · obtain rfl : j = n := by omega
      have hl4 : decide ((j : Int) < (j : Int)) = false := decide_eq_false (by omega)
      have HV : Hid (valL (l.take j) = valL l) := by show _ = _; rw [List.take_of_length_le (by rw [← HN.out]; exact Nat.le_refl _)]
      rw [HV.out]
      go_wp2
      go_ret
      exact ⟨rfl, rfl⟩
theorem own_of_cells {w : World} {b0 g n : Nat} {M : List Nat} (hg : w.heap[g]? = some (.cells (cellsOf M).toArray 5 (0, 0))) (hl : ∀ b ∈ M, b < 256) (hb : b0 ≤ g) (hM : M.length = n) (hn : n ≤ maxLen) : Own w b0 (.slice (some ⟨g, 0, none⟩) n n) M := by
  subst hM
  exact ⟨hl, by rw [cellsOf_length, Nat.mul_one], Or.inr ⟨g, _, _, rfl, hb, hg, Nat.le_refl _, hn, by simp [cellsOf], by rw [Nat.mul_one]; exact List.take_of_length_le (by simp [cellsOf])⟩⟩
theorem leL_cells {s : Nat} (h : s < 4294967296) : (cellsOf (leL s)).toArray = #[.int .u8 ((s : Int) % 256), .int .u8 ((s : Int) / 256 % 256), .int .u8 ((s : Int) / 65536 % 256), .int .u8 ((s : Int) / 16777216)] := by
  have e : s / 16777216 % 256 = s / 16777216 := Nat.mod_eq_of_lt (by omega)
  simp [cellsOf, leL, e]
theorem check_any (v : Value) (l : List Nat) (w : World) (s : Sl w v l) : Calls Tryd.prog 15 #[v] w fun e w' => (∃ s, e = .returned s ∧ Own w' w.heap.size s (leL (ext 0 l))) ∧ Below w.heap.size w w' := by
  have RS := rsum_any v l w s
  have hlt : ext 0 l < 4294967296 := ext_lt (by decide) s.1
  generalize ext 0 l = S at *
  have HO := Lib.hid (own_of_cells (b0 := w.heap.size) (n := 4) (M := leL S) (by rw [leL_cells hlt]; exact heap_alloc_new w _) (leL_lt S) (Nat.le_refl _) rfl (by unfold maxLen; omega))
  have HB := Lib.hid ((Below.refl w.heap.size w).alloc (Nat.le_refl _) (.cells (cellsOf (leL S)).toArray 5))
  rw [leL_cells hlt] at HB
  clear s
  go_enter Tryd.func15, Tryd.ntmps15
  go_wp2_with (go_at_call 19; refine RS.mono ?_; rintro e w' ⟨rfl, rfl⟩)
  go_ret
  exact ⟨⟨_, rfl, HO.out⟩, HB.out⟩
theorem rvalue_any (v : Value) (l : List Nat) (w : World) (s : Sl w v l) (h0 : 0 < l.length) (hn : l.length ≤ 8) : Calls Tryd.prog 18 #[v] w fun e w' => e = .returned (.int .u64 ((valL l : Nat) : Int)) ∧ w = w' := by
  obtain ⟨b, o, c, rfl, -, -, -⟩ := sl_cells s h0
  exact rvalue_some b o c l w hn s
end Go.Proofs.YtbkhedfhnmkodaaDoor.Gf
