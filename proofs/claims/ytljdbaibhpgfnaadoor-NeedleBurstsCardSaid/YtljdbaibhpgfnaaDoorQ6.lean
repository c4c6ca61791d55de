/- What is proved here: needles as values, and the contracts of the reference's Size, Valid, Number, Value, Check. No condition. -/
import Derived.Test.YtljdbaibhpgfnaaDoorM6
import Derived.Test.YtljdbaibhpgfnaaDoorCr
import Derived.Test.YtljdbaibhpgfnaaDoorRo
import Derived.OwnWalk
import Derived.IntWalk
import Derived.BigQuiet
namespace Go.Proofs.YtljdbaibhpgfnaaDoor.Gf
open Go Go.ChangeShapes Go.WideShapes Go.ChangeAt Go.RowKit Go.Proofs.YtljdbaibhpgfnaaDoor.By Go.Proofs.YtljdbaibhpgfnaaDoor.Crc

/-- The value v reads as the needle x. -/
def Nd (w : World) (v : Value) (x : Ndl) : Prop := ∃ s, v = .agg #[.int .u64 (x.key : Int), .int .u32 (x.cookie : Int), .bool x.del, s] ∧ x.key < 18446744073709551616 ∧ x.cookie < 4294967296 ∧ Sl w s x.data
theorem nd_below {w w' : World} {v : Value} {x : Ndl} (h : Nd w v x) (hB : Below w.heap.size w w') : Nd w' v x := by
  obtain ⟨s, h1, h2, h3, h4⟩ := h
  exact ⟨s, h1, h2, h3, sl_below h4 hB⟩
theorem nd_ok {w : World} {v : Value} {x : Ndl} (h : Nd w v x) : NdOk x := by
  obtain ⟨s, h1, h2, h3, h4⟩ := h
  exact ⟨h2, h3, h4.1⟩
def I64b (n : Int) : Prop := -9223372036854775808 ≤ n ∧ n ≤ 9223372036854775807
def szI6 (n : Int) : Int := if n < 0 ∨ 4096 < n then 0 else (n + 31) / 8 * 8
theorem szI6_nat {n : Nat} (h : n ≤ 4096) : szI6 (n : Int) = ((szR n : Nat) : Int) := by
  unfold szI6 szR
  rw [if_neg (by omega)]
  omega
theorem rsize6_any (n : Int) (w : World) (_h : I64b n) : Calls Tryd.prog 11 #[.int .i64 n] w fun e w' => e = .returned (.int .i64 (szI6 n)) ∧ w = w' := by
  by_cases h1 : n < 0
  · have g1 : decide (n < 0) = true := decide_eq_true h1
    unfold szI6
    rw [if_pos (Or.inl h1)]
    go_enter Tryd.func11, Tryd.ntmps11
    go_wp2
    go_ret
    exact ⟨rfl, rfl⟩
  have g1 : decide (n < 0) = false := decide_eq_false h1
  by_cases h2 : 4096 < n
  · have g2 : decide (4096 < n) = true := decide_eq_true h2
    unfold szI6
    rw [if_pos (Or.inr h2)]
    clear _h
    go_enter Tryd.func11, Tryd.ntmps11
    go_wp2
    go_ret
    exact ⟨rfl, rfl⟩
  have g2 : decide (4096 < n) = false := decide_eq_false h2
  unfold szI6
  rw [if_neg (by omega)]
  have e1 : (20 + n + 4 + 7).tdiv 8 = (n + 31) / 8 := by rw [Int.tdiv_eq_ediv_of_nonneg (by omega)]; congr 1; omega
  obtain ⟨q, hq⟩ : ∃ q, (n + 31) / 8 = q := ⟨_, rfl⟩
  have b1 : 0 ≤ q ∧ q ≤ 600 := by omega
  have b0 : 0 ≤ n ∧ n ≤ 4096 := by omega
  rw [hq] at e1 ⊢
  clear hq _h h1 h2
  go_enter Tryd.func11, Tryd.ntmps11
  go_wp2
  go_ret
  exact ⟨rfl, rfl⟩
def okB (x : Ndl) : Bool := decide (x.data.length ≤ 4096) && !(x.del && decide (0 < x.data.length))
theorem okB_enc (x : Ndl) : okB x = decide (encE x = 0) := by
  unfold okB encE
  by_cases h1 : 4096 < x.data.length
  · rw [if_pos h1, decide_eq_false (by omega)]; rfl
  · rw [if_neg h1, decide_eq_true (by omega)]
    cases hd : x.del
    · rw [if_neg (by simp)]; rfl
    · by_cases h2 : 0 < x.data.length
      · rw [if_pos ⟨rfl, h2⟩, decide_eq_true h2]; rfl
      · rw [if_neg (fun h => h2 h.2), decide_eq_false h2]; rfl
theorem rvalid6_any (v : Value) (x : Ndl) (w : World) (h : Nd w v x) : Calls Tryd.prog 13 #[v] w fun e w' => e = .returned (.bool (okB x)) ∧ Below w.heap.size w w' := by
  obtain ⟨s, rfl, h1, h2, h3⟩ := h
  obtain ⟨a, c, hv, -, -⟩ := sl_form h3
  unfold okB
  obtain ⟨n, hn⟩ : ∃ n, n = x.data.length := ⟨_, rfl⟩
  rw [← hn] at hv ⊢
  subst hv
  have HB := Lib.hid ((Below.refl w.heap.size w).alloc (Nat.le_refl _) (.cells #[.int .u64 (x.key : Int), .int .u32 (x.cookie : Int), .bool x.del, .slice a n c] 26))
  clear h1 h2 h3 hn
  obtain ⟨d1, hd1⟩ : ∃ b, decide ((n : Int) ≤ 4096) = b := ⟨_, rfl⟩
  have e1 : decide (n ≤ 4096) = d1 := by rw [← hd1]; exact decide_eq_decide.2 (by omega)
  rw [e1]
  clear e1
  generalize x.key = key at *
  generalize x.cookie = ck at *
  generalize x.del = d at *
  cases d1 <;> cases d
  all_goals
    go_enter Tryd.func13, Tryd.ntmps13
    go_wp2
    go_ret
    exact ⟨by first | rfl | simp, HB.out⟩
end Go.Proofs.YtljdbaibhpgfnaaDoor.Gf
