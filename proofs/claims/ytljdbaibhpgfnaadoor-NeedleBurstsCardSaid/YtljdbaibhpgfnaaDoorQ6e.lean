/- What is proved here: the contract of the reference's Same; what the laws ask of the program; cut. No condition. -/
import Derived.Test.YtljdbaibhpgfnaaDoorQ6d
namespace Go.Proofs.YtljdbaibhpgfnaaDoor.Gf
open Go Go.ChangeShapes Go.WideShapes Go.ChangeAt Go.RowKit Go.Proofs.YtljdbaibhpgfnaaDoor.By Go.Proofs.YtljdbaibhpgfnaaDoor.Crc

/-- What the laws ask of the program, in the worlds that are Ok. -/
structure PC6 (Ok : World → Prop) : Prop where
  st : ∀ {w w' : World}, Ok w → Below w.heap.size w w' → Ok w'
  size : ∀ n W, Ok W → I64b n → Calls Tryd.prog 10 #[.int .i64 n] W fun e w' => e = .returned (.int .i64 (szI6 n)) ∧ Below W.heap.size W w'
  valid : ∀ v x W, Ok W → Nd W v x → Calls Tryd.prog 12 #[v] W fun e w' => e = .returned (.bool (okB x)) ∧ Below W.heap.size W w'
  enc : ∀ v x W, Ok W → Nd W v x → Calls Tryd.prog 16 #[v] W fun e w' => (∃ s, e = .returned (.tuple #[s, .int .i64 ((encE x : Nat) : Int)]) ∧ Sl w' s (encL x)) ∧ Below W.heap.size W w'
  dec : ∀ v l W, Ok W → Sl W v l → Calls Tryd.prog 18 #[v] W (ED W (decX l) (decN l) (decE l))
/-- The needle with at most 6000 bytes of data. -/
def cutN (x : Ndl) : Ndl := ⟨x.key, x.cookie, x.del, x.data.take 6000⟩
theorem cutN_same {x : Ndl} (h : x.data.length ≤ 6000) : cutN x = x := by
  unfold cutN
  rw [List.take_of_length_le h]
def sameB (x y : Ndl) : Bool := decide (x.key = y.key) && decide (x.cookie = y.cookie) && (x.del == y.del) && decide (x.data = y.data)
theorem b2 (w : World) (A B : Obj) : Below w.heap.size w ((w.alloc A).alloc B) := ((Below.refl _ _).alloc (Nat.le_refl _) _).alloc (by simp) _
theorem cut6_all (v : Value) (x : Ndl) (w : World) (h : Nd w v x) : Calls Tryd.prog 15 #[v] w fun e w' => (∃ v', e = .returned v' ∧ ∀ W, Nd W v x → Nd W v' (cutN x)) ∧ Below w.heap.size w w' := by
  obtain ⟨s, rfl, -, -, h3⟩ := h
  obtain ⟨a, c, hv, hc1, hc2⟩ := sl_form h3
  obtain ⟨n, hn⟩ : ∃ n, n = x.data.length := ⟨_, rfl⟩
  rw [← hn] at hv hc1
  subst hv
  by_cases h : 6000 < n
  · have g1 : decide ((6000 : Int) < (n : Int)) = true := decide_eq_true (by omega)
    have p1 : (6000 : Int) ≤ (c : Int) := by omega
    obtain ⟨b, o, c', hv, -, -, -⟩ := sl_cells h3 (by omega)
    obtain ⟨rfl, -, rfl⟩ : a = some ⟨b, o, none⟩ ∧ n = x.data.length ∧ c = c' := by simpa using hv
    have HF0 : (∀ W, Nd W (.agg #[.int .u64 (x.key : Int), .int .u32 (x.cookie : Int), .bool x.del, .slice (some ⟨b, o, none⟩) n c]) x → Nd W (.agg #[.int .u64 (x.key : Int), .int .u32 (x.cookie : Int), .bool x.del, .slice (some ⟨b, o, none⟩) 6000 c]) (cutN x)) := fun W hW => by
      obtain ⟨s', he, k1, k2, k3⟩ := hW
      obtain rfl : s' = .slice (some ⟨b, o, none⟩) n c := by
        have := he
        simp at this
        exact this.symm
      exact ⟨_, rfl, k1, k2, sl_take (n := 6000) (show Sl W (.slice (some ⟨b, o, none⟩) x.data.length c) x.data by rw [← hn]; exact k3) (by omega)⟩
    have HF := Lib.hid HF0
    clear h3 hn hv HF0
    generalize cutN x = X at *
    generalize x.key = key at *
    generalize x.cookie = ck at *
    generalize x.del = d at *
    go_enter Tryd.func15, Tryd.ntmps15
    go_wp2
    exact bodyPost_ret (results_cell_row Tryd.results15 _ _ (w.heap.size + 1) 26 _ (0, 0) _ rfl (heap_alloc2_new _ _ _) Tryd.underlying26 rfl infoN) rfl ⟨⟨_, rfl, HF.out⟩, b2 _ _ _⟩
  · have g1 : decide ((6000 : Int) < (n : Int)) = false := decide_eq_false (by omega)
    rw [cutN_same (by omega)]
    clear h3 hn
    generalize x.key = key at *
    generalize x.cookie = ck at *
    generalize x.del = d at *
    go_enter Tryd.func15, Tryd.ntmps15
    go_wp2
    exact bodyPost_ret (results_cell_row Tryd.results15 _ _ (w.heap.size + 1) 26 _ (0, 0) _ rfl (heap_alloc2_new _ _ _) Tryd.underlying26 rfl infoN) rfl ⟨⟨_, rfl, fun _ h => h⟩, b2 _ _ _⟩
theorem cut6_any (v : Value) (x : Ndl) (w : World) (h : Nd w v x) : Calls Tryd.prog 15 #[v] w fun e w' => (∃ v', e = .returned v' ∧ Nd w' v' (cutN x)) ∧ Below w.heap.size w w' :=
  (cut6_all v x w h).mono fun _ _ ⟨⟨v', h1, h2⟩, h3⟩ => ⟨⟨v', h1, h2 _ (nd_below h h3)⟩, h3⟩
/-- The reference's comparison of two needles. -/
theorem rsame_any (v u : Value) (x y : Ndl) (w : World) (h : Nd w v x) (k : Nd w u y) : Calls Tryd.prog 20 #[v, u] w fun e w' => e = .returned (.bool (sameB x y)) ∧ Below w.heap.size w w' := by
  obtain ⟨s, rfl, h1, h2, h3⟩ := h
  obtain ⟨t, rfl, k1, k2, k3⟩ := k
  obtain ⟨key, ck, d, D⟩ := x
  obtain ⟨key', ck', d', D'⟩ := y
  dsimp only at *
  have hb : ∀ A B, Below w.heap.size w ((w.alloc A).alloc B) := fun A B => ((Below.refl _ _).alloc (Nat.le_refl _) _).alloc (by simp) _
  have k1 := fun A B => conv_sl (sl_below h3 (hb A B))
  have k2 := fun A B => conv_sl (sl_below k3 (hb A B))
  have hse := str_eq h3.1 k3.1
  obtain ⟨a, cap, rfl, -, -⟩ := sl_form h3
  obtain ⟨a', cap', rfl, -, -⟩ := sl_form k3
  unfold sameB
  dsimp only
  rw [← hse]
  clear hse h3 k3 h1 h2
  generalize strOf D = t at k1
  generalize strOf D' = t' at k2
  generalize D.length = n at k1
  generalize D'.length = n' at k2
  by_cases e1 : key = key'
  · by_cases e2 : ck = ck'
    · subst e1
      subst e2
      rw [show decide (key = key) = true by simp, show decide (ck = ck) = true by simp]
      by_cases e3 : d = d'
      · subst e3
        rw [show (true && true && (d == d) && (t.toList == t'.toList)) = (t.toList == t'.toList) by simp]
        go_enter Tryd.func20, Tryd.ntmps20
        go_wp2
        go_ret
        exact ⟨rfl, hb _ _⟩
      · have e : (d == d') = false := beq_false_of_ne e3
        rw [e, Bool.and_false, Bool.false_and]
        go_enter Tryd.func20, Tryd.ntmps20
        go_wp2
        go_ret
        exact ⟨rfl, hb _ _⟩
    · have e : ((ck : Int) == (ck' : Int)) = false := beq_false_of_ne fun h => e2 (by omega)
      rw [show decide (ck = ck') = false from decide_eq_false e2, Bool.and_false, Bool.false_and, Bool.false_and]
      subst e1
      go_enter Tryd.func20, Tryd.ntmps20
      go_wp2
      go_ret
      exact ⟨rfl, hb _ _⟩
  · have e : ((key : Int) == (key' : Int)) = false := beq_false_of_ne fun h => e1 (by omega)
    rw [show decide (key = key') = false from decide_eq_false e1, Bool.false_and, Bool.false_and, Bool.false_and]
    go_enter Tryd.func20, Tryd.ntmps20
    go_wp2
    go_ret
    exact ⟨rfl, hb _ _⟩
end Go.Proofs.YtljdbaibhpgfnaaDoor.Gf
