/- What is proved here: what the laws ask of the program's Size, Place, Split, Join and Pieces; the chapter's examples over that. No condition. -/
import Derived.Test.YtjpehjgcpnogiaaV5d
import Derived.BigRegion
namespace Go.Proofs.Ytjpehjgcpnogiaa.Gf
open Go Go.Joins Go.ChangeShapes Go.WideShapes Go.ChangeAt Go.RowKit Go.Deep Go.Proofs.Ytjpehjgcpnogiaa.By

/-- The slice value v reads as the pieces ps. -/
def Sp (w : World) (v : Value) (ps : List (Nat × Nat × Nat)) : Prop :=
  ps.length ≤ maxLen ∧ ((∃ a cap, v = .slice a 0 cap ∧ ps = []) ∨ ∃ b off cap, v = .slice (some ⟨b, off, none⟩) ps.length cap ∧ ∀ k, k < ps.length → w.cell? ⟨b, off + k * 3, none⟩ = some (.int .i64 (((ps.getD k (0, 0, 0)).1 : Nat) : Int)) ∧ w.cell? ⟨b, off + k * 3 + 1, none⟩ = some (.int .i64 (((ps.getD k (0, 0, 0)).2.1 : Nat) : Int)) ∧ w.cell? ⟨b, off + k * 3 + 2, none⟩ = some (.int .i64 (((ps.getD k (0, 0, 0)).2.2 : Nat) : Int)))
theorem sp_below {w w' : World} {v : Value} {ps : List (Nat × Nat × Nat)} (h : Sp w v ps) (hB : Below w.heap.size w w') : Sp w' v ps := by
  obtain ⟨h0, h1 | ⟨b, off, cap, hv, hk⟩⟩ := h
  · exact ⟨h0, Or.inl h1⟩
  · refine ⟨h0, Or.inr ⟨b, off, cap, hv, fun k hkl => ?_⟩⟩
    obtain ⟨a1, a2, a3⟩ := hk k hkl
    exact ⟨(hB.cell (block_lt_of_cell a1)).trans a1, (hB.cell (block_lt_of_cell a2)).trans a2, (hB.cell (block_lt_of_cell a3)).trans a3⟩
theorem cellsP_length (ps : List (Nat × Nat × Nat)) : (cellsP ps).length = ps.length * 3 := by
  induction ps with
  | nil => rfl
  | cons p ps ih => simp only [cellsP, List.flatMap_cons, List.length_append, List.length_cons, List.length_nil] at *; omega
theorem cellsP_at : ∀ (ps : List (Nat × Nat × Nat)) (k : Nat), k < ps.length → (cellsP ps)[k * 3]? = some (.int .i64 (((ps.getD k (0, 0, 0)).1 : Nat) : Int)) ∧ (cellsP ps)[k * 3 + 1]? = some (.int .i64 (((ps.getD k (0, 0, 0)).2.1 : Nat) : Int)) ∧ (cellsP ps)[k * 3 + 2]? = some (.int .i64 (((ps.getD k (0, 0, 0)).2.2 : Nat) : Int))
  | [], k, h => by simp at h
  | p :: ps, 0, _ => ⟨rfl, rfl, rfl⟩
  | p :: ps, k + 1, h => by
    have ih := cellsP_at ps k (by simpa using h)
    have e : cellsP (p :: ps) = [.int .i64 (p.1 : Int), .int .i64 (p.2.1 : Int), .int .i64 (p.2.2 : Int)] ++ cellsP ps := by simp [cellsP]
    have g : ∀ j, (cellsP (p :: ps))[j + 3]? = (cellsP ps)[j]? := fun j => by
      rw [e, List.getElem?_append_right (by simp)]
      congr 1
    rw [show (k + 1) * 3 = k * 3 + 3 by omega, show k * 3 + 3 + 1 = (k * 3 + 1) + 3 by omega, show k * 3 + 3 + 2 = (k * 3 + 2) + 3 by omega, g, g, g]
    simpa [List.getD] using ih
theorem owns_sp {w : World} {base : Nat} {T : TypeId} {v : Value} {ps : List (Nat × Nat × Nat)} (h : w.ownsRow base T 3 v ps.length (cellsP ps)) : Sp w v ps := by
  obtain ⟨_, ⟨rfl, h0⟩ | ⟨g, cap, cur, rfl, hg, hb, hc, hm, hsz, ht⟩⟩ := h
  · exact ⟨by omega, Or.inl ⟨none, 0, rfl, List.eq_nil_of_length_eq_zero h0⟩⟩
  · refine ⟨by omega, Or.inr ⟨g, 0, cap, rfl, fun k hk => ?_⟩⟩
    have key : ∀ j u, j < ps.length * 3 → (cellsP ps)[j]? = some u → w.cell? ⟨g, j, none⟩ = some u := fun j u hj hu => by
      rw [cell_of_row w g j cur T (0, 0) hb]
      have e := congrArg (·[j]?) ht
      simp only [List.getElem?_take, hj, if_true] at e
      rw [hu] at e
      simpa using e
    obtain ⟨a1, a2, a3⟩ := cellsP_at ps k hk
    rw [Nat.zero_add]
    exact ⟨key _ _ (by omega) a1, key _ _ (by omega) a2, key _ _ (by omega) a3⟩
/-- What the laws ask of the program. -/
structure PC5 : Prop where
  size : ∀ n W, I64b n → Calls Try.prog 12 #[.int .i64 n] W fun e w' => e = .returned (.int .i64 (szI n)) ∧ W = w'
  place : ∀ n W, I64b n → Calls Try.prog 10 #[.int .i64 n] W fun e w' => e = .returned (.tuple #[.int .i64 (plS n), .int .i64 (plA n), .int .i64 (plE n)]) ∧ Below W.heap.size W w'
  split : ∀ v l W, Sl W v l → l.length ≤ 100000 → Calls Try.prog 17 #[v] W fun e w' => (∃ v, e = .returned v ∧ Sr w' v (splitL l)) ∧ Below W.heap.size W w'
  join : ∀ v L n W, Sr W v L → I64b n → Small5 L → Calls Try.prog 19 #[v, .int .i64 n] W fun e w' => (∃ v, e = .returned (.tuple #[v, .int .i64 (joinE L n)]) ∧ Sl w' v (joinR L n)) ∧ Below W.heap.size W w'
  pieces : ∀ off n W, I64b off → I64b n → Calls Try.prog 21 #[.int .i64 off, .int .i64 n] W fun e w' => (∃ v, e = .returned (.tuple #[v, .int .i64 (pcE off n)]) ∧ Sp w' v (pcL off n)) ∧ Below W.heap.size W w'
theorem PC5.sizeB (P : PC5) (n : Int) (W : World) (h : I64b n) : Calls Try.prog 12 #[.int .i64 n] W fun e w' => e = .returned (.int .i64 (szI n)) ∧ Below W.heap.size W w' :=
  (P.size n W h).mono fun _ _ h => ⟨h.1, h.2 ▸ Below.refl _ _⟩
/-- The first 3000 bytes. -/
theorem cut_any (v : Value) (l : List Nat) (w : World) (s : Sl w v l) : Calls Try.prog 15 #[v] w fun e w' => (∃ v', e = .returned v' ∧ Sl w v' (l.take 3000)) ∧ w = w' := by
  obtain ⟨a, c, hv, hc, -⟩ := sl_form s
  obtain ⟨n, hn⟩ : ∃ n, n = l.length := ⟨_, rfl⟩
  rw [← hn] at hv hc
  subst hv
  by_cases h : 3000 < n
  · have hgt : decide ((3000 : Int) < (n : Int)) = true := decide_eq_true (by omega)
    obtain ⟨b, o, c', hv, -, -, -⟩ := sl_cells s (by omega)
    obtain ⟨rfl, -, rfl⟩ : a = some ⟨b, o, none⟩ ∧ n = l.length ∧ c = c' := by simpa using hv
    have ht := Lib.hid (sl_take (n := 3000) (show Sl w (.slice (some ⟨b, o, none⟩) l.length c) l by rw [← hn]; exact s) (by omega))
    have p1 : (3000 : Int) ≤ (c : Int) := by omega
    clear s hn hv
    go_enter Try.func15, Try.ntmps15
    go_wp2
    go_ret
    exact ⟨⟨_, rfl, ht.out⟩, rfl⟩
  · have hgt : decide ((3000 : Int) < (n : Int)) = false := decide_eq_false (by omega)
    rw [List.take_of_length_le (by omega)]
    have S := Lib.hid s
    clear s hn
    go_enter Try.func15, Try.ntmps15
    go_wp2
    go_ret
    exact ⟨⟨_, rfl, S.out⟩, rfl⟩
theorem pc_ex : pcL 60 8 = [(0, 60, 4), (1, 0, 4)] ∧ pcE 60 8 = 0 := by
  unfold pcL pcE
  rw [if_pos (by decide), if_pos (by decide)]
  refine ⟨?_, rfl⟩
  show piecesL 60 8 = _
  rw [pieces_step (by decide), pieces_step (by decide)]
  show (0, 60, 4) :: (1, 0, 4) :: piecesL 68 0 = _
  rw [pieces_zero]
set_option maxRecDepth 100000 in
set_option maxHeartbeats 6400000 in
theorem awake5_any (P : PC5) (w : World) : Calls Try.prog 14 #[] w fun e w' => e = .returned (.bool true) ∧ Below w.heap.size w w' := by
  have PS := Lib.hid P.sizeB
  have PP := Lib.hid P.place
  have PQ := Lib.hid P.pieces
  clear P
  go_enter Try.func14, Try.ntmps14
  go_wp2_with fail
  refine (PP.out 256 w (by unfold I64b; decide)).mono ?_
  rw [show plS 256 = 0 from rfl, show plA 256 = 64 from rfl, show plE 256 = 0 from rfl]
  rintro e w1 ⟨rfl, hb1⟩
  have B1 := Lib.hid hb1
  clear hb1
  go_wp2_with fail
  refine (PQ.out 60 8 w1 (by unfold I64b; decide) (by unfold I64b; decide)).mono ?_
  rw [pc_ex.1, pc_ex.2]
  rintro e w2 ⟨⟨v, rfl, hs⟩, hb2⟩
  obtain ⟨-, ⟨_, _, _, h0⟩ | ⟨b, o, c, rfl, hk⟩⟩ := hs
  · cases h0
  have B2 := Lib.hid (bt B1.out hb2)
  have k0 := hk 0 (by decide)
  have k1 := hk 1 (by decide)
  have KK := Lib.hid (And.intro k0 k1)
  clear hb2 B1 k0 k1 hk
  go_wp2_with fail
  refine (PS.out 0 w2 (by unfold I64b; decide)).mono ?_
  rw [show szI 0 = 0 from rfl]
  rintro e w3 ⟨rfl, hb3⟩
  have B3 := Lib.hid hb3
  clear hb3
  go_wp2_with fail
  refine (PS.out 1 w3 (by unfold I64b; decide)).mono ?_
  rw [show szI 1 = 64 from rfl]
  rintro e w4 ⟨rfl, hb4⟩
  have B4 := Lib.hid (bt B3.out hb4)
  clear hb4
  go_wp2_with fail
  refine (PS.out 256 w4 (by unfold I64b; decide)).mono ?_
  rw [show szI 256 = 64 from rfl]
  rintro e w5 ⟨rfl, hb5⟩
  have B5 := Lib.hid (bt B4.out hb5)
  clear hb5
  go_wp2_with fail
  refine (PS.out 257 w5 (by unfold I64b; decide)).mono ?_
  rw [show szI 257 = 128 from rfl]
  rintro e w6 ⟨rfl, hb6⟩
  have hb6 := bt B5.out hb6
  obtain ⟨⟨a1, a2, a3⟩, c1, c2, c3⟩ := KK.out
  have a1 := (hb6.cell (block_lt_of_cell a1)).trans a1
  have a2 := (hb6.cell (block_lt_of_cell a2)).trans a2
  have a3 := (hb6.cell (block_lt_of_cell a3)).trans a3
  have c1 := (hb6.cell (block_lt_of_cell c1)).trans c1
  have c2 := (hb6.cell (block_lt_of_cell c2)).trans c2
  have c3 := (hb6.cell (block_lt_of_cell c3)).trans c3
  have B6 := Lib.hid (bt B2.out hb6)
  simp only [List.getD_cons_zero, List.getD_cons_succ, Nat.zero_mul, Nat.one_mul, Nat.add_zero] at a1 a2 a3 c1 c2 c3
  clear hb6
  go_wp2_with fail
  go_ret
  exact ⟨rfl, B6.out⟩
end Go.Proofs.Ytjpehjgcpnogiaa.Gf
