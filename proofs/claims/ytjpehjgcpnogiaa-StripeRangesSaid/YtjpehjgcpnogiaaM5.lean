/- What is proved here: the plain mathematics of the stripe: places, shards, joining, pieces. No program text. -/
import Derived.Test.YtjpehjgcpnogiaaGf
import Derived.Tactics
namespace Go.Proofs.Ytjpehjgcpnogiaa.Gf

def szN (n : Nat) : Nat := (n + 255) / 256 * 64
def shOf (i : Nat) : Nat := i / 64 % 4
def atOf (i : Nat) : Nat := i / 256 * 64 + i % 64
def posOf (s a : Nat) : Nat := (a / 64 * 4 + s) * 64 + a % 64
theorem sh_lt (i : Nat) : shOf i < 4 := by unfold shOf; omega
theorem at_lt {i n : Nat} (h : i < n) : atOf i < szN n := by unfold atOf szN; omega
theorem pos_of (i : Nat) : posOf (shOf i) (atOf i) = i := by unfold posOf shOf atOf; omega
theorem sh_pos {s : Nat} (a : Nat) (hs : s < 4) : shOf (posOf s a) = s := by unfold posOf shOf; omega
theorem at_pos {s : Nat} (a : Nat) (hs : s < 4) : atOf (posOf s a) = a := by unfold posOf atOf; omega
theorem place_inj {i j : Nat} (h1 : shOf i = shOf j) (h2 : atOf i = atOf j) : i = j := by rw [← pos_of i, ← pos_of j, h1, h2]
def rowL (b : List Nat) (m s : Nat) : List Nat := (List.range m).map fun a => b.getD (posOf s a) 0
def splitL (b : List Nat) : List (List Nat) := (List.range 4).map fun s => rowL b (szN b.length) s
def joinL (L : List (List Nat)) (n : Nat) : List Nat := (List.range n).map fun i => (L.getD (shOf i) []).getD (atOf i) 0
theorem splitL_length (b : List Nat) : (splitL b).length = 4 := by simp [splitL]
theorem rowL_length (b : List Nat) (m s : Nat) : (rowL b m s).length = m := by simp [rowL]
theorem splitL_getD (b : List Nat) {s : Nat} (hs : s < 4) : (splitL b).getD s [] = rowL b (szN b.length) s := by simp [splitL, List.getD, hs]
theorem rowL_getD (b : List Nat) {m s a : Nat} (ha : a < m) : (rowL b m s).getD a 0 = b.getD (posOf s a) 0 := by simp [rowL, List.getD, ha]
theorem joinL_length (L : List (List Nat)) (n : Nat) : (joinL L n).length = n := by simp [joinL]
theorem joinL_succ (L : List (List Nat)) (n : Nat) : joinL L (n + 1) = joinL L n ++ [(L.getD (shOf n) []).getD (atOf n) 0] := by simp [joinL, List.range_succ]
theorem split_at (b : List Nat) {i : Nat} (h : i < b.length) : ((splitL b).getD (shOf i) []).getD (atOf i) 0 = b.getD i 0 := by
  rw [splitL_getD b (sh_lt i), rowL_getD b (at_lt h), pos_of]
theorem join_split (b : List Nat) (more : List (List Nat)) : joinL (splitL b ++ more) b.length = b := by
  apply List.ext_getElem (by simp [joinL])
  intro i h1 h2
  have hm : (splitL b ++ more).getD (shOf i) [] = (splitL b).getD (shOf i) [] := by
    have := sh_lt i
    simp [List.getD, List.getElem?_append, splitL_length, this]
  have e := split_at b h2
  simp only [joinL, List.getElem_map, List.getElem_range, hm, e]
  simp [List.getD, h2]
/-- The pieces of n bytes from off on: shard, place, length. -/
def piecesL (off n : Nat) : List (Nat × Nat × Nat) :=
  if _h : n = 0 then [] else (shOf off, atOf off, min (64 - off % 64) n) :: piecesL (off + min (64 - off % 64) n) (n - min (64 - off % 64) n)
termination_by n
decreasing_by omega
theorem pieces_zero (off : Nat) : piecesL off 0 = [] := by rw [piecesL]; simp
theorem pieces_step {off n : Nat} (h : n ≠ 0) : piecesL off n = (shOf off, atOf off, min (64 - off % 64) n) :: piecesL (off + min (64 - off % 64) n) (n - min (64 - off % 64) n) := by
  rw [piecesL]; simp [h]
theorem pieces_count (off n : Nat) : (piecesL off n).length ≤ (off % 64 + n + 63) / 64 := by
  induction n using Nat.strongRecOn generalizing off with
  | ind n ih =>
    by_cases h : n = 0
    · subst h; rw [pieces_zero]; simp
    · rw [pieces_step h, List.length_cons]
      by_cases e : 64 - off % 64 ≤ n
      · rw [Nat.min_eq_left e]
        have := ih (n - (64 - off % 64)) (by omega) (off + (64 - off % 64))
        omega
      · rw [Nat.min_eq_right (by omega), Nat.sub_self, pieces_zero]
        simp
        omega
/-- The bytes of a piece. -/
def cutP (L : List (List Nat)) (p : Nat × Nat × Nat) : List Nat := ((L.getD p.1 []).drop p.2.1).take p.2.2
theorem cut_piece (b : List Nat) {off k : Nat} (hk : off % 64 + k ≤ 64) (h : off + k ≤ b.length) : cutP (splitL b) (shOf off, atOf off, k) = (b.drop off).take k := by
  have hl : ((splitL b).getD (shOf off) []).length = szN b.length := by rw [splitL_getD b (sh_lt off), rowL_length]
  have hsz : k = 0 ∨ atOf off + k ≤ szN b.length := by unfold atOf szN; omega
  apply List.ext_getElem
  · simp only [cutP, List.length_take, List.length_drop, hl]
    omega
  · intro i h1 h2
    simp only [cutP, List.length_take, List.length_drop, hl] at h1
    have e1 : shOf (off + i) = shOf off := by unfold shOf; omega
    have e2 : atOf (off + i) = atOf off + i := by unfold atOf; omega
    have e := split_at b (i := off + i) (by omega)
    rw [e1, e2] at e
    have g1 : atOf off + i < ((splitL b).getD (shOf off) []).length := by rw [hl]; omega
    have g2 : off + i < b.length := by omega
    simp only [cutP, List.getElem_take, List.getElem_drop]
    rw [List.getD_eq_getElem?_getD, List.getElem?_eq_getElem g1, List.getD_eq_getElem?_getD (l := b), List.getElem?_eq_getElem g2] at e
    exact e
theorem pieces_bytes (b : List Nat) : ∀ n off, off + n ≤ b.length → (piecesL off n).flatMap (cutP (splitL b)) = (b.drop off).take n := by
  intro n
  induction n using Nat.strongRecOn with
  | ind n ih =>
    intro off h
    by_cases h0 : n = 0
    · subst h0; rw [pieces_zero]; simp
    · rw [pieces_step h0, List.flatMap_cons]
      rw [ih (n - min (64 - off % 64) n) (by omega) (off + min (64 - off % 64) n) (by omega), cut_piece b (by omega) (by omega)]
      generalize hk : min (64 - off % 64) n = k
      rw [← List.drop_drop, ← List.take_add, show k + (n - k) = n by omega]
end Go.Proofs.Ytjpehjgcpnogiaa.Gf
