/- What is proved here: the steps of the program's elimination, on matrices next to the identity. No program text. -/
import Derived.Test.YtppfdaiehdbafaaIv
namespace Go.Proofs.Ytppfdaiehdbafaa.Gf

/-- Rows of m elements each. -/
def rowsOf (n m : Nat) (f : Nat → Nat → Nat) : List (List Nat) := (List.range n).map fun i => (List.range m).map (f i)
theorem rowsOf_length (n m : Nat) (f : Nat → Nat → Nat) : (rowsOf n m f).length = n := by simp [rowsOf]
theorem rowsOf_getD {n m i : Nat} (f : Nat → Nat → Nat) (hi : i < n) : (rowsOf n m f).getD i [] = (List.range m).map (f i) := by simp [rowsOf, List.getD, hi]
theorem range_getD {m j : Nat} (f : Nat → Nat) (hj : j < m) : ((List.range m).map f).getD j 0 = f j := by simp [List.getD, hj]
theorem rowsOf_ext {n m : Nat} {f g : Nat → Nat → Nat} (h : ∀ i, i < n → ∀ j, j < m → f i j = g i j) : rowsOf n m f = rowsOf n m g := by
  unfold rowsOf
  refine List.map_congr_left fun i hi => ?_
  refine List.map_congr_left fun j hj => ?_
  exact h i (by simpa using hi) j (by simpa using hj)
/-- Two square matrices side by side. -/
def aug (n : Nat) (A B : Nat → Nat → Nat) (i j : Nat) : Nat := if j < n then A i j else B i (j - n)
theorem aug_lt {n : Nat} {A B : Nat → Nat → Nat} (hA : Bd n n A) (hB : Bd n n B) {i j : Nat} (hi : i < n) (hj : j < n + n) : aug n A B i j < 256 := by
  unfold aug
  split
  · exact hA i hi j (by assumption)
  · exact hB i hi (j - n) (by omega)
/-- Column k of A is cleared by row k, divided by its element there; the same is done to T. -/
def elimM (k : Nat) (A T : Nat → Nat → Nat) (i j : Nat) : Nat := if i = k then gm (iv (A k k)) (T k j) else T i j ^^^ gm (A i k) (gm (iv (A k k)) (T k j))
theorem elim_aug (n k : Nat) (A B : Nat → Nat → Nat) (i j : Nat) : (if i = k then gm (iv (A k k)) (aug n A B k j) else aug n A B i j ^^^ gm (A i k) (gm (iv (A k k)) (aug n A B k j))) = aug n (elimM k A A) (elimM k A B) i j := by
  unfold aug elimM
  by_cases h : j < n
  · simp only [if_pos h]
  · simp only [if_neg h]
/-- The same, row by row. -/
def elimTo (k : Nat) (A T : Nat → Nat → Nat) : Nat → Nat → Nat → Nat
  | 0 => rscale k (iv (A k k)) T
  | i + 1 => if i = k then elimTo k A T i else radd i k (A i k) (elimTo k A T i)
theorem elimTo_at (k : Nat) (A T : Nat → Nat → Nat) : ∀ (m r j : Nat), elimTo k A T m r j = if r = k then gm (iv (A k k)) (T k j) else if r < m then T r j ^^^ gm (A r k) (gm (iv (A k k)) (T k j)) else T r j
  | 0, r, j => by
    simp only [elimTo, rscale]
    by_cases h : r = k
    · rw [if_pos h, if_pos h]
    · rw [if_neg h, if_neg h, if_neg (by omega)]
  | m + 1, r, j => by
    simp only [elimTo]
    by_cases e : m = k
    · rw [if_pos e, elimTo_at k A T m r j]
      by_cases h : r = k
      · rw [if_pos h, if_pos h]
      · rw [if_neg h, if_neg h]
        by_cases h2 : r < m
        · rw [if_pos h2, if_pos (by omega)]
        · rw [if_neg h2, if_neg (by omega)]
    · rw [if_neg e]
      unfold radd
      by_cases h3 : r = m
      · subst h3
        rw [if_pos rfl, elimTo_at k A T r r j, elimTo_at k A T r k j, if_neg e, if_neg (Nat.lt_irrefl r), if_pos rfl, if_neg e, if_pos (Nat.lt_succ_self r)]
      · rw [if_neg h3, elimTo_at k A T m r j]
        by_cases h : r = k
        · rw [if_pos h, if_pos h]
        · rw [if_neg h, if_neg h]
          by_cases h2 : r < m
          · rw [if_pos h2, if_pos (by omega)]
          · rw [if_neg h2, if_neg (by omega)]
theorem elimTo_full {n k : Nat} {A T : Nat → Nat → Nat} : Eqm n n (elimTo k A T n) (elimM k A T) := fun i hi j _ => by
  rw [elimTo_at, elimM]
  by_cases h : i = k
  · rw [if_pos h, if_pos h]
  · rw [if_neg h, if_neg h, if_pos hi]
theorem rel_elim {n k : Nat} {M L R : Nat → Nat → Nat} (hM : Bd n n M) (h : Rel n M L R) (hk : k < n) (h0 : L k k ≠ 0) : Rel n M (elimM k L L) (elimM k L R) := by
  have hL := h.1
  have key : ∀ m, m ≤ n → Rel n M (elimTo k L L m) (elimTo k L R m) := by
    intro m
    induction m with
    | zero => intro _; exact rel_rscale hM h (iv_lt _) fun e => by have := gm_iv (hL k hk k hk) h0; rw [e, gm_zero_right] at this; exact absurd this (by decide)
    | succ m ih =>
      intro hm
      simp only [elimTo]
      by_cases e : m = k
      · rw [if_pos e, if_pos e]
        exact ih (by omega)
      · rw [if_neg e, if_neg e]
        exact rel_radd hM (ih (by omega)) (by omega) hk e (hL m (by omega) k hk)
  exact rel_congr (key n (Nat.le_refl n)) elimTo_full elimTo_full
theorem unit_elim {n k : Nat} {L : Nat → Nat → Nat} (hL : Bd n n L) (hu : Unit' n k L) (hk : k < n) (h0 : L k k ≠ 0) : Unit' n (k + 1) (elimM k L L) := fun j hj i hi => by
  have hb := hL k hk k hk
  unfold elimM
  by_cases e : j = k
  · subst e
    have h1 : gm (iv (L j j)) (L j j) = 1 := by rw [gm_comm (iv_lt _) hb, gm_iv hb h0]
    rw [h1]
    by_cases h : i = j
    · rw [if_pos h, idm, if_pos h]
    · rw [if_neg h, gm_one (hL i hi j hk), Nat.xor_self, idm, if_neg h]
  · have hkj := hu j (by omega) k hk
    have hij := hu j (by omega) i hi
    rw [idm, if_neg (by omega)] at hkj
    rw [hkj, gm_zero_right, gm_zero_right, Nat.xor_zero, hij]
    by_cases h : i = k
    · rw [if_pos h, idm, if_neg (by omega)]
    · rw [if_neg h]
theorem unit_swap {n k i : Nat} {L : Nat → Nat → Nat} (hu : Unit' n k L) (hk : k < n) (hi : i < n) (hki : k ≤ i) : Unit' n k (rswap k i L) := fun j hj r hr => by
  unfold rswap
  by_cases h : r = k
  · rw [if_pos h, hu j hj i hi, h, idm, idm, if_neg (by omega), if_neg (by omega)]
  · rw [if_neg h]
    by_cases h2 : r = i
    · rw [if_pos h2, hu j hj k hk, h2, idm, idm, if_neg (by omega), if_neg (by omega)]
    · rw [if_neg h2]
      exact hu j hj r hr
theorem aug_swap (n k i : Nat) (A B : Nat → Nat → Nat) (r j : Nat) : aug n A B (if r = k then i else if r = i then k else r) j = aug n (rswap k i A) (rswap k i B) r j := by
  unfold aug rswap
  rfl
end Go.Proofs.Ytppfdaiehdbafaa.Gf
