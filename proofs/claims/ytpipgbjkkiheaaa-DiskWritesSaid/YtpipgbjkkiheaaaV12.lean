/- What is proved here: facts for the law DiskWrites: three disks in a row, a place within a file, strings of bytes. No program text but the type of disks. -/
import Derived.Test.YtpipgbjkkiheaaaW12
import Derived.Test.YtpipgbjkkiheaaaH10w
import Derived.Test.YtpipgbjkkiheaaaP10x
import Derived.Test.YtpipgbjkkiheaaaP10y
namespace Go.Proofs.Ytpipgbjkkiheaaa.Gf
open Go Go.Joins Go.ChangeShapes Go.WideShapes Go.ChangeAt Go.RowKit Go.Deep Go.Proofs.Ytpipgbjkkiheaaa.By Go.Proofs.Ytpipgbjkkiheaaa.Qt

/-- The other files of a disk after a write. -/
structure OthD (d : Dk) (s : ByteArray) (V : Dk) : Prop where
  sm : SmD V
  pn : PnD V 15
  other : ∀ g ∈ d.2.2, nmEq g.1 s = false → readE V g.1 0 ((contL g).length : Int) = 0 ∧ readL V g.1 0 ((contL g).length : Int) = contL g
theorem WrD.oth {d V : Dk} {s : ByteArray} {c : List Nat} (h : WrD d s c V) : OthD d s V := ⟨h.sm, h.pn, h.other⟩
/-- What the law reads of such a disk. -/
theorem WrD.rd {d V : Dk} {s : ByteArray} {c : List Nat} (h : WrD d s c V) {n : Nat} (hn : c.length = n) : readE V s 0 (n : Int) = 0 ∧ readL V s 0 (n : Int) = c ∧ sizeD V s = (n : Int) ∧ atE V s = 0 := by
  subst hn
  exact ⟨h.rdE, h.rdL, h.size, h.at0⟩
/-- Three disks in a row. -/
def Arr3 (Q : Dk → Prop) (W : World) (b : Nat) : Prop := ∀ j, j < 3 → ∃ V, DAt W b (j * 3) V ∧ Q V
theorem arr3_below {Q : Dk → Prop} {W W' : World} {b : Nat} (h : Arr3 Q W b) (hB : Below W.heap.size W W') : Arr3 Q W' b := fun j hj => by
  obtain ⟨d, ⟨a, c, h0, h1, h2, h3⟩, h4⟩ := h j hj
  exact ⟨d, ⟨a, c, (hB.cell (block_lt_of_cell h0)).trans h0, (hB.cell (block_lt_of_cell h1)).trans h1, (hB.cell (block_lt_of_cell h2)).trans h2, dv_below h3 hB⟩, h4⟩
theorem arr3_mk {Q : Dk → Prop} {W : World} {b : Nat} {T : TypeId} {d0 d1 d2 : Dk} {a0 a1 a2 : Option Addr} {n0 n1 n2 c0 c1 c2 : Nat}
    (h : W.heap[b]? = some (.cells #[.int .i64 d0.1, .int .i64 d0.2.1, .slice a0 n0 c0, .int .i64 d1.1, .int .i64 d1.2.1, .slice a1 n1 c1, .int .i64 d2.1, .int .i64 d2.2.1, .slice a2 n2 c2] T (0, 0)))
    (e0 : n0 = d0.2.2.length) (e1 : n1 = d1.2.2.length) (e2 : n2 = d2.2.2.length)
    (h0 : Dv W (.agg #[.int .i64 d0.1, .int .i64 d0.2.1, .slice a0 n0 c0]) d0) (h1 : Dv W (.agg #[.int .i64 d1.1, .int .i64 d1.2.1, .slice a1 n1 c1]) d1) (h2 : Dv W (.agg #[.int .i64 d2.1, .int .i64 d2.2.1, .slice a2 n2 c2]) d2)
    (l0 : Q d0) (l1 : Q d1) (l2 : Q d2) : Arr3 Q W b := by
  subst e0 e1 e2
  intro j hj
  obtain rfl | rfl | rfl : j = 0 ∨ j = 1 ∨ j = 2 := by omega
  · exact ⟨d0, ⟨a0, c0, cell_of_row W b 0 _ _ _ h, cell_of_row W b 1 _ _ _ h, cell_of_row W b 2 _ _ _ h, h0⟩, l0⟩
  · exact ⟨d1, ⟨a1, c1, cell_of_row W b 3 _ _ _ h, cell_of_row W b 4 _ _ _ h, cell_of_row W b 5 _ _ _ h, h1⟩, l1⟩
  · exact ⟨d2, ⟨a2, c2, cell_of_row W b 6 _ _ _ h, cell_of_row W b 7 _ _ _ h, cell_of_row W b 8 _ _ _ h, h2⟩, l2⟩
/-- The law's place within a file. -/
theorem at_of {n : Nat} (of : Int) (hn : n ≤ 1048576) : ∃ (r : Int) (k : Nat), Int.tmod of ((n : Int) + 1) = r ∧ Int.tmod (r + (n : Int) + 1) ((n : Int) + 1) = (k : Int) ∧ k ≤ n ∧ -1048576 ≤ r ∧ r ≤ 1048576 := by
  obtain ⟨r, hr⟩ : ∃ r, Int.tmod of ((n : Int) + 1) = r := ⟨_, rfl⟩
  have hb : -((n : Int) + 1) < r ∧ r < (n : Int) + 1 := by
    rw [← hr]
    rcases Int.le_total 0 of with h | h
    · rw [Int.tmod_eq_emod_of_nonneg h]
      have h1 := Int.emod_nonneg of (show (n : Int) + 1 ≠ 0 by omega)
      have h2 := Int.emod_lt_of_pos of (show (0 : Int) < (n : Int) + 1 by omega)
      omega
    · have h2 : Int.tmod of ((n : Int) + 1) = -Int.tmod (-of) ((n : Int) + 1) := by rw [Int.neg_tmod]; omega
      rw [h2, Int.tmod_eq_emod_of_nonneg (by omega)]
      have h3 := Int.emod_nonneg (-of) (show (n : Int) + 1 ≠ 0 by omega)
      have h4 := Int.emod_lt_of_pos (-of) (show (0 : Int) < (n : Int) + 1 by omega)
      omega
  have h1 := Int.emod_nonneg (r + (n : Int) + 1) (show (n : Int) + 1 ≠ 0 by omega)
  have h2 := Int.emod_lt_of_pos (r + (n : Int) + 1) (show (0 : Int) < (n : Int) + 1 by omega)
  refine ⟨r, ((r + (n : Int) + 1) % ((n : Int) + 1)).toNat, hr, ?_, ?_, ?_, ?_⟩
  · rw [Int.tmod_eq_emod_of_nonneg (by omega), Int.toNat_of_nonneg h1]
  · omega
  · omega
  · omega
theorem strOf_app (l m : List Nat) : strOf l ++ strOf m = strOf (l ++ m) := by
  apply ByteArray.ext
  apply Array.ext'
  simp [By.strOf, strOfNums]
end Go.Proofs.Ytpipgbjkkiheaaa.Gf
