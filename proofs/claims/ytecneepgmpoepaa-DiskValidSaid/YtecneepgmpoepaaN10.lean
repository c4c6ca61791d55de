/- What is proved here: facts for the law DiskOps: a disk does not lie in the operation's box; three disks in a row; how large an operation's answer is. No program text but the type of an operation. -/
import Derived.Test.YtecneepgmpoepaaH10f
import Derived.Test.YtecneepgmpoepaaR10u
-- halved
namespace Go.Proofs.Ytecneepgmpoepaa.Gf
open Go Go.Joins Go.ChangeShapes Go.WideShapes Go.ChangeAt Go.RowKit Go.Deep Go.Proofs.Ytecneepgmpoepaa.By Go.Proofs.Ytecneepgmpoepaa.Qt

/-- A box that holds an operation. -/
def IsOb (w : World) (g : Nat) : Prop := ∀ o z, w.cell? ⟨g, o, none⟩ = some z → ((o = 0 ∨ o = 3) ∧ ∃ x, z = .int .i64 x) ∨ ((o = 1 ∨ o = 2) ∧ ∃ s, z = .string s) ∨ ((o = 4 ∨ o = 5) ∧ ∃ a n c, z = .slice a n c)
theorem isOb_of {w : World} {g : Nat} {x y : Int} {s t : ByteArray} {a b : Option Addr} {n c m e : Nat} {T : TypeId} {fz : Nat × Nat} (h : w.heap[g]? = some (.cells #[.int .i64 x, .string s, .string t, .int .i64 y, .slice a n c, .slice b m e] T fz)) : IsOb w g := fun o z hz => by
 have hk : o < 6 := by
  rcases Nat.lt_or_ge o 6 with h1 | h1
  ·exact h1
  ·unfold World.cell? at hz
   simp only [h] at hz
   simp [h1] at hz
 obtain ⟨h0, h1, h2, h3, h4, h5⟩ := box6c h
 match o, hk with
 | 0, _ => exact Or.inl ⟨Or.inl rfl, x, by rw [h0] at hz; exact (Option.some.inj hz).symm⟩
 | 1, _ => exact Or.inr (Or.inl ⟨Or.inl rfl, s, by rw [h1] at hz; exact (Option.some.inj hz).symm⟩)
 | 2, _ => exact Or.inr (Or.inl ⟨Or.inr rfl, t, by rw [h2] at hz; exact (Option.some.inj hz).symm⟩)
 | 3, _ => exact Or.inl ⟨Or.inr rfl, y, by rw [h3] at hz; exact (Option.some.inj hz).symm⟩
 | 4, _ => exact Or.inr (Or.inr ⟨Or.inl rfl, a, n, c, by rw [h4] at hz; exact (Option.some.inj hz).symm⟩)
 | 5, _ => exact Or.inr (Or.inr ⟨Or.inr rfl, b, m, e, by rw [h5] at hz; exact (Option.some.inj hz).symm⟩)
theorem rd_noob8 {w : World} {g : Nat} (hb : IsOb w g) {v : Value} {l : List Nat} (h : Rd (fun _ => True) w (.sl .u8) [v] l) : Rd (fun b => b ≠ g) w (.sl .u8) [v] l :=
 rd_sl_ex h (fun _ _ h => h) fun off cs x ⟨_, hc⟩ hk => by
  subst hc
  have := hb _ _ (hk 0 _ rfl)
  simp at this
theorem rd_noobW {w : World} {g : Nat} (hb : IsOb w g) {v : Value} {l : List Wr} (h : Rd (fun _ => True) w (.sl tyW) [v] l) : Rd (fun b => b ≠ g) w (.sl tyW) [v] l :=
 rd_sl_ex h (fun cs x h => by
  obtain ⟨dv, rfl, h1, h2⟩ := rd_w h
  exact ⟨[.int .i64 x.1], [dv, .bool x.2.2], rfl, ⟨h1, rfl⟩, [dv], [.bool x.2.2], rfl, rd_noob8 hb h2, rfl⟩) fun off cs x h hk => by
  obtain ⟨dv, rfl, h1, h2⟩ := rd_w h
  have h3 := hb _ _ (hk 2 _ rfl)
  simp at h3
theorem rd_noob {w : World} {g : Nat} (hb : IsOb w g) {v : Value} {l : List Fl} (h : Rd (fun _ => True) w (.sl tyF) [v] l) : Rd (fun b => b ≠ g) w (.sl tyF) [v] l :=
 rd_sl_ex h (fun cs x h => by
  obtain ⟨bv, pv, rfl, h1, h2, h3⟩ := rd_f h
  exact rd_f_mk h1 (rd_noob8 hb h2) (rd_noobW hb h3)) fun off cs x h hk => by
  obtain ⟨bv, pv, rfl, h1, h2, h3⟩ := rd_f h
  obtain ⟨a, c, rfl, -, -⟩ := rd_sl h2
  obtain ⟨a', c', rfl, -, -⟩ := rd_sl h3
  have k0 := hb _ _ (hk 0 _ rfl)
  have k1 := hb _ _ (hk 1 _ rfl)
  have k2 := hb _ _ (hk 2 _ rfl)
  simp at k0 k1 k2
  omega
/-- A store of another kind into the operation's box. -/
theorem dv_opset {w : World} {g : Nat} {x y k : Int} {s t : ByteArray} {a b : Option Addr} {n c m e : Nat} {T : TypeId} {fz : Nat × Nat} (h : w.heap[g]? = some (.cells #[.int .i64 x, .string s, .string t, .int .i64 y, .slice a n c, .slice b m e] T fz)) {v : Value} {d : Dk} (hd : Dv w v d) : Dv (w.setCell ⟨g, 0, none⟩ (.int .i64 k)) v d := by
 obtain ⟨fv, h1, h2, h3⟩ := hd
 exact ⟨fv, h1, h2, rd_move (fun _ hb _ => other1 hb) (fun _ _ _ => trivial) (rd_noob (isOb_of h) h3)⟩
theorem set6_other {W : World} {g b : Nat} {k l m n o p : Value} (hb : b ≠ g) : ((((((W.setCell ⟨g, 0, none⟩ k).setCell ⟨g, 1, none⟩ l).setCell ⟨g, 2, none⟩ m).setCell ⟨g, 3, none⟩ n).setCell ⟨g, 4, none⟩ o).setCell ⟨g, 5, none⟩ p).heap[b]? = W.heap[b]? :=
 (heap_setCell_other _ _ _ _ hb).trans ((heap_setCell_other _ _ _ _ hb).trans ((heap_setCell_other _ _ _ _ hb).trans ((heap_setCell_other _ _ _ _ hb).trans ((heap_setCell_other _ _ _ _ hb).trans (heap_setCell_other _ _ _ _ hb)))))
/-- A disk that lies at a place. -/
def DAt (W : World) (b o : Nat) (d : Dk) : Prop := ∃ a c, W.cell? ⟨b, o, none⟩ = some (.int .i64 d.1) ∧ W.cell? ⟨b, o + 1, none⟩ = some (.int .i64 d.2.1) ∧ W.cell? ⟨b, o + 2, none⟩ = some (.slice a d.2.2.length c) ∧ Dv W (.agg #[.int .i64 d.1, .int .i64 d.2.1, .slice a d.2.2.length c]) d
/-- A small disk. -/
structure Ltd (d : Dk) : Prop where
 sm : SmD d
 pn : PnD d 14
 len : d.2.2.length ≤ 256
theorem lt_ltd {d : Dk} (h : LtP d) : Ltd d := ⟨lt_sm h, fun f hf => Nat.le_trans (lt_pn h f hf) (by decide), Nat.le_trans h.1 (by decide)⟩
theorem made_ltd {c l : Int} {d : Dk} (h : MadeP c l d 14) : Ltd d := ⟨valid_sm h.val, h.pn, (valid_parts h.val).2.2.1⟩
/-- Three small disks in a row. -/
def Arr (W : World) (b o : Nat) : Prop := ∀ j, j < 3 → ∃ d, DAt W b (o + j * 3) d ∧ Ltd d
theorem arr_below {W W' : World} {b o : Nat} (h : Arr W b o) (hB : Below W.heap.size W W') : Arr W' b o := fun j hj => by
 obtain ⟨d, ⟨a, c, h0, h1, h2, h3⟩, h4⟩ := h j hj
 exact ⟨d, ⟨a, c, (hB.cell (block_lt_of_cell h0)).trans h0, (hB.cell (block_lt_of_cell h1)).trans h1, (hB.cell (block_lt_of_cell h2)).trans h2, dv_below h3 hB⟩, h4⟩
theorem cell_otherR {W : World} {g b o : Nat} {v : Value} (hb : b ≠ g) : (W.setCell ⟨g, 0, none⟩ v).cell? ⟨b, o, none⟩ = W.cell? ⟨b, o, none⟩ := by
 unfold World.cell?
 rw [other1 hb]
theorem arr_opset {W : World} {b o g : Nat} {x y k : Int} {s t : ByteArray} {a a' : Option Addr} {n c m e : Nat} {T : TypeId} {fz : Nat × Nat} (h : Arr W b o) (hg : W.heap[g]? = some (.cells #[.int .i64 x, .string s, .string t, .int .i64 y, .slice a n c, .slice a' m e] T fz)) (hb : b ≠ g) : Arr (W.setCell ⟨g, 0, none⟩ (.int .i64 k)) b o := fun j hj => by
 obtain ⟨d, ⟨a, c, h0, h1, h2, h3⟩, h4⟩ := h j hj
 exact ⟨d, ⟨a, c, (cell_otherR hb).trans h0, (cell_otherR hb).trans h1, (cell_otherR hb).trans h2, dv_opset hg h3⟩, h4⟩
theorem arr_mk {W : World} {b : Nat} {T : TypeId} {d0 d1 d2 : Dk} {a0 a1 a2 : Option Addr} {n0 n1 n2 c0 c1 c2 : Nat} (h : W.heap[b]? = some (.cells #[.int .i64 d0.1, .int .i64 d0.2.1, .slice a0 n0 c0, .int .i64 d1.1, .int .i64 d1.2.1, .slice a1 n1 c1, .int .i64 d2.1, .int .i64 d2.2.1, .slice a2 n2 c2] T (0, 0)))
  (e0 : n0 = d0.2.2.length) (e1 : n1 = d1.2.2.length) (e2 : n2 = d2.2.2.length)
  (h0 : Dv W (.agg #[.int .i64 d0.1, .int .i64 d0.2.1, .slice a0 n0 c0]) d0) (h1 : Dv W (.agg #[.int .i64 d1.1, .int .i64 d1.2.1, .slice a1 n1 c1]) d1) (h2 : Dv W (.agg #[.int .i64 d2.1, .int .i64 d2.2.1, .slice a2 n2 c2]) d2)
  (l0 : Ltd d0) (l1 : Ltd d1) (l2 : Ltd d2) : Arr W b 0 := by
 subst e0 e1 e2
 intro j hj
 obtain rfl | rfl | rfl : j = 0 ∨ j = 1 ∨ j = 2 := by omega
 ·exact ⟨d0, ⟨a0, c0, cell_of_row W b 0 _ _ _ h, cell_of_row W b 1 _ _ _ h, cell_of_row W b 2 _ _ _ h, h0⟩, l0⟩
 ·exact ⟨d1, ⟨a1, c1, cell_of_row W b 3 _ _ _ h, cell_of_row W b 4 _ _ _ h, cell_of_row W b 5 _ _ _ h, h1⟩, l1⟩
 ·exact ⟨d2, ⟨a2, c2, cell_of_row W b 6 _ _ _ h, cell_of_row W b 7 _ _ _ h, cell_of_row W b 8 _ _ _ h, h2⟩, l2⟩
/-- An operation's answer is a small disk. -/
theorem op_bd {d : Dk} (h : Ltd d) (kk : Nat) (hk : kk ≤ 9) (nm tn : ByteArray) (off : Int) (b : List Nat) (ke : List Kep) : (opD d kk nm tn off b ke).2.2.length ≤ 1000 ∧ PnD (opD d kk nm tn off b ke) 100000 := by
 have hz : dk0.2.2.length ≤ 1000 ∧ PnD dk0 100000 := ⟨by decide, fun f hf => by cases hf⟩
 by_cases hv : validB d = true
 ·by_cases hE : opE d kk nm tn off b = 0
  ·have hm := op_made (c := d.1) (l := d.2.1) ⟨hv, rfl, fun e => e, h.pn⟩ kk hk nm tn off b ke hE
   exact ⟨Nat.le_trans (valid_parts hm.val).2.2.1 (by decide), fun f hf => Nat.le_trans (hm.pn f hf) (by decide)⟩
  ·obtain rfl | rfl | rfl | rfl | rfl | rfl | rfl | rfl | rfl | rfl : kk = 0 ∨ kk = 1 ∨ kk = 2 ∨ kk = 3 ∨ kk = 4 ∨ kk = 5 ∨ kk = 6 ∨ kk = 7 ∨ kk = 8 ∨ kk = 9 := by omega
   ·rw [show opD d 0 nm tn off b ke = dk0 from if_neg hE]; exact hz
   ·rw [show opD d 1 nm tn off b ke = dk0 from if_neg hE]; exact hz
   ·rw [show opD d 2 nm tn off b ke = dk0 from if_neg hE]; exact hz
   ·rw [show opD d 3 nm tn off b ke = dk0 from if_neg hE]; exact hz
   ·rw [show opD d 4 nm tn off b ke = dk0 from if_neg hE]; exact hz
   ·rw [show opD d 5 nm tn off b ke = dk0 from if_neg hE]; exact hz
   ·rw [show opD d 6 nm tn off b ke = dk0 from if_neg hE]; exact hz
   ·rw [show opD d 7 nm tn off b ke = dk0 from if_neg hE]; exact hz
   ·exact absurd rfl hE
   ·rw [show opD d 9 nm tn off b ke = dk0 from if_neg hE]; exact hz
 ·have hr : ∀ s, readyE d s ≠ 0 := fun s h => hv (ready_len h).2
  have ha : ∀ s, atE d s ≠ 0 := fun s h => by unfold atE at h; rw [if_neg (hr s)] at h; exact hr s h
  have hE : kk ≠ 8 → opE d kk nm tn off b ≠ 0 := fun h8 => by
   obtain rfl | rfl | rfl | rfl | rfl | rfl | rfl | rfl | rfl | rfl : kk = 0 ∨ kk = 1 ∨ kk = 2 ∨ kk = 3 ∨ kk = 4 ∨ kk = 5 ∨ kk = 6 ∨ kk = 7 ∨ kk = 8 ∨ kk = 9 := by omega
   ·show createE d nm ≠ 0
    unfold createE; rw [if_neg (hr nm)]; exact hr nm
   ·show appendE d nm b ≠ 0
    unfold appendE; rw [if_neg (ha nm)]; exact ha nm
   ·show appendE d nm b ≠ 0
    unfold appendE; rw [if_neg (ha nm)]; exact ha nm
   ·show putE d nm off b ≠ 0
    unfold putE; rw [if_neg (ha nm)]; exact ha nm
   ·show truncE d nm off ≠ 0
    unfold truncE; rw [if_neg (ha nm)]; exact ha nm
   ·exact ha nm
   ·show renameE d nm tn ≠ 0
    unfold renameE
    split
    ·exact ha nm
    ·decide
   ·exact ha nm
   ·exact absurd rfl h8
   ·show flipE d nm off ≠ 0
    unfold flipE; rw [if_neg (fun h => hv h.1)]; decide
  obtain rfl | rfl | rfl | rfl | rfl | rfl | rfl | rfl | rfl | rfl : kk = 0 ∨ kk = 1 ∨ kk = 2 ∨ kk = 3 ∨ kk = 4 ∨ kk = 5 ∨ kk = 6 ∨ kk = 7 ∨ kk = 8 ∨ kk = 9 := by omega
  ·rw [show opD d 0 nm tn off b ke = dk0 from if_neg (hE (by decide))]; exact hz
  ·rw [show opD d 1 nm tn off b ke = dk0 from if_neg (hE (by decide))]; exact hz
  ·rw [show opD d 2 nm tn off b ke = dk0 from if_neg (hE (by decide))]; exact hz
  ·rw [show opD d 3 nm tn off b ke = dk0 from if_neg (hE (by decide))]; exact hz
  ·rw [show opD d 4 nm tn off b ke = dk0 from if_neg (hE (by decide))]; exact hz
  ·rw [show opD d 5 nm tn off b ke = dk0 from if_neg (hE (by decide))]; exact hz
  ·rw [show opD d 6 nm tn off b ke = dk0 from if_neg (hE (by decide))]; exact hz
  ·rw [show opD d 7 nm tn off b ke = dk0 from if_neg (hE (by decide))]; exact hz
  ·rw [show opD d 8 nm tn off b ke = dk0 from if_neg hv]; exact hz
  ·rw [show opD d 9 nm tn off b ke = dk0 from if_neg (hE (by decide))]; exact hz
theorem kk_small {k : Nat} (h : k ≤ 9) : Int.tmod (Int.tmod (k : Int) 10 + 10) 10 = (k : Int) := by
 have h1 : Int.tmod (k : Int) 10 = (k : Int) % 10 := Int.tmod_eq_emod_of_nonneg (by omega)
 rw [h1, Int.tmod_eq_emod_of_nonneg (by omega)]
 omega
theorem op_data {w : World} {a : Option Addr} {c : Nat} {l : List Nat} (h : Rd (fun _ => True) w (.sl .u8) [.slice a l.length c] l) : ∀ W, Below w.heap.size w W → Sl W (.slice a (min l.length 200) c) (l.take 200) := fun W hW => by
 have h := rd8_sl (rd_take (rd_below h hW) (k := min l.length 200) (by omega))
 have e3 : l.take (min l.length 200) = l.take 200 := by
  rcases Nat.le_total l.length 200 with h | h
  ·rw [Nat.min_eq_left h, List.take_of_length_le (Nat.le_refl _), List.take_of_length_le h]
  ·rw [Nat.min_eq_right h]
 rw [e3] at h
 exact h
theorem op_keep {w : World} {a : Option Addr} {c : Nat} {l : List Kep} (h : Rd (fun _ => True) w (.sl tyK) [.slice a l.length c] l) : ∀ W, Below w.heap.size w W → Rd (fun _ => True) W (.sl tyK) [.slice a (min l.length 10) c] (l.take 10) := fun W hW => by
 have h := rd_take (rd_below h hW) (k := min l.length 10) (by omega)
 have e3 : l.take (min l.length 10) = l.take 10 := by
  rcases Nat.le_total l.length 10 with h | h
  ·rw [Nat.min_eq_left h, List.take_of_length_le (Nat.le_refl _), List.take_of_length_le h]
  ·rw [Nat.min_eq_right h]
 rw [e3] at h
 exact h
end Go.Proofs.Ytecneepgmpoepaa.Gf
