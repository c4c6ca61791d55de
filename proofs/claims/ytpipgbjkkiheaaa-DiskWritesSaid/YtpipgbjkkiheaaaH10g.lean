/- What is proved here: facts for the laws' made (disk): an operation's number, an operation in memory. -/
import Derived.Test.YtpipgbjkkiheaaaMM10
import Derived.Test.YtpipgbjkkiheaaaO10
-- halved
namespace Go.Proofs.Ytpipgbjkkiheaaa.Gf
open Go Go.Joins Go.ChangeShapes Go.WideShapes Go.ChangeAt Go.RowKit Go.Deep Go.Proofs.Ytpipgbjkkiheaaa.By Go.Proofs.Ytpipgbjkkiheaaa.Qt

theorem dv_boxset {w : World} {g : Nat} {x y x' y' : Int} {a a' : Option Addr} {n n' c c' : Nat} {T : TypeId} {fz : Nat × Nat} (h : w.heap[g]? = some (.cells #[.int .i64 x, .int .i64 y, .slice a n c] T fz)) {v : Value} {d : Dk} (hd : Dv w v d) : Dv (((w.setCell ⟨g, 0, none⟩ (.int .i64 x')).setCell ⟨g, 1, none⟩ (.int .i64 y')).setCell ⟨g, 2, none⟩ (.slice a' n' c')) v d := by
 obtain ⟨fv, h1, h2, h3⟩ := hd
 exact ⟨fv, h1, h2, rd_boxset h h3⟩
theorem kk_of (kd : Int) (h : -9223372036854775808 ≤ kd ∧ kd ≤ 9223372036854775807) : ∃ kk : Nat, Int.tmod (Int.tmod kd 10 + 10) 10 = (kk : Int) ∧ kk ≤ 9 := by
 have hrm : -10 < Int.tmod kd 10 ∧ Int.tmod kd 10 < 10 := by
  rcases Int.le_total 0 kd with h | h
  ·rw [Int.tmod_eq_emod_of_nonneg h]; omega
  ·have h2 : Int.tmod kd 10 = -Int.tmod (-kd) 10 := by rw [Int.neg_tmod]; omega
   rw [h2, Int.tmod_eq_emod_of_nonneg (by omega)]
   omega
 refine ⟨(Int.tmod (Int.tmod kd 10 + 10) 10).toNat, ?_, ?_⟩ <;> rw [Int.tmod_eq_emod_of_nonneg (by omega)] <;> omega
/-- The i-th operation, cut, in every later world. -/
structure OpAt (w : World) (L : List Opn) (i : Nat) (b o : Nat) : Prop where
 ex : ∃ (kd : Int) (nm tn : ByteArray) (off : Int) (ad ak : Option Addr) (nd cd nk ck : Nat) (db : List Nat) (ke : List Kep),
  (∀ W, Below w.heap.size w W → W.cell? ⟨b, o, none⟩ = some (.int .i64 kd) ∧ W.cell? ⟨b, o + 1, none⟩ = some (.string nm) ∧ W.cell? ⟨b, o + 2, none⟩ = some (.string tn) ∧ W.cell? ⟨b, o + 3, none⟩ = some (.int .i64 off) ∧ W.cell? ⟨b, o + 4, none⟩ = some (.slice ad nd cd) ∧ W.cell? ⟨b, o + 5, none⟩ = some (.slice ak nk ck)) ∧
  (-9223372036854775808 ≤ kd ∧ kd ≤ 9223372036854775807) ∧ nm.size ≤ maxLen ∧ tn.size ≤ maxLen ∧ (-9223372036854775808 ≤ off ∧ off ≤ 9223372036854775807) ∧ nd ≤ cd ∧ nk ≤ ck ∧
  (∀ W, Below w.heap.size w W → Sl W (.slice ad (min nd 200) cd) db) ∧ db.length ≤ 200 ∧ (∀ W, Below w.heap.size w W → Rd (fun _ => True) W (.sl tyK) [.slice ak (min nk 10) ck] ke) ∧ ke.length ≤ 10
theorem op_at {w : World} {vl : Value} {L : List Opn} (sl : Rd (fun _ => True) w (.sl tyOp) [vl] L) {i : Nat} (hi : i < L.length) : ∃ b o c, vl = .slice (some ⟨b, o, none⟩) L.length c ∧ OpAt w L i b (o + i * 6) := by
 obtain ⟨b1, o1, cc, hv, -, -, -, hc⟩ := rd_cells sl (by omega)
 obtain ⟨xo, hxo⟩ : ∃ z, L[i]? = some z := ⟨_, List.getElem?_eq_getElem hi⟩
 obtain ⟨cs, hrd, hk⟩ := hc i xo hxo
 obtain ⟨dv, kv, rfl, hkd, hnm, hto, hoff, hda, hke⟩ := rd_op hrd
 obtain ⟨kd, nm, tn, off, da, ke⟩ := xo
 dsimp only at hk hkd hnm hto hoff hda hke
 obtain ⟨ad, cd, rfl, hcd, -⟩ := rd_sl hda
 obtain ⟨ak, ck, rfl, hck, -⟩ := rd_sl hke
 have k0 := hk 0 (by decide)
 have k1 := hk 1 (by decide)
 have k2 := hk 2 (by decide)
 have k3 := hk 3 (by decide)
 have k4 := hk 4 (by decide)
 have k5 := hk 5 (by decide)
 rw [show o1 + (i * tyOp.n + 0) = o1 + i * 6 by show o1 + (i * 6 + 0) = _; omega] at k0
 rw [show o1 + (i * tyOp.n + 1) = o1 + i * 6 + 1 by show o1 + (i * 6 + 1) = _; omega] at k1
 rw [show o1 + (i * tyOp.n + 2) = o1 + i * 6 + 2 by show o1 + (i * 6 + 2) = _; omega] at k2
 rw [show o1 + (i * tyOp.n + 3) = o1 + i * 6 + 3 by show o1 + (i * 6 + 3) = _; omega] at k3
 rw [show o1 + (i * tyOp.n + 4) = o1 + i * 6 + 4 by show o1 + (i * 6 + 4) = _; omega] at k4
 rw [show o1 + (i * tyOp.n + 5) = o1 + i * 6 + 5 by show o1 + (i * 6 + 5) = _; omega] at k5
 change w.cell? ⟨b1, o1 + i * 6, none⟩ = some _ at k0
 change w.cell? ⟨b1, o1 + i * 6 + 1, none⟩ = some _ at k1
 change w.cell? ⟨b1, o1 + i * 6 + 2, none⟩ = some _ at k2
 change w.cell? ⟨b1, o1 + i * 6 + 3, none⟩ = some _ at k3
 change w.cell? ⟨b1, o1 + i * 6 + 4, none⟩ = some _ at k4
 change w.cell? ⟨b1, o1 + i * 6 + 5, none⟩ = some _ at k5
 have e1 : min da.length 200 = (da.take 200).length := by rw [List.length_take]; omega
 have e2 : min ke.length 10 = (ke.take 10).length := by rw [List.length_take]; omega
 refine ⟨b1, o1, cc, hv, ⟨kd, nm, tn, off, ad, ak, da.length, cd, ke.length, ck, da.take 200, ke.take 10, fun W hW => ⟨(hW.cell (block_lt_of_cell k0)).trans k0, (hW.cell (block_lt_of_cell k1)).trans k1, (hW.cell (block_lt_of_cell k2)).trans k2, (hW.cell (block_lt_of_cell k3)).trans k3, (hW.cell (block_lt_of_cell k4)).trans k4, (hW.cell (block_lt_of_cell k5)).trans k5⟩, hkd, hnm, hto, hoff, hcd, hck, fun W hW => ?_, by rw [List.length_take]; omega, fun W hW => ?_, by rw [List.length_take]; omega⟩⟩
 ·have h := rd8_sl (rd_take (rd_below hda hW) (k := min da.length 200) (by omega))
  have e3 : da.take (min da.length 200) = da.take 200 := by
   rcases Nat.le_total da.length 200 with h | h
   ·rw [Nat.min_eq_left h, List.take_of_length_le (Nat.le_refl _), List.take_of_length_le h]
   ·rw [Nat.min_eq_right h]
  rw [e3] at h
  exact h
 ·have h := rd_take (rd_below hke hW) (k := min ke.length 10) (by omega)
  have e3 : ke.take (min ke.length 10) = ke.take 10 := by
   rcases Nat.le_total ke.length 10 with h | h
   ·rw [Nat.min_eq_left h, List.take_of_length_le (Nat.le_refl _), List.take_of_length_le h]
   ·rw [Nat.min_eq_right h]
  rw [e3] at h
  exact h
end Go.Proofs.Ytpipgbjkkiheaaa.Gf
