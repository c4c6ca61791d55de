/- What is proved here: what the laws of layer 14 ask of the program; the contract of awake; the law JournalTorn. -/
import Derived.Test.YtbkhedfhnmkodaaDoorR14b
namespace Go.Proofs.YtbkhedfhnmkodaaDoor.Gf
open Go Go.Joins Go.ChangeShapes Go.WideShapes Go.ChangeAt Go.RowKit Go.Deep Go.Proofs.YtbkhedfhnmkodaaDoor.By Go.Proofs.YtbkhedfhnmkodaaDoor.Crc Go.Proofs.YtbkhedfhnmkodaaDoor.Qt

/-- What the laws ask of the program, in the worlds that are Ok. -/
structure PC14 (Ok : World → Prop) : Prop where
  st : ∀ {w w' : World}, Ok w → Below w.heap.size w w' → Ok w'
  enc : ∀ v l W, Ok W → UL W v l → l.length ≤ 1000 → Calls Tryd.prog 9 #[v] W (BO14 W (encJ l))
  dec : ∀ v l W, Ok W → Sl W v l → l.length ≤ 1000000 → Calls Tryd.prog 10 #[v] W (DO14 W l)
theorem decJ_none {l : List Nat} (h : l.length < 12) : DecJ l 0 := ⟨fun i hi => absurd hi (Nat.not_lt_zero i), fun h2 => by have := h2.1; omega⟩
theorem enc7 : (encJ [7]).length = 12 ∧ (encJ [7]).getD 7 0 = 7 := by
  refine ⟨encJ_length [7], ?_⟩
  rw [encJ_one]
  unfold entJ
  rw [List.getD_eq_getElem?_getD, List.getElem?_append_left (by rw [beL_length]; decide)]
  decide
theorem keysJ_zero (l : List Nat) : keysJ l 0 = [] := rfl
set_option maxRecDepth 100000 in
set_option maxHeartbeats 6400000 in
theorem awake14_any {Ok : World → Prop} (P : PC14 Ok) (w : World) (hw : Ok w) : Calls Tryd.prog 13 #[] w fun e w' => e = .returned (.bool true) ∧ Below w.heap.size w w' := by
  have ENC := Lib.hid (fun v l W (h : Ok W) (s : UL W v l) (hl : l.length ≤ 1000) => P.enc v l W h s hl)
  have DEC := Lib.hid (fun v l W (h : Ok W) (s : Sl W v l) (hl : l.length ≤ 1000000) => P.dec v l W h s hl)
  have ST := Lib.hid (fun (W W' : World) => P.st (w := W) (w' := W'))
  have B0 := Lib.hid (bel_al14 w (.cells (cellsOf [0, 0, 0, 0, 0, 0, 0, 0, 0, 0, 0]).toArray 5))
  have S0 := Lib.hid (show Sl (w.alloc (.cells (cellsOf [0, 0, 0, 0, 0, 0, 0, 0, 0, 0, 0]).toArray 5)) (.slice (some ⟨w.heap.size, 0, none⟩) 11 11) [0, 0, 0, 0, 0, 0, 0, 0, 0, 0, 0] from (own_made w (n := 11) (Nat.le_refl _) (by unfold maxLen; decide)).sl)
  have OK0 := Lib.hid (ST.out _ _ hw B0.out)
  have E7 := Lib.hid enc7
  have HD := Lib.hid (decJ_none (l := [0, 0, 0, 0, 0, 0, 0, 0, 0, 0, 0]) (by decide))
  have HL := Lib.hid (show ([0, 0, 0, 0, 0, 0, 0, 0, 0, 0, 0] : List Nat).length ≤ 1000000 by decide)
  clear P hw
  go_enter Tryd.func13, Tryd.ntmps13
  go_wp2_with ((with_reducible refine make_step (n := 11) ?_ (by decide) ?_); exact rfl)
  generalize ([0, 0, 0, 0, 0, 0, 0, 0, 0, 0, 0] : List Nat) = Z at *
  generalize w.alloc (.cells (cellsOf Z).toArray 5) = w0 at *
  refine (DEC.out _ _ _ OK0.out S0.out HL.out).mono ?_
  rintro e w1 ⟨⟨n, v1, rfl, hd, ho⟩, hb⟩
  obtain rfl : n = 0 := decJ_uniq hd HD.out
  obtain ⟨a1, c1, rfl⟩ := owu_form ho
  rw [keysJ_length] at ho ⊢
  rw [show ((12 * 0 : Nat) : Int) = 0 from rfl]
  have B1 := Lib.hid (bt B0.out hb)
  have OK1 := Lib.hid (ST.out _ _ OK0.out hb)
  clear hd ho hb HD HL S0 B0 OK0
  have Bx := Lib.hid (bt B1.out (bel_al14 w1 (.cells #[.int .u64 7] 37)))
  have OKx := Lib.hid (ST.out _ _ OK1.out (bel_al14 w1 (.cells #[.int .u64 7] 37)))
  have UX := Lib.hid (show UL (w1.alloc (.cells #[.int .u64 7] 37)) (.slice (some ⟨w1.heap.size, 0, none⟩) 1 1) [7] from rd_single (cs := [.int .u64 7]) (rd_u64 (k := 7) (by decide)) (heap_alloc_new _ _) trivial)
  clear B1 OK1
  go_wp2_with fail
  generalize w1.alloc (.cells #[.int .u64 7] 37) = w2 at *
  generalize w1.heap.size = g1 at *
  refine (ENC.out _ _ _ OKx.out UX.out (by decide)).mono ?_
  rintro e w3 ⟨⟨v3, rfl, ho3⟩, hb3⟩
  generalize encJ [7] = L at *
  obtain ⟨b, o, c, rfl, -, -, hk⟩ := sl_cells ho3.sl (by rw [E7.out.1]; decide)
  have hk7 := hk 7 (by rw [E7.out.1]; decide)
  rw [E7.out.2] at hk7
  rw [E7.out.1]
  have HK7 := Lib.hid hk7
  have B3 := Lib.hid (bt Bx.out hb3)
  have OK3 := Lib.hid (ST.out _ _ OKx.out hb3)
  clear ho3 hb3 hk hk7 Bx OKx UX
  go_wp2_with fail
  refine (ENC.out _ _ _ OK3.out (ul_nil _) (by decide)).mono ?_
  rintro e w4 ⟨⟨v4, rfl, ho4⟩, hb4⟩
  obtain ⟨a4, c4, rfl, -, -⟩ := sl_form ho4.sl
  rw [encJ_length, List.length_nil, Nat.mul_zero]
  have hk7 := (hb4.cell (p := ⟨b, o + 7, none⟩) (block_lt_of_cell HK7.out)).trans HK7.out
  rw [show ((7 : Nat) : Int) = 7 from rfl] at hk7
  have B4 := Lib.hid (bt B3.out hb4)
  clear ho4 hb4 B3 OK3 HK7
  go_wp2_with fail
  go_ret
  exact ⟨rfl, B4.out⟩
end Go.Proofs.YtbkhedfhnmkodaaDoor.Gf
