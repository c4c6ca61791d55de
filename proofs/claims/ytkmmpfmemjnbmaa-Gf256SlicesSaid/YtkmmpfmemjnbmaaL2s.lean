/- What is proved here: the walk of the law Gf256Slices. Condition: the contracts PC. -/
import Derived.Test.YtkmmpfmemjnbmaaL2
namespace Go.Proofs.Ytkmmpfmemjnbmaa.Gf
open Go Go.ChangeShapes Go.WideShapes Go.ChangeAt Go.RowKit Go.Proofs.Ytkmmpfmemjnbmaa.By

set_option maxRecDepth 100000 in
set_option maxHeartbeats 1600000 in
theorem slices_same {Ok : World → Prop} (P : PC Ok) (a1 a2 : Option Addr) (c1 c2 c n : Nat) (d s : List Nat) (hn : n = min d.length s.length) (hc : c < 256) (hd : d.length ≤ 2000) (hs : s.length ≤ 2000) (k1 : d.length ≤ c1) (k2 : s.length ≤ c2) (w : World) (s1 : Sl w (.slice a1 d.length c1) d) (s2 : Sl w (.slice a2 s.length c2) s) (ok : Ok w) : Calls Try.prog 10 #[.slice a1 d.length c1, .slice a2 s.length c2, .int .u8 (c : Int), .bool true] w fun e w' => e = .returned (.bool true) ∧ Below w.heap.size w w' := by
  have HO := Lib.hid ok
  have S1 := Lib.hid (sl_take s1 (show n ≤ d.length by omega))
  have S2 := Lib.hid (sl_take s2 (show n ≤ s.length by omega))
  have t1 : (d.take n).length = n := by rw [List.length_take]; omega
  have t2 : (s.take n).length = n := by rw [List.length_take]; omega
  have HL : Hid ((d.take n).length = (s.take n).length) := t1.trans t2.symm
  have HD : Hid ((d.take n).length ≤ 2000) := by show (d.take n).length ≤ 2000; omega
  have HN := Lib.hid hn
  have g1 : (n : Int) ≤ (c1 : Int) := by omega
  have g2 : (n : Int) ≤ (c2 : Int) := by omega
  have g0 : (0 : Int) ≤ (n : Int) := by omega
  clear ok s1 s2 t1 t2 hn
  go_enter Try.func10, Try.ntmps10
  go_wp2_with (first | ((with_reducible refine min2_step (dst := some 30) (n1 := d.length) (n2 := s.length) (n := n) ?_ ?_ HN.out ?_); exact rfl; exact rfl))
  go_region
  have b0 := (Below.refl w.heap.size w).drew
  go_wp2_with fail
  refine (ma_eq P (.slice a1 n c1) (.slice a2 n c2) (d.take n) (s.take n) c w.drew (sl_drew S1.out) (sl_drew S2.out) HL.out (HD.out) hc (P.st _ _ HO.out b0)).mono ?_
  rintro e w1 ⟨⟨x, rfl, o1⟩, h1⟩
  have O1 := Lib.hid o1
  have b1 := bt b0 h1
  have B1 := Lib.hid h1
  clear h1 o1
  go_wp2_with fail
  refine (rma_eq (.slice a1 n c1) (.slice a2 n c2) (d.take n) (s.take n) c w1 (sl_below S1.out b1) (sl_below S2.out b1) HL.out (HD.out) hc).mono ?_
  rintro e w2 ⟨⟨y, rfl, o2⟩, h2⟩
  have O2 := Lib.hid o2
  have b2 := bt b1 h2
  have B2 := Lib.hid h2
  clear h2 o2
  have cx := conv_sl (sl_below O1.out.sl B2.out)
  have cy := conv_sl O2.out.sl
  have CX := Lib.hid cx
  go_wp2_with fail
  refine (ma_eq P x (.slice a2 n c2) (ma c (d.take n) (s.take n)) (s.take n) c w2 (sl_below O1.out.sl B2.out) (sl_below S2.out b2) (by rw [ma_length c HL.out]; exact HL.out) (by rw [ma_length c HL.out]; exact HD.out) hc (P.st _ _ HO.out b2)).mono ?_
  rintro e w3 ⟨⟨z, rfl, o3⟩, h3⟩
  have O3 := Lib.hid o3
  have b3 := bt b2 h3
  have B3 := Lib.hid h3
  clear h3 o3
  have cz := conv_sl O3.out.sl
  rw [ma_ma c HL.out] at cz
  have cd := conv_sl (sl_below S1.out b3)
  clear cx cy CX
  go_wp2_with fail
  refine (awake_any P w3 (P.st _ _ HO.out b3)).mono ?_
  rintro e w4 ⟨rfl, h4⟩
  have b4 := bt b3 h4
  clear h4
  go_wp2_with fail
  go_ret
  exact ⟨rfl, b4⟩
theorem slices_walk {Ok : World → Prop} (P : PC Ok) (v1 : Value) (d : List Nat) (v2 : Value) (s : List Nat) (c : Nat) (sm : Bool) (w : World) (s1 : Sl w v1 d) (s2 : Sl w v2 s) (hc : c < 256) (ok : Ok w) : Calls Try.prog 10 #[v1, v2, .int .u8 (c : Int), .bool sm] w fun e w' => e = .returned (.bool true) ∧ Below w.heap.size w w' := by
  have q1 := s1.2.1
  have q2 := s2.2.1
  obtain ⟨a1, c1, rfl, k1, _⟩ := sl_form s1
  obtain ⟨a2, c2, rfl, k2, _⟩ := sl_form s2
  unfold maxLen at q1 q2
  by_cases h1 : 2000 < d.length
  · exact slices_long P a1 a2 _ _ c1 c2 c sm (by omega) (by omega) (Or.inl h1) w ok
  · by_cases h2 : 2000 < s.length
    · exact slices_long P a1 a2 _ _ c1 c2 c sm (by omega) (by omega) (Or.inr ⟨h1, h2⟩) w ok
    · cases sm
      · by_cases hl : d.length = s.length
        · exact slices_eq P a1 a2 c1 c2 c d s hc (by omega) (by omega) hl w s1 s2 ok
        · exact slices_ne P a1 a2 c1 c2 c d s hc (by omega) (by omega) hl w s1 s2 ok
      · exact slices_same P a1 a2 c1 c2 c _ d s rfl hc (by omega) (by omega) k1 k2 w s1 s2 ok
end Go.Proofs.Ytkmmpfmemjnbmaa.Gf
