/- What is proved here: the walk of the law GfmatrixInverse. Condition: PC3. -/
import Derived.Test.YtcckhgadgiaofaaL5
namespace Go.Proofs.Ytcckhgadgiaofaa.Gf
open Go Go.ChangeShapes Go.WideShapes Go.ChangeAt Go.RowKit Go.Sort Go.Proofs.Ytcckhgadgiaofaa.By Go.Proofs.Ytcckhgadgiaofaa.Qt

set_option maxRecDepth 100000 in
set_option maxHeartbeats 6400000 in
theorem inverse_walk {Ok : World → Prop} (P : PC3 Ok) (n : Int) (v : Value) (l : List Nat) (w : World) (hn : I64 n) (s : Sl w v l) (ok : Ok w) : Calls Try.prog 6 #[.int .i64 n, v] w fun e w' => e = .returned (.bool true) ∧ Below w.heap.size w w' := by
  have hR := sz5_bd n
  have hR : 1 ≤ sz5 n ∧ sz5 n ≤ 16 := by omega
  have MD := Lib.hid (fun w s => made_any n n v l w s hn hn)
  have HM : Hid (Bd (sz5 n) (sz5 n) (mdm (sz5 n) l)) := mdm_bd s.1
  have S := Lib.hid s
  have AW := Lib.hid (fun w ok => awake_any P w ok)
  have ST := Lib.hid P.st
  have OK := Lib.hid ok
  clear s ok hn
  generalize hMM : mdm (sz5 n) l = M at *
  generalize hRR : sz5 n = R at *
  clear hMM hRR
  unfold mv at MD
  go_enter Try.func6, Try.ntmps6
  go_wp2_with fail
  have B := Lib.hid (Below.refl w.heap.size w)
  refine (MD.out w S.out).mono ?_
  try unfold mv
  rintro e w1 ⟨⟨s1, rfl, ho1⟩, hb1⟩
  have hs1 := ho1.sl
  clear ho1
  obtain ⟨a1, c1, hv1, -, -⟩ := sl_form hs1
  obtain ⟨n1, hn1⟩ : ∃ n, n = (flat R R M).length := ⟨_, rfl⟩
  rw [← hn1] at hv1
  subst hv1
  clear hn1
  have al1 := (Below.refl w1.heap.size w1).alloc (Nat.le_refl _) (.cells #[.int .i64 (R : Int), .int .i64 (R : Int), .slice a1 n1 c1] 27)
  have tnew : MB (w1.alloc (.cells #[.int .i64 (R : Int), .int .i64 (R : Int), .slice a1 n1 c1] 27)) 27 w1.heap.size (R : Int) (R : Int) a1 n1 c1 (flat R R M) := MB.mk' hs1
  have tB := bt (bt B.out hb1) al1
  clear B 
  have B := Lib.hid tB
  clear tB 
  have Mm := Lib.hid tnew
  clear tnew al1 hb1 hs1
  obtain ⟨Mmc0, Mmc1, Mmc2⟩ := Mm.out.cells
  go_wp2_with fail
  generalize w1.alloc (.cells #[.int .i64 (R : Int), .int .i64 (R : Int), .slice a1 n1 c1] 27) = W1 at *
  clear Mmc0 Mmc1 Mmc2
  refine (q_invert P M hR W1 _ Mm.out.sl (ST.out _ _ OK.out B.out)).mono ?_
  unfold MS mv
  rintro e w2 (⟨X, hX, ⟨s2, rfl, hs2⟩, hb2⟩ | ⟨-, ⟨s2, rfl, hs2⟩, hb2⟩)
  · skip
    have HX := Lib.hid hX
    clear hX
    obtain ⟨a2, c2, hv2, -, -⟩ := sl_form hs2
    obtain ⟨n2, hn2⟩ : ∃ n, n = (flat R R X).length := ⟨_, rfl⟩
    rw [← hn2] at hv2
    subst hv2
    clear hn2
    have al2 := (Below.refl w2.heap.size w2).alloc (Nat.le_refl _) (.cells #[.int .i64 (R : Int), .int .i64 (R : Int), .slice a2 n2 c2] 27)
    have tnew : MB (w2.alloc (.cells #[.int .i64 (R : Int), .int .i64 (R : Int), .slice a2 n2 c2] 27)) 27 w2.heap.size (R : Int) (R : Int) a2 n2 c2 (flat R R X) := MB.mk' hs2
    have tMm := (Mm.out.later hb2).later al2
    have tB := bt (bt B.out hb2) al2
    clear B Mm
    have Mm := Lib.hid tMm
    have B := Lib.hid tB
    clear tB tMm
    have Ii := Lib.hid tnew
    clear tnew al2 hb2 hs2
    obtain ⟨Mmc0, Mmc1, Mmc2⟩ := Mm.out.cells
    obtain ⟨Iic0, Iic1, Iic2⟩ := Ii.out.cells
    go_wp2_with fail
    generalize w2.alloc (.cells #[.int .i64 (R : Int), .int .i64 (R : Int), .slice a2 n2 c2] 27) = W2 at *
    clear Mmc0 Mmc1 Mmc2 Iic0 Iic1 Iic2
    refine (q_ident P hR W2 (ST.out _ _ OK.out B.out)).mono ?_
    unfold MS mv
    rintro e w3 ⟨⟨s3, rfl, hs3⟩, hb3⟩
    obtain ⟨a3, c3, hv3, -, -⟩ := sl_form hs3
    obtain ⟨n3, hn3⟩ : ∃ n, n = (flat R R idm).length := ⟨_, rfl⟩
    rw [← hn3] at hv3
    subst hv3
    clear hn3
    have al3 := (Below.refl w3.heap.size w3).alloc (Nat.le_refl _) (.cells #[.int .i64 (R : Int), .int .i64 (R : Int), .slice a3 n3 c3] 27)
    have tnew : MB (w3.alloc (.cells #[.int .i64 (R : Int), .int .i64 (R : Int), .slice a3 n3 c3] 27)) 27 w3.heap.size (R : Int) (R : Int) a3 n3 c3 (flat R R idm) := MB.mk' hs3
    have tMm := (Mm.out.later hb3).later al3
    have tIi := (Ii.out.later hb3).later al3
    have tB := bt (bt B.out hb3) al3
    clear B Mm Ii
    have Mm := Lib.hid tMm
    have Ii := Lib.hid tIi
    have B := Lib.hid tB
    clear tB tMm tIi
    have One := Lib.hid tnew
    clear tnew al3 hb3 hs3
    obtain ⟨Mmc0, Mmc1, Mmc2⟩ := Mm.out.cells
    obtain ⟨Iic0, Iic1, Iic2⟩ := Ii.out.cells
    go_wp2_with fail
    generalize w3.alloc (.cells #[.int .i64 (R : Int), .int .i64 (R : Int), .slice a3 n3 c3] 27) = W3 at *
    clear Mmc0 Mmc1 Mmc2 Iic0 Iic1 Iic2
    have e1 := flat_ext HX.out.2.2
    have q1 := q_mul P M X hR hR hR W3 _ _ Mm.out.sl Ii.out.sl (ST.out _ _ OK.out B.out)
    rw [e1] at q1
    clear e1
    refine (q1).mono ?_
    unfold MS mv
    rintro e w4 ⟨⟨s4, rfl, hs4⟩, hb4⟩
    obtain ⟨a4, c4, hv4, -, -⟩ := sl_form hs4
    obtain ⟨n4, hn4⟩ : ∃ n, n = (flat R R idm).length := ⟨_, rfl⟩
    rw [← hn4] at hv4
    subst hv4
    clear hn4
    have al4 := (Below.refl w4.heap.size w4).alloc (Nat.le_refl _) (.cells #[.int .i64 (R : Int), .int .i64 (R : Int), .slice a4 n4 c4] 27)
    have tnew : MB (w4.alloc (.cells #[.int .i64 (R : Int), .int .i64 (R : Int), .slice a4 n4 c4] 27)) 27 w4.heap.size (R : Int) (R : Int) a4 n4 c4 (flat R R idm) := MB.mk' hs4
    have tMm := (Mm.out.later hb4).later al4
    have tIi := (Ii.out.later hb4).later al4
    have tOne := (One.out.later hb4).later al4
    have tB := bt (bt B.out hb4) al4
    clear B Mm Ii One
    have Mm := Lib.hid tMm
    have Ii := Lib.hid tIi
    have One := Lib.hid tOne
    have B := Lib.hid tB
    clear tB tMm tIi tOne
    have Xx := Lib.hid tnew
    clear tnew al4 hb4 hs4
    obtain ⟨Mmc0, Mmc1, Mmc2⟩ := Mm.out.cells
    obtain ⟨Iic0, Iic1, Iic2⟩ := Ii.out.cells
    go_wp2_with fail
    generalize w4.alloc (.cells #[.int .i64 (R : Int), .int .i64 (R : Int), .slice a4 n4 c4] 27) = W4 at *
    clear Mmc0 Mmc1 Mmc2 Iic0 Iic1 Iic2
    clear q1
    have e1 := flat_ext HX.out.2.1
    have q1 := q_mul P X M hR hR hR W4 _ _ Ii.out.sl Mm.out.sl (ST.out _ _ OK.out B.out)
    rw [e1] at q1
    clear e1
    refine (q1).mono ?_
    unfold MS mv
    rintro e w5 ⟨⟨s5, rfl, hs5⟩, hb5⟩
    obtain ⟨a5, c5, hv5, -, -⟩ := sl_form hs5
    obtain ⟨n5, hn5⟩ : ∃ n, n = (flat R R idm).length := ⟨_, rfl⟩
    rw [← hn5] at hv5
    subst hv5
    clear hn5
    have al5 := (Below.refl w5.heap.size w5).alloc (Nat.le_refl _) (.cells #[.int .i64 (R : Int), .int .i64 (R : Int), .slice a5 n5 c5] 27)
    have tnew : MB (w5.alloc (.cells #[.int .i64 (R : Int), .int .i64 (R : Int), .slice a5 n5 c5] 27)) 27 w5.heap.size (R : Int) (R : Int) a5 n5 c5 (flat R R idm) := MB.mk' hs5
    have tMm := (Mm.out.later hb5).later al5
    have tIi := (Ii.out.later hb5).later al5
    have tOne := (One.out.later hb5).later al5
    have tXx := (Xx.out.later hb5).later al5
    have tB := bt (bt B.out hb5) al5
    clear B Mm Ii One Xx
    have Mm := Lib.hid tMm
    have Ii := Lib.hid tIi
    have One := Lib.hid tOne
    have Xx := Lib.hid tXx
    have B := Lib.hid tB
    clear tB tMm tIi tOne tXx
    have Yy := Lib.hid tnew
    clear tnew al5 hb5 hs5
    obtain ⟨Iic0, Iic1, Iic2⟩ := Ii.out.cells
    go_wp2_with fail
    generalize w5.alloc (.cells #[.int .i64 (R : Int), .int .i64 (R : Int), .slice a5 n5 c5] 27) = W5 at *
    clear Iic0 Iic1 Iic2
    clear q1
    have q1 : Calls Try.prog 26 #[mv R R (.slice a2 n2 c2)] W5 (MS W5 R R (flat R R M) 0) := (q_invert P X hR W5 _ Ii.out.sl (ST.out _ _ OK.out B.out)).mono fun e w' h => by
      rcases h with ⟨Y, hY, hm⟩ | ⟨hs, _⟩
      · rw [flat_ext (inv_unique HX.out.1 hY (inv_flip HM.out HX.out))] at hm
        exact hm
      · exact absurd hs (inv_not_sing HX.out.1 (inv_flip HM.out HX.out))
    refine (q1).mono ?_
    unfold MS mv
    rintro e w6 ⟨⟨s6, rfl, hs6⟩, hb6⟩
    obtain ⟨a6, c6, hv6, -, -⟩ := sl_form hs6
    obtain ⟨n6, hn6⟩ : ∃ n, n = (flat R R M).length := ⟨_, rfl⟩
    rw [← hn6] at hv6
    subst hv6
    clear hn6
    have al6 := (Below.refl w6.heap.size w6).alloc (Nat.le_refl _) (.cells #[.int .i64 (R : Int), .int .i64 (R : Int), .slice a6 n6 c6] 27)
    have tnew : MB (w6.alloc (.cells #[.int .i64 (R : Int), .int .i64 (R : Int), .slice a6 n6 c6] 27)) 27 w6.heap.size (R : Int) (R : Int) a6 n6 c6 (flat R R M) := MB.mk' hs6
    have tMm := (Mm.out.later hb6).later al6
    have tIi := (Ii.out.later hb6).later al6
    have tOne := (One.out.later hb6).later al6
    have tXx := (Xx.out.later hb6).later al6
    have tYy := (Yy.out.later hb6).later al6
    have tB := bt (bt B.out hb6) al6
    clear B Mm Ii One Xx Yy
    have Mm := Lib.hid tMm
    have Ii := Lib.hid tIi
    have One := Lib.hid tOne
    have Xx := Lib.hid tXx
    have Yy := Lib.hid tYy
    have B := Lib.hid tB
    clear tB tMm tIi tOne tXx tYy
    have Bk := Lib.hid tnew
    clear tnew al6 hb6 hs6
    obtain ⟨Mmc0, Mmc1, Mmc2⟩ := Mm.out.cells
    obtain ⟨Onec0, Onec1, Onec2⟩ := One.out.cells
    obtain ⟨Xxc0, Xxc1, Xxc2⟩ := Xx.out.cells
    obtain ⟨Yyc0, Yyc1, Yyc2⟩ := Yy.out.cells
    obtain ⟨Bkc0, Bkc1, Bkc2⟩ := Bk.out.cells
    go_wp2_with fail
    generalize w6.alloc (.cells #[.int .i64 (R : Int), .int .i64 (R : Int), .slice a6 n6 c6] 27) = W6 at *
    clear Mmc0 Mmc1 Mmc2 Onec0 Onec1 Onec2 Xxc0 Xxc1 Xxc2 Yyc0 Yyc1 Yyc2 Bkc0 Bkc1 Bkc2
    refine (equal_any (R : Int) (R : Int) (R : Int) (R : Int) _ _ (flat R R idm) (flat R R idm) W6 Xx.out.sl One.out.sl).mono ?_
    rw [decide_eq_true (show (R : Int) = (R : Int) ∧ (R : Int) = (R : Int) ∧ (flat R R idm) = (flat R R idm) from ⟨rfl, rfl, rfl⟩)]
    rintro e W7 ⟨rfl, hb7⟩
    have tMm := Mm.out.later hb7
    have tIi := Ii.out.later hb7
    have tOne := One.out.later hb7
    have tXx := Xx.out.later hb7
    have tYy := Yy.out.later hb7
    have tBk := Bk.out.later hb7
    have tB := bt B.out hb7
    clear B Mm Ii One Xx Yy Bk
    have Mm := Lib.hid tMm
    have Ii := Lib.hid tIi
    have One := Lib.hid tOne
    have Xx := Lib.hid tXx
    have Yy := Lib.hid tYy
    have Bk := Lib.hid tBk
    have B := Lib.hid tB
    clear tB tMm tIi tOne tXx tYy tBk
    clear hb7
    obtain ⟨Mmc0, Mmc1, Mmc2⟩ := Mm.out.cells
    obtain ⟨Onec0, Onec1, Onec2⟩ := One.out.cells
    obtain ⟨Xxc0, Xxc1, Xxc2⟩ := Xx.out.cells
    obtain ⟨Yyc0, Yyc1, Yyc2⟩ := Yy.out.cells
    obtain ⟨Bkc0, Bkc1, Bkc2⟩ := Bk.out.cells
    go_wp2_with fail
    clear Mmc0 Mmc1 Mmc2 Onec0 Onec1 Onec2 Xxc0 Xxc1 Xxc2 Yyc0 Yyc1 Yyc2 Bkc0 Bkc1 Bkc2
    refine (equal_any (R : Int) (R : Int) (R : Int) (R : Int) _ _ (flat R R idm) (flat R R idm) W7 Yy.out.sl One.out.sl).mono ?_
    rw [decide_eq_true (show (R : Int) = (R : Int) ∧ (R : Int) = (R : Int) ∧ (flat R R idm) = (flat R R idm) from ⟨rfl, rfl, rfl⟩)]
    rintro e W8 ⟨rfl, hb8⟩
    have tMm := Mm.out.later hb8
    have tIi := Ii.out.later hb8
    have tOne := One.out.later hb8
    have tXx := Xx.out.later hb8
    have tYy := Yy.out.later hb8
    have tBk := Bk.out.later hb8
    have tB := bt B.out hb8
    clear B Mm Ii One Xx Yy Bk
    have Mm := Lib.hid tMm
    have Ii := Lib.hid tIi
    have One := Lib.hid tOne
    have Xx := Lib.hid tXx
    have Yy := Lib.hid tYy
    have Bk := Lib.hid tBk
    have B := Lib.hid tB
    clear tB tMm tIi tOne tXx tYy tBk
    clear hb8
    obtain ⟨Mmc0, Mmc1, Mmc2⟩ := Mm.out.cells
    obtain ⟨Onec0, Onec1, Onec2⟩ := One.out.cells
    obtain ⟨Xxc0, Xxc1, Xxc2⟩ := Xx.out.cells
    obtain ⟨Yyc0, Yyc1, Yyc2⟩ := Yy.out.cells
    obtain ⟨Bkc0, Bkc1, Bkc2⟩ := Bk.out.cells
    go_wp2_with fail
    clear Mmc0 Mmc1 Mmc2 Onec0 Onec1 Onec2 Xxc0 Xxc1 Xxc2 Yyc0 Yyc1 Yyc2 Bkc0 Bkc1 Bkc2
    refine (equal_any (R : Int) (R : Int) (R : Int) (R : Int) _ _ (flat R R M) (flat R R M) W8 Bk.out.sl Mm.out.sl).mono ?_
    rw [decide_eq_true (show (R : Int) = (R : Int) ∧ (R : Int) = (R : Int) ∧ (flat R R M) = (flat R R M) from ⟨rfl, rfl, rfl⟩)]
    rintro e W9 ⟨rfl, hb9⟩
    have tMm := Mm.out.later hb9
    have tIi := Ii.out.later hb9
    have tOne := One.out.later hb9
    have tXx := Xx.out.later hb9
    have tYy := Yy.out.later hb9
    have tBk := Bk.out.later hb9
    have tB := bt B.out hb9
    clear B Mm Ii One Xx Yy Bk
    have Mm := Lib.hid tMm
    have Ii := Lib.hid tIi
    have One := Lib.hid tOne
    have Xx := Lib.hid tXx
    have Yy := Lib.hid tYy
    have Bk := Lib.hid tBk
    have B := Lib.hid tB
    clear tB tMm tIi tOne tXx tYy tBk
    clear hb9
    go_wp2_with fail
    refine (AW.out W9 (ST.out _ _ OK.out B.out)).mono ?_
    rintro e w10 ⟨rfl, hb10⟩
    go_wp2_with fail
    go_ret
    exact ⟨rfl, bt B.out hb10⟩
  · skip
    obtain ⟨a2, c2, hv2, -, -⟩ := sl_form hs2
    obtain ⟨n2, hn2⟩ : ∃ n, n = (([] : List Nat)).length := ⟨_, rfl⟩
    rw [← hn2] at hv2
    subst hv2
    clear hn2
    have al2 := (Below.refl w2.heap.size w2).alloc (Nat.le_refl _) (.cells #[.int .i64 0, .int .i64 0, .slice a2 n2 c2] 27)
    have tnew : MB (w2.alloc (.cells #[.int .i64 0, .int .i64 0, .slice a2 n2 c2] 27)) 27 w2.heap.size 0 0 a2 n2 c2 (([] : List Nat)) := MB.mk' hs2
    have tMm := (Mm.out.later hb2).later al2
    have tB := bt (bt B.out hb2) al2
    clear B Mm
    have Mm := Lib.hid tMm
    have B := Lib.hid tB
    clear tB tMm
    have Ii := Lib.hid tnew
    clear tnew al2 hb2 hs2
    go_wp2_with fail
    generalize w2.alloc (.cells #[.int .i64 0, .int .i64 0, .slice a2 n2 c2] 27) = W2 at *
    refine (AW.out W2 (ST.out _ _ OK.out B.out)).mono ?_
    rintro e w3 ⟨rfl, hb3⟩
    go_wp2_with fail
    go_ret
    exact ⟨rfl, bt B.out hb3⟩
end Go.Proofs.Ytcckhgadgiaofaa.Gf
