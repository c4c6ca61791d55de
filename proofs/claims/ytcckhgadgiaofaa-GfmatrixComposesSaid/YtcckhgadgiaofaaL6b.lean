/- What is proved here: the walk of the law GfmatrixAssociates. Condition: PC3. -/
import Derived.Test.YtcckhgadgiaofaaL5
namespace Go.Proofs.Ytcckhgadgiaofaa.Gf
open Go Go.ChangeShapes Go.WideShapes Go.ChangeAt Go.RowKit Go.Sort Go.Proofs.Ytcckhgadgiaofaa.By Go.Proofs.Ytcckhgadgiaofaa.Qt

theorem sz5_pred {m : Nat} (h : 1 ≤ m ∧ m ≤ 5) : sz5 ((m : Int) - 1) = m := by unfold sz5; omega
set_option maxRecDepth 100000 in
set_option maxHeartbeats 6400000 in
theorem assoc_walk {Ok : World → Prop} (P : PC3 Ok) (p q r t : Int) (v1 v2 v3 : Value) (l1 l2 l3 : List Nat) (w : World) (hp : I64 p) (hq : I64 q) (hr : I64 r) (ht : I64 t) (s1 : Sl w v1 l1) (s2 : Sl w v2 l2) (s3 : Sl w v3 l3) (ok : Ok w) : Calls Try.prog 8 #[.int .i64 p, .int .i64 q, .int .i64 r, .int .i64 t, v1, v2, v3] w fun e w' => e = .returned (.bool true) ∧ Below w.heap.size w w' := by
  have ha5 := sz5_bd p
  have hb5 := sz5_bd q
  have hc5 := sz5_bd r
  have hd5 := sz5_bd t
  have hb1 : I64 (((sz5 q : Nat) : Int) - 1) := by unfold I64; omega
  have hc1 : I64 (((sz5 r : Nat) : Int) - 1) := by unfold I64; omega
  have m1 := fun w s => made_any p q v1 l1 w s hp hq
  have m2 := fun w s => made_any (((sz5 q : Nat) : Int) - 1) r v2 l2 w s hb1 hr
  have m3 := fun w s => made_any (((sz5 r : Nat) : Int) - 1) t v3 l3 w s hc1 ht
  rw [sz5_pred hb5] at m2
  rw [sz5_pred hc5] at m3
  have ha : 1 ≤ sz5 p ∧ sz5 p ≤ 16 := by omega
  have hb : 1 ≤ sz5 q ∧ sz5 q ≤ 16 := by omega
  have hc : 1 ≤ sz5 r ∧ sz5 r ≤ 16 := by omega
  have hd : 1 ≤ sz5 t ∧ sz5 t ≤ 16 := by omega
  have ASC : Hid (Eqm (sz5 p) (sz5 t) (mm (sz5 r) (mm (sz5 q) (mdm (sz5 q) l1) (mdm (sz5 r) l2)) (mdm (sz5 t) l3)) (mm (sz5 q) (mdm (sz5 q) l1) (mm (sz5 r) (mdm (sz5 r) l2) (mdm (sz5 t) l3)))) := mm_assoc (mdm_bd s1.1) (mdm_bd s2.1) (mdm_bd s3.1)
  have MD1 := Lib.hid m1
  have MD2 := Lib.hid m2
  have MD3 := Lib.hid m3
  have S1 := Lib.hid s1
  have S2 := Lib.hid s2
  have S3 := Lib.hid s3
  have AW := Lib.hid (fun w ok => awake_any P w ok)
  have ST := Lib.hid P.st
  have OK := Lib.hid ok
  clear s1 s2 s3 ok m1 m2 m3 hp hq hr ht hb1 hc1 ha5 hb5 hc5 hd5
  generalize mdm (sz5 q) l1 = X at *
  generalize mdm (sz5 r) l2 = Y at *
  generalize mdm (sz5 t) l3 = Z at *
  generalize sz5 p = a at *
  generalize sz5 q = b at *
  generalize sz5 r = c at *
  generalize sz5 t = d at *
  unfold mv at MD1 MD2 MD3
  go_enter Try.func8, Try.ntmps8
  go_wp2_with fail
  have B := Lib.hid (Below.refl w.heap.size w)
  refine (MD1.out w S1.out).mono ?_
  try unfold mv
  rintro e w1 ⟨⟨s1, rfl, ho1⟩, hb1⟩
  have hs1 := ho1.sl
  clear ho1
  obtain ⟨a1, c1, hv1, -, -⟩ := sl_form hs1
  obtain ⟨n1, hn1⟩ : ∃ n, n = (flat a b X).length := ⟨_, rfl⟩
  rw [← hn1] at hv1
  subst hv1
  clear hn1
  have al1 := (Below.refl w1.heap.size w1).alloc (Nat.le_refl _) (.cells #[.int .i64 (a : Int), .int .i64 (b : Int), .slice a1 n1 c1] 27)
  have tnew : MB (w1.alloc (.cells #[.int .i64 (a : Int), .int .i64 (b : Int), .slice a1 n1 c1] 27)) 27 w1.heap.size (a : Int) (b : Int) a1 n1 c1 (flat a b X) := MB.mk' hs1
  have tB := bt (bt B.out hb1) al1
  clear B 
  have B := Lib.hid tB
  clear tB 
  have Xm := Lib.hid tnew
  clear tnew al1 hb1 hs1
  obtain ⟨Xmc0, Xmc1, Xmc2⟩ := Xm.out.cells
  go_wp2_with fail
  generalize w1.alloc (.cells #[.int .i64 (a : Int), .int .i64 (b : Int), .slice a1 n1 c1] 27) = W1 at *
  clear Xmc0 Xmc1 Xmc2
  refine (MD2.out W1 (sl_below S2.out B.out)).mono ?_
  try unfold mv
  rintro e w2 ⟨⟨s2, rfl, ho2⟩, hb2⟩
  have hs2 := ho2.sl
  clear ho2
  obtain ⟨a2, c2, hv2, -, -⟩ := sl_form hs2
  obtain ⟨n2, hn2⟩ : ∃ n, n = (flat b c Y).length := ⟨_, rfl⟩
  rw [← hn2] at hv2
  subst hv2
  clear hn2
  have al2 := (Below.refl w2.heap.size w2).alloc (Nat.le_refl _) (.cells #[.int .i64 (b : Int), .int .i64 (c : Int), .slice a2 n2 c2] 27)
  have tnew : MB (w2.alloc (.cells #[.int .i64 (b : Int), .int .i64 (c : Int), .slice a2 n2 c2] 27)) 27 w2.heap.size (b : Int) (c : Int) a2 n2 c2 (flat b c Y) := MB.mk' hs2
  have tXm := (Xm.out.later hb2).later al2
  have tB := bt (bt B.out hb2) al2
  clear B Xm
  have Xm := Lib.hid tXm
  have B := Lib.hid tB
  clear tB tXm
  have Ym := Lib.hid tnew
  clear tnew al2 hb2 hs2
  obtain ⟨Ymc0, Ymc1, Ymc2⟩ := Ym.out.cells
  go_wp2_with fail
  generalize w2.alloc (.cells #[.int .i64 (b : Int), .int .i64 (c : Int), .slice a2 n2 c2] 27) = W2 at *
  clear Ymc0 Ymc1 Ymc2
  refine (MD3.out W2 (sl_below S3.out B.out)).mono ?_
  try unfold mv
  rintro e w3 ⟨⟨s3, rfl, ho3⟩, hb3⟩
  have hs3 := ho3.sl
  clear ho3
  obtain ⟨a3, c3, hv3, -, -⟩ := sl_form hs3
  obtain ⟨n3, hn3⟩ : ∃ n, n = (flat c d Z).length := ⟨_, rfl⟩
  rw [← hn3] at hv3
  subst hv3
  clear hn3
  have al3 := (Below.refl w3.heap.size w3).alloc (Nat.le_refl _) (.cells #[.int .i64 (c : Int), .int .i64 (d : Int), .slice a3 n3 c3] 27)
  have tnew : MB (w3.alloc (.cells #[.int .i64 (c : Int), .int .i64 (d : Int), .slice a3 n3 c3] 27)) 27 w3.heap.size (c : Int) (d : Int) a3 n3 c3 (flat c d Z) := MB.mk' hs3
  have tXm := (Xm.out.later hb3).later al3
  have tYm := (Ym.out.later hb3).later al3
  have tB := bt (bt B.out hb3) al3
  clear B Xm Ym
  have Xm := Lib.hid tXm
  have Ym := Lib.hid tYm
  have B := Lib.hid tB
  clear tB tXm tYm
  have Zm := Lib.hid tnew
  clear tnew al3 hb3 hs3
  obtain ⟨Xmc0, Xmc1, Xmc2⟩ := Xm.out.cells
  obtain ⟨Ymc0, Ymc1, Ymc2⟩ := Ym.out.cells
  go_wp2_with fail
  generalize w3.alloc (.cells #[.int .i64 (c : Int), .int .i64 (d : Int), .slice a3 n3 c3] 27) = W3 at *
  clear Xmc0 Xmc1 Xmc2 Ymc0 Ymc1 Ymc2
  refine (q_mul P X Y ha hb hc W3 _ _ Xm.out.sl Ym.out.sl (ST.out _ _ OK.out B.out)).mono ?_
  unfold MS mv
  rintro e w4 ⟨⟨s4, rfl, hs4⟩, hb4⟩
  obtain ⟨a4, c4, hv4, -, -⟩ := sl_form hs4
  obtain ⟨n4, hn4⟩ : ∃ n, n = (flat a c (mm b X Y)).length := ⟨_, rfl⟩
  rw [← hn4] at hv4
  subst hv4
  clear hn4
  have al4 := (Below.refl w4.heap.size w4).alloc (Nat.le_refl _) (.cells #[.int .i64 (a : Int), .int .i64 (c : Int), .slice a4 n4 c4] 27)
  have tnew : MB (w4.alloc (.cells #[.int .i64 (a : Int), .int .i64 (c : Int), .slice a4 n4 c4] 27)) 27 w4.heap.size (a : Int) (c : Int) a4 n4 c4 (flat a c (mm b X Y)) := MB.mk' hs4
  have tXm := (Xm.out.later hb4).later al4
  have tYm := (Ym.out.later hb4).later al4
  have tZm := (Zm.out.later hb4).later al4
  have tB := bt (bt B.out hb4) al4
  clear B Xm Ym Zm
  have Xm := Lib.hid tXm
  have Ym := Lib.hid tYm
  have Zm := Lib.hid tZm
  have B := Lib.hid tB
  clear tB tXm tYm tZm
  have XY := Lib.hid tnew
  clear tnew al4 hb4 hs4
  obtain ⟨Ymc0, Ymc1, Ymc2⟩ := Ym.out.cells
  obtain ⟨Zmc0, Zmc1, Zmc2⟩ := Zm.out.cells
  go_wp2_with fail
  generalize w4.alloc (.cells #[.int .i64 (a : Int), .int .i64 (c : Int), .slice a4 n4 c4] 27) = W4 at *
  clear Ymc0 Ymc1 Ymc2 Zmc0 Zmc1 Zmc2
  refine (q_mul P Y Z hb hc hd W4 _ _ Ym.out.sl Zm.out.sl (ST.out _ _ OK.out B.out)).mono ?_
  unfold MS mv
  rintro e w5 ⟨⟨s5, rfl, hs5⟩, hb5⟩
  obtain ⟨a5, c5, hv5, -, -⟩ := sl_form hs5
  obtain ⟨n5, hn5⟩ : ∃ n, n = (flat b d (mm c Y Z)).length := ⟨_, rfl⟩
  rw [← hn5] at hv5
  subst hv5
  clear hn5
  have al5 := (Below.refl w5.heap.size w5).alloc (Nat.le_refl _) (.cells #[.int .i64 (b : Int), .int .i64 (d : Int), .slice a5 n5 c5] 27)
  have tnew : MB (w5.alloc (.cells #[.int .i64 (b : Int), .int .i64 (d : Int), .slice a5 n5 c5] 27)) 27 w5.heap.size (b : Int) (d : Int) a5 n5 c5 (flat b d (mm c Y Z)) := MB.mk' hs5
  have tXm := (Xm.out.later hb5).later al5
  have tYm := (Ym.out.later hb5).later al5
  have tZm := (Zm.out.later hb5).later al5
  have tXY := (XY.out.later hb5).later al5
  have tB := bt (bt B.out hb5) al5
  clear B Xm Ym Zm XY
  have Xm := Lib.hid tXm
  have Ym := Lib.hid tYm
  have Zm := Lib.hid tZm
  have XY := Lib.hid tXY
  have B := Lib.hid tB
  clear tB tXm tYm tZm tXY
  have YZ := Lib.hid tnew
  clear tnew al5 hb5 hs5
  obtain ⟨XYc0, XYc1, XYc2⟩ := XY.out.cells
  obtain ⟨Zmc0, Zmc1, Zmc2⟩ := Zm.out.cells
  go_wp2_with fail
  generalize w5.alloc (.cells #[.int .i64 (b : Int), .int .i64 (d : Int), .slice a5 n5 c5] 27) = W5 at *
  clear XYc0 XYc1 XYc2 Zmc0 Zmc1 Zmc2
  refine (q_mul P (mm b X Y) Z ha hc hd W5 _ _ XY.out.sl Zm.out.sl (ST.out _ _ OK.out B.out)).mono ?_
  unfold MS mv
  rintro e w6 ⟨⟨s6, rfl, hs6⟩, hb6⟩
  obtain ⟨a6, c6, hv6, -, -⟩ := sl_form hs6
  obtain ⟨n6, hn6⟩ : ∃ n, n = (flat a d (mm c (mm b X Y) Z)).length := ⟨_, rfl⟩
  rw [← hn6] at hv6
  subst hv6
  clear hn6
  have al6 := (Below.refl w6.heap.size w6).alloc (Nat.le_refl _) (.cells #[.int .i64 (a : Int), .int .i64 (d : Int), .slice a6 n6 c6] 27)
  have tnew : MB (w6.alloc (.cells #[.int .i64 (a : Int), .int .i64 (d : Int), .slice a6 n6 c6] 27)) 27 w6.heap.size (a : Int) (d : Int) a6 n6 c6 (flat a d (mm c (mm b X Y) Z)) := MB.mk' hs6
  have tXm := (Xm.out.later hb6).later al6
  have tYm := (Ym.out.later hb6).later al6
  have tZm := (Zm.out.later hb6).later al6
  have tXY := (XY.out.later hb6).later al6
  have tYZ := (YZ.out.later hb6).later al6
  have tB := bt (bt B.out hb6) al6
  clear B Xm Ym Zm XY YZ
  have Xm := Lib.hid tXm
  have Ym := Lib.hid tYm
  have Zm := Lib.hid tZm
  have XY := Lib.hid tXY
  have YZ := Lib.hid tYZ
  have B := Lib.hid tB
  clear tB tXm tYm tZm tXY tYZ
  have Ll := Lib.hid tnew
  clear tnew al6 hb6 hs6
  obtain ⟨Xmc0, Xmc1, Xmc2⟩ := Xm.out.cells
  obtain ⟨YZc0, YZc1, YZc2⟩ := YZ.out.cells
  go_wp2_with fail
  generalize w6.alloc (.cells #[.int .i64 (a : Int), .int .i64 (d : Int), .slice a6 n6 c6] 27) = W6 at *
  clear Xmc0 Xmc1 Xmc2 YZc0 YZc1 YZc2
  have q1 := q_mul P X (mm c Y Z) ha hb hd W6 _ _ Xm.out.sl YZ.out.sl (ST.out _ _ OK.out B.out)
  rw [← flat_ext ASC.out] at q1
  refine (q1).mono ?_
  unfold MS mv
  rintro e w7 ⟨⟨s7, rfl, hs7⟩, hb7⟩
  obtain ⟨a7, c7, hv7, -, -⟩ := sl_form hs7
  obtain ⟨n7, hn7⟩ : ∃ n, n = (flat a d (mm c (mm b X Y) Z)).length := ⟨_, rfl⟩
  rw [← hn7] at hv7
  subst hv7
  clear hn7
  have al7 := (Below.refl w7.heap.size w7).alloc (Nat.le_refl _) (.cells #[.int .i64 (a : Int), .int .i64 (d : Int), .slice a7 n7 c7] 27)
  have tnew : MB (w7.alloc (.cells #[.int .i64 (a : Int), .int .i64 (d : Int), .slice a7 n7 c7] 27)) 27 w7.heap.size (a : Int) (d : Int) a7 n7 c7 (flat a d (mm c (mm b X Y) Z)) := MB.mk' hs7
  have tXm := (Xm.out.later hb7).later al7
  have tYm := (Ym.out.later hb7).later al7
  have tZm := (Zm.out.later hb7).later al7
  have tXY := (XY.out.later hb7).later al7
  have tYZ := (YZ.out.later hb7).later al7
  have tLl := (Ll.out.later hb7).later al7
  have tB := bt (bt B.out hb7) al7
  clear B Xm Ym Zm XY YZ Ll
  have Xm := Lib.hid tXm
  have Ym := Lib.hid tYm
  have Zm := Lib.hid tZm
  have XY := Lib.hid tXY
  have YZ := Lib.hid tYZ
  have Ll := Lib.hid tLl
  have B := Lib.hid tB
  clear tB tXm tYm tZm tXY tYZ tLl
  have Rr := Lib.hid tnew
  clear tnew al7 hb7 hs7
  obtain ⟨Llc0, Llc1, Llc2⟩ := Ll.out.cells
  obtain ⟨Rrc0, Rrc1, Rrc2⟩ := Rr.out.cells
  go_wp2_with fail
  generalize w7.alloc (.cells #[.int .i64 (a : Int), .int .i64 (d : Int), .slice a7 n7 c7] 27) = W7 at *
  clear Llc0 Llc1 Llc2 Rrc0 Rrc1 Rrc2
  refine (equal_any (a : Int) (d : Int) (a : Int) (d : Int) _ _ (flat a d (mm c (mm b X Y) Z)) (flat a d (mm c (mm b X Y) Z)) W7 Ll.out.sl Rr.out.sl).mono ?_
  rw [decide_eq_true (show (a : Int) = (a : Int) ∧ (d : Int) = (d : Int) ∧ (flat a d (mm c (mm b X Y) Z)) = (flat a d (mm c (mm b X Y) Z)) from ⟨rfl, rfl, rfl⟩)]
  rintro e W8 ⟨rfl, hb8⟩
  have tXm := Xm.out.later hb8
  have tYm := Ym.out.later hb8
  have tZm := Zm.out.later hb8
  have tXY := XY.out.later hb8
  have tYZ := YZ.out.later hb8
  have tLl := Ll.out.later hb8
  have tRr := Rr.out.later hb8
  have tB := bt B.out hb8
  clear B Xm Ym Zm XY YZ Ll Rr
  have Xm := Lib.hid tXm
  have Ym := Lib.hid tYm
  have Zm := Lib.hid tZm
  have XY := Lib.hid tXY
  have YZ := Lib.hid tYZ
  have Ll := Lib.hid tLl
  have Rr := Lib.hid tRr
  have B := Lib.hid tB
  clear tB tXm tYm tZm tXY tYZ tLl tRr
  clear hb8
  go_wp2_with fail
  refine (AW.out W8 (ST.out _ _ OK.out B.out)).mono ?_
  rintro e w9 ⟨rfl, hb9⟩
  go_wp2_with fail
  go_ret
  exact ⟨rfl, bt B.out hb9⟩
end Go.Proofs.Ytcckhgadgiaofaa.Gf
