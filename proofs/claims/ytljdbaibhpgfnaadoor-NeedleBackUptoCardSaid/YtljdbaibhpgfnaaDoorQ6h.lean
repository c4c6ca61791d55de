/- What is proved here: the walk of the law NeedleBack, over what it asks of the program. No condition. -/
import Derived.Test.YtljdbaibhpgfnaaDoorQ6g
namespace Go.Proofs.YtljdbaibhpgfnaaDoor.Gf
open Go Go.Joins Go.ChangeShapes Go.WideShapes Go.ChangeAt Go.RowKit Go.Deep Go.Proofs.YtljdbaibhpgfnaaDoor.By Go.Proofs.YtljdbaibhpgfnaaDoor.Crc Go.Proofs.YtljdbaibhpgfnaaDoor.Qt

set_option maxRecDepth 100000 in
set_option maxHeartbeats 6400000 in
theorem back_walk {Ok : World → Prop} (P : PC6 Ok) (v u : Value) (x : Ndl) (T : List Nat) (hT : T.length ≤ 1048576) (w : World) (hw : Ok w) (h : Nd w v x) (hu : Sl w u T) : Calls Tryd.prog 6 #[v, u] w fun e w' => e = .returned (.bool true) ∧ Below w.heap.size w w' := by
  have PS := Lib.hid P.size
  have PV := Lib.hid P.valid
  have PD := Lib.hid P.dec
  have PE := Lib.hid P.enc
  have ST := Lib.hid (fun (W W' : World) => P.st (w := W) (w' := W'))
  have AW := Lib.hid (awake6_any P)
  clear P
  have HN := Lib.hid (fun W (hB : Below w.heap.size w W) => nd_below h hB)
  obtain ⟨s, rfl, -, -, h3⟩ := h
  obtain ⟨sa, sc, rfl, -, -⟩ := sl_form h3
  clear h3
  generalize x.data.length = xn at *
  obtain ⟨ua, uc, rfl, -, -⟩ := sl_form hu
  have HU := Lib.hid (fun W (hB : Below w.heap.size w W) => sl_below hu hB)
  have HT := Lib.hid hT
  clear hu hT
  have B0 := Lib.hid ((Below.refl w.heap.size w).alloc (Nat.le_refl _) (.cells #[.int .u64 (x.key : Int), .int .u32 (x.cookie : Int), .bool x.del, .slice sa xn sc] 26))
  have X0 := Lib.hid (heap_alloc_new w (.cells #[.int .u64 (x.key : Int), .int .u32 (x.cookie : Int), .bool x.del, .slice sa xn sc] 26))
  go_enter Tryd.func6, Tryd.ntmps6
  go_wp2_with fail
  refine (cut6_all _ x _ (HN.out _ B0.out)).mono ?_
  rintro e w1 ⟨⟨v1, rfl, hc⟩, hb1⟩
  have hx1 := (hb1.block w.heap.size (lt_of_some X0.out)).trans X0.out
  have hnd := fun W (hB : Below w.heap.size w W) => hc W (HN.out W hB)
  have HO := Lib.hid (nd_ok (hnd _ (Below.refl _ _)))
  clear hc HN
  generalize cutN x = X at *
  obtain ⟨s1, rfl, -, -, hs1⟩ := hnd _ (Below.refl _ _)
  obtain ⟨a1, c1, rfl, -, -⟩ := sl_form hs1
  clear hs1
  obtain ⟨dn, hdn⟩ : ∃ dn, dn = X.data.length := ⟨_, rfl⟩
  obtain ⟨key, hkey⟩ : ∃ k, k = X.key := ⟨_, rfl⟩
  obtain ⟨ck, hck⟩ : ∃ k, k = X.cookie := ⟨_, rfl⟩
  obtain ⟨dl, hdl⟩ : ∃ k, k = X.del := ⟨_, rfl⟩
  rw [← hdn, ← hkey, ← hck, ← hdl] at hnd ⊢
  have HND := Lib.hid hnd
  have HDN := Lib.hid hdn
  have HK := Lib.hid (And.intro hkey (And.intro hck hdl))
  clear hnd hdn hkey hck hdl
  have hx2 := set4 (k := .int .u64 (key : Int)) (l := .int .u32 (ck : Int)) (m := .bool dl) (n := .slice a1 dn c1) hx1
  have hb2 := below4 (k := .int .u64 (key : Int)) (l := .int .u32 (ck : Int)) (m := .bool dl) (n := .slice a1 dn c1) (bt B0.out hb1) (Nat.le_refl w.heap.size)
  have z0 := frozen_of_row w1 w.heap.size 0 _ _ hx1
  have z1 := frozen_of_row w1 w.heap.size 1 _ _ hx1
  have z2 := frozen_of_row w1 w.heap.size 2 _ _ hx1
  have z3 := frozen_of_row w1 w.heap.size 3 _ _ hx1
  obtain ⟨y0, y1, y2, y3⟩ := bx_cell hx1
  have X2 := Lib.hid hx2
  have B2 := Lib.hid hb2
  clear hx1 hx2 hb1 hb2 B0 X0
  go_wp2_with fail
  refine (PE.out _ X _ (ST.out _ _ hw B2.out) (HND.out _ B2.out)).mono ?_
  clear z0 z1 z2 z3 y0 y1 y2 y3
  generalize ((((w1.setCell ⟨w.heap.size, 0, none⟩ (.int .u64 (key : Int))).setCell ⟨w.heap.size, 1, none⟩ (.int .u32 (ck : Int))).setCell ⟨w.heap.size, 2, none⟩ (.bool dl)).setCell ⟨w.heap.size, 3, none⟩ (.slice a1 dn c1)) = W2 at *
  rintro e w2 ⟨⟨s2, rfl, hs⟩, hb3⟩
  have hx3 := (hb3.block w.heap.size (lt_of_some X2.out)).trans X2.out
  have B3 := Lib.hid (bt B2.out hb3)
  have X3 := Lib.hid hx3
  obtain ⟨q0, q1, q2, q3⟩ := bx_cell hx3
  clear hb3 B2 X2 PE
  go_wp2_with fail
  refine (PV.out _ X _ (ST.out _ _ hw B3.out) (HND.out _ B3.out)).mono ?_
  clear hx3 q0 q1 q2 q3
  rw [okB_enc X]
  rintro e w3 ⟨rfl, hb4⟩
  have X4 := Lib.hid ((hb4.block w.heap.size (lt_of_some X3.out)).trans X3.out)
  have B4 := Lib.hid (bt B3.out hb4)
  have hs := sl_below hs hb4
  clear hb4 B3 X3 PV
  by_cases hE : encE X = 0
  · rw [show encL X = recL X by unfold encL; rw [if_pos hE]] at hs
    have hE' := hE
    rw [hE', show decide ((0 : Nat) = 0) = true from rfl]
    have hge := szR_ge X.data.length
    obtain ⟨R, hR⟩ : ∃ R, R = szR X.data.length := ⟨_, rfl⟩
    have hlen : (recL X).length = R := by rw [recL_length, hR]
    have hdl := (enc_ok hE).1
    have hle : R ≤ 4128 := by
      have h2 := szR_lt X.data.length
      omega
    obtain ⟨b, o, c, hv, hc1, hc2, -⟩ := sl_cells hs (by omega)
    rw [hlen] at hv hc1
    subst hv
    have HS := Lib.hid hs
    have HL := Lib.hid (And.intro hlen (And.intro hle (And.intro hR hdl)))
    have HE := Lib.hid hE
    have OE := Lib.hid (own_empty w3 (Nat.le_refl w3.heap.size))
    have BE := Lib.hid ((Below.refl w3.heap.size w3).alloc (Nat.le_refl _) (.cells #[] 5))
    clear hs hlen hle hR hdl hE hE' hge hc1 hc2
    go_wp2_with (first
      | (at_builtin; refine app_sl (dst := some 33) ?_ ?_ OE.out (sl_below HS.out BE.out) (by have := HL.out.1; have := HL.out.2.1; simp; omega) (by simp) ?_; exact rfl; exact rfl; intro v5 w5 ho5 hg5; rw [List.nil_append] at ho5; have B5 := Lib.hid (BE.out.grown hg5 BE.out.size fun q hq => by have := OE.out.lt q hq; omega); have O5 := Lib.hid ho5; clear ho5 hg5)
      | (at_builtin; refine app_sl (dst := some 35) ?_ ?_ O5.out (HU.out _ (bt B4.out B5.out)) (by have := HL.out.1; have := HL.out.2.1; have := HT.out; omega) B5.out.size ?_; exact rfl; exact rfl; intro v6 w6 ho6 hg6; have B6 := Lib.hid (B5.out.grown hg6 B5.out.size fun q hq => by have := O5.out.lt q hq; omega); have O6 := Lib.hid ho6; clear ho6 hg6))
    have B7 := Lib.hid (bt B4.out B6.out)
    have hx6 := (B6.out.block w.heap.size (lt_of_some X4.out)).trans X4.out
    have X6 := Lib.hid hx6
    obtain ⟨d1, d2, d3⟩ := dec_rec HO.out HE.out T
    refine (PD.out v6 (recL X ++ T) w6 (ST.out _ _ hw B7.out) O6.out.sl).mono ?_
    rw [d1, d2, d3, ← HL.out.2.2.1]
    unfold ED
    rintro e w7 ⟨⟨v7, rfl, s4, rfl, -, -, hs4⟩, hb7⟩
    rw [← HK.out.1, ← HK.out.2.1, ← HK.out.2.2]
    obtain ⟨a4, c4, rfl, -, -⟩ := sl_form hs4
    rw [← HDN.out]
    rw [← HDN.out] at hs4
    have C7 := Lib.hid (hb7.alloc hb7.size (.cells #[.int .u64 (key : Int), .int .u32 (ck : Int), .bool dl, .slice a4 dn c4] 26))
    have H8 := Lib.hid (heap_alloc_new w7 (.cells #[.int .u64 (key : Int), .int .u32 (ck : Int), .bool dl, .slice a4 dn c4] 26))
    have hx8 := (C7.out.block w.heap.size (lt_of_some X6.out)).trans X6.out
    have hs8 := sl_below hs4 ((Below.refl w7.heap.size w7).alloc (Nat.le_refl _) (.cells #[.int .u64 (key : Int), .int .u32 (ck : Int), .bool dl, .slice a4 dn c4] 26))
    have B8 := Lib.hid (bt B7.out C7.out)
    clear hx6 d1 d2 d3 hs4 hb7 C7 B7 O6 B6 O5 B5 OE BE PD HU HT HS X4 B4
    obtain ⟨q0, q1, q2, q3⟩ := bx_cell hx8
    go_wp2_with fail
    refine (PS.out (dn : Int) _ (ST.out _ _ hw B8.out) (by have := HDN.out; have := HL.out.2.2.2; unfold I64b; omega)).mono ?_
    rw [szI6_nat (n := dn) (by have := HDN.out; have := HL.out.2.2.2; omega), show szR dn = R by rw [HL.out.2.2.1, ← HDN.out]]
    clear q0 q1 q2 q3
    generalize w7.alloc (.cells #[.int .u64 (key : Int), .int .u32 (ck : Int), .bool dl, .slice a4 dn c4] 26) = W8 at *
    rintro e w9 ⟨rfl, hb9⟩
    have B9 := Lib.hid (bt B8.out hb9)
    have hx9 := (hb9.block w.heap.size (lt_of_some hx8)).trans hx8
    have hy9 := (hb9.block w7.heap.size (lt_of_some H8.out)).trans H8.out
    obtain ⟨s5, he5, -, -, hs5⟩ := HND.out _ B9.out
    obtain rfl : .slice a1 dn c1 = s5 := by
      simp at he5
      exact he5.2.2.2
    have k1 := conv_sl (sl_below hs8 hb9)
    have k2 := conv_sl hs5
    generalize strOf X.data = t at k1 k2
    have m8 : (R : Int).tmod 8 = 0 := by
      rw [Int.tmod_eq_emod_of_nonneg (by omega), HL.out.2.2.1]
      unfold szR
      omega
    obtain ⟨q0, q1, q2, q3⟩ := bx_cell hx9
    obtain ⟨p0, p1, p2, p3⟩ := bx_cell hy9
    clear hs5 hs8 he5 hb9 B8 HL HDN HK HO HND X6 H8 HE hx8
    go_wp2_with fail
    refine (AW.out _ (ST.out _ _ hw B9.out)).mono ?_
    rintro e w10 ⟨rfl, hb10⟩
    have B10 := Lib.hid (bt B9.out hb10)
    clear hb10 B9
    go_wp2_with fail
    go_ret
    exact ⟨rfl, B10.out⟩
  · obtain ⟨E, hE2⟩ : ∃ E, E = encE X := ⟨_, rfl⟩
    rw [show encL X = [] by unfold encL; rw [if_neg hE]] at hs
    rw [show decide (encE X = 0) = false from decide_eq_false hE]
    rw [← hE2] at hE ⊢
    have g1 : ((E : Int) != 0) = true := bne_iff_ne.2 (by omega)
    obtain ⟨a2, c2, rfl, -, -⟩ := sl_form hs
    rw [show ([] : List Nat).length = 0 from rfl]
    clear hs HO hE hE2 PD
    go_wp2_with fail
    refine (AW.out _ (ST.out _ _ hw B4.out)).mono ?_
    rintro e w5 ⟨rfl, hb5⟩
    have B5 := Lib.hid (bt B4.out hb5)
    clear hb5 B4
    go_wp2_with fail
    go_ret
    exact ⟨rfl, B5.out⟩
end Go.Proofs.YtljdbaibhpgfnaaDoor.Gf
