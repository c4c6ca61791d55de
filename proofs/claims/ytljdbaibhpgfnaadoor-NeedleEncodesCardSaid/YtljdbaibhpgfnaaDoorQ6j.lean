/- What is proved here: the walk of the law NeedleEncodes, over what it asks of the program. No condition. -/
import Derived.Test.YtljdbaibhpgfnaaDoorQ6g
namespace Go.Proofs.YtljdbaibhpgfnaaDoor.Gf
open Go Go.Joins Go.ChangeShapes Go.WideShapes Go.ChangeAt Go.RowKit Go.Deep Go.Proofs.YtljdbaibhpgfnaaDoor.By Go.Proofs.YtljdbaibhpgfnaaDoor.Crc Go.Proofs.YtljdbaibhpgfnaaDoor.Qt

theorem wp_make {dst : Option Tmp} {x : Operand} {pos : String} {after : Array Edge} {ty : TypeId} {gd : Option (Nat × Bool)} {a : Act} {W : World} {K : Act → World → Prop} {Q : Exit → Act → World → Prop} {n : Nat}
    (hx : a.eval x = .int .i64 (n : Int)) (hn : n ≤ 100000000)
    (h : K (a.put dst (.slice (some ⟨W.heap.size, 0, none⟩) n n)) (W.alloc (.cells (cellsOf (List.replicate n 0)).toArray 5))) : Oper.wp Tryd.prog ⟨dst, .makeSlice 24 x x, ty, pos, after, gd⟩ a W K Q := by
  obtain ⟨i, hi, hz0, hz1, hz2⟩ := info_parts infoB
  have hr := run_make (P := Tryd.prog) W 24 5 i (.int .u8 0) Tryd.underlying24 hi hz0 .i64 .i64 (n : Int) (n : Int) (by omega) (Int.le_refl _) (by rw [hz2]; omega) (by omega)
  simp only [Int.toNat_natCast, hz1, Nat.mul_one] at hr
  have hc : madeCells (Value.int .u8 0).cells n = (cellsOf (List.replicate n 0)).toArray := by
    apply Array.ext'
    rw [show (Value.int .u8 0).cells = #[Value.int .u8 0] from rfl, toList_madeCells_one]
    simp [cellsOf]
  rw [hc] at hr
  unfold Oper.wp execOp
  simp only [hx, Sem.run_bind, Sem.run_pure, hr, Result.andThen_ok]
  exact h
theorem own1 {W : World} {B g k : Nat} {v z : Value} {L : List Nat} (h : Own W B v L) (hg : g < B) : Own (W.setCell ⟨g, k, none⟩ z) B v L :=
  own_keep h fun q hq => by
    have := h.lt q hq
    have hne : q ≠ g := by omega
    rw [heap_setCell_other _ _ _ _ hne]
set_option maxRecDepth 100000 in
set_option maxHeartbeats 6400000 in
theorem encodes_walk {Ok : World → Prop} (P : PC6 Ok) (v : Value) (x : Ndl) (large : Bool) (w : World) (hw : Ok w) (h : Nd w v x) : Calls Tryd.prog 4 #[v, .bool large] w fun e w' => e = .returned (.bool true) ∧ Below w.heap.size w w' := by
  have PE := Lib.hid P.enc
  have ST := Lib.hid (fun (W W' : World) => P.st (w := W) (w' := W'))
  have AW := Lib.hid (awake6_any P)
  clear P
  have HN := Lib.hid (fun W (hB : Below w.heap.size w W) => nd_below h hB)
  obtain ⟨s, rfl, -, -, h3⟩ := h
  obtain ⟨sa, sc, rfl, -, -⟩ := sl_form h3
  clear h3
  generalize x.data.length = xn at *
  cases large
  case false =>
    have B0 := Lib.hid ((Below.refl w.heap.size w).alloc (Nat.le_refl _) (.cells #[.int .u64 (x.key : Int), .int .u32 (x.cookie : Int), .bool x.del, .slice sa xn sc] 26))
    have X0 := Lib.hid (heap_alloc_new w (.cells #[.int .u64 (x.key : Int), .int .u32 (x.cookie : Int), .bool x.del, .slice sa xn sc] 26))
    go_enter Tryd.func4, Tryd.ntmps4
    go_wp2_with fail
    refine (cut6_all _ x _ (HN.out _ B0.out)).mono ?_
    rintro e w1 ⟨⟨v1, rfl, hc⟩, hb1⟩
    have hx1 := (hb1.block w.heap.size (lt_of_some X0.out)).trans X0.out
    have hnd := fun W (hB : Below w.heap.size w W) => hc W (HN.out W hB)
    have HO := Lib.hid (nd_ok (hnd _ (Below.refl _ _)))
    clear hc HN
    have HLEN := Lib.hid (show (cutN x).data.length ≤ 6000 by unfold cutN; simp; omega)
    generalize cutN x = X at *
    obtain ⟨s1, rfl, -, -, hs1⟩ := hnd _ (Below.refl _ _)
    obtain ⟨a1, c1, rfl, -, -⟩ := sl_form hs1
    clear hs1
    obtain ⟨dn, hdn⟩ : ∃ dn, dn = X.data.length := ⟨_, rfl⟩
    obtain ⟨key, hkey⟩ : ∃ k, k = X.key := ⟨_, rfl⟩
    obtain ⟨ck, hck⟩ : ∃ k, k = X.cookie := ⟨_, rfl⟩
    obtain ⟨dl, hdl⟩ : ∃ k, k = X.del := ⟨_, rfl⟩
    rw [← hdn, ← hkey, ← hck, ← hdl] at hnd ⊢
    have HND := Lib.hid hnd
    have HDN := Lib.hid hdn
    have HK := Lib.hid (And.intro hkey (And.intro hck hdl))
    clear hnd hdn hkey hck hdl
    have hx2 := set4 (k := .int .u64 (key : Int)) (l := .int .u32 (ck : Int)) (m := .bool dl) (n := .slice a1 dn c1) hx1
    have hb2 := below4 (k := .int .u64 (key : Int)) (l := .int .u32 (ck : Int)) (m := .bool dl) (n := .slice a1 dn c1) (bt B0.out hb1) (Nat.le_refl w.heap.size)
    have z0 := frozen_of_row w1 w.heap.size 0 _ _ hx1
    have z1 := frozen_of_row w1 w.heap.size 1 _ _ hx1
    have z2 := frozen_of_row w1 w.heap.size 2 _ _ hx1
    have z3 := frozen_of_row w1 w.heap.size 3 _ _ hx1
    obtain ⟨y0, y1, y2, y3⟩ := bx_cell hx1
    have X2 := Lib.hid hx2
    have B2 := Lib.hid hb2
    clear hx1 hx2 hb1 hb2 B0 X0
    go_wp2_with fail

    have HY := Lib.hid (fun W (hB : Below (((((w1.setCell ⟨w.heap.size, 0, none⟩ (.int .u64 (key : Int))).setCell ⟨w.heap.size, 1, none⟩ (.int .u32 (ck : Int))).setCell ⟨w.heap.size, 2, none⟩ (.bool dl)).setCell ⟨w.heap.size, 3, none⟩ (.slice a1 dn c1))).heap.size ((((w1.setCell ⟨w.heap.size, 0, none⟩ (.int .u64 (key : Int))).setCell ⟨w.heap.size, 1, none⟩ (.int .u32 (ck : Int))).setCell ⟨w.heap.size, 2, none⟩ (.bool dl)).setCell ⟨w.heap.size, 3, none⟩ (.slice a1 dn c1)) W) => HND.out W (bt B2.out hB))
    have X3 := X2
    have B3 := B2
    obtain ⟨Y, hY⟩ : ∃ Y, Y = X := ⟨_, rfl⟩
    rw [← hY] at HY
    clear X2 B2 HND hY
    refine (PE.out _ Y _ (ST.out _ _ hw B3.out) (HY.out _ (Below.refl _ _))).mono ?_
    rintro e w4 ⟨⟨s4, rfl, hs4⟩, hb4⟩
    have B4 := Lib.hid (bt B3.out hb4)
    have hx4 := (hb4.block w.heap.size (lt_of_some X3.out)).trans X3.out
    have hnd4 := HY.out _ hb4
    obtain ⟨q0, q1, q2, q3⟩ := bx_cell hx4
    clear hb4 X3 B3 HY
    go_wp2_with fail
    refine (rencode_any _ Y _ hnd4).mono ?_
    unfold EO
    rintro e w5 ⟨⟨s5, rfl, hs5⟩, hb5⟩
    have B5 := Lib.hid (bt B4.out hb5)
    have k1 := conv_sl (sl_below hs4 hb5)
    have k2 := conv_sl hs5.sl
    obtain ⟨a4, c4, rfl, -, -⟩ := sl_form hs4
    obtain ⟨a5, c5, rfl, -, -⟩ := sl_form hs5.sl
    generalize strOf (encL Y) = t at k1 k2
    generalize (encL Y).length = R at *
    generalize encE Y = E at *
    clear hs4 hs5 hb5 q0 q1 q2 q3 hx4 hnd4 B4
    go_wp2_with fail
    refine (AW.out _ (ST.out _ _ hw B5.out)).mono ?_
    rintro e w6 ⟨rfl, hb6⟩
    have B6 := Lib.hid (bt B5.out hb6)
    clear hb6 B5
    go_wp2_with fail
    go_ret
    exact ⟨rfl, B6.out⟩

  case true =>
    have B0 := Lib.hid ((Below.refl w.heap.size w).alloc (Nat.le_refl _) (.cells #[.int .u64 (x.key : Int), .int .u32 (x.cookie : Int), .bool x.del, .slice sa xn sc] 26))
    have X0 := Lib.hid (heap_alloc_new w (.cells #[.int .u64 (x.key : Int), .int .u32 (x.cookie : Int), .bool x.del, .slice sa xn sc] 26))
    go_enter Tryd.func4, Tryd.ntmps4
    go_wp2_with fail
    refine (cut6_all _ x _ (HN.out _ B0.out)).mono ?_
    rintro e w1 ⟨⟨v1, rfl, hc⟩, hb1⟩
    have hx1 := (hb1.block w.heap.size (lt_of_some X0.out)).trans X0.out
    have hnd := fun W (hB : Below w.heap.size w W) => hc W (HN.out W hB)
    have HO := Lib.hid (nd_ok (hnd _ (Below.refl _ _)))
    clear hc HN
    have HLEN := Lib.hid (show (cutN x).data.length ≤ 6000 by unfold cutN; simp; omega)
    generalize cutN x = X at *
    obtain ⟨s1, rfl, -, -, hs1⟩ := hnd _ (Below.refl _ _)
    obtain ⟨a1, c1, rfl, -, -⟩ := sl_form hs1
    clear hs1
    obtain ⟨dn, hdn⟩ : ∃ dn, dn = X.data.length := ⟨_, rfl⟩
    obtain ⟨key, hkey⟩ : ∃ k, k = X.key := ⟨_, rfl⟩
    obtain ⟨ck, hck⟩ : ∃ k, k = X.cookie := ⟨_, rfl⟩
    obtain ⟨dl, hdl⟩ : ∃ k, k = X.del := ⟨_, rfl⟩
    rw [← hdn, ← hkey, ← hck, ← hdl] at hnd ⊢
    have HND := Lib.hid hnd
    have HDN := Lib.hid hdn
    have HK := Lib.hid (And.intro hkey (And.intro hck hdl))
    clear hnd hdn hkey hck hdl
    have hx2 := set4 (k := .int .u64 (key : Int)) (l := .int .u32 (ck : Int)) (m := .bool dl) (n := .slice a1 dn c1) hx1
    have hb2 := below4 (k := .int .u64 (key : Int)) (l := .int .u32 (ck : Int)) (m := .bool dl) (n := .slice a1 dn c1) (bt B0.out hb1) (Nat.le_refl w.heap.size)
    have z0 := frozen_of_row w1 w.heap.size 0 _ _ hx1
    have z1 := frozen_of_row w1 w.heap.size 1 _ _ hx1
    have z2 := frozen_of_row w1 w.heap.size 2 _ _ hx1
    have z3 := frozen_of_row w1 w.heap.size 3 _ _ hx1
    obtain ⟨y0, y1, y2, y3⟩ := bx_cell hx1
    have X2 := Lib.hid hx2
    have B2 := Lib.hid hb2
    clear hx1 hx2 hb1 hb2 B0 X0
    go_wp2_with fail

    clear z0 z1 z2 z3 y0 y1 y2 y3
    generalize ((((w1.setCell ⟨w.heap.size, 0, none⟩ (.int .u64 (key : Int))).setCell ⟨w.heap.size, 1, none⟩ (.int .u32 (ck : Int))).setCell ⟨w.heap.size, 2, none⟩ (.bool dl)).setCell ⟨w.heap.size, 3, none⟩ (.slice a1 dn c1)) = W2 at *
    refine wp_onlyN ?_
    have BW := Lib.hid (Below.refl W2.heap.size W2).drew
    refine wp_region_headsS (fun w' => Below w.heap.size w w') [] 6 (by kernel_rfl) (fun _ _ _ _ _ h => h.elim) (by kernel_rfl) (by rfl) (by rfl) (bt B2.out BW.out) ?_
    simp only [pickOps, List.filterMap_nil]
    refine wpHeads_nil ?_
    generalize W2.drew = w3 at *
    refine wpAnyH_take (i := 1) (v := .pointer (some ⟨w.heap.size, 3, none⟩)) rfl (by kernel_rfl) (by kernel_rfl) (by kernel_rfl) (fun _ _ _ h => h) (Or.inl ⟨by rfl, fun w' hw' => by go_simp⟩) (bt B2.out BW.out) ?_
    refine held_two 0 2 rfl rfl rfl rfl (by kernel_rfl) (fun K hK => ?_) (fun K hK => ?_)
    · refine wp_make (n := 4095) rfl (by decide) ?_
      have OM := Lib.hid (own_made w3 (base := W2.heap.size) (n := 4095) BW.out.size (by unfold maxLen; decide))
      have BM := Lib.hid (BW.out.alloc BW.out.size (.cells (cellsOf (List.replicate 4095 0)).toArray 5))
      refine hK _ _ (bt B2.out BM.out) ?_
      clear hK K
      generalize w3.alloc (.cells (cellsOf (List.replicate 4095 0)).toArray 5) = w4 at *
      refine held_g 2 rfl (by rfl) (by kernel_rfl) fun K hK => ?_
      have hx4 := (BM.out.block w.heap.size (lt_of_some X2.out)).trans X2.out
      obtain ⟨q0, q1, q2, q3⟩ := bx_cell hx4
      go_simp
      refine hK _ _ (bt B2.out BM.out) ?_
      clear hK K hx4 q0 q1 q2 q3
      have LM := Lib.hid (HLEN.out)
      obtain ⟨s5, he5, -, -, hs5⟩ := HND.out _ (bt B2.out BM.out)
      obtain rfl : .slice a1 dn c1 = s5 := by
        simp at he5
        exact he5.2.2.2
      refine held_g 3 rfl (by rfl) (by kernel_rfl) fun K hK => ?_
      refine wp_app (l := List.replicate 4095 0) (m := X.data) rfl rfl OM.out hs5 (by have := LM.out; simp only [List.length_replicate]; omega) BM.out.size ?_
      intro v5 w5 ho5 hg5
      have BN := Lib.hid (BM.out.grown hg5 BM.out.size fun q hq => by have := OM.out.lt q hq; omega)
      refine hK _ _ (bt B2.out BN.out) ?_
      clear hK K hs5 he5 hg5
      obtain ⟨a5, n5, c5, rfl, -⟩ := own_form ho5
      refine held_g 4 rfl (by rfl) (by kernel_rfl) fun K hK => ?_
      go_simp
      refine hK _ _ (bt B2.out BN.out) ?_
      clear hK K
      have hx5 := (BN.out.block w.heap.size (lt_of_some X2.out)).trans X2.out
      have z3 := frozen_of_row w5 w.heap.size 3 _ _ hx5
      obtain ⟨y0, y1, y2, y3⟩ := bx_cell hx5
      refine held_g 5 rfl (by rfl) (by kernel_rfl) fun K hK => ?_
      go_simp
      have B3 := Lib.hid ((bt B2.out BN.out).setCell (p := ⟨w.heap.size, 3, none⟩) (Nat.le_refl _) (.slice a5 n5 c5))
      refine hK _ _ B3.out ?_
      clear hK K y0 y1 y2 y3 z3
      have X3 := Lib.hid (show (w5.setCell ⟨w.heap.size, 3, none⟩ (.slice a5 n5 c5)).heap[w.heap.size]? = some (.cells #[.int .u64 (key : Int), .int .u32 (ck : Int), .bool dl, .slice a5 n5 c5] 26 (0, 0)) by have h := heap_setCell_same w5 w.heap.size 3 _ _ (.slice a5 n5 c5) hx5; simpa using h)
      have ho3 := (own1 (k := 3) (z := .slice a5 n5 c5) ho5 (lt_of_some X2.out)).sl
      refine wpAnyH_done (by kernel_rfl) ?_ _
      unfold onlyN
      dsimp only
      generalize w5.setCell ⟨w.heap.size, 3, none⟩ (.slice a5 n5 c5) = W3 at *
      obtain ⟨Y, hY⟩ : ∃ Y, Y = (⟨key, ck, dl, List.replicate 4095 0 ++ X.data⟩ : Ndl) := ⟨_, rfl⟩
      have HY := Lib.hid (fun W (hB : Below W3.heap.size W3 W) => (show Nd W (.agg #[.int .u64 (key : Int), .int .u32 (ck : Int), .bool dl, .slice a5 n5 c5]) Y by
        rw [hY]
        exact ⟨_, rfl, by rw [show key = X.key from HK.out.1]; exact HO.out.1, by rw [show ck = X.cookie from HK.out.2.1]; exact HO.out.2.1, sl_below ho3 hB⟩))
      obtain ⟨q0, q1, q2, q3⟩ := bx_cell X3.out
      clear ho3 ho5 hx5 hY OM BM BN X2 B2 HND LM HLEN HK HDN HO
      go_wp2_with fail
      clear q0 q1 q2 q3
      refine (PE.out _ Y _ (ST.out _ _ hw B3.out) (HY.out _ (Below.refl _ _))).mono ?_
      rintro e w4 ⟨⟨s4, rfl, hs4⟩, hb4⟩
      have B4 := Lib.hid (bt B3.out hb4)
      have hx4 := (hb4.block w.heap.size (lt_of_some X3.out)).trans X3.out
      have hnd4 := HY.out _ hb4
      obtain ⟨q0, q1, q2, q3⟩ := bx_cell hx4
      clear hb4 X3 B3 HY
      go_wp2_with fail
      refine (rencode_any _ Y _ hnd4).mono ?_
      unfold EO
      rintro e w5 ⟨⟨s5, rfl, hs5⟩, hb5⟩
      have B5 := Lib.hid (bt B4.out hb5)
      have k1 := conv_sl (sl_below hs4 hb5)
      have k2 := conv_sl hs5.sl
      obtain ⟨a4, c4, rfl, -, -⟩ := sl_form hs4
      obtain ⟨a5, c5, rfl, -, -⟩ := sl_form hs5.sl
      generalize strOf (encL Y) = t at k1 k2
      generalize (encL Y).length = R at *
      generalize encE Y = E at *
      clear hs4 hs5 hb5 q0 q1 q2 q3 hx4 hnd4 B4
      go_wp2_with fail
      refine (AW.out _ (ST.out _ _ hw B5.out)).mono ?_
      rintro e w6 ⟨rfl, hb6⟩
      have B6 := Lib.hid (bt B5.out hb6)
      clear hb6 B5
      go_wp2_with fail
      go_ret
      exact ⟨rfl, B6.out⟩

    · have hx4 := (BW.out.block w.heap.size (lt_of_some X2.out)).trans X2.out
      obtain ⟨q0, q1, q2, q3⟩ := bx_cell hx4
      go_simp
      refine hK _ _ (bt B2.out BW.out) ?_
      clear hK K hx4 q0 q1 q2 q3
      refine held_g 0 rfl (by rfl) (by kernel_rfl) fun K hK => ?_
      refine wp_make (n := 4095) rfl (by decide) ?_
      have OM := Lib.hid (own_made w3 (base := W2.heap.size) (n := 4095) BW.out.size (by unfold maxLen; decide))
      have BM := Lib.hid (BW.out.alloc BW.out.size (.cells (cellsOf (List.replicate 4095 0)).toArray 5))
      refine hK _ _ (bt B2.out BM.out) ?_
      clear hK K
      generalize w3.alloc (.cells (cellsOf (List.replicate 4095 0)).toArray 5) = w4 at *
      have LM := Lib.hid (HLEN.out)
      obtain ⟨s5, he5, -, -, hs5⟩ := HND.out _ (bt B2.out BM.out)
      obtain rfl : .slice a1 dn c1 = s5 := by
        simp at he5
        exact he5.2.2.2
      refine held_g 3 rfl (by rfl) (by kernel_rfl) fun K hK => ?_
      refine wp_app (l := List.replicate 4095 0) (m := X.data) rfl rfl OM.out hs5 (by have := LM.out; simp only [List.length_replicate]; omega) BM.out.size ?_
      intro v5 w5 ho5 hg5
      have BN := Lib.hid (BM.out.grown hg5 BM.out.size fun q hq => by have := OM.out.lt q hq; omega)
      refine hK _ _ (bt B2.out BN.out) ?_
      clear hK K hs5 he5 hg5
      obtain ⟨a5, n5, c5, rfl, -⟩ := own_form ho5
      refine held_g 4 rfl (by rfl) (by kernel_rfl) fun K hK => ?_
      go_simp
      refine hK _ _ (bt B2.out BN.out) ?_
      clear hK K
      have hx5 := (BN.out.block w.heap.size (lt_of_some X2.out)).trans X2.out
      have z3 := frozen_of_row w5 w.heap.size 3 _ _ hx5
      obtain ⟨y0, y1, y2, y3⟩ := bx_cell hx5
      refine held_g 5 rfl (by rfl) (by kernel_rfl) fun K hK => ?_
      go_simp
      have B3 := Lib.hid ((bt B2.out BN.out).setCell (p := ⟨w.heap.size, 3, none⟩) (Nat.le_refl _) (.slice a5 n5 c5))
      refine hK _ _ B3.out ?_
      clear hK K y0 y1 y2 y3 z3
      have X3 := Lib.hid (show (w5.setCell ⟨w.heap.size, 3, none⟩ (.slice a5 n5 c5)).heap[w.heap.size]? = some (.cells #[.int .u64 (key : Int), .int .u32 (ck : Int), .bool dl, .slice a5 n5 c5] 26 (0, 0)) by have h := heap_setCell_same w5 w.heap.size 3 _ _ (.slice a5 n5 c5) hx5; simpa using h)
      have ho3 := (own1 (k := 3) (z := .slice a5 n5 c5) ho5 (lt_of_some X2.out)).sl
      refine wpAnyH_done (by kernel_rfl) ?_ _
      unfold onlyN
      dsimp only
      generalize w5.setCell ⟨w.heap.size, 3, none⟩ (.slice a5 n5 c5) = W3 at *
      obtain ⟨Y, hY⟩ : ∃ Y, Y = (⟨key, ck, dl, List.replicate 4095 0 ++ X.data⟩ : Ndl) := ⟨_, rfl⟩
      have HY := Lib.hid (fun W (hB : Below W3.heap.size W3 W) => (show Nd W (.agg #[.int .u64 (key : Int), .int .u32 (ck : Int), .bool dl, .slice a5 n5 c5]) Y by
        rw [hY]
        exact ⟨_, rfl, by rw [show key = X.key from HK.out.1]; exact HO.out.1, by rw [show ck = X.cookie from HK.out.2.1]; exact HO.out.2.1, sl_below ho3 hB⟩))
      obtain ⟨q0, q1, q2, q3⟩ := bx_cell X3.out
      clear ho3 ho5 hx5 hY OM BM BN X2 B2 HND LM HLEN HK HDN HO
      go_wp2_with fail
      clear q0 q1 q2 q3
      refine (PE.out _ Y _ (ST.out _ _ hw B3.out) (HY.out _ (Below.refl _ _))).mono ?_
      rintro e w4 ⟨⟨s4, rfl, hs4⟩, hb4⟩
      have B4 := Lib.hid (bt B3.out hb4)
      have hx4 := (hb4.block w.heap.size (lt_of_some X3.out)).trans X3.out
      have hnd4 := HY.out _ hb4
      obtain ⟨q0, q1, q2, q3⟩ := bx_cell hx4
      clear hb4 X3 B3 HY
      go_wp2_with fail
      refine (rencode_any _ Y _ hnd4).mono ?_
      unfold EO
      rintro e w5 ⟨⟨s5, rfl, hs5⟩, hb5⟩
      have B5 := Lib.hid (bt B4.out hb5)
      have k1 := conv_sl (sl_below hs4 hb5)
      have k2 := conv_sl hs5.sl
      obtain ⟨a4, c4, rfl, -, -⟩ := sl_form hs4
      obtain ⟨a5, c5, rfl, -, -⟩ := sl_form hs5.sl
      generalize strOf (encL Y) = t at k1 k2
      generalize (encL Y).length = R at *
      generalize encE Y = E at *
      clear hs4 hs5 hb5 q0 q1 q2 q3 hx4 hnd4 B4
      go_wp2_with fail
      refine (AW.out _ (ST.out _ _ hw B5.out)).mono ?_
      rintro e w6 ⟨rfl, hb6⟩
      have B6 := Lib.hid (bt B5.out hb6)
      clear hb6 B5
      go_wp2_with fail
      go_ret
      exact ⟨rfl, B6.out⟩

end Go.Proofs.YtljdbaibhpgfnaaDoor.Gf
