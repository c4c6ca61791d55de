/- What is proved here: the contract of the program's Encode. Condition: the table of crc32c as laid. -/
import Derived.Test.YtljdbaibhpgfnaaDoorPv
namespace Go.Proofs.YtljdbaibhpgfnaaDoor.Gf
open Go Go.ChangeShapes Go.WideShapes Go.ChangeAt Go.RowKit Go.Proofs.YtljdbaibhpgfnaaDoor.By Go.Proofs.YtljdbaibhpgfnaaDoor.Crc Go.Proofs.YtljdbaibhpgfnaaDoor.Qt

/-- make([]byte, 0, m). -/
theorem wp_make0 {dst : Option Tmp} {y : Operand} {pos : String} {after : Array Edge} {ty : TypeId} {gd : Option (Nat × Bool)} {a : Act} {W : World} {K : Act → World → Prop} {Q : Exit → Act → World → Prop} {m : Nat}
    (hx : a.eval y = .int .i64 (m : Int)) (hn : m ≤ 100000000)
    (h : K (a.put dst (.slice (some ⟨W.heap.size, 0, none⟩) 0 m)) (W.alloc (.cells (cellsOf (List.replicate m 0)).toArray 5))) : Oper.wp Tryd.prog ⟨dst, .makeSlice 24 (.const (.int .i64 0)) y, ty, pos, after, gd⟩ a W K Q := by
  obtain ⟨i, hi, hz0, hz1, hz2⟩ := info_parts infoB
  have hr := run_make (P := Tryd.prog) W 24 5 i (.int .u8 0) Tryd.underlying24 hi hz0 .i64 .i64 0 (m : Int) (Int.le_refl _) (by omega) (by rw [hz2]; omega) (by omega)
  simp only [Int.toNat_natCast, hz1, Nat.mul_one, Int.toNat_zero] at hr
  have hc : madeCells (Value.int .u8 0).cells m = (cellsOf (List.replicate m 0)).toArray := by
    apply Array.ext'
    rw [show (Value.int .u8 0).cells = #[Value.int .u8 0] from rfl, toList_madeCells_one]
    simp [cellsOf]
  rw [hc] at hr
  have hz : a.eval (.const (.int .i64 0)) = .int .i64 0 := rfl
  unfold Oper.wp execOp
  simp only [hx, hz, Sem.run_bind, Sem.run_pure, hr, Result.andThen_ok]
  exact h
theorem own_made0 (w : World) {base m : Nat} (hb : base ≤ w.heap.size) (hn : m ≤ maxLen) : Own (w.alloc (.cells (cellsOf (List.replicate m 0)).toArray 5)) base (.slice (some ⟨w.heap.size, 0, none⟩) 0 m) [] :=
  ⟨by simp, ⟨by simp [cellsOf], Or.inr ⟨w.heap.size, m, _, by simp, hb, heap_alloc_new _ _, by simp, hn, by simp [cellsOf], by simp [cellsOf]⟩⟩⟩
theorem set5 {W : World} {g : Nat} {a b c d e k l m n u : Value} {T : TypeId} (h : W.heap[g]? = some (.cells #[a, b, c, d, e] T (0, 0))) : (((((W.setCell ⟨g, 0, none⟩ k).setCell ⟨g, 1, none⟩ l).setCell ⟨g, 2, none⟩ m).setCell ⟨g, 3, none⟩ n).setCell ⟨g, 4, none⟩ u).heap[g]? = some (.cells #[k, l, m, n, u] T (0, 0)) := by
  have h1 := heap_setCell_same W g 0 _ _ k h
  have h2 := heap_setCell_same _ g 1 _ _ l h1
  have h3 := heap_setCell_same _ g 2 _ _ m h2
  have h4 := heap_setCell_same _ g 3 _ _ n h3
  exact heap_setCell_same _ g 4 _ _ u h4
theorem below5 {B : Nat} {w W : World} {g : Nat} {k l m n u : Value} (h : Below B w W) (hg : B ≤ g) : Below B w (((((W.setCell ⟨g, 0, none⟩ k).setCell ⟨g, 1, none⟩ l).setCell ⟨g, 2, none⟩ m).setCell ⟨g, 3, none⟩ n).setCell ⟨g, 4, none⟩ u) :=
  ((((h.setCell (p := ⟨g, 0, none⟩) hg _).setCell (p := ⟨g, 1, none⟩) hg _).setCell (p := ⟨g, 2, none⟩) hg _).setCell (p := ⟨g, 3, none⟩) hg _).setCell (p := ⟨g, 4, none⟩) hg _
theorem own_set5 {W : World} {B g : Nat} {v a b c d e k l m n u : Value} {L : List Nat} (h : Own W B v L) (hg : W.heap[g]? = some (.cells #[a, b, c, d, e] 47 (0, 0))) : Own (((((W.setCell ⟨g, 0, none⟩ k).setCell ⟨g, 1, none⟩ l).setCell ⟨g, 2, none⟩ m).setCell ⟨g, 3, none⟩ n).setCell ⟨g, 4, none⟩ u) B v L :=
  own_keep h fun q hq => by
    have hne := own_block_ne h hg q hq
    rw [heap_setCell_other _ _ _ _ hne, heap_setCell_other _ _ _ _ hne, heap_setCell_other _ _ _ _ hne, heap_setCell_other _ _ _ _ hne, heap_setCell_other _ _ _ _ hne]
theorem bx5_cell {W : World} {g : Nat} {k c d s u : Value} {T : TypeId} {fr : Nat × Nat} (h : W.heap[g]? = some (.cells #[k, c, d, s, u] T fr)) : W.cell? ⟨g, 0, none⟩ = some k ∧ W.cell? ⟨g, 1, none⟩ = some c ∧ W.cell? ⟨g, 2, none⟩ = some d ∧ W.cell? ⟨g, 3, none⟩ = some s ∧ W.cell? ⟨g, 4, none⟩ = some u :=
  ⟨cell_of_row W g 0 _ _ _ h, cell_of_row W g 1 _ _ _ h, cell_of_row W g 2 _ _ _ h, cell_of_row W g 3 _ _ _ h, cell_of_row W g 4 _ _ _ h⟩
/-- The record after i of its eight parts. -/
def partL (x : Ndl) : Nat → List Nat
  | 0 => []
  | 1 => [78, 165]
  | 2 => [78, 165] ++ [if x.del then 1 else 0, 0]
  | 3 => [78, 165] ++ [if x.del then 1 else 0, 0] ++ beL 4 x.cookie
  | 4 => [78, 165] ++ [if x.del then 1 else 0, 0] ++ beL 4 x.cookie ++ beL 8 x.key
  | 5 => [78, 165] ++ [if x.del then 1 else 0, 0] ++ beL 4 x.cookie ++ beL 8 x.key ++ beL 4 x.data.length
  | 6 => bodyL x
  | 7 => bodyL x ++ leL (ext 0 (bodyL x))
  | _ => recL x
theorem part5 (x : Ndl) : partL x 5 = hdL x := by simp [partL, hdL]
section
variable {w W : World} {g q : Nat} {F : Array Value} {x : Ndl} {r : Value} {a : Option Addr} {c : Nat}
theorem m0 (h : Wb w g q F x (.slice a x.data.length c) (partL x 0) W r) : Calls Tryd.prog 21 #[.pointer (some ⟨g, 0, none⟩)] W (WC w g q F x (.slice a x.data.length c) (partL x 1)) := mark_any h (by simp [partL])
theorem m1 (h : Wb w g q F x (.slice a x.data.length c) (partL x 1) W r) : Calls Tryd.prog 22 #[.pointer (some ⟨g, 0, none⟩)] W (WC w g q F x (.slice a x.data.length c) (partL x 2)) := kind_any h (by simp)
theorem m2 (h : Wb w g q F x (.slice a x.data.length c) (partL x 2) W r) (hx : x.cookie < 4294967296) : Calls Tryd.prog 23 #[.pointer (some ⟨g, 0, none⟩)] W (WC w g q F x (.slice a x.data.length c) (partL x 3)) := wcookie_any h (by simp) hx
theorem m3 (h : Wb w g q F x (.slice a x.data.length c) (partL x 3) W r) : Calls Tryd.prog 24 #[.pointer (some ⟨g, 0, none⟩)] W (WC w g q F x (.slice a x.data.length c) (partL x 4)) := wkey_any h (by simp [beL_length])
theorem m4 (h : Wb w g q F x (.slice a x.data.length c) (partL x 4) W r) (hn : x.data.length ≤ 4096) : Calls Tryd.prog 25 #[.pointer (some ⟨g, 0, none⟩)] W (WC w g q F x (.slice a x.data.length c) (partL x 5)) := wlength_any h (by simp [beL_length]) hn
theorem m5 (h : Wb w g q F x (.slice a x.data.length c) (partL x 5) W r) (hs : Sl w (.slice a x.data.length c) x.data) (hn : x.data.length ≤ 4096) : Calls Tryd.prog 26 #[.pointer (some ⟨g, 0, none⟩)] W (WC w g q F x (.slice a x.data.length c) (partL x 6)) := by
  have h2 := wdata_any h hs (by simp [partL, beL_length]) hn
  rwa [part5] at h2
theorem m6 (h : Wb w g q F x (.slice a x.data.length c) (partL x 6) W r) (hn : x.data.length ≤ 4096) (ht : Tab W) : Calls Tryd.prog 27 #[.pointer (some ⟨g, 0, none⟩)] W (WC w g q F x (.slice a x.data.length c) (partL x 7)) := wsum_any h (by simp [bodyL_length]; omega) ht
theorem m7 (h : Wb w g q F x (.slice a x.data.length c) (partL x 7) W r) (hn : x.data.length ≤ 4096) : Calls Tryd.prog 28 #[.pointer (some ⟨g, 0, none⟩)] W (WC w g q F x (.slice a x.data.length c) (partL x 8)) :=
  wfill_any h hn (by simp [bodyL_length, leL_length]; omega)
end
/-- The eight method values of a writer in block g. -/
def fnsV (g : Nat) : Array Value := #[.func (.func 21) #[.pointer (some ⟨g, 0, none⟩)] #[], .func (.func 22) #[.pointer (some ⟨g, 0, none⟩)] #[], .func (.func 23) #[.pointer (some ⟨g, 0, none⟩)] #[], .func (.func 24) #[.pointer (some ⟨g, 0, none⟩)] #[], .func (.func 25) #[.pointer (some ⟨g, 0, none⟩)] #[], .func (.func 26) #[.pointer (some ⟨g, 0, none⟩)] #[], .func (.func 27) #[.pointer (some ⟨g, 0, none⟩)] #[], .func (.func 28) #[.pointer (some ⟨g, 0, none⟩)] #[]]
set_option maxRecDepth 100000 in
set_option maxHeartbeats 6400000 in
theorem pencode_any (v : Value) (x : Ndl) (w : World) (h : Nd w v x) (ht : Tab w) : Calls Tryd.prog 16 #[v] w (EO w (encL x) (encE x : Nat)) := by
  have VA := Lib.hid (fun W (hW : Below w.heap.size w W) => pvalid_any v x W (nd_below h hW))
  obtain ⟨s, hv, h1, h2, h3⟩ := h
  obtain ⟨a, c, hs, -, hcm⟩ := sl_form h3
  obtain ⟨n, hn⟩ : ∃ n, n = x.data.length := ⟨_, rfl⟩
  rw [← hn] at hs
  subst hs
  subst hv
  have S := Lib.hid h3
  have HN := Lib.hid hn
  have HT := Lib.hid ht
  unfold EO
  have HB0 := Lib.hid ((Below.refl w.heap.size w).alloc (Nat.le_refl _) (.cells #[.int .u64 (x.key : Int), .int .u32 (x.cookie : Int), .bool x.del, .slice a n c] 26))
  by_cases hbig : 4096 < n
  · have he : encE x = 8 := by unfold encE; rw [if_pos (by omega)]
    have hl : encL x = [] := by unfold encL; rw [he]; rfl
    rw [he, hl]
    have g1 : decide ((4096 : Int) < (n : Int)) = true := decide_eq_true (by omega)
    clear hn he hl h3 ht
    go_enter Tryd.func16, Tryd.ntmps16
    go_wp2_with fail
    go_ret2
    exact ⟨⟨_, rfl, own_nil _ _⟩, HB0.out⟩
  have g1 : decide ((4096 : Int) < (n : Int)) = false := decide_eq_false (by omega)
  by_cases he : encE x = 0
  case neg =>
    have he1 : encE x = 1 := by
      unfold encE at he ⊢
      rw [if_neg (by omega)] at he ⊢
      split at he
      · rename_i h; rw [if_pos h]
      · exact absurd rfl he
    have hl : encL x = [] := by unfold encL; rw [he1]; rfl
    have hok : okB x = false := by rw [okB_enc, he1]; rfl
    rw [he1, hl]
    rw [hok] at VA
    clear hn he he1 hl h3 ht
    go_enter Tryd.func16, Tryd.ntmps16
    go_wp2_with fail
    refine (VA.out _ HB0.out).mono ?_
    rintro e w2 ⟨rfl, hb2⟩
    have HB2 := Lib.hid hb2
    clear hb2
    go_wp2
    go_ret2
    exact ⟨⟨_, rfl, own_nil _ _⟩, bt HB0.out HB2.out⟩
  have hl : encL x = recL x := by unfold encL; rw [he]; rfl
  have hok : okB x = true := by rw [okB_enc, he]; rfl
  rw [he, hl]
  rw [hok] at VA
  have HX := Lib.hid (And.intro h1 h2)
  have hn4 : n ≤ 4096 := by omega
  have hms := szI6_nat (n := n) hn4
  obtain ⟨M, hMM⟩ : ∃ M, M = szR n := ⟨_, rfl⟩
  rw [← hMM] at hms
  have RZ : Hid (∀ W, Calls Tryd.prog 10 #[.int .i64 (n : Int)] W fun e w' => e = .returned (.int .i64 (M : Int)) ∧ W = w') := fun W => by
    have h := psize_any (n : Int) W (by unfold I64b; omega)
    rwa [hms] at h
  have hMb : M ≤ 5000 := by have := szR_lt n; omega
  have HMB := Lib.hid hMb
  have HMM := Lib.hid hMM
  have HN4 := Lib.hid hn4
  clear hn hl he h3 ht hms hMM hMb hn4 hbig h1 h2 hok
  go_enter Tryd.func16, Tryd.ntmps16
  go_wp2_with fail
  refine (VA.out _ HB0.out).mono ?_
  rintro e W2 ⟨rfl, hb2⟩
  have HBX := Lib.hid ((hb2.block w.heap.size (by simp)).trans (heap_alloc_new w (.cells #[.int .u64 (x.key : Int), .int .u32 (x.cookie : Int), .bool x.del, .slice a n c] 26)))
  have HB2 := Lib.hid (bt HB0.out hb2)
  clear hb2
  go_wp2_with fail
  refine wp_onlyN ?_
  have hSc : ∀ W, Below W2.heap.size W2 W → _ := fun W hW => bx_cell ((hW.block _ (lt_of_some HBX.out)).trans HBX.out)
  have SC := Lib.hid hSc
  clear hSc
  refine wp_region_headsS (fun w' => Below W2.heap.size W2 w') [0, 1, 2, 3] 5 (by kernel_rfl) (fun _ _ _ _ _ h => h.elim) (by kernel_rfl) (by rfl) (by rfl) (Below.refl _ _).drew ?_
  simp only [pickOps, List.filterMap_cons, List.filterMap_nil, List.getElem?_toArray, List.getElem?_cons_zero, List.getElem?_cons_succ]
  refine wpHeads_step (fun K hK => ?_)
  go_simp
  refine ⟨.agg #[.int .u64 (x.key : Int), .int .u32 (x.cookie : Int), .bool x.del, .slice a n c], fun w' hw' => by obtain ⟨u0, u1, u2, u3⟩ := SC.out w' hw'; simp [u0, u1, u2, u3], hK _ ?_⟩
  clear hK K
  refine wpHeads_step (fun K hK => ?_)
  go_simp
  refine ⟨_, fun _ _ => rfl, hK _ ?_⟩
  clear hK K
  refine wpHeads_step (fun K hK => ?_)
  go_simp
  refine ⟨.slice a n c, fun w' hw' => by obtain ⟨u0, u1, u2, u3⟩ := SC.out w' hw'; simp [u3], hK _ ?_⟩
  clear hK K
  refine wpHeads_step (fun K hK => ?_)
  go_simp
  refine ⟨_, fun _ _ => rfl, hK _ ?_⟩
  clear hK K
  refine wpHeads_nil ?_
  have hb0 : Below W2.heap.size W2 W2.drew := (Below.refl _ _).drew
  generalize W2.drew = Y0 at *
  refine held_two 4 7 rfl rfl rfl rfl (by kernel_rfl) (fun K hK => ?_) (fun K hK => ?_)
  · go_simp
    go_at_call 10
    refine (RZ.out _).mono ?_
    rintro e Y ⟨rfl, rfl⟩
    refine hK _ _ hb0 ?_
    clear hK K
    refine held_two 5 7 rfl rfl rfl rfl (by kernel_rfl) (fun K hK => ?_) (fun K hK => ?_)
    · refine wp_make0 (m := M) rfl (by have := HMB.out; omega) ?_
      have hb1 := hb0.alloc hb0.size (.cells (cellsOf (List.replicate M 0)).toArray 5)
      have ho1 := own_made0 Y0 (base := w.heap.size) (m := M) (Nat.le_trans HB2.out.size hb0.size) (by have := HMB.out; unfold maxLen; omega)
      refine hK _ _ hb1 ?_
      clear hK K
      generalize Y0.alloc (.cells (cellsOf (List.replicate M 0)).toArray 5) = Y1 at *
      generalize Y0.heap.size = rb at *
      refine wpAnyH_take (i := 6) (v := .agg #[.int .u64 (x.key : Int), .int .u32 (x.cookie : Int), .bool x.del, .slice a n c, .slice (some ⟨rb, 0, none⟩) 0 M]) rfl (by kernel_rfl) (by kernel_rfl) (by kernel_rfl) (fun _ _ _ h => h) (Or.inl ⟨by rfl, fun w _ => by go_simp⟩) hb1 ?_
      refine held_one 7 rfl rfl (by kernel_rfl) fun K hK => ?_
      go_simp
      have hbV := hb1.alloc hb1.size (.cells #[.int .u64 0, .int .u32 0, .bool false, .slice none 0 0, .slice none 0 0] 47)
      have hgV := heap_alloc_new Y1 (.cells #[.int .u64 0, .int .u32 0, .bool false, .slice none 0 0, .slice none 0 0] 47)
      have hge : W2.heap.size ≤ Y1.heap.size := hb1.size
      have hoV := ho1.alloc (.cells #[.int .u64 0, .int .u32 0, .bool false, .slice none 0 0, .slice none 0 0] 47)
      refine hK _ _ hbV ?_
      clear hK K
      generalize Y1.alloc (.cells #[.int .u64 0, .int .u32 0, .bool false, .slice none 0 0, .slice none 0 0] 47) = V at *
      generalize Y1.heap.size = g at *
      have HO := Lib.hid (own_set5 (k := .int .u64 (x.key : Int)) (l := .int .u32 (x.cookie : Int)) (m := .bool x.del) (n := .slice a n c) (u := .slice (some ⟨rb, 0, none⟩) 0 M) hoV hgV)
      have HG := Lib.hid (set5 (k := .int .u64 (x.key : Int)) (l := .int .u32 (x.cookie : Int)) (m := .bool x.del) (n := .slice a n c) (u := .slice (some ⟨rb, 0, none⟩) 0 M) hgV)
      have HBV := Lib.hid (below5 (k := .int .u64 (x.key : Int)) (l := .int .u32 (x.cookie : Int)) (m := .bool x.del) (n := .slice a n c) (u := .slice (some ⟨rb, 0, none⟩) 0 M) hbV hge)
      obtain ⟨t0, t1, t2, t3, t4⟩ := bx5_cell hgV
      have z0 := frozen_of_row V g 0 _ _ hgV
      have z1 := frozen_of_row V g 1 _ _ hgV
      have z2 := frozen_of_row V g 2 _ _ hgV
      have z3 := frozen_of_row V g 3 _ _ hgV
      have z4 := frozen_of_row V g 4 _ _ hgV
      refine held_one 8 rfl rfl (by kernel_rfl) fun K hK => ?_
      go_simp
      refine hK _ _ HBV.out ?_
      clear hK K t0 t1 t2 t3 t4 z0 z1 z2 z3 z4 hgV hoV hbV
      generalize (((((V.setCell ⟨g, 0, none⟩ (.int .u64 (x.key : Int))).setCell ⟨g, 1, none⟩ (.int .u32 (x.cookie : Int))).setCell ⟨g, 2, none⟩ (.bool x.del)).setCell ⟨g, 3, none⟩ (.slice a n c)).setCell ⟨g, 4, none⟩ (.slice (some ⟨rb, 0, none⟩) 0 M)) = V2 at *
      refine wpAnyH_done (by kernel_rfl) ?_ _
      unfold onlyN
      dsimp only
      have HN5 : Hid (x.data.length ≤ 4096) := by show _ ≤ _; rw [← HN.out]; exact HN4.out
      have HS5 : Hid (Sl w (.slice a x.data.length c) x.data) := by show Sl _ _ _; rw [← HN.out]; exact S.out
      have hF := (Below.refl V2.heap.size V2).alloc (Nat.le_refl _) (.cells (fnsV g) 1)
      have hWb : Wb w g V2.heap.size (fnsV g) x (.slice a n c) [] (V2.alloc (.cells (fnsV g) 1)) (.slice (some ⟨rb, 0, none⟩) 0 M) :=
        ⟨bt (HB2.out.trans (HBV.out.mono HB2.out.size)) hF, Nat.le_trans HB2.out.size hge, (hF.block _ (lt_of_some HG.out)).trans HG.out, own_below' HO.out hF, heap_alloc_new V2 _⟩
      have HWB := Lib.hid hWb
      clear hWb hF
      go_wp2_with fail
      generalize V2.heap.size = q at *
      go_loopw [7, 33] (fun f t wr => ∃ i : Nat, i ≤ 8 ∧ t = .int .i64 (i : Int) ∧ ∃ r, Wb w g q (fnsV g) x (.slice a n c) (partL x i) wr r) (fun _ t _ => 8 - (intOf t).toNat)
      case atStart => exact ⟨0, by omega, rfl, _, HWB.out⟩
      case round =>
        obtain ⟨i, hi, rfl, r1, hW⟩ := hrel
        rw [HN.out] at hW
        by_cases hi8 : i < 8
        · obtain rfl | rfl | rfl | rfl | rfl | rfl | rfl | rfl : i = 0 ∨ i = 1 ∨ i = 2 ∨ i = 3 ∨ i = 4 ∨ i = 5 ∨ i = 6 ∨ i = 7 := by omega
          · have hc : wr.cell? ⟨q, 0, none⟩ = some (.func (.func 21) #[.pointer (some ⟨g, 0, none⟩)] #[]) := cell_of_row wr q 0 _ _ _ hW.fns
            have MC := Lib.hid (m0 hW)
            clear hW hi hi8
            go_wp2_with (go_at_call 21; refine MC.out.mono ?_; rintro e w3 ⟨rfl, r2, h2⟩; have HH := Lib.hid h2; clear h2)
            go_roundw
            case rel => exact ⟨1, by omega, rfl, r2, by rw [HN.out]; exact HH.out⟩
            case measure => simp [intOf]
          · have hc : wr.cell? ⟨q, 1, none⟩ = some (.func (.func 22) #[.pointer (some ⟨g, 0, none⟩)] #[]) := cell_of_row wr q 1 _ _ _ hW.fns
            have MC := Lib.hid (m1 hW)
            clear hW hi hi8
            go_wp2_with (go_at_call 22; refine MC.out.mono ?_; rintro e w3 ⟨rfl, r2, h2⟩; have HH := Lib.hid h2; clear h2)
            go_roundw
            case rel => exact ⟨2, by omega, rfl, r2, by rw [HN.out]; exact HH.out⟩
            case measure => simp [intOf]
          · have hc : wr.cell? ⟨q, 2, none⟩ = some (.func (.func 23) #[.pointer (some ⟨g, 0, none⟩)] #[]) := cell_of_row wr q 2 _ _ _ hW.fns
            have MC := Lib.hid (m2 hW HX.out.2)
            clear hW hi hi8
            go_wp2_with (go_at_call 23; refine MC.out.mono ?_; rintro e w3 ⟨rfl, r2, h2⟩; have HH := Lib.hid h2; clear h2)
            go_roundw
            case rel => exact ⟨3, by omega, rfl, r2, by rw [HN.out]; exact HH.out⟩
            case measure => simp [intOf]
          · have hc : wr.cell? ⟨q, 3, none⟩ = some (.func (.func 24) #[.pointer (some ⟨g, 0, none⟩)] #[]) := cell_of_row wr q 3 _ _ _ hW.fns
            have MC := Lib.hid (m3 hW)
            clear hW hi hi8
            go_wp2_with (go_at_call 24; refine MC.out.mono ?_; rintro e w3 ⟨rfl, r2, h2⟩; have HH := Lib.hid h2; clear h2)
            go_roundw
            case rel => exact ⟨4, by omega, rfl, r2, by rw [HN.out]; exact HH.out⟩
            case measure => simp [intOf]
          · have hc : wr.cell? ⟨q, 4, none⟩ = some (.func (.func 25) #[.pointer (some ⟨g, 0, none⟩)] #[]) := cell_of_row wr q 4 _ _ _ hW.fns
            have MC := Lib.hid (m4 hW HN5.out)
            clear hW hi hi8
            go_wp2_with (go_at_call 25; refine MC.out.mono ?_; rintro e w3 ⟨rfl, r2, h2⟩; have HH := Lib.hid h2; clear h2)
            go_roundw
            case rel => exact ⟨5, by omega, rfl, r2, by rw [HN.out]; exact HH.out⟩
            case measure => simp [intOf]
          · have hc : wr.cell? ⟨q, 5, none⟩ = some (.func (.func 26) #[.pointer (some ⟨g, 0, none⟩)] #[]) := cell_of_row wr q 5 _ _ _ hW.fns
            have MC := Lib.hid (m5 hW HS5.out HN5.out)
            clear hW hi hi8
            go_wp2_with (go_at_call 26; refine MC.out.mono ?_; rintro e w3 ⟨rfl, r2, h2⟩; have HH := Lib.hid h2; clear h2)
            go_roundw
            case rel => exact ⟨6, by omega, rfl, r2, by rw [HN.out]; exact HH.out⟩
            case measure => simp [intOf]
          · have hc : wr.cell? ⟨q, 6, none⟩ = some (.func (.func 27) #[.pointer (some ⟨g, 0, none⟩)] #[]) := cell_of_row wr q 6 _ _ _ hW.fns
            have MC := Lib.hid (m6 hW HN5.out (tab_below HT.out hW.below))
            clear hW hi hi8
            go_wp2_with (go_at_call 27; refine MC.out.mono ?_; rintro e w3 ⟨rfl, r2, h2⟩; have HH := Lib.hid h2; clear h2)
            go_roundw
            case rel => exact ⟨7, by omega, rfl, r2, by rw [HN.out]; exact HH.out⟩
            case measure => simp [intOf]
          · have hc : wr.cell? ⟨q, 7, none⟩ = some (.func (.func 28) #[.pointer (some ⟨g, 0, none⟩)] #[]) := cell_of_row wr q 7 _ _ _ hW.fns
            have MC := Lib.hid (m7 hW HN5.out)
            clear hW hi hi8
            go_wp2_with (go_at_call 28; refine MC.out.mono ?_; rintro e w3 ⟨rfl, r2, h2⟩; have HH := Lib.hid h2; clear h2)
            go_roundw
            case rel => exact ⟨8, by omega, rfl, r2, by rw [HN.out]; exact HH.out⟩
            case measure => simp [intOf]
        · obtain rfl : i = 8 := by omega
          obtain ⟨-, -, -, -, c4, -⟩ := hW.cells
          obtain ⟨va, vn, vc, rfl, -⟩ := own_form hW.own
          have HW := Lib.hid hW
          clear hW hi hi8
          go_wp2
          go_ret2
          exact ⟨⟨_, rfl, HW.out.own⟩, HW.out.below⟩
    · go_simp
      have hb1 := hb0.alloc hb0.size (.cells #[.int .u64 0, .int .u32 0, .bool false, .slice none 0 0, .slice none 0 0] 47)
      have hg1 := heap_alloc_new Y0 (.cells #[.int .u64 0, .int .u32 0, .bool false, .slice none 0 0, .slice none 0 0] 47)
      have hge : W2.heap.size ≤ Y0.heap.size := hb0.size
      refine hK _ _ hb1 ?_
      clear hK K
      generalize Y0.alloc (.cells #[.int .u64 0, .int .u32 0, .bool false, .slice none 0 0, .slice none 0 0] 47) = Y1 at *
      generalize Y0.heap.size = g at *
      refine held_one 5 rfl rfl (by kernel_rfl) fun K hK => ?_
      refine wp_make0 (m := M) rfl (by have := HMB.out; omega) ?_
      have hbV := hb1.alloc hb1.size (.cells (cellsOf (List.replicate M 0)).toArray 5)
      have hoV := own_made0 Y1 (base := w.heap.size) (m := M) (Nat.le_trans HB2.out.size hb1.size) (by have := HMB.out; unfold maxLen; omega)
      have hgV := (Below.heap_alloc Y1 (.cells (cellsOf (List.replicate M 0)).toArray 5) _ (lt_of_some hg1)).trans hg1
      refine hK _ _ hbV ?_
      clear hK K
      generalize Y1.alloc (.cells (cellsOf (List.replicate M 0)).toArray 5) = V at *
      generalize Y1.heap.size = rb at *
      refine wpAnyH_take (i := 6) (v := .agg #[.int .u64 (x.key : Int), .int .u32 (x.cookie : Int), .bool x.del, .slice a n c, .slice (some ⟨rb, 0, none⟩) 0 M]) rfl (by kernel_rfl) (by kernel_rfl) (by kernel_rfl) (fun _ _ _ h => h) (Or.inl ⟨by rfl, fun w _ => by go_simp⟩) hbV ?_
      have HO := Lib.hid (own_set5 (k := .int .u64 (x.key : Int)) (l := .int .u32 (x.cookie : Int)) (m := .bool x.del) (n := .slice a n c) (u := .slice (some ⟨rb, 0, none⟩) 0 M) hoV hgV)
      have HG := Lib.hid (set5 (k := .int .u64 (x.key : Int)) (l := .int .u32 (x.cookie : Int)) (m := .bool x.del) (n := .slice a n c) (u := .slice (some ⟨rb, 0, none⟩) 0 M) hgV)
      have HBV := Lib.hid (below5 (k := .int .u64 (x.key : Int)) (l := .int .u32 (x.cookie : Int)) (m := .bool x.del) (n := .slice a n c) (u := .slice (some ⟨rb, 0, none⟩) 0 M) hbV hge)
      obtain ⟨t0, t1, t2, t3, t4⟩ := bx5_cell hgV
      have z0 := frozen_of_row V g 0 _ _ hgV
      have z1 := frozen_of_row V g 1 _ _ hgV
      have z2 := frozen_of_row V g 2 _ _ hgV
      have z3 := frozen_of_row V g 3 _ _ hgV
      have z4 := frozen_of_row V g 4 _ _ hgV
      refine held_one 8 rfl rfl (by kernel_rfl) fun K hK => ?_
      go_simp
      refine hK _ _ HBV.out ?_
      clear hK K t0 t1 t2 t3 t4 z0 z1 z2 z3 z4 hgV hoV hbV
      generalize (((((V.setCell ⟨g, 0, none⟩ (.int .u64 (x.key : Int))).setCell ⟨g, 1, none⟩ (.int .u32 (x.cookie : Int))).setCell ⟨g, 2, none⟩ (.bool x.del)).setCell ⟨g, 3, none⟩ (.slice a n c)).setCell ⟨g, 4, none⟩ (.slice (some ⟨rb, 0, none⟩) 0 M)) = V2 at *
      refine wpAnyH_done (by kernel_rfl) ?_ _
      unfold onlyN
      dsimp only
      have HN5 : Hid (x.data.length ≤ 4096) := by show _ ≤ _; rw [← HN.out]; exact HN4.out
      have HS5 : Hid (Sl w (.slice a x.data.length c) x.data) := by show Sl _ _ _; rw [← HN.out]; exact S.out
      have hF := (Below.refl V2.heap.size V2).alloc (Nat.le_refl _) (.cells (fnsV g) 1)
      have hWb : Wb w g V2.heap.size (fnsV g) x (.slice a n c) [] (V2.alloc (.cells (fnsV g) 1)) (.slice (some ⟨rb, 0, none⟩) 0 M) :=
        ⟨bt (HB2.out.trans (HBV.out.mono HB2.out.size)) hF, Nat.le_trans HB2.out.size hge, (hF.block _ (lt_of_some HG.out)).trans HG.out, own_below' HO.out hF, heap_alloc_new V2 _⟩
      have HWB := Lib.hid hWb
      clear hWb hF
      go_wp2_with fail
      generalize V2.heap.size = q at *
      go_loopw [7, 33] (fun f t wr => ∃ i : Nat, i ≤ 8 ∧ t = .int .i64 (i : Int) ∧ ∃ r, Wb w g q (fnsV g) x (.slice a n c) (partL x i) wr r) (fun _ t _ => 8 - (intOf t).toNat)
      case atStart => exact ⟨0, by omega, rfl, _, HWB.out⟩
      case round =>
        obtain ⟨i, hi, rfl, r1, hW⟩ := hrel
        rw [HN.out] at hW
        by_cases hi8 : i < 8
        · obtain rfl | rfl | rfl | rfl | rfl | rfl | rfl | rfl : i = 0 ∨ i = 1 ∨ i = 2 ∨ i = 3 ∨ i = 4 ∨ i = 5 ∨ i = 6 ∨ i = 7 := by omega
          · have hc : wr.cell? ⟨q, 0, none⟩ = some (.func (.func 21) #[.pointer (some ⟨g, 0, none⟩)] #[]) := cell_of_row wr q 0 _ _ _ hW.fns
            have MC := Lib.hid (m0 hW)
            clear hW hi hi8
            go_wp2_with (go_at_call 21; refine MC.out.mono ?_; rintro e w3 ⟨rfl, r2, h2⟩; have HH := Lib.hid h2; clear h2)
            go_roundw
            case rel => exact ⟨1, by omega, rfl, r2, by rw [HN.out]; exact HH.out⟩
            case measure => simp [intOf]
          · have hc : wr.cell? ⟨q, 1, none⟩ = some (.func (.func 22) #[.pointer (some ⟨g, 0, none⟩)] #[]) := cell_of_row wr q 1 _ _ _ hW.fns
            have MC := Lib.hid (m1 hW)
            clear hW hi hi8
            go_wp2_with (go_at_call 22; refine MC.out.mono ?_; rintro e w3 ⟨rfl, r2, h2⟩; have HH := Lib.hid h2; clear h2)
            go_roundw
            case rel => exact ⟨2, by omega, rfl, r2, by rw [HN.out]; exact HH.out⟩
            case measure => simp [intOf]
          · have hc : wr.cell? ⟨q, 2, none⟩ = some (.func (.func 23) #[.pointer (some ⟨g, 0, none⟩)] #[]) := cell_of_row wr q 2 _ _ _ hW.fns
            have MC := Lib.hid (m2 hW HX.out.2)
            clear hW hi hi8
            go_wp2_with (go_at_call 23; refine MC.out.mono ?_; rintro e w3 ⟨rfl, r2, h2⟩; have HH := Lib.hid h2; clear h2)
            go_roundw
            case rel => exact ⟨3, by omega, rfl, r2, by rw [HN.out]; exact HH.out⟩
            case measure => simp [intOf]
          · have hc : wr.cell? ⟨q, 3, none⟩ = some (.func (.func 24) #[.pointer (some ⟨g, 0, none⟩)] #[]) := cell_of_row wr q 3 _ _ _ hW.fns
            have MC := Lib.hid (m3 hW)
            clear hW hi hi8
            go_wp2_with (go_at_call 24; refine MC.out.mono ?_; rintro e w3 ⟨rfl, r2, h2⟩; have HH := Lib.hid h2; clear h2)
            go_roundw
            case rel => exact ⟨4, by omega, rfl, r2, by rw [HN.out]; exact HH.out⟩
            case measure => simp [intOf]
          · have hc : wr.cell? ⟨q, 4, none⟩ = some (.func (.func 25) #[.pointer (some ⟨g, 0, none⟩)] #[]) := cell_of_row wr q 4 _ _ _ hW.fns
            have MC := Lib.hid (m4 hW HN5.out)
            clear hW hi hi8
            go_wp2_with (go_at_call 25; refine MC.out.mono ?_; rintro e w3 ⟨rfl, r2, h2⟩; have HH := Lib.hid h2; clear h2)
            go_roundw
            case rel => exact ⟨5, by omega, rfl, r2, by rw [HN.out]; exact HH.out⟩
            case measure => simp [intOf]
          · have hc : wr.cell? ⟨q, 5, none⟩ = some (.func (.func 26) #[.pointer (some ⟨g, 0, none⟩)] #[]) := cell_of_row wr q 5 _ _ _ hW.fns
            have MC := Lib.hid (m5 hW HS5.out HN5.out)
            clear hW hi hi8
            go_wp2_with (go_at_call 26; refine MC.out.mono ?_; rintro e w3 ⟨rfl, r2, h2⟩; have HH := Lib.hid h2; clear h2)
            go_roundw
            case rel => exact ⟨6, by omega, rfl, r2, by rw [HN.out]; exact HH.out⟩
            case measure => simp [intOf]
          · have hc : wr.cell? ⟨q, 6, none⟩ = some (.func (.func 27) #[.pointer (some ⟨g, 0, none⟩)] #[]) := cell_of_row wr q 6 _ _ _ hW.fns
            have MC := Lib.hid (m6 hW HN5.out (tab_below HT.out hW.below))
            clear hW hi hi8
            go_wp2_with (go_at_call 27; refine MC.out.mono ?_; rintro e w3 ⟨rfl, r2, h2⟩; have HH := Lib.hid h2; clear h2)
            go_roundw
            case rel => exact ⟨7, by omega, rfl, r2, by rw [HN.out]; exact HH.out⟩
            case measure => simp [intOf]
          · have hc : wr.cell? ⟨q, 7, none⟩ = some (.func (.func 28) #[.pointer (some ⟨g, 0, none⟩)] #[]) := cell_of_row wr q 7 _ _ _ hW.fns
            have MC := Lib.hid (m7 hW HN5.out)
            clear hW hi hi8
            go_wp2_with (go_at_call 28; refine MC.out.mono ?_; rintro e w3 ⟨rfl, r2, h2⟩; have HH := Lib.hid h2; clear h2)
            go_roundw
            case rel => exact ⟨8, by omega, rfl, r2, by rw [HN.out]; exact HH.out⟩
            case measure => simp [intOf]
        · obtain rfl : i = 8 := by omega
          obtain ⟨-, -, -, -, c4, -⟩ := hW.cells
          obtain ⟨va, vn, vc, rfl, -⟩ := own_form hW.own
          have HW := Lib.hid hW
          clear hW hi hi8
          go_wp2
          go_ret2
          exact ⟨⟨_, rfl, HW.out.own⟩, HW.out.below⟩
  · go_simp
    have hb1 := hb0.alloc hb0.size (.cells #[.int .u64 0, .int .u32 0, .bool false, .slice none 0 0, .slice none 0 0] 47)
    have hg1 := heap_alloc_new Y0 (.cells #[.int .u64 0, .int .u32 0, .bool false, .slice none 0 0, .slice none 0 0] 47)
    have hge : W2.heap.size ≤ Y0.heap.size := hb0.size
    refine hK _ _ hb1 ?_
    clear hK K
    generalize Y0.alloc (.cells #[.int .u64 0, .int .u32 0, .bool false, .slice none 0 0, .slice none 0 0] 47) = Y1 at *
    generalize Y0.heap.size = g at *
    refine held_one 4 rfl rfl (by kernel_rfl) fun K hK => ?_
    go_simp
    go_at_call 10
    refine (RZ.out _).mono ?_
    rintro e Y ⟨rfl, rfl⟩
    refine hK _ _ hb1 ?_
    clear hK K
    refine held_one 5 rfl rfl (by kernel_rfl) fun K hK => ?_
    refine wp_make0 (m := M) rfl (by have := HMB.out; omega) ?_
    have hbV := hb1.alloc hb1.size (.cells (cellsOf (List.replicate M 0)).toArray 5)
    have hoV := own_made0 Y1 (base := w.heap.size) (m := M) (Nat.le_trans HB2.out.size hb1.size) (by have := HMB.out; unfold maxLen; omega)
    have hgV := (Below.heap_alloc Y1 (.cells (cellsOf (List.replicate M 0)).toArray 5) _ (lt_of_some hg1)).trans hg1
    refine hK _ _ hbV ?_
    clear hK K
    generalize Y1.alloc (.cells (cellsOf (List.replicate M 0)).toArray 5) = V at *
    generalize Y1.heap.size = rb at *
    refine wpAnyH_take (i := 6) (v := .agg #[.int .u64 (x.key : Int), .int .u32 (x.cookie : Int), .bool x.del, .slice a n c, .slice (some ⟨rb, 0, none⟩) 0 M]) rfl (by kernel_rfl) (by kernel_rfl) (by kernel_rfl) (fun _ _ _ h => h) (Or.inl ⟨by rfl, fun w _ => by go_simp⟩) hbV ?_
    have HO := Lib.hid (own_set5 (k := .int .u64 (x.key : Int)) (l := .int .u32 (x.cookie : Int)) (m := .bool x.del) (n := .slice a n c) (u := .slice (some ⟨rb, 0, none⟩) 0 M) hoV hgV)
    have HG := Lib.hid (set5 (k := .int .u64 (x.key : Int)) (l := .int .u32 (x.cookie : Int)) (m := .bool x.del) (n := .slice a n c) (u := .slice (some ⟨rb, 0, none⟩) 0 M) hgV)
    have HBV := Lib.hid (below5 (k := .int .u64 (x.key : Int)) (l := .int .u32 (x.cookie : Int)) (m := .bool x.del) (n := .slice a n c) (u := .slice (some ⟨rb, 0, none⟩) 0 M) hbV hge)
    obtain ⟨t0, t1, t2, t3, t4⟩ := bx5_cell hgV
    have z0 := frozen_of_row V g 0 _ _ hgV
    have z1 := frozen_of_row V g 1 _ _ hgV
    have z2 := frozen_of_row V g 2 _ _ hgV
    have z3 := frozen_of_row V g 3 _ _ hgV
    have z4 := frozen_of_row V g 4 _ _ hgV
    refine held_one 8 rfl rfl (by kernel_rfl) fun K hK => ?_
    go_simp
    refine hK _ _ HBV.out ?_
    clear hK K t0 t1 t2 t3 t4 z0 z1 z2 z3 z4 hgV hoV hbV
    generalize (((((V.setCell ⟨g, 0, none⟩ (.int .u64 (x.key : Int))).setCell ⟨g, 1, none⟩ (.int .u32 (x.cookie : Int))).setCell ⟨g, 2, none⟩ (.bool x.del)).setCell ⟨g, 3, none⟩ (.slice a n c)).setCell ⟨g, 4, none⟩ (.slice (some ⟨rb, 0, none⟩) 0 M)) = V2 at *
    refine wpAnyH_done (by kernel_rfl) ?_ _
    unfold onlyN
    dsimp only
    have HN5 : Hid (x.data.length ≤ 4096) := by show _ ≤ _; rw [← HN.out]; exact HN4.out
    have HS5 : Hid (Sl w (.slice a x.data.length c) x.data) := by show Sl _ _ _; rw [← HN.out]; exact S.out
    have hF := (Below.refl V2.heap.size V2).alloc (Nat.le_refl _) (.cells (fnsV g) 1)
    have hWb : Wb w g V2.heap.size (fnsV g) x (.slice a n c) [] (V2.alloc (.cells (fnsV g) 1)) (.slice (some ⟨rb, 0, none⟩) 0 M) :=
      ⟨bt (HB2.out.trans (HBV.out.mono HB2.out.size)) hF, Nat.le_trans HB2.out.size hge, (hF.block _ (lt_of_some HG.out)).trans HG.out, own_below' HO.out hF, heap_alloc_new V2 _⟩
    have HWB := Lib.hid hWb
    clear hWb hF
    go_wp2_with fail
    generalize V2.heap.size = q at *
    go_loopw [7, 33] (fun f t wr => ∃ i : Nat, i ≤ 8 ∧ t = .int .i64 (i : Int) ∧ ∃ r, Wb w g q (fnsV g) x (.slice a n c) (partL x i) wr r) (fun _ t _ => 8 - (intOf t).toNat)
    case atStart => exact ⟨0, by omega, rfl, _, HWB.out⟩
    case round =>
      obtain ⟨i, hi, rfl, r1, hW⟩ := hrel
      rw [HN.out] at hW
      by_cases hi8 : i < 8
      · obtain rfl | rfl | rfl | rfl | rfl | rfl | rfl | rfl : i = 0 ∨ i = 1 ∨ i = 2 ∨ i = 3 ∨ i = 4 ∨ i = 5 ∨ i = 6 ∨ i = 7 := by omega
        · have hc : wr.cell? ⟨q, 0, none⟩ = some (.func (.func 21) #[.pointer (some ⟨g, 0, none⟩)] #[]) := cell_of_row wr q 0 _ _ _ hW.fns
          have MC := Lib.hid (m0 hW)
          clear hW hi hi8
          go_wp2_with (go_at_call 21; refine MC.out.mono ?_; rintro e w3 ⟨rfl, r2, h2⟩; have HH := Lib.hid h2; clear h2)
          go_roundw
          case rel => exact ⟨1, by omega, rfl, r2, by rw [HN.out]; exact HH.out⟩
          case measure => simp [intOf]
        · have hc : wr.cell? ⟨q, 1, none⟩ = some (.func (.func 22) #[.pointer (some ⟨g, 0, none⟩)] #[]) := cell_of_row wr q 1 _ _ _ hW.fns
          have MC := Lib.hid (m1 hW)
          clear hW hi hi8
          go_wp2_with (go_at_call 22; refine MC.out.mono ?_; rintro e w3 ⟨rfl, r2, h2⟩; have HH := Lib.hid h2; clear h2)
          go_roundw
          case rel => exact ⟨2, by omega, rfl, r2, by rw [HN.out]; exact HH.out⟩
          case measure => simp [intOf]
        · have hc : wr.cell? ⟨q, 2, none⟩ = some (.func (.func 23) #[.pointer (some ⟨g, 0, none⟩)] #[]) := cell_of_row wr q 2 _ _ _ hW.fns
          have MC := Lib.hid (m2 hW HX.out.2)
          clear hW hi hi8
          go_wp2_with (go_at_call 23; refine MC.out.mono ?_; rintro e w3 ⟨rfl, r2, h2⟩; have HH := Lib.hid h2; clear h2)
          go_roundw
          case rel => exact ⟨3, by omega, rfl, r2, by rw [HN.out]; exact HH.out⟩
          case measure => simp [intOf]
        · have hc : wr.cell? ⟨q, 3, none⟩ = some (.func (.func 24) #[.pointer (some ⟨g, 0, none⟩)] #[]) := cell_of_row wr q 3 _ _ _ hW.fns
          have MC := Lib.hid (m3 hW)
          clear hW hi hi8
          go_wp2_with (go_at_call 24; refine MC.out.mono ?_; rintro e w3 ⟨rfl, r2, h2⟩; have HH := Lib.hid h2; clear h2)
          go_roundw
          case rel => exact ⟨4, by omega, rfl, r2, by rw [HN.out]; exact HH.out⟩
          case measure => simp [intOf]
        · have hc : wr.cell? ⟨q, 4, none⟩ = some (.func (.func 25) #[.pointer (some ⟨g, 0, none⟩)] #[]) := cell_of_row wr q 4 _ _ _ hW.fns
          have MC := Lib.hid (m4 hW HN5.out)
          clear hW hi hi8
          go_wp2_with (go_at_call 25; refine MC.out.mono ?_; rintro e w3 ⟨rfl, r2, h2⟩; have HH := Lib.hid h2; clear h2)
          go_roundw
          case rel => exact ⟨5, by omega, rfl, r2, by rw [HN.out]; exact HH.out⟩
          case measure => simp [intOf]
        · have hc : wr.cell? ⟨q, 5, none⟩ = some (.func (.func 26) #[.pointer (some ⟨g, 0, none⟩)] #[]) := cell_of_row wr q 5 _ _ _ hW.fns
          have MC := Lib.hid (m5 hW HS5.out HN5.out)
          clear hW hi hi8
          go_wp2_with (go_at_call 26; refine MC.out.mono ?_; rintro e w3 ⟨rfl, r2, h2⟩; have HH := Lib.hid h2; clear h2)
          go_roundw
          case rel => exact ⟨6, by omega, rfl, r2, by rw [HN.out]; exact HH.out⟩
          case measure => simp [intOf]
        · have hc : wr.cell? ⟨q, 6, none⟩ = some (.func (.func 27) #[.pointer (some ⟨g, 0, none⟩)] #[]) := cell_of_row wr q 6 _ _ _ hW.fns
          have MC := Lib.hid (m6 hW HN5.out (tab_below HT.out hW.below))
          clear hW hi hi8
          go_wp2_with (go_at_call 27; refine MC.out.mono ?_; rintro e w3 ⟨rfl, r2, h2⟩; have HH := Lib.hid h2; clear h2)
          go_roundw
          case rel => exact ⟨7, by omega, rfl, r2, by rw [HN.out]; exact HH.out⟩
          case measure => simp [intOf]
        · have hc : wr.cell? ⟨q, 7, none⟩ = some (.func (.func 28) #[.pointer (some ⟨g, 0, none⟩)] #[]) := cell_of_row wr q 7 _ _ _ hW.fns
          have MC := Lib.hid (m7 hW HN5.out)
          clear hW hi hi8
          go_wp2_with (go_at_call 28; refine MC.out.mono ?_; rintro e w3 ⟨rfl, r2, h2⟩; have HH := Lib.hid h2; clear h2)
          go_roundw
          case rel => exact ⟨8, by omega, rfl, r2, by rw [HN.out]; exact HH.out⟩
          case measure => simp [intOf]
      · obtain rfl : i = 8 := by omega
        obtain ⟨-, -, -, -, c4, -⟩ := hW.cells
        obtain ⟨va, vn, vc, rfl, -⟩ := own_form hW.own
        have HW := Lib.hid hW
        clear hW hi hi8
        go_wp2
        go_ret2
        exact ⟨⟨_, rfl, HW.out.own⟩, HW.out.below⟩
end Go.Proofs.YtljdbaibhpgfnaaDoor.Gf
