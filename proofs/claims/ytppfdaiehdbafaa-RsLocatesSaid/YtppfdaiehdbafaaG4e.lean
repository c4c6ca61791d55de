/- What is proved here: the contract of the program's eliminate. No condition. -/
import Derived.Test.YtppfdaiehdbafaaG4d
namespace Go.Proofs.Ytppfdaiehdbafaa.Gf
open Go Go.ChangeShapes Go.WideShapes Go.ChangeAt Go.RowKit Go.Sort Go.Proofs.Ytppfdaiehdbafaa.By Go.Proofs.Ytppfdaiehdbafaa.Qt
set_option maxRecDepth 100000

/-- make([]byte, n) at an operation. -/
theorem wp_make {dst : Option Tmp} {x : Operand} {pos : String} {after : Array Edge} {ty : TypeId} {gd : Option (Nat × Bool)} {a : Act} {W : World} {K : Act → World → Prop} {Q : Exit → Act → World → Prop} {n : Nat}
    (hx : a.eval x = .int .i64 (n : Int)) (hn : n ≤ 1000000)
    (h : K (a.put dst (.slice (some ⟨W.heap.size, 0, none⟩) n n)) (W.alloc (.cells (cellsOf (List.replicate n 0)).toArray 5))) : Oper.wp Try.prog ⟨dst, .makeSlice 22 x x, ty, pos, after, gd⟩ a W K Q := by
  obtain ⟨i, hi, hz0, hz1, hz2⟩ := info_parts infoB
  have hr := run_make (P := Try.prog) W 22 5 i (.int .u8 0) Try.underlying22 hi hz0 .i64 .i64 (n : Int) (n : Int) (by omega) (Int.le_refl _) (by rw [hz2]; omega) (by omega)
  simp only [Int.toNat_natCast, hz1, Nat.mul_one] at hr
  have hc : madeCells (Value.int .u8 0).cells n = (cellsOf (List.replicate n 0)).toArray := by
    apply Array.ext'
    rw [show (Value.int .u8 0).cells = #[Value.int .u8 0] from rfl, toList_madeCells_one]
    simp [cellsOf]
  rw [hc] at hr
  unfold Oper.wp execOp
  simp only [hx, Sem.run_bind, Sem.run_pure, hr, Result.andThen_ok]
  exact h
theorem aug_row_lt {n k : Nat} {A B : Nat → Nat → Nat} (hA : Bd n n A) (hB : Bd n n B) (hk : k < n) : ∀ x ∈ (List.range (n + n)).map (aug n A B k), x < 256 := fun x hx => by
  obtain ⟨j, hj, rfl⟩ := List.mem_map.1 hx
  exact aug_lt hA hB hk (by simpa using hj)
/-- A sum of rows, element by element. -/
theorem ma_range {m : Nat} {f g h : Nat → Nat} (c : Nat) (hh : ∀ j, j < m → f j ^^^ gm c (g j) = h j) : ma c ((List.range m).map f) ((List.range m).map g) = (List.range m).map h := by
  apply List.ext_getElem
  · rw [ma_length _ (by simp)]; simp
  · intro j h1 h2
    have hj : j < m := by simpa using h2
    have e := ma_getD c j (d := (List.range m).map f) (s := (List.range m).map g) (by simpa using hj) (by simp)
    rw [range_getD f hj, range_getD g hj, hh j hj] at e
    rw [List.getD_eq_getElem?_getD, List.getElem?_eq_getElem h1] at e
    simp only [Option.getD_some] at e
    rw [e]
    simp
theorem ma_zero_left {m : Nat} {g h : Nat → Nat} (c : Nat) (hh : ∀ j, j < m → gm c (g j) = h j) : ma c (List.replicate m 0) ((List.range m).map g) = (List.range m).map h := by
  have e : List.replicate m 0 = (List.range m).map fun _ => 0 := by
    apply List.ext_getElem (by simp)
    intro j h1 h2
    simp
  rw [e]
  exact ma_range c fun j hj => by rw [Nat.zero_xor]; exact hh j hj
set_option maxRecDepth 100000 in
set_option maxHeartbeats 3200000 in
theorem elim_pos (n k G base : Nat) (vs : List Value) (A B : Nat → Nat → Nat) (w : World) (hn : 1 ≤ n ∧ n ≤ 16) (hk : k < n) (hR : Rw w base G n vs (rowsOf n (n + n) (aug n A B))) (hA : Bd n n A) (hB : Bd n n B) (h0 : A k k ≠ 0) :
    Calls Try.prog 37 #[.slice (some ⟨G, 0, none⟩) n n, .int .i64 (k : Int)] w fun e w' => (∃ G' vs', e = .returned (.slice (some ⟨G', 0, none⟩) n n) ∧ Rw w' w.heap.size G' n vs' (rowsOf n (n + n) (aug n (elimM k A A) (elimM k A B)))) ∧ Below w.heap.size w w' := by
  have hrows := hR.rows k hk
  rw [rowsOf_getD _ hk] at hrows
  obtain ⟨gk, ck, hxk, -, -⟩ := own_some hrows (by simp; omega)
  rw [show ((List.range (n + n)).map (aug n A B k)).length = n + n by simp] at hxk
  obtain ⟨N2, hN2⟩ : ∃ N2, N2 = n + n := ⟨_, rfl⟩
  have hcell := (hR.cell hk).1
  rw [hxk] at hcell hrows
  obtain ⟨p1, _, _⟩ := own_cell hrows (show ((List.range (n + n)).map (aug n A B k)).length = n + n by simp) (show k < n + n by omega)
  rw [range_getD _ (by omega), show aug n A B k k = A k k by unfold aug; rw [if_pos hk]] at p1
  rw [← hN2] at hcell hrows
  have hak := hA k hk k hk
  have hinv := fun w => inv_any (A k k) w hak
  unfold invOf at hinv
  rw [if_neg h0] at hinv
  unfold Two at hinv
  have hiv := iv_lt (A k k)
  have HR := Lib.hid hR
  have HRK := Lib.hid hrows
  have HINV := Lib.hid hinv
  have H2 := Lib.hid hN2
  have hS : Hid (∀ w', Below w.heap.size w w' → w'.cell? ⟨G, k, none⟩ = some (.slice (some ⟨gk, 0, none⟩) N2 ck)) := fun w' hb => (hb.cell (block_lt_of_cell hcell)).trans hcell
  generalize hx : A k k = x at *
  generalize hy : iv x = y at *
  have i1 : (0 : Int) ≤ (k : Int) := by omega
  have i2 : (k : Int) < (n : Int) := by omega
  have hkN : k < N2 := by omega
  have hN16 : N2 ≤ 32 := by omega
  clear hR hrows hinv hN2 hxk
  go_enter Try.func37, Try.ntmps37
  go_wp2_with (go_at_call 57; refine (HINV.out _).mono ?_; rintro e w1 ⟨rfl, hb1⟩)
  have hS1 := cells_regrown (hS.out w1 hb1)
  refine wp_region_heads [0, 1, 2, 3, 4, 6, 7, 8, 9, 10] 3 (by kernel_rfl) (fun _ _ d _ _ h => by cases d <;> exact h) (by kernel_rfl) (by rfl) (by rfl) ?_
  simp only [pickOps, List.filterMap_cons, List.filterMap_nil, List.getElem?_toArray, List.getElem?_cons_zero, List.getElem?_cons_succ]
  repeat (refine wpHeads_step (fun K hK => ?_); go_simp; refine hK _ ?_; clear hK K)
  refine wpHeads_nil ?_
  clear hS1
  refine held_one 5 rfl rfl (by kernel_rfl) fun K hK => ?_
  refine wp_make (n := N2) rfl (by omega) ?_
  have hd1 := (Below.refl w1.heap.size w1).drew
  have hW1 : Below w.heap.size w w1.drew := bt hb1 hd1
  have hb2 := hW1.alloc hW1.size (.cells (cellsOf (List.replicate N2 0)).toArray 5)
  have hb3 := hd1.alloc hd1.size (.cells (cellsOf (List.replicate N2 0)).toArray 5)
  have ho2 := own_made w1.drew (base := w.heap.size) (n := N2) hW1.size (by unfold maxLen; omega)
  refine hK _ _ (bl_of_below hb3) ?_
  clear hK K hd1
  generalize hg0 : w1.drew.heap.size = g0 at ho2 ⊢
  generalize w1.drew.alloc (.cells (cellsOf (List.replicate N2 0)).toArray 5) = W2 at hb2 hb3 ho2 ⊢
  refine held_one 11 rfl rfl (by kernel_rfl) fun K hK => ?_
  go_simp
  go_at_call 58
  refine (plus_any _ _ _ _ y W2 ho2.sl (sl_below HRK.out.sl hb2) (by simp) (by simp; omega) (by simp; omega) hiv).mono ?_
  rintro e w3 ⟨⟨v3, rfl, ho3⟩, hb4⟩
  refine hK _ _ (bl_of_below (bt hb3 hb4)) ?_
  clear hK K
  have hb5 := bt hb2 hb4
  have hb6 := bt hb3 hb4
  rw [ma_zero_left (h := fun j => gm y (aug n A B k j)) y (fun j _ => rfl)] at ho3
  obtain ⟨g3, c3, hv3, -, -⟩ := own_some ho3 (by simp; omega)
  rw [show ((List.range N2).map fun j => gm y (aug n A B k j)).length = N2 by simp] at hv3
  subst hv3
  have ho3 := own_base hb2.size ho3
  have HO3 := Lib.hid ho3
  have HB5 := Lib.hid hb5
  clear ho3 hb5 hb4 hb3 hb2 ho2 hW1 hg0
  refine held_one 12 rfl rfl (by kernel_rfl) fun K hK => ?_
  go_simp
  refine hK _ _ (bl_of_below hb6) ?_
  clear hK K hb6
  refine wpAnyH_done (by kernel_rfl) ?_ _
  go_wp2_with ((with_reducible refine make_rows (n := n) ?_ (by omega) ?_); exact rfl)
  have hr0 := rw_made w3 (base := w.heap.size) (n := n) HB5.out.size
  have hb7 := HB5.out.alloc HB5.out.size (.cells (Array.replicate n (.slice none 0 0)) 22)
  have hl7 := (Below.refl w3.heap.size w3).alloc (Nat.le_refl _) (.cells (Array.replicate n (.slice none 0 0)) 22)
  have ho7 := own_below' HO3.out hl7
  generalize hgG : w3.heap.size = G' at hr0 ⊢
  generalize w3.alloc (.cells (Array.replicate n (.slice none 0 0)) 22) = W7 at hr0 hb7 ho7 ⊢
  have HR0 := Lib.hid hr0
  have HB7 := Lib.hid hb7
  have HO7 := Lib.hid ho7
  clear hr0 hb7 hl7 ho7 HO3 HB5 HINV hgG
  go_loopw [39] (fun t wr => ∃ (i : Nat) (us : List Value) (L : List (List Nat)), i ≤ n ∧ t = .int .i64 (i : Int) ∧ Rw wr w.heap.size G' n us L ∧ (∀ j, j < n → L.getD j [] = if j < i then (List.range N2).map (fun q => aug n A B j q ^^^ gm (A j k) (gm y (aug n A B k q))) else []) ∧ Own wr w.heap.size (.slice (some ⟨g3, 0, none⟩) N2 c3) ((List.range N2).map fun j => gm y (aug n A B k j)) ∧ Below w.heap.size w wr) (fun t _ => n - (intOf t).toNat)
  case atStart => exact ⟨0, _, _, by omega, rfl, HR0.out, fun j hj => by simp [List.getD, hj], HO7.out, HB7.out⟩
  case round =>
    clear HR0 HB7 HO7
    obtain ⟨i, us, L, hi, rfl, hU, hL, hO, hW⟩ := hrel
    have HU := Lib.hid hU
    have HL := Lib.hid hL
    have HO := Lib.hid hO
    have HW := Lib.hid hW
    clear hU hL hO hW
    by_cases hlt : i < n
    · have hri := HR.out.rows i hlt
      rw [rowsOf_getD _ hlt, ← H2.out] at hri
      obtain ⟨gi, ci, hxi, -, -⟩ := own_some hri (by simp; omega)
      rw [show ((List.range N2).map (aug n A B i)).length = N2 by simp] at hxi
      have hci := (HR.out.cell hlt).1
      rw [hxi] at hci hri
      obtain ⟨e1, _, _⟩ := own_cell hri (show ((List.range N2).map (aug n A B i)).length = N2 by simp) hkN
      rw [range_getD _ hkN, show aug n A B i k = A i k by unfold aug; rw [if_pos hk]] at e1
      have f1 := (HW.out.cell (p := ⟨G, i, none⟩) (block_lt_of_cell hci)).trans hci
      have f2 := (HW.out.cell (p := ⟨gi, k, none⟩) (block_lt_of_cell e1)).trans e1
      have hsl := sl_below hri.sl HW.out
      have haik := hA i hlt k hk
      have hpl := fun w' (hb : Below wr.heap.size wr w') => plus_any _ _ _ _ (A i k) w' (sl_below hsl hb) (sl_below HO.out.sl hb) (by simp) (by simp; omega) (by simp; omega) haik
      have hmr : ma (A i k) ((List.range N2).map (aug n A B i)) ((List.range N2).map fun j => gm y (aug n A B k j)) = (List.range N2).map (fun q => aug n A B i q ^^^ gm (A i k) (gm y (aug n A B k q))) := ma_range (A i k) fun j _ => rfl
      rw [hmr] at hpl
      have HPL := Lib.hid hpl
      generalize hz : A i k = z at *
      generalize hrw : (List.range N2).map (fun q => aug n A B i q ^^^ gm z (gm y (aug n A B k q))) = R at *
      have hRl : R.length = N2 := by rw [← hrw]; simp
      have j1 : (0 : Int) ≤ (i : Int) := by omega
      have j2 : (i : Int) < (n : Int) := by omega
      have j3 : (k : Int) < (N2 : Int) := by omega
      clear hri hxi hci e1 hsl hpl hmr
      go_wp2_with fail
      refine (HPL.out wr (Below.refl _ _)).mono ?_
      rintro e w8 ⟨⟨v8, rfl, ho8⟩, hb8⟩
      obtain ⟨g8, c8, hv8, -, -⟩ := own_some ho8 (by omega)
      rw [hRl] at hv8
      subst hv8
      have hu8 := HU.out.later hb8
      obtain ⟨q1, q2⟩ := hu8.cell hlt
      have ho8 := own_base HW.out.size ho8
      have HU9 := Lib.hid (hu8.set hlt ho8)
      have HO9 := Lib.hid (own_keep (w' := w8.setCell ⟨G', i, none⟩ (.slice (some ⟨g8, 0, none⟩) N2 c8)) (own_below' HO.out hb8) fun q hq => heap_setCell_other _ _ _ _ (own_block_ne (own_below' HO.out hb8) hu8.blk q hq))
      have HW9 := Lib.hid ((bt HW.out hb8).setCell (p := ⟨G', i, none⟩) hu8.lo (.slice (some ⟨g8, 0, none⟩) N2 c8))
      have hul := HU.out.llen
      clear f1 f2 hu8 ho8 hb8 HU HO HW HPL
      go_wp2
      go_roundw
      case rel =>
        refine ⟨i + 1, _, _, by omega, by go_num, HU9.out, fun j hj => ?_, HO9.out, HW9.out⟩
        by_cases e : j = i
        · subst e
          rw [getD_set_eq (by omega), if_pos (by omega), hz, hrw]
        · rw [getD_set_other e, HL.out j hj]
          by_cases h : j < i
          · rw [if_pos h, if_pos (by omega)]
          · rw [if_neg h, if_neg (by omega)]
      case measure => simp [intOf]; omega
    · obtain rfl : i = n := by omega
      obtain ⟨q1, q2⟩ := HU.out.cell hk
      have hfin := HU.out.set hk HO.out
      have hul := HU.out.llen
      have hL : L.set k ((List.range N2).map fun j => gm y (aug i A B k j)) = rowsOf i (i + i) (aug i (elimM k A A) (elimM k A B)) := by
        apply List.ext_getElem (by rw [List.length_set, hul, rowsOf_length])
        intro j h1 h2
        have hj : j < i := by rw [List.length_set] at h1; omega
        have h4 := rowsOf_getD (m := i + i) (aug i (elimM k A A) (elimM k A B)) hj
        have h3 : (L.set k ((List.range N2).map fun j => gm y (aug i A B k j))).getD j [] = (List.range (i + i)).map (aug i (elimM k A A) (elimM k A B) j) := by
          by_cases e : j = k
          · subst e
            rw [getD_set_eq (by omega), H2.out]
            refine List.map_congr_left fun q _ => ?_
            rw [← elim_aug, if_pos rfl, hx, hy]
          · rw [getD_set_other e, HL.out j hj, if_pos hj, H2.out]
            refine List.map_congr_left fun q _ => ?_
            rw [← elim_aug, if_neg e, hx, hy]
        simp only [List.getD] at h3 h4
        rw [List.getElem?_eq_getElem h1] at h3
        rw [List.getElem?_eq_getElem h2] at h4
        simp only [Option.getD_some] at h3 h4
        rw [h3, h4]
      rw [hL] at hfin
      have HF := Lib.hid hfin
      have HBF := Lib.hid (HW.out.setCell (p := ⟨G', k, none⟩) HU.out.lo (.slice (some ⟨g3, 0, none⟩) N2 c3))
      clear hfin hL HU HL HO HW
      go_wp2
      go_ret
      exact ⟨⟨_, _, rfl, HF.out⟩, HBF.out⟩
end Go.Proofs.Ytppfdaiehdbafaa.Gf
