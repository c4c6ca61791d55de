/- What is proved here: the contract of the program's Invert. No condition. -/
import Derived.Test.YtppfdaiehdbafaaG4f
import Derived.WalkMore
import Derived.Deep.LoopGhost
namespace Go.Proofs.Ytppfdaiehdbafaa.Gf
open Go Go.ChangeShapes Go.WideShapes Go.ChangeAt Go.RowKit Go.Sort Go.Proofs.Ytppfdaiehdbafaa.By Go.Proofs.Ytppfdaiehdbafaa.Qt
set_option maxRecDepth 100000

set_option maxRecDepth 100000 in
set_option maxHeartbeats 1600000 in
theorem inv_bad (r c : Int) (a : Option Addr) (n cap : Nat) (w : World) (h : ¬ (Vd r c n ∧ r = c)) : Calls Try.prog 14 #[mv r c (.slice a n cap)] w (MO w 0 0 [] 1) := by
  have hv := fun w => valid_any r c a n cap w
  by_cases h1 : Vd r c n
  · have h2 : (r != c) = true := bne_iff_ne.2 fun e => h ⟨h1, e⟩
    rw [decide_eq_true h1] at hv
    have HV := Lib.hid hv
    clear hv h h1
    unfold MO mv at *
    go_enter Try.func14, Try.ntmps14
    go_wp2_with fail
    go_step3
    go_wp2_with fail
    refine (HV.out _).mono ?_
    rintro e w1 ⟨rfl, hb1⟩
    obtain ⟨r1, r2, hs, hb⟩ := two_later hb1
    obtain ⟨x0, x1, x2⟩ := row_cells r1
    have R2 := Lib.hid r2
    clear r1 r2 hb1
    go_wp2_with ((with_reducible refine storeP (w.heap.size + 1) (.int .i64 0) (.int .i64 0) (.slice none 0 0) ?_ ?_ R2.out ?_ ?_ ?_ ?_); exact rfl; exact rfl; exact rfl; exact rfl; exact rfl)
    try rw [Exit.noGoto_ret]
    exact bodyPost_ret (results_px rfl _ _ (w.heap.size + 1) _ _ _ (0, 0) rfl (setRow_heap _ _ _ _ _ _ R2.out)) rfl ⟨⟨_, rfl, own_nil _ _⟩, below_setRow hb (by omega) _⟩
  · rw [decide_eq_false h1] at hv
    have HV := Lib.hid hv
    clear hv h h1
    unfold MO mv at *
    go_enter Try.func14, Try.ntmps14
    go_wp2_with fail
    go_step3
    go_wp2_with fail
    refine (HV.out _).mono ?_
    rintro e w1 ⟨rfl, hb1⟩
    obtain ⟨r1, r2, hs, hb⟩ := two_later hb1
    have R2 := Lib.hid r2
    clear r1 r2 hb1
    go_wp2_with ((with_reducible refine storeP (w.heap.size + 1) (.int .i64 0) (.int .i64 0) (.slice none 0 0) ?_ ?_ R2.out ?_ ?_ ?_ ?_); exact rfl; exact rfl; exact rfl; exact rfl; exact rfl)
    try rw [Exit.noGoto_ret]
    exact bodyPost_ret (results_px rfl _ _ (w.heap.size + 1) _ _ _ (0, 0) rfl (setRow_heap _ _ _ _ _ _ R2.out)) rfl ⟨⟨_, rfl, own_nil _ _⟩, below_setRow hb (by omega) _⟩
/-- Two rows exchanged in a list of rows. -/
theorem Rw.swap {wr : World} {base G n k i : Nat} {vs : List Value} {L : List (List Nat)} (h : Rw wr base G n vs L) (hk : k < n) (hi : i < n) :
    Rw ((wr.setCell ⟨G, k, none⟩ (vs.getD i undef)).setCell ⟨G, i, none⟩ (vs.getD k undef)) base G n ((vs.set k (vs.getD i undef)).set i (vs.getD k undef)) ((L.set k (L.getD i [])).set i (L.getD k [])) := by
  have h1 := h.set hk (h.rows i hi)
  have ho : Own (wr.setCell ⟨G, k, none⟩ (vs.getD i undef)) base (vs.getD k undef) (L.getD k []) := own_keep (h.rows k hk) fun q hq => heap_setCell_other _ _ _ _ (own_block_ne (h.rows k hk) h.blk q hq)
  exact h1.set hi ho
theorem swap_rows {n m k i : Nat} (f : Nat → Nat → Nat) (hk : k < n) (hi : i < n) : ((rowsOf n m f).set k ((rowsOf n m f).getD i [])).set i ((rowsOf n m f).getD k []) = rowsOf n m fun r => f (if r = k then i else if r = i then k else r) := by
  rw [rowsOf_getD f hi, rowsOf_getD f hk]
  apply List.ext_getElem (by simp [rowsOf])
  intro j h1 h2
  have hj : j < n := by simpa [rowsOf] using h2
  rw [List.getElem_set, List.getElem_set]
  simp only [rowsOf, List.getElem_map, List.getElem_range]
  by_cases e : i = j
  · rw [if_pos e]
    by_cases e2 : j = k
    · rw [if_pos e2, e, e2]
    · rw [if_neg e2, if_pos e.symm]
  · rw [if_neg e]
    by_cases e2 : k = j
    · rw [if_pos e2, if_pos e2.symm]
    · rw [if_neg e2, if_neg (Ne.symm e2), if_neg (Ne.symm e)]
/-- What elimination answers. -/
def invPostO (n : Nat) (l : List Nat) (w : World) (e : Ending) (w' : World) : Prop := (∃ X, Inv2 n (ent l n) X ∧ MO w n n (flat n n X) 0 e w') ∨ (Sing n (ent l n) ∧ MO w 0 0 [] 14 e w')
set_option maxRecDepth 100000 in
set_option maxHeartbeats 6400000 in
theorem inv_pos (n N b o cap : Nat) (l : List Nat) (w : World) (hv : Vd n n N) (hl : l.length = N) (l1 : ∀ x ∈ l, x < 256) (hc : N ≤ cap) (hm : cap ≤ maxLen)
    (k1 : ∀ k, k < N → w.cell? ⟨b, o + k, none⟩ = some (.int .u8 ((l.getD k 0 : Nat) : Int))) :
    Calls Try.prog 14 #[mv n n (.slice (some ⟨b, o, none⟩) N cap)] w (invPostO n l w) := by
  have hn : 1 ≤ n ∧ n ≤ 16 := by have := hv.1; unfold Sized at this; omega
  have hN : N = n * n := by have := hv.2; exact_mod_cast this
  have hM : Bd n n (ent l n) := ent_bd l1
  have hwi := fun w' (hb : Below w.heap.size w w') => wid_pos n N b o cap l w' hv.1 hN hl l1 hc hm fun x hx => (hb.cell (p := ⟨b, o + x, none⟩) (block_lt_of_cell (k1 x hx))).trans (k1 x hx)
  obtain ⟨a, ha⟩ : ∃ a : Option Addr, a = some ⟨b, o, none⟩ := ⟨_, rfl⟩
  rw [← ha] at hwi ⊢
  have hva := fun w => valid_any n n a N cap w
  rw [decide_eq_true hv] at hva
  have HV := Lib.hid hva
  have HWI := Lib.hid hwi
  have HM := Lib.hid hM
  obtain ⟨M, hMM⟩ : ∃ M, M = ent l n := ⟨_, rfl⟩
  unfold invPostO
  rw [← hMM] at HM HWI ⊢
  clear hva hwi hl l1 hc hm k1 hv hN ha hMM hM
  unfold MO mv at *
  go_enter Try.func14, Try.ntmps14
  go_wp2_with fail
  go_step3
  go_wp2_with fail
  refine (HV.out _).mono ?_
  rintro e w1 ⟨rfl, hb1⟩
  obtain ⟨r1, r2, hs, hb⟩ := two_later hb1
  obtain ⟨x0, x1, x2⟩ := row_cells r1
  have R1 := Lib.hid r1
  have R2 := Lib.hid r2
  have B1 := Lib.hid hb
  clear r1 r2 hb1 hb HV
  go_wp2_with fail
  refine (HWI.out _ B1.out).mono ?_
  rintro e w2 ⟨⟨G, vs, rfl, hrw⟩, hb2⟩
  have r1 := (hb2.block _ (lt_of_some R1.out)).trans R1.out
  have r2 := (hb2.block _ (lt_of_some R2.out)).trans R2.out
  have hb := bt B1.out hb2
  obtain ⟨y0, y1, y2⟩ := row_cells r1
  have HRW := Lib.hid hrw
  have R1' := Lib.hid r1
  have R2' := Lib.hid r2
  have B2 := Lib.hid hb
  have hsz := hs
  clear hrw hb2 r1 r2 hb x0 x1 x2 R1 R2 B1 HWI hs
  go_wp2_with fail
  go_step3
  go_wp2_with fail
  clear y0 y1 y2
  go_loopg [4, 22] n (fun g t4 t22 wr => ∃ (k G : Nat) (vs : List Value) (A B : Nat → Nat → Nat), k ≤ n ∧ g = n - k ∧ t4 = .slice (some ⟨G, 0, none⟩) n n ∧ t22 = .int .i64 (k : Int) ∧ Rw wr (w.heap.size + 2) G n vs (rowsOf n (n + n) (aug n A B)) ∧ Rel n M A B ∧ Unit' n k A ∧ wr.heap[w.heap.size]? = some (.cells #[.int .i64 n, .int .i64 n, .slice a N cap] 24 (0, 0)) ∧ wr.heap[w.heap.size + 1]? = some (.cells #[.int .i64 0, .int .i64 0, .slice none 0 0] 24 (0, 0)) ∧ Below w.heap.size w wr)
  case atStart =>
    have h := HRW.out
    refine ⟨0, G, vs, M, idm, by omega, by omega, rfl, rfl, ⟨h.blk, h.vlen, h.llen, by have := h.lo; omega, fun j hj => own_base (by omega) (h.rows j hj)⟩, rel_start HM.out, fun j hj => by omega, R1'.out, R2'.out, B2.out⟩
  case round =>
    clear HRW R1' R2' B2
    obtain ⟨k, G, vs, A, B, hk, rfl, rfl, rfl, hR, hRel, hU, hr1, hr2, hB⟩ := hrel
    have HR := Lib.hid hR
    have HREL := Lib.hid hRel
    have HU := Lib.hid hU
    have R1 := Lib.hid hr1
    have R2 := Lib.hid hr2
    have HB := Lib.hid hB
    clear hR hRel hU hr1 hr2 hB
    by_cases hlt : k < n
    · obtain ⟨y0, y1, y2⟩ := row_cells R1.out
      go_wp2
      go_loopg [4, 6] (n - k) (fun g t4 t6 wi => ∃ i : Nat, k ≤ i ∧ i ≤ n ∧ g = n - i ∧ t4 = .slice (some ⟨G, 0, none⟩) n n ∧ t6 = .int .i64 (i : Int) ∧ (∀ r, k ≤ r → r < i → A r k = 0) ∧ wi = wr)
      case atStart => exact ⟨k, Nat.le_refl _, hk, rfl, rfl, rfl, fun r h1 h2 => by omega, rfl⟩
      case round =>
        obtain ⟨i, hki, hin, rfl, rfl, rfl, hz, rfl⟩ := hrel
        have HZ := Lib.hid hz
        clear hz
        by_cases hit : i < n
        · have hri := HR.out.rows i hit
          rw [rowsOf_getD _ hit] at hri
          obtain ⟨gi, ci, hxi, -, -⟩ := own_some hri (by simp; omega)
          rw [show ((List.range (n + n)).map (aug n A B i)).length = n + n by simp] at hxi
          have hci := (HR.out.cell hit).1
          rw [hxi] at hci hri
          obtain ⟨e1, _, _⟩ := own_cell hri (show ((List.range (n + n)).map (aug n A B i)).length = n + n by simp) (show k < n + n by omega)
          rw [range_getD _ (by omega), show aug n A B i k = A i k by unfold aug; rw [if_pos hlt]] at e1
          have haik := HREL.out.1 i hit k hlt
          obtain ⟨N2, hN2⟩ : ∃ N2, N2 = n + n := ⟨_, rfl⟩
          rw [← hN2] at hci hxi
          have hkN : k < N2 := by omega
          have H2 := Lib.hid hN2
          by_cases h0 : A i k = 0
          · rw [h0] at e1
            clear hri hxi hN2
            go_wp2
            go_roundg (n - (i + 1))
            case measure => omega
            case rel =>
              refine ⟨i + 1, by omega, by omega, rfl, rfl, by go_num, fun r h1 h2 => ?_, rfl⟩
              by_cases e : r = i
              · rw [e]; exact h0
              · exact HZ.out r h1 (by omega)
          · have hne : ((A i k : Nat) : Int) != 0 := by rw [bne_iff_ne]; omega
            have hrk := HR.out.rows k hlt
            rw [rowsOf_getD _ hlt] at hrk
            obtain ⟨gk, ck, hxk, -, -⟩ := own_some hrk (by simp; omega)
            rw [show ((List.range (n + n)).map (aug n A B k)).length = n + n by simp] at hxk
            have hck := (HR.out.cell hlt).1
            rw [hxk, ← hN2] at hck
            rw [← hN2] at hxk
            have hsw := HR.out.swap hlt hit
            rw [hxi, hxk, swap_rows _ hlt hit] at hsw
            clear hN2
            go_wp2
            clear y0 y1 y2 e1
            refine wp_region_any (by kernel_rfl) ?_
            have hd1 := (Below.refl wr.heap.size wr).drew
            change wpAny _ _ _ _ _ _ _ wr.drew
            have hR1 := HR.out.later hd1
            have hB1 := bt HB.out hd1
            have r1 := (hd1.block _ (lt_of_some R1.out)).trans R1.out
            have r2 := (hd1.block _ (lt_of_some R2.out)).trans R2.out
            have g1 := (hd1.cell (p := ⟨G, i, none⟩) (block_lt_of_cell hci)).trans hci
            have g2 := (hd1.cell (p := ⟨G, k, none⟩) (block_lt_of_cell hck)).trans hck
            clear hri hrk hci hck hsw hd1
            generalize wr.drew = W1 at hR1 hB1 r1 r2 g1 g2 ⊢
            have HR1 := Lib.hid hR1
            have HB1 := Lib.hid hB1
            have R11 := Lib.hid r1
            have R21 := Lib.hid r2
            clear hR1 hB1 r1 r2
            have g1 := cells_regrown g1
            have g2 := cells_regrown g2
            have j1 : (0 : Int) ≤ (i : Int) := by omega
            have j2 : (i : Int) < (n : Int) := by omega
            have j3 : (0 : Int) ≤ (k : Int) := by omega
            have j4 : (k : Int) < (n : Int) := by omega
            refine wpAny_take (i := 2) (v := .slice (some ⟨G, 0, none⟩) n n) rfl (by kernel_rfl) (by kernel_rfl) (by kernel_rfl) (fun _ _ _ h => h) (Or.inl ⟨by rfl, fun w => by rfl⟩) ?_
            refine wpAny_take (i := 3) (v := .int .i64 (i : Int)) rfl (by kernel_rfl) (by kernel_rfl) (by kernel_rfl) (fun _ _ _ h => h) (Or.inl ⟨by rfl, fun w => by rfl⟩) ?_
            refine any_bl_pick [0, 1, 4, 5, 6, 7, 8, 9, 10, 11, 12] 13 [14, 15] (by rfl) (by kernel_rfl) (by rfl) (by rfl) ?_
            simp only [pickOps, List.filterMap_cons, List.filterMap_nil, List.getElem?_toArray, List.getElem?_cons_zero, List.getElem?_cons_succ]
            repeat (quiet_step (fail))
            refine wpQuiet_nil ?_
            intro w9 hb9
            clear g1 g2
            have hR9 := HR1.out.later hb9
            have hB9 := bt HB1.out hb9
            obtain ⟨q1, q2⟩ := hR9.cell hlt
            have hs1 := hR9.set hlt (hR9.rows i hit)
            obtain ⟨q3, q4⟩ := hs1.cell hit
            have hsw := hR9.swap hlt hit
            rw [hxi, hxk, swap_rows _ hlt hit] at hsw
            rw [hxi] at q3 q4
            have hlo := hR9.lo
            have r1 := (hb9.block _ (lt_of_some R11.out)).trans R11.out
            have r2 := (hb9.block _ (lt_of_some R21.out)).trans R21.out
            have b10 := (hB9.setCell (p := ⟨G, k, none⟩) (by show w.heap.size ≤ G; omega) (.slice (some ⟨gi, 0, none⟩) N2 ci)).setCell (p := ⟨G, i, none⟩) (by show w.heap.size ≤ G; omega) (.slice (some ⟨gk, 0, none⟩) N2 ck)
            have r1 := (heap_setCell_other _ ⟨G, i, none⟩ _ (.slice (some ⟨gk, 0, none⟩) N2 ck) (show w.heap.size ≠ G by omega)).trans ((heap_setCell_other w9 ⟨G, k, none⟩ _ (.slice (some ⟨gi, 0, none⟩) N2 ci) (show w.heap.size ≠ G by omega)).trans r1)
            have r2 := (heap_setCell_other _ ⟨G, i, none⟩ _ (.slice (some ⟨gk, 0, none⟩) N2 ck) (show w.heap.size + 1 ≠ G by omega)).trans ((heap_setCell_other w9 ⟨G, k, none⟩ _ (.slice (some ⟨gi, 0, none⟩) N2 ci) (show w.heap.size + 1 ≠ G by omega)).trans r2)
            have HSW := Lib.hid hsw
            have HB10 := Lib.hid b10
            have R110 := Lib.hid r1
            have R210 := Lib.hid r2
            clear hR9 hB9 hs1 hsw r1 r2 b10 HR1 HB1 R11 R21 hb9
            go_wp2_with fail
            clear q1 q2 q3 q4
            generalize (w9.setCell ⟨G, k, none⟩ (.slice (some ⟨gi, 0, none⟩) N2 ci)).setCell ⟨G, i, none⟩ (.slice (some ⟨gk, 0, none⟩) N2 ck) = W10 at *
            have hrs := rel_rswap HM.out HREL.out hlt hit
            have hus := unit_swap HU.out hlt hit hki
            have h0s : rswap k i A k k ≠ 0 := by unfold rswap; rw [if_pos rfl]; exact h0
            refine (elim_pos n k G _ _ (rswap k i A) (rswap k i B) W10 hn hlt HSW.out hrs.1 hrs.2.1 h0s).mono ?_
            rintro e w11 ⟨⟨G', vs', rfl, hR11⟩, hb11⟩
            have hre := rel_elim HM.out hrs hlt h0s
            have hue := unit_elim hrs.1 hus hlt h0s
            have HRE := Lib.hid hre
            have HUE := Lib.hid hue
            have hR11' : Rw w11 (w.heap.size + 2) G' n vs' (rowsOf n (n + n) (aug n (elimM k (rswap k i A) (rswap k i A)) (elimM k (rswap k i A) (rswap k i B)))) := by
              have hlo2 := HSW.out.lo
              have hlt2 := HSW.out.lt
              exact ⟨hR11.blk, hR11.vlen, hR11.llen, by have := hR11.lo; omega, fun j hj => own_base (by omega) (hR11.rows j hj)⟩
            have HR11 := Lib.hid hR11'
            have HB11 := Lib.hid (bt HB10.out hb11)
            have R111 := Lib.hid ((hb11.block _ (lt_of_some R110.out)).trans R110.out)
            have R211 := Lib.hid ((hb11.block _ (lt_of_some R210.out)).trans R210.out)
            clear hre hue hR11 hR11' hb11 hrs hus h0s HSW HB10 R110 R210
            go_wp2_with fail
            go_roundg (n - (k + 1))
            case measure => omega
            case rel => exact ⟨k + 1, G', vs', _, _, by omega, rfl, rfl, by go_num, HR11.out, HRE.out, HUE.out, R111.out, R211.out, HB11.out⟩
        · obtain rfl : i = n := by omega
          have hsing := rel_sing HM.out HREL.out hlt HU.out fun r h1 h2 => HZ.out r h1 h2
          go_wp2_with ((with_reducible refine storeP (w.heap.size + 1) (.int .i64 0) (.int .i64 0) (.slice none 0 0) ?_ ?_ R2.out ?_ ?_ ?_ ?_); exact rfl; exact rfl; exact rfl; exact rfl; exact rfl)
          try rw [Exit.noGoto_ret]
          exact bodyPost_ret (results_px rfl _ _ (w.heap.size + 1) _ _ _ (0, 0) rfl (setRow_heap _ _ _ _ _ _ R2.out)) rfl (Or.inr ⟨hsing, ⟨_, rfl, own_nil _ _⟩, below_setRow HB.out (by omega) _⟩)
    · obtain rfl : k = n := by omega
      have hX := rel_end HM.out HREL.out (unit_full HU.out)
      have hh := half_pos k G _ vs A B wr hn HR.out HREL.out.1 HREL.out.2.1
      unfold mv at hh
      have HH := Lib.hid hh
      clear hh
      go_wp2_with fail
      refine (HH.out).mono ?_
      rintro e w4 ⟨⟨s, rfl, ho⟩, hb4⟩
      have r2 := (hb4.block _ (lt_of_some R2.out)).trans R2.out
      have R24 := Lib.hid r2
      have hb5 := bt HB.out hb4
      have hso := HB.out.size
      have ho2 := own_keep (w' := w4.setRow (w.heap.size + 1) #[.int .i64 k, .int .i64 k, s]) ho fun q hq => setRow_other _ _ _ _ (by have h1 := (ho.2.lt q hq).1; have h2 := lt_of_some R2.out; omega)
      have HO2 := Lib.hid (own_base hso ho2)
      have h1s := own_one ho
      have HB5 := Lib.hid hb5
      clear r2 hb4 hb5 ho ho2 HH
      go_wp2_with ((with_reducible refine storeP (w.heap.size + 1) (.int .i64 k) (.int .i64 k) s ?_ ?_ R24.out ?_ ?_ ?_ ?_); exact rfl; exact rfl; exact rfl; exact rfl; exact h1s)
      try rw [Exit.noGoto_ret]
      exact bodyPost_ret (results_px rfl _ _ (w.heap.size + 1) _ _ _ (0, 0) rfl (setRow_heap _ _ _ _ _ _ R24.out)) rfl (Or.inl ⟨B, hX, ⟨_, rfl, HO2.out⟩, below_setRow HB5.out (by omega) _⟩)
theorem invert_any (r c : Int) (v : Value) (l : List Nat) (w : World) (s : Sl w v l) : Calls Try.prog 14 #[mv r c v] w (invPostS r c l w) := by
  by_cases h : Vd r c l.length ∧ r = c
  · obtain ⟨h1, rfl⟩ := h
    obtain ⟨R, C, rfl, e, p1, _, p3, _, p5⟩ := vd_prod h1
    obtain rfl : R = C := by exact_mod_cast e
    obtain ⟨b, o, cap, rfl, d1, d2, k1⟩ := sl_cells s (by rw [p5]; exact Nat.mul_pos p1 p1)
    refine (inv_pos R l.length b o cap l w h1 rfl s.1 d1 d2 k1).mono fun e w' hp => ?_
    unfold invPostS
    rw [if_pos ⟨h1, rfl⟩]
    rcases hp with ⟨X, hX, hm⟩ | ⟨hs, hm⟩
    · exact Or.inl ⟨X, hX, hm.ms⟩
    · exact Or.inr ⟨hs, hm.ms⟩
  · obtain ⟨a, cap, rfl, -, -⟩ := sl_form s
    refine (inv_bad r c a _ cap w h).mono fun e w' hm => ?_
    unfold invPostS
    rw [if_neg h]
    exact hm.ms
end Go.Proofs.Ytppfdaiehdbafaa.Gf
