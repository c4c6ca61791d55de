/- What is proved here: the contract of the reference's Apply. -/
import Derived.Test.YtppfdaiehdbafaaR3g
import Derived.Test.YtppfdaiehdbafaaIv
import Derived.StillTailTactics
namespace Go.Proofs.Ytppfdaiehdbafaa.Gf
open Go Go.ChangeShapes Go.WideShapes Go.ChangeAt Go.RowKit Go.Proofs.Ytppfdaiehdbafaa.By

/-- The row i of the product after k steps. -/
def rowAt (l : List Nat) (c i : Nat) (L : List (List Nat)) (n : Nat) : Nat → List Nat
  | 0 => List.replicate n 0
  | k + 1 => ma (ent l c i k) (rowAt l c i L n k) (L.getD k [])
def applyL (l : List Nat) (r c : Nat) (L : List (List Nat)) : List (List Nat) := (List.range r).map fun i => rowAt l c i L (L.getD 0 []).length c
theorem rowAt_length {l : List Nat} {c i n : Nat} {L : List (List Nat)} : ∀ k, (∀ j, j < k → (L.getD j []).length = n) → (rowAt l c i L n k).length = n
  | 0, _ => by simp [rowAt]
  | k + 1, h => by
    have ih := rowAt_length (l := l) (c := c) (i := i) k fun j hj => h j (by omega)
    rw [rowAt, ma_length _ (ih.trans (h k (by omega)).symm), ih]
theorem applyL_snoc {l : List Nat} {r c k : Nat} {L : List (List Nat)} (hk : k < r) : (applyL l r c L).take (k + 1) = (applyL l r c L).take k ++ [rowAt l c k L (L.getD 0 []).length c] := by
  unfold applyL
  rw [List.take_succ_eq_append_getElem (by simpa using hk)]
  simp
theorem ownr_base {w : World} {base base' : Nat} {v : Value} {vs : List Value} {L : List (List Nat)} (hb : base' ≤ base) (h : OwnR w base v vs L) : OwnR w base' v vs L := by
  refine ⟨?_, h.2.1, fun k hk => own_base hb (h.2.2 k hk)⟩
  obtain ⟨a, d | ⟨q, cap, cur, d1, d2, d3⟩⟩ := h.1
  · exact ⟨a, Or.inl d⟩
  · exact ⟨a, Or.inr ⟨q, cap, cur, d1, by omega, d3⟩⟩
theorem OwnR.drew' {w : World} {base : Nat} {v : Value} {vs : List Value} {L : List (List Nat)} (h : OwnR w base v vs L) : OwnR w.drew base v vs L := h
set_option maxRecDepth 100000 in
set_option maxHeartbeats 6400000 in
theorem rapply_pos (r c m j : Nat) (b1 o1 c1 b2 o2 c2 n : Nat) (l : List Nat) (L : List (List Nat)) (w : World) (hv : Vd r c n) (hln : l.length = n) (l1 : ∀ b ∈ l, b < 256)
    (hLc : L.length = c) (hm : (L.getD 0 []).length = m) (hm1 : m ≤ 1000000)
    (k1 : ∀ k, k < n → w.cell? ⟨b1, o1 + k, none⟩ = some (.int .u8 ((l.getD k 0 : Nat) : Int))) (k2 : ∀ k, k < c → ∃ x, w.cell? ⟨b2, o2 + k, none⟩ = some x ∧ Sl w x (L.getD k []))
    (hj : j ≤ c) (hin : ∀ i, i < j → (L.getD i []).length = m) (hout : j < c → ¬ (L.getD j []).length = m) :
    Calls Try.prog 46 #[mv r c (.slice (some ⟨b1, o1, none⟩) n c1), .slice (some ⟨b2, o2, none⟩) c c2] w (fun e w' => (j = c → (∃ v vs, e = .returned (.tuple #[v, .int .i64 0]) ∧ OwnR w' w.heap.size v vs (applyL l r c L)) ∧ Below w.heap.size w w') ∧ (j ≠ c → e = .returned (.tuple #[.slice none 0 0, .int .i64 1]) ∧ Below w.heap.size w w')) := by
  have hv1 := fun w => rvalid_any r c (some ⟨b1, o1, none⟩) n c1 w
  rw [decide_eq_true hv] at hv1
  have hn : 1 ≤ r ∧ r ≤ 16 ∧ 1 ≤ c ∧ c ≤ 16 := by have := hv.1; unfold Sized at this; omega
  have e1 : n = r * c := by have := hv.2; exact_mod_cast this
  have hn256 : n ≤ 256 := by rw [e1]; exact Nat.mul_le_mul hn.2.1 hn.2.2.2
  have HV1 := Lib.hid hv1
  have E1 := Lib.hid e1
  have K1 := Lib.hid k1
  have K2 := Lib.hid k2
  have L1 := Lib.hid l1
  have LN := Lib.hid hln
  have LC := Lib.hid hLc
  have HM := Lib.hid hm
  have IN := Lib.hid hin
  have OUT := Lib.hid hout
  have t1 := heap_alloc_new w (.cells #[.int .i64 r, .int .i64 c, .slice (some ⟨b1, o1, none⟩) n c1] 26)
  have ts : (w.alloc (.cells #[.int .i64 r, .int .i64 c, .slice (some ⟨b1, o1, none⟩) n c1] 26)).heap.size = w.heap.size + 1 := by simp
  have tb := (Below.refl w.heap.size w).alloc (Nat.le_refl _) (.cells #[.int .i64 r, .int .i64 c, .slice (some ⟨b1, o1, none⟩) n c1] 26)
  have T1 := Lib.hid t1
  have TS := Lib.hid ts
  have TB := Lib.hid tb
  clear hv1 e1 k1 k2 l1 hln hin hout t1 ts tb hv hLc hm
  unfold mv at *
  go_enter Try.func46, Try.ntmps46
  go_wp2_with fail
  refine (HV1.out _).mono ?_
  generalize (w.alloc (.cells #[.int .i64 r, .int .i64 c, .slice (some ⟨b1, o1, none⟩) n c1] 26)) = W0 at *
  rintro e w1 ⟨rfl, hB1⟩
  have r1 := (hB1.block w.heap.size (by rw [TS.out]; omega)).trans T1.out
  have hs1 : w.heap.size < w1.heap.size := by have := hB1.size; have := TS.out; omega
  have hw1 : Below w.heap.size w w1 := TB.out.trans (hB1.mono TB.out.size)
  obtain ⟨x0, x1, x2⟩ := row_cells r1
  have R1 := Lib.hid r1
  have HW1 := Lib.hid hw1
  have HS1 := Lib.hid hs1
  clear r1 hw1 hB1 T1 TS TB HV1 hs1
  go_wp2_with fail
  clear x0 x1 x2
  go_loopw [6] (fun i wr => ∃ k : Nat, k ≤ j ∧ i = .int .i64 (k : Int) ∧ Below w1.heap.size w1 wr) (fun i _ => c - (intOf i).toNat)
  case atStart => exact ⟨0, by omega, rfl, Below.refl _ _⟩
  case round =>
    obtain ⟨k, hk, rfl, hB⟩ := hrel
    have HB := Lib.hid hB
    have hbl := HW1.out.trans (hB.mono HW1.out.size)
    by_cases hkc : k < c
    · obtain ⟨x, g1, s1⟩ := K2.out k hkc
      obtain ⟨y, g2, s2⟩ := K2.out 0 (by omega)
      have f1 := (hbl.cell (p := ⟨b2, o2 + k, none⟩) (block_lt_of_cell g1)).trans g1
      have f2 := (hbl.cell (p := ⟨b2, o2 + 0, none⟩) (block_lt_of_cell g2)).trans g2
      obtain ⟨ax, cx, hx, _, _⟩ := sl_form s1
      obtain ⟨ay, cy, hy, _, _⟩ := sl_form s2
      subst hx
      subst hy
      rw [HM.out] at f2
      rw [Nat.add_zero] at f2
      have p0 : (0 : Int) ≤ (k : Int) := by omega
      have p1 : (k : Int) < (c : Int) := by omega
      have p2 : (0 : Int) < (c : Int) := by omega
      have BL : Hid (∀ n, Below w.heap.size w (wr.drewN n)) := fun n => hbl.trans ((below_drewN wr n).mono hbl.size)
      by_cases hlt : k < j
      · rw [IN.out k hlt] at f1
        have hne : ((m : Int) != (m : Int)) = false := by simp
        clear g1 g2 s1 s2 hB hbl
        go_wp2
        go_quiet (fail)
        go_wp2
        go_roundw
        case rel => exact ⟨k + 1, by omega, by go_num, HB.out.trans ((below_drewN wr _).mono HB.out.size)⟩
        case measure => simp [intOf]; omega
      · obtain rfl : k = j := by omega
        have hne : (((L.getD k []).length : Int) != (m : Int)) = true := by rw [bne_iff_ne]; have := OUT.out hkc; omega
        generalize (L.getD k []).length = q at f1 hne
        clear g1 g2 s1 s2 hB hbl
        go_wp2
        go_quiet (fail)
        go_wp2
        go_ret2
        exact ⟨fun h => absurd h (by omega), fun _ => ⟨rfl, BL.out _⟩⟩
    · obtain rfl : k = c := by omega
      obtain rfl : j = k := by omega
      clear hB hbl
      go_wp2
      go_loopw [7, 8] (fun v i wr => ∃ (x : Nat) (vs : List Value), x ≤ r ∧ i = .int .i64 (x : Int) ∧ OwnR wr w1.heap.size v vs ((applyL l r j L).take x) ∧ vs.length ≤ 16 ∧ Below w1.heap.size w1 wr) (fun _ i _ => r - (intOf i).toNat)
      case atStart => exact ⟨0, [], by omega, rfl, by rw [List.take_zero]; exact ownr_nil _ _, by simp, HB.out⟩
      case round =>
        clear HB
        obtain ⟨x, vs, hx, rfl, hOr, hvl, hB⟩ := hrel
        have HOr := Lib.hid hOr
        have HB := Lib.hid hB
        have hbl := HW1.out.trans (hB.mono HW1.out.size)
        obtain ⟨x0, x1, x2⟩ := row_cells ((hB.block w.heap.size HS1.out).trans R1.out)
        by_cases hlt : x < r
        · obtain ⟨y, g2, s2⟩ := K2.out 0 (by omega)
          have f2 := (hbl.cell (p := ⟨b2, o2 + 0, none⟩) (block_lt_of_cell g2)).trans g2
          obtain ⟨ay, cy, hy, _, _⟩ := sl_form s2
          subst hy
          rw [HM.out, Nat.add_zero] at f2
          have p2 : (0 : Int) < (j : Int) := by omega
          have hmk := own_made wr (base := w1.heap.size) (n := m) HB.out.size (by unfold maxLen; omega)
          have hor2 := ownr_below HOr.out ((Below.refl wr.heap.size wr).alloc (Nat.le_refl _) (.cells (cellsOf (List.replicate m 0)).toArray 5))
          have hb2 := HB.out.alloc HB.out.size (.cells (cellsOf (List.replicate m 0)).toArray 5)
          have HMK := Lib.hid hmk
          have HOR2 := Lib.hid hor2
          have HB2 := Lib.hid hb2
          clear hOr hB hbl g2 s2 hmk hor2 hb2 x1 x2
          go_wp2_with ((with_reducible refine make_step (n := m) ?_ (by omega) ?_); exact rfl)
          generalize wr.alloc (.cells (cellsOf (List.replicate m 0)).toArray 5) = wa at *
          clear x0 f2
          go_loopw [9, 10] (fun s i wr => ∃ k : Nat, k ≤ j ∧ i = .int .i64 (k : Int) ∧ Own wr w1.heap.size s (rowAt l j x L m k) ∧ OwnR wr w1.heap.size u7 vs ((applyL l r j L).take x) ∧ Below w1.heap.size w1 wr) (fun _ i _ => j - (intOf i).toNat)
          case atStart => exact ⟨0, by omega, rfl, HMK.out, HOR2.out, HB2.out⟩
          case round =>
            clear HMK HOR2 HB2 HB HOr
            obtain ⟨k, hk, rfl, hO, hOr, hB⟩ := hrel
            have HO := Lib.hid hO
            have HOr := Lib.hid hOr
            have HB := Lib.hid hB
            clear hO hOr hB
            rename World => wi
            have hbl := HW1.out.trans (HB.out.mono HW1.out.size)
            obtain ⟨x0, x1, x2⟩ := row_cells ((HB.out.block w.heap.size HS1.out).trans R1.out)
            by_cases hkc : k < j
            · obtain ⟨y, g2, s2⟩ := K2.out k hkc
              have f2 := (hbl.cell (p := ⟨b2, o2 + k, none⟩) (block_lt_of_cell g2)).trans g2
              have S2 := Lib.hid (sl_below s2 hbl)
              obtain ⟨pp, hpp⟩ : ∃ p, p = x * j := ⟨_, rfl⟩
              have hq : pp + k < n := by rw [hpp, E1.out]; exact at_lt hlt hkc
              have g3 := K1.out _ hq
              have f3 := (hbl.cell (p := ⟨b1, o1 + (pp + k), none⟩) (block_lt_of_cell g3)).trans g3
              have v3 : l.getD (pp + k) 0 = ent l j x k := by rw [hpp]; rfl
              have u3 := getD_lt L1.out (pp + k)
              rw [v3] at f3 u3
              have i1 : (x : Int) * (j : Int) = (pp : Int) := by rw [hpp]; simp
              have hd : Hid ((rowAt l j x L m k).length = m) := rowAt_length k fun i hi => IN.out i (by omega)
              have hl2 : Hid ((L.getD k []).length = m) := IN.out k hkc
              have hst : Hid (rowAt l j x L m (k + 1) = ma (ent l j x k) (rowAt l j x L m k) (L.getD k [])) := rfl
              have p0 : (0 : Int) ≤ (k : Int) := by omega
              have p1 : (k : Int) < (j : Int) := by omega
              have w1' : IntKind.i64.wrap (pp : Int) = (pp : Int) := IntWalk.i64_in _ (by omega)
              have w3' : IntKind.i64.wrap ((pp : Int) + (k : Int)) = (pp : Int) + (k : Int) := IntWalk.i64_in _ (by omega)
              have j1 : (0 : Int) ≤ (pp : Int) + (k : Int) := by omega
              have j2 : (pp : Int) + (k : Int) < (n : Int) := by omega
              have t1 : ((pp : Int) + (k : Int)).toNat = pp + k := by omega
              generalize rowAt l j x L m k = R1' at HO hd hst
              generalize ent l j x k = ee at f3 u3 hst
              generalize L.getD k [] = Lk at S2 hl2 hst
              clear g2 s2 g3 v3 hpp
              go_wp2
              refine wp_region_any (by kernel_rfl) ?_
              refine wpAny_take (i := 0) (v := u9) rfl (by kernel_rfl) (by kernel_rfl) (by kernel_rfl) (fun _ _ _ h => h) (Or.inl ⟨by rfl, fun w => by rfl⟩) ?_
              refine wpAny_take (i := 1) (v := .slice (some ⟨b2, o2, none⟩) j c2) rfl (by kernel_rfl) (by kernel_rfl) (by kernel_rfl) (fun _ _ _ h => h) (Or.inl ⟨by rfl, fun w => by rfl⟩) ?_
              refine wpAny_take (i := 2) (v := .int .i64 (k : Int)) rfl (by kernel_rfl) (by kernel_rfl) (by kernel_rfl) (fun _ _ _ h => h) (Or.inl ⟨by rfl, fun w => by rfl⟩) ?_
              refine wpAny_take (i := 3) (v := .pointer (some ⟨b2, o2 + k, none⟩)) rfl (by kernel_rfl) (by kernel_rfl) (by kernel_rfl) (fun _ _ _ h => h) (Or.inl ⟨by rfl, fun w => by go_simp⟩) ?_
              refine wpAny_take (i := 5) (v := .pointer (some ⟨w.heap.size, 2, none⟩)) rfl (by kernel_rfl) (by kernel_rfl) (by kernel_rfl) (fun _ _ _ h => h) (Or.inl ⟨by rfl, fun w => by go_simp⟩) ?_
              refine wpAny_take (i := 7) (v := .int .i64 (x : Int)) rfl (by kernel_rfl) (by kernel_rfl) (by kernel_rfl) (fun _ _ _ h => h) (Or.inl ⟨by rfl, fun w => by rfl⟩) ?_
              refine wpAny_take (i := 8) (v := .pointer (some ⟨w.heap.size, 1, none⟩)) rfl (by kernel_rfl) (by kernel_rfl) (by kernel_rfl) (fun _ _ _ h => h) (Or.inl ⟨by rfl, fun w => by go_simp⟩) ?_
              refine wpAny_take (i := 11) (v := .int .i64 (k : Int)) rfl (by kernel_rfl) (by kernel_rfl) (by kernel_rfl) (fun _ _ _ h => h) (Or.inl ⟨by rfl, fun w => by rfl⟩) ?_
              refine wpAny_ready (rs := [4, 6, 9]) (by kernel_rfl) (by simp) ?_
              refine AllReady.cons rfl (fun K hK => ?_) (AllReady.cons rfl (fun K hK => ?_) (AllReady.cons rfl (fun K hK => ?_) (AllReady.nil)))
              · go_simp
                refine hK _ _ ?_
                clear hK K
                refine wpAny_ready (rs := [6, 9]) (by kernel_rfl) (by simp) ?_
                refine AllReady.cons rfl (fun K hK => ?_) (AllReady.cons rfl (fun K hK => ?_) (AllReady.nil))
                · go_simp
                  refine hK _ _ ?_
                  clear hK K
                  refine wpAny_ready (rs := [9]) (by kernel_rfl) (by simp) ?_
                  refine AllReady.cons rfl (fun K hK => ?_) (AllReady.nil)
                  · go_simp
                    refine hK _ _ ?_
                    clear hK K
                    refine wpAny_take (i := 10) (v := .int .i64 (pp : Int)) rfl (by kernel_rfl) (by kernel_rfl) (by kernel_rfl) (fun _ _ _ h => h) (Or.inl ⟨by rfl, fun w => by go_simp⟩) ?_
                    refine wpAny_take (i := 12) (v := .int .i64 ((pp : Int) + (k : Int))) rfl (by kernel_rfl) (by kernel_rfl) (by kernel_rfl) (fun _ _ _ h => h) (Or.inl ⟨by rfl, fun w => by go_simp⟩) ?_
                    refine wpAny_take (i := 13) (v := .pointer (some ⟨b1, o1 + (pp + k), none⟩)) rfl (by kernel_rfl) (by kernel_rfl) (by kernel_rfl) (fun _ _ _ h => h) (Or.inl ⟨by rfl, fun w => by go_simp⟩) ?_
                    refine wpAny_ready (rs := [14]) (by kernel_rfl) (by simp) ?_
                    refine AllReady.cons rfl (fun K hK => ?_) (AllReady.nil)
                    · go_simp
                      refine hK _ _ ?_
                      clear hK K
                      refine wpAny_ready (rs := [15]) (by kernel_rfl) (by simp) ?_
                      refine AllReady.cons rfl (fun K hK => ?_) AllReady.nil
                      go_simp
                      go_at_call 61
                      refine (rma_any _ _ R1' Lk ee _ (sl_drew HO.out.sl) (sl_drew S2.out) (by have := hd.out; omega) u3).mono ?_
                      rintro e w5 ⟨h5, -, hB5⟩
                      obtain ⟨s5, rfl, ho5⟩ := h5 (hd.out.trans hl2.out.symm)
                      have HO5 := Lib.hid (own_base HB.out.size ho5)
                      have HR5 := Lib.hid (ownr_below HOr.out.drew' hB5)
                      have HB5 := Lib.hid (HB.out.drew.trans (hB5.mono HB.out.size))
                      clear ho5 h5 hB5
                      refine hK _ _ ?_
                      clear hK K
                      refine wpAny_take (i := 16) (v := .tuple #[s5, .int .i64 0]) rfl (by kernel_rfl) (by kernel_rfl) (by kernel_rfl) (fun _ _ _ h => h) (Or.inl ⟨by rfl, fun w => by rfl⟩) ?_
                      refine wpAny_take (i := 17) (v := s5) rfl (by kernel_rfl) (by kernel_rfl) (by kernel_rfl) (fun _ _ _ h => h) (Or.inl ⟨by rfl, fun w => by rfl⟩) ?_
                      refine wpAny_take (i := 18) (v := .int .i64 0) rfl (by kernel_rfl) (by kernel_rfl) (by kernel_rfl) (fun _ _ _ h => h) (Or.inl ⟨by rfl, fun w => by rfl⟩) ?_
                      refine any_tail 19 (by kernel_rfl) ?_
                      simp only [List.drop_succ_cons, List.drop_zero]
                      go_wp2
                      go_roundw
                      case rel => exact ⟨k + 1, by omega, by go_num, by rw [hst.out]; exact HO5.out, HR5.out, HB5.out⟩
                      case measure => simp [intOf]; omega
                · go_simp
                  refine hK _ _ ?_
                  clear hK K
                  refine wpAny_take (i := 10) (v := .int .i64 (pp : Int)) rfl (by kernel_rfl) (by kernel_rfl) (by kernel_rfl) (fun _ _ _ h => h) (Or.inl ⟨by rfl, fun w => by go_simp⟩) ?_
                  refine wpAny_take (i := 12) (v := .int .i64 ((pp : Int) + (k : Int))) rfl (by kernel_rfl) (by kernel_rfl) (by kernel_rfl) (fun _ _ _ h => h) (Or.inl ⟨by rfl, fun w => by go_simp⟩) ?_
                  refine wpAny_ready (rs := [6]) (by kernel_rfl) (by simp) ?_
                  refine AllReady.cons rfl (fun K hK => ?_) (AllReady.nil)
                  · go_simp
                    refine hK _ _ ?_
                    clear hK K
                    refine wpAny_take (i := 13) (v := .pointer (some ⟨b1, o1 + (pp + k), none⟩)) rfl (by kernel_rfl) (by kernel_rfl) (by kernel_rfl) (fun _ _ _ h => h) (Or.inl ⟨by rfl, fun w => by go_simp⟩) ?_
                    refine wpAny_ready (rs := [14]) (by kernel_rfl) (by simp) ?_
                    refine AllReady.cons rfl (fun K hK => ?_) (AllReady.nil)
                    · go_simp
                      refine hK _ _ ?_
                      clear hK K
                      refine wpAny_ready (rs := [15]) (by kernel_rfl) (by simp) ?_
                      refine AllReady.cons rfl (fun K hK => ?_) AllReady.nil
                      go_simp
                      go_at_call 61
                      refine (rma_any _ _ R1' Lk ee _ (sl_drew HO.out.sl) (sl_drew S2.out) (by have := hd.out; omega) u3).mono ?_
                      rintro e w5 ⟨h5, -, hB5⟩
                      obtain ⟨s5, rfl, ho5⟩ := h5 (hd.out.trans hl2.out.symm)
                      have HO5 := Lib.hid (own_base HB.out.size ho5)
                      have HR5 := Lib.hid (ownr_below HOr.out.drew' hB5)
                      have HB5 := Lib.hid (HB.out.drew.trans (hB5.mono HB.out.size))
                      clear ho5 h5 hB5
                      refine hK _ _ ?_
                      clear hK K
                      refine wpAny_take (i := 16) (v := .tuple #[s5, .int .i64 0]) rfl (by kernel_rfl) (by kernel_rfl) (by kernel_rfl) (fun _ _ _ h => h) (Or.inl ⟨by rfl, fun w => by rfl⟩) ?_
                      refine wpAny_take (i := 17) (v := s5) rfl (by kernel_rfl) (by kernel_rfl) (by kernel_rfl) (fun _ _ _ h => h) (Or.inl ⟨by rfl, fun w => by rfl⟩) ?_
                      refine wpAny_take (i := 18) (v := .int .i64 0) rfl (by kernel_rfl) (by kernel_rfl) (by kernel_rfl) (fun _ _ _ h => h) (Or.inl ⟨by rfl, fun w => by rfl⟩) ?_
                      refine any_tail 19 (by kernel_rfl) ?_
                      simp only [List.drop_succ_cons, List.drop_zero]
                      go_wp2
                      go_roundw
                      case rel => exact ⟨k + 1, by omega, by go_num, by rw [hst.out]; exact HO5.out, HR5.out, HB5.out⟩
                      case measure => simp [intOf]; omega
              · go_simp
                refine hK _ _ ?_
                clear hK K
                refine wpAny_ready (rs := [4, 9]) (by kernel_rfl) (by simp) ?_
                refine AllReady.cons rfl (fun K hK => ?_) (AllReady.cons rfl (fun K hK => ?_) (AllReady.nil))
                · go_simp
                  refine hK _ _ ?_
                  clear hK K
                  refine wpAny_ready (rs := [9]) (by kernel_rfl) (by simp) ?_
                  refine AllReady.cons rfl (fun K hK => ?_) (AllReady.nil)
                  · go_simp
                    refine hK _ _ ?_
                    clear hK K
                    refine wpAny_take (i := 10) (v := .int .i64 (pp : Int)) rfl (by kernel_rfl) (by kernel_rfl) (by kernel_rfl) (fun _ _ _ h => h) (Or.inl ⟨by rfl, fun w => by go_simp⟩) ?_
                    refine wpAny_take (i := 12) (v := .int .i64 ((pp : Int) + (k : Int))) rfl (by kernel_rfl) (by kernel_rfl) (by kernel_rfl) (fun _ _ _ h => h) (Or.inl ⟨by rfl, fun w => by go_simp⟩) ?_
                    refine wpAny_take (i := 13) (v := .pointer (some ⟨b1, o1 + (pp + k), none⟩)) rfl (by kernel_rfl) (by kernel_rfl) (by kernel_rfl) (fun _ _ _ h => h) (Or.inl ⟨by rfl, fun w => by go_simp⟩) ?_
                    refine wpAny_ready (rs := [14]) (by kernel_rfl) (by simp) ?_
                    refine AllReady.cons rfl (fun K hK => ?_) (AllReady.nil)
                    · go_simp
                      refine hK _ _ ?_
                      clear hK K
                      refine wpAny_ready (rs := [15]) (by kernel_rfl) (by simp) ?_
                      refine AllReady.cons rfl (fun K hK => ?_) AllReady.nil
                      go_simp
                      go_at_call 61
                      refine (rma_any _ _ R1' Lk ee _ (sl_drew HO.out.sl) (sl_drew S2.out) (by have := hd.out; omega) u3).mono ?_
                      rintro e w5 ⟨h5, -, hB5⟩
                      obtain ⟨s5, rfl, ho5⟩ := h5 (hd.out.trans hl2.out.symm)
                      have HO5 := Lib.hid (own_base HB.out.size ho5)
                      have HR5 := Lib.hid (ownr_below HOr.out.drew' hB5)
                      have HB5 := Lib.hid (HB.out.drew.trans (hB5.mono HB.out.size))
                      clear ho5 h5 hB5
                      refine hK _ _ ?_
                      clear hK K
                      refine wpAny_take (i := 16) (v := .tuple #[s5, .int .i64 0]) rfl (by kernel_rfl) (by kernel_rfl) (by kernel_rfl) (fun _ _ _ h => h) (Or.inl ⟨by rfl, fun w => by rfl⟩) ?_
                      refine wpAny_take (i := 17) (v := s5) rfl (by kernel_rfl) (by kernel_rfl) (by kernel_rfl) (fun _ _ _ h => h) (Or.inl ⟨by rfl, fun w => by rfl⟩) ?_
                      refine wpAny_take (i := 18) (v := .int .i64 0) rfl (by kernel_rfl) (by kernel_rfl) (by kernel_rfl) (fun _ _ _ h => h) (Or.inl ⟨by rfl, fun w => by rfl⟩) ?_
                      refine any_tail 19 (by kernel_rfl) ?_
                      simp only [List.drop_succ_cons, List.drop_zero]
                      go_wp2
                      go_roundw
                      case rel => exact ⟨k + 1, by omega, by go_num, by rw [hst.out]; exact HO5.out, HR5.out, HB5.out⟩
                      case measure => simp [intOf]; omega
                · go_simp
                  refine hK _ _ ?_
                  clear hK K
                  refine wpAny_take (i := 10) (v := .int .i64 (pp : Int)) rfl (by kernel_rfl) (by kernel_rfl) (by kernel_rfl) (fun _ _ _ h => h) (Or.inl ⟨by rfl, fun w => by go_simp⟩) ?_
                  refine wpAny_take (i := 12) (v := .int .i64 ((pp : Int) + (k : Int))) rfl (by kernel_rfl) (by kernel_rfl) (by kernel_rfl) (fun _ _ _ h => h) (Or.inl ⟨by rfl, fun w => by go_simp⟩) ?_
                  refine wpAny_take (i := 13) (v := .pointer (some ⟨b1, o1 + (pp + k), none⟩)) rfl (by kernel_rfl) (by kernel_rfl) (by kernel_rfl) (fun _ _ _ h => h) (Or.inl ⟨by rfl, fun w => by go_simp⟩) ?_
                  refine wpAny_ready (rs := [4, 14]) (by kernel_rfl) (by simp) ?_
                  refine AllReady.cons rfl (fun K hK => ?_) (AllReady.cons rfl (fun K hK => ?_) (AllReady.nil))
                  · go_simp
                    refine hK _ _ ?_
                    clear hK K
                    refine wpAny_ready (rs := [14]) (by kernel_rfl) (by simp) ?_
                    refine AllReady.cons rfl (fun K hK => ?_) (AllReady.nil)
                    · go_simp
                      refine hK _ _ ?_
                      clear hK K
                      refine wpAny_ready (rs := [15]) (by kernel_rfl) (by simp) ?_
                      refine AllReady.cons rfl (fun K hK => ?_) AllReady.nil
                      go_simp
                      go_at_call 61
                      refine (rma_any _ _ R1' Lk ee _ (sl_drew HO.out.sl) (sl_drew S2.out) (by have := hd.out; omega) u3).mono ?_
                      rintro e w5 ⟨h5, -, hB5⟩
                      obtain ⟨s5, rfl, ho5⟩ := h5 (hd.out.trans hl2.out.symm)
                      have HO5 := Lib.hid (own_base HB.out.size ho5)
                      have HR5 := Lib.hid (ownr_below HOr.out.drew' hB5)
                      have HB5 := Lib.hid (HB.out.drew.trans (hB5.mono HB.out.size))
                      clear ho5 h5 hB5
                      refine hK _ _ ?_
                      clear hK K
                      refine wpAny_take (i := 16) (v := .tuple #[s5, .int .i64 0]) rfl (by kernel_rfl) (by kernel_rfl) (by kernel_rfl) (fun _ _ _ h => h) (Or.inl ⟨by rfl, fun w => by rfl⟩) ?_
                      refine wpAny_take (i := 17) (v := s5) rfl (by kernel_rfl) (by kernel_rfl) (by kernel_rfl) (fun _ _ _ h => h) (Or.inl ⟨by rfl, fun w => by rfl⟩) ?_
                      refine wpAny_take (i := 18) (v := .int .i64 0) rfl (by kernel_rfl) (by kernel_rfl) (by kernel_rfl) (fun _ _ _ h => h) (Or.inl ⟨by rfl, fun w => by rfl⟩) ?_
                      refine any_tail 19 (by kernel_rfl) ?_
                      simp only [List.drop_succ_cons, List.drop_zero]
                      go_wp2
                      go_roundw
                      case rel => exact ⟨k + 1, by omega, by go_num, by rw [hst.out]; exact HO5.out, HR5.out, HB5.out⟩
                      case measure => simp [intOf]; omega
                  · go_simp
                    refine hK _ _ ?_
                    clear hK K
                    refine wpAny_ready (rs := [4]) (by kernel_rfl) (by simp) ?_
                    refine AllReady.cons rfl (fun K hK => ?_) (AllReady.nil)
                    · go_simp
                      refine hK _ _ ?_
                      clear hK K
                      refine wpAny_ready (rs := [15]) (by kernel_rfl) (by simp) ?_
                      refine AllReady.cons rfl (fun K hK => ?_) AllReady.nil
                      go_simp
                      go_at_call 61
                      refine (rma_any _ _ R1' Lk ee _ (sl_drew HO.out.sl) (sl_drew S2.out) (by have := hd.out; omega) u3).mono ?_
                      rintro e w5 ⟨h5, -, hB5⟩
                      obtain ⟨s5, rfl, ho5⟩ := h5 (hd.out.trans hl2.out.symm)
                      have HO5 := Lib.hid (own_base HB.out.size ho5)
                      have HR5 := Lib.hid (ownr_below HOr.out.drew' hB5)
                      have HB5 := Lib.hid (HB.out.drew.trans (hB5.mono HB.out.size))
                      clear ho5 h5 hB5
                      refine hK _ _ ?_
                      clear hK K
                      refine wpAny_take (i := 16) (v := .tuple #[s5, .int .i64 0]) rfl (by kernel_rfl) (by kernel_rfl) (by kernel_rfl) (fun _ _ _ h => h) (Or.inl ⟨by rfl, fun w => by rfl⟩) ?_
                      refine wpAny_take (i := 17) (v := s5) rfl (by kernel_rfl) (by kernel_rfl) (by kernel_rfl) (fun _ _ _ h => h) (Or.inl ⟨by rfl, fun w => by rfl⟩) ?_
                      refine wpAny_take (i := 18) (v := .int .i64 0) rfl (by kernel_rfl) (by kernel_rfl) (by kernel_rfl) (fun _ _ _ h => h) (Or.inl ⟨by rfl, fun w => by rfl⟩) ?_
                      refine any_tail 19 (by kernel_rfl) ?_
                      simp only [List.drop_succ_cons, List.drop_zero]
                      go_wp2
                      go_roundw
                      case rel => exact ⟨k + 1, by omega, by go_num, by rw [hst.out]; exact HO5.out, HR5.out, HB5.out⟩
                      case measure => simp [intOf]; omega
              · go_simp
                refine hK _ _ ?_
                clear hK K
                refine wpAny_take (i := 10) (v := .int .i64 (pp : Int)) rfl (by kernel_rfl) (by kernel_rfl) (by kernel_rfl) (fun _ _ _ h => h) (Or.inl ⟨by rfl, fun w => by go_simp⟩) ?_
                refine wpAny_take (i := 12) (v := .int .i64 ((pp : Int) + (k : Int))) rfl (by kernel_rfl) (by kernel_rfl) (by kernel_rfl) (fun _ _ _ h => h) (Or.inl ⟨by rfl, fun w => by go_simp⟩) ?_
                refine wpAny_ready (rs := [4, 6]) (by kernel_rfl) (by simp) ?_
                refine AllReady.cons rfl (fun K hK => ?_) (AllReady.cons rfl (fun K hK => ?_) (AllReady.nil))
                · go_simp
                  refine hK _ _ ?_
                  clear hK K
                  refine wpAny_ready (rs := [6]) (by kernel_rfl) (by simp) ?_
                  refine AllReady.cons rfl (fun K hK => ?_) (AllReady.nil)
                  · go_simp
                    refine hK _ _ ?_
                    clear hK K
                    refine wpAny_take (i := 13) (v := .pointer (some ⟨b1, o1 + (pp + k), none⟩)) rfl (by kernel_rfl) (by kernel_rfl) (by kernel_rfl) (fun _ _ _ h => h) (Or.inl ⟨by rfl, fun w => by go_simp⟩) ?_
                    refine wpAny_ready (rs := [14]) (by kernel_rfl) (by simp) ?_
                    refine AllReady.cons rfl (fun K hK => ?_) (AllReady.nil)
                    · go_simp
                      refine hK _ _ ?_
                      clear hK K
                      refine wpAny_ready (rs := [15]) (by kernel_rfl) (by simp) ?_
                      refine AllReady.cons rfl (fun K hK => ?_) AllReady.nil
                      go_simp
                      go_at_call 61
                      refine (rma_any _ _ R1' Lk ee _ (sl_drew HO.out.sl) (sl_drew S2.out) (by have := hd.out; omega) u3).mono ?_
                      rintro e w5 ⟨h5, -, hB5⟩
                      obtain ⟨s5, rfl, ho5⟩ := h5 (hd.out.trans hl2.out.symm)
                      have HO5 := Lib.hid (own_base HB.out.size ho5)
                      have HR5 := Lib.hid (ownr_below HOr.out.drew' hB5)
                      have HB5 := Lib.hid (HB.out.drew.trans (hB5.mono HB.out.size))
                      clear ho5 h5 hB5
                      refine hK _ _ ?_
                      clear hK K
                      refine wpAny_take (i := 16) (v := .tuple #[s5, .int .i64 0]) rfl (by kernel_rfl) (by kernel_rfl) (by kernel_rfl) (fun _ _ _ h => h) (Or.inl ⟨by rfl, fun w => by rfl⟩) ?_
                      refine wpAny_take (i := 17) (v := s5) rfl (by kernel_rfl) (by kernel_rfl) (by kernel_rfl) (fun _ _ _ h => h) (Or.inl ⟨by rfl, fun w => by rfl⟩) ?_
                      refine wpAny_take (i := 18) (v := .int .i64 0) rfl (by kernel_rfl) (by kernel_rfl) (by kernel_rfl) (fun _ _ _ h => h) (Or.inl ⟨by rfl, fun w => by rfl⟩) ?_
                      refine any_tail 19 (by kernel_rfl) ?_
                      simp only [List.drop_succ_cons, List.drop_zero]
                      go_wp2
                      go_roundw
                      case rel => exact ⟨k + 1, by omega, by go_num, by rw [hst.out]; exact HO5.out, HR5.out, HB5.out⟩
                      case measure => simp [intOf]; omega
                · go_simp
                  refine hK _ _ ?_
                  clear hK K
                  refine wpAny_take (i := 13) (v := .pointer (some ⟨b1, o1 + (pp + k), none⟩)) rfl (by kernel_rfl) (by kernel_rfl) (by kernel_rfl) (fun _ _ _ h => h) (Or.inl ⟨by rfl, fun w => by go_simp⟩) ?_
                  refine wpAny_ready (rs := [4, 14]) (by kernel_rfl) (by simp) ?_
                  refine AllReady.cons rfl (fun K hK => ?_) (AllReady.cons rfl (fun K hK => ?_) (AllReady.nil))
                  · go_simp
                    refine hK _ _ ?_
                    clear hK K
                    refine wpAny_ready (rs := [14]) (by kernel_rfl) (by simp) ?_
                    refine AllReady.cons rfl (fun K hK => ?_) (AllReady.nil)
                    · go_simp
                      refine hK _ _ ?_
                      clear hK K
                      refine wpAny_ready (rs := [15]) (by kernel_rfl) (by simp) ?_
                      refine AllReady.cons rfl (fun K hK => ?_) AllReady.nil
                      go_simp
                      go_at_call 61
                      refine (rma_any _ _ R1' Lk ee _ (sl_drew HO.out.sl) (sl_drew S2.out) (by have := hd.out; omega) u3).mono ?_
                      rintro e w5 ⟨h5, -, hB5⟩
                      obtain ⟨s5, rfl, ho5⟩ := h5 (hd.out.trans hl2.out.symm)
                      have HO5 := Lib.hid (own_base HB.out.size ho5)
                      have HR5 := Lib.hid (ownr_below HOr.out.drew' hB5)
                      have HB5 := Lib.hid (HB.out.drew.trans (hB5.mono HB.out.size))
                      clear ho5 h5 hB5
                      refine hK _ _ ?_
                      clear hK K
                      refine wpAny_take (i := 16) (v := .tuple #[s5, .int .i64 0]) rfl (by kernel_rfl) (by kernel_rfl) (by kernel_rfl) (fun _ _ _ h => h) (Or.inl ⟨by rfl, fun w => by rfl⟩) ?_
                      refine wpAny_take (i := 17) (v := s5) rfl (by kernel_rfl) (by kernel_rfl) (by kernel_rfl) (fun _ _ _ h => h) (Or.inl ⟨by rfl, fun w => by rfl⟩) ?_
                      refine wpAny_take (i := 18) (v := .int .i64 0) rfl (by kernel_rfl) (by kernel_rfl) (by kernel_rfl) (fun _ _ _ h => h) (Or.inl ⟨by rfl, fun w => by rfl⟩) ?_
                      refine any_tail 19 (by kernel_rfl) ?_
                      simp only [List.drop_succ_cons, List.drop_zero]
                      go_wp2
                      go_roundw
                      case rel => exact ⟨k + 1, by omega, by go_num, by rw [hst.out]; exact HO5.out, HR5.out, HB5.out⟩
                      case measure => simp [intOf]; omega
                  · go_simp
                    refine hK _ _ ?_
                    clear hK K
                    refine wpAny_ready (rs := [4]) (by kernel_rfl) (by simp) ?_
                    refine AllReady.cons rfl (fun K hK => ?_) (AllReady.nil)
                    · go_simp
                      refine hK _ _ ?_
                      clear hK K
                      refine wpAny_ready (rs := [15]) (by kernel_rfl) (by simp) ?_
                      refine AllReady.cons rfl (fun K hK => ?_) AllReady.nil
                      go_simp
                      go_at_call 61
                      refine (rma_any _ _ R1' Lk ee _ (sl_drew HO.out.sl) (sl_drew S2.out) (by have := hd.out; omega) u3).mono ?_
                      rintro e w5 ⟨h5, -, hB5⟩
                      obtain ⟨s5, rfl, ho5⟩ := h5 (hd.out.trans hl2.out.symm)
                      have HO5 := Lib.hid (own_base HB.out.size ho5)
                      have HR5 := Lib.hid (ownr_below HOr.out.drew' hB5)
                      have HB5 := Lib.hid (HB.out.drew.trans (hB5.mono HB.out.size))
                      clear ho5 h5 hB5
                      refine hK _ _ ?_
                      clear hK K
                      refine wpAny_take (i := 16) (v := .tuple #[s5, .int .i64 0]) rfl (by kernel_rfl) (by kernel_rfl) (by kernel_rfl) (fun _ _ _ h => h) (Or.inl ⟨by rfl, fun w => by rfl⟩) ?_
                      refine wpAny_take (i := 17) (v := s5) rfl (by kernel_rfl) (by kernel_rfl) (by kernel_rfl) (fun _ _ _ h => h) (Or.inl ⟨by rfl, fun w => by rfl⟩) ?_
                      refine wpAny_take (i := 18) (v := .int .i64 0) rfl (by kernel_rfl) (by kernel_rfl) (by kernel_rfl) (fun _ _ _ h => h) (Or.inl ⟨by rfl, fun w => by rfl⟩) ?_
                      refine any_tail 19 (by kernel_rfl) ?_
                      simp only [List.drop_succ_cons, List.drop_zero]
                      go_wp2
                      go_roundw
                      case rel => exact ⟨k + 1, by omega, by go_num, by rw [hst.out]; exact HO5.out, HR5.out, HB5.out⟩
                      case measure => simp [intOf]; omega
            · obtain rfl : k = j := by omega
              have hsn := applyL_snoc (l := l) (c := k) (L := L) hlt
              rw [HM.out] at hsn
              have HSN := Lib.hid hsn
              have hbs := HB.out.size
              clear hsn
              obtain ⟨a9, n9, c9, h9, -⟩ := own_form HO.out
              subst h9
              go_wp2_with (at_builtin; refine app1 (dst := some 76) Try.underlying35 infoS rfl (by decide) ?_ ?_ (ownsRow_mono HOr.out.1 ((Below.refl wi.heap.size wi).alloc (Nat.le_refl _) _)) (heap_alloc_new _ _) (own_one HO.out) (by omega) (by simp; omega) ?_; exact rfl; exact rfl; intro v3 w3 ho3 hg3; have HO3 := Lib.hid ho3; have HG3 := Lib.hid hg3; obtain ⟨av, cv, hv3⟩ := ownsRow_form ho3; subst hv3; clear ho3 hg3)
              go_roundw
              case rel =>
                have hal := (Below.refl wi.heap.size wi).alloc (Nat.le_refl _) (.cells #[.slice a9 n9 c9] 22)
                refine ⟨x + 1, vs ++ [.slice a9 n9 c9], by omega, by go_num, ?_, ?_, ?_⟩
                · rw [HSN.out]
                  exact ownr_push (ownr_below HOr.out hal) (own_below' HO.out hal) HG3.out HO3.out
                · have h1 := HOr.out.2.1
                  simp [applyL] at h1 ⊢
                  omega
                · exact (HB.out.alloc HB.out.size _).grown HG3.out (by simp; have := HB.out.size; omega) (fun q hq => (HOr.out.1.lt q hq).1)
              case measure => simp [intOf]; omega
        · obtain rfl : x = r := by omega
          have hl : (applyL l x j L).take x = applyL l x j L := List.take_of_length_le (by simp [applyL])
          rw [hl] at HOr
          go_wp2
          go_ret2
          exact ⟨⟨u7, rfl, vs, ownr_base (Nat.le_of_lt HS1.out) HOr.out⟩, hbl⟩
end Go.Proofs.Ytppfdaiehdbafaa.Gf
