/- What is proved here: the rows that Apply and Encode answer lie in memory of the call's own. lists of rows in memory of a call's own, and append of a list of rows. the contracts of the laws' functions light, data and full. the contract of the laws' function full. the chapter's examples, as the laws ask for them. Condition: rows of at most 1,000,000 bytes. -/
import Derived.Test.YtppfdaiehdbafaaT4c
import Derived.Laws.CopyOwn
import Derived.BigRegion
namespace Go.Proofs.Ytppfdaiehdbafaa.Gf
open Go Go.ChangeShapes Go.WideShapes Go.ChangeAt Go.RowKit Go.Sort Go.Proofs.Ytppfdaiehdbafaa.By Go.Proofs.Ytppfdaiehdbafaa.Qt

/-- The slice value v reads as the rows L, each of them in memory made behind base. -/
def SrO (w : World) (base : Nat) (v : Value) (L : List (List Nat)) : Prop :=
  L.length ≤ maxLen ∧ ((∃ a cap, v = .slice a 0 cap ∧ L = [] ∧ cap ≤ maxLen) ∨ ∃ b off cap, v = .slice (some ⟨b, off, none⟩) L.length cap ∧ L.length ≤ cap ∧ cap ≤ maxLen ∧ ∀ k, k < L.length → ∃ x, w.cell? ⟨b, off + k, none⟩ = some x ∧ Own w base x (L.getD k []))
theorem SrO.sr {w : World} {base : Nat} {v : Value} {L : List (List Nat)} (h : SrO w base v L) : Sr w v L := by
  obtain ⟨h1, h2 | ⟨b, off, cap, hv, h3, h4, hk⟩⟩ := h
  · exact ⟨h1, Or.inl h2⟩
  · exact ⟨h1, Or.inr ⟨b, off, cap, hv, h3, h4, fun k hkl => by obtain ⟨x, hx, ho⟩ := hk k hkl; exact ⟨x, hx, ho.sl⟩⟩⟩
theorem SrO.down {w : World} {base base' : Nat} {v : Value} {L : List (List Nat)} (h : SrO w base v L) (hb : base' ≤ base) : SrO w base' v L := by
  obtain ⟨h1, h2 | ⟨b, off, cap, hv, h3, h4, hk⟩⟩ := h
  · exact ⟨h1, Or.inl h2⟩
  · exact ⟨h1, Or.inr ⟨b, off, cap, hv, h3, h4, fun k hkl => by obtain ⟨x, hx, ho⟩ := hk k hkl; exact ⟨x, hx, own_base hb ho⟩⟩⟩
theorem sro_nil (w : World) (base : Nat) : SrO w base (.slice none 0 0) [] := ⟨by simp, Or.inl ⟨none, 0, rfl, rfl, by simp⟩⟩
theorem Rw.sro {wr : World} {base G n : Nat} {vs : List Value} {L : List (List Nat)} (h : Rw wr base G n vs L) (hn : n ≤ maxLen) : SrO wr base (.slice (some ⟨G, 0, none⟩) n n) L := by
  have hl := h.llen
  refine ⟨by omega, Or.inr ⟨G, 0, n, by rw [hl], by omega, hn, fun k hk => ⟨vs.getD k undef, ?_, h.rows k (by omega)⟩⟩⟩
  rw [Nat.zero_add]
  exact (h.cell (by omega)).1
set_option maxRecDepth 100000 in
set_option maxHeartbeats 3200000 in
theorem apply_own (r c m : Nat) (b1 o1 c1 b2 o2 c2 n : Nat) (l : List Nat) (L : List (List Nat)) (w : World) (hv : Vd r c n) (hln : l.length = n) (l1 : ∀ b ∈ l, b < 256) (hc1 : n ≤ c1) (hcm : c1 ≤ maxLen) (hc2 : c ≤ c2) (hc2m : c2 ≤ maxLen)
    (hLc : L.length = c) (hm : (L.getD 0 []).length = m) (hm1 : m ≤ 1000000) (hq : EqL L)
    (k1 : ∀ k, k < n → w.cell? ⟨b1, o1 + k, none⟩ = some (.int .u8 ((l.getD k 0 : Nat) : Int))) (k2 : ∀ k, k < c → ∃ x, w.cell? ⟨b2, o2 + k, none⟩ = some x ∧ Sl w x (L.getD k [])) :
    Calls Try.prog 39 #[mv r c (.slice (some ⟨b1, o1, none⟩) n c1), .slice (some ⟨b2, o2, none⟩) c c2] w fun e w' => (∃ v, e = .returned (.tuple #[v, .int .i64 0]) ∧ SrO w' w.heap.size v (applyL' l r c L)) ∧ Below w.heap.size w w' := by
  have hn : 1 ≤ r ∧ r ≤ 16 ∧ 1 ≤ c ∧ c ≤ 16 := by have := hv.1; unfold Sized at this; omega
  have e1 : n = r * c := by have := hv.2; exact_mod_cast this
  have hva := fun w => valid_any r c (some ⟨b1, o1, none⟩) n c1 w
  rw [decide_eq_true hv] at hva
  have k2b : ∀ w', Below w.heap.size w w' → ∀ k, k < c → ∃ x, w'.cell? ⟨b2, o2 + k, none⟩ = some x ∧ Sl w' x (L.getD k []) := fun w' hb k hk => by
    obtain ⟨x, hx, hs⟩ := k2 k hk
    exact ⟨x, (hb.cell (p := ⟨b2, o2 + k, none⟩) (block_lt_of_cell hx)).trans hx, sl_below hs hb⟩
  have hqe := fun w' (hb : Below w.heap.size w w') => eql_any (.slice (some ⟨b2, o2, none⟩) c c2) L w' ⟨by rw [hLc]; omega, Or.inr ⟨b2, o2, c2, by rw [hLc], by rw [hLc]; exact hc2, hc2m, fun k hk => k2b w' hb k (by omega)⟩⟩ (by omega) (by omega)
  rw [decide_eq_true hq] at hqe
  have hrow := fun (i p : Nat) (w : World) (hi : i < r) (hp : p = i * c) => row_any r c b1 o1 n c1 i p w hv.1 e1 hc1 hcm hi hp
  have hcut : ∀ (i p : Nat) (w' : World), i < r → p = i * c → Below w.heap.size w w' → Calls Try.prog 60 #[.slice (some ⟨b1, o1 + p, none⟩) c (c1 - p), .slice (some ⟨b2, o2, none⟩) c c2] w' fun e w'' => (∃ v, e = .returned v ∧ Own w'' w'.heap.size v (rowAt' l c i L m c)) ∧ Below w'.heap.size w' w'' := fun i p w' hi hp hb => by
    have hpn : p + c ≤ n := by rw [hp, e1, ← Nat.succ_mul]; exact Nat.mul_le_mul_right c hi
    have hr : (l.drop p).take c = (List.range c).map (ent l c i) := by rw [hp]; exact ent_row (by rw [hln, e1]; exact Nat.mul_le_mul_right c hi)
    have hsl := sl_cut (p := p) (c := c) l1 hln hcm hc1 (fun x hx => (hb.cell (p := ⟨b1, o1 + x, none⟩) (block_lt_of_cell (k1 x hx))).trans (k1 x hx)) hpn
    rw [hr] at hsl
    obtain ⟨b, o, cap, hv', _, _, hk⟩ := sl_cells hsl (by simp; omega)
    rw [show ((List.range c).map (ent l c i)).length = c by simp] at hv' hk
    have hv2 : b = b1 ∧ o = o1 + p := by simp at hv'; exact ⟨hv'.1.1.symm, hv'.1.2.symm⟩
    obtain ⟨rfl, rfl⟩ := hv2
    have h := comb_pos b (o1 + p) (c1 - p) b2 o2 c2 c m ((List.range c).map (ent l c i)) L w' (by simp) hLc hn.2.2.1 hn.2.2.2 hm1 (fun i hi => (hq i (by omega)).trans hm) hsl.1 hk (k2b w' hb)
    have hcomb : ∀ k, k ≤ c → combR (fun k => ((List.range c).map (ent l c i)).getD k 0) L m k = combR (ent l c i) L m k := by
      intro k
      induction k with
      | zero => intro _; rfl
      | succ k ih => intro hk; rw [combR, combR, ih (by omega), range_getD _ (by omega)]
    rw [hcomb c (Nat.le_refl c)] at h
    rw [combR_rowAt]
    exact h
  have HV := Lib.hid hva
  have HQ := Lib.hid hqe
  have HRW := Lib.hid hrow
  have HCB := Lib.hid hcut
  have HM := Lib.hid hm
  clear hva hqe hrow hcut k2b k1 k2 hv e1 hln l1 hc1 hcm hc2 hc2m hLc hq hm
  unfold mv at *
  go_enter Try.func39, Try.ntmps39
  go_wp2_with fail
  refine (HV.out _).mono ?_
  rintro e w1 ⟨rfl, hb1⟩
  obtain ⟨r1, hs, hb⟩ := one_later hb1
  obtain ⟨x0, x1, x2⟩ := row_cells r1
  have R1 := Lib.hid r1
  have B1 := Lib.hid hb
  clear hb1 r1 hb HV
  go_wp2_with fail
  refine (HQ.out w1 B1.out).mono ?_
  rintro e w2 ⟨rfl, rfl⟩
  have hr0 := rw_made w1 (base := w.heap.size) (n := r) B1.out.size
  have hb7 := B1.out.alloc B1.out.size (.cells (Array.replicate r (.slice none 0 0)) 22)
  have hl7 := (heap_alloc_old w1 (.cells (Array.replicate r (.slice none 0 0)) 22) (lt_of_some R1.out)).trans R1.out
  have HR0 := Lib.hid hr0
  have HB7 := Lib.hid hb7
  have HL7 := Lib.hid hl7
  clear hr0 hb7 hl7 HQ
  go_wp2_with ((with_reducible refine make_rows (n := r) ?_ (by omega) ?_); exact rfl)
  generalize hgG : w1.heap.size = G at *
  generalize w1.alloc (.cells (Array.replicate r (.slice none 0 0)) 22) = W7 at *
  clear x0 x1 x2 R1 B1
  go_loopw [28] (fun t wr => ∃ (i : Nat) (us : List Value) (K : List (List Nat)), i ≤ r ∧ t = .int .i64 (i : Int) ∧ Rw wr w.heap.size G r us K ∧ (∀ j, j < r → K.getD j [] = if j < i then rowAt' l c j L m c else []) ∧ wr.heap[w.heap.size]? = some (.cells #[.int .i64 r, .int .i64 c, .slice (some ⟨b1, o1, none⟩) n c1] 24 (0, 0)) ∧ Below w.heap.size w wr) (fun t _ => r - (intOf t).toNat)
  case atStart => exact ⟨0, _, _, by omega, rfl, HR0.out, fun j hj => by simp [List.getD, hj], HL7.out, HB7.out⟩
  case round =>
    clear HR0 HB7 HL7
    obtain ⟨i, us, K, hi, rfl, hU, hK, hr1, hW⟩ := hrel
    have HU := Lib.hid hU
    have HK := Lib.hid hK
    have R1 := Lib.hid hr1
    have HW := Lib.hid hW
    clear hU hK hr1 hW
    by_cases hlt : i < r
    · obtain ⟨p, hp⟩ : ∃ p, p = i * c := ⟨_, rfl⟩
      have HR1 := Lib.hid (fun w => HRW.out i p w hlt hp)
      have HC1 := Lib.hid (fun w' hb => HCB.out i p w' hlt hp hb)
      obtain ⟨x0, x1, x2⟩ := row_cells R1.out
      have j1 : (0 : Int) ≤ (i : Int) := by omega
      have j2 : (i : Int) < (r : Int) := by omega
      clear hp
      go_wp2_with fail
      refine (HR1.out _).mono ?_
      rintro e w3 ⟨rfl, hb3⟩
      have HU3 := Lib.hid (HU.out.later hb3)
      have R13 := Lib.hid ((hb3.block _ (lt_of_some R1.out)).trans R1.out)
      have HW3 := Lib.hid (bt HW.out hb3)
      clear hb3 HU R1 HW HR1 x0 x1 x2
      go_wp2_with fail
      refine (HC1.out _ HW3.out).mono ?_
      rintro e w4 ⟨⟨v4, rfl, ho4⟩, hb4⟩
      obtain ⟨av, nv, cv, hv4, -⟩ := own_form ho4
      subst hv4
      have hu4 := HU3.out.later hb4
      obtain ⟨q1, q2⟩ := hu4.cell hlt
      have ho4 := own_base HW3.out.size ho4
      have HU5 := Lib.hid (hu4.set hlt ho4)
      have hlo := hu4.lo
      have HW5 := Lib.hid ((bt HW3.out hb4).setCell (p := ⟨G, i, none⟩) hlo (.slice av nv cv))
      have hG0 : w.heap.size ≠ G := by rw [← hgG]; omega
      have R15 := Lib.hid ((heap_setCell_other w4 ⟨G, i, none⟩ _ (.slice av nv cv) hG0).trans ((hb4.block _ (lt_of_some R13.out)).trans R13.out))
      have hul := HU3.out.llen
      clear hu4 ho4 hb4 HU3 HW3 R13 HC1
      go_wp2_with fail
      go_roundw
      case rel =>
        refine ⟨i + 1, _, _, by omega, by go_num, HU5.out, fun j hj => ?_, R15.out, HW5.out⟩
        by_cases e : j = i
        · subst e
          rw [getD_set_eq (by omega), if_pos (by omega)]
        · rw [getD_set_other e, HK.out j hj]
          by_cases h : j < i
          · rw [if_pos h, if_pos (by omega)]
          · rw [if_neg h, if_neg (by omega)]
      case measure => simp [intOf]; omega
    · obtain rfl : i = r := by omega
      have hul := HU.out.llen
      have hKe : K = applyL' l i c L := by
        apply List.ext_getElem (by rw [hul, applyL']; simp)
        intro j h1 h2
        have hj : j < i := by omega
        have h3 := HK.out j hj
        rw [if_pos hj] at h3
        simp only [List.getD] at h3
        rw [List.getElem?_eq_getElem h1] at h3
        simp only [Option.getD_some] at h3
        rw [h3]
        simp only [applyL', List.getElem_map, List.getElem_range]
        rw [HM.out]
      rw [hKe] at HU
      have HSR := Lib.hid (HU.out.sro (by unfold maxLen; omega))
      clear hKe HK hul
      go_wp2
      go_ret2
      exact ⟨⟨_, rfl, HSR.out⟩, HW.out⟩
/-- What Encode answers: rows in new memory, and an error. -/
def EO (w : World) (L : List (List Nat)) (err : Int) (e : Ending) (w' : World) : Prop := (∃ v, e = .returned (.tuple #[v, .int .i64 err]) ∧ SrO w' w.heap.size v L) ∧ Below w.heap.size w w'
theorem o_encode (W : World) (v1 v2 : Value) (L : List (List Nat)) (s1 : Sl W v1 (flat 2 4 Pd)) (s2 : Sr W v2 L) (hm : Small L) (hl : Lev L 4) : Calls Try.prog 39 #[mv 2 4 v1, v2] W (EO W (encW L (wid L)) 0) := by
  have hv : Vd 2 4 (flat 2 4 Pd).length := by rw [flat_length]; decide
  obtain ⟨b1, o1, c1, rfl, d1, d2, k1⟩ := sl_cells s1 (by rw [flat_length]; decide)
  obtain ⟨b2, o2, c2, rfl, d3, d4, k2⟩ := sr_cells s2 (by rw [hl.1]; decide)
  rw [hl.1] at d3 k2 ⊢
  have h := apply_own 2 4 (wid L) b1 o1 c1 b2 o2 c2 (flat 2 4 Pd).length (flat 2 4 Pd) L W hv rfl s1.1 d1 d2 d3 d4 hl.1 rfl (hm 0) hl.2 k1 k2
  have hL := lev_lv s2 hl
  have e1 : applyL' (flat 2 4 Pd) 2 4 L = encW L (wid L) := by
    unfold applyL' encW appR
    refine List.map_congr_left fun i hi => ?_
    have hi : i < 2 := by simpa using hi
    rw [combR_rowAt]
    exact combR_congr 4 fun k hk => ent_flat Pd i hi k hk
  rw [e1] at h
  exact h
set_option maxRecDepth 100000 in
set_option maxHeartbeats 6400000 in
theorem encode_own (v : Value) (L : List (List Nat)) (w : World) (s : Sr w v L) (hm : Small L) (hl : Lev L 4) : Calls Try.prog 18 #[v] w (EO w (encW L (wid L)) 0) := by
  have CE := Lib.hid (fun W v1 v2 s1 s2 => o_encode W v1 v2 L s1 s2 hm hl)
  have S := Lib.hid s
  have B := Lib.hid (Below.refl w.heap.size w)
  clear s hm hl
  unfold EO
  go_enter Try.func18, Try.ntmps18
  go_wp2_with fail
  refine (code_any w).mono ?_
  unfold CM mv
  rintro e w1 ⟨⟨s1, rfl, hs1⟩, hb1⟩
  have S1 := Lib.hid hs1
  clear hs1
  have tS := sr_below S.out hb1
  clear S
  have S := Lib.hid tS
  clear tS
  have tB := bt B.out hb1
  clear B
  have B := Lib.hid tB
  clear tB
  clear hb1
  have I : Hid (Si (w1.alloc (.cells #[.int .i64 4, .int .i64 5] 3)) (.slice (some ⟨w1.heap.size, 0, none⟩) 2 2) (zi [4, 5])) := si_block (by decide) rfl (by unfold maxLen; decide) rfl (heap_alloc_new w1 _)
  have al1 := (Below.refl (w1).heap.size (w1)).alloc (Nat.le_refl _) (.cells #[.int .i64 4, .int .i64 5] 3)
  have tS := sr_below S.out al1
  clear S
  have S := Lib.hid tS
  clear tS
  have tS1 := sl_below S1.out al1
  clear S1
  have S1 := Lib.hid tS1
  clear tS1
  have tB := bt B.out al1
  clear B
  have B := Lib.hid tB
  clear tB
  clear al1
  go_wp2_with fail
  generalize w1.alloc (.cells #[.int .i64 4, .int .i64 5] 3) = Y1 at *
  refine (c_pick2 Y1 _ _ S1.out I.out).mono ?_
  unfold MS mv
  rintro e w2 ⟨⟨s2, rfl, hs2⟩, hb2⟩
  obtain ⟨a2, c2, hv2, -, -⟩ := sl_form hs2
  obtain ⟨n2, hn2⟩ : ∃ n, n = (flat 2 4 Pd).length := ⟨_, rfl⟩
  rw [← hn2] at hv2
  subst hv2
  clear hn2
  have tnew : MB (w2.alloc (.cells #[.int .i64 2, .int .i64 4, .slice a2 n2 c2] 24)) 24 w2.heap.size 2 4 a2 n2 c2 (flat 2 4 Pd) := MB.mk' hs2
  clear hs2
  have tS := sr_below S.out hb2
  clear S
  have S := Lib.hid tS
  clear tS
  have tS1 := sl_below S1.out hb2
  clear S1
  have S1 := Lib.hid tS1
  clear tS1
  have tB := bt B.out hb2
  clear B
  have B := Lib.hid tB
  clear tB
  clear hb2
  have al2 := (Below.refl w2.heap.size w2).alloc (Nat.le_refl _) (.cells #[.int .i64 2, .int .i64 4, .slice a2 n2 c2] 24)
  have tS := sr_below S.out al2
  clear S
  have S := Lib.hid tS
  clear tS
  have tS1 := sl_below S1.out al2
  clear S1
  have S1 := Lib.hid tS1
  clear tS1
  have tB := bt B.out al2
  clear B
  have B := Lib.hid tB
  clear tB
  clear al2
  have Pm := Lib.hid tnew
  clear tnew
  obtain ⟨Pmc0, Pmc1, Pmc2⟩ := Pm.out.cells
  go_wp2_with fail
  have hz2 : (w2.alloc (.cells #[.int .i64 2, .int .i64 4, .slice a2 n2 c2] 24)).heap.size = w2.heap.size + 1 := by simp
  have HZ2 := Lib.hid hz2
  clear hz2
  generalize w2.alloc (.cells #[.int .i64 2, .int .i64 4, .slice a2 n2 c2] 24) = W2 at *
  clear Pmc0 Pmc1 Pmc2
  refine (CE.out W2 _ _ Pm.out.sl S.out).mono ?_
  unfold EO
  rintro e w9 ⟨⟨v9, rfl, hs9⟩, hb9⟩
  have hb := bt B.out hb9
  go_wp2_with fail
  go_ret2
  exact ⟨⟨_, rfl, hs9.down B.out.size⟩, hb⟩
end Go.Proofs.Ytppfdaiehdbafaa.Gf
namespace Go.Proofs.Ytppfdaiehdbafaa.Gf
open Go Go.ChangeShapes Go.WideShapes Go.ChangeAt Go.RowKit Go.Sort Go.Proofs.Ytppfdaiehdbafaa.By Go.Proofs.Ytppfdaiehdbafaa.Qt

/-- Bytes that writing to a list of rows made behind base does not touch. -/
def Kp (w : World) (base : Nat) (x : Value) (l : List Nat) : Prop := Own w base x l ∨ ∃ w0, w0.heap.size ≤ base ∧ Below w0.heap.size w0 w ∧ Sl w0 x l
theorem Kp.sl {w : World} {base : Nat} {x : Value} {l : List Nat} (h : Kp w base x l) : Sl w x l := by
  rcases h with h | ⟨w0, _, hb, hs⟩
  · exact h.sl
  · exact sl_below hs hb
theorem Kp.later {w w' : World} {base : Nat} {x : Value} {l : List Nat} (h : Kp w base x l) (hb : Below w.heap.size w w') : Kp w' base x l := by
  rcases h with h | ⟨w0, h1, h2, hs⟩
  · exact Or.inl (own_below' h hb)
  · exact Or.inr ⟨w0, h1, bt h2 hb, hs⟩
theorem Kp.grow {w w' : World} {base n : Nat} {v x : Value} {xs : List Value} {l : List Nat} (h : Kp w base x l) (hv : w.ownsRow base 22 1 v n xs) (hg : w.grownBy w' v.ownBlock) : Kp w' base x l := by
  rcases h with h | ⟨w0, h1, h2, hs⟩
  · exact Or.inl (own_rows_grow h hv hg)
  · exact Or.inr ⟨w0, h1, h2.grown hg h2.size fun q hq => Nat.le_trans h1 (hv.lt q hq).1, hs⟩
theorem Kp.set {w : World} {base n g q c : Nat} {x y : Value} {xs : List Value} {l : List Nat} (h : Kp w base x l) (hv : w.ownsRow base 22 1 (.slice (some ⟨g, 0, none⟩) n c) n xs) : Kp (w.setCell ⟨g, q, none⟩ y) base x l := by
  have hb := (hv.lt g rfl).1
  rcases h with h | ⟨w0, h1, h2, hs⟩
  · refine Or.inl (own_keep h fun k hk => heap_setCell_other _ _ _ _ fun e => ?_)
    subst e
    obtain ⟨_, ⟨h3, _⟩ | ⟨g2, cap, cur, h3, hg, hb, _⟩⟩ := hv
    · cases h3
    · cases h3
      obtain ⟨_, _, ⟨rfl, _⟩ | ⟨q2, _, cq, rfl, _, hq, _⟩⟩ := h
      · cases hk
      · cases hk
        rw [hb] at hq
        simp at hq
  · exact Or.inr ⟨w0, h1, h2.setCell (Nat.le_trans h1 hb) _, hs⟩
/-- A list of rows in memory of the call's own. -/
structure OwnK (w : World) (base : Nat) (v : Value) (vs : List Value) (L : List (List Nat)) : Prop where
  row : w.ownsRow base 22 1 v vs.length vs
  len : vs.length = L.length
  kp : ∀ k, k < L.length → Kp w base (vs.getD k undef) (L.getD k [])
section
variable {w w' : World} {b0 : Nat} {v : Value} {vs : List Value} {L : List (List Nat)}
theorem OwnK.sr (h : OwnK w b0 v vs L) : Sr w v L := owns_sr h.row h.len fun k hk => (h.kp k hk).sl
theorem OwnK.later (h : OwnK w b0 v vs L) (hb : Below w.heap.size w w') : OwnK w' b0 v vs L := ⟨ownsRow_mono h.row hb, h.len, fun k hk => (h.kp k hk).later hb⟩
theorem ownk_nil (w : World) (b0 : Nat) : OwnK w b0 (.slice none 0 0) [] [] := ⟨World.ownsRow_nil _ _ _ _, rfl, fun k hk => by simp at hk⟩
theorem ownk_empty (w : World) {b0 : Nat} (hb : b0 ≤ w.heap.size) : OwnK (w.alloc (.cells #[] 22)) b0 (.slice (some ⟨w.heap.size, 0, none⟩) 0 0) [] [] :=
  ⟨⟨by simp, Or.inr ⟨w.heap.size, 0, #[], rfl, hb, heap_alloc_new _ _, by simp, by simp, rfl, rfl⟩⟩, rfl, fun k hk => by simp at hk⟩
/-- Rows that append takes. -/
def Src (w : World) (b0 : Nat) (x : Value) (P : List (List Nat)) : Prop :=
  ∃ (b off cap : Nat) (ys : List Value), x = .slice (some ⟨b, off, none⟩) P.length cap ∧ ys.length = P.length ∧ (∀ k u, ys[k]? = some u → w.cell? ⟨b, off + k, none⟩ = some u) ∧ ∀ k, k < P.length → Kp w b0 (ys.getD k undef) (P.getD k [])
theorem src_of {b off cap n : Nat} {P : List (List Nat)} {x : Value} (hv : x = .slice (some ⟨b, off, none⟩) P.length cap) (hn : P.length = n) (hk : ∀ k, k < n → ∃ y, w.cell? ⟨b, off + k, none⟩ = some y ∧ Kp w b0 y (P.getD k [])) : Src w b0 x P := by
  subst hn
  refine ⟨b, off, cap, (List.range P.length).map fun k => (w.cell? ⟨b, off + k, none⟩).getD undef, hv, by simp, fun k u hu => ?_, fun k hkm => ?_⟩
  · simp only [List.getElem?_map, Option.map_eq_some_iff] at hu
    obtain ⟨n, hn, rfl⟩ := hu
    obtain ⟨hn1, rfl⟩ := List.getElem?_eq_some_iff.1 hn
    simp at hn1
    obtain ⟨y, hy, _⟩ := hk k hn1
    simp [hy]
  · obtain ⟨y, hy, hs⟩ := hk k hkm
    have : ((List.range P.length).map fun k => (w.cell? ⟨b, off + k, none⟩).getD undef).getD k undef = y := by simp [List.getD, hkm, hy]
    rw [this]
    exact hs
theorem SrO.src {x : Value} {P : List (List Nat)} (h : SrO w b0 x P) (hp : 0 < P.length) : Src w b0 x P := by
  obtain ⟨_, ⟨_, _, _, h0, _⟩ | ⟨b, off, cap, hv, _, _, hk⟩⟩ := h
  · subst h0
    simp at hp
  · exact src_of hv rfl fun k hkl => by
      obtain ⟨y, hy, ho⟩ := hk k hkl
      exact ⟨y, hy, Or.inl ho⟩
theorem Sr.src {w0 : World} {x : Value} {P : List (List Nat)} (h : Sr w0 x P) (hp : 0 < P.length) (hb : w0.heap.size ≤ b0) (hw : Below w0.heap.size w0 w) : Src w b0 x P := by
  obtain ⟨b, off, cap, hv, _, _, hk⟩ := sr_cells h hp
  exact src_of hv rfl fun k hkl => by
    obtain ⟨y, hy, hs⟩ := hk k hkl
    exact ⟨y, (hw.cell (p := ⟨b, off + k, none⟩) (block_lt_of_cell hy)).trans hy, Or.inr ⟨w0, hb, hw, hs⟩⟩
theorem OwnK.src (h : OwnK w b0 v vs L) (hp : 0 < L.length) : Src w b0 v L := by
  obtain ⟨⟨_, h1⟩, hl, hk⟩ := h
  rcases h1 with ⟨rfl, h2⟩ | ⟨g, cap, cur, rfl, hg, hb, hn, hm, hsz, ht⟩
  · omega
  · exact ⟨g, 0, cap, vs, by rw [hl], hl, fun k u hu => by
      have hk3 : k < vs.length := (List.getElem?_eq_some_iff.1 hu).1
      rw [Nat.zero_add, cell_of_row w g k cur 22 (0, 0) hb]
      have e := congrArg (·[k]?) ht
      simp only [Nat.mul_one, List.getElem?_take, hk3, if_true] at e
      simpa [hu] using e, hk⟩
theorem kp_one {x : Value} {l : List Nat} (h : Kp w b0 x l) : x.oneCell' = true := by
  obtain ⟨a, cap, rfl, _, _⟩ := sl_form h.sl
  rfl
end
set_option maxRecDepth 100000 in
/-- append of rows. -/
theorem run_app_rows {W : World} {b0 n : Nat} {v x : Value} {vs : List Value} {L P : List (List Nat)} (ty : TypeId) (hv : OwnK W b0 v vs L) (hn : L.length = n) (hx : Src W b0 x P) (hlm : n + P.length ≤ 1000) (hb : b0 ≤ W.heap.size) :
    ∃ v' w' ys, (Builtin.append_ #[35, 35] ty #[v, x]).run Try.prog W = .ok v' w' ∧ OwnK w' b0 v' (vs ++ ys) (L ++ P) ∧ W.grownBy w' v.ownBlock := by
  obtain ⟨b, off, cap, ys, rfl, hy, hc, hk⟩ := hx
  obtain ⟨i, hi, hz0, hz1, hz2⟩ := info_parts infoS
  obtain ⟨v', w', hr, ho, hg, _⟩ := run_append_own (P := Try.prog) W b0 35 ty 22 i (.slice none 0 0) 1 24 Try.underlying35 hi hz0 hz1 hz2 rfl (by decide) _ _ _ hv.row ⟨b, off, none⟩ P.length cap ys (by rw [hy, Nat.mul_one]) (fun j u hu => by rw [add_none]; exact hc j u hu)
    (fun u hu => by
      obtain ⟨j, hj, rfl⟩ := List.mem_iff_getElem.1 hu
      have := hk j (by omega)
      simp only [List.getD, List.getElem?_eq_getElem hj, Option.getD_some] at this
      exact kp_one this) (by have := hv.len; unfold maxLen; omega) (by have := hv.len; omega) hb
  have hl := hv.len
  refine ⟨v', w', ys, hr, ⟨by rw [List.length_append, hy]; exact ho, by simp [hl, hy], fun k hkl => ?_⟩, hg⟩
  by_cases e : k < L.length
  · have h1 : (vs ++ ys).getD k undef = vs.getD k undef := by simp [List.getD, List.getElem?_append, show k < vs.length by omega]
    have h2 : (L ++ P).getD k [] = L.getD k [] := by simp [List.getD, List.getElem?_append, e]
    rw [h1, h2]
    exact (hv.kp k e).grow hv.row hg
  · have h1 : (vs ++ ys).getD k undef = ys.getD (k - L.length) undef := by simp [List.getD, List.getElem?_append, hl, e]
    have h2 : (L ++ P).getD k [] = P.getD (k - L.length) [] := by simp [List.getD, List.getElem?_append, e]
    rw [h1, h2]
    exact (hk _ (by simp at hkl; omega)).grow hv.row hg
theorem app_rows {ops : Array Oper} {rest : List Oper} {dst : Option Tmp} {s x : Operand} {pos : String} {after : Array Edge} {ty : TypeId} {a : Act} {W : World} {Q : Exit → Act → World → Prop}
    {b0 n : Nat} {v y : Value} {vs : List Value} {L P : List (List Nat)} (hs : a.eval s = v) (hy : a.eval x = y) (hv : OwnK W b0 v vs L) (hn : L.length = n) (hx : Src W b0 y P) (hlm : n + P.length ≤ 1000) (hb : b0 ≤ W.heap.size)
    (h : ∀ v' w' ys, OwnK w' b0 v' (vs ++ ys) (L ++ P) → W.grownBy w' v.ownBlock → wpList Try.prog ops Q rest (a.put dst v') w') : wpList Try.prog ops Q (⟨dst, .call { callee := .builtin .append, args := #[s, x], argTypes := #[35, 35] }, ty, pos, after, none⟩ :: rest) a W := by
  refine wpList_plain rfl fun _ hK => ?_
  obtain ⟨v', w', ys, hr, h2, h3⟩ := run_app_rows ty hv hn hx hlm hb
  unfold Oper.wp execOp
  simp only [resolve, invoke, builtin, Sem.run_bind, Sem.run_pure, Result.andThen_ok, List.map_toArray, List.map_cons, List.map_nil, hs, hy, hr]
  exact hK _ _ (h v' w' ys h2 h3)
theorem src_one {w : World} {b0 g : Nat} {x : Value} {l : List Nat} {fr : Nat × Nat} (hg : w.heap[g]? = some (.cells #[x] 22 fr)) (hx : Kp w b0 x l) : Src w b0 (.slice (some ⟨g, 0, none⟩) 1 1) [l] :=
  ⟨g, 0, 1, [x], rfl, rfl, fun k u hu => by
    have hk : k = 0 := by have := (List.getElem?_eq_some_iff.1 hu).1; simp at this; exact this
    subst hk
    obtain rfl : x = u := by simpa using hu
    exact cell_of_row _ _ _ _ _ _ hg, fun k hk => by
    have hk : k = 0 := by simp at hk; exact hk
    subst hk
    exact hx⟩
theorem ownk_form {w : World} {b0 n : Nat} {v : Value} {vs : List Value} {L : List (List Nat)} (h : OwnK w b0 v vs L) (hn : L.length = n) (h0 : 0 < n) : ∃ g cap, v = .slice (some ⟨g, 0, none⟩) n cap ∧ n ≤ cap ∧ cap ≤ maxLen ∧ b0 ≤ g ∧ g < w.heap.size := by
  have hl := h.len
  obtain ⟨_, ⟨rfl, h2⟩ | ⟨g, cap, cur, rfl, hg, hb, hc, hm, _⟩⟩ := h.row
  · omega
  · exact ⟨g, cap, by rw [show vs.length = n by omega], by omega, hm, hg, lt_of_some hb⟩
/-- An element of a list of rows. -/
theorem ownk_cell {w : World} {b0 n g c q : Nat} {vs : List Value} {L : List (List Nat)} (h : OwnK w b0 (.slice (some ⟨g, 0, none⟩) n c) vs L) (hn : L.length = n) (hq : q < n) : w.cell? ⟨g, q, none⟩ = some (vs.getD q undef) ∧ w.frozen? ⟨g, q, none⟩ = false := by
  have hl := h.len
  obtain ⟨_, ⟨h3, _⟩ | ⟨g2, cap, cur, h3, hg, hb, hc, hm, hsz, ht⟩⟩ := h.row
  · cases h3
  · cases h3
    refine ⟨?_, frozen_of_row w g q cur 22 hb⟩
    rw [cell_of_row w g q cur 22 (0, 0) hb]
    have e := congrArg (·[q]?) ht
    have hk3 : q < vs.length := by omega
    simp only [Nat.mul_one, List.getElem?_take, hk3, if_true] at e
    simpa [List.getD, hk3] using e
theorem ownk_set {w : World} {b0 n g c q : Nat} {x : Value} {l : List Nat} {vs : List Value} {L : List (List Nat)} (h : OwnK w b0 (.slice (some ⟨g, 0, none⟩) n c) vs L) (hn : L.length = n) (hq : q < n) (hx : Kp w b0 x l) : OwnK (w.setCell ⟨g, q, none⟩ x) b0 (.slice (some ⟨g, 0, none⟩) n c) (vs.set q x) (L.set q l) := by
  have hl := h.len
  have hrow : w.ownsRow b0 22 1 (.slice (some ⟨g, 0, none⟩) n c) n vs := by
    have := h.row
    rwa [show vs.length = n by omega] at this
  refine ⟨?_, by simpa using hl, fun k hk => ?_⟩
  · obtain ⟨h1, ⟨h3, _⟩ | ⟨g2, cap, cur, h3, hg, hb, hc, hm, hsz, ht⟩⟩ := hrow
    · cases h3
    · cases h3
      refine ⟨by simp, Or.inr ⟨g, c, cur.setIfInBounds q x, by simp; omega, hg, heap_setCell_same w g q cur 22 _ hb, by simp; omega, hm, by simpa using hsz, ?_⟩⟩
      rw [List.length_set, show vs.length = n by omega, Array.toList_setIfInBounds, List.take_set, ht]
  · by_cases e : k = q
    · subst e
      rw [getD_set_eq (by omega), getD_set_eq (by omega)]
      exact hx.set hrow
    · rw [getD_set_other e, getD_set_other e]
      exact (h.kp k (by simpa using hk)).set hrow
end Go.Proofs.Ytppfdaiehdbafaa.Gf
namespace Go.Proofs.Ytppfdaiehdbafaa.Gf
open Go Go.ChangeShapes Go.WideShapes Go.ChangeAt Go.RowKit Go.Sort Go.Proofs.Ytppfdaiehdbafaa.By Go.Proofs.Ytppfdaiehdbafaa.Qt

/-- Short rows. -/
def Lgt (L : List (List Nat)) : Prop := (∀ k, k < L.length → (L.getD k []).length ≤ 200) ∧ L.length ≤ 20
instance (L : List (List Nat)) : Decidable (Lgt L) := by unfold Lgt; infer_instance
theorem Lgt.small {L : List (List Nat)} (h : Lgt L) : Small L := fun k => by
  by_cases hk : k < L.length
  · have := h.1 k hk
    omega
  · rw [getD_outL (by omega)]
    simp
set_option maxRecDepth 100000 in
set_option maxHeartbeats 1600000 in
theorem light_pos (b o cap n j : Nat) (L : List (List Nat)) (w : World) (hn : n ≤ maxLen) (k1 : ∀ k, k < n → ∃ x, w.cell? ⟨b, o + k, none⟩ = some x ∧ Sl w x (L.getD k []))
    (hj : j ≤ n) (hin : ∀ i, i < j → (L.getD i []).length ≤ 200) (hout : j < n → ¬ (L.getD j []).length ≤ 200) :
    Calls Try.prog 16 #[.slice (some ⟨b, o, none⟩) n cap] w fun e w' => e = .returned (.bool (decide (j = n ∧ n ≤ 20))) ∧ w = w' := by
  have K1 := Lib.hid k1
  have IN := Lib.hid hin
  have OUT := Lib.hid hout
  obtain ⟨t, ht⟩ : ∃ t, t = decide (j = n ∧ n ≤ 20) := ⟨_, rfl⟩
  rw [← ht]
  have HT := Lib.hid ht
  unfold maxLen at hn
  clear k1 hin hout ht
  go_enter Try.func16, Try.ntmps16
  go_wp2
  go_loop [6] (fun t => ∃ k : Nat, k ≤ j ∧ t = .int .i64 (k : Int)) (fun t => n - (intOf t).toNat)
  case atStart => exact ⟨0, by omega, rfl⟩
  case round =>
    obtain ⟨k, hk, rfl⟩ := hrel
    by_cases hkn : k < n
    · obtain ⟨x, hx, hs⟩ := K1.out k hkn
      obtain ⟨ax, capx, rfl, -, -⟩ := sl_form hs
      have p0 : (0 : Int) ≤ (k : Int) := by omega
      have p1 : (k : Int) < (n : Int) := by omega
      clear hs
      by_cases hlt : k < j
      · have h1 := IN.out k hlt
        generalize (L.getD k []).length = q at hx h1
        have h2 : ¬ (200 : Int) < (q : Int) := by omega
        clear h1
        go_wp2
        go_round
        case rel => exact ⟨k + 1, by omega, by go_num⟩
        case measure => simp [intOf]; omega
      · obtain rfl : k = j := by omega
        have h1 := OUT.out hkn
        generalize (L.getD k []).length = q at hx h1
        have h2 : (200 : Int) < (q : Int) := by omega
        clear h1
        go_wp2
        go_ret
        exact ⟨congrArg (fun b => Ending.returned (Value.bool b)) (HT.out.trans (decide_eq_false (by omega))).symm, rfl⟩
    · obtain rfl : k = n := by omega
      obtain rfl : j = k := by omega
      have ht2 : t = decide ((j : Int) ≤ 20) := by rw [HT.out, decide_eq_decide]; omega
      have HT2 := Lib.hid ht2
      clear ht2
      go_wp2
      go_ret
      exact ⟨by rw [HT2.out]; first | rfl | (congr 2; rw [decide_eq_decide]; omega) | simp, rfl⟩
set_option maxRecDepth 100000 in
theorem light_zero (a : Option Addr) (cap : Nat) (w : World) : Calls Try.prog 16 #[.slice a 0 cap] w fun e w' => e = .returned (.bool true) ∧ w = w' := by
  go_enter Try.func16, Try.ntmps16
  go_wp2
  go_loop [6] (fun t => t = .int .i64 0) (fun t => (intOf t).toNat)
  case atStart => exact rfl
  case round =>
    obtain rfl := hrel
    go_wp2
    go_ret
    exact ⟨rfl, rfl⟩
theorem light_any (v : Value) (L : List (List Nat)) (w : World) (s : Sr w v L) : Calls Try.prog 16 #[v] w fun e w' => e = .returned (.bool (decide (Lgt L))) ∧ w = w' := by
  by_cases h0 : L.length = 0
  · obtain ⟨a, cap, rfl, -, -⟩ := sr_form s
    rw [decide_eq_true (show Lgt L from ⟨fun k hk => by omega, by omega⟩), h0]
    exact light_zero a cap w
  · obtain ⟨b, o, cap, rfl, _, _, k1⟩ := sr_cells s (by omega)
    obtain ⟨j, h3, h4, h5⟩ := first_bad (fun i => (L.getD i []).length ≤ 200) L.length
    have e1 : decide (j = L.length ∧ L.length ≤ 20) = decide (Lgt L) := by
      rw [decide_eq_decide]
      constructor
      · rintro ⟨rfl, h⟩
        exact ⟨h4, h⟩
      · rintro ⟨h1, h2⟩
        refine ⟨?_, h2⟩
        by_cases e : j < L.length
        · exact absurd (h1 j e) (h5 e)
        · omega
    rw [← e1]
    exact light_pos b o cap L.length j L w s.1 k1 h3 h4 h5
theorem nat_and31 (x : Nat) : x &&& 31 = x % 32 := Nat.and_two_pow_sub_one_eq_mod x 5
theorem i64_and31 (r : Int) : bits .and .i64 r 31 = r % 32 := by
  have e1 : (BitVec.ofInt 64 r).toNat = (r % 18446744073709551616).toNat := by rw [BitVec.toNat_ofInt]; rfl
  have e2 : (BitVec.ofInt 64 (31 : Int)).toNat = 31 := rfl
  have e3 : (BitVec.ofInt 64 r &&& BitVec.ofInt 64 31).toNat = (r % 18446744073709551616).toNat % 32 := by rw [BitVec.toNat_and, e1, e2, nat_and31]
  show IntKind.i64.wrap ((BitVec.ofInt 64 r &&& BitVec.ofInt 64 31).toNat : Int) = _
  rw [e3, IntKind.wrap_i64]
  omega
theorem sizeB1 : (Try.prog.info? 5).map (·.size) = some 1 := by kernel_rfl
theorem sl_src {w : World} {ax : Option Addr} {m cx k : Nat} {R : List Nat} (s : Sl w (.slice ax m cx) R) (h : 0 < (cellsOf (R.take k)).length) : ∃ ad, ax = some ad ∧ ∀ j v, (cellsOf (R.take k))[j]? = some v → w.cell? (ad.add j) = some v := by
  have hR : 0 < R.length := by
    rw [cellsOf_length, List.length_take] at h
    omega
  obtain ⟨b, o, cap, hv, _, _, hk⟩ := sl_cells s hR
  have ha : ax = some ⟨b, o, none⟩ := by simp at hv; exact hv.1
  refine ⟨_, ha, fun j v hj => ?_⟩
  rw [add_none]
  have hj2 : j < R.length := by
    have := (List.getElem?_eq_some_iff.1 hj).1
    rw [cellsOf_length, List.length_take] at this
    omega
  rw [hk j hj2]
  simp only [cellsOf, List.getElem?_map] at hj
  have hjt : j < k := by
    by_cases e : j < k
    · exact e
    · rw [List.getElem?_eq_none (by simp; omega)] at hj
      simp at hj
  rw [List.getElem?_take, if_pos hjt, List.getElem?_eq_getElem hj2] at hj
  simp at hj
  simp [List.getD, hj2, hj]
theorem own_of_cells {w : World} {b0 g n : Nat} {M : List Nat} (hg : w.heap[g]? = some (.cells (cellsOf M).toArray 5 (0, 0))) (hl : ∀ b ∈ M, b < 256) (hb : b0 ≤ g) (hM : M.length = n) (hn : n ≤ maxLen) : Own w b0 (.slice (some ⟨g, 0, none⟩) n n) M := by
  subst hM
  exact ⟨hl, by rw [cellsOf_length, Nat.mul_one], Or.inr ⟨g, _, _, rfl, hb, hg, Nat.le_refl _, hn, by simp [cellsOf], by rw [Nat.mul_one]; exact List.take_of_length_le (by simp [cellsOf])⟩⟩
/-- copy(row, x), where row are n bytes of the call's own, just made. -/
theorem copy_n {ops : Array Oper} {rest : List Oper} {dst : Option Tmp} {d s : Operand} {pos : String} {after : Array Edge} {ty : TypeId} {a : Act} {W wr : World} {Q : Exit → Act → World → Prop} {ax : Option Addr} {n m cx : Nat} {R : List Nat} (hn : n ≤ 1000)
    (hd : a.eval d = .slice (some ⟨wr.heap.size, 0, none⟩) n n) (hs : a.eval s = .slice ax m cx) (hg : W.heap[wr.heap.size]? = some (.cells (cellsOf (List.replicate n 0)).toArray 5 (0, 0))) (hS : Sl W (.slice ax m cx) R) (hm : m = R.length) (hb : Below wr.heap.size wr W)
    (h : ∀ z M w', M.length = n → Own w' wr.heap.size (.slice (some ⟨wr.heap.size, 0, none⟩) n n) M → Below wr.heap.size wr w' → wpList Try.prog ops Q rest (a.put dst z) w') : wpList Try.prog ops Q (⟨dst, .call { callee := .builtin .copy, args := #[d, s], argTypes := #[22, 22] }, ty, pos, after, none⟩ :: rest) a W := by
  have hmn : (R.take (min m n)).length = min m n := by rw [List.length_take, ← hm]; omega
  refine wpList_copy_splice rfl d s 22 22 rfl 5 Try.underlying22 sizeB1 (some ⟨wr.heap.size, 0, none⟩) ax n n m cx hd hs wr.heap.size 0 (cellsOf (List.replicate n 0)) 5 hg (cellsOf (R.take (min m n))) (by rw [cellsOf_length, hmn]) (fun hp => ⟨rfl, sl_src hS hp⟩) (by have h1 := cellsOf_length (R.take (min m n)); have h2 := cellsOf_length (List.replicate n 0); rw [hmn] at h1; rw [List.length_replicate] at h2; omega) (cellsOf_one _) wr.heap.size wr hb (Nat.le_refl _) ?_
  intro w' hh hbw
  refine h _ (R.take (min m n) ++ List.replicate (n - min m n) 0) w' (by rw [List.length_append, hmn, List.length_replicate]; omega) (own_of_cells ?_ ?_ (Nat.le_refl _) (by rw [List.length_append, hmn, List.length_replicate]; omega) (by unfold maxLen; omega)) hbw
  · have e : splice (cellsOf (List.replicate n 0)) 0 (cellsOf (R.take (min m n))) = cellsOf (R.take (min m n) ++ List.replicate (n - min m n) 0) := by
      simp only [splice, List.take_zero, List.nil_append, Nat.zero_add, cellsOf_length, hmn, cellsOf_append]
      congr 1
      simp only [cellsOf, List.map_replicate, List.drop_replicate]
    rw [← e]
    exact hh.out
  · intro x hx
    rcases List.mem_append.1 hx with hx | hx
    · exact mem_take hS.1 _ x hx
    · rw [List.eq_of_mem_replicate hx]; decide
theorem sl_drop {w : World} {b o n k cap : Nat} {l : List Nat} (h : Sl w (.slice (some ⟨b, o, none⟩) n cap) l) (hk : k < n) : Sl w (.slice (some ⟨b, o + k, none⟩) (n - k) (cap - k)) (l.drop k) := by
  obtain ⟨a0, cap0, e0, -, -⟩ := sl_form h
  obtain ⟨-, rfl, -⟩ : some (⟨b, o, none⟩ : Addr) = a0 ∧ n = l.length ∧ cap = cap0 := by simpa using e0
  obtain ⟨b', o', cap', e1, h1, h2, k1⟩ := sl_cells h (by omega)
  obtain ⟨⟨rfl, rfl⟩, rfl⟩ : (b = b' ∧ o = o') ∧ cap = cap' := by simpa using e1
  have e2 : (l.drop k).length = l.length - k := List.length_drop
  refine ⟨mem_drop h.1 k, by rw [e2]; have := h.2.1; omega, Or.inr ⟨b, o + k, _, by rw [e2], by omega, by omega, fun i hi => ?_⟩⟩
  rw [e2] at hi
  rw [Nat.add_assoc, k1 (k + i) (by omega)]
  simp [List.getD, List.getElem?_drop]
/-- How long the rows of the laws' shards are. -/
def kk (n : Int) : Nat := (n % 32).toNat
theorem kk_lt (n : Int) : kk n ≤ 31 := by unfold kk; omega
theorem lv_snoc {c m : Nat} {L : List (List Nat)} {l : List Nat} (h : Lv c m L) (hl : l.length = m) (hb : ∀ b ∈ l, b < 256) : Lv (c + 1) m (L ++ [l]) where
  len := by simp [h.len]
  row := fun j hj => by
    by_cases e : j < c
    · have : (L ++ [l]).getD j [] = L.getD j [] := by simp [List.getD, List.getElem?_append, h.len, e]
      rw [this]
      exact h.row j e
    · obtain rfl : j = c := by omega
      have : (L ++ [l]).getD j [] = l := by simp [List.getD, ← h.len]
      rw [this, hl]
  byt := fun k q => by
    by_cases e : k < c
    · have : (L ++ [l]).getD k [] = L.getD k [] := by simp [List.getD, List.getElem?_append, h.len, e]
      rw [this]
      exact h.byt k q
    · by_cases e2 : k = c
      · subst e2
        have : (L ++ [l]).getD k [] = l := by simp [List.getD, ← h.len]
        rw [this]
        exact getD_lt hb q
      · rw [getD_outL (by simp [h.len]; omega)]
        simp
set_option maxRecDepth 100000 in
set_option maxHeartbeats 6400000 in
theorem data_any (v : Value) (l : List Nat) (n : Int) (w : World) (s : Sl w v l) : Calls Try.prog 17 #[v, .int .i64 n] w fun e w' => (∃ v vs L, e = .returned v ∧ OwnK w' w.heap.size v vs L ∧ Lv 4 (kk n) L) ∧ Below w.heap.size w w' := by
  obtain ⟨a, cap, rfl, hc, hcm⟩ := sl_form s
  have hand := i64_and31 n
  have hK := kk_lt n
  have hKn : n % 32 = (kk n : Int) := by unfold kk; omega
  rw [hKn] at hand
  generalize kk n = K at *
  obtain ⟨ln, hln⟩ : ∃ q, q = l.length := ⟨_, rfl⟩
  rw [← hln] at s hc ⊢
  have S := Lib.hid s
  have HLN := Lib.hid hln
  unfold maxLen at hcm
  clear s hln hKn
  go_enter Try.func17, Try.ntmps17
  go_wp2_with fail
  go_loopw [6, 7] (fun t i wr => ∃ (k : Nat) (vs : List Value) (L : List (List Nat)), k ≤ 4 ∧ i = .int .i64 (k : Int) ∧ OwnK wr w.heap.size t vs L ∧ Lv k K L ∧ Below w.heap.size w wr) (fun _ i _ => 4 - (intOf i).toNat)
  case atStart => exact ⟨0, [], [], by omega, rfl, ownk_nil _ _, ⟨rfl, fun j hj => by omega, fun k q => by simp⟩, Below.refl _ _⟩
  case round =>
    obtain ⟨k, vs, L, hk, rfl, hO, hL, hB⟩ := hrel
    obtain ⟨oa, oc, hv⟩ := ownsRow_form hO.row
    obtain ⟨on, hon⟩ : ∃ q, q = vs.length := ⟨_, rfl⟩
    rw [← hon] at hv
    subst hv
    have HO := Lib.hid hO
    have HL := Lib.hid hL
    have HB := Lib.hid hB
    clear hO hL hB hon
    by_cases hkn : k < 4
    · obtain ⟨p, hp⟩ : ∃ p : Nat, p = k * K := ⟨_, rfl⟩
      have hpb : p ≤ 124 := by
        have := Nat.mul_le_mul (show k ≤ 4 by omega) hK
        omega
      have hw1 : (k : Int) * (K : Int) = (p : Int) := by rw [hp]; simp
      have hw2 : wrap64 (p : Int) = (p : Int) := wrap_nat (by omega)
      have hal := (Below.refl wr.heap.size wr).alloc (Nat.le_refl _) (.cells (cellsOf (List.replicate K 0)).toArray 5)
      have hblk := heap_alloc_new wr (.cells (cellsOf (List.replicate K 0)).toArray 5)
      have AL := Lib.hid hal
      have BLK := Lib.hid hblk
      clear hal hblk hp
      by_cases hpl : p < ln
      · have hlt : decide ((p : Int) < (ln : Int)) = true := decide_eq_true (by omega)
        have hsl : Sl w (.slice a ln cap) l := S.out
        obtain ⟨b, o, cap', hv, e1, e2, e3⟩ := sl_cells hsl (by have := HLN.out; omega)
        obtain ⟨rfl, -, rfl⟩ : a = some ⟨b, o, none⟩ ∧ ln = l.length ∧ cap = cap' := by simpa using hv
        have i0 : (0 : Int) ≤ (p : Int) := by omega
        have i1 : (p : Int) ≤ (ln : Int) := by omega
        have i2 : (ln : Int) ≤ (cap : Int) := by omega
        have hdr := sl_drop (k := p) S.out (by omega)
        have HDR := Lib.hid (sl_below (sl_below hdr HB.out) AL.out)
        have hdl : ln - p = (l.drop p).length := by rw [List.length_drop, ← HLN.out]
        have HDL := Lib.hid hdl
        clear hv e1 e2 e3 hsl hdr hdl
        go_wp2_with (first
          | ((with_reducible refine make_step (n := K) ?_ (by omega) ?_); exact rfl)
          | (refine copy_n (dst := some 29) (W := wr.alloc (.cells (cellsOf (List.replicate K 0)).toArray 5)) (wr := wr) (n := K) (R := l.drop p) (m := ln - p) (cx := cap - p) (by omega) ?_ ?_ BLK.out HDR.out HDL.out AL.out ?_; exact rfl; exact rfl; intro z M w2 hM ho2 hb2; have HM := Lib.hid hM; have HO2 := Lib.hid ho2; have HB2 := Lib.hid hb2; clear hM ho2 hb2)
          | (at_builtin; refine app_rows (dst := some 33) (n := k) (P := [M]) ?_ ?_ ((HO.out.later HB2.out).later ((Below.refl _ _).alloc (Nat.le_refl _) _)) HL.out.len (src_one (heap_alloc_new _ _) (Or.inl (own_base HB.out.size (HO2.out.alloc _)))) (by simp; omega) (by have := (bt HB.out HB2.out).size; simp; omega) ?_; exact rfl; exact rfl; intro v3 w3 ys ho3 hg3; obtain ⟨av, cv, hv3⟩ := ownsRow_form ho3.row; obtain ⟨nn, hnn⟩ : ∃ q, q = (vs ++ ys).length := ⟨_, rfl⟩; rw [← hnn] at hv3; clear hnn; have HO3 := Lib.hid ho3; have HG3 := Lib.hid hg3; subst hv3; clear ho3 hg3))
        have hbf : Below w.heap.size w w3 := ((bt HB.out HB2.out).alloc (bt HB.out HB2.out).size _).grown HG3.out (by have := (bt HB.out HB2.out).size; simp; omega) fun q hq => (HO.out.row.lt q hq).1
        have HBF := Lib.hid hbf
        have hlf := lv_snoc HL.out HM.out HO2.out.1
        have HLF := Lib.hid hlf
        clear hbf hlf
        go_roundw
        case rel => exact ⟨k + 1, _, _, by omega, by go_num, HO3.out, HLF.out, HBF.out⟩
        case measure => simp [intOf]; omega
      · have hlt : decide ((p : Int) < (ln : Int)) = false := decide_eq_false (by omega)
        have hmade := own_made wr (base := w.heap.size) (n := K) HB.out.size (by unfold maxLen; omega)
        have HMD := Lib.hid hmade
        clear hmade
        go_wp2_with (first
          | ((with_reducible refine make_step (n := K) ?_ (by omega) ?_); exact rfl)
          | (at_builtin; refine app_rows (dst := some 33) (n := k) (P := [List.replicate K 0]) ?_ ?_ ((HO.out.later AL.out).later ((Below.refl _ _).alloc (Nat.le_refl _) _)) HL.out.len (src_one (g := wr.heap.size + 1) (heap_alloc2_new _ _ _) (Or.inl (HMD.out.alloc _))) (by simp; omega) (by have := HB.out.size; simp; omega) ?_; exact rfl; exact rfl; intro v3 w3 ys ho3 hg3; obtain ⟨av, cv, hv3⟩ := ownsRow_form ho3.row; obtain ⟨nn, hnn⟩ : ∃ q, q = (vs ++ ys).length := ⟨_, rfl⟩; rw [← hnn] at hv3; clear hnn; have HO3 := Lib.hid ho3; have HG3 := Lib.hid hg3; subst hv3; clear ho3 hg3))
        have hbf : Below w.heap.size w w3 := ((bt HB.out AL.out).alloc (bt HB.out AL.out).size _).grown HG3.out (by have := HB.out.size; simp; omega) fun q hq => (HO.out.row.lt q hq).1
        have HBF := Lib.hid hbf
        have hlf := lv_snoc (l := List.replicate K 0) HL.out (by simp) (fun b hb => by rw [List.eq_of_mem_replicate hb]; decide)
        have HLF := Lib.hid hlf
        clear hbf hlf
        go_roundw
        case rel => exact ⟨k + 1, _, _, by omega, by go_num, HO3.out, HLF.out, HBF.out⟩
        case measure => simp [intOf]; omega
    · obtain rfl : k = 4 := by omega
      go_wp2_with fail
      go_ret
      exact ⟨⟨_, _, _, rfl, HO.out, HL.out⟩, HB.out⟩
end Go.Proofs.Ytppfdaiehdbafaa.Gf
namespace Go.Proofs.Ytppfdaiehdbafaa.Gf
open Go Go.ChangeShapes Go.WideShapes Go.ChangeAt Go.RowKit Go.Sort Go.Proofs.Ytppfdaiehdbafaa.By Go.Proofs.Ytppfdaiehdbafaa.Qt

theorem lv_small {c m : Nat} {L : List (List Nat)} (h : Lv c m L) (hm : m ≤ 1000000) : Small L := fun k => by
  by_cases hk : k < c
  · rw [h.row k hk]
    exact hm
  · rw [getD_outL (by rw [h.len]; omega)]
    simp
theorem wid_lv {c m : Nat} {L : List (List Nat)} (h : Lv c m L) (hc : 0 < c) : wid L = m := h.row 0 hc
set_option maxRecDepth 100000 in
set_option maxHeartbeats 6400000 in
theorem full_any (v : Value) (l : List Nat) (n : Int) (w : World) (s : Sl w v l) : Calls Try.prog 25 #[v, .int .i64 n] w fun e w' => (∃ v vs S, e = .returned (.tuple #[v, .bool true]) ∧ OwnK w' w.heap.size v vs S ∧ Code6 (kk n) S) ∧ Below w.heap.size w w' := by
  have DA := Lib.hid (data_any v l n w s)
  have hK := kk_lt n
  clear s
  go_enter Try.func25, Try.ntmps25
  go_wp2_with fail
  refine DA.out.mono ?_
  rintro e w1 ⟨⟨v1, vs, L, rfl, hO, hL⟩, hb1⟩
  have hen := encode_own v1 L w1 hO.sr (lv_small hL (by omega)) (lv_lev hL)
  rw [wid_lv hL (by decide)] at hen
  have hX : (encW L (kk n)).length = 2 := appR_length ..
  have hcode := full_code hL
  generalize encW L (kk n) = X at *
  obtain ⟨oa, oc, hv⟩ := ownsRow_form hO.row
  obtain ⟨on, hon⟩ : ∃ q, q = vs.length := ⟨_, rfl⟩
  rw [← hon] at hv
  subst hv
  have HO := Lib.hid hO
  have HL := Lib.hid hL
  have HB := Lib.hid hb1
  have HE := Lib.hid hen
  have HC := Lib.hid hcode
  have HX := Lib.hid hX
  clear hO hL hb1 hen hon hcode hX
  go_wp2_with fail
  refine HE.out.mono ?_
  unfold EO
  rintro e w2 ⟨⟨v2, rfl, hs2⟩, hb2⟩
  obtain ⟨pa, pc, hv2, -, -⟩ := sr_form hs2.sr
  rw [HX.out] at hv2
  subst hv2
  have S2 := Lib.hid (hs2.down HB.out.size)
  have B2 := Lib.hid (bt HB.out hb2)
  have HO2 := Lib.hid (HO.out.later hb2)
  clear hs2 hb2 HO
  go_wp2_with (at_builtin; refine app_rows (dst := some 19) (n := 4) (P := X) ?_ ?_ HO2.out HL.out.len (S2.out.src (by rw [HX.out]; decide)) (by rw [HX.out]; decide) B2.out.size ?_; exact rfl; exact rfl; intro v3 w3 ys ho3 hg3; obtain ⟨av, cv, hv3⟩ := ownsRow_form ho3.row; obtain ⟨nn, hnn⟩ : ∃ q, q = (vs ++ ys).length := ⟨_, rfl⟩; rw [← hnn] at hv3; clear hnn; have HO3 := Lib.hid ho3; have HG3 := Lib.hid hg3; subst hv3; clear ho3 hg3)
  have hbf : Below w.heap.size w w3 := B2.out.grown HG3.out B2.out.size fun q hq => (HO2.out.row.lt q hq).1
  go_ret2
  exact ⟨⟨_, _, _, rfl, HO3.out, HC.out⟩, hbf⟩
end Go.Proofs.Ytppfdaiehdbafaa.Gf
namespace Go.Proofs.Ytppfdaiehdbafaa.Gf
open Go Go.ChangeShapes Go.WideShapes Go.ChangeAt Go.RowKit Go.Sort Go.Proofs.Ytppfdaiehdbafaa.By Go.Proofs.Ytppfdaiehdbafaa.Qt

theorem aw_enc : encL [[7], [7], [7], [7]] = [[7], [7]] ∧ encE [[7], [7], [7], [7]] = 0 := by decide +kernel
theorem aw_res : resL (List.replicate 6 []) [true, true, true, false, false, false] = [] ∧ resE (List.replicate 6 []) [true, true, true, false, false, false] = 11 := by decide +kernel
theorem aw_small1 : Small [[7], [7], [7], [7]] := fun k => by
  match k with
  | 0 => decide
  | 1 => decide
  | 2 => decide
  | 3 => decide
  | k + 4 => simp
theorem aw_small2 : Small (List.replicate 6 []) := fun k => by
  simp only [List.getD, List.getElem?_replicate]
  split <;> simp
theorem five (w : World) (A B C D E : Obj) : (((((w.alloc A).alloc B).alloc C).alloc D).alloc E).heap[w.heap.size]? = some A ∧ (((((w.alloc A).alloc B).alloc C).alloc D).alloc E).heap[w.heap.size + 1]? = some B ∧ (((((w.alloc A).alloc B).alloc C).alloc D).alloc E).heap[w.heap.size + 1 + 1]? = some C ∧ (((((w.alloc A).alloc B).alloc C).alloc D).alloc E).heap[w.heap.size + 1 + 1 + 1]? = some D ∧ (((((w.alloc A).alloc B).alloc C).alloc D).alloc E).heap[w.heap.size + 1 + 1 + 1 + 1]? = some E ∧ Below w.heap.size w (((((w.alloc A).alloc B).alloc C).alloc D).alloc E) := by
  have z : ∀ (v : World) (o : Obj), (v.alloc o).heap.size = v.heap.size + 1 := fun v o => by simp
  have n : ∀ (v : World) (o : Obj) (k : Nat), v.heap.size = k → (v.alloc o).heap[k]? = some o := fun v o k h => h ▸ heap_alloc_new v o
  have o : ∀ (v : World) (o : Obj) (k : Nat) (p : Obj), v.heap[k]? = some p → (v.alloc o).heap[k]? = some p := fun v o k p h => (heap_alloc_old v o (lt_of_some h)).trans h
  exact ⟨o _ _ _ _ (o _ _ _ _ (o _ _ _ _ (o _ _ _ _ (n _ _ _ rfl)))), o _ _ _ _ (o _ _ _ _ (o _ _ _ _ (n _ _ _ (z _ _)))), o _ _ _ _ (o _ _ _ _ (n _ _ _ (by rw [z, z]))), o _ _ _ _ (n _ _ _ (by rw [z, z, z])), n _ _ _ (by rw [z, z, z, z]),
    (((((Below.refl w.heap.size w).alloc (Nat.le_refl _) A).alloc (by simp) B).alloc (by simp; omega) C).alloc (by simp; omega) D).alloc (by simp; omega) E⟩
theorem sr_block {w : World} {g n : Nat} {fr : Nat × Nat} {xs : List Value} {L : List (List Nat)} {cs : Array Value} {T : TypeId} (hg : w.heap[g]? = some (.cells cs T fr)) (hcs : cs = xs.toArray) (hx : xs.length = n) (hL : L.length = n) (hn : n ≤ maxLen) (hk : ∀ k, k < n → Sl w (xs.getD k undef) (L.getD k [])) : Sr w (.slice (some ⟨g, 0, none⟩) n n) L := by
  subst hcs
  refine ⟨by omega, Or.inr ⟨g, 0, n, by rw [hL], by omega, hn, fun k hkl => ⟨xs.getD k undef, ?_, hk k (by omega)⟩⟩⟩
  rw [Nat.zero_add, cell_of_row _ _ _ _ _ _ hg]
  simp [List.getD, show k < xs.length by omega]
theorem sr_nils {w : World} {g n : Nat} {fr : Nat × Nat} {T : TypeId} (hg : w.heap[g]? = some (.cells (Array.replicate n (.slice none 0 0)) T fr)) (hn : n ≤ maxLen) : Sr w (.slice (some ⟨g, 0, none⟩) n n) (List.replicate n []) :=
  sr_block (xs := List.replicate n (.slice none 0 0)) hg (by simp) (by simp) (by simp) hn (fun k hk => by
    have h1 : (List.replicate n (Value.slice none 0 0)).getD k undef = .slice none 0 0 := by simp [List.getD, hk]
    have h2 : (List.replicate n ([] : List Nat)).getD k [] = [] := by simp [List.getD, hk]
    rw [h1, h2]
    exact sl_nil _)
theorem sl_seven {w : World} {g : Nat} {fr : Nat × Nat} (hg : w.heap[g]? = some (.cells #[.int .u8 7] 5 fr)) : Sl w (.slice (some ⟨g, 0, none⟩) 1 1) [7] := sl_block (l := [7]) (by decide) rfl (by unfold maxLen; decide) rfl hg
theorem sb_lit {w : World} {g : Nat} {T : TypeId} {a b c d e f : Bool} (hg : w.heap[g]? = some (.cells #[.bool a, .bool b, .bool c, .bool d, .bool e, .bool f] T (0, 0))) : Sb w (.slice (some ⟨g, 0, none⟩) 6 6) [a, b, c, d, e, f] := by
  refine ⟨show 6 ≤ maxLen by unfold maxLen; decide, Or.inr ⟨g, 0, 6, rfl, Nat.le_refl 6, by unfold maxLen; decide, fun k hk => ?_⟩⟩
  rw [Nat.zero_add, cell_of_row _ _ _ _ _ _ hg]
  have hk : k < 6 := hk
  match k, hk with
  | 0, _ => rfl
  | 1, _ => rfl
  | 2, _ => rfl
  | 3, _ => rfl
  | 4, _ => rfl
  | 5, _ => rfl
set_option maxRecDepth 100000 in
set_option maxHeartbeats 6400000 in
theorem awake4_any (w : World) : Calls Try.prog 15 #[] w fun e w' => e = .returned (.bool true) ∧ Below w.heap.size w w' := by
  obtain ⟨f1, f2, f3, f4, f5, fb⟩ := five w (.cells #[.int .u8 7] 5) (.cells #[.int .u8 7] 5) (.cells #[.int .u8 7] 5) (.cells #[.int .u8 7] 5) (.cells #[.slice (some ⟨w.heap.size, 0, none⟩) 1 1, .slice (some ⟨w.heap.size + 1, 0, none⟩) 1 1, .slice (some ⟨w.heap.size + 1 + 1, 0, none⟩) 1 1, .slice (some ⟨w.heap.size + 1 + 1 + 1, 0, none⟩) 1 1] 22)
  have hs := sr_block (xs := [.slice (some ⟨w.heap.size, 0, none⟩) 1 1, .slice (some ⟨w.heap.size + 1, 0, none⟩) 1 1, .slice (some ⟨w.heap.size + 1 + 1, 0, none⟩) 1 1, .slice (some ⟨w.heap.size + 1 + 1 + 1, 0, none⟩) 1 1]) (L := [[7], [7], [7], [7]]) (n := 4) f5 rfl rfl rfl (by unfold maxLen; decide) (fun k hk => by
    match k, hk with
    | 0, _ => exact sl_seven f1
    | 1, _ => exact sl_seven f2
    | 2, _ => exact sl_seven f3
    | 3, _ => exact sl_seven f4)
  have hen := encode_any _ _ _ hs aw_small1
  rw [aw_enc.1, aw_enc.2] at hen
  have HE := Lib.hid hen
  have B := Lib.hid fb
  clear f1 f2 f3 f4 f5 fb hs hen
  go_enter Try.func15, Try.ntmps15
  go_wp2_with fail
  refine HE.out.mono ?_
  unfold EP
  rintro e w1 ⟨⟨v1, rfl, hv1⟩, hb1⟩
  have tB := bt B.out hb1
  clear B HE hb1
  obtain ⟨b6, o6, c6, hv1', -, -, hk6⟩ := sr_cells hv1 (by decide)
  rw [show ([[7], [7]] : List (List Nat)).length = 2 from rfl] at hv1' hk6
  subst hv1'
  obtain ⟨x0, hx0, hs0⟩ := hk6 0 (by decide)
  obtain ⟨x1, hx1, hs1⟩ := hk6 1 (by decide)
  rw [Nat.add_zero] at hx0
  rw [show ([[7], [7]] : List (List Nat)).getD 0 [] = [7] from rfl] at hs0
  rw [show ([[7], [7]] : List (List Nat)).getD 1 [] = [7] from rfl] at hs1
  obtain ⟨g0, g1, gz, gb⟩ := two w1 (.cells (Array.replicate 6 (.slice none 0 0)) 22) (.cells #[.bool true, .bool true, .bool true, .bool false, .bool false, .bool false] 4)
  have hsr := sr_nils (n := 6) g0 (by unfold maxLen; decide)
  have hre := restore_any _ _ _ _ _ hsr (sb_lit g1) aw_small2
  rw [aw_res.1, aw_res.2] at hre
  have HR := Lib.hid hre
  have B := Lib.hid (bt tB gb)
  have X0 := Lib.hid ((gb.cell (p := ⟨b6, o6, none⟩) (block_lt_of_cell hx0)).trans hx0)
  have X1 := Lib.hid ((gb.cell (p := ⟨b6, o6 + 1, none⟩) (block_lt_of_cell hx1)).trans hx1)
  have T0 := Lib.hid (sl_below hs0 gb)
  have T1 := Lib.hid (sl_below hs1 gb)
  clear hv1 hk6 hx0 hx1 hs0 hs1 g0 g1 gz gb hsr hre tB
  go_wp2_with ((with_reducible refine make_rows (n := 6) ?_ (by decide) ?_); exact rfl)
  refine HR.out.mono ?_
  unfold EP
  rintro e w6 ⟨⟨v6, rfl, -⟩, hb6⟩
  have HB6 := Lib.hid (bt B.out hb6)
  have hx0 := (hb6.cell (p := ⟨b6, o6, none⟩) (block_lt_of_cell X0.out)).trans X0.out
  have hx1 := (hb6.cell (p := ⟨b6, o6 + 1, none⟩) (block_lt_of_cell X1.out)).trans X1.out
  have t0 := sl_below T0.out hb6
  have t1 := sl_below T1.out hb6
  clear HR B X0 X1 T0 T1 hb6
  obtain ⟨y0, e0, rfl, -, -⟩ := sl_form t0
  obtain ⟨y1, e1, rfl, -, -⟩ := sl_form t1
  rw [show ([7] : List Nat).length = 1 from rfl] at hx0 hx1 t0 t1
  have da := (Below.refl w6.heap.size w6).drew
  have db := ((Below.refl w6.heap.size w6).alloc (Nat.le_refl _) (.cells #[.int .u8 7] 5)).drew
  have dc := (((Below.refl w6.heap.size w6).alloc (Nat.le_refl _) (.cells #[.int .u8 7] 5)).alloc (by simp) (.cells #[.int .u8 7] 5)).drew
  have c0a := conv_sl (sl_below t0 da)
  have c0b := conv_sl (sl_below t0 db)
  have c1b := conv_sl (sl_below t1 db)
  have c1c := conv_sl (sl_below t1 dc)
  have l0b : Sl (w6.alloc (.cells #[.int .u8 7] 5)).drew (.slice (some ⟨w6.heap.size, 0, none⟩) 1 1) [7] := sl_seven (heap_alloc_new w6 _)
  have l1c : Sl ((w6.alloc (.cells #[.int .u8 7] 5)).alloc (.cells #[.int .u8 7] 5)).drew (.slice (some ⟨w6.heap.size + 1, 0, none⟩) 1 1) [7] := sl_seven (heap_alloc2_new w6 _ _)
  have c2b := conv_sl l0b
  have c3c := conv_sl l1c
  have g0a := (da.cell (p := ⟨b6, o6, none⟩) (block_lt_of_cell hx0)).trans hx0
  have g0b := (db.cell (p := ⟨b6, o6, none⟩) (block_lt_of_cell hx0)).trans hx0
  have g1b := (db.cell (p := ⟨b6, o6 + 1, none⟩) (block_lt_of_cell hx1)).trans hx1
  have g1c := (dc.cell (p := ⟨b6, o6 + 1, none⟩) (block_lt_of_cell hx1)).trans hx1
  have BD := Lib.hid dc
  generalize strOf [7] = t at *
  clear da db dc l0b l1c t0 t1
  go_wp2_with fail
  go_region

  go_wp2

  go_ret
  exact ⟨rfl, bt HB6.out BD.out⟩
end Go.Proofs.Ytppfdaiehdbafaa.Gf
