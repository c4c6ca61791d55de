/- What is proved here: the contracts of the reference's Same and Encode of keys (layer 14). No condition. -/
import Derived.Test.YtbkhedfhnmkodaaDoorI14
import Derived.Test.YtbkhedfhnmkodaaDoorQp
namespace Go.Proofs.YtbkhedfhnmkodaaDoor.Gf
open Go Go.Joins Go.ChangeShapes Go.WideShapes Go.ChangeAt Go.RowKit Go.Deep Go.Proofs.YtbkhedfhnmkodaaDoor.By Go.Proofs.YtbkhedfhnmkodaaDoor.Crc Go.Proofs.YtbkhedfhnmkodaaDoor.Qt

theorem take_eq14 {L M : List Nat} {i : Nat} (hl : i < L.length) (hm : i < M.length) (h : L.take i = M.take i) (he : L.getD i 0 = M.getD i 0) : L.take (i + 1) = M.take (i + 1) := by
  rw [List.take_succ_eq_append_getElem hl, List.take_succ_eq_append_getElem hm, h]
  simp [List.getD, hl, hm] at he
  rw [he]
set_option maxRecDepth 100000 in
theorem rsame14_any (v1 v2 : Value) (L1 L2 : List Nat) (w : World) (s1 : UL w v1 L1) (s2 : UL w v2 L2) : Calls Tryd.prog 12 #[v1, v2] w fun e w' => e = .returned (.bool (decide (L1 = L2))) ∧ Below w.heap.size w w' := by
  obtain ⟨a1, c1, rfl, -, -⟩ := ul_form s1
  obtain ⟨a2, c2, rfl, hc2, hm2⟩ := ul_form s2
  by_cases hn : L1.length = L2.length
  case neg =>
    rw [decide_eq_false (fun h => hn (by rw [h]))]
    have hb : ((L1.length : Int) != (L2.length : Int)) = true := by rw [bne_iff_ne]; omega
    generalize L1.length = n1 at *
    generalize L2.length = n2 at *
    clear hn s1 s2 hm2 hc2
    go_enter Tryd.func12, Tryd.ntmps12
    go_wp2
    go_ret
    exact ⟨rfl, Below.refl _ _⟩
  obtain ⟨n, hn2⟩ : ∃ n, n = L2.length := ⟨_, rfl⟩
  have hn1 : n = L1.length := by omega
  have hbn : ((n : Int) != (n : Int)) = false := by simp
  have hm : n ≤ maxLen := by omega
  unfold maxLen at hm
  rw [← hn2, ← hn1]
  have N1 := Lib.hid hn1
  have N2 := Lib.hid hn2
  have S1 := Lib.hid s1
  have S2 := Lib.hid s2
  rw [← hn1] at S1
  rw [← hn2] at S2
  clear hn hn1 hn2 s1 s2 hm2 hc2
  go_enter Tryd.func12, Tryd.ntmps12
  go_wp2_with fail
  go_loopw [5] (fun t wr => ∃ i : Nat, i ≤ n ∧ t = .int .i64 (i : Int) ∧ L1.take i = L2.take i ∧ Below w.heap.size w wr) (fun t _ => n - (intOf t).toNat)
  case atStart => exact ⟨0, by omega, rfl, rfl, Below.refl _ _⟩
  case round =>
    obtain ⟨i, hi, rfl, htk, hB⟩ := hrel
    by_cases hin : i < n
    · have hl4 : decide ((i : Int) < (n : Int)) = true := decide_eq_true (by omega)
      have p0 : (0 : Int) ≤ (i : Int) := by omega
      have p1 : (i : Int) < (n : Int) := by omega
      have N1' := N1.out
      have N2' := N2.out
      obtain ⟨b1, o1, rfl, f0, -⟩ := ul_at (ul_below S1.out hB) (j := i) (by omega)
      obtain ⟨b2, o2, rfl, g0, -⟩ := ul_at (ul_below S2.out hB) (j := i) (by omega)
      have HTK := Lib.hid (fun he => take_eq14 (by omega : i < L1.length) (by omega : i < L2.length) htk he)
      have HNE : Hid (¬ L1.getD i 0 = L2.getD i 0 → ¬ L1 = L2) := fun h e => h (by rw [e])
      generalize L1.getD i 0 = x at *
      generalize L2.getD i 0 = y at *
      have HB := Lib.hid hB
      clear N1' N2' htk hB
      by_cases hxy : x = y
      · have hq : ((x : Int) != (y : Int)) = false := by simp [hxy]
        have HX := Lib.hid (HTK.out hxy)
        clear HTK HNE hxy
        go_wp2
        go_quiet (fail)
        have hd := bt HB.out (below_drewN wr nq)
        clear HB f0 g0
        generalize wr.drewN nq = W9 at *
        go_wp2
        go_roundw
        case rel => exact ⟨i + 1, by omega, by go_num, HX.out, hd⟩
        case measure => simp [intOf]; omega
      · have hq : ((x : Int) != (y : Int)) = true := by rw [bne_iff_ne]; omega
        have HX := Lib.hid (HNE.out hxy)
        clear HTK HNE hxy
        go_wp2
        go_quiet (fail)
        have hd := bt HB.out (below_drewN wr nq)
        clear HB f0 g0
        generalize wr.drewN nq = W9 at *
        go_wp2
        go_ret
        exact ⟨by rw [decide_eq_false HX.out]; rfl, hd⟩
    · obtain rfl : i = n := by omega
      have hl4 : decide ((i : Int) < (i : Int)) = false := decide_eq_false (by omega)
      have HE : Hid (L1 = L2) := by
        show L1 = L2
        have h1 : L1.take i = L1 := List.take_of_length_le (by have := N1.out; omega)
        have h2 : L2.take i = L2 := List.take_of_length_le (by have := N2.out; omega)
        rw [← h1, ← h2]
        exact htk
      have HB := Lib.hid hB
      clear htk hB
      go_wp2
      go_ret
      exact ⟨by rw [decide_eq_true HE.out]; rfl, HB.out⟩
theorem own_kept {w0 w1 w' : World} {base base2 : Nat} {v x : Value} {l m : List Nat} (h : Own w1 base x l) (hv : Own w0 base2 v m) (h0 : w0.heap.size ≤ base) (hg : w1.grownBy w' v.ownBlock) : Own w' base x l := ⟨h.1, h.2.kept hg (by
  cases hx : x.ownBlock with
  | none => exact Or.inl rfl
  | some q =>
    right
    intro e
    have h1 := h.lt q hx
    have h2 := (hv.2.lt q e.symm).2
    omega)⟩
theorem w64s (i : Nat) (h : i < 100000000) : wrap64 ((i : Int) + 1) = (i : Int) + 1 := by unfold wrap64; omega
theorem meas14 (n i : Nat) (h : i < n) (hn : n ≤ 1000) : n - (intOf (.int .i64 (wrap64 ((i : Int) + 1)))).toNat < n - (intOf (.int .i64 (i : Int))).toNat := by
  rw [w64s i (by omega)]
  show n - ((i : Int) + 1).toNat < n - (i : Int).toNat
  omega
/-- A call that answers bytes of its own. -/
def BO14 (w : World) (l : List Nat) (e : Ending) (w' : World) : Prop := (∃ v, e = .returned v ∧ Own w' w.heap.size v l) ∧ Below w.heap.size w w'
set_option maxRecDepth 100000 in
set_option maxHeartbeats 3200000 in
theorem rencode14_any (v : Value) (l : List Nat) (w : World) (s : UL w v l) (hl : l.length ≤ 1000) : Calls Tryd.prog 7 #[v] w (BO14 w (encJ l)) := by
  obtain ⟨a, c, rfl, -, -⟩ := ul_form s
  obtain ⟨n, hn⟩ : ∃ n, n = l.length := ⟨_, rfl⟩
  have HN := Lib.hid (And.intro hn hl)
  have S := Lib.hid s
  rw [← hn] at S ⊢
  clear hn hl s
  unfold BO14
  go_enter Tryd.func7, Tryd.ntmps7
  go_wp2_with fail
  go_loopw [3, 4] (fun out t wr => ∃ i : Nat, i ≤ n ∧ t = .int .i64 (i : Int) ∧ Own wr w.heap.size out (encJ (l.take i)) ∧ Below w.heap.size w wr) (fun _ t _ => n - (intOf t).toNat)
  case atStart => exact ⟨0, by omega, rfl, own_nil w w.heap.size, Below.refl _ _⟩
  case round =>
    obtain ⟨i, hi, rfl, hO, hB⟩ := hrel
    obtain ⟨oa, on, oc, rfl, hon⟩ := own_form hO
    by_cases hin : i < n
    · have hl4 : decide ((i : Int) < (n : Int)) = true := decide_eq_true (by omega)
      have p0 : (0 : Int) ≤ (i : Int) := by omega
      have p1 : (i : Int) < (n : Int) := by omega
      obtain ⟨b1, o1, rfl, f0, hk⟩ := ul_at (ul_below S.out hB) (j := i) (by have := HN.out.1; omega)
      have HS := Lib.hid (encJ_take_succ (ks := l) (i := i) (by have := HN.out.1; omega))
      have HL : Hid ((encJ (l.take i)).length ≤ 12000) := by show _ ≤ _; rw [encJ_length, List.length_take]; have := HN.out; omega
      generalize l.getD i 0 = k at *
      have HO := Lib.hid hO
      have HB := Lib.hid hB
      have HK := Lib.hid hk
      have HI := Lib.hid hin
      have hw := w64s i (by have := HN.out; omega)
      clear hO hB hk hin hon hi
      rename World => wl
      go_wp2_with fail
      refine (number_any k 8 wl (by decide)).mono ?_
      rintro e w1 ⟨⟨v1, rfl, ho1⟩, hb1⟩
      have SB := Lib.hid ho1.sl
      have HO1 := Lib.hid (own_below' HO.out hb1)
      have HB1 := Lib.hid (bt HB.out hb1)
      have HSZ := Lib.hid (Nat.le_trans HB.out.size hb1.size)
      obtain ⟨a1, n1, c1, rfl, -⟩ := own_form ho1
      have HLA : Hid ((encJ (l.take i)).length + (beL 8 k).length ≤ 100000000) := by show _ ≤ _; have := HL.out; rw [beL_length]; omega
      have OB := Lib.hid ho1
      have HW := Lib.hid hb1.size
      have HOO := Lib.hid HO.out
      clear ho1 hb1 HO HB f0
      go_wp2_with (at_builtin; refine app_sl (dst := some 19) ?_ ?_ HO1.out SB.out HLA.out (by have := HSZ.out; omega) ?_; exact rfl; exact rfl; intro v5 w5 ho5 hg5; have OB5 := Lib.hid (own_kept OB.out HOO.out (Nat.le_refl _) hg5); obtain ⟨sa, sn, sc, hv5, -⟩ := own_form ho5; subst hv5; have HO5 := Lib.hid ho5; have HB5 := Lib.hid (below_grown HB1.out hg5 HO1.out HSZ.out (Nat.le_refl _)); have HSZ5 := Lib.hid (Nat.le_trans HSZ.out hg5.size); clear ho5 hg5)
      refine (check_any _ _ _ OB5.out.sl).mono ?_
      rintro e w6 ⟨⟨v6, rfl, ho6⟩, hb6⟩
      have SB6 := Lib.hid ho6.sl
      have HO6 := Lib.hid (own_below' HO5.out hb6)
      have HB6 := Lib.hid (bt HB5.out hb6)
      have HSZ6 := Lib.hid (Nat.le_trans HSZ5.out hb6.size)
      obtain ⟨a6, n6, c6, rfl, -⟩ := own_form ho6
      have HLB : Hid ((encJ (l.take i) ++ beL 8 k).length + (leL (ext 0 (beL 8 k))).length ≤ 100000000) := by show _ ≤ _; have := HLA.out; have := HL.out; rw [List.length_append, beL_length, leL_length]; omega
      clear ho6 hb6 OB5 HO5 HB5 HSZ5 HO1 HB1 HSZ HLA OB HW HOO SB
      go_wp2_with (at_builtin; refine app_sl (dst := some 22) ?_ ?_ HO6.out SB6.out HLB.out (by have := HSZ6.out; omega) ?_; exact rfl; exact rfl; intro v7 w7 ho7 hg7; have HB7 := Lib.hid (below_grown HB6.out hg7 HO6.out HSZ6.out (Nat.le_refl _)); rw [List.append_assoc] at ho7; have HO7 := Lib.hid ho7; clear ho7 hg7)
      go_roundw
      case rel => exact ⟨i + 1, HI.out, by go_num, by have h := HO7.out; rw [HS.out]; exact h, HB7.out⟩
      case measure => exact meas14 n i HI.out (by rw [HN.out.1]; exact HN.out.2)
    · obtain rfl : i = n := by omega
      have hl4 : decide ((i : Int) < (i : Int)) = false := decide_eq_false (by omega)
      rw [List.take_of_length_le (by have := HN.out.1; omega)] at hO
      have HO := Lib.hid hO
      have HB := Lib.hid hB
      clear hO hB hon
      go_wp2
      go_ret
      exact ⟨⟨_, rfl, HO.out⟩, HB.out⟩
end Go.Proofs.YtbkhedfhnmkodaaDoor.Gf
