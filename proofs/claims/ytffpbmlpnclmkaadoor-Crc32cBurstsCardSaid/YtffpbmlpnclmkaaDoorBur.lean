/- What is proved here: the walk of the law Crc32cBursts. Condition: the table nibbles holds its sixteen numbers. -/
import Derived.Test.YtffpbmlpnclmkaaDoorLin
import Derived.Test.YtffpbmlpnclmkaaDoorMath3
namespace Go.Proofs.YtffpbmlpnclmkaaDoor.Crc
open Go Go.ChangeShapes Go.WideShapes Go.ChangeAt Go.RowKit

/-- append onto an empty slice of the call's own, the result written out. -/
theorem app_new {ops : Array Oper} {rest : List Oper} {dst : Option Tmp} {s x : Operand} {pos : String} {after : Array Edge} {ty : TypeId} {a : Act} {W : World} {Q : Exit → Act → World → Prop}
    {base : Nat} {v y : Value} {m : List Nat} (hs : a.eval s = v) (hy : a.eval x = y) (hv : Own W base v []) (hx : Sl W y m) (hlm : m.length ≤ 100000) (hb : base ≤ W.heap.size)
    (h : ∀ g c w', Own w' base (.slice (some ⟨g, 0, none⟩) m.length c) m → W.grownBy w' v.ownBlock → wpList Tryd.prog ops Q rest (a.put dst (.slice (some ⟨g, 0, none⟩) m.length c)) w') : wpList Tryd.prog ops Q (⟨dst, .call { callee := .builtin .append, args := #[s, x], argTypes := #[22, 22] }, ty, pos, after, none⟩ :: rest) a W :=
  app_sl hs hy hv hx (by simpa using hlm) hb fun v' w' ho hg => by
    simp only [List.nil_append] at ho
    obtain ⟨g, c, rfl⟩ := ho.2.2
    exact h g c w' ho hg
/-- A store into an owned slice. -/
theorem own_set {w : World} {base g c n q x : Nat} {M : List Nat} (h : Own w base (.slice (some ⟨g, 0, none⟩) n c) M) (hM : M.length = n) (hq : q < n) (hx : x < 256) :
    Own (w.setCell ⟨g, q, none⟩ (.int .u8 (x : Int))) base (.slice (some ⟨g, 0, none⟩) n c) (M.set q x) := by
  subst hM
  obtain ⟨hl, ⟨h1, h2⟩, g', c', hv⟩ := h
  rcases h2 with ⟨h3, _⟩ | ⟨g2, cap, cur, h3, hg, hb, hn, hm, hsz, ht⟩
  · cases h3
  · cases h3
    refine ⟨fun b hb' => ?_, ⟨by simp [cellsOf], Or.inr ⟨g, c, cur.setIfInBounds q (.int .u8 (x : Int)), by simp, hg, heap_setCell_same w g q cur 5 _ hb, by simpa using hn, hm, by simpa using hsz, ?_⟩⟩, g, c, by simp⟩
    · rcases List.mem_or_eq_of_mem_set hb' with h | h
      · exact hl b h
      · omega
    · simp only [List.length_set, Nat.mul_one] at ht ⊢
      rw [Array.toList_setIfInBounds, List.take_set, ht]
      simp [cellsOf, List.map_set]
theorem own_cell {w : World} {base g c n q : Nat} {M : List Nat} (h : Own w base (.slice (some ⟨g, 0, none⟩) n c) M) (hM : M.length = n) (hq : q < n) :
    w.cell? ⟨g, q, none⟩ = some (.int .u8 ((M.getD q 0 : Nat) : Int)) ∧ w.frozen? ⟨g, q, none⟩ = false ∧ base ≤ g := by
  subst hM
  obtain ⟨hl, ⟨h1, h2⟩, g', c', hv⟩ := h
  rcases h2 with ⟨h3, _⟩ | ⟨g2, cap, cur, h3, hg, hb, hn, hm, hsz, ht⟩
  · cases h3
  · cases h3
    refine ⟨?_, frozen_of_row w g q cur 5 hb, hg⟩
    rw [cell_of_row w g q cur 5 (0, 0) hb]
    have e := congrArg (·[q]?) ht
    simp only [Nat.mul_one, List.getElem?_take, hq, if_true, cellsOf, List.getElem?_map] at e
    simpa [List.getD, hq] using e

/-- Bytes as a string. -/
def strOf (l : List Nat) : ByteArray := strOfNums (l.map fun (b : Nat) => (b : Int))
theorem strOf_inj : ∀ {l m : List Nat}, (∀ b ∈ l, b < 256) → (∀ b ∈ m, b < 256) → (strOf l).toList = (strOf m).toList → l = m := by
  intro l m hl hm h
  have h1 := h
  rw [ByteArray.toList_eq, ByteArray.toList_eq] at h1
  simp only [strOf, strOfNums_data, List.map_map] at h1
  induction l generalizing m with
  | nil =>
    cases m with
    | nil => rfl
    | cons b m => simp at h1
  | cons a l ih =>
    cases m with
    | nil => simp at h1
    | cons b m =>
      simp only [List.map_cons, List.cons.injEq, Function.comp] at h1
      have ha := hl a (by simp)
      have hb := hm b (by simp)
      have e : a = b := by
        have := congrArg UInt8.toNat h1.1
        simp only [Int.toNat_natCast, UInt8.toNat_ofNat'] at this
        omega
      have := ih (fun y hy => hl y (by simp [hy])) (fun y hy => hm y (by simp [hy])) (m := m) (by
        have e2 : (List.map ((fun n : Int => UInt8.ofNat n.toNat) ∘ fun (b : Nat) => (b : Int)) l) = List.map ((fun n : Int => UInt8.ofNat n.toNat) ∘ fun (b : Nat) => (b : Int)) m := h1.2
        unfold strOf strOfNums
        rw [List.map_map, List.map_map, e2]) h1.2
      rw [e, this]
theorem conv_sl {w : World} {v : Value} {l : List Nat} (h : Sl w v l) (h0 : 0 < l.length) : (convert 22 9 v).run Tryd.prog w.drew = .ok (.string (strOf l)) w.drew := by
  obtain ⟨_, _, ⟨_, _, _, he, _⟩ | ⟨b, off, cap, rfl, _, _, hc⟩⟩ := h
  · subst he
    simp at h0
  · exact run_convert_bytes_arg (P := Tryd.prog) w.drew 22 5 Tryd.underlying22 Tryd.underlying5 b off l.length cap (l.map fun (b : Nat) => (b : Int)) (by simp) (fun i hi => by
      rw [World.cell?_drew, hc i hi]
      simp [List.getD, hi]) 9 Tryd.underlying9

set_option maxRecDepth 100000 in
set_option maxHeartbeats 1600000 in
theorem bursts_pos {w : World} (v : Value) (l L : List Nat) (hL : L = l.take 2000) (h0 : 0 < L.length) (s1 : Sl w v l) (at' : Int) (flip : Nat) (hf : flip < 4294967296) (ht : Tab w) :
    Calls Tryd.prog 9 #[v, .int .i64 at', .int .u32 (flip : Int)] w fun e w' => e = .returned (.bool true) ∧ Below w.heap.size w w' := by
  have HT := Lib.hid ht
  have S1 := Lib.hid s1
  have hl2 : L.length ≤ 2000 := by rw [hL]; exact List.length_take_le _ _
  have HL := Lib.hid hL
  clear ht s1 hL
  obtain ⟨A, hA⟩ : ∃ A, at'.tmod (8 * (L.length : Int)) = A := ⟨_, rfl⟩
  have hA1 : -(8 * (L.length : Int)) < A ∧ A < 8 * (L.length : Int) := by
    rw [← hA]
    have := Int.tmod_lt_of_pos at' (b := 8 * (L.length : Int)) (by omega)
    have h2 := Int.lt_tmod_of_pos at' (b := 8 * (L.length : Int)) (by omega)
    omega
  obtain ⟨K, hK, hKlt⟩ : ∃ K : Nat, (A + 8 * (L.length : Int)).tmod (8 * (L.length : Int)) = (K : Int) ∧ K < 8 * L.length := by
    have e : (A + 8 * (L.length : Int)).tmod (8 * (L.length : Int)) = (A + 8 * (L.length : Int)) % (8 * (L.length : Int)) := Int.tmod_eq_emod_of_nonneg (by omega)
    have e1 := Int.emod_nonneg (A + 8 * (L.length : Int)) (b := 8 * (L.length : Int)) (by omega)
    have e2 := Int.emod_lt_of_pos (A + 8 * (L.length : Int)) (b := 8 * (L.length : Int)) (by omega)
    rw [e]
    generalize (A + 8 * (L.length : Int)) % (8 * (L.length : Int)) = X at e1 e2
    exact ⟨X.toNat, by omega, by omega⟩
  have hA2 := hA1.1
  have hA3 := hA1.2
  have hne : (8 * (L.length : Int) == 0) = false := beq_false_of_ne (by omega)
  clear hA1
  go_enter Tryd.func9, Tryd.ntmps9
  go_wp2_with fail
  refine (cut_form 2000 L HL.out S1.out (by decide)).mono ?_
  rintro e w' ⟨⟨a1, c1, rfl, hx⟩, rfl⟩
  have HX := Lib.hid hx
  clear hx
  have hB0 := (Below.refl w.heap.size w).alloc (Nat.le_refl _) (.cells #[] 5)
  have HO0 := Lib.hid (own_empty w (Nat.le_refl _))
  go_wp2_with (first
    | ((with_reducible refine app_new (dst := some 29) ?_ ?_ HO0.out (sl_below HX.out hB0) (by omega) (by simp) ?_); exact rfl; exact rfl; intro g c w1 ho1 hg1; have hB1 := hB0.grown hg1 (by simp) (own_block HO0.out); have HO1 := Lib.hid ho1; have hs1 := hB1.size; clear ho1 hg1))
  have HA := Lib.hid hA
  have HK := Lib.hid hK
  clear hA hK hne hB0
  go_loopw [10] (fun i wr => ∃ (I : Nat) (M : List Nat), I ≤ 32 ∧ K + I ≤ 8 * L.length ∧ i = .int .i64 I ∧ M.length = L.length ∧ num M = num L ^^^ (flip % 2 ^ I) * 2 ^ K ∧ Own wr w.heap.size (.slice (some ⟨g, 0, none⟩) L.length c) M ∧ Below w.heap.size w wr) (fun i _ => 32 - (intOf i).toNat)
  case atStart => exact ⟨0, L, by omega, by omega, rfl, rfl, by simp [Nat.mod_one], HO1.out, hB1⟩
  case round =>
    clear HO1 hB1 hs1
    obtain ⟨I, M, hI, hKI, rfl, hM, hnum, hO, hB⟩ := hrel
    have HN := Lib.hid hnum
    have HM := Lib.hid hM
    have HO := Lib.hid hO
    have hMl : ∀ b ∈ M, b < 256 := hO.1
    have HMl := Lib.hid hMl
    clear hnum hM hMl hO
    by_cases hlt : I < 32 ∧ K + I < 8 * L.length
    · obtain ⟨i1, i2⟩ := hlt
      have hql : (K + I) / 8 < L.length := by omega
      obtain ⟨hc, hfz, hbg⟩ := own_cell HO.out HM.out hql
      have hy := getD_lt HMl.out ((K + I) / 8)
      have b1 := and1_shift flip I hf
      have hbt : flip / 2 ^ I % 2 < 2 := Nat.mod_lt _ (by decide)
      obtain ⟨bt, hbte⟩ : ∃ bt, bt = flip / 2 ^ I % 2 := ⟨_, rfl⟩
      obtain ⟨y, hye⟩ : ∃ y, y = M.getD ((K + I) / 8) 0 := ⟨_, rfl⟩
      rw [← hbte] at b1 hbt
      rw [← hye] at hc hy
      have HBT := Lib.hid hbte
      have HY := Lib.hid hye
      clear hbte hye
      go_wp2
      go_roundw
      case rel =>
        refine ⟨I + 1, M.set ((K + I) / 8) (M.getD ((K + I) / 8) 0 ^^^ flip / 2 ^ I % 2 * 2 ^ ((K + I) % 8)), by omega, by omega, by go_num, by simpa using HM.out, ?_, ?_, hB.setCell hbg _⟩
        · exact num_step M (num L) flip K I HMl.out (by rw [HM.out]; exact hql) HN.out
        · have e2 : 2 ^ ((K + I) % 8) ≤ 2 ^ 7 := Nat.pow_le_pow_right (by decide) (by omega)
          have e3 : bt * 2 ^ ((K + I) % 8) < 256 := by
            have := Nat.mul_le_mul (show bt ≤ 1 by omega) e2
            omega
          have e4 : ((bt : Int) * 2 ^ ((K + I) % 8) % 256) = ((bt * 2 ^ ((K + I) % 8) : Nat) : Int) := by
            have : ((bt : Int) * 2 ^ ((K + I) % 8)) = ((bt * 2 ^ ((K + I) % 8) : Nat) : Int) := by simp
            rw [this]
            generalize bt * 2 ^ ((K + I) % 8) = z at e3
            omega
          rw [e4, u8_xor_nat _ _ hy e3, HY.out, HBT.out]
          exact own_set HO.out HM.out hql (by rw [← HY.out, ← HBT.out]; exact xor_lt8 hy e3)
      case measure => simp [intOf]; omega
    · have hF : flip % 2 ^ I < 4294967296 := Nat.lt_of_le_of_lt (Nat.mod_le _ _) hf
      obtain ⟨n1, n2⟩ := noticed HM.out HX.out.1 HMl.out hF (by omega) HN.out
      have hBs := hB.size
      have HTr := Lib.hid (tab_below HT.out hB.drew)
      have C1 := Lib.hid (sum_still (sl_below HX.out hB) (tab_below HT.out hB))
      have o2 := HO.out.sl
      have C2 := Lib.hid (sum_still o2 (tab_below HT.out hB))
      have v1 := conv_sl (sl_below HX.out hB) h0
      have v2 := conv_sl o2 (by rw [HM.out]; exact h0)
      obtain ⟨bb, d1, d2⟩ : ∃ bb : Bool, ((strOf L).toList == (strOf M).toList) = bb ∧ (((ext 0 L : Nat) : Int) == ((ext 0 M : Nat) : Int)) = bb := by
        by_cases e : L = M
        · exact ⟨true, by rw [e]; simp, by rw [e]; simp⟩
        · exact ⟨false, beq_false_of_ne fun h => e (strOf_inj HX.out.1 HMl.out h), beq_false_of_ne fun h => e (n1.2 (n2.1 (by omega)))⟩
      clear n1 n2 o2
      generalize strOf L = t1 at v1 d1
      generalize strOf M = t2 at v2 d1
      generalize ext 0 L = A1 at C1 d2
      generalize ext 0 M = A2 at C2 d2
      have hex : ¬ I < 32 ∨ (I < 32 ∧ decide ((K : Int) + (I : Int) < 8 * (L.length : Int)) = false) := by
        by_cases h32 : I < 32
        · exact Or.inr ⟨h32, decide_eq_false (by omega)⟩
        · exact Or.inl h32
      clear hlt
      rcases hex with hx1 | ⟨hx1, hx2⟩
      all_goals
        go_wp2
        refine wp_region_still_tail 12 (by kernel_rfl) (by kernel_rfl) ?_
        simp only [List.take_succ_cons, List.take_zero, List.drop_succ_cons, List.drop_zero]
        still_step
        still_step
        still_step
        still_step
        still_step
        still_step
        still_call C1.out
        still_step
        still_call C2.out
        still_step
        still_step
        still_step
        refine wpStill_nil ?_
        change wpList _ _ _ _ _ wr.drew
        go_wp2_with ((go_at_call 15; refine (awake_any _ HTr.out).mono ?_; rintro e w5 ⟨rfl, hB5⟩))
        go_ret
        exact ⟨rfl, hB.drew.trans (hB5.mono hBs)⟩
end Go.Proofs.YtffpbmlpnclmkaaDoor.Crc
