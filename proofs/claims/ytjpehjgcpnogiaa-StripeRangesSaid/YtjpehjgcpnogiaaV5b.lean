/- What is proved here: the contract of the reference's Join. Condition: the first four rows have at most 1,000,000 bytes. -/
import Derived.Test.YtjpehjgcpnogiaaV5a
namespace Go.Proofs.Ytjpehjgcpnogiaa.Gf
open Go Go.Joins Go.ChangeShapes Go.WideShapes Go.ChangeAt Go.RowKit Go.Deep Go.Proofs.Ytjpehjgcpnogiaa.By

def I64b (n : Int) : Prop := -9223372036854775808 ≤ n ∧ n ≤ 9223372036854775807
def RowOk (L : List (List Nat)) (n : Int) (i : Nat) : Prop := ((L.getD i []).length : Int) = szI n
instance (L : List (List Nat)) (n : Int) (i : Nat) : Decidable (RowOk L n i) := by unfold RowOk; infer_instance
def JoinOk (L : List (List Nat)) (n : Int) : Prop := 4 ≤ L.length ∧ 0 ≤ n ∧ ∀ i, i < 4 → RowOk L n i
instance (L : List (List Nat)) (n : Int) : Decidable (JoinOk L n) := by unfold JoinOk; infer_instance
def joinR (L : List (List Nat)) (n : Int) : List Nat := if JoinOk L n then joinL L n.toNat else []
def joinE (L : List (List Nat)) (n : Int) : Int := if JoinOk L n then 0 else 1
/-- A call that answers bytes and an error. -/
def EB (w : World) (l : List Nat) (err : Int) (e : Ending) (w' : World) : Prop := (∃ v, e = .returned (.tuple #[v, .int .i64 err]) ∧ Own w' w.heap.size v l) ∧ Below w.heap.size w w'
def Small5 (L : List (List Nat)) : Prop := ∀ k, k < 4 → (L.getD k []).length ≤ 1000000
theorem szI_bd (n : Int) (h : I64b n) : I64b (szI n) ∧ 0 ≤ szI n := by
  unfold I64b at *
  unfold szI
  split <;> omega
theorem joinL_lt {w : World} {v : Value} {L : List (List Nat)} (s : Sr w v L) (n : Nat) : ∀ b ∈ joinL L n, b < 256 := fun b hb => by
  unfold joinL at hb
  simp only [List.mem_map, List.mem_range] at hb
  obtain ⟨i, _, rfl⟩ := hb
  by_cases hk : shOf i < L.length
  · obtain ⟨_, _, _, _, _, _, k⟩ := sr_cells s (by omega)
    obtain ⟨x, _, hx⟩ := k _ hk
    exact getD_lt hx.1 _
  · rw [getD_outL (by omega)]
    simp
set_option maxRecDepth 100000 in
set_option maxHeartbeats 6400000 in
theorem rjoin_any (v : Value) (L : List (List Nat)) (n : Int) (w : World) (s : Sr w v L) (hn : I64b n) (hm : Small5 L) : Calls Try.prog 20 #[v, .int .i64 n] w (EB w (joinR L n) (joinE L n)) := by
  have RS := Lib.hid (fun W => rsize5_any n W hn)
  have RP := Lib.hid (fun (k : Nat) (h : I64b (k : Int)) W => rplace_any (k : Int) W h)
  obtain ⟨a, c, hv, -, -⟩ := sr_form s
  obtain ⟨m, hm0⟩ : ∃ m, m = L.length := ⟨_, rfl⟩
  rw [← hm0] at hv
  subst hv
  have S := Lib.hid s
  have HM := Lib.hid hm0
  have HMM : Hid (m ≤ maxLen) := by have := s.1; rw [← hm0] at this; exact this
  have HS := Lib.hid hm
  have HN := Lib.hid hn
  have hz := szI_bd n hn
  clear s hm0 hm
  unfold EB
  by_cases h4 : m < 4
  · have hb : ¬ JoinOk L n := fun h => by have := h.1; have := HM.out; omega
    unfold joinR joinE
    rw [if_neg hb, if_neg hb]
    have hlt : decide ((m : Int) < 4) = true := decide_eq_true (by omega)
    clear hb hz hn
    go_enter Try.func20, Try.ntmps20
    go_wp2
    go_ret2
    exact ⟨⟨_, rfl, own_nil _ _⟩, Below.refl _ _⟩
  have hlt : decide ((m : Int) < 4) = false := decide_eq_false (by omega)
  by_cases h0 : n < 0
  · have hb : ¬ JoinOk L n := fun h => by have := h.2.1; omega
    unfold joinR joinE
    rw [if_neg hb, if_neg hb]
    have hlt2 : decide (n < 0) = true := decide_eq_true (by omega)
    clear hb hz hn
    go_enter Try.func20, Try.ntmps20
    go_wp2
    go_ret2
    exact ⟨⟨_, rfl, own_nil _ _⟩, Below.refl _ _⟩
  have hlt2 : decide (n < 0) = false := decide_eq_false (by omega)
  obtain ⟨R, hR⟩ : ∃ R, R = joinR L n := ⟨_, rfl⟩
  obtain ⟨E, hE⟩ : ∃ E, E = joinE L n := ⟨_, rfl⟩
  rw [← hR, ← hE]
  have HR := Lib.hid hR
  have HE := Lib.hid hE
  clear hR hE
  obtain ⟨b, o, c', hv, -, -, kk⟩ := sr_cells S.out (by have := HM.out; omega)
  obtain ⟨rfl, -, rfl⟩ : a = some ⟨b, o, none⟩ ∧ m = L.length ∧ c = c' := by simpa using hv
  have KK := Lib.hid kk
  have HZ := Lib.hid hz
  have H0 := Lib.hid h0
  have H4 : Hid (4 ≤ m) := by show 4 ≤ m; omega
  have HZ' : Hid (szI n = ((szN n.toNat : Nat) : Int)) := by show szI n = _; rw [← szI_nat, Int.toNat_of_nonneg (by omega)]
  clear hv kk hz h0 hn
  obtain ⟨z, hzz⟩ : ∃ z, z = szI n := ⟨_, rfl⟩
  have RSZ := RS.out
  rw [← hzz] at RSZ
  have RZ := Lib.hid RSZ
  have HZZ := Lib.hid hzz
  clear hzz RSZ
  go_enter Try.func20, Try.ntmps20
  go_wp2_with fail
  go_loopw [6] (fun t wr => ∃ i : Nat, i ≤ 4 ∧ t = .int .i64 (i : Int) ∧ (∀ j, j < i → RowOk L n j) ∧ Below w.heap.size w wr) (fun t _ => 4 - (intOf t).toNat)
  case atStart => exact ⟨0, by omega, rfl, fun j hj => by omega, Below.refl _ _⟩
  case round =>
    obtain ⟨i, hi, rfl, hok, hB⟩ := hrel
    by_cases hi4 : i < 4
    · have hl4 : decide ((i : Int) < 4) = true := decide_eq_true (by omega)
      obtain ⟨x, hx, hs⟩ := KK.out i (by have := HM.out; have := H4.out; omega)
      obtain ⟨xa, xc, rfl, -, -⟩ := sl_form hs
      have hx := (hB.cell (p := ⟨b, o + i, none⟩) (block_lt_of_cell hx)).trans hx
      have p0 : (0 : Int) ≤ (i : Int) := by omega
      have p1 : (i : Int) < (m : Int) := by have := H4.out; omega
      have HOK := Lib.hid hok
      have HB := Lib.hid hB
      clear hok hB hs
      by_cases hr : RowOk L n i
      · have hne : (((L.getD i []).length : Int) != z) = false := by rw [HZZ.out, show ((L.getD i []).length : Int) = szI n from hr]; simp
        have HRO := Lib.hid hr
        clear hr
        generalize (L.getD i []).length = q at *
        go_wp2
        go_quiet ((go_at_call 13; exact Calls.quiet_of_same ((RZ.out _).mono fun _ _ h => ⟨h.1, h.2.symm⟩)))
        have hd := bt HB.out (below_drewN wr nq)
        clear HB hx
        generalize wr.drewN nq = W9 at *
        have HD := Lib.hid hd
        clear hd
        go_wp2
        go_roundw
        case rel => exact ⟨i + 1, by omega, by go_num, fun j hj => by by_cases e : j < i; exact HOK.out j e; rw [show j = i by omega]; exact HRO.out, HD.out⟩
        case measure => simp [intOf]; omega
      · have hne : (((L.getD i []).length : Int) != z) = true := by rw [bne_iff_ne, HZZ.out]; exact hr
        have hb : ¬ JoinOk L n := fun h => hr (h.2.2 i hi4)
        obtain rfl : R = [] := by rw [HR.out]; exact if_neg hb
        obtain rfl : E = 1 := by rw [HE.out]; exact if_neg hb
        clear hr hb
        generalize (L.getD i []).length = q at *
        go_wp2
        go_quiet ((go_at_call 13; exact Calls.quiet_of_same ((RZ.out _).mono fun _ _ h => ⟨h.1, h.2.symm⟩)))
        have hd := bt HB.out (below_drewN wr nq)
        clear HB hx
        generalize wr.drewN nq = W9 at *
        have HD := Lib.hid hd
        clear hd
        go_wp2
        go_ret2
        exact ⟨⟨_, rfl, own_nil _ _⟩, HD.out⟩
    · obtain rfl : i = 4 := by omega
      rw [show ((4 : Nat) : Int) = 4 from rfl]
      have hb : JoinOk L n := ⟨by have := HM.out; have := H4.out; omega, by have := H0.out; omega, hok⟩
      obtain rfl : R = joinL L n.toNat := by rw [HR.out]; exact if_pos hb
      obtain rfl : E = 0 := by rw [HE.out]; exact if_pos hb
      obtain ⟨N, hN⟩ := Int.eq_ofNat_of_zero_le (show 0 ≤ n from hb.2.1)
      subst hN
      have hN4 : N ≤ 4000000 := by
        have h1 := HS.out 0 (by omega)
        have h2 := hok 0 (by omega)
        unfold RowOk at h2
        rw [szI_nat] at h2
        unfold szN at h2
        omega
      have HOK := Lib.hid hok
      have HB := Lib.hid hB
      have HT : Hid (joinL L ((N : Int)).toNat = joinL L N) := by show joinL L ((N : Int)).toNat = joinL L N; rw [Int.toNat_natCast]
      have HLT := Lib.hid fun k => joinL_lt S.out k
      clear hok hB hb hlt2
      go_wp2_with fail
      go_loopw [7, 8] (fun out t wr => ∃ k : Nat, k ≤ N ∧ t = .int .i64 (k : Int) ∧ Own wr w.heap.size out (joinL L k) ∧ Below w.heap.size w wr) (fun _ t _ => N - (intOf t).toNat)
      case atStart => exact ⟨0, by omega, rfl, own_nil _ _, HB.out⟩
      case round =>
        clear HB
        obtain ⟨k, hk, rfl, hO, hB⟩ := hrel
        obtain ⟨oa, on, oc, rfl, -⟩ := own_form hO
        by_cases hkN : k < N
        · have hl4 : decide ((k : Int) < (N : Int)) = true := decide_eq_true (by omega)
          have hp := RP.out k (by unfold I64b; omega) wr
          rw [plS_nat, plA_nat, plE_nat] at hp
          have hsh := sh_lt k
          have hrow : (L.getD (shOf k) []).length = szN N := by
            have h2 := HOK.out (shOf k) hsh
            unfold RowOk at h2
            rw [szI_nat] at h2
            omega
          have hat : atOf k < szN N := at_lt hkN
          obtain ⟨x, hx, hs⟩ := KK.out (shOf k) (by have := HM.out; have := H4.out; omega)
          obtain ⟨xb, xo, xc, rfl, -, -, hc⟩ := sl_cells hs (by omega)
          have hx := (hB.cell (p := ⟨b, o + shOf k, none⟩) (block_lt_of_cell hx)).trans hx
          have hc := hc (atOf k) (by omega)
          have hc := (hB.cell (p := ⟨xb, xo + atOf k, none⟩) (block_lt_of_cell hc)).trans hc
          have hz := getD_lt hs.1 (atOf k)
          have hsn := joinL_succ L k
          rw [hrow] at hx
          have HP := Lib.hid hp
          have HSN := Lib.hid hsn
          have HO := Lib.hid hO
          have HB := Lib.hid hB
          have HJ := Lib.hid (joinL_length L k)
          generalize (L.getD (shOf k) []).getD (atOf k) 0 = y at *
          generalize shOf k = sh at *
          generalize atOf k = at' at *
          generalize szN N = M at *
          have p0 : (0 : Int) ≤ (sh : Int) := by omega
          have p1 : (sh : Int) < (m : Int) := by have := H4.out; omega
          have p2 : (0 : Int) ≤ (at' : Int) := by omega
          have p3 : (at' : Int) < (M : Int) := by omega
          have HZZZ := Lib.hid hz
          clear hp hs hrow hsn hO hB hz
          go_wp2_with fail
          refine HP.out.mono ?_
          rintro e w' ⟨rfl, rfl⟩
          go_wp2_with (at_builtin; refine app_sl (dst := some 51) ?_ ?_ (own_below' HO.out ((Below.refl wr.heap.size wr).alloc (Nat.le_refl _) _)) (sl_one HZZZ.out (heap_alloc_new _ _)) (by rw [HJ.out]; simp; omega) (by have := HB.out.size; simp; omega) ?_; exact rfl; exact rfl; intro v5 w5 ho5 hg5; rw [← HSN.out] at ho5; obtain ⟨sa, sn, sc, hv5, -⟩ := own_form ho5; subst hv5; have HO5 := Lib.hid ho5; have HG5 := Lib.hid hg5; clear ho5 hg5)
          have hbf : Below w.heap.size w w5 := (HB.out.alloc HB.out.size _).grown HG5.out (by have := HB.out.size; simp; omega) fun q hq => HO.out.lt q hq
          have HBF := Lib.hid hbf
          clear hbf
          go_roundw
          case rel => exact ⟨k + 1, by omega, by go_num, HO5.out, HBF.out⟩
          case measure => simp [intOf]; omega
        · obtain rfl : k = N := by omega
          have hl4 : decide ((k : Int) < (k : Int)) = false := decide_eq_false (by omega)
          have HO := Lib.hid hO
          have HB := Lib.hid hB
          clear hO hB
          go_wp2
          go_ret2
          exact ⟨⟨_, rfl, by rw [HT.out]; exact HO.out⟩, HB.out⟩
end Go.Proofs.Ytjpehjgcpnogiaa.Gf
