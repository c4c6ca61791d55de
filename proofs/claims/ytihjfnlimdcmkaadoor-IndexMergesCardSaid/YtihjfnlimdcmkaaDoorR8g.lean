/- What is proved here: the contract of the reference's Merge (layer 8). Condition: lists of at most 500000 items. -/
import Derived.Test.YtihjfnlimdcmkaaDoorU8
namespace Go.Proofs.YtihjfnlimdcmkaaDoor.Gf
open Go Go.Joins Go.ChangeShapes Go.WideShapes Go.ChangeAt Go.RowKit Go.Deep Go.Proofs.YtihjfnlimdcmkaaDoor.By

def gonF (S : List Itm) (G : List Nat) (i : Nat) : List Itm := (G.take i).foldl (fun o g => delL g o) S
def putA (S F : List Itm) (i : Nat) : List Itm := (F.take i).foldl (fun o x => insL x o) S
theorem gonF_succ {S : List Itm} {G : List Nat} {i : Nat} (h : i < G.length) : gonF S G (i + 1) = delL (G.getD i 0) (gonF S G i) := by
  unfold gonF
  rw [take_snoc G i h, List.foldl_append]
  rfl
theorem putA_succ {S F : List Itm} {i : Nat} (h : i < F.length) : putA S F (i + 1) = insL (F.getD i z0) (putA S F i) := by
  unfold putA
  rw [take_snocT h, List.foldl_append]
  rfl
theorem gonF_asc {S : List Itm} (h : Asc S) (G : List Nat) (i : Nat) : Asc (gonF S G i) := asc_gone _ _ h
theorem putA_asc {S : List Itm} (h : Asc S) (F : List Itm) (i : Nat) : Asc (putA S F i) := asc_put _ _ h
theorem gonF_len (S : List Itm) (G : List Nat) : ∀ i, i ≤ G.length → (gonF S G i).length ≤ S.length
  | 0, _ => by simp [gonF]
  | i + 1, h => by
    rw [gonF_succ (by omega)]
    exact Nat.le_trans (length_delL _ _) (gonF_len S G i (by omega))
theorem putA_len (S F : List Itm) : ∀ i, i ≤ F.length → (putA S F i).length ≤ S.length + i
  | 0, _ => by simp [putA]
  | i + 1, h => by
    rw [putA_succ (by omega)]
    have := length_insL (F.getD i z0) (putA S F i)
    have := putA_len S F i (by omega)
    omega
set_option maxRecDepth 100000 in
set_option maxHeartbeats 12800000 in
theorem rmerge_any (vo vf vg : Value) (O F : List Itm) (G : List Nat) (w : World) (so : It w vo O) (sf : It w vf F) (sg : Su w vg G) (hlen : O.length + F.length ≤ 500000) : Calls Tryd.prog 29 #[vo, vf, vg] w (LO w (mergeL O F G)) := by
  unfold LO
  have RS := Lib.hid (rsorted_any vo O w so (by omega))
  have RF := Lib.hid (fun W (h : Below w.heap.size w W) => rsorted_any vf F W (it_below sf h) (by omega))
  have hSl : (sortL O).length ≤ 500000 := Nat.le_trans (length_sortL O) (by omega)
  have hFl : (sortL F).length ≤ 500000 := Nat.le_trans (length_sortL F) (by omega)
  rw [show mergeL O F G = putA (gonF (sortL O) G G.length) (sortL F) (sortL F).length by unfold mergeL putA gonF; rw [List.take_length, List.take_length]]
  have SA := Lib.hid (asc_sortL O)
  obtain ⟨ao, co, rfl, -, -⟩ := it_form so
  obtain ⟨af, cf, rfl, -, -⟩ := it_form sf
  obtain ⟨ag, cg, rfl, -, -⟩ := su_form sg
  obtain ⟨n, hn⟩ : ∃ n, n = G.length := ⟨_, rfl⟩
  have SG := Lib.hid sg
  rw [← hn] at SG ⊢
  have hgl : n ≤ 9223372036854775807 := by
    obtain ⟨_, _, h, h1, h2⟩ := su_form sg
    unfold maxLen at h2
    omega
  have N := Lib.hid hn
  generalize O.length = no at *
  generalize F.length = nf at *
  generalize sortL O = S at *
  generalize sortL F = SF at *
  clear so sf sg hlen hn
  go_enter Tryd.func29, Tryd.ntmps29
  go_wp2_with fail
  refine RS.out.mono ?_
  rintro e w1 ⟨⟨v1, rfl, ho1⟩, hb1⟩
  obtain ⟨a1, c1, rfl, -, -⟩ := owT_form ho1
  have O1 := Lib.hid ho1
  have B1 := Lib.hid hb1
  clear ho1 hb1 RS
  go_wp2_with fail
  go_loopw [7, 8] (fun out t wr => ∃ i : Nat, i ≤ n ∧ t = .int .i64 (i : Int) ∧ OwT wr w.heap.size out (gonF S G i) ∧ Below w.heap.size w wr) (fun _ t _ => n - (intOf t).toNat)
  case atStart => exact ⟨0, by omega, rfl, by simpa [gonF] using O1.out, B1.out⟩
  case round =>
    obtain ⟨i, hi, rfl, ho, hB⟩ := hrel
    have hle := gonF_len S G i (by have := N.out; omega)
    have hasc := gonF_asc SA.out G i
    by_cases hin : i < n
    · have hl4 : decide ((i : Int) < (n : Int)) = true := decide_eq_true (by omega)
      have p0 : (0 : Int) ≤ (i : Int) := by omega
      have p1 : (i : Int) < (n : Int) := by omega
      have N' := N.out
      have hsn := gonF_succ (S := S) (G := G) (i := i) (by omega)
      obtain ⟨b1, o1, c1', hv1, -, -, hk1⟩ := su_cells SG.out (by omega)
      obtain ⟨rfl, -, -⟩ : ag = some ⟨b1, o1, none⟩ ∧ n = G.length ∧ cg = c1' := by simpa using hv1
      have f0 := (hB.cell (p := ⟨b1, o1 + i, none⟩) (block_lt_of_cell (hk1 i (by omega)))).trans (hk1 i (by omega))
      generalize G.getD i 0 = k at *
      have RD := Lib.hid (rdrop_any u7 (gonF S G i) k wr (owT_it ho) (by omega))
      rw [show dropL (gonF S G i) k = delL k (gonF S G i) by unfold dropL; rw [sort_asc hasc], ← hsn] at RD
      obtain ⟨ad, cd, rfl, -, -⟩ := owT_form ho
      generalize (gonF S G i).length = m at *
      have HB := Lib.hid hB
      clear hk1 hv1 N' ho hB hsn hasc hle
      go_wp2_with fail
      refine RD.out.mono ?_
      rintro e w2 ⟨⟨v2, rfl, ho2⟩, hb2⟩
      have O2 := Lib.hid (owT_base ho2 HB.out.size)
      have B2 := Lib.hid (bt HB.out hb2)
      obtain ⟨a2, c2, hv2, -, -⟩ := owT_form ho2
      obtain ⟨n2, hn2⟩ : ∃ q, q = (gonF S G (i + 1)).length := ⟨_, rfl⟩
      rw [← hn2] at hv2
      subst hv2
      clear ho2 hb2 hn2 RD HB f0
      go_wp2
      go_roundw
      case rel => exact ⟨i + 1, by omega, by go_num, O2.out, B2.out⟩
      case measure => simp [intOf]; omega
    · obtain rfl : i = n := by omega
      have hl4 : decide ((i : Int) < (i : Int)) = false := decide_eq_false (by omega)
      have RF2 := Lib.hid (RF.out wr hB)
      obtain ⟨ad, cd, rfl, -, -⟩ := owT_form ho
      obtain ⟨S2, hS2⟩ : ∃ q, q = gonF S G i := ⟨_, rfl⟩
      rw [← hS2] at ho hle hasc ⊢
      have HS2 := Lib.hid hS2
      clear hS2
      obtain ⟨m2, hm2⟩ : ∃ q, q = S2.length := ⟨_, rfl⟩
      rw [← hm2] at ho ⊢
      have HM2 := Lib.hid hm2
      have HLE2 : Hid (S2.length ≤ 500000) := by show _ ≤ _; omega
      have HASC2 := Lib.hid hasc
      have HO := Lib.hid ho
      have HB := Lib.hid hB
      clear ho hB hle hasc hm2 RF
      go_wp2_with fail
      refine RF2.out.mono ?_
      rintro e w3 ⟨⟨v3, rfl, ho3⟩, hb3⟩
      have O3 := Lib.hid (owT_it ho3)
      have HO3 := Lib.hid (owT_below HO.out hb3)
      have B3 := Lib.hid (bt HB.out hb3)
      obtain ⟨a3, c3, rfl, -, -⟩ := owT_form ho3
      obtain ⟨n3, hn3⟩ : ∃ n3, n3 = SF.length := ⟨_, rfl⟩
      rw [← hn3] at O3 hFl ⊢
      have N3 := Lib.hid hn3
      clear ho3 hb3 RF2 HO HB hn3
      go_wp2_with fail
      go_loopw [7, 9] (fun out t wr => ∃ j : Nat, j ≤ n3 ∧ t = .int .i64 (j : Int) ∧ OwT wr w.heap.size out (putA S2 SF j) ∧ Below w3.heap.size w3 wr) (fun _ t _ => n3 - (intOf t).toNat)
      case atStart => exact ⟨0, by omega, rfl, by simpa [putA, HM2.out] using HO3.out, Below.refl _ _⟩
      case round =>
        obtain ⟨j, hj, rfl, ho, hB⟩ := hrel
        have hle := putA_len S2 SF j (by have := N3.out; omega)
        have hasc := putA_asc HASC2.out SF j
        by_cases hjn : j < n3
        · have hl5 : decide ((j : Int) < (n3 : Int)) = true := decide_eq_true (by omega)
          have p0 : (0 : Int) ≤ (j : Int) := by omega
          have p1 : (j : Int) < (n3 : Int) := by omega
          have N' := N3.out
          have hsn := putA_succ (S := S2) (F := SF) (i := j) (by omega)
          obtain ⟨b1, o1, c1', hv1, -, -, hk1⟩ := it_cells O3.out (by omega)
          obtain ⟨rfl, -, -⟩ : a3 = some ⟨b1, o1, none⟩ ∧ n3 = SF.length ∧ c3 = c1' := by simpa using hv1
          obtain ⟨f0, f1, f2, f3⟩ := (hk1 j (by omega)).below hB
          have okx := getT_ok O3.out.1 j
          generalize SF.getD j z0 = x at *
          have RP := Lib.hid (rput_any u7 (putA S2 SF j) x okx wr (owT_it ho) (by have := HLE2.out; omega))
          rw [show putL (putA S2 SF j) x = insL x (putA S2 SF j) by unfold putL; rw [sort_asc hasc], ← hsn] at RP
          unfold TV at RP
          obtain ⟨ad, cd, rfl, -, -⟩ := owT_form ho
          generalize (putA S2 SF j).length = m at *
          have HB4 := Lib.hid hB
          clear hk1 hv1 N' ho hB hsn hasc hle okx
          go_wp2_with fail
          refine RP.out.mono ?_
          rintro e w4 ⟨⟨v4, rfl, ho4⟩, hb4⟩
          have O4 := Lib.hid (owT_base ho4 (Nat.le_trans B3.out.size HB4.out.size))
          have B4 := Lib.hid (bt HB4.out hb4)
          obtain ⟨a4, c4, hv4, -, -⟩ := owT_form ho4
          obtain ⟨n4, hn4⟩ : ∃ q, q = (putA S2 SF (j + 1)).length := ⟨_, rfl⟩
          rw [← hn4] at hv4
          subst hv4
          clear ho4 hb4 hn4 RP HB4 f0 f1 f2 f3
          go_wp2
          go_roundw
          case rel => exact ⟨j + 1, by omega, by go_num, O4.out, B4.out⟩
          case measure => simp [intOf]; omega
        · obtain rfl : j = n3 := by omega
          have hl5 : decide ((j : Int) < (j : Int)) = false := decide_eq_false (by omega)
          have HO5 := Lib.hid ho
          have HB5 := Lib.hid (bt B3.out hB)
          obtain ⟨a5, c5, rfl, -, -⟩ := owT_form ho
          generalize (putA S2 SF j).length = m at *
          clear ho hB hle hasc
          go_wp2
          go_ret
          exact ⟨⟨_, rfl, by rw [← HS2.out, ← N3.out]; exact HO5.out⟩, HB5.out⟩
end Go.Proofs.YtihjfnlimdcmkaaDoor.Gf
