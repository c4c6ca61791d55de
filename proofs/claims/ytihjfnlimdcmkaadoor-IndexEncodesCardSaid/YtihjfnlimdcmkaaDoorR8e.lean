/- What is proved here: the contracts of the reference's Put, Drop and Merge (layer 8). Condition: lists of at most 900000 items. -/
import Derived.Test.YtihjfnlimdcmkaaDoorR8d
namespace Go.Proofs.YtihjfnlimdcmkaaDoor.Gf
open Go Go.Joins Go.ChangeShapes Go.WideShapes Go.ChangeAt Go.RowKit Go.Deep Go.Proofs.YtihjfnlimdcmkaaDoor.By Go.Proofs.YtihjfnlimdcmkaaDoor.Qt

/-- A call that answers a list of its own. -/
def LO (w : World) (L : List Itm) (e : Ending) (w' : World) : Prop := (∃ v, e = .returned v ∧ OwT w' w.heap.size v L) ∧ Below w.heap.size w w'
theorem delL_snoc (k : Nat) (S : List Itm) (x : Itm) : delL k (S ++ [x]) = if x.key = k then delL k S else delL k S ++ [x] := by
  unfold delL
  rw [List.filter_append]
  by_cases h : x.key = k <;> simp [h]
theorem length_delL (k : Nat) (S : List Itm) : (delL k S).length ≤ S.length := List.length_filter_le _ _
set_option maxRecDepth 100000 in
set_option maxHeartbeats 6400000 in
theorem rdrop_any (v : Value) (L : List Itm) (k : Nat) (w : World) (s : It w v L) (hlen : L.length ≤ 1000000) : Calls Tryd.prog 25 #[v, .int .u64 (k : Int)] w (LO w (dropL L k)) := by
  unfold LO dropL
  have RS := Lib.hid (rsorted_any v L w s hlen)
  have hSl : (sortL L).length ≤ 1000000 := Nat.le_trans (length_sortL L) hlen
  obtain ⟨al, cl, rfl, -, -⟩ := it_form s
  generalize L.length = n0 at *
  generalize sortL L = S at *
  clear s hlen
  go_enter Tryd.func25, Tryd.ntmps25
  go_wp2_with fail
  refine RS.out.mono ?_
  rintro e w1 ⟨⟨v1, rfl, ho1⟩, hb1⟩
  obtain ⟨a1, c1, rfl, -, -⟩ := owT_form ho1
  obtain ⟨n, hn⟩ : ∃ n, n = S.length := ⟨_, rfl⟩
  rw [← hn] at ho1 hSl ⊢
  have N := Lib.hid hn
  have O1 := Lib.hid ho1
  have B1 := Lib.hid hb1
  clear ho1 hb1 hn RS
  go_wp2_with fail
  go_loopw [5, 6] (fun out t wr => ∃ i : Nat, i ≤ n ∧ t = .int .i64 (i : Int) ∧ OwT wr w1.heap.size out (delL k (S.take i)) ∧ Below w1.heap.size w1 wr) (fun _ t _ => n - (intOf t).toNat)
  case atStart => exact ⟨0, by omega, rfl, owT_nil _ _, Below.refl _ _⟩
  case round =>
    obtain ⟨i, hi, rfl, ho, hB⟩ := hrel
    by_cases hin : i < n
    · have hl4 : decide ((i : Int) < (n : Int)) = true := decide_eq_true (by omega)
      have p0 : (0 : Int) ≤ (i : Int) := by omega
      have p1 : (i : Int) < (n : Int) := by omega
      have N' := N.out
      have hsn : delL k (S.take (i + 1)) = if (S.getD i z0).key = k then delL k (S.take i) else delL k (S.take i) ++ [S.getD i z0] := by rw [take_snocT (by omega), delL_snoc]
      have hle : (delL k (S.take i)).length ≤ 1000000 := Nat.le_trans (length_delL _ _) (by rw [List.length_take]; omega)
      obtain ⟨b1, o1, c1', hv1, -, -, hk1⟩ := it_cells (owT_it O1.out) (by omega)
      obtain ⟨rfl, -, -⟩ : a1 = some ⟨b1, o1, none⟩ ∧ n = S.length ∧ c1 = c1' := by simpa using hv1
      obtain ⟨f0, f1, f2, f3⟩ := (hk1 i (by omega)).below hB
      have OKX := Lib.hid (getT_ok O1.out.1 i)
      generalize delL k (S.take i) = D at *
      generalize S.getD i z0 = x at *
      obtain ⟨ao, co, rfl, -, -⟩ := owT_form ho
      obtain ⟨m, hm⟩ : ∃ m, m = D.length := ⟨_, rfl⟩
      rw [← hm] at ho hle ⊢
      have HO := Lib.hid ho
      have HB := Lib.hid hB
      have HM := Lib.hid hm
      have HLE := Lib.hid hle
      clear hk1 hv1 N' ho hB hm hle
      by_cases hx : x.key = k
      · have d1 : ((x.key : Int) != (k : Int)) = false := by simp; omega
        have d2 : x.key = k := hx
        rw [if_pos hx] at hsn
        have HS := Lib.hid hsn
        clear hsn hx
        go_wp2
        go_roundw
        case rel => exact ⟨i + 1, by omega, by go_num, by rw [HS.out]; exact HO.out, HB.out⟩
        case measure => simp [intOf]; omega
      · have d1 : ((x.key : Int) != (k : Int)) = true := by rw [bne_iff_ne]; omega
        have d2 : ¬ x.key = k := hx
        rw [if_neg hx] at hsn
        have HS := Lib.hid hsn
        have HL : Hid (D.length + [x].length ≤ 100000000) := by show _ ≤ _; have := HM.out; have := HLE.out; simp; omega
        have HA := Lib.hid (bel_al wr (.cells #[.int .u64 (x.key : Int), .int .u32 (x.ck : Int), .int .i64 x.off, .int .i64 x.sz] 41))
        have HX := Lib.hid (it_one OKX.out (heap_alloc_new wr (.cells #[.int .u64 (x.key : Int), .int .u32 (x.ck : Int), .int .i64 x.off, .int .i64 x.sz] 41)))
        clear hsn hx
        go_wp2_with (at_builtin; refine app_it (dst := some 28) ?_ ?_ (owT_below HO.out HA.out) HX.out HL.out (by have h1 := HB.out.size; have h2 := HA.out.size; omega) ?_; exact rfl; exact rfl; intro v5 w5 ho5 hg5; have B5 := Lib.hid (below_grownT (bt HB.out HA.out) hg5 (owT_below HO.out HA.out) (by have h1 := HB.out.size; have h2 := HA.out.size; omega) (Nat.le_refl _)); have HO5 := Lib.hid ho5; obtain ⟨a5, c5, hv5, -, -⟩ := owT_form ho5; obtain ⟨n5, hn5⟩ : ∃ q, q = (D ++ [x]).length := ⟨_, rfl⟩; rw [← hn5] at hv5; subst hv5; clear ho5 hg5 hn5)
        go_roundw
        case rel => exact ⟨i + 1, by omega, by go_num, by rw [HS.out]; exact HO5.out, B5.out⟩
        case measure => simp [intOf]; omega
    · obtain rfl : i = n := by omega
      have hl4 : decide ((i : Int) < (i : Int)) = false := decide_eq_false (by omega)
      rw [List.take_of_length_le (by have := N.out; omega)] at ho
      have HO := Lib.hid ho
      obtain ⟨ao, co, rfl, -, -⟩ := owT_form ho
      generalize (delL k S).length = m at *
      have HB := Lib.hid hB
      clear ho hB
      go_wp2
      go_ret
      exact ⟨⟨_, rfl, owT_base HO.out B1.out.size⟩, bt B1.out HB.out⟩
end Go.Proofs.YtihjfnlimdcmkaaDoor.Gf
