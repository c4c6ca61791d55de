/- What is proved here: the contracts of the program's item and length (scan). Condition: for length a list of at most 1000 records. -/
import Derived.Test.YtlnccofanicihaaDoorR9d
import Derived.Test.YtlnccofanicihaaDoorJ6
import Derived.Test.YtlnccofanicihaaDoorM9d
namespace Go.Proofs.YtlnccofanicihaaDoor.Gf
open Go Go.Joins Go.ChangeShapes Go.WideShapes Go.ChangeAt Go.RowKit Go.Deep Go.Sort Go.Proofs.YtlnccofanicihaaDoor.By Go.Proofs.YtlnccofanicihaaDoor.Crc Go.Proofs.YtlnccofanicihaaDoor.Qt

/-- A record as a value. -/
def RVv (r : Rc) (d : Value) : Value := .agg #[.int .i64 r.off, .int .u64 (r.x.key : Int), .int .u32 (r.x.cookie : Int), .bool r.x.del, d]
set_option maxRecDepth 100000 in
theorem pitem9_any (r : Rc) (ad : Option Addr) (nd cd : Nat) (w : World) (h : nd = r.x.data.length) : Calls Tryd.prog 36 #[RVv r (.slice ad nd cd)] w fun e w' => e = .returned (TV (itmOf r)) ∧ Below w.heap.size w w' := by
  rw [show TV (itmOf r) = .agg #[.int .u64 (r.x.key : Int), .int .u32 (r.x.cookie : Int), .int .i64 r.off, .int .i64 (nd : Int)] by rw [h]; rfl]
  unfold RVv
  obtain ⟨off, ⟨key, ck, del, data⟩⟩ := r
  dsimp only
  clear h
  go_enter Tryd.func36, Tryd.ntmps36
  go_wp2
  exact bodyPost_ret (results_cell_row Tryd.results36 _ _ (w.heap.size + 1) 66 _ (0, 0) _ rfl (heap_alloc2_new _ _ _) Tryd.underlying66 rfl infoT4) rfl ⟨rfl, b2' _ _ _⟩
theorem szI_szW (n : Nat) : szI6 (n : Int) = szW (n : Int) := by
  unfold szI6 szW
  rfl
set_option maxRecDepth 100000 in
set_option maxHeartbeats 6400000 in
theorem plength9_any (v : Value) (R : List Rc) (w : World) (s : Rs w v R) (hlen : R.length ≤ 100000) : Calls Tryd.prog 34 #[v] w fun e w' => e = .returned (.int .i64 (allL R)) ∧ Below w.heap.size w w' := by
  obtain ⟨al, cl, hv, -, -⟩ := rs_form s
  obtain ⟨n, hn⟩ : ∃ n, n = R.length := ⟨_, rfl⟩
  rw [← hn] at hv hlen
  subst hv
  have S := Lib.hid s
  have N := Lib.hid hn
  clear s hn
  go_enter Tryd.func34, Tryd.ntmps34
  go_wp2_with fail
  go_loopw [3, 8] (fun out t wr => ∃ i : Nat, i ≤ n ∧ t = .int .i64 (i : Int) ∧ out = .int .i64 (allL (R.take i)) ∧ Below w.heap.size w wr) (fun _ t _ => n - (intOf t).toNat)
  case atStart => exact ⟨0, by omega, rfl, rfl, Below.refl _ _⟩
  case round =>
    obtain ⟨i, hi, rfl, rfl, hB⟩ := hrel
    by_cases hin : i < n
    · have hl4 : decide ((i : Int) < (n : Int)) = true := decide_eq_true (by omega)
      have p0 : (0 : Int) ≤ (i : Int) := by omega
      have p1 : (i : Int) < (n : Int) := by omega
      have N' := N.out
      obtain ⟨b1, o1, c1', hv1, -, -, hk1⟩ := rs_cells S.out (by omega)
      obtain ⟨rfl, -, -⟩ : al = some ⟨b1, o1, none⟩ ∧ n = R.length ∧ cl = c1' := by simpa using hv1
      obtain ⟨d, C0⟩ := hk1 i (by omega)
      obtain ⟨f0, f1, f2, f3, f4, okr, sd⟩ := C0.below hB
      have hs2 := allL_take (R := R) (n := i) (by omega)
      have hb1 := allL_bound (R.take (i + 1))
      have hb0 := allL_bound (R.take i)
      have hb2 := allL_ge (R.take (i + 1))
      have hb3 := allL_ge (R.take i)
      rw [List.length_take] at hb1 hb0
      have q1 : -9223372036854775808 ≤ allL (R.take (i + 1)) ∧ allL (R.take (i + 1)) ≤ 9223372036854775807 := by omega
      generalize R.getD i rc0 = r at *
      obtain ⟨ad, cd, rfl, hnc, hcm⟩ := sl_form sd
      obtain ⟨nd, hnd⟩ : ∃ z, z = r.x.data.length := ⟨_, rfl⟩
      rw [← hnd] at f4 hs2 hnc
      rw [hs2] at q1
      have PS := Lib.hid (fun W => psize_any (nd : Int) W (by unfold I64b; unfold maxLen at hcm; omega))
      rw [szI_szW] at PS
      generalize szW (nd : Int) = z at *
      have HS := Lib.hid hs2
      generalize allL (R.take i) = q at *
      have hw : wrap64 (q + z) = q + z := by unfold wrap64; omega
      have HW := Lib.hid hw
      have HB := Lib.hid hB
      clear C0 hk1 hv1 N' sd okr hs2 hb1 hb0 hb2 hb3 q1 hw hB hnd hnc hcm
      go_wp2_with fail
      refine (PS.out _).mono ?_
      rintro e w2 ⟨rfl, rfl⟩
      have ha := (Below.refl wr.heap.size wr).alloc (Nat.le_refl _) (.cells #[.int .i64 r.off, .int .u64 (r.x.key : Int), .int .u32 (r.x.cookie : Int), .bool r.x.del, .slice ad nd cd] 61)
      go_wp2
      go_roundw
      case rel => exact ⟨i + 1, by omega, by go_num, by rw [HS.out, HW.out], bt HB.out ha⟩
      case measure => simp [intOf]; omega
    · obtain rfl : i = n := by omega
      have hl4 : decide ((i : Int) < (i : Int)) = false := decide_eq_false (by omega)
      have ht : R.take i = R := List.take_of_length_le (by rw [N.out]; exact Nat.le_refl _)
      rw [ht]
      obtain ⟨q, hq⟩ : ∃ q, q = allL R := ⟨_, rfl⟩
      rw [← hq]
      have HQ := Lib.hid hq
      clear ht hq
      have HB := Lib.hid hB
      clear hB
      go_wp2
      go_ret
      exact ⟨by rw [← HQ.out]; rfl, HB.out⟩
end Go.Proofs.YtlnccofanicihaaDoor.Gf
