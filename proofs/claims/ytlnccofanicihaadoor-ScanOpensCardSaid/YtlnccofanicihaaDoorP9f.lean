/- What is proved here: the contracts of the program's Items and Bytes (scan). Condition: lists of at most 1000 records. -/
import Derived.Test.YtlnccofanicihaaDoorP9e
import Derived.Test.YtlnccofanicihaaDoorJ8c
namespace Go.Proofs.YtlnccofanicihaaDoor.Gf
open Go Go.Joins Go.ChangeShapes Go.WideShapes Go.ChangeAt Go.RowKit Go.Deep Go.Sort Go.Maps Go.Proofs.YtlnccofanicihaaDoor.By Go.Proofs.YtlnccofanicihaaDoor.Crc Go.Proofs.YtlnccofanicihaaDoor.Qt

theorem su_nil9 (w : World) : Su w (.slice none 0 0) [] := ⟨by simp, none, 0, rfl, Nat.le_refl _, by simp, fun h => by simp at h⟩
set_option maxRecDepth 100000 in
set_option maxHeartbeats 6400000 in
theorem pitems_any (v : Value) (R : List Rc) (w : World) (s : Rs w v R) (hlen : R.length ≤ 1000) : Calls Tryd.prog 22 #[v] w (LI w (itemsL R)) := by
  have DV := Lib.hid (pdivide_any v R w s (by omega))
  unfold DVO at DV
  have HM := merge_divF R
  have hl := divF_length R R.length
  obtain ⟨L, hL⟩ : ∃ L, L = (divF R R.length).1 := ⟨_, rfl⟩
  rw [← hL] at DV HM hl
  obtain ⟨D, hD⟩ : ∃ D, D = itemsL R := ⟨_, rfl⟩
  rw [← hD] at HM ⊢
  have HM := Lib.hid HM
  obtain ⟨al, cl, rfl, -, -⟩ := rs_form s
  have hL1 : L.length ≤ 1000 := by omega
  obtain ⟨n1, hn1⟩ : ∃ n, n = L.length := ⟨_, rfl⟩
  rw [← hn1] at hL1
  have N1 := Lib.hid hn1
  generalize R.length = n at *
  unfold LI
  clear s hL hD hl hlen hn1
  go_enter Tryd.func22, Tryd.ntmps22
  go_wp2_with fail
  refine DV.out.mono ?_
  rintro e w1 ⟨⟨u1, u2, rfl, ho1, ho2⟩, hb1⟩
  have RL := Lib.hid (owR_rs ho1)
  have B1 := Lib.hid hb1
  obtain ⟨a1, c1, rfl, -, -⟩ := owR_form ho1
  obtain ⟨a2, c2, rfl, -, -⟩ := owR_form ho2
  generalize (divF R n).2.length = n2 at *
  rw [← N1.out] at RL ⊢
  clear ho1 ho2 hb1 DV
  have O3 := Lib.hid (owT_made0 w1 (base := w1.heap.size) (m := n1) (Nat.le_refl _) (by unfold maxLen; omega))
  have B3 := Lib.hid (bel_al w1 (.cells (madeCells (TV z0).cells (n1 * 4)) 66))
  go_wp2_with (refine make0T_step (dst := some 15) (m := n1) ?_ (by omega) ?_; exact rfl; generalize w1.alloc (.cells (madeCells (TV z0).cells (n1 * 4)) 66) = W4 at *)
  have OB := Lib.hid (Nat.le_refl w1.heap.size)
  go_loopw [5, 18] (fun out t wr => ∃ i : Nat, i ≤ n1 ∧ t = .int .i64 (i : Int) ∧ Hid (OwT wr w1.heap.size out ((L.take i).map itmOf)) ∧ Hid (Below w1.heap.size w1 wr)) (fun _ t _ => n1 - (intOf t).toNat)
  case atStart => exact ⟨0, by omega, rfl, O3, B3⟩
  case round =>
    clear O3 B3
    obtain ⟨i, hi, rfl, HO, HB⟩ := hrel
    by_cases hin : i < n1
    · have hl4 : decide ((i : Int) < (n1 : Int)) = true := decide_eq_true (by omega)
      have p0 : (0 : Int) ≤ (i : Int) := by omega
      have p1 : (i : Int) < (n1 : Int) := by omega
      have N' := N1.out
      obtain ⟨b1, o1, c1', hv1, -, -, hk1⟩ := rs_cells RL.out (by omega)
      obtain ⟨rfl, -, -⟩ : a1 = some ⟨b1, o1, none⟩ ∧ n1 = L.length ∧ c1 = c1' := by simpa using hv1
      obtain ⟨d, C0⟩ := hk1 i (by omega)
      obtain ⟨f0, f1, f2, f3, f4, okr, sd⟩ := C0.below HB.out
      have hs2 : (L.take (i + 1)).map itmOf = (L.take i).map itmOf ++ [itmOf (L.getD i rc0)] := by rw [take_snocR (by omega), List.map_append]; rfl
      have hle : ((L.take i).map itmOf).length ≤ 1000 := by rw [List.length_map, List.length_take]; omega
      generalize (L.take i).map itmOf = E at *
      generalize L.getD i rc0 = r at *
      obtain ⟨ad, cd, rfl, hnc, hcm⟩ := sl_form sd
      have PI := Lib.hid (fun W => pitem9_any r ad r.x.data.length cd W rfl)
      rw [show TV (itmOf r) = .agg #[.int .u64 (r.x.key : Int), .int .u32 (r.x.cookie : Int), .int .i64 r.off, .int .i64 ((r.x.data.length : Nat) : Int)] from rfl] at PI
      unfold RVv at PI
      rw [show itmOf r = ⟨r.x.key, r.x.cookie, r.off, ((r.x.data.length : Nat) : Int)⟩ from rfl] at hs2
      have hok : ItOk ⟨r.x.key, r.x.cookie, r.off, ((r.x.data.length : Nat) : Int)⟩ := ⟨okr.key, okr.ck, okr.off, by unfold maxLen at hcm; show J64 ((r.x.data.length : Nat) : Int); unfold J64; omega⟩
      generalize r.x.data.length = nd at *
      have HOK := Lib.hid hok
      have HS := Lib.hid hs2
      have HLE : Hid (E.length + [(⟨r.x.key, r.x.cookie, r.off, (nd : Int)⟩ : Itm)].length ≤ 100000000) := Lib.hid (by simp; omega)
      obtain ⟨ao, co, rfl, -, -⟩ := owT_form HO.out
      obtain ⟨m, hm⟩ : ∃ m, m = E.length := ⟨_, rfl⟩
      rw [← hm] at HO ⊢
      clear C0 hk1 hv1 N' sd okr hs2 hle hnc hcm hok hm
      have HA := Lib.hid (bel_al wr (.cells #[.int .i64 r.off, .int .u64 (r.x.key : Int), .int .u32 (r.x.cookie : Int), .bool r.x.del, .slice ad nd cd] 61))
      go_wp2_with fail
      refine (PI.out _).mono ?_
      rintro e w2 ⟨rfl, hb2⟩
      have HW2 := Lib.hid (bt HA.out hb2)
      have HN := Lib.hid (heap_alloc_new w2 (.cells #[.int .u64 (r.x.key : Int), .int .u32 (r.x.cookie : Int), .int .i64 r.off, .int .i64 (nd : Int)] 66))
      have HA2 := Lib.hid (bt HW2.out (bel_al w2 (.cells #[.int .u64 (r.x.key : Int), .int .u32 (r.x.cookie : Int), .int .i64 r.off, .int .i64 (nd : Int)] 66)))
      have OT2 := Lib.hid (owT_below HO.out HA2.out)
      have BA2 := Lib.hid (bt HB.out HA2.out)
      clear hb2
      go_wp2_with (at_builtin; refine app_it (dst := some 26) ?_ ?_ OT2.out (it_one HOK.out HN.out) HLE.out BA2.out.size ?_; exact rfl; exact rfl; intro v7 w7 ho7 hg7; have O7 := Lib.hid ho7; have B7 := Lib.hid (below_grownT BA2.out hg7 OT2.out BA2.out.size (Nat.le_refl _)); clear ho7 hg7)
      go_roundw
      case rel => exact ⟨i + 1, by omega, by go_num, by show OwT _ _ _ _; rw [HS.out]; exact O7.out, B7⟩
      case measure => simp [intOf]; omega
    · obtain rfl : i = n1 := by omega
      have hl4 : decide ((i : Int) < (i : Int)) = false := decide_eq_false (by omega)
      have ht : L.take i = L := List.take_of_length_le (by rw [N1.out]; exact Nat.le_refl _)
      rw [ht] at HO
      have PM := Lib.hid (pmerge8_any (.slice none 0 0) _ (.slice none 0 0) [] (L.map itmOf) [] wr (it_nil _) (owT_it HO.out) (su_nil9 _) (by simp) (by rw [List.length_map, ← N1.out]; omega) (by simp))
      rw [HM.out] at PM
      unfold LI at PM
      obtain ⟨ao, co, rfl, -, -⟩ := owT_form HO.out
      generalize (L.map itmOf).length = m at *
      clear ht
      go_wp2_with fail
      refine PM.out.mono ?_
      rintro e w3 ⟨⟨v3, rfl, hi3⟩, hb3⟩
      have I3 := Lib.hid hi3
      have B3 := Lib.hid (bt (bt B1.out HB.out) hb3)
      obtain ⟨a3, c3, rfl, -, -⟩ := it_form hi3
      generalize D.length = nd at *
      clear hi3 hb3 PM
      go_wp2
      go_ret
      exact ⟨⟨_, rfl, I3.out⟩, B3.out⟩
set_option maxRecDepth 100000 in
set_option maxHeartbeats 6400000 in
theorem pbytes_any (v : Value) (R : List Rc) (w : World) (s : Rs w v R) (hlen : R.length ≤ 1000) : Calls Tryd.prog 18 #[v] w (BO w R) := by
  have DV := Lib.hid (pdivide_any v R w s (by omega))
  unfold DVO at DV
  have HV := live_divF R
  have HW := others_divF R
  have hl := divF_length R R.length
  obtain ⟨L, hL⟩ : ∃ L, L = (divF R R.length).1 := ⟨_, rfl⟩
  obtain ⟨M, hM⟩ : ∃ M, M = (divF R R.length).2 := ⟨_, rfl⟩
  rw [← hL] at DV HV hl
  rw [← hM] at DV HW hl
  have h1 : L.length ≤ 1000 := by omega
  have h2 : M.length ≤ 1000 := by omega
  have PL := Lib.hid (fun u W (h : Rs W u L) => plength9_any u L W h (by omega))
  have PM := Lib.hid (fun u W (h : Rs W u M) => plength9_any u M W h (by omega))
  unfold BO
  rw [← HW, ← HV]
  generalize allL L = q1 at *
  generalize allL M = q2 at *
  obtain ⟨al, cl, rfl, -, -⟩ := rs_form s
  generalize R.length = n at *
  clear s hL hM hl hlen HV HW h1 h2
  go_enter Tryd.func18, Tryd.ntmps18
  go_wp2_with fail
  refine DV.out.mono ?_
  rintro e w1 ⟨⟨u1, u2, rfl, ho1, ho2⟩, hb1⟩
  have R1 := Lib.hid (owR_rs ho1)
  have R2 := Lib.hid (owR_rs ho2)
  have B1 := Lib.hid hb1
  obtain ⟨a1, c1, rfl, -, -⟩ := owR_form ho1
  obtain ⟨a2, c2, rfl, -, -⟩ := owR_form ho2
  generalize L.length = n1 at *
  generalize M.length = n2 at *
  clear ho1 ho2 hb1 DV
  go_wp2_with fail
  refine (PL.out _ _ R1.out).mono ?_
  rintro e w2 ⟨rfl, hb2⟩
  have B2 := Lib.hid (bt B1.out hb2)
  have R3 := Lib.hid (rs_below R2.out hb2)
  clear hb2
  go_wp2_with fail
  refine (PM.out _ _ R3.out).mono ?_
  rintro e w3 ⟨rfl, hb3⟩
  have B3 := Lib.hid (bt B2.out hb3)
  clear hb3
  go_wp2
  go_ret2
  exact ⟨rfl, B3.out⟩
end Go.Proofs.YtlnccofanicihaaDoor.Gf
