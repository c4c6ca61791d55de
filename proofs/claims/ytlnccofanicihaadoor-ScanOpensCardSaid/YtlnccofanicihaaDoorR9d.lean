/- What is proved here: the reference's Bytes. No condition. -/
import Derived.Test.YtlnccofanicihaaDoorR9c
namespace Go.Proofs.YtlnccofanicihaaDoor.Gf
open Go Go.Joins Go.ChangeShapes Go.WideShapes Go.ChangeAt Go.RowKit Go.Deep Go.Proofs.YtlnccofanicihaaDoor.By Go.Proofs.YtlnccofanicihaaDoor.Crc Go.Proofs.YtlnccofanicihaaDoor.Qt

/-- A call that answers the bytes of records. -/
def BO (w : World) (R : List Rc) (e : Ending) (w' : World) : Prop := e = .returned (.tuple #[.int .i64 (liveL (itemsL R)), .int .i64 (allL R - liveL (itemsL R))]) ∧ Below w.heap.size w w'
set_option maxRecDepth 100000 in
set_option maxHeartbeats 6400000 in
theorem rbytes_any (v : Value) (R : List Rc) (w : World) (s : Rs w v R) (hlen : R.length ≤ 100000) : Calls Tryd.prog 20 #[v] w (BO w R) := by
  have RI := Lib.hid (ritems_any v R w s hlen)
  obtain ⟨al, cl, hv, -, -⟩ := rs_form s
  obtain ⟨n, hn⟩ : ∃ n, n = R.length := ⟨_, rfl⟩
  rw [← hn] at hv hlen
  subst hv
  have S := Lib.hid s
  have N := Lib.hid hn
  have HML := Lib.hid (length_itemsL R)
  have LV0 := Lib.hid (liveL_ge (itemsL R))
  have LV1 := Lib.hid (live_le R)
  have LV2 := Lib.hid (allL_bound R)
  clear s hn
  go_enter Tryd.func20, Tryd.ntmps20
  go_wp2_with fail
  refine RI.out.mono ?_
  rintro e w1 ⟨⟨v1, rfl, ho1⟩, hb1⟩
  obtain ⟨a1, c1, rfl, -, -⟩ := owT_form ho1
  have hml := HML.out
  have hn := N.out
  have BD := Lib.hid (fun D (_ : D = itemsL R) => liveL_bound D)
  obtain ⟨D, hD⟩ : ∃ D, D = itemsL R := ⟨_, rfl⟩
  rw [← hD] at ho1 hml LV0 LV1 ⊢
  obtain ⟨m, hm⟩ : ∃ m, m = D.length := ⟨_, rfl⟩
  rw [← hm] at ho1 hml ⊢
  have hml2 : m ≤ 100000 := by omega
  have O1 := Lib.hid ho1
  have B1 := Lib.hid hb1
  have HD := Lib.hid hD
  have HM := Lib.hid hm
  clear ho1 hb1 hD hm hml hn BD RI HML
  go_wp2_with fail
  go_loopw [4, 7] (fun f t wr => ∃ i : Nat, i ≤ m ∧ t = .int .i64 (i : Int) ∧ f = .int .i64 (liveL (D.take i)) ∧ wr = w1) (fun _ t _ => m - (intOf t).toNat)
  case atStart => exact ⟨0, by omega, rfl, by simp [liveL], rfl⟩
  case round =>
    obtain ⟨i, hi, rfl, rfl, rfl⟩ := hrel
    by_cases hin : i < m
    · have hl4 : decide ((i : Int) < (m : Int)) = true := decide_eq_true (by omega)
      have p0 : (0 : Int) ≤ (i : Int) := by omega
      have p1 : (i : Int) < (m : Int) := by omega
      have M' := HM.out
      obtain ⟨b1, o1, c1', hv1, -, -, hk1⟩ := it_cells (owT_it O1.out) (by omega)
      obtain ⟨rfl, -, -⟩ : a1 = some ⟨b1, o1, none⟩ ∧ m = D.length ∧ c1 = c1' := by simpa using hv1
      obtain ⟨f0, f1, f2, f3⟩ := hk1 i (by omega)
      have okx := getT_ok O1.out.1 i
      have hs : liveL (D.take (i + 1)) = liveL (D.take i) + szI6 (D.getD i z0).sz := by rw [take_snocT (by omega), liveL_snoc]; rfl
      have hb0 := liveL_ge (D.take i)
      have hb1 := liveL_bound (D.take i)
      rw [List.length_take, show min i D.length = i by omega] at hb1
      have hg0 := szW_ge (D.getD i z0).sz
      have hg1 := szW_le (D.getD i z0).sz
      have SZ := Lib.hid (rsize6_any (D.getD i z0).sz wr okx.sz)
      rw [show szI6 (D.getD i z0).sz = szW (D.getD i z0).sz from rfl] at hs SZ
      generalize szW (D.getD i z0).sz = G at *
      obtain ⟨H, hH⟩ : ∃ H, H = liveL (D.take (i + 1)) := ⟨_, rfl⟩
      rw [← hH] at hs
      generalize liveL (D.take i) = F at *
      generalize D.getD i z0 = x at *
      have HW : Hid (wrap64 (F + G) = H) := Lib.hid (by unfold wrap64; omega)
      have HH := Lib.hid hH
      clear hs hb0 hb1 hg0 hg1 hH hk1 hv1 M' okx
      go_wp2_with fail
      refine SZ.out.mono ?_
      rintro e w2 ⟨rfl, rfl⟩
      go_wp2
      go_roundw
      case rel => exact ⟨i + 1, by omega, by go_num, by rw [HW.out, ← HH.out], trivial⟩
      case measure => simp [intOf]; omega
    · obtain rfl : i = m := by omega
      have hl4 : decide ((i : Int) < (i : Int)) = false := decide_eq_false (by omega)
      rw [List.take_of_length_le (by have := HM.out; omega)]
      obtain ⟨F, hF⟩ : ∃ F, F = liveL D := ⟨_, rfl⟩
      rw [← hF] at LV0 LV1 ⊢
      have HF := Lib.hid hF
      clear hF
      go_wp2
      go_loopw [5, 8] (fun f t w8 => ∃ i : Nat, i ≤ n ∧ t = .int .i64 (i : Int) ∧ f = .int .i64 (allL (R.take i)) ∧ w8 = wr) (fun _ t _ => n - (intOf t).toNat)
      case atStart => exact ⟨0, by omega, rfl, by simp [allL], rfl⟩
      case round =>
        obtain ⟨k, hk, rfl, rfl, rfl⟩ := hrel
        by_cases hkn : k < n
        · have hl5 : decide ((k : Int) < (n : Int)) = true := decide_eq_true (by omega)
          have q0 : (0 : Int) ≤ (k : Int) := by omega
          have q1 : (k : Int) < (n : Int) := by omega
          have N' := N.out
          obtain ⟨b2, o2, c2', hv2, -, -, hk2⟩ := rs_cells S.out (by omega)
          obtain ⟨rfl, -, -⟩ : al = some ⟨b2, o2, none⟩ ∧ n = R.length ∧ cl = c2' := by simpa using hv2
          obtain ⟨d, C0⟩ := hk2 k (by omega)
          obtain ⟨f0, f1, f2, f3, f4, okr, sd⟩ := C0.below B1.out
          obtain ⟨ad, cd, rfl, hnc, hcm⟩ := sl_form sd
          have hs : allL (R.take (k + 1)) = allL (R.take k) + szW (((R.getD k rc0).x.data.length : Nat) : Int) := by rw [take_snocR (by omega), allL_snoc]
          have hb0 := allL_ge (R.take k)
          have hb1 := allL_bound (R.take k)
          rw [List.length_take, show min k R.length = k by omega] at hb1
          have hg0 := szW_ge (((R.getD k rc0).x.data.length : Nat) : Int)
          have hg1 := szW_le (((R.getD k rc0).x.data.length : Nat) : Int)
          have SZ := Lib.hid (rsize6_any (((R.getD k rc0).x.data.length : Nat) : Int) wr (by unfold maxLen at hcm; unfold I64b; omega))
          rw [show szI6 (((R.getD k rc0).x.data.length : Nat) : Int) = szW (((R.getD k rc0).x.data.length : Nat) : Int) from rfl] at SZ
          generalize szW (((R.getD k rc0).x.data.length : Nat) : Int) = G at *
          obtain ⟨H, hH⟩ : ∃ H, H = allL (R.take (k + 1)) := ⟨_, rfl⟩
          rw [← hH] at hs
          generalize allL (R.take k) = E at *
          generalize R.getD k rc0 = r at *
          have HW : Hid (wrap64 (E + G) = H) := Lib.hid (by unfold wrap64; omega)
          have HH := Lib.hid hH
          generalize r.x.data.length = nd at *
          clear hs hb0 hb1 hg0 hg1 hH hk2 hv2 N' okr sd hnc hcm C0
          go_wp2_with fail
          refine SZ.out.mono ?_
          rintro e w2 ⟨rfl, rfl⟩
          go_wp2
          go_roundw
          case rel => exact ⟨k + 1, by omega, by go_num, by rw [HW.out, ← HH.out], trivial⟩
          case measure => simp [intOf]; omega
        · obtain rfl : k = n := by omega
          have hl5 : decide ((k : Int) < (k : Int)) = false := decide_eq_false (by omega)
          rw [List.take_of_length_le (by have := N.out; omega)]
          have HW : Hid (wrap64 (allL R - F) = allL R - F) := Lib.hid (by have h0 := LV0.out; have h1 := LV1.out; have h2 := LV2.out; have h3 := N.out; unfold wrap64; omega)
          obtain ⟨E, hE⟩ : ∃ E, E = allL R := ⟨_, rfl⟩
          rw [← hE] at HW ⊢
          have HE := Lib.hid hE
          clear hE
          go_wp2
          go_ret2
          unfold BO
          rw [← HD.out, ← HE.out, ← HF.out]
          exact ⟨(show _ = Ending.returned (Value.tuple #[.int .i64 F, .int .i64 (wrap64 (E - F))]) from rfl).trans (by rw [HW.out]), B1.out⟩
end Go.Proofs.YtlnccofanicihaaDoor.Gf
