/- What is proved here: the contracts of the reference's Put and Merge (layer 8). Condition: lists of at most 900000 items. -/
import Derived.Test.YtihjfnlimdcmkaaDoorR8e
namespace Go.Proofs.YtihjfnlimdcmkaaDoor.Gf
open Go Go.Joins Go.ChangeShapes Go.WideShapes Go.ChangeAt Go.RowKit Go.Deep Go.Proofs.YtihjfnlimdcmkaaDoor.By Go.Proofs.YtihjfnlimdcmkaaDoor.Qt

def foT (x : Itm) (S : List Itm) (i : Nat) : List Itm × Bool := (S.take i).foldl (stp x) ([], false)
theorem foT_succ {x : Itm} {S : List Itm} {i : Nat} (h : i < S.length) : foT x S (i + 1) = stp x (foT x S i) (S.getD i z0) := by
  unfold foT
  rw [take_snocT h, List.foldl_append, List.foldl_cons, List.foldl_nil]
theorem foT_all {x : Itm} {S : List Itm} {i : Nat} (h : S.length ≤ i) : (if (foT x S i).2 then (foT x S i).1 else (foT x S i).1 ++ [x]) = putF x S := by
  unfold foT
  rw [List.take_of_length_le h]
  rfl
theorem stp_len (x : Itm) (s : List Itm × Bool) (y : Itm) : (stp x s y).1.length ≤ s.1.length + 2 := by
  unfold stp
  dsimp only
  split <;> split <;> simp
theorem foT_len (x : Itm) (S : List Itm) : ∀ i, i ≤ S.length → (foT x S i).1.length ≤ 2 * i
  | 0, _ => by simp [foT]
  | i + 1, h => by
    have h1 := foT_len x S i (by omega)
    rw [foT_succ (by omega)]
    have := stp_len x (foT x S i) (S.getD i z0)
    omega
set_option maxRecDepth 100000 in
set_option maxHeartbeats 12800000 in
theorem rput_any (v : Value) (L : List Itm) (x : Itm) (okx : ItOk x) (w : World) (s : It w v L) (hlen : L.length ≤ 1000000) : Calls Tryd.prog 27 #[v, TV x] w (LO w (putL L x)) := by
  unfold LO putL
  have HB0 := Lib.hid (bel_al w (.cells #[.int .u64 (x.key : Int), .int .u32 (x.ck : Int), .int .i64 x.off, .int .i64 x.sz] 41))
  have X0 := Lib.hid (heap_alloc_new w (.cells #[.int .u64 (x.key : Int), .int .u32 (x.ck : Int), .int .i64 x.off, .int .i64 x.sz] 41))
  have RS := Lib.hid (fun W (h : Below w.heap.size w W) => rsorted_any v L W (it_below s h) hlen)
  have hSl : (sortL L).length ≤ 1000000 := Nat.le_trans (length_sortL L) hlen
  have PF := Lib.hid (putF_eq x (asc_sortL L))
  have OKX := Lib.hid okx
  obtain ⟨al, cl, rfl, -, -⟩ := it_form s
  generalize L.length = n0 at *
  generalize sortL L = S at *
  clear s hlen okx
  unfold TV
  go_enter Tryd.func27, Tryd.ntmps27
  go_wp2_with fail
  refine (RS.out _ HB0.out).mono ?_
  rintro e w1 ⟨⟨v1, rfl, ho1⟩, hb1⟩
  have hx1 : w1.heap[w.heap.size]? = _ := (hb1.block _ (lt_of_some X0.out)).trans X0.out
  have hbw := bt HB0.out hb1
  have hb0 : w.heap.size ≤ (w.alloc (.cells #[.int .u64 (x.key : Int), .int .u32 (x.ck : Int), .int .i64 x.off, .int .i64 x.sz] 41)).heap.size := HB0.out.size
  have hs1 := hb1.size
  generalize w.alloc (.cells #[.int .u64 (x.key : Int), .int .u32 (x.ck : Int), .int .i64 x.off, .int .i64 x.sz] 41) = w0 at *
  obtain ⟨a1, c1, rfl, -, -⟩ := owT_form ho1
  obtain ⟨n, hn⟩ : ∃ n, n = S.length := ⟨_, rfl⟩
  rw [← hn] at ho1 hSl ⊢
  have N := Lib.hid hn
  have O1 := Lib.hid ho1
  have BW := Lib.hid hbw
  have X1 := Lib.hid hx1
  have HSZ : Hid (w.heap.size ≤ w1.heap.size) := Nat.le_trans hb0 hs1
  clear ho1 hb1 hn RS hx1 hbw hb0 hs1
  go_wp2_with fail
  go_loopw [5, 6, 7] (fun out d t wr => ∃ i : Nat, i ≤ n ∧ t = .int .i64 (i : Int) ∧ d = .bool (foT x S i).2 ∧ OwT wr w1.heap.size out (foT x S i).1 ∧ Below w1.heap.size w1 wr) (fun _ _ t _ => n - (intOf t).toNat)
  case atStart => exact ⟨0, by omega, rfl, rfl, owT_nil _ _, Below.refl _ _⟩
  case round =>
    obtain ⟨i, hi, rfl, rfl, ho, hB⟩ := hrel
    have X2 := Lib.hid ((hB.block _ (lt_of_some X1.out)).trans X1.out)
    obtain ⟨⟨x0, x1, x2, x3⟩, -, -, -, -⟩ := bx4 X2.out
    by_cases hin : i < n
    · have hl4 : decide ((i : Int) < (n : Int)) = true := decide_eq_true (by omega)
      have p0 : (0 : Int) ≤ (i : Int) := by omega
      have p1 : (i : Int) < (n : Int) := by omega
      have N' := N.out
      have hsn : foT x S (i + 1) = stp x (foT x S i) (S.getD i z0) := foT_succ (by omega)
      have hle := foT_len x S i (by omega)
      obtain ⟨b1, o1, c1', hv1, -, -, hk1⟩ := it_cells (owT_it O1.out) (by omega)
      obtain ⟨rfl, -, -⟩ : a1 = some ⟨b1, o1, none⟩ ∧ n = S.length ∧ c1 = c1' := by simpa using hv1
      have k1 := (hk1 i (by omega)).below hB
      obtain ⟨f0, f1, f2, f3⟩ := k1
      have K1 : Hid (∀ W, Below w1.heap.size w1 W → C4 W b1 (o1 + i * 4) (S.getD i z0)) := fun W hW => (hk1 i (by omega)).below hW
      have OKY := Lib.hid (getT_ok O1.out.1 i)
      obtain ⟨D, d, hD⟩ : ∃ D d, foT x S i = (D, d) := ⟨_, _, rfl⟩
      rw [hD] at ho hle hsn ⊢
      dsimp only at ho hle ⊢
      generalize S.getD i z0 = y at *
      obtain ⟨ao, co, rfl, -, -⟩ := owT_form ho
      obtain ⟨m, hm⟩ : ∃ m, m = D.length := ⟨_, rfl⟩
      rw [← hm] at ho hle ⊢
      have HO := Lib.hid ho
      have HB := Lib.hid hB
      have HM := Lib.hid hm
      have HLE : Hid (m ≤ 2000000) := by show _ ≤ _; omega
      clear hk1 hv1 N' ho hB hm hle hD

      cases d
      · by_cases hr : y.key < x.key
        · have d1 : decide ((x.key : Int) ≤ (y.key : Int)) = false := decide_eq_false (by omega)
          have d2 : ¬ x.key ≤ y.key := by omega
          have d3 : ((y.key : Int) != (x.key : Int)) = true := by rw [bne_iff_ne]; omega
          have d4 : ¬ y.key = x.key := by omega
          have HS : Hid (foT x S (i + 1) = (D ++ [y], false)) := by
            show _ = _
            rw [hsn]
            unfold stp
            simp [show ¬ x.key ≤ y.key by omega, show ¬ y.key = x.key by omega]
          clear hsn
          go_wp2
          go_quiet (fail)
          have hd := below_drewN wr nq
          have HOa := Lib.hid (owT_below HO.out hd)
          have HBa := Lib.hid (bt HB.out hd)
          have X2a := Lib.hid ((hd.block _ (lt_of_some X2.out)).trans X2.out)
          clear HO HB X2 x0 x1 x2 x3 f0 f1 f2 f3 hd
          generalize wr.drewN nq = Wa at *
          obtain ⟨⟨x0, x1, x2, x3⟩, -, -, -, -⟩ := bx4 X2a.out
          obtain ⟨f0, f1, f2, f3⟩ := K1.out Wa HBa.out
          go_wp2_with fail
          go_quiet (fail)
          have hd := below_drewN Wa nq
          have HOb := Lib.hid (owT_below HOa.out hd)
          have HBb := Lib.hid (bt HBa.out hd)
          clear x0 x1 x2 x3 f0 f1 f2 f3 hd
          generalize Wa.drewN nq = Wb at *
          obtain ⟨f0, f1, f2, f3⟩ := K1.out Wb HBb.out
          obtain ⟨⟨x0, x1, x2, x3⟩, -, -, -, -⟩ := bx4 ((HBb.out.block _ (lt_of_some X1.out)).trans X1.out)
          have HAq := Lib.hid (bel_al Wb (.cells #[.int .u64 (y.key : Int), .int .u32 (y.ck : Int), .int .i64 y.off, .int .i64 y.sz] 41))
          have HEq := Lib.hid (it_one OKY.out (heap_alloc_new Wb (.cells #[.int .u64 (y.key : Int), .int .u32 (y.ck : Int), .int .i64 y.off, .int .i64 y.sz] 41)))
          have HLq : Hid ((D).length + [y].length ≤ 100000000) := by show _ ≤ _; have := HM.out; have := HLE.out; simp; omega
          go_wp2_with (at_builtin; refine app_it (dst := some 46) ?_ ?_ (owT_below HOb.out HAq.out) HEq.out HLq.out (by have h1 := HBb.out.size; have h2 := HAq.out.size; omega) ?_; exact rfl; exact rfl; intro vq wq hoq hgq; have Bq := Lib.hid (below_grownT (bt HBb.out HAq.out) hgq (owT_below HOb.out HAq.out) (by have h1 := HBb.out.size; have h2 := HAq.out.size; omega) (Nat.le_refl _)); have Oq := Lib.hid hoq; obtain ⟨aq, cq, hvq, -, -⟩ := owT_form hoq; obtain ⟨nq, hnq⟩ : ∃ q, q = (D ++ [y]).length := ⟨_, rfl⟩; rw [← hnq] at hvq; subst hvq; have Xq := Lib.hid ((Bq.out.block _ (lt_of_some X1.out)).trans X1.out); clear hoq hgq hnq x0 x1 x2 x3 f0 f1 f2 f3; obtain ⟨⟨x0, x1, x2, x3⟩, -, -, -, -⟩ := bx4 Xq.out; obtain ⟨f0, f1, f2, f3⟩ := K1.out wq Bq.out)
          go_roundw
          case rel => exact ⟨i + 1, by omega, by go_num, by rw [HS.out], by rw [HS.out]; exact Oq.out, Bq.out⟩
          case measure => simp [intOf]; omega
        · by_cases hr : y.key = x.key
          · have d1 : decide ((x.key : Int) ≤ (y.key : Int)) = true := decide_eq_true (by omega)
            have d2 : x.key ≤ y.key := by omega
            have d3 : ((y.key : Int) != (x.key : Int)) = false := by simp; omega
            have d4 : y.key = x.key := hr
            have HS : Hid (foT x S (i + 1) = (D ++ [x], true)) := by
              show _ = _
              rw [hsn]
              unfold stp
              simp [hr]
            clear hsn
            go_wp2
            go_quiet (fail)
            have hd := below_drewN wr nq
            have HOa := Lib.hid (owT_below HO.out hd)
            have HBa := Lib.hid (bt HB.out hd)
            have X2a := Lib.hid ((hd.block _ (lt_of_some X2.out)).trans X2.out)
            clear HO HB X2 x0 x1 x2 x3 f0 f1 f2 f3 hd
            generalize wr.drewN nq = Wa at *
            obtain ⟨⟨x0, x1, x2, x3⟩, -, -, -, -⟩ := bx4 X2a.out
            obtain ⟨f0, f1, f2, f3⟩ := K1.out Wa HBa.out
            have HAp := Lib.hid (bel_al Wa (.cells #[.int .u64 (x.key : Int), .int .u32 (x.ck : Int), .int .i64 x.off, .int .i64 x.sz] 41))
            have HEp := Lib.hid (it_one OKX.out (heap_alloc_new Wa (.cells #[.int .u64 (x.key : Int), .int .u32 (x.ck : Int), .int .i64 x.off, .int .i64 x.sz] 41)))
            have HLp : Hid ((D).length + [x].length ≤ 100000000) := by show _ ≤ _; have := HM.out; have := HLE.out; simp; omega
            go_wp2_with (at_builtin; refine app_it (dst := some 31) ?_ ?_ (owT_below HOa.out HAp.out) HEp.out HLp.out (by have h1 := HBa.out.size; have h2 := HAp.out.size; omega) ?_; exact rfl; exact rfl; intro vp wp hop hgp; have Bp := Lib.hid (below_grownT (bt HBa.out HAp.out) hgp (owT_below HOa.out HAp.out) (by have h1 := HBa.out.size; have h2 := HAp.out.size; omega) (Nat.le_refl _)); have Op := Lib.hid hop; obtain ⟨ap, cp, hvp, -, -⟩ := owT_form hop; obtain ⟨np, hnp⟩ : ∃ q, q = (D ++ [x]).length := ⟨_, rfl⟩; rw [← hnp] at hvp; subst hvp; have Xp := Lib.hid ((Bp.out.block _ (lt_of_some X1.out)).trans X1.out); clear hop hgp hnp x0 x1 x2 x3 f0 f1 f2 f3; obtain ⟨⟨x0, x1, x2, x3⟩, -, -, -, -⟩ := bx4 Xp.out; obtain ⟨f0, f1, f2, f3⟩ := K1.out wp Bp.out)
            go_quiet (fail)
            have hd := below_drewN wp nq
            have HOb := Lib.hid (owT_below Op.out hd)
            have HBb := Lib.hid (bt Bp.out hd)
            clear x0 x1 x2 x3 f0 f1 f2 f3 hd
            generalize wp.drewN nq = Wb at *
            obtain ⟨f0, f1, f2, f3⟩ := K1.out Wb HBb.out
            obtain ⟨⟨x0, x1, x2, x3⟩, -, -, -, -⟩ := bx4 ((HBb.out.block _ (lt_of_some X1.out)).trans X1.out)
            go_wp2
            go_roundw
            case rel => exact ⟨i + 1, by omega, by go_num, by rw [HS.out], by rw [HS.out]; exact HOb.out, HBb.out⟩
            case measure => simp [intOf]; omega
          · have d1 : decide ((x.key : Int) ≤ (y.key : Int)) = true := decide_eq_true (by omega)
            have d2 : x.key ≤ y.key := by omega
            have d3 : ((y.key : Int) != (x.key : Int)) = true := by rw [bne_iff_ne]; omega
            have d4 : ¬ y.key = x.key := by omega
            have HS : Hid (foT x S (i + 1) = (D ++ [x] ++ [y], true)) := by
              show _ = _
              rw [hsn]
              unfold stp
              simp [show x.key ≤ y.key by omega, show ¬ y.key = x.key by omega]
            clear hsn
            go_wp2
            go_quiet (fail)
            have hd := below_drewN wr nq
            have HOa := Lib.hid (owT_below HO.out hd)
            have HBa := Lib.hid (bt HB.out hd)
            have X2a := Lib.hid ((hd.block _ (lt_of_some X2.out)).trans X2.out)
            clear HO HB X2 x0 x1 x2 x3 f0 f1 f2 f3 hd
            generalize wr.drewN nq = Wa at *
            obtain ⟨⟨x0, x1, x2, x3⟩, -, -, -, -⟩ := bx4 X2a.out
            obtain ⟨f0, f1, f2, f3⟩ := K1.out Wa HBa.out
            have HAp := Lib.hid (bel_al Wa (.cells #[.int .u64 (x.key : Int), .int .u32 (x.ck : Int), .int .i64 x.off, .int .i64 x.sz] 41))
            have HEp := Lib.hid (it_one OKX.out (heap_alloc_new Wa (.cells #[.int .u64 (x.key : Int), .int .u32 (x.ck : Int), .int .i64 x.off, .int .i64 x.sz] 41)))
            have HLp : Hid ((D).length + [x].length ≤ 100000000) := by show _ ≤ _; have := HM.out; have := HLE.out; simp; omega
            go_wp2_with (at_builtin; refine app_it (dst := some 31) ?_ ?_ (owT_below HOa.out HAp.out) HEp.out HLp.out (by have h1 := HBa.out.size; have h2 := HAp.out.size; omega) ?_; exact rfl; exact rfl; intro vp wp hop hgp; have Bp := Lib.hid (below_grownT (bt HBa.out HAp.out) hgp (owT_below HOa.out HAp.out) (by have h1 := HBa.out.size; have h2 := HAp.out.size; omega) (Nat.le_refl _)); have Op := Lib.hid hop; obtain ⟨ap, cp, hvp, -, -⟩ := owT_form hop; obtain ⟨np, hnp⟩ : ∃ q, q = (D ++ [x]).length := ⟨_, rfl⟩; rw [← hnp] at hvp; subst hvp; have Xp := Lib.hid ((Bp.out.block _ (lt_of_some X1.out)).trans X1.out); clear hop hgp hnp x0 x1 x2 x3 f0 f1 f2 f3; obtain ⟨⟨x0, x1, x2, x3⟩, -, -, -, -⟩ := bx4 Xp.out; obtain ⟨f0, f1, f2, f3⟩ := K1.out wp Bp.out)
            go_quiet (fail)
            have hd := below_drewN wp nq
            have HOb := Lib.hid (owT_below Op.out hd)
            have HBb := Lib.hid (bt Bp.out hd)
            clear x0 x1 x2 x3 f0 f1 f2 f3 hd
            generalize wp.drewN nq = Wb at *
            obtain ⟨f0, f1, f2, f3⟩ := K1.out Wb HBb.out
            obtain ⟨⟨x0, x1, x2, x3⟩, -, -, -, -⟩ := bx4 ((HBb.out.block _ (lt_of_some X1.out)).trans X1.out)
            have HAq := Lib.hid (bel_al Wb (.cells #[.int .u64 (y.key : Int), .int .u32 (y.ck : Int), .int .i64 y.off, .int .i64 y.sz] 41))
            have HEq := Lib.hid (it_one OKY.out (heap_alloc_new Wb (.cells #[.int .u64 (y.key : Int), .int .u32 (y.ck : Int), .int .i64 y.off, .int .i64 y.sz] 41)))
            have HLq : Hid ((D ++ [x]).length + [y].length ≤ 100000000) := by show _ ≤ _; have := HM.out; have := HLE.out; simp; omega
            go_wp2_with (at_builtin; refine app_it (dst := some 46) ?_ ?_ (owT_below HOb.out HAq.out) HEq.out HLq.out (by have h1 := HBb.out.size; have h2 := HAq.out.size; omega) ?_; exact rfl; exact rfl; intro vq wq hoq hgq; have Bq := Lib.hid (below_grownT (bt HBb.out HAq.out) hgq (owT_below HOb.out HAq.out) (by have h1 := HBb.out.size; have h2 := HAq.out.size; omega) (Nat.le_refl _)); have Oq := Lib.hid hoq; obtain ⟨aq, cq, hvq, -, -⟩ := owT_form hoq; obtain ⟨nq, hnq⟩ : ∃ q, q = (D ++ [x] ++ [y]).length := ⟨_, rfl⟩; rw [← hnq] at hvq; subst hvq; have Xq := Lib.hid ((Bq.out.block _ (lt_of_some X1.out)).trans X1.out); clear hoq hgq hnq x0 x1 x2 x3 f0 f1 f2 f3; obtain ⟨⟨x0, x1, x2, x3⟩, -, -, -, -⟩ := bx4 Xq.out; obtain ⟨f0, f1, f2, f3⟩ := K1.out wq Bq.out)
            go_roundw
            case rel => exact ⟨i + 1, by omega, by go_num, by rw [HS.out], by rw [HS.out]; exact Oq.out, Bq.out⟩
            case measure => simp [intOf]; omega
      · by_cases hr : y.key = x.key
        · have d1 : decide ((x.key : Int) ≤ (y.key : Int)) = true := decide_eq_true (by omega)
          have d2 : x.key ≤ y.key := by omega
          have d3 : ((y.key : Int) != (x.key : Int)) = false := by simp; omega
          have d4 : y.key = x.key := hr
          have HS : Hid (foT x S (i + 1) = (D, true)) := by
            show _ = _
            rw [hsn]
            unfold stp
            simp [hr]
          clear hsn
          go_wp2
          go_quiet (fail)
          have hd := below_drewN wr nq
          have HOa := Lib.hid (owT_below HO.out hd)
          have HBa := Lib.hid (bt HB.out hd)
          have X2a := Lib.hid ((hd.block _ (lt_of_some X2.out)).trans X2.out)
          clear HO HB X2 x0 x1 x2 x3 f0 f1 f2 f3 hd
          generalize wr.drewN nq = Wa at *
          obtain ⟨⟨x0, x1, x2, x3⟩, -, -, -, -⟩ := bx4 X2a.out
          obtain ⟨f0, f1, f2, f3⟩ := K1.out Wa HBa.out
          go_wp2_with fail
          go_quiet (fail)
          have hd := below_drewN Wa nq
          have HOb := Lib.hid (owT_below HOa.out hd)
          have HBb := Lib.hid (bt HBa.out hd)
          clear x0 x1 x2 x3 f0 f1 f2 f3 hd
          generalize Wa.drewN nq = Wb at *
          obtain ⟨f0, f1, f2, f3⟩ := K1.out Wb HBb.out
          obtain ⟨⟨x0, x1, x2, x3⟩, -, -, -, -⟩ := bx4 ((HBb.out.block _ (lt_of_some X1.out)).trans X1.out)
          go_wp2
          go_roundw
          case rel => exact ⟨i + 1, by omega, by go_num, by rw [HS.out], by rw [HS.out]; exact HOb.out, HBb.out⟩
          case measure => simp [intOf]; omega
        · have d3 : ((y.key : Int) != (x.key : Int)) = true := by rw [bne_iff_ne]; omega
          have d4 : ¬ y.key = x.key := hr
          have HS : Hid (foT x S (i + 1) = (D ++ [y], true)) := by
            show _ = _
            rw [hsn]
            unfold stp
            simp [show ¬ y.key = x.key by omega]
          clear hsn
          go_wp2
          go_quiet (fail)
          have hd := below_drewN wr nq
          have HOa := Lib.hid (owT_below HO.out hd)
          have HBa := Lib.hid (bt HB.out hd)
          have X2a := Lib.hid ((hd.block _ (lt_of_some X2.out)).trans X2.out)
          clear HO HB X2 x0 x1 x2 x3 f0 f1 f2 f3 hd
          generalize wr.drewN nq = Wa at *
          obtain ⟨⟨x0, x1, x2, x3⟩, -, -, -, -⟩ := bx4 X2a.out
          obtain ⟨f0, f1, f2, f3⟩ := K1.out Wa HBa.out
          go_wp2_with fail
          go_quiet (fail)
          have hd := below_drewN Wa nq
          have HOb := Lib.hid (owT_below HOa.out hd)
          have HBb := Lib.hid (bt HBa.out hd)
          clear x0 x1 x2 x3 f0 f1 f2 f3 hd
          generalize Wa.drewN nq = Wb at *
          obtain ⟨f0, f1, f2, f3⟩ := K1.out Wb HBb.out
          obtain ⟨⟨x0, x1, x2, x3⟩, -, -, -, -⟩ := bx4 ((HBb.out.block _ (lt_of_some X1.out)).trans X1.out)
          have HAq := Lib.hid (bel_al Wb (.cells #[.int .u64 (y.key : Int), .int .u32 (y.ck : Int), .int .i64 y.off, .int .i64 y.sz] 41))
          have HEq := Lib.hid (it_one OKY.out (heap_alloc_new Wb (.cells #[.int .u64 (y.key : Int), .int .u32 (y.ck : Int), .int .i64 y.off, .int .i64 y.sz] 41)))
          have HLq : Hid ((D).length + [y].length ≤ 100000000) := by show _ ≤ _; have := HM.out; have := HLE.out; simp; omega
          go_wp2_with (at_builtin; refine app_it (dst := some 46) ?_ ?_ (owT_below HOb.out HAq.out) HEq.out HLq.out (by have h1 := HBb.out.size; have h2 := HAq.out.size; omega) ?_; exact rfl; exact rfl; intro vq wq hoq hgq; have Bq := Lib.hid (below_grownT (bt HBb.out HAq.out) hgq (owT_below HOb.out HAq.out) (by have h1 := HBb.out.size; have h2 := HAq.out.size; omega) (Nat.le_refl _)); have Oq := Lib.hid hoq; obtain ⟨aq, cq, hvq, -, -⟩ := owT_form hoq; obtain ⟨nq, hnq⟩ : ∃ q, q = (D ++ [y]).length := ⟨_, rfl⟩; rw [← hnq] at hvq; subst hvq; have Xq := Lib.hid ((Bq.out.block _ (lt_of_some X1.out)).trans X1.out); clear hoq hgq hnq x0 x1 x2 x3 f0 f1 f2 f3; obtain ⟨⟨x0, x1, x2, x3⟩, -, -, -, -⟩ := bx4 Xq.out; obtain ⟨f0, f1, f2, f3⟩ := K1.out wq Bq.out)
          go_roundw
          case rel => exact ⟨i + 1, by omega, by go_num, by rw [HS.out], by rw [HS.out]; exact Oq.out, Bq.out⟩
          case measure => simp [intOf]; omega
    · obtain rfl : i = n := by omega
      have hl4 : decide ((i : Int) < (i : Int)) = false := decide_eq_false (by omega)
      have hfin := foT_all (x := x) (S := S) (i := i) (by have := N.out; omega)
      have hle := foT_len x S i (by have := N.out; omega)
      rw [PF.out] at hfin
      obtain ⟨D, d, hD⟩ : ∃ D d, foT x S i = (D, d) := ⟨_, _, rfl⟩
      rw [hD] at ho hle hfin ⊢
      dsimp only at ho hle hfin ⊢
      obtain ⟨ao, co, rfl, -, -⟩ := owT_form ho
      obtain ⟨m, hm⟩ : ∃ m, m = D.length := ⟨_, rfl⟩
      rw [← hm] at ho hle ⊢
      have HO := Lib.hid ho
      have HB := Lib.hid hB
      have HM := Lib.hid hm
      have HLE : Hid (m ≤ 2000000) := by show _ ≤ _; omega
      clear ho hB hm hle hD
      cases d
      · rw [if_neg (by decide)] at hfin
        have HF := Lib.hid hfin
        clear hfin
        have HAp := Lib.hid (bel_al wr (.cells #[.int .u64 (x.key : Int), .int .u32 (x.ck : Int), .int .i64 x.off, .int .i64 x.sz] 41))
        have HEp := Lib.hid (it_one OKX.out (heap_alloc_new wr (.cells #[.int .u64 (x.key : Int), .int .u32 (x.ck : Int), .int .i64 x.off, .int .i64 x.sz] 41)))
        have HLp : Hid (D.length + [x].length ≤ 100000000) := by show _ ≤ _; have := HM.out; have := HLE.out; simp; omega
        go_wp2_with (at_builtin; refine app_it (dst := some 52) ?_ ?_ (owT_below HO.out HAp.out) HEp.out HLp.out (by have h1 := HB.out.size; have h2 := HAp.out.size; omega) ?_; exact rfl; exact rfl; intro vp wp hop hgp; have Bp := Lib.hid (below_grownT (bt HB.out HAp.out) hgp (owT_below HO.out HAp.out) (by have h1 := HB.out.size; have h2 := HAp.out.size; omega) (Nat.le_refl _)); have Op := Lib.hid hop; obtain ⟨ap, cp, hvp, -, -⟩ := owT_form hop; obtain ⟨np, hnp⟩ : ∃ q, q = (D ++ [x]).length := ⟨_, rfl⟩; rw [← hnp] at hvp; subst hvp; clear hop hgp hnp)
        go_ret
        exact ⟨⟨_, rfl, by rw [← HF.out]; exact owT_base Op.out HSZ.out⟩, bt BW.out Bp.out⟩
      · rw [if_pos rfl] at hfin
        have HF := Lib.hid hfin
        clear hfin
        go_wp2
        go_ret
        exact ⟨⟨_, rfl, by rw [← HF.out]; exact owT_base HO.out HSZ.out⟩, bt BW.out HB.out⟩
end Go.Proofs.YtihjfnlimdcmkaaDoor.Gf
