/- What is proved here: the reference's Items. No condition. -/
import Derived.Test.YtlnccofanicihaaDoorR9b
import Derived.Test.YtlnccofanicihaaDoorM9b
namespace Go.Proofs.YtlnccofanicihaaDoor.Gf
open Go Go.Joins Go.ChangeShapes Go.WideShapes Go.ChangeAt Go.RowKit Go.Deep Go.Proofs.YtlnccofanicihaaDoor.By Go.Proofs.YtlnccofanicihaaDoor.Crc Go.Proofs.YtlnccofanicihaaDoor.Qt

theorem C5.below {w w' : World} {b o : Nat} {r : Rc} {d : Value} (h : C5 w b o r d) (hB : Below w.heap.size w w') : C5 w' b o r d :=
  ⟨(hB.cell (block_lt_of_cell h.c0)).trans h.c0, (hB.cell (block_lt_of_cell h.c1)).trans h.c1, (hB.cell (block_lt_of_cell h.c2)).trans h.c2, (hB.cell (block_lt_of_cell h.c3)).trans h.c3, (hB.cell (block_lt_of_cell h.c4)).trans h.c4, h.ok, sl_below h.sl hB⟩
theorem take_snocR {R : List Rc} {i : Nat} (h : i < R.length) : R.take (i + 1) = R.take i ++ [R.getD i rc0] := by
  rw [List.take_add_one, List.getElem?_eq_getElem h, List.getD_eq_getElem?_getD, List.getElem?_eq_getElem h]
  rfl
set_option maxRecDepth 100000 in
set_option maxHeartbeats 6400000 in
theorem ritems_any (v : Value) (R : List Rc) (w : World) (s : Rs w v R) (hlen : R.length ≤ 100000) : Calls Tryd.prog 23 #[v] w (LO w (itemsL R)) := by
  obtain ⟨al, cl, hv, -, -⟩ := rs_form s
  obtain ⟨n, hn⟩ : ∃ n, n = R.length := ⟨_, rfl⟩
  rw [← hn] at hv hlen
  subst hv
  have S := Lib.hid s
  have N := Lib.hid hn
  clear s hn
  go_enter Tryd.func23, Tryd.ntmps23
  go_wp2_with fail
  go_loopw [3, 4] (fun out t wr => ∃ i : Nat, i ≤ n ∧ t = .int .i64 (i : Int) ∧ OwT wr w.heap.size out (itemsL (R.take i)) ∧ Below w.heap.size w wr) (fun _ t _ => n - (intOf t).toNat)
  case atStart => exact ⟨0, by omega, rfl, owT_nil _ _, Below.refl _ _⟩
  case round =>
    obtain ⟨i, hi, rfl, ho, hB⟩ := hrel
    by_cases hin : i < n
    · have hl4 : decide ((i : Int) < (n : Int)) = true := decide_eq_true (by omega)
      have p0 : (0 : Int) ≤ (i : Int) := by omega
      have p1 : (i : Int) < (n : Int) := by omega
      have N' := N.out
      obtain ⟨b1, o1, c1', hv1, -, -, hk1⟩ := rs_cells S.out (by omega)
      obtain ⟨rfl, -, -⟩ : al = some ⟨b1, o1, none⟩ ∧ n = R.length ∧ cl = c1' := by simpa using hv1
      obtain ⟨d, C0⟩ := hk1 i (by omega)
      obtain ⟨f0, f1, f2, f3, f4, okr, sd⟩ := C0.below hB
      have hs2 : itemsL (R.take (i + 1)) = stepI (itemsL (R.take i)) (R.getD i rc0) := by rw [take_snocR (by omega), itemsL_snoc]
      have hle : (itemsL (R.take i)).length ≤ 100000 := Nat.le_trans (length_itemsL _) (by rw [List.length_take]; omega)
      generalize itemsL (R.take i) = D at *
      generalize R.getD i rc0 = r at *
      obtain ⟨ad, cd, rfl, hnc, hcm⟩ := sl_form sd
      have HMX := Lib.hid (Nat.le_trans hnc hcm)
      clear hnc hcm
      have OKR := Lib.hid okr
      clear C0 hk1 hv1 N' sd okr
      obtain ⟨ao, co, rfl, -, -⟩ := owT_form ho
      obtain ⟨m, hm⟩ : ∃ m, m = D.length := ⟨_, rfl⟩
      rw [← hm] at ho ⊢
      obtain ⟨nd, hnd⟩ : ∃ z, z = r.x.data.length := ⟨_, rfl⟩
      rw [← hnd] at f4
      have HA := Lib.hid ((Below.refl wr.heap.size wr).alloc (Nat.le_refl _) (.cells #[.int .u64 (r.x.key : Int), .int .u32 (r.x.cookie : Int), .bool r.x.del, .slice ad nd cd] 56))
      have HO := Lib.hid ho
      have HB := Lib.hid hB
      have HM := Lib.hid hm
      have HS := Lib.hid hs2
      have HLE := Lib.hid hle
      have HND := Lib.hid hnd
      clear ho hB hm hle hs2 hnd
      unfold stepI at HS
      by_cases hdel : r.x.del = true
      · rw [if_pos hdel] at HS
        rw [hdel] at f3 HA
        have DR := Lib.hid (rdrop_any _ D r.x.key _ (owT_it (owT_below HO.out HA.out)) (by have := HLE.out; omega))
        have HKEY := Lib.hid hdel
        clear hdel
        go_wp2_with fail
        refine DR.out.mono ?_
        rintro e w2 ⟨⟨v2, rfl, ho2⟩, hb2⟩
        have B2 := Lib.hid (bt (bt HB.out HA.out) hb2)
        have O2 := Lib.hid (owT_base ho2 (Nat.le_trans HB.out.size HA.out.size))
        clear hb2 ho2
        go_wp2
        go_roundw
        case rel => exact ⟨i + 1, by omega, by go_num, by rw [HS.out]; exact O2.out, B2.out⟩
        case measure => simp [intOf]; omega
      · rw [if_neg hdel] at HS
        have hdel2 : r.x.del = false := by simpa using hdel
        rw [hdel2] at f3 HA
        clear hdel hdel2
        go_wp2_with fail
        have x0 := cells_regrown (HA.out.cell (block_lt_of_cell f0) |>.trans f0)
        have hb0 := heap_alloc_new wr (Obj.cells #[.int .u64 (r.x.key : Int), .int .u32 (r.x.cookie : Int), .bool false, .slice ad nd cd] 56)
        have x1 := cells_regrown (cell_of_row _ wr.heap.size 0 _ _ _ hb0)
        have x2 := cells_regrown (cell_of_row _ wr.heap.size 1 _ _ _ hb0)
        have x3 := cells_regrown (cell_of_row _ wr.heap.size 3 _ _ _ hb0)
        have HPUT := Lib.hid (fun W (hW : Below (wr.alloc (Obj.cells #[.int .u64 (r.x.key : Int), .int .u32 (r.x.cookie : Int), .bool false, .slice ad nd cd] 56)).heap.size (wr.alloc (Obj.cells #[.int .u64 (r.x.key : Int), .int .u32 (r.x.cookie : Int), .bool false, .slice ad nd cd] 56)) W) => rput_any (.slice ao m co) D (itmOf r) ⟨OKR.out.key, OKR.out.ck, OKR.out.off, by have h := HMX.out; show _ ≤ ((r.x.data.length : Nat) : Int) ∧ ((r.x.data.length : Nat) : Int) ≤ _; unfold maxLen at h; omega⟩ W (owT_it (owT_below (owT_below HO.out HA.out) hW)) (by have := HLE.out; omega))
        rw [show TV (itmOf r) = .agg #[.int .u64 (r.x.key : Int), .int .u32 (r.x.cookie : Int), .int .i64 r.off, .int .i64 (nd : Int)] by rw [HND.out]; rfl] at HPUT
        have HBA := Lib.hid (bt HB.out HA.out)
        have HSZ := Lib.hid (Nat.le_trans HB.out.size HA.out.size)
        clear f0 f1 f2 f3 f4 hb0
        generalize wr.alloc (Obj.cells #[.int .u64 (r.x.key : Int), .int .u32 (r.x.cookie : Int), .bool false, .slice ad nd cd] 56) = W1 at *
        refine wp_region_bl_tail 14 (by kernel_rfl) (by kernel_rfl) ?_
        simp only [List.take_succ_cons, List.take_zero, List.drop_succ_cons, List.drop_zero]
        repeat (quiet_step (fail))
        refine wpQuiet_nil ?_
        intro w9 hb9
        clear x0 x1 x2 x3
        go_wp2_with fail
        refine (HPUT.out w9 hb9).mono ?_
        rintro e w2 ⟨⟨v2, rfl, ho2⟩, hb2⟩
        have B2 := Lib.hid (bt (bt HBA.out hb9) hb2)
        have O2 := Lib.hid (owT_base ho2 (Nat.le_trans HSZ.out hb9.size))
        clear hb2 ho2 hb9
        go_wp2
        go_roundw
        case rel => exact ⟨i + 1, by omega, by go_num, by rw [HS.out]; exact O2.out, B2.out⟩
        case measure => simp [intOf]; omega
    · obtain rfl : i = n := by omega
      have hl4 : decide ((i : Int) < (i : Int)) = false := decide_eq_false (by omega)
      rw [List.take_of_length_le (by have := N.out; omega)] at ho
      have HO := Lib.hid ho
      obtain ⟨ao, co, rfl, -, -⟩ := owT_form ho
      generalize (itemsL R).length = m at *
      have HB := Lib.hid hB
      clear ho hB
      go_wp2
      go_ret
      exact ⟨⟨_, rfl, HO.out⟩, HB.out⟩
end Go.Proofs.YtlnccofanicihaaDoor.Gf
