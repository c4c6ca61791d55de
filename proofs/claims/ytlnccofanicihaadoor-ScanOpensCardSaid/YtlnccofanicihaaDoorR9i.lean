/- What is proved here: the contract of the laws' same, for equal lists. Condition: lists of at most 100000 records. -/
import Derived.Test.YtlnccofanicihaaDoorR9g
namespace Go.Proofs.YtlnccofanicihaaDoor.Gf
open Go Go.Joins Go.ChangeShapes Go.WideShapes Go.ChangeAt Go.RowKit Go.Deep Go.Proofs.YtlnccofanicihaaDoor.By Go.Proofs.YtlnccofanicihaaDoor.Crc Go.Proofs.YtlnccofanicihaaDoor.Qt

theorem sameB_self (x : Ndl) : sameB x x = true := by simp [sameB]
set_option maxRecDepth 100000 in
set_option maxHeartbeats 6400000 in
theorem same9_any (u v : Value) (R : List Rc) (w : World) (su : Rs w u R) (sv : Rs w v R) (hlen : R.length ≤ 100000) : Calls Tryd.prog 14 #[u, v] w fun e w' => e = .returned (.bool true) ∧ Below w.heap.size w w' := by
  obtain ⟨al, cl, hv, -, -⟩ := rs_form su
  obtain ⟨am, cm, hv2, -, -⟩ := rs_form sv
  obtain ⟨n, hn⟩ : ∃ n, n = R.length := ⟨_, rfl⟩
  rw [← hn] at hv hv2 hlen
  subst hv
  subst hv2
  have SU := Lib.hid su
  have SV := Lib.hid sv
  have N := Lib.hid hn
  clear su sv hn
  go_enter Tryd.func14, Tryd.ntmps14
  go_wp2_with fail
  go_loopw [13] (fun t wr => ∃ i : Nat, i ≤ n ∧ t = .int .i64 (i : Int) ∧ Hid (Below w.heap.size w wr)) (fun t _ => n - (intOf t).toNat)
  case atStart => exact ⟨0, by omega, rfl, Below.refl _ _⟩
  case round =>
    obtain ⟨i, hi, rfl, HB⟩ := hrel
    by_cases hin : i < n
    · have hl4 : decide ((i : Int) < (n : Int)) = true := decide_eq_true (by omega)
      have p0 : (0 : Int) ≤ (i : Int) := by omega
      have p1 : (i : Int) < (n : Int) := by omega
      have N' := N.out
      obtain ⟨b1, o1, c1', hv1, -, -, hk1⟩ := rs_cells SU.out (by omega)
      obtain ⟨rfl, -, -⟩ : al = some ⟨b1, o1, none⟩ ∧ n = R.length ∧ cl = c1' := by simpa using hv1
      obtain ⟨d, C0⟩ := hk1 i (by omega)
      obtain ⟨b2, o2, c2', hv2, -, -, hk2⟩ := rs_cells SV.out (by omega)
      obtain ⟨rfl, -, -⟩ : am = some ⟨b2, o2, none⟩ ∧ n = R.length ∧ cm = c2' := by simpa using hv2
      obtain ⟨d2, D0⟩ := hk2 i (by omega)
      obtain ⟨f0, f1, f2, f3, f4, okr, sd⟩ := C0.below HB.out
      obtain ⟨g0, g1, g2, g3, g4, okr2, sd2⟩ := D0.below HB.out
      generalize R.getD i rc0 = r at *
      have RS := Lib.hid (fun W (hW : Below wr.heap.size wr W) => rsame_any (.agg #[.int .u64 (r.x.key : Int), .int .u32 (r.x.cookie : Int), .bool r.x.del, d]) (.agg #[.int .u64 (r.x.key : Int), .int .u32 (r.x.cookie : Int), .bool r.x.del, d2]) r.x r.x W ⟨d, rfl, okr.key, okr.ck, sl_below sd hW⟩ ⟨d2, rfl, okr2.key, okr2.ck, sl_below sd2 hW⟩)
      rw [sameB_self] at RS
      obtain ⟨ad, cd, rfl, -, -⟩ := sl_form sd
      obtain ⟨ad2, cd2, rfl, -, -⟩ := sl_form sd2
      generalize r.x.data.length = nd at *
      clear C0 D0 hk1 hk2 hv1 hv2 N' sd sd2 okr okr2
      go_wp2_with fail
      have x0 := cells_regrown f0
      have x1 := cells_regrown f1
      have x2 := cells_regrown f2
      have x3 := cells_regrown f3
      have x4 := cells_regrown f4
      have y0 := cells_regrown g0
      have y1 := cells_regrown g1
      have y2 := cells_regrown g2
      have y3 := cells_regrown g3
      have y4 := cells_regrown g4
      clear f0 f1 f2 f3 f4 g0 g1 g2 g3 g4
      refine wp_region_bl_tail 22 (by kernel_rfl) (by kernel_rfl) ?_
      simp only [List.take_succ_cons, List.take_zero, List.drop_succ_cons, List.drop_zero]
      repeat (quiet_step (fail))
      refine wpQuiet_nil ?_
      intro w9 hb9
      clear x0 x1 x2 x3 x4 y0 y1 y2 y3 y4
      go_wp2_with fail
      refine (RS.out _ hb9).mono ?_
      rintro e w2 ⟨rfl, hb2⟩
      have B2 := Lib.hid (bt (bt HB.out hb9) hb2)
      clear hb2 hb9
      go_wp2
      go_roundw
      case rel => exact ⟨i + 1, by omega, by go_num, B2⟩
      case measure => simp [intOf]; omega
    · obtain rfl : i = n := by omega
      have hl4 : decide ((i : Int) < (i : Int)) = false := decide_eq_false (by omega)
      go_wp2
      go_ret
      exact ⟨rfl, HB.out⟩
end Go.Proofs.YtlnccofanicihaaDoor.Gf
