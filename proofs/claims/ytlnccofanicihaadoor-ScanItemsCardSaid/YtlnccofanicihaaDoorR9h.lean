/- What is proved here: the contract of the laws' given. Condition: a list of at most 1000 records. -/
import Derived.Test.YtlnccofanicihaaDoorR9g
import Derived.Test.YtlnccofanicihaaDoorP9d
namespace Go.Proofs.YtlnccofanicihaaDoor.Gf
open Go Go.Joins Go.ChangeShapes Go.WideShapes Go.ChangeAt Go.RowKit Go.Deep Go.Proofs.YtlnccofanicihaaDoor.By Go.Proofs.YtlnccofanicihaaDoor.Crc Go.Proofs.YtlnccofanicihaaDoor.Qt

/-- A call that answers records. -/
def GVO (w : World) (R : List Rc) (e : Ending) (w' : World) : Prop := (∃ v, e = .returned v ∧ Rs w' v R) ∧ Below w.heap.size w w'
set_option maxRecDepth 100000 in
set_option maxHeartbeats 6400000 in
theorem given_any (v : Value) (R : List Rc) (w : World) (s : Rs w v R) (hlen : R.length ≤ 1000) : Calls Tryd.prog 19 #[v] w (GVO w R) := by
  obtain ⟨al, cl, hv, -, -⟩ := rs_form s
  obtain ⟨n, hn⟩ : ∃ n, n = R.length := ⟨_, rfl⟩
  rw [← hn] at hv hlen
  subst hv
  have S := Lib.hid s
  have N := Lib.hid hn
  clear s hn
  go_enter Tryd.func19, Tryd.ntmps19
  go_wp2_with fail
  go_loopw [3, 7] (fun out t wr => ∃ i : Nat, i ≤ n ∧ t = .int .i64 (i : Int) ∧ Hid (OwR 61 w.heap.size wr w.heap.size out (R.take i)) ∧ Hid (Below w.heap.size w wr)) (fun _ t _ => n - (intOf t).toNat)
  case atStart => exact ⟨0, by omega, rfl, owR_nil _ _ _ _, Below.refl _ _⟩
  case round =>
    obtain ⟨i, hi, rfl, HO, HB⟩ := hrel
    by_cases hin : i < n
    · have hl4 : decide ((i : Int) < (n : Int)) = true := decide_eq_true (by omega)
      have p0 : (0 : Int) ≤ (i : Int) := by omega
      have p1 : (i : Int) < (n : Int) := by omega
      have N' := N.out
      obtain ⟨b1, o1, c1', hv1, -, -, hk1⟩ := rs_cells S.out (by omega)
      obtain ⟨rfl, -, -⟩ : al = some ⟨b1, o1, none⟩ ∧ n = R.length ∧ cl = c1' := by simpa using hv1
      obtain ⟨d, C0⟩ := hk1 i (by omega)
      obtain ⟨f0, f1, f2, f3, f4, okr, sd⟩ := C0.below HB.out
      have hs2 := take_snocR (R := R) (i := i) (by omega)
      have sd0 := C0.sl
      have hle : (R.take i).length ≤ 1000 := by rw [List.length_take]; omega
      generalize R.take i = D at *
      generalize R.getD i rc0 = r at *
      obtain ⟨ad, cd, rfl, -, -⟩ := sl_form sd
      obtain ⟨nd, hnd⟩ : ∃ z, z = r.x.data.length := ⟨_, rfl⟩
      rw [← hnd] at f4 sd0 okr
      have OKR := Lib.hid okr
      have SD := Lib.hid sd0
      have HS := Lib.hid hs2
      have HLE := Lib.hid hle
      clear C0 hk1 hv1 N' sd okr sd0 hs2 hle hnd
      obtain ⟨ao, co, rfl, -, -⟩ := owR_form HO.out
      obtain ⟨m, hm⟩ : ∃ m, m = D.length := ⟨_, rfl⟩
      rw [← hm] at HO ⊢
      clear hm
      go_wp2_with fail
      have hd := below_drewN wr 1
      have HD1 := Lib.hid (bt HB.out hd)
      have HO1 := Lib.hid (owR_below HO.out hd)
      replace f0 := (hd.cell (block_lt_of_cell f0)).trans f0
      replace f1 := (hd.cell (block_lt_of_cell f1)).trans f1
      replace f2 := (hd.cell (block_lt_of_cell f2)).trans f2
      replace f3 := (hd.cell (block_lt_of_cell f3)).trans f3
      replace f4 := (hd.cell (block_lt_of_cell f4)).trans f4
      clear HO HB hd
      refine wp_region_any (by kernel_rfl) ?_
      change wpAny _ _ _ _ _ _ _ (wr.drewN 1)
      generalize wr.drewN 1 = W1 at *
      have HA := Lib.hid (bel_al W1 (.cells #[.int .i64 r.off, .int .u64 (r.x.key : Int), .int .u32 (r.x.cookie : Int), .bool r.x.del, .slice ad nd cd] 61))
      have HN := Lib.hid (heap_alloc_new W1 (.cells #[.int .i64 r.off, .int .u64 (r.x.key : Int), .int .u32 (r.x.cookie : Int), .bool r.x.del, .slice ad nd cd] 61))
      have HOA := Lib.hid (owR_below HO1.out HA.out)
      have HBA := Lib.hid (bt HD1.out HA.out)
      have HKP := Lib.hid (show KpB w.heap.size (W1.alloc (.cells #[.int .i64 r.off, .int .u64 (r.x.key : Int), .int .u32 (r.x.cookie : Int), .bool r.x.del, .slice ad nd cd] 61)) w.heap.size (.slice ad nd cd) r.x.data from Or.inr ⟨w, Nat.le_refl _, HBA.out, SD.out⟩)
      have HLM : Hid (D.length ≤ 100000000) := Nat.le_trans HLE.out (by omega)
      refine wpAny_take (i := 0) (v := Value.slice ao m co) rfl (by kernel_rfl) (by kernel_rfl) (by kernel_rfl) (fun _ _ _ h => h) (Or.inl ⟨by rfl, fun w => by go_simp⟩) ?_
      refine wpAny_take (i := 1) (v := Value.slice (some ⟨b1, o1, none⟩) n cl) rfl (by kernel_rfl) (by kernel_rfl) (by kernel_rfl) (fun _ _ _ h => h) (Or.inl ⟨by rfl, fun w => by go_simp⟩) ?_
      refine wpAny_take (i := 2) (v := Value.int .i64 (i : Int)) rfl (by kernel_rfl) (by kernel_rfl) (by kernel_rfl) (fun _ _ _ h => h) (Or.inl ⟨by rfl, fun w => by go_simp⟩) ?_
      refine wpAny_take (i := 3) (v := Value.pointer (some ⟨b1, o1 + i * 5, none⟩)) rfl (by kernel_rfl) (by kernel_rfl) (by kernel_rfl) (fun _ _ _ h => h) (Or.inl ⟨by rfl, fun w => by go_simp⟩) ?_
      refine wpAny_take (i := 4) (v := Value.pointer (some ⟨b1, o1 + i * 5, none⟩)) rfl (by kernel_rfl) (by kernel_rfl) (by kernel_rfl) (fun _ _ _ h => h) (Or.inl ⟨by rfl, fun w => by go_simp⟩) ?_
      refine wpAny_take (i := 6) (v := Value.slice (some ⟨b1, o1, none⟩) n cl) rfl (by kernel_rfl) (by kernel_rfl) (by kernel_rfl) (fun _ _ _ h => h) (Or.inl ⟨by rfl, fun w => by go_simp⟩) ?_
      refine wpAny_take (i := 7) (v := Value.int .i64 (i : Int)) rfl (by kernel_rfl) (by kernel_rfl) (by kernel_rfl) (fun _ _ _ h => h) (Or.inl ⟨by rfl, fun w => by go_simp⟩) ?_
      refine wpAny_take (i := 8) (v := Value.pointer (some ⟨b1, o1 + i * 5, none⟩)) rfl (by kernel_rfl) (by kernel_rfl) (by kernel_rfl) (fun _ _ _ h => h) (Or.inl ⟨by rfl, fun w => by go_simp⟩) ?_
      refine wpAny_take (i := 9) (v := Value.pointer (some ⟨b1, o1 + i * 5 + 1, none⟩)) rfl (by kernel_rfl) (by kernel_rfl) (by kernel_rfl) (fun _ _ _ h => h) (Or.inl ⟨by rfl, fun w => by go_simp⟩) ?_
      refine wpAny_ready (rs := [5, 10]) (by kernel_rfl) (by simp) ?_
      refine AllReady.cons rfl (fun K hK => ?_) (AllReady.cons rfl (fun K hK => ?_) AllReady.nil)
      · go_simp
        refine hK _ _ ?_
        clear hK K
        refine wpAny_ready (rs := [10]) (by kernel_rfl) (by simp) ?_
        refine AllReady.cons rfl (fun K hK => ?_) AllReady.nil
        go_simp
        refine hK _ _ ?_
        clear hK K
        refine any_tail 11 (by kernel_rfl) ?_
        simp only [List.drop_succ_cons, List.drop_zero]
        go_wp2_with (at_builtin; refine app_rc tyScan (dst := some 23) (base := w.heap.size) (g := W1.heap.size) (r := r) ?_ ?_ HOA.out HN.out HKP.out OKR.out HLM.out HBA.out.size (Nat.le_refl _) ?_; exact rfl; exact rfl; intro v5 w5 ho5 hg5; have B5 := Lib.hid (below_grownR HBA.out hg5 HOA.out HBA.out.size (Nat.le_refl _)); have HO5 := Lib.hid ho5; clear ho5 hg5)
        go_roundw
        case rel => exact ⟨i + 1, by omega, by go_num, by show OwR _ _ _ _ _ _; rw [HS.out]; exact HO5.out, B5⟩
        case measure => simp [intOf]; omega
      · go_simp
        refine hK _ _ ?_
        clear hK K
        refine wpAny_ready (rs := [5]) (by kernel_rfl) (by simp) ?_
        refine AllReady.cons rfl (fun K hK => ?_) AllReady.nil
        go_simp
        refine hK _ _ ?_
        clear hK K
        refine any_tail 11 (by kernel_rfl) ?_
        simp only [List.drop_succ_cons, List.drop_zero]
        go_wp2_with (at_builtin; refine app_rc tyScan (dst := some 23) (base := w.heap.size) (g := W1.heap.size) (r := r) ?_ ?_ HOA.out HN.out HKP.out OKR.out HLM.out HBA.out.size (Nat.le_refl _) ?_; exact rfl; exact rfl; intro v5 w5 ho5 hg5; have B5 := Lib.hid (below_grownR HBA.out hg5 HOA.out HBA.out.size (Nat.le_refl _)); have HO5 := Lib.hid ho5; clear ho5 hg5)
        go_roundw
        case rel => exact ⟨i + 1, by omega, by go_num, by show OwR _ _ _ _ _ _; rw [HS.out]; exact HO5.out, B5⟩
        case measure => simp [intOf]; omega
    · obtain rfl : i = n := by omega
      have hl4 : decide ((i : Int) < (i : Int)) = false := decide_eq_false (by omega)
      have ht : R.take i = R := List.take_of_length_le (by rw [N.out]; exact Nat.le_refl _)
      rw [ht] at HO
      obtain ⟨ao, co, rfl, -, -⟩ := owR_form HO.out
      generalize R.length = m at *
      clear ht
      go_wp2
      go_ret
      exact ⟨⟨_, rfl, owR_rs HO.out⟩, HB.out⟩
end Go.Proofs.YtlnccofanicihaaDoor.Gf
