/- What is proved here: the walk of the law NeedleSizes, over what it asks of the program. No condition. -/
import Derived.Test.YtljdbaibhpgfnaaDoorQ6f
namespace Go.Proofs.YtljdbaibhpgfnaaDoor.Gf
open Go Go.Joins Go.ChangeShapes Go.WideShapes Go.ChangeAt Go.RowKit Go.Deep Go.Proofs.YtljdbaibhpgfnaaDoor.By Go.Proofs.YtljdbaibhpgfnaaDoor.Crc Go.Proofs.YtljdbaibhpgfnaaDoor.Qt

theorem and4095 (r : Int) : ∃ M : Int, bits .and .i64 r 4095 = M ∧ I64b M := by
  refine ⟨_, rfl, ?_⟩
  have e1 : (BitVec.ofInt 64 r).toNat = (r % 18446744073709551616).toNat := by rw [BitVec.toNat_ofInt]; rfl
  have e2 : (BitVec.ofInt 64 (4095 : Int)).toNat = 4095 := rfl
  have e3 : (BitVec.ofInt 64 r &&& BitVec.ofInt 64 4095).toNat = (r % 18446744073709551616).toNat % 4096 := by rw [BitVec.toNat_and, e1, e2]; exact Nat.and_two_pow_sub_one_eq_mod _ 12
  have e : bits .and .i64 r 4095 = r % 4096 := by
    show IntKind.i64.wrap ((BitVec.ofInt 64 r &&& BitVec.ofInt 64 4095).toNat : Int) = _
    rw [e3, IntKind.wrap_i64]
    omega
  rw [e]
  unfold I64b
  omega
set_option maxRecDepth 100000 in
set_option maxHeartbeats 6400000 in
theorem sizes6_walk {Ok : World → Prop} (P : PC6 Ok) (n0 : Int) (hn : I64b n0) (v : Value) (x : Ndl) (w : World) (hw : Ok w) (h : Nd w v x) : Calls Tryd.prog 3 #[.int .i64 n0, v] w fun e w' => e = .returned (.bool true) ∧ Below w.heap.size w w' := by
  have PS := Lib.hid P.size
  have PV := Lib.hid P.valid
  have ST := Lib.hid (fun (W W' : World) => P.st (w := W) (w' := W'))
  have AW := Lib.hid (awake6_any P)
  clear P
  have HN := Lib.hid (fun W (hB : Below w.heap.size w W) => nd_below h hB)
  obtain ⟨s, rfl, -, -, h3⟩ := h
  obtain ⟨sa, sc, rfl, -, -⟩ := sl_form h3
  clear h3
  generalize x.data.length = xn at *
  have B0 := Lib.hid ((Below.refl w.heap.size w).alloc (Nat.le_refl _) (.cells #[.int .u64 (x.key : Int), .int .u32 (x.cookie : Int), .bool x.del, .slice sa xn sc] 26))
  have X0 := Lib.hid (heap_alloc_new w (.cells #[.int .u64 (x.key : Int), .int .u32 (x.cookie : Int), .bool x.del, .slice sa xn sc] 26))
  have hw0 := ST.out _ _ hw B0.out
  obtain ⟨M, hM, hM2⟩ := and4095 n0
  go_enter Tryd.func3, Tryd.ntmps3
  go_wp2_with fail
  refine wp_onlyN ?_
  generalize w.alloc (.cells #[.int .u64 (x.key : Int), .int .u32 (x.cookie : Int), .bool x.del, .slice sa xn sc] 26) = w0 at *
  have B1 := Lib.hid (Below.refl w0.heap.size w0).drew
  refine wp_region_headsS (fun w' => Below w0.heap.size w0 w') [] 25 (by kernel_rfl) (fun _ _ _ _ _ h => h.elim) (by kernel_rfl) (by rfl) (by rfl) B1.out ?_
  simp only [pickOps, List.filterMap_nil]
  refine wpHeads_nil ?_
  generalize w0.drew = w1 at *
  refine wpAnyH_take (i := 0) (v := .int .i64 n0) rfl (by kernel_rfl) (by kernel_rfl) (by kernel_rfl) (fun _ _ _ h => h) (Or.inl ⟨by rfl, fun w' hw' => by go_simp⟩) B1.out ?_
  refine wpAnyH_take (i := 2) (v := .int .i64 n0) rfl (by kernel_rfl) (by kernel_rfl) (by kernel_rfl) (fun _ _ _ h => h) (Or.inl ⟨by rfl, fun w' hw' => by go_simp⟩) B1.out ?_
  refine held_g 1 rfl (by rfl) (by kernel_rfl) fun K hK => ?_
  go_simp
  go_at_call 10
  refine (PS.out n0 w1 (ST.out _ _ hw0 B1.out) hn).mono ?_
  rintro e w2 ⟨rfl, hb⟩
  have B2 := Lib.hid (bt B1.out hb)
  refine hK _ _ B2.out ?_
  clear hK K hb
  refine held_g 3 rfl (by rfl) (by kernel_rfl) fun K hK => ?_
  go_simp
  go_at_call 11
  refine (rsize6_any n0 w2 hn).mono ?_
  rintro e _ ⟨rfl, rfl⟩
  refine hK _ _ B2.out ?_
  clear hK K
  generalize szI6 n0 = z1 at *
  refine held_g 4 rfl (by rfl) (by kernel_rfl) fun K hK => ?_
  go_simp
  refine hK _ _ B2.out ?_
  clear hK K
  refine held_g 5 rfl (by rfl) (by kernel_rfl) fun K hK => ?_
  go_simp
  refine hK _ _ B2.out ?_
  clear hK K
  refine wpAnyH_take (i := 6) (v := .int .i64 n0) rfl (by kernel_rfl) (by kernel_rfl) (by kernel_rfl) (fun _ _ _ h => h) (Or.inl ⟨by rfl, fun w' hw' => by go_simp⟩) B2.out ?_
  refine wpAnyH_take (i := 7) (v := .int .i64 M) rfl (by kernel_rfl) (by kernel_rfl) (by kernel_rfl) (fun _ _ _ h => h) (Or.inl ⟨by rfl, fun w' hw' => by go_simp⟩) B2.out ?_
  refine wpAnyH_take (i := 9) (v := .int .i64 n0) rfl (by kernel_rfl) (by kernel_rfl) (by kernel_rfl) (fun _ _ _ h => h) (Or.inl ⟨by rfl, fun w' hw' => by go_simp⟩) B2.out ?_
  refine wpAnyH_take (i := 10) (v := .int .i64 M) rfl (by kernel_rfl) (by kernel_rfl) (by kernel_rfl) (fun _ _ _ h => h) (Or.inl ⟨by rfl, fun w' hw' => by go_simp⟩) B2.out ?_
  refine held_g 8 rfl (by rfl) (by kernel_rfl) fun K hK => ?_
  go_simp
  go_at_call 10
  refine (PS.out M w2 (ST.out _ _ hw0 B2.out) hM2).mono ?_
  rintro e w3 ⟨rfl, hb⟩
  have B3 := Lib.hid (bt B2.out hb)
  refine hK _ _ B3.out ?_
  clear hK K hb
  refine held_g 11 rfl (by rfl) (by kernel_rfl) fun K hK => ?_
  go_simp
  go_at_call 11
  refine (rsize6_any M w3 hM2).mono ?_
  rintro e _ ⟨rfl, rfl⟩
  refine hK _ _ B3.out ?_
  clear hK K
  generalize szI6 M = z2 at *
  refine held_g 12 rfl (by rfl) (by kernel_rfl) fun K hK => ?_
  go_simp
  refine hK _ _ B3.out ?_
  clear hK K
  refine held_g 13 rfl (by rfl) (by kernel_rfl) fun K hK => ?_
  go_simp
  refine hK _ _ B3.out ?_
  clear hK K
  refine held_g 14 rfl (by rfl) (by kernel_rfl) fun K hK => ?_
  go_simp
  refine hK _ _ B3.out ?_
  clear hK K
  refine wpAnyH_take (i := 15) (v := .agg #[.int .u64 (x.key : Int), .int .u32 (x.cookie : Int), .bool x.del, .slice sa xn sc]) rfl (by kernel_rfl) (by kernel_rfl) (by kernel_rfl) (fun _ _ _ h => h) (Or.inl ⟨by rfl, fun w' hw' => by have hx := (hw'.block w.heap.size (lt_of_some X0.out)).trans X0.out; obtain ⟨q0, q1, q2, q3⟩ := bx_cell hx; go_simp⟩) B3.out ?_
  refine wpAnyH_take (i := 17) (v := .agg #[.int .u64 (x.key : Int), .int .u32 (x.cookie : Int), .bool x.del, .slice sa xn sc]) rfl (by kernel_rfl) (by kernel_rfl) (by kernel_rfl) (fun _ _ _ h => h) (Or.inl ⟨by rfl, fun w' hw' => by have hx := (hw'.block w.heap.size (lt_of_some X0.out)).trans X0.out; obtain ⟨q0, q1, q2, q3⟩ := bx_cell hx; go_simp⟩) B3.out ?_
  refine held_g 16 rfl (by rfl) (by kernel_rfl) fun K hK => ?_
  go_simp
  go_at_call 12
  refine (PV.out _ x w3 (ST.out _ _ hw0 B3.out) (HN.out _ (bt B0.out B3.out))).mono ?_
  rintro e w4 ⟨rfl, hb⟩
  have B4 := Lib.hid (bt B3.out hb)
  refine hK _ _ B4.out ?_
  clear hK K hb
  refine held_g 18 rfl (by rfl) (by kernel_rfl) fun K hK => ?_
  go_simp
  go_at_call 13
  refine (rvalid6_any _ x w4 (HN.out _ (bt B0.out B4.out))).mono ?_
  rintro e w5 ⟨rfl, hb⟩
  have B5 := Lib.hid (bt B4.out hb)
  refine hK _ _ B5.out ?_
  clear hK K hb
  generalize okB x = z3 at *
  refine held_g 19 rfl (by rfl) (by kernel_rfl) fun K hK => ?_
  go_simp
  refine hK _ _ B5.out ?_
  clear hK K
  refine held_g 20 rfl (by rfl) (by kernel_rfl) fun K hK => ?_
  go_simp
  refine hK _ _ B5.out ?_
  clear hK K
  refine held_g 21 rfl (by rfl) (by kernel_rfl) fun K hK => ?_
  go_simp
  refine hK _ _ B5.out ?_
  clear hK K
  refine held_g 22 rfl (by rfl) (by kernel_rfl) fun K hK => ?_
  go_simp
  go_at_call 14
  refine (AW.out w5 (ST.out _ _ hw0 B5.out)).mono ?_
  rintro e w6 ⟨rfl, hb⟩
  have B6 := Lib.hid (bt B5.out hb)
  refine hK _ _ B6.out ?_
  clear hK K hb
  refine held_g 23 rfl (by rfl) (by kernel_rfl) fun K hK => ?_
  go_simp
  refine hK _ _ B6.out ?_
  clear hK K
  refine held_g 24 rfl (by rfl) (by kernel_rfl) fun K hK => ?_
  go_simp
  refine hK _ _ B6.out ?_
  clear hK K
  refine wpAnyH_done (by kernel_rfl) ?_ _
  unfold onlyN
  dsimp only
  go_wp2_with fail
  go_ret
  exact ⟨rfl, bt B0.out B6.out⟩
end Go.Proofs.YtljdbaibhpgfnaaDoor.Gf
