/- What is proved here: the contract of the program's Encode (superblock). Condition: the table of crc32c as laid. -/
import Derived.Test.YtekdnloabhnngaaDoorP7a
import Derived.Lib.AppendStr
namespace Go.Proofs.YtekdnloabhnngaaDoor.Gf
open Go Go.ChangeShapes Go.WideShapes Go.ChangeAt Go.RowKit Go.Proofs.YtekdnloabhnngaaDoor.By Go.Proofs.YtekdnloabhnngaaDoor.Crc Go.Proofs.YtekdnloabhnngaaDoor.Qt

/-- append of a constant string to a slice of the call's own. -/
theorem app_str {ops : Array Oper} {rest : List Oper} {dst : Option Tmp} {s : Operand} {k : ByteArray} {pos : String} {after : Array Edge} {ty : TypeId} {a : Act} {W : World} {Q : Exit → Act → World → Prop}
    {base : Nat} {v : Value} {l m : List Nat} (hs : a.eval s = v) (hv : Own W base v l) (hm : ∀ b ∈ m, b < 256) (hc : Lib.strCells k = cellsOf m) (hlm : l.length + m.length ≤ 100000000) (hb : base ≤ W.heap.size)
    (h : ∀ v' w', Own w' base v' (l ++ m) → W.grownBy w' v.ownBlock → wpList Tryd.prog ops Q rest (a.put dst v') w') : wpList Tryd.prog ops Q (⟨dst, .call { callee := .builtin .append, args := #[s, .const (.string k)], argTypes := #[26, 9] }, ty, pos, after, none⟩ :: rest) a W := by
  refine wpList_plain rfl fun K hK => ?_
  obtain ⟨i, hi, hz0, hz1, hz2⟩ := info_parts infoB
  have hk : k.size = m.length := by rw [← Lib.strCells_length, hc, cellsOf_length]
  obtain ⟨v', w', hr, h2, h3, -⟩ := Lib.run_append_own_string (P := Tryd.prog) W base 26 9 ty 5 i Tryd.underlying26 Tryd.underlying9 hi hz0 hz1 hz2 v l.length (cellsOf l) hv.2 k (by unfold maxLen; omega) (by omega) hb
  have hall : ∀ z ∈ l ++ m, z < 256 := fun z hz => (List.mem_append.1 hz).elim (hv.1 z) (hm z)
  have hy : a.eval (.const (.string k)) = .string k := rfl
  unfold Oper.wp execOp
  simp only [resolve, invoke, builtin, Sem.run_bind, Sem.run_pure, Result.andThen_ok, List.map_toArray, List.map_cons, List.map_nil, hs, hy, hr]
  exact hK _ _ (h v' w' ⟨hall, by rw [List.length_append, cellsOf_append, ← hk, ← hc]; exact h2⟩ h3)
/-- make([]byte, 0, m). -/
theorem make0_step {ops : Array Oper} {rest : List Oper} {dst : Option Tmp} {y : Operand} {pos : String} {after : Array Edge} {ty : TypeId} {a : Act} {W : World} {Q : Exit → Act → World → Prop} {m : Nat}
    (hx : a.eval y = .int .i64 (m : Int)) (hn : m ≤ 100000000)
    (h : wpList Tryd.prog ops Q rest (a.put dst (.slice (some ⟨W.heap.size, 0, none⟩) 0 m)) (W.alloc (.cells (cellsOf (List.replicate m 0)).toArray 5))) : wpList Tryd.prog ops Q (⟨dst, .makeSlice 26 (.const (.int .i64 0)) y, ty, pos, after, none⟩ :: rest) a W := by
  refine wpList_plain rfl fun K hK => ?_
  obtain ⟨i, hi, hz0, hz1, hz2⟩ := info_parts infoB
  have hr := run_make (P := Tryd.prog) W 26 5 i (.int .u8 0) Tryd.underlying26 hi hz0 .i64 .i64 0 (m : Int) (Int.le_refl _) (by omega) (by rw [hz2]; omega) (by omega)
  simp only [Int.toNat_natCast, hz1, Nat.mul_one, Int.toNat_zero] at hr
  have hc : madeCells (Value.int .u8 0).cells m = (cellsOf (List.replicate m 0)).toArray := by
    apply Array.ext'
    rw [show (Value.int .u8 0).cells = #[Value.int .u8 0] from rfl, toList_madeCells_one]
    simp [cellsOf]
  rw [hc] at hr
  have hz : a.eval (.const (.int .i64 0)) = .int .i64 0 := rfl
  unfold Oper.wp execOp
  simp only [hx, hz, Sem.run_bind, Sem.run_pure, hr, Result.andThen_ok]
  exact hK _ _ h
theorem own_made0 (w : World) {base m : Nat} (hb : base ≤ w.heap.size) (hn : m ≤ maxLen) : Own (w.alloc (.cells (cellsOf (List.replicate m 0)).toArray 5)) base (.slice (some ⟨w.heap.size, 0, none⟩) 0 m) [] :=
  ⟨by simp, ⟨by simp [cellsOf], Or.inr ⟨w.heap.size, m, _, by simp, hb, heap_alloc_new _ _, by simp, hn, by simp [cellsOf], by simp [cellsOf]⟩⟩⟩
set_option maxRecDepth 100000 in
theorem pencode7_bad (s g r : Int) (w : World) (h : okS s g r = false) : Calls Tryd.prog 9 #[SV s g r] w (EO w [] 1) := by
  have RV := Lib.hid (pvalid7_any s g r)
  rw [h] at RV
  unfold EO
  unfold SV at RV ⊢
  have HB0 := Lib.hid ((Below.refl w.heap.size w).alloc (Nat.le_refl _) (.cells #[.int .i64 s, .int .i64 g, .int .i64 r] 23))
  clear h
  go_enter Tryd.func9, Tryd.ntmps9
  go_wp2_with fail
  refine (RV.out _).mono ?_
  rintro e W2 ⟨rfl, hb2⟩
  have B2 := Lib.hid (bt HB0.out hb2)
  clear hb2
  go_wp2
  go_ret2
  exact ⟨⟨_, rfl, own_nil _ _⟩, B2.out⟩
theorem beL2 (s : Nat) : beL 2 s = [s / 256 % 256, s % 256] := by
  simp [beL, List.range_succ]
theorem beL4 (s : Nat) : beL 4 s = [s / 16777216 % 256, s / 65536 % 256, s / 256 % 256, s % 256] := by
  simp [beL, List.range_succ]
theorem two_sl (s : Nat) (w : World) : Sl (w.alloc (.cells #[.int .u8 ((s : Int) / 256 % 256), .int .u8 ((s : Int) % 256)] 5)) (.slice (some ⟨w.heap.size, 0, none⟩) 2 2) (beL 2 s) :=
  sl_block (beL_lt 2 s) (beL_length 2 s) (by unfold maxLen; decide) (by rw [beL2]; rfl) (heap_alloc_new w _)
theorem four_sl (s : Nat) (w : World) : Sl (w.alloc (.cells #[.int .u8 ((s : Int) / 16777216 % 256), .int .u8 ((s : Int) / 65536 % 256), .int .u8 ((s : Int) / 256 % 256), .int .u8 ((s : Int) % 256)] 5)) (.slice (some ⟨w.heap.size, 0, none⟩) 4 4) (beL 4 s) :=
  sl_block (beL_lt 4 s) (beL_length 4 s) (by unfold maxLen; decide) (by rw [beL4]; rfl) (heap_alloc_new w _)
theorem bel_al (w : World) (o : Obj) : Below w.heap.size w (w.alloc o) := (Below.refl _ _).alloc (Nat.le_refl _) _
set_option maxRecDepth 100000 in
set_option maxHeartbeats 6400000 in
theorem pencode7_ok (s g r : Nat) (w : World) (h : okS s g r = true) (ht : Tab w) : Calls Tryd.prog 9 #[SV s g r] w (EO w (encS s g r) 0) := by
  have RV := Lib.hid (pvalid7_any s g r)
  rw [h] at RV
  obtain ⟨-, h2, -, h4, -, h6⟩ := okS_iff.1 h
  unfold EO
  unfold SV at RV ⊢
  have HB0 := Lib.hid ((Below.refl w.heap.size w).alloc (Nat.le_refl _) (.cells #[.int .i64 (s : Int), .int .i64 (g : Int), .int .i64 (r : Int)] 23))
  have X0 := Lib.hid (heap_alloc_new w (.cells #[.int .i64 (s : Int), .int .i64 (g : Int), .int .i64 (r : Int)] 23))
  have CK := Lib.hid (fun W v (h : St7 w W #[.int .i64 (s : Int), .int .i64 (g : Int), .int .i64 (r : Int)] v ([] ++ [78, 86, 79, 76] ++ beL 2 s ++ beL 2 g ++ beL 4 r)) => pcheck7_any v _ W h.own.sl (tab_below ht h.below))
  have hlt : ext 0 (bodS s g r) < 4294967296 := ext_lt (by decide) (bodS_lt s g r)
  rw [show encS s g r = bodS s g r ++ leL (ext 0 (bodS s g r)) from rfl]
  rw [show [] ++ [78, 86, 79, 76] ++ beL 2 s ++ beL 2 g ++ beL 4 r = bodS s g r from rfl] at CK
  generalize ext 0 (bodS s g r) = S at *
  have HC := Lib.hid (leL_cells hlt)
  rw [leL_cells hlt] at CK
  clear h ht hlt
  go_enter Tryd.func9, Tryd.ntmps9
  go_wp2_with fail
  refine (RV.out _).mono ?_
  rintro e W2 ⟨rfl, hb2⟩
  have B2 := Lib.hid (bt HB0.out hb2)
  have X2 := Lib.hid ((hb2.block w.heap.size (lt_of_some X0.out)).trans X0.out)
  have HRG := Lib.hid (And.intro h2 (And.intro h4 h6))
  clear hb2 h2 h4 h6
  have S3 : Hid (St7 w (W2.alloc (.cells (cellsOf (List.replicate 16 0)).toArray 5)) #[.int .i64 (s : Int), .int .i64 (g : Int), .int .i64 (r : Int)] (.slice (some ⟨W2.heap.size, 0, none⟩) 0 16) []) :=
    ⟨B2.out.alloc B2.out.size _, (heap_alloc_old _ _ (lt_of_some X2.out)).trans X2.out, own_made0 W2 (lt_of_some X2.out) (by unfold maxLen; decide)⟩
  go_wp2_with (first
    | (refine make0_step (dst := some 9) (m := 16) ?_ (by decide) ?_; exact rfl; generalize W2.alloc (.cells (cellsOf (List.replicate 16 0)).toArray 5) = W3 at *; generalize W2.heap.size = g3 at *)
    | (at_builtin; refine app_str (dst := some 10) (l := []) (m := [78, 86, 79, 76]) ?_ S3.out.own (by decide) rfl (by decide) S3.out.size ?_; exact rfl; intro v4 w4 ho4 hg4; obtain ⟨a4, n4, cc4, rfl, -⟩ := own_form ho4; have s4 := S3.out.app hg4 ho4; obtain ⟨c0, c1, c2, -, -, -⟩ := bx3 s4.box; have S4 := Lib.hid s4; clear ho4 hg4 s4)
    | (at_builtin; refine app_sl (dst := some 20) ?_ ?_ (S4.out.later (bel_al w4 _)).own (two_sl s w4) (by simp [beL_length]) (S4.out.later (bel_al w4 _)).size ?_; exact rfl; exact rfl; intro v5 w5 ho5 hg5; obtain ⟨a5, n5, cc5, rfl, -⟩ := own_form ho5; have s5 := (S4.out.later (bel_al w4 _)).app hg5 ho5; clear c0 c1 c2; obtain ⟨c0, c1, c2, -, -, -⟩ := bx3 s5.box; have S5 := Lib.hid s5; clear ho5 hg5 s5)
    | (at_builtin; refine app_sl (dst := some 30) ?_ ?_ (S5.out.later (bel_al w5 _)).own (two_sl g w5) (by simp [beL_length]) (S5.out.later (bel_al w5 _)).size ?_; exact rfl; exact rfl; intro v6 w6 ho6 hg6; obtain ⟨a6, n6, cc6, rfl, -⟩ := own_form ho6; have s6 := (S5.out.later (bel_al w5 _)).app hg6 ho6; clear c0 c1 c2; obtain ⟨c0, c1, c2, -, -, -⟩ := bx3 s6.box; have S6 := Lib.hid s6; clear ho6 hg6 s6)
    | (at_builtin; refine app_sl (dst := some 48) ?_ ?_ (S6.out.later (bel_al w6 _)).own (four_sl r w6) (by simp [beL_length]) (S6.out.later (bel_al w6 _)).size ?_; exact rfl; exact rfl; intro v7 w7 ho7 hg7; obtain ⟨a7, n7, cc7, rfl, -⟩ := own_form ho7; have s7 := (S6.out.later (bel_al w6 _)).app hg7 ho7; have S7 := Lib.hid s7; clear ho7 hg7 s7)
    | (go_at_call 19; refine (CK.out _ _ S7.out).mono ?_; rintro e w8 ⟨rfl, hb8⟩; have S8 := Lib.hid (S7.out.later hb8); have HS8 := Lib.hid (sl_array (g := w8.heap.size) (n := 4) (leL_lt S) rfl (by unfold maxLen; decide) HC.out.symm (heap_alloc_new w8 (.cells #[.int .u8 ((S : Int) % 256), .int .u8 ((S : Int) / 256 % 256), .int .u8 ((S : Int) / 65536 % 256), .int .u8 ((S : Int) / 16777216)] 43))); clear hb8)
    | (at_builtin; refine app_sl (dst := some 53) ?_ ?_ (S8.out.later (bel_al w8 _)).own HS8.out (by simp [beL_length, leL_length]) (S8.out.later (bel_al w8 _)).size ?_; exact rfl; exact rfl; intro v9 w9 ho9 hg9; obtain ⟨a9, n9, cc9, rfl, -⟩ := own_form ho9; have S9 := Lib.hid ((S8.out.later (bel_al w8 _)).app hg9 ho9); clear ho9 hg9))
  go_ret2
  exact ⟨⟨_, rfl, own_base (by omega) S9.out.own⟩, S9.out.below⟩
end Go.Proofs.YtekdnloabhnngaaDoor.Gf
