/- What is proved here: the contracts of the program's checksum, appendNumber, appendEntry and Encode (index). Conditions: the table of crc32c as laid; lists of at most 1000 items. -/
import Derived.Test.YtihjfnlimdcmkaaDoorP8a
import Derived.Test.YtihjfnlimdcmkaaDoorR8i
namespace Go.Proofs.YtihjfnlimdcmkaaDoor.Gf
open Go Go.Joins Go.ChangeShapes Go.WideShapes Go.ChangeAt Go.RowKit Go.Deep Go.Proofs.YtihjfnlimdcmkaaDoor.By Go.Proofs.YtihjfnlimdcmkaaDoor.Crc Go.Proofs.YtihjfnlimdcmkaaDoor.Qt

theorem tab_below {w w' : World} (h : Tab w) (hb : Below w.heap.size w w') : Tab w' := fun i hi => (hb.cell (block_lt_of_cell (h i hi))).trans (h i hi)
theorem info4 : (Tryd.prog.info? 57).map (·.size) = some 4 := by kernel_rfl
set_option maxRecDepth 100000 in
theorem pcheck8_any (v : Value) (l : List Nat) (w : World) (s : Sl w v l) (ht : Tab w) : Calls Tryd.prog 37 #[v] w fun e w' => e = .returned (.agg (cellsOf (leL (ext 0 l))).toArray) ∧ Below w.heap.size w w' := by
  have RS := Lib.hid (fun W (hW : Below w.heap.size w W) (ht : Tab W) => sum_any v l W (sl_below s hW) ht)
  have hlt : ext 0 l < 4294967296 := ext_lt (by decide) s.1
  generalize ext 0 l = S at *
  have HB := Lib.hid ((Below.refl w.heap.size w).alloc (Nat.le_refl _) (.cells #[.int .u8 0, .int .u8 0, .int .u8 0, .int .u8 0] 57))
  rw [leL_cells hlt]
  clear s
  have HT := Lib.hid (tab_below ht HB.out)
  go_enter Tryd.func37, Tryd.ntmps37
  go_wp2_with (go_at_call 45; refine (RS.out _ HB.out HT.out).mono ?_; rintro e w2 ⟨rfl, rfl⟩)
  exact bodyPost_ret (results_cell_row Tryd.results37 _ _ w.heap.size 57 _ (0, 0) _ rfl (heap_alloc_new _ _) Tryd.underlying57 rfl info4) rfl ⟨rfl, (Below.refl w.heap.size w).alloc (Nat.le_refl _) _⟩
/-- An array of bytes in a block of its own, as a slice. -/
theorem sl_array {w : World} {g n : Nat} {T : TypeId} {fr : Nat × Nat} {l : List Nat} {cs : Array Value} (hl : ∀ b ∈ l, b < 256) (hn : l.length = n) (hm : n ≤ maxLen) (hcs : cs = (cellsOf l).toArray) (hg : w.heap[g]? = some (.cells cs T fr)) :
    Sl w (.slice (some ⟨g, 0, none⟩) n n) l := by
  subst hn
  refine ⟨hl, hm, Or.inr ⟨g, 0, l.length, rfl, Nat.le_refl _, hm, fun k hk => ?_⟩⟩
  rw [Nat.zero_add, cell_of_row w g k cs T fr hg, hcs]
  simp [List.getD, hk, cellsOf]
/-- make([]byte, 0, m). -/
theorem make0_step {ops : Array Oper} {rest : List Oper} {dst : Option Tmp} {y : Operand} {pos : String} {after : Array Edge} {ty : TypeId} {a : Act} {W : World} {Q : Exit → Act → World → Prop} {m : Nat}
    (hx : a.eval y = .int .i64 (m : Int)) (hn : m ≤ 100000000)
    (h : wpList Tryd.prog ops Q rest (a.put dst (.slice (some ⟨W.heap.size, 0, none⟩) 0 m)) (W.alloc (.cells (cellsOf (List.replicate m 0)).toArray 5))) : wpList Tryd.prog ops Q (⟨dst, .makeSlice 27 (.const (.int .i64 0)) y, ty, pos, after, none⟩ :: rest) a W := by
  refine wpList_plain rfl fun K hK => ?_
  obtain ⟨i, hi, hz0, hz1, hz2⟩ := info_parts infoB
  have hr := run_make (P := Tryd.prog) W 27 5 i (.int .u8 0) Tryd.underlying27 hi hz0 .i64 .i64 0 (m : Int) (Int.le_refl _) (by omega) (by rw [hz2]; omega) (by omega)
  simp only [Int.toNat_natCast, hz1, Nat.mul_one, Int.toNat_zero] at hr
  have hc : madeCells (Value.int .u8 0).cells m = (cellsOf (List.replicate m 0)).toArray := by
    apply Array.ext'
    rw [show (Value.int .u8 0).cells = #[Value.int .u8 0] from rfl, toList_madeCells_one]
    simp [cellsOf]
  rw [hc] at hr
  have hz : a.eval (.const (.int .i64 0)) = .int .i64 0 := rfl
  unfold Oper.wp execOp
  simp only [hx, hz, Sem.run_bind, Sem.run_pure, hr, Result.andThen_ok]
  exact hK _ _ h
theorem own_made0 (w : World) {base m : Nat} (hb : base ≤ w.heap.size) (hn : m ≤ maxLen) : Own (w.alloc (.cells (cellsOf (List.replicate m 0)).toArray 5)) base (.slice (some ⟨w.heap.size, 0, none⟩) 0 m) [] :=
  ⟨by simp, ⟨by simp [cellsOf], Or.inr ⟨w.heap.size, m, _, by simp, hb, heap_alloc_new _ _, by simp, hn, by simp [cellsOf], by simp [cellsOf]⟩⟩⟩
/-- What lies below base stays, and so does every block of another type than bytes. -/
structure Kept (base : Nat) (W W' : World) : Prop where
  below : Below base W W'
  box : ∀ (q : Nat) (cs : Array Value) (T : TypeId) (fr : Nat × Nat), W.heap[q]? = some (.cells cs T fr) → T ≠ 5 → W'.heap[q]? = some (.cells cs T fr)
theorem Kept.refl (base : Nat) (W : World) : Kept base W W := ⟨Below.refl _ _, fun _ _ _ _ h _ => h⟩
theorem Kept.trans {base : Nat} {W W1 W2 : World} (h : Kept base W W1) (h2 : Kept base W1 W2) : Kept base W W2 := ⟨h.below.trans h2.below, fun q cs T fr a b => h2.box q cs T fr (h.box q cs T fr a b) b⟩
theorem Kept.of {base : Nat} {W W' : World} (h : Below W.heap.size W W') (hb : base ≤ W.heap.size) : Kept base W W' := ⟨h.mono hb, fun q _ _ _ a _ => (h.block q (lt_of_some a)).trans a⟩
theorem Kept.app {base : Nat} {W W' : World} {v : Value} {l : List Nat} (h : W.grownBy W' v.ownBlock) (ho : Own W base v l) (hb : base ≤ W.heap.size) : Kept base W W' :=
  ⟨below_grown (Below.refl _ _) h ho hb (Nat.le_refl _), fun q cs T fr a b => by
    rw [h.block q (lt_of_some a) (fun e => ?_)]
    · exact a
    · obtain ⟨_, _, ⟨rfl, _⟩ | ⟨g, _, cq, rfl, _, hq, _⟩⟩ := ho
      · cases e
      · obtain rfl : q = g := by simpa [Value.ownBlock] using e
        rw [a] at hq
        have e2 : T = 5 := by simp at hq; exact hq.2.1
        exact b e2⟩
set_option maxRecDepth 100000 in
theorem pappnum_any (v : Value) (l : List Nat) (x n base : Nat) (W : World) (ho : Own W base v l) (hb : base ≤ W.heap.size) (hl : l.length ≤ 90000) (hn : n ≤ 8) : Calls Tryd.prog 43 #[v, .int .u64 (x : Int), .int .i64 (n : Int)] W fun e w' => (∃ v', e = .returned v' ∧ Own w' base v' (l ++ beL n x)) ∧ Kept base W w' := by
  have O0 := Lib.hid ho
  have HL := Lib.hid hl
  have HB := Lib.hid hb
  obtain ⟨va, vn, vc, rfl, -⟩ := own_form ho
  clear ho hl hb
  go_enter Tryd.func43, Tryd.ntmps43
  go_wp2_with fail
  go_loopw [0, 7] (fun out t wr => ∃ j : Nat, j ≤ n ∧ t = .int .i64 ((n : Int) - 1 - (j : Int)) ∧ Own wr base out (l ++ (beL n x).take j) ∧ Kept base W wr) (fun _ t _ => (intOf t + 1).toNat)
  case atStart => exact ⟨0, by omega, by go_num, by simpa using O0.out, Kept.refl _ _⟩
  case round =>
    obtain ⟨j, hj, rfl, hO, hK⟩ := hrel
    obtain ⟨oa, on, oc, rfl, hon⟩ := own_form hO
    by_cases hjn : j < n
    · obtain ⟨i, hi⟩ : ∃ i : Nat, i = n - 1 - j := ⟨_, rfl⟩
      have e0 : (n : Int) - 1 - (j : Int) = (i : Int) := by omega
      rw [e0]
      have hg : decide ((0 : Int) ≤ (i : Int)) = true := decide_eq_true (by omega)
      have hi8 : i < 8 := by omega
      have HS := Lib.hid (beL_take_succ (v := x) hjn)
      rw [← hi] at HS
      obtain ⟨z, hz⟩ : ∃ z, z = x / 256 ^ i % 256 := ⟨_, rfl⟩
      rw [← hz] at HS
      have hz2 : (x : Int) / 2 ^ (8 * i) % 256 = (z : Int) := by
        rw [hz, show (256 : Nat) ^ i = 2 ^ (8 * i) by rw [Nat.pow_mul]]
        simp
      have HZ : Hid (z < 256) := by show z < 256; rw [hz]; exact Nat.mod_lt _ (by decide)
      have HLN : Hid ((l ++ (beL n x).take j).length + [z].length ≤ 100000000) := by show _ ≤ _; have := HL.out; rw [List.length_append, List.length_take]; simp; omega
      have HI : Hid (i = n - 1 - j) := hi
      have HO := Lib.hid hO
      have HK := Lib.hid hK
      have HJ := Lib.hid hjn
      have HSZ : Hid (base ≤ wr.heap.size) := Nat.le_trans HB.out hK.below.size
      clear hO hK hi e0 hon hz hjn
      go_wp2_with (at_builtin; refine app_sl (dst := some 21) ?_ ?_ (own_below' HO.out ((Below.refl wr.heap.size wr).alloc (Nat.le_refl _) _)) (sl_one HZ.out (heap_alloc_new _ _)) HLN.out (by have := HSZ.out; simp; omega) ?_; exact rfl; exact rfl; intro v5 w5 ho5 hg5; rw [List.append_assoc, ← HS.out] at ho5; obtain ⟨sa, sn, sc, hv5, -⟩ := own_form ho5; subst hv5; have HO5 := Lib.hid ho5; have HG5 := Lib.hid hg5; clear ho5 hg5)
      have HKF := Lib.hid ((HK.out.trans (Kept.of (bel_al wr (.cells #[.int .u8 (z : Int)] 5)) HSZ.out)).trans (Kept.app HG5.out (own_below' HO.out (bel_al wr _)) (by have := HSZ.out; simp; omega)))
      go_roundw
      case rel => exact ⟨j + 1, HJ.out, by have := HI.out; have := HJ.out; exact congrArg (Value.int .i64) (by omega), HO5.out, HKF.out⟩
      case measure => simp [intOf]
    · obtain rfl : j = n := by omega
      have hg : decide ((0 : Int) ≤ (j : Int) - 1 - (j : Int)) = false := decide_eq_false (by omega)
      rw [List.take_of_length_le (by rw [beL_length]; exact Nat.le_refl _)] at hO
      have HO := Lib.hid hO
      have HK := Lib.hid hK
      clear hO hK hon
      go_wp2
      go_ret
      exact ⟨⟨_, rfl, HO.out⟩, HK.out⟩
/-- The writer of an entry: its bytes, and the box of the item. -/
structure SE (base q : Nat) (cs : Array Value) (W0 W : World) (v : Value) (L : List Nat) : Prop where
  own : Own W base v L
  kept : Kept base W0 W
  box : W.heap[q]? = some (.cells cs 41 (0, 0))
  size : base ≤ W.heap.size
theorem SE.next {base q : Nat} {cs : Array Value} {W0 W W' : World} {v v' : Value} {L L' : List Nat} (h : SE base q cs W0 W v L) (ho : Own W' base v' L') (hk : Kept base W W') : SE base q cs W0 W' v' L' :=
  ⟨ho, h.kept.trans hk, hk.box q _ _ _ h.box (by decide), Nat.le_trans h.size hk.below.size⟩
theorem SE.later {base q : Nat} {cs : Array Value} {W0 W W' : World} {v : Value} {L : List Nat} (h : SE base q cs W0 W v L) (hb : Below W.heap.size W W') : SE base q cs W0 W' v L :=
  h.next (own_below' h.own hb) (Kept.of hb h.size)
theorem SE.cells {base q : Nat} {a b c d : Value} {W0 W : World} {v : Value} {L : List Nat} (h : SE base q #[a, b, c, d] W0 W v L) : W.cell? ⟨q, 0, none⟩ = some a ∧ W.cell? ⟨q, 1, none⟩ = some b ∧ W.cell? ⟨q, 2, none⟩ = some c ∧ W.cell? ⟨q, 3, none⟩ = some d :=
  ⟨cell_of_row W q 0 _ _ _ h.box, cell_of_row W q 1 _ _ _ h.box, cell_of_row W q 2 _ _ _ h.box, cell_of_row W q 3 _ _ _ h.box⟩
set_option maxRecDepth 100000 in
set_option maxHeartbeats 6400000 in
theorem pappent_any (v : Value) (l : List Nat) (key ck o z base : Nat) (W : World) (ho : Own W base v l) (hb : base ≤ W.heap.size) (hl : l.length ≤ 80000) (hT : ∀ W', Kept base W W' → Tab W') (k2 : ck < 4294967296) (k3 : o ≤ 1048576) (k4 : z ≤ 4096) :
    Calls Tryd.prog 34 #[v, TV ⟨key, ck, o, z⟩] W fun e w' => (∃ v', e = .returned v' ∧ Own w' base v' (l ++ recT ⟨key, ck, o, z⟩)) ∧ Kept base W w' := by
  obtain ⟨B, hB⟩ : ∃ B, B = bodT ⟨key, ck, o, z⟩ := ⟨_, rfl⟩
  have eB : B = beL 8 key ++ beL 4 ck ++ beL 4 o ++ beL 4 z := by rw [hB]; simp [bodT]
  have hBl : B.length = 20 := by rw [hB]; exact bodT_length _
  have hBb : ∀ b ∈ B, b < 256 := by rw [hB]; exact bodT_lt _
  rw [show recT ⟨key, ck, o, z⟩ = B ++ leL (ext 0 B) by rw [hB]; rfl]
  have hlt : ext 0 B < 4294967296 := ext_lt (by decide) hBb
  have CK := Lib.hid (fun v W (h : Sl W v B) (ht : Tab W) => pcheck8_any v B W h ht)
  generalize ext 0 B = S at *
  have HC := Lib.hid (leL_cells hlt)
  rw [leL_cells hlt] at CK
  have PN := Lib.hid (fun (v : Value) (l : List Nat) (x n : Nat) (W : World) (a : Own W base v l) b c d => pappnum_any v l x n base W a b c d)
  have HL := Lib.hid hl
  have HT := Lib.hid hT
  have EB := Lib.hid (And.intro eB hBl)
  have S1 : Hid (SE base W.heap.size #[.int .u64 (key : Int), .int .u32 (ck : Int), .int .i64 (o : Int), .int .i64 (z : Int)] W (W.alloc (.cells #[.int .u64 (key : Int), .int .u32 (ck : Int), .int .i64 (o : Int), .int .i64 (z : Int)] 41)) v l) :=
    ⟨own_below' ho (bel_al _ _), Kept.of (bel_al _ _) hb, heap_alloc_new _ _, by simp; omega⟩
  obtain ⟨va, vn, vc, rfl, hvn⟩ := own_form ho
  have HVN := Lib.hid hvn
  have uo : IntKind.u64.wrap (o : Int) = (o : Int) := IntWalk.u64_in _ (by omega)
  have uz : IntKind.u64.wrap (z : Int) = (z : Int) := IntWalk.u64_in _ (by omega)
  have uc : IntKind.u64.wrap (ck : Int) = (ck : Int) := IntWalk.u64_in _ (by omega)
  clear ho hb hl hT k2 k3 k4 eB hBl hBb hlt hB hvn
  unfold TV
  go_enter Tryd.func34, Tryd.ntmps34
  obtain ⟨c0, c1, c2, c3⟩ := S1.out.cells
  go_wp2_with fail
  refine (PN.out _ l key 8 _ S1.out.own S1.out.size (by have := HL.out; omega) (by decide)).mono ?_
  rintro e w2 ⟨⟨v2, rfl, ho2⟩, hk2⟩
  have S2 := Lib.hid (S1.out.next ho2 hk2)
  clear ho2 hk2 c0 c1 c2 c3
  obtain ⟨c0, c1, c2, c3⟩ := S2.out.cells
  go_wp2_with fail
  refine (PN.out _ _ ck 4 _ S2.out.own S2.out.size (by have := HL.out; rw [List.length_append, beL_length]; omega) (by decide)).mono ?_
  rintro e w3 ⟨⟨v3, rfl, ho3⟩, hk3⟩
  have S3 := Lib.hid (S2.out.next ho3 hk3)
  clear ho3 hk3 c0 c1 c2 c3
  obtain ⟨c0, c1, c2, c3⟩ := S3.out.cells
  go_wp2_with fail
  refine (PN.out _ _ o 4 _ S3.out.own S3.out.size (by have := HL.out; rw [List.length_append, List.length_append, beL_length, beL_length]; omega) (by decide)).mono ?_
  rintro e w4 ⟨⟨v4, rfl, ho4⟩, hk4⟩
  have S4 := Lib.hid (S3.out.next ho4 hk4)
  clear ho4 hk4 c0 c1 c2 c3
  obtain ⟨c0, c1, c2, c3⟩ := S4.out.cells
  go_wp2_with fail
  refine (PN.out _ _ z 4 _ S4.out.own S4.out.size (by have := HL.out; rw [List.length_append, List.length_append, List.length_append, beL_length, beL_length, beL_length]; omega) (by decide)).mono ?_
  rintro e w5 ⟨⟨v5, rfl, ho5⟩, hk5⟩
  rw [show l ++ beL 8 key ++ beL 4 ck ++ beL 4 o ++ beL 4 z = l ++ B by rw [EB.out.1]; simp] at ho5
  have S5 := Lib.hid (S4.out.next ho5 hk5)
  clear c0 c1 c2 c3
  have hlen : (l ++ B).length = vn + 20 := by rw [List.length_append, EB.out.2, HVN.out]
  obtain ⟨g, cap, rfl, hg1, hg2⟩ := own_some ho5 (by rw [hlen]; omega)
  rw [hlen] at S5 ⊢
  obtain ⟨f1, f2, f3⟩ : vn + 20 ≤ cap ∧ cap ≤ maxLen ∧ ∀ k, k < vn + 20 → w5.cell? ⟨g, 0 + k, none⟩ = some (.int .u8 (((l ++ B).getD k 0 : Nat) : Int)) := by
    obtain ⟨q1, q2, ⟨a', cap', q3, q4, -⟩ | ⟨b', off', cap', q3, q4, q5, q6⟩⟩ := ho5.sl
    · rw [q4] at hlen; simp at hlen
    · obtain ⟨⟨rfl, rfl⟩, rfl⟩ : (g = b' ∧ 0 = off') ∧ cap = cap' := by simpa using q3
      exact ⟨by omega, q5, fun k hk => q6 k (by omega)⟩
  have hcut := sl_cut ho5.1 hlen f2 f1 f3 (p := vn) (c := 20) (by omega)
  rw [show ((l ++ B).drop vn).take 20 = B by rw [List.drop_left' HVN.out.symm, List.take_of_length_le (by rw [EB.out.2]; omega)], Nat.zero_add] at hcut
  have CUT := Lib.hid hcut
  have TB := Lib.hid (HT.out w5 S5.out.kept)
  have g1 : (vn : Int) ≤ (vn : Int) + 20 := by omega
  have g2 : ¬ cap = vn := by omega
  have g3 : vn ≤ vn + 20 := by omega
  have g4 : vn ≤ cap := by omega
  have g5 : (vn : Int) ≤ (cap : Int) := by omega
  have g6 : vn + 20 ≤ cap := f1
  have g7 : (vn : Int) + 20 ≤ (cap : Int) := by omega
  clear ho5 hk5 hlen hg1 hg2 f1 f2 f3 hcut
  go_wp2_with fail
  refine (CK.out _ _ CUT.out TB.out).mono ?_
  rintro e w6 ⟨rfl, hb6⟩
  have S6 := Lib.hid (S5.out.later hb6)
  have HS6 := Lib.hid (sl_array (g := w6.heap.size) (n := 4) (leL_lt S) rfl (by unfold maxLen; decide) HC.out.symm (heap_alloc_new w6 (.cells #[.int .u8 ((S : Int) % 256), .int .u8 ((S : Int) / 256 % 256), .int .u8 ((S : Int) / 65536 % 256), .int .u8 ((S : Int) / 16777216)] 57)))
  clear hb6 g1 g2 g3 g4 g5 g6 g7
  have HLN : Hid ((l ++ B).length + (leL S).length ≤ 100000000) := by show _ ≤ _; have := HL.out; rw [List.length_append, EB.out.2, leL_length]; omega
  go_wp2_with (at_builtin; go_loud (refine app_sl (dst := some 34) ?_ ?_ (S6.out.later (bel_al w6 _)).own HS6.out HLN.out (S6.out.later (bel_al w6 _)).size ?_); exact rfl; exact rfl; intro v9 w9 ho9 hg9; obtain ⟨a9, n9, cc9, rfl, -⟩ := own_form ho9; have S9 := Lib.hid ((S6.out.later (bel_al w6 _)).next ho9 (Kept.app hg9 (S6.out.later (bel_al w6 _)).own (S6.out.later (bel_al w6 _)).size)); clear ho9 hg9)
  go_ret
  exact ⟨⟨_, rfl, by have := S9.out.own; rwa [List.append_assoc] at this⟩, S9.out.kept⟩
set_option maxRecDepth 100000 in
theorem pencode8_bad (v : Value) (L : List Itm) (w : World) (s : It w v L) (h : ¬ okT L) : Calls Tryd.prog 16 #[v] w (EW w [] 1) := by
  have RV := Lib.hid (pvalid8_any v L w s)
  rw [decide_eq_false h] at RV
  unfold EW
  obtain ⟨a, c, rfl, -, -⟩ := it_form s
  generalize L.length = n at *
  clear s h
  go_enter Tryd.func16, Tryd.ntmps16
  go_wp2_with fail
  refine RV.out.mono ?_
  rintro e W2 ⟨rfl, hb2⟩
  have B2 := Lib.hid hb2
  clear hb2
  go_wp2
  go_ret2
  exact ⟨⟨_, rfl, sl_nil _⟩, B2.out⟩
set_option maxRecDepth 100000 in
set_option maxHeartbeats 6400000 in
theorem pencode8_ok (v : Value) (L : List Itm) (w : World) (s : It w v L) (h : okT L) (hlen : L.length ≤ 1000) (ht : Tab w) : Calls Tryd.prog 16 #[v] w (EW w (encT L) 0) := by
  have RV := Lib.hid (pvalid8_any v L w s)
  rw [decide_eq_true h] at RV
  unfold EW
  obtain ⟨a, c, rfl, -, -⟩ := it_form s
  obtain ⟨n, hn⟩ : ∃ n, n = L.length := ⟨_, rfl⟩
  rw [← hn] at hlen ⊢
  have N := Lib.hid hn
  have S0 := Lib.hid s
  rw [← hn] at S0 RV
  have OKL := Lib.hid h.1
  have HT : Hid (∀ W, Below w.heap.size w W → Tab W) := fun W hW => tab_below ht hW
  have PE := Lib.hid (fun (v : Value) (l : List Nat) (key ck o z : Nat) (W : World) (a : Own W w.heap.size v l) b c d e f g => pappent_any v l key ck o z w.heap.size W a b c d e f g)
  obtain ⟨m, hm⟩ : ∃ m, m = 24 * n := ⟨_, rfl⟩
  have q1 : 24 * (n : Int) = (m : Int) := by omega
  have hm1 : m ≤ 100000 := by omega
  clear hn s h ht hm
  go_enter Tryd.func16, Tryd.ntmps16
  go_wp2_with fail
  refine RV.out.mono ?_
  rintro e w1 ⟨rfl, hb1⟩
  have B1 := Lib.hid (hb1.alloc hb1.size (.cells (cellsOf (List.replicate m 0)).toArray 5))
  have O1 := Lib.hid (own_made0 w1 (base := w.heap.size) (m := m) hb1.size (by unfold maxLen; omega))
  clear hb1 RV
  go_wp2_with (refine make0_step (dst := some 13) (m := m) ?_ (by omega) ?_; exact rfl; generalize w1.alloc (.cells (cellsOf (List.replicate m 0)).toArray 5) = W1 at *; generalize w1.heap.size = g1 at *)
  clear q1
  go_loopw [4, 16] (fun out t wr => ∃ i : Nat, i ≤ n ∧ t = .int .i64 (i : Int) ∧ Own wr w.heap.size out (encT (L.take i)) ∧ Below w.heap.size w wr) (fun _ t _ => n - (intOf t).toNat)
  case atStart => exact ⟨0, by omega, rfl, O1.out, B1.out⟩
  case round =>
    obtain ⟨i, hi, rfl, ho, hB⟩ := hrel
    by_cases hin : i < n
    · have hl4 : decide ((i : Int) < (n : Int)) = true := decide_eq_true (by omega)
      have p0 : (0 : Int) ≤ (i : Int) := by omega
      have p1 : (i : Int) < (n : Int) := by omega
      have N' := N.out
      have hsn := encT_snoc (L := L) (i := i) (by omega)
      obtain ⟨b1, o1, c1', hv1, -, -, hk1⟩ := it_cells S0.out (by omega)
      obtain ⟨rfl, -, -⟩ : a = some ⟨b1, o1, none⟩ ∧ n = L.length ∧ c = c1' := by simpa using hv1
      obtain ⟨k0, k1, k2, k3⟩ := (hk1 i (by omega)).below hB
      have okx := getT_ok S0.out.1 i
      have okv := OKL.out _ (getT_mem (show i < L.length by omega))
      have hle : (encT (L.take i)).length ≤ 80000 := by rw [encT_length, List.length_take]; omega
      obtain ⟨E, hE⟩ : ∃ q, q = encT (L.take i) := ⟨_, rfl⟩
      rw [← hE] at ho hsn hle
      generalize L.getD i z0 = x at *
      obtain ⟨key, ck, off, sz⟩ := x
      obtain ⟨v1, v2, -, v4, v5⟩ := okv
      obtain ⟨y1, y2, -, -⟩ := okx
      dsimp only at v1 v2 v4 v5 y1 y2 k0 k1 k2 k3
      obtain ⟨o, rfl⟩ := Int.eq_ofNat_of_zero_le (show 0 ≤ off by omega)
      obtain ⟨z, rfl⟩ := Int.eq_ofNat_of_zero_le v4
      have HBA := Lib.hid (hB.alloc hB.size (.cells #[.int .u64 (key : Int), .int .u32 (ck : Int), .int .i64 (o : Int), .int .i64 (z : Int)] 41))
      have CALL := Lib.hid (PE.out _ E key ck o z (wr.alloc (.cells #[.int .u64 (key : Int), .int .u32 (ck : Int), .int .i64 (o : Int), .int .i64 (z : Int)] 41)) (own_below' ho (bel_al _ _)) HBA.out.size hle (fun W' hW' => HT.out W' (HBA.out.trans hW'.below)) y2 (by omega) (by omega))
      have HSN := Lib.hid hsn
      obtain ⟨ao, no, co, rfl, -⟩ := own_form ho
      unfold TV at CALL
      clear hk1 hv1 N' ho hB hsn hle hE v1 v2 v4 v5 y1 y2
      go_wp2_with fail
      refine CALL.out.mono ?_
      rintro e w2 ⟨⟨v2, rfl, ho2⟩, hk2⟩
      have HO2 : Hid (Own w2 w.heap.size v2 (encT (L.take (i + 1)))) := by show Own _ _ _ _; rw [HSN.out]; exact ho2
      have HB2 := Lib.hid (HBA.out.trans hk2.below)
      clear ho2 hk2 CALL HBA k0 k1 k2 k3
      go_wp2
      go_roundw
      case rel => exact ⟨i + 1, by omega, by go_num, HO2.out, HB2.out⟩
      case measure => simp [intOf]; omega
    · obtain rfl : i = n := by omega
      have hl4 : decide ((i : Int) < (i : Int)) = false := decide_eq_false (by omega)
      rw [List.take_of_length_le (by have := N.out; omega)] at ho
      have HO := Lib.hid ho
      have HB := Lib.hid hB
      clear ho hB
      go_wp2
      go_ret2
      exact ⟨⟨_, rfl, HO.out.sl⟩, HB.out⟩
theorem pencode8_any (v : Value) (L : List Itm) (w : World) (s : It w v L) (hlen : L.length ≤ 1000) (ht : Tab w) : Calls Tryd.prog 16 #[v] w (EW w (eT L) (eE L)) := by
  unfold eT eE
  by_cases h : okT L
  · rw [if_pos h, if_pos h]; exact pencode8_ok v L w s h hlen ht
  · rw [if_neg h, if_neg h]; exact pencode8_bad v L w s h
end Go.Proofs.YtihjfnlimdcmkaaDoor.Gf
