/- What is proved here: the contracts of the program's number, item and Decode (index). Conditions: the table of crc32c as laid; at most 10000 bytes. -/
import Derived.Test.YtihjfnlimdcmkaaDoorP8b
import Derived.Test.YtihjfnlimdcmkaaDoorR8j
import Derived.Laws.MakeOwn
namespace Go.Proofs.YtihjfnlimdcmkaaDoor.Gf
open Go Go.Joins Go.ChangeShapes Go.WideShapes Go.ChangeAt Go.RowKit Go.Deep Go.Proofs.YtihjfnlimdcmkaaDoor.By Go.Proofs.YtihjfnlimdcmkaaDoor.Crc Go.Proofs.YtihjfnlimdcmkaaDoor.Qt

set_option maxRecDepth 100000 in
theorem pnum8_some (b o c : Nat) (l : List Nat) (w : World) (hn : l.length ≤ 8) (s : Sl w (.slice (some ⟨b, o, none⟩) l.length c) l) (h0 : 0 < l.length) : Calls Tryd.prog 46 #[.slice (some ⟨b, o, none⟩) l.length c] w fun e w' => e = .returned (.int .u64 ((valL l : Nat) : Int)) ∧ w = w' := by
  obtain ⟨n, hln⟩ : ∃ n, n = l.length := ⟨_, rfl⟩
  have HC : Hid (∀ k, k < n → w.cell? ⟨b, o + k, none⟩ = some (.int .u8 ((l.getD k 0 : Nat) : Int))) := fun k hk => by
    obtain ⟨b', o', c', hv, -, -, h⟩ := sl_cells s (by omega)
    obtain ⟨⟨rfl, rfl⟩, rfl⟩ : (b = b' ∧ o = o') ∧ c = c' := by simpa using hv
    exact h k (by omega)
  have HL := Lib.hid s.1
  rw [← hln] at hn h0 ⊢
  have HN := Lib.hid hln
  clear s hln h0
  go_enter Tryd.func46, Tryd.ntmps46
  go_wp2_with fail
  go_loopw [3, 5, 8] (fun r _ t wr => ∃ j : Nat, j ≤ n ∧ t = .int .i64 (j : Int) ∧ r = .int .u64 ((valL (l.take j) : Nat) : Int) ∧ wr = w) (fun _ _ t _ => n - (intOf t).toNat)
  case atStart => exact ⟨0, by omega, rfl, rfl, rfl⟩
  case round =>
    obtain ⟨j, hj, rfl, rfl, rfl⟩ := hrel
    by_cases hjn : j < n
    · have hl4 : decide ((j : Int) < (n : Int)) = true := decide_eq_true (by omega)
      have hc := HC.out j hjn
      have hb := getD_lt HL.out j
      have HS := Lib.hid (valL_take_succ (l := l) (j := j) (by have := HN.out; omega))
      have hv : valL (l.take j) < 72057594037927936 := by
        have h1 := valL_lt (l.take j) (mem_take HL.out j)
        have h2 : (l.take j).length ≤ 7 := by rw [List.length_take]; omega
        exact Nat.lt_of_lt_of_le h1 (by have := Nat.pow_le_pow_right (n := 256) (by decide) h2; simpa using this)
      have ho := or_byte hv hb
      generalize valL (l.take j) = V at *
      generalize l.getD j 0 = y at *
      have hs : (V : Int) * 256 % 18446744073709551616 = (V : Int) * 256 := by omega
      have p0 : (0 : Int) ≤ (j : Int) := by omega
      have p1 : (j : Int) < (n : Int) := by omega
      go_wp2
      go_roundw
      case rel => exact ⟨j + 1, by omega, by go_num, by rw [HS.out]; simp, by first | rfl | trivial⟩
      case measure => simp [intOf]; omega
    · obtain rfl : j = n := by omega
      have hl4 : decide ((j : Int) < (j : Int)) = false := decide_eq_false (by omega)
      have HV : Hid (valL (l.take j) = valL l) := by show _ = _; rw [List.take_of_length_le (by rw [← HN.out]; exact Nat.le_refl _)]
      rw [HV.out]
      go_wp2
      go_ret
      exact ⟨rfl, rfl⟩
theorem pnum8_nil (a : Option Addr) (c : Nat) (w : World) : Calls Tryd.prog 46 #[.slice a 0 c] w fun e w' => e = .returned (.int .u64 0) ∧ w = w' := by
  go_enter Tryd.func46, Tryd.ntmps46
  go_wp2_with fail
  refine wp_loop_rounds 1 ?_
  rw [rounds_succ]
  go_wp2
  go_ret
  exact ⟨rfl, rfl⟩
theorem pnum8_any (v : Value) (l : List Nat) (w : World) (s : Sl w v l) (hn : l.length ≤ 8) : Calls Tryd.prog 46 #[v] w fun e w' => e = .returned (.int .u64 ((valL l : Nat) : Int)) ∧ w = w' := by
  by_cases h : l = []
  · subst h
    obtain ⟨a, c, rfl, -, -⟩ := sl_form s
    exact pnum8_nil a c w
  · have h0 : 0 < l.length := List.length_pos_iff.2 h
    obtain ⟨b, o, c, rfl, -, -, -⟩ := sl_cells s h0
    exact pnum8_some b o c l w hn s h0
theorem run_neq4 (a0 a1 a2 a3 b0 b1 b2 b3 : Int) (W : World) : (binOp .neq 57 (.agg #[.int .u8 a0, .int .u8 a1, .int .u8 a2, .int .u8 a3]) (.agg #[.int .u8 b0, .int .u8 b1, .int .u8 b2, .int .u8 b3])).run Tryd.prog W = .ok (.bool (!(a0 == b0 && a1 == b1 && a2 == b2 && a3 == b3))) W := by
  obtain ⟨i, hi, hz0, hz1, hz2⟩ := info_parts infoB
  have h1 : ∀ (d : Nat) (a b : Int) (W : World), (Op.equalIn (d + 1) 5 (.int .u8 a) (.int .u8 b)).run Tryd.prog W = .ok (a == b) W := fun d a b W => by
    simp [Op.equalIn, run_underlying Tryd.underlying5]
  have hs : ∀ W, (sizeOf 5).run Tryd.prog W = .ok 1 W := fun W => by simp [sizeOf, typeInfo, hi, hz1]
  have h : ∀ d : Nat, (Op.equalIn (d + 2) 57 (.agg #[.int .u8 a0, .int .u8 a1, .int .u8 a2, .int .u8 a3]) (.agg #[.int .u8 b0, .int .u8 b1, .int .u8 b2, .int .u8 b3])).run Tryd.prog W = .ok (a0 == b0 && a1 == b1 && a2 == b2 && a3 == b3) W := fun d => by
    unfold Op.equalIn
    simp only [Sem.run_bind, run_underlying Tryd.underlying57, Result.andThen_ok, hs]
    simp [Std.Legacy.Range.forIn_eq_forIn_range', Std.Legacy.Range.size, List.range', List.forIn_cons, hs, h1, part]
    by_cases e0 : a0 = b0 <;> by_cases e1 : a1 = b1 <;> by_cases e2 : a2 = b2 <;> by_cases e3 : a3 = b3 <;> simp [e0, e1, e2, e3]
  simp only [binOp]
  simp [Op.equal, Op.maxDepth, h 9998]
theorem seg4 {l : List Nat} {e : Nat} (h : e + 4 ≤ l.length) : (l.drop e).take 4 = [l.getD e 0, l.getD (e + 1) 0, l.getD (e + 2) 0, l.getD (e + 3) 0] := by
  apply List.ext_getElem
  · simp; omega
  · intro i h1 h2
    have hi : i < 4 := by simpa using h2
    rw [List.getElem_take, List.getElem_drop]
    match i, hi with
    | 0, _ => have hk : e < l.length := by omega
              simp [List.getD, hk]
    | 1, _ => have hk : e + 1 < l.length := by omega
              simp [List.getD, hk]
    | 2, _ => have hk : e + 2 < l.length := by omega
              simp [List.getD, hk]
    | 3, _ => have hk : e + 3 < l.length := by omega
              simp [List.getD, hk]
theorem four_eq (q0 q1 q2 q3 a0 a1 a2 a3 : Nat) : ((q0 : Int) == (a0 : Int) && (q1 : Int) == (a1 : Int) && (q2 : Int) == (a2 : Int) && (q3 : Int) == (a3 : Int)) = decide ([a0, a1, a2, a3] = [q0, q1, q2, q3]) := by
  rw [Bool.eq_iff_iff]
  simp only [Bool.and_eq_true, beq_iff_eq, decide_eq_true_eq, List.cons.injEq, and_true]
  omega
theorem elemB : Tryd.prog.underlying 27 = some (.slice (Tryd.prog.elem 27)) := by kernel_rfl
theorem run_fromB (W : World) (a : Option Addr) {n cap l : Nat} (h1 : l ≤ n) : (Instr.sliceAt 27 (.slice a n cap) (some (.int .i64 (l : Int))) none none).run Tryd.prog W = .ok (.slice (if cap = l then a else a.map (·.add l)) (n - l) (cap - l)) W := by
  rw [run_sliceAt_slice (h := elemB)]
  simp [Instr.slice, Instr.sliceBounds, Instr.sliceBound, run_underlying Tryd.underlying27, asIntOf, h1]
/-- What lies behind the l-th byte. -/
theorem sl_from {W : World} {a : Option Addr} {n cap l : Nat} {L : List Nat} (h : Sl W (.slice a n cap) L) (hl : l ≤ n) : Sl W (.slice (if cap = l then a else a.map (·.add l)) (n - l) (cap - l)) (L.drop l) := by
  obtain ⟨a', cap', hv, h2, h3⟩ := sl_form h
  obtain ⟨rfl, rfl, rfl⟩ : a = a' ∧ n = L.length ∧ cap = cap' := by simpa using hv
  by_cases e : l = L.length
  · rw [List.drop_of_length_le (by omega), show L.length - l = 0 by omega]
    exact ⟨by simp, by simp, Or.inl ⟨_, _, rfl, rfl, by omega⟩⟩
  · obtain ⟨b, o, c, hv', hc1, hc2, hk⟩ := sl_cells h (by omega)
    obtain ⟨rfl, rfl⟩ : a = some ⟨b, o, none⟩ ∧ cap = c := by simpa using hv'
    have hc := sl_cut (p := l) (c := L.length - l) h.1 rfl hc2 hc1 hk (by omega)
    rw [List.take_of_length_le (by rw [List.length_drop]; exact Nat.le_refl _)] at hc
    rw [if_neg (by omega)]
    simpa [add_none] using hc
/-- b[l:], as a step. -/
theorem from_stepB {ops : Array Oper} {rest : List Oper} {dst : Option Tmp} {s x : Operand} {pos : String} {after : Array Edge} {ty : TypeId} {a : Act} {W : World} {Q : Exit → Act → World → Prop}
    {p : Option Addr} {n cap l : Nat} (hs : a.eval s = .slice p n cap) (hx : a.eval x = .int .i64 (l : Int)) (h1 : l ≤ n)
    (h : wpList Tryd.prog ops Q rest (a.put dst (.slice (if cap = l then p else p.map (·.add l)) (n - l) (cap - l))) W) : wpList Tryd.prog ops Q (⟨dst, .slice 27 s (some x) none none, ty, pos, after, none⟩ :: rest) a W := by
  refine wpList_plain rfl fun K hK => ?_
  unfold Oper.wp execOp
  simp only [hs, hx, Option.map_some, Option.map_none, Sem.run_bind, Sem.run_pure, Result.andThen_ok, run_fromB W p h1]
  exact hK _ _ h
/-- make([]api.Item, 0, m). -/
theorem make0T_step {ops : Array Oper} {rest : List Oper} {dst : Option Tmp} {y : Operand} {pos : String} {after : Array Edge} {ty : TypeId} {a : Act} {W : World} {Q : Exit → Act → World → Prop} {m : Nat}
    (hx : a.eval y = .int .i64 (m : Int)) (hn : m ≤ 1000000)
    (h : wpList Tryd.prog ops Q rest (a.put dst (.slice (some ⟨W.heap.size, 0, none⟩) 0 m)) (W.alloc (.cells (madeCells (TV z0).cells (m * 4)) 41))) : wpList Tryd.prog ops Q (⟨dst, .makeSlice 22 (.const (.int .i64 0)) y, ty, pos, after, none⟩ :: rest) a W := by
  refine wpList_plain rfl fun K hK => ?_
  obtain ⟨i, hi, hz0, hz1, hz2⟩ := info_parts infoT
  have hr := run_make (P := Tryd.prog) W 22 41 i (TV z0) Tryd.underlying22 hi hz0 .i64 .i64 0 (m : Int) (Int.le_refl _) (by omega) (by rw [hz2]; omega) (by omega)
  simp only [Int.toNat_natCast, hz1, Int.toNat_zero] at hr
  have hz : a.eval (.const (.int .i64 0)) = .int .i64 0 := rfl
  unfold Oper.wp execOp
  simp only [hx, hz, Sem.run_bind, Sem.run_pure, hr, Result.andThen_ok]
  exact hK _ _ h
theorem owT_made0 (w : World) {base m : Nat} (hb : base ≤ w.heap.size) (hn : m ≤ maxLen) : OwT (w.alloc (.cells (madeCells (TV z0).cells (m * 4)) 41)) base (.slice (some ⟨w.heap.size, 0, none⟩) 0 m) [] :=
  ⟨by simp, ⟨by simp [cellsT], Or.inr ⟨w.heap.size, m, _, by simp, hb, heap_alloc_new _ _, by simp, hn, by rw [size_madeCells], by simp [cellsT]⟩⟩⟩
theorem set4I {W : World} {g : Nat} {a b c d k l m n : Value} {T : TypeId} (h : W.heap[g]? = some (.cells #[a, b, c, d] T (0, 0))) : ((((W.setCell ⟨g, 0, none⟩ k).setCell ⟨g, 1, none⟩ l).setCell ⟨g, 2, none⟩ m).setCell ⟨g, 3, none⟩ n).heap[g]? = some (.cells #[k, l, m, n] T (0, 0)) := by
  have h1 := heap_setCell_same W g 0 _ _ k h
  have h2 := heap_setCell_same _ g 1 _ _ l h1
  have h3 := heap_setCell_same _ g 2 _ _ m h2
  exact heap_setCell_same _ g 3 _ _ n h3
theorem below4I {B : Nat} {w W : World} {g : Nat} {k l m n : Value} (h : Below B w W) (hg : B ≤ g) : Below B w ((((W.setCell ⟨g, 0, none⟩ k).setCell ⟨g, 1, none⟩ l).setCell ⟨g, 2, none⟩ m).setCell ⟨g, 3, none⟩ n) :=
  (((h.setCell (p := ⟨g, 0, none⟩) hg _).setCell (p := ⟨g, 1, none⟩) hg _).setCell (p := ⟨g, 2, none⟩) hg _).setCell (p := ⟨g, 3, none⟩) hg _
/-- The length of a slice's value. -/
def slen : Value → Nat
  | .slice _ n _ => n
  | _ => 0
set_option maxRecDepth 100000 in
set_option maxHeartbeats 6400000 in
theorem pitem_any (b o n c : Nat) (l : List Nat) (w : World) (s : Sl w (.slice (some ⟨b, o, none⟩) n c) l) (hn : 24 ≤ n) : Calls Tryd.prog 38 #[.slice (some ⟨b, o, none⟩) n c] w fun e w' => e = .returned (TV (itO l)) ∧ Below w.heap.size w w' := by
  obtain ⟨b', o', c', hv, hc1, hc2, hk⟩ := sl_cells s (by obtain ⟨a', cap', hv, h2, h3⟩ := sl_form s; have : n = l.length := congrArg slen hv
                                                          omega)
  obtain ⟨⟨rfl, rfl⟩, rfl, rfl⟩ : (b = b' ∧ o = o') ∧ n = l.length ∧ c = c' := by simpa using hv
  have HCUT : ∀ p q, p + q ≤ l.length → ∀ W, Below w.heap.size w W → Sl W (.slice (some ⟨b, o + p, none⟩) q (c - p)) ((l.drop p).take q) := fun p q hpq W hW =>
    sl_below (sl_cut (w := w) (p := p) (c := q) s.1 rfl hc2 hc1 hk hpq) hW
  have HB := Lib.hid (bel_al w (.cells #[.int .u64 0, .int .u32 0, .int .i64 0, .int .i64 0] 41))
  have num : ∀ p q, p + q ≤ l.length → q ≤ 8 → ∀ W, Below w.heap.size w W → Calls Tryd.prog 46 #[.slice (some ⟨b, o + p, none⟩) q (c - p)] W fun e w' => e = .returned (.int .u64 ((valL ((l.drop p).take q) : Nat) : Int)) ∧ Below W.heap.size W w' := fun p q hpq hq W hW => by
    refine (pnum8_any _ _ W (HCUT p q hpq W hW) (by rw [List.length_take]; omega)).mono ?_
    rintro e w' ⟨rfl, rfl⟩
    exact ⟨rfl, Below.refl _ _⟩
  have n1 := num 0 8 (by omega) (by decide)
  rw [Nat.add_zero, Nat.sub_zero, List.drop_zero] at n1
  have n2 := num 8 4 (by omega) (by decide)
  have n3 := num 12 4 (by omega) (by decide)
  have n4 := num 16 4 (by omega) (by decide)
  have s2 : valL ((l.drop 8).take 4) < 4294967296 := seg_small s.1 8 4
  have s3 : valL ((l.drop 12).take 4) < 4294967296 := seg_small s.1 12 4
  have s4 : valL ((l.drop 16).take 4) < 4294967296 := seg_small s.1 16 4
  unfold TV itO
  dsimp only
  generalize valL (l.take 8) = V1 at *
  generalize valL ((l.drop 8).take 4) = V2 at *
  generalize valL ((l.drop 12).take 4) = V3 at *
  generalize valL ((l.drop 16).take 4) = V4 at *
  have u2 : IntKind.u32.wrap (V2 : Int) = (V2 : Int) := IntWalk.u32_in _ (by omega)
  have u3 : IntKind.i64.wrap (V3 : Int) = (V3 : Int) := IntWalk.i64_in _ (by omega)
  have u4 : IntKind.i64.wrap (V4 : Int) = (V4 : Int) := IntWalk.i64_in _ (by omega)
  have p1 : (8 : Int) ≤ (c : Int) := by omega
  have p2 : (12 : Int) ≤ (c : Int) := by omega
  have p3 : (16 : Int) ≤ (c : Int) := by omega
  have p4 : (20 : Int) ≤ (c : Int) := by omega
  have q1 : ¬ c = 8 := by omega
  have q2 : ¬ c = 12 := by omega
  have q3 : ¬ c = 16 := by omega
  have q4 : ¬ c = 20 := by omega
  generalize l.length = n at *
  have N1 := Lib.hid n1
  have N2 := Lib.hid n2
  have N3 := Lib.hid n3
  have N4 := Lib.hid n4
  clear s hk hv hc1 hc2 HCUT num n1 n2 n3 n4 s2 s3 s4 hn
  have X0 := Lib.hid (heap_alloc_new w (.cells #[.int .u64 0, .int .u32 0, .int .i64 0, .int .i64 0] 41))
  go_enter Tryd.func38, Tryd.ntmps38
  go_wp2_with fail
  obtain ⟨G, hG⟩ : ∃ G, G = w.heap.size := ⟨_, rfl⟩
  rw [← hG] at X0 ⊢
  have HG := Lib.hid hG
  clear hG
  generalize w.alloc (.cells #[.int .u64 0, .int .u32 0, .int .i64 0, .int .i64 0] 41) = W at *
  have G1 := Lib.hid (regrown_bel (w := W) fun w' hw' => N1.out w' (bt HB.out hw'))
  have G2 := Lib.hid (regrown_bel (w := W) fun w' hw' => N2.out w' (bt HB.out hw'))
  have G3 := Lib.hid (regrown_bel (w := W) fun w' hw' => N3.out w' (bt HB.out hw'))
  have G4 := Lib.hid (regrown_bel (w := W) fun w' hw' => N4.out w' (bt HB.out hw'))
  refine wp_region_bl_tail 16 (by kernel_rfl) (by kernel_rfl) ?_
  simp only [List.take_succ_cons, List.take_zero, List.drop_succ_cons, List.drop_zero]
  quiet_step (fail)
  quiet_step (fail)
  quiet_step ((go_at_call 46; exact G1.out _ _))
  quiet_step (fail)
  quiet_step (fail)
  quiet_step ((go_at_call 46; exact G2.out _ _))
  quiet_step (fail)
  quiet_step (fail)
  quiet_step (fail)
  quiet_step ((go_at_call 46; exact G3.out _ _))
  quiet_step (fail)
  quiet_step (fail)
  quiet_step (fail)
  quiet_step ((go_at_call 46; exact G4.out _ _))
  quiet_step (fail)
  quiet_step (fail)
  refine wpQuiet_nil ?_
  intro w9 hb9
  have x9 := (hb9.block G (lt_of_some X0.out)).trans X0.out
  have X9 := Lib.hid x9
  have c0 := cell_of_row w9 G 0 _ _ _ x9
  have c1 := cell_of_row w9 G 1 _ _ _ x9
  have c2 := cell_of_row w9 G 2 _ _ _ x9
  have c3 := cell_of_row w9 G 3 _ _ _ x9
  have f0 := frozen_of_row w9 G 0 _ _ x9
  have f1 := frozen_of_row w9 G 1 _ _ x9
  have f2 := frozen_of_row w9 G 2 _ _ x9
  have f3 := frozen_of_row w9 G 3 _ _ x9
  have B9 := Lib.hid (bt HB.out hb9)
  clear x9 hb9
  go_wp2_with fail
  exact bodyPost_ret (results_cell_row Tryd.results38 _ _ G 41 _ (0, 0) _ rfl (set4I X9.out) Tryd.underlying41 rfl infoT4) rfl ⟨rfl, below4I B9.out (Nat.le_of_eq HG.out.symm)⟩
set_option maxRecDepth 100000 in
set_option maxHeartbeats 12800000 in
theorem pdecode8_any (v : Value) (l : List Nat) (w : World) (s : Sl w v l) (hlen : l.length ≤ 10000) (ht : Tab w) : Calls Tryd.prog 19 #[v] w (LW w (dL8 l) (dE8 l)) := by
  unfold LW
  obtain ⟨a, c, rfl, hlc, hcm⟩ := sl_form s
  obtain ⟨n, hn⟩ : ∃ n, n = l.length := ⟨_, rfl⟩
  rw [← hn] at hlen hlc ⊢
  have N := Lib.hid hn
  have S0 := Lib.hid s
  rw [← hn] at S0
  have HT : Hid (∀ W, Below w.heap.size w W → Tab W) := fun W hW => tab_below ht hW
  obtain ⟨m, hm⟩ : ∃ m, m = n / 24 := ⟨_, rfl⟩
  have q1 : (n : Int).tdiv 24 = (m : Int) := by rw [Int.tdiv_eq_ediv_of_nonneg (by omega)]; omega
  have hm1 : m ≤ 1000 := by omega
  have B1 := Lib.hid (bel_al w (.cells (madeCells (TV z0).cells (m * 4)) 41))
  have O1 := Lib.hid (owT_made0 w (base := w.heap.size) (m := m) (Nat.le_refl _) (by unfold maxLen; omega))
  clear hn s hlc hcm hm ht
  go_enter Tryd.func19, Tryd.ntmps19
  go_wp2_with (refine make0T_step (dst := some 8) (m := m) ?_ (by omega) ?_; exact rfl; generalize w.alloc (.cells (madeCells (TV z0).cells (m * 4)) 41) = W1 at *)
  clear q1
  go_loopw [0, 4] (fun bv lv wr => ∃ (i k : Nat) (A : List Itm) (a : Option Addr) (c : Nat), bv = .slice a k c ∧ k ≤ n ∧ Hid (k + 24 * i = n) ∧ Hid (Sl w bv (l.drop (24 * i))) ∧ Hid (dcAt l i A) ∧ Hid (OwT wr w.heap.size lv A) ∧ Hid (Below w.heap.size w wr)) (fun bv _ _ => slen bv)
  case atStart => exact ⟨0, n, [], a, c, rfl, Nat.le_refl _, rfl, by show Sl _ _ _; simpa using S0.out, dcAt_zero l, O1, B1⟩
  case round =>
    obtain ⟨i, k, A, a, c, rfl, hkn, HK, HS, HDC, HO, HB⟩ := hrel
    have hkk : k = (l.drop (24 * i)).length := by have h1 := HK.out; have h2 := N.out; rw [List.length_drop]; omega
    obtain ⟨M, hM⟩ : ∃ q, q = l.drop (24 * i) := ⟨_, rfl⟩
    have HGOOD := Lib.hid (fun (h0 : 24 ≤ k) h => dcAt_good HDC.out (by have h1 := HK.out; have h2 := N.out; omega : 24 * i + 24 ≤ l.length) h)
    have HBAD := Lib.hid (fun (h0 : 24 ≤ k) h => dcAt_bad HDC.out (by have h1 := HK.out; have h2 := N.out; omega : 24 * i + 24 ≤ l.length) h)
    have HSHORT := Lib.hid (fun (h0 : 0 < k) (h1 : k < 24) => dcAt_short HDC.out (by have h1 := HK.out; have h2 := N.out; omega) (by have h1 := HK.out; have h2 := N.out; omega))
    have HNEXT : Hid (M.drop 24 = l.drop (24 * (i + 1))) := by show _ = _; rw [hM, List.drop_drop]; rfl
    rw [← hM] at HS HGOOD HBAD hkk
    obtain ⟨ao, co, rfl, -, -⟩ := owT_form HO.out
    obtain ⟨ia, hia⟩ : ∃ q, q = A.length := ⟨_, rfl⟩
    have IA : Hid (ia = i) := hia.trans HDC.out.2.2
    rw [← hia] at HO ⊢
    have HKK := Lib.hid hkk
    clear hM hkk hia
    by_cases hk0 : 0 < k
    case neg =>
      obtain rfl : k = 0 := by omega
      have HEND := Lib.hid (dcAt_end HDC.out (by have h1 := HK.out; have h2 := N.out; omega))
      have RV := Lib.hid (pvalid8_any _ A wr (owT_it HO.out))
      clear HGOOD HBAD HSHORT HNEXT hk0
      go_wp2_with fail
      refine RV.out.mono ?_
      rintro e w2 ⟨rfl, hb2⟩
      have B2 := Lib.hid (bt HB.out hb2)
      have O2 := Lib.hid (owT_below HO.out hb2)
      clear hb2 HO HB RV
      by_cases hok : okT A
      · rw [decide_eq_true hok]
        obtain ⟨e1, e2⟩ := HEND.out.1 hok
        have E := Lib.hid (And.intro e1 e2)
        clear e1 e2 hok HEND
        go_wp2
        go_ret2
        exact ⟨⟨_, by rw [E.out.1]; rfl, by rw [E.out.2]; exact owT_it O2.out⟩, B2.out⟩
      · rw [decide_eq_false hok]
        obtain ⟨e1, e2⟩ := HEND.out.2 hok
        have E := Lib.hid (And.intro e1 e2)
        clear e1 e2 hok HEND
        go_wp2
        go_ret2
        exact ⟨⟨_, by rw [E.out.1]; rfl, by rw [E.out.2]; exact it_nil _⟩, B2.out⟩
    have hk0z : (0 : Int) < (k : Int) := by omega
    by_cases hsh : k < 24
    · have hl5 : decide ((k : Int) < 24) = true := decide_eq_true (by omega)
      obtain ⟨e1, e2⟩ := HSHORT.out hk0 hsh
      have E := Lib.hid (And.intro e1 e2)
      clear e1 e2 HGOOD HBAD HSHORT HNEXT
      go_wp2
      go_ret2
      exact ⟨⟨_, by rw [E.out.1]; rfl, by rw [E.out.2]; exact it_nil _⟩, HB.out⟩
    have hl5 : decide ((k : Int) < 24) = false := decide_eq_false (by omega)
    have hl6 : ¬ k < 24 := hsh
    obtain ⟨b, o, c', hv, hc1, hc2, hk⟩ := sl_cells HS.out (by have := HKK.out; omega)
    obtain ⟨rfl, -, rfl⟩ : a = some ⟨b, o, none⟩ ∧ k = M.length ∧ c = c' := by simpa using hv
    rw [← HKK.out] at hc1 hk
    have HCUT : Hid (∀ p q, p + q ≤ k → ∀ W, Below w.heap.size w W → Sl W (.slice (some ⟨b, o + p, none⟩) q (c - p)) ((M.drop p).take q)) := fun p q hpq W hW =>
      sl_below (sl_cut (w := w) (p := p) (c := q) HS.out.1 HKK.out.symm hc2 hc1 hk hpq) hW
    have HC : Hid (∀ W, Below w.heap.size w W → ∀ j, j < k → W.cell? ⟨b, o + j, none⟩ = some (.int .u8 ((M.getD j 0 : Nat) : Int))) := fun W hW j h => (hW.cell (block_lt_of_cell (hk j h))).trans (hk j h)
    have S20 := Lib.hid (fun W (hW : Below w.heap.size w W) => (by have h := HCUT.out 0 20 (by omega) W hW; rwa [Nat.add_zero, Nat.sub_zero, List.drop_zero] at h : Sl W (.slice (some ⟨b, o, none⟩) 20 c) (M.take 20)))
    have CK := Lib.hid (fun W (hW : Below w.heap.size w W) => pcheck8_any _ _ W (S20.out W hW) (HT.out W hW))
    have C4 : Hid (∀ W, Below w.heap.size w W → W.cell? ⟨b, o + 20, none⟩ = some (.int .u8 ((M.getD 20 0 : Nat) : Int)) ∧ W.cell? ⟨b, o + 20 + 1, none⟩ = some (.int .u8 ((M.getD 21 0 : Nat) : Int)) ∧ W.cell? ⟨b, o + 20 + 2, none⟩ = some (.int .u8 ((M.getD 22 0 : Nat) : Int)) ∧ W.cell? ⟨b, o + 20 + 3, none⟩ = some (.int .u8 ((M.getD 23 0 : Nat) : Int))) := fun W hW =>
      ⟨HC.out W hW 20 (by omega), HC.out W hW 21 (by omega), HC.out W hW 22 (by omega), HC.out W hW 23 (by omega)⟩
    have hsum4 : ∃ a0 a1 a2 a3, leL (ext 0 (M.take 20)) = [a0, a1, a2, a3] := ⟨_, _, _, _, rfl⟩
    obtain ⟨a0, a1, a2, a3, hA⟩ := hsum4
    rw [hA, show (cellsOf [a0, a1, a2, a3]).toArray = #[.int .u8 (a0 : Int), .int .u8 (a1 : Int), .int .u8 (a2 : Int), .int .u8 (a3 : Int)] from rfl] at CK
    have hck : ckT M ↔ [a0, a1, a2, a3] = [M.getD 20 0, M.getD 21 0, M.getD 22 0, M.getD 23 0] := by
      unfold ckT
      rw [hA, seg4 (by have := HKK.out; omega)]
    have HCK := Lib.hid hck
    have IT := Lib.hid (fun W (hW : Below w.heap.size w W) => pitem_any b o k c M W (sl_below HS.out hW) (by omega))
    have okI0 : ItOk (itO M) := by
      have h1 := seg_small HS.out.1 0 8
      have h2 := seg_small HS.out.1 8 4
      have h3 := seg_small HS.out.1 12 4
      have h4 := seg_small HS.out.1 16 4
      rw [List.drop_zero] at h1
      refine ⟨h1, h2, ?_, ?_⟩
      · show J64 ((valL ((M.drop 12).take 4) : Nat) : Int); unfold J64; have : (256 : Nat) ^ 4 = 4294967296 := rfl; omega
      · show J64 ((valL ((M.drop 16).take 4) : Nat) : Int); unfold J64; have : (256 : Nat) ^ 4 = 4294967296 := rfl; omega
    have OKI := Lib.hid okI0
    have HSF := Lib.hid (sl_from HS.out (l := 24) (by omega))
    clear hA hck hv hc2 hk okI0
    generalize M.getD 20 0 = q0 at C4 HCK
    generalize M.getD 21 0 = q1 at C4 HCK
    generalize M.getD 22 0 = q2 at C4 HCK
    generalize M.getD 23 0 = q3 at C4 HCK
    have p20 : (20 : Int) ≤ (c : Int) := by omega
    have p20n : (20 : Int) ≤ (k : Int) := by omega
    have p20m : 20 ≤ k := by omega
    have q20 : ¬ c = 20 := by omega
    have r5 : 4 ≤ k - 20 := by omega
    have HNUM : Hid (24 ≤ k ∧ 24 ≤ c) := ⟨by omega, by omega⟩
    clear hc1 hsh
    go_wp2_with fail
    refine wp_onlyN ?_
    refine wp_region_headsS (fun w' => Below w.heap.size w w') [0, 1, 2, 3, 4, 5] 2 (by kernel_rfl) (fun _ _ _ _ _ h => h.elim) (by kernel_rfl) (by rfl) (by rfl) HB.out.drew ?_
    simp only [pickOps, List.filterMap_cons, List.filterMap_nil, List.getElem?_toArray, List.getElem?_cons_zero, List.getElem?_cons_succ]
    refine wpHeads_step (fun K hK => ?_)
    go_simp
    refine ⟨_, fun _ _ => rfl, hK _ ?_⟩
    clear hK K
    refine wpHeads_step (fun K hK => ?_)
    go_simp
    refine ⟨_, fun _ _ => rfl, hK _ ?_⟩
    clear hK K
    refine wpHeads_step (fun K hK => ?_)
    go_simp
    refine ⟨.pointer (some ⟨b, o + 20, none⟩), fun w' _ => by simp [Instr.arrayAt, run_underlying Tryd.underlying57, Nat.not_lt.2 r5], hK _ ?_⟩
    clear hK K
    refine wpHeads_step (fun K hK => ?_)
    go_simp
    refine ⟨.agg #[.int .u8 (q0 : Int), .int .u8 (q1 : Int), .int .u8 (q2 : Int), .int .u8 (q3 : Int)], fun w' hw' => by obtain ⟨u0, u1, u2, u3⟩ := C4.out w' hw'; simp [u0, u1, u2, u3], hK _ ?_⟩
    clear hK K
    refine wpHeads_step (fun K hK => ?_)
    go_simp
    refine ⟨_, fun _ _ => rfl, hK _ ?_⟩
    clear hK K
    refine wpHeads_step (fun K hK => ?_)
    go_simp
    refine ⟨_, fun _ _ => rfl, hK _ ?_⟩
    clear hK K
    refine wpHeads_nil ?_
    refine held_one 6 rfl rfl (by kernel_rfl) fun K hK => ?_
    go_simp
    go_at_call 37
    refine (CK.out _ HB.out.drew).mono ?_
    rintro e W3 ⟨rfl, hb3⟩
    have b3 := bt HB.out.drew hb3
    have o3 := owT_below HO.out (Below.trans (below_drewN wr 1) hb3)
    refine hK _ _ b3 ?_
    clear hK K hb3
    have hneq := run_neq4 (q0 : Int) q1 q2 q3 a0 a1 a2 a3
    rw [four_eq] at hneq
    generalize hD : decide ([a0, a1, a2, a3] = [q0, q1, q2, q3]) = D at hneq
    have HDD := Lib.hid hD
    refine held_one 7 rfl rfl (by kernel_rfl) fun K hK => ?_
    clear hD
    go_simp
    refine hK _ _ b3 ?_
    clear hK K
    refine wpAnyH_done (by kernel_rfl) ?_ _
    unfold onlyN
    dsimp only
    have B3 := Lib.hid b3
    have O3 := Lib.hid o3
    clear b3 o3 hneq C4 CK p20 p20n p20m q20 r5 HB HO
    by_cases hck : ckT M
    case neg =>
      obtain rfl : D = false := by rw [← HDD.out]; exact decide_eq_false fun h => hck (HCK.out.2 h)
      obtain ⟨e1, e2⟩ := HBAD.out HNUM.out.1 hck
      have E := Lib.hid (And.intro e1 e2)
      clear e1 e2 HGOOD HBAD HSHORT HNEXT hck
      go_wp2
      go_ret2
      exact ⟨⟨_, by rw [E.out.1]; rfl, by rw [E.out.2]; exact it_nil _⟩, B3.out⟩
    obtain rfl : D = true := by rw [← HDD.out]; exact decide_eq_true (HCK.out.1 hck)
    have HDC2 := Lib.hid (HGOOD.out HNUM.out.1 hck)
    have IT3 := Lib.hid (IT.out W3 B3.out)
    clear HGOOD HBAD HSHORT hck HCK HDD IT
    obtain ⟨y, hy⟩ : ∃ y, y = itO M := ⟨_, rfl⟩
    rw [← hy] at HDC2 IT3 OKI
    clear hy
    unfold TV at IT3
    go_wp2_with fail
    refine IT3.out.mono ?_
    rintro e W4 ⟨rfl, hb4⟩
    have B4 := Lib.hid (bt B3.out hb4)
    have O4 := Lib.hid (owT_below O3.out hb4)
    have HAL : Hid (A.length + [y].length ≤ 100000000) := by show _ ≤ _; have h1 := HDC.out.2.2; have h2 := HK.out; simp; omega
    have hk24 : 24 ≤ k := HNUM.out.1
    clear hb4 B3 O3 IT3
    go_wp2_with (first
      | (at_builtin; refine app_it (dst := some 29) ?_ ?_ (owT_below O4.out (bel_al W4 _)) (it_one OKI.out (heap_alloc_new W4 _)) HAL.out (by have := B4.out.size; simp; omega) ?_; exact rfl; exact rfl; intro v5 w5 ho5 hg5; have O5 := Lib.hid ho5; have B5 := Lib.hid (below_grownT (B4.out.alloc B4.out.size _) hg5 (owT_below O4.out (bel_al W4 _)) (by have := B4.out.size; simp; omega) (Nat.le_refl _)); clear ho5 hg5)
      | (refine from_stepB (dst := some 13) (l := 24) ?_ ?_ hk24 ?_; exact rfl; exact rfl))
    go_roundw
    case rel => exact ⟨i + 1, k - 24, A ++ [y], _, _, rfl, by omega, by have h1 := HK.out; show _ = _; omega, by show Sl _ _ _; rw [← HNEXT.out]; exact HSF.out, HDC2, O5, B5⟩
    case measure => show k - 24 < k; omega
end Go.Proofs.YtihjfnlimdcmkaaDoor.Gf
