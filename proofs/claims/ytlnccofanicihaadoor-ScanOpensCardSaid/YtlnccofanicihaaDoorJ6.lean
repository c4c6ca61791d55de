/- What is proved here: the contracts of the program's Size, Valid, and of its writer. Condition: the table of crc32c as laid (sum). What is proved here: the contract of the writer's number. No condition but on lengths. What is proved here: append(x, make([]byte, m)...), where x is a slice of the call's own. What is proved here: the contracts of the writer's other methods, and of the program's checksum. Condition: the table of crc32c as laid. What is proved here: the contracts of the program's Valid, number, and of bytes.Clone. No condition but on lengths. What is proved here: the contract of the program's dataLength. No condition. What is proved here: the contract of the program's Decode. Condition: the table of crc32c as laid. -/
import Derived.Test.YtlnccofanicihaaDoorQ6e
import Derived.BigQuiet
import Derived.StillTailTactics
namespace Go.Proofs.YtlnccofanicihaaDoor.Gf
open Go Go.ChangeAt Go.ChangeShapes Go.Proofs.YtlnccofanicihaaDoor.By Go.Proofs.YtlnccofanicihaaDoor.Crc Go.Proofs.YtlnccofanicihaaDoor.Qt Go.RowKit Go.WideShapes

theorem psize_any (n : Int) (w : World) (_h : I64b n) : Calls Tryd.prog 26 #[.int .i64 n] w fun e w' => e = .returned (.int .i64 (szI6 n)) ∧ w = w' := by
  by_cases h1 : n < 0
  · have g1 : decide (n < 0) = true := decide_eq_true h1
    unfold szI6
    rw [if_pos (Or.inl h1)]
    go_enter Tryd.func26, Tryd.ntmps26
    go_wp2
    go_ret
    exact ⟨rfl, rfl⟩
  have g1 : decide (n < 0) = false := decide_eq_false h1
  by_cases h2 : 4096 < n
  · have g2 : decide (4096 < n) = true := decide_eq_true h2
    unfold szI6
    rw [if_pos (Or.inr h2)]
    clear _h
    go_enter Tryd.func26, Tryd.ntmps26
    go_wp2
    go_ret
    exact ⟨rfl, rfl⟩
  have g2 : decide (4096 < n) = false := decide_eq_false h2
  unfold szI6
  rw [if_neg (by omega)]
  have e1 : (20 + n + 4 + 8 - 1).tdiv 8 = (n + 31) / 8 := by rw [Int.tdiv_eq_ediv_of_nonneg (by omega)]; congr 1; omega
  obtain ⟨q, hq⟩ : ∃ q, (n + 31) / 8 = q := ⟨_, rfl⟩
  have b1 : 0 ≤ q ∧ q ≤ 600 := by omega
  have b0 : 0 ≤ n ∧ n ≤ 4096 := by omega
  rw [hq] at e1 ⊢
  clear hq _h h1 h2
  go_enter Tryd.func26, Tryd.ntmps26
  go_wp2
  go_ret
  exact ⟨rfl, rfl⟩
theorem tab_below {w w' : World} (h : Tab w) (hb : Below w.heap.size w w') : Tab w' := fun i hi => (hb.cell (block_lt_of_cell (h i hi))).trans (h i hi)
theorem info4 : (Tryd.prog.info? 87).map (·.size) = some 4 := by kernel_rfl
set_option maxRecDepth 100000 in
theorem pchecksum_any (v : Value) (l : List Nat) (w : World) (s : Sl w v l) (ht : Tab w) : Calls Tryd.prog 41 #[v] w fun e w' => e = .returned (.agg (cellsOf (leL (ext 0 l))).toArray) ∧ Below w.heap.size w w' := by
  have RS := Lib.hid (fun W (hW : Below w.heap.size w W) (ht : Tab W) => sum_any v l W (sl_below s hW) ht)
  have hlt : ext 0 l < 4294967296 := ext_lt (by decide) s.1
  generalize ext 0 l = S at *
  have HB := Lib.hid ((Below.refl w.heap.size w).alloc (Nat.le_refl _) (.cells #[.int .u8 0, .int .u8 0, .int .u8 0, .int .u8 0] 87))
  rw [leL_cells hlt]
  clear s
  have HT := Lib.hid (tab_below ht HB.out)
  go_enter Tryd.func41, Tryd.ntmps41
  go_wp2_with (go_at_call 54; refine (RS.out _ HB.out HT.out).mono ?_; rintro e w2 ⟨rfl, rfl⟩)
  exact bodyPost_ret (results_cell_row Tryd.results41 _ _ w.heap.size 87 _ (0, 0) _ rfl (heap_alloc_new _ _) Tryd.underlying87 rfl info4) rfl ⟨rfl, (Below.refl w.heap.size w).alloc (Nat.le_refl _) _⟩
set_option maxRecDepth 100000 in
theorem pnumber_some (b o c : Nat) (l : List Nat) (w : World) (hn : l.length ≤ 8) (s : Sl w (.slice (some ⟨b, o, none⟩) l.length c) l) (h0 : 0 < l.length) : Calls Tryd.prog 42 #[.slice (some ⟨b, o, none⟩) l.length c] w fun e w' => e = .returned (.int .u64 ((valL l : Nat) : Int)) ∧ w = w' := by
  obtain ⟨n, hln⟩ : ∃ n, n = l.length := ⟨_, rfl⟩
  have HC : Hid (∀ k, k < n → w.cell? ⟨b, o + k, none⟩ = some (.int .u8 ((l.getD k 0 : Nat) : Int))) := fun k hk => by
    obtain ⟨b', o', c', hv, -, -, h⟩ := sl_cells s (by omega)
    obtain ⟨⟨rfl, rfl⟩, rfl⟩ : (b = b' ∧ o = o') ∧ c = c' := by simpa using hv
    exact h k (by omega)
  have HL := Lib.hid s.1
  rw [← hln] at hn h0 ⊢
  have HN := Lib.hid hln
  clear s hln h0
  go_enter Tryd.func42, Tryd.ntmps42
  go_wp2_with fail
  go_loopw [3, 5, 8] (fun r _ t wr => ∃ j : Nat, j ≤ n ∧ t = .int .i64 (j : Int) ∧ r = .int .u64 ((valL (l.take j) : Nat) : Int) ∧ wr = w) (fun _ _ t _ => n - (intOf t).toNat)
  case atStart => exact ⟨0, by omega, rfl, rfl, rfl⟩
  case round =>
    obtain ⟨j, hj, rfl, rfl, rfl⟩ := hrel
    by_cases hjn : j < n
    · have hl4 : decide ((j : Int) < (n : Int)) = true := decide_eq_true (by omega)
      have hc := HC.out j hjn
      have hb := getD_lt HL.out j
      have HS := Lib.hid (valL_take_succ (l := l) (j := j) (by have := HN.out; omega))
      have hv : valL (l.take j) < 72057594037927936 := by
        have h1 := valL_lt (l.take j) (mem_take HL.out j)
        have h2 : (l.take j).length ≤ 7 := by rw [List.length_take]; omega
        exact Nat.lt_of_lt_of_le h1 (by have := Nat.pow_le_pow_right (n := 256) (by decide) h2; simpa using this)
      have ho := or_byte hv hb
      generalize valL (l.take j) = V at *
      generalize l.getD j 0 = y at *
      have hs : (V : Int) * 256 % 18446744073709551616 = (V : Int) * 256 := by omega
      have p0 : (0 : Int) ≤ (j : Int) := by omega
      have p1 : (j : Int) < (n : Int) := by omega
      go_wp2
      go_roundw
      case rel => exact ⟨j + 1, by omega, by go_num, by rw [HS.out]; simp, by first | rfl | trivial⟩
      case measure => simp [intOf]; omega
    · obtain rfl : j = n := by omega
      have hl4 : decide ((j : Int) < (j : Int)) = false := decide_eq_false (by omega)
      have HV : Hid (valL (l.take j) = valL l) := by show _ = _; rw [List.take_of_length_le (by rw [← HN.out]; exact Nat.le_refl _)]
      rw [HV.out]
      go_wp2
      go_ret
      exact ⟨rfl, rfl⟩
theorem pnumber_nil (a : Option Addr) (c : Nat) (w : World) : Calls Tryd.prog 42 #[.slice a 0 c] w fun e w' => e = .returned (.int .u64 0) ∧ w = w' := by
  go_enter Tryd.func42, Tryd.ntmps42
  go_wp2_with fail
  refine wp_loop_rounds 1 ?_
  rw [rounds_succ]
  go_wp2
  go_ret
  exact ⟨rfl, rfl⟩
theorem pnumber_any (v : Value) (l : List Nat) (w : World) (s : Sl w v l) (hn : l.length ≤ 8) : Calls Tryd.prog 42 #[v] w fun e w' => e = .returned (.int .u64 ((valL l : Nat) : Int)) ∧ w = w' := by
  by_cases h : l = []
  · subst h
    obtain ⟨a, c, rfl, -, -⟩ := sl_form s
    exact pnumber_nil a c w
  · have h0 : 0 < l.length := List.length_pos_iff.2 h
    obtain ⟨b, o, c, rfl, -, -, -⟩ := sl_cells s h0
    exact pnumber_some b o c l w hn s h0
theorem run_some_nil (w : World) (a : Addr) (n c : Nat) : (binOp .eql 22 (.slice (some a) n c) (.slice none 0 0)).run Tryd.prog w = .ok (.bool false) w := by
  have h : ∀ d : Nat, (Op.equalIn (d + 1) 22 (.slice (some a) n c) (.slice none 0 0)).run Tryd.prog w = .ok false w := fun d => by
    simp [Op.equalIn, run_underlying Tryd.underlying22]
  simp only [binOp]
  simp [Op.equal, Op.maxDepth, h 9999]
set_option maxRecDepth 100000 in
theorem pclone_any (a : Addr) (c : Nat) (l : List Nat) (w : World) (s : Sl w (.slice (some a) l.length c) l) (hl : l.length ≤ 100000) : Calls Tryd.prog 43 #[.slice (some a) l.length c] w fun e w' => (∃ v, e = .returned v ∧ Own w' w.heap.size v l) ∧ Below w.heap.size w w' := by
  obtain ⟨n, hn⟩ : ∃ n, n = l.length := ⟨_, rfl⟩
  have HS := Lib.hid s
  have HL : Hid (([] : List Nat).length + l.length ≤ 100000000) := by show _ ≤ _; simp; omega
  rw [← hn] at HS ⊢
  clear s hn hl
  have hq := run_some_nil w a n c
  go_enter Tryd.func43, Tryd.ntmps43
  go_wp2_with (at_builtin; refine app_sl (dst := some 7) ?_ ?_ (own_empty w (Nat.le_refl _)) (sl_below HS.out ((Below.refl w.heap.size w).alloc (Nat.le_refl _) _)) HL.out (by simp) ?_; exact rfl; exact rfl; intro v5 w5 ho5 hg5; obtain ⟨sa5, sn5, sc5, rfl, -⟩ := own_form ho5; have HO5 := Lib.hid ho5; have HG5 := Lib.hid hg5; clear ho5 hg5)
  go_ret
  exact ⟨⟨_, rfl, by simpa using HO5.out⟩, below_grown ((Below.refl w.heap.size w).alloc (Nat.le_refl _) _) HG5.out (own_empty w (Nat.le_refl _)) (by simp) (Nat.le_refl _)⟩
open Classical in
noncomputable def dlE (l : List Nat) : Nat := if l.length < 20 then 4 else if hdOk l then 0 else 3
open Classical in
noncomputable def dlN (l : List Nat) : Nat := if l.length < 20 then 0 else if hdOk l then lenR l else 0
/-- A call that answers a number and an error. -/
def DO (w : World) (n err : Nat) (e : Ending) (w' : World) : Prop := e = .returned (.tuple #[.int .i64 (n : Int), .int .i64 (err : Int)]) ∧ Below w.heap.size w w'
set_option maxRecDepth 100000 in
theorem pdl_any (v : Value) (l : List Nat) (w : World) (s : Sl w v l) : Calls Tryd.prog 40 #[v] w (DO w (dlN l) (dlE l)) := by
  by_cases hsh : l.length < 20
  · have e1 : dlN l = 0 := by unfold dlN; rw [if_pos hsh]
    have e2 : dlE l = 4 := by unfold dlE; rw [if_pos hsh]
    obtain ⟨a, c, rfl, -, -⟩ := sl_form s
    rw [e1, e2]
    obtain ⟨n, hn⟩ : ∃ n, n = l.length := ⟨_, rfl⟩
    rw [← hn] at hsh ⊢
    have g1 : decide ((n : Int) < 20) = true := decide_eq_true (by omega)
    clear s e1 e2 hn
    go_enter Tryd.func40, Tryd.ntmps40
    go_wp2
    go_ret2
    exact ⟨rfl, Below.refl _ _⟩
  obtain ⟨b, o, c, hv, hc1, hc2, hk⟩ := sl_cells s (by omega)
  obtain ⟨n, hn⟩ : ∃ n, n = l.length := ⟨_, rfl⟩
  rw [← hn] at hv hsh hc1
  subst hv
  have HBAD := Lib.hid fun (h : ¬ hdOk l) => (show dlE l = 3 ∧ dlN l = 0 by unfold dlE dlN; rw [if_neg (by omega), if_neg h, if_neg (by omega), if_neg h]; exact ⟨rfl, rfl⟩)
  have HGOOD := Lib.hid fun (h : hdOk l) => (show dlE l = 0 ∧ dlN l = lenR l by unfold dlE dlN; rw [if_neg (by omega), if_pos h, if_neg (by omega), if_pos h]; exact ⟨rfl, rfl⟩)
  have g1 : decide ((n : Int) < 20) = false := decide_eq_false (by omega)
  have hcut := sl_cut (w := w) (p := 16) (c := 4) s.1 hn.symm hc2 hc1 (by rw [hn]; exact hk) (by omega)
  have hval := fun W (hW : Below w.heap.size w W) => pnumber_any _ _ W (sl_below hcut hW) (by simp; omega)
  rw [show valL ((l.drop 16).take 4) = lenR l from rfl] at hval
  have HCELL : Hid (∀ W, Below w.heap.size w W → W.cell? ⟨b, o, none⟩ = some (.int .u8 ((l.getD 0 0 : Nat) : Int)) ∧ W.cell? ⟨b, o + 1, none⟩ = some (.int .u8 ((l.getD 1 0 : Nat) : Int)) ∧ W.cell? ⟨b, o + 2, none⟩ = some (.int .u8 ((l.getD 2 0 : Nat) : Int)) ∧ W.cell? ⟨b, o + 3, none⟩ = some (.int .u8 ((l.getD 3 0 : Nat) : Int))) := fun W hW =>
    ⟨(hW.cell (block_lt_of_cell (hk 0 (by omega)))).trans (hk 0 (by omega)), (hW.cell (block_lt_of_cell (hk 1 (by omega)))).trans (hk 1 (by omega)), (hW.cell (block_lt_of_cell (hk 2 (by omega)))).trans (hk 2 (by omega)), (hW.cell (block_lt_of_cell (hk 3 (by omega)))).trans (hk 3 (by omega))⟩
  have HLT : Hid (lenR l < 4294967296) := by
    have h2 : ((l.drop 16).take 4).length ≤ 4 := by rw [List.length_take]; omega
    exact Nat.lt_of_lt_of_le (valL_lt _ (mem_seg s.1 16 4)) (by have := Nat.pow_le_pow_right (n := 256) (by decide) h2; simpa using this)
  unfold hdOk at HBAD HGOOD
  obtain ⟨m, hm⟩ : ∃ m, m = lenR l := ⟨_, rfl⟩
  rw [← hm] at hval HBAD HGOOD HLT
  have HVAL := Lib.hid hval
  have p16 : (20 : Int) ≤ (c : Int) := by omega
  have p17 : (20 : Int) ≤ (n : Int) := by omega
  clear hval hcut s hk hn hc1 hc2 hm
  generalize hy0 : l.getD 0 0 = y0 at HCELL HBAD HGOOD
  generalize hy1 : l.getD 1 0 = y1 at HCELL HBAD HGOOD
  generalize hy2 : l.getD 2 0 = y2 at HCELL HBAD HGOOD
  generalize hy3 : l.getD 3 0 = y3 at HCELL HBAD HGOOD
  clear hy0 hy1 hy2 hy3
  have hm64 : IntKind.i64.wrap (m : Int) = (m : Int) := IntWalk.i64_in _ (by have := HLT.out; omega)
  by_cases p0 : y0 = 78
  case neg =>
    have hc0 : ((y0 : Int) != 78) = true := by rw [bne_iff_ne]; omega
    have he := HBAD.out (fun h => p0 h.1)
    rw [he.1, he.2]
    clear p0
    clear he
    obtain ⟨q0, q1, q2, q3⟩ := HCELL.out w (Below.refl _ _)
    go_enter Tryd.func40, Tryd.ntmps40
    go_wp2_with fail
    go_quiet ((go_at_call 42; exact Calls.quiet_of_same ((HVAL.out _ (below_drewN w _)).mono fun _ _ h => ⟨h.1, h.2.symm⟩)))
    have hb := below_drewN w nq
    clear q0 q1 q2 q3
    obtain ⟨q0, q1, q2, q3⟩ := HCELL.out _ hb
    have HB := Lib.hid hb
    clear hb
    generalize w.drewN nq = W9 at *
    go_wp2
    go_ret2
    exact ⟨rfl, HB.out⟩
  have hc0 : ((y0 : Int) != 78) = false := by rw [p0]; rfl
  by_cases p1 : y1 = 165
  case neg =>
    have hc1 : ((y1 : Int) != 165) = true := by rw [bne_iff_ne]; omega
    have he := HBAD.out (fun h => p1 h.2.1)
    rw [he.1, he.2]
    clear p0 p1
    clear he
    obtain ⟨q0, q1, q2, q3⟩ := HCELL.out w (Below.refl _ _)
    go_enter Tryd.func40, Tryd.ntmps40
    go_wp2_with fail
    go_quiet ((go_at_call 42; exact Calls.quiet_of_same ((HVAL.out _ (below_drewN w _)).mono fun _ _ h => ⟨h.1, h.2.symm⟩)))
    have hb := below_drewN w nq
    clear q0 q1 q2 q3
    obtain ⟨q0, q1, q2, q3⟩ := HCELL.out _ hb
    have HB := Lib.hid hb
    clear hb
    generalize w.drewN nq = W9 at *
    go_wp2
    go_ret2
    exact ⟨rfl, HB.out⟩
  have hc1 : ((y1 : Int) != 165) = false := by rw [p1]; rfl
  by_cases p2 : y2 ≤ 1
  case neg =>
    have hc2 : decide ((1 : Int) < (y2 : Int)) = true := decide_eq_true (by omega)
    have he := HBAD.out (fun h => p2 h.2.2.1)
    rw [he.1, he.2]
    clear p0 p1 p2
    clear he
    obtain ⟨q0, q1, q2, q3⟩ := HCELL.out w (Below.refl _ _)
    go_enter Tryd.func40, Tryd.ntmps40
    go_wp2_with fail
    go_quiet ((go_at_call 42; exact Calls.quiet_of_same ((HVAL.out _ (below_drewN w _)).mono fun _ _ h => ⟨h.1, h.2.symm⟩)))
    have hb := below_drewN w nq
    clear q0 q1 q2 q3
    obtain ⟨q0, q1, q2, q3⟩ := HCELL.out _ hb
    have HB := Lib.hid hb
    clear hb
    generalize w.drewN nq = W9 at *
    go_wp2
    go_ret2
    exact ⟨rfl, HB.out⟩
  have hc2 : decide ((1 : Int) < (y2 : Int)) = false := decide_eq_false (by omega)
  by_cases p3 : y3 = 0
  case neg =>
    have hc3 : ((y3 : Int) != 0) = true := by rw [bne_iff_ne]; omega
    have he := HBAD.out (fun h => p3 h.2.2.2.1)
    rw [he.1, he.2]
    clear p0 p1 p2 p3
    clear he
    obtain ⟨q0, q1, q2, q3⟩ := HCELL.out w (Below.refl _ _)
    go_enter Tryd.func40, Tryd.ntmps40
    go_wp2_with fail
    go_quiet ((go_at_call 42; exact Calls.quiet_of_same ((HVAL.out _ (below_drewN w _)).mono fun _ _ h => ⟨h.1, h.2.symm⟩)))
    have hb := below_drewN w nq
    clear q0 q1 q2 q3
    obtain ⟨q0, q1, q2, q3⟩ := HCELL.out _ hb
    have HB := Lib.hid hb
    clear hb
    generalize w.drewN nq = W9 at *
    go_wp2
    go_ret2
    exact ⟨rfl, HB.out⟩
  have hc3 : ((y3 : Int) != 0) = false := by rw [p3]; rfl
  by_cases p4 : m ≤ 4096
  case neg =>
    have hc4 : decide ((4096 : Int) < (m : Int)) = true := decide_eq_true (by omega)
    have he := HBAD.out (fun h => p4 h.2.2.2.2.1)
    rw [he.1, he.2]
    clear p0 p1 p2 p3 p4
    clear he
    obtain ⟨q0, q1, q2, q3⟩ := HCELL.out w (Below.refl _ _)
    go_enter Tryd.func40, Tryd.ntmps40
    go_wp2_with fail
    go_quiet ((go_at_call 42; exact Calls.quiet_of_same ((HVAL.out _ (below_drewN w _)).mono fun _ _ h => ⟨h.1, h.2.symm⟩)))
    have hb := below_drewN w nq
    clear q0 q1 q2 q3
    obtain ⟨q0, q1, q2, q3⟩ := HCELL.out _ hb
    have HB := Lib.hid hb
    clear hb
    generalize w.drewN nq = W9 at *
    go_wp2
    go_ret2
    exact ⟨rfl, HB.out⟩
  have hc4 : decide ((4096 : Int) < (m : Int)) = false := decide_eq_false (by omega)
  by_cases p5 : y2 = 1 ∧ 0 < m
  case pos =>
    have he := HBAD.out (fun h => h.2.2.2.2.2 p5)
    rw [he.1, he.2]
    obtain ⟨p51, p52⟩ := p5
    have hc5 : decide ((0 : Int) < (m : Int)) = true := decide_eq_true (by omega)
    have P51 := Lib.hid p51
    clear p0 p1 p2 p3 p51
    clear he
    obtain ⟨q0, q1, q2, q3⟩ := HCELL.out w (Below.refl _ _)
    rw [P51.out] at q2
    go_enter Tryd.func40, Tryd.ntmps40
    go_wp2_with fail
    go_quiet ((go_at_call 42; exact Calls.quiet_of_same ((HVAL.out _ (below_drewN w _)).mono fun _ _ h => ⟨h.1, h.2.symm⟩)))
    have hb := below_drewN w nq
    clear q0 q1 q2 q3
    obtain ⟨q0, q1, q2, q3⟩ := HCELL.out _ hb
    rw [P51.out] at q2
    have HB := Lib.hid hb
    clear hb
    generalize w.drewN nq = W9 at *
    go_wp2
    go_ret2
    exact ⟨rfl, HB.out⟩
  have he := HGOOD.out ⟨p0, p1, p2, p3, p4, p5⟩
  rw [he.1, he.2]
  rcases (show y2 = 0 ∨ (y2 = 1 ∧ m = 0) by omega) with p7 | ⟨p7, p8⟩
  · have P7 := Lib.hid p7
    clear p0 p1 p2 p3 p5 p7
    clear he
    obtain ⟨q0, q1, q2, q3⟩ := HCELL.out w (Below.refl _ _)
    rw [P7.out] at q2
    go_enter Tryd.func40, Tryd.ntmps40
    go_wp2_with fail
    go_quiet ((go_at_call 42; exact Calls.quiet_of_same ((HVAL.out _ (below_drewN w _)).mono fun _ _ h => ⟨h.1, h.2.symm⟩)))
    have hb := below_drewN w nq
    clear q0 q1 q2 q3
    obtain ⟨q0, q1, q2, q3⟩ := HCELL.out _ hb
    rw [P7.out] at q2
    have HB := Lib.hid hb
    clear hb
    generalize w.drewN nq = W9 at *
    go_wp2
    go_ret2
    exact ⟨rfl, HB.out⟩
  · have P7 := Lib.hid p7
    have hc5 : ¬ 0 < m := by omega
    clear p0 p1 p2 p3 p5 p7 p8
    clear he
    obtain ⟨q0, q1, q2, q3⟩ := HCELL.out w (Below.refl _ _)
    rw [P7.out] at q2
    go_enter Tryd.func40, Tryd.ntmps40
    go_wp2_with fail
    go_quiet ((go_at_call 42; exact Calls.quiet_of_same ((HVAL.out _ (below_drewN w _)).mono fun _ _ h => ⟨h.1, h.2.symm⟩)))
    have hb := below_drewN w nq
    clear q0 q1 q2 q3
    obtain ⟨q0, q1, q2, q3⟩ := HCELL.out _ hb
    rw [P7.out] at q2
    have HB := Lib.hid hb
    clear hb
    generalize w.drewN nq = W9 at *
    go_wp2
    go_ret2
    exact ⟨rfl, HB.out⟩
theorem pdec_end {R : Ending → World → Prop} {W : World} {g : Nat} {tmps : Array Value} {k c d s : Value} (hp : tmps.getD 2 undef = .pointer (some ⟨g, 0, none⟩)) (hg : W.heap[g]? = some (.cells #[k, c, d, s] 56 (0, 0)))
    (hR : R (.returned (.tuple #[.agg #[k, c, d, s], tmps.getD 3 undef, tmps.getD 4 undef])) W) : bodyPost Tryd.prog Tryd.f24 R .ret { tmps := tmps, defers := [] } W :=
  bodyPost_ret (results_rtt rfl _ _ g #[k, c, d, s] hp hg Tryd.underlying56 rfl infoN) rfl hR
theorem own_box_ne {wr : World} {base G : Nat} {x : Value} {l : List Nat} {cs : Array Value} (hx : Own wr base x l) (hg : wr.heap[G]? = some (.cells cs 56 (0, 0))) : ∀ k, x.ownBlock = some k → k ≠ G := by
  intro k hk e
  subst e
  obtain ⟨_, _, ⟨rfl, _⟩ | ⟨q, _, cq, rfl, _, hq, _⟩⟩ := hx
  · cases hk
  · cases hk
    rw [hg] at hq
    simp at hq
theorem own_set4 {W : World} {B g : Nat} {v a b c d k l m n : Value} {L : List Nat} (h : Own W B v L) (hg : W.heap[g]? = some (.cells #[a, b, c, d] 56 (0, 0))) : Own ((((W.setCell ⟨g, 0, none⟩ k).setCell ⟨g, 1, none⟩ l).setCell ⟨g, 2, none⟩ m).setCell ⟨g, 3, none⟩ n) B v L :=
  own_keep h fun q hq => by
    have hne := own_box_ne h hg q hq
    rw [heap_setCell_other _ _ _ _ hne, heap_setCell_other _ _ _ _ hne, heap_setCell_other _ _ _ _ hne, heap_setCell_other _ _ _ _ hne]
theorem set4_other {W : World} {g q : Nat} {k l m n : Value} (hne : q ≠ g) : ((((W.setCell ⟨g, 0, none⟩ k).setCell ⟨g, 1, none⟩ l).setCell ⟨g, 2, none⟩ m).setCell ⟨g, 3, none⟩ n).heap[q]? = W.heap[q]? := by
  rw [heap_setCell_other _ _ _ _ hne, heap_setCell_other _ _ _ _ hne, heap_setCell_other _ _ _ _ hne, heap_setCell_other _ _ _ _ hne]
theorem dl_cases (l : List Nat) : (dlE l ≠ 0 ∧ dlN l = 0 ∧ decE l = dlE l) ∨ (dlE l = 0 ∧ dlN l = lenR l ∧ ¬ l.length < 20 ∧ hdOk l) := by
  unfold dlE dlN decE
  by_cases h1 : l.length < 20
  · rw [if_pos h1, if_pos h1, if_pos h1]; exact Or.inl ⟨by decide, rfl, rfl⟩
  · rw [if_neg h1, if_neg h1, if_neg h1]
    by_cases h2 : hdOk l
    · rw [if_pos h2, if_pos h2]; exact Or.inr ⟨rfl, rfl, h1, h2⟩
    · rw [if_neg h2, if_neg h2, if_pos h2]; exact Or.inl ⟨by decide, rfl, rfl⟩
theorem run_neq4 (a0 a1 a2 a3 b0 b1 b2 b3 : Int) (W : World) : (binOp .neq 87 (.agg #[.int .u8 a0, .int .u8 a1, .int .u8 a2, .int .u8 a3]) (.agg #[.int .u8 b0, .int .u8 b1, .int .u8 b2, .int .u8 b3])).run Tryd.prog W = .ok (.bool (!(a0 == b0 && a1 == b1 && a2 == b2 && a3 == b3))) W := by
  obtain ⟨i, hi, hz0, hz1, hz2⟩ := info_parts infoB
  have h1 : ∀ (d : Nat) (a b : Int) (W : World), (Op.equalIn (d + 1) 5 (.int .u8 a) (.int .u8 b)).run Tryd.prog W = .ok (a == b) W := fun d a b W => by
    simp [Op.equalIn, run_underlying Tryd.underlying5]
  have hs : ∀ W, (sizeOf 5).run Tryd.prog W = .ok 1 W := fun W => by simp [sizeOf, typeInfo, hi, hz1]
  have h : ∀ d : Nat, (Op.equalIn (d + 2) 87 (.agg #[.int .u8 a0, .int .u8 a1, .int .u8 a2, .int .u8 a3]) (.agg #[.int .u8 b0, .int .u8 b1, .int .u8 b2, .int .u8 b3])).run Tryd.prog W = .ok (a0 == b0 && a1 == b1 && a2 == b2 && a3 == b3) W := fun d => by
    unfold Op.equalIn
    simp only [Sem.run_bind, run_underlying Tryd.underlying87, Result.andThen_ok, hs]
    simp [Std.Legacy.Range.forIn_eq_forIn_range', Std.Legacy.Range.size, List.range', List.forIn_cons, hs, h1, part]
    by_cases e0 : a0 = b0 <;> by_cases e1 : a1 = b1 <;> by_cases e2 : a2 = b2 <;> by_cases e3 : a3 = b3 <;> simp [e0, e1, e2, e3]
  simp only [binOp]
  simp [Op.equal, Op.maxDepth, h 9998]
/-- Four bytes of a list, one by one. -/
theorem seg4 {l : List Nat} {e : Nat} (h : e + 4 ≤ l.length) : (l.drop e).take 4 = [l.getD e 0, l.getD (e + 1) 0, l.getD (e + 2) 0, l.getD (e + 3) 0] := by
  apply List.ext_getElem
  · simp; omega
  · intro i h1 h2
    have hi : i < 4 := by simpa using h2
    rw [List.getElem_take, List.getElem_drop]
    match i, hi with
    | 0, _ => have hk : e < l.length := by omega
              simp [List.getD, hk]
    | 1, _ => have hk : e + 1 < l.length := by omega
              simp [List.getD, hk]
    | 2, _ => have hk : e + 2 < l.length := by omega
              simp [List.getD, hk]
    | 3, _ => have hk : e + 3 < l.length := by omega
              simp [List.getD, hk]
theorem getD_seg {l : List Nat} {p c i : Nat} (h : i < c) : ((l.drop p).take c).getD i 0 = l.getD (p + i) 0 := by
  simp [List.getD, h]
theorem four_eq (q0 q1 q2 q3 a0 a1 a2 a3 : Nat) : ((q0 : Int) == (a0 : Int) && (q1 : Int) == (a1 : Int) && (q2 : Int) == (a2 : Int) && (q3 : Int) == (a3 : Int)) = decide ([a0, a1, a2, a3] = [q0, q1, q2, q3]) := by
  rw [Bool.eq_iff_iff]
  simp only [Bool.and_eq_true, beq_iff_eq, decide_eq_true_eq, List.cons.injEq, and_true]
  omega
/-- A number in bytes is 0 exactly if all are 0. -/
theorem valL_zero : ∀ (l : List Nat), valL l = 0 ↔ ∀ i, i < l.length → l.getD i 0 = 0 := by
  refine revInd (by simp [valL]) fun l b ih => ?_
  rw [valL_snoc]
  constructor
  · intro h i hi
    have h1 : valL l = 0 := by omega
    have h2 : b = 0 := by omega
    by_cases hil : i < l.length
    · have := ih.1 h1 i hil
      simpa [List.getD, List.getElem?_append_left hil] using this
    · have : i = l.length := by simp at hi; omega
      subst this
      simp [h2]
  · intro h
    have h1 : valL l = 0 := ih.2 fun i hi => by
      have := h i (by simp; omega)
      simpa [List.getD, List.getElem?_append_left hi] using this
    have h2 := h l.length (by simp)
    simp at h2
    omega
set_option maxRecDepth 100000 in
set_option maxHeartbeats 6400000 in
theorem pdecode_any (v : Value) (l : List Nat) (w : World) (s : Sl w v l) (ht : Tab w) : Calls Tryd.prog 24 #[v] w (ED w (decX l) (decN l) (decE l)) := by
  have HX0 := Lib.hid fun (h : decE l ≠ 0) => (show decX l = ⟨0, 0, false, []⟩ by unfold decX; rw [if_neg h])
  have HN0 := Lib.hid fun (h : decE l ≠ 0) => (show decN l = 0 by unfold decN; rw [if_neg h])
  have HB0 := Lib.hid ((Below.refl w.heap.size w).alloc (Nat.le_refl _) (.cells #[.int .u64 0, .int .u32 0, .bool false, .slice none 0 0] 56))
  have DL := Lib.hid (pdl_any v l (w.alloc (.cells #[.int .u64 0, .int .u32 0, .bool false, .slice none 0 0] 56)) (sl_below s HB0.out))
  unfold DO at DL
  rcases dl_cases l with ⟨h1, h2, h3⟩ | ⟨h1, h2, h3, h4⟩
  · obtain ⟨er, her⟩ : ∃ er, er = dlE l := ⟨_, rfl⟩
    rw [← her, h2] at DL
    rw [← her] at h1 h3
    have he : ((er : Int) != 0) = true := by rw [bne_iff_ne]; omega
    have HER := Lib.hid h3
    have H1 := Lib.hid h1
    obtain ⟨a, c, rfl, -, -⟩ := sl_form s
    generalize l.length = n at *
    clear h1 h2 h3 her s ht
    unfold ED
    go_enter Tryd.func24, Tryd.ntmps24
    go_wp2_with fail
    refine DL.out.mono ?_
    rintro e W1 ⟨rfl, hb1⟩
    have HBX := Lib.hid ((hb1.block w.heap.size (by simp)).trans (heap_alloc_new w (.cells #[.int .u64 0, .int .u32 0, .bool false, .slice none 0 0] 56)))
    have HB1 := Lib.hid (bt HB0.out hb1)
    obtain ⟨t0, t1, t2, t3⟩ := bx_cell HBX.out
    have z0 := frozen_of_row W1 w.heap.size 0 _ _ HBX.out
    have z1 := frozen_of_row W1 w.heap.size 1 _ _ HBX.out
    have z2 := frozen_of_row W1 w.heap.size 2 _ _ HBX.out
    have z3 := frozen_of_row W1 w.heap.size 3 _ _ HBX.out
    clear hb1
    go_wp2
    refine pdec_end (g := w.heap.size) rfl (set4 HBX.out) ?_
    exact err_end HER.out H1.out (below4 HB1.out (Nat.le_refl _))
  obtain ⟨b, o, c, hv, hc1, hc2, hk⟩ := sl_cells s (by omega)
  obtain ⟨n, hn⟩ : ∃ n, n = l.length := ⟨_, rfl⟩
  rw [← hn] at hv h3 hc1
  subst hv
  obtain ⟨m, hm⟩ : ∃ m, m = lenR l := ⟨_, rfl⟩
  rw [h1, h2, ← hm] at DL
  have hm4 : m ≤ 4096 := by rw [hm]; exact h4.2.2.2.2.1
  have hy2 : l.getD 2 0 ≤ 1 := h4.2.2.1
  have HF := Lib.hid (dec_cases (show ¬ l.length < 20 by omega) h4)
  rw [← hm, ← hn] at HF
  have hms := szI6_nat (n := m) hm4
  obtain ⟨M, hMM⟩ : ∃ M, M = szR m := ⟨_, rfl⟩
  rw [← hMM] at HF hms
  have RZ : Hid (∀ W, Calls Tryd.prog 26 #[.int .i64 (m : Int)] W fun e w' => e = .returned (.int .i64 (M : Int)) ∧ W = w') := fun W => by
    have h := psize_any (m : Int) W (by unfold I64b; omega)
    rwa [hms] at h
  have hMb : 24 + m ≤ M ∧ M < 32 + m := by have := szR_ge m; have := szR_lt m; omega
  have HMM := Lib.hid hMM
  have HMB := Lib.hid hMb
  have HS := Lib.hid s
  have HC := Lib.hid hk
  have HCC := Lib.hid (And.intro hc1 hc2)
  have hnE := Lib.hid hn
  have HM := Lib.hid hm
  have H4 := Lib.hid h4
  have HM4 := Lib.hid hm4
  have HY2 := Lib.hid hy2
  have HT := Lib.hid ht
  have H3 := Lib.hid h3
  have g0 : (m : Int) ≤ 4096 := by omega
  clear hms hMM hMb s hk hc1 hc2 hn hm h1 h2 h4 hm4 hy2 ht h3
  obtain ⟨E0, hE0⟩ : ∃ E0, E0 = 20 + m := ⟨_, rfl⟩
  have e20 : (20 : Int) + (m : Int) = (E0 : Int) := by omega
  have HE0 := Lib.hid hE0
  clear hE0
  unfold ED
  by_cases p6 : n < M
  · have hc6 : decide ((n : Int) < (M : Int)) = true := decide_eq_true (by omega)
    have HE := Lib.hid (HF.out.1 p6)
    go_enter Tryd.func24, Tryd.ntmps24
    go_wp2_with fail
    refine DL.out.mono ?_
    rintro e W1 ⟨rfl, hb1⟩
    have HBX := Lib.hid ((hb1.block w.heap.size (by simp)).trans (heap_alloc_new w (.cells #[.int .u64 0, .int .u32 0, .bool false, .slice none 0 0] 56)))
    have HB1 := Lib.hid (bt HB0.out hb1)
    clear hb1
    obtain ⟨t0, t1, t2, t3⟩ := bx_cell HBX.out
    have z0 := frozen_of_row W1 w.heap.size 0 _ _ HBX.out
    have z1 := frozen_of_row W1 w.heap.size 1 _ _ HBX.out
    have z2 := frozen_of_row W1 w.heap.size 2 _ _ HBX.out
    have z3 := frozen_of_row W1 w.heap.size 3 _ _ HBX.out
    go_wp2_with (go_at_call 26; refine (RZ.out _).mono ?_; rintro e w1 ⟨rfl, rfl⟩)
    refine pdec_end (g := w.heap.size) rfl (set4 HBX.out) ?_
    exact err_end (err := 4) HE.out (by decide) (below4 HB1.out (Nat.le_refl _))
  have hc6 : decide ((n : Int) < (M : Int)) = false := decide_eq_false (by omega)
  have HNM := Lib.hid p6
  have r1 : (E0 : Int) ≤ (c : Int) := by have := HMB.out; have := HCC.out.1; have := HE0.out; omega
  have r2 : (E0 : Int) ≤ (n : Int) := by have := HMB.out; have := HE0.out; omega
  have r4 : ¬ c = E0 := by have := HMB.out; have := HCC.out.1; have := HE0.out; omega
  go_enter Tryd.func24, Tryd.ntmps24
  go_wp2_with fail
  refine DL.out.mono ?_
  rintro e W1 ⟨rfl, hb1⟩
  have HBX := Lib.hid ((hb1.block w.heap.size (by simp)).trans (heap_alloc_new w (.cells #[.int .u64 0, .int .u32 0, .bool false, .slice none 0 0] 56)))
  have HB1 := Lib.hid (bt HB0.out hb1)
  clear hb1
  go_wp2_with (go_at_call 26; refine (RZ.out _).mono ?_; rintro e w1 ⟨rfl, rfl⟩)
  have SA := Lib.hid (fun W (hW : Below w.heap.size w W) => sl_below (sl_cut (w := w) (p := 0) (c := E0) HS.out.1 hnE.out.symm HCC.out.2 HCC.out.1 (by rw [hnE.out]; exact HC.out) (by omega)) hW)
  rw [Nat.add_zero, Nat.sub_zero, List.drop_zero] at SA
  have CK := Lib.hid (fun W (hW : Below w.heap.size w W) => pchecksum_any _ _ W (SA.out W hW) (tab_below HT.out hW))
  have C4 : Hid (∀ W, Below w.heap.size w W → W.cell? ⟨b, o + E0, none⟩ = some (.int .u8 ((l.getD E0 0 : Nat) : Int)) ∧ W.cell? ⟨b, o + E0 + 1, none⟩ = some (.int .u8 ((l.getD (E0 + 1) 0 : Nat) : Int)) ∧ W.cell? ⟨b, o + E0 + 2, none⟩ = some (.int .u8 ((l.getD (E0 + 2) 0 : Nat) : Int)) ∧ W.cell? ⟨b, o + E0 + 3, none⟩ = some (.int .u8 ((l.getD (E0 + 3) 0 : Nat) : Int))) := fun W hW =>
    have f : ∀ k, k < n → W.cell? ⟨b, o + k, none⟩ = some (.int .u8 ((l.getD k 0 : Nat) : Int)) := fun k h => (hW.cell (block_lt_of_cell (HC.out k (by rw [← hnE.out]; exact h)))).trans (HC.out k (by rw [← hnE.out]; exact h))
    ⟨f E0 (by have := HMB.out; have := HE0.out; omega), by rw [Nat.add_assoc]; exact f (E0 + 1) (by have := HMB.out; have := HE0.out; omega), by rw [Nat.add_assoc]; exact f (E0 + 2) (by have := HMB.out; have := HE0.out; omega), by rw [Nat.add_assoc]; exact f (E0 + 3) (by have := HMB.out; have := HE0.out; omega)⟩
  have hsum4 : ∃ a0 a1 a2 a3, leL (ext 0 (l.take E0)) = [a0, a1, a2, a3] := ⟨_, _, _, _, rfl⟩
  obtain ⟨a0, a1, a2, a3, hA⟩ := hsum4
  rw [hA, show (cellsOf [a0, a1, a2, a3]).toArray = #[.int .u8 (a0 : Int), .int .u8 (a1 : Int), .int .u8 (a2 : Int), .int .u8 (a3 : Int)] from rfl] at CK
  have hck : ckOk l ↔ [a0, a1, a2, a3] = [l.getD E0 0, l.getD (E0 + 1) 0, l.getD (E0 + 2) 0, l.getD (E0 + 3) 0] := by
    unfold ckOk
    rw [← HM.out, ← HE0.out, hA, seg4 (by have := HMB.out; have := HE0.out; have := hnE.out; omega)]
  have hpd : pdOk l ↔ valL ((l.drop (E0 + 4)).take (M - (E0 + 4))) = 0 := by
    have hlen : ((l.drop (E0 + 4)).take (M - (E0 + 4))).length = M - (E0 + 4) := by have := HMB.out; have := HE0.out; have := hnE.out; simp; omega
    rw [valL_zero, hlen]
    unfold pdOk
    rw [← HM.out, ← HMM.out]
    constructor
    · intro h i hi
      rw [getD_seg hi]
      exact h _ (by omega) (by have := HE0.out; omega)
    · intro h i h1 h2
      have := h (i - (E0 + 4)) (by have := HE0.out; omega)
      rw [getD_seg (by have := HE0.out; omega)] at this
      rwa [show E0 + 4 + (i - (E0 + 4)) = i by have := HE0.out; omega] at this
  have HCK := Lib.hid hck
  have HPD := Lib.hid hpd
  clear hck hpd hA
  generalize l.getD E0 0 = q0 at C4 HCK
  generalize l.getD (E0 + 1) 0 = q1 at C4 HCK
  generalize l.getD (E0 + 2) 0 = q2 at C4 HCK
  generalize l.getD (E0 + 3) 0 = q3 at C4 HCK
  have r5 : 4 ≤ n - E0 := by have := HMB.out; have := HE0.out; omega
  refine wp_onlyN ?_
  refine wp_region_headsS (fun w' => Below w.heap.size w w') [0, 1, 2, 3, 4, 5, 6, 7] 3 (by kernel_rfl) (fun _ _ _ _ _ h => h.elim) (by kernel_rfl) (by rfl) (by rfl) HB1.out.drew ?_
  simp only [pickOps, List.filterMap_cons, List.filterMap_nil, List.getElem?_toArray, List.getElem?_cons_zero, List.getElem?_cons_succ]
  refine wpHeads_step (fun K hK => ?_)
  go_simp
  refine ⟨_, fun _ _ => rfl, hK _ ?_⟩
  clear hK K
  refine wpHeads_step (fun K hK => ?_)
  go_simp
  refine ⟨_, fun _ _ => rfl, hK _ ?_⟩
  clear hK K
  refine wpHeads_step (fun K hK => ?_)
  go_simp
  refine ⟨_, fun _ _ => rfl, hK _ ?_⟩
  clear hK K
  refine wpHeads_step (fun K hK => ?_)
  go_simp
  refine ⟨.pointer (some ⟨b, o + E0, none⟩), fun w' _ => by simp [Instr.arrayAt, run_underlying Tryd.underlying87, Nat.not_lt.2 r5], hK _ ?_⟩
  clear hK K
  refine wpHeads_step (fun K hK => ?_)
  go_simp
  refine ⟨.agg #[.int .u8 (q0 : Int), .int .u8 (q1 : Int), .int .u8 (q2 : Int), .int .u8 (q3 : Int)], fun w' hw' => by obtain ⟨u0, u1, u2, u3⟩ := C4.out w' hw'; simp [u0, u1, u2, u3], hK _ ?_⟩
  clear hK K
  refine wpHeads_step (fun K hK => ?_)
  go_simp
  refine ⟨_, fun _ _ => rfl, hK _ ?_⟩
  clear hK K
  refine wpHeads_step (fun K hK => ?_)
  go_simp
  refine ⟨_, fun _ _ => rfl, hK _ ?_⟩
  clear hK K
  refine wpHeads_step (fun K hK => ?_)
  go_simp
  refine ⟨_, fun _ _ => rfl, hK _ ?_⟩
  clear hK K
  refine wpHeads_nil ?_
  refine held_one 8 rfl rfl (by kernel_rfl) fun K hK => ?_
  go_simp
  go_at_call 41
  refine (CK.out _ HB1.out.drew).mono ?_
  rintro e W3 ⟨rfl, hb3⟩
  have hb4 : Below w.heap.size w W3 := bt HB1.out.drew hb3
  have hbx3 : W3.heap[w.heap.size]? = _ := (hb3.block _ (lt_of_some HBX.out)).trans HBX.out
  refine hK _ _ hb4 ?_
  clear hK K hb3
  have hneq := run_neq4 (q0 : Int) q1 q2 q3 a0 a1 a2 a3
  rw [four_eq] at hneq
  generalize hD : decide ([a0, a1, a2, a3] = [q0, q1, q2, q3]) = D at hneq
  have HD := Lib.hid hD
  refine held_one 9 rfl rfl (by kernel_rfl) fun K hK => ?_
  clear hD
  go_simp
  refine hK _ _ hb4 ?_
  clear hK K
  refine held_one 10 rfl rfl (by kernel_rfl) fun K hK => ?_
  go_simp
  refine hK _ _ hb4 ?_
  clear hK K
  refine wpAnyH_done (by kernel_rfl) ?_ _
  unfold onlyN
  dsimp only
  have HB3 := Lib.hid hb4
  have HBX3 := Lib.hid hbx3
  have HF1 := Lib.hid (HF.out.2 HNM.out)
  clear hb4 hbx3 hneq HF C4 CK
  by_cases p9 : ckOk l
  case neg =>
    obtain rfl : D = false := by rw [← HD.out]; exact decide_eq_false fun h => p9 (HCK.out.2 h)
    have HE5 := Lib.hid (HF1.out.1 p9)
    clear p9 HF1
    obtain ⟨t0, t1, t2, t3⟩ := bx_cell HBX3.out
    have z0 := frozen_of_row W3 w.heap.size 0 _ _ HBX3.out
    have z1 := frozen_of_row W3 w.heap.size 1 _ _ HBX3.out
    have z2 := frozen_of_row W3 w.heap.size 2 _ _ HBX3.out
    have z3 := frozen_of_row W3 w.heap.size 3 _ _ HBX3.out
    go_wp2
    refine pdec_end (g := w.heap.size) rfl (set4 HBX3.out) ?_
    exact err_end (err := 5) HE5.out (by decide) (below4 HB3.out (Nat.le_refl _))
  obtain rfl : D = true := by rw [← HD.out]; exact decide_eq_true (HCK.out.1 p9)
  have HF2 := Lib.hid (HF1.out.2 p9)
  clear HF1 p9 HCK
  obtain ⟨E4, hE4⟩ : ∃ E4, E4 = E0 + 4 := ⟨_, rfl⟩
  have e4 : (E0 : Int) + 4 = (E4 : Int) := by omega
  have w4 : IntKind.i64.wrap ((E0 : Int) + 4) = (E4 : Int) := by rw [e4]; exact IntWalk.i64_in _ (by have := HMB.out; have := HE0.out; have := HM4.out; omega)
  rw [← hE4] at HPD
  have HE4 := Lib.hid hE4
  clear hE4
  have r6 : (E4 : Int) ≤ (M : Int) := by have := HMB.out; have := HE0.out; have := HE4.out; omega
  have r7 : (M : Int) ≤ (c : Int) := by have := HCC.out.1; have := HNM.out; omega
  have r9 : (M : Int) ≤ (n : Int) := by have := HNM.out; omega
  have NV := Lib.hid (fun W (hW : Below w.heap.size w W) => pnumber_any _ _ W (sl_below (sl_cut (w := w) (p := E4) (c := M - E4) HS.out.1 hnE.out.symm HCC.out.2 HCC.out.1 (by rw [hnE.out]; exact HC.out) (by have := HNM.out; omega)) hW) (by have := HMB.out; have := HE0.out; have := HE4.out; simp; omega))
  have HPD2 := HPD.out
  have HPV : Hid (M ≤ E4 → valL ((l.drop E4).take (M - E4)) = 0) := fun h => by
    rw [show M - E4 = 0 by omega, List.take_zero]
    rfl
  generalize valL ((l.drop E4).take (M - E4)) = PV at NV HPD2 HPV
  have HPD := Lib.hid HPD2
  clear HPD2
  by_cases p10 : PV = 0
  case neg =>
    have r8 : ¬ c = E4 := fun e => p10 (HPV.out (by have := HCC.out.1; have := HNM.out; omega))
    have hc10 : ((PV : Int) != 0) = true := by rw [bne_iff_ne]; omega
    have HE3 := Lib.hid (HF2.out.1 fun h => p10 (HPD.out.1 h))
    clear p10 HF2
    obtain ⟨t0, t1, t2, t3⟩ := bx_cell HBX3.out
    have z0 := frozen_of_row W3 w.heap.size 0 _ _ HBX3.out
    have z1 := frozen_of_row W3 w.heap.size 1 _ _ HBX3.out
    have z2 := frozen_of_row W3 w.heap.size 2 _ _ HBX3.out
    have z3 := frozen_of_row W3 w.heap.size 3 _ _ HBX3.out
    go_wp2_with (go_at_call 42; refine (NV.out _ HB3.out).mono ?_; rintro e w1 ⟨rfl, rfl⟩)
    refine pdec_end (g := w.heap.size) rfl (set4 HBX3.out) ?_
    exact err_end (err := 3) HE3.out (by decide) (below4 HB3.out (Nat.le_refl _))
  have HE := Lib.hid (HF2.out.2 (HPD.out.2 p10))
  subst p10
  by_cases hcE : c = E4
  · subst hcE
    obtain rfl : M = c := by omega
    go_wp2_with (go_at_call 42; refine (pnumber_nil _ _ _).mono ?_; rintro e w1 ⟨rfl, rfl⟩)
    have SV8 := Lib.hid (fun W (hW : Below w.heap.size w W) => pnumber_any _ _ W (sl_below (sl_cut (w := w) (p := 8) (c := 8) HS.out.1 hnE.out.symm HCC.out.2 HCC.out.1 (by rw [hnE.out]; exact HC.out) (by have := HNM.out; have := HMB.out; omega)) hW) (by simp; omega))
    have SV4 := Lib.hid (fun W (hW : Below w.heap.size w W) => pnumber_any _ _ W (sl_below (sl_cut (w := w) (p := 4) (c := 4) HS.out.1 hnE.out.symm HCC.out.2 HCC.out.1 (by rw [hnE.out]; exact HC.out) (by have := HNM.out; have := HMB.out; omega)) hW) (by simp; omega))
    have SD0 := (sl_cut (w := w) (p := 20) (c := m) HS.out.1 hnE.out.symm HCC.out.2 HCC.out.1 (by rw [hnE.out]; exact HC.out) (by have := HNM.out; have := HMB.out; omega))
    rw [show m = E0 - 20 by have := HE0.out; omega] at SD0
    have HDL : Hid (((l.drop 20).take (E0 - 20)).length = E0 - 20) := by show _ = _; rw [List.length_take, List.length_drop]; have := HE0.out; have := HNM.out; have := HMB.out; have := hnE.out; omega
    have SD := Lib.hid (fun W (hW : Below w.heap.size w W) => (by have h := pclone_any ⟨b, o + 20, none⟩ (M - 20) ((l.drop 20).take (E0 - 20)) W (by rw [HDL.out]; exact sl_below SD0 hW) (by rw [HDL.out]; have := HE0.out; have := HM4.out; omega); rw [HDL.out] at h; exact h.mono fun e w2 ⟨⟨v, q1, q2⟩, q3⟩ => ⟨⟨v, q1, own_weak q2 hW.size⟩, q3⟩ : Calls Tryd.prog 43 #[.slice (some ⟨b, o + 20, none⟩) (E0 - 20) (M - 20)] W fun e w' => (∃ v, e = .returned v ∧ Own w' w.heap.size v ((l.drop 20).take (E0 - 20))) ∧ Below W.heap.size W w'))
    clear SD0
    have C2 := Lib.hid (fun W (hW : Below w.heap.size w W) => (hW.cell (p := ⟨b, o + 2, none⟩) (block_lt_of_cell (HC.out 2 (by rw [← hnE.out]; have := HNM.out; have := HMB.out; omega)))).trans (HC.out 2 (by rw [← hnE.out]; have := HNM.out; have := HMB.out; omega)))
    have hx4 : valL ((l.drop 4).take 4) < 4294967296 := by
      have h1 := valL_lt _ (mem_seg HS.out.1 4 4)
      have h2 : ((l.drop 4).take 4).length ≤ 4 := by rw [List.length_take]; omega
      exact Nat.lt_of_lt_of_le h1 (by have := Nat.pow_le_pow_right (n := 256) (by decide) h2; simpa using this)
    have hx8 : valL ((l.drop 8).take 8) < 18446744073709551616 := by
      have h1 := valL_lt _ (mem_seg HS.out.1 8 8)
      have h2 : ((l.drop 8).take 8).length ≤ 8 := by rw [List.length_take]; omega
      exact Nat.lt_of_lt_of_le h1 (by have := Nat.pow_le_pow_right (n := 256) (by decide) h2; simpa using this)
    have HDX : Hid (decX l = ⟨valL ((l.drop 8).take 8), valL ((l.drop 4).take 4), decide (l.getD 2 0 = 1), (l.drop 20).take (E0 - 20)⟩ ∧ decN l = M) := by
      refine ⟨?_, ?_⟩
      · unfold decX
        rw [if_pos HE.out, ← HM.out, show m = E0 - 20 by have := HE0.out; omega]
      · unfold decN
        rw [if_pos HE.out, ← HM.out, ← HMM.out]
    have HX48 := Lib.hid (And.intro hx4 hx8)
    have HW4 : IntKind.u32.wrap ((valL ((l.drop 4).take 4) : Nat) : Int) = ((valL ((l.drop 4).take 4) : Nat) : Int) := IntWalk.u32_in _ (by omega)
    have HY : (((l.getD 2 0 : Nat) : Int) == 1) = decide (l.getD 2 0 = 1) := by
      by_cases h : l.getD 2 0 = 1
      · rw [h]; rfl
      · rw [decide_eq_false h]; exact beq_false_of_ne (by omega)
    generalize hfl : decide (l.getD 2 0 = 1) = FL at HDX HY
    clear hfl
    generalize l.getD 2 0 = y2 at C2 HY
    have w1 : ¬ M = 8 := by have := HCC.out.1; have := HNM.out; have := HMB.out; omega
    have w2 : ¬ M = 4 := by have := HCC.out.1; have := HNM.out; have := HMB.out; omega
    have w3' : ¬ M = 20 := by have := HCC.out.1; have := HNM.out; have := HMB.out; omega
    have w5 : (8 : Int) ≤ (M : Int) ∧ (16 : Int) ≤ (M : Int) ∧ (4 : Int) ≤ (M : Int) ∧ (20 : Int) ≤ (E0 : Int) := by have := HE0.out; have := HCC.out.1; have := HNM.out; have := HMB.out; omega
    have w6 : (2 : Int) < (n : Int) ∧ (8 : Int) ≤ (n : Int) ∧ (16 : Int) ≤ (n : Int) := by have := HNM.out; have := HMB.out; omega
    generalize valL ((l.drop 4).take 4) = X4 at *
    generalize valL ((l.drop 8).take 8) = X8 at *
    generalize (l.drop 20).take (E0 - 20) = DD at *
    clear hx4 hx8
    refine wp_onlyN ?_
    refine wp_region_headsS (fun w' => Below w.heap.size w w') [0, 1, 3, 4, 7, 8, 9, 10, 11, 12, 13] 7 (by kernel_rfl) (fun _ _ _ _ _ h => h.elim) (by kernel_rfl) (by rfl) (by rfl) HB3.out.drew ?_
    simp only [pickOps, List.filterMap_cons, List.filterMap_nil, List.getElem?_toArray, List.getElem?_cons_zero, List.getElem?_cons_succ]
    refine wpHeads_step (fun K hK => ?_)
    go_simp
    refine ⟨_, fun _ _ => rfl, hK _ ?_⟩
    clear hK K
    refine wpHeads_step (fun K hK => ?_)
    go_simp
    refine ⟨_, fun _ _ => rfl, hK _ ?_⟩
    clear hK K
    refine wpHeads_step (fun K hK => ?_)
    go_simp
    refine ⟨_, fun _ _ => rfl, hK _ ?_⟩
    clear hK K
    refine wpHeads_step (fun K hK => ?_)
    go_simp
    refine ⟨_, fun _ _ => rfl, hK _ ?_⟩
    clear hK K
    refine wpHeads_step (fun K hK => ?_)
    go_simp
    refine ⟨_, fun _ _ => rfl, hK _ ?_⟩
    clear hK K
    refine wpHeads_step (fun K hK => ?_)
    go_simp
    refine ⟨_, fun _ _ => rfl, hK _ ?_⟩
    clear hK K
    refine wpHeads_step (fun K hK => ?_)
    go_simp
    refine ⟨.int .u8 (y2 : Int), fun w' hw' => by rw [C2.out w' hw']; rfl, hK _ ?_⟩
    clear hK K
    refine wpHeads_step (fun K hK => ?_)
    go_simp
    refine ⟨_, fun _ _ => rfl, hK _ ?_⟩
    clear hK K
    refine wpHeads_step (fun K hK => ?_)
    go_simp
    refine ⟨_, fun _ _ => rfl, hK _ ?_⟩
    clear hK K
    refine wpHeads_step (fun K hK => ?_)
    go_simp
    refine ⟨_, fun _ _ => rfl, hK _ ?_⟩
    clear hK K
    refine wpHeads_step (fun K hK => ?_)
    go_simp
    refine ⟨_, fun _ _ => rfl, hK _ ?_⟩
    clear hK K
    refine wpHeads_nil ?_
    have hb0 : Below w.heap.size w W3.drew := HB3.out.drew
    have hx0 : W3.drew.heap[w.heap.size]? = _ := HBX3.out
    generalize W3.drew = Y0 at *
    refine held_two 2 16 rfl rfl rfl rfl (by kernel_rfl) (fun K hK => ?_) (fun K hK => ?_)
    · go_simp
      go_at_call 42
      refine (SV8.out _ hb0).mono ?_
      rintro e Y ⟨rfl, rfl⟩
      refine hK _ _ hb0 ?_
      clear hK K
      refine held_two 5 16 rfl rfl rfl rfl (by kernel_rfl) (fun K hK => ?_) (fun K hK => ?_)
      · go_simp
        go_at_call 42
        refine (SV4.out _ hb0).mono ?_
        rintro e Y ⟨rfl, rfl⟩
        refine hK _ _ hb0 ?_
        clear hK K
        refine wpAnyH_take (i := 6) (v := .int .u32 (IntKind.u32.wrap (X4 : Int))) rfl (by kernel_rfl) (by kernel_rfl) (by kernel_rfl) (fun _ _ _ h => h) (Or.inl ⟨by rfl, fun w _ => by rfl⟩) hb0 ?_
        rw [HW4]
        refine held_two 14 16 rfl rfl rfl rfl (by kernel_rfl) (fun K hK => ?_) (fun K hK => ?_)
        · go_simp
          go_at_call 43
          refine (SD.out _ hb0).mono ?_
          rintro e Y2 ⟨⟨sv, rfl, ho2⟩, hbc⟩
          obtain ⟨sa, sn, sc, rfl, -⟩ := own_form ho2
          have hb2 := bt hb0 hbc
          have hx2 := (hbc.block _ (lt_of_some hx0)).trans hx0
          refine hK _ _ hb2 ?_
          clear hK K
          refine wpAnyH_take (i := 15) (v := .agg #[.int .u64 (X8 : Int), .int .u32 (X4 : Int), .bool FL, .slice sa sn sc]) rfl (by kernel_rfl) (by kernel_rfl) (by kernel_rfl) (fun _ _ _ h => h) (Or.inl ⟨by rfl, fun w _ => by go_simp⟩) hb2 ?_
          refine held_one 16 rfl rfl (by kernel_rfl) fun K hK => ?_
          go_simp
          have hbV := hb2.alloc hb2.size (.cells #[.int .u64 0, .int .u32 0, .bool false, .slice none 0 0] 56)
          have hxV : (Y2.alloc (.cells #[.int .u64 0, .int .u32 0, .bool false, .slice none 0 0] 56)).heap[w.heap.size]? = _ := (Below.heap_alloc Y2 _ _ (lt_of_some hx2)).trans hx2
          have hpV := heap_alloc_new Y2 (.cells #[.int .u64 0, .int .u32 0, .bool false, .slice none 0 0] 56)
          have hoV := ho2.alloc (.cells #[.int .u64 0, .int .u32 0, .bool false, .slice none 0 0] 56)
          have hne : w.heap.size ≠ Y2.heap.size := by have := lt_of_some hx2; omega
          have hge : w.heap.size ≤ Y2.heap.size := hb2.size
          refine hK _ _ hbV ?_
          clear hK K
          generalize Y2.alloc (.cells #[.int .u64 0, .int .u32 0, .bool false, .slice none 0 0] 56) = V at *
          generalize Y2.heap.size = p at *
          have HO := Lib.hid (own_set4 (k := .int .u64 (X8 : Int)) (l := .int .u32 (X4 : Int)) (m := .bool FL) (n := .slice sa sn sc) hoV hpV)
          have HP := Lib.hid (set4 (k := .int .u64 (X8 : Int)) (l := .int .u32 (X4 : Int)) (m := .bool FL) (n := .slice sa sn sc) hpV)
          have HXB := Lib.hid ((set4_other (k := .int .u64 (X8 : Int)) (l := .int .u32 (X4 : Int)) (m := .bool FL) (n := .slice sa sn sc) hne).trans hxV)
          have HBV := Lib.hid (below4 (k := .int .u64 (X8 : Int)) (l := .int .u32 (X4 : Int)) (m := .bool FL) (n := .slice sa sn sc) hbV hge)
          obtain ⟨t0, t1, t2, t3⟩ := bx_cell hpV
          have z0 := frozen_of_row V p 0 _ _ hpV
          have z1 := frozen_of_row V p 1 _ _ hpV
          have z2 := frozen_of_row V p 2 _ _ hpV
          have z3 := frozen_of_row V p 3 _ _ hpV
          refine held_one 17 rfl rfl (by kernel_rfl) fun K hK => ?_
          go_simp
          refine hK _ _ HBV.out ?_
          clear hK K t0 t1 t2 t3 z0 z1 z2 z3 hpV hxV hoV hbV
          generalize (((V.setCell ⟨p, 0, none⟩ (.int .u64 (X8 : Int))).setCell ⟨p, 1, none⟩ (.int .u32 (X4 : Int))).setCell ⟨p, 2, none⟩ (.bool FL)).setCell ⟨p, 3, none⟩ (.slice sa sn sc) = V2 at *
          refine wpAnyH_done (by kernel_rfl) ?_ _
          unfold onlyN
          dsimp only
          obtain ⟨u0, u1, u2, u3⟩ := bx_cell HP.out
          obtain ⟨t0, t1, t2, t3⟩ := bx_cell HXB.out
          have z0 := frozen_of_row V2 w.heap.size 0 _ _ HXB.out
          have z1 := frozen_of_row V2 w.heap.size 1 _ _ HXB.out
          have z2 := frozen_of_row V2 w.heap.size 2 _ _ HXB.out
          have z3 := frozen_of_row V2 w.heap.size 3 _ _ HXB.out
          go_wp2_with fail
          refine pdec_end (g := w.heap.size) rfl (set4 HXB.out) ?_
          refine ⟨⟨_, by rw [HDX.out.2, HE.out]; rfl, ?_⟩, below4 HBV.out (Nat.le_refl _)⟩
          rw [HDX.out.1]
          exact ⟨_, rfl, HX48.out.2, HX48.out.1, own_set4 HO.out HXB.out⟩
        · go_simp
          have hb1 := hb0.alloc hb0.size (.cells #[.int .u64 0, .int .u32 0, .bool false, .slice none 0 0] 56)
          have hx1 : (Y0.alloc (.cells #[.int .u64 0, .int .u32 0, .bool false, .slice none 0 0] 56)).heap[w.heap.size]? = _ := (Below.heap_alloc Y0 _ _ (lt_of_some hx0)).trans hx0
          have hp1 := heap_alloc_new Y0 (.cells #[.int .u64 0, .int .u32 0, .bool false, .slice none 0 0] 56)
          have hne : w.heap.size ≠ Y0.heap.size := by have := lt_of_some hx0; omega
          have hge : w.heap.size ≤ Y0.heap.size := hb0.size
          refine hK _ _ hb1 ?_
          clear hK K
          generalize Y0.alloc (.cells #[.int .u64 0, .int .u32 0, .bool false, .slice none 0 0] 56) = Y1 at *
          generalize Y0.heap.size = p at *
          refine held_one 14 rfl rfl (by kernel_rfl) fun K hK => ?_
          go_simp
          go_at_call 43
          refine (SD.out _ hb1).mono ?_
          rintro e V ⟨⟨sv, rfl, hoV⟩, hbc⟩
          obtain ⟨sa, sn, sc, rfl, -⟩ := own_form hoV
          have hbV := bt hb1 hbc
          have hxV := (hbc.block _ (lt_of_some hx1)).trans hx1
          have hpV := (hbc.block _ (lt_of_some hp1)).trans hp1
          refine hK _ _ hbV ?_
          clear hK K
          refine wpAnyH_take (i := 15) (v := .agg #[.int .u64 (X8 : Int), .int .u32 (X4 : Int), .bool FL, .slice sa sn sc]) rfl (by kernel_rfl) (by kernel_rfl) (by kernel_rfl) (fun _ _ _ h => h) (Or.inl ⟨by rfl, fun w _ => by go_simp⟩) hbV ?_
          have HO := Lib.hid (own_set4 (k := .int .u64 (X8 : Int)) (l := .int .u32 (X4 : Int)) (m := .bool FL) (n := .slice sa sn sc) hoV hpV)
          have HP := Lib.hid (set4 (k := .int .u64 (X8 : Int)) (l := .int .u32 (X4 : Int)) (m := .bool FL) (n := .slice sa sn sc) hpV)
          have HXB := Lib.hid ((set4_other (k := .int .u64 (X8 : Int)) (l := .int .u32 (X4 : Int)) (m := .bool FL) (n := .slice sa sn sc) hne).trans hxV)
          have HBV := Lib.hid (below4 (k := .int .u64 (X8 : Int)) (l := .int .u32 (X4 : Int)) (m := .bool FL) (n := .slice sa sn sc) hbV hge)
          obtain ⟨t0, t1, t2, t3⟩ := bx_cell hpV
          have z0 := frozen_of_row V p 0 _ _ hpV
          have z1 := frozen_of_row V p 1 _ _ hpV
          have z2 := frozen_of_row V p 2 _ _ hpV
          have z3 := frozen_of_row V p 3 _ _ hpV
          refine held_one 17 rfl rfl (by kernel_rfl) fun K hK => ?_
          go_simp
          refine hK _ _ HBV.out ?_
          clear hK K t0 t1 t2 t3 z0 z1 z2 z3 hpV hxV hoV hbV
          generalize (((V.setCell ⟨p, 0, none⟩ (.int .u64 (X8 : Int))).setCell ⟨p, 1, none⟩ (.int .u32 (X4 : Int))).setCell ⟨p, 2, none⟩ (.bool FL)).setCell ⟨p, 3, none⟩ (.slice sa sn sc) = V2 at *
          refine wpAnyH_done (by kernel_rfl) ?_ _
          unfold onlyN
          dsimp only
          obtain ⟨u0, u1, u2, u3⟩ := bx_cell HP.out
          obtain ⟨t0, t1, t2, t3⟩ := bx_cell HXB.out
          have z0 := frozen_of_row V2 w.heap.size 0 _ _ HXB.out
          have z1 := frozen_of_row V2 w.heap.size 1 _ _ HXB.out
          have z2 := frozen_of_row V2 w.heap.size 2 _ _ HXB.out
          have z3 := frozen_of_row V2 w.heap.size 3 _ _ HXB.out
          go_wp2_with fail
          refine pdec_end (g := w.heap.size) rfl (set4 HXB.out) ?_
          refine ⟨⟨_, by rw [HDX.out.2, HE.out]; rfl, ?_⟩, below4 HBV.out (Nat.le_refl _)⟩
          rw [HDX.out.1]
          exact ⟨_, rfl, HX48.out.2, HX48.out.1, own_set4 HO.out HXB.out⟩
      · go_simp
        have hb1 := hb0.alloc hb0.size (.cells #[.int .u64 0, .int .u32 0, .bool false, .slice none 0 0] 56)
        have hx1 : (Y0.alloc (.cells #[.int .u64 0, .int .u32 0, .bool false, .slice none 0 0] 56)).heap[w.heap.size]? = _ := (Below.heap_alloc Y0 _ _ (lt_of_some hx0)).trans hx0
        have hp1 := heap_alloc_new Y0 (.cells #[.int .u64 0, .int .u32 0, .bool false, .slice none 0 0] 56)
        have hne : w.heap.size ≠ Y0.heap.size := by have := lt_of_some hx0; omega
        have hge : w.heap.size ≤ Y0.heap.size := hb0.size
        refine hK _ _ hb1 ?_
        clear hK K
        generalize Y0.alloc (.cells #[.int .u64 0, .int .u32 0, .bool false, .slice none 0 0] 56) = Y1 at *
        generalize Y0.heap.size = p at *
        refine held_one 5 rfl rfl (by kernel_rfl) fun K hK => ?_
        go_simp
        go_at_call 42
        refine (SV4.out _ hb1).mono ?_
        rintro e Y ⟨rfl, rfl⟩
        refine hK _ _ hb1 ?_
        clear hK K
        refine wpAnyH_take (i := 6) (v := .int .u32 (IntKind.u32.wrap (X4 : Int))) rfl (by kernel_rfl) (by kernel_rfl) (by kernel_rfl) (fun _ _ _ h => h) (Or.inl ⟨by rfl, fun w _ => by rfl⟩) hb1 ?_
        rw [HW4]
        refine held_one 14 rfl rfl (by kernel_rfl) fun K hK => ?_
        go_simp
        go_at_call 43
        refine (SD.out _ hb1).mono ?_
        rintro e V ⟨⟨sv, rfl, hoV⟩, hbc⟩
        obtain ⟨sa, sn, sc, rfl, -⟩ := own_form hoV
        have hbV := bt hb1 hbc
        have hxV := (hbc.block _ (lt_of_some hx1)).trans hx1
        have hpV := (hbc.block _ (lt_of_some hp1)).trans hp1
        refine hK _ _ hbV ?_
        clear hK K
        refine wpAnyH_take (i := 15) (v := .agg #[.int .u64 (X8 : Int), .int .u32 (X4 : Int), .bool FL, .slice sa sn sc]) rfl (by kernel_rfl) (by kernel_rfl) (by kernel_rfl) (fun _ _ _ h => h) (Or.inl ⟨by rfl, fun w _ => by go_simp⟩) hbV ?_
        have HO := Lib.hid (own_set4 (k := .int .u64 (X8 : Int)) (l := .int .u32 (X4 : Int)) (m := .bool FL) (n := .slice sa sn sc) hoV hpV)
        have HP := Lib.hid (set4 (k := .int .u64 (X8 : Int)) (l := .int .u32 (X4 : Int)) (m := .bool FL) (n := .slice sa sn sc) hpV)
        have HXB := Lib.hid ((set4_other (k := .int .u64 (X8 : Int)) (l := .int .u32 (X4 : Int)) (m := .bool FL) (n := .slice sa sn sc) hne).trans hxV)
        have HBV := Lib.hid (below4 (k := .int .u64 (X8 : Int)) (l := .int .u32 (X4 : Int)) (m := .bool FL) (n := .slice sa sn sc) hbV hge)
        obtain ⟨t0, t1, t2, t3⟩ := bx_cell hpV
        have z0 := frozen_of_row V p 0 _ _ hpV
        have z1 := frozen_of_row V p 1 _ _ hpV
        have z2 := frozen_of_row V p 2 _ _ hpV
        have z3 := frozen_of_row V p 3 _ _ hpV
        refine held_one 17 rfl rfl (by kernel_rfl) fun K hK => ?_
        go_simp
        refine hK _ _ HBV.out ?_
        clear hK K t0 t1 t2 t3 z0 z1 z2 z3 hpV hxV hoV hbV
        generalize (((V.setCell ⟨p, 0, none⟩ (.int .u64 (X8 : Int))).setCell ⟨p, 1, none⟩ (.int .u32 (X4 : Int))).setCell ⟨p, 2, none⟩ (.bool FL)).setCell ⟨p, 3, none⟩ (.slice sa sn sc) = V2 at *
        refine wpAnyH_done (by kernel_rfl) ?_ _
        unfold onlyN
        dsimp only
        obtain ⟨u0, u1, u2, u3⟩ := bx_cell HP.out
        obtain ⟨t0, t1, t2, t3⟩ := bx_cell HXB.out
        have z0 := frozen_of_row V2 w.heap.size 0 _ _ HXB.out
        have z1 := frozen_of_row V2 w.heap.size 1 _ _ HXB.out
        have z2 := frozen_of_row V2 w.heap.size 2 _ _ HXB.out
        have z3 := frozen_of_row V2 w.heap.size 3 _ _ HXB.out
        go_wp2_with fail
        refine pdec_end (g := w.heap.size) rfl (set4 HXB.out) ?_
        refine ⟨⟨_, by rw [HDX.out.2, HE.out]; rfl, ?_⟩, below4 HBV.out (Nat.le_refl _)⟩
        rw [HDX.out.1]
        exact ⟨_, rfl, HX48.out.2, HX48.out.1, own_set4 HO.out HXB.out⟩
    · go_simp
      have hb1 := hb0.alloc hb0.size (.cells #[.int .u64 0, .int .u32 0, .bool false, .slice none 0 0] 56)
      have hx1 : (Y0.alloc (.cells #[.int .u64 0, .int .u32 0, .bool false, .slice none 0 0] 56)).heap[w.heap.size]? = _ := (Below.heap_alloc Y0 _ _ (lt_of_some hx0)).trans hx0
      have hp1 := heap_alloc_new Y0 (.cells #[.int .u64 0, .int .u32 0, .bool false, .slice none 0 0] 56)
      have hne : w.heap.size ≠ Y0.heap.size := by have := lt_of_some hx0; omega
      have hge : w.heap.size ≤ Y0.heap.size := hb0.size
      refine hK _ _ hb1 ?_
      clear hK K
      generalize Y0.alloc (.cells #[.int .u64 0, .int .u32 0, .bool false, .slice none 0 0] 56) = Y1 at *
      generalize Y0.heap.size = p at *
      refine held_one 2 rfl rfl (by kernel_rfl) fun K hK => ?_
      go_simp
      go_at_call 42
      refine (SV8.out _ hb1).mono ?_
      rintro e Y ⟨rfl, rfl⟩
      refine hK _ _ hb1 ?_
      clear hK K
      refine held_one 5 rfl rfl (by kernel_rfl) fun K hK => ?_
      go_simp
      go_at_call 42
      refine (SV4.out _ hb1).mono ?_
      rintro e Y ⟨rfl, rfl⟩
      refine hK _ _ hb1 ?_
      clear hK K
      refine wpAnyH_take (i := 6) (v := .int .u32 (IntKind.u32.wrap (X4 : Int))) rfl (by kernel_rfl) (by kernel_rfl) (by kernel_rfl) (fun _ _ _ h => h) (Or.inl ⟨by rfl, fun w _ => by rfl⟩) hb1 ?_
      rw [HW4]
      refine held_one 14 rfl rfl (by kernel_rfl) fun K hK => ?_
      go_simp
      go_at_call 43
      refine (SD.out _ hb1).mono ?_
      rintro e V ⟨⟨sv, rfl, hoV⟩, hbc⟩
      obtain ⟨sa, sn, sc, rfl, -⟩ := own_form hoV
      have hbV := bt hb1 hbc
      have hxV := (hbc.block _ (lt_of_some hx1)).trans hx1
      have hpV := (hbc.block _ (lt_of_some hp1)).trans hp1
      refine hK _ _ hbV ?_
      clear hK K
      refine wpAnyH_take (i := 15) (v := .agg #[.int .u64 (X8 : Int), .int .u32 (X4 : Int), .bool FL, .slice sa sn sc]) rfl (by kernel_rfl) (by kernel_rfl) (by kernel_rfl) (fun _ _ _ h => h) (Or.inl ⟨by rfl, fun w _ => by go_simp⟩) hbV ?_
      have HO := Lib.hid (own_set4 (k := .int .u64 (X8 : Int)) (l := .int .u32 (X4 : Int)) (m := .bool FL) (n := .slice sa sn sc) hoV hpV)
      have HP := Lib.hid (set4 (k := .int .u64 (X8 : Int)) (l := .int .u32 (X4 : Int)) (m := .bool FL) (n := .slice sa sn sc) hpV)
      have HXB := Lib.hid ((set4_other (k := .int .u64 (X8 : Int)) (l := .int .u32 (X4 : Int)) (m := .bool FL) (n := .slice sa sn sc) hne).trans hxV)
      have HBV := Lib.hid (below4 (k := .int .u64 (X8 : Int)) (l := .int .u32 (X4 : Int)) (m := .bool FL) (n := .slice sa sn sc) hbV hge)
      obtain ⟨t0, t1, t2, t3⟩ := bx_cell hpV
      have z0 := frozen_of_row V p 0 _ _ hpV
      have z1 := frozen_of_row V p 1 _ _ hpV
      have z2 := frozen_of_row V p 2 _ _ hpV
      have z3 := frozen_of_row V p 3 _ _ hpV
      refine held_one 17 rfl rfl (by kernel_rfl) fun K hK => ?_
      go_simp
      refine hK _ _ HBV.out ?_
      clear hK K t0 t1 t2 t3 z0 z1 z2 z3 hpV hxV hoV hbV
      generalize (((V.setCell ⟨p, 0, none⟩ (.int .u64 (X8 : Int))).setCell ⟨p, 1, none⟩ (.int .u32 (X4 : Int))).setCell ⟨p, 2, none⟩ (.bool FL)).setCell ⟨p, 3, none⟩ (.slice sa sn sc) = V2 at *
      refine wpAnyH_done (by kernel_rfl) ?_ _
      unfold onlyN
      dsimp only
      obtain ⟨u0, u1, u2, u3⟩ := bx_cell HP.out
      obtain ⟨t0, t1, t2, t3⟩ := bx_cell HXB.out
      have z0 := frozen_of_row V2 w.heap.size 0 _ _ HXB.out
      have z1 := frozen_of_row V2 w.heap.size 1 _ _ HXB.out
      have z2 := frozen_of_row V2 w.heap.size 2 _ _ HXB.out
      have z3 := frozen_of_row V2 w.heap.size 3 _ _ HXB.out
      go_wp2_with fail
      refine pdec_end (g := w.heap.size) rfl (set4 HXB.out) ?_
      refine ⟨⟨_, by rw [HDX.out.2, HE.out]; rfl, ?_⟩, below4 HBV.out (Nat.le_refl _)⟩
      rw [HDX.out.1]
      exact ⟨_, rfl, HX48.out.2, HX48.out.1, own_set4 HO.out HXB.out⟩
  have r8 : ¬ c = E4 := hcE
  clear hcE
  go_wp2_with (go_at_call 42; refine (NV.out _ HB3.out).mono ?_; rintro e w1 ⟨rfl, rfl⟩)
  have SV8 := Lib.hid (fun W (hW : Below w.heap.size w W) => pnumber_any _ _ W (sl_below (sl_cut (w := w) (p := 8) (c := 8) HS.out.1 hnE.out.symm HCC.out.2 HCC.out.1 (by rw [hnE.out]; exact HC.out) (by have := HNM.out; have := HMB.out; omega)) hW) (by simp; omega))
  have SV4 := Lib.hid (fun W (hW : Below w.heap.size w W) => pnumber_any _ _ W (sl_below (sl_cut (w := w) (p := 4) (c := 4) HS.out.1 hnE.out.symm HCC.out.2 HCC.out.1 (by rw [hnE.out]; exact HC.out) (by have := HNM.out; have := HMB.out; omega)) hW) (by simp; omega))
  have SD0 := (sl_cut (w := w) (p := 20) (c := m) HS.out.1 hnE.out.symm HCC.out.2 HCC.out.1 (by rw [hnE.out]; exact HC.out) (by have := HNM.out; have := HMB.out; omega))
  rw [show m = E0 - 20 by have := HE0.out; omega] at SD0
  have HDL : Hid (((l.drop 20).take (E0 - 20)).length = E0 - 20) := by show _ = _; rw [List.length_take, List.length_drop]; have := HE0.out; have := HNM.out; have := HMB.out; have := hnE.out; omega
  have SD := Lib.hid (fun W (hW : Below w.heap.size w W) => (by have h := pclone_any ⟨b, o + 20, none⟩ (c - 20) ((l.drop 20).take (E0 - 20)) W (by rw [HDL.out]; exact sl_below SD0 hW) (by rw [HDL.out]; have := HE0.out; have := HM4.out; omega); rw [HDL.out] at h; exact h.mono fun e w2 ⟨⟨v, q1, q2⟩, q3⟩ => ⟨⟨v, q1, own_weak q2 hW.size⟩, q3⟩ : Calls Tryd.prog 43 #[.slice (some ⟨b, o + 20, none⟩) (E0 - 20) (c - 20)] W fun e w' => (∃ v, e = .returned v ∧ Own w' w.heap.size v ((l.drop 20).take (E0 - 20))) ∧ Below W.heap.size W w'))
  clear SD0
  have C2 := Lib.hid (fun W (hW : Below w.heap.size w W) => (hW.cell (p := ⟨b, o + 2, none⟩) (block_lt_of_cell (HC.out 2 (by rw [← hnE.out]; have := HNM.out; have := HMB.out; omega)))).trans (HC.out 2 (by rw [← hnE.out]; have := HNM.out; have := HMB.out; omega)))
  have hx4 : valL ((l.drop 4).take 4) < 4294967296 := by
    have h1 := valL_lt _ (mem_seg HS.out.1 4 4)
    have h2 : ((l.drop 4).take 4).length ≤ 4 := by rw [List.length_take]; omega
    exact Nat.lt_of_lt_of_le h1 (by have := Nat.pow_le_pow_right (n := 256) (by decide) h2; simpa using this)
  have hx8 : valL ((l.drop 8).take 8) < 18446744073709551616 := by
    have h1 := valL_lt _ (mem_seg HS.out.1 8 8)
    have h2 : ((l.drop 8).take 8).length ≤ 8 := by rw [List.length_take]; omega
    exact Nat.lt_of_lt_of_le h1 (by have := Nat.pow_le_pow_right (n := 256) (by decide) h2; simpa using this)
  have HDX : Hid (decX l = ⟨valL ((l.drop 8).take 8), valL ((l.drop 4).take 4), decide (l.getD 2 0 = 1), (l.drop 20).take (E0 - 20)⟩ ∧ decN l = M) := by
    refine ⟨?_, ?_⟩
    · unfold decX
      rw [if_pos HE.out, ← HM.out, show m = E0 - 20 by have := HE0.out; omega]
    · unfold decN
      rw [if_pos HE.out, ← HM.out, ← HMM.out]
  have HX48 := Lib.hid (And.intro hx4 hx8)
  have HW4 : IntKind.u32.wrap ((valL ((l.drop 4).take 4) : Nat) : Int) = ((valL ((l.drop 4).take 4) : Nat) : Int) := IntWalk.u32_in _ (by omega)
  have HY : (((l.getD 2 0 : Nat) : Int) == 1) = decide (l.getD 2 0 = 1) := by
    by_cases h : l.getD 2 0 = 1
    · rw [h]; rfl
    · rw [decide_eq_false h]; exact beq_false_of_ne (by omega)
  generalize hfl : decide (l.getD 2 0 = 1) = FL at HDX HY
  clear hfl
  generalize l.getD 2 0 = y2 at C2 HY
  have w1 : ¬ c = 8 := by have := HCC.out.1; have := HNM.out; have := HMB.out; omega
  have w2 : ¬ c = 4 := by have := HCC.out.1; have := HNM.out; have := HMB.out; omega
  have w3' : ¬ c = 20 := by have := HCC.out.1; have := HNM.out; have := HMB.out; omega
  have w5 : (8 : Int) ≤ (c : Int) ∧ (16 : Int) ≤ (c : Int) ∧ (4 : Int) ≤ (c : Int) ∧ (20 : Int) ≤ (E0 : Int) := by have := HE0.out; have := HCC.out.1; have := HNM.out; have := HMB.out; omega
  have w6 : (2 : Int) < (n : Int) ∧ (8 : Int) ≤ (n : Int) ∧ (16 : Int) ≤ (n : Int) := by have := HNM.out; have := HMB.out; omega
  generalize valL ((l.drop 4).take 4) = X4 at *
  generalize valL ((l.drop 8).take 8) = X8 at *
  generalize (l.drop 20).take (E0 - 20) = DD at *
  clear hx4 hx8
  refine wp_onlyN ?_
  refine wp_region_headsS (fun w' => Below w.heap.size w w') [0, 1, 3, 4, 7, 8, 9, 10, 11, 12, 13] 7 (by kernel_rfl) (fun _ _ _ _ _ h => h.elim) (by kernel_rfl) (by rfl) (by rfl) HB3.out.drew ?_
  simp only [pickOps, List.filterMap_cons, List.filterMap_nil, List.getElem?_toArray, List.getElem?_cons_zero, List.getElem?_cons_succ]
  refine wpHeads_step (fun K hK => ?_)
  go_simp
  refine ⟨_, fun _ _ => rfl, hK _ ?_⟩
  clear hK K
  refine wpHeads_step (fun K hK => ?_)
  go_simp
  refine ⟨_, fun _ _ => rfl, hK _ ?_⟩
  clear hK K
  refine wpHeads_step (fun K hK => ?_)
  go_simp
  refine ⟨_, fun _ _ => rfl, hK _ ?_⟩
  clear hK K
  refine wpHeads_step (fun K hK => ?_)
  go_simp
  refine ⟨_, fun _ _ => rfl, hK _ ?_⟩
  clear hK K
  refine wpHeads_step (fun K hK => ?_)
  go_simp
  refine ⟨_, fun _ _ => rfl, hK _ ?_⟩
  clear hK K
  refine wpHeads_step (fun K hK => ?_)
  go_simp
  refine ⟨_, fun _ _ => rfl, hK _ ?_⟩
  clear hK K
  refine wpHeads_step (fun K hK => ?_)
  go_simp
  refine ⟨.int .u8 (y2 : Int), fun w' hw' => by rw [C2.out w' hw']; rfl, hK _ ?_⟩
  clear hK K
  refine wpHeads_step (fun K hK => ?_)
  go_simp
  refine ⟨_, fun _ _ => rfl, hK _ ?_⟩
  clear hK K
  refine wpHeads_step (fun K hK => ?_)
  go_simp
  refine ⟨_, fun _ _ => rfl, hK _ ?_⟩
  clear hK K
  refine wpHeads_step (fun K hK => ?_)
  go_simp
  refine ⟨_, fun _ _ => rfl, hK _ ?_⟩
  clear hK K
  refine wpHeads_step (fun K hK => ?_)
  go_simp
  refine ⟨_, fun _ _ => rfl, hK _ ?_⟩
  clear hK K
  refine wpHeads_nil ?_
  have hb0 : Below w.heap.size w W3.drew := HB3.out.drew
  have hx0 : W3.drew.heap[w.heap.size]? = _ := HBX3.out
  generalize W3.drew = Y0 at *
  refine held_two 2 16 rfl rfl rfl rfl (by kernel_rfl) (fun K hK => ?_) (fun K hK => ?_)
  · go_simp
    go_at_call 42
    refine (SV8.out _ hb0).mono ?_
    rintro e Y ⟨rfl, rfl⟩
    refine hK _ _ hb0 ?_
    clear hK K
    refine held_two 5 16 rfl rfl rfl rfl (by kernel_rfl) (fun K hK => ?_) (fun K hK => ?_)
    · go_simp
      go_at_call 42
      refine (SV4.out _ hb0).mono ?_
      rintro e Y ⟨rfl, rfl⟩
      refine hK _ _ hb0 ?_
      clear hK K
      refine wpAnyH_take (i := 6) (v := .int .u32 (IntKind.u32.wrap (X4 : Int))) rfl (by kernel_rfl) (by kernel_rfl) (by kernel_rfl) (fun _ _ _ h => h) (Or.inl ⟨by rfl, fun w _ => by rfl⟩) hb0 ?_
      rw [HW4]
      refine held_two 14 16 rfl rfl rfl rfl (by kernel_rfl) (fun K hK => ?_) (fun K hK => ?_)
      · go_simp
        go_at_call 43
        refine (SD.out _ hb0).mono ?_
        rintro e Y2 ⟨⟨sv, rfl, ho2⟩, hbc⟩
        obtain ⟨sa, sn, sc, rfl, -⟩ := own_form ho2
        have hb2 := bt hb0 hbc
        have hx2 := (hbc.block _ (lt_of_some hx0)).trans hx0
        refine hK _ _ hb2 ?_
        clear hK K
        refine wpAnyH_take (i := 15) (v := .agg #[.int .u64 (X8 : Int), .int .u32 (X4 : Int), .bool FL, .slice sa sn sc]) rfl (by kernel_rfl) (by kernel_rfl) (by kernel_rfl) (fun _ _ _ h => h) (Or.inl ⟨by rfl, fun w _ => by go_simp⟩) hb2 ?_
        refine held_one 16 rfl rfl (by kernel_rfl) fun K hK => ?_
        go_simp
        have hbV := hb2.alloc hb2.size (.cells #[.int .u64 0, .int .u32 0, .bool false, .slice none 0 0] 56)
        have hxV : (Y2.alloc (.cells #[.int .u64 0, .int .u32 0, .bool false, .slice none 0 0] 56)).heap[w.heap.size]? = _ := (Below.heap_alloc Y2 _ _ (lt_of_some hx2)).trans hx2
        have hpV := heap_alloc_new Y2 (.cells #[.int .u64 0, .int .u32 0, .bool false, .slice none 0 0] 56)
        have hoV := ho2.alloc (.cells #[.int .u64 0, .int .u32 0, .bool false, .slice none 0 0] 56)
        have hne : w.heap.size ≠ Y2.heap.size := by have := lt_of_some hx2; omega
        have hge : w.heap.size ≤ Y2.heap.size := hb2.size
        refine hK _ _ hbV ?_
        clear hK K
        generalize Y2.alloc (.cells #[.int .u64 0, .int .u32 0, .bool false, .slice none 0 0] 56) = V at *
        generalize Y2.heap.size = p at *
        have HO := Lib.hid (own_set4 (k := .int .u64 (X8 : Int)) (l := .int .u32 (X4 : Int)) (m := .bool FL) (n := .slice sa sn sc) hoV hpV)
        have HP := Lib.hid (set4 (k := .int .u64 (X8 : Int)) (l := .int .u32 (X4 : Int)) (m := .bool FL) (n := .slice sa sn sc) hpV)
        have HXB := Lib.hid ((set4_other (k := .int .u64 (X8 : Int)) (l := .int .u32 (X4 : Int)) (m := .bool FL) (n := .slice sa sn sc) hne).trans hxV)
        have HBV := Lib.hid (below4 (k := .int .u64 (X8 : Int)) (l := .int .u32 (X4 : Int)) (m := .bool FL) (n := .slice sa sn sc) hbV hge)
        obtain ⟨t0, t1, t2, t3⟩ := bx_cell hpV
        have z0 := frozen_of_row V p 0 _ _ hpV
        have z1 := frozen_of_row V p 1 _ _ hpV
        have z2 := frozen_of_row V p 2 _ _ hpV
        have z3 := frozen_of_row V p 3 _ _ hpV
        refine held_one 17 rfl rfl (by kernel_rfl) fun K hK => ?_
        go_simp
        refine hK _ _ HBV.out ?_
        clear hK K t0 t1 t2 t3 z0 z1 z2 z3 hpV hxV hoV hbV
        generalize (((V.setCell ⟨p, 0, none⟩ (.int .u64 (X8 : Int))).setCell ⟨p, 1, none⟩ (.int .u32 (X4 : Int))).setCell ⟨p, 2, none⟩ (.bool FL)).setCell ⟨p, 3, none⟩ (.slice sa sn sc) = V2 at *
        refine wpAnyH_done (by kernel_rfl) ?_ _
        unfold onlyN
        dsimp only
        obtain ⟨u0, u1, u2, u3⟩ := bx_cell HP.out
        obtain ⟨t0, t1, t2, t3⟩ := bx_cell HXB.out
        have z0 := frozen_of_row V2 w.heap.size 0 _ _ HXB.out
        have z1 := frozen_of_row V2 w.heap.size 1 _ _ HXB.out
        have z2 := frozen_of_row V2 w.heap.size 2 _ _ HXB.out
        have z3 := frozen_of_row V2 w.heap.size 3 _ _ HXB.out
        go_wp2_with fail
        refine pdec_end (g := w.heap.size) rfl (set4 HXB.out) ?_
        refine ⟨⟨_, by rw [HDX.out.2, HE.out]; rfl, ?_⟩, below4 HBV.out (Nat.le_refl _)⟩
        rw [HDX.out.1]
        exact ⟨_, rfl, HX48.out.2, HX48.out.1, own_set4 HO.out HXB.out⟩
      · go_simp
        have hb1 := hb0.alloc hb0.size (.cells #[.int .u64 0, .int .u32 0, .bool false, .slice none 0 0] 56)
        have hx1 : (Y0.alloc (.cells #[.int .u64 0, .int .u32 0, .bool false, .slice none 0 0] 56)).heap[w.heap.size]? = _ := (Below.heap_alloc Y0 _ _ (lt_of_some hx0)).trans hx0
        have hp1 := heap_alloc_new Y0 (.cells #[.int .u64 0, .int .u32 0, .bool false, .slice none 0 0] 56)
        have hne : w.heap.size ≠ Y0.heap.size := by have := lt_of_some hx0; omega
        have hge : w.heap.size ≤ Y0.heap.size := hb0.size
        refine hK _ _ hb1 ?_
        clear hK K
        generalize Y0.alloc (.cells #[.int .u64 0, .int .u32 0, .bool false, .slice none 0 0] 56) = Y1 at *
        generalize Y0.heap.size = p at *
        refine held_one 14 rfl rfl (by kernel_rfl) fun K hK => ?_
        go_simp
        go_at_call 43
        refine (SD.out _ hb1).mono ?_
        rintro e V ⟨⟨sv, rfl, hoV⟩, hbc⟩
        obtain ⟨sa, sn, sc, rfl, -⟩ := own_form hoV
        have hbV := bt hb1 hbc
        have hxV := (hbc.block _ (lt_of_some hx1)).trans hx1
        have hpV := (hbc.block _ (lt_of_some hp1)).trans hp1
        refine hK _ _ hbV ?_
        clear hK K
        refine wpAnyH_take (i := 15) (v := .agg #[.int .u64 (X8 : Int), .int .u32 (X4 : Int), .bool FL, .slice sa sn sc]) rfl (by kernel_rfl) (by kernel_rfl) (by kernel_rfl) (fun _ _ _ h => h) (Or.inl ⟨by rfl, fun w _ => by go_simp⟩) hbV ?_
        have HO := Lib.hid (own_set4 (k := .int .u64 (X8 : Int)) (l := .int .u32 (X4 : Int)) (m := .bool FL) (n := .slice sa sn sc) hoV hpV)
        have HP := Lib.hid (set4 (k := .int .u64 (X8 : Int)) (l := .int .u32 (X4 : Int)) (m := .bool FL) (n := .slice sa sn sc) hpV)
        have HXB := Lib.hid ((set4_other (k := .int .u64 (X8 : Int)) (l := .int .u32 (X4 : Int)) (m := .bool FL) (n := .slice sa sn sc) hne).trans hxV)
        have HBV := Lib.hid (below4 (k := .int .u64 (X8 : Int)) (l := .int .u32 (X4 : Int)) (m := .bool FL) (n := .slice sa sn sc) hbV hge)
        obtain ⟨t0, t1, t2, t3⟩ := bx_cell hpV
        have z0 := frozen_of_row V p 0 _ _ hpV
        have z1 := frozen_of_row V p 1 _ _ hpV
        have z2 := frozen_of_row V p 2 _ _ hpV
        have z3 := frozen_of_row V p 3 _ _ hpV
        refine held_one 17 rfl rfl (by kernel_rfl) fun K hK => ?_
        go_simp
        refine hK _ _ HBV.out ?_
        clear hK K t0 t1 t2 t3 z0 z1 z2 z3 hpV hxV hoV hbV
        generalize (((V.setCell ⟨p, 0, none⟩ (.int .u64 (X8 : Int))).setCell ⟨p, 1, none⟩ (.int .u32 (X4 : Int))).setCell ⟨p, 2, none⟩ (.bool FL)).setCell ⟨p, 3, none⟩ (.slice sa sn sc) = V2 at *
        refine wpAnyH_done (by kernel_rfl) ?_ _
        unfold onlyN
        dsimp only
        obtain ⟨u0, u1, u2, u3⟩ := bx_cell HP.out
        obtain ⟨t0, t1, t2, t3⟩ := bx_cell HXB.out
        have z0 := frozen_of_row V2 w.heap.size 0 _ _ HXB.out
        have z1 := frozen_of_row V2 w.heap.size 1 _ _ HXB.out
        have z2 := frozen_of_row V2 w.heap.size 2 _ _ HXB.out
        have z3 := frozen_of_row V2 w.heap.size 3 _ _ HXB.out
        go_wp2_with fail
        refine pdec_end (g := w.heap.size) rfl (set4 HXB.out) ?_
        refine ⟨⟨_, by rw [HDX.out.2, HE.out]; rfl, ?_⟩, below4 HBV.out (Nat.le_refl _)⟩
        rw [HDX.out.1]
        exact ⟨_, rfl, HX48.out.2, HX48.out.1, own_set4 HO.out HXB.out⟩
    · go_simp
      have hb1 := hb0.alloc hb0.size (.cells #[.int .u64 0, .int .u32 0, .bool false, .slice none 0 0] 56)
      have hx1 : (Y0.alloc (.cells #[.int .u64 0, .int .u32 0, .bool false, .slice none 0 0] 56)).heap[w.heap.size]? = _ := (Below.heap_alloc Y0 _ _ (lt_of_some hx0)).trans hx0
      have hp1 := heap_alloc_new Y0 (.cells #[.int .u64 0, .int .u32 0, .bool false, .slice none 0 0] 56)
      have hne : w.heap.size ≠ Y0.heap.size := by have := lt_of_some hx0; omega
      have hge : w.heap.size ≤ Y0.heap.size := hb0.size
      refine hK _ _ hb1 ?_
      clear hK K
      generalize Y0.alloc (.cells #[.int .u64 0, .int .u32 0, .bool false, .slice none 0 0] 56) = Y1 at *
      generalize Y0.heap.size = p at *
      refine held_one 5 rfl rfl (by kernel_rfl) fun K hK => ?_
      go_simp
      go_at_call 42
      refine (SV4.out _ hb1).mono ?_
      rintro e Y ⟨rfl, rfl⟩
      refine hK _ _ hb1 ?_
      clear hK K
      refine wpAnyH_take (i := 6) (v := .int .u32 (IntKind.u32.wrap (X4 : Int))) rfl (by kernel_rfl) (by kernel_rfl) (by kernel_rfl) (fun _ _ _ h => h) (Or.inl ⟨by rfl, fun w _ => by rfl⟩) hb1 ?_
      rw [HW4]
      refine held_one 14 rfl rfl (by kernel_rfl) fun K hK => ?_
      go_simp
      go_at_call 43
      refine (SD.out _ hb1).mono ?_
      rintro e V ⟨⟨sv, rfl, hoV⟩, hbc⟩
      obtain ⟨sa, sn, sc, rfl, -⟩ := own_form hoV
      have hbV := bt hb1 hbc
      have hxV := (hbc.block _ (lt_of_some hx1)).trans hx1
      have hpV := (hbc.block _ (lt_of_some hp1)).trans hp1
      refine hK _ _ hbV ?_
      clear hK K
      refine wpAnyH_take (i := 15) (v := .agg #[.int .u64 (X8 : Int), .int .u32 (X4 : Int), .bool FL, .slice sa sn sc]) rfl (by kernel_rfl) (by kernel_rfl) (by kernel_rfl) (fun _ _ _ h => h) (Or.inl ⟨by rfl, fun w _ => by go_simp⟩) hbV ?_
      have HO := Lib.hid (own_set4 (k := .int .u64 (X8 : Int)) (l := .int .u32 (X4 : Int)) (m := .bool FL) (n := .slice sa sn sc) hoV hpV)
      have HP := Lib.hid (set4 (k := .int .u64 (X8 : Int)) (l := .int .u32 (X4 : Int)) (m := .bool FL) (n := .slice sa sn sc) hpV)
      have HXB := Lib.hid ((set4_other (k := .int .u64 (X8 : Int)) (l := .int .u32 (X4 : Int)) (m := .bool FL) (n := .slice sa sn sc) hne).trans hxV)
      have HBV := Lib.hid (below4 (k := .int .u64 (X8 : Int)) (l := .int .u32 (X4 : Int)) (m := .bool FL) (n := .slice sa sn sc) hbV hge)
      obtain ⟨t0, t1, t2, t3⟩ := bx_cell hpV
      have z0 := frozen_of_row V p 0 _ _ hpV
      have z1 := frozen_of_row V p 1 _ _ hpV
      have z2 := frozen_of_row V p 2 _ _ hpV
      have z3 := frozen_of_row V p 3 _ _ hpV
      refine held_one 17 rfl rfl (by kernel_rfl) fun K hK => ?_
      go_simp
      refine hK _ _ HBV.out ?_
      clear hK K t0 t1 t2 t3 z0 z1 z2 z3 hpV hxV hoV hbV
      generalize (((V.setCell ⟨p, 0, none⟩ (.int .u64 (X8 : Int))).setCell ⟨p, 1, none⟩ (.int .u32 (X4 : Int))).setCell ⟨p, 2, none⟩ (.bool FL)).setCell ⟨p, 3, none⟩ (.slice sa sn sc) = V2 at *
      refine wpAnyH_done (by kernel_rfl) ?_ _
      unfold onlyN
      dsimp only
      obtain ⟨u0, u1, u2, u3⟩ := bx_cell HP.out
      obtain ⟨t0, t1, t2, t3⟩ := bx_cell HXB.out
      have z0 := frozen_of_row V2 w.heap.size 0 _ _ HXB.out
      have z1 := frozen_of_row V2 w.heap.size 1 _ _ HXB.out
      have z2 := frozen_of_row V2 w.heap.size 2 _ _ HXB.out
      have z3 := frozen_of_row V2 w.heap.size 3 _ _ HXB.out
      go_wp2_with fail
      refine pdec_end (g := w.heap.size) rfl (set4 HXB.out) ?_
      refine ⟨⟨_, by rw [HDX.out.2, HE.out]; rfl, ?_⟩, below4 HBV.out (Nat.le_refl _)⟩
      rw [HDX.out.1]
      exact ⟨_, rfl, HX48.out.2, HX48.out.1, own_set4 HO.out HXB.out⟩
  · go_simp
    have hb1 := hb0.alloc hb0.size (.cells #[.int .u64 0, .int .u32 0, .bool false, .slice none 0 0] 56)
    have hx1 : (Y0.alloc (.cells #[.int .u64 0, .int .u32 0, .bool false, .slice none 0 0] 56)).heap[w.heap.size]? = _ := (Below.heap_alloc Y0 _ _ (lt_of_some hx0)).trans hx0
    have hp1 := heap_alloc_new Y0 (.cells #[.int .u64 0, .int .u32 0, .bool false, .slice none 0 0] 56)
    have hne : w.heap.size ≠ Y0.heap.size := by have := lt_of_some hx0; omega
    have hge : w.heap.size ≤ Y0.heap.size := hb0.size
    refine hK _ _ hb1 ?_
    clear hK K
    generalize Y0.alloc (.cells #[.int .u64 0, .int .u32 0, .bool false, .slice none 0 0] 56) = Y1 at *
    generalize Y0.heap.size = p at *
    refine held_one 2 rfl rfl (by kernel_rfl) fun K hK => ?_
    go_simp
    go_at_call 42
    refine (SV8.out _ hb1).mono ?_
    rintro e Y ⟨rfl, rfl⟩
    refine hK _ _ hb1 ?_
    clear hK K
    refine held_one 5 rfl rfl (by kernel_rfl) fun K hK => ?_
    go_simp
    go_at_call 42
    refine (SV4.out _ hb1).mono ?_
    rintro e Y ⟨rfl, rfl⟩
    refine hK _ _ hb1 ?_
    clear hK K
    refine wpAnyH_take (i := 6) (v := .int .u32 (IntKind.u32.wrap (X4 : Int))) rfl (by kernel_rfl) (by kernel_rfl) (by kernel_rfl) (fun _ _ _ h => h) (Or.inl ⟨by rfl, fun w _ => by rfl⟩) hb1 ?_
    rw [HW4]
    refine held_one 14 rfl rfl (by kernel_rfl) fun K hK => ?_
    go_simp
    go_at_call 43
    refine (SD.out _ hb1).mono ?_
    rintro e V ⟨⟨sv, rfl, hoV⟩, hbc⟩
    obtain ⟨sa, sn, sc, rfl, -⟩ := own_form hoV
    have hbV := bt hb1 hbc
    have hxV := (hbc.block _ (lt_of_some hx1)).trans hx1
    have hpV := (hbc.block _ (lt_of_some hp1)).trans hp1
    refine hK _ _ hbV ?_
    clear hK K
    refine wpAnyH_take (i := 15) (v := .agg #[.int .u64 (X8 : Int), .int .u32 (X4 : Int), .bool FL, .slice sa sn sc]) rfl (by kernel_rfl) (by kernel_rfl) (by kernel_rfl) (fun _ _ _ h => h) (Or.inl ⟨by rfl, fun w _ => by go_simp⟩) hbV ?_
    have HO := Lib.hid (own_set4 (k := .int .u64 (X8 : Int)) (l := .int .u32 (X4 : Int)) (m := .bool FL) (n := .slice sa sn sc) hoV hpV)
    have HP := Lib.hid (set4 (k := .int .u64 (X8 : Int)) (l := .int .u32 (X4 : Int)) (m := .bool FL) (n := .slice sa sn sc) hpV)
    have HXB := Lib.hid ((set4_other (k := .int .u64 (X8 : Int)) (l := .int .u32 (X4 : Int)) (m := .bool FL) (n := .slice sa sn sc) hne).trans hxV)
    have HBV := Lib.hid (below4 (k := .int .u64 (X8 : Int)) (l := .int .u32 (X4 : Int)) (m := .bool FL) (n := .slice sa sn sc) hbV hge)
    obtain ⟨t0, t1, t2, t3⟩ := bx_cell hpV
    have z0 := frozen_of_row V p 0 _ _ hpV
    have z1 := frozen_of_row V p 1 _ _ hpV
    have z2 := frozen_of_row V p 2 _ _ hpV
    have z3 := frozen_of_row V p 3 _ _ hpV
    refine held_one 17 rfl rfl (by kernel_rfl) fun K hK => ?_
    go_simp
    refine hK _ _ HBV.out ?_
    clear hK K t0 t1 t2 t3 z0 z1 z2 z3 hpV hxV hoV hbV
    generalize (((V.setCell ⟨p, 0, none⟩ (.int .u64 (X8 : Int))).setCell ⟨p, 1, none⟩ (.int .u32 (X4 : Int))).setCell ⟨p, 2, none⟩ (.bool FL)).setCell ⟨p, 3, none⟩ (.slice sa sn sc) = V2 at *
    refine wpAnyH_done (by kernel_rfl) ?_ _
    unfold onlyN
    dsimp only
    obtain ⟨u0, u1, u2, u3⟩ := bx_cell HP.out
    obtain ⟨t0, t1, t2, t3⟩ := bx_cell HXB.out
    have z0 := frozen_of_row V2 w.heap.size 0 _ _ HXB.out
    have z1 := frozen_of_row V2 w.heap.size 1 _ _ HXB.out
    have z2 := frozen_of_row V2 w.heap.size 2 _ _ HXB.out
    have z3 := frozen_of_row V2 w.heap.size 3 _ _ HXB.out
    go_wp2_with fail
    refine pdec_end (g := w.heap.size) rfl (set4 HXB.out) ?_
    refine ⟨⟨_, by rw [HDX.out.2, HE.out]; rfl, ?_⟩, below4 HBV.out (Nat.le_refl _)⟩
    rw [HDX.out.1]
    exact ⟨_, rfl, HX48.out.2, HX48.out.1, own_set4 HO.out HXB.out⟩
end Go.Proofs.YtlnccofanicihaaDoor.Gf
