/- What is proved here: the contracts of the program's nearest, Valid, Next and checksum (superblock). Condition: for checksum the table of crc32c as laid. What is proved here: the contract of the program's Decode (superblock). Condition: the table of crc32c as laid. -/
import Derived.Test.YtlnccofanicihaaDoorJ6
import Derived.Test.YtlnccofanicihaaDoorK8
import Derived.Lib.MinMax
import Derived.BigQuiet
import Derived.StillTailTactics
namespace Go.Proofs.YtlnccofanicihaaDoor.Gf
open Go Go.ChangeAt Go.ChangeShapes Go.Proofs.YtlnccofanicihaaDoor.By Go.Proofs.YtlnccofanicihaaDoor.Crc Go.Proofs.YtlnccofanicihaaDoor.Qt Go.RowKit Go.Sort Go.WideShapes

set_option maxRecDepth 100000 in
theorem pnearest_any (s g r : Int) (w : World) : Calls Tryd.prog 56 #[SV s g r] w fun e w' => e = .returned (SV (min (max s 0) 3) (min (max g 1) 8) (min (max r 0) 4294967295)) ∧ Below w.heap.size w w' := by
  unfold SV
  go_enter Tryd.func56, Tryd.ntmps56
  go_wp2
  exact bodyPost_ret (results_cell_row Tryd.results56 _ _ (w.heap.size + 1) 30 _ (0, 0) _ rfl (heap_alloc2_new _ _ _) Tryd.underlying30 rfl info7) rfl ⟨rfl, b2' _ _ _⟩
theorem cells7 {w : World} {g : Nat} {x y z : Value} {T : TypeId} {fr : Nat × Nat} (hg : w.heap[g]? = some (.cells #[x, y, z] T fr)) :
    (∀ d os, (grow (redrawn w d) os).cell? ⟨g, 0, none⟩ = some x) ∧ (∀ d os, (grow (redrawn w d) os).cell? ⟨g, 1, none⟩ = some y) ∧ (∀ d os, (grow (redrawn w d) os).cell? ⟨g, 2, none⟩ = some z) :=
  ⟨cells_regrown (cell_of_row w g 0 _ _ _ hg), cells_regrown (cell_of_row w g 1 _ _ _ hg), cells_regrown (cell_of_row w g 2 _ _ _ hg)⟩
theorem nearest_ok (s g r : Int) : ((s == min (max s 0) 3) && (g == min (max g 1) 8) && (r == min (max r 0) 4294967295)) = okS s g r := by
  rw [Bool.eq_iff_iff, okS_iff]
  simp only [Bool.and_eq_true, beq_iff_eq]
  omega
theorem run_eq3 (a0 a1 a2 b0 b1 b2 : Int) (W : World) : (binOp .eql 30 (.agg #[.int .i64 a0, .int .i64 a1, .int .i64 a2]) (.agg #[.int .i64 b0, .int .i64 b1, .int .i64 b2])).run Tryd.prog W = .ok (.bool (a0 == b0 && a1 == b1 && a2 == b2)) W := by
  by_cases e0 : a0 = b0 <;> by_cases e1 : a1 = b1 <;> by_cases e2 : a2 = b2
  all_goals
    go_simp
set_option maxRecDepth 100000 in
theorem pvalid7_any (s g r : Int) (w : World) : Calls Tryd.prog 49 #[SV s g r] w fun e w' => e = .returned (.bool (okS s g r)) ∧ Below w.heap.size w w' := by
  have PN := Lib.hid (pnearest_any s g r)
  rw [← nearest_ok]
  generalize min (max s 0) 3 = s2 at *
  generalize min (max g 1) 8 = g2 at *
  generalize min (max r 0) 4294967295 = r2 at *
  have HE := Lib.hid (run_eq3 s g r s2 g2 r2)
  generalize (s == s2 && g == g2 && r == r2) = D at *
  have HB := Lib.hid ((Below.refl w.heap.size w).alloc (Nat.le_refl _) (.cells #[.int .i64 s, .int .i64 g, .int .i64 r] 30))
  have X0 := Lib.hid (heap_alloc_new w (.cells #[.int .i64 s, .int .i64 g, .int .i64 r] 30))
  unfold SV at PN ⊢
  go_enter Tryd.func49, Tryd.ntmps49
  go_wp2_with fail
  generalize w.alloc (.cells #[.int .i64 s, .int .i64 g, .int .i64 r] 30) = W at *
  obtain ⟨c0, c1, c2⟩ := cells7 X0.out
  have G1 := Lib.hid (regrown_bel (w := W) fun w' _ => PN.out w')
  have he := HE.out
  refine wp_region_bl (by kernel_rfl) (by kernel_rfl) ?_
  quiet_step (fail)
  quiet_step (fail)
  quiet_step ((go_at_call 56; exact G1.out _ _))
  quiet_step (fail)
  quiet_step (fail)
  refine wpQuiet_nil ?_
  intro w9 hb9
  go_wp2_with fail
  go_ret
  exact ⟨rfl, bt HB.out hb9⟩
set_option maxRecDepth 100000 in
theorem pcheck7_any (v : Value) (l : List Nat) (w : World) (s : Sl w v l) (ht : Tab w) : Calls Tryd.prog 48 #[v] w fun e w' => e = .returned (.agg (cellsOf (leL (ext 0 l))).toArray) ∧ Below w.heap.size w w' := by
  have RS := Lib.hid (fun W (hW : Below w.heap.size w W) (ht : Tab W) => sum_any v l W (sl_below s hW) ht)
  have hlt : ext 0 l < 4294967296 := ext_lt (by decide) s.1
  generalize ext 0 l = S at *
  have HB := Lib.hid ((Below.refl w.heap.size w).alloc (Nat.le_refl _) (.cells #[.int .u8 0, .int .u8 0, .int .u8 0, .int .u8 0] 87))
  rw [leL_cells hlt]
  clear s
  have HT := Lib.hid (tab_below ht HB.out)
  go_enter Tryd.func48, Tryd.ntmps48
  go_wp2_with (go_at_call 54; refine (RS.out _ HB.out HT.out).mono ?_; rintro e w2 ⟨rfl, rfl⟩)
  exact bodyPost_ret (results_cell_row Tryd.results48 _ _ w.heap.size 87 _ (0, 0) _ rfl (heap_alloc_new _ _) Tryd.underlying87 rfl info4) rfl ⟨rfl, (Below.refl w.heap.size w).alloc (Nat.le_refl _) _⟩
theorem pdec7_end {R : Ending → World → Prop} {W : World} {g : Nat} {tmps : Array Value} {k c d : Value} (hp : tmps.getD 2 undef = .pointer (some ⟨g, 0, none⟩)) (hg : W.heap[g]? = some (.cells #[k, c, d] 30 (0, 0)))
    (hR : R (.returned (.tuple #[.agg #[k, c, d], tmps.getD 3 undef])) W) : bodyPost Tryd.prog Tryd.f29 R .ret { tmps := tmps, defers := [] } W :=
  bodyPost_ret (results_rt rfl _ _ g #[k, c, d] hp hg Tryd.underlying30 rfl info7) rfl hR
theorem seg2 {l : List Nat} {e : Nat} (h : e + 2 ≤ l.length) : (l.drop e).take 2 = [l.getD e 0, l.getD (e + 1) 0] := by
  apply List.ext_getElem
  · simp; omega
  · intro i h1 h2
    have hi : i < 2 := by simpa using h2
    rw [List.getElem_take, List.getElem_drop]
    match i, hi with
    | 0, _ => have hk : e < l.length := by omega
              simp [List.getD, hk]
    | 1, _ => have hk : e + 1 < l.length := by omega
              simp [List.getD, hk]
theorem val4 (a b c d : Nat) : valL [a, b, c, d] = a * 2 ^ 24 + b * 2 ^ 16 + c * 2 ^ 8 + d := by
  show (((0 * 256 + a) * 256 + b) * 256 + c) * 256 + d = _
  omega
theorem lay4 (x8 x9 x10 x11 : Nat) : x8 * 2 ^ 24 + x9 * 2 ^ 16 = (x8 * 256 + x9) * 2 ^ 16 ∧ (x8 * 256 + x9) * 2 ^ 16 + x10 * 2 ^ 8 = (x8 * 65536 + x9 * 256 + x10) * 2 ^ 8 ∧ (x8 * 65536 + x9 * 256 + x10) * 2 ^ 8 + x11 = x8 * 2 ^ 24 + x9 * 2 ^ 16 + x10 * 2 ^ 8 + x11 := by
  refine ⟨by omega, by omega, by omega⟩
theorem val2 (a b : Nat) : valL [a, b] = a * 2 ^ 8 + b := by
  show (0 * 256 + a) * 256 + b = _
  omega
theorem or_nat {k a b : Nat} (ha : a * 2 ^ k < 4294967296) (hb : b < 2 ^ k) (hb2 : b < 4294967296) : bits .or .i64 ((a * 2 ^ k : Nat) : Int) (b : Int) = ((a * 2 ^ k + b : Nat) : Int) := by
  have h := Nat.two_pow_add_eq_or_of_lt hb a
  have e1 : (BitVec.ofInt 64 ((a * 2 ^ k : Nat) : Int)).toNat = a * 2 ^ k := by rw [BitVec.toNat_ofInt]; omega
  have e2 : (BitVec.ofInt 64 (b : Int)).toNat = b := by rw [BitVec.toNat_ofInt]; omega
  show IntKind.i64.wrap ((BitVec.ofInt 64 ((a * 2 ^ k : Nat) : Int) ||| BitVec.ofInt 64 (b : Int)).toNat : Int) = _
  have e3 : a * 2 ^ k ||| b = a * 2 ^ k + b := by rw [Nat.mul_comm a]; exact h.symm
  have hlt : a * 2 ^ k + b < 8589934592 := by omega
  rw [BitVec.toNat_or, e1, e2, e3, IntKind.wrap_i64]
  generalize a * 2 ^ k + b = z at *
  omega
set_option maxRecDepth 100000 in
set_option maxHeartbeats 6400000 in
theorem pdecode7_any (v : Value) (l : List Nat) (w : World) (s : Sl w v l) (ht : Tab w) : Calls Tryd.prog 29 #[v] w (DS w (dX7 l) (dE7 l)) := by
  have HB0 := Lib.hid ((Below.refl w.heap.size w).alloc (Nat.le_refl _) (.cells #[.int .i64 0, .int .i64 0, .int .i64 0] 30))
  have X0 := Lib.hid (heap_alloc_new w (.cells #[.int .i64 0, .int .i64 0, .int .i64 0] 30))
  have HT := Lib.hid ht
  clear ht
  unfold DS
  by_cases hsh : l.length < 16
  · have HE : Hid (dE7 l = 4) := by show _ = _; unfold dE7; rw [if_pos hsh]
    obtain ⟨a, c, rfl, -, -⟩ := sl_form s
    obtain ⟨n, hn⟩ : ∃ n, n = l.length := ⟨_, rfl⟩
    rw [← hn] at hsh ⊢
    have g1 : decide ((n : Int) < 16) = true := decide_eq_true (by omega)
    clear s hn
    go_enter Tryd.func29, Tryd.ntmps29
    go_wp2
    exact pdec7_end (g := w.heap.size) rfl (heap_alloc_new w _) (err7 (err := 4) HE.out (by decide) HB0.out)
  have HD := Lib.hid (d7_cases hsh)
  obtain ⟨b, o, c, hv, hc1, hc2, hk⟩ := sl_cells s (by omega)
  obtain ⟨n, hn⟩ : ∃ n, n = l.length := ⟨_, rfl⟩
  rw [← hn] at hv hsh hc1
  subst hv
  have g1 : decide ((n : Int) < 16) = false := decide_eq_false (by omega)
  have HCUT : Hid (∀ p q, p + q ≤ n → ∀ W, Below w.heap.size w W → Sl W (.slice (some ⟨b, o + p, none⟩) q (c - p)) ((l.drop p).take q)) := fun p q hpq W hW =>
    sl_below (sl_cut (w := w) (p := p) (c := q) s.1 hn.symm hc2 hc1 (by rw [hn]; exact hk) hpq) hW
  have H16 : Hid (16 ≤ n) := by show 16 ≤ n; omega
  have HL := Lib.hid s.1
  have HNL := Lib.hid hn
  have HC : Hid (∀ W, Below w.heap.size w W → ∀ k, k < n → W.cell? ⟨b, o + k, none⟩ = some (.int .u8 ((l.getD k 0 : Nat) : Int))) := fun W hW k h => (hW.cell (block_lt_of_cell (hk k (by rw [← hn]; exact h)))).trans (hk k (by rw [← hn]; exact h))
  have k4 := conv_sl (HCUT.out 0 4 (by omega) _ HB0.out)
  rw [Nat.add_zero, Nat.sub_zero, List.drop_zero] at k4
  have he4 := str_eq (mem_take s.1 4) (show ∀ x ∈ [78, 86, 79, 76], x < 256 by simp)
  have p4 : (4 : Int) ≤ (c : Int) := by omega
  have p12 : (12 : Int) ≤ (c : Int) := by omega
  have p12n : (12 : Int) ≤ (n : Int) := by omega
  have q4 : ¬ c = 4 := by omega
  have q12 : ¬ c = 12 := by omega
  have r5 : 4 ≤ n - 12 := by omega
  rw [show (strOf [78, 86, 79, 76]).toList = [78, 86, 79, 76] by rw [ByteArray.toList_eq]; rfl] at he4
  clear s hk hn hsh hc1 hc2
  by_cases hm : l.take 4 = [78, 86, 79, 76]
  case neg =>
    rw [decide_eq_false hm] at he4
    have HE := Lib.hid (HD.out.1 hm)
    clear hm
    generalize strOf (l.take 4) = T4 at *
    go_enter Tryd.func29, Tryd.ntmps29
    go_wp2_with fail
    exact pdec7_end (g := w.heap.size) rfl (heap_alloc_new w _) (err7 (err := 3) HE.out (by decide) HB0.out)
  rw [decide_eq_true hm] at he4
  have HD2 := Lib.hid (HD.out.2 hm)
  have S12 := Lib.hid (fun W (hW : Below w.heap.size w W) => (by have h := HCUT.out 0 12 (by have := H16.out; omega) W hW; rwa [Nat.add_zero, Nat.sub_zero, List.drop_zero] at h : Sl W (.slice (some ⟨b, o, none⟩) 12 c) (l.take 12)))
  have CK := Lib.hid (fun W (hW : Below w.heap.size w W) => pcheck7_any _ _ W (S12.out W hW) (tab_below HT.out hW))
  have C4 : Hid (∀ W, Below w.heap.size w W → W.cell? ⟨b, o + 12, none⟩ = some (.int .u8 ((l.getD 12 0 : Nat) : Int)) ∧ W.cell? ⟨b, o + 12 + 1, none⟩ = some (.int .u8 ((l.getD 13 0 : Nat) : Int)) ∧ W.cell? ⟨b, o + 12 + 2, none⟩ = some (.int .u8 ((l.getD 14 0 : Nat) : Int)) ∧ W.cell? ⟨b, o + 12 + 3, none⟩ = some (.int .u8 ((l.getD 15 0 : Nat) : Int))) := fun W hW =>
    have h16 := H16.out
    ⟨HC.out W hW 12 (by omega), HC.out W hW 13 (by omega), HC.out W hW 14 (by omega), HC.out W hW 15 (by omega)⟩
  have hsum4 : ∃ a0 a1 a2 a3, leL (ext 0 (l.take 12)) = [a0, a1, a2, a3] := ⟨_, _, _, _, rfl⟩
  obtain ⟨a0, a1, a2, a3, hA⟩ := hsum4
  rw [hA, show (cellsOf [a0, a1, a2, a3]).toArray = #[.int .u8 (a0 : Int), .int .u8 (a1 : Int), .int .u8 (a2 : Int), .int .u8 (a3 : Int)] from rfl] at CK
  have hck : (leL (ext 0 (l.take 12)) = (l.drop 12).take 4) ↔ [a0, a1, a2, a3] = [l.getD 12 0, l.getD 13 0, l.getD 14 0, l.getD 15 0] := by
    rw [hA, seg4 (by have := H16.out; have := HNL.out; omega)]
  have HCK := Lib.hid hck
  clear hm HD hck hA
  generalize l.getD 12 0 = q0 at C4 HCK
  generalize l.getD 13 0 = q1 at C4 HCK
  generalize l.getD 14 0 = q2 at C4 HCK
  generalize l.getD 15 0 = q3 at C4 HCK
  generalize strOf (l.take 4) = T4 at *
  go_enter Tryd.func29, Tryd.ntmps29
  go_wp2_with fail
  clear k4 he4
  have hbox := X0.out
  generalize w.alloc (.cells #[.int .i64 0, .int .i64 0, .int .i64 0] 30) = W0 at *
  refine wp_onlyN ?_
  refine wp_region_headsS (fun w' => Below w.heap.size w w') [0, 1, 2, 3, 4, 5] 3 (by kernel_rfl) (fun _ _ _ _ _ h => h.elim) (by kernel_rfl) (by rfl) (by rfl) HB0.out.drew ?_
  simp only [pickOps, List.filterMap_cons, List.filterMap_nil, List.getElem?_toArray, List.getElem?_cons_zero, List.getElem?_cons_succ]
  refine wpHeads_step (fun K hK => ?_)
  go_simp
  refine ⟨_, fun _ _ => rfl, hK _ ?_⟩
  clear hK K
  refine wpHeads_step (fun K hK => ?_)
  go_simp
  refine ⟨_, fun _ _ => rfl, hK _ ?_⟩
  clear hK K
  refine wpHeads_step (fun K hK => ?_)
  go_simp
  refine ⟨.pointer (some ⟨b, o + 12, none⟩), fun w' _ => by simp [Instr.arrayAt, run_underlying Tryd.underlying87, Nat.not_lt.2 r5], hK _ ?_⟩
  clear hK K
  refine wpHeads_step (fun K hK => ?_)
  go_simp
  refine ⟨.agg #[.int .u8 (q0 : Int), .int .u8 (q1 : Int), .int .u8 (q2 : Int), .int .u8 (q3 : Int)], fun w' hw' => by obtain ⟨u0, u1, u2, u3⟩ := C4.out w' hw'; simp [u0, u1, u2, u3], hK _ ?_⟩
  clear hK K
  refine wpHeads_step (fun K hK => ?_)
  go_simp
  refine ⟨_, fun _ _ => rfl, hK _ ?_⟩
  clear hK K
  refine wpHeads_step (fun K hK => ?_)
  go_simp
  refine ⟨_, fun _ _ => rfl, hK _ ?_⟩
  clear hK K
  refine wpHeads_nil ?_
  refine held_one 6 rfl rfl (by kernel_rfl) fun K hK => ?_
  go_simp
  go_at_call 48
  refine (CK.out _ HB0.out.drew).mono ?_
  rintro e W3 ⟨rfl, hb3⟩
  have b3 := bt HB0.out.drew hb3
  have x3 : W3.heap[w.heap.size]? = _ := (hb3.block _ (lt_of_some hbox)).trans hbox
  refine hK _ _ b3 ?_
  clear hK K hb3
  have hneq := run_neq4 (q0 : Int) q1 q2 q3 a0 a1 a2 a3
  rw [four_eq] at hneq
  generalize hD : decide ([a0, a1, a2, a3] = [q0, q1, q2, q3]) = D at hneq
  have HDD := Lib.hid hD
  refine held_one 7 rfl rfl (by kernel_rfl) fun K hK => ?_
  clear hD
  go_simp
  refine hK _ _ b3 ?_
  clear hK K
  refine held_one 8 rfl rfl (by kernel_rfl) fun K hK => ?_
  go_simp
  refine hK _ _ b3 ?_
  clear hK K
  refine wpAnyH_done (by kernel_rfl) ?_ _
  unfold onlyN
  dsimp only
  have B3 := Lib.hid b3
  have X3 := Lib.hid x3
  clear b3 x3 hbox hneq C4 CK
  by_cases hck : leL (ext 0 (l.take 12)) = (l.drop 12).take 4
  case neg =>
    obtain rfl : D = false := by rw [← HDD.out]; exact decide_eq_false fun h => hck (HCK.out.2 h)
    have HE := Lib.hid (HD2.out.1 hck)
    clear hck
    obtain ⟨t0, t1, t2, z0, z1, z2⟩ := bx3 X3.out
    go_wp2_with fail
    exact pdec7_end (g := w.heap.size) rfl (set3 X3.out) (err7 (err := 5) HE.out (by decide) (below3 B3.out (Nat.le_refl _)))
  obtain rfl : D = true := by rw [← HDD.out]; exact decide_eq_true (HCK.out.1 hck)
  have HD4 := Lib.hid (HD2.out.2 hck)
  clear hck HD2 HCK HDD
  have h16 := H16.out
  have hnl := HNL.out
  have es : slS l = l.getD 4 0 * 2 ^ 8 + l.getD 5 0 := by unfold slS; rw [seg2 (by omega)]; exact val2 _ _
  have eg : gnS l = l.getD 6 0 * 2 ^ 8 + l.getD 7 0 := by unfold gnS; rw [seg2 (by omega)]; exact val2 _ _
  have er : rvS l = l.getD 8 0 * 2 ^ 24 + l.getD 9 0 * 2 ^ 16 + l.getD 10 0 * 2 ^ 8 + l.getD 11 0 := by unfold rvS; rw [seg4 (by omega)]; exact val4 _ _ _ _
  have hd : dE7 l = 0 → dX7 l = SV (slS l) (gnS l) (rvS l) := fun h => by unfold dX7; rw [if_pos h]
  rw [es, eg, er] at HD4 hd
  have y4 := getD_lt HL.out 4
  have y5 := getD_lt HL.out 5
  have y6 := getD_lt HL.out 6
  have y7 := getD_lt HL.out 7
  have y8 := getD_lt HL.out 8
  have y9 := getD_lt HL.out 9
  have y10 := getD_lt HL.out 10
  have y11 := getD_lt HL.out 11
  have d4 : Hid (∀ W, Below W3.heap.size W3 W → W.cell? ⟨b, o + 4, none⟩ = some (.int .u8 ((l.getD 4 0 : Nat) : Int))) := fun W hW => HC.out W (bt B3.out hW) 4 (by omega)
  have d5 : Hid (∀ W, Below W3.heap.size W3 W → W.cell? ⟨b, o + 5, none⟩ = some (.int .u8 ((l.getD 5 0 : Nat) : Int))) := fun W hW => HC.out W (bt B3.out hW) 5 (by omega)
  have d6 : Hid (∀ W, Below W3.heap.size W3 W → W.cell? ⟨b, o + 6, none⟩ = some (.int .u8 ((l.getD 6 0 : Nat) : Int))) := fun W hW => HC.out W (bt B3.out hW) 6 (by omega)
  have d7 : Hid (∀ W, Below W3.heap.size W3 W → W.cell? ⟨b, o + 7, none⟩ = some (.int .u8 ((l.getD 7 0 : Nat) : Int))) := fun W hW => HC.out W (bt B3.out hW) 7 (by omega)
  have d8 : Hid (∀ W, Below W3.heap.size W3 W → W.cell? ⟨b, o + 8, none⟩ = some (.int .u8 ((l.getD 8 0 : Nat) : Int))) := fun W hW => HC.out W (bt B3.out hW) 8 (by omega)
  have d9 : Hid (∀ W, Below W3.heap.size W3 W → W.cell? ⟨b, o + 9, none⟩ = some (.int .u8 ((l.getD 9 0 : Nat) : Int))) := fun W hW => HC.out W (bt B3.out hW) 9 (by omega)
  have d10 : Hid (∀ W, Below W3.heap.size W3 W → W.cell? ⟨b, o + 10, none⟩ = some (.int .u8 ((l.getD 10 0 : Nat) : Int))) := fun W hW => HC.out W (bt B3.out hW) 10 (by omega)
  have d11 : Hid (∀ W, Below W3.heap.size W3 W → W.cell? ⟨b, o + 11, none⟩ = some (.int .u8 ((l.getD 11 0 : Nat) : Int))) := fun W hW => HC.out W (bt B3.out hW) 11 (by omega)
  clear es eg er
  generalize l.getD 4 0 = x4 at *
  generalize l.getD 5 0 = x5 at *
  generalize l.getD 6 0 = x6 at *
  generalize l.getD 7 0 = x7 at *
  generalize l.getD 8 0 = x8 at *
  generalize l.getD 9 0 = x9 at *
  generalize l.getD 10 0 = x10 at *
  generalize l.getD 11 0 = x11 at *
  obtain ⟨e4, e5, e6⟩ := lay4 x8 x9 x10 x11
  have L4 := Lib.hid (And.intro e4 (And.intro e5 e6))
  clear e4 e5 e6
  have o1 := or_nat (k := 8) (a := x4) (b := x5) (by omega) (by omega) (by omega)
  have o2 := or_nat (k := 8) (a := x6) (b := x7) (by omega) (by omega) (by omega)
  have o3 := or_nat (k := 24) (a := x8) (b := x9 * 2 ^ 16) (by omega) (by omega) (by omega)
  have o4 := or_nat (k := 16) (a := x8 * 256 + x9) (b := x10 * 2 ^ 8) (by omega) (by omega) (by omega)
  have o5 := or_nat (k := 8) (a := x8 * 65536 + x9 * 256 + x10) (b := x11) (by omega) (by omega) (by omega)
  rw [L4.out.1] at o3
  rw [L4.out.2.1] at o4
  rw [L4.out.2.2] at o5
  obtain ⟨Y4, hY4⟩ : ∃ y, y = x4 * 2 ^ 8 + x5 := ⟨_, rfl⟩
  obtain ⟨Y6, hY6⟩ : ∃ y, y = x6 * 2 ^ 8 + x7 := ⟨_, rfl⟩
  obtain ⟨Y8, hY8⟩ : ∃ y, y = x8 * 2 ^ 24 + x9 * 2 ^ 16 + x10 * 2 ^ 8 + x11 := ⟨_, rfl⟩
  rw [← hY4] at HD4 hd o1
  rw [← hY6] at HD4 hd o2
  rw [← hY8] at HD4 hd o5
  obtain ⟨z4, hz4⟩ : ∃ y, y = x4 * 2 ^ 8 := ⟨_, rfl⟩
  have m4 : IntKind.i64.wrap ((x4 : Int) * 256) = (z4 : Int) := by rw [IntWalk.i64_in _ (by omega)]; omega
  obtain ⟨z6, hz6⟩ : ∃ y, y = x6 * 2 ^ 8 := ⟨_, rfl⟩
  have m6 : IntKind.i64.wrap ((x6 : Int) * 256) = (z6 : Int) := by rw [IntWalk.i64_in _ (by omega)]; omega
  obtain ⟨z8, hz8⟩ : ∃ y, y = x8 * 2 ^ 24 := ⟨_, rfl⟩
  have m8 : IntKind.i64.wrap ((x8 : Int) * 16777216) = (z8 : Int) := by rw [IntWalk.i64_in _ (by omega)]; omega
  obtain ⟨z9, hz9⟩ : ∃ y, y = x9 * 2 ^ 16 := ⟨_, rfl⟩
  have m9 : IntKind.i64.wrap ((x9 : Int) * 65536) = (z9 : Int) := by rw [IntWalk.i64_in _ (by omega)]; omega
  obtain ⟨z10, hz10⟩ : ∃ y, y = x10 * 2 ^ 8 := ⟨_, rfl⟩
  have m10 : IntKind.i64.wrap ((x10 : Int) * 256) = (z10 : Int) := by rw [IntWalk.i64_in _ (by omega)]; omega
  obtain ⟨za, hza⟩ : ∃ y, y = (x8 * 256 + x9) * 2 ^ 16 := ⟨_, rfl⟩
  obtain ⟨zb, hzb⟩ : ∃ y, y = (x8 * 65536 + x9 * 256 + x10) * 2 ^ 8 := ⟨_, rfl⟩
  rw [← hz4] at o1
  rw [← hz6] at o2
  rw [← hz8, ← hz9, ← hza] at o3
  rw [← hza, ← hz10, ← hzb] at o4
  rw [← hzb] at o5
  have n4 : IntKind.i64.wrap (x4 : Int) = (x4 : Int) := IntWalk.i64_in _ (by omega)
  have n5 : IntKind.i64.wrap (x5 : Int) = (x5 : Int) := IntWalk.i64_in _ (by omega)
  have n6 : IntKind.i64.wrap (x6 : Int) = (x6 : Int) := IntWalk.i64_in _ (by omega)
  have n7 : IntKind.i64.wrap (x7 : Int) = (x7 : Int) := IntWalk.i64_in _ (by omega)
  have n8 : IntKind.i64.wrap (x8 : Int) = (x8 : Int) := IntWalk.i64_in _ (by omega)
  have n9 : IntKind.i64.wrap (x9 : Int) = (x9 : Int) := IntWalk.i64_in _ (by omega)
  have n10 : IntKind.i64.wrap (x10 : Int) = (x10 : Int) := IntWalk.i64_in _ (by omega)
  have n11 : IntKind.i64.wrap (x11 : Int) = (x11 : Int) := IntWalk.i64_in _ (by omega)
  have HDX := Lib.hid hd
  have i4 : (4 : Int) < (n : Int) := by omega
  have i5 : (5 : Int) < (n : Int) := by omega
  have i6 : (6 : Int) < (n : Int) := by omega
  have i7 : (7 : Int) < (n : Int) := by omega
  have i8 : (8 : Int) < (n : Int) := by omega
  have i9 : (9 : Int) < (n : Int) := by omega
  have i10 : (10 : Int) < (n : Int) := by omega
  have i11 : (11 : Int) < (n : Int) := by omega
  clear h16 hnl hd L4 hY4 hY6 hY8 hz4 hz6 hz8 hz9 hz10 hza hzb y4 y5 y6 y7 y8 y9 y10 y11
  go_wp2_with fail
  refine wp_onlyN ?_
  refine wp_region_headsS (fun w' => Below W3.heap.size W3 w') [0, 1, 2, 3, 4, 5, 6, 7, 8, 9, 10, 11, 12, 13, 14, 15, 16, 17, 18, 19, 20, 21, 22, 23, 24, 25, 26, 27, 28, 29, 30, 31, 32, 33, 34, 35, 36, 37, 38, 39, 40, 41, 42] 2 (by kernel_rfl) (fun _ _ _ _ _ h => h.elim) (by kernel_rfl) (by rfl) (by rfl) (Below.refl _ _).drew ?_
  simp only [pickOps, List.filterMap_cons, List.filterMap_nil, List.getElem?_toArray, List.getElem?_cons_zero, List.getElem?_cons_succ]
  refine wpHeads_step (fun K hK => ?_)
  go_simp
  refine ⟨_, fun _ _ => rfl, hK _ ?_⟩
  clear hK K
  refine wpHeads_step (fun K hK => ?_)
  go_simp
  refine ⟨_, fun _ _ => rfl, hK _ ?_⟩
  clear hK K
  refine wpHeads_step (fun K hK => ?_)
  go_simp
  refine ⟨.int .u8 (x4 : Int), fun w' hw' => by rw [d4.out w' hw']; rfl, hK _ ?_⟩
  clear hK K
  refine wpHeads_step (fun K hK => ?_)
  go_simp
  refine ⟨_, fun _ _ => rfl, hK _ ?_⟩
  clear hK K
  refine wpHeads_step (fun K hK => ?_)
  go_simp
  refine ⟨_, fun _ _ => rfl, hK _ ?_⟩
  clear hK K
  refine wpHeads_step (fun K hK => ?_)
  go_simp
  refine ⟨_, fun _ _ => rfl, hK _ ?_⟩
  clear hK K
  refine wpHeads_step (fun K hK => ?_)
  go_simp
  refine ⟨_, fun _ _ => rfl, hK _ ?_⟩
  clear hK K
  refine wpHeads_step (fun K hK => ?_)
  go_simp
  refine ⟨.int .u8 (x5 : Int), fun w' hw' => by rw [d5.out w' hw']; rfl, hK _ ?_⟩
  clear hK K
  refine wpHeads_step (fun K hK => ?_)
  go_simp
  refine ⟨_, fun _ _ => rfl, hK _ ?_⟩
  clear hK K
  refine wpHeads_step (fun K hK => ?_)
  go_simp
  refine ⟨_, fun _ _ => rfl, hK _ ?_⟩
  clear hK K
  refine wpHeads_step (fun K hK => ?_)
  go_simp
  refine ⟨_, fun _ _ => rfl, hK _ ?_⟩
  clear hK K
  refine wpHeads_step (fun K hK => ?_)
  go_simp
  refine ⟨_, fun _ _ => rfl, hK _ ?_⟩
  clear hK K
  refine wpHeads_step (fun K hK => ?_)
  go_simp
  refine ⟨.int .u8 (x6 : Int), fun w' hw' => by rw [d6.out w' hw']; rfl, hK _ ?_⟩
  clear hK K
  refine wpHeads_step (fun K hK => ?_)
  go_simp
  refine ⟨_, fun _ _ => rfl, hK _ ?_⟩
  clear hK K
  refine wpHeads_step (fun K hK => ?_)
  go_simp
  refine ⟨_, fun _ _ => rfl, hK _ ?_⟩
  clear hK K
  refine wpHeads_step (fun K hK => ?_)
  go_simp
  refine ⟨_, fun _ _ => rfl, hK _ ?_⟩
  clear hK K
  refine wpHeads_step (fun K hK => ?_)
  go_simp
  refine ⟨_, fun _ _ => rfl, hK _ ?_⟩
  clear hK K
  refine wpHeads_step (fun K hK => ?_)
  go_simp
  refine ⟨.int .u8 (x7 : Int), fun w' hw' => by rw [d7.out w' hw']; rfl, hK _ ?_⟩
  clear hK K
  refine wpHeads_step (fun K hK => ?_)
  go_simp
  refine ⟨_, fun _ _ => rfl, hK _ ?_⟩
  clear hK K
  refine wpHeads_step (fun K hK => ?_)
  go_simp
  refine ⟨_, fun _ _ => rfl, hK _ ?_⟩
  clear hK K
  refine wpHeads_step (fun K hK => ?_)
  go_simp
  refine ⟨_, fun _ _ => rfl, hK _ ?_⟩
  clear hK K
  refine wpHeads_step (fun K hK => ?_)
  go_simp
  refine ⟨_, fun _ _ => rfl, hK _ ?_⟩
  clear hK K
  refine wpHeads_step (fun K hK => ?_)
  go_simp
  refine ⟨.int .u8 (x8 : Int), fun w' hw' => by rw [d8.out w' hw']; rfl, hK _ ?_⟩
  clear hK K
  refine wpHeads_step (fun K hK => ?_)
  go_simp
  refine ⟨_, fun _ _ => rfl, hK _ ?_⟩
  clear hK K
  refine wpHeads_step (fun K hK => ?_)
  go_simp
  refine ⟨_, fun _ _ => rfl, hK _ ?_⟩
  clear hK K
  refine wpHeads_step (fun K hK => ?_)
  go_simp
  refine ⟨_, fun _ _ => rfl, hK _ ?_⟩
  clear hK K
  refine wpHeads_step (fun K hK => ?_)
  go_simp
  refine ⟨_, fun _ _ => rfl, hK _ ?_⟩
  clear hK K
  refine wpHeads_step (fun K hK => ?_)
  go_simp
  refine ⟨.int .u8 (x9 : Int), fun w' hw' => by rw [d9.out w' hw']; rfl, hK _ ?_⟩
  clear hK K
  refine wpHeads_step (fun K hK => ?_)
  go_simp
  refine ⟨_, fun _ _ => rfl, hK _ ?_⟩
  clear hK K
  refine wpHeads_step (fun K hK => ?_)
  go_simp
  refine ⟨_, fun _ _ => rfl, hK _ ?_⟩
  clear hK K
  refine wpHeads_step (fun K hK => ?_)
  go_simp
  refine ⟨_, fun _ _ => rfl, hK _ ?_⟩
  clear hK K
  refine wpHeads_step (fun K hK => ?_)
  go_simp
  refine ⟨_, fun _ _ => rfl, hK _ ?_⟩
  clear hK K
  refine wpHeads_step (fun K hK => ?_)
  go_simp
  refine ⟨_, fun _ _ => rfl, hK _ ?_⟩
  clear hK K
  refine wpHeads_step (fun K hK => ?_)
  go_simp
  refine ⟨.int .u8 (x10 : Int), fun w' hw' => by rw [d10.out w' hw']; rfl, hK _ ?_⟩
  clear hK K
  refine wpHeads_step (fun K hK => ?_)
  go_simp
  refine ⟨_, fun _ _ => rfl, hK _ ?_⟩
  clear hK K
  refine wpHeads_step (fun K hK => ?_)
  go_simp
  refine ⟨_, fun _ _ => rfl, hK _ ?_⟩
  clear hK K
  refine wpHeads_step (fun K hK => ?_)
  go_simp
  refine ⟨_, fun _ _ => rfl, hK _ ?_⟩
  clear hK K
  refine wpHeads_step (fun K hK => ?_)
  go_simp
  refine ⟨_, fun _ _ => rfl, hK _ ?_⟩
  clear hK K
  refine wpHeads_step (fun K hK => ?_)
  go_simp
  refine ⟨_, fun _ _ => rfl, hK _ ?_⟩
  clear hK K
  refine wpHeads_step (fun K hK => ?_)
  go_simp
  refine ⟨.int .u8 (x11 : Int), fun w' hw' => by rw [d11.out w' hw']; rfl, hK _ ?_⟩
  clear hK K
  refine wpHeads_step (fun K hK => ?_)
  go_simp
  refine ⟨_, fun _ _ => rfl, hK _ ?_⟩
  clear hK K
  refine wpHeads_step (fun K hK => ?_)
  go_simp
  refine ⟨_, fun _ _ => rfl, hK _ ?_⟩
  clear hK K
  refine wpHeads_step (fun K hK => ?_)
  go_simp
  refine ⟨_, fun _ _ => rfl, hK _ ?_⟩
  clear hK K
  refine wpHeads_nil ?_
  have hb1 : Below W3.heap.size W3 (W3.alloc (.cells #[.int .i64 0, .int .i64 0, .int .i64 0] 30)).drew := ((Below.refl _ _).alloc (Nat.le_refl _) _).drew
  have hp1 : (W3.alloc (.cells #[.int .i64 0, .int .i64 0, .int .i64 0] 30)).drew.heap[W3.heap.size]? = some (.cells #[.int .i64 0, .int .i64 0, .int .i64 0] 30 (0, 0)) := heap_alloc_new W3 (.cells #[.int .i64 0, .int .i64 0, .int .i64 0] 30)
  refine held_one 43 rfl rfl (by kernel_rfl) fun K hK => ?_
  go_simp
  refine hK _ _ hb1 ?_
  clear hK K
  generalize (W3.alloc (.cells #[.int .i64 0, .int .i64 0, .int .i64 0] 30)).drew = Y1 at *
  have hx1 : Y1.heap[w.heap.size]? = _ := (hb1.block _ (lt_of_some X3.out)).trans X3.out
  have hne : w.heap.size ≠ W3.heap.size := by have := lt_of_some X3.out; omega
  have hge : Below w.heap.size w Y1 := bt B3.out hb1
  have hgs : w.heap.size ≤ W3.heap.size := B3.out.size
  have HP := Lib.hid (set3 (k := .int .i64 (Y4 : Int)) (l := .int .i64 (Y6 : Int)) (m := .int .i64 (Y8 : Int)) hp1)
  have HXB := Lib.hid ((set3_other (k := .int .i64 (Y4 : Int)) (l := .int .i64 (Y6 : Int)) (m := .int .i64 (Y8 : Int)) hne).trans hx1)
  have HBV := Lib.hid (below3 (k := .int .i64 (Y4 : Int)) (l := .int .i64 (Y6 : Int)) (m := .int .i64 (Y8 : Int)) hge hgs)
  have HBW := Lib.hid (below3 (k := .int .i64 (Y4 : Int)) (l := .int .i64 (Y6 : Int)) (m := .int .i64 (Y8 : Int)) hb1 (Nat.le_refl _))
  obtain ⟨t0, t1, t2, z0, z1, z2⟩ := bx3 hp1
  clear hne hge hgs
  refine held_one 44 rfl rfl (by kernel_rfl) fun K hK => ?_
  go_simp
  refine hK _ _ HBW.out ?_
  clear hK K t0 t1 t2 z0 z1 z2 hp1 hx1 hb1
  generalize W3.heap.size = p at *
  generalize ((Y1.setCell ⟨p, 0, none⟩ (.int .i64 (Y4 : Int))).setCell ⟨p, 1, none⟩ (.int .i64 (Y6 : Int))).setCell ⟨p, 2, none⟩ (.int .i64 (Y8 : Int)) = V2 at *
  refine wpAnyH_done (by kernel_rfl) ?_ _
  unfold onlyN
  dsimp only
  have RV := Lib.hid (pvalid7_any (Y4 : Int) (Y6 : Int) (Y8 : Int))
  unfold SV at RV
  obtain ⟨u0, u1, u2, -, -, -⟩ := bx3 HP.out
  go_wp2_with fail
  refine (RV.out _).mono ?_
  rintro e V3 ⟨rfl, hb3⟩
  have HP3 := Lib.hid ((hb3.block _ (lt_of_some HP.out)).trans HP.out)
  have HX3 := Lib.hid ((hb3.block _ (lt_of_some HXB.out)).trans HXB.out)
  have HB3 := Lib.hid (bt HBV.out hb3)
  clear u0 u1 u2 hb3
  obtain ⟨u0, u1, u2, -, -, -⟩ := bx3 HP3.out
  obtain ⟨t0, t1, t2, z0, z1, z2⟩ := bx3 HX3.out
  cases hok : okS (Y4 : Int) (Y6 : Int) (Y8 : Int)
  · have HE := Lib.hid (HD4.out.1 hok)
    clear hok
    go_wp2_with fail
    exact pdec7_end (g := w.heap.size) rfl (set3 HX3.out) (err7 (err := 3) HE.out (by decide) (below3 HB3.out (Nat.le_refl _)))
  · have HE := Lib.hid (HD4.out.2 hok)
    clear hok
    go_wp2_with fail
    refine pdec7_end (g := w.heap.size) rfl (set3 HX3.out) ⟨?_, below3 HB3.out (Nat.le_refl _)⟩
    rw [HDX.out HE.out, HE.out]
    rfl
end Go.Proofs.YtlnccofanicihaaDoor.Gf
