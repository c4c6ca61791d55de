/- What is proved here: the contract of the program's Decode. Condition: the table of crc32c as laid. -/
import Derived.Test.YtljdbaibhpgfnaaDoorPd
namespace Go.Proofs.YtljdbaibhpgfnaaDoor.Gf
open Go Go.ChangeShapes Go.WideShapes Go.ChangeAt Go.RowKit Go.Proofs.YtljdbaibhpgfnaaDoor.By Go.Proofs.YtljdbaibhpgfnaaDoor.Crc Go.Proofs.YtljdbaibhpgfnaaDoor.Qt

theorem pdec_end {R : Ending → World → Prop} {W : World} {g : Nat} {tmps : Array Value} {k c d s : Value} (hp : tmps.getD 2 undef = .pointer (some ⟨g, 0, none⟩)) (hg : W.heap[g]? = some (.cells #[k, c, d, s] 26 (0, 0)))
    (hR : R (.returned (.tuple #[.agg #[k, c, d, s], tmps.getD 3 undef, tmps.getD 4 undef])) W) : bodyPost Tryd.prog Tryd.f18 R .ret { tmps := tmps, defers := [] } W :=
  bodyPost_ret (results_rtt rfl _ _ g #[k, c, d, s] hp hg Tryd.underlying26 rfl infoN) rfl hR
theorem own_box_ne {wr : World} {base G : Nat} {x : Value} {l : List Nat} {cs : Array Value} (hx : Own wr base x l) (hg : wr.heap[G]? = some (.cells cs 26 (0, 0))) : ∀ k, x.ownBlock = some k → k ≠ G := by
  intro k hk e
  subst e
  obtain ⟨_, _, ⟨rfl, _⟩ | ⟨q, _, cq, rfl, _, hq, _⟩⟩ := hx
  · cases hk
  · cases hk
    rw [hg] at hq
    simp at hq
theorem own_set4 {W : World} {B g : Nat} {v a b c d k l m n : Value} {L : List Nat} (h : Own W B v L) (hg : W.heap[g]? = some (.cells #[a, b, c, d] 26 (0, 0))) : Own ((((W.setCell ⟨g, 0, none⟩ k).setCell ⟨g, 1, none⟩ l).setCell ⟨g, 2, none⟩ m).setCell ⟨g, 3, none⟩ n) B v L :=
  own_keep h fun q hq => by
    have hne := own_box_ne h hg q hq
    rw [heap_setCell_other _ _ _ _ hne, heap_setCell_other _ _ _ _ hne, heap_setCell_other _ _ _ _ hne, heap_setCell_other _ _ _ _ hne]
theorem set4_other {W : World} {g q : Nat} {k l m n : Value} (hne : q ≠ g) : ((((W.setCell ⟨g, 0, none⟩ k).setCell ⟨g, 1, none⟩ l).setCell ⟨g, 2, none⟩ m).setCell ⟨g, 3, none⟩ n).heap[q]? = W.heap[q]? := by
  rw [heap_setCell_other _ _ _ _ hne, heap_setCell_other _ _ _ _ hne, heap_setCell_other _ _ _ _ hne, heap_setCell_other _ _ _ _ hne]
theorem dl_cases (l : List Nat) : (dlE l ≠ 0 ∧ dlN l = 0 ∧ decE l = dlE l) ∨ (dlE l = 0 ∧ dlN l = lenR l ∧ ¬ l.length < 20 ∧ hdOk l) := by
  unfold dlE dlN decE
  by_cases h1 : l.length < 20
  · rw [if_pos h1, if_pos h1, if_pos h1]; exact Or.inl ⟨by decide, rfl, rfl⟩
  · rw [if_neg h1, if_neg h1, if_neg h1]
    by_cases h2 : hdOk l
    · rw [if_pos h2, if_pos h2]; exact Or.inr ⟨rfl, rfl, h1, h2⟩
    · rw [if_neg h2, if_neg h2, if_pos h2]; exact Or.inl ⟨by decide, rfl, rfl⟩
theorem run_neq4 (a0 a1 a2 a3 b0 b1 b2 b3 : Int) (W : World) : (binOp .neq 53 (.agg #[.int .u8 a0, .int .u8 a1, .int .u8 a2, .int .u8 a3]) (.agg #[.int .u8 b0, .int .u8 b1, .int .u8 b2, .int .u8 b3])).run Tryd.prog W = .ok (.bool (!(a0 == b0 && a1 == b1 && a2 == b2 && a3 == b3))) W := by
  obtain ⟨i, hi, hz0, hz1, hz2⟩ := info_parts infoB
  have h1 : ∀ (d : Nat) (a b : Int) (W : World), (Op.equalIn (d + 1) 5 (.int .u8 a) (.int .u8 b)).run Tryd.prog W = .ok (a == b) W := fun d a b W => by
    simp [Op.equalIn, run_underlying Tryd.underlying5]
  have hs : ∀ W, (sizeOf 5).run Tryd.prog W = .ok 1 W := fun W => by simp [sizeOf, typeInfo, hi, hz1]
  have h : ∀ d : Nat, (Op.equalIn (d + 2) 53 (.agg #[.int .u8 a0, .int .u8 a1, .int .u8 a2, .int .u8 a3]) (.agg #[.int .u8 b0, .int .u8 b1, .int .u8 b2, .int .u8 b3])).run Tryd.prog W = .ok (a0 == b0 && a1 == b1 && a2 == b2 && a3 == b3) W := fun d => by
    unfold Op.equalIn
    simp only [Sem.run_bind, run_underlying Tryd.underlying53, Result.andThen_ok, hs]
    simp [Std.Legacy.Range.forIn_eq_forIn_range', Std.Legacy.Range.size, List.range', List.forIn_cons, hs, h1, part]
    by_cases e0 : a0 = b0 <;> by_cases e1 : a1 = b1 <;> by_cases e2 : a2 = b2 <;> by_cases e3 : a3 = b3 <;> simp [e0, e1, e2, e3]
  simp only [binOp]
  simp [Op.equal, Op.maxDepth, h 9998]
/-- Four bytes of a list, one by one. -/
theorem seg4 {l : List Nat} {e : Nat} (h : e + 4 ≤ l.length) : (l.drop e).take 4 = [l.getD e 0, l.getD (e + 1) 0, l.getD (e + 2) 0, l.getD (e + 3) 0] := by
  apply List.ext_getElem
  · simp; omega
  · intro i h1 h2
    have hi : i < 4 := by simpa using h2
    rw [List.getElem_take, List.getElem_drop]
    match i, hi with
    | 0, _ => have hk : e < l.length := by omega
              simp [List.getD, hk]
    | 1, _ => have hk : e + 1 < l.length := by omega
              simp [List.getD, hk]
    | 2, _ => have hk : e + 2 < l.length := by omega
              simp [List.getD, hk]
    | 3, _ => have hk : e + 3 < l.length := by omega
              simp [List.getD, hk]
theorem getD_seg {l : List Nat} {p c i : Nat} (h : i < c) : ((l.drop p).take c).getD i 0 = l.getD (p + i) 0 := by
  simp [List.getD, h]
theorem four_eq (q0 q1 q2 q3 a0 a1 a2 a3 : Nat) : ((q0 : Int) == (a0 : Int) && (q1 : Int) == (a1 : Int) && (q2 : Int) == (a2 : Int) && (q3 : Int) == (a3 : Int)) = decide ([a0, a1, a2, a3] = [q0, q1, q2, q3]) := by
  rw [Bool.eq_iff_iff]
  simp only [Bool.and_eq_true, beq_iff_eq, decide_eq_true_eq, List.cons.injEq, and_true]
  omega
/-- A number in bytes is 0 exactly if all are 0. -/
theorem valL_zero : ∀ (l : List Nat), valL l = 0 ↔ ∀ i, i < l.length → l.getD i 0 = 0 := by
  refine revInd (by simp [valL]) fun l b ih => ?_
  rw [valL_snoc]
  constructor
  · intro h i hi
    have h1 : valL l = 0 := by omega
    have h2 : b = 0 := by omega
    by_cases hil : i < l.length
    · have := ih.1 h1 i hil
      simpa [List.getD, List.getElem?_append_left hil] using this
    · have : i = l.length := by simp at hi; omega
      subst this
      simp [h2]
  · intro h
    have h1 : valL l = 0 := ih.2 fun i hi => by
      have := h i (by simp; omega)
      simpa [List.getD, List.getElem?_append_left hi] using this
    have h2 := h l.length (by simp)
    simp at h2
    omega
set_option maxRecDepth 100000 in
set_option maxHeartbeats 6400000 in
theorem pdecode_any (v : Value) (l : List Nat) (w : World) (s : Sl w v l) (ht : Tab w) : Calls Tryd.prog 18 #[v] w (ED w (decX l) (decN l) (decE l)) := by
  have HX0 := Lib.hid fun (h : decE l ≠ 0) => (show decX l = ⟨0, 0, false, []⟩ by unfold decX; rw [if_neg h])
  have HN0 := Lib.hid fun (h : decE l ≠ 0) => (show decN l = 0 by unfold decN; rw [if_neg h])
  have HB0 := Lib.hid ((Below.refl w.heap.size w).alloc (Nat.le_refl _) (.cells #[.int .u64 0, .int .u32 0, .bool false, .slice none 0 0] 26))
  have DL := Lib.hid (pdl_any v l (w.alloc (.cells #[.int .u64 0, .int .u32 0, .bool false, .slice none 0 0] 26)) (sl_below s HB0.out))
  unfold DO at DL
  rcases dl_cases l with ⟨h1, h2, h3⟩ | ⟨h1, h2, h3, h4⟩
  · obtain ⟨er, her⟩ : ∃ er, er = dlE l := ⟨_, rfl⟩
    rw [← her, h2] at DL
    rw [← her] at h1 h3
    have he : ((er : Int) != 0) = true := by rw [bne_iff_ne]; omega
    have HER := Lib.hid h3
    have H1 := Lib.hid h1
    obtain ⟨a, c, rfl, -, -⟩ := sl_form s
    generalize l.length = n at *
    clear h1 h2 h3 her s ht
    unfold ED
    go_enter Tryd.func18, Tryd.ntmps18
    go_wp2_with fail
    refine DL.out.mono ?_
    rintro e W1 ⟨rfl, hb1⟩
    have HBX := Lib.hid ((hb1.block w.heap.size (by simp)).trans (heap_alloc_new w (.cells #[.int .u64 0, .int .u32 0, .bool false, .slice none 0 0] 26)))
    have HB1 := Lib.hid (bt HB0.out hb1)
    obtain ⟨t0, t1, t2, t3⟩ := bx_cell HBX.out
    have z0 := frozen_of_row W1 w.heap.size 0 _ _ HBX.out
    have z1 := frozen_of_row W1 w.heap.size 1 _ _ HBX.out
    have z2 := frozen_of_row W1 w.heap.size 2 _ _ HBX.out
    have z3 := frozen_of_row W1 w.heap.size 3 _ _ HBX.out
    clear hb1
    go_wp2
    refine pdec_end (g := w.heap.size) rfl (set4 HBX.out) ?_
    exact err_end HER.out H1.out (below4 HB1.out (Nat.le_refl _))
  obtain ⟨b, o, c, hv, hc1, hc2, hk⟩ := sl_cells s (by omega)
  obtain ⟨n, hn⟩ : ∃ n, n = l.length := ⟨_, rfl⟩
  rw [← hn] at hv h3 hc1
  subst hv
  obtain ⟨m, hm⟩ : ∃ m, m = lenR l := ⟨_, rfl⟩
  rw [h1, h2, ← hm] at DL
  have hm4 : m ≤ 4096 := by rw [hm]; exact h4.2.2.2.2.1
  have hy2 : l.getD 2 0 ≤ 1 := h4.2.2.1
  have HF := Lib.hid (dec_cases (show ¬ l.length < 20 by omega) h4)
  rw [← hm, ← hn] at HF
  have hms := szI6_nat (n := m) hm4
  obtain ⟨M, hMM⟩ : ∃ M, M = szR m := ⟨_, rfl⟩
  rw [← hMM] at HF hms
  have RZ : Hid (∀ W, Calls Tryd.prog 10 #[.int .i64 (m : Int)] W fun e w' => e = .returned (.int .i64 (M : Int)) ∧ W = w') := fun W => by
    have h := psize_any (m : Int) W (by unfold I64b; omega)
    rwa [hms] at h
  have hMb : 24 + m ≤ M ∧ M < 32 + m := by have := szR_ge m; have := szR_lt m; omega
  have HMM := Lib.hid hMM
  have HMB := Lib.hid hMb
  have HS := Lib.hid s
  have HC := Lib.hid hk
  have HCC := Lib.hid (And.intro hc1 hc2)
  have hnE := Lib.hid hn
  have HM := Lib.hid hm
  have H4 := Lib.hid h4
  have HM4 := Lib.hid hm4
  have HY2 := Lib.hid hy2
  have HT := Lib.hid ht
  have H3 := Lib.hid h3
  have g0 : (m : Int) ≤ 4096 := by omega
  clear hms hMM hMb s hk hc1 hc2 hn hm h1 h2 h4 hm4 hy2 ht h3
  obtain ⟨E0, hE0⟩ : ∃ E0, E0 = 20 + m := ⟨_, rfl⟩
  have e20 : (20 : Int) + (m : Int) = (E0 : Int) := by omega
  have HE0 := Lib.hid hE0
  clear hE0
  unfold ED
  by_cases p6 : n < M
  · have hc6 : decide ((n : Int) < (M : Int)) = true := decide_eq_true (by omega)
    have HE := Lib.hid (HF.out.1 p6)
    go_enter Tryd.func18, Tryd.ntmps18
    go_wp2_with fail
    refine DL.out.mono ?_
    rintro e W1 ⟨rfl, hb1⟩
    have HBX := Lib.hid ((hb1.block w.heap.size (by simp)).trans (heap_alloc_new w (.cells #[.int .u64 0, .int .u32 0, .bool false, .slice none 0 0] 26)))
    have HB1 := Lib.hid (bt HB0.out hb1)
    clear hb1
    obtain ⟨t0, t1, t2, t3⟩ := bx_cell HBX.out
    have z0 := frozen_of_row W1 w.heap.size 0 _ _ HBX.out
    have z1 := frozen_of_row W1 w.heap.size 1 _ _ HBX.out
    have z2 := frozen_of_row W1 w.heap.size 2 _ _ HBX.out
    have z3 := frozen_of_row W1 w.heap.size 3 _ _ HBX.out
    go_wp2_with (go_at_call 10; refine (RZ.out _).mono ?_; rintro e w1 ⟨rfl, rfl⟩)
    refine pdec_end (g := w.heap.size) rfl (set4 HBX.out) ?_
    exact err_end (err := 4) HE.out (by decide) (below4 HB1.out (Nat.le_refl _))
  have hc6 : decide ((n : Int) < (M : Int)) = false := decide_eq_false (by omega)
  have HNM := Lib.hid p6
  have r1 : (E0 : Int) ≤ (c : Int) := by have := HMB.out; have := HCC.out.1; have := HE0.out; omega
  have r2 : (E0 : Int) ≤ (n : Int) := by have := HMB.out; have := HE0.out; omega
  have r4 : ¬ c = E0 := by have := HMB.out; have := HCC.out.1; have := HE0.out; omega
  go_enter Tryd.func18, Tryd.ntmps18
  go_wp2_with fail
  refine DL.out.mono ?_
  rintro e W1 ⟨rfl, hb1⟩
  have HBX := Lib.hid ((hb1.block w.heap.size (by simp)).trans (heap_alloc_new w (.cells #[.int .u64 0, .int .u32 0, .bool false, .slice none 0 0] 26)))
  have HB1 := Lib.hid (bt HB0.out hb1)
  clear hb1
  go_wp2_with (go_at_call 10; refine (RZ.out _).mono ?_; rintro e w1 ⟨rfl, rfl⟩)
  have SA := Lib.hid (fun W (hW : Below w.heap.size w W) => sl_below (sl_cut (w := w) (p := 0) (c := E0) HS.out.1 hnE.out.symm HCC.out.2 HCC.out.1 (by rw [hnE.out]; exact HC.out) (by omega)) hW)
  rw [Nat.add_zero, Nat.sub_zero, List.drop_zero] at SA
  have CK := Lib.hid (fun W (hW : Below w.heap.size w W) => pchecksum_any _ _ W (SA.out W hW) (tab_below HT.out hW))
  have C4 : Hid (∀ W, Below w.heap.size w W → W.cell? ⟨b, o + E0, none⟩ = some (.int .u8 ((l.getD E0 0 : Nat) : Int)) ∧ W.cell? ⟨b, o + E0 + 1, none⟩ = some (.int .u8 ((l.getD (E0 + 1) 0 : Nat) : Int)) ∧ W.cell? ⟨b, o + E0 + 2, none⟩ = some (.int .u8 ((l.getD (E0 + 2) 0 : Nat) : Int)) ∧ W.cell? ⟨b, o + E0 + 3, none⟩ = some (.int .u8 ((l.getD (E0 + 3) 0 : Nat) : Int))) := fun W hW =>
    have f : ∀ k, k < n → W.cell? ⟨b, o + k, none⟩ = some (.int .u8 ((l.getD k 0 : Nat) : Int)) := fun k h => (hW.cell (block_lt_of_cell (HC.out k (by rw [← hnE.out]; exact h)))).trans (HC.out k (by rw [← hnE.out]; exact h))
    ⟨f E0 (by have := HMB.out; have := HE0.out; omega), by rw [Nat.add_assoc]; exact f (E0 + 1) (by have := HMB.out; have := HE0.out; omega), by rw [Nat.add_assoc]; exact f (E0 + 2) (by have := HMB.out; have := HE0.out; omega), by rw [Nat.add_assoc]; exact f (E0 + 3) (by have := HMB.out; have := HE0.out; omega)⟩
  have hsum4 : ∃ a0 a1 a2 a3, leL (ext 0 (l.take E0)) = [a0, a1, a2, a3] := ⟨_, _, _, _, rfl⟩
  obtain ⟨a0, a1, a2, a3, hA⟩ := hsum4
  rw [hA, show (cellsOf [a0, a1, a2, a3]).toArray = #[.int .u8 (a0 : Int), .int .u8 (a1 : Int), .int .u8 (a2 : Int), .int .u8 (a3 : Int)] from rfl] at CK
  have hck : ckOk l ↔ [a0, a1, a2, a3] = [l.getD E0 0, l.getD (E0 + 1) 0, l.getD (E0 + 2) 0, l.getD (E0 + 3) 0] := by
    unfold ckOk
    rw [← HM.out, ← HE0.out, hA, seg4 (by have := HMB.out; have := HE0.out; have := hnE.out; omega)]
  have hpd : pdOk l ↔ valL ((l.drop (E0 + 4)).take (M - (E0 + 4))) = 0 := by
    have hlen : ((l.drop (E0 + 4)).take (M - (E0 + 4))).length = M - (E0 + 4) := by have := HMB.out; have := HE0.out; have := hnE.out; simp; omega
    rw [valL_zero, hlen]
    unfold pdOk
    rw [← HM.out, ← HMM.out]
    constructor
    · intro h i hi
      rw [getD_seg hi]
      exact h _ (by omega) (by have := HE0.out; omega)
    · intro h i h1 h2
      have := h (i - (E0 + 4)) (by have := HE0.out; omega)
      rw [getD_seg (by have := HE0.out; omega)] at this
      rwa [show E0 + 4 + (i - (E0 + 4)) = i by have := HE0.out; omega] at this
  have HCK := Lib.hid hck
  have HPD := Lib.hid hpd
  clear hck hpd hA
  generalize l.getD E0 0 = q0 at C4 HCK
  generalize l.getD (E0 + 1) 0 = q1 at C4 HCK
  generalize l.getD (E0 + 2) 0 = q2 at C4 HCK
  generalize l.getD (E0 + 3) 0 = q3 at C4 HCK
  have r5 : 4 ≤ n - E0 := by have := HMB.out; have := HE0.out; omega
  refine wp_onlyN ?_
  refine wp_region_headsS (fun w' => Below w.heap.size w w') [0, 1, 2, 3, 4, 5, 6, 7] 3 (by kernel_rfl) (fun _ _ _ _ _ h => h.elim) (by kernel_rfl) (by rfl) (by rfl) HB1.out.drew ?_
  simp only [pickOps, List.filterMap_cons, List.filterMap_nil, List.getElem?_toArray, List.getElem?_cons_zero, List.getElem?_cons_succ]
  refine wpHeads_step (fun K hK => ?_)
  go_simp
  refine ⟨_, fun _ _ => rfl, hK _ ?_⟩
  clear hK K
  refine wpHeads_step (fun K hK => ?_)
  go_simp
  refine ⟨_, fun _ _ => rfl, hK _ ?_⟩
  clear hK K
  refine wpHeads_step (fun K hK => ?_)
  go_simp
  refine ⟨_, fun _ _ => rfl, hK _ ?_⟩
  clear hK K
  refine wpHeads_step (fun K hK => ?_)
  go_simp
  refine ⟨.pointer (some ⟨b, o + E0, none⟩), fun w' _ => by simp [Instr.arrayAt, run_underlying Tryd.underlying53, Nat.not_lt.2 r5], hK _ ?_⟩
  clear hK K
  refine wpHeads_step (fun K hK => ?_)
  go_simp
  refine ⟨.agg #[.int .u8 (q0 : Int), .int .u8 (q1 : Int), .int .u8 (q2 : Int), .int .u8 (q3 : Int)], fun w' hw' => by obtain ⟨u0, u1, u2, u3⟩ := C4.out w' hw'; simp [u0, u1, u2, u3], hK _ ?_⟩
  clear hK K
  refine wpHeads_step (fun K hK => ?_)
  go_simp
  refine ⟨_, fun _ _ => rfl, hK _ ?_⟩
  clear hK K
  refine wpHeads_step (fun K hK => ?_)
  go_simp
  refine ⟨_, fun _ _ => rfl, hK _ ?_⟩
  clear hK K
  refine wpHeads_step (fun K hK => ?_)
  go_simp
  refine ⟨_, fun _ _ => rfl, hK _ ?_⟩
  clear hK K
  refine wpHeads_nil ?_
  refine held_one 8 rfl rfl (by kernel_rfl) fun K hK => ?_
  go_simp
  go_at_call 32
  refine (CK.out _ HB1.out.drew).mono ?_
  rintro e W3 ⟨rfl, hb3⟩
  have hb4 : Below w.heap.size w W3 := bt HB1.out.drew hb3
  have hbx3 : W3.heap[w.heap.size]? = _ := (hb3.block _ (lt_of_some HBX.out)).trans HBX.out
  refine hK _ _ hb4 ?_
  clear hK K hb3
  have hneq := run_neq4 (q0 : Int) q1 q2 q3 a0 a1 a2 a3
  rw [four_eq] at hneq
  generalize hD : decide ([a0, a1, a2, a3] = [q0, q1, q2, q3]) = D at hneq
  have HD := Lib.hid hD
  refine held_one 9 rfl rfl (by kernel_rfl) fun K hK => ?_
  clear hD
  go_simp
  refine hK _ _ hb4 ?_
  clear hK K
  refine held_one 10 rfl rfl (by kernel_rfl) fun K hK => ?_
  go_simp
  refine hK _ _ hb4 ?_
  clear hK K
  refine wpAnyH_done (by kernel_rfl) ?_ _
  unfold onlyN
  dsimp only
  have HB3 := Lib.hid hb4
  have HBX3 := Lib.hid hbx3
  have HF1 := Lib.hid (HF.out.2 HNM.out)
  clear hb4 hbx3 hneq HF C4 CK
  by_cases p9 : ckOk l
  case neg =>
    obtain rfl : D = false := by rw [← HD.out]; exact decide_eq_false fun h => p9 (HCK.out.2 h)
    have HE5 := Lib.hid (HF1.out.1 p9)
    clear p9 HF1
    obtain ⟨t0, t1, t2, t3⟩ := bx_cell HBX3.out
    have z0 := frozen_of_row W3 w.heap.size 0 _ _ HBX3.out
    have z1 := frozen_of_row W3 w.heap.size 1 _ _ HBX3.out
    have z2 := frozen_of_row W3 w.heap.size 2 _ _ HBX3.out
    have z3 := frozen_of_row W3 w.heap.size 3 _ _ HBX3.out
    go_wp2
    refine pdec_end (g := w.heap.size) rfl (set4 HBX3.out) ?_
    exact err_end (err := 5) HE5.out (by decide) (below4 HB3.out (Nat.le_refl _))
  obtain rfl : D = true := by rw [← HD.out]; exact decide_eq_true (HCK.out.1 p9)
  have HF2 := Lib.hid (HF1.out.2 p9)
  clear HF1 p9 HCK
  obtain ⟨E4, hE4⟩ : ∃ E4, E4 = E0 + 4 := ⟨_, rfl⟩
  have e4 : (E0 : Int) + 4 = (E4 : Int) := by omega
  have w4 : IntKind.i64.wrap ((E0 : Int) + 4) = (E4 : Int) := by rw [e4]; exact IntWalk.i64_in _ (by have := HMB.out; have := HE0.out; have := HM4.out; omega)
  rw [← hE4] at HPD
  have HE4 := Lib.hid hE4
  clear hE4
  have r6 : (E4 : Int) ≤ (M : Int) := by have := HMB.out; have := HE0.out; have := HE4.out; omega
  have r7 : (M : Int) ≤ (c : Int) := by have := HCC.out.1; have := HNM.out; omega
  have r9 : (M : Int) ≤ (n : Int) := by have := HNM.out; omega
  have NV := Lib.hid (fun W (hW : Below w.heap.size w W) => pnumber_any _ _ W (sl_below (sl_cut (w := w) (p := E4) (c := M - E4) HS.out.1 hnE.out.symm HCC.out.2 HCC.out.1 (by rw [hnE.out]; exact HC.out) (by have := HNM.out; omega)) hW) (by have := HMB.out; have := HE0.out; have := HE4.out; simp; omega))
  have HPD2 := HPD.out
  have HPV : Hid (M ≤ E4 → valL ((l.drop E4).take (M - E4)) = 0) := fun h => by
    rw [show M - E4 = 0 by omega, List.take_zero]
    rfl
  generalize valL ((l.drop E4).take (M - E4)) = PV at NV HPD2 HPV
  have HPD := Lib.hid HPD2
  clear HPD2
  by_cases p10 : PV = 0
  case neg =>
    have r8 : ¬ c = E4 := fun e => p10 (HPV.out (by have := HCC.out.1; have := HNM.out; omega))
    have hc10 : ((PV : Int) != 0) = true := by rw [bne_iff_ne]; omega
    have HE3 := Lib.hid (HF2.out.1 fun h => p10 (HPD.out.1 h))
    clear p10 HF2
    obtain ⟨t0, t1, t2, t3⟩ := bx_cell HBX3.out
    have z0 := frozen_of_row W3 w.heap.size 0 _ _ HBX3.out
    have z1 := frozen_of_row W3 w.heap.size 1 _ _ HBX3.out
    have z2 := frozen_of_row W3 w.heap.size 2 _ _ HBX3.out
    have z3 := frozen_of_row W3 w.heap.size 3 _ _ HBX3.out
    go_wp2_with (go_at_call 33; refine (NV.out _ HB3.out).mono ?_; rintro e w1 ⟨rfl, rfl⟩)
    refine pdec_end (g := w.heap.size) rfl (set4 HBX3.out) ?_
    exact err_end (err := 3) HE3.out (by decide) (below4 HB3.out (Nat.le_refl _))
  have HE := Lib.hid (HF2.out.2 (HPD.out.2 p10))
  subst p10
  by_cases hcE : c = E4
  · subst hcE
    obtain rfl : M = c := by omega
    go_wp2_with (go_at_call 33; refine (pnumber_nil _ _ _).mono ?_; rintro e w1 ⟨rfl, rfl⟩)
    have SV8 := Lib.hid (fun W (hW : Below w.heap.size w W) => pnumber_any _ _ W (sl_below (sl_cut (w := w) (p := 8) (c := 8) HS.out.1 hnE.out.symm HCC.out.2 HCC.out.1 (by rw [hnE.out]; exact HC.out) (by have := HNM.out; have := HMB.out; omega)) hW) (by simp; omega))
    have SV4 := Lib.hid (fun W (hW : Below w.heap.size w W) => pnumber_any _ _ W (sl_below (sl_cut (w := w) (p := 4) (c := 4) HS.out.1 hnE.out.symm HCC.out.2 HCC.out.1 (by rw [hnE.out]; exact HC.out) (by have := HNM.out; have := HMB.out; omega)) hW) (by simp; omega))
    have SD0 := (sl_cut (w := w) (p := 20) (c := m) HS.out.1 hnE.out.symm HCC.out.2 HCC.out.1 (by rw [hnE.out]; exact HC.out) (by have := HNM.out; have := HMB.out; omega))
    rw [show m = E0 - 20 by have := HE0.out; omega] at SD0
    have HDL : Hid (((l.drop 20).take (E0 - 20)).length = E0 - 20) := by show _ = _; rw [List.length_take, List.length_drop]; have := HE0.out; have := HNM.out; have := HMB.out; have := hnE.out; omega
    have SD := Lib.hid (fun W (hW : Below w.heap.size w W) => (by have h := pclone_any ⟨b, o + 20, none⟩ (M - 20) ((l.drop 20).take (E0 - 20)) W (by rw [HDL.out]; exact sl_below SD0 hW) (by rw [HDL.out]; have := HE0.out; have := HM4.out; omega); rwa [HDL.out] at h : Calls Tryd.prog 34 #[.slice (some ⟨b, o + 20, none⟩) (E0 - 20) (M - 20)] W fun e w' => (∃ v, e = .returned v ∧ Own w' W.heap.size v ((l.drop 20).take (E0 - 20))) ∧ Below W.heap.size W w'))
    clear SD0
    have C2 := Lib.hid (fun W (hW : Below w.heap.size w W) => (hW.cell (p := ⟨b, o + 2, none⟩) (block_lt_of_cell (HC.out 2 (by rw [← hnE.out]; have := HNM.out; have := HMB.out; omega)))).trans (HC.out 2 (by rw [← hnE.out]; have := HNM.out; have := HMB.out; omega)))
    have hx4 : valL ((l.drop 4).take 4) < 4294967296 := by
      have h1 := valL_lt _ (mem_seg HS.out.1 4 4)
      have h2 : ((l.drop 4).take 4).length ≤ 4 := by rw [List.length_take]; omega
      exact Nat.lt_of_lt_of_le h1 (by have := Nat.pow_le_pow_right (n := 256) (by decide) h2; simpa using this)
    have hx8 : valL ((l.drop 8).take 8) < 18446744073709551616 := by
      have h1 := valL_lt _ (mem_seg HS.out.1 8 8)
      have h2 : ((l.drop 8).take 8).length ≤ 8 := by rw [List.length_take]; omega
      exact Nat.lt_of_lt_of_le h1 (by have := Nat.pow_le_pow_right (n := 256) (by decide) h2; simpa using this)
    have HDX : Hid (decX l = ⟨valL ((l.drop 8).take 8), valL ((l.drop 4).take 4), decide (l.getD 2 0 = 1), (l.drop 20).take (E0 - 20)⟩ ∧ decN l = M) := by
      refine ⟨?_, ?_⟩
      · unfold decX
        rw [if_pos HE.out, ← HM.out, show m = E0 - 20 by have := HE0.out; omega]
      · unfold decN
        rw [if_pos HE.out, ← HM.out, ← HMM.out]
    have HX48 := Lib.hid (And.intro hx4 hx8)
    have HW4 : IntKind.u32.wrap ((valL ((l.drop 4).take 4) : Nat) : Int) = ((valL ((l.drop 4).take 4) : Nat) : Int) := IntWalk.u32_in _ (by omega)
    have HY : (((l.getD 2 0 : Nat) : Int) == 1) = decide (l.getD 2 0 = 1) := by
      by_cases h : l.getD 2 0 = 1
      · rw [h]; rfl
      · rw [decide_eq_false h]; exact beq_false_of_ne (by omega)
    generalize hfl : decide (l.getD 2 0 = 1) = FL at HDX HY
    clear hfl
    generalize l.getD 2 0 = y2 at C2 HY
    have w1 : ¬ M = 8 := by have := HCC.out.1; have := HNM.out; have := HMB.out; omega
    have w2 : ¬ M = 4 := by have := HCC.out.1; have := HNM.out; have := HMB.out; omega
    have w3' : ¬ M = 20 := by have := HCC.out.1; have := HNM.out; have := HMB.out; omega
    have w5 : (8 : Int) ≤ (M : Int) ∧ (16 : Int) ≤ (M : Int) ∧ (4 : Int) ≤ (M : Int) ∧ (20 : Int) ≤ (E0 : Int) := by have := HE0.out; have := HCC.out.1; have := HNM.out; have := HMB.out; omega
    have w6 : (2 : Int) < (n : Int) ∧ (8 : Int) ≤ (n : Int) ∧ (16 : Int) ≤ (n : Int) := by have := HNM.out; have := HMB.out; omega
    generalize valL ((l.drop 4).take 4) = X4 at *
    generalize valL ((l.drop 8).take 8) = X8 at *
    generalize (l.drop 20).take (E0 - 20) = DD at *
    clear hx4 hx8
    refine wp_onlyN ?_
    refine wp_region_headsS (fun w' => Below w.heap.size w w') [0, 1, 3, 4, 7, 8, 9, 10, 11, 12, 13] 7 (by kernel_rfl) (fun _ _ _ _ _ h => h.elim) (by kernel_rfl) (by rfl) (by rfl) HB3.out.drew ?_
    simp only [pickOps, List.filterMap_cons, List.filterMap_nil, List.getElem?_toArray, List.getElem?_cons_zero, List.getElem?_cons_succ]
    refine wpHeads_step (fun K hK => ?_)
    go_simp
    refine ⟨_, fun _ _ => rfl, hK _ ?_⟩
    clear hK K
    refine wpHeads_step (fun K hK => ?_)
    go_simp
    refine ⟨_, fun _ _ => rfl, hK _ ?_⟩
    clear hK K
    refine wpHeads_step (fun K hK => ?_)
    go_simp
    refine ⟨_, fun _ _ => rfl, hK _ ?_⟩
    clear hK K
    refine wpHeads_step (fun K hK => ?_)
    go_simp
    refine ⟨_, fun _ _ => rfl, hK _ ?_⟩
    clear hK K
    refine wpHeads_step (fun K hK => ?_)
    go_simp
    refine ⟨_, fun _ _ => rfl, hK _ ?_⟩
    clear hK K
    refine wpHeads_step (fun K hK => ?_)
    go_simp
    refine ⟨_, fun _ _ => rfl, hK _ ?_⟩
    clear hK K
    refine wpHeads_step (fun K hK => ?_)
    go_simp
    refine ⟨.int .u8 (y2 : Int), fun w' hw' => by rw [C2.out w' hw']; rfl, hK _ ?_⟩
    clear hK K
    refine wpHeads_step (fun K hK => ?_)
    go_simp
    refine ⟨_, fun _ _ => rfl, hK _ ?_⟩
    clear hK K
    refine wpHeads_step (fun K hK => ?_)
    go_simp
    refine ⟨_, fun _ _ => rfl, hK _ ?_⟩
    clear hK K
    refine wpHeads_step (fun K hK => ?_)
    go_simp
    refine ⟨_, fun _ _ => rfl, hK _ ?_⟩
    clear hK K
    refine wpHeads_step (fun K hK => ?_)
    go_simp
    refine ⟨_, fun _ _ => rfl, hK _ ?_⟩
    clear hK K
    refine wpHeads_nil ?_
    have hb0 : Below w.heap.size w W3.drew := HB3.out.drew
    have hx0 : W3.drew.heap[w.heap.size]? = _ := HBX3.out
    generalize W3.drew = Y0 at *
    refine held_two 2 16 rfl rfl rfl rfl (by kernel_rfl) (fun K hK => ?_) (fun K hK => ?_)
    · go_simp
      go_at_call 33
      refine (SV8.out _ hb0).mono ?_
      rintro e Y ⟨rfl, rfl⟩
      refine hK _ _ hb0 ?_
      clear hK K
      refine held_two 5 16 rfl rfl rfl rfl (by kernel_rfl) (fun K hK => ?_) (fun K hK => ?_)
      · go_simp
        go_at_call 33
        refine (SV4.out _ hb0).mono ?_
        rintro e Y ⟨rfl, rfl⟩
        refine hK _ _ hb0 ?_
        clear hK K
        refine wpAnyH_take (i := 6) (v := .int .u32 (IntKind.u32.wrap (X4 : Int))) rfl (by kernel_rfl) (by kernel_rfl) (by kernel_rfl) (fun _ _ _ h => h) (Or.inl ⟨by rfl, fun w _ => by rfl⟩) hb0 ?_
        rw [HW4]
        refine held_two 14 16 rfl rfl rfl rfl (by kernel_rfl) (fun K hK => ?_) (fun K hK => ?_)
        · go_simp
          go_at_call 34
          refine (SD.out _ hb0).mono ?_
          rintro e Y2 ⟨⟨sv, rfl, ho2⟩, hbc⟩
          obtain ⟨sa, sn, sc, rfl, -⟩ := own_form ho2
          have hb2 := bt hb0 hbc
          have hx2 := (hbc.block _ (lt_of_some hx0)).trans hx0
          refine hK _ _ hb2 ?_
          clear hK K
          refine wpAnyH_take (i := 15) (v := .agg #[.int .u64 (X8 : Int), .int .u32 (X4 : Int), .bool FL, .slice sa sn sc]) rfl (by kernel_rfl) (by kernel_rfl) (by kernel_rfl) (fun _ _ _ h => h) (Or.inl ⟨by rfl, fun w _ => by go_simp⟩) hb2 ?_
          refine held_one 16 rfl rfl (by kernel_rfl) fun K hK => ?_
          go_simp
          have hbV := hb2.alloc hb2.size (.cells #[.int .u64 0, .int .u32 0, .bool false, .slice none 0 0] 26)
          have hxV : (Y2.alloc (.cells #[.int .u64 0, .int .u32 0, .bool false, .slice none 0 0] 26)).heap[w.heap.size]? = _ := (Below.heap_alloc Y2 _ _ (lt_of_some hx2)).trans hx2
          have hpV := heap_alloc_new Y2 (.cells #[.int .u64 0, .int .u32 0, .bool false, .slice none 0 0] 26)
          have hoV := ho2.alloc (.cells #[.int .u64 0, .int .u32 0, .bool false, .slice none 0 0] 26)
          have hne : w.heap.size ≠ Y2.heap.size := by have := lt_of_some hx2; omega
          have hge : w.heap.size ≤ Y2.heap.size := hb2.size
          refine hK _ _ hbV ?_
          clear hK K
          generalize Y2.alloc (.cells #[.int .u64 0, .int .u32 0, .bool false, .slice none 0 0] 26) = V at *
          generalize Y2.heap.size = p at *
          have HO := Lib.hid (own_set4 (k := .int .u64 (X8 : Int)) (l := .int .u32 (X4 : Int)) (m := .bool FL) (n := .slice sa sn sc) hoV hpV)
          have HP := Lib.hid (set4 (k := .int .u64 (X8 : Int)) (l := .int .u32 (X4 : Int)) (m := .bool FL) (n := .slice sa sn sc) hpV)
          have HXB := Lib.hid ((set4_other (k := .int .u64 (X8 : Int)) (l := .int .u32 (X4 : Int)) (m := .bool FL) (n := .slice sa sn sc) hne).trans hxV)
          have HBV := Lib.hid (below4 (k := .int .u64 (X8 : Int)) (l := .int .u32 (X4 : Int)) (m := .bool FL) (n := .slice sa sn sc) hbV hge)
          obtain ⟨t0, t1, t2, t3⟩ := bx_cell hpV
          have z0 := frozen_of_row V p 0 _ _ hpV
          have z1 := frozen_of_row V p 1 _ _ hpV
          have z2 := frozen_of_row V p 2 _ _ hpV
          have z3 := frozen_of_row V p 3 _ _ hpV
          refine held_one 17 rfl rfl (by kernel_rfl) fun K hK => ?_
          go_simp
          refine hK _ _ HBV.out ?_
          clear hK K t0 t1 t2 t3 z0 z1 z2 z3 hpV hxV hoV hbV
          generalize (((V.setCell ⟨p, 0, none⟩ (.int .u64 (X8 : Int))).setCell ⟨p, 1, none⟩ (.int .u32 (X4 : Int))).setCell ⟨p, 2, none⟩ (.bool FL)).setCell ⟨p, 3, none⟩ (.slice sa sn sc) = V2 at *
          refine wpAnyH_done (by kernel_rfl) ?_ _
          unfold onlyN
          dsimp only
          obtain ⟨u0, u1, u2, u3⟩ := bx_cell HP.out
          obtain ⟨t0, t1, t2, t3⟩ := bx_cell HXB.out
          have z0 := frozen_of_row V2 w.heap.size 0 _ _ HXB.out
          have z1 := frozen_of_row V2 w.heap.size 1 _ _ HXB.out
          have z2 := frozen_of_row V2 w.heap.size 2 _ _ HXB.out
          have z3 := frozen_of_row V2 w.heap.size 3 _ _ HXB.out
          go_wp2_with fail
          refine pdec_end (g := w.heap.size) rfl (set4 HXB.out) ?_
          refine ⟨⟨_, by rw [HDX.out.2, HE.out]; rfl, ?_⟩, below4 HBV.out (Nat.le_refl _)⟩
          rw [HDX.out.1]
          exact ⟨_, rfl, HX48.out.2, HX48.out.1, (own_set4 HO.out HXB.out).sl⟩
        · go_simp
          have hb1 := hb0.alloc hb0.size (.cells #[.int .u64 0, .int .u32 0, .bool false, .slice none 0 0] 26)
          have hx1 : (Y0.alloc (.cells #[.int .u64 0, .int .u32 0, .bool false, .slice none 0 0] 26)).heap[w.heap.size]? = _ := (Below.heap_alloc Y0 _ _ (lt_of_some hx0)).trans hx0
          have hp1 := heap_alloc_new Y0 (.cells #[.int .u64 0, .int .u32 0, .bool false, .slice none 0 0] 26)
          have hne : w.heap.size ≠ Y0.heap.size := by have := lt_of_some hx0; omega
          have hge : w.heap.size ≤ Y0.heap.size := hb0.size
          refine hK _ _ hb1 ?_
          clear hK K
          generalize Y0.alloc (.cells #[.int .u64 0, .int .u32 0, .bool false, .slice none 0 0] 26) = Y1 at *
          generalize Y0.heap.size = p at *
          refine held_one 14 rfl rfl (by kernel_rfl) fun K hK => ?_
          go_simp
          go_at_call 34
          refine (SD.out _ hb1).mono ?_
          rintro e V ⟨⟨sv, rfl, hoV⟩, hbc⟩
          obtain ⟨sa, sn, sc, rfl, -⟩ := own_form hoV
          have hbV := bt hb1 hbc
          have hxV := (hbc.block _ (lt_of_some hx1)).trans hx1
          have hpV := (hbc.block _ (lt_of_some hp1)).trans hp1
          refine hK _ _ hbV ?_
          clear hK K
          refine wpAnyH_take (i := 15) (v := .agg #[.int .u64 (X8 : Int), .int .u32 (X4 : Int), .bool FL, .slice sa sn sc]) rfl (by kernel_rfl) (by kernel_rfl) (by kernel_rfl) (fun _ _ _ h => h) (Or.inl ⟨by rfl, fun w _ => by go_simp⟩) hbV ?_
          have HO := Lib.hid (own_set4 (k := .int .u64 (X8 : Int)) (l := .int .u32 (X4 : Int)) (m := .bool FL) (n := .slice sa sn sc) hoV hpV)
          have HP := Lib.hid (set4 (k := .int .u64 (X8 : Int)) (l := .int .u32 (X4 : Int)) (m := .bool FL) (n := .slice sa sn sc) hpV)
          have HXB := Lib.hid ((set4_other (k := .int .u64 (X8 : Int)) (l := .int .u32 (X4 : Int)) (m := .bool FL) (n := .slice sa sn sc) hne).trans hxV)
          have HBV := Lib.hid (below4 (k := .int .u64 (X8 : Int)) (l := .int .u32 (X4 : Int)) (m := .bool FL) (n := .slice sa sn sc) hbV hge)
          obtain ⟨t0, t1, t2, t3⟩ := bx_cell hpV
          have z0 := frozen_of_row V p 0 _ _ hpV
          have z1 := frozen_of_row V p 1 _ _ hpV
          have z2 := frozen_of_row V p 2 _ _ hpV
          have z3 := frozen_of_row V p 3 _ _ hpV
          refine held_one 17 rfl rfl (by kernel_rfl) fun K hK => ?_
          go_simp
          refine hK _ _ HBV.out ?_
          clear hK K t0 t1 t2 t3 z0 z1 z2 z3 hpV hxV hoV hbV
          generalize (((V.setCell ⟨p, 0, none⟩ (.int .u64 (X8 : Int))).setCell ⟨p, 1, none⟩ (.int .u32 (X4 : Int))).setCell ⟨p, 2, none⟩ (.bool FL)).setCell ⟨p, 3, none⟩ (.slice sa sn sc) = V2 at *
          refine wpAnyH_done (by kernel_rfl) ?_ _
          unfold onlyN
          dsimp only
          obtain ⟨u0, u1, u2, u3⟩ := bx_cell HP.out
          obtain ⟨t0, t1, t2, t3⟩ := bx_cell HXB.out
          have z0 := frozen_of_row V2 w.heap.size 0 _ _ HXB.out
          have z1 := frozen_of_row V2 w.heap.size 1 _ _ HXB.out
          have z2 := frozen_of_row V2 w.heap.size 2 _ _ HXB.out
          have z3 := frozen_of_row V2 w.heap.size 3 _ _ HXB.out
          go_wp2_with fail
          refine pdec_end (g := w.heap.size) rfl (set4 HXB.out) ?_
          refine ⟨⟨_, by rw [HDX.out.2, HE.out]; rfl, ?_⟩, below4 HBV.out (Nat.le_refl _)⟩
          rw [HDX.out.1]
          exact ⟨_, rfl, HX48.out.2, HX48.out.1, (own_set4 HO.out HXB.out).sl⟩
      · go_simp
        have hb1 := hb0.alloc hb0.size (.cells #[.int .u64 0, .int .u32 0, .bool false, .slice none 0 0] 26)
        have hx1 : (Y0.alloc (.cells #[.int .u64 0, .int .u32 0, .bool false, .slice none 0 0] 26)).heap[w.heap.size]? = _ := (Below.heap_alloc Y0 _ _ (lt_of_some hx0)).trans hx0
        have hp1 := heap_alloc_new Y0 (.cells #[.int .u64 0, .int .u32 0, .bool false, .slice none 0 0] 26)
        have hne : w.heap.size ≠ Y0.heap.size := by have := lt_of_some hx0; omega
        have hge : w.heap.size ≤ Y0.heap.size := hb0.size
        refine hK _ _ hb1 ?_
        clear hK K
        generalize Y0.alloc (.cells #[.int .u64 0, .int .u32 0, .bool false, .slice none 0 0] 26) = Y1 at *
        generalize Y0.heap.size = p at *
        refine held_one 5 rfl rfl (by kernel_rfl) fun K hK => ?_
        go_simp
        go_at_call 33
        refine (SV4.out _ hb1).mono ?_
        rintro e Y ⟨rfl, rfl⟩
        refine hK _ _ hb1 ?_
        clear hK K
        refine wpAnyH_take (i := 6) (v := .int .u32 (IntKind.u32.wrap (X4 : Int))) rfl (by kernel_rfl) (by kernel_rfl) (by kernel_rfl) (fun _ _ _ h => h) (Or.inl ⟨by rfl, fun w _ => by rfl⟩) hb1 ?_
        rw [HW4]
        refine held_one 14 rfl rfl (by kernel_rfl) fun K hK => ?_
        go_simp
        go_at_call 34
        refine (SD.out _ hb1).mono ?_
        rintro e V ⟨⟨sv, rfl, hoV⟩, hbc⟩
        obtain ⟨sa, sn, sc, rfl, -⟩ := own_form hoV
        have hbV := bt hb1 hbc
        have hxV := (hbc.block _ (lt_of_some hx1)).trans hx1
        have hpV := (hbc.block _ (lt_of_some hp1)).trans hp1
        refine hK _ _ hbV ?_
        clear hK K
        refine wpAnyH_take (i := 15) (v := .agg #[.int .u64 (X8 : Int), .int .u32 (X4 : Int), .bool FL, .slice sa sn sc]) rfl (by kernel_rfl) (by kernel_rfl) (by kernel_rfl) (fun _ _ _ h => h) (Or.inl ⟨by rfl, fun w _ => by go_simp⟩) hbV ?_
        have HO := Lib.hid (own_set4 (k := .int .u64 (X8 : Int)) (l := .int .u32 (X4 : Int)) (m := .bool FL) (n := .slice sa sn sc) hoV hpV)
        have HP := Lib.hid (set4 (k := .int .u64 (X8 : Int)) (l := .int .u32 (X4 : Int)) (m := .bool FL) (n := .slice sa sn sc) hpV)
        have HXB := Lib.hid ((set4_other (k := .int .u64 (X8 : Int)) (l := .int .u32 (X4 : Int)) (m := .bool FL) (n := .slice sa sn sc) hne).trans hxV)
        have HBV := Lib.hid (below4 (k := .int .u64 (X8 : Int)) (l := .int .u32 (X4 : Int)) (m := .bool FL) (n := .slice sa sn sc) hbV hge)
        obtain ⟨t0, t1, t2, t3⟩ := bx_cell hpV
        have z0 := frozen_of_row V p 0 _ _ hpV
        have z1 := frozen_of_row V p 1 _ _ hpV
        have z2 := frozen_of_row V p 2 _ _ hpV
        have z3 := frozen_of_row V p 3 _ _ hpV
        refine held_one 17 rfl rfl (by kernel_rfl) fun K hK => ?_
        go_simp
        refine hK _ _ HBV.out ?_
        clear hK K t0 t1 t2 t3 z0 z1 z2 z3 hpV hxV hoV hbV
        generalize (((V.setCell ⟨p, 0, none⟩ (.int .u64 (X8 : Int))).setCell ⟨p, 1, none⟩ (.int .u32 (X4 : Int))).setCell ⟨p, 2, none⟩ (.bool FL)).setCell ⟨p, 3, none⟩ (.slice sa sn sc) = V2 at *
        refine wpAnyH_done (by kernel_rfl) ?_ _
        unfold onlyN
        dsimp only
        obtain ⟨u0, u1, u2, u3⟩ := bx_cell HP.out
        obtain ⟨t0, t1, t2, t3⟩ := bx_cell HXB.out
        have z0 := frozen_of_row V2 w.heap.size 0 _ _ HXB.out
        have z1 := frozen_of_row V2 w.heap.size 1 _ _ HXB.out
        have z2 := frozen_of_row V2 w.heap.size 2 _ _ HXB.out
        have z3 := frozen_of_row V2 w.heap.size 3 _ _ HXB.out
        go_wp2_with fail
        refine pdec_end (g := w.heap.size) rfl (set4 HXB.out) ?_
        refine ⟨⟨_, by rw [HDX.out.2, HE.out]; rfl, ?_⟩, below4 HBV.out (Nat.le_refl _)⟩
        rw [HDX.out.1]
        exact ⟨_, rfl, HX48.out.2, HX48.out.1, (own_set4 HO.out HXB.out).sl⟩
    · go_simp
      have hb1 := hb0.alloc hb0.size (.cells #[.int .u64 0, .int .u32 0, .bool false, .slice none 0 0] 26)
      have hx1 : (Y0.alloc (.cells #[.int .u64 0, .int .u32 0, .bool false, .slice none 0 0] 26)).heap[w.heap.size]? = _ := (Below.heap_alloc Y0 _ _ (lt_of_some hx0)).trans hx0
      have hp1 := heap_alloc_new Y0 (.cells #[.int .u64 0, .int .u32 0, .bool false, .slice none 0 0] 26)
      have hne : w.heap.size ≠ Y0.heap.size := by have := lt_of_some hx0; omega
      have hge : w.heap.size ≤ Y0.heap.size := hb0.size
      refine hK _ _ hb1 ?_
      clear hK K
      generalize Y0.alloc (.cells #[.int .u64 0, .int .u32 0, .bool false, .slice none 0 0] 26) = Y1 at *
      generalize Y0.heap.size = p at *
      refine held_one 2 rfl rfl (by kernel_rfl) fun K hK => ?_
      go_simp
      go_at_call 33
      refine (SV8.out _ hb1).mono ?_
      rintro e Y ⟨rfl, rfl⟩
      refine hK _ _ hb1 ?_
      clear hK K
      refine held_one 5 rfl rfl (by kernel_rfl) fun K hK => ?_
      go_simp
      go_at_call 33
      refine (SV4.out _ hb1).mono ?_
      rintro e Y ⟨rfl, rfl⟩
      refine hK _ _ hb1 ?_
      clear hK K
      refine wpAnyH_take (i := 6) (v := .int .u32 (IntKind.u32.wrap (X4 : Int))) rfl (by kernel_rfl) (by kernel_rfl) (by kernel_rfl) (fun _ _ _ h => h) (Or.inl ⟨by rfl, fun w _ => by rfl⟩) hb1 ?_
      rw [HW4]
      refine held_one 14 rfl rfl (by kernel_rfl) fun K hK => ?_
      go_simp
      go_at_call 34
      refine (SD.out _ hb1).mono ?_
      rintro e V ⟨⟨sv, rfl, hoV⟩, hbc⟩
      obtain ⟨sa, sn, sc, rfl, -⟩ := own_form hoV
      have hbV := bt hb1 hbc
      have hxV := (hbc.block _ (lt_of_some hx1)).trans hx1
      have hpV := (hbc.block _ (lt_of_some hp1)).trans hp1
      refine hK _ _ hbV ?_
      clear hK K
      refine wpAnyH_take (i := 15) (v := .agg #[.int .u64 (X8 : Int), .int .u32 (X4 : Int), .bool FL, .slice sa sn sc]) rfl (by kernel_rfl) (by kernel_rfl) (by kernel_rfl) (fun _ _ _ h => h) (Or.inl ⟨by rfl, fun w _ => by go_simp⟩) hbV ?_
      have HO := Lib.hid (own_set4 (k := .int .u64 (X8 : Int)) (l := .int .u32 (X4 : Int)) (m := .bool FL) (n := .slice sa sn sc) hoV hpV)
      have HP := Lib.hid (set4 (k := .int .u64 (X8 : Int)) (l := .int .u32 (X4 : Int)) (m := .bool FL) (n := .slice sa sn sc) hpV)
      have HXB := Lib.hid ((set4_other (k := .int .u64 (X8 : Int)) (l := .int .u32 (X4 : Int)) (m := .bool FL) (n := .slice sa sn sc) hne).trans hxV)
      have HBV := Lib.hid (below4 (k := .int .u64 (X8 : Int)) (l := .int .u32 (X4 : Int)) (m := .bool FL) (n := .slice sa sn sc) hbV hge)
      obtain ⟨t0, t1, t2, t3⟩ := bx_cell hpV
      have z0 := frozen_of_row V p 0 _ _ hpV
      have z1 := frozen_of_row V p 1 _ _ hpV
      have z2 := frozen_of_row V p 2 _ _ hpV
      have z3 := frozen_of_row V p 3 _ _ hpV
      refine held_one 17 rfl rfl (by kernel_rfl) fun K hK => ?_
      go_simp
      refine hK _ _ HBV.out ?_
      clear hK K t0 t1 t2 t3 z0 z1 z2 z3 hpV hxV hoV hbV
      generalize (((V.setCell ⟨p, 0, none⟩ (.int .u64 (X8 : Int))).setCell ⟨p, 1, none⟩ (.int .u32 (X4 : Int))).setCell ⟨p, 2, none⟩ (.bool FL)).setCell ⟨p, 3, none⟩ (.slice sa sn sc) = V2 at *
      refine wpAnyH_done (by kernel_rfl) ?_ _
      unfold onlyN
      dsimp only
      obtain ⟨u0, u1, u2, u3⟩ := bx_cell HP.out
      obtain ⟨t0, t1, t2, t3⟩ := bx_cell HXB.out
      have z0 := frozen_of_row V2 w.heap.size 0 _ _ HXB.out
      have z1 := frozen_of_row V2 w.heap.size 1 _ _ HXB.out
      have z2 := frozen_of_row V2 w.heap.size 2 _ _ HXB.out
      have z3 := frozen_of_row V2 w.heap.size 3 _ _ HXB.out
      go_wp2_with fail
      refine pdec_end (g := w.heap.size) rfl (set4 HXB.out) ?_
      refine ⟨⟨_, by rw [HDX.out.2, HE.out]; rfl, ?_⟩, below4 HBV.out (Nat.le_refl _)⟩
      rw [HDX.out.1]
      exact ⟨_, rfl, HX48.out.2, HX48.out.1, (own_set4 HO.out HXB.out).sl⟩
  have r8 : ¬ c = E4 := hcE
  clear hcE
  go_wp2_with (go_at_call 33; refine (NV.out _ HB3.out).mono ?_; rintro e w1 ⟨rfl, rfl⟩)
  have SV8 := Lib.hid (fun W (hW : Below w.heap.size w W) => pnumber_any _ _ W (sl_below (sl_cut (w := w) (p := 8) (c := 8) HS.out.1 hnE.out.symm HCC.out.2 HCC.out.1 (by rw [hnE.out]; exact HC.out) (by have := HNM.out; have := HMB.out; omega)) hW) (by simp; omega))
  have SV4 := Lib.hid (fun W (hW : Below w.heap.size w W) => pnumber_any _ _ W (sl_below (sl_cut (w := w) (p := 4) (c := 4) HS.out.1 hnE.out.symm HCC.out.2 HCC.out.1 (by rw [hnE.out]; exact HC.out) (by have := HNM.out; have := HMB.out; omega)) hW) (by simp; omega))
  have SD0 := (sl_cut (w := w) (p := 20) (c := m) HS.out.1 hnE.out.symm HCC.out.2 HCC.out.1 (by rw [hnE.out]; exact HC.out) (by have := HNM.out; have := HMB.out; omega))
  rw [show m = E0 - 20 by have := HE0.out; omega] at SD0
  have HDL : Hid (((l.drop 20).take (E0 - 20)).length = E0 - 20) := by show _ = _; rw [List.length_take, List.length_drop]; have := HE0.out; have := HNM.out; have := HMB.out; have := hnE.out; omega
  have SD := Lib.hid (fun W (hW : Below w.heap.size w W) => (by have h := pclone_any ⟨b, o + 20, none⟩ (c - 20) ((l.drop 20).take (E0 - 20)) W (by rw [HDL.out]; exact sl_below SD0 hW) (by rw [HDL.out]; have := HE0.out; have := HM4.out; omega); rwa [HDL.out] at h : Calls Tryd.prog 34 #[.slice (some ⟨b, o + 20, none⟩) (E0 - 20) (c - 20)] W fun e w' => (∃ v, e = .returned v ∧ Own w' W.heap.size v ((l.drop 20).take (E0 - 20))) ∧ Below W.heap.size W w'))
  clear SD0
  have C2 := Lib.hid (fun W (hW : Below w.heap.size w W) => (hW.cell (p := ⟨b, o + 2, none⟩) (block_lt_of_cell (HC.out 2 (by rw [← hnE.out]; have := HNM.out; have := HMB.out; omega)))).trans (HC.out 2 (by rw [← hnE.out]; have := HNM.out; have := HMB.out; omega)))
  have hx4 : valL ((l.drop 4).take 4) < 4294967296 := by
    have h1 := valL_lt _ (mem_seg HS.out.1 4 4)
    have h2 : ((l.drop 4).take 4).length ≤ 4 := by rw [List.length_take]; omega
    exact Nat.lt_of_lt_of_le h1 (by have := Nat.pow_le_pow_right (n := 256) (by decide) h2; simpa using this)
  have hx8 : valL ((l.drop 8).take 8) < 18446744073709551616 := by
    have h1 := valL_lt _ (mem_seg HS.out.1 8 8)
    have h2 : ((l.drop 8).take 8).length ≤ 8 := by rw [List.length_take]; omega
    exact Nat.lt_of_lt_of_le h1 (by have := Nat.pow_le_pow_right (n := 256) (by decide) h2; simpa using this)
  have HDX : Hid (decX l = ⟨valL ((l.drop 8).take 8), valL ((l.drop 4).take 4), decide (l.getD 2 0 = 1), (l.drop 20).take (E0 - 20)⟩ ∧ decN l = M) := by
    refine ⟨?_, ?_⟩
    · unfold decX
      rw [if_pos HE.out, ← HM.out, show m = E0 - 20 by have := HE0.out; omega]
    · unfold decN
      rw [if_pos HE.out, ← HM.out, ← HMM.out]
  have HX48 := Lib.hid (And.intro hx4 hx8)
  have HW4 : IntKind.u32.wrap ((valL ((l.drop 4).take 4) : Nat) : Int) = ((valL ((l.drop 4).take 4) : Nat) : Int) := IntWalk.u32_in _ (by omega)
  have HY : (((l.getD 2 0 : Nat) : Int) == 1) = decide (l.getD 2 0 = 1) := by
    by_cases h : l.getD 2 0 = 1
    · rw [h]; rfl
    · rw [decide_eq_false h]; exact beq_false_of_ne (by omega)
  generalize hfl : decide (l.getD 2 0 = 1) = FL at HDX HY
  clear hfl
  generalize l.getD 2 0 = y2 at C2 HY
  have w1 : ¬ c = 8 := by have := HCC.out.1; have := HNM.out; have := HMB.out; omega
  have w2 : ¬ c = 4 := by have := HCC.out.1; have := HNM.out; have := HMB.out; omega
  have w3' : ¬ c = 20 := by have := HCC.out.1; have := HNM.out; have := HMB.out; omega
  have w5 : (8 : Int) ≤ (c : Int) ∧ (16 : Int) ≤ (c : Int) ∧ (4 : Int) ≤ (c : Int) ∧ (20 : Int) ≤ (E0 : Int) := by have := HE0.out; have := HCC.out.1; have := HNM.out; have := HMB.out; omega
  have w6 : (2 : Int) < (n : Int) ∧ (8 : Int) ≤ (n : Int) ∧ (16 : Int) ≤ (n : Int) := by have := HNM.out; have := HMB.out; omega
  generalize valL ((l.drop 4).take 4) = X4 at *
  generalize valL ((l.drop 8).take 8) = X8 at *
  generalize (l.drop 20).take (E0 - 20) = DD at *
  clear hx4 hx8
  refine wp_onlyN ?_
  refine wp_region_headsS (fun w' => Below w.heap.size w w') [0, 1, 3, 4, 7, 8, 9, 10, 11, 12, 13] 7 (by kernel_rfl) (fun _ _ _ _ _ h => h.elim) (by kernel_rfl) (by rfl) (by rfl) HB3.out.drew ?_
  simp only [pickOps, List.filterMap_cons, List.filterMap_nil, List.getElem?_toArray, List.getElem?_cons_zero, List.getElem?_cons_succ]
  refine wpHeads_step (fun K hK => ?_)
  go_simp
  refine ⟨_, fun _ _ => rfl, hK _ ?_⟩
  clear hK K
  refine wpHeads_step (fun K hK => ?_)
  go_simp
  refine ⟨_, fun _ _ => rfl, hK _ ?_⟩
  clear hK K
  refine wpHeads_step (fun K hK => ?_)
  go_simp
  refine ⟨_, fun _ _ => rfl, hK _ ?_⟩
  clear hK K
  refine wpHeads_step (fun K hK => ?_)
  go_simp
  refine ⟨_, fun _ _ => rfl, hK _ ?_⟩
  clear hK K
  refine wpHeads_step (fun K hK => ?_)
  go_simp
  refine ⟨_, fun _ _ => rfl, hK _ ?_⟩
  clear hK K
  refine wpHeads_step (fun K hK => ?_)
  go_simp
  refine ⟨_, fun _ _ => rfl, hK _ ?_⟩
  clear hK K
  refine wpHeads_step (fun K hK => ?_)
  go_simp
  refine ⟨.int .u8 (y2 : Int), fun w' hw' => by rw [C2.out w' hw']; rfl, hK _ ?_⟩
  clear hK K
  refine wpHeads_step (fun K hK => ?_)
  go_simp
  refine ⟨_, fun _ _ => rfl, hK _ ?_⟩
  clear hK K
  refine wpHeads_step (fun K hK => ?_)
  go_simp
  refine ⟨_, fun _ _ => rfl, hK _ ?_⟩
  clear hK K
  refine wpHeads_step (fun K hK => ?_)
  go_simp
  refine ⟨_, fun _ _ => rfl, hK _ ?_⟩
  clear hK K
  refine wpHeads_step (fun K hK => ?_)
  go_simp
  refine ⟨_, fun _ _ => rfl, hK _ ?_⟩
  clear hK K
  refine wpHeads_nil ?_
  have hb0 : Below w.heap.size w W3.drew := HB3.out.drew
  have hx0 : W3.drew.heap[w.heap.size]? = _ := HBX3.out
  generalize W3.drew = Y0 at *
  refine held_two 2 16 rfl rfl rfl rfl (by kernel_rfl) (fun K hK => ?_) (fun K hK => ?_)
  · go_simp
    go_at_call 33
    refine (SV8.out _ hb0).mono ?_
    rintro e Y ⟨rfl, rfl⟩
    refine hK _ _ hb0 ?_
    clear hK K
    refine held_two 5 16 rfl rfl rfl rfl (by kernel_rfl) (fun K hK => ?_) (fun K hK => ?_)
    · go_simp
      go_at_call 33
      refine (SV4.out _ hb0).mono ?_
      rintro e Y ⟨rfl, rfl⟩
      refine hK _ _ hb0 ?_
      clear hK K
      refine wpAnyH_take (i := 6) (v := .int .u32 (IntKind.u32.wrap (X4 : Int))) rfl (by kernel_rfl) (by kernel_rfl) (by kernel_rfl) (fun _ _ _ h => h) (Or.inl ⟨by rfl, fun w _ => by rfl⟩) hb0 ?_
      rw [HW4]
      refine held_two 14 16 rfl rfl rfl rfl (by kernel_rfl) (fun K hK => ?_) (fun K hK => ?_)
      · go_simp
        go_at_call 34
        refine (SD.out _ hb0).mono ?_
        rintro e Y2 ⟨⟨sv, rfl, ho2⟩, hbc⟩
        obtain ⟨sa, sn, sc, rfl, -⟩ := own_form ho2
        have hb2 := bt hb0 hbc
        have hx2 := (hbc.block _ (lt_of_some hx0)).trans hx0
        refine hK _ _ hb2 ?_
        clear hK K
        refine wpAnyH_take (i := 15) (v := .agg #[.int .u64 (X8 : Int), .int .u32 (X4 : Int), .bool FL, .slice sa sn sc]) rfl (by kernel_rfl) (by kernel_rfl) (by kernel_rfl) (fun _ _ _ h => h) (Or.inl ⟨by rfl, fun w _ => by go_simp⟩) hb2 ?_
        refine held_one 16 rfl rfl (by kernel_rfl) fun K hK => ?_
        go_simp
        have hbV := hb2.alloc hb2.size (.cells #[.int .u64 0, .int .u32 0, .bool false, .slice none 0 0] 26)
        have hxV : (Y2.alloc (.cells #[.int .u64 0, .int .u32 0, .bool false, .slice none 0 0] 26)).heap[w.heap.size]? = _ := (Below.heap_alloc Y2 _ _ (lt_of_some hx2)).trans hx2
        have hpV := heap_alloc_new Y2 (.cells #[.int .u64 0, .int .u32 0, .bool false, .slice none 0 0] 26)
        have hoV := ho2.alloc (.cells #[.int .u64 0, .int .u32 0, .bool false, .slice none 0 0] 26)
        have hne : w.heap.size ≠ Y2.heap.size := by have := lt_of_some hx2; omega
        have hge : w.heap.size ≤ Y2.heap.size := hb2.size
        refine hK _ _ hbV ?_
        clear hK K
        generalize Y2.alloc (.cells #[.int .u64 0, .int .u32 0, .bool false, .slice none 0 0] 26) = V at *
        generalize Y2.heap.size = p at *
        have HO := Lib.hid (own_set4 (k := .int .u64 (X8 : Int)) (l := .int .u32 (X4 : Int)) (m := .bool FL) (n := .slice sa sn sc) hoV hpV)
        have HP := Lib.hid (set4 (k := .int .u64 (X8 : Int)) (l := .int .u32 (X4 : Int)) (m := .bool FL) (n := .slice sa sn sc) hpV)
        have HXB := Lib.hid ((set4_other (k := .int .u64 (X8 : Int)) (l := .int .u32 (X4 : Int)) (m := .bool FL) (n := .slice sa sn sc) hne).trans hxV)
        have HBV := Lib.hid (below4 (k := .int .u64 (X8 : Int)) (l := .int .u32 (X4 : Int)) (m := .bool FL) (n := .slice sa sn sc) hbV hge)
        obtain ⟨t0, t1, t2, t3⟩ := bx_cell hpV
        have z0 := frozen_of_row V p 0 _ _ hpV
        have z1 := frozen_of_row V p 1 _ _ hpV
        have z2 := frozen_of_row V p 2 _ _ hpV
        have z3 := frozen_of_row V p 3 _ _ hpV
        refine held_one 17 rfl rfl (by kernel_rfl) fun K hK => ?_
        go_simp
        refine hK _ _ HBV.out ?_
        clear hK K t0 t1 t2 t3 z0 z1 z2 z3 hpV hxV hoV hbV
        generalize (((V.setCell ⟨p, 0, none⟩ (.int .u64 (X8 : Int))).setCell ⟨p, 1, none⟩ (.int .u32 (X4 : Int))).setCell ⟨p, 2, none⟩ (.bool FL)).setCell ⟨p, 3, none⟩ (.slice sa sn sc) = V2 at *
        refine wpAnyH_done (by kernel_rfl) ?_ _
        unfold onlyN
        dsimp only
        obtain ⟨u0, u1, u2, u3⟩ := bx_cell HP.out
        obtain ⟨t0, t1, t2, t3⟩ := bx_cell HXB.out
        have z0 := frozen_of_row V2 w.heap.size 0 _ _ HXB.out
        have z1 := frozen_of_row V2 w.heap.size 1 _ _ HXB.out
        have z2 := frozen_of_row V2 w.heap.size 2 _ _ HXB.out
        have z3 := frozen_of_row V2 w.heap.size 3 _ _ HXB.out
        go_wp2_with fail
        refine pdec_end (g := w.heap.size) rfl (set4 HXB.out) ?_
        refine ⟨⟨_, by rw [HDX.out.2, HE.out]; rfl, ?_⟩, below4 HBV.out (Nat.le_refl _)⟩
        rw [HDX.out.1]
        exact ⟨_, rfl, HX48.out.2, HX48.out.1, (own_set4 HO.out HXB.out).sl⟩
      · go_simp
        have hb1 := hb0.alloc hb0.size (.cells #[.int .u64 0, .int .u32 0, .bool false, .slice none 0 0] 26)
        have hx1 : (Y0.alloc (.cells #[.int .u64 0, .int .u32 0, .bool false, .slice none 0 0] 26)).heap[w.heap.size]? = _ := (Below.heap_alloc Y0 _ _ (lt_of_some hx0)).trans hx0
        have hp1 := heap_alloc_new Y0 (.cells #[.int .u64 0, .int .u32 0, .bool false, .slice none 0 0] 26)
        have hne : w.heap.size ≠ Y0.heap.size := by have := lt_of_some hx0; omega
        have hge : w.heap.size ≤ Y0.heap.size := hb0.size
        refine hK _ _ hb1 ?_
        clear hK K
        generalize Y0.alloc (.cells #[.int .u64 0, .int .u32 0, .bool false, .slice none 0 0] 26) = Y1 at *
        generalize Y0.heap.size = p at *
        refine held_one 14 rfl rfl (by kernel_rfl) fun K hK => ?_
        go_simp
        go_at_call 34
        refine (SD.out _ hb1).mono ?_
        rintro e V ⟨⟨sv, rfl, hoV⟩, hbc⟩
        obtain ⟨sa, sn, sc, rfl, -⟩ := own_form hoV
        have hbV := bt hb1 hbc
        have hxV := (hbc.block _ (lt_of_some hx1)).trans hx1
        have hpV := (hbc.block _ (lt_of_some hp1)).trans hp1
        refine hK _ _ hbV ?_
        clear hK K
        refine wpAnyH_take (i := 15) (v := .agg #[.int .u64 (X8 : Int), .int .u32 (X4 : Int), .bool FL, .slice sa sn sc]) rfl (by kernel_rfl) (by kernel_rfl) (by kernel_rfl) (fun _ _ _ h => h) (Or.inl ⟨by rfl, fun w _ => by go_simp⟩) hbV ?_
        have HO := Lib.hid (own_set4 (k := .int .u64 (X8 : Int)) (l := .int .u32 (X4 : Int)) (m := .bool FL) (n := .slice sa sn sc) hoV hpV)
        have HP := Lib.hid (set4 (k := .int .u64 (X8 : Int)) (l := .int .u32 (X4 : Int)) (m := .bool FL) (n := .slice sa sn sc) hpV)
        have HXB := Lib.hid ((set4_other (k := .int .u64 (X8 : Int)) (l := .int .u32 (X4 : Int)) (m := .bool FL) (n := .slice sa sn sc) hne).trans hxV)
        have HBV := Lib.hid (below4 (k := .int .u64 (X8 : Int)) (l := .int .u32 (X4 : Int)) (m := .bool FL) (n := .slice sa sn sc) hbV hge)
        obtain ⟨t0, t1, t2, t3⟩ := bx_cell hpV
        have z0 := frozen_of_row V p 0 _ _ hpV
        have z1 := frozen_of_row V p 1 _ _ hpV
        have z2 := frozen_of_row V p 2 _ _ hpV
        have z3 := frozen_of_row V p 3 _ _ hpV
        refine held_one 17 rfl rfl (by kernel_rfl) fun K hK => ?_
        go_simp
        refine hK _ _ HBV.out ?_
        clear hK K t0 t1 t2 t3 z0 z1 z2 z3 hpV hxV hoV hbV
        generalize (((V.setCell ⟨p, 0, none⟩ (.int .u64 (X8 : Int))).setCell ⟨p, 1, none⟩ (.int .u32 (X4 : Int))).setCell ⟨p, 2, none⟩ (.bool FL)).setCell ⟨p, 3, none⟩ (.slice sa sn sc) = V2 at *
        refine wpAnyH_done (by kernel_rfl) ?_ _
        unfold onlyN
        dsimp only
        obtain ⟨u0, u1, u2, u3⟩ := bx_cell HP.out
        obtain ⟨t0, t1, t2, t3⟩ := bx_cell HXB.out
        have z0 := frozen_of_row V2 w.heap.size 0 _ _ HXB.out
        have z1 := frozen_of_row V2 w.heap.size 1 _ _ HXB.out
        have z2 := frozen_of_row V2 w.heap.size 2 _ _ HXB.out
        have z3 := frozen_of_row V2 w.heap.size 3 _ _ HXB.out
        go_wp2_with fail
        refine pdec_end (g := w.heap.size) rfl (set4 HXB.out) ?_
        refine ⟨⟨_, by rw [HDX.out.2, HE.out]; rfl, ?_⟩, below4 HBV.out (Nat.le_refl _)⟩
        rw [HDX.out.1]
        exact ⟨_, rfl, HX48.out.2, HX48.out.1, (own_set4 HO.out HXB.out).sl⟩
    · go_simp
      have hb1 := hb0.alloc hb0.size (.cells #[.int .u64 0, .int .u32 0, .bool false, .slice none 0 0] 26)
      have hx1 : (Y0.alloc (.cells #[.int .u64 0, .int .u32 0, .bool false, .slice none 0 0] 26)).heap[w.heap.size]? = _ := (Below.heap_alloc Y0 _ _ (lt_of_some hx0)).trans hx0
      have hp1 := heap_alloc_new Y0 (.cells #[.int .u64 0, .int .u32 0, .bool false, .slice none 0 0] 26)
      have hne : w.heap.size ≠ Y0.heap.size := by have := lt_of_some hx0; omega
      have hge : w.heap.size ≤ Y0.heap.size := hb0.size
      refine hK _ _ hb1 ?_
      clear hK K
      generalize Y0.alloc (.cells #[.int .u64 0, .int .u32 0, .bool false, .slice none 0 0] 26) = Y1 at *
      generalize Y0.heap.size = p at *
      refine held_one 5 rfl rfl (by kernel_rfl) fun K hK => ?_
      go_simp
      go_at_call 33
      refine (SV4.out _ hb1).mono ?_
      rintro e Y ⟨rfl, rfl⟩
      refine hK _ _ hb1 ?_
      clear hK K
      refine wpAnyH_take (i := 6) (v := .int .u32 (IntKind.u32.wrap (X4 : Int))) rfl (by kernel_rfl) (by kernel_rfl) (by kernel_rfl) (fun _ _ _ h => h) (Or.inl ⟨by rfl, fun w _ => by rfl⟩) hb1 ?_
      rw [HW4]
      refine held_one 14 rfl rfl (by kernel_rfl) fun K hK => ?_
      go_simp
      go_at_call 34
      refine (SD.out _ hb1).mono ?_
      rintro e V ⟨⟨sv, rfl, hoV⟩, hbc⟩
      obtain ⟨sa, sn, sc, rfl, -⟩ := own_form hoV
      have hbV := bt hb1 hbc
      have hxV := (hbc.block _ (lt_of_some hx1)).trans hx1
      have hpV := (hbc.block _ (lt_of_some hp1)).trans hp1
      refine hK _ _ hbV ?_
      clear hK K
      refine wpAnyH_take (i := 15) (v := .agg #[.int .u64 (X8 : Int), .int .u32 (X4 : Int), .bool FL, .slice sa sn sc]) rfl (by kernel_rfl) (by kernel_rfl) (by kernel_rfl) (fun _ _ _ h => h) (Or.inl ⟨by rfl, fun w _ => by go_simp⟩) hbV ?_
      have HO := Lib.hid (own_set4 (k := .int .u64 (X8 : Int)) (l := .int .u32 (X4 : Int)) (m := .bool FL) (n := .slice sa sn sc) hoV hpV)
      have HP := Lib.hid (set4 (k := .int .u64 (X8 : Int)) (l := .int .u32 (X4 : Int)) (m := .bool FL) (n := .slice sa sn sc) hpV)
      have HXB := Lib.hid ((set4_other (k := .int .u64 (X8 : Int)) (l := .int .u32 (X4 : Int)) (m := .bool FL) (n := .slice sa sn sc) hne).trans hxV)
      have HBV := Lib.hid (below4 (k := .int .u64 (X8 : Int)) (l := .int .u32 (X4 : Int)) (m := .bool FL) (n := .slice sa sn sc) hbV hge)
      obtain ⟨t0, t1, t2, t3⟩ := bx_cell hpV
      have z0 := frozen_of_row V p 0 _ _ hpV
      have z1 := frozen_of_row V p 1 _ _ hpV
      have z2 := frozen_of_row V p 2 _ _ hpV
      have z3 := frozen_of_row V p 3 _ _ hpV
      refine held_one 17 rfl rfl (by kernel_rfl) fun K hK => ?_
      go_simp
      refine hK _ _ HBV.out ?_
      clear hK K t0 t1 t2 t3 z0 z1 z2 z3 hpV hxV hoV hbV
      generalize (((V.setCell ⟨p, 0, none⟩ (.int .u64 (X8 : Int))).setCell ⟨p, 1, none⟩ (.int .u32 (X4 : Int))).setCell ⟨p, 2, none⟩ (.bool FL)).setCell ⟨p, 3, none⟩ (.slice sa sn sc) = V2 at *
      refine wpAnyH_done (by kernel_rfl) ?_ _
      unfold onlyN
      dsimp only
      obtain ⟨u0, u1, u2, u3⟩ := bx_cell HP.out
      obtain ⟨t0, t1, t2, t3⟩ := bx_cell HXB.out
      have z0 := frozen_of_row V2 w.heap.size 0 _ _ HXB.out
      have z1 := frozen_of_row V2 w.heap.size 1 _ _ HXB.out
      have z2 := frozen_of_row V2 w.heap.size 2 _ _ HXB.out
      have z3 := frozen_of_row V2 w.heap.size 3 _ _ HXB.out
      go_wp2_with fail
      refine pdec_end (g := w.heap.size) rfl (set4 HXB.out) ?_
      refine ⟨⟨_, by rw [HDX.out.2, HE.out]; rfl, ?_⟩, below4 HBV.out (Nat.le_refl _)⟩
      rw [HDX.out.1]
      exact ⟨_, rfl, HX48.out.2, HX48.out.1, (own_set4 HO.out HXB.out).sl⟩
  · go_simp
    have hb1 := hb0.alloc hb0.size (.cells #[.int .u64 0, .int .u32 0, .bool false, .slice none 0 0] 26)
    have hx1 : (Y0.alloc (.cells #[.int .u64 0, .int .u32 0, .bool false, .slice none 0 0] 26)).heap[w.heap.size]? = _ := (Below.heap_alloc Y0 _ _ (lt_of_some hx0)).trans hx0
    have hp1 := heap_alloc_new Y0 (.cells #[.int .u64 0, .int .u32 0, .bool false, .slice none 0 0] 26)
    have hne : w.heap.size ≠ Y0.heap.size := by have := lt_of_some hx0; omega
    have hge : w.heap.size ≤ Y0.heap.size := hb0.size
    refine hK _ _ hb1 ?_
    clear hK K
    generalize Y0.alloc (.cells #[.int .u64 0, .int .u32 0, .bool false, .slice none 0 0] 26) = Y1 at *
    generalize Y0.heap.size = p at *
    refine held_one 2 rfl rfl (by kernel_rfl) fun K hK => ?_
    go_simp
    go_at_call 33
    refine (SV8.out _ hb1).mono ?_
    rintro e Y ⟨rfl, rfl⟩
    refine hK _ _ hb1 ?_
    clear hK K
    refine held_one 5 rfl rfl (by kernel_rfl) fun K hK => ?_
    go_simp
    go_at_call 33
    refine (SV4.out _ hb1).mono ?_
    rintro e Y ⟨rfl, rfl⟩
    refine hK _ _ hb1 ?_
    clear hK K
    refine wpAnyH_take (i := 6) (v := .int .u32 (IntKind.u32.wrap (X4 : Int))) rfl (by kernel_rfl) (by kernel_rfl) (by kernel_rfl) (fun _ _ _ h => h) (Or.inl ⟨by rfl, fun w _ => by rfl⟩) hb1 ?_
    rw [HW4]
    refine held_one 14 rfl rfl (by kernel_rfl) fun K hK => ?_
    go_simp
    go_at_call 34
    refine (SD.out _ hb1).mono ?_
    rintro e V ⟨⟨sv, rfl, hoV⟩, hbc⟩
    obtain ⟨sa, sn, sc, rfl, -⟩ := own_form hoV
    have hbV := bt hb1 hbc
    have hxV := (hbc.block _ (lt_of_some hx1)).trans hx1
    have hpV := (hbc.block _ (lt_of_some hp1)).trans hp1
    refine hK _ _ hbV ?_
    clear hK K
    refine wpAnyH_take (i := 15) (v := .agg #[.int .u64 (X8 : Int), .int .u32 (X4 : Int), .bool FL, .slice sa sn sc]) rfl (by kernel_rfl) (by kernel_rfl) (by kernel_rfl) (fun _ _ _ h => h) (Or.inl ⟨by rfl, fun w _ => by go_simp⟩) hbV ?_
    have HO := Lib.hid (own_set4 (k := .int .u64 (X8 : Int)) (l := .int .u32 (X4 : Int)) (m := .bool FL) (n := .slice sa sn sc) hoV hpV)
    have HP := Lib.hid (set4 (k := .int .u64 (X8 : Int)) (l := .int .u32 (X4 : Int)) (m := .bool FL) (n := .slice sa sn sc) hpV)
    have HXB := Lib.hid ((set4_other (k := .int .u64 (X8 : Int)) (l := .int .u32 (X4 : Int)) (m := .bool FL) (n := .slice sa sn sc) hne).trans hxV)
    have HBV := Lib.hid (below4 (k := .int .u64 (X8 : Int)) (l := .int .u32 (X4 : Int)) (m := .bool FL) (n := .slice sa sn sc) hbV hge)
    obtain ⟨t0, t1, t2, t3⟩ := bx_cell hpV
    have z0 := frozen_of_row V p 0 _ _ hpV
    have z1 := frozen_of_row V p 1 _ _ hpV
    have z2 := frozen_of_row V p 2 _ _ hpV
    have z3 := frozen_of_row V p 3 _ _ hpV
    refine held_one 17 rfl rfl (by kernel_rfl) fun K hK => ?_
    go_simp
    refine hK _ _ HBV.out ?_
    clear hK K t0 t1 t2 t3 z0 z1 z2 z3 hpV hxV hoV hbV
    generalize (((V.setCell ⟨p, 0, none⟩ (.int .u64 (X8 : Int))).setCell ⟨p, 1, none⟩ (.int .u32 (X4 : Int))).setCell ⟨p, 2, none⟩ (.bool FL)).setCell ⟨p, 3, none⟩ (.slice sa sn sc) = V2 at *
    refine wpAnyH_done (by kernel_rfl) ?_ _
    unfold onlyN
    dsimp only
    obtain ⟨u0, u1, u2, u3⟩ := bx_cell HP.out
    obtain ⟨t0, t1, t2, t3⟩ := bx_cell HXB.out
    have z0 := frozen_of_row V2 w.heap.size 0 _ _ HXB.out
    have z1 := frozen_of_row V2 w.heap.size 1 _ _ HXB.out
    have z2 := frozen_of_row V2 w.heap.size 2 _ _ HXB.out
    have z3 := frozen_of_row V2 w.heap.size 3 _ _ HXB.out
    go_wp2_with fail
    refine pdec_end (g := w.heap.size) rfl (set4 HXB.out) ?_
    refine ⟨⟨_, by rw [HDX.out.2, HE.out]; rfl, ?_⟩, below4 HBV.out (Nat.le_refl _)⟩
    rw [HDX.out.1]
    exact ⟨_, rfl, HX48.out.2, HX48.out.1, (own_set4 HO.out HXB.out).sl⟩
end Go.Proofs.YtljdbaibhpgfnaaDoor.Gf
