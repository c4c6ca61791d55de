/- What is proved here: the contract of the program's Join. Condition: the first four rows have at most 1,000,000 bytes. -/
import Derived.Test.YtjpehjgcpnogiaaPs
namespace Go.Proofs.Ytjpehjgcpnogiaa.Gf
open Go Go.Joins Go.ChangeShapes Go.WideShapes Go.ChangeAt Go.RowKit Go.Deep Go.Proofs.Ytjpehjgcpnogiaa.By Go.Proofs.Ytjpehjgcpnogiaa.Rd Go.Proofs.Ytjpehjgcpnogiaa.Qt

attribute [local go_sem] Oper.semAt_some

/-- Join between two steps: the box of the shards, the bytes, their box. -/
structure JpI (w w' : World) (v : Value) (N : Nat) (b : List Nat) : Prop where
  below : Below w.heap.size w w'
  bs : Boxed w' w.heap.size 31 v
  row : w'.heap[w.heap.size + 1]? = some (.cells (cellsOf b).toArray 5 (0, 0))
  bb : Boxed w' (w.heap.size + 1 + 1) 28 (.slice (some ⟨w.heap.size + 1, 0, none⟩) N N)
theorem JpI.lt {w w' : World} {v : Value} {N : Nat} {b : List Nat} (h : JpI w w' v N b) : w.heap.size + 3 ≤ w'.heap.size := by
  have := h.bb.lt
  omega
theorem JpI.kept {w w' w2 : World} {v : Value} {N : Nat} {b : List Nat} (h : JpI w w' v N b) {row : Option Nat} (hg : w'.grownBy w2 row) (hr : ∀ r, row = some r → w.heap.size + 3 ≤ r) : JpI w w2 v N b := by
  have ne : ∀ k, k < w.heap.size + 3 → some k ≠ row := fun k hk e => by have := hr k e.symm; omega
  have k0 := h.lt
  exact ⟨h.below.grown hg h.below.size fun r e => by have := hr r e; omega, h.bs.kept hg (ne _ (by omega)), (hg.block _ (by omega) (ne _ (by omega))).trans h.row, h.bb.kept hg (ne _ (by omega))⟩
theorem JpI.turn {w w' w2 : World} {v : Value} {N : Nat} {b b2 : List Nat} (h : JpI w w' v N b) (hg : w'.grownBy w2 (some (w.heap.size + 1))) (hrow : w2.heap[w.heap.size + 1]? = some (.cells (cellsOf b2).toArray 5 (0, 0))) : JpI w w2 v N b2 := by
  have ne : ∀ k, k < w'.heap.size → k ≠ w.heap.size + 1 → w2.heap[k]? = w'.heap[k]? := fun k hk e => hg.block k hk (by simpa using e)
  have k0 := h.lt
  exact ⟨h.below.grown hg h.below.size fun r e => by cases e; omega, (ne _ (by omega) (by omega)).trans h.bs, hrow, (ne _ (by omega) (by omega)).trans h.bb⟩
theorem JpI.sl {w w' : World} {v : Value} {N : Nat} {b : List Nat} (h : JpI w w' v N b) (hl : ∀ x ∈ b, x < 256) (hn : b.length = N) (hm : N ≤ maxLen) : Sl w' (.slice (some ⟨w.heap.size + 1, 0, none⟩) N N) b := sl_block hl hn hm rfl h.row
set_option maxRecDepth 100000 in
set_option maxHeartbeats 6400000 in
theorem pjoin_any (v : Value) (L : List (List Nat)) (n : Int) (w : World) (s : Sr w v L) (hn : I64b n) (hm : Small5 L) : Calls Try.prog 19 #[v, .int .i64 n] w fun e w' => (∃ v, e = .returned (.tuple #[v, .int .i64 (joinE L n)]) ∧ Sl w' v (joinR L n)) ∧ Below w.heap.size w w' := by
  have RS := Lib.hid (fun W => psize_any n W hn)
  obtain ⟨a, c, hv, hmc, hcm⟩ := sr_form s
  obtain ⟨m, hm0⟩ : ∃ m, m = L.length := ⟨_, rfl⟩
  rw [← hm0] at hv hmc
  subst hv
  have S := Lib.hid s
  have HM := Lib.hid hm0
  have HS := Lib.hid hm
  have HN := Lib.hid hn
  have HMC := Lib.hid (And.intro hmc hcm)
  have hz := szI_bd n hn
  clear s hm0 hm hmc hcm
  by_cases h4 : m < 4
  · have hb : ¬ JoinOk L n := fun h => by have := h.1; have := HM.out; omega
    unfold joinR joinE
    rw [if_neg hb, if_neg hb]
    have hlt : decide ((m : Int) < 4) = true := decide_eq_true (by omega)
    have hB := Lib.hid ((Below.refl w.heap.size w).alloc (Nat.le_refl _) (.cells #[.slice a m c] 31))
    clear hb hz hn
    go_enter Try.func19, Try.ntmps19
    go_wp2
    go_ret2
    exact ⟨⟨_, rfl, sl_nil _⟩, hB.out⟩
  have hlt : decide ((m : Int) < 4) = false := decide_eq_false (by omega)
  by_cases h0 : n < 0
  · have hb : ¬ JoinOk L n := fun h => by have := h.2.1; omega
    unfold joinR joinE
    rw [if_neg hb, if_neg hb]
    have hlt2 : decide (n < 0) = true := decide_eq_true (by omega)
    have hB := Lib.hid ((Below.refl w.heap.size w).alloc (Nat.le_refl _) (.cells #[.slice a m c] 31))
    clear hb hz hn
    go_enter Try.func19, Try.ntmps19
    go_wp2
    go_ret2
    exact ⟨⟨_, rfl, sl_nil _⟩, hB.out⟩
  have hlt2 : decide (n < 0) = false := decide_eq_false (by omega)
  obtain ⟨R, hR⟩ : ∃ R, R = joinR L n := ⟨_, rfl⟩
  obtain ⟨E, hE⟩ : ∃ E, E = joinE L n := ⟨_, rfl⟩
  rw [← hR, ← hE]
  have HR := Lib.hid hR
  have HE := Lib.hid hE
  clear hR hE
  obtain ⟨b, o, c', hv, -, -, kk⟩ := sr_cells S.out (by have := HM.out; omega)
  obtain ⟨rfl, -, rfl⟩ : a = some ⟨b, o, none⟩ ∧ m = L.length ∧ c = c' := by simpa using hv
  have KK := Lib.hid kk
  have HZ := Lib.hid hz
  have H0 := Lib.hid h0
  have H4 : Hid (4 ≤ m) := by show 4 ≤ m; omega
  have h4c : (4 : Int) ≤ (c : Int) := by have := HMC.out; omega
  clear hv kk hz h0 hn h4
  obtain ⟨z, hzz⟩ : ∃ z, z = szI n := ⟨_, rfl⟩
  have RSZ := RS.out
  rw [← hzz] at RSZ
  have RZ := Lib.hid RSZ
  have HZZ := Lib.hid hzz
  clear hzz RSZ
  refine (callsIn_wide (n := 5)).1 ?_
  refine callsIn_of_wp_marks Try.func19 rfl trivial ?_ rfl
  simp only [Try.ntmps19, List.size_toArray, List.length_cons, List.length_nil, Nat.reduceAdd, Nat.reduceSub, Array.replicate_succ, Array.replicate_zero, List.push_toArray, List.append_toArray, List.nil_append, List.cons_append]
  refine wpIn_wide.2 ?_
  go_wp2_with fail
  have HB0 := Lib.hid ((Below.refl w.heap.size w).alloc (Nat.le_refl _) (.cells #[.slice (some ⟨b, o, none⟩) m c] 31))
  have bS0 := Lib.hid (Boxed.new w 31 (.slice (some ⟨b, o, none⟩) m c))
  have hs0 : (w.alloc (.cells #[.slice (some ⟨b, o, none⟩) m c] 31)).heap.size = w.heap.size + 1 := World.size_alloc _ _
  generalize w.alloc (.cells #[.slice (some ⟨b, o, none⟩) m c] 31) = W0 at *
  have HS0 := Lib.hid hs0
  clear hs0
  go_loopw [21] (fun t wr => ∃ i : Nat, i ≤ 4 ∧ t = .int .i64 (i : Int) ∧ (∀ j, j < i → RowOk L n j) ∧ wr = W0) (fun t _ => 4 - (intOf t).toNat)
  case atStart => exact ⟨0, by omega, rfl, fun j hj => by omega, rfl⟩
  case round =>
    obtain ⟨i, hi, rfl, hok, rfl⟩ := hrel
    by_cases hi4 : i < 4
    · have hl4 : decide ((i : Int) < 4) = true := decide_eq_true (by omega)
      obtain ⟨x, hx, hs⟩ := KK.out i (by have := HM.out; have := H4.out; omega)
      obtain ⟨xa, xc, rfl, -, -⟩ := sl_form hs
      have hx := (HB0.out.cell (p := ⟨b, o + i, none⟩) (block_lt_of_cell hx)).trans hx
      have p0 : (0 : Int) ≤ (i : Int) := by omega
      have p1 : (i : Int) < 4 := by omega
      have HOK := Lib.hid hok
      clear hok hs
      by_cases hr : RowOk L n i
      · have hne : (((L.getD i []).length : Int) != z) = false := by rw [HZZ.out, show ((L.getD i []).length : Int) = szI n from hr]; simp
        have HRO := Lib.hid hr
        clear hr
        generalize (L.getD i []).length = q at *
        go_wp2_with (go_at_call 12; refine (RZ.out _).mono ?_; rintro e w' ⟨rfl, rfl⟩)
        go_roundw
        case rel => exact ⟨i + 1, by omega, by go_num, fun j hj => by by_cases e : j < i; exact HOK.out j e; rw [show j = i by omega]; exact HRO.out, by first | rfl | trivial⟩
        case measure => simp [intOf]; omega
      · have hne : (((L.getD i []).length : Int) != z) = true := by rw [bne_iff_ne, HZZ.out]; exact hr
        have hb : ¬ JoinOk L n := fun h => hr (h.2.2 i hi4)
        obtain rfl : R = [] := by rw [HR.out]; exact if_neg hb
        obtain rfl : E = 1 := by rw [HE.out]; exact if_neg hb
        clear hr hb
        generalize (L.getD i []).length = q at *
        go_wp2_with (go_at_call 12; refine (RZ.out _).mono ?_; rintro e w' ⟨rfl, rfl⟩)
        exact ⟨_, results_tmp2 rfl _ _ _, ⟨_, rfl, sl_nil _⟩, HB0.out⟩
    · obtain rfl : i = 4 := by omega
      rw [show ((4 : Nat) : Int) = 4 from rfl]
      have hl4 : decide ((4 : Int) < 4) = false := by decide
      have hb : JoinOk L n := ⟨by have := HM.out; have := H4.out; omega, by have := H0.out; omega, hok⟩
      obtain rfl : R = joinL L n.toNat := by rw [HR.out]; exact if_pos hb
      obtain rfl : E = 0 := by rw [HE.out]; exact if_pos hb
      obtain ⟨N, hN⟩ := Int.eq_ofNat_of_zero_le (show 0 ≤ n from hb.2.1)
      subst hN
      have hN4 : N ≤ 4000000 := by
        have h1 := HS.out 0 (by omega)
        have h2 := hok 0 (by omega)
        unfold RowOk at h2
        rw [szI_nat] at h2
        unfold szN at h2
        omega
      have HOK := Lib.hid hok
      have HT : Hid (joinL L ((N : Int)).toNat = joinL L N) := by show joinL L ((N : Int)).toNat = joinL L N; rw [Int.toNat_natCast]
      have HLT := Lib.hid fun k => joinL_lt S.out k
      clear hok hb hlt2
      go_wp2_with (first
        | ((with_reducible refine make_step (n := N) ?_ (by omega) ?_); exact rfl)
        | (go_at_call 23; refine (blocks_any _ _ _).mono ?_; rintro e w' ⟨rfl, rfl⟩))
      have hm0 := World.alloc_heap_new wr (.cells (cellsOf (List.replicate N 0)).toArray 5)
      have st : JpI w ((wr.alloc (.cells (cellsOf (List.replicate N 0)).toArray 5)).alloc (.cells #[.slice (some ⟨wr.heap.size, 0, none⟩) N N] 28)) (.slice (some ⟨b, o, none⟩) m c) N (List.replicate N 0) := by
        have hbb := Boxed.new (wr.alloc (.cells (cellsOf (List.replicate N 0)).toArray 5)) 28 (.slice (some ⟨wr.heap.size, 0, none⟩) N N)
        rw [World.size_alloc, HS0.out] at hbb
        rw [HS0.out] at hm0 ⊢
        exact ⟨(HB0.out.alloc (by have := HS0.out; omega) _).alloc (by have := HS0.out; simp; omega) _, (bS0.out.alloc _).alloc _, (Below.heap_alloc _ _ _ (by have := HS0.out; simp; omega)).trans hm0, hbb⟩
      have b1 := (Boxed.new ((wr.alloc (.cells (cellsOf (List.replicate N 0)).toArray 5)).alloc (.cells #[.slice (some ⟨wr.heap.size, 0, none⟩) N N] 28)) 2 (.int .i64 0)).alloc (.cells #[.int .i64 (N : Int)] 2)
      have b2 := Boxed.new (((wr.alloc (.cells (cellsOf (List.replicate N 0)).toArray 5)).alloc (.cells #[.slice (some ⟨wr.heap.size, 0, none⟩) N N] 28)).alloc (.cells #[.int .i64 0] 2)) 2 (.int .i64 (N : Int))
      have st := (st.kept (World.grownBy_alloc _ (.cells #[.int .i64 0] 2) none) (fun r e => by cases e)).kept (World.grownBy_alloc _ (.cells #[.int .i64 (N : Int)] 2) none) (fun r e => by cases e)
      have hsz : ((((wr.alloc (.cells (cellsOf (List.replicate N 0)).toArray 5)).alloc (.cells #[.slice (some ⟨wr.heap.size, 0, none⟩) N N] 28)).alloc (.cells #[.int .i64 0] 2)).alloc (.cells #[.int .i64 (N : Int)] 2)).heap.size = w.heap.size + 5 := by
        simp only [World.size_alloc, HS0.out]
      simp only [World.size_alloc, HS0.out] at b1 b2 st ⊢
      rw [HS0.out] at hsz
      clear hm0
      generalize (((wr.alloc (.cells (cellsOf (List.replicate N 0)).toArray 5)).alloc (.cells #[.slice (some ⟨w.heap.size + 1, 0, none⟩) N N] 28)).alloc (.cells #[.int .i64 0] 2)).alloc (.cells #[.int .i64 (N : Int)] 2) = W1 at *
      have ST := Lib.hid st
      clear st
      refine (wpIn_wide (n := 5)).1 ?_
      refine wpIn_rangeFunc_ownH rfl (by omega) (gf := 24) (lb := #[.pointer (some ⟨w.heap.size + 1 + 1 + 1, 0, none⟩), .pointer (some ⟨w.heap.size + 1 + 1 + 1 + 1, 0, none⟩)]) rfl trivial (enters_of Try.func24 (by kernel_rfl) rfl)
        (blocks_stops (w.heap.size + 1 + 1 + 1) (w.heap.size + 1 + 1 + 1 + 1) 0 N (5 - 1) (by omega) (by omega) W1 (by omega) (by omega) b1.cell b2.cell) (fun _ _ => trivial) (fun _ _ _ _ _ _ _ _ => trivial) (Below.refl _ _) (fun _ => rfl)
        (fun (pre : List (Pz 0 N)) W => JpI w W (.slice (some ⟨b, o, none⟩) m c) N (covJ L N (valsP pre)))
        (fun _ _ _ => False)
        (fun pre X Y row hs hg hr => hs.kept hg (fun r e => by have := (hr r e).1; omega))
        (fun _ _ _ _ _ hs _ _ => hs)
        (by
          have := ST.out
          simpa only [covJ_nil, valsP, List.map_nil] using this)
        (fun (x : Pz 0 N) a' W => ∃ Bx, w.heap.size + 3 ≤ Bx ∧ W.heap[Bx]? = some (.cells #[.int .i64 ((shOf x.1.1 : Nat) : Int), .int .i64 ((atOf x.1.1 : Nat) : Int), .int .i64 (x.1.2 : Int)] 47 (0, 0)) ∧ a' = { tmps := #[.slice (some ⟨b, o, none⟩) m c, .int .i64 (N : Int), .pointer (some ⟨w.heap.size, 0, none⟩), undef, u4, u5, undef, u7, .pointer (some ⟨w.heap.size + 1 + 1, 0, none⟩), .int .i64 (x.1.1 : Int), .pointer (some ⟨Bx, 0, none⟩), .slice (some ⟨b, o, none⟩) m c, .int .i64 (m : Int), .bool false, .bool false, .int .i64 (N : Int), .bool false, .bool false, .slice (some ⟨b, o, none⟩) m c, .slice (some ⟨b, o, none⟩) 4 c, .int .i64 4, .int .i64 4, .bool false, u23, u24, u25, u26, u27, u28, u29, u30, .int .i64 (N : Int), .slice (some ⟨w.heap.size + 1, 0, none⟩) N N, .int .i64 (N : Int), .func (.func 24) #[] #[.pointer (some ⟨w.heap.size + 1 + 1 + 1, 0, none⟩), .pointer (some ⟨w.heap.size + 1 + 1 + 1 + 1, 0, none⟩)], .int .i64 (x.1.1 : Int), .agg #[.int .i64 ((shOf x.1.1 : Nat) : Int), .int .i64 ((atOf x.1.1 : Nat) : Int), .int .i64 (x.1.2 : Int)], undef, undef, undef, undef, undef, undef, undef, undef, undef, undef, undef, undef, undef, undef, undef, undef, undef, undef], defers := [] })
        (fun x a' _ X Y row hs hg hr => by
          obtain ⟨Bx, h1, h2, h3⟩ := hs
          refine ⟨Bx, h1, (hg.block Bx (Array.getElem?_eq_some_iff.1 h2).1 fun e => ?_).trans h2, h3⟩
          obtain ⟨_, ob, ho2, hc⟩ := hr Bx e.symm
          rw [h2] at ho2
          cases ho2
          cases hc)
        ?assign ?body ?done ?stop
      case assign =>
        rintro l' pre x W K hI hK
        unfold encP
        gi_wp2
        exact hK _ _ ((KeepsOthers.alloc _ _).from _) trivial (hI.kept (World.grownBy_alloc W _ none) (fun r e => by cases e)) ⟨W.heap.size, hI.lt, heap_alloc_new _ _, rfl⟩
      case body =>
        rintro l' pre x a' W _ _ hI ⟨Bx, hBx, hX, rfl⟩ hlt
        have x0 := cell_of_row W Bx 0 _ _ _ hX
        have x1 := cell_of_row W Bx 1 _ _ _ hX
        have x2 := cell_of_row W Bx 2 _ _ _ hX
        have hx := x.2
        have hsn : valsP (pre ++ [x]) = valsP pre ++ [x.1] := by simp [valsP]
        have hs4 := sh_lt x.1.1
        have hlen : (L.getD (shOf x.1.1) []).length = szN N := by
          have h2 := HOK.out (shOf x.1.1) hs4
          unfold RowOk at h2
          rw [szI_nat] at h2
          omega
        have hfit : atOf x.1.1 + x.1.2 ≤ szN N := by have := hx.2.2.2; unfold atOf szN; omega
        have hst := covJ_step L (n := N) (valsP pre) (p := x.1) hx.2.1 (by have := hx.2.2.2; omega) (by rw [hlen]; exact hfit)
        rw [← hsn] at hst
        obtain ⟨rv, hrv, hrs⟩ := KK.out (shOf x.1.1) (by have := HM.out; have := H4.out; omega)
        obtain ⟨rb, ro, rc, rfl, hc1, hc2, hcs⟩ := sl_cells hrs (by rw [hlen]; have := hx.2.2.1; omega)
        rw [hlen] at hrv hc1 hcs
        have k1 := (hI.below.cell (p := ⟨b, o + shOf x.1.1, none⟩) (block_lt_of_cell hrv)).trans hrv
        have k2 := hI.bs.cell
        have k3 := hI.bb.cell
        have hcut := sl_cut (w := w) (p := atOf x.1.1) (c := x.1.2) hrs.1 hlen hc2 hc1 hcs hfit
        have HCUT := Lib.hid (sl_below hcut hI.below)
        have HROW := Lib.hid hI.row
        have HLEN := Lib.hid (covJ_length L N (valsP pre))
        have HSTEP := Lib.hid hst
        have HI := Lib.hid hI
        have q0 : 1 ≤ x.1.2 ∧ x.1.1 + x.1.2 ≤ N ∧ x.1.2 ≤ 64 := by have := hx.2; omega
        have HR2 : Hid ((((L.getD (shOf x.1.1) []).drop (atOf x.1.1)).take x.1.2).length = x.1.2) := by show _ = _; rw [List.length_take, List.length_drop, hlen]; omega
        clear hX hx hsn hst hrs hcs hcut hI b1 b2 ST hlen hrv
        generalize ((L.getD (shOf x.1.1) []).drop (atOf x.1.1)).take x.1.2 = R at *
        generalize shOf x.1.1 = sh at *
        generalize atOf x.1.1 = at' at *
        generalize szN N = M at *
        generalize x.1.1 = f at *
        generalize x.1.2 = k at *
        have p0 : (0 : Int) ≤ (sh : Int) := by omega
        have p1 : (sh : Int) < (m : Int) := by have := H4.out; omega
        have p2 : (f : Int) ≤ (N : Int) := by omega
        obtain ⟨e, he⟩ : ∃ e, e = at' + k := ⟨_, rfl⟩
        have p3 : (at' : Int) ≤ (e : Int) ∧ (e : Int) ≤ (rc : Int) := by omega
        have p4 : IntKind.i64.wrap ((at' : Int) + (k : Int)) = (e : Int) := by
          rw [he, Int.natCast_add]
          exact IntWalk.i64_in _ (by unfold maxLen at hc2; omega)
        have p5 : ¬ N = f := by omega
        have p6 : ¬ rc = at' := by omega
        have HE2 : Hid (e - at' = k) := by show _ = _; omega
        clear he
        gi_wp2
        refine wpIn_still_tail 16 (by kernel_rfl) (by kernel_rfl) (by kernel_rfl) (fun ⟨_, _, h0⟩ => h0) ?_
        change wpStill _ _ W.drew (fun a' => wpList _ _ _ _ a' W.drew) _ _
        simp only [List.take_succ_cons, List.take_zero, List.drop_succ_cons, List.drop_zero]
        repeat still_step
        try refine wpStill_nil ?_
        refine copy_blk (dst := some 53) (k := e - at') (R := R) (A := covJ L N (valsP pre)) (off := f) (g := w.heap.size + 1) rfl rfl HROW.out (by rw [HE2.out]; exact sl_below HCUT.out (Below.refl W.heap.size W).drew) (by rw [HE2.out]; exact HR2.out) (by rw [HE2.out]; exact q0.1) (by have := HE2.out; omega) (by rw [HE2.out, HLEN.out]; omega) ?_
        intro z w3 hw3 hg3
        have hnew := ((HI.out.kept (⟨rfl, rfl, rfl, Nat.le_refl _, fun _ _ _ => rfl⟩ : W.grownBy W.drew none) (fun r e => by cases e)).turn (b2 := covJ L N (valsP (pre ++ [x]))) hg3 (by rw [HSTEP.out]; exact hw3))
        have hkeep : KeepsFrom W1.heap.size W w3 := ((KeepsOthers.drew W).trans (KeepsOthers.of_grownBy hg3 (fun j ob ej hj => by
          obtain rfl : w.heap.size + 1 = j := by simpa using ej
          rw [show W.drew.heap[w.heap.size + 1]? = _ from HROW.out] at hj
          cases hj
          rfl))).from _
        have HNEW := Lib.hid (And.intro hkeep hnew)
        clear hnew hkeep hg3 hw3
        go_wp2
        exact ⟨HNEW.out.1, trivial, HNEW.out.2⟩
      case done =>
        rintro D ys W hD hys hI hK
        have k2 := hI.bb.cell
        have HD : Hid (w.heap.size + 3 ≤ D) := by show w.heap.size + 3 ≤ D; omega
        have HII := Lib.hid hI
        have HKK := Lib.hid hK
        have HYS := Lib.hid hys
        clear hI hD hK hys b1 b2
        dsimp only
        go_wp2
        refine ⟨by simp, .inl ⟨_, _, rfl, run_takeDeferred HKK.out, ?_⟩⟩
        have hI2 := HII.out.kept (grownBy_putObj' W D (.deferred none)) (fun r e => by cases e; exact HD.out)
        refine ⟨_, results_tmp2 rfl _ _ _, ⟨_, rfl, ?_⟩, hI2.below⟩
        rw [HYS.out, covJ_all] at hI2
        rw [HT.out]
        exact hI2.sl (HLT.out N) (joinL_length L N) (by unfold maxLen; omega)
      case stop =>
        rintro D c pre W _ _ h _
        exact h.elim
end Go.Proofs.Ytjpehjgcpnogiaa.Gf
