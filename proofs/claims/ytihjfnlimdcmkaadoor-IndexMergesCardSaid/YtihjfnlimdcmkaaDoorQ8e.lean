/- What is proved here: IndexMerges returns true, over what the laws ask of the program. No condition. -/
import Derived.Test.YtihjfnlimdcmkaaDoorQ8d
import Derived.Test.YtihjfnlimdcmkaaDoorU8b
namespace Go.Proofs.YtihjfnlimdcmkaaDoor.Gf
open Go Go.Joins Go.ChangeShapes Go.WideShapes Go.ChangeAt Go.RowKit Go.Deep Go.Sort Go.Proofs.YtihjfnlimdcmkaaDoor.By Go.Proofs.YtihjfnlimdcmkaaDoor.Crc Go.Proofs.YtihjfnlimdcmkaaDoor.Qt

theorem mg_some {M1 M2 : List Itm} {G : List Nat} {k : Nat} {y : Itm} (h : lk M2 k = some y) : fnL (mergeL M1 M2 G) k = fnL M2 k ∧ hasL (mergeL M1 M2 G) k = hasL M2 k := by
  have e : lk (mergeL M1 M2 G) k = some y := by rw [lk_mergeL, h]
  unfold fnL hasL
  rw [e, h]
  exact ⟨rfl, rfl⟩
theorem mg_gone {M1 M2 : List Itm} {G : List Nat} {k : Nat} (h : lk M2 k = none) (hg : k ∈ G) : fnL (mergeL M1 M2 G) k = z0 ∧ hasL (mergeL M1 M2 G) k = false := by
  have e : lk (mergeL M1 M2 G) k = none := by rw [lk_mergeL, h]; exact if_pos hg
  unfold fnL hasL
  rw [e]
  exact ⟨rfl, rfl⟩
theorem mg_old {M1 M2 : List Itm} {G : List Nat} {k : Nat} (h : lk M2 k = none) (hg : ¬ k ∈ G) : fnL (mergeL M1 M2 G) k = fnL M1 k ∧ hasL (mergeL M1 M2 G) k = hasL M1 k := by
  have e : lk (mergeL M1 M2 G) k = lk M1 k := by rw [lk_mergeL, h]; exact if_neg hg
  unfold fnL hasL
  rw [e]
  exact ⟨rfl, rfl⟩
theorem mg_ok {M1 M2 : List Itm} {G : List Nat} (h1 : okT M1) (h2 : okT M2) : okT (mergeL M1 M2 G) :=
  ⟨fun x hx => (mem_mergeL hx).elim (h2.1 x) (h1.1 x), asc_mergeL _ _ _⟩
theorem mg_length (M1 M2 : List Itm) (G : List Nat) : (mergeL M1 M2 G).length ≤ M1.length + M2.length := by
  have h1 := putA_len (gonF (sortL M1) G G.length) (sortL M2) (sortL M2).length (Nat.le_refl _)
  have h2 := gonF_len (sortL M1) G G.length (Nat.le_refl _)
  have h3 := length_sortL M1
  have h4 := length_sortL M2
  have e : mergeL M1 M2 G = putA (gonF (sortL M1) G G.length) (sortL M2) (sortL M2).length := by unfold mergeL putA gonF; rw [List.take_length, List.take_length]
  rw [e]
  omega
theorem owT_grownU {w w' : World} {b b2 : Nat} {y v : Value} {M : List Itm} {l : List Nat} (h : OwT w b y M) (hg : w.grownBy w' v.ownBlock) (ho : OwU w b2 v l) : OwT w' b y M := by
  obtain ⟨h0, h1, h2 | ⟨g, cap, cur, rfl, hgb, hb, h3⟩⟩ := h
  · exact ⟨h0, h1, Or.inl h2⟩
  · refine ⟨h0, h1, Or.inr ⟨g, cap, cur, rfl, hgb, (hg.block g (lt_of_some hb) fun e => ?_).trans hb, h3⟩⟩
    obtain ⟨_, _, ⟨rfl, _⟩ | ⟨q, _, cq, rfl, _, hq, _⟩⟩ := ho
    · cases e
    · obtain rfl : q = g := by simpa [Value.ownBlock] using e.symm
      rw [hb] at hq
      simp at hq
def keyL (M : List Itm) : List Nat := M.map fun x => x.key
theorem keyL_snoc {M : List Itm} {i : Nat} (h : i < M.length) : keyL (M.take (i + 1)) = keyL (M.take i) ++ [(M.getD i z0).key] := by
  unfold keyL
  rw [take_snocT h, List.map_append]
  rfl
theorem mem_takeN {k : Nat} {G : List Nat} {j : Nat} (h : j < G.length) : k ∈ G.take (j + 1) ↔ k ∈ G.take j ∨ G.getD j 0 = k := by
  rw [take_snoc G j h, List.mem_append, List.mem_singleton]
  constructor
  · rintro (h | h)
    · exact Or.inl h
    · exact Or.inr h.symm
  · rintro (h | h)
    · exact Or.inl h
    · exact Or.inr h.symm
set_option maxRecDepth 100000 in
set_option maxHeartbeats 25600000 in
theorem merges8_walk {Ok : World → Prop} (P : PC8 Ok) (va vb : Value) (LA LB : List Itm) (vg : Value) (G : List Nat) (k : Nat) (w : World) (hw : Ok w) (sa : It w va LA) (sb : It w vb LB) (sg : Su w vg G) (hk : k < 18446744073709551616) : Calls Tryd.prog 9 #[va, vb, vg, .int .u64 (k : Int)] w fun e w' => e = .returned (.bool true) ∧ Below w.heap.size w w' := by
  have FN := Lib.hid (fun v M k W (h : Ok W) a b c => P.find v M k W h a b c)
  have MG := Lib.hid (fun vo vf vg O F G W (h : Ok W) a b c d e f => P.merge vo vf vg O F G W h a b c d e f)
  have PV := Lib.hid (fun v M W (h : Ok W) a b => P.valid v M W h a b)
  have ST := Lib.hid (fun (W W' : World) => P.st (w := W) (w' := W'))
  have AW := Lib.hid (awake8_any P.toPC8a)
  clear P
  unfold LI at MG
  unfold FD at FN
  have hma := made_length LA
  have hmb := made_length LB
  have oka := made_ok LA
  have okb := made_ok LB
  have MDA := Lib.hid (fun W v (h : It W v LA) => made_any v LA W h)
  have MDB := Lib.hid (fun W v (h : It W v LB) => made_any v LB W h)
  unfold LO at MDA MDB
  have HKB := Lib.hid hk
  have K0 := Lib.hid hw
  have B0 := Lib.hid (Below.refl w.heap.size w)
  have SA := Lib.hid sa
  have SB := Lib.hid sb
  generalize madeL LA = M1 at *
  generalize madeL LB = M2 at *
  have LBD := Lib.hid (And.intro hma hmb)
  unfold TV at FN
  clear hk hma hmb hw
  obtain ⟨aa, ca, rfl, -, -⟩ := it_form sa
  obtain ⟨ab, cb, rfl, -, -⟩ := it_form sb
  generalize LA.length = na at *
  generalize LB.length = nb at *
  clear sa sb
  by_cases hg : 40 < G.length
  · obtain ⟨bg, og, cg, rfl, hgc, hsu⟩ := su_cut sg hg
    have SG := Lib.hid hsu
    have HNG : Hid (40 = (G.take 40).length) := by show _ = _; rw [List.length_take]; omega
    have HG2 : Hid ((G.take 40).length ≤ 1000) := by show _ ≤ _; rw [List.length_take]; omega
    have hl0 : decide ((40 : Int) < (G.length : Int)) = true := decide_eq_true (by omega)
    have hl1 : (40 : Int) ≤ (cg : Int) := by omega
    have hl2 : ¬ cg = 40 := by omega
    generalize G.take 40 = G2 at *
    generalize G.length = n0 at *
    clear sg hsu hg hgc
    go_enter Tryd.func9, Tryd.ntmps9
    go_wp2_with fail
    refine (MDA.out _ _ SA.out).mono ?_
    rintro e w1 ⟨⟨v1, rfl, ho1⟩, hb2⟩
    have K3 := Lib.hid (ST.out _ _ K0.out hb2)
    have B4 := Lib.hid (bt B0.out hb2)
    have S5 := Lib.hid (it_below SA.out hb2)
    clear SA
    have S6 := Lib.hid (it_below SB.out hb2)
    clear SB
    have U7 := Lib.hid (su_below SG.out hb2)
    clear SG
    obtain ⟨a8, cc9, hv12, -, -⟩ := it_form (owT_it ho1)
    obtain ⟨m10, hm13⟩ : ∃ q, q = (M1).length := ⟨_, rfl⟩
    rw [← hm13] at hv12
    subst hv12
    have S11 := Lib.hid (owT_it ho1)
    clear ho1 hm13
    go_wp2_with fail
    refine (MDB.out _ _ S6.out).mono ?_
    rintro e w14 ⟨⟨v2, rfl, ho2⟩, hb15⟩
    have K16 := Lib.hid (ST.out _ _ K3.out hb15)
    have B17 := Lib.hid (bt B4.out hb15)
    have S18 := Lib.hid (it_below S5.out hb15)
    clear S5
    have S19 := Lib.hid (it_below S6.out hb15)
    clear S6
    have S20 := Lib.hid (it_below S11.out hb15)
    clear S11
    have U21 := Lib.hid (su_below U7.out hb15)
    clear U7
    obtain ⟨a22, cc23, hv26, -, -⟩ := it_form (owT_it ho2)
    obtain ⟨m24, hm27⟩ : ∃ q, q = (M2).length := ⟨_, rfl⟩
    rw [← hm27] at hv26
    subst hv26
    have S25 := Lib.hid (owT_it ho2)
    clear ho2 hm27
    go_wp2_with fail
    refine (MG.out _ _ _ M1 M2 G2 _ K16.out S20.out S25.out U21.out (by have := LBD.out; omega) (by have := LBD.out; omega) HG2.out).mono ?_
    rintro e w28 ⟨⟨v3, rfl, hs3⟩, hb29⟩
    have K30 := Lib.hid (ST.out _ _ K16.out hb29)
    have B31 := Lib.hid (bt B17.out hb29)
    have S32 := Lib.hid (it_below S20.out hb29)
    clear S20
    have S33 := Lib.hid (it_below S25.out hb29)
    clear S25
    have U34 := Lib.hid (su_below U21.out hb29)
    clear U21
    obtain ⟨a35, cc36, hv39, -, -⟩ := it_form (hs3)
    obtain ⟨m37, hm40⟩ : ∃ q, q = (mergeL M1 M2 G2).length := ⟨_, rfl⟩
    rw [← hm40] at hv39
    subst hv39
    have S38 := Lib.hid (hs3)
    clear hs3 hm40
    have F41 := Lib.hid (fun W' (h : Below w28.heap.size w28 W') => ST.out _ _ K30.out h)
    have F42 := Lib.hid (fun W' (h : Below w28.heap.size w28 W') => bt B31.out h)
    have F43 := Lib.hid (fun W' (h : Below w28.heap.size w28 W') => it_below S32.out h)
    have F44 := Lib.hid (fun W' (h : Below w28.heap.size w28 W') => it_below S33.out h)
    have F45 := Lib.hid (fun W' (h : Below w28.heap.size w28 W') => it_below S38.out h)
    have F46 := Lib.hid (fun W' (h : Below w28.heap.size w28 W') => su_below U34.out h)
    have OK1 := Lib.hid (owU_one (w := w28) HKB.out)
    have BK1 := Lib.hid (bel_al w28 (.cells #[.int .u64 (k : Int)] 38))
    have SGK := Lib.hid (su_below U34.out BK1.out)
    have HLK : Hid (([k] : List Nat).length + G2.length ≤ 100000000) := by show _ ≤ _; have := HG2.out; simp; omega
    have BE : Hid (∀ W, Below w28.heap.size w28 W → Below W.heap.size W (W.alloc (.cells #[] 41))) := fun W _ => bel_al W _
    have SO6 : Hid (∀ W, Below w28.heap.size w28 W → It W (Value.slice a8 m10 cc9) M1) := fun W h => it_below S32.out h
    have SF6 : Hid (∀ W, Below w28.heap.size w28 W → It W (Value.slice a22 m24 cc23) M2) := fun W h => it_below S33.out h
    have HL12 : Hid (([] : List Itm).length + M1.length ≤ 100000000 ∧ (([] : List Itm) ++ M1).length + M2.length ≤ 100000000) := ⟨by have := LBD.out; simp; omega, by have := LBD.out; simp; omega⟩
    go_wp2_with (first
      | (at_builtin; refine app_u (dst := some 40) ?_ ?_ OK1.out SGK.out HLK.out (by simp) ?_; exact rfl; exact rfl; intro vk wk hok hgk; have BKK := Lib.hid (below_grownU BK1.out hgk OK1.out (Nat.le_of_lt (by simp)) (Nat.le_refl _)); obtain ⟨ak, ck, hvk, -, -⟩ := owU_form hok; obtain ⟨nk, hnk⟩ : ∃ q, q = ([k] ++ G2).length := ⟨_, rfl⟩; rw [← hnk] at hvk; subst hvk; have HOK := Lib.hid hok; have OE := Lib.hid (owT_empty wk (base := wk.heap.size) (Nat.le_refl _)); clear hok hgk hnk)
      | (at_builtin; refine app_it (dst := some 43) ?_ ?_ OE.out (SO6.out _ (bt BKK.out (bel_al wk _))) HL12.out.1 (by simp) ?_; exact rfl; exact rfl; intro v6 w6 ho6 hg6; have B6 := Lib.hid (below_grownT (bel_al wk (.cells #[] 41)) hg6 OE.out (Nat.le_of_lt (by simp)) (Nat.le_refl _)); have HO6 := Lib.hid ho6; obtain ⟨a6, c6, hv6, -, -⟩ := owT_form ho6; obtain ⟨n6, hn6⟩ : ∃ q, q = (([] : List Itm) ++ M1).length := ⟨_, rfl⟩; rw [← hn6] at hv6; subst hv6; clear ho6 hg6 hn6)
      | (at_builtin; refine app_it (dst := some 45) ?_ ?_ HO6.out (SF6.out _ (bt BKK.out B6.out)) HL12.out.2 (Nat.le_trans (Nat.le_refl _) B6.out.size) ?_; exact rfl; exact rfl; intro v7 w7 ho7 hg7; have B7 := Lib.hid (below_grownT B6.out hg7 HO6.out B6.out.size (Nat.le_refl _)); have HO7 := Lib.hid ho7; obtain ⟨a7, c7, hv7, -, -⟩ := owT_form ho7; obtain ⟨n7, hn7⟩ : ∃ q, q = (([] : List Itm) ++ M1 ++ M2).length := ⟨_, rfl⟩; rw [← hn7] at hv7; subst hv7; have N7 := Lib.hid hn7; clear ho7 hg7 hn7))
    have BL := Lib.hid (bt BKK.out B7.out)
    have HK7 := Lib.hid (owU_below HOK.out B7.out)
    obtain ⟨MM, hMM⟩ : ∃ q, q = ([] : List Itm) ++ M1 ++ M2 := ⟨_, rfl⟩
    rw [← hMM] at N7 HO7
    have HML : Hid (MM.length ≤ 80) := by show _ ≤ _; rw [hMM]; have := LBD.out; simp; omega
    clear hMM HOK B6 HO6 OE B7 BKK SGK OK1 BK1 HLK
    go_loopw [12, 47] (fun ks t wr => ∃ i : Nat, i ≤ n7 ∧ t = .int .i64 (i : Int) ∧ OwU wr w28.heap.size ks ([k] ++ G2 ++ keyL (MM.take i)) ∧ OwT wr wk.heap.size (.slice a7 n7 c7) MM ∧ Below w28.heap.size w28 wr) (fun _ t _ => n7 - (intOf t).toNat)
    case atStart => exact ⟨0, by omega, rfl, by simpa [keyL] using HK7.out, HO7.out, BL.out⟩
    case round =>
      obtain ⟨i, hi, rfl, hks, ho, hB⟩ := hrel
      by_cases hin : i < n7
      · have hl4 : decide ((i : Int) < (n7 : Int)) = true := decide_eq_true (by omega)
        have p0 : (0 : Int) ≤ (i : Int) := by omega
        have p1 : (i : Int) < (n7 : Int) := by omega
        have N7' := N7.out
        have hn7 : n7 ≤ 80 := by have := HML.out; omega
        obtain ⟨b1, o1, c1', hv1, -, -, hk1⟩ := it_cells (owT_it ho) (by omega)
        obtain ⟨rfl, -, -⟩ : a7 = some ⟨b1, o1, none⟩ ∧ n7 = MM.length ∧ c7 = c1' := by simpa using hv1
        obtain ⟨f0, f1, f2, f3⟩ := hk1 i (by omega)
        have hky := keyL_snoc (M := MM) (i := i) (by omega)
        have oky := getT_ok ho.1 i
        generalize MM.getD i z0 = y at *
        have HKY := Lib.hid hky
        have OKY := Lib.hid oky
        have HLL : Hid (([k] ++ G2 ++ keyL (MM.take i)).length + ([y.key] : List Nat).length ≤ 100000000) := by
          show _ ≤ _
          have h1 := HG2.out
          have h2 := HML.out
          simp [keyL]
          omega
        obtain ⟨ai, ci, hvi, -, -⟩ := owU_form hks
        obtain ⟨ni, hni⟩ : ∃ q, q = ([k] ++ G2 ++ keyL (MM.take i)).length := ⟨_, rfl⟩
        rw [← hni] at hvi
        subst hvi
        have HB1 := Lib.hid (bel_al wr (.cells #[.int .u64 (y.key : Int), .int .u32 (y.ck : Int), .int .i64 y.off, .int .i64 y.sz] 41))
        have HB2 := Lib.hid (bt HB1.out (bel_al (wr.alloc (.cells #[.int .u64 (y.key : Int), .int .u32 (y.ck : Int), .int .i64 y.off, .int .i64 y.sz] 41)) (.cells #[.int .u64 (y.key : Int)] 38)))
        have HKS := Lib.hid (owU_below hks HB2.out)
        have HOM := Lib.hid (owT_below ho HB2.out)
        have HBB := Lib.hid (bt hB HB2.out)
        have hh1 := heap_alloc_new (wr.alloc (.cells #[.int .u64 (y.key : Int), .int .u32 (y.ck : Int), .int .i64 y.off, .int .i64 y.sz] 41)) (.cells #[.int .u64 (y.key : Int)] 38)
        rw [show (wr.alloc (.cells #[.int .u64 (y.key : Int), .int .u32 (y.ck : Int), .int .i64 y.off, .int .i64 y.sz] 41)).heap.size = wr.heap.size + 1 by simp] at hh1
        have HS1 := Lib.hid (su_one OKY.out.key hh1)
        clear hh1
        clear hk1 hv1 N7' ho hB hks hky oky hni HB1 HB2
        go_wp2_with (at_builtin; refine app_u (dst := some 55) ?_ ?_ HKS.out HS1.out HLL.out HBB.out.size ?_; exact rfl; exact rfl; intro v8 w8 ho8 hg8; have B8 := Lib.hid (below_grownU HBB.out hg8 HKS.out HBB.out.size (Nat.le_refl _)); have HO8 := Lib.hid ho8; have HM8 := Lib.hid (owT_grownU HOM.out hg8 HKS.out); obtain ⟨a8, c8, hv8, -, -⟩ := owU_form ho8; obtain ⟨n8, hn8⟩ : ∃ q, q = ([k] ++ G2 ++ keyL (MM.take i) ++ [y.key]).length := ⟨_, rfl⟩; rw [← hn8] at hv8; subst hv8; clear ho8 hg8 hn8)
        go_roundw
        case rel => exact ⟨i + 1, by omega, by go_num, by rw [HKY.out, ← List.append_assoc]; exact HO8.out, HM8.out, B8.out⟩
        case measure => simp [intOf]; omega
      · obtain rfl : i = n7 := by omega
        have hl4 : decide ((i : Int) < (i : Int)) = false := decide_eq_false (by omega)
        have hsk := owU_su hks
        obtain ⟨aq, cq, rfl, -, hcm⟩ := owU_form hks
        have K47 := Lib.hid (F41.out wr hB)
        have B48 := Lib.hid (F42.out wr hB)
        have S49 := Lib.hid (F43.out wr hB)
        have S50 := Lib.hid (F44.out wr hB)
        have S51 := Lib.hid (F45.out wr hB)
        have U52 := Lib.hid (F46.out wr hB)
        have R53 := Lib.hid hB
        obtain ⟨KL, hKL⟩ : ∃ q, q = [k] ++ G2 ++ keyL (MM.take i) := ⟨_, rfl⟩
        rw [← hKL] at hsk ⊢
        obtain ⟨nq, hnq⟩ : ∃ q, q = KL.length := ⟨_, rfl⟩
        rw [← hnq] at hsk ⊢
        have hnb : nq ≤ 100000000 := by
          have h1 := HG2.out
          have h2 := HML.out
          rw [hnq, hKL]
          simp [keyL]
          omega
        have NQ := Lib.hid hnq
        have KQ := Lib.hid hsk
        clear hsk hks ho hB hcm hKL hnq
        generalize wr = WQ at *
        have F54 := Lib.hid (fun W' (h : Below WQ.heap.size WQ W') => ST.out _ _ K47.out h)
        have F55 := Lib.hid (fun W' (h : Below WQ.heap.size WQ W') => bt B48.out h)
        have F56 := Lib.hid (fun W' (h : Below WQ.heap.size WQ W') => it_below S49.out h)
        have F57 := Lib.hid (fun W' (h : Below WQ.heap.size WQ W') => it_below S50.out h)
        have F58 := Lib.hid (fun W' (h : Below WQ.heap.size WQ W') => it_below S51.out h)
        have F59 := Lib.hid (fun W' (h : Below WQ.heap.size WQ W') => su_below U52.out h)
        have F60 := Lib.hid (fun W' (h : Below WQ.heap.size WQ W') => su_below KQ.out h)
        have F61 := Lib.hid (fun W' (h : Below WQ.heap.size WQ W') => bt R53.out h)
        go_wp2_with fail
        go_loopw [59] (fun t wr => ∃ i2 : Nat, i2 ≤ nq ∧ t = .int .i64 (i2 : Int) ∧ Below WQ.heap.size WQ wr) (fun t _ => nq - (intOf t).toNat)
        case atStart => exact ⟨0, by omega, rfl, Below.refl _ _⟩
        case round =>
          obtain ⟨i2, hi2, rfl, hB2⟩ := hrel
          by_cases hiq : i2 < nq
          · have hl5 : decide ((i2 : Int) < (nq : Int)) = true := decide_eq_true (by omega)
            have q0 : (0 : Int) ≤ (i2 : Int) := by omega
            have q1 : (i2 : Int) < (nq : Int) := by omega
            have NQ' := NQ.out
            have K62 := Lib.hid (F54.out wr hB2)
            have B63 := Lib.hid (F55.out wr hB2)
            have S64 := Lib.hid (F56.out wr hB2)
            have S65 := Lib.hid (F57.out wr hB2)
            have S66 := Lib.hid (F58.out wr hB2)
            have U67 := Lib.hid (F59.out wr hB2)
            have U68 := Lib.hid (F60.out wr hB2)
            have R69 := Lib.hid (F61.out wr hB2)
            have R70 := Lib.hid hB2
            clear hB2
            obtain ⟨bq, oq, cq', hvq, -, -, hkq⟩ := su_cells U68.out (by omega)
            obtain ⟨rfl, -, -⟩ : aq = some ⟨bq, oq, none⟩ ∧ nq = KL.length ∧ cq = cq' := by simpa using hvq
            have hkc := hkq i2 (by omega)
            have hkb : KL.getD i2 0 < 18446744073709551616 := by
              have := U68.out.1 (KL.getD i2 0) (by simp [List.getD, show i2 < KL.length by omega])
              exact this
            generalize KL.getD i2 0 = kk at *
            have HKK := Lib.hid hkb
            clear hkq hvq NQ' hkb
            cases hm2 : lk M2 kk
            · have hf : fnL M2 kk = z0 := by unfold fnL; rw [hm2]; rfl
              have hh : hasL M2 kk = false := by unfold hasL; rw [hm2]; rfl
              have EG := Lib.hid (fun h => mg_gone (M1 := M1) (G := G2) hm2 h)
              have EO := Lib.hid (fun h => mg_old (M1 := M1) (G := G2) hm2 h)
              have HH := Lib.hid (And.intro hf hh)
              clear hf hh hm2
              go_wp2_with fail
              refine (FN.out _ M2 kk _ K62.out S65.out (by have := LBD.out; omega) HKK.out).mono ?_
              rintro e w71 ⟨rfl, hb72⟩
              have K73 := Lib.hid (ST.out _ _ K62.out hb72)
              have B74 := Lib.hid (bt B63.out hb72)
              have S75 := Lib.hid (it_below S64.out hb72)
              clear S64
              have S76 := Lib.hid (it_below S65.out hb72)
              clear S65
              have S77 := Lib.hid (it_below S66.out hb72)
              clear S66
              have U78 := Lib.hid (su_below U67.out hb72)
              clear U67
              have U79 := Lib.hid (su_below U68.out hb72)
              clear U68
              have R80 := Lib.hid (bt R69.out hb72)
              clear R69
              have R81 := Lib.hid (bt R70.out hb72)
              clear R70
              rw [HH.out.1, HH.out.2]
              clear hkc
              have HGQ := Lib.hid R81.out.size
              have hb82 := bel_al w71 (.cells #[.int .u64 (z0.key : Int), .int .u32 (z0.ck : Int), .int .i64 z0.off, .int .i64 z0.sz] 41)
              have X83 := Lib.hid (heap_alloc_new w71 (.cells #[.int .u64 (z0.key : Int), .int .u32 (z0.ck : Int), .int .i64 z0.off, .int .i64 z0.sz] 41))
              have K84 := Lib.hid (ST.out _ _ K73.out hb82)
              have B85 := Lib.hid (bt B74.out hb82)
              have S86 := Lib.hid (it_below S75.out hb82)
              clear S75
              have S87 := Lib.hid (it_below S76.out hb82)
              clear S76
              have S88 := Lib.hid (it_below S77.out hb82)
              clear S77
              have U89 := Lib.hid (su_below U78.out hb82)
              clear U78
              have U90 := Lib.hid (su_below U79.out hb82)
              clear U79
              have R91 := Lib.hid (bt R80.out hb82)
              clear R80
              have R92 := Lib.hid (bt R81.out hb82)
              clear R81
              go_wp2_with fail
              generalize w71.alloc (.cells #[.int .u64 (z0.key : Int), .int .u32 (z0.ck : Int), .int .i64 z0.off, .int .i64 z0.sz] 41) = W8 at *
              generalize w71.heap.size = g93 at *
              have NG : Hid (40 = G2.length) := HNG.out
              go_loopw [19, 73] (fun lo t wr => ∃ j : Nat, j ≤ 40 ∧ t = .int .i64 (j : Int) ∧ lo = .bool (decide (kk ∈ G2.take j)) ∧ wr = W8) (fun _ t _ => 40 - (intOf t).toNat)
              case atStart => exact ⟨0, by omega, rfl, by simp, rfl⟩
              case round =>
                obtain ⟨j, hj, rfl, rfl, rfl⟩ := hrel
                by_cases hjn : j < 40
                · have hl6 : decide ((j : Int) < (40 : Int)) = true := decide_eq_true (by omega)
                  have r0 : (0 : Int) ≤ (j : Int) := by omega
                  have r1 : (j : Int) < (40 : Int) := by omega
                  have NG' := NG.out
                  obtain ⟨b6, o6, c6', hv6, -, -, hk6⟩ := su_cells U89.out (by omega)
                  obtain ⟨⟨rfl, rfl⟩, -⟩ : (bg = b6 ∧ og = o6) ∧ 40 = G2.length ∧ cg = c6' := by simpa using hv6
                  have hkg := hk6 j (by omega)
                  have hmt := mem_takeN (k := kk) (G := G2) (j := j) (by omega)
                  generalize G2.getD j 0 = gg at *
                  clear hk6 hv6 NG'
                  by_cases hin3 : kk ∈ G2.take j
                  · have HX : Hid (decide (kk ∈ G2.take (j + 1)) = true) := decide_eq_true (hmt.2 (Or.inl hin3))
                    rw [decide_eq_true hin3]
                    clear hmt hin3
                    go_wp2
                    go_roundw
                    case rel => exact ⟨j + 1, by omega, by go_num, by rw [HX.out], by first | rfl | trivial⟩
                    case measure => simp [intOf]; omega
                  · rw [decide_eq_false hin3]
                    by_cases hgg : gg = kk
                    · have HX : Hid (decide (kk ∈ G2.take (j + 1)) = true) := decide_eq_true (hmt.2 (Or.inr hgg))
                      have d1 : ((gg : Int) == (kk : Int)) = true := by rw [beq_iff_eq]; omega
                      have d2 : gg = kk := hgg
                      clear hmt hin3 hgg
                      go_wp2
                      go_roundw
                      case rel => exact ⟨j + 1, by omega, by go_num, by rw [HX.out], by first | rfl | trivial⟩
                      case measure => simp [intOf]; omega
                    · have HX : Hid (decide (kk ∈ G2.take (j + 1)) = false) := decide_eq_false fun h => (hmt.1 h).elim hin3 hgg
                      have d1 : ((gg : Int) == (kk : Int)) = false := beq_false_of_ne (by omega)
                      have d2 : ¬ gg = kk := hgg
                      clear hmt hin3 hgg
                      go_wp2
                      go_roundw
                      case rel => exact ⟨j + 1, by omega, by go_num, by rw [HX.out], by first | rfl | trivial⟩
                      case measure => simp [intOf]; omega
                · obtain rfl : j = 40 := by omega
                  rw [show ((40 : Nat) : Int) = 40 from rfl, List.take_of_length_le (Nat.le_of_eq NG.out.symm)]
                  have hlx : decide ((40 : Int) < 40) = false := by decide
                  by_cases hgk : kk ∈ G2
                  · rw [decide_eq_true hgk]
                    have E := Lib.hid (EG.out hgk)
                    clear EG EO hgk
                    go_wp2_with fail
                    refine (FN.out _ (mergeL M1 M2 G2) kk _ K84.out S88.out (by have := mg_length M1 M2 G2; have := LBD.out; omega) HKK.out).mono ?_
                    rintro e w94 ⟨rfl, hb95⟩
                    have K96 := Lib.hid (ST.out _ _ K84.out hb95)
                    have B97 := Lib.hid (bt B85.out hb95)
                    have S98 := Lib.hid (it_below S86.out hb95)
                    clear S86
                    have S99 := Lib.hid (it_below S87.out hb95)
                    clear S87
                    have S100 := Lib.hid (it_below S88.out hb95)
                    clear S88
                    have U101 := Lib.hid (su_below U89.out hb95)
                    clear U89
                    have U102 := Lib.hid (su_below U90.out hb95)
                    clear U90
                    have R103 := Lib.hid (bt R91.out hb95)
                    clear R91
                    have R104 := Lib.hid (bt R92.out hb95)
                    clear R92
                    have X105 := Lib.hid ((hb95.block _ (lt_of_some X83.out)).trans X83.out)
                    clear X83
                    rw [E.out.1, E.out.2]
                    have hb106 := bel_al w94 (.cells #[.int .u64 (z0.key : Int), .int .u32 (z0.ck : Int), .int .i64 z0.off, .int .i64 z0.sz] 41)
                    have X107 := Lib.hid (heap_alloc_new w94 (.cells #[.int .u64 (z0.key : Int), .int .u32 (z0.ck : Int), .int .i64 z0.off, .int .i64 z0.sz] 41))
                    have K108 := Lib.hid (ST.out _ _ K96.out hb106)
                    have B109 := Lib.hid (bt B97.out hb106)
                    have S110 := Lib.hid (it_below S98.out hb106)
                    clear S98
                    have S111 := Lib.hid (it_below S99.out hb106)
                    clear S99
                    have S112 := Lib.hid (it_below S100.out hb106)
                    clear S100
                    have U113 := Lib.hid (su_below U101.out hb106)
                    clear U101
                    have U114 := Lib.hid (su_below U102.out hb106)
                    clear U102
                    have R115 := Lib.hid (bt R103.out hb106)
                    clear R103
                    have R116 := Lib.hid (bt R104.out hb106)
                    clear R104
                    have X117 := Lib.hid ((hb106.block _ (lt_of_some X105.out)).trans X105.out)
                    clear X105
                    have hq := neqT z0 z0
                    rw [decide_eq_true rfl] at hq
                    unfold TV at hq
                    obtain ⟨⟨c118, c119, c120, c121⟩, z122, z123, z124, z125⟩ := bx4 X117.out
                    obtain ⟨⟨c126, c127, c128, c129⟩, z130, z131, z132, z133⟩ := bx4 X107.out
                    go_wp2
                    go_roundw
                    case rel => exact ⟨i2 + 1, by omega, by go_num, R116.out⟩
                    case measure => simp [intOf]; omega
                  · rw [decide_eq_false hgk]
                    have E := Lib.hid (EO.out hgk)
                    clear EG EO hgk
                    go_wp2_with fail
                    refine (FN.out _ M1 kk _ K84.out S86.out (by have := LBD.out; omega) HKK.out).mono ?_
                    rintro e w94 ⟨rfl, hb95⟩
                    have K96 := Lib.hid (ST.out _ _ K84.out hb95)
                    have B97 := Lib.hid (bt B85.out hb95)
                    have S98 := Lib.hid (it_below S86.out hb95)
                    clear S86
                    have S99 := Lib.hid (it_below S87.out hb95)
                    clear S87
                    have S100 := Lib.hid (it_below S88.out hb95)
                    clear S88
                    have U101 := Lib.hid (su_below U89.out hb95)
                    clear U89
                    have U102 := Lib.hid (su_below U90.out hb95)
                    clear U90
                    have R103 := Lib.hid (bt R91.out hb95)
                    clear R91
                    have R104 := Lib.hid (bt R92.out hb95)
                    clear R92
                    have X105 := Lib.hid ((hb95.block _ (lt_of_some X83.out)).trans X83.out)
                    clear X83
                    obtain ⟨⟨c106, c107, c108, c109⟩, z110, z111, z112, z113⟩ := bx4 X105.out
                    have HB9 := Lib.hid (below4 (k := .int .u64 ((fnL M1 kk).key : Int)) (l := .int .u32 ((fnL M1 kk).ck : Int)) (m := .int .i64 (fnL M1 kk).off) (n := .int .i64 (fnL M1 kk).sz) R104.out HGQ.out)
                    have XY9 := Lib.hid (set4 (k := .int .u64 ((fnL M1 kk).key : Int)) (l := .int .u32 ((fnL M1 kk).ck : Int)) (m := .int .i64 (fnL M1 kk).off) (n := .int .i64 (fnL M1 kk).sz) X105.out)
                    go_wp2_with fail
                    generalize (((w94.setCell ⟨g93, 0, none⟩ (.int .u64 ((fnL M1 kk).key : Int))).setCell ⟨g93, 1, none⟩ (.int .u32 ((fnL M1 kk).ck : Int))).setCell ⟨g93, 2, none⟩ (.int .i64 (fnL M1 kk).off)).setCell ⟨g93, 3, none⟩ (.int .i64 (fnL M1 kk).sz) = WY at *
                    have K114 := Lib.hid (F54.out WY HB9.out)
                    have B115 := Lib.hid (F55.out WY HB9.out)
                    have S116 := Lib.hid (F56.out WY HB9.out)
                    have S117 := Lib.hid (F57.out WY HB9.out)
                    have S118 := Lib.hid (F58.out WY HB9.out)
                    have U119 := Lib.hid (F59.out WY HB9.out)
                    have U120 := Lib.hid (F60.out WY HB9.out)
                    have R121 := Lib.hid (F61.out WY HB9.out)
                    have R122 := Lib.hid HB9.out
                    refine (FN.out _ (mergeL M1 M2 G2) kk _ K114.out S118.out (by have := mg_length M1 M2 G2; have := LBD.out; omega) HKK.out).mono ?_
                    rintro e w123 ⟨rfl, hb124⟩
                    have K125 := Lib.hid (ST.out _ _ K114.out hb124)
                    have B126 := Lib.hid (bt B115.out hb124)
                    have S127 := Lib.hid (it_below S116.out hb124)
                    clear S116
                    have S128 := Lib.hid (it_below S117.out hb124)
                    clear S117
                    have S129 := Lib.hid (it_below S118.out hb124)
                    clear S118
                    have U130 := Lib.hid (su_below U119.out hb124)
                    clear U119
                    have U131 := Lib.hid (su_below U120.out hb124)
                    clear U120
                    have R132 := Lib.hid (bt R121.out hb124)
                    clear R121
                    have R133 := Lib.hid (bt R122.out hb124)
                    clear R122
                    have X134 := Lib.hid ((hb124.block _ (lt_of_some XY9.out)).trans XY9.out)
                    clear XY9
                    rw [E.out.1, E.out.2]
                    have hb135 := bel_al w123 (.cells #[.int .u64 ((fnL M1 kk).key : Int), .int .u32 ((fnL M1 kk).ck : Int), .int .i64 (fnL M1 kk).off, .int .i64 (fnL M1 kk).sz] 41)
                    have X136 := Lib.hid (heap_alloc_new w123 (.cells #[.int .u64 ((fnL M1 kk).key : Int), .int .u32 ((fnL M1 kk).ck : Int), .int .i64 (fnL M1 kk).off, .int .i64 (fnL M1 kk).sz] 41))
                    have K137 := Lib.hid (ST.out _ _ K125.out hb135)
                    have B138 := Lib.hid (bt B126.out hb135)
                    have S139 := Lib.hid (it_below S127.out hb135)
                    clear S127
                    have S140 := Lib.hid (it_below S128.out hb135)
                    clear S128
                    have S141 := Lib.hid (it_below S129.out hb135)
                    clear S129
                    have U142 := Lib.hid (su_below U130.out hb135)
                    clear U130
                    have U143 := Lib.hid (su_below U131.out hb135)
                    clear U131
                    have R144 := Lib.hid (bt R132.out hb135)
                    clear R132
                    have R145 := Lib.hid (bt R133.out hb135)
                    clear R133
                    have X146 := Lib.hid ((hb135.block _ (lt_of_some X134.out)).trans X134.out)
                    clear X134
                    have hq := neqT (fnL M1 kk) (fnL M1 kk)
                    rw [decide_eq_true rfl] at hq
                    unfold TV at hq
                    have hq3 : ((hasL M1 kk) != (hasL M1 kk)) = false := by simp
                    generalize fnL M1 kk = y0 at *
                    generalize (hasL M1 kk) = h0 at *
                    obtain ⟨⟨c147, c148, c149, c150⟩, z151, z152, z153, z154⟩ := bx4 X146.out
                    obtain ⟨⟨c155, c156, c157, c158⟩, z159, z160, z161, z162⟩ := bx4 X136.out
                    go_wp2
                    go_roundw
                    case rel => exact ⟨i2 + 1, by omega, by go_num, R145.out⟩
                    case measure => simp [intOf]; omega
            · rename_i y9
              have E := Lib.hid (mg_some (M1 := M1) (G := G2) hm2)
              have hh : hasL M2 kk = true := by unfold hasL; rw [hm2]; rfl
              rw [hh] at E
              have HH := Lib.hid hh
              clear hh hm2
              go_wp2_with fail
              refine (FN.out _ M2 kk _ K62.out S65.out (by have := LBD.out; omega) HKK.out).mono ?_
              rintro e w71 ⟨rfl, hb72⟩
              have K73 := Lib.hid (ST.out _ _ K62.out hb72)
              have B74 := Lib.hid (bt B63.out hb72)
              have S75 := Lib.hid (it_below S64.out hb72)
              clear S64
              have S76 := Lib.hid (it_below S65.out hb72)
              clear S65
              have S77 := Lib.hid (it_below S66.out hb72)
              clear S66
              have U78 := Lib.hid (su_below U67.out hb72)
              clear U67
              have U79 := Lib.hid (su_below U68.out hb72)
              clear U68
              have R80 := Lib.hid (bt R69.out hb72)
              clear R69
              have R81 := Lib.hid (bt R70.out hb72)
              clear R70
              rw [HH.out]
              clear hkc
              have hb82 := bel_al w71 (.cells #[.int .u64 ((fnL M2 kk).key : Int), .int .u32 ((fnL M2 kk).ck : Int), .int .i64 (fnL M2 kk).off, .int .i64 (fnL M2 kk).sz] 41)
              have X83 := Lib.hid (heap_alloc_new w71 (.cells #[.int .u64 ((fnL M2 kk).key : Int), .int .u32 ((fnL M2 kk).ck : Int), .int .i64 (fnL M2 kk).off, .int .i64 (fnL M2 kk).sz] 41))
              have K84 := Lib.hid (ST.out _ _ K73.out hb82)
              have B85 := Lib.hid (bt B74.out hb82)
              have S86 := Lib.hid (it_below S75.out hb82)
              clear S75
              have S87 := Lib.hid (it_below S76.out hb82)
              clear S76
              have S88 := Lib.hid (it_below S77.out hb82)
              clear S77
              have U89 := Lib.hid (su_below U78.out hb82)
              clear U78
              have U90 := Lib.hid (su_below U79.out hb82)
              clear U79
              have R91 := Lib.hid (bt R80.out hb82)
              clear R80
              have R92 := Lib.hid (bt R81.out hb82)
              clear R81
              go_wp2_with fail
              generalize w71.alloc (.cells #[.int .u64 ((fnL M2 kk).key : Int), .int .u32 ((fnL M2 kk).ck : Int), .int .i64 (fnL M2 kk).off, .int .i64 (fnL M2 kk).sz] 41) = W8 at *
              generalize w71.heap.size = g93 at *
              refine (FN.out _ (mergeL M1 M2 G2) kk _ K84.out S88.out (by have := mg_length M1 M2 G2; have := LBD.out; omega) HKK.out).mono ?_
              rintro e w94 ⟨rfl, hb95⟩
              have K96 := Lib.hid (ST.out _ _ K84.out hb95)
              have B97 := Lib.hid (bt B85.out hb95)
              have S98 := Lib.hid (it_below S86.out hb95)
              clear S86
              have S99 := Lib.hid (it_below S87.out hb95)
              clear S87
              have S100 := Lib.hid (it_below S88.out hb95)
              clear S88
              have U101 := Lib.hid (su_below U89.out hb95)
              clear U89
              have U102 := Lib.hid (su_below U90.out hb95)
              clear U90
              have R103 := Lib.hid (bt R91.out hb95)
              clear R91
              have R104 := Lib.hid (bt R92.out hb95)
              clear R92
              have X105 := Lib.hid ((hb95.block _ (lt_of_some X83.out)).trans X83.out)
              clear X83
              rw [E.out.1, E.out.2]
              have hb106 := bel_al w94 (.cells #[.int .u64 ((fnL M2 kk).key : Int), .int .u32 ((fnL M2 kk).ck : Int), .int .i64 (fnL M2 kk).off, .int .i64 (fnL M2 kk).sz] 41)
              have X107 := Lib.hid (heap_alloc_new w94 (.cells #[.int .u64 ((fnL M2 kk).key : Int), .int .u32 ((fnL M2 kk).ck : Int), .int .i64 (fnL M2 kk).off, .int .i64 (fnL M2 kk).sz] 41))
              have K108 := Lib.hid (ST.out _ _ K96.out hb106)
              have B109 := Lib.hid (bt B97.out hb106)
              have S110 := Lib.hid (it_below S98.out hb106)
              clear S98
              have S111 := Lib.hid (it_below S99.out hb106)
              clear S99
              have S112 := Lib.hid (it_below S100.out hb106)
              clear S100
              have U113 := Lib.hid (su_below U101.out hb106)
              clear U101
              have U114 := Lib.hid (su_below U102.out hb106)
              clear U102
              have R115 := Lib.hid (bt R103.out hb106)
              clear R103
              have R116 := Lib.hid (bt R104.out hb106)
              clear R104
              have X117 := Lib.hid ((hb106.block _ (lt_of_some X105.out)).trans X105.out)
              clear X105
              have hq := neqT (fnL M2 kk) (fnL M2 kk)
              rw [decide_eq_true rfl] at hq
              unfold TV at hq
              generalize fnL M2 kk = y0 at *
              obtain ⟨⟨c118, c119, c120, c121⟩, z122, z123, z124, z125⟩ := bx4 X117.out
              obtain ⟨⟨c126, c127, c128, c129⟩, z130, z131, z132, z133⟩ := bx4 X107.out
              go_wp2
              go_roundw
              case rel => exact ⟨i2 + 1, by omega, by go_num, R116.out⟩
              case measure => simp [intOf]; omega
          · obtain rfl : i2 = nq := by omega
            have hl5 : decide ((i2 : Int) < (i2 : Int)) = false := decide_eq_false (by omega)
            have K62 := Lib.hid (F54.out wr hB2)
            have B63 := Lib.hid (F55.out wr hB2)
            have S64 := Lib.hid (F56.out wr hB2)
            have S65 := Lib.hid (F57.out wr hB2)
            have S66 := Lib.hid (F58.out wr hB2)
            have U67 := Lib.hid (F59.out wr hB2)
            have U68 := Lib.hid (F60.out wr hB2)
            have R69 := Lib.hid (F61.out wr hB2)
            have R70 := Lib.hid hB2
            clear hB2
            go_wp2_with fail
            refine (PV.out _ (mergeL M1 M2 G2) _ K62.out S66.out (by have := mg_length M1 M2 G2; have := LBD.out; omega)).mono ?_
            rintro e w71 ⟨rfl, hb72⟩
            have K73 := Lib.hid (ST.out _ _ K62.out hb72)
            have B74 := Lib.hid (bt B63.out hb72)
            have S75 := Lib.hid (it_below S64.out hb72)
            clear S64
            have S76 := Lib.hid (it_below S65.out hb72)
            clear S65
            have S77 := Lib.hid (it_below S66.out hb72)
            clear S66
            have U78 := Lib.hid (su_below U67.out hb72)
            clear U67
            have U79 := Lib.hid (su_below U68.out hb72)
            clear U68
            have R80 := Lib.hid (bt R69.out hb72)
            clear R69
            have R81 := Lib.hid (bt R70.out hb72)
            clear R70
            rw [decide_eq_true (mg_ok oka okb)]
            go_wp2_with fail
            refine (AW.out _ K73.out).mono ?_
            rintro e w82 ⟨rfl, hb83⟩
            have K84 := Lib.hid (ST.out _ _ K73.out hb83)
            have B85 := Lib.hid (bt B74.out hb83)
            have S86 := Lib.hid (it_below S75.out hb83)
            clear S75
            have S87 := Lib.hid (it_below S76.out hb83)
            clear S76
            have S88 := Lib.hid (it_below S77.out hb83)
            clear S77
            have U89 := Lib.hid (su_below U78.out hb83)
            clear U78
            have U90 := Lib.hid (su_below U79.out hb83)
            clear U79
            have R91 := Lib.hid (bt R80.out hb83)
            clear R80
            have R92 := Lib.hid (bt R81.out hb83)
            clear R81
            go_wp2
            go_ret
            exact ⟨rfl, B85.out⟩
  · obtain ⟨ag, cg, rfl, hgc, -⟩ := su_form sg
    have SG := Lib.hid sg
    have HG2 : Hid (G.length ≤ 1000) := by show _ ≤ _; omega
    have hl0 : decide ((40 : Int) < (G.length : Int)) = false := decide_eq_false (by omega)
    have hn40 : G.length ≤ 40 := by omega
    obtain ⟨ng, hng⟩ : ∃ q, q = G.length := ⟨_, rfl⟩
    rw [← hng] at SG hl0 hn40 ⊢
    have HNG := Lib.hid hng
    clear sg hg hgc hng
    go_enter Tryd.func9, Tryd.ntmps9
    go_wp2_with fail
    refine (MDA.out _ _ SA.out).mono ?_
    rintro e w1 ⟨⟨v1, rfl, ho1⟩, hb2⟩
    have K3 := Lib.hid (ST.out _ _ K0.out hb2)
    have B4 := Lib.hid (bt B0.out hb2)
    have S5 := Lib.hid (it_below SA.out hb2)
    clear SA
    have S6 := Lib.hid (it_below SB.out hb2)
    clear SB
    have U7 := Lib.hid (su_below SG.out hb2)
    clear SG
    obtain ⟨a8, cc9, hv12, -, -⟩ := it_form (owT_it ho1)
    obtain ⟨m10, hm13⟩ : ∃ q, q = (M1).length := ⟨_, rfl⟩
    rw [← hm13] at hv12
    subst hv12
    have S11 := Lib.hid (owT_it ho1)
    clear ho1 hm13
    go_wp2_with fail
    refine (MDB.out _ _ S6.out).mono ?_
    rintro e w14 ⟨⟨v2, rfl, ho2⟩, hb15⟩
    have K16 := Lib.hid (ST.out _ _ K3.out hb15)
    have B17 := Lib.hid (bt B4.out hb15)
    have S18 := Lib.hid (it_below S5.out hb15)
    clear S5
    have S19 := Lib.hid (it_below S6.out hb15)
    clear S6
    have S20 := Lib.hid (it_below S11.out hb15)
    clear S11
    have U21 := Lib.hid (su_below U7.out hb15)
    clear U7
    obtain ⟨a22, cc23, hv26, -, -⟩ := it_form (owT_it ho2)
    obtain ⟨m24, hm27⟩ : ∃ q, q = (M2).length := ⟨_, rfl⟩
    rw [← hm27] at hv26
    subst hv26
    have S25 := Lib.hid (owT_it ho2)
    clear ho2 hm27
    go_wp2_with fail
    refine (MG.out _ _ _ M1 M2 G _ K16.out S20.out S25.out U21.out (by have := LBD.out; omega) (by have := LBD.out; omega) HG2.out).mono ?_
    rintro e w28 ⟨⟨v3, rfl, hs3⟩, hb29⟩
    have K30 := Lib.hid (ST.out _ _ K16.out hb29)
    have B31 := Lib.hid (bt B17.out hb29)
    have S32 := Lib.hid (it_below S20.out hb29)
    clear S20
    have S33 := Lib.hid (it_below S25.out hb29)
    clear S25
    have U34 := Lib.hid (su_below U21.out hb29)
    clear U21
    obtain ⟨a35, cc36, hv39, -, -⟩ := it_form (hs3)
    obtain ⟨m37, hm40⟩ : ∃ q, q = (mergeL M1 M2 G).length := ⟨_, rfl⟩
    rw [← hm40] at hv39
    subst hv39
    have S38 := Lib.hid (hs3)
    clear hs3 hm40
    have F41 := Lib.hid (fun W' (h : Below w28.heap.size w28 W') => ST.out _ _ K30.out h)
    have F42 := Lib.hid (fun W' (h : Below w28.heap.size w28 W') => bt B31.out h)
    have F43 := Lib.hid (fun W' (h : Below w28.heap.size w28 W') => it_below S32.out h)
    have F44 := Lib.hid (fun W' (h : Below w28.heap.size w28 W') => it_below S33.out h)
    have F45 := Lib.hid (fun W' (h : Below w28.heap.size w28 W') => it_below S38.out h)
    have F46 := Lib.hid (fun W' (h : Below w28.heap.size w28 W') => su_below U34.out h)
    have OK1 := Lib.hid (owU_one (w := w28) HKB.out)
    have BK1 := Lib.hid (bel_al w28 (.cells #[.int .u64 (k : Int)] 38))
    have SGK := Lib.hid (su_below U34.out BK1.out)
    have HLK : Hid (([k] : List Nat).length + G.length ≤ 100000000) := by show _ ≤ _; have := HG2.out; simp; omega
    have BE : Hid (∀ W, Below w28.heap.size w28 W → Below W.heap.size W (W.alloc (.cells #[] 41))) := fun W _ => bel_al W _
    have SO6 : Hid (∀ W, Below w28.heap.size w28 W → It W (Value.slice a8 m10 cc9) M1) := fun W h => it_below S32.out h
    have SF6 : Hid (∀ W, Below w28.heap.size w28 W → It W (Value.slice a22 m24 cc23) M2) := fun W h => it_below S33.out h
    have HL12 : Hid (([] : List Itm).length + M1.length ≤ 100000000 ∧ (([] : List Itm) ++ M1).length + M2.length ≤ 100000000) := ⟨by have := LBD.out; simp; omega, by have := LBD.out; simp; omega⟩
    go_wp2_with (first
      | (at_builtin; refine app_u (dst := some 40) ?_ ?_ OK1.out SGK.out HLK.out (by simp) ?_; exact rfl; exact rfl; intro vk wk hok hgk; have BKK := Lib.hid (below_grownU BK1.out hgk OK1.out (Nat.le_of_lt (by simp)) (Nat.le_refl _)); obtain ⟨ak, ck, hvk, -, -⟩ := owU_form hok; obtain ⟨nk, hnk⟩ : ∃ q, q = ([k] ++ G).length := ⟨_, rfl⟩; rw [← hnk] at hvk; subst hvk; have HOK := Lib.hid hok; have OE := Lib.hid (owT_empty wk (base := wk.heap.size) (Nat.le_refl _)); clear hok hgk hnk)
      | (at_builtin; refine app_it (dst := some 43) ?_ ?_ OE.out (SO6.out _ (bt BKK.out (bel_al wk _))) HL12.out.1 (by simp) ?_; exact rfl; exact rfl; intro v6 w6 ho6 hg6; have B6 := Lib.hid (below_grownT (bel_al wk (.cells #[] 41)) hg6 OE.out (Nat.le_of_lt (by simp)) (Nat.le_refl _)); have HO6 := Lib.hid ho6; obtain ⟨a6, c6, hv6, -, -⟩ := owT_form ho6; obtain ⟨n6, hn6⟩ : ∃ q, q = (([] : List Itm) ++ M1).length := ⟨_, rfl⟩; rw [← hn6] at hv6; subst hv6; clear ho6 hg6 hn6)
      | (at_builtin; refine app_it (dst := some 45) ?_ ?_ HO6.out (SF6.out _ (bt BKK.out B6.out)) HL12.out.2 (Nat.le_trans (Nat.le_refl _) B6.out.size) ?_; exact rfl; exact rfl; intro v7 w7 ho7 hg7; have B7 := Lib.hid (below_grownT B6.out hg7 HO6.out B6.out.size (Nat.le_refl _)); have HO7 := Lib.hid ho7; obtain ⟨a7, c7, hv7, -, -⟩ := owT_form ho7; obtain ⟨n7, hn7⟩ : ∃ q, q = (([] : List Itm) ++ M1 ++ M2).length := ⟨_, rfl⟩; rw [← hn7] at hv7; subst hv7; have N7 := Lib.hid hn7; clear ho7 hg7 hn7))
    have BL := Lib.hid (bt BKK.out B7.out)
    have HK7 := Lib.hid (owU_below HOK.out B7.out)
    obtain ⟨MM, hMM⟩ : ∃ q, q = ([] : List Itm) ++ M1 ++ M2 := ⟨_, rfl⟩
    rw [← hMM] at N7 HO7
    have HML : Hid (MM.length ≤ 80) := by show _ ≤ _; rw [hMM]; have := LBD.out; simp; omega
    clear hMM HOK B6 HO6 OE B7 BKK SGK OK1 BK1 HLK
    go_loopw [12, 47] (fun ks t wr => ∃ i : Nat, i ≤ n7 ∧ t = .int .i64 (i : Int) ∧ OwU wr w28.heap.size ks ([k] ++ G ++ keyL (MM.take i)) ∧ OwT wr wk.heap.size (.slice a7 n7 c7) MM ∧ Below w28.heap.size w28 wr) (fun _ t _ => n7 - (intOf t).toNat)
    case atStart => exact ⟨0, by omega, rfl, by simpa [keyL] using HK7.out, HO7.out, BL.out⟩
    case round =>
      obtain ⟨i, hi, rfl, hks, ho, hB⟩ := hrel
      by_cases hin : i < n7
      · have hl4 : decide ((i : Int) < (n7 : Int)) = true := decide_eq_true (by omega)
        have p0 : (0 : Int) ≤ (i : Int) := by omega
        have p1 : (i : Int) < (n7 : Int) := by omega
        have N7' := N7.out
        have hn7 : n7 ≤ 80 := by have := HML.out; omega
        obtain ⟨b1, o1, c1', hv1, -, -, hk1⟩ := it_cells (owT_it ho) (by omega)
        obtain ⟨rfl, -, -⟩ : a7 = some ⟨b1, o1, none⟩ ∧ n7 = MM.length ∧ c7 = c1' := by simpa using hv1
        obtain ⟨f0, f1, f2, f3⟩ := hk1 i (by omega)
        have hky := keyL_snoc (M := MM) (i := i) (by omega)
        have oky := getT_ok ho.1 i
        generalize MM.getD i z0 = y at *
        have HKY := Lib.hid hky
        have OKY := Lib.hid oky
        have HLL : Hid (([k] ++ G ++ keyL (MM.take i)).length + ([y.key] : List Nat).length ≤ 100000000) := by
          show _ ≤ _
          have h1 := HG2.out
          have h2 := HML.out
          simp [keyL]
          omega
        obtain ⟨ai, ci, hvi, -, -⟩ := owU_form hks
        obtain ⟨ni, hni⟩ : ∃ q, q = ([k] ++ G ++ keyL (MM.take i)).length := ⟨_, rfl⟩
        rw [← hni] at hvi
        subst hvi
        have HB1 := Lib.hid (bel_al wr (.cells #[.int .u64 (y.key : Int), .int .u32 (y.ck : Int), .int .i64 y.off, .int .i64 y.sz] 41))
        have HB2 := Lib.hid (bt HB1.out (bel_al (wr.alloc (.cells #[.int .u64 (y.key : Int), .int .u32 (y.ck : Int), .int .i64 y.off, .int .i64 y.sz] 41)) (.cells #[.int .u64 (y.key : Int)] 38)))
        have HKS := Lib.hid (owU_below hks HB2.out)
        have HOM := Lib.hid (owT_below ho HB2.out)
        have HBB := Lib.hid (bt hB HB2.out)
        have hh1 := heap_alloc_new (wr.alloc (.cells #[.int .u64 (y.key : Int), .int .u32 (y.ck : Int), .int .i64 y.off, .int .i64 y.sz] 41)) (.cells #[.int .u64 (y.key : Int)] 38)
        rw [show (wr.alloc (.cells #[.int .u64 (y.key : Int), .int .u32 (y.ck : Int), .int .i64 y.off, .int .i64 y.sz] 41)).heap.size = wr.heap.size + 1 by simp] at hh1
        have HS1 := Lib.hid (su_one OKY.out.key hh1)
        clear hh1
        clear hk1 hv1 N7' ho hB hks hky oky hni HB1 HB2
        go_wp2_with (at_builtin; refine app_u (dst := some 55) ?_ ?_ HKS.out HS1.out HLL.out HBB.out.size ?_; exact rfl; exact rfl; intro v8 w8 ho8 hg8; have B8 := Lib.hid (below_grownU HBB.out hg8 HKS.out HBB.out.size (Nat.le_refl _)); have HO8 := Lib.hid ho8; have HM8 := Lib.hid (owT_grownU HOM.out hg8 HKS.out); obtain ⟨a8, c8, hv8, -, -⟩ := owU_form ho8; obtain ⟨n8, hn8⟩ : ∃ q, q = ([k] ++ G ++ keyL (MM.take i) ++ [y.key]).length := ⟨_, rfl⟩; rw [← hn8] at hv8; subst hv8; clear ho8 hg8 hn8)
        go_roundw
        case rel => exact ⟨i + 1, by omega, by go_num, by rw [HKY.out, ← List.append_assoc]; exact HO8.out, HM8.out, B8.out⟩
        case measure => simp [intOf]; omega
      · obtain rfl : i = n7 := by omega
        have hl4 : decide ((i : Int) < (i : Int)) = false := decide_eq_false (by omega)
        have hsk := owU_su hks
        obtain ⟨aq, cq, rfl, -, hcm⟩ := owU_form hks
        have K47 := Lib.hid (F41.out wr hB)
        have B48 := Lib.hid (F42.out wr hB)
        have S49 := Lib.hid (F43.out wr hB)
        have S50 := Lib.hid (F44.out wr hB)
        have S51 := Lib.hid (F45.out wr hB)
        have U52 := Lib.hid (F46.out wr hB)
        have R53 := Lib.hid hB
        obtain ⟨KL, hKL⟩ : ∃ q, q = [k] ++ G ++ keyL (MM.take i) := ⟨_, rfl⟩
        rw [← hKL] at hsk ⊢
        obtain ⟨nq, hnq⟩ : ∃ q, q = KL.length := ⟨_, rfl⟩
        rw [← hnq] at hsk ⊢
        have hnb : nq ≤ 100000000 := by
          have h1 := HG2.out
          have h2 := HML.out
          rw [hnq, hKL]
          simp [keyL]
          omega
        have NQ := Lib.hid hnq
        have KQ := Lib.hid hsk
        clear hsk hks ho hB hcm hKL hnq
        generalize wr = WQ at *
        have F54 := Lib.hid (fun W' (h : Below WQ.heap.size WQ W') => ST.out _ _ K47.out h)
        have F55 := Lib.hid (fun W' (h : Below WQ.heap.size WQ W') => bt B48.out h)
        have F56 := Lib.hid (fun W' (h : Below WQ.heap.size WQ W') => it_below S49.out h)
        have F57 := Lib.hid (fun W' (h : Below WQ.heap.size WQ W') => it_below S50.out h)
        have F58 := Lib.hid (fun W' (h : Below WQ.heap.size WQ W') => it_below S51.out h)
        have F59 := Lib.hid (fun W' (h : Below WQ.heap.size WQ W') => su_below U52.out h)
        have F60 := Lib.hid (fun W' (h : Below WQ.heap.size WQ W') => su_below KQ.out h)
        have F61 := Lib.hid (fun W' (h : Below WQ.heap.size WQ W') => bt R53.out h)
        go_wp2_with fail
        go_loopw [59] (fun t wr => ∃ i2 : Nat, i2 ≤ nq ∧ t = .int .i64 (i2 : Int) ∧ Below WQ.heap.size WQ wr) (fun t _ => nq - (intOf t).toNat)
        case atStart => exact ⟨0, by omega, rfl, Below.refl _ _⟩
        case round =>
          obtain ⟨i2, hi2, rfl, hB2⟩ := hrel
          by_cases hiq : i2 < nq
          · have hl5 : decide ((i2 : Int) < (nq : Int)) = true := decide_eq_true (by omega)
            have q0 : (0 : Int) ≤ (i2 : Int) := by omega
            have q1 : (i2 : Int) < (nq : Int) := by omega
            have NQ' := NQ.out
            have K62 := Lib.hid (F54.out wr hB2)
            have B63 := Lib.hid (F55.out wr hB2)
            have S64 := Lib.hid (F56.out wr hB2)
            have S65 := Lib.hid (F57.out wr hB2)
            have S66 := Lib.hid (F58.out wr hB2)
            have U67 := Lib.hid (F59.out wr hB2)
            have U68 := Lib.hid (F60.out wr hB2)
            have R69 := Lib.hid (F61.out wr hB2)
            have R70 := Lib.hid hB2
            clear hB2
            obtain ⟨bq, oq, cq', hvq, -, -, hkq⟩ := su_cells U68.out (by omega)
            obtain ⟨rfl, -, -⟩ : aq = some ⟨bq, oq, none⟩ ∧ nq = KL.length ∧ cq = cq' := by simpa using hvq
            have hkc := hkq i2 (by omega)
            have hkb : KL.getD i2 0 < 18446744073709551616 := by
              have := U68.out.1 (KL.getD i2 0) (by simp [List.getD, show i2 < KL.length by omega])
              exact this
            generalize KL.getD i2 0 = kk at *
            have HKK := Lib.hid hkb
            clear hkq hvq NQ' hkb
            cases hm2 : lk M2 kk
            · have hf : fnL M2 kk = z0 := by unfold fnL; rw [hm2]; rfl
              have hh : hasL M2 kk = false := by unfold hasL; rw [hm2]; rfl
              have EG := Lib.hid (fun h => mg_gone (M1 := M1) (G := G) hm2 h)
              have EO := Lib.hid (fun h => mg_old (M1 := M1) (G := G) hm2 h)
              have HH := Lib.hid (And.intro hf hh)
              clear hf hh hm2
              go_wp2_with fail
              refine (FN.out _ M2 kk _ K62.out S65.out (by have := LBD.out; omega) HKK.out).mono ?_
              rintro e w71 ⟨rfl, hb72⟩
              have K73 := Lib.hid (ST.out _ _ K62.out hb72)
              have B74 := Lib.hid (bt B63.out hb72)
              have S75 := Lib.hid (it_below S64.out hb72)
              clear S64
              have S76 := Lib.hid (it_below S65.out hb72)
              clear S65
              have S77 := Lib.hid (it_below S66.out hb72)
              clear S66
              have U78 := Lib.hid (su_below U67.out hb72)
              clear U67
              have U79 := Lib.hid (su_below U68.out hb72)
              clear U68
              have R80 := Lib.hid (bt R69.out hb72)
              clear R69
              have R81 := Lib.hid (bt R70.out hb72)
              clear R70
              rw [HH.out.1, HH.out.2]
              clear hkc
              have HGQ := Lib.hid R81.out.size
              have hb82 := bel_al w71 (.cells #[.int .u64 (z0.key : Int), .int .u32 (z0.ck : Int), .int .i64 z0.off, .int .i64 z0.sz] 41)
              have X83 := Lib.hid (heap_alloc_new w71 (.cells #[.int .u64 (z0.key : Int), .int .u32 (z0.ck : Int), .int .i64 z0.off, .int .i64 z0.sz] 41))
              have K84 := Lib.hid (ST.out _ _ K73.out hb82)
              have B85 := Lib.hid (bt B74.out hb82)
              have S86 := Lib.hid (it_below S75.out hb82)
              clear S75
              have S87 := Lib.hid (it_below S76.out hb82)
              clear S76
              have S88 := Lib.hid (it_below S77.out hb82)
              clear S77
              have U89 := Lib.hid (su_below U78.out hb82)
              clear U78
              have U90 := Lib.hid (su_below U79.out hb82)
              clear U79
              have R91 := Lib.hid (bt R80.out hb82)
              clear R80
              have R92 := Lib.hid (bt R81.out hb82)
              clear R81
              go_wp2_with fail
              generalize w71.alloc (.cells #[.int .u64 (z0.key : Int), .int .u32 (z0.ck : Int), .int .i64 z0.off, .int .i64 z0.sz] 41) = W8 at *
              generalize w71.heap.size = g93 at *
              have NG : Hid (ng = G.length) := HNG.out
              go_loopw [19, 73] (fun lo t wr => ∃ j : Nat, j ≤ ng ∧ t = .int .i64 (j : Int) ∧ lo = .bool (decide (kk ∈ G.take j)) ∧ wr = W8) (fun _ t _ => ng - (intOf t).toNat)
              case atStart => exact ⟨0, by omega, rfl, by simp, rfl⟩
              case round =>
                obtain ⟨j, hj, rfl, rfl, rfl⟩ := hrel
                by_cases hjn : j < ng
                · have hl6 : decide ((j : Int) < (ng : Int)) = true := decide_eq_true (by omega)
                  have r0 : (0 : Int) ≤ (j : Int) := by omega
                  have r1 : (j : Int) < (ng : Int) := by omega
                  have NG' := NG.out
                  obtain ⟨b6, o6, c6', hv6, -, -, hk6⟩ := su_cells U89.out (by omega)
                  obtain ⟨rfl, -, -⟩ : ag = some ⟨b6, o6, none⟩ ∧ ng = G.length ∧ cg = c6' := by simpa using hv6
                  have hkg := hk6 j (by omega)
                  have hmt := mem_takeN (k := kk) (G := G) (j := j) (by omega)
                  generalize G.getD j 0 = gg at *
                  clear hk6 hv6 NG'
                  by_cases hin3 : kk ∈ G.take j
                  · have HX : Hid (decide (kk ∈ G.take (j + 1)) = true) := decide_eq_true (hmt.2 (Or.inl hin3))
                    rw [decide_eq_true hin3]
                    clear hmt hin3
                    go_wp2
                    go_roundw
                    case rel => exact ⟨j + 1, by omega, by go_num, by rw [HX.out], by first | rfl | trivial⟩
                    case measure => simp [intOf]; omega
                  · rw [decide_eq_false hin3]
                    by_cases hgg : gg = kk
                    · have HX : Hid (decide (kk ∈ G.take (j + 1)) = true) := decide_eq_true (hmt.2 (Or.inr hgg))
                      have d1 : ((gg : Int) == (kk : Int)) = true := by rw [beq_iff_eq]; omega
                      have d2 : gg = kk := hgg
                      clear hmt hin3 hgg
                      go_wp2
                      go_roundw
                      case rel => exact ⟨j + 1, by omega, by go_num, by rw [HX.out], by first | rfl | trivial⟩
                      case measure => simp [intOf]; omega
                    · have HX : Hid (decide (kk ∈ G.take (j + 1)) = false) := decide_eq_false fun h => (hmt.1 h).elim hin3 hgg
                      have d1 : ((gg : Int) == (kk : Int)) = false := beq_false_of_ne (by omega)
                      have d2 : ¬ gg = kk := hgg
                      clear hmt hin3 hgg
                      go_wp2
                      go_roundw
                      case rel => exact ⟨j + 1, by omega, by go_num, by rw [HX.out], by first | rfl | trivial⟩
                      case measure => simp [intOf]; omega
                · obtain rfl : j = ng := by omega
                  rw [List.take_of_length_le (Nat.le_of_eq NG.out.symm)]
                  have hlx : decide ((j : Int) < (j : Int)) = false := decide_eq_false (by omega)
                  by_cases hgk : kk ∈ G
                  · rw [decide_eq_true hgk]
                    have E := Lib.hid (EG.out hgk)
                    clear EG EO hgk
                    go_wp2_with fail
                    refine (FN.out _ (mergeL M1 M2 G) kk _ K84.out S88.out (by have := mg_length M1 M2 G; have := LBD.out; omega) HKK.out).mono ?_
                    rintro e w94 ⟨rfl, hb95⟩
                    have K96 := Lib.hid (ST.out _ _ K84.out hb95)
                    have B97 := Lib.hid (bt B85.out hb95)
                    have S98 := Lib.hid (it_below S86.out hb95)
                    clear S86
                    have S99 := Lib.hid (it_below S87.out hb95)
                    clear S87
                    have S100 := Lib.hid (it_below S88.out hb95)
                    clear S88
                    have U101 := Lib.hid (su_below U89.out hb95)
                    clear U89
                    have U102 := Lib.hid (su_below U90.out hb95)
                    clear U90
                    have R103 := Lib.hid (bt R91.out hb95)
                    clear R91
                    have R104 := Lib.hid (bt R92.out hb95)
                    clear R92
                    have X105 := Lib.hid ((hb95.block _ (lt_of_some X83.out)).trans X83.out)
                    clear X83
                    rw [E.out.1, E.out.2]
                    have hb106 := bel_al w94 (.cells #[.int .u64 (z0.key : Int), .int .u32 (z0.ck : Int), .int .i64 z0.off, .int .i64 z0.sz] 41)
                    have X107 := Lib.hid (heap_alloc_new w94 (.cells #[.int .u64 (z0.key : Int), .int .u32 (z0.ck : Int), .int .i64 z0.off, .int .i64 z0.sz] 41))
                    have K108 := Lib.hid (ST.out _ _ K96.out hb106)
                    have B109 := Lib.hid (bt B97.out hb106)
                    have S110 := Lib.hid (it_below S98.out hb106)
                    clear S98
                    have S111 := Lib.hid (it_below S99.out hb106)
                    clear S99
                    have S112 := Lib.hid (it_below S100.out hb106)
                    clear S100
                    have U113 := Lib.hid (su_below U101.out hb106)
                    clear U101
                    have U114 := Lib.hid (su_below U102.out hb106)
                    clear U102
                    have R115 := Lib.hid (bt R103.out hb106)
                    clear R103
                    have R116 := Lib.hid (bt R104.out hb106)
                    clear R104
                    have X117 := Lib.hid ((hb106.block _ (lt_of_some X105.out)).trans X105.out)
                    clear X105
                    have hq := neqT z0 z0
                    rw [decide_eq_true rfl] at hq
                    unfold TV at hq
                    obtain ⟨⟨c118, c119, c120, c121⟩, z122, z123, z124, z125⟩ := bx4 X117.out
                    obtain ⟨⟨c126, c127, c128, c129⟩, z130, z131, z132, z133⟩ := bx4 X107.out
                    go_wp2
                    go_roundw
                    case rel => exact ⟨i2 + 1, by omega, by go_num, R116.out⟩
                    case measure => simp [intOf]; omega
                  · rw [decide_eq_false hgk]
                    have E := Lib.hid (EO.out hgk)
                    clear EG EO hgk
                    go_wp2_with fail
                    refine (FN.out _ M1 kk _ K84.out S86.out (by have := LBD.out; omega) HKK.out).mono ?_
                    rintro e w94 ⟨rfl, hb95⟩
                    have K96 := Lib.hid (ST.out _ _ K84.out hb95)
                    have B97 := Lib.hid (bt B85.out hb95)
                    have S98 := Lib.hid (it_below S86.out hb95)
                    clear S86
                    have S99 := Lib.hid (it_below S87.out hb95)
                    clear S87
                    have S100 := Lib.hid (it_below S88.out hb95)
                    clear S88
                    have U101 := Lib.hid (su_below U89.out hb95)
                    clear U89
                    have U102 := Lib.hid (su_below U90.out hb95)
                    clear U90
                    have R103 := Lib.hid (bt R91.out hb95)
                    clear R91
                    have R104 := Lib.hid (bt R92.out hb95)
                    clear R92
                    have X105 := Lib.hid ((hb95.block _ (lt_of_some X83.out)).trans X83.out)
                    clear X83
                    obtain ⟨⟨c106, c107, c108, c109⟩, z110, z111, z112, z113⟩ := bx4 X105.out
                    have HB9 := Lib.hid (below4 (k := .int .u64 ((fnL M1 kk).key : Int)) (l := .int .u32 ((fnL M1 kk).ck : Int)) (m := .int .i64 (fnL M1 kk).off) (n := .int .i64 (fnL M1 kk).sz) R104.out HGQ.out)
                    have XY9 := Lib.hid (set4 (k := .int .u64 ((fnL M1 kk).key : Int)) (l := .int .u32 ((fnL M1 kk).ck : Int)) (m := .int .i64 (fnL M1 kk).off) (n := .int .i64 (fnL M1 kk).sz) X105.out)
                    go_wp2_with fail
                    generalize (((w94.setCell ⟨g93, 0, none⟩ (.int .u64 ((fnL M1 kk).key : Int))).setCell ⟨g93, 1, none⟩ (.int .u32 ((fnL M1 kk).ck : Int))).setCell ⟨g93, 2, none⟩ (.int .i64 (fnL M1 kk).off)).setCell ⟨g93, 3, none⟩ (.int .i64 (fnL M1 kk).sz) = WY at *
                    have K114 := Lib.hid (F54.out WY HB9.out)
                    have B115 := Lib.hid (F55.out WY HB9.out)
                    have S116 := Lib.hid (F56.out WY HB9.out)
                    have S117 := Lib.hid (F57.out WY HB9.out)
                    have S118 := Lib.hid (F58.out WY HB9.out)
                    have U119 := Lib.hid (F59.out WY HB9.out)
                    have U120 := Lib.hid (F60.out WY HB9.out)
                    have R121 := Lib.hid (F61.out WY HB9.out)
                    have R122 := Lib.hid HB9.out
                    refine (FN.out _ (mergeL M1 M2 G) kk _ K114.out S118.out (by have := mg_length M1 M2 G; have := LBD.out; omega) HKK.out).mono ?_
                    rintro e w123 ⟨rfl, hb124⟩
                    have K125 := Lib.hid (ST.out _ _ K114.out hb124)
                    have B126 := Lib.hid (bt B115.out hb124)
                    have S127 := Lib.hid (it_below S116.out hb124)
                    clear S116
                    have S128 := Lib.hid (it_below S117.out hb124)
                    clear S117
                    have S129 := Lib.hid (it_below S118.out hb124)
                    clear S118
                    have U130 := Lib.hid (su_below U119.out hb124)
                    clear U119
                    have U131 := Lib.hid (su_below U120.out hb124)
                    clear U120
                    have R132 := Lib.hid (bt R121.out hb124)
                    clear R121
                    have R133 := Lib.hid (bt R122.out hb124)
                    clear R122
                    have X134 := Lib.hid ((hb124.block _ (lt_of_some XY9.out)).trans XY9.out)
                    clear XY9
                    rw [E.out.1, E.out.2]
                    have hb135 := bel_al w123 (.cells #[.int .u64 ((fnL M1 kk).key : Int), .int .u32 ((fnL M1 kk).ck : Int), .int .i64 (fnL M1 kk).off, .int .i64 (fnL M1 kk).sz] 41)
                    have X136 := Lib.hid (heap_alloc_new w123 (.cells #[.int .u64 ((fnL M1 kk).key : Int), .int .u32 ((fnL M1 kk).ck : Int), .int .i64 (fnL M1 kk).off, .int .i64 (fnL M1 kk).sz] 41))
                    have K137 := Lib.hid (ST.out _ _ K125.out hb135)
                    have B138 := Lib.hid (bt B126.out hb135)
                    have S139 := Lib.hid (it_below S127.out hb135)
                    clear S127
                    have S140 := Lib.hid (it_below S128.out hb135)
                    clear S128
                    have S141 := Lib.hid (it_below S129.out hb135)
                    clear S129
                    have U142 := Lib.hid (su_below U130.out hb135)
                    clear U130
                    have U143 := Lib.hid (su_below U131.out hb135)
                    clear U131
                    have R144 := Lib.hid (bt R132.out hb135)
                    clear R132
                    have R145 := Lib.hid (bt R133.out hb135)
                    clear R133
                    have X146 := Lib.hid ((hb135.block _ (lt_of_some X134.out)).trans X134.out)
                    clear X134
                    have hq := neqT (fnL M1 kk) (fnL M1 kk)
                    rw [decide_eq_true rfl] at hq
                    unfold TV at hq
                    have hq3 : ((hasL M1 kk) != (hasL M1 kk)) = false := by simp
                    generalize fnL M1 kk = y0 at *
                    generalize (hasL M1 kk) = h0 at *
                    obtain ⟨⟨c147, c148, c149, c150⟩, z151, z152, z153, z154⟩ := bx4 X146.out
                    obtain ⟨⟨c155, c156, c157, c158⟩, z159, z160, z161, z162⟩ := bx4 X136.out
                    go_wp2
                    go_roundw
                    case rel => exact ⟨i2 + 1, by omega, by go_num, R145.out⟩
                    case measure => simp [intOf]; omega
            · rename_i y9
              have E := Lib.hid (mg_some (M1 := M1) (G := G) hm2)
              have hh : hasL M2 kk = true := by unfold hasL; rw [hm2]; rfl
              rw [hh] at E
              have HH := Lib.hid hh
              clear hh hm2
              go_wp2_with fail
              refine (FN.out _ M2 kk _ K62.out S65.out (by have := LBD.out; omega) HKK.out).mono ?_
              rintro e w71 ⟨rfl, hb72⟩
              have K73 := Lib.hid (ST.out _ _ K62.out hb72)
              have B74 := Lib.hid (bt B63.out hb72)
              have S75 := Lib.hid (it_below S64.out hb72)
              clear S64
              have S76 := Lib.hid (it_below S65.out hb72)
              clear S65
              have S77 := Lib.hid (it_below S66.out hb72)
              clear S66
              have U78 := Lib.hid (su_below U67.out hb72)
              clear U67
              have U79 := Lib.hid (su_below U68.out hb72)
              clear U68
              have R80 := Lib.hid (bt R69.out hb72)
              clear R69
              have R81 := Lib.hid (bt R70.out hb72)
              clear R70
              rw [HH.out]
              clear hkc
              have hb82 := bel_al w71 (.cells #[.int .u64 ((fnL M2 kk).key : Int), .int .u32 ((fnL M2 kk).ck : Int), .int .i64 (fnL M2 kk).off, .int .i64 (fnL M2 kk).sz] 41)
              have X83 := Lib.hid (heap_alloc_new w71 (.cells #[.int .u64 ((fnL M2 kk).key : Int), .int .u32 ((fnL M2 kk).ck : Int), .int .i64 (fnL M2 kk).off, .int .i64 (fnL M2 kk).sz] 41))
              have K84 := Lib.hid (ST.out _ _ K73.out hb82)
              have B85 := Lib.hid (bt B74.out hb82)
              have S86 := Lib.hid (it_below S75.out hb82)
              clear S75
              have S87 := Lib.hid (it_below S76.out hb82)
              clear S76
              have S88 := Lib.hid (it_below S77.out hb82)
              clear S77
              have U89 := Lib.hid (su_below U78.out hb82)
              clear U78
              have U90 := Lib.hid (su_below U79.out hb82)
              clear U79
              have R91 := Lib.hid (bt R80.out hb82)
              clear R80
              have R92 := Lib.hid (bt R81.out hb82)
              clear R81
              go_wp2_with fail
              generalize w71.alloc (.cells #[.int .u64 ((fnL M2 kk).key : Int), .int .u32 ((fnL M2 kk).ck : Int), .int .i64 (fnL M2 kk).off, .int .i64 (fnL M2 kk).sz] 41) = W8 at *
              generalize w71.heap.size = g93 at *
              refine (FN.out _ (mergeL M1 M2 G) kk _ K84.out S88.out (by have := mg_length M1 M2 G; have := LBD.out; omega) HKK.out).mono ?_
              rintro e w94 ⟨rfl, hb95⟩
              have K96 := Lib.hid (ST.out _ _ K84.out hb95)
              have B97 := Lib.hid (bt B85.out hb95)
              have S98 := Lib.hid (it_below S86.out hb95)
              clear S86
              have S99 := Lib.hid (it_below S87.out hb95)
              clear S87
              have S100 := Lib.hid (it_below S88.out hb95)
              clear S88
              have U101 := Lib.hid (su_below U89.out hb95)
              clear U89
              have U102 := Lib.hid (su_below U90.out hb95)
              clear U90
              have R103 := Lib.hid (bt R91.out hb95)
              clear R91
              have R104 := Lib.hid (bt R92.out hb95)
              clear R92
              have X105 := Lib.hid ((hb95.block _ (lt_of_some X83.out)).trans X83.out)
              clear X83
              rw [E.out.1, E.out.2]
              have hb106 := bel_al w94 (.cells #[.int .u64 ((fnL M2 kk).key : Int), .int .u32 ((fnL M2 kk).ck : Int), .int .i64 (fnL M2 kk).off, .int .i64 (fnL M2 kk).sz] 41)
              have X107 := Lib.hid (heap_alloc_new w94 (.cells #[.int .u64 ((fnL M2 kk).key : Int), .int .u32 ((fnL M2 kk).ck : Int), .int .i64 (fnL M2 kk).off, .int .i64 (fnL M2 kk).sz] 41))
              have K108 := Lib.hid (ST.out _ _ K96.out hb106)
              have B109 := Lib.hid (bt B97.out hb106)
              have S110 := Lib.hid (it_below S98.out hb106)
              clear S98
              have S111 := Lib.hid (it_below S99.out hb106)
              clear S99
              have S112 := Lib.hid (it_below S100.out hb106)
              clear S100
              have U113 := Lib.hid (su_below U101.out hb106)
              clear U101
              have U114 := Lib.hid (su_below U102.out hb106)
              clear U102
              have R115 := Lib.hid (bt R103.out hb106)
              clear R103
              have R116 := Lib.hid (bt R104.out hb106)
              clear R104
              have X117 := Lib.hid ((hb106.block _ (lt_of_some X105.out)).trans X105.out)
              clear X105
              have hq := neqT (fnL M2 kk) (fnL M2 kk)
              rw [decide_eq_true rfl] at hq
              unfold TV at hq
              generalize fnL M2 kk = y0 at *
              obtain ⟨⟨c118, c119, c120, c121⟩, z122, z123, z124, z125⟩ := bx4 X117.out
              obtain ⟨⟨c126, c127, c128, c129⟩, z130, z131, z132, z133⟩ := bx4 X107.out
              go_wp2
              go_roundw
              case rel => exact ⟨i2 + 1, by omega, by go_num, R116.out⟩
              case measure => simp [intOf]; omega
          · obtain rfl : i2 = nq := by omega
            have hl5 : decide ((i2 : Int) < (i2 : Int)) = false := decide_eq_false (by omega)
            have K62 := Lib.hid (F54.out wr hB2)
            have B63 := Lib.hid (F55.out wr hB2)
            have S64 := Lib.hid (F56.out wr hB2)
            have S65 := Lib.hid (F57.out wr hB2)
            have S66 := Lib.hid (F58.out wr hB2)
            have U67 := Lib.hid (F59.out wr hB2)
            have U68 := Lib.hid (F60.out wr hB2)
            have R69 := Lib.hid (F61.out wr hB2)
            have R70 := Lib.hid hB2
            clear hB2
            go_wp2_with fail
            refine (PV.out _ (mergeL M1 M2 G) _ K62.out S66.out (by have := mg_length M1 M2 G; have := LBD.out; omega)).mono ?_
            rintro e w71 ⟨rfl, hb72⟩
            have K73 := Lib.hid (ST.out _ _ K62.out hb72)
            have B74 := Lib.hid (bt B63.out hb72)
            have S75 := Lib.hid (it_below S64.out hb72)
            clear S64
            have S76 := Lib.hid (it_below S65.out hb72)
            clear S65
            have S77 := Lib.hid (it_below S66.out hb72)
            clear S66
            have U78 := Lib.hid (su_below U67.out hb72)
            clear U67
            have U79 := Lib.hid (su_below U68.out hb72)
            clear U68
            have R80 := Lib.hid (bt R69.out hb72)
            clear R69
            have R81 := Lib.hid (bt R70.out hb72)
            clear R70
            rw [decide_eq_true (mg_ok oka okb)]
            go_wp2_with fail
            refine (AW.out _ K73.out).mono ?_
            rintro e w82 ⟨rfl, hb83⟩
            have K84 := Lib.hid (ST.out _ _ K73.out hb83)
            have B85 := Lib.hid (bt B74.out hb83)
            have S86 := Lib.hid (it_below S75.out hb83)
            clear S75
            have S87 := Lib.hid (it_below S76.out hb83)
            clear S76
            have S88 := Lib.hid (it_below S77.out hb83)
            clear S77
            have U89 := Lib.hid (su_below U78.out hb83)
            clear U78
            have U90 := Lib.hid (su_below U79.out hb83)
            clear U79
            have R91 := Lib.hid (bt R80.out hb83)
            clear R80
            have R92 := Lib.hid (bt R81.out hb83)
            clear R81
            go_wp2
            go_ret
            exact ⟨rfl, B85.out⟩
end Go.Proofs.YtihjfnlimdcmkaaDoor.Gf
