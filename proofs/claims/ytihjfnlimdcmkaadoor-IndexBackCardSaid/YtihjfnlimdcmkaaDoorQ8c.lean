/- What is proved here: IndexFinds returns true, over what the laws ask of the program. No condition. -/
import Derived.Test.YtihjfnlimdcmkaaDoorQ8b
namespace Go.Proofs.YtihjfnlimdcmkaaDoor.Gf
open Go Go.Joins Go.ChangeShapes Go.WideShapes Go.ChangeAt Go.RowKit Go.Deep Go.Sort Go.Proofs.YtihjfnlimdcmkaaDoor.By Go.Proofs.YtihjfnlimdcmkaaDoor.Crc Go.Proofs.YtihjfnlimdcmkaaDoor.Qt

theorem lk_putL (L : List Itm) (x : Itm) (k : Nat) : lk (putL L x) k = if x.key = k then some x else lk L k := by
  unfold putL
  rw [lk_insL (asc_sortL L), lk_sortL]
theorem lk_dropL (L : List Itm) (k j : Nat) : lk (dropL L k) j = if j = k then none else lk L j := by
  unfold dropL
  rw [lk_delL (asc_sortL L), lk_sortL]
theorem asc_putL (L : List Itm) (x : Itm) : Asc (putL L x) := asc_insL (asc_sortL L)
theorem asc_dropL (L : List Itm) (k : Nat) : Asc (dropL L k) := asc_delL k (asc_sortL L)
theorem put_put (L : List Itm) (x : Itm) : putL (putL L x) x = putL L x := asc_ext (asc_putL _ _) (asc_putL _ _) fun k => by
  rw [lk_putL, lk_putL]
  split <;> rfl
theorem putL_length (L : List Itm) (x : Itm) : (putL L x).length ≤ L.length + 1 := Nat.le_trans (length_insL _ _) (by have := length_sortL L; omega)
theorem dropL_length (L : List Itm) (k : Nat) : (dropL L k).length ≤ L.length := Nat.le_trans (length_delL _ _) (length_sortL L)
theorem held_g {P : Program} {ops : Array Oper} {md : Region.Mode} {Q : Exit → Act → World → Prop} {S : World → Prop} {fuel : Nat} {listed : Array Bool} {a : Act} {w : World} (i : Nat) {oi : Oper} (hi : ops[i]? = some oi) (hg : Region.wanted oi (yielded ops a.tmps) = true) (hr : Region.ready md ops listed = [i])
    (h : ∀ K : Act → World → Prop, (∀ a' w', S w' → wpAnyH P md ops Q S fuel (listed.setIfInBounds i true) a' w' → K a' w') → oi.wp P a w K Q) : wpAnyH P md ops Q S (fuel + 1) listed a w := by
  refine wpAnyH_all hr (by simp) fun j hj => ?_
  obtain rfl : j = i := by simpa using hj
  unfold wpOp
  simp only [hi]
  rw [if_pos hg]
  exact Or.inl (h _ fun a' w' h1 h2 => ⟨h1, h2⟩)
set_option maxRecDepth 100000 in
set_option maxHeartbeats 12800000 in
theorem finds8_walk {Ok : World → Prop} (P : PC8 Ok) (v : Value) (L : List Itm) (x : Itm) (k : Nat) (w : World) (hw : Ok w) (s : It w v L) (okx : ItOk x) (hk : k < 18446744073709551616) : Calls Tryd.prog 8 #[v, TV x, .int .u64 (k : Int)] w fun e w' => e = .returned (.bool true) ∧ Below w.heap.size w w' := by
  have FN := Lib.hid (fun v M k W (h : Ok W) a b c => P.find v M k W h a b c)
  have PT := Lib.hid (fun v M x W (h : Ok W) a b c => P.put v M x W h a b c)
  have DR := Lib.hid (fun v M k W (h : Ok W) a b c => P.drop v M k W h a b c)
  have ST := Lib.hid (fun (W W' : World) => P.st (w := W) (w' := W'))
  have AW := Lib.hid (awake8_any P.toPC8a)
  clear P
  unfold FD at FN
  unfold LI at PT DR
  have hml := made_length L
  have S0 := Lib.hid s
  have OX := Lib.hid okx
  have HKB := Lib.hid hk
  have MD := Lib.hid (fun W (h : Below w.heap.size w W) => made_any v L W (it_below s h))
  unfold LO at MD
  generalize madeL L = M at *
  obtain ⟨al, cl, rfl, -, -⟩ := it_form s
  generalize L.length = n0 at *
  have e1 : fnL (putL M x) x.key = x := by unfold fnL; rw [lk_putL, if_pos rfl]; rfl
  have e2 : hasL (putL M x) x.key = true := by unfold hasL; rw [lk_putL, if_pos rfl]; rfl
  have e3 : fnL (dropL (putL M x) x.key) x.key = z0 := by unfold fnL; rw [lk_dropL, if_pos rfl]; rfl
  have e4 : hasL (dropL (putL M x) x.key) x.key = false := by unfold hasL; rw [lk_dropL, if_pos rfl]; rfl
  have e5 : ¬ k = x.key → lk (putL M x) k = lk M k := fun h => by rw [lk_putL, if_neg (fun e => h e.symm)]
  have e6 : ¬ k = x.key → lk (dropL (putL M x) x.key) k = lk M k := fun h => by rw [lk_dropL, if_neg h, e5 h]
  have e7 := put_put M x
  have l1 := putL_length M x
  have l2 := dropL_length (putL M x) x.key
  have E5 := Lib.hid e5
  have E6 := Lib.hid e6
  have E := Lib.hid (And.intro e1 (And.intro e2 (And.intro e3 (And.intro e4 e7))))
  generalize hP1 : putL M x = P1 at *
  generalize hD1 : dropL P1 x.key = D1 at *
  have HP1 := Lib.hid hP1
  have HD1 := Lib.hid hD1
  have LB : Hid (M.length ≤ 1000 ∧ P1.length ≤ 1000 ∧ D1.length ≤ 1000) := ⟨by omega, by omega, by omega⟩
  have B0 := Lib.hid (bel_al w (.cells #[.int .u64 (x.key : Int), .int .u32 (x.ck : Int), .int .i64 x.off, .int .i64 x.sz] 41))
  have K0 := Lib.hid (ST.out _ _ hw B0.out)
  have X0 := Lib.hid (heap_alloc_new w (.cells #[.int .u64 (x.key : Int), .int .u32 (x.ck : Int), .int .i64 x.off, .int .i64 x.sz] 41))
  clear s okx hk e1 e2 e3 e4 e5 e6 e7 l1 l2 hP1 hD1 hml S0
  unfold TV at FN PT ⊢
  go_enter Tryd.func8, Tryd.ntmps8
  go_wp2_with fail
  refine (MD.out _ B0.out).mono ?_
  rintro e w1 ⟨⟨v1, rfl, ho1⟩, hb2⟩
  have K3 := Lib.hid (ST.out _ _ K0.out hb2)
  have B4 := Lib.hid (bt B0.out hb2)
  have X5 := Lib.hid ((hb2.block _ (lt_of_some X0.out)).trans X0.out)
  clear X0
  obtain ⟨a6, cc7, hv10, -, -⟩ := it_form (owT_it ho1)
  obtain ⟨m8, hm11⟩ : ∃ q, q = (M).length := ⟨_, rfl⟩
  rw [← hm11] at hv10
  subst hv10
  have S9 := Lib.hid (owT_it ho1)
  clear ho1 hm11
  go_wp2_with fail
  refine (FN.out _ M k _ K3.out S9.out LB.out.1 HKB.out).mono ?_
  rintro e w12 ⟨rfl, hb13⟩
  have K14 := Lib.hid (ST.out _ _ K3.out hb13)
  have B15 := Lib.hid (bt B4.out hb13)
  have S16 := Lib.hid (it_below S9.out hb13)
  clear S9
  have X17 := Lib.hid ((hb13.block _ (lt_of_some X5.out)).trans X5.out)
  clear X5
  have hb18 := bel_al w12 (.cells #[.int .u64 ((fnL M k).key : Int), .int .u32 ((fnL M k).ck : Int), .int .i64 (fnL M k).off, .int .i64 (fnL M k).sz] 41)
  have X19 := Lib.hid (heap_alloc_new w12 (.cells #[.int .u64 ((fnL M k).key : Int), .int .u32 ((fnL M k).ck : Int), .int .i64 (fnL M k).off, .int .i64 (fnL M k).sz] 41))
  have K20 := Lib.hid (ST.out _ _ K14.out hb18)
  have B21 := Lib.hid (bt B15.out hb18)
  have S22 := Lib.hid (it_below S16.out hb18)
  clear S16
  have X23 := Lib.hid ((hb18.block _ (lt_of_some X17.out)).trans X17.out)
  clear X17
  obtain ⟨⟨c24, c25, c26, c27⟩, z28, z29, z30, z31⟩ := bx4 X23.out
  go_wp2_with fail
  generalize w12.alloc (.cells #[.int .u64 ((fnL M k).key : Int), .int .u32 ((fnL M k).ck : Int), .int .i64 (fnL M k).off, .int .i64 (fnL M k).sz] 41) = W2 at *
  generalize w12.heap.size = g32 at *
  refine (PT.out _ M x _ K20.out S22.out LB.out.1 OX.out).mono ?_
  rintro e w33 ⟨⟨v3, rfl, hs3⟩, hb34⟩
  have K35 := Lib.hid (ST.out _ _ K20.out hb34)
  have B36 := Lib.hid (bt B21.out hb34)
  have S37 := Lib.hid (it_below S22.out hb34)
  clear S22
  have X38 := Lib.hid ((hb34.block _ (lt_of_some X23.out)).trans X23.out)
  clear X23
  have X39 := Lib.hid ((hb34.block _ (lt_of_some X19.out)).trans X19.out)
  clear X19
  rw [HP1.out] at hs3
  obtain ⟨a40, cc41, hv44, -, -⟩ := it_form (hs3)
  obtain ⟨m42, hm45⟩ : ∃ q, q = (P1).length := ⟨_, rfl⟩
  rw [← hm45] at hv44
  subst hv44
  have S43 := Lib.hid (hs3)
  clear hs3 hm45
  clear c24 c25 c26 c27 z28 z29 z30 z31
  obtain ⟨⟨c46, c47, c48, c49⟩, z50, z51, z52, z53⟩ := bx4 X38.out
  go_wp2_with fail
  refine (DR.out _ P1 x.key _ K35.out S43.out LB.out.2.1 OX.out.key).mono ?_
  rintro e w54 ⟨⟨v4, rfl, hs4⟩, hb55⟩
  have K56 := Lib.hid (ST.out _ _ K35.out hb55)
  have B57 := Lib.hid (bt B36.out hb55)
  have S58 := Lib.hid (it_below S37.out hb55)
  clear S37
  have S59 := Lib.hid (it_below S43.out hb55)
  clear S43
  have X60 := Lib.hid ((hb55.block _ (lt_of_some X38.out)).trans X38.out)
  clear X38
  have X61 := Lib.hid ((hb55.block _ (lt_of_some X39.out)).trans X39.out)
  clear X39
  rw [HD1.out] at hs4
  obtain ⟨a62, cc63, hv66, -, -⟩ := it_form (hs4)
  obtain ⟨m64, hm67⟩ : ∃ q, q = (D1).length := ⟨_, rfl⟩
  rw [← hm67] at hv66
  subst hv66
  have S65 := Lib.hid (hs4)
  clear hs4 hm67
  clear c46 c47 c48 c49 z50 z51 z52 z53
  obtain ⟨⟨c68, c69, c70, c71⟩, z72, z73, z74, z75⟩ := bx4 X60.out
  go_wp2_with fail
  refine (FN.out _ P1 x.key _ K56.out S59.out LB.out.2.1 OX.out.key).mono ?_
  rintro e w76 ⟨rfl, hb77⟩
  have K78 := Lib.hid (ST.out _ _ K56.out hb77)
  have B79 := Lib.hid (bt B57.out hb77)
  have S80 := Lib.hid (it_below S58.out hb77)
  clear S58
  have S81 := Lib.hid (it_below S59.out hb77)
  clear S59
  have S82 := Lib.hid (it_below S65.out hb77)
  clear S65
  have X83 := Lib.hid ((hb77.block _ (lt_of_some X60.out)).trans X60.out)
  clear X60
  have X84 := Lib.hid ((hb77.block _ (lt_of_some X61.out)).trans X61.out)
  clear X61
  rw [E.out.1, E.out.2.1]
  have hb85 := bel_al w76 (.cells #[.int .u64 (x.key : Int), .int .u32 (x.ck : Int), .int .i64 x.off, .int .i64 x.sz] 41)
  have X86 := Lib.hid (heap_alloc_new w76 (.cells #[.int .u64 (x.key : Int), .int .u32 (x.ck : Int), .int .i64 x.off, .int .i64 x.sz] 41))
  have K87 := Lib.hid (ST.out _ _ K78.out hb85)
  have B88 := Lib.hid (bt B79.out hb85)
  have S89 := Lib.hid (it_below S80.out hb85)
  clear S80
  have S90 := Lib.hid (it_below S81.out hb85)
  clear S81
  have S91 := Lib.hid (it_below S82.out hb85)
  clear S82
  have X92 := Lib.hid ((hb85.block _ (lt_of_some X83.out)).trans X83.out)
  clear X83
  have X93 := Lib.hid ((hb85.block _ (lt_of_some X84.out)).trans X84.out)
  clear X84
  clear c68 c69 c70 c71 z72 z73 z74 z75
  obtain ⟨⟨c94, c95, c96, c97⟩, z98, z99, z100, z101⟩ := bx4 X92.out
  go_wp2_with fail
  generalize w76.alloc (.cells #[.int .u64 (x.key : Int), .int .u32 (x.ck : Int), .int .i64 x.off, .int .i64 x.sz] 41) = W5 at *
  generalize w76.heap.size = g102 at *
  refine (FN.out _ D1 x.key _ K87.out S91.out LB.out.2.2 OX.out.key).mono ?_
  rintro e w103 ⟨rfl, hb104⟩
  have K105 := Lib.hid (ST.out _ _ K87.out hb104)
  have B106 := Lib.hid (bt B88.out hb104)
  have S107 := Lib.hid (it_below S89.out hb104)
  clear S89
  have S108 := Lib.hid (it_below S90.out hb104)
  clear S90
  have S109 := Lib.hid (it_below S91.out hb104)
  clear S91
  have X110 := Lib.hid ((hb104.block _ (lt_of_some X92.out)).trans X92.out)
  clear X92
  have X111 := Lib.hid ((hb104.block _ (lt_of_some X93.out)).trans X93.out)
  clear X93
  have X112 := Lib.hid ((hb104.block _ (lt_of_some X86.out)).trans X86.out)
  clear X86
  rw [E.out.2.2.1, E.out.2.2.2.1]
  have hb113 := bel_al w103 (.cells #[.int .u64 (z0.key : Int), .int .u32 (z0.ck : Int), .int .i64 z0.off, .int .i64 z0.sz] 41)
  have X114 := Lib.hid (heap_alloc_new w103 (.cells #[.int .u64 (z0.key : Int), .int .u32 (z0.ck : Int), .int .i64 z0.off, .int .i64 z0.sz] 41))
  have K115 := Lib.hid (ST.out _ _ K105.out hb113)
  have B116 := Lib.hid (bt B106.out hb113)
  have S117 := Lib.hid (it_below S107.out hb113)
  clear S107
  have S118 := Lib.hid (it_below S108.out hb113)
  clear S108
  have S119 := Lib.hid (it_below S109.out hb113)
  clear S109
  have X120 := Lib.hid ((hb113.block _ (lt_of_some X110.out)).trans X110.out)
  clear X110
  have X121 := Lib.hid ((hb113.block _ (lt_of_some X111.out)).trans X111.out)
  clear X111
  have X122 := Lib.hid ((hb113.block _ (lt_of_some X112.out)).trans X112.out)
  clear X112
  clear c94 c95 c96 c97 z98 z99 z100 z101
  obtain ⟨⟨c123, c124, c125, c126⟩, z127, z128, z129, z130⟩ := bx4 X120.out
  obtain ⟨⟨c131, c132, c133, c134⟩, z135, z136, z137, z138⟩ := bx4 X122.out
  have hq := neqT x x
  rw [decide_eq_true rfl] at hq
  unfold TV at hq
  by_cases hkx : k = x.key
  · have d1 : ((k : Int) != (x.key : Int)) = false := by simp; omega
    have d2 : k = x.key := hkx
    clear hkx
    go_wp2_with fail
    generalize w103.alloc (.cells #[.int .u64 (z0.key : Int), .int .u32 (z0.ck : Int), .int .i64 z0.off, .int .i64 z0.sz] 41) = W6 at *
    generalize w103.heap.size = g139 at *
    clear c123 c124 c125 c126 z127 z128 z129 z130 c131 c132 c133 c134 z135 z136 z137 z138
    refine wp_onlyN ?_
    refine wp_region_headsS (fun w' => Below W6.heap.size W6 w') [0, 1, 3, 5] 7 (by kernel_rfl) (fun _ _ _ _ _ h => h.elim) (by kernel_rfl) (by rfl) (by rfl) (Below.refl _ _).drew ?_
    simp only [pickOps, List.filterMap_cons, List.filterMap_nil, List.getElem?_toArray, List.getElem?_cons_zero, List.getElem?_cons_succ]
    refine wpHeads_step (fun K hK => ?_)
    go_simp
    refine ⟨_, fun _ _ => rfl, hK _ ?_⟩
    clear hK K
    refine wpHeads_step (fun K hK => ?_)
    go_simp
    refine ⟨.agg #[.int .u64 (x.key : Int), .int .u32 (x.ck : Int), .int .i64 x.off, .int .i64 x.sz], fun w' hw' => by obtain ⟨⟨u0, u1, u2, u3⟩, -⟩ := bx4 ((hw'.block _ (lt_of_some X120.out)).trans X120.out); simp [u0, u1, u2, u3], hK _ ?_⟩
    clear hK K
    refine wpHeads_step (fun K hK => ?_)
    go_simp
    refine ⟨.agg #[.int .u64 (x.key : Int), .int .u32 (x.ck : Int), .int .i64 x.off, .int .i64 x.sz], fun w' hw' => by obtain ⟨⟨u0, u1, u2, u3⟩, -⟩ := bx4 ((hw'.block _ (lt_of_some X120.out)).trans X120.out); simp [u0, u1, u2, u3], hK _ ?_⟩
    clear hK K
    refine wpHeads_step (fun K hK => ?_)
    go_simp
    refine ⟨_, fun _ _ => rfl, hK _ ?_⟩
    clear hK K
    refine wpHeads_nil ?_
    have hb140 := (Below.refl W6.heap.size W6).drew
    have HS0 := Lib.hid hb140
    have K141 := Lib.hid (ST.out _ _ K115.out hb140)
    have B142 := Lib.hid (bt B116.out hb140)
    have S143 := Lib.hid (it_below S117.out hb140)
    clear S117
    have S144 := Lib.hid (it_below S118.out hb140)
    clear S118
    have S145 := Lib.hid (it_below S119.out hb140)
    clear S119
    have X146 := Lib.hid ((hb140.block _ (lt_of_some X120.out)).trans X120.out)
    clear X120
    have X147 := Lib.hid ((hb140.block _ (lt_of_some X121.out)).trans X121.out)
    clear X121
    have X148 := Lib.hid ((hb140.block _ (lt_of_some X122.out)).trans X122.out)
    clear X122
    have X149 := Lib.hid ((hb140.block _ (lt_of_some X114.out)).trans X114.out)
    clear X114
    generalize W6.drew = WD at *
    refine held_one 2 rfl rfl (by kernel_rfl) fun K hK => ?_
    go_simp
    go_at_call 26
    refine (PT.out _ M x _ K141.out S143.out LB.out.1 OX.out).mono ?_
    rintro e w150 ⟨⟨v7, rfl, hs7⟩, hb151⟩
    have K152 := Lib.hid (ST.out _ _ K141.out hb151)
    have B153 := Lib.hid (bt B142.out hb151)
    have S154 := Lib.hid (it_below S143.out hb151)
    clear S143
    have S155 := Lib.hid (it_below S144.out hb151)
    clear S144
    have S156 := Lib.hid (it_below S145.out hb151)
    clear S145
    have X157 := Lib.hid ((hb151.block _ (lt_of_some X146.out)).trans X146.out)
    clear X146
    have X158 := Lib.hid ((hb151.block _ (lt_of_some X147.out)).trans X147.out)
    clear X147
    have X159 := Lib.hid ((hb151.block _ (lt_of_some X148.out)).trans X148.out)
    clear X148
    have X160 := Lib.hid ((hb151.block _ (lt_of_some X149.out)).trans X149.out)
    clear X149
    have HS161 := Lib.hid (bt HS0.out hb151)
    rw [HP1.out] at hs7
    obtain ⟨a162, cc163, hv166, -, -⟩ := it_form (hs7)
    obtain ⟨m164, hm167⟩ : ∃ q, q = (P1).length := ⟨_, rfl⟩
    rw [← hm167] at hv166
    subst hv166
    have S165 := Lib.hid (hs7)
    clear hs7 hm167
    refine hK _ _ HS161.out ?_
    clear hK K
    refine held_one 4 rfl rfl (by kernel_rfl) fun K hK => ?_
    go_simp
    go_at_call 26
    refine (PT.out _ P1 x _ K152.out S165.out LB.out.2.1 OX.out).mono ?_
    rintro e w168 ⟨⟨v8, rfl, hs8⟩, hb169⟩
    have K170 := Lib.hid (ST.out _ _ K152.out hb169)
    have B171 := Lib.hid (bt B153.out hb169)
    have S172 := Lib.hid (it_below S154.out hb169)
    clear S154
    have S173 := Lib.hid (it_below S155.out hb169)
    clear S155
    have S174 := Lib.hid (it_below S156.out hb169)
    clear S156
    have S175 := Lib.hid (it_below S165.out hb169)
    clear S165
    have X176 := Lib.hid ((hb169.block _ (lt_of_some X157.out)).trans X157.out)
    clear X157
    have X177 := Lib.hid ((hb169.block _ (lt_of_some X158.out)).trans X158.out)
    clear X158
    have X178 := Lib.hid ((hb169.block _ (lt_of_some X159.out)).trans X159.out)
    clear X159
    have X179 := Lib.hid ((hb169.block _ (lt_of_some X160.out)).trans X160.out)
    clear X160
    have HS180 := Lib.hid (bt HS161.out hb169)
    rw [E.out.2.2.2.2] at hs8
    obtain ⟨a181, cc182, hv185, -, -⟩ := it_form (hs8)
    obtain ⟨m183, hm186⟩ : ∃ q, q = (P1).length := ⟨_, rfl⟩
    rw [← hm186] at hv185
    subst hv185
    have S184 := Lib.hid (hs8)
    clear hs8 hm186
    refine hK _ _ HS180.out ?_
    clear hK K
    refine held_one 6 rfl rfl (by kernel_rfl) fun K hK => ?_
    go_simp
    go_at_call 21
    refine (rsame8_any _ _ P1 P1 _ S184.out S173.out).mono ?_
    rintro e w187 ⟨rfl, hb188⟩
    have K189 := Lib.hid (ST.out _ _ K170.out hb188)
    have B190 := Lib.hid (bt B171.out hb188)
    have S191 := Lib.hid (it_below S172.out hb188)
    clear S172
    have S192 := Lib.hid (it_below S173.out hb188)
    clear S173
    have S193 := Lib.hid (it_below S174.out hb188)
    clear S174
    have S194 := Lib.hid (it_below S175.out hb188)
    clear S175
    have S195 := Lib.hid (it_below S184.out hb188)
    clear S184
    have X196 := Lib.hid ((hb188.block _ (lt_of_some X176.out)).trans X176.out)
    clear X176
    have X197 := Lib.hid ((hb188.block _ (lt_of_some X177.out)).trans X177.out)
    clear X177
    have X198 := Lib.hid ((hb188.block _ (lt_of_some X178.out)).trans X178.out)
    clear X178
    have X199 := Lib.hid ((hb188.block _ (lt_of_some X179.out)).trans X179.out)
    clear X179
    have HS200 := Lib.hid (bt HS180.out hb188)
    rw [decide_eq_true rfl]
    refine hK _ _ HS200.out ?_
    clear hK K
    refine held_one 7 rfl rfl (by kernel_rfl) fun K hK => ?_
    go_simp
    refine hK _ _ HS200.out ?_
    clear hK K
    refine held_g 8 rfl (by kernel_rfl) (by kernel_rfl) fun K hK => ?_
    go_simp
    go_at_call 15
    refine (AW.out _ K189.out).mono ?_
    rintro e w201 ⟨rfl, hb202⟩
    have K203 := Lib.hid (ST.out _ _ K189.out hb202)
    have B204 := Lib.hid (bt B190.out hb202)
    have S205 := Lib.hid (it_below S191.out hb202)
    clear S191
    have S206 := Lib.hid (it_below S192.out hb202)
    clear S192
    have S207 := Lib.hid (it_below S193.out hb202)
    clear S193
    have S208 := Lib.hid (it_below S194.out hb202)
    clear S194
    have S209 := Lib.hid (it_below S195.out hb202)
    clear S195
    have X210 := Lib.hid ((hb202.block _ (lt_of_some X196.out)).trans X196.out)
    clear X196
    have X211 := Lib.hid ((hb202.block _ (lt_of_some X197.out)).trans X197.out)
    clear X197
    have X212 := Lib.hid ((hb202.block _ (lt_of_some X198.out)).trans X198.out)
    clear X198
    have X213 := Lib.hid ((hb202.block _ (lt_of_some X199.out)).trans X199.out)
    clear X199
    have HS214 := Lib.hid (bt HS200.out hb202)
    refine hK _ _ HS214.out ?_
    clear hK K
    refine held_one 9 rfl rfl (by kernel_rfl) fun K hK => ?_
    go_simp
    refine hK _ _ HS214.out ?_
    clear hK K
    refine held_one 10 rfl rfl (by kernel_rfl) fun K hK => ?_
    go_simp
    refine hK _ _ HS214.out ?_
    clear hK K
    refine wpAnyH_done (by kernel_rfl) ?_ _
    unfold onlyN
    dsimp only
    go_wp2
    go_ret
    exact ⟨rfl, B204.out⟩
  · have d1 : ((k : Int) != (x.key : Int)) = true := by rw [bne_iff_ne]; omega
    have d2 : ¬ k = x.key := hkx
    have f1 : fnL P1 k = fnL M k := by unfold fnL; rw [E5.out hkx]
    have f2 : hasL P1 k = hasL M k := by unfold hasL; rw [E5.out hkx]
    have f3 : fnL D1 k = fnL M k := by unfold fnL; rw [E6.out hkx]
    have f4 : hasL D1 k = hasL M k := by unfold hasL; rw [E6.out hkx]
    have F := Lib.hid (And.intro f1 (And.intro f2 (And.intro f3 f4)))
    clear f1 f2 f3 f4 hkx
    go_wp2_with fail
    generalize w103.alloc (.cells #[.int .u64 (z0.key : Int), .int .u32 (z0.ck : Int), .int .i64 z0.off, .int .i64 z0.sz] 41) = W6 at *
    generalize w103.heap.size = g139 at *
    refine (FN.out _ P1 k _ K115.out S118.out LB.out.2.1 HKB.out).mono ?_
    rintro e w140 ⟨rfl, hb141⟩
    have K142 := Lib.hid (ST.out _ _ K115.out hb141)
    have B143 := Lib.hid (bt B116.out hb141)
    have S144 := Lib.hid (it_below S117.out hb141)
    clear S117
    have S145 := Lib.hid (it_below S118.out hb141)
    clear S118
    have S146 := Lib.hid (it_below S119.out hb141)
    clear S119
    have X147 := Lib.hid ((hb141.block _ (lt_of_some X120.out)).trans X120.out)
    clear X120
    have X148 := Lib.hid ((hb141.block _ (lt_of_some X121.out)).trans X121.out)
    clear X121
    have X149 := Lib.hid ((hb141.block _ (lt_of_some X122.out)).trans X122.out)
    clear X122
    have X150 := Lib.hid ((hb141.block _ (lt_of_some X114.out)).trans X114.out)
    clear X114
    rw [F.out.1, F.out.2.1]
    have hb151 := bel_al w140 (.cells #[.int .u64 ((fnL M k).key : Int), .int .u32 ((fnL M k).ck : Int), .int .i64 (fnL M k).off, .int .i64 (fnL M k).sz] 41)
    have X152 := Lib.hid (heap_alloc_new w140 (.cells #[.int .u64 ((fnL M k).key : Int), .int .u32 ((fnL M k).ck : Int), .int .i64 (fnL M k).off, .int .i64 (fnL M k).sz] 41))
    have K153 := Lib.hid (ST.out _ _ K142.out hb151)
    have B154 := Lib.hid (bt B143.out hb151)
    have S155 := Lib.hid (it_below S144.out hb151)
    clear S144
    have S156 := Lib.hid (it_below S145.out hb151)
    clear S145
    have S157 := Lib.hid (it_below S146.out hb151)
    clear S146
    have X158 := Lib.hid ((hb151.block _ (lt_of_some X147.out)).trans X147.out)
    clear X147
    have X159 := Lib.hid ((hb151.block _ (lt_of_some X148.out)).trans X148.out)
    clear X148
    have X160 := Lib.hid ((hb151.block _ (lt_of_some X149.out)).trans X149.out)
    clear X149
    have X161 := Lib.hid ((hb151.block _ (lt_of_some X150.out)).trans X150.out)
    clear X150
    clear c123 c124 c125 c126 z127 z128 z129 z130 c131 c132 c133 c134 z135 z136 z137 z138
    obtain ⟨⟨c162, c163, c164, c165⟩, z166, z167, z168, z169⟩ := bx4 X158.out
    go_wp2_with fail
    generalize w140.alloc (.cells #[.int .u64 ((fnL M k).key : Int), .int .u32 ((fnL M k).ck : Int), .int .i64 (fnL M k).off, .int .i64 (fnL M k).sz] 41) = W8 at *
    generalize w140.heap.size = g170 at *
    refine (FN.out _ D1 k _ K153.out S157.out LB.out.2.2 HKB.out).mono ?_
    rintro e w171 ⟨rfl, hb172⟩
    have K173 := Lib.hid (ST.out _ _ K153.out hb172)
    have B174 := Lib.hid (bt B154.out hb172)
    have S175 := Lib.hid (it_below S155.out hb172)
    clear S155
    have S176 := Lib.hid (it_below S156.out hb172)
    clear S156
    have S177 := Lib.hid (it_below S157.out hb172)
    clear S157
    have X178 := Lib.hid ((hb172.block _ (lt_of_some X158.out)).trans X158.out)
    clear X158
    have X179 := Lib.hid ((hb172.block _ (lt_of_some X159.out)).trans X159.out)
    clear X159
    have X180 := Lib.hid ((hb172.block _ (lt_of_some X160.out)).trans X160.out)
    clear X160
    have X181 := Lib.hid ((hb172.block _ (lt_of_some X161.out)).trans X161.out)
    clear X161
    have X182 := Lib.hid ((hb172.block _ (lt_of_some X152.out)).trans X152.out)
    clear X152
    rw [F.out.2.2.1, F.out.2.2.2]
    have hb183 := bel_al w171 (.cells #[.int .u64 ((fnL M k).key : Int), .int .u32 ((fnL M k).ck : Int), .int .i64 (fnL M k).off, .int .i64 (fnL M k).sz] 41)
    have X184 := Lib.hid (heap_alloc_new w171 (.cells #[.int .u64 ((fnL M k).key : Int), .int .u32 ((fnL M k).ck : Int), .int .i64 (fnL M k).off, .int .i64 (fnL M k).sz] 41))
    have K185 := Lib.hid (ST.out _ _ K173.out hb183)
    have B186 := Lib.hid (bt B174.out hb183)
    have S187 := Lib.hid (it_below S175.out hb183)
    clear S175
    have S188 := Lib.hid (it_below S176.out hb183)
    clear S176
    have S189 := Lib.hid (it_below S177.out hb183)
    clear S177
    have X190 := Lib.hid ((hb183.block _ (lt_of_some X178.out)).trans X178.out)
    clear X178
    have X191 := Lib.hid ((hb183.block _ (lt_of_some X179.out)).trans X179.out)
    clear X179
    have X192 := Lib.hid ((hb183.block _ (lt_of_some X180.out)).trans X180.out)
    clear X180
    have X193 := Lib.hid ((hb183.block _ (lt_of_some X181.out)).trans X181.out)
    clear X181
    have X194 := Lib.hid ((hb183.block _ (lt_of_some X182.out)).trans X182.out)
    clear X182
    have hq2 := neqT (fnL M k) (fnL M k)
    rw [decide_eq_true rfl] at hq2
    unfold TV at hq2
    have hq3 : (hasL M k != hasL M k) = false := by simp
    clear F
    generalize fnL M k = y0 at *
    generalize hasL M k = h0 at *
    clear c162 c163 c164 c165 z166 z167 z168 z169
    obtain ⟨⟨c195, c196, c197, c198⟩, z199, z200, z201, z202⟩ := bx4 X190.out
    obtain ⟨⟨c203, c204, c205, c206⟩, z207, z208, z209, z210⟩ := bx4 X191.out
    obtain ⟨⟨c211, c212, c213, c214⟩, z215, z216, z217, z218⟩ := bx4 X194.out
    obtain ⟨⟨c219, c220, c221, c222⟩, z223, z224, z225, z226⟩ := bx4 X184.out
    go_wp2_with fail
    generalize w171.alloc (.cells #[.int .u64 (y0.key : Int), .int .u32 (y0.ck : Int), .int .i64 y0.off, .int .i64 y0.sz] 41) = W9 at *
    generalize w171.heap.size = g227 at *
    clear c195 c196 c197 c198 z199 z200 z201 z202 c203 c204 c205 c206 z207 z208 z209 z210 c211 c212 c213 c214 z215 z216 z217 z218 c219 c220 c221 c222 z223 z224 z225 z226
    refine wp_onlyN ?_
    refine wp_region_headsS (fun w' => Below W9.heap.size W9 w') [0, 1, 3, 5] 7 (by kernel_rfl) (fun _ _ _ _ _ h => h.elim) (by kernel_rfl) (by rfl) (by rfl) (Below.refl _ _).drew ?_
    simp only [pickOps, List.filterMap_cons, List.filterMap_nil, List.getElem?_toArray, List.getElem?_cons_zero, List.getElem?_cons_succ]
    refine wpHeads_step (fun K hK => ?_)
    go_simp
    refine ⟨_, fun _ _ => rfl, hK _ ?_⟩
    clear hK K
    refine wpHeads_step (fun K hK => ?_)
    go_simp
    refine ⟨.agg #[.int .u64 (x.key : Int), .int .u32 (x.ck : Int), .int .i64 x.off, .int .i64 x.sz], fun w' hw' => by obtain ⟨⟨u0, u1, u2, u3⟩, -⟩ := bx4 ((hw'.block _ (lt_of_some X190.out)).trans X190.out); simp [u0, u1, u2, u3], hK _ ?_⟩
    clear hK K
    refine wpHeads_step (fun K hK => ?_)
    go_simp
    refine ⟨.agg #[.int .u64 (x.key : Int), .int .u32 (x.ck : Int), .int .i64 x.off, .int .i64 x.sz], fun w' hw' => by obtain ⟨⟨u0, u1, u2, u3⟩, -⟩ := bx4 ((hw'.block _ (lt_of_some X190.out)).trans X190.out); simp [u0, u1, u2, u3], hK _ ?_⟩
    clear hK K
    refine wpHeads_step (fun K hK => ?_)
    go_simp
    refine ⟨_, fun _ _ => rfl, hK _ ?_⟩
    clear hK K
    refine wpHeads_nil ?_
    have hb228 := (Below.refl W9.heap.size W9).drew
    have HS0 := Lib.hid hb228
    have K229 := Lib.hid (ST.out _ _ K185.out hb228)
    have B230 := Lib.hid (bt B186.out hb228)
    have S231 := Lib.hid (it_below S187.out hb228)
    clear S187
    have S232 := Lib.hid (it_below S188.out hb228)
    clear S188
    have S233 := Lib.hid (it_below S189.out hb228)
    clear S189
    have X234 := Lib.hid ((hb228.block _ (lt_of_some X190.out)).trans X190.out)
    clear X190
    have X235 := Lib.hid ((hb228.block _ (lt_of_some X191.out)).trans X191.out)
    clear X191
    have X236 := Lib.hid ((hb228.block _ (lt_of_some X192.out)).trans X192.out)
    clear X192
    have X237 := Lib.hid ((hb228.block _ (lt_of_some X193.out)).trans X193.out)
    clear X193
    have X238 := Lib.hid ((hb228.block _ (lt_of_some X194.out)).trans X194.out)
    clear X194
    have X239 := Lib.hid ((hb228.block _ (lt_of_some X184.out)).trans X184.out)
    clear X184
    generalize W9.drew = WD at *
    refine held_one 2 rfl rfl (by kernel_rfl) fun K hK => ?_
    go_simp
    go_at_call 26
    refine (PT.out _ M x _ K229.out S231.out LB.out.1 OX.out).mono ?_
    rintro e w240 ⟨⟨v7, rfl, hs7⟩, hb241⟩
    have K242 := Lib.hid (ST.out _ _ K229.out hb241)
    have B243 := Lib.hid (bt B230.out hb241)
    have S244 := Lib.hid (it_below S231.out hb241)
    clear S231
    have S245 := Lib.hid (it_below S232.out hb241)
    clear S232
    have S246 := Lib.hid (it_below S233.out hb241)
    clear S233
    have X247 := Lib.hid ((hb241.block _ (lt_of_some X234.out)).trans X234.out)
    clear X234
    have X248 := Lib.hid ((hb241.block _ (lt_of_some X235.out)).trans X235.out)
    clear X235
    have X249 := Lib.hid ((hb241.block _ (lt_of_some X236.out)).trans X236.out)
    clear X236
    have X250 := Lib.hid ((hb241.block _ (lt_of_some X237.out)).trans X237.out)
    clear X237
    have X251 := Lib.hid ((hb241.block _ (lt_of_some X238.out)).trans X238.out)
    clear X238
    have X252 := Lib.hid ((hb241.block _ (lt_of_some X239.out)).trans X239.out)
    clear X239
    have HS253 := Lib.hid (bt HS0.out hb241)
    rw [HP1.out] at hs7
    obtain ⟨a254, cc255, hv258, -, -⟩ := it_form (hs7)
    obtain ⟨m256, hm259⟩ : ∃ q, q = (P1).length := ⟨_, rfl⟩
    rw [← hm259] at hv258
    subst hv258
    have S257 := Lib.hid (hs7)
    clear hs7 hm259
    refine hK _ _ HS253.out ?_
    clear hK K
    refine held_one 4 rfl rfl (by kernel_rfl) fun K hK => ?_
    go_simp
    go_at_call 26
    refine (PT.out _ P1 x _ K242.out S257.out LB.out.2.1 OX.out).mono ?_
    rintro e w260 ⟨⟨v8, rfl, hs8⟩, hb261⟩
    have K262 := Lib.hid (ST.out _ _ K242.out hb261)
    have B263 := Lib.hid (bt B243.out hb261)
    have S264 := Lib.hid (it_below S244.out hb261)
    clear S244
    have S265 := Lib.hid (it_below S245.out hb261)
    clear S245
    have S266 := Lib.hid (it_below S246.out hb261)
    clear S246
    have S267 := Lib.hid (it_below S257.out hb261)
    clear S257
    have X268 := Lib.hid ((hb261.block _ (lt_of_some X247.out)).trans X247.out)
    clear X247
    have X269 := Lib.hid ((hb261.block _ (lt_of_some X248.out)).trans X248.out)
    clear X248
    have X270 := Lib.hid ((hb261.block _ (lt_of_some X249.out)).trans X249.out)
    clear X249
    have X271 := Lib.hid ((hb261.block _ (lt_of_some X250.out)).trans X250.out)
    clear X250
    have X272 := Lib.hid ((hb261.block _ (lt_of_some X251.out)).trans X251.out)
    clear X251
    have X273 := Lib.hid ((hb261.block _ (lt_of_some X252.out)).trans X252.out)
    clear X252
    have HS274 := Lib.hid (bt HS253.out hb261)
    rw [E.out.2.2.2.2] at hs8
    obtain ⟨a275, cc276, hv279, -, -⟩ := it_form (hs8)
    obtain ⟨m277, hm280⟩ : ∃ q, q = (P1).length := ⟨_, rfl⟩
    rw [← hm280] at hv279
    subst hv279
    have S278 := Lib.hid (hs8)
    clear hs8 hm280
    refine hK _ _ HS274.out ?_
    clear hK K
    refine held_one 6 rfl rfl (by kernel_rfl) fun K hK => ?_
    go_simp
    go_at_call 21
    refine (rsame8_any _ _ P1 P1 _ S278.out S265.out).mono ?_
    rintro e w281 ⟨rfl, hb282⟩
    have K283 := Lib.hid (ST.out _ _ K262.out hb282)
    have B284 := Lib.hid (bt B263.out hb282)
    have S285 := Lib.hid (it_below S264.out hb282)
    clear S264
    have S286 := Lib.hid (it_below S265.out hb282)
    clear S265
    have S287 := Lib.hid (it_below S266.out hb282)
    clear S266
    have S288 := Lib.hid (it_below S267.out hb282)
    clear S267
    have S289 := Lib.hid (it_below S278.out hb282)
    clear S278
    have X290 := Lib.hid ((hb282.block _ (lt_of_some X268.out)).trans X268.out)
    clear X268
    have X291 := Lib.hid ((hb282.block _ (lt_of_some X269.out)).trans X269.out)
    clear X269
    have X292 := Lib.hid ((hb282.block _ (lt_of_some X270.out)).trans X270.out)
    clear X270
    have X293 := Lib.hid ((hb282.block _ (lt_of_some X271.out)).trans X271.out)
    clear X271
    have X294 := Lib.hid ((hb282.block _ (lt_of_some X272.out)).trans X272.out)
    clear X272
    have X295 := Lib.hid ((hb282.block _ (lt_of_some X273.out)).trans X273.out)
    clear X273
    have HS296 := Lib.hid (bt HS274.out hb282)
    rw [decide_eq_true rfl]
    refine hK _ _ HS296.out ?_
    clear hK K
    refine held_one 7 rfl rfl (by kernel_rfl) fun K hK => ?_
    go_simp
    refine hK _ _ HS296.out ?_
    clear hK K
    refine held_g 8 rfl (by kernel_rfl) (by kernel_rfl) fun K hK => ?_
    go_simp
    go_at_call 15
    refine (AW.out _ K283.out).mono ?_
    rintro e w297 ⟨rfl, hb298⟩
    have K299 := Lib.hid (ST.out _ _ K283.out hb298)
    have B300 := Lib.hid (bt B284.out hb298)
    have S301 := Lib.hid (it_below S285.out hb298)
    clear S285
    have S302 := Lib.hid (it_below S286.out hb298)
    clear S286
    have S303 := Lib.hid (it_below S287.out hb298)
    clear S287
    have S304 := Lib.hid (it_below S288.out hb298)
    clear S288
    have S305 := Lib.hid (it_below S289.out hb298)
    clear S289
    have X306 := Lib.hid ((hb298.block _ (lt_of_some X290.out)).trans X290.out)
    clear X290
    have X307 := Lib.hid ((hb298.block _ (lt_of_some X291.out)).trans X291.out)
    clear X291
    have X308 := Lib.hid ((hb298.block _ (lt_of_some X292.out)).trans X292.out)
    clear X292
    have X309 := Lib.hid ((hb298.block _ (lt_of_some X293.out)).trans X293.out)
    clear X293
    have X310 := Lib.hid ((hb298.block _ (lt_of_some X294.out)).trans X294.out)
    clear X294
    have X311 := Lib.hid ((hb298.block _ (lt_of_some X295.out)).trans X295.out)
    clear X295
    have HS312 := Lib.hid (bt HS296.out hb298)
    refine hK _ _ HS312.out ?_
    clear hK K
    refine held_one 9 rfl rfl (by kernel_rfl) fun K hK => ?_
    go_simp
    refine hK _ _ HS312.out ?_
    clear hK K
    refine held_one 10 rfl rfl (by kernel_rfl) fun K hK => ?_
    go_simp
    refine hK _ _ HS312.out ?_
    clear hK K
    refine wpAnyH_done (by kernel_rfl) ?_ _
    unfold onlyN
    dsimp only
    go_wp2
    go_ret
    exact ⟨rfl, B300.out⟩
end Go.Proofs.YtihjfnlimdcmkaaDoor.Gf
