/- What is proved here: IndexMaps returns true, over what the laws ask of the program. No condition. -/
import Derived.Test.YtihjfnlimdcmkaaDoorQ8c
namespace Go.Proofs.YtihjfnlimdcmkaaDoor.Gf
open Go Go.Joins Go.ChangeShapes Go.WideShapes Go.ChangeAt Go.RowKit Go.Deep Go.Sort Go.Proofs.YtihjfnlimdcmkaaDoor.By Go.Proofs.YtihjfnlimdcmkaaDoor.Crc Go.Proofs.YtihjfnlimdcmkaaDoor.Qt

theorem su_cut {w : World} {v : Value} {G : List Nat} (h : Su w v G) (hl : 40 < G.length) : ∃ b o c, v = .slice (some ⟨b, o, none⟩) G.length c ∧ G.length ≤ c ∧ Su w (.slice (some ⟨b, o, none⟩) 40 c) (G.take 40) := by
  obtain ⟨b, o, c, hv, h1, h2, h3⟩ := su_cells h (by omega)
  have hl2 : (G.take 40).length = 40 := by rw [List.length_take]; omega
  refine ⟨b, o, c, hv, h1, fun g hg => h.1 g (List.mem_of_mem_take hg), _, _, by rw [hl2], by rw [hl2]; omega, h2, fun _ => ⟨b, o, rfl, fun k hk => ?_⟩⟩
  rw [hl2] at hk
  rw [h3 k (by omega)]
  simp [List.getD, hk]
/-- What the two lists of the loop have in common. -/
theorem two_lists {W : World} {v1 v2 : Value} {L1 L2 : List Itm} (h1 : It W v1 L1) (h2 : It W v2 L2) (l1 : L1.length ≤ 40) (l2 : L2.length ≤ 40) {i : Nat} (hi : i < 2) : ∃ sv lv, #[v1, v2][i]? = some sv ∧ It W sv lv ∧ lv.length ≤ 40 := by
  match i, hi with
  | 0, _ => exact ⟨v1, L1, rfl, h1, l1⟩
  | 1, _ => exact ⟨v2, L2, rfl, h2, l2⟩
theorem two_keys {a b : Nat} (h1 : a < 18446744073709551616) (h2 : b < 18446744073709551616) {i : Nat} (hi : i < 2) : ∃ k : Nat, #[Value.int .u64 (a : Int), Value.int .u64 (b : Int)][i]? = some (.int .u64 (k : Int)) ∧ k < 18446744073709551616 := by
  match i, hi with
  | 0, _ => exact ⟨a, rfl, h1⟩
  | 1, _ => exact ⟨b, rfl, h2⟩
theorem row_at {w : World} {g : Nat} {cs : Array Value} {T : TypeId} (h : w.heap[g]? = some (.cells cs T (0, 0))) : ∀ (q : Nat) (z : Value), cs[q]? = some z → w.cell? ⟨g, q, none⟩ = some z := fun q _ hz => (cell_of_row w g q _ _ _ h).trans hz
set_option maxRecDepth 100000 in
set_option maxHeartbeats 25600000 in
theorem maps8_walk {Ok : World → Prop} (P : PC8 Ok) (va vb : Value) (LA LB : List Itm) (x : Itm) (vg : Value) (G : List Nat) (k : Nat) (w : World) (hw : Ok w) (sa : It w va LA) (sb : It w vb LB) (okx : ItOk x) (sg : Su w vg G) (hk : k < 18446744073709551616) : Calls Tryd.prog 7 #[va, vb, TV x, vg, .int .u64 (k : Int)] w fun e w' => e = .returned (.bool true) ∧ Below w.heap.size w w' := by
  have FN := Lib.hid (fun v M k W (h : Ok W) a b c => P.find v M k W h a b c)
  have PT := Lib.hid (fun v M x W (h : Ok W) a b c => P.put v M x W h a b c)
  have DR := Lib.hid (fun v M k W (h : Ok W) a b c => P.drop v M k W h a b c)
  have MG := Lib.hid (fun vo vf vg O F G W (h : Ok W) a b c d e f => P.merge vo vf vg O F G W h a b c d e f)
  have ST := Lib.hid (fun (W W' : World) => P.st (w := W) (w' := W'))
  have AW := Lib.hid (awake8_any P.toPC8a)
  have RPT := Lib.hid (fun v M x ok W a h => rput_any v M x ok W a h)
  clear P
  unfold LI at PT DR MG
  unfold FD at FN
  have hma := made_length LA
  have hla := take40 LA
  have hlb := take40 LB
  have OX := Lib.hid okx
  have HKB := Lib.hid hk
  have B0 := Lib.hid (bel_al w (.cells #[.int .u64 (x.key : Int), .int .u32 (x.ck : Int), .int .i64 x.off, .int .i64 x.sz] 41))
  have K0 := Lib.hid (ST.out _ _ hw B0.out)
  have X0 := Lib.hid (heap_alloc_new w (.cells #[.int .u64 (x.key : Int), .int .u32 (x.ck : Int), .int .i64 x.off, .int .i64 x.sz] 41))
  have LBD := Lib.hid (And.intro hma (And.intro hla hlb))
  have SA := Lib.hid (it_below sa B0.out)
  have SB := Lib.hid (it_below sb B0.out)
  have SG0 := Lib.hid (su_below sg B0.out)
  unfold TV at FN PT RPT ⊢
  clear okx hk hma hla hlb
  obtain ⟨aa, ca, rfl, -, -⟩ := it_form sa
  obtain ⟨ab, cb, rfl, -, -⟩ := it_form sb
  generalize LA.length = na at *
  generalize LB.length = nb at *
  clear sa sb
  by_cases hg : 40 < G.length
  · obtain ⟨bg, og, cg, rfl, hgc, hsu⟩ := su_cut SG0.out hg
    have SG := Lib.hid hsu
    have HG2 : Hid ((G.take 40).length ≤ 1000) := by show _ ≤ _; rw [List.length_take]; omega
    have hl0 : decide ((40 : Int) < (G.length : Int)) = true := decide_eq_true (by omega)
    have hl1 : (40 : Int) ≤ (cg : Int) := by omega
    have hl2 : ¬ cg = 40 := by omega
    generalize G.take 40 = G2 at *
    generalize G.length = ng at *
    clear sg hsu SG0 hg hgc
    go_enter Tryd.func7, Tryd.ntmps7
    go_wp2_with fail
    refine (cut8_any _ LA _ SA.out).mono ?_
    rintro e w1 ⟨⟨v1, rfl, hs1⟩, rfl⟩
    obtain ⟨a1, cc2, hv5, -, -⟩ := it_form (hs1)
    obtain ⟨m3, hm6⟩ : ∃ q, q = (LA.take 40).length := ⟨_, rfl⟩
    rw [← hm6] at hv5
    subst hv5
    have S4 := Lib.hid (hs1)
    clear hs1 hm6
    go_wp2_with fail
    refine (made_any _ LA _ SA.out).mono ?_
    rintro e w7 ⟨⟨v2, rfl, ho2⟩, hb8⟩
    have K9 := Lib.hid (ST.out _ _ K0.out hb8)
    have B10 := Lib.hid (bt B0.out hb8)
    have S11 := Lib.hid (it_below SA.out hb8)
    clear SA
    have S12 := Lib.hid (it_below SB.out hb8)
    clear SB
    have S13 := Lib.hid (it_below S4.out hb8)
    clear S4
    have U14 := Lib.hid (su_below SG.out hb8)
    clear SG
    have X15 := Lib.hid ((hb8.block _ (lt_of_some X0.out)).trans X0.out)
    clear X0
    obtain ⟨a16, cc17, hv20, -, -⟩ := it_form (owT_it ho2)
    obtain ⟨m18, hm21⟩ : ∃ q, q = (madeL LA).length := ⟨_, rfl⟩
    rw [← hm21] at hv20
    subst hv20
    have S19 := Lib.hid (owT_it ho2)
    clear ho2 hm21
    have hb22 := bel_al w7 (.cells #[.slice a1 m3 cc2, .slice a16 m18 cc17] 22)
    have Y23 := Lib.hid (row_at (heap_alloc_new w7 (.cells #[.slice a1 m3 cc2, .slice a16 m18 cc17] 22)))
    have K24 := Lib.hid (ST.out _ _ K9.out hb22)
    have B25 := Lib.hid (bt B10.out hb22)
    have S26 := Lib.hid (it_below S11.out hb22)
    clear S11
    have S27 := Lib.hid (it_below S12.out hb22)
    clear S12
    have S28 := Lib.hid (it_below S13.out hb22)
    clear S13
    have S29 := Lib.hid (it_below S19.out hb22)
    clear S19
    have U30 := Lib.hid (su_below U14.out hb22)
    clear U14
    have X31 := Lib.hid ((hb22.block _ (lt_of_some X15.out)).trans X15.out)
    clear X15
    clear hb22
    go_wp2_with fail
    generalize w7.alloc (.cells #[.slice a1 m3 cc2, .slice a16 m18 cc17] 22) = WA at *
    generalize w7.heap.size = g32 at *
    have F33 := Lib.hid (fun W' (h : Below WA.heap.size WA W') => ST.out _ _ K24.out h)
    have F34 := Lib.hid (fun W' (h : Below WA.heap.size WA W') => bt B25.out h)
    have F35 := Lib.hid (fun W' (h : Below WA.heap.size WA W') => it_below S26.out h)
    have F36 := Lib.hid (fun W' (h : Below WA.heap.size WA W') => it_below S27.out h)
    have F37 := Lib.hid (fun W' (h : Below WA.heap.size WA W') => it_below S28.out h)
    have F38 := Lib.hid (fun W' (h : Below WA.heap.size WA W') => it_below S29.out h)
    have F39 := Lib.hid (fun W' (h : Below WA.heap.size WA W') => su_below U30.out h)
    have F40 := Lib.hid (fun W' (h : Below WA.heap.size WA W') => (h.block _ (lt_of_some X31.out)).trans X31.out)
    have F41 := Lib.hid (fun W' (h : Below WA.heap.size WA W') => (fun q z hz => (h.cell (block_lt_of_cell (Y23.out q z hz))).trans (Y23.out q z hz)))
    go_loopw [30] (fun t wr => ∃ i : Nat, i ≤ 2 ∧ t = .int .i64 (i : Int) ∧ Below WA.heap.size WA wr) (fun t _ => 2 - (intOf t).toNat)
    case atStart => exact ⟨0, by omega, rfl, Below.refl _ _⟩
    case round =>
      obtain ⟨i, hi, rfl, hB⟩ := hrel
      by_cases hi2 : i < 2
      · have hl4 : decide ((i : Int) < 2) = true := decide_eq_true (by omega)
        have p0 : (0 : Int) ≤ (i : Int) := by omega
        have p1 : (i : Int) < 2 := by omega
        have K42 := Lib.hid (F33.out wr hB)
        have B43 := Lib.hid (F34.out wr hB)
        have S44 := Lib.hid (F35.out wr hB)
        have S45 := Lib.hid (F36.out wr hB)
        have S46 := Lib.hid (F37.out wr hB)
        have S47 := Lib.hid (F38.out wr hB)
        have U48 := Lib.hid (F39.out wr hB)
        have X49 := Lib.hid (F40.out wr hB)
        have Y50 := Lib.hid (F41.out wr hB)
        have R51 := Lib.hid hB
        clear hB
        obtain ⟨sv, lv, hrow, hsv, hlv⟩ := two_lists S46.out S47.out LBD.out.2.1 LBD.out.1 hi2
        have hc := Y50.out i sv hrow
        have HLV := Lib.hid hlv
        clear hlv hrow
        obtain ⟨a52, cc53, hv56, -, -⟩ := it_form (hsv)
        obtain ⟨m54, hm57⟩ : ∃ q, q = (lv).length := ⟨_, rfl⟩
        rw [← hm57] at hv56
        subst hv56
        have S55 := Lib.hid (hsv)
        clear hsv hm57
        obtain ⟨⟨c58, c59, c60, c61⟩, z62, z63, z64, z65⟩ := bx4 X49.out
        have hb66 := bel_al wr (.cells #[.int .u64 (k : Int), .int .u64 (x.key : Int)] 38)
        have Y67 := Lib.hid (row_at (heap_alloc_new wr (.cells #[.int .u64 (k : Int), .int .u64 (x.key : Int)] 38)))
        have K68 := Lib.hid (ST.out _ _ K42.out hb66)
        have B69 := Lib.hid (bt B43.out hb66)
        have S70 := Lib.hid (it_below S44.out hb66)
        clear S44
        have S71 := Lib.hid (it_below S45.out hb66)
        clear S45
        have S72 := Lib.hid (it_below S46.out hb66)
        clear S46
        have S73 := Lib.hid (it_below S47.out hb66)
        clear S47
        have S74 := Lib.hid (it_below S55.out hb66)
        clear S55
        have U75 := Lib.hid (su_below U48.out hb66)
        clear U48
        have R76 := Lib.hid (bt R51.out hb66)
        clear R51
        have Y77 := Lib.hid (fun q z hz => (hb66.cell (block_lt_of_cell (Y50.out q z hz))).trans (Y50.out q z hz))
        clear Y50
        have X78 := Lib.hid ((hb66.block _ (lt_of_some X49.out)).trans X49.out)
        clear X49
        clear hb66
        go_wp2_with fail
        generalize wr.alloc (.cells #[.int .u64 (k : Int), .int .u64 (x.key : Int)] 38) = WB at *
        generalize wr.heap.size = g79 at *
        clear hc
        have F80 := Lib.hid (fun W' (h : Below WB.heap.size WB W') => ST.out _ _ K68.out h)
        have F81 := Lib.hid (fun W' (h : Below WB.heap.size WB W') => bt B69.out h)
        have F82 := Lib.hid (fun W' (h : Below WB.heap.size WB W') => it_below S70.out h)
        have F83 := Lib.hid (fun W' (h : Below WB.heap.size WB W') => it_below S71.out h)
        have F84 := Lib.hid (fun W' (h : Below WB.heap.size WB W') => it_below S72.out h)
        have F85 := Lib.hid (fun W' (h : Below WB.heap.size WB W') => it_below S73.out h)
        have F86 := Lib.hid (fun W' (h : Below WB.heap.size WB W') => it_below S74.out h)
        have F87 := Lib.hid (fun W' (h : Below WB.heap.size WB W') => su_below U75.out h)
        have F88 := Lib.hid (fun W' (h : Below WB.heap.size WB W') => (h.block _ (lt_of_some X78.out)).trans X78.out)
        have F89 := Lib.hid (fun W' (h : Below WB.heap.size WB W') => bt R76.out h)
        have F90 := Lib.hid (fun W' (h : Below WB.heap.size WB W') => (fun q z hz => (h.cell (block_lt_of_cell (Y77.out q z hz))).trans (Y77.out q z hz)))
        have F91 := Lib.hid (fun W' (h : Below WB.heap.size WB W') => (fun q z hz => (h.cell (block_lt_of_cell (Y67.out q z hz))).trans (Y67.out q z hz)))
        clear c58 c59 c60 c61 z62 z63 z64 z65
        go_loopw [39] (fun t wr => ∃ j : Nat, j ≤ 2 ∧ t = .int .i64 (j : Int) ∧ Below WB.heap.size WB wr) (fun t _ => 2 - (intOf t).toNat)
        case atStart => exact ⟨0, by omega, rfl, Below.refl _ _⟩
        case round =>
          obtain ⟨j, hj, rfl, hB2⟩ := hrel
          by_cases hj2 : j < 2
          · have hl5 : decide ((j : Int) < 2) = true := decide_eq_true (by omega)
            have q0 : (0 : Int) ≤ (j : Int) := by omega
            have q1 : (j : Int) < 2 := by omega
            have K92 := Lib.hid (F80.out wr hB2)
            have B93 := Lib.hid (F81.out wr hB2)
            have S94 := Lib.hid (F82.out wr hB2)
            have S95 := Lib.hid (F83.out wr hB2)
            have S96 := Lib.hid (F84.out wr hB2)
            have S97 := Lib.hid (F85.out wr hB2)
            have S98 := Lib.hid (F86.out wr hB2)
            have U99 := Lib.hid (F87.out wr hB2)
            have X100 := Lib.hid (F88.out wr hB2)
            have R101 := Lib.hid (F89.out wr hB2)
            have Y102 := Lib.hid (F90.out wr hB2)
            have Y103 := Lib.hid (F91.out wr hB2)
            have R104 := Lib.hid hB2
            clear hB2
            obtain ⟨kk, hkk, hkb⟩ := two_keys HKB.out OX.out.key hj2
            have hkc := Y103.out j _ hkk
            have HKK := Lib.hid hkb
            clear hkk hkb
            go_wp2_with fail
            refine (FN.out _ lv kk _ K92.out S98.out (by have := HLV.out; omega) HKK.out).mono ?_
            rintro e w105 ⟨rfl, hb106⟩
            have K107 := Lib.hid (ST.out _ _ K92.out hb106)
            have B108 := Lib.hid (bt B93.out hb106)
            have S109 := Lib.hid (it_below S94.out hb106)
            clear S94
            have S110 := Lib.hid (it_below S95.out hb106)
            clear S95
            have S111 := Lib.hid (it_below S96.out hb106)
            clear S96
            have S112 := Lib.hid (it_below S97.out hb106)
            clear S97
            have S113 := Lib.hid (it_below S98.out hb106)
            clear S98
            have U114 := Lib.hid (su_below U99.out hb106)
            clear U99
            have R115 := Lib.hid (bt R101.out hb106)
            clear R101
            have R116 := Lib.hid (bt R104.out hb106)
            clear R104
            have Y117 := Lib.hid (fun q z hz => (hb106.cell (block_lt_of_cell (Y102.out q z hz))).trans (Y102.out q z hz))
            clear Y102
            have Y118 := Lib.hid (fun q z hz => (hb106.cell (block_lt_of_cell (Y103.out q z hz))).trans (Y103.out q z hz))
            clear Y103
            have X119 := Lib.hid ((hb106.block _ (lt_of_some X100.out)).trans X100.out)
            clear X100
            clear hkc
            have hb120 := bel_al w105 (.cells #[.int .u64 ((fnL lv kk).key : Int), .int .u32 ((fnL lv kk).ck : Int), .int .i64 (fnL lv kk).off, .int .i64 (fnL lv kk).sz] 41)
            have X121 := Lib.hid (heap_alloc_new w105 (.cells #[.int .u64 ((fnL lv kk).key : Int), .int .u32 ((fnL lv kk).ck : Int), .int .i64 (fnL lv kk).off, .int .i64 (fnL lv kk).sz] 41))
            have K122 := Lib.hid (ST.out _ _ K107.out hb120)
            have B123 := Lib.hid (bt B108.out hb120)
            have S124 := Lib.hid (it_below S109.out hb120)
            clear S109
            have S125 := Lib.hid (it_below S110.out hb120)
            clear S110
            have S126 := Lib.hid (it_below S111.out hb120)
            clear S111
            have S127 := Lib.hid (it_below S112.out hb120)
            clear S112
            have S128 := Lib.hid (it_below S113.out hb120)
            clear S113
            have U129 := Lib.hid (su_below U114.out hb120)
            clear U114
            have R130 := Lib.hid (bt R115.out hb120)
            clear R115
            have R131 := Lib.hid (bt R116.out hb120)
            clear R116
            have Y132 := Lib.hid (fun q z hz => (hb120.cell (block_lt_of_cell (Y117.out q z hz))).trans (Y117.out q z hz))
            clear Y117
            have Y133 := Lib.hid (fun q z hz => (hb120.cell (block_lt_of_cell (Y118.out q z hz))).trans (Y118.out q z hz))
            clear Y118
            have X134 := Lib.hid ((hb120.block _ (lt_of_some X119.out)).trans X119.out)
            clear X119
            go_wp2_with fail
            generalize w105.alloc (.cells #[.int .u64 ((fnL lv kk).key : Int), .int .u32 ((fnL lv kk).ck : Int), .int .i64 (fnL lv kk).off, .int .i64 (fnL lv kk).sz] 41) = W3 at *
            generalize w105.heap.size = g135 at *
            refine (rfind8_any _ lv kk _ S128.out).mono ?_
            rintro e w136 ⟨rfl, hb137⟩
            have K138 := Lib.hid (ST.out _ _ K122.out hb137)
            have B139 := Lib.hid (bt B123.out hb137)
            have S140 := Lib.hid (it_below S124.out hb137)
            clear S124
            have S141 := Lib.hid (it_below S125.out hb137)
            clear S125
            have S142 := Lib.hid (it_below S126.out hb137)
            clear S126
            have S143 := Lib.hid (it_below S127.out hb137)
            clear S127
            have S144 := Lib.hid (it_below S128.out hb137)
            clear S128
            have U145 := Lib.hid (su_below U129.out hb137)
            clear U129
            have R146 := Lib.hid (bt R130.out hb137)
            clear R130
            have R147 := Lib.hid (bt R131.out hb137)
            clear R131
            have Y148 := Lib.hid (fun q z hz => (hb137.cell (block_lt_of_cell (Y132.out q z hz))).trans (Y132.out q z hz))
            clear Y132
            have Y149 := Lib.hid (fun q z hz => (hb137.cell (block_lt_of_cell (Y133.out q z hz))).trans (Y133.out q z hz))
            clear Y133
            have X150 := Lib.hid ((hb137.block _ (lt_of_some X134.out)).trans X134.out)
            clear X134
            have X151 := Lib.hid ((hb137.block _ (lt_of_some X121.out)).trans X121.out)
            clear X121
            unfold TV
            have hb152 := bel_al w136 (.cells #[.int .u64 ((fnL lv kk).key : Int), .int .u32 ((fnL lv kk).ck : Int), .int .i64 (fnL lv kk).off, .int .i64 (fnL lv kk).sz] 41)
            have X153 := Lib.hid (heap_alloc_new w136 (.cells #[.int .u64 ((fnL lv kk).key : Int), .int .u32 ((fnL lv kk).ck : Int), .int .i64 (fnL lv kk).off, .int .i64 (fnL lv kk).sz] 41))
            have K154 := Lib.hid (ST.out _ _ K138.out hb152)
            have B155 := Lib.hid (bt B139.out hb152)
            have S156 := Lib.hid (it_below S140.out hb152)
            clear S140
            have S157 := Lib.hid (it_below S141.out hb152)
            clear S141
            have S158 := Lib.hid (it_below S142.out hb152)
            clear S142
            have S159 := Lib.hid (it_below S143.out hb152)
            clear S143
            have S160 := Lib.hid (it_below S144.out hb152)
            clear S144
            have U161 := Lib.hid (su_below U145.out hb152)
            clear U145
            have R162 := Lib.hid (bt R146.out hb152)
            clear R146
            have R163 := Lib.hid (bt R147.out hb152)
            clear R147
            have Y164 := Lib.hid (fun q z hz => (hb152.cell (block_lt_of_cell (Y148.out q z hz))).trans (Y148.out q z hz))
            clear Y148
            have Y165 := Lib.hid (fun q z hz => (hb152.cell (block_lt_of_cell (Y149.out q z hz))).trans (Y149.out q z hz))
            clear Y149
            have X166 := Lib.hid ((hb152.block _ (lt_of_some X150.out)).trans X150.out)
            clear X150
            have X167 := Lib.hid ((hb152.block _ (lt_of_some X151.out)).trans X151.out)
            clear X151
            have hq := neqT (fnL lv kk) (fnL lv kk)
            rw [decide_eq_true rfl] at hq
            unfold TV at hq
            have hq3 : (hasL lv kk != hasL lv kk) = false := by simp
            generalize fnL lv kk = y0 at *
            generalize hasL lv kk = h0 at *
            obtain ⟨⟨c168, c169, c170, c171⟩, z172, z173, z174, z175⟩ := bx4 X167.out
            obtain ⟨⟨c176, c177, c178, c179⟩, z180, z181, z182, z183⟩ := bx4 X153.out
            go_wp2_with fail
            generalize w136.alloc (.cells #[.int .u64 (y0.key : Int), .int .u32 (y0.ck : Int), .int .i64 y0.off, .int .i64 y0.sz] 41) = W4 at *
            generalize w136.heap.size = g184 at *
            refine (DR.out _ lv kk _ K154.out S160.out (by have := HLV.out; omega) HKK.out).mono ?_
            rintro e w185 ⟨⟨v5, rfl, hs5⟩, hb186⟩
            have K187 := Lib.hid (ST.out _ _ K154.out hb186)
            have B188 := Lib.hid (bt B155.out hb186)
            have S189 := Lib.hid (it_below S156.out hb186)
            clear S156
            have S190 := Lib.hid (it_below S157.out hb186)
            clear S157
            have S191 := Lib.hid (it_below S158.out hb186)
            clear S158
            have S192 := Lib.hid (it_below S159.out hb186)
            clear S159
            have S193 := Lib.hid (it_below S160.out hb186)
            clear S160
            have U194 := Lib.hid (su_below U161.out hb186)
            clear U161
            have R195 := Lib.hid (bt R162.out hb186)
            clear R162
            have R196 := Lib.hid (bt R163.out hb186)
            clear R163
            have Y197 := Lib.hid (fun q z hz => (hb186.cell (block_lt_of_cell (Y164.out q z hz))).trans (Y164.out q z hz))
            clear Y164
            have Y198 := Lib.hid (fun q z hz => (hb186.cell (block_lt_of_cell (Y165.out q z hz))).trans (Y165.out q z hz))
            clear Y165
            have X199 := Lib.hid ((hb186.block _ (lt_of_some X166.out)).trans X166.out)
            clear X166
            have X200 := Lib.hid ((hb186.block _ (lt_of_some X167.out)).trans X167.out)
            clear X167
            have X201 := Lib.hid ((hb186.block _ (lt_of_some X153.out)).trans X153.out)
            clear X153
            obtain ⟨a202, cc203, hv206, -, -⟩ := it_form (hs5)
            obtain ⟨m204, hm207⟩ : ∃ q, q = (dropL lv kk).length := ⟨_, rfl⟩
            rw [← hm207] at hv206
            subst hv206
            have S205 := Lib.hid (hs5)
            clear hs5 hm207
            go_wp2_with fail
            refine (rdrop_any _ lv kk _ S193.out (by have := HLV.out; omega)).mono ?_
            rintro e w208 ⟨⟨v6, rfl, ho6⟩, hb209⟩
            have K210 := Lib.hid (ST.out _ _ K187.out hb209)
            have B211 := Lib.hid (bt B188.out hb209)
            have S212 := Lib.hid (it_below S189.out hb209)
            clear S189
            have S213 := Lib.hid (it_below S190.out hb209)
            clear S190
            have S214 := Lib.hid (it_below S191.out hb209)
            clear S191
            have S215 := Lib.hid (it_below S192.out hb209)
            clear S192
            have S216 := Lib.hid (it_below S193.out hb209)
            clear S193
            have S217 := Lib.hid (it_below S205.out hb209)
            clear S205
            have U218 := Lib.hid (su_below U194.out hb209)
            clear U194
            have R219 := Lib.hid (bt R195.out hb209)
            clear R195
            have R220 := Lib.hid (bt R196.out hb209)
            clear R196
            have Y221 := Lib.hid (fun q z hz => (hb209.cell (block_lt_of_cell (Y197.out q z hz))).trans (Y197.out q z hz))
            clear Y197
            have Y222 := Lib.hid (fun q z hz => (hb209.cell (block_lt_of_cell (Y198.out q z hz))).trans (Y198.out q z hz))
            clear Y198
            have X223 := Lib.hid ((hb209.block _ (lt_of_some X199.out)).trans X199.out)
            clear X199
            have X224 := Lib.hid ((hb209.block _ (lt_of_some X200.out)).trans X200.out)
            clear X200
            have X225 := Lib.hid ((hb209.block _ (lt_of_some X201.out)).trans X201.out)
            clear X201
            obtain ⟨a226, cc227, hv230, -, -⟩ := it_form (owT_it ho6)
            obtain ⟨m228, hm231⟩ : ∃ q, q = (dropL lv kk).length := ⟨_, rfl⟩
            rw [← hm231] at hv230
            subst hv230
            have S229 := Lib.hid (owT_it ho6)
            clear ho6 hm231
            go_wp2_with fail
            refine (rsame8_any _ _ _ _ _ S217.out S229.out).mono ?_
            rintro e w232 ⟨rfl, hb233⟩
            have K234 := Lib.hid (ST.out _ _ K210.out hb233)
            have B235 := Lib.hid (bt B211.out hb233)
            have S236 := Lib.hid (it_below S212.out hb233)
            clear S212
            have S237 := Lib.hid (it_below S213.out hb233)
            clear S213
            have S238 := Lib.hid (it_below S214.out hb233)
            clear S214
            have S239 := Lib.hid (it_below S215.out hb233)
            clear S215
            have S240 := Lib.hid (it_below S216.out hb233)
            clear S216
            have S241 := Lib.hid (it_below S217.out hb233)
            clear S217
            have S242 := Lib.hid (it_below S229.out hb233)
            clear S229
            have U243 := Lib.hid (su_below U218.out hb233)
            clear U218
            have R244 := Lib.hid (bt R219.out hb233)
            clear R219
            have R245 := Lib.hid (bt R220.out hb233)
            clear R220
            have Y246 := Lib.hid (fun q z hz => (hb233.cell (block_lt_of_cell (Y221.out q z hz))).trans (Y221.out q z hz))
            clear Y221
            have Y247 := Lib.hid (fun q z hz => (hb233.cell (block_lt_of_cell (Y222.out q z hz))).trans (Y222.out q z hz))
            clear Y222
            have X248 := Lib.hid ((hb233.block _ (lt_of_some X223.out)).trans X223.out)
            clear X223
            have X249 := Lib.hid ((hb233.block _ (lt_of_some X224.out)).trans X224.out)
            clear X224
            have X250 := Lib.hid ((hb233.block _ (lt_of_some X225.out)).trans X225.out)
            clear X225
            rw [decide_eq_true rfl]
            clear c168 c169 c170 c171 z172 z173 z174 z175 c176 c177 c178 c179 z180 z181 z182 z183 hq hq3
            go_wp2
            go_roundw
            case rel => exact ⟨j + 1, by omega, by go_num, R245.out⟩
            case measure => simp [intOf]; omega
          · obtain rfl : j = 2 := by omega
            rw [show ((2 : Nat) : Int) = 2 from rfl]
            have K92 := Lib.hid (F80.out wr hB2)
            have B93 := Lib.hid (F81.out wr hB2)
            have S94 := Lib.hid (F82.out wr hB2)
            have S95 := Lib.hid (F83.out wr hB2)
            have S96 := Lib.hid (F84.out wr hB2)
            have S97 := Lib.hid (F85.out wr hB2)
            have S98 := Lib.hid (F86.out wr hB2)
            have U99 := Lib.hid (F87.out wr hB2)
            have X100 := Lib.hid (F88.out wr hB2)
            have R101 := Lib.hid (F89.out wr hB2)
            have Y102 := Lib.hid (F90.out wr hB2)
            have Y103 := Lib.hid (F91.out wr hB2)
            have R104 := Lib.hid hB2
            clear hB2
            go_wp2_with fail
            refine wp_onlyN ?_
            refine wp_region_headsS (fun w' => Below wr.heap.size wr w') [0, 1, 3, 4] 18 (by kernel_rfl) (fun _ _ _ _ _ h => h.elim) (by kernel_rfl) (by rfl) (by rfl) (Below.refl _ _).drew ?_
            simp only [pickOps, List.filterMap_cons, List.filterMap_nil, List.getElem?_toArray, List.getElem?_cons_zero, List.getElem?_cons_succ]
            refine wpHeads_step (fun K hK => ?_)
            go_simp
            refine ⟨_, fun _ _ => rfl, hK _ ?_⟩
            clear hK K
            refine wpHeads_step (fun K hK => ?_)
            go_simp
            refine ⟨.agg #[.int .u64 (x.key : Int), .int .u32 (x.ck : Int), .int .i64 x.off, .int .i64 x.sz], fun w' hw' => by obtain ⟨⟨u0, u1, u2, u3⟩, -⟩ := bx4 ((hw'.block _ (lt_of_some X100.out)).trans X100.out); simp [u0, u1, u2, u3], hK _ ?_⟩
            clear hK K
            refine wpHeads_step (fun K hK => ?_)
            go_simp
            refine ⟨_, fun _ _ => rfl, hK _ ?_⟩
            clear hK K
            refine wpHeads_step (fun K hK => ?_)
            go_simp
            refine ⟨.agg #[.int .u64 (x.key : Int), .int .u32 (x.ck : Int), .int .i64 x.off, .int .i64 x.sz], fun w' hw' => by obtain ⟨⟨u0, u1, u2, u3⟩, -⟩ := bx4 ((hw'.block _ (lt_of_some X100.out)).trans X100.out); simp [u0, u1, u2, u3], hK _ ?_⟩
            clear hK K
            refine wpHeads_nil ?_
            have hb105 := (Below.refl wr.heap.size wr).drew
            have HS106 := Lib.hid hb105
            have K107 := Lib.hid (ST.out _ _ K92.out hb105)
            have B108 := Lib.hid (bt B93.out hb105)
            have S109 := Lib.hid (it_below S94.out hb105)
            clear S94
            have S110 := Lib.hid (it_below S95.out hb105)
            clear S95
            have S111 := Lib.hid (it_below S96.out hb105)
            clear S96
            have S112 := Lib.hid (it_below S97.out hb105)
            clear S97
            have S113 := Lib.hid (it_below S98.out hb105)
            clear S98
            have U114 := Lib.hid (su_below U99.out hb105)
            clear U99
            have R115 := Lib.hid (bt R101.out hb105)
            clear R101
            have R116 := Lib.hid (bt R104.out hb105)
            clear R104
            have Y117 := Lib.hid (fun q z hz => (hb105.cell (block_lt_of_cell (Y102.out q z hz))).trans (Y102.out q z hz))
            clear Y102
            have Y118 := Lib.hid (fun q z hz => (hb105.cell (block_lt_of_cell (Y103.out q z hz))).trans (Y103.out q z hz))
            clear Y103
            have X119 := Lib.hid ((hb105.block _ (lt_of_some X100.out)).trans X100.out)
            clear X100
            generalize wr.drew = WD120 at *
            refine held_one 2 rfl rfl (by kernel_rfl) fun K hK => ?_
            go_simp
            go_at_call 26
            refine (PT.out _ lv x _ K107.out S113.out (by have := HLV.out; omega) OX.out).mono ?_
            rintro e w121 ⟨⟨v7, rfl, hs7⟩, hb122⟩
            have K123 := Lib.hid (ST.out _ _ K107.out hb122)
            have B124 := Lib.hid (bt B108.out hb122)
            have S125 := Lib.hid (it_below S109.out hb122)
            clear S109
            have S126 := Lib.hid (it_below S110.out hb122)
            clear S110
            have S127 := Lib.hid (it_below S111.out hb122)
            clear S111
            have S128 := Lib.hid (it_below S112.out hb122)
            clear S112
            have S129 := Lib.hid (it_below S113.out hb122)
            clear S113
            have U130 := Lib.hid (su_below U114.out hb122)
            clear U114
            have R131 := Lib.hid (bt R115.out hb122)
            clear R115
            have R132 := Lib.hid (bt R116.out hb122)
            clear R116
            have Y133 := Lib.hid (fun q z hz => (hb122.cell (block_lt_of_cell (Y117.out q z hz))).trans (Y117.out q z hz))
            clear Y117
            have Y134 := Lib.hid (fun q z hz => (hb122.cell (block_lt_of_cell (Y118.out q z hz))).trans (Y118.out q z hz))
            clear Y118
            have X135 := Lib.hid ((hb122.block _ (lt_of_some X119.out)).trans X119.out)
            clear X119
            have HS136 := Lib.hid (bt HS106.out hb122)
            obtain ⟨a137, cc138, hv141, -, -⟩ := it_form (hs7)
            obtain ⟨m139, hm142⟩ : ∃ q, q = (putL lv x).length := ⟨_, rfl⟩
            rw [← hm142] at hv141
            subst hv141
            have S140 := Lib.hid (hs7)
            clear hs7 hm142
            refine hK _ _ HS136.out ?_
            clear hK K
            refine held_one 5 rfl rfl (by kernel_rfl) fun K hK => ?_
            go_simp
            go_at_call 27
            refine (RPT.out _ lv x OX.out _ S129.out (by have := HLV.out; omega)).mono ?_
            rintro e w143 ⟨⟨v8, rfl, ho8⟩, hb144⟩
            have K145 := Lib.hid (ST.out _ _ K123.out hb144)
            have B146 := Lib.hid (bt B124.out hb144)
            have S147 := Lib.hid (it_below S125.out hb144)
            clear S125
            have S148 := Lib.hid (it_below S126.out hb144)
            clear S126
            have S149 := Lib.hid (it_below S127.out hb144)
            clear S127
            have S150 := Lib.hid (it_below S128.out hb144)
            clear S128
            have S151 := Lib.hid (it_below S129.out hb144)
            clear S129
            have S152 := Lib.hid (it_below S140.out hb144)
            clear S140
            have U153 := Lib.hid (su_below U130.out hb144)
            clear U130
            have R154 := Lib.hid (bt R131.out hb144)
            clear R131
            have R155 := Lib.hid (bt R132.out hb144)
            clear R132
            have Y156 := Lib.hid (fun q z hz => (hb144.cell (block_lt_of_cell (Y133.out q z hz))).trans (Y133.out q z hz))
            clear Y133
            have Y157 := Lib.hid (fun q z hz => (hb144.cell (block_lt_of_cell (Y134.out q z hz))).trans (Y134.out q z hz))
            clear Y134
            have X158 := Lib.hid ((hb144.block _ (lt_of_some X135.out)).trans X135.out)
            clear X135
            have HS159 := Lib.hid (bt HS136.out hb144)
            obtain ⟨a160, cc161, hv164, -, -⟩ := it_form (owT_it ho8)
            obtain ⟨m162, hm165⟩ : ∃ q, q = (putL lv x).length := ⟨_, rfl⟩
            rw [← hm165] at hv164
            subst hv164
            have S163 := Lib.hid (owT_it ho8)
            clear ho8 hm165
            refine hK _ _ HS159.out ?_
            clear hK K
            refine held_one 6 rfl rfl (by kernel_rfl) fun K hK => ?_
            go_simp
            go_at_call 21
            refine (rsame8_any _ _ _ _ _ S152.out S163.out).mono ?_
            rintro e w166 ⟨rfl, hb167⟩
            have K168 := Lib.hid (ST.out _ _ K145.out hb167)
            have B169 := Lib.hid (bt B146.out hb167)
            have S170 := Lib.hid (it_below S147.out hb167)
            clear S147
            have S171 := Lib.hid (it_below S148.out hb167)
            clear S148
            have S172 := Lib.hid (it_below S149.out hb167)
            clear S149
            have S173 := Lib.hid (it_below S150.out hb167)
            clear S150
            have S174 := Lib.hid (it_below S151.out hb167)
            clear S151
            have S175 := Lib.hid (it_below S152.out hb167)
            clear S152
            have S176 := Lib.hid (it_below S163.out hb167)
            clear S163
            have U177 := Lib.hid (su_below U153.out hb167)
            clear U153
            have R178 := Lib.hid (bt R154.out hb167)
            clear R154
            have R179 := Lib.hid (bt R155.out hb167)
            clear R155
            have Y180 := Lib.hid (fun q z hz => (hb167.cell (block_lt_of_cell (Y156.out q z hz))).trans (Y156.out q z hz))
            clear Y156
            have Y181 := Lib.hid (fun q z hz => (hb167.cell (block_lt_of_cell (Y157.out q z hz))).trans (Y157.out q z hz))
            clear Y157
            have X182 := Lib.hid ((hb167.block _ (lt_of_some X158.out)).trans X158.out)
            clear X158
            have HS183 := Lib.hid (bt HS159.out hb167)
            rw [decide_eq_true rfl]
            refine hK _ _ HS183.out ?_
            clear hK K
            refine held_one 7 rfl rfl (by kernel_rfl) fun K hK => ?_
            go_simp
            refine hK _ _ HS183.out ?_
            clear hK K
            refine held_one 8 rfl rfl (by kernel_rfl) fun K hK => ?_
            go_simp
            refine hK _ _ HS183.out ?_
            clear hK K
            refine wpAnyH_take (i := 9) (v := Value.slice a52 m54 cc53) rfl (by kernel_rfl) (by kernel_rfl) (by kernel_rfl) (fun _ _ _ h => h) (Or.inl ⟨by kernel_rfl, fun w _ => by rfl⟩) HS183.out ?_
            refine wpAnyH_take (i := 10) (v := Value.slice ab nb cb) rfl (by kernel_rfl) (by kernel_rfl) (by kernel_rfl) (fun _ _ _ h => h) (Or.inl ⟨by kernel_rfl, fun w _ => by rfl⟩) HS183.out ?_
            refine wpAnyH_take (i := 12) (v := Value.slice (some ⟨bg, og, none⟩) 40 cg) rfl (by kernel_rfl) (by kernel_rfl) (by kernel_rfl) (fun _ _ _ h => h) (Or.inl ⟨by kernel_rfl, fun w _ => by rfl⟩) HS183.out ?_
            refine wpAnyH_take (i := 14) (v := Value.slice a52 m54 cc53) rfl (by kernel_rfl) (by kernel_rfl) (by kernel_rfl) (fun _ _ _ h => h) (Or.inl ⟨by kernel_rfl, fun w _ => by rfl⟩) HS183.out ?_
            refine wpAnyH_take (i := 15) (v := Value.slice ab nb cb) rfl (by kernel_rfl) (by kernel_rfl) (by kernel_rfl) (fun _ _ _ h => h) (Or.inl ⟨by kernel_rfl, fun w _ => by rfl⟩) HS183.out ?_
            refine wpAnyH_take (i := 17) (v := Value.slice (some ⟨bg, og, none⟩) 40 cg) rfl (by kernel_rfl) (by kernel_rfl) (by kernel_rfl) (fun _ _ _ h => h) (Or.inl ⟨by kernel_rfl, fun w _ => by rfl⟩) HS183.out ?_
            refine held_g 11 rfl (by kernel_rfl) (by kernel_rfl) fun K hK => ?_
            go_simp
            go_at_call 11
            refine (cut8_any _ LB _ S171.out).mono ?_
            rintro e w186 ⟨⟨v184, rfl, hs185⟩, rfl⟩
            obtain ⟨a187, cc188, hv191, -, -⟩ := it_form (hs185)
            obtain ⟨m189, hm192⟩ : ∃ q, q = (LB.take 40).length := ⟨_, rfl⟩
            rw [← hm192] at hv191
            subst hv191
            have S190 := Lib.hid (hs185)
            clear hs185 hm192
            refine hK _ _ HS183.out ?_
            clear hK K
            refine held_g 13 rfl (by kernel_rfl) (by kernel_rfl) fun K hK => ?_
            go_simp
            go_at_call 28
            refine (MG.out _ _ _ lv (LB.take 40) G2 _ K168.out S174.out S190.out U177.out (by have := HLV.out; omega) (by have := LBD.out.2.2; omega) HG2.out).mono ?_
            rintro e w193 ⟨⟨v9, rfl, hs9⟩, hb194⟩
            have K195 := Lib.hid (ST.out _ _ K168.out hb194)
            have B196 := Lib.hid (bt B169.out hb194)
            have S197 := Lib.hid (it_below S170.out hb194)
            clear S170
            have S198 := Lib.hid (it_below S171.out hb194)
            clear S171
            have S199 := Lib.hid (it_below S172.out hb194)
            clear S172
            have S200 := Lib.hid (it_below S173.out hb194)
            clear S173
            have S201 := Lib.hid (it_below S174.out hb194)
            clear S174
            have S202 := Lib.hid (it_below S175.out hb194)
            clear S175
            have S203 := Lib.hid (it_below S176.out hb194)
            clear S176
            have S204 := Lib.hid (it_below S190.out hb194)
            clear S190
            have U205 := Lib.hid (su_below U177.out hb194)
            clear U177
            have R206 := Lib.hid (bt R178.out hb194)
            clear R178
            have R207 := Lib.hid (bt R179.out hb194)
            clear R179
            have Y208 := Lib.hid (fun q z hz => (hb194.cell (block_lt_of_cell (Y180.out q z hz))).trans (Y180.out q z hz))
            clear Y180
            have Y209 := Lib.hid (fun q z hz => (hb194.cell (block_lt_of_cell (Y181.out q z hz))).trans (Y181.out q z hz))
            clear Y181
            have X210 := Lib.hid ((hb194.block _ (lt_of_some X182.out)).trans X182.out)
            clear X182
            have HS211 := Lib.hid (bt HS183.out hb194)
            obtain ⟨a212, cc213, hv216, -, -⟩ := it_form (hs9)
            obtain ⟨m214, hm217⟩ : ∃ q, q = (mergeL lv (LB.take 40) G2).length := ⟨_, rfl⟩
            rw [← hm217] at hv216
            subst hv216
            have S215 := Lib.hid (hs9)
            clear hs9 hm217
            refine hK _ _ HS211.out ?_
            clear hK K
            refine held_g 16 rfl (by kernel_rfl) (by kernel_rfl) fun K hK => ?_
            go_simp
            go_at_call 11
            refine (cut8_any _ LB _ S198.out).mono ?_
            rintro e w220 ⟨⟨v218, rfl, hs219⟩, rfl⟩
            obtain ⟨a221, cc222, hv225, -, -⟩ := it_form (hs219)
            obtain ⟨m223, hm226⟩ : ∃ q, q = (LB.take 40).length := ⟨_, rfl⟩
            rw [← hm226] at hv225
            subst hv225
            have S224 := Lib.hid (hs219)
            clear hs219 hm226
            refine hK _ _ HS211.out ?_
            clear hK K
            refine held_g 18 rfl (by kernel_rfl) (by kernel_rfl) fun K hK => ?_
            go_simp
            go_at_call 29
            refine (rmerge_any _ _ _ lv (LB.take 40) G2 _ S201.out S224.out U205.out (by have := HLV.out; have := LBD.out.2.2; omega)).mono ?_
            rintro e w227 ⟨⟨v10, rfl, ho10⟩, hb228⟩
            have K229 := Lib.hid (ST.out _ _ K195.out hb228)
            have B230 := Lib.hid (bt B196.out hb228)
            have S231 := Lib.hid (it_below S197.out hb228)
            clear S197
            have S232 := Lib.hid (it_below S198.out hb228)
            clear S198
            have S233 := Lib.hid (it_below S199.out hb228)
            clear S199
            have S234 := Lib.hid (it_below S200.out hb228)
            clear S200
            have S235 := Lib.hid (it_below S201.out hb228)
            clear S201
            have S236 := Lib.hid (it_below S202.out hb228)
            clear S202
            have S237 := Lib.hid (it_below S203.out hb228)
            clear S203
            have S238 := Lib.hid (it_below S204.out hb228)
            clear S204
            have S239 := Lib.hid (it_below S215.out hb228)
            clear S215
            have S240 := Lib.hid (it_below S224.out hb228)
            clear S224
            have U241 := Lib.hid (su_below U205.out hb228)
            clear U205
            have R242 := Lib.hid (bt R206.out hb228)
            clear R206
            have R243 := Lib.hid (bt R207.out hb228)
            clear R207
            have Y244 := Lib.hid (fun q z hz => (hb228.cell (block_lt_of_cell (Y208.out q z hz))).trans (Y208.out q z hz))
            clear Y208
            have Y245 := Lib.hid (fun q z hz => (hb228.cell (block_lt_of_cell (Y209.out q z hz))).trans (Y209.out q z hz))
            clear Y209
            have X246 := Lib.hid ((hb228.block _ (lt_of_some X210.out)).trans X210.out)
            clear X210
            have HS247 := Lib.hid (bt HS211.out hb228)
            obtain ⟨a248, cc249, hv252, -, -⟩ := it_form (owT_it ho10)
            obtain ⟨m250, hm253⟩ : ∃ q, q = (mergeL lv (LB.take 40) G2).length := ⟨_, rfl⟩
            rw [← hm253] at hv252
            subst hv252
            have S251 := Lib.hid (owT_it ho10)
            clear ho10 hm253
            refine hK _ _ HS247.out ?_
            clear hK K
            refine held_g 19 rfl (by kernel_rfl) (by kernel_rfl) fun K hK => ?_
            go_simp
            go_at_call 21
            refine (rsame8_any _ _ _ _ _ S239.out S251.out).mono ?_
            rintro e w254 ⟨rfl, hb255⟩
            have K256 := Lib.hid (ST.out _ _ K229.out hb255)
            have B257 := Lib.hid (bt B230.out hb255)
            have S258 := Lib.hid (it_below S231.out hb255)
            clear S231
            have S259 := Lib.hid (it_below S232.out hb255)
            clear S232
            have S260 := Lib.hid (it_below S233.out hb255)
            clear S233
            have S261 := Lib.hid (it_below S234.out hb255)
            clear S234
            have S262 := Lib.hid (it_below S235.out hb255)
            clear S235
            have S263 := Lib.hid (it_below S236.out hb255)
            clear S236
            have S264 := Lib.hid (it_below S237.out hb255)
            clear S237
            have S265 := Lib.hid (it_below S238.out hb255)
            clear S238
            have S266 := Lib.hid (it_below S239.out hb255)
            clear S239
            have S267 := Lib.hid (it_below S240.out hb255)
            clear S240
            have S268 := Lib.hid (it_below S251.out hb255)
            clear S251
            have U269 := Lib.hid (su_below U241.out hb255)
            clear U241
            have R270 := Lib.hid (bt R242.out hb255)
            clear R242
            have R271 := Lib.hid (bt R243.out hb255)
            clear R243
            have Y272 := Lib.hid (fun q z hz => (hb255.cell (block_lt_of_cell (Y244.out q z hz))).trans (Y244.out q z hz))
            clear Y244
            have Y273 := Lib.hid (fun q z hz => (hb255.cell (block_lt_of_cell (Y245.out q z hz))).trans (Y245.out q z hz))
            clear Y245
            have X274 := Lib.hid ((hb255.block _ (lt_of_some X246.out)).trans X246.out)
            clear X246
            have HS275 := Lib.hid (bt HS247.out hb255)
            rw [decide_eq_true rfl]
            refine hK _ _ HS275.out ?_
            clear hK K
            refine held_g 20 rfl (by kernel_rfl) (by kernel_rfl) fun K hK => ?_
            go_simp
            refine hK _ _ HS275.out ?_
            clear hK K
            refine held_one 21 rfl rfl (by kernel_rfl) fun K hK => ?_
            go_simp
            refine hK _ _ HS275.out ?_
            clear hK K
            refine wpAnyH_done (by kernel_rfl) ?_ _
            unfold onlyN
            dsimp only
            go_wp2
            go_roundw
            case rel => exact ⟨i + 1, by omega, by go_num, R270.out⟩
            case measure => simp [intOf]; omega
      · obtain rfl : i = 2 := by omega
        rw [show ((2 : Nat) : Int) = 2 from rfl]
        have K42 := Lib.hid (F33.out wr hB)
        have B43 := Lib.hid (F34.out wr hB)
        have S44 := Lib.hid (F35.out wr hB)
        have S45 := Lib.hid (F36.out wr hB)
        have S46 := Lib.hid (F37.out wr hB)
        have S47 := Lib.hid (F38.out wr hB)
        have U48 := Lib.hid (F39.out wr hB)
        have X49 := Lib.hid (F40.out wr hB)
        have Y50 := Lib.hid (F41.out wr hB)
        have R51 := Lib.hid hB
        clear hB
        go_wp2_with fail
        refine (AW.out _ K42.out).mono ?_
        rintro e w52 ⟨rfl, hb53⟩
        have K54 := Lib.hid (ST.out _ _ K42.out hb53)
        have B55 := Lib.hid (bt B43.out hb53)
        have S56 := Lib.hid (it_below S44.out hb53)
        clear S44
        have S57 := Lib.hid (it_below S45.out hb53)
        clear S45
        have S58 := Lib.hid (it_below S46.out hb53)
        clear S46
        have S59 := Lib.hid (it_below S47.out hb53)
        clear S47
        have U60 := Lib.hid (su_below U48.out hb53)
        clear U48
        have R61 := Lib.hid (bt R51.out hb53)
        clear R51
        have Y62 := Lib.hid (fun q z hz => (hb53.cell (block_lt_of_cell (Y50.out q z hz))).trans (Y50.out q z hz))
        clear Y50
        have X63 := Lib.hid ((hb53.block _ (lt_of_some X49.out)).trans X49.out)
        clear X49
        go_wp2
        go_ret
        exact ⟨rfl, B55.out⟩
  · obtain ⟨ag, cg, rfl, hgc, -⟩ := su_form SG0.out
    have SG := Lib.hid SG0.out
    have HG2 : Hid (G.length ≤ 1000) := by show _ ≤ _; omega
    have hl0 : decide ((40 : Int) < (G.length : Int)) = false := decide_eq_false (by omega)
    obtain ⟨ng, hng⟩ : ∃ q, q = G.length := ⟨_, rfl⟩
    rw [← hng] at SG hl0 ⊢
    clear sg SG0 hg hgc hng
    go_enter Tryd.func7, Tryd.ntmps7
    go_wp2_with fail
    refine (cut8_any _ LA _ SA.out).mono ?_
    rintro e w1 ⟨⟨v1, rfl, hs1⟩, rfl⟩
    obtain ⟨a1, cc2, hv5, -, -⟩ := it_form (hs1)
    obtain ⟨m3, hm6⟩ : ∃ q, q = (LA.take 40).length := ⟨_, rfl⟩
    rw [← hm6] at hv5
    subst hv5
    have S4 := Lib.hid (hs1)
    clear hs1 hm6
    go_wp2_with fail
    refine (made_any _ LA _ SA.out).mono ?_
    rintro e w7 ⟨⟨v2, rfl, ho2⟩, hb8⟩
    have K9 := Lib.hid (ST.out _ _ K0.out hb8)
    have B10 := Lib.hid (bt B0.out hb8)
    have S11 := Lib.hid (it_below SA.out hb8)
    clear SA
    have S12 := Lib.hid (it_below SB.out hb8)
    clear SB
    have S13 := Lib.hid (it_below S4.out hb8)
    clear S4
    have U14 := Lib.hid (su_below SG.out hb8)
    clear SG
    have X15 := Lib.hid ((hb8.block _ (lt_of_some X0.out)).trans X0.out)
    clear X0
    obtain ⟨a16, cc17, hv20, -, -⟩ := it_form (owT_it ho2)
    obtain ⟨m18, hm21⟩ : ∃ q, q = (madeL LA).length := ⟨_, rfl⟩
    rw [← hm21] at hv20
    subst hv20
    have S19 := Lib.hid (owT_it ho2)
    clear ho2 hm21
    have hb22 := bel_al w7 (.cells #[.slice a1 m3 cc2, .slice a16 m18 cc17] 22)
    have Y23 := Lib.hid (row_at (heap_alloc_new w7 (.cells #[.slice a1 m3 cc2, .slice a16 m18 cc17] 22)))
    have K24 := Lib.hid (ST.out _ _ K9.out hb22)
    have B25 := Lib.hid (bt B10.out hb22)
    have S26 := Lib.hid (it_below S11.out hb22)
    clear S11
    have S27 := Lib.hid (it_below S12.out hb22)
    clear S12
    have S28 := Lib.hid (it_below S13.out hb22)
    clear S13
    have S29 := Lib.hid (it_below S19.out hb22)
    clear S19
    have U30 := Lib.hid (su_below U14.out hb22)
    clear U14
    have X31 := Lib.hid ((hb22.block _ (lt_of_some X15.out)).trans X15.out)
    clear X15
    clear hb22
    go_wp2_with fail
    generalize w7.alloc (.cells #[.slice a1 m3 cc2, .slice a16 m18 cc17] 22) = WA at *
    generalize w7.heap.size = g32 at *
    have F33 := Lib.hid (fun W' (h : Below WA.heap.size WA W') => ST.out _ _ K24.out h)
    have F34 := Lib.hid (fun W' (h : Below WA.heap.size WA W') => bt B25.out h)
    have F35 := Lib.hid (fun W' (h : Below WA.heap.size WA W') => it_below S26.out h)
    have F36 := Lib.hid (fun W' (h : Below WA.heap.size WA W') => it_below S27.out h)
    have F37 := Lib.hid (fun W' (h : Below WA.heap.size WA W') => it_below S28.out h)
    have F38 := Lib.hid (fun W' (h : Below WA.heap.size WA W') => it_below S29.out h)
    have F39 := Lib.hid (fun W' (h : Below WA.heap.size WA W') => su_below U30.out h)
    have F40 := Lib.hid (fun W' (h : Below WA.heap.size WA W') => (h.block _ (lt_of_some X31.out)).trans X31.out)
    have F41 := Lib.hid (fun W' (h : Below WA.heap.size WA W') => (fun q z hz => (h.cell (block_lt_of_cell (Y23.out q z hz))).trans (Y23.out q z hz)))
    go_loopw [30] (fun t wr => ∃ i : Nat, i ≤ 2 ∧ t = .int .i64 (i : Int) ∧ Below WA.heap.size WA wr) (fun t _ => 2 - (intOf t).toNat)
    case atStart => exact ⟨0, by omega, rfl, Below.refl _ _⟩
    case round =>
      obtain ⟨i, hi, rfl, hB⟩ := hrel
      by_cases hi2 : i < 2
      · have hl4 : decide ((i : Int) < 2) = true := decide_eq_true (by omega)
        have p0 : (0 : Int) ≤ (i : Int) := by omega
        have p1 : (i : Int) < 2 := by omega
        have K42 := Lib.hid (F33.out wr hB)
        have B43 := Lib.hid (F34.out wr hB)
        have S44 := Lib.hid (F35.out wr hB)
        have S45 := Lib.hid (F36.out wr hB)
        have S46 := Lib.hid (F37.out wr hB)
        have S47 := Lib.hid (F38.out wr hB)
        have U48 := Lib.hid (F39.out wr hB)
        have X49 := Lib.hid (F40.out wr hB)
        have Y50 := Lib.hid (F41.out wr hB)
        have R51 := Lib.hid hB
        clear hB
        obtain ⟨sv, lv, hrow, hsv, hlv⟩ := two_lists S46.out S47.out LBD.out.2.1 LBD.out.1 hi2
        have hc := Y50.out i sv hrow
        have HLV := Lib.hid hlv
        clear hlv hrow
        obtain ⟨a52, cc53, hv56, -, -⟩ := it_form (hsv)
        obtain ⟨m54, hm57⟩ : ∃ q, q = (lv).length := ⟨_, rfl⟩
        rw [← hm57] at hv56
        subst hv56
        have S55 := Lib.hid (hsv)
        clear hsv hm57
        obtain ⟨⟨c58, c59, c60, c61⟩, z62, z63, z64, z65⟩ := bx4 X49.out
        have hb66 := bel_al wr (.cells #[.int .u64 (k : Int), .int .u64 (x.key : Int)] 38)
        have Y67 := Lib.hid (row_at (heap_alloc_new wr (.cells #[.int .u64 (k : Int), .int .u64 (x.key : Int)] 38)))
        have K68 := Lib.hid (ST.out _ _ K42.out hb66)
        have B69 := Lib.hid (bt B43.out hb66)
        have S70 := Lib.hid (it_below S44.out hb66)
        clear S44
        have S71 := Lib.hid (it_below S45.out hb66)
        clear S45
        have S72 := Lib.hid (it_below S46.out hb66)
        clear S46
        have S73 := Lib.hid (it_below S47.out hb66)
        clear S47
        have S74 := Lib.hid (it_below S55.out hb66)
        clear S55
        have U75 := Lib.hid (su_below U48.out hb66)
        clear U48
        have R76 := Lib.hid (bt R51.out hb66)
        clear R51
        have Y77 := Lib.hid (fun q z hz => (hb66.cell (block_lt_of_cell (Y50.out q z hz))).trans (Y50.out q z hz))
        clear Y50
        have X78 := Lib.hid ((hb66.block _ (lt_of_some X49.out)).trans X49.out)
        clear X49
        clear hb66
        go_wp2_with fail
        generalize wr.alloc (.cells #[.int .u64 (k : Int), .int .u64 (x.key : Int)] 38) = WB at *
        generalize wr.heap.size = g79 at *
        clear hc
        have F80 := Lib.hid (fun W' (h : Below WB.heap.size WB W') => ST.out _ _ K68.out h)
        have F81 := Lib.hid (fun W' (h : Below WB.heap.size WB W') => bt B69.out h)
        have F82 := Lib.hid (fun W' (h : Below WB.heap.size WB W') => it_below S70.out h)
        have F83 := Lib.hid (fun W' (h : Below WB.heap.size WB W') => it_below S71.out h)
        have F84 := Lib.hid (fun W' (h : Below WB.heap.size WB W') => it_below S72.out h)
        have F85 := Lib.hid (fun W' (h : Below WB.heap.size WB W') => it_below S73.out h)
        have F86 := Lib.hid (fun W' (h : Below WB.heap.size WB W') => it_below S74.out h)
        have F87 := Lib.hid (fun W' (h : Below WB.heap.size WB W') => su_below U75.out h)
        have F88 := Lib.hid (fun W' (h : Below WB.heap.size WB W') => (h.block _ (lt_of_some X78.out)).trans X78.out)
        have F89 := Lib.hid (fun W' (h : Below WB.heap.size WB W') => bt R76.out h)
        have F90 := Lib.hid (fun W' (h : Below WB.heap.size WB W') => (fun q z hz => (h.cell (block_lt_of_cell (Y77.out q z hz))).trans (Y77.out q z hz)))
        have F91 := Lib.hid (fun W' (h : Below WB.heap.size WB W') => (fun q z hz => (h.cell (block_lt_of_cell (Y67.out q z hz))).trans (Y67.out q z hz)))
        clear c58 c59 c60 c61 z62 z63 z64 z65
        go_loopw [39] (fun t wr => ∃ j : Nat, j ≤ 2 ∧ t = .int .i64 (j : Int) ∧ Below WB.heap.size WB wr) (fun t _ => 2 - (intOf t).toNat)
        case atStart => exact ⟨0, by omega, rfl, Below.refl _ _⟩
        case round =>
          obtain ⟨j, hj, rfl, hB2⟩ := hrel
          by_cases hj2 : j < 2
          · have hl5 : decide ((j : Int) < 2) = true := decide_eq_true (by omega)
            have q0 : (0 : Int) ≤ (j : Int) := by omega
            have q1 : (j : Int) < 2 := by omega
            have K92 := Lib.hid (F80.out wr hB2)
            have B93 := Lib.hid (F81.out wr hB2)
            have S94 := Lib.hid (F82.out wr hB2)
            have S95 := Lib.hid (F83.out wr hB2)
            have S96 := Lib.hid (F84.out wr hB2)
            have S97 := Lib.hid (F85.out wr hB2)
            have S98 := Lib.hid (F86.out wr hB2)
            have U99 := Lib.hid (F87.out wr hB2)
            have X100 := Lib.hid (F88.out wr hB2)
            have R101 := Lib.hid (F89.out wr hB2)
            have Y102 := Lib.hid (F90.out wr hB2)
            have Y103 := Lib.hid (F91.out wr hB2)
            have R104 := Lib.hid hB2
            clear hB2
            obtain ⟨kk, hkk, hkb⟩ := two_keys HKB.out OX.out.key hj2
            have hkc := Y103.out j _ hkk
            have HKK := Lib.hid hkb
            clear hkk hkb
            go_wp2_with fail
            refine (FN.out _ lv kk _ K92.out S98.out (by have := HLV.out; omega) HKK.out).mono ?_
            rintro e w105 ⟨rfl, hb106⟩
            have K107 := Lib.hid (ST.out _ _ K92.out hb106)
            have B108 := Lib.hid (bt B93.out hb106)
            have S109 := Lib.hid (it_below S94.out hb106)
            clear S94
            have S110 := Lib.hid (it_below S95.out hb106)
            clear S95
            have S111 := Lib.hid (it_below S96.out hb106)
            clear S96
            have S112 := Lib.hid (it_below S97.out hb106)
            clear S97
            have S113 := Lib.hid (it_below S98.out hb106)
            clear S98
            have U114 := Lib.hid (su_below U99.out hb106)
            clear U99
            have R115 := Lib.hid (bt R101.out hb106)
            clear R101
            have R116 := Lib.hid (bt R104.out hb106)
            clear R104
            have Y117 := Lib.hid (fun q z hz => (hb106.cell (block_lt_of_cell (Y102.out q z hz))).trans (Y102.out q z hz))
            clear Y102
            have Y118 := Lib.hid (fun q z hz => (hb106.cell (block_lt_of_cell (Y103.out q z hz))).trans (Y103.out q z hz))
            clear Y103
            have X119 := Lib.hid ((hb106.block _ (lt_of_some X100.out)).trans X100.out)
            clear X100
            clear hkc
            have hb120 := bel_al w105 (.cells #[.int .u64 ((fnL lv kk).key : Int), .int .u32 ((fnL lv kk).ck : Int), .int .i64 (fnL lv kk).off, .int .i64 (fnL lv kk).sz] 41)
            have X121 := Lib.hid (heap_alloc_new w105 (.cells #[.int .u64 ((fnL lv kk).key : Int), .int .u32 ((fnL lv kk).ck : Int), .int .i64 (fnL lv kk).off, .int .i64 (fnL lv kk).sz] 41))
            have K122 := Lib.hid (ST.out _ _ K107.out hb120)
            have B123 := Lib.hid (bt B108.out hb120)
            have S124 := Lib.hid (it_below S109.out hb120)
            clear S109
            have S125 := Lib.hid (it_below S110.out hb120)
            clear S110
            have S126 := Lib.hid (it_below S111.out hb120)
            clear S111
            have S127 := Lib.hid (it_below S112.out hb120)
            clear S112
            have S128 := Lib.hid (it_below S113.out hb120)
            clear S113
            have U129 := Lib.hid (su_below U114.out hb120)
            clear U114
            have R130 := Lib.hid (bt R115.out hb120)
            clear R115
            have R131 := Lib.hid (bt R116.out hb120)
            clear R116
            have Y132 := Lib.hid (fun q z hz => (hb120.cell (block_lt_of_cell (Y117.out q z hz))).trans (Y117.out q z hz))
            clear Y117
            have Y133 := Lib.hid (fun q z hz => (hb120.cell (block_lt_of_cell (Y118.out q z hz))).trans (Y118.out q z hz))
            clear Y118
            have X134 := Lib.hid ((hb120.block _ (lt_of_some X119.out)).trans X119.out)
            clear X119
            go_wp2_with fail
            generalize w105.alloc (.cells #[.int .u64 ((fnL lv kk).key : Int), .int .u32 ((fnL lv kk).ck : Int), .int .i64 (fnL lv kk).off, .int .i64 (fnL lv kk).sz] 41) = W3 at *
            generalize w105.heap.size = g135 at *
            refine (rfind8_any _ lv kk _ S128.out).mono ?_
            rintro e w136 ⟨rfl, hb137⟩
            have K138 := Lib.hid (ST.out _ _ K122.out hb137)
            have B139 := Lib.hid (bt B123.out hb137)
            have S140 := Lib.hid (it_below S124.out hb137)
            clear S124
            have S141 := Lib.hid (it_below S125.out hb137)
            clear S125
            have S142 := Lib.hid (it_below S126.out hb137)
            clear S126
            have S143 := Lib.hid (it_below S127.out hb137)
            clear S127
            have S144 := Lib.hid (it_below S128.out hb137)
            clear S128
            have U145 := Lib.hid (su_below U129.out hb137)
            clear U129
            have R146 := Lib.hid (bt R130.out hb137)
            clear R130
            have R147 := Lib.hid (bt R131.out hb137)
            clear R131
            have Y148 := Lib.hid (fun q z hz => (hb137.cell (block_lt_of_cell (Y132.out q z hz))).trans (Y132.out q z hz))
            clear Y132
            have Y149 := Lib.hid (fun q z hz => (hb137.cell (block_lt_of_cell (Y133.out q z hz))).trans (Y133.out q z hz))
            clear Y133
            have X150 := Lib.hid ((hb137.block _ (lt_of_some X134.out)).trans X134.out)
            clear X134
            have X151 := Lib.hid ((hb137.block _ (lt_of_some X121.out)).trans X121.out)
            clear X121
            unfold TV
            have hb152 := bel_al w136 (.cells #[.int .u64 ((fnL lv kk).key : Int), .int .u32 ((fnL lv kk).ck : Int), .int .i64 (fnL lv kk).off, .int .i64 (fnL lv kk).sz] 41)
            have X153 := Lib.hid (heap_alloc_new w136 (.cells #[.int .u64 ((fnL lv kk).key : Int), .int .u32 ((fnL lv kk).ck : Int), .int .i64 (fnL lv kk).off, .int .i64 (fnL lv kk).sz] 41))
            have K154 := Lib.hid (ST.out _ _ K138.out hb152)
            have B155 := Lib.hid (bt B139.out hb152)
            have S156 := Lib.hid (it_below S140.out hb152)
            clear S140
            have S157 := Lib.hid (it_below S141.out hb152)
            clear S141
            have S158 := Lib.hid (it_below S142.out hb152)
            clear S142
            have S159 := Lib.hid (it_below S143.out hb152)
            clear S143
            have S160 := Lib.hid (it_below S144.out hb152)
            clear S144
            have U161 := Lib.hid (su_below U145.out hb152)
            clear U145
            have R162 := Lib.hid (bt R146.out hb152)
            clear R146
            have R163 := Lib.hid (bt R147.out hb152)
            clear R147
            have Y164 := Lib.hid (fun q z hz => (hb152.cell (block_lt_of_cell (Y148.out q z hz))).trans (Y148.out q z hz))
            clear Y148
            have Y165 := Lib.hid (fun q z hz => (hb152.cell (block_lt_of_cell (Y149.out q z hz))).trans (Y149.out q z hz))
            clear Y149
            have X166 := Lib.hid ((hb152.block _ (lt_of_some X150.out)).trans X150.out)
            clear X150
            have X167 := Lib.hid ((hb152.block _ (lt_of_some X151.out)).trans X151.out)
            clear X151
            have hq := neqT (fnL lv kk) (fnL lv kk)
            rw [decide_eq_true rfl] at hq
            unfold TV at hq
            have hq3 : (hasL lv kk != hasL lv kk) = false := by simp
            generalize fnL lv kk = y0 at *
            generalize hasL lv kk = h0 at *
            obtain ⟨⟨c168, c169, c170, c171⟩, z172, z173, z174, z175⟩ := bx4 X167.out
            obtain ⟨⟨c176, c177, c178, c179⟩, z180, z181, z182, z183⟩ := bx4 X153.out
            go_wp2_with fail
            generalize w136.alloc (.cells #[.int .u64 (y0.key : Int), .int .u32 (y0.ck : Int), .int .i64 y0.off, .int .i64 y0.sz] 41) = W4 at *
            generalize w136.heap.size = g184 at *
            refine (DR.out _ lv kk _ K154.out S160.out (by have := HLV.out; omega) HKK.out).mono ?_
            rintro e w185 ⟨⟨v5, rfl, hs5⟩, hb186⟩
            have K187 := Lib.hid (ST.out _ _ K154.out hb186)
            have B188 := Lib.hid (bt B155.out hb186)
            have S189 := Lib.hid (it_below S156.out hb186)
            clear S156
            have S190 := Lib.hid (it_below S157.out hb186)
            clear S157
            have S191 := Lib.hid (it_below S158.out hb186)
            clear S158
            have S192 := Lib.hid (it_below S159.out hb186)
            clear S159
            have S193 := Lib.hid (it_below S160.out hb186)
            clear S160
            have U194 := Lib.hid (su_below U161.out hb186)
            clear U161
            have R195 := Lib.hid (bt R162.out hb186)
            clear R162
            have R196 := Lib.hid (bt R163.out hb186)
            clear R163
            have Y197 := Lib.hid (fun q z hz => (hb186.cell (block_lt_of_cell (Y164.out q z hz))).trans (Y164.out q z hz))
            clear Y164
            have Y198 := Lib.hid (fun q z hz => (hb186.cell (block_lt_of_cell (Y165.out q z hz))).trans (Y165.out q z hz))
            clear Y165
            have X199 := Lib.hid ((hb186.block _ (lt_of_some X166.out)).trans X166.out)
            clear X166
            have X200 := Lib.hid ((hb186.block _ (lt_of_some X167.out)).trans X167.out)
            clear X167
            have X201 := Lib.hid ((hb186.block _ (lt_of_some X153.out)).trans X153.out)
            clear X153
            obtain ⟨a202, cc203, hv206, -, -⟩ := it_form (hs5)
            obtain ⟨m204, hm207⟩ : ∃ q, q = (dropL lv kk).length := ⟨_, rfl⟩
            rw [← hm207] at hv206
            subst hv206
            have S205 := Lib.hid (hs5)
            clear hs5 hm207
            go_wp2_with fail
            refine (rdrop_any _ lv kk _ S193.out (by have := HLV.out; omega)).mono ?_
            rintro e w208 ⟨⟨v6, rfl, ho6⟩, hb209⟩
            have K210 := Lib.hid (ST.out _ _ K187.out hb209)
            have B211 := Lib.hid (bt B188.out hb209)
            have S212 := Lib.hid (it_below S189.out hb209)
            clear S189
            have S213 := Lib.hid (it_below S190.out hb209)
            clear S190
            have S214 := Lib.hid (it_below S191.out hb209)
            clear S191
            have S215 := Lib.hid (it_below S192.out hb209)
            clear S192
            have S216 := Lib.hid (it_below S193.out hb209)
            clear S193
            have S217 := Lib.hid (it_below S205.out hb209)
            clear S205
            have U218 := Lib.hid (su_below U194.out hb209)
            clear U194
            have R219 := Lib.hid (bt R195.out hb209)
            clear R195
            have R220 := Lib.hid (bt R196.out hb209)
            clear R196
            have Y221 := Lib.hid (fun q z hz => (hb209.cell (block_lt_of_cell (Y197.out q z hz))).trans (Y197.out q z hz))
            clear Y197
            have Y222 := Lib.hid (fun q z hz => (hb209.cell (block_lt_of_cell (Y198.out q z hz))).trans (Y198.out q z hz))
            clear Y198
            have X223 := Lib.hid ((hb209.block _ (lt_of_some X199.out)).trans X199.out)
            clear X199
            have X224 := Lib.hid ((hb209.block _ (lt_of_some X200.out)).trans X200.out)
            clear X200
            have X225 := Lib.hid ((hb209.block _ (lt_of_some X201.out)).trans X201.out)
            clear X201
            obtain ⟨a226, cc227, hv230, -, -⟩ := it_form (owT_it ho6)
            obtain ⟨m228, hm231⟩ : ∃ q, q = (dropL lv kk).length := ⟨_, rfl⟩
            rw [← hm231] at hv230
            subst hv230
            have S229 := Lib.hid (owT_it ho6)
            clear ho6 hm231
            go_wp2_with fail
            refine (rsame8_any _ _ _ _ _ S217.out S229.out).mono ?_
            rintro e w232 ⟨rfl, hb233⟩
            have K234 := Lib.hid (ST.out _ _ K210.out hb233)
            have B235 := Lib.hid (bt B211.out hb233)
            have S236 := Lib.hid (it_below S212.out hb233)
            clear S212
            have S237 := Lib.hid (it_below S213.out hb233)
            clear S213
            have S238 := Lib.hid (it_below S214.out hb233)
            clear S214
            have S239 := Lib.hid (it_below S215.out hb233)
            clear S215
            have S240 := Lib.hid (it_below S216.out hb233)
            clear S216
            have S241 := Lib.hid (it_below S217.out hb233)
            clear S217
            have S242 := Lib.hid (it_below S229.out hb233)
            clear S229
            have U243 := Lib.hid (su_below U218.out hb233)
            clear U218
            have R244 := Lib.hid (bt R219.out hb233)
            clear R219
            have R245 := Lib.hid (bt R220.out hb233)
            clear R220
            have Y246 := Lib.hid (fun q z hz => (hb233.cell (block_lt_of_cell (Y221.out q z hz))).trans (Y221.out q z hz))
            clear Y221
            have Y247 := Lib.hid (fun q z hz => (hb233.cell (block_lt_of_cell (Y222.out q z hz))).trans (Y222.out q z hz))
            clear Y222
            have X248 := Lib.hid ((hb233.block _ (lt_of_some X223.out)).trans X223.out)
            clear X223
            have X249 := Lib.hid ((hb233.block _ (lt_of_some X224.out)).trans X224.out)
            clear X224
            have X250 := Lib.hid ((hb233.block _ (lt_of_some X225.out)).trans X225.out)
            clear X225
            rw [decide_eq_true rfl]
            clear c168 c169 c170 c171 z172 z173 z174 z175 c176 c177 c178 c179 z180 z181 z182 z183 hq hq3
            go_wp2
            go_roundw
            case rel => exact ⟨j + 1, by omega, by go_num, R245.out⟩
            case measure => simp [intOf]; omega
          · obtain rfl : j = 2 := by omega
            rw [show ((2 : Nat) : Int) = 2 from rfl]
            have K92 := Lib.hid (F80.out wr hB2)
            have B93 := Lib.hid (F81.out wr hB2)
            have S94 := Lib.hid (F82.out wr hB2)
            have S95 := Lib.hid (F83.out wr hB2)
            have S96 := Lib.hid (F84.out wr hB2)
            have S97 := Lib.hid (F85.out wr hB2)
            have S98 := Lib.hid (F86.out wr hB2)
            have U99 := Lib.hid (F87.out wr hB2)
            have X100 := Lib.hid (F88.out wr hB2)
            have R101 := Lib.hid (F89.out wr hB2)
            have Y102 := Lib.hid (F90.out wr hB2)
            have Y103 := Lib.hid (F91.out wr hB2)
            have R104 := Lib.hid hB2
            clear hB2
            go_wp2_with fail
            refine wp_onlyN ?_
            refine wp_region_headsS (fun w' => Below wr.heap.size wr w') [0, 1, 3, 4] 18 (by kernel_rfl) (fun _ _ _ _ _ h => h.elim) (by kernel_rfl) (by rfl) (by rfl) (Below.refl _ _).drew ?_
            simp only [pickOps, List.filterMap_cons, List.filterMap_nil, List.getElem?_toArray, List.getElem?_cons_zero, List.getElem?_cons_succ]
            refine wpHeads_step (fun K hK => ?_)
            go_simp
            refine ⟨_, fun _ _ => rfl, hK _ ?_⟩
            clear hK K
            refine wpHeads_step (fun K hK => ?_)
            go_simp
            refine ⟨.agg #[.int .u64 (x.key : Int), .int .u32 (x.ck : Int), .int .i64 x.off, .int .i64 x.sz], fun w' hw' => by obtain ⟨⟨u0, u1, u2, u3⟩, -⟩ := bx4 ((hw'.block _ (lt_of_some X100.out)).trans X100.out); simp [u0, u1, u2, u3], hK _ ?_⟩
            clear hK K
            refine wpHeads_step (fun K hK => ?_)
            go_simp
            refine ⟨_, fun _ _ => rfl, hK _ ?_⟩
            clear hK K
            refine wpHeads_step (fun K hK => ?_)
            go_simp
            refine ⟨.agg #[.int .u64 (x.key : Int), .int .u32 (x.ck : Int), .int .i64 x.off, .int .i64 x.sz], fun w' hw' => by obtain ⟨⟨u0, u1, u2, u3⟩, -⟩ := bx4 ((hw'.block _ (lt_of_some X100.out)).trans X100.out); simp [u0, u1, u2, u3], hK _ ?_⟩
            clear hK K
            refine wpHeads_nil ?_
            have hb105 := (Below.refl wr.heap.size wr).drew
            have HS106 := Lib.hid hb105
            have K107 := Lib.hid (ST.out _ _ K92.out hb105)
            have B108 := Lib.hid (bt B93.out hb105)
            have S109 := Lib.hid (it_below S94.out hb105)
            clear S94
            have S110 := Lib.hid (it_below S95.out hb105)
            clear S95
            have S111 := Lib.hid (it_below S96.out hb105)
            clear S96
            have S112 := Lib.hid (it_below S97.out hb105)
            clear S97
            have S113 := Lib.hid (it_below S98.out hb105)
            clear S98
            have U114 := Lib.hid (su_below U99.out hb105)
            clear U99
            have R115 := Lib.hid (bt R101.out hb105)
            clear R101
            have R116 := Lib.hid (bt R104.out hb105)
            clear R104
            have Y117 := Lib.hid (fun q z hz => (hb105.cell (block_lt_of_cell (Y102.out q z hz))).trans (Y102.out q z hz))
            clear Y102
            have Y118 := Lib.hid (fun q z hz => (hb105.cell (block_lt_of_cell (Y103.out q z hz))).trans (Y103.out q z hz))
            clear Y103
            have X119 := Lib.hid ((hb105.block _ (lt_of_some X100.out)).trans X100.out)
            clear X100
            generalize wr.drew = WD120 at *
            refine held_one 2 rfl rfl (by kernel_rfl) fun K hK => ?_
            go_simp
            go_at_call 26
            refine (PT.out _ lv x _ K107.out S113.out (by have := HLV.out; omega) OX.out).mono ?_
            rintro e w121 ⟨⟨v7, rfl, hs7⟩, hb122⟩
            have K123 := Lib.hid (ST.out _ _ K107.out hb122)
            have B124 := Lib.hid (bt B108.out hb122)
            have S125 := Lib.hid (it_below S109.out hb122)
            clear S109
            have S126 := Lib.hid (it_below S110.out hb122)
            clear S110
            have S127 := Lib.hid (it_below S111.out hb122)
            clear S111
            have S128 := Lib.hid (it_below S112.out hb122)
            clear S112
            have S129 := Lib.hid (it_below S113.out hb122)
            clear S113
            have U130 := Lib.hid (su_below U114.out hb122)
            clear U114
            have R131 := Lib.hid (bt R115.out hb122)
            clear R115
            have R132 := Lib.hid (bt R116.out hb122)
            clear R116
            have Y133 := Lib.hid (fun q z hz => (hb122.cell (block_lt_of_cell (Y117.out q z hz))).trans (Y117.out q z hz))
            clear Y117
            have Y134 := Lib.hid (fun q z hz => (hb122.cell (block_lt_of_cell (Y118.out q z hz))).trans (Y118.out q z hz))
            clear Y118
            have X135 := Lib.hid ((hb122.block _ (lt_of_some X119.out)).trans X119.out)
            clear X119
            have HS136 := Lib.hid (bt HS106.out hb122)
            obtain ⟨a137, cc138, hv141, -, -⟩ := it_form (hs7)
            obtain ⟨m139, hm142⟩ : ∃ q, q = (putL lv x).length := ⟨_, rfl⟩
            rw [← hm142] at hv141
            subst hv141
            have S140 := Lib.hid (hs7)
            clear hs7 hm142
            refine hK _ _ HS136.out ?_
            clear hK K
            refine held_one 5 rfl rfl (by kernel_rfl) fun K hK => ?_
            go_simp
            go_at_call 27
            refine (RPT.out _ lv x OX.out _ S129.out (by have := HLV.out; omega)).mono ?_
            rintro e w143 ⟨⟨v8, rfl, ho8⟩, hb144⟩
            have K145 := Lib.hid (ST.out _ _ K123.out hb144)
            have B146 := Lib.hid (bt B124.out hb144)
            have S147 := Lib.hid (it_below S125.out hb144)
            clear S125
            have S148 := Lib.hid (it_below S126.out hb144)
            clear S126
            have S149 := Lib.hid (it_below S127.out hb144)
            clear S127
            have S150 := Lib.hid (it_below S128.out hb144)
            clear S128
            have S151 := Lib.hid (it_below S129.out hb144)
            clear S129
            have S152 := Lib.hid (it_below S140.out hb144)
            clear S140
            have U153 := Lib.hid (su_below U130.out hb144)
            clear U130
            have R154 := Lib.hid (bt R131.out hb144)
            clear R131
            have R155 := Lib.hid (bt R132.out hb144)
            clear R132
            have Y156 := Lib.hid (fun q z hz => (hb144.cell (block_lt_of_cell (Y133.out q z hz))).trans (Y133.out q z hz))
            clear Y133
            have Y157 := Lib.hid (fun q z hz => (hb144.cell (block_lt_of_cell (Y134.out q z hz))).trans (Y134.out q z hz))
            clear Y134
            have X158 := Lib.hid ((hb144.block _ (lt_of_some X135.out)).trans X135.out)
            clear X135
            have HS159 := Lib.hid (bt HS136.out hb144)
            obtain ⟨a160, cc161, hv164, -, -⟩ := it_form (owT_it ho8)
            obtain ⟨m162, hm165⟩ : ∃ q, q = (putL lv x).length := ⟨_, rfl⟩
            rw [← hm165] at hv164
            subst hv164
            have S163 := Lib.hid (owT_it ho8)
            clear ho8 hm165
            refine hK _ _ HS159.out ?_
            clear hK K
            refine held_one 6 rfl rfl (by kernel_rfl) fun K hK => ?_
            go_simp
            go_at_call 21
            refine (rsame8_any _ _ _ _ _ S152.out S163.out).mono ?_
            rintro e w166 ⟨rfl, hb167⟩
            have K168 := Lib.hid (ST.out _ _ K145.out hb167)
            have B169 := Lib.hid (bt B146.out hb167)
            have S170 := Lib.hid (it_below S147.out hb167)
            clear S147
            have S171 := Lib.hid (it_below S148.out hb167)
            clear S148
            have S172 := Lib.hid (it_below S149.out hb167)
            clear S149
            have S173 := Lib.hid (it_below S150.out hb167)
            clear S150
            have S174 := Lib.hid (it_below S151.out hb167)
            clear S151
            have S175 := Lib.hid (it_below S152.out hb167)
            clear S152
            have S176 := Lib.hid (it_below S163.out hb167)
            clear S163
            have U177 := Lib.hid (su_below U153.out hb167)
            clear U153
            have R178 := Lib.hid (bt R154.out hb167)
            clear R154
            have R179 := Lib.hid (bt R155.out hb167)
            clear R155
            have Y180 := Lib.hid (fun q z hz => (hb167.cell (block_lt_of_cell (Y156.out q z hz))).trans (Y156.out q z hz))
            clear Y156
            have Y181 := Lib.hid (fun q z hz => (hb167.cell (block_lt_of_cell (Y157.out q z hz))).trans (Y157.out q z hz))
            clear Y157
            have X182 := Lib.hid ((hb167.block _ (lt_of_some X158.out)).trans X158.out)
            clear X158
            have HS183 := Lib.hid (bt HS159.out hb167)
            rw [decide_eq_true rfl]
            refine hK _ _ HS183.out ?_
            clear hK K
            refine held_one 7 rfl rfl (by kernel_rfl) fun K hK => ?_
            go_simp
            refine hK _ _ HS183.out ?_
            clear hK K
            refine held_one 8 rfl rfl (by kernel_rfl) fun K hK => ?_
            go_simp
            refine hK _ _ HS183.out ?_
            clear hK K
            refine wpAnyH_take (i := 9) (v := Value.slice a52 m54 cc53) rfl (by kernel_rfl) (by kernel_rfl) (by kernel_rfl) (fun _ _ _ h => h) (Or.inl ⟨by kernel_rfl, fun w _ => by rfl⟩) HS183.out ?_
            refine wpAnyH_take (i := 10) (v := Value.slice ab nb cb) rfl (by kernel_rfl) (by kernel_rfl) (by kernel_rfl) (fun _ _ _ h => h) (Or.inl ⟨by kernel_rfl, fun w _ => by rfl⟩) HS183.out ?_
            refine wpAnyH_take (i := 12) (v := Value.slice ag ng cg) rfl (by kernel_rfl) (by kernel_rfl) (by kernel_rfl) (fun _ _ _ h => h) (Or.inl ⟨by kernel_rfl, fun w _ => by rfl⟩) HS183.out ?_
            refine wpAnyH_take (i := 14) (v := Value.slice a52 m54 cc53) rfl (by kernel_rfl) (by kernel_rfl) (by kernel_rfl) (fun _ _ _ h => h) (Or.inl ⟨by kernel_rfl, fun w _ => by rfl⟩) HS183.out ?_
            refine wpAnyH_take (i := 15) (v := Value.slice ab nb cb) rfl (by kernel_rfl) (by kernel_rfl) (by kernel_rfl) (fun _ _ _ h => h) (Or.inl ⟨by kernel_rfl, fun w _ => by rfl⟩) HS183.out ?_
            refine wpAnyH_take (i := 17) (v := Value.slice ag ng cg) rfl (by kernel_rfl) (by kernel_rfl) (by kernel_rfl) (fun _ _ _ h => h) (Or.inl ⟨by kernel_rfl, fun w _ => by rfl⟩) HS183.out ?_
            refine held_g 11 rfl (by kernel_rfl) (by kernel_rfl) fun K hK => ?_
            go_simp
            go_at_call 11
            refine (cut8_any _ LB _ S171.out).mono ?_
            rintro e w186 ⟨⟨v184, rfl, hs185⟩, rfl⟩
            obtain ⟨a187, cc188, hv191, -, -⟩ := it_form (hs185)
            obtain ⟨m189, hm192⟩ : ∃ q, q = (LB.take 40).length := ⟨_, rfl⟩
            rw [← hm192] at hv191
            subst hv191
            have S190 := Lib.hid (hs185)
            clear hs185 hm192
            refine hK _ _ HS183.out ?_
            clear hK K
            refine held_g 13 rfl (by kernel_rfl) (by kernel_rfl) fun K hK => ?_
            go_simp
            go_at_call 28
            refine (MG.out _ _ _ lv (LB.take 40) G _ K168.out S174.out S190.out U177.out (by have := HLV.out; omega) (by have := LBD.out.2.2; omega) HG2.out).mono ?_
            rintro e w193 ⟨⟨v9, rfl, hs9⟩, hb194⟩
            have K195 := Lib.hid (ST.out _ _ K168.out hb194)
            have B196 := Lib.hid (bt B169.out hb194)
            have S197 := Lib.hid (it_below S170.out hb194)
            clear S170
            have S198 := Lib.hid (it_below S171.out hb194)
            clear S171
            have S199 := Lib.hid (it_below S172.out hb194)
            clear S172
            have S200 := Lib.hid (it_below S173.out hb194)
            clear S173
            have S201 := Lib.hid (it_below S174.out hb194)
            clear S174
            have S202 := Lib.hid (it_below S175.out hb194)
            clear S175
            have S203 := Lib.hid (it_below S176.out hb194)
            clear S176
            have S204 := Lib.hid (it_below S190.out hb194)
            clear S190
            have U205 := Lib.hid (su_below U177.out hb194)
            clear U177
            have R206 := Lib.hid (bt R178.out hb194)
            clear R178
            have R207 := Lib.hid (bt R179.out hb194)
            clear R179
            have Y208 := Lib.hid (fun q z hz => (hb194.cell (block_lt_of_cell (Y180.out q z hz))).trans (Y180.out q z hz))
            clear Y180
            have Y209 := Lib.hid (fun q z hz => (hb194.cell (block_lt_of_cell (Y181.out q z hz))).trans (Y181.out q z hz))
            clear Y181
            have X210 := Lib.hid ((hb194.block _ (lt_of_some X182.out)).trans X182.out)
            clear X182
            have HS211 := Lib.hid (bt HS183.out hb194)
            obtain ⟨a212, cc213, hv216, -, -⟩ := it_form (hs9)
            obtain ⟨m214, hm217⟩ : ∃ q, q = (mergeL lv (LB.take 40) G).length := ⟨_, rfl⟩
            rw [← hm217] at hv216
            subst hv216
            have S215 := Lib.hid (hs9)
            clear hs9 hm217
            refine hK _ _ HS211.out ?_
            clear hK K
            refine held_g 16 rfl (by kernel_rfl) (by kernel_rfl) fun K hK => ?_
            go_simp
            go_at_call 11
            refine (cut8_any _ LB _ S198.out).mono ?_
            rintro e w220 ⟨⟨v218, rfl, hs219⟩, rfl⟩
            obtain ⟨a221, cc222, hv225, -, -⟩ := it_form (hs219)
            obtain ⟨m223, hm226⟩ : ∃ q, q = (LB.take 40).length := ⟨_, rfl⟩
            rw [← hm226] at hv225
            subst hv225
            have S224 := Lib.hid (hs219)
            clear hs219 hm226
            refine hK _ _ HS211.out ?_
            clear hK K
            refine held_g 18 rfl (by kernel_rfl) (by kernel_rfl) fun K hK => ?_
            go_simp
            go_at_call 29
            refine (rmerge_any _ _ _ lv (LB.take 40) G _ S201.out S224.out U205.out (by have := HLV.out; have := LBD.out.2.2; omega)).mono ?_
            rintro e w227 ⟨⟨v10, rfl, ho10⟩, hb228⟩
            have K229 := Lib.hid (ST.out _ _ K195.out hb228)
            have B230 := Lib.hid (bt B196.out hb228)
            have S231 := Lib.hid (it_below S197.out hb228)
            clear S197
            have S232 := Lib.hid (it_below S198.out hb228)
            clear S198
            have S233 := Lib.hid (it_below S199.out hb228)
            clear S199
            have S234 := Lib.hid (it_below S200.out hb228)
            clear S200
            have S235 := Lib.hid (it_below S201.out hb228)
            clear S201
            have S236 := Lib.hid (it_below S202.out hb228)
            clear S202
            have S237 := Lib.hid (it_below S203.out hb228)
            clear S203
            have S238 := Lib.hid (it_below S204.out hb228)
            clear S204
            have S239 := Lib.hid (it_below S215.out hb228)
            clear S215
            have S240 := Lib.hid (it_below S224.out hb228)
            clear S224
            have U241 := Lib.hid (su_below U205.out hb228)
            clear U205
            have R242 := Lib.hid (bt R206.out hb228)
            clear R206
            have R243 := Lib.hid (bt R207.out hb228)
            clear R207
            have Y244 := Lib.hid (fun q z hz => (hb228.cell (block_lt_of_cell (Y208.out q z hz))).trans (Y208.out q z hz))
            clear Y208
            have Y245 := Lib.hid (fun q z hz => (hb228.cell (block_lt_of_cell (Y209.out q z hz))).trans (Y209.out q z hz))
            clear Y209
            have X246 := Lib.hid ((hb228.block _ (lt_of_some X210.out)).trans X210.out)
            clear X210
            have HS247 := Lib.hid (bt HS211.out hb228)
            obtain ⟨a248, cc249, hv252, -, -⟩ := it_form (owT_it ho10)
            obtain ⟨m250, hm253⟩ : ∃ q, q = (mergeL lv (LB.take 40) G).length := ⟨_, rfl⟩
            rw [← hm253] at hv252
            subst hv252
            have S251 := Lib.hid (owT_it ho10)
            clear ho10 hm253
            refine hK _ _ HS247.out ?_
            clear hK K
            refine held_g 19 rfl (by kernel_rfl) (by kernel_rfl) fun K hK => ?_
            go_simp
            go_at_call 21
            refine (rsame8_any _ _ _ _ _ S239.out S251.out).mono ?_
            rintro e w254 ⟨rfl, hb255⟩
            have K256 := Lib.hid (ST.out _ _ K229.out hb255)
            have B257 := Lib.hid (bt B230.out hb255)
            have S258 := Lib.hid (it_below S231.out hb255)
            clear S231
            have S259 := Lib.hid (it_below S232.out hb255)
            clear S232
            have S260 := Lib.hid (it_below S233.out hb255)
            clear S233
            have S261 := Lib.hid (it_below S234.out hb255)
            clear S234
            have S262 := Lib.hid (it_below S235.out hb255)
            clear S235
            have S263 := Lib.hid (it_below S236.out hb255)
            clear S236
            have S264 := Lib.hid (it_below S237.out hb255)
            clear S237
            have S265 := Lib.hid (it_below S238.out hb255)
            clear S238
            have S266 := Lib.hid (it_below S239.out hb255)
            clear S239
            have S267 := Lib.hid (it_below S240.out hb255)
            clear S240
            have S268 := Lib.hid (it_below S251.out hb255)
            clear S251
            have U269 := Lib.hid (su_below U241.out hb255)
            clear U241
            have R270 := Lib.hid (bt R242.out hb255)
            clear R242
            have R271 := Lib.hid (bt R243.out hb255)
            clear R243
            have Y272 := Lib.hid (fun q z hz => (hb255.cell (block_lt_of_cell (Y244.out q z hz))).trans (Y244.out q z hz))
            clear Y244
            have Y273 := Lib.hid (fun q z hz => (hb255.cell (block_lt_of_cell (Y245.out q z hz))).trans (Y245.out q z hz))
            clear Y245
            have X274 := Lib.hid ((hb255.block _ (lt_of_some X246.out)).trans X246.out)
            clear X246
            have HS275 := Lib.hid (bt HS247.out hb255)
            rw [decide_eq_true rfl]
            refine hK _ _ HS275.out ?_
            clear hK K
            refine held_g 20 rfl (by kernel_rfl) (by kernel_rfl) fun K hK => ?_
            go_simp
            refine hK _ _ HS275.out ?_
            clear hK K
            refine held_one 21 rfl rfl (by kernel_rfl) fun K hK => ?_
            go_simp
            refine hK _ _ HS275.out ?_
            clear hK K
            refine wpAnyH_done (by kernel_rfl) ?_ _
            unfold onlyN
            dsimp only
            go_wp2
            go_roundw
            case rel => exact ⟨i + 1, by omega, by go_num, R270.out⟩
            case measure => simp [intOf]; omega
      · obtain rfl : i = 2 := by omega
        rw [show ((2 : Nat) : Int) = 2 from rfl]
        have K42 := Lib.hid (F33.out wr hB)
        have B43 := Lib.hid (F34.out wr hB)
        have S44 := Lib.hid (F35.out wr hB)
        have S45 := Lib.hid (F36.out wr hB)
        have S46 := Lib.hid (F37.out wr hB)
        have S47 := Lib.hid (F38.out wr hB)
        have U48 := Lib.hid (F39.out wr hB)
        have X49 := Lib.hid (F40.out wr hB)
        have Y50 := Lib.hid (F41.out wr hB)
        have R51 := Lib.hid hB
        clear hB
        go_wp2_with fail
        refine (AW.out _ K42.out).mono ?_
        rintro e w52 ⟨rfl, hb53⟩
        have K54 := Lib.hid (ST.out _ _ K42.out hb53)
        have B55 := Lib.hid (bt B43.out hb53)
        have S56 := Lib.hid (it_below S44.out hb53)
        clear S44
        have S57 := Lib.hid (it_below S45.out hb53)
        clear S45
        have S58 := Lib.hid (it_below S46.out hb53)
        clear S46
        have S59 := Lib.hid (it_below S47.out hb53)
        clear S47
        have U60 := Lib.hid (su_below U48.out hb53)
        clear U48
        have R61 := Lib.hid (bt R51.out hb53)
        clear R51
        have Y62 := Lib.hid (fun q z hz => (hb53.cell (block_lt_of_cell (Y50.out q z hz))).trans (Y50.out q z hz))
        clear Y50
        have X63 := Lib.hid ((hb53.block _ (lt_of_some X49.out)).trans X49.out)
        clear X49
        go_wp2
        go_ret
        exact ⟨rfl, B55.out⟩
end Go.Proofs.YtihjfnlimdcmkaaDoor.Gf
