/- What is proved here: the contract of the program's Merge (index). Condition: lists of at most 1000 items or keys. -/
import Derived.Test.YtihjfnlimdcmkaaDoorM8m
import Derived.Test.YtihjfnlimdcmkaaDoorP8f
import Derived.Test.YtihjfnlimdcmkaaDoorP8c
namespace Go.Proofs.YtihjfnlimdcmkaaDoor.Gf
open Go Go.Joins Go.ChangeShapes Go.WideShapes Go.ChangeAt Go.RowKit Go.Deep Go.Lib Go.Sort Go.Maps Go.Proofs Go.Proofs.YtihjfnlimdcmkaaDoor.By Go.Proofs.YtihjfnlimdcmkaaDoor.Qt

theorem keyK : Keyed Tryd.prog 38 := int_keyed Tryd.underlying38
theorem run_makeMapN (n : Nat) (w : World) : (Instr.makeMap 64 (some (.int .i64 (n : Int)))).run Tryd.prog w = .ok (.map (some w.heap.size)) (w.alloc (.map #[] 0)) := by
  simp [Instr.makeMap, run_underlying Tryd.underlying64, asInt, asIntOf]
theorem wfK {g : Nat} (h : g < 18446744073709551616) : (Lit.int .u64 (g : Int)).wf = true := by
  simp only [Lit.wf, IntKind.min, IntKind.max, IntKind.signed, IntKind.bits, Bool.and_eq_true, decide_eq_true_eq, Bool.false_eq_true, if_false]
  omega
/-- The set of the first n keys, in block B. -/
def Gn (W : World) (B n : Nat) (G : List Nat) : Prop := W.ownsMap Tryd.prog 38 (plainElem Tryd.prog 4) B n (goneD G)
theorem Gn.later {W W' : World} {B n : Nat} {G : List Nat} (h : Gn W B n G) (hb : Below W.heap.size W W') : Gn W' B n G := by
  obtain ⟨es, clock, hg, r⟩ := h
  exact ⟨es, clock, (hb.block B (lt_of_some hg)).trans hg, r⟩
theorem Gn.grown {W W' : World} {B n : Nat} {G : List Nat} {base : Nat} {v : Value} {L : List Itm} (h : Gn W B n G) (hg : W.grownBy W' v.ownBlock) (ho : OwT W base v L) (hB : B < base) : Gn W' B n G :=
  World.ownsMap.kept h hg (fun e => by have := (owT_lt ho B e.symm).1; omega)
theorem Gn.look {W : World} {B n : Nat} {G : List Nat} (h : Gn W B n G) {k : Nat} (hk : k < 18446744073709551616) : (Instr.lookup 64 (.map (some B)) (.int .u64 (k : Int)) false).run Tryd.prog W = .ok (.bool (decide (k ∈ G))) W :=
  lookup_bool h keyK Tryd.underlying64 Tryd.underlying4 (Tryd.zeroValue4 W) (keyOf_int_mk Tryd.underlying38 (wfK hk)) (goneD_at k G)
theorem mgF_length (G : List Nat) : ∀ (O F : List Itm), (mgF G O F).length ≤ O.length + F.length
  | [], F => by unfold mgF; omega
  | x :: r, F => by
    have ih := mgF_length G r (F.drop (cntL x.key F))
    have hc := cntL_le x.key F
    unfold mgF
    rw [List.length_drop] at ih
    rw [List.length_append, List.length_append, List.length_take, List.length_cons]
    split
    · simp; omega
    · simp; omega
theorem mgF_step {G : List Nat} {SO Fi : List Itm} {i j m : Nat} (hi : i < SO.length) (hs : Spl Fi (SO.getD i z0).key j m) (hA : Asc Fi) : mgF G (SO.drop i) Fi = Fi.take j ++ ((if m = 1 ∨ (SO.getD i z0).key ∈ G then [] else [SO.getD i z0]) ++ mgF G (SO.drop (i + 1)) (Fi.drop j)) := by
  have e : SO.drop i = SO.getD i z0 :: SO.drop (i + 1) := by
    rw [List.drop_eq_getElem_cons hi]
    congr 1
    simp [List.getD, hi]
  rw [e]
  show Fi.take (cntL _ Fi) ++ _ = _
  rw [spl_cnt hs]
  congr 2
  rcases spl_lk hs hA with ⟨hm, hl⟩ | ⟨hm, y, -, hl⟩
  · rw [hl, hm]; simp
  · rw [hl, hm]; simp
set_option maxRecDepth 100000 in
set_option maxHeartbeats 12800000 in
theorem pmerge8_any (vo vf vg : Value) (O F : List Itm) (G : List Nat) (w : World) (so : It w vo O) (sf : It w vf F) (sg : Su w vg G) (h1 : O.length ≤ 1000) (h2 : F.length ≤ 1000) (h3 : G.length ≤ 1000) : Calls Tryd.prog 28 #[vo, vf, vg] w (LI w (mergeL O F G)) := by
  have PO := Lib.hid (porder_any vo O w so h1)
  have PF := Lib.hid (fun W (hW : Below w.heap.size w W) => porder_any vf F W (it_below sf hW) h2)
  have PS := Lib.hid (fun (u : Value) (L : List Itm) (k : Nat) W (h : It W u L) (hA : Asc L) (hl : L.length ≤ 1000) => psplit_any u L k W h hA hl)
  have NO : Hid ((sortL O).length ≤ 1000) := Nat.le_trans (length_sortL O) h1
  have NF : Hid ((sortL F).length ≤ 1000) := Nat.le_trans (length_sortL F) h2
  have SG := Lib.hid sg
  obtain ⟨ao, co, rfl, -, -⟩ := it_form so
  obtain ⟨af, cf, rfl, -, -⟩ := it_form sf
  obtain ⟨ag, cg, rfl, -, -⟩ := su_form sg
  obtain ⟨ng, hng⟩ : ∃ n, n = G.length := ⟨_, rfl⟩
  have NG := Lib.hid (And.intro hng h3)
  unfold LI at PO PF ⊢
  rw [← hng] at SG ⊢
  rw [← mgF_eq]
  have AO := Lib.hid (asc_sortL O)
  have AF := Lib.hid (asc_sortL F)
  generalize sortL O = SO at *
  generalize sortL F = SF at *
  generalize O.length = no at *
  generalize F.length = nf at *
  have hng2 : ng ≤ 1000 := by omega
  clear so sf sg h1 h2 h3 hng
  have hmm := run_makeMapN ng
  go_enter Tryd.func28, Tryd.ntmps28
  go_wp2_with fail
  refine PO.out.mono ?_
  rintro e w1 ⟨⟨v1, rfl, hi1⟩, hb1⟩
  have B1 := Lib.hid hb1
  have I1 := Lib.hid hi1
  clear hi1 hb1 PO
  go_wp2_with fail
  refine (PF.out _ B1.out).mono ?_
  rintro e w2 ⟨⟨v2, rfl, hi2⟩, hb2⟩
  have B2 := Lib.hid (bt B1.out hb2)
  have I2 := Lib.hid hi2
  have I1' := Lib.hid (it_below I1.out hb2)
  obtain ⟨a1, c1, rfl, -, -⟩ := it_form I1.out
  obtain ⟨a2, c2, rfl, -, -⟩ := it_form I2.out
  have G0 : Hid (Gn (w2.alloc (.map #[] 0)) w2.heap.size 0 (G.take 0)) := World.ownsMap_made _ _ _ _
  have B3 := Lib.hid (bel_al w2 (.map #[] 0))
  clear hi2 hb2 PF I1
  go_wp2_with fail
  have B2e := Lib.hid (Below.refl w2.heap.size w2)
  generalize hMB : w2.heap.size = MB at G0
  have HMB := Lib.hid hMB
  clear hmm hMB
  go_loopw [25] (fun t wr => ∃ i : Nat, i ≤ ng ∧ t = .int .i64 (i : Int) ∧ Hid (Gn wr MB i (G.take i)) ∧ Hid (Below MB w2 wr)) (fun t _ => ng - (intOf t).toNat)
  case atStart => exact ⟨0, by omega, rfl, G0, by show Below _ _ _; rw [← HMB.out]; exact B3.out⟩
  case round =>
    clear G0 B3
    obtain ⟨i, hi, rfl, HG, HB⟩ := hrel
    have HBS : Hid (MB ≤ wr.heap.size) := by show _ ≤ _; rw [← HMB.out]; exact HB.out.size
    by_cases hin : i < ng
    · have hl4 : decide ((i : Int) < (ng : Int)) = true := decide_eq_true (by omega)
      have p0 : (0 : Int) ≤ (i : Int) := by omega
      have p1 : (i : Int) < (ng : Int) := by omega
      obtain ⟨bg, og, cg', hvg, -, -, hkg⟩ := su_cells SG.out (by have := NG.out.1; omega)
      obtain ⟨rfl, -, rfl⟩ : ag = some ⟨bg, og, none⟩ ∧ ng = G.length ∧ cg = cg' := by simpa using hvg
      have c0w := hkg i (by have := NG.out.1; omega)
      have hlt : bg < w.heap.size := block_lt_of_cell c0w
      have c0 : wr.cell? ⟨bg, og + i, none⟩ = some (.int .u64 ((G.getD i 0 : Nat) : Int)) := by
        rw [HB.out.cell (p := ⟨bg, og + i, none⟩) (by show bg < MB; rw [← HMB.out]; have := B2.out.size; omega), B2.out.cell (p := ⟨bg, og + i, none⟩) hlt]
        exact c0w
      have hgt : G.take (i + 1) = G.take i ++ [G.getD i 0] := by
        have hi' : i < G.length := by have := NG.out.1; omega
        rw [List.take_succ_eq_append_getElem hi']
        simp [List.getD, hi']
      have hgb : G.getD i 0 < 18446744073709551616 := SG.out.1 _ (by
        have hi' : i < G.length := by have := NG.out.1; omega
        simp [List.getD, hi'])
      generalize G.getD i 0 = g0 at *
      have hkey := keyOf_int_mk Tryd.underlying38 (wfK hgb)
      have HGT := Lib.hid hgt
      have hown := HG.out
      unfold Gn at hown
      have hmx : i < maxLen := by unfold maxLen; omega
      clear c0w hkg hvg hlt hgt hgb
      go_wp2_with (at_mapUpdate; refine wpList_mapUpdate_own _ rfl _ _ _ 64 rfl 38 4 keyK Tryd.underlying64 _ MB i _ rfl hown hmx _ _ _ rfl rfl hkey _ [] (plainElem_bool Tryd.underlying4 true) ?_; intro w5 hown5 hgrow5; have G5 : Hid (Gn w5 MB (i + 1) (G.take (i + 1))) := (by show Gn _ _ _ _; unfold Gn; rw [HGT.out, goneD_snoc]; exact hown5); have B5 : Hid (Below MB w2 w5) := HB.out.grown hgrow5 HBS.out (fun q hq => by cases hq; exact Nat.le_refl _); clear hown5 hgrow5)
      go_roundw
      case rel => exact ⟨i + 1, by omega, by go_num, G5, B5⟩
      case measure => simp [intOf]; omega
    · obtain rfl : i = ng := by omega
      have hl4 : decide ((i : Int) < (i : Int)) = false := decide_eq_false (by omega)
      have GF : Hid (Gn wr MB i G) := by
        show Gn _ _ _ _
        have := HG.out
        rwa [List.take_of_length_le (by rw [← NG.out.1]; exact Nat.le_refl _)] at this
      obtain ⟨n1, hn1⟩ : ∃ n, n = SO.length := ⟨_, rfl⟩
      obtain ⟨n2, hn2⟩ : ∃ n, n = SF.length := ⟨_, rfl⟩
      have NN := Lib.hid (And.intro hn1 hn2)
      have hn1b : n1 ≤ 1000 := by rw [hn1]; exact NO.out
      have hn2b : n2 ≤ 1000 := by rw [hn2]; exact NF.out
      obtain ⟨mq, hmq⟩ : ∃ q, q = n1 + n2 := ⟨_, rfl⟩
      have q1 : (n1 : Int) + (n2 : Int) = (mq : Int) := by omega
      have hmq1 : mq ≤ 2000 := by omega
      rw [← hn1] at I1' ⊢
      rw [← hn2] at I2 ⊢
      have hsz : MB + 1 ≤ wr.heap.size := by have := World.ownsMap.lt GF.out; omega
      have O3 := Lib.hid (owT_made0 wr (base := MB + 1) (m := mq) hsz (by unfold maxLen; omega))
      have G3 := Lib.hid (GF.out.later (bel_al wr (.cells (madeCells (TV z0).cells (mq * 4)) 41)))
      have B4 := Lib.hid (HB.out.alloc HBS.out (.cells (madeCells (TV z0).cells (mq * 4)) 41))
      have S4 : Hid (MB + 1 ≤ (wr.alloc (.cells (madeCells (TV z0).cells (mq * 4)) 41)).heap.size) := by show _ ≤ _; simp; omega
      have AT0 : Hid (mgF G SO SF = [] ++ mgF G (SO.drop 0) SF) := rfl
      clear hn1 hn2 hmq HG HB GF hsz hl4 hi hin
      go_wp2_with (refine make0T_step (dst := some 37) (m := mq) ?_ (by omega) ?_; exact rfl; generalize wr.alloc (.cells (madeCells (TV z0).cells (mq * 4)) 41) = W4 at *; generalize wr.heap.size = g4 at *)
      clear q1
      go_loopw [1, 10, 40] (fun fr l t wl => ∃ (j : Nat) (Fi A : List Itm), j ≤ n1 ∧ t = .int .i64 (j : Int) ∧ Hid (It w2 fr Fi) ∧ Hid (Asc Fi ∧ Fi.length ≤ 1000) ∧ Hid (OwT wl (MB + 1) l A) ∧ Hid (mgF G SO SF = A ++ mgF G (SO.drop j) Fi) ∧ Hid (Gn wl MB i G) ∧ Hid (Below MB w2 wl ∧ MB + 1 ≤ wl.heap.size)) (fun _ _ t _ => n1 - (intOf t).toNat)
      case atStart => exact ⟨0, SF, [], by omega, rfl, I2, ⟨AF.out, NF.out⟩, O3, AT0, G3, ⟨B4.out, S4.out⟩⟩
      case round =>
        clear O3 G3 B4 S4 AT0
        obtain ⟨j, Fi, A, hj, rfl, IF, HA, OA, EQ, GG, BB⟩ := hrel
        obtain ⟨afr, cfr, rfl, -, -⟩ := it_form IF.out
        obtain ⟨al, cl, rfl, -, -⟩ := owT_form OA.out
        have HLA : Hid (A.length ≤ 2000) := by
          show _ ≤ _
          have h1 := congrArg List.length EQ.out
          have h2 := mgF_length G SO SF
          have h3 := NO.out
          have h4 := NF.out
          rw [List.length_append] at h1
          omega
        obtain ⟨nfi, hnfi⟩ : ∃ q, q = Fi.length := ⟨_, rfl⟩
        obtain ⟨na, hna⟩ : ∃ q, q = A.length := ⟨_, rfl⟩
        have HNL := Lib.hid (And.intro hnfi hna)
        rw [← hnfi] at IF ⊢
        rw [← hna] at OA ⊢
        clear hnfi hna
        by_cases hjn : j < n1
        · have hl4 : decide ((j : Int) < (n1 : Int)) = true := decide_eq_true (by omega)
          have p0 : (0 : Int) ≤ (j : Int) := by omega
          have p1 : (j : Int) < (n1 : Int) := by omega
          obtain ⟨b1, o1, c1', hv1, -, -, hk1⟩ := it_cells I1'.out (by have := NN.out.1; omega)
          obtain ⟨rfl, -, rfl⟩ : a1 = some ⟨b1, o1, none⟩ ∧ n1 = SO.length ∧ c1 = c1' := by simpa using hv1
          have kx := hk1 j (by have := NN.out.1; omega)
          have hb1lt : b1 < w2.heap.size := block_lt_of_cell kx.c0
          have hMBb : b1 < MB := by rw [← HMB.out]; exact hb1lt
          have kx2 : C4 _ b1 (o1 + j * 4) (SO.getD j z0) := ⟨(BB.out.1.cell (p := ⟨b1, _, none⟩) hMBb).trans kx.c0, (BB.out.1.cell (p := ⟨b1, _, none⟩) hMBb).trans kx.c1, (BB.out.1.cell (p := ⟨b1, _, none⟩) hMBb).trans kx.c2, (BB.out.1.cell (p := ⟨b1, _, none⟩) hMBb).trans kx.c3⟩
          have okx := getT_ok I1'.out.1 j
          have ST := Lib.hid (fun (jj mm : Nat) (hs : Spl Fi (SO.getD j z0).key jj mm) => mgF_step (G := G) (by have := NN.out.1; omega : j < SO.length) hs HA.out.1)
          obtain ⟨k0, k1, k2, k3⟩ := kx2
          clear hv1 hk1 kx hb1lt hMBb
          generalize SO.getD j z0 = x at *
          obtain ⟨key, ck, ofs, sz⟩ := x
          dsimp only at k0 k1 k2 k3 ST
          have OKX := Lib.hid okx
          have hkey64 : key < 18446744073709551616 := okx.key
          have HK := Lib.hid hkey64
          clear okx hkey64
          go_upto_region 12 with fail
          have QB := Lib.hid (heap_alloc_new wr (.cells #[.int .u64 (key : Int), .int .u32 (ck : Int), .int .i64 ofs, .int .i64 sz] 41))
          have hal := bel_al wr (.cells #[.int .u64 (key : Int), .int .u32 (ck : Int), .int .i64 ofs, .int .i64 sz] 41)
          have OA5 := Lib.hid (owT_below OA.out hal)
          have GG5 := Lib.hid (GG.out.later hal)
          have BB5 : Hid (Below MB w2 (wr.alloc (.cells #[.int .u64 (key : Int), .int .u32 (ck : Int), .int .i64 ofs, .int .i64 sz] 41)) ∧ MB + 1 ≤ (wr.alloc (.cells #[.int .u64 (key : Int), .int .u32 (ck : Int), .int .i64 ofs, .int .i64 sz] 41)).heap.size) := ⟨BB.out.1.alloc (by have := BB.out.2; omega) _, by have := BB.out.2; simp; omega⟩
          have OLT : Hid (∀ r, (Value.slice al na cl).ownBlock = some r → r < wr.heap.size) := fun r hr => (owT_lt OA.out r hr).2
          have SPC := Lib.hid (PS.out _ Fi key (wr.alloc (.cells #[.int .u64 (key : Int), .int .u32 (ck : Int), .int .i64 ofs, .int .i64 sz] 41)) (it_below IF.out (by rw [HMB.out]; exact BB5.out.1)) HA.out.1 HA.out.2)
          have e0 := cell_of_row _ wr.heap.size 0 _ _ _ QB.out
          clear OA GG BB hal k0 k1 k2 k3 hl4 p0 p1
          generalize wr.alloc (.cells #[.int .u64 (key : Int), .int .u32 (ck : Int), .int .i64 ofs, .int .i64 sz] 41) = W5 at *
          generalize wr.heap.size = q at *
          go_wp2_with fail
          refine SPC.out.mono ?_
          rintro e w6 ⟨va, vb, vc, jj, mm, rfl, s1, s2, s3, hsp, hb6⟩
          have QB6 := Lib.hid ((hb6.block q (lt_of_some QB.out)).trans QB.out)
          have OA6 := Lib.hid (owT_below OA5.out hb6)
          have GG6 := Lib.hid (GG5.out.later hb6)
          have BB6 : Hid (Below MB w2 w6 ∧ MB + 1 ≤ w6.heap.size) := ⟨BB5.out.1.trans (hb6.mono (by have := BB5.out.2; omega)), Nat.le_trans BB5.out.2 hb6.size⟩
          have hjf : jj ≤ nfi := by have := hsp.le; rw [HNL.out.1]; omega
          have S1 := Lib.hid s1
          obtain ⟨a6, c6, rfl, -, -⟩ := it_form s1
          have l6 : (Fi.take jj).length = jj := by rw [List.length_take]; have := hsp.le; omega
          rw [l6] at S1 ⊢
          have HLE : Hid (A.length + (Fi.take jj).length ≤ 100000000) := by show _ ≤ _; have := HLA.out; have := HA.out.2; rw [l6]; have := hsp.le; omega
          have NF2 : Hid (It w2 (.slice (if cfr = jj then afr else afr.map (·.add (jj * 4))) (nfi - jj) (cfr - jj)) (Fi.drop jj)) := it_from IF.out hjf
          have NA2 : Hid (Asc (Fi.drop jj) ∧ (Fi.drop jj).length ≤ 1000) := ⟨(asc_part HA.out.1 jj).2, by rw [List.length_drop]; have := HA.out.2; omega⟩
          have STQ := Lib.hid (ST.out jj mm hsp)
          obtain ⟨a7, c7, e7, -, -⟩ := it_form s2
          obtain ⟨a8, c8, rfl, -, -⟩ := it_form s3
          generalize (List.drop (jj + mm) Fi).length = n8 at *
          rcases hsp.mid with ⟨hmm0, hm0⟩ | ⟨hmm0, y, hm0, -⟩
          · rw [hm0] at e7
            rw [show ([] : List Itm).length = 0 from rfl] at e7
            subst e7
            rw [hmm0] at STQ
            clear s1 s2 s3 hsp hm0 hmm0 l6 e0 SPC QB OA5 GG5 BB5 hb6
            by_cases hkg : key ∈ G
            · have EQ2 : Hid (mgF G SO SF = (A ++ Fi.take jj) ++ mgF G (SO.drop (j + 1)) (Fi.drop jj)) := by
                show _ = _
                rw [EQ.out, STQ.out, if_pos (Or.inr hkg)]; simp
              have hdk : decide (key ∈ G) = true := decide_eq_true hkg
              clear hkg
              go_wp2_with (first
                | (at_builtin; refine app_it (dst := some 54) ?_ ?_ OA6.out S1.out HLE.out BB6.out.2 ?_; exact rfl; exact rfl; intro v7 w7 ho7 hg7; have O7 := Lib.hid ho7; have GG7 := Lib.hid (GG6.out.grown hg7 OA6.out (Nat.lt_succ_self MB)); have BB7 : Hid (Below MB w2 w7 ∧ MB + 1 ≤ w7.heap.size) := ⟨below_grownT BB6.out.1 hg7 OA6.out (by have := BB6.out.2; omega) (Nat.le_succ MB), Nat.le_trans BB6.out.2 hg7.size⟩; have QB7 := Lib.hid ((hg7.block q (lt_of_some QB6.out) (fun e => by have := OLT.out q e.symm; omega)).trans QB6.out); have e0 := cell_of_row w7 q 0 _ _ _ QB7.out; have e1 := cell_of_row w7 q 1 _ _ _ QB7.out; have e2 := cell_of_row w7 q 2 _ _ _ QB7.out; have e3 := cell_of_row w7 q 3 _ _ _ QB7.out; have hlk := GG7.out.look HK.out; rw [hdk] at hlk; clear ho7 hg7)
                | (refine from_step (dst := some 58) (l := jj) ?_ ?_ hjf ?_; exact rfl; exact rfl))
              go_roundw
              case rel => exact ⟨j + 1, Fi.drop jj, A ++ Fi.take jj, by omega, by go_num, NF2, NA2, O7, EQ2, GG7, BB7⟩
              case measure => simp [intOf]; omega
            · have EQ2 : Hid (mgF G SO SF = ((A ++ Fi.take jj) ++ [⟨key, ck, ofs, sz⟩]) ++ mgF G (SO.drop (j + 1)) (Fi.drop jj)) := by
                show _ = _
                rw [EQ.out, STQ.out, if_neg (by rintro (h | h); · cases h
                                                · exact hkg h)]; simp
              have hdk : decide (key ∈ G) = false := decide_eq_false hkg
              have HLE2 : Hid ((A ++ Fi.take jj).length + [(⟨key, ck, ofs, sz⟩ : Itm)].length ≤ 100000000) := by show _ ≤ _; have := HLE.out; have := HLA.out; have := HA.out.2; rw [List.length_append, List.length_take]; simp; omega
              clear hkg
              go_wp2_with (first
                | (at_builtin; refine app_it (dst := some 54) ?_ ?_ OA6.out S1.out HLE.out BB6.out.2 ?_; exact rfl; exact rfl; intro v7 w7 ho7 hg7; have O7 := Lib.hid ho7; have GG7 := Lib.hid (GG6.out.grown hg7 OA6.out (Nat.lt_succ_self MB)); have BB7 : Hid (Below MB w2 w7 ∧ MB + 1 ≤ w7.heap.size) := ⟨below_grownT BB6.out.1 hg7 OA6.out (by have := BB6.out.2; omega) (Nat.le_succ MB), Nat.le_trans BB6.out.2 hg7.size⟩; have QB7 := Lib.hid ((hg7.block q (lt_of_some QB6.out) (fun e => by have := OLT.out q e.symm; omega)).trans QB6.out); have e0 := cell_of_row w7 q 0 _ _ _ QB7.out; have e1 := cell_of_row w7 q 1 _ _ _ QB7.out; have e2 := cell_of_row w7 q 2 _ _ _ QB7.out; have e3 := cell_of_row w7 q 3 _ _ _ QB7.out; have hlk := GG7.out.look HK.out; rw [hdk] at hlk; clear ho7 hg7)
                | (refine from_step (dst := some 58) (l := jj) ?_ ?_ hjf ?_; exact rfl; exact rfl)
                | (at_builtin; refine app_it (dst := some 72) ?_ ?_ (owT_below O7.out (bel_al w7 (.cells #[.int .u64 (key : Int), .int .u32 (ck : Int), .int .i64 ofs, .int .i64 sz] 41))) (it_one OKX.out (heap_alloc_new w7 (.cells #[.int .u64 (key : Int), .int .u32 (ck : Int), .int .i64 ofs, .int .i64 sz] 41))) HLE2.out (by have := BB7.out.2; simp; omega) ?_; exact rfl; exact rfl; intro v9 w9 ho9 hg9; have O9 := Lib.hid ho9; have GG9 := Lib.hid ((GG7.out.later (bel_al w7 (.cells #[.int .u64 (key : Int), .int .u32 (ck : Int), .int .i64 ofs, .int .i64 sz] 41))).grown hg9 (owT_below O7.out (bel_al w7 (.cells #[.int .u64 (key : Int), .int .u32 (ck : Int), .int .i64 ofs, .int .i64 sz] 41))) (Nat.lt_succ_self MB)); have BB9 : Hid (Below MB w2 w9 ∧ MB + 1 ≤ w9.heap.size) := ⟨below_grownT (BB7.out.1.alloc (by have := BB7.out.2; omega) (.cells #[.int .u64 (key : Int), .int .u32 (ck : Int), .int .i64 ofs, .int .i64 sz] 41)) hg9 (owT_below O7.out (bel_al w7 (.cells #[.int .u64 (key : Int), .int .u32 (ck : Int), .int .i64 ofs, .int .i64 sz] 41))) (by have := BB7.out.2; simp; omega) (Nat.le_succ MB), Nat.le_trans (by have := BB7.out.2; simp; omega) hg9.size⟩; clear ho9 hg9))
              go_roundw
              case rel => exact ⟨j + 1, Fi.drop jj, (A ++ Fi.take jj) ++ [⟨key, ck, ofs, sz⟩], by omega, by go_num, NF2, NA2, O9, EQ2, GG9, BB9⟩
              case measure => simp [intOf]; omega
          · rw [hm0] at e7
            rw [show ([y] : List Itm).length = 1 from rfl] at e7
            subst e7
            have EQ2 : Hid (mgF G SO SF = (A ++ Fi.take jj) ++ mgF G (SO.drop (j + 1)) (Fi.drop jj)) := by
              show _ = _
              rw [EQ.out, STQ.out, if_pos (Or.inl hmm0)]; simp
            clear s1 s2 s3 hsp hm0 hmm0 l6 e0 SPC QB OA5 GG5 BB5 hb6
            go_wp2_with (first
              | (at_builtin; refine app_it (dst := some 54) ?_ ?_ OA6.out S1.out HLE.out BB6.out.2 ?_; exact rfl; exact rfl; intro v7 w7 ho7 hg7; have O7 := Lib.hid ho7; have GG7 := Lib.hid (GG6.out.grown hg7 OA6.out (Nat.lt_succ_self MB)); have BB7 : Hid (Below MB w2 w7 ∧ MB + 1 ≤ w7.heap.size) := ⟨below_grownT BB6.out.1 hg7 OA6.out (by have := BB6.out.2; omega) (Nat.le_succ MB), Nat.le_trans BB6.out.2 hg7.size⟩; clear ho7 hg7)
              | (refine from_step (dst := some 58) (l := jj) ?_ ?_ hjf ?_; exact rfl; exact rfl))
            go_roundw
            case rel => exact ⟨j + 1, Fi.drop jj, A ++ Fi.take jj, by omega, by go_num, NF2, NA2, O7, EQ2, GG7, BB7⟩
            case measure => simp [intOf]; omega
        · obtain rfl : j = n1 := by omega
          have hl4 : decide ((j : Int) < (j : Int)) = false := decide_eq_false (by omega)
          have EQ2 : Hid (mgF G SO SF = A ++ Fi) := by
            show _ = _
            rw [EQ.out, List.drop_of_length_le (by rw [← NN.out.1]; exact Nat.le_refl _)]
            rfl
          have IFr := Lib.hid (it_below (w' := wr) IF.out (by rw [HMB.out]; exact BB.out.1))
          have HLE : Hid (A.length + Fi.length ≤ 100000000) := by show _ ≤ _; have := HLA.out; have := HA.out.2; omega
          clear hjn
          go_wp2_with (at_builtin; refine app_it (dst := some 76) ?_ ?_ OA.out IFr.out HLE.out BB.out.2 ?_; exact rfl; exact rfl; intro v7 w7 ho7 hg7; have O7 := Lib.hid ho7; have B7 := Lib.hid (below_grownT BB.out.1 hg7 OA.out (by have := BB.out.2; omega) (Nat.le_succ MB)); clear ho7 hg7)
          go_ret
          exact ⟨⟨_, rfl, by rw [EQ2.out]; exact owT_it O7.out⟩, bt B2.out (by rw [HMB.out]; exact B7.out)⟩
end Go.Proofs.YtihjfnlimdcmkaaDoor.Gf
