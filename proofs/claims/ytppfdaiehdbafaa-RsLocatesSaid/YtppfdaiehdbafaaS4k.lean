/- What is proved here: the contract of the reference's Restore. Condition: rows of at most 1,000,000 bytes. -/
import Derived.Test.YtppfdaiehdbafaaT4b
namespace Go.Proofs.Ytppfdaiehdbafaa.Gf
open Go Go.ChangeShapes Go.WideShapes Go.ChangeAt Go.RowKit Go.Sort Go.Proofs.Ytppfdaiehdbafaa.By Go.Proofs.Ytppfdaiehdbafaa.Qt

theorem wp_app1 {S E : TypeId} {z0 : Value} {bytes : Nat} (hS : Try.prog.underlying S = some (.slice E)) (hI : (Try.prog.info? E).map (fun i => (i.zero, i.size, i.bytes)) = some (some z0, 1, bytes)) (hz : z0.cells.size = 1) (hby : bytes ≤ 1000)
    {dst : Option Tmp} {s x : Operand} {pos : String} {after : Array Edge} {ty : TypeId} {gd : Option (Nat × Bool)} {a : Act} {W : World} {K : Act → World → Prop} {Q : Exit → Act → World → Prop}
    {base n g : Nat} {v u : Value} {xs : List Value} {fr : Nat × Nat} (hs : a.eval s = v) (hy : a.eval x = .slice (some ⟨g, 0, none⟩) 1 1) (hv : W.ownsRow base E 1 v n xs) (hg : W.heap[g]? = some (.cells #[u] E fr)) (hu : u.oneCell' = true) (hn : n ≤ 1000000) (hb : base ≤ W.heap.size)
    (h : ∀ v' w', w'.ownsRow base E 1 v' (n + 1) (xs ++ [u]) → W.grownBy w' v.ownBlock → K (a.put dst v') w') : Oper.wp Try.prog ⟨dst, .call { callee := .builtin .append, args := #[s, x], argTypes := #[S, S] }, ty, pos, after, gd⟩ a W K Q := by
  obtain ⟨v', w', hr, h2, h3⟩ := run_app1 hS hI hz ty hv hg hu hn hby hb
  unfold Oper.wp execOp
  simp only [resolve, invoke, builtin, Sem.run_bind, Sem.run_pure, Result.andThen_ok, List.map_toArray, List.map_cons, List.map_nil, hs, hy, hr]
  exact h v' w' h2 h3
theorem blk_grow {w w' : World} {base n g : Nat} {E E' : TypeId} {v : Value} {xs : List Value} {cs : Array Value} {fr : Nat × Nat} (hne : E ≠ E') (hg : w.heap[g]? = some (.cells cs E' fr)) (hv : w.ownsRow base E 1 v n xs) (hgr : w.grownBy w' v.ownBlock) : w'.heap[g]? = w.heap[g]? := by
  refine hgr.block g (lt_of_some hg) fun e => ?_
  obtain ⟨_, ⟨rfl, _⟩ | ⟨q2, _, cq2, rfl, _, hq2, _⟩⟩ := hv
  · cases e
  · cases e
    rw [hg] at hq2
    simp at hq2
    exact hne hq2.2.1.symm
theorem Gat.later {w wr w1 : World} {S : List (List Nat)} {zs : List Nat} {v1 v2 : Value} {vs : List Value} (h : Gat w wr S zs v1 v2 vs) (hb : Below wr.heap.size wr w1) : Gat w w1 S zs v1 v2 vs := ⟨ownsRow_mono h.n hb, ownsRow_mono h.r hb, h.l, h.s, bt h.b hb⟩
theorem Gh.later {w wr w1 : World} {S : List (List Nat)} {zs : List Nat} {k : Nat} {v1 v2 : Value} {vs : List Value} (h : Gh w wr S zs k v1 v2 vs) (hb : Below wr.heap.size wr w1) : Gh w w1 S zs k v1 v2 vs := ⟨ownsRow_mono h.n hb, ownsRow_mono h.r hb, h.l, h.s, bt h.b hb⟩
theorem Gat.num' {w wr w1 : World} {S : List (List Nat)} {zs : List Nat} {v1 v2 v1' : Value} {vs : List Value} {k : Nat} (h : Gat w wr S zs v1 v2 vs) (hg : wr.grownBy w1 v1.ownBlock)
    (hn : w1.ownsRow w.heap.size 3 1 v1' (zs.length + 1) (((zi zs).map fun z => .int .i64 z) ++ [.int .i64 (k : Int)])) : Gh w w1 S zs k v1' v2 vs :=
  ⟨hn, owns_grow (by decide) h.r h.n hg, h.l, h.s, h.b.grown hg h.b.size fun q hq => (h.n.lt q hq).1⟩
theorem Gh.row' {w wr w1 : World} {S : List (List Nat)} {zs : List Nat} {v1 v2 v2' x : Value} {vs : List Value} {k : Nat} (h : Gh w wr S zs k v1 v2 vs) (hx : Sl w x (S.getD k [])) (hg : wr.grownBy w1 v2.ownBlock)
    (hr : w1.ownsRow w.heap.size 22 1 v2' (vs.length + 1) (vs ++ [x])) : Gat w w1 S (zs ++ [k]) v1 v2' (vs ++ [x]) := by
  have hn2 := owns_grow (by decide) h.n h.r hg
  refine ⟨by rw [zi_map_snoc]; simpa using hn2, by simpa using hr, by simp [h.l], fun j hj => ?_, h.b.grown hg h.b.size fun q hq => (h.r.lt q hq).1⟩
  by_cases e : j < zs.length
  · have h1 : (vs ++ [x]).getD j undef = vs.getD j undef := by simp [List.getD, List.getElem?_append, show j < vs.length by have := h.l; omega]
    have h2 : (zs ++ [k]).getD j 0 = zs.getD j 0 := by simp [List.getD, List.getElem?_append, e]
    rw [h1, h2]
    exact h.s j e
  · have e2 : j = zs.length := by simp at hj; omega
    have h1 : (vs ++ [x]).getD j undef = x := by rw [e2, ← h.l]; simp [List.getD]
    have h2 : (zs ++ [k]).getD j 0 = k := by rw [e2]; simp [List.getD]
    rw [h1, h2]
    exact hx
set_option maxRecDepth 100000 in
set_option maxHeartbeats 6400000 in
theorem rrestore_bad1 (a1 a2 : Option Addr) (n1 n2 c1 c2 : Nat) (w : World) (h : ¬ (n1 = 6 ∧ n2 = 6)) : Calls Try.prog 24 #[.slice a1 n1 c1, .slice a2 n2 c2] w (EP w [] 1) := by
  unfold EP
  by_cases h1 : n1 = 6
  · subst h1
    have h2 : ((n2 : Int) != 6) = true := by rw [bne_iff_ne]; omega
    clear h
    go_enter Try.func24, Try.ntmps24
    go_wp2
    go_ret2
    exact ⟨⟨_, rfl, sr_nil _⟩, Below.refl _ _⟩
  · have h2 : ((n1 : Int) != 6) = true := by rw [bne_iff_ne]; omega
    clear h h1
    go_enter Try.func24, Try.ntmps24
    go_wp2
    go_ret2
    exact ⟨⟨_, rfl, sr_nil _⟩, Below.refl _ _⟩
set_option maxRecDepth 100000 in
set_option maxHeartbeats 6400000 in
theorem rrestore_good (b1 o1 c1 b2 o2 c2 : Nat) (S : List (List Nat)) (h : List Bool) (w : World) (h6 : S.length = 6 ∧ h.length = 6)
    (k1 : ∀ k, k < 6 → ∃ x, w.cell? ⟨b1, o1 + k, none⟩ = some x ∧ Sl w x (S.getD k [])) (k2 : ∀ k, k < 6 → w.cell? ⟨b2, o2 + k, none⟩ = some (.bool (h.getD k false))) (hb : ∀ k q, (S.getD k []).getD q 0 < 256) (hm : Small S) :
    Calls Try.prog 24 #[.slice (some ⟨b1, o1, none⟩) 6 c1, .slice (some ⟨b2, o2, none⟩) 6 c2] w (EP w (resL S h) (resE S h)) := by
  obtain ⟨E, hE⟩ : ∃ E, E = resE S h := ⟨_, rfl⟩
  obtain ⟨X, hX⟩ : ∃ X, X = resL S h := ⟨_, rfl⟩
  rw [← hE, ← hX]
  have HE := Lib.hid hE
  have HX := Lib.hid hX
  have K1 := Lib.hid k1
  have K2 := Lib.hid k2
  have H6 := Lib.hid h6
  have HBT := Lib.hid hb
  have HSM := Lib.hid hm
  clear k1 k2 hE hX h6 hb hm
  unfold EP
  go_enter Try.func24, Try.ntmps24
  go_wp2
  go_loopw [6, 7, 8] (fun a b i wr => ∃ (k : Nat) (vs : List Value), k ≤ 6 ∧ i = .int .i64 (k : Int) ∧ Gat w wr S (presK h k) a b vs ∧ EqL (pickL (presK h k) S)) (fun _ _ i _ => 6 - (intOf i).toNat)
  case atStart => exact ⟨0, [], by omega, rfl, gat_nil w S, fun k hk => by simp [presK, pickL] at hk⟩
  case round =>
    obtain ⟨k, vs, hk, rfl, hG, hQ⟩ := hrel
    obtain ⟨a1, d1, hv1⟩ := ownsRow_form hG.n
    obtain ⟨a2, d2, hv2⟩ := ownsRow_form hG.r
    have hL := presK_len h k
    have hps := presK_succ h k
    by_cases hkn : k < 6
    · have hend : ¬ EqL (pickL (presK h (k + 1)) S) → resL S h = [] ∧ resE S h = 1 := fun hn => by
        have hf : ¬ Fit S h := fun hf => hn (eql_presK (by omega) hf.2.2)
        unfold resL resE
        exact ⟨by rw [if_neg hf], by rw [if_neg hf]⟩
      generalize hzs : presK h k = zs at *
      have HZ := Lib.hid hzs
      have HEND := Lib.hid hend
      clear hzs hend
      obtain ⟨m, hm⟩ : ∃ m, m = zs.length := ⟨_, rfl⟩
      have hl' := hG.l
      rw [← hm] at hv1 hl'
      rw [hl'] at hv2
      subst hv1 hv2
      have hn' := hG.n
      rw [← hm] at hn' hL
      have HM := Lib.hid hm
      have HN := Lib.hid hn'
      have G := Lib.hid hG
      have HL := Lib.hid hL
      have HV := Lib.hid hl'
      have HQ := Lib.hid hQ
      clear hm hn' hG hL hl' hQ
      obtain ⟨x, e1, s1⟩ := K1.out k hkn
      have e2 := K2.out k hkn
      have E1 := Lib.hid e1
      have f1 := (G.out.b.cell (p := ⟨b1, o1 + k, none⟩) (block_lt_of_cell e1)).trans e1
      have f2 := (G.out.b.cell (p := ⟨b2, o2 + k, none⟩) (block_lt_of_cell e2)).trans e2
      obtain ⟨ax, capx, hx, -, -⟩ := sl_form s1
      obtain ⟨nx, hnx⟩ : ∃ n, n = (S.getD k []).length := ⟨_, rfl⟩
      rw [← hnx] at hx
      have HNX := Lib.hid hnx
      subst hx
      have SX := Lib.hid s1
      have p0 : (0 : Int) ≤ (k : Int) := by omega
      have p1 : (k : Int) < 6 := by omega
      have HP := Lib.hid hps
      clear hps e1 e2 s1 hnx
      obtain ⟨bb, hbb⟩ : ∃ b, b = h.getD k false := ⟨_, rfl⟩
      rw [← hbb] at f2 HP
      clear hbb
      cases bb with
      | false =>
        go_wp2
        go_roundw
        case rel => exact ⟨k + 1, vs, by omega, by go_num, by rw [HP.out]; exact G.out, by rw [HP.out]; exact HQ.out⟩
        case measure => simp [intOf]; omega
      | true =>
        by_cases hm0 : m = 0
        · subst hm0
          have HEQ : Hid (EqL (pickL (zs ++ [k]) S)) := (eql_snoc HQ.out).2 fun h0 => by have := HM.out; omega
          go_wp2
          go_quiet (fail)
          go_wp2
          clear f1 f2
          have tG := G.out.later (below_drewN wr nq)
          have tN := ownsRow_mono HN.out (below_drewN wr nq)
          clear G HN
          generalize wr.drewN nq = wq at *
          have G := Lib.hid tG
          have HN := Lib.hid tN
          clear tG tN
          refine wp_region_headsS (fun w' => Below w.heap.size w w') [0, 1, 4, 5, 6, 7, 8] 6 (by kernel_rfl) (fun _ _ d _ _ h => by cases d <;> exact h) (by kernel_rfl) (by rfl) (by rfl) G.out.b.drew ?_
          simp only [pickOps, List.filterMap_cons, List.filterMap_nil, List.getElem?_toArray, List.getElem?_cons_zero, List.getElem?_cons_succ]
          refine wpHeads_step (fun K hK => ?_)
          go_simp
          refine ⟨_, fun _ _ => rfl, hK _ ?_⟩
          clear hK K
          refine wpHeads_step (fun K hK => ?_)
          go_simp
          refine ⟨_, fun _ _ => rfl, hK _ ?_⟩
          clear hK K
          refine wpHeads_step (fun K hK => ?_)
          go_simp
          refine ⟨_, fun _ _ => rfl, hK _ ?_⟩
          clear hK K
          refine wpHeads_step (fun K hK => ?_)
          go_simp
          refine ⟨_, fun _ _ => rfl, hK _ ?_⟩
          clear hK K
          refine wpHeads_step (fun K hK => ?_)
          go_simp
          refine ⟨_, fun _ _ => rfl, hK _ ?_⟩
          clear hK K
          refine wpHeads_step (fun K hK => ?_)
          go_simp
          refine ⟨_, fun _ _ => rfl, hK _ ?_⟩
          clear hK K
          refine wpHeads_step (fun K hK => ?_)
          go_simp
          refine ⟨.slice ax nx capx, fun w' hw' => by rw [(hw'.cell (p := ⟨b1, o1 + k, none⟩) (block_lt_of_cell E1.out)).trans E1.out]; rfl, hK _ ?_⟩
          clear hK K
          refine wpHeads_nil ?_
          have tG := G.out.drew
          have tN := ownsRow_mono HN.out ((Below.refl wq.heap.size wq).drew)
          clear G HN
          generalize wq.drew = Y at *
          have G := Lib.hid tG
          have HN := Lib.hid tN
          clear tG tN
          refine held_two 2 9 rfl rfl rfl rfl (by kernel_rfl) (fun K hK => ?_) (fun K hK => ?_)
          · skip
            go_simp
            have al := (Below.refl Y.heap.size Y).alloc (Nat.le_refl _) (.cells #[.int .i64 (k : Int)] 3)
            have tG := G.out.later al
            have tN := ownsRow_mono HN.out al
            have t2 := heap_alloc_new Y (.cells #[.int .i64 (k : Int)] 3)
            refine hK _ _ tG.b ?_
            clear hK K G HN al
            generalize Y.alloc (.cells #[.int .i64 (k : Int)] 3) = Y1 at *
            generalize Y.heap.size = g2 at *
            have G := Lib.hid tG
            have HN := Lib.hid tN
            have B2 := Lib.hid t2
            clear tG tN t2
            refine held_two 3 9 rfl rfl rfl rfl (by kernel_rfl) (fun K hK => ?_) (fun K hK => ?_)
            · skip
              refine wp_app1 (dst := some 50) Try.underlying28 infoI rfl (by decide) (by rfl) (by rfl) HN.out B2.out rfl (by have := HL.out; omega) G.out.b.size ?_
              intro v3 Y2 ho3 hg3
              have tG := G.out.num' hg3 (by rw [← HM.out]; exact ho3)
              obtain ⟨av, cv, hv3⟩ := ownsRow_form ho3
              subst hv3
              refine hK _ _ tG.b ?_
              clear hK K G HN B2 ho3 hg3
              have G := Lib.hid tG
              clear tG
              refine held_one 9 rfl rfl (by kernel_rfl) fun K hK => ?_
              go_simp
              have al := (Below.refl Y2.heap.size Y2).alloc (Nat.le_refl _) (.cells #[.slice ax nx capx] 22)
              have tG := G.out.later al
              have t9 := heap_alloc_new Y2 (.cells #[.slice ax nx capx] 22)
              refine hK _ _ tG.b ?_
              clear hK K G al
              generalize Y2.alloc (.cells #[.slice ax nx capx] 22) = Y3 at *
              generalize Y2.heap.size = g9 at *
              have G := Lib.hid tG
              have B9 := Lib.hid t9
              clear tG t9
              refine held_one 10 rfl rfl (by kernel_rfl) fun K hK => ?_
              refine wp_app1 (dst := some 57) Try.underlying35 infoS rfl (by decide) (by rfl) (by rfl) G.out.r B9.out rfl (by have := HL.out; have := HV.out; omega) G.out.b.size ?_
              intro v4 Y4 ho4 hg4
              have tG := G.out.row' SX.out hg4 ho4
              obtain ⟨aw, cw, hv4⟩ := ownsRow_form ho4
              subst hv4
              refine hK _ _ tG.b ?_
              clear hK K G B9 ho4 hg4
              have G := Lib.hid tG
              clear tG
              refine held_one 11 rfl rfl (by kernel_rfl) fun K hK => ?_
              go_simp
              refine hK _ _ G.out.b ?_
              clear hK K
              refine held_one 12 rfl rfl (by kernel_rfl) fun K hK => ?_
              go_simp
              refine hK _ _ G.out.b ?_
              clear hK K
              refine wpAnyH_done (by kernel_rfl) ?_ _
              go_wp2_with fail
              go_roundw
              case rel => exact ⟨k + 1, vs ++ [.slice ax nx capx], by omega, by go_num, by rw [HP.out]; exact G.out, by rw [HP.out]; exact HEQ.out⟩
              case measure => simp [intOf]; omega
            · skip
              go_simp
              have al := (Below.refl Y1.heap.size Y1).alloc (Nat.le_refl _) (.cells #[.slice ax nx capx] 22)
              have tG := G.out.later al
              have t9 := heap_alloc_new Y1 (.cells #[.slice ax nx capx] 22)
              have tN := ownsRow_mono HN.out al
              clear HN
              have t2 := (al.block _ (lt_of_some B2.out)).trans B2.out
              clear B2
              refine hK _ _ tG.b ?_
              clear hK K G al
              generalize Y1.alloc (.cells #[.slice ax nx capx] 22) = Y2 at *
              generalize Y1.heap.size = g9 at *
              have G := Lib.hid tG
              have B9 := Lib.hid t9
              clear tG t9
              have HN := Lib.hid tN
              clear tN
              have B2 := Lib.hid t2
              clear t2
              refine held_one 3 rfl rfl (by kernel_rfl) fun K hK => ?_
              refine wp_app1 (dst := some 50) Try.underlying28 infoI rfl (by decide) (by rfl) (by rfl) HN.out B2.out rfl (by have := HL.out; omega) G.out.b.size ?_
              intro v3 Y3 ho3 hg3
              have tG := G.out.num' hg3 (by rw [← HM.out]; exact ho3)
              have t9 := (blk_grow (by decide) B9.out HN.out hg3).trans B9.out
              clear B9
              obtain ⟨av, cv, hv3⟩ := ownsRow_form ho3
              subst hv3
              refine hK _ _ tG.b ?_
              clear hK K G HN B2 ho3 hg3
              have G := Lib.hid tG
              clear tG
              have B9 := Lib.hid t9
              clear t9
              refine held_one 10 rfl rfl (by kernel_rfl) fun K hK => ?_
              refine wp_app1 (dst := some 57) Try.underlying35 infoS rfl (by decide) (by rfl) (by rfl) G.out.r B9.out rfl (by have := HL.out; have := HV.out; omega) G.out.b.size ?_
              intro v4 Y4 ho4 hg4
              have tG := G.out.row' SX.out hg4 ho4
              obtain ⟨aw, cw, hv4⟩ := ownsRow_form ho4
              subst hv4
              refine hK _ _ tG.b ?_
              clear hK K G B9 ho4 hg4
              have G := Lib.hid tG
              clear tG
              refine held_one 11 rfl rfl (by kernel_rfl) fun K hK => ?_
              go_simp
              refine hK _ _ G.out.b ?_
              clear hK K
              refine held_one 12 rfl rfl (by kernel_rfl) fun K hK => ?_
              go_simp
              refine hK _ _ G.out.b ?_
              clear hK K
              refine wpAnyH_done (by kernel_rfl) ?_ _
              go_wp2_with fail
              go_roundw
              case rel => exact ⟨k + 1, vs ++ [.slice ax nx capx], by omega, by go_num, by rw [HP.out]; exact G.out, by rw [HP.out]; exact HEQ.out⟩
              case measure => simp [intOf]; omega
          · skip
            go_simp
            have al := (Below.refl Y.heap.size Y).alloc (Nat.le_refl _) (.cells #[.slice ax nx capx] 22)
            have tG := G.out.later al
            have t9 := heap_alloc_new Y (.cells #[.slice ax nx capx] 22)
            have tN := ownsRow_mono HN.out al
            clear HN
            refine hK _ _ tG.b ?_
            clear hK K G al
            generalize Y.alloc (.cells #[.slice ax nx capx] 22) = Y1 at *
            generalize Y.heap.size = g9 at *
            have G := Lib.hid tG
            have B9 := Lib.hid t9
            clear tG t9
            have HN := Lib.hid tN
            clear tN
            refine held_one 2 rfl rfl (by kernel_rfl) fun K hK => ?_
            go_simp
            have al := (Below.refl Y1.heap.size Y1).alloc (Nat.le_refl _) (.cells #[.int .i64 (k : Int)] 3)
            have tG := G.out.later al
            have tN := ownsRow_mono HN.out al
            have t2 := heap_alloc_new Y1 (.cells #[.int .i64 (k : Int)] 3)
            have t9 := (al.block _ (lt_of_some B9.out)).trans B9.out
            clear B9
            refine hK _ _ tG.b ?_
            clear hK K G HN al
            generalize Y1.alloc (.cells #[.int .i64 (k : Int)] 3) = Y2 at *
            generalize Y1.heap.size = g2 at *
            have G := Lib.hid tG
            have HN := Lib.hid tN
            have B2 := Lib.hid t2
            clear tG tN t2
            have B9 := Lib.hid t9
            clear t9
            refine held_one 3 rfl rfl (by kernel_rfl) fun K hK => ?_
            refine wp_app1 (dst := some 50) Try.underlying28 infoI rfl (by decide) (by rfl) (by rfl) HN.out B2.out rfl (by have := HL.out; omega) G.out.b.size ?_
            intro v3 Y3 ho3 hg3
            have tG := G.out.num' hg3 (by rw [← HM.out]; exact ho3)
            have t9 := (blk_grow (by decide) B9.out HN.out hg3).trans B9.out
            clear B9
            obtain ⟨av, cv, hv3⟩ := ownsRow_form ho3
            subst hv3
            refine hK _ _ tG.b ?_
            clear hK K G HN B2 ho3 hg3
            have G := Lib.hid tG
            clear tG
            have B9 := Lib.hid t9
            clear t9
            refine held_one 10 rfl rfl (by kernel_rfl) fun K hK => ?_
            refine wp_app1 (dst := some 57) Try.underlying35 infoS rfl (by decide) (by rfl) (by rfl) G.out.r B9.out rfl (by have := HL.out; have := HV.out; omega) G.out.b.size ?_
            intro v4 Y4 ho4 hg4
            have tG := G.out.row' SX.out hg4 ho4
            obtain ⟨aw, cw, hv4⟩ := ownsRow_form ho4
            subst hv4
            refine hK _ _ tG.b ?_
            clear hK K G B9 ho4 hg4
            have G := Lib.hid tG
            clear tG
            refine held_one 11 rfl rfl (by kernel_rfl) fun K hK => ?_
            go_simp
            refine hK _ _ G.out.b ?_
            clear hK K
            refine held_one 12 rfl rfl (by kernel_rfl) fun K hK => ?_
            go_simp
            refine hK _ _ G.out.b ?_
            clear hK K
            refine wpAnyH_done (by kernel_rfl) ?_ _
            go_wp2_with fail
            go_roundw
            case rel => exact ⟨k + 1, vs ++ [.slice ax nx capx], by omega, by go_num, by rw [HP.out]; exact G.out, by rw [HP.out]; exact HEQ.out⟩
            case measure => simp [intOf]; omega
        · have i0 : (0 : Int) < (m : Int) := by omega
          have i1 : decide (0 < m) = true := decide_eq_true (by omega)
          obtain ⟨b3, o3, c3, hv3, -, -, k3⟩ := sr_cells G.out.sr (by rw [pickL_length]; have := HM.out; omega)
          obtain ⟨y, y1, y2⟩ := k3 0 (by rw [pickL_length]; have := HM.out; omega)
          rw [pickL_getD (by have := HM.out; omega)] at y2
          rw [Nat.add_zero] at y1
          obtain ⟨rfl, -, rfl⟩ : a2 = some ⟨b3, o3, none⟩ ∧ m = (pickL zs S).length ∧ d2 = c3 := by simpa using hv3
          obtain ⟨ay, cy, hy, -, -⟩ := sl_form y2
          obtain ⟨ny, hny⟩ : ∃ n, n = (S.getD (zs.getD 0 0) []).length := ⟨_, rfl⟩
          rw [← hny] at hy
          subst hy
          have HNY := Lib.hid hny
          clear y2 k3 hv3 hny
          by_cases hxy : nx = ny
          · subst hxy
            have hne : ((nx : Int) != (nx : Int)) = false := by simp
            have HEQ : Hid (EqL (pickL (zs ++ [k]) S)) := (eql_snoc HQ.out).2 fun _ => by rw [← HNX.out, ← HNY.out]
            go_wp2
            go_quiet (fail)
            go_wp2
            clear f1 f2 y1 i0 i1
            have tG := G.out.later (below_drewN wr nq)
            have tN := ownsRow_mono HN.out (below_drewN wr nq)
            clear G HN
            generalize wr.drewN nq = wq at *
            have G := Lib.hid tG
            have HN := Lib.hid tN
            clear tG tN
            refine wp_region_headsS (fun w' => Below w.heap.size w w') [0, 1, 4, 5, 6, 7, 8] 6 (by kernel_rfl) (fun _ _ d _ _ h => by cases d <;> exact h) (by kernel_rfl) (by rfl) (by rfl) G.out.b.drew ?_
            simp only [pickOps, List.filterMap_cons, List.filterMap_nil, List.getElem?_toArray, List.getElem?_cons_zero, List.getElem?_cons_succ]
            refine wpHeads_step (fun K hK => ?_)
            go_simp
            refine ⟨_, fun _ _ => rfl, hK _ ?_⟩
            clear hK K
            refine wpHeads_step (fun K hK => ?_)
            go_simp
            refine ⟨_, fun _ _ => rfl, hK _ ?_⟩
            clear hK K
            refine wpHeads_step (fun K hK => ?_)
            go_simp
            refine ⟨_, fun _ _ => rfl, hK _ ?_⟩
            clear hK K
            refine wpHeads_step (fun K hK => ?_)
            go_simp
            refine ⟨_, fun _ _ => rfl, hK _ ?_⟩
            clear hK K
            refine wpHeads_step (fun K hK => ?_)
            go_simp
            refine ⟨_, fun _ _ => rfl, hK _ ?_⟩
            clear hK K
            refine wpHeads_step (fun K hK => ?_)
            go_simp
            refine ⟨_, fun _ _ => rfl, hK _ ?_⟩
            clear hK K
            refine wpHeads_step (fun K hK => ?_)
            go_simp
            refine ⟨.slice ax nx capx, fun w' hw' => by rw [(hw'.cell (p := ⟨b1, o1 + k, none⟩) (block_lt_of_cell E1.out)).trans E1.out]; rfl, hK _ ?_⟩
            clear hK K
            refine wpHeads_nil ?_
            have tG := G.out.drew
            have tN := ownsRow_mono HN.out ((Below.refl wq.heap.size wq).drew)
            clear G HN
            generalize wq.drew = Y at *
            have G := Lib.hid tG
            have HN := Lib.hid tN
            clear tG tN
            refine held_two 2 9 rfl rfl rfl rfl (by kernel_rfl) (fun K hK => ?_) (fun K hK => ?_)
            · skip
              go_simp
              have al := (Below.refl Y.heap.size Y).alloc (Nat.le_refl _) (.cells #[.int .i64 (k : Int)] 3)
              have tG := G.out.later al
              have tN := ownsRow_mono HN.out al
              have t2 := heap_alloc_new Y (.cells #[.int .i64 (k : Int)] 3)
              refine hK _ _ tG.b ?_
              clear hK K G HN al
              generalize Y.alloc (.cells #[.int .i64 (k : Int)] 3) = Y1 at *
              generalize Y.heap.size = g2 at *
              have G := Lib.hid tG
              have HN := Lib.hid tN
              have B2 := Lib.hid t2
              clear tG tN t2
              refine held_two 3 9 rfl rfl rfl rfl (by kernel_rfl) (fun K hK => ?_) (fun K hK => ?_)
              · skip
                refine wp_app1 (dst := some 50) Try.underlying28 infoI rfl (by decide) (by rfl) (by rfl) HN.out B2.out rfl (by have := HL.out; omega) G.out.b.size ?_
                intro v3 Y2 ho3 hg3
                have tG := G.out.num' hg3 (by rw [← HM.out]; exact ho3)
                obtain ⟨av, cv, hv3⟩ := ownsRow_form ho3
                subst hv3
                refine hK _ _ tG.b ?_
                clear hK K G HN B2 ho3 hg3
                have G := Lib.hid tG
                clear tG
                refine held_one 9 rfl rfl (by kernel_rfl) fun K hK => ?_
                go_simp
                have al := (Below.refl Y2.heap.size Y2).alloc (Nat.le_refl _) (.cells #[.slice ax nx capx] 22)
                have tG := G.out.later al
                have t9 := heap_alloc_new Y2 (.cells #[.slice ax nx capx] 22)
                refine hK _ _ tG.b ?_
                clear hK K G al
                generalize Y2.alloc (.cells #[.slice ax nx capx] 22) = Y3 at *
                generalize Y2.heap.size = g9 at *
                have G := Lib.hid tG
                have B9 := Lib.hid t9
                clear tG t9
                refine held_one 10 rfl rfl (by kernel_rfl) fun K hK => ?_
                refine wp_app1 (dst := some 57) Try.underlying35 infoS rfl (by decide) (by rfl) (by rfl) G.out.r B9.out rfl (by have := HL.out; have := HV.out; omega) G.out.b.size ?_
                intro v4 Y4 ho4 hg4
                have tG := G.out.row' SX.out hg4 ho4
                obtain ⟨aw, cw, hv4⟩ := ownsRow_form ho4
                subst hv4
                refine hK _ _ tG.b ?_
                clear hK K G B9 ho4 hg4
                have G := Lib.hid tG
                clear tG
                refine held_one 11 rfl rfl (by kernel_rfl) fun K hK => ?_
                go_simp
                refine hK _ _ G.out.b ?_
                clear hK K
                refine held_one 12 rfl rfl (by kernel_rfl) fun K hK => ?_
                go_simp
                refine hK _ _ G.out.b ?_
                clear hK K
                refine wpAnyH_done (by kernel_rfl) ?_ _
                go_wp2_with fail
                go_roundw
                case rel => exact ⟨k + 1, vs ++ [.slice ax nx capx], by omega, by go_num, by rw [HP.out]; exact G.out, by rw [HP.out]; exact HEQ.out⟩
                case measure => simp [intOf]; omega
              · skip
                go_simp
                have al := (Below.refl Y1.heap.size Y1).alloc (Nat.le_refl _) (.cells #[.slice ax nx capx] 22)
                have tG := G.out.later al
                have t9 := heap_alloc_new Y1 (.cells #[.slice ax nx capx] 22)
                have tN := ownsRow_mono HN.out al
                clear HN
                have t2 := (al.block _ (lt_of_some B2.out)).trans B2.out
                clear B2
                refine hK _ _ tG.b ?_
                clear hK K G al
                generalize Y1.alloc (.cells #[.slice ax nx capx] 22) = Y2 at *
                generalize Y1.heap.size = g9 at *
                have G := Lib.hid tG
                have B9 := Lib.hid t9
                clear tG t9
                have HN := Lib.hid tN
                clear tN
                have B2 := Lib.hid t2
                clear t2
                refine held_one 3 rfl rfl (by kernel_rfl) fun K hK => ?_
                refine wp_app1 (dst := some 50) Try.underlying28 infoI rfl (by decide) (by rfl) (by rfl) HN.out B2.out rfl (by have := HL.out; omega) G.out.b.size ?_
                intro v3 Y3 ho3 hg3
                have tG := G.out.num' hg3 (by rw [← HM.out]; exact ho3)
                have t9 := (blk_grow (by decide) B9.out HN.out hg3).trans B9.out
                clear B9
                obtain ⟨av, cv, hv3⟩ := ownsRow_form ho3
                subst hv3
                refine hK _ _ tG.b ?_
                clear hK K G HN B2 ho3 hg3
                have G := Lib.hid tG
                clear tG
                have B9 := Lib.hid t9
                clear t9
                refine held_one 10 rfl rfl (by kernel_rfl) fun K hK => ?_
                refine wp_app1 (dst := some 57) Try.underlying35 infoS rfl (by decide) (by rfl) (by rfl) G.out.r B9.out rfl (by have := HL.out; have := HV.out; omega) G.out.b.size ?_
                intro v4 Y4 ho4 hg4
                have tG := G.out.row' SX.out hg4 ho4
                obtain ⟨aw, cw, hv4⟩ := ownsRow_form ho4
                subst hv4
                refine hK _ _ tG.b ?_
                clear hK K G B9 ho4 hg4
                have G := Lib.hid tG
                clear tG
                refine held_one 11 rfl rfl (by kernel_rfl) fun K hK => ?_
                go_simp
                refine hK _ _ G.out.b ?_
                clear hK K
                refine held_one 12 rfl rfl (by kernel_rfl) fun K hK => ?_
                go_simp
                refine hK _ _ G.out.b ?_
                clear hK K
                refine wpAnyH_done (by kernel_rfl) ?_ _
                go_wp2_with fail
                go_roundw
                case rel => exact ⟨k + 1, vs ++ [.slice ax nx capx], by omega, by go_num, by rw [HP.out]; exact G.out, by rw [HP.out]; exact HEQ.out⟩
                case measure => simp [intOf]; omega
            · skip
              go_simp
              have al := (Below.refl Y.heap.size Y).alloc (Nat.le_refl _) (.cells #[.slice ax nx capx] 22)
              have tG := G.out.later al
              have t9 := heap_alloc_new Y (.cells #[.slice ax nx capx] 22)
              have tN := ownsRow_mono HN.out al
              clear HN
              refine hK _ _ tG.b ?_
              clear hK K G al
              generalize Y.alloc (.cells #[.slice ax nx capx] 22) = Y1 at *
              generalize Y.heap.size = g9 at *
              have G := Lib.hid tG
              have B9 := Lib.hid t9
              clear tG t9
              have HN := Lib.hid tN
              clear tN
              refine held_one 2 rfl rfl (by kernel_rfl) fun K hK => ?_
              go_simp
              have al := (Below.refl Y1.heap.size Y1).alloc (Nat.le_refl _) (.cells #[.int .i64 (k : Int)] 3)
              have tG := G.out.later al
              have tN := ownsRow_mono HN.out al
              have t2 := heap_alloc_new Y1 (.cells #[.int .i64 (k : Int)] 3)
              have t9 := (al.block _ (lt_of_some B9.out)).trans B9.out
              clear B9
              refine hK _ _ tG.b ?_
              clear hK K G HN al
              generalize Y1.alloc (.cells #[.int .i64 (k : Int)] 3) = Y2 at *
              generalize Y1.heap.size = g2 at *
              have G := Lib.hid tG
              have HN := Lib.hid tN
              have B2 := Lib.hid t2
              clear tG tN t2
              have B9 := Lib.hid t9
              clear t9
              refine held_one 3 rfl rfl (by kernel_rfl) fun K hK => ?_
              refine wp_app1 (dst := some 50) Try.underlying28 infoI rfl (by decide) (by rfl) (by rfl) HN.out B2.out rfl (by have := HL.out; omega) G.out.b.size ?_
              intro v3 Y3 ho3 hg3
              have tG := G.out.num' hg3 (by rw [← HM.out]; exact ho3)
              have t9 := (blk_grow (by decide) B9.out HN.out hg3).trans B9.out
              clear B9
              obtain ⟨av, cv, hv3⟩ := ownsRow_form ho3
              subst hv3
              refine hK _ _ tG.b ?_
              clear hK K G HN B2 ho3 hg3
              have G := Lib.hid tG
              clear tG
              have B9 := Lib.hid t9
              clear t9
              refine held_one 10 rfl rfl (by kernel_rfl) fun K hK => ?_
              refine wp_app1 (dst := some 57) Try.underlying35 infoS rfl (by decide) (by rfl) (by rfl) G.out.r B9.out rfl (by have := HL.out; have := HV.out; omega) G.out.b.size ?_
              intro v4 Y4 ho4 hg4
              have tG := G.out.row' SX.out hg4 ho4
              obtain ⟨aw, cw, hv4⟩ := ownsRow_form ho4
              subst hv4
              refine hK _ _ tG.b ?_
              clear hK K G B9 ho4 hg4
              have G := Lib.hid tG
              clear tG
              refine held_one 11 rfl rfl (by kernel_rfl) fun K hK => ?_
              go_simp
              refine hK _ _ G.out.b ?_
              clear hK K
              refine held_one 12 rfl rfl (by kernel_rfl) fun K hK => ?_
              go_simp
              refine hK _ _ G.out.b ?_
              clear hK K
              refine wpAnyH_done (by kernel_rfl) ?_ _
              go_wp2_with fail
              go_roundw
              case rel => exact ⟨k + 1, vs ++ [.slice ax nx capx], by omega, by go_num, by rw [HP.out]; exact G.out, by rw [HP.out]; exact HEQ.out⟩
              case measure => simp [intOf]; omega
          · have hne : ((nx : Int) != (ny : Int)) = true := by rw [bne_iff_ne]; omega
            have hend := HEND.out (by
              rw [HP.out]
              exact fun hq => hxy (by rw [HNX.out, HNY.out]; exact (eql_snoc HQ.out).1 hq (by have := HM.out; omega)))
            obtain rfl : E = 1 := HE.out.trans hend.2
            obtain rfl : X = [] := HX.out.trans hend.1
            clear hend
            go_wp2
            go_quiet (fail)
            go_wp2
            go_ret2
            exact ⟨⟨_, rfl, sr_nil _⟩, bt G.out.b (below_drewN wr _)⟩
    · obtain rfl : k = 6 := by omega
      have hl6 : (presK h 6).length ≤ 6 := hL
      clear hps
      have e6 : presK h 6 = pres h := rfl
      rw [e6] at hG hQ hv1 hl6
      have hlv := hG.l
      obtain ⟨n, hn⟩ : ∃ n, n = (pres h).length := ⟨_, rfl⟩
      have hfit : Fit S h := ⟨H6.out.1, H6.out.2, hQ⟩
      rw [← hn] at hv1 hl6 hlv
      rw [hlv] at hv2
      subst hv1 hv2
      by_cases h4 : 4 ≤ n
      · have h4' : 4 ≤ (pres h).length := hn ▸ h4
        have hg4 := pres_good h4'
        have hl4 := four_lv (G := pickL (pres h) S) (by rw [pickL_length]; exact h4') hQ (pick_byt HBT.out)
        have hm4 : wid (pickL (pres h) S) ≤ 1000000 := pick_small HSM.out 0
        obtain rfl : E = 0 := HE.out.trans (by unfold resE; rw [if_pos hfit, if_pos h4'])
        have hXX : X = restW ((pres h).take 4) ((pickL (pres h) S).take 4) (wid (pickL (pres h) S)) := HX.out.trans (by unfold resL; rw [if_pos hfit, if_pos h4'])
        have hAP := fun W v1 v2 s1 s2 => r_applyc ((pres h).take 4) W v1 v2 _ hl4 hm4 s1 s2
        have hD := appR_lv (bd_iy ((pres h).take 4)) hl4
        have hAL := fun v W s => rall_any v _ W s (show Small (appR 4 4 (iY ((pres h).take 4)) ((pickL (pres h) S).take 4) (wid (pickL (pres h) S))) from fun k => by
          by_cases hk : k < 4
          · rw [hD.row k hk]; exact hm4
          · rw [getD_outL (by rw [hD.len]; omega)]; simp) (lv_lev hD)
        rw [iy_rest hg4 hl4, ← hXX] at hAL
        have hsi := hG.si (presK_lt h 6)
        have hsr := hG.sr
        obtain ⟨p1, q1, e1, hv1, g1, g2, -⟩ := si_cells hsi (by rw [zi_length]; omega)
        obtain ⟨p2, q2, e2, hv2, g3, g4, -⟩ := sr_cells hsr (by rw [pickL_length]; omega)
        obtain ⟨rfl, -, rfl⟩ : a1 = some ⟨p1, q1, none⟩ ∧ n = (zi (pres h)).length ∧ d1 = e1 := by simpa using hv1
        obtain ⟨rfl, -, rfl⟩ : a2 = some ⟨p2, q2, none⟩ ∧ n = (pickL (pres h) S).length ∧ d2 = e2 := by simpa using hv2
        rw [zi_length, ← hn] at g1
        rw [pickL_length, ← hn] at g3
        have TN := Lib.hid (si_take (k := 4) hsi (by omega))
        rw [zi_take] at TN
        have TR := Lib.hid (sr_take (k := 4) hsr (by omega))
        have B := Lib.hid hG.b
        have HG4 := Lib.hid hg4
        generalize appR 4 4 (iY ((pres h).take 4)) ((pickL (pres h) S).take 4) (wid (pickL (pres h) S)) = D at *
        have AP := Lib.hid hAP
        have AL := Lib.hid hAL
        unfold maxLen at g2 g4
        have x0 : ¬ (n : Int) < 4 := by omega
        have x1 : (4 : Int) ≤ (d1 : Int) := by omega
        have x2 : (4 : Int) ≤ (d2 : Int) := by omega
        clear hAP hAL hD hXX hm4 hl4 hg4 h4' hfit hsi hsr hv1 hv2 hG hQ hlv e6 hL HE HX K1 K2 H6 HBT HSM hn
        generalize (pickL (pres h) S).take 4 = G4 at *
        generalize (pres h).take 4 = rs at *
        go_wp2_with fail
        refine wp_region_heads [1, 2] 8 (by kernel_rfl) (fun _ _ d _ _ h => by cases d <;> exact h) (by kernel_rfl) (by rfl) (by rfl) ?_
        simp only [pickOps, List.filterMap_cons, List.filterMap_nil, List.getElem?_toArray, List.getElem?_cons_zero, List.getElem?_cons_succ]
        refine wpHeads_step (fun K hK => ?_)
        go_simp
        refine hK _ ?_
        clear hK K
        refine wpHeads_step (fun K hK => ?_)
        go_simp
        refine hK _ ?_
        clear hK K
        refine wpHeads_nil ?_
        have hX := (Below.refl wr.heap.size wr).drew
        generalize wr.drew = Y at hX ⊢
        have HX := Lib.hid hX
        clear hX
        refine held_two 0 7 rfl rfl rfl rfl (by kernel_rfl) (fun K hK => ?_) (fun K hK => ?_)
        · skip
          go_simp
          go_at_call 12
          refine (rcode_any Y).mono ?_
          unfold CM mv
          rintro e Y1 ⟨⟨s1, rfl, hs1⟩, hb1⟩
          have tX := bt HX.out hb1
          refine hK _ _ (bl_of_below tX) ?_
          clear hK K HX
          have HX := Lib.hid tX
          clear tX
          clear hb1
          have S1 := Lib.hid hs1
          clear hs1
          refine held_two 3 7 rfl rfl rfl rfl (by kernel_rfl) (fun K hK => ?_) (fun K hK => ?_)
          · skip
            go_simp
            go_at_call 30
            refine (r_pickc HG4.out Y1 _ _ S1.out (si_below TN.out HX.out)).mono ?_
            unfold MS mv
            rintro e Y2 ⟨⟨s5, rfl, hs5⟩, hb5⟩
            obtain ⟨a5, c5, hv5, -, -⟩ := sl_form hs5
            obtain ⟨n5, hn5⟩ : ∃ n, n = (flat 4 4 (Pc rs)).length := ⟨_, rfl⟩
            rw [← hn5] at hv5
            subst hv5
            clear hn5 S1
            have tX := bt HX.out hb5
            refine hK _ _ (bl_of_below tX) ?_
            clear hK K HX
            have HX := Lib.hid tX
            clear tX
            clear hb5
            have S5 := Lib.hid hs5
            clear hs5
            refine wpAnyH_take (i := 4) (v := .tuple #[.agg #[.int .i64 4, .int .i64 4, .slice a5 n5 c5], .int .i64 0]) rfl (by kernel_rfl) (by kernel_rfl) (by kernel_rfl) (fun _ _ _ h => h) (Or.inl ⟨by rfl, fun w _ => by rfl⟩) (bl_of_below HX.out) ?_
            refine wpAnyH_take (i := 5) (v := .agg #[.int .i64 4, .int .i64 4, .slice a5 n5 c5]) rfl (by kernel_rfl) (by kernel_rfl) (by kernel_rfl) (fun _ _ _ h => h) (Or.inl ⟨by rfl, fun w _ => by rfl⟩) (bl_of_below HX.out) ?_
            refine wpAnyH_take (i := 6) (v := .int .i64 0) rfl (by kernel_rfl) (by kernel_rfl) (by kernel_rfl) (fun _ _ _ h => h) (Or.inl ⟨by rfl, fun w _ => by rfl⟩) (bl_of_below HX.out) ?_
            refine held_one 7 rfl rfl (by kernel_rfl) fun K hK => ?_
            go_simp
            have al := (Below.refl Y2.heap.size Y2).alloc (Nat.le_refl _) (.cells #[.int .i64 0, .int .i64 0, .slice none 0 0] 26)
            have hz := heap_alloc_new Y2 (.cells #[.int .i64 0, .int .i64 0, .slice none 0 0] 26)
            have HP := Lib.hid HX.out.size
            have tX := bt HX.out al
            have t5 := sl_below S5.out al
            clear S5
            refine hK _ _ (bl_of_below tX) ?_
            clear hK K HX
            have HX := Lib.hid tX
            clear tX
            have S5 := Lib.hid t5
            clear t5
            clear al
            generalize Y2.alloc (.cells #[.int .i64 0, .int .i64 0, .slice none 0 0] 26) = Y3 at *
            generalize Y2.heap.size = p at *
            have Z := Lib.hid hz
            clear hz
            refine held_one 8 rfl rfl (by kernel_rfl) fun K hK => ?_
            refine wp_store_row 26 _ _ rfl p #[.int .i64 4, .int .i64 4, .slice a5 n5 c5] (by rfl) (by rfl) 26 _ Z.out size24 rfl (by simp [show (Value.int .i64 4).oneCell' = true from rfl, show (Value.slice a5 n5 c5).oneCell' = true from rfl]) ?_
            have tX := below_setRow HX.out HP.out #[.int .i64 4, .int .i64 4, .slice a5 n5 c5]
            have tM : MB (Y3.setRow p #[.int .i64 4, .int .i64 4, .slice a5 n5 c5]) 26 p 4 4 a5 n5 c5 (flat 4 4 (Pc rs)) := ⟨setRow_heap _ _ _ _ _ _ Z.out, sl_setRow S5.out Z.out⟩
            refine hK _ _ (bl_of_below tX) ?_
            clear hK K
            generalize Y3.setRow p #[.int .i64 4, .int .i64 4, .slice a5 n5 c5] = V at tX tM ⊢
            clear HX Z S5 HP
            have Pm := Lib.hid tM
            have HX := Lib.hid tX
            clear tX tM
            refine held_one 9 rfl rfl (by kernel_rfl) fun K hK => ?_
            go_simp
            refine hK _ _ (bl_of_below HX.out) ?_
            clear hK K
            refine wpAnyH_done (by kernel_rfl) ?_ _
            have tR := sr_below TR.out HX.out
            have tB := bt B.out HX.out
            clear TR B HX TN
            have TR := Lib.hid tR
            have B := Lib.hid tB
            clear tR tB
            obtain ⟨Pmc0, Pmc1, Pmc2⟩ := Pm.out.cells
            go_wp2_with fail
            clear Pmc0 Pmc1 Pmc2
            refine (r_invc HG4.out V _ Pm.out.sl).mono ?_
            unfold MS mv
            rintro e w11 ⟨⟨s11, rfl, hs11⟩, hb11⟩
            obtain ⟨a11, c11, hv11, -, -⟩ := sl_form hs11
            obtain ⟨n11, hn11⟩ : ∃ n, n = (flat 4 4 (iY rs)).length := ⟨_, rfl⟩
            rw [← hn11] at hv11
            subst hv11
            clear hn11
            have tnew : MB (w11.alloc (.cells #[.int .i64 4, .int .i64 4, .slice a11 n11 c11] 26)) 26 w11.heap.size 4 4 a11 n11 c11 (flat 4 4 (iY rs)) := MB.mk' hs11
            clear hs11
            have tTR := sr_below TR.out hb11
            clear TR
            have TR := Lib.hid tTR
            clear tTR
            have tB := bt B.out hb11
            clear B
            have B := Lib.hid tB
            clear tB
            clear hb11
            have al11 := (Below.refl w11.heap.size w11).alloc (Nat.le_refl _) (.cells #[.int .i64 4, .int .i64 4, .slice a11 n11 c11] 26)
            have tTR := sr_below TR.out al11
            clear TR
            have TR := Lib.hid tTR
            clear tTR
            have tB := bt B.out al11
            clear B
            have B := Lib.hid tB
            clear tB
            clear al11
            have Im := Lib.hid tnew
            clear tnew
            obtain ⟨Imc0, Imc1, Imc2⟩ := Im.out.cells
            go_wp2_with fail
            have hz11 : (w11.alloc (.cells #[.int .i64 4, .int .i64 4, .slice a11 n11 c11] 26)).heap.size = w11.heap.size + 1 := by simp
            have HZ11 := Lib.hid hz11
            clear hz11
            generalize w11.alloc (.cells #[.int .i64 4, .int .i64 4, .slice a11 n11 c11] 26) = W11 at *
            clear Imc0 Imc1 Imc2
            obtain ⟨z0, z1, z2⟩ := cells3 Im.out.blk
            refine wp_region_heads [0, 1, 2] 6 (by kernel_rfl) (fun _ _ d _ _ h => by cases d <;> exact h) (by kernel_rfl) (by rfl) (by rfl) ?_
            simp only [pickOps, List.filterMap_cons, List.filterMap_nil, List.getElem?_toArray, List.getElem?_cons_zero, List.getElem?_cons_succ]
            refine wpHeads_step (fun K hK => ?_)
            go_simp
            refine hK _ ?_
            clear hK K
            refine wpHeads_step (fun K hK => ?_)
            go_simp
            refine hK _ ?_
            clear hK K
            refine wpHeads_step (fun K hK => ?_)
            go_simp
            refine hK _ ?_
            clear hK K
            refine wpHeads_nil ?_
            clear z0 z1 z2
            have hX := (Below.refl W11.heap.size W11).drew
            generalize W11.drew = Z1 at hX ⊢
            have HX := Lib.hid hX
            clear hX
            refine held_one 3 rfl rfl (by kernel_rfl) fun K hK => ?_
            go_simp
            go_at_call 46
            refine (AP.out Z1 _ _ (Im.out.later HX.out).sl (sr_below TR.out HX.out)).mono ?_
            unfold AS
            rintro e Z2 ⟨⟨s7, rfl, hs7⟩, hb7⟩
            have tX := bt HX.out hb7
            refine hK _ _ (bl_of_below tX) ?_
            clear hK K HX hb7
            have HX := Lib.hid tX
            have S7 := Lib.hid hs7
            clear tX hs7
            refine wpAnyH_take (i := 4) (v := .tuple #[s7, .int .i64 0]) rfl (by kernel_rfl) (by kernel_rfl) (by kernel_rfl) (fun _ _ _ h => h) (Or.inl ⟨by rfl, fun w _ => by rfl⟩) (bl_of_below HX.out) ?_
            refine wpAnyH_take (i := 5) (v := s7) rfl (by kernel_rfl) (by kernel_rfl) (by kernel_rfl) (fun _ _ _ h => h) (Or.inl ⟨by rfl, fun w _ => by rfl⟩) (bl_of_below HX.out) ?_
            refine wpAnyH_take (i := 6) (v := .int .i64 0) rfl (by kernel_rfl) (by kernel_rfl) (by kernel_rfl) (fun _ _ _ h => h) (Or.inl ⟨by rfl, fun w _ => by rfl⟩) (bl_of_below HX.out) ?_
            refine held_one 7 rfl rfl (by kernel_rfl) fun K hK => ?_
            go_simp
            refine hK _ _ (bl_of_below HX.out) ?_
            clear hK K
            refine held_one 8 rfl rfl (by kernel_rfl) fun K hK => ?_
            go_simp
            refine hK _ _ (bl_of_below HX.out) ?_
            clear hK K
            refine wpAnyH_done (by kernel_rfl) ?_ _
            go_wp2_with fail
            refine (AL.out _ Z2 S7.out).mono ?_
            rintro e Z3 ⟨⟨s8, rfl, hs8⟩, hb8⟩
            have hb := bt (bt B.out HX.out) hb8
            go_wp2_with fail
            go_ret2
            exact ⟨⟨_, rfl, hs8⟩, hb⟩
          · skip
            go_simp
            have al := (Below.refl Y1.heap.size Y1).alloc (Nat.le_refl _) (.cells #[.int .i64 0, .int .i64 0, .slice none 0 0] 26)
            have hz := heap_alloc_new Y1 (.cells #[.int .i64 0, .int .i64 0, .slice none 0 0] 26)
            have HP := Lib.hid HX.out.size
            have tX := bt HX.out al
            have t1 := sl_below S1.out al
            clear S1
            refine hK _ _ (bl_of_below tX) ?_
            clear hK K HX
            have HX := Lib.hid tX
            clear tX
            have S1 := Lib.hid t1
            clear t1
            clear al
            generalize Y1.alloc (.cells #[.int .i64 0, .int .i64 0, .slice none 0 0] 26) = Y2 at *
            generalize Y1.heap.size = p at *
            have Z := Lib.hid hz
            clear hz
            refine held_one 3 rfl rfl (by kernel_rfl) fun K hK => ?_
            go_simp
            go_at_call 30
            refine (r_pickc HG4.out Y2 _ _ S1.out (si_below TN.out HX.out)).mono ?_
            unfold MS mv
            rintro e Y3 ⟨⟨s5, rfl, hs5⟩, hb5⟩
            obtain ⟨a5, c5, hv5, -, -⟩ := sl_form hs5
            obtain ⟨n5, hn5⟩ : ∃ n, n = (flat 4 4 (Pc rs)).length := ⟨_, rfl⟩
            rw [← hn5] at hv5
            subst hv5
            clear hn5 S1
            have tX := bt HX.out hb5
            have tZ := (hb5.block _ (lt_of_some Z.out)).trans Z.out
            clear Z
            refine hK _ _ (bl_of_below tX) ?_
            clear hK K HX
            have HX := Lib.hid tX
            clear tX
            have Z := Lib.hid tZ
            clear tZ
            clear hb5
            have S5 := Lib.hid hs5
            clear hs5
            refine wpAnyH_take (i := 4) (v := .tuple #[.agg #[.int .i64 4, .int .i64 4, .slice a5 n5 c5], .int .i64 0]) rfl (by kernel_rfl) (by kernel_rfl) (by kernel_rfl) (fun _ _ _ h => h) (Or.inl ⟨by rfl, fun w _ => by rfl⟩) (bl_of_below HX.out) ?_
            refine wpAnyH_take (i := 5) (v := .agg #[.int .i64 4, .int .i64 4, .slice a5 n5 c5]) rfl (by kernel_rfl) (by kernel_rfl) (by kernel_rfl) (fun _ _ _ h => h) (Or.inl ⟨by rfl, fun w _ => by rfl⟩) (bl_of_below HX.out) ?_
            refine wpAnyH_take (i := 6) (v := .int .i64 0) rfl (by kernel_rfl) (by kernel_rfl) (by kernel_rfl) (fun _ _ _ h => h) (Or.inl ⟨by rfl, fun w _ => by rfl⟩) (bl_of_below HX.out) ?_
            refine held_one 8 rfl rfl (by kernel_rfl) fun K hK => ?_
            refine wp_store_row 26 _ _ rfl p #[.int .i64 4, .int .i64 4, .slice a5 n5 c5] (by rfl) (by rfl) 26 _ Z.out size24 rfl (by simp [show (Value.int .i64 4).oneCell' = true from rfl, show (Value.slice a5 n5 c5).oneCell' = true from rfl]) ?_
            have tX := below_setRow HX.out HP.out #[.int .i64 4, .int .i64 4, .slice a5 n5 c5]
            have tM : MB (Y3.setRow p #[.int .i64 4, .int .i64 4, .slice a5 n5 c5]) 26 p 4 4 a5 n5 c5 (flat 4 4 (Pc rs)) := ⟨setRow_heap _ _ _ _ _ _ Z.out, sl_setRow S5.out Z.out⟩
            refine hK _ _ (bl_of_below tX) ?_
            clear hK K
            generalize Y3.setRow p #[.int .i64 4, .int .i64 4, .slice a5 n5 c5] = V at tX tM ⊢
            clear HX Z S5 HP
            have Pm := Lib.hid tM
            have HX := Lib.hid tX
            clear tX tM
            refine held_one 9 rfl rfl (by kernel_rfl) fun K hK => ?_
            go_simp
            refine hK _ _ (bl_of_below HX.out) ?_
            clear hK K
            refine wpAnyH_done (by kernel_rfl) ?_ _
            have tR := sr_below TR.out HX.out
            have tB := bt B.out HX.out
            clear TR B HX TN
            have TR := Lib.hid tR
            have B := Lib.hid tB
            clear tR tB
            obtain ⟨Pmc0, Pmc1, Pmc2⟩ := Pm.out.cells
            go_wp2_with fail
            clear Pmc0 Pmc1 Pmc2
            refine (r_invc HG4.out V _ Pm.out.sl).mono ?_
            unfold MS mv
            rintro e w11 ⟨⟨s11, rfl, hs11⟩, hb11⟩
            obtain ⟨a11, c11, hv11, -, -⟩ := sl_form hs11
            obtain ⟨n11, hn11⟩ : ∃ n, n = (flat 4 4 (iY rs)).length := ⟨_, rfl⟩
            rw [← hn11] at hv11
            subst hv11
            clear hn11
            have tnew : MB (w11.alloc (.cells #[.int .i64 4, .int .i64 4, .slice a11 n11 c11] 26)) 26 w11.heap.size 4 4 a11 n11 c11 (flat 4 4 (iY rs)) := MB.mk' hs11
            clear hs11
            have tTR := sr_below TR.out hb11
            clear TR
            have TR := Lib.hid tTR
            clear tTR
            have tB := bt B.out hb11
            clear B
            have B := Lib.hid tB
            clear tB
            clear hb11
            have al11 := (Below.refl w11.heap.size w11).alloc (Nat.le_refl _) (.cells #[.int .i64 4, .int .i64 4, .slice a11 n11 c11] 26)
            have tTR := sr_below TR.out al11
            clear TR
            have TR := Lib.hid tTR
            clear tTR
            have tB := bt B.out al11
            clear B
            have B := Lib.hid tB
            clear tB
            clear al11
            have Im := Lib.hid tnew
            clear tnew
            obtain ⟨Imc0, Imc1, Imc2⟩ := Im.out.cells
            go_wp2_with fail
            have hz11 : (w11.alloc (.cells #[.int .i64 4, .int .i64 4, .slice a11 n11 c11] 26)).heap.size = w11.heap.size + 1 := by simp
            have HZ11 := Lib.hid hz11
            clear hz11
            generalize w11.alloc (.cells #[.int .i64 4, .int .i64 4, .slice a11 n11 c11] 26) = W11 at *
            clear Imc0 Imc1 Imc2
            obtain ⟨z0, z1, z2⟩ := cells3 Im.out.blk
            refine wp_region_heads [0, 1, 2] 6 (by kernel_rfl) (fun _ _ d _ _ h => by cases d <;> exact h) (by kernel_rfl) (by rfl) (by rfl) ?_
            simp only [pickOps, List.filterMap_cons, List.filterMap_nil, List.getElem?_toArray, List.getElem?_cons_zero, List.getElem?_cons_succ]
            refine wpHeads_step (fun K hK => ?_)
            go_simp
            refine hK _ ?_
            clear hK K
            refine wpHeads_step (fun K hK => ?_)
            go_simp
            refine hK _ ?_
            clear hK K
            refine wpHeads_step (fun K hK => ?_)
            go_simp
            refine hK _ ?_
            clear hK K
            refine wpHeads_nil ?_
            clear z0 z1 z2
            have hX := (Below.refl W11.heap.size W11).drew
            generalize W11.drew = Z1 at hX ⊢
            have HX := Lib.hid hX
            clear hX
            refine held_one 3 rfl rfl (by kernel_rfl) fun K hK => ?_
            go_simp
            go_at_call 46
            refine (AP.out Z1 _ _ (Im.out.later HX.out).sl (sr_below TR.out HX.out)).mono ?_
            unfold AS
            rintro e Z2 ⟨⟨s7, rfl, hs7⟩, hb7⟩
            have tX := bt HX.out hb7
            refine hK _ _ (bl_of_below tX) ?_
            clear hK K HX hb7
            have HX := Lib.hid tX
            have S7 := Lib.hid hs7
            clear tX hs7
            refine wpAnyH_take (i := 4) (v := .tuple #[s7, .int .i64 0]) rfl (by kernel_rfl) (by kernel_rfl) (by kernel_rfl) (fun _ _ _ h => h) (Or.inl ⟨by rfl, fun w _ => by rfl⟩) (bl_of_below HX.out) ?_
            refine wpAnyH_take (i := 5) (v := s7) rfl (by kernel_rfl) (by kernel_rfl) (by kernel_rfl) (fun _ _ _ h => h) (Or.inl ⟨by rfl, fun w _ => by rfl⟩) (bl_of_below HX.out) ?_
            refine wpAnyH_take (i := 6) (v := .int .i64 0) rfl (by kernel_rfl) (by kernel_rfl) (by kernel_rfl) (fun _ _ _ h => h) (Or.inl ⟨by rfl, fun w _ => by rfl⟩) (bl_of_below HX.out) ?_
            refine held_one 7 rfl rfl (by kernel_rfl) fun K hK => ?_
            go_simp
            refine hK _ _ (bl_of_below HX.out) ?_
            clear hK K
            refine held_one 8 rfl rfl (by kernel_rfl) fun K hK => ?_
            go_simp
            refine hK _ _ (bl_of_below HX.out) ?_
            clear hK K
            refine wpAnyH_done (by kernel_rfl) ?_ _
            go_wp2_with fail
            refine (AL.out _ Z2 S7.out).mono ?_
            rintro e Z3 ⟨⟨s8, rfl, hs8⟩, hb8⟩
            have hb := bt (bt B.out HX.out) hb8
            go_wp2_with fail
            go_ret2
            exact ⟨⟨_, rfl, hs8⟩, hb⟩
        · skip
          go_simp
          have al := (Below.refl Y.heap.size Y).alloc (Nat.le_refl _) (.cells #[.int .i64 0, .int .i64 0, .slice none 0 0] 26)
          have hz := heap_alloc_new Y (.cells #[.int .i64 0, .int .i64 0, .slice none 0 0] 26)
          have HP := Lib.hid HX.out.size
          have tX := bt HX.out al
          refine hK _ _ (bl_of_below tX) ?_
          clear hK K HX
          have HX := Lib.hid tX
          clear tX
          clear al
          generalize Y.alloc (.cells #[.int .i64 0, .int .i64 0, .slice none 0 0] 26) = Y1 at *
          generalize Y.heap.size = p at *
          have Z := Lib.hid hz
          clear hz
          refine held_one 0 rfl rfl (by kernel_rfl) fun K hK => ?_
          go_simp
          go_at_call 12
          refine (rcode_any Y1).mono ?_
          unfold CM mv
          rintro e Y2 ⟨⟨s1, rfl, hs1⟩, hb1⟩
          have tX := bt HX.out hb1
          have tZ := (hb1.block _ (lt_of_some Z.out)).trans Z.out
          clear Z
          refine hK _ _ (bl_of_below tX) ?_
          clear hK K HX
          have HX := Lib.hid tX
          clear tX
          have Z := Lib.hid tZ
          clear tZ
          clear hb1
          have S1 := Lib.hid hs1
          clear hs1
          refine held_one 3 rfl rfl (by kernel_rfl) fun K hK => ?_
          go_simp
          go_at_call 30
          refine (r_pickc HG4.out Y2 _ _ S1.out (si_below TN.out HX.out)).mono ?_
          unfold MS mv
          rintro e Y3 ⟨⟨s5, rfl, hs5⟩, hb5⟩
          obtain ⟨a5, c5, hv5, -, -⟩ := sl_form hs5
          obtain ⟨n5, hn5⟩ : ∃ n, n = (flat 4 4 (Pc rs)).length := ⟨_, rfl⟩
          rw [← hn5] at hv5
          subst hv5
          clear hn5 S1
          have tX := bt HX.out hb5
          have tZ := (hb5.block _ (lt_of_some Z.out)).trans Z.out
          clear Z
          refine hK _ _ (bl_of_below tX) ?_
          clear hK K HX
          have HX := Lib.hid tX
          clear tX
          have Z := Lib.hid tZ
          clear tZ
          clear hb5
          have S5 := Lib.hid hs5
          clear hs5
          refine wpAnyH_take (i := 4) (v := .tuple #[.agg #[.int .i64 4, .int .i64 4, .slice a5 n5 c5], .int .i64 0]) rfl (by kernel_rfl) (by kernel_rfl) (by kernel_rfl) (fun _ _ _ h => h) (Or.inl ⟨by rfl, fun w _ => by rfl⟩) (bl_of_below HX.out) ?_
          refine wpAnyH_take (i := 5) (v := .agg #[.int .i64 4, .int .i64 4, .slice a5 n5 c5]) rfl (by kernel_rfl) (by kernel_rfl) (by kernel_rfl) (fun _ _ _ h => h) (Or.inl ⟨by rfl, fun w _ => by rfl⟩) (bl_of_below HX.out) ?_
          refine wpAnyH_take (i := 6) (v := .int .i64 0) rfl (by kernel_rfl) (by kernel_rfl) (by kernel_rfl) (fun _ _ _ h => h) (Or.inl ⟨by rfl, fun w _ => by rfl⟩) (bl_of_below HX.out) ?_
          refine held_one 8 rfl rfl (by kernel_rfl) fun K hK => ?_
          refine wp_store_row 26 _ _ rfl p #[.int .i64 4, .int .i64 4, .slice a5 n5 c5] (by rfl) (by rfl) 26 _ Z.out size24 rfl (by simp [show (Value.int .i64 4).oneCell' = true from rfl, show (Value.slice a5 n5 c5).oneCell' = true from rfl]) ?_
          have tX := below_setRow HX.out HP.out #[.int .i64 4, .int .i64 4, .slice a5 n5 c5]
          have tM : MB (Y3.setRow p #[.int .i64 4, .int .i64 4, .slice a5 n5 c5]) 26 p 4 4 a5 n5 c5 (flat 4 4 (Pc rs)) := ⟨setRow_heap _ _ _ _ _ _ Z.out, sl_setRow S5.out Z.out⟩
          refine hK _ _ (bl_of_below tX) ?_
          clear hK K
          generalize Y3.setRow p #[.int .i64 4, .int .i64 4, .slice a5 n5 c5] = V at tX tM ⊢
          clear HX Z S5 HP
          have Pm := Lib.hid tM
          have HX := Lib.hid tX
          clear tX tM
          refine held_one 9 rfl rfl (by kernel_rfl) fun K hK => ?_
          go_simp
          refine hK _ _ (bl_of_below HX.out) ?_
          clear hK K
          refine wpAnyH_done (by kernel_rfl) ?_ _
          have tR := sr_below TR.out HX.out
          have tB := bt B.out HX.out
          clear TR B HX TN
          have TR := Lib.hid tR
          have B := Lib.hid tB
          clear tR tB
          obtain ⟨Pmc0, Pmc1, Pmc2⟩ := Pm.out.cells
          go_wp2_with fail
          clear Pmc0 Pmc1 Pmc2
          refine (r_invc HG4.out V _ Pm.out.sl).mono ?_
          unfold MS mv
          rintro e w11 ⟨⟨s11, rfl, hs11⟩, hb11⟩
          obtain ⟨a11, c11, hv11, -, -⟩ := sl_form hs11
          obtain ⟨n11, hn11⟩ : ∃ n, n = (flat 4 4 (iY rs)).length := ⟨_, rfl⟩
          rw [← hn11] at hv11
          subst hv11
          clear hn11
          have tnew : MB (w11.alloc (.cells #[.int .i64 4, .int .i64 4, .slice a11 n11 c11] 26)) 26 w11.heap.size 4 4 a11 n11 c11 (flat 4 4 (iY rs)) := MB.mk' hs11
          clear hs11
          have tTR := sr_below TR.out hb11
          clear TR
          have TR := Lib.hid tTR
          clear tTR
          have tB := bt B.out hb11
          clear B
          have B := Lib.hid tB
          clear tB
          clear hb11
          have al11 := (Below.refl w11.heap.size w11).alloc (Nat.le_refl _) (.cells #[.int .i64 4, .int .i64 4, .slice a11 n11 c11] 26)
          have tTR := sr_below TR.out al11
          clear TR
          have TR := Lib.hid tTR
          clear tTR
          have tB := bt B.out al11
          clear B
          have B := Lib.hid tB
          clear tB
          clear al11
          have Im := Lib.hid tnew
          clear tnew
          obtain ⟨Imc0, Imc1, Imc2⟩ := Im.out.cells
          go_wp2_with fail
          have hz11 : (w11.alloc (.cells #[.int .i64 4, .int .i64 4, .slice a11 n11 c11] 26)).heap.size = w11.heap.size + 1 := by simp
          have HZ11 := Lib.hid hz11
          clear hz11
          generalize w11.alloc (.cells #[.int .i64 4, .int .i64 4, .slice a11 n11 c11] 26) = W11 at *
          clear Imc0 Imc1 Imc2
          obtain ⟨z0, z1, z2⟩ := cells3 Im.out.blk
          refine wp_region_heads [0, 1, 2] 6 (by kernel_rfl) (fun _ _ d _ _ h => by cases d <;> exact h) (by kernel_rfl) (by rfl) (by rfl) ?_
          simp only [pickOps, List.filterMap_cons, List.filterMap_nil, List.getElem?_toArray, List.getElem?_cons_zero, List.getElem?_cons_succ]
          refine wpHeads_step (fun K hK => ?_)
          go_simp
          refine hK _ ?_
          clear hK K
          refine wpHeads_step (fun K hK => ?_)
          go_simp
          refine hK _ ?_
          clear hK K
          refine wpHeads_step (fun K hK => ?_)
          go_simp
          refine hK _ ?_
          clear hK K
          refine wpHeads_nil ?_
          clear z0 z1 z2
          have hX := (Below.refl W11.heap.size W11).drew
          generalize W11.drew = Z1 at hX ⊢
          have HX := Lib.hid hX
          clear hX
          refine held_one 3 rfl rfl (by kernel_rfl) fun K hK => ?_
          go_simp
          go_at_call 46
          refine (AP.out Z1 _ _ (Im.out.later HX.out).sl (sr_below TR.out HX.out)).mono ?_
          unfold AS
          rintro e Z2 ⟨⟨s7, rfl, hs7⟩, hb7⟩
          have tX := bt HX.out hb7
          refine hK _ _ (bl_of_below tX) ?_
          clear hK K HX hb7
          have HX := Lib.hid tX
          have S7 := Lib.hid hs7
          clear tX hs7
          refine wpAnyH_take (i := 4) (v := .tuple #[s7, .int .i64 0]) rfl (by kernel_rfl) (by kernel_rfl) (by kernel_rfl) (fun _ _ _ h => h) (Or.inl ⟨by rfl, fun w _ => by rfl⟩) (bl_of_below HX.out) ?_
          refine wpAnyH_take (i := 5) (v := s7) rfl (by kernel_rfl) (by kernel_rfl) (by kernel_rfl) (fun _ _ _ h => h) (Or.inl ⟨by rfl, fun w _ => by rfl⟩) (bl_of_below HX.out) ?_
          refine wpAnyH_take (i := 6) (v := .int .i64 0) rfl (by kernel_rfl) (by kernel_rfl) (by kernel_rfl) (fun _ _ _ h => h) (Or.inl ⟨by rfl, fun w _ => by rfl⟩) (bl_of_below HX.out) ?_
          refine held_one 7 rfl rfl (by kernel_rfl) fun K hK => ?_
          go_simp
          refine hK _ _ (bl_of_below HX.out) ?_
          clear hK K
          refine held_one 8 rfl rfl (by kernel_rfl) fun K hK => ?_
          go_simp
          refine hK _ _ (bl_of_below HX.out) ?_
          clear hK K
          refine wpAnyH_done (by kernel_rfl) ?_ _
          go_wp2_with fail
          refine (AL.out _ Z2 S7.out).mono ?_
          rintro e Z3 ⟨⟨s8, rfl, hs8⟩, hb8⟩
          have hb := bt (bt B.out HX.out) hb8
          go_wp2_with fail
          go_ret2
          exact ⟨⟨_, rfl, hs8⟩, hb⟩
      · have h4' : ¬ 4 ≤ (pres h).length := hn ▸ h4
        obtain rfl : E = 11 := HE.out.trans (by unfold resE; rw [if_pos hfit, if_neg h4'])
        obtain rfl : X = [] := HX.out.trans (by unfold resL; rw [if_pos hfit, if_neg h4'])
        have x0 : (n : Int) < 4 := by omega
        have B := Lib.hid hG.b
        clear hG hQ hlv hfit h4' hn e6 hL
        go_wp2_with fail
        go_ret2
        exact ⟨⟨_, rfl, sr_nil _⟩, B.out⟩
end Go.Proofs.Ytppfdaiehdbafaa.Gf
