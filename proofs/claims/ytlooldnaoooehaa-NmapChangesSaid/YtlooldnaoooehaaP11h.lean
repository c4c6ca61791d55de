/- What is proved here: Delete of the program. -/
import Derived.Test.YtlooldnaoooehaaP11g
namespace Go.Proofs.Ytlooldnaoooehaa.Gf
open Go Go.Joins Go.ChangeShapes Go.WideShapes Go.ChangeAt Go.RowKit Go.Deep Go.Proofs.Ytlooldnaoooehaa.By Go.Proofs.Ytlooldnaoooehaa.Qt

/-- A stripe written into the cells of a map. -/
theorem set8 (c0 c1 c2 c3 c4 c5 c6 c7 v l g : Value) (u : Nat) (hu : u < 8) : ∃ d0 d1 d2 d3 d4 d5 d6 d7, (#[c0, c1, c2, c3, c4, c5, c6, c7, l, g] : Array Value).setIfInBounds u v = #[d0, d1, d2, d3, d4, d5, d6, d7, l, g] ∧ ∀ k, k < 8 → [d0, d1, d2, d3, d4, d5, d6, d7][k]? = if k = u then some v else [c0, c1, c2, c3, c4, c5, c6, c7][k]? := by
  have key : ∀ (D : List Value) , D.length = 8 → ∃ d0 d1 d2 d3 d4 d5 d6 d7, D = [d0, d1, d2, d3, d4, d5, d6, d7] := fun D h => by
    match D, h with
    | [d0, d1, d2, d3, d4, d5, d6, d7], _ => exact ⟨_, _, _, _, _, _, _, _, rfl⟩
  obtain rfl | rfl | rfl | rfl | rfl | rfl | rfl | rfl : u = 0 ∨ u = 1 ∨ u = 2 ∨ u = 3 ∨ u = 4 ∨ u = 5 ∨ u = 6 ∨ u = 7 := by omega
  all_goals
    refine ⟨_, _, _, _, _, _, _, _, rfl, fun k hk => ?_⟩
    obtain rfl | rfl | rfl | rfl | rfl | rfl | rfl | rfl : k = 0 ∨ k = 1 ∨ k = 2 ∨ k = 3 ∨ k = 4 ∨ k = 5 ∨ k = 6 ∨ k = 7 := by omega
    all_goals rfl
theorem ms_u64 {w : World} {s0 s1 s2 s3 s4 s5 s6 s7 : Value} {m : Mp} (h : Ms w [s0, s1, s2, s3, s4, s5, s6, s7] m) (l g : Int) : ∀ (k : Nat) (n : Int), (#[s0, s1, s2, s3, s4, s5, s6, s7, .int .i64 l, .int .i64 g] : Array Value)[k]? ≠ some (Value.int .u64 n) := fun k n e => by
  by_cases hk : k < 8
  · obtain ⟨a, c, h1, -⟩ := h.2.2.2 k hk
    have e2 : (#[s0, s1, s2, s3, s4, s5, s6, s7, .int .i64 l, .int .i64 g] : Array Value)[k]? = [s0, s1, s2, s3, s4, s5, s6, s7][k]? := by
      obtain rfl | rfl | rfl | rfl | rfl | rfl | rfl | rfl : k = 0 ∨ k = 1 ∨ k = 2 ∨ k = 3 ∨ k = 4 ∨ k = 5 ∨ k = 6 ∨ k = 7 := by omega
      all_goals rfl
    rw [e2, h1] at e
    cases e
  · match k, hk, e with
    | 8, _, e => simp at e
    | 9, _, e => simp at e
    | k + 10, _, e => simp at e
/-- A map in memory behind a store of a stripe into its box. -/
theorem ms_set {w : World} {p u : Nat} {c0 c1 c2 c3 c4 c5 c6 c7 d0 d1 d2 d3 d4 d5 d6 d7 : Value} {m : Mp} {a : Option Addr} {c : Nat} {L : List Itm} {l g l' g' : Int} (h : Ms w [c0, c1, c2, c3, c4, c5, c6, c7] m) (hp : w.heap[p]? = some (.cells #[c0, c1, c2, c3, c4, c5, c6, c7, .int .i64 l, .int .i64 g] 32 (0, 0))) (hu : u < 8) (hL : It w (.slice a L.length c) L) (hd : ∀ k, k < 8 → [d0, d1, d2, d3, d4, d5, d6, d7][k]? = if k = u then some (.slice a L.length c) else [c0, c1, c2, c3, c4, c5, c6, c7][k]?) (hl : J64 l') (hg : J64 g') (v : Value) :
    Ms (w.setCell ⟨p, u, none⟩ v) [d0, d1, d2, d3, d4, d5, d6, d7] ⟨m.st.set u L, l', g'⟩ := by
  have hk : ∀ b, b ≠ p → (w.setCell ⟨p, u, none⟩ v).heap[b]? = w.heap[b]? := fun b hb => heap_setCell_other _ _ _ _ hb
  refine ⟨by rw [List.length_set]; exact h.1, hl, hg, fun k hk8 => ?_⟩
  rw [hd k hk8]
  by_cases e : k = u
  · subst e
    have hm : ms ⟨m.st.set k L, l', g'⟩ k = L := by
      unfold ms
      rw [List.getD_eq_getElem?_getD, List.getElem?_set_self (by have := h.1; omega)]
      rfl
    rw [if_pos rfl, hm]
    exact ⟨a, c, rfl, it_keepM hL hp (ms_u64 h l g) hk⟩
  · have hm : ms ⟨m.st.set u L, l', g'⟩ k = ms m k := by
      unfold ms
      rw [List.getD_eq_getElem?_getD, List.getElem?_set_ne (fun h => e h.symm)]
      rfl
    rw [if_neg e, hm]
    obtain ⟨a2, c2, h1, h2⟩ := h.2.2.2 k hk8
    exact ⟨a2, c2, h1, it_keepM h2 hp (ms_u64 h l g) hk⟩
set_option maxRecDepth 100000 in
set_option maxHeartbeats 25600000 in
theorem pdelete_any (v : Value) (m : Mp) (k : Nat) (w : World) (hv : Mv w v m) (hf : Few m) : Calls Try.prog 29 #[v, .int .u64 (k : Int)] w (MO w (delM m k)) := by
  have PG := Lib.hid (fun W (h : Below w.heap.size w W) => pget_any v m k W (mv_below hv h) hf)
  have HF := Lib.hid hf
  obtain ⟨s0, s1, s2, s3, s4, s5, s6, s7, rfl, hms⟩ := hv
  have q1 := bel_al w (.cells #[s0, s1, s2, s3, s4, s5, s6, s7, .int .i64 m.live, .int .i64 m.garb] 32)
  have h1 := heap_alloc_new w (.cells #[s0, s1, s2, s3, s4, s5, s6, s7, .int .i64 m.live, .int .i64 m.garb] 32)
  have hsz : (w.alloc (.cells #[s0, s1, s2, s3, s4, s5, s6, s7, .int .i64 m.live, .int .i64 m.garb] 32)).heap.size = w.heap.size + 1 := by simp
  have q2 := bel_al (w.alloc (.cells #[s0, s1, s2, s3, s4, s5, s6, s7, .int .i64 m.live, .int .i64 m.garb] 32)) (.cells #[.slice none 0 0, .slice none 0 0, .slice none 0 0, .slice none 0 0, .slice none 0 0, .slice none 0 0, .slice none 0 0, .slice none 0 0, .int .i64 0, .int .i64 0] 32)
  have h2 := heap_alloc_new (w.alloc (.cells #[s0, s1, s2, s3, s4, s5, s6, s7, .int .i64 m.live, .int .i64 m.garb] 32)) (.cells #[.slice none 0 0, .slice none 0 0, .slice none 0 0, .slice none 0 0, .slice none 0 0, .slice none 0 0, .slice none 0 0, .slice none 0 0, .int .i64 0, .int .i64 0] 32)
  rw [hsz] at h2
  have HZ2 := Lib.hid h2
  have HM2 := Lib.hid ((q2.block _ (lt_of_some h1)).trans h1)
  have B2 := Lib.hid (q1.trans (q2.mono q1.size))
  have MS2 := Lib.hid (ms_below hms B2.out)
  have HSZ := Lib.hid (show ((w.alloc (.cells #[s0, s1, s2, s3, s4, s5, s6, s7, .int .i64 m.live, .int .i64 m.garb] 32)).alloc (.cells #[.slice none 0 0, .slice none 0 0, .slice none 0 0, .slice none 0 0, .slice none 0 0, .slice none 0 0, .slice none 0 0, .slice none 0 0, .int .i64 0, .int .i64 0] 32)).heap.size = w.heap.size + 2 by simp)
  clear hms q1 q2 h1 h2 hsz
  clear hf
  go_enter Try.func29, Try.ntmps29
  go_upto_region 1 with fail
  generalize (w.alloc (.cells #[s0, s1, s2, s3, s4, s5, s6, s7, .int .i64 m.live, .int .i64 m.garb] 32)).alloc (.cells #[.slice none 0 0, .slice none 0 0, .slice none 0 0, .slice none 0 0, .slice none 0 0, .slice none 0 0, .slice none 0 0, .slice none 0 0, .int .i64 0, .int .i64 0] 32) = W2 at *
  have PG2 := Lib.hid (PG.out W2 B2.out)
  obtain ⟨y, hy⟩ : ∃ y, y = fnL (gL m k) k := ⟨_, rfl⟩
  obtain ⟨q, hq⟩ : ∃ q, q = hasL (gL m k) k := ⟨_, rfl⟩
  unfold FD at PG2
  rw [← hy, ← hq] at PG2
  have HYQ := Lib.hid (And.intro hy hq)
  clear PG hy hq
  obtain ⟨x0, x1, x2, x3, x4, x5, x6, x7, x8, x9⟩ := bx10 HM2.out
  go_wp2_with fail
  clear x0 x1 x2 x3 x4 x5 x6 x7 x8 x9
  refine PG2.out.mono ?_
  rintro e w3 ⟨rfl, hb⟩
  have B3 := Lib.hid (B2.out.trans (hb.mono B2.out.size))
  have HZ3 := Lib.hid ((hb.block _ (lt_of_some HZ2.out)).trans HZ2.out)
  have HM3 := Lib.hid ((hb.block _ (lt_of_some HM2.out)).trans HM2.out)
  have MS3 := Lib.hid (ms_below MS2.out hb)
  clear B2 HZ2 HM2 MS2
  clear hb PG2
  unfold TV
  go_upto_region 2 with fail
  have q4 := bel_al w3 (.cells #[.int .u64 (y.key : Int), .int .u32 (y.ck : Int), .int .i64 y.off, .int .i64 y.sz] 37)
  have HY4 := Lib.hid (heap_alloc_new w3 (.cells #[.int .u64 (y.key : Int), .int .u32 (y.ck : Int), .int .i64 y.off, .int .i64 y.sz] 37))
  have B4 := Lib.hid (B3.out.trans (q4.mono B3.out.size))
  have HZ4 := Lib.hid ((q4.block _ (lt_of_some HZ3.out)).trans HZ3.out)
  have HM4 := Lib.hid ((q4.block _ (lt_of_some HM3.out)).trans HM3.out)
  have MS4 := Lib.hid (ms_below MS3.out q4)
  clear B3 HZ3 HM3 MS3
  have HSZ4 := Lib.hid (show w.heap.size + 2 ≤ (w3.alloc (.cells #[.int .u64 (y.key : Int), .int .u32 (y.ck : Int), .int .i64 y.off, .int .i64 y.sz] 37)).heap.size by have := B4.out.size; have h := lt_of_some HZ4.out; omega)
  clear q4
  generalize w3.alloc (.cells #[.int .u64 (y.key : Int), .int .u32 (y.ck : Int), .int .i64 y.off, .int .i64 y.sz] 37) = w4 at *
  generalize hgy : w3.heap.size = gy at *
  clear hgy
  cases q
  case false =>
    have HE := Lib.hid (show delM m k = m by
      have h2 := HYQ.out.2
      unfold gL at h2
      by_cases hok : okM m
      · rw [if_pos hok] at h2
        refine del_none hok MS4.out.1 ?_
        unfold hasL at h2
        cases e : lk (ms m (sp k)) k with
        | none => rfl
        | some x => rw [e] at h2; cases h2
      · unfold delM
        rw [if_neg (fun h => hok h.1)])
    have ON := Lib.hid (ms_one MS4.out (m.live) (m.garb))
    obtain ⟨x0, x1, x2, x3, x4, x5, x6, x7, x8, x9⟩ := bx10 HM4.out
    go_wp2_with ((with_reducible refine storeM (w.heap.size + 1) _ #[s0, s1, s2, s3, s4, s5, s6, s7, .int .i64 (m.live), .int .i64 (m.garb)] ?_ ?_ HZ4.out rfl rfl ON.out ?_); exact rfl; exact rfl)
    have SZ := Lib.hid (setRow_heap w4 (w.heap.size + 1) _ #[s0, s1, s2, s3, s4, s5, s6, s7, .int .i64 (m.live), .int .i64 (m.garb)] _ _ HZ4.out)
    have BE := Lib.hid (below_setRowM B4.out (Nat.le_succ w.heap.size) #[s0, s1, s2, s3, s4, s5, s6, s7, .int .i64 (m.live), .int .i64 (m.garb)])
    refine mo_end (fn := Try.f29) rfl (w.heap.size + 1) rfl SZ.out ?_
    rw [HE.out]
    exact ⟨⟨_, rfl, s0, s1, s2, s3, s4, s5, s6, s7, rfl, ms_setRowZ MS4.out HZ4.out⟩, BE.out⟩
  obtain ⟨hok, hsome⟩ : okM m ∧ lk (ms m (sp k)) k = some y := by
    have h1 := HYQ.out.1
    have h2 := HYQ.out.2
    unfold gL at h1 h2
    by_cases hok : okM m
    · rw [if_pos hok] at h1 h2
      refine ⟨hok, ?_⟩
      unfold hasL at h2
      unfold fnL at h1
      cases e : lk (ms m (sp k)) k with
      | none => rw [e] at h2; cases h2
      | some x => rw [e] at h1; rw [h1]; rfl
    · rw [if_neg hok] at h2
      cases h2
  have hyi : okI y := (hok.ok _ (sp_lt k)).1 y (lk_some hsome).1
  have hyo : ItOk y := by
    obtain ⟨a, c, -, h2⟩ := MS4.out.2.2.2 (sp k) (sp_lt k)
    exact h2.1 y (lk_some hsome).1
  have hold : oldT (ms m (sp k)) k = szT y := by unfold oldT; rw [hsome]; rfl
  have hfl := few_live HF.out hok MS4.out.1
  have hsb := szT_bd y
  have hgl := hok.lo
  have hgh := hok.hi
  have CA := Lib.hid (fun W (_ : Below w4.heap.size w4 W) => premoved_any y hyo hyi W)
  have CB := Lib.hid (fun W (h : Below w4.heap.size w4 W) => padd_any _ m (-szT y) (szT y) W (show Mv W (.agg #[s0, s1, s2, s3, s4, s5, s6, s7, .int .i64 m.live, .int .i64 m.garb]) m from ⟨s0, s1, s2, s3, s4, s5, s6, s7, rfl, ms_below MS4.out h⟩) (by omega) (by omega) (by omega) (by omega))
  have HFULL := Lib.hid (show G40 < m.garb + szT y → delM m k = m from fun h => del_full hok MS4.out.1 (by rw [hold]; exact h))
  have HDEL := Lib.hid (show m.garb + szT y ≤ G40 → delM m k = ⟨m.st.set (sp k) (dropL (ms m (sp k)) k), m.live - szT y, m.garb + szT y⟩ from fun h => by
    have e := del_eq hok MS4.out.1 (k := k) (by rw [hsome]; rfl) (by rw [hold]; exact h)
    rw [hold] at e
    exact e)
  have HJ := Lib.hid (show J64 (m.live - szT y) ∧ J64 (m.garb + szT y) by unfold J64; omega)
  obtain ⟨mm, hmm⟩ : ∃ mm, mm = (if G40 < m.garb + szT y then m else ⟨m.st, m.live + -szT y, m.garb + szT y⟩) := ⟨_, rfl⟩
  obtain ⟨q2, hq2⟩ : ∃ q2, q2 = decide (¬ G40 < m.garb + szT y) := ⟨_, rfl⟩
  rw [← hmm, ← hq2] at CB
  have HMM := Lib.hid (And.intro hmm hq2)
  obtain ⟨z1, hz1⟩ : ∃ z, z = flw (-szT y) := ⟨_, rfl⟩
  obtain ⟨z2, hz2⟩ : ∃ z, z = flw (szT y) := ⟨_, rfl⟩
  rw [← hz1, ← hz2] at CA CB
  unfold TV at CA
  clear hok hsome hyi hyo hold hfl hsb hgl hgh hmm hq2 hz1 hz2
  go_upto_region 4 with fail
  go_cut [7, 8] from 19 to 25 (fun tp tq wx => ∃ (gn : Nat) (t0 t1 t2 t3 t4 t5 t6 t7 : Value), tp = .pointer (some ⟨gn, 0, none⟩) ∧ tq = .bool q2 ∧ Hid (wx.heap[gn]? = some (.cells #[t0, t1, t2, t3, t4, t5, t6, t7, .int .i64 mm.live, .int .i64 mm.garb] 32 (0, 0))) ∧ Hid (w4.heap.size ≤ gn) ∧ Hid (Ms wx [t0, t1, t2, t3, t4, t5, t6, t7] mm) ∧ Hid (Below w4.heap.size w4 wx))
  case first =>
    have S0 := Lib.hid (Below.refl w4.heap.size w4).drew
    refine wp_onlyN ?_
    refine wp_region_headsS (fun W' => Below w4.heap.size w4 W') [0, 1] 8 (by kernel_rfl) (fun _ _ _ _ _ h => h.elim) (by kernel_rfl) (by rfl) (by rfl) S0.out ?_
    simp only [pickOps, List.filterMap_cons, List.filterMap_nil, List.getElem?_toArray, List.getElem?_cons_zero, List.getElem?_cons_succ]
    refine wpHeads_step (fun K hK => ?_)
    go_simp
    refine ⟨.agg #[s0, s1, s2, s3, s4, s5, s6, s7, .int .i64 m.live, .int .i64 m.garb], fun w' hw' => by
      obtain ⟨x0, x1, x2, x3, x4, x5, x6, x7, x8, x9⟩ := bx10 ((hw'.block _ (lt_of_some HM4.out)).trans HM4.out)
      simp [x0, x1, x2, x3, x4, x5, x6, x7, x8, x9], hK _ ?_⟩
    clear hK K
    refine wpHeads_step (fun K hK => ?_)
    go_simp
    refine ⟨.agg #[.int .u64 (y.key : Int), .int .u32 (y.ck : Int), .int .i64 y.off, .int .i64 y.sz], fun w' hw' => by
      obtain ⟨⟨x0, x1, x2, x3⟩, -⟩ := bx4 ((hw'.block _ (lt_of_some HY4.out)).trans HY4.out)
      simp [x0, x1, x2, x3], hK _ ?_⟩
    clear hK K
    refine wpHeads_nil ?_
    have SD := S0
    generalize w4.drew = WD at *
    clear S0
    refine held_two 2 7 rfl rfl rfl rfl (by kernel_rfl) (fun K hK => ?_) (fun K hK => ?_)
    · go_simp
      go_at_call 48
      refine (CA.out WD SD.out).mono ?_
      rintro e w30 ⟨rfl, hb⟩
      refine hK _ _ (SD.out.trans (hb.mono SD.out.size)) ?_
      clear hK K
      have S30 := Lib.hid (SD.out.trans (hb.mono SD.out.size))
      clear hb SD
      refine held_two 3 7 rfl rfl rfl rfl (by kernel_rfl) (fun K hK => ?_) (fun K hK => ?_)
      · go_simp
        go_at_call 49
        refine (CB.out w30 S30.out).mono ?_
        rintro e w31 ⟨⟨v5, rfl, hv5⟩, hb⟩
        refine hK _ _ (S30.out.trans (hb.mono S30.out.size)) ?_
        clear hK K
        have S31 := Lib.hid (S30.out.trans (hb.mono S30.out.size))
        obtain ⟨t0, t1, t2, t3, t4, t5, t6, t7, rfl, hms5⟩ := hv5
        have R31 := Lib.hid hms5
        clear hb S30 hms5
        refine wpAnyH_take (i := 4) (v := .tuple #[.agg #[t0, t1, t2, t3, t4, t5, t6, t7, .int .i64 mm.live, .int .i64 mm.garb], .bool q2]) rfl (by kernel_rfl) (by kernel_rfl) (by kernel_rfl) (fun _ _ _ h => h) (Or.inl ⟨by kernel_rfl, fun w _ => by go_simp⟩) S31.out ?_
        refine wpAnyH_take (i := 5) (v := .agg #[t0, t1, t2, t3, t4, t5, t6, t7, .int .i64 mm.live, .int .i64 mm.garb]) rfl (by kernel_rfl) (by kernel_rfl) (by kernel_rfl) (fun _ _ _ h => h) (Or.inl ⟨by kernel_rfl, fun w _ => by go_simp⟩) S31.out ?_
        refine wpAnyH_take (i := 6) (v := .bool q2) rfl (by kernel_rfl) (by kernel_rfl) (by kernel_rfl) (fun _ _ _ h => h) (Or.inl ⟨by kernel_rfl, fun w _ => by go_simp⟩) S31.out ?_
        refine held_one 7 rfl rfl (by kernel_rfl) fun K hK => ?_
        go_simp
        have hb := bel_al w31 (.cells #[.slice none 0 0, .slice none 0 0, .slice none 0 0, .slice none 0 0, .slice none 0 0, .slice none 0 0, .slice none 0 0, .slice none 0 0, .int .i64 0, .int .i64 0] 32)
        refine hK _ _ (S31.out.trans (hb.mono S31.out.size)) ?_
        clear hK K
        have S32 := Lib.hid (S31.out.trans (hb.mono S31.out.size))
        have HG32 := Lib.hid (heap_alloc_new w31 (.cells #[.slice none 0 0, .slice none 0 0, .slice none 0 0, .slice none 0 0, .slice none 0 0, .slice none 0 0, .slice none 0 0, .slice none 0 0, .int .i64 0, .int .i64 0] 32))
        have GE := Lib.hid (show w4.heap.size ≤ w31.heap.size from S31.out.size)
        have R32 := Lib.hid (ms_below R31.out hb)
        clear R31
        clear hb S31
        generalize w31.alloc (.cells #[.slice none 0 0, .slice none 0 0, .slice none 0 0, .slice none 0 0, .slice none 0 0, .slice none 0 0, .slice none 0 0, .slice none 0 0, .int .i64 0, .int .i64 0] 32) = w32 at *
        generalize w31.heap.size = gn at *
        have ON := Lib.hid (ms_one R32.out mm.live mm.garb)
        refine held_one 8 rfl rfl (by kernel_rfl) fun K hK => ?_
        refine wp_store_row 32 _ _ rfl gn #[t0, t1, t2, t3, t4, t5, t6, t7, .int .i64 mm.live, .int .i64 mm.garb] (by rfl) (by rfl) 32 _ HG32.out infoM10 rfl ON.out ?_
        have SN := Lib.hid (below_setRowM S32.out GE.out #[t0, t1, t2, t3, t4, t5, t6, t7, .int .i64 mm.live, .int .i64 mm.garb])
        refine hK _ _ SN.out ?_
        clear hK K
        refine held_one 9 rfl rfl (by kernel_rfl) fun K hK => ?_
        go_simp
        refine hK _ _ SN.out ?_
        clear hK K
        refine wpAnyH_done (by kernel_rfl) ?_ _
        unfold onlyN
        dsimp only
        go_wp2_with fail
        go_meet
        exact ⟨gn, t0, t1, t2, t3, t4, t5, t6, t7, rfl, rfl, Lib.hid (setRow_heap _ _ _ _ _ _ HG32.out), GE, Lib.hid (ms_setRowZ R32.out HG32.out), SN⟩
      · go_simp
        have hb := bel_al w30 (.cells #[.slice none 0 0, .slice none 0 0, .slice none 0 0, .slice none 0 0, .slice none 0 0, .slice none 0 0, .slice none 0 0, .slice none 0 0, .int .i64 0, .int .i64 0] 32)
        refine hK _ _ (S30.out.trans (hb.mono S30.out.size)) ?_
        clear hK K
        have S31 := Lib.hid (S30.out.trans (hb.mono S30.out.size))
        have HG31 := Lib.hid (heap_alloc_new w30 (.cells #[.slice none 0 0, .slice none 0 0, .slice none 0 0, .slice none 0 0, .slice none 0 0, .slice none 0 0, .slice none 0 0, .slice none 0 0, .int .i64 0, .int .i64 0] 32))
        have GE := Lib.hid (show w4.heap.size ≤ w30.heap.size from S30.out.size)
        clear hb S30
        generalize w30.alloc (.cells #[.slice none 0 0, .slice none 0 0, .slice none 0 0, .slice none 0 0, .slice none 0 0, .slice none 0 0, .slice none 0 0, .slice none 0 0, .int .i64 0, .int .i64 0] 32) = w31 at *
        generalize w30.heap.size = gn at *
        refine held_one 3 rfl rfl (by kernel_rfl) fun K hK => ?_
        go_simp
        go_at_call 49
        refine (CB.out w31 S31.out).mono ?_
        rintro e w32 ⟨⟨v5, rfl, hv5⟩, hb⟩
        refine hK _ _ (S31.out.trans (hb.mono S31.out.size)) ?_
        clear hK K
        have S32 := Lib.hid (S31.out.trans (hb.mono S31.out.size))
        have HG32 := Lib.hid ((hb.block _ (lt_of_some HG31.out)).trans HG31.out)
        obtain ⟨t0, t1, t2, t3, t4, t5, t6, t7, rfl, hms5⟩ := hv5
        have R32 := Lib.hid hms5
        clear hb S31 hms5 HG31
        refine wpAnyH_take (i := 4) (v := .tuple #[.agg #[t0, t1, t2, t3, t4, t5, t6, t7, .int .i64 mm.live, .int .i64 mm.garb], .bool q2]) rfl (by kernel_rfl) (by kernel_rfl) (by kernel_rfl) (fun _ _ _ h => h) (Or.inl ⟨by kernel_rfl, fun w _ => by go_simp⟩) S32.out ?_
        refine wpAnyH_take (i := 5) (v := .agg #[t0, t1, t2, t3, t4, t5, t6, t7, .int .i64 mm.live, .int .i64 mm.garb]) rfl (by kernel_rfl) (by kernel_rfl) (by kernel_rfl) (fun _ _ _ h => h) (Or.inl ⟨by kernel_rfl, fun w _ => by go_simp⟩) S32.out ?_
        refine wpAnyH_take (i := 6) (v := .bool q2) rfl (by kernel_rfl) (by kernel_rfl) (by kernel_rfl) (fun _ _ _ h => h) (Or.inl ⟨by kernel_rfl, fun w _ => by go_simp⟩) S32.out ?_
        have ON := Lib.hid (ms_one R32.out mm.live mm.garb)
        refine held_one 8 rfl rfl (by kernel_rfl) fun K hK => ?_
        refine wp_store_row 32 _ _ rfl gn #[t0, t1, t2, t3, t4, t5, t6, t7, .int .i64 mm.live, .int .i64 mm.garb] (by rfl) (by rfl) 32 _ HG32.out infoM10 rfl ON.out ?_
        have SN := Lib.hid (below_setRowM S32.out GE.out #[t0, t1, t2, t3, t4, t5, t6, t7, .int .i64 mm.live, .int .i64 mm.garb])
        refine hK _ _ SN.out ?_
        clear hK K
        refine held_one 9 rfl rfl (by kernel_rfl) fun K hK => ?_
        go_simp
        refine hK _ _ SN.out ?_
        clear hK K
        refine wpAnyH_done (by kernel_rfl) ?_ _
        unfold onlyN
        dsimp only
        go_wp2_with fail
        go_meet
        exact ⟨gn, t0, t1, t2, t3, t4, t5, t6, t7, rfl, rfl, Lib.hid (setRow_heap _ _ _ _ _ _ HG32.out), GE, Lib.hid (ms_setRowZ R32.out HG32.out), SN⟩
    · go_simp
      have hb := bel_al WD (.cells #[.slice none 0 0, .slice none 0 0, .slice none 0 0, .slice none 0 0, .slice none 0 0, .slice none 0 0, .slice none 0 0, .slice none 0 0, .int .i64 0, .int .i64 0] 32)
      refine hK _ _ (SD.out.trans (hb.mono SD.out.size)) ?_
      clear hK K
      have S30 := Lib.hid (SD.out.trans (hb.mono SD.out.size))
      have HG30 := Lib.hid (heap_alloc_new WD (.cells #[.slice none 0 0, .slice none 0 0, .slice none 0 0, .slice none 0 0, .slice none 0 0, .slice none 0 0, .slice none 0 0, .slice none 0 0, .int .i64 0, .int .i64 0] 32))
      have GE := Lib.hid (show w4.heap.size ≤ WD.heap.size from SD.out.size)
      clear hb SD
      generalize WD.alloc (.cells #[.slice none 0 0, .slice none 0 0, .slice none 0 0, .slice none 0 0, .slice none 0 0, .slice none 0 0, .slice none 0 0, .slice none 0 0, .int .i64 0, .int .i64 0] 32) = w30 at *
      generalize WD.heap.size = gn at *
      refine held_one 2 rfl rfl (by kernel_rfl) fun K hK => ?_
      go_simp
      go_at_call 48
      refine (CA.out w30 S30.out).mono ?_
      rintro e w31 ⟨rfl, hb⟩
      refine hK _ _ (S30.out.trans (hb.mono S30.out.size)) ?_
      clear hK K
      have S31 := Lib.hid (S30.out.trans (hb.mono S30.out.size))
      have HG31 := Lib.hid ((hb.block _ (lt_of_some HG30.out)).trans HG30.out)
      clear hb S30 HG30
      refine held_one 3 rfl rfl (by kernel_rfl) fun K hK => ?_
      go_simp
      go_at_call 49
      refine (CB.out w31 S31.out).mono ?_
      rintro e w32 ⟨⟨v5, rfl, hv5⟩, hb⟩
      refine hK _ _ (S31.out.trans (hb.mono S31.out.size)) ?_
      clear hK K
      have S32 := Lib.hid (S31.out.trans (hb.mono S31.out.size))
      have HG32 := Lib.hid ((hb.block _ (lt_of_some HG31.out)).trans HG31.out)
      obtain ⟨t0, t1, t2, t3, t4, t5, t6, t7, rfl, hms5⟩ := hv5
      have R32 := Lib.hid hms5
      clear hb S31 hms5 HG31
      refine wpAnyH_take (i := 4) (v := .tuple #[.agg #[t0, t1, t2, t3, t4, t5, t6, t7, .int .i64 mm.live, .int .i64 mm.garb], .bool q2]) rfl (by kernel_rfl) (by kernel_rfl) (by kernel_rfl) (fun _ _ _ h => h) (Or.inl ⟨by kernel_rfl, fun w _ => by go_simp⟩) S32.out ?_
      refine wpAnyH_take (i := 5) (v := .agg #[t0, t1, t2, t3, t4, t5, t6, t7, .int .i64 mm.live, .int .i64 mm.garb]) rfl (by kernel_rfl) (by kernel_rfl) (by kernel_rfl) (fun _ _ _ h => h) (Or.inl ⟨by kernel_rfl, fun w _ => by go_simp⟩) S32.out ?_
      refine wpAnyH_take (i := 6) (v := .bool q2) rfl (by kernel_rfl) (by kernel_rfl) (by kernel_rfl) (fun _ _ _ h => h) (Or.inl ⟨by kernel_rfl, fun w _ => by go_simp⟩) S32.out ?_
      have ON := Lib.hid (ms_one R32.out mm.live mm.garb)
      refine held_one 8 rfl rfl (by kernel_rfl) fun K hK => ?_
      refine wp_store_row 32 _ _ rfl gn #[t0, t1, t2, t3, t4, t5, t6, t7, .int .i64 mm.live, .int .i64 mm.garb] (by rfl) (by rfl) 32 _ HG32.out infoM10 rfl ON.out ?_
      have SN := Lib.hid (below_setRowM S32.out GE.out #[t0, t1, t2, t3, t4, t5, t6, t7, .int .i64 mm.live, .int .i64 mm.garb])
      refine hK _ _ SN.out ?_
      clear hK K
      refine held_one 9 rfl rfl (by kernel_rfl) fun K hK => ?_
      go_simp
      refine hK _ _ SN.out ?_
      clear hK K
      refine wpAnyH_done (by kernel_rfl) ?_ _
      unfold onlyN
      dsimp only
      go_wp2_with fail
      go_meet
      exact ⟨gn, t0, t1, t2, t3, t4, t5, t6, t7, rfl, rfl, Lib.hid (setRow_heap _ _ _ _ _ _ HG32.out), GE, Lib.hid (ms_setRowZ R32.out HG32.out), SN⟩
  case rest =>
    rename World => w9
    obtain ⟨gn, t0, t1, t2, t3, t4, t5, t6, t7, rfl, rfl, HB9, HGN, MS9, S9⟩ := hcut
    have HZ9 := Lib.hid ((S9.out.block _ (lt_of_some HZ4.out)).trans HZ4.out)
    have HM9 := Lib.hid ((S9.out.block _ (lt_of_some HM4.out)).trans HM4.out)
    have MO9 := Lib.hid (ms_below MS4.out S9.out)
    have B9 := Lib.hid (B4.out.trans (S9.out.mono B4.out.size))
    have HNE := Lib.hid (show w.heap.size + 1 ≠ gn by have := HGN.out; have := HSZ4.out; omega)
    have HGL := Lib.hid (show w.heap.size ≤ gn by have := HGN.out; have := HSZ4.out; omega)
    clear S9 HZ4 HM4 MS4 B4 CA CB HGN
    cases q2
    case false =>
      have hful : G40 < m.garb + szT y := by
        have h := HMM.out.2
        by_cases c : G40 < m.garb + szT y
        · exact c
        · rw [decide_eq_true c] at h; cases h
      have HE := Lib.hid (show delM m k = mm by rw [HFULL.out hful, HMM.out.1, if_pos hful])
      clear hful
      have ON := Lib.hid (ms_one MS9.out (mm.live) (mm.garb))
      obtain ⟨x0, x1, x2, x3, x4, x5, x6, x7, x8, x9⟩ := bx10 HB9.out
      go_wp2_with ((with_reducible refine storeM (w.heap.size + 1) _ #[t0, t1, t2, t3, t4, t5, t6, t7, .int .i64 (mm.live), .int .i64 (mm.garb)] ?_ ?_ HZ9.out rfl rfl ON.out ?_); exact rfl; exact rfl)
      have SZ := Lib.hid (setRow_heap w9 (w.heap.size + 1) _ #[t0, t1, t2, t3, t4, t5, t6, t7, .int .i64 (mm.live), .int .i64 (mm.garb)] _ _ HZ9.out)
      have BE := Lib.hid (below_setRowM B9.out (Nat.le_succ w.heap.size) #[t0, t1, t2, t3, t4, t5, t6, t7, .int .i64 (mm.live), .int .i64 (mm.garb)])
      refine mo_end (fn := Try.f29) rfl (w.heap.size + 1) rfl SZ.out ?_
      rw [HE.out]
      exact ⟨⟨_, rfl, t0, t1, t2, t3, t4, t5, t6, t7, rfl, ms_setRowZ MS9.out HZ9.out⟩, BE.out⟩
    have hnf : ¬ G40 < m.garb + szT y := by
      have h := HMM.out.2
      exact of_decide_eq_true h.symm
    have hdel := HDEL.out (by omega)
    have hm2 := HMM.out.1
    rw [if_neg hnf] at hm2
    have HE := Lib.hid hdel
    have hst : mm.st = m.st := by rw [hm2]
    have hlv : mm.live = m.live - szT y := by rw [hm2]; show m.live + -szT y = _; omega
    have hgb : mm.garb = m.garb + szT y := by rw [hm2]
    have HST := Lib.hid hst
    rw [hlv, hgb] at HB9
    obtain ⟨a, c, hsel, hit⟩ := MO9.out.2.2.2 (sp k) (sp_lt k)
    have PD := Lib.hid (pdrop8_any _ (ms m (sp k)) k w9 hit (HF.out _ (sp_lt k)))
    obtain ⟨n, hn⟩ : ∃ z, z = (ms m (sp k)).length := ⟨_, rfl⟩
    rw [← hn] at hsel PD
    have hcell := bxk HM9.out (sp_lt k) hsel
    have ST := Lib.hid (fun W => pstripe_any k W)
    have hlt := sp_lt k
    obtain ⟨u, hu⟩ : ∃ u, u = sp k := ⟨_, rfl⟩
    rw [← hu] at ST hcell hlt PD
    rw [← hu] at HE
    have p0 : (0 : Int) ≤ (u : Int) := by omega
    have p1 : (u : Int) < 8 := by omega
    have HUL := Lib.hid hlt
    clear hnf hdel hm2 hst hlv hgb hit hn hsel hlt hu HMM HFULL HDEL
    go_wp2_with fail
    refine (ST.out _).mono ?_
    rintro e w10 ⟨rfl, rfl⟩
    go_wp2_with fail
    refine PD.out.mono ?_
    rintro e w11 ⟨⟨v6, rfl, hit6⟩, hb⟩
    have B11 := Lib.hid (B9.out.trans (hb.mono B9.out.size))
    have HZ11 := Lib.hid ((hb.block _ (lt_of_some HZ9.out)).trans HZ9.out)
    have HB11 := Lib.hid ((hb.block _ (lt_of_some HB9.out)).trans HB9.out)
    have MS11 := Lib.hid (ms_below MS9.out hb)
    clear B9 HZ9 HB9 MS9
    obtain ⟨a6, c6, rfl, -, -⟩ := it_form hit6
    obtain ⟨LL, hLL⟩ : ∃ z, z = dropL (ms m u) k := ⟨_, rfl⟩
    rw [← hLL] at hit6 HE ⊢
    obtain ⟨n6, hn6⟩ : ∃ z, z = LL.length := ⟨_, rfl⟩
    have IT6 := Lib.hid hit6
    have HN6 := Lib.hid hn6
    rw [← hn6]
    obtain ⟨a7, c7, hsel7, -⟩ := MS11.out.2.2.2 u HUL.out
    have hcell7 := bxk HB11.out HUL.out hsel7
    have fz7 := frozen_of_row w11 gn u _ _ HB11.out
    clear hb hit6 hn6 hsel7 hLL
    go_upto_region 8 with fail
    obtain ⟨d0, d1, d2, d3, d4, d5, d6, d7, he, hd⟩ := set8 t0 t1 t2 t3 t4 t5 t6 t7 (.slice a6 n6 c6) (.int .i64 (m.live - szT y)) (.int .i64 (m.garb + szT y)) u HUL.out
    have hb12 := heap_setCell_same w11 gn u _ _ (.slice a6 n6 c6) HB11.out
    rw [he] at hb12
    have hm12 := ms_set (d0 := d0) (d1 := d1) (d2 := d2) (d3 := d3) (d4 := d4) (d5 := d5) (d6 := d6) (d7 := d7) (a := a6) (c := c6) MS11.out HB11.out HUL.out (by have h := IT6.out; exact h) (by rw [← HN6.out]; exact hd) HJ.out.1 HJ.out.2 (.slice a6 n6 c6)
    rw [HST.out] at hm12
    have HB12 := Lib.hid hb12
    have MS12 := Lib.hid hm12
    have HZ12 := Lib.hid (show (w11.setCell ⟨gn, u, none⟩ (.slice a6 n6 c6)).heap[w.heap.size + 1]? = some (.cells #[.slice none 0 0, .slice none 0 0, .slice none 0 0, .slice none 0 0, .slice none 0 0, .slice none 0 0, .slice none 0 0, .slice none 0 0, .int .i64 0, .int .i64 0] 32 (0, 0)) by
      rw [heap_setCell_other _ _ _ _ HNE.out]
      exact HZ11.out)
    have B12 := Lib.hid (B11.out.setCell (p := ⟨gn, u, none⟩) HGL.out (.slice a6 n6 c6))
    clear he hd hb12 hm12 hcell7 fz7 MS11 HB11 HZ11 B11
    generalize w11.setCell ⟨gn, u, none⟩ (.slice a6 n6 c6) = w12 at *
    have ON := Lib.hid (ms_one MS12.out (m.live - szT y) (m.garb + szT y))
    obtain ⟨x0, x1, x2, x3, x4, x5, x6, x7, x8, x9⟩ := bx10 HB12.out
    go_wp2_with ((with_reducible refine storeM (w.heap.size + 1) _ #[d0, d1, d2, d3, d4, d5, d6, d7, .int .i64 (m.live - szT y), .int .i64 (m.garb + szT y)] ?_ ?_ HZ12.out rfl rfl ON.out ?_); exact rfl; exact rfl)
    have SZ := Lib.hid (setRow_heap w12 (w.heap.size + 1) _ #[d0, d1, d2, d3, d4, d5, d6, d7, .int .i64 (m.live - szT y), .int .i64 (m.garb + szT y)] _ _ HZ12.out)
    have BE := Lib.hid (below_setRowM B12.out (Nat.le_succ w.heap.size) #[d0, d1, d2, d3, d4, d5, d6, d7, .int .i64 (m.live - szT y), .int .i64 (m.garb + szT y)])
    refine mo_end (fn := Try.f29) rfl (w.heap.size + 1) rfl SZ.out ?_
    rw [HE.out]
    exact ⟨⟨_, rfl, d0, d1, d2, d3, d4, d5, d6, d7, rfl, ms_setRowZ MS12.out HZ12.out⟩, BE.out⟩
end Go.Proofs.Ytlooldnaoooehaa.Gf
