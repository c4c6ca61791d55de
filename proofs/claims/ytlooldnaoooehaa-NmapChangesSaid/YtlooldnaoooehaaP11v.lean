/- What is proved here: small facts about valid maps with few items; worlds that keep boxes. -/
import Derived.Test.YtlooldnaoooehaaP11u
import Derived.Test.YtlooldnaoooehaaM13
import Derived.Test.YtlooldnaoooehaaP11o
namespace Go.Proofs.Ytlooldnaoooehaa.Gf
open Go Go.Joins Go.ChangeShapes Go.WideShapes Go.ChangeAt Go.RowKit Go.Deep Go.Proofs.Ytlooldnaoooehaa.By Go.Proofs.Ytlooldnaoooehaa.Qt

/-- Worlds that keep what is older than w, and certain boxes. -/
structure SBx (w : World) (L : List (Nat × Obj)) (w' : World) : Prop where
  bel : Below w.heap.size w w'
  box : ∀ p ∈ L, w'.heap[p.1]? = some p.2
theorem SBx.below {w a b : World} {L : List (Nat × Obj)} (h : SBx w L a) (hb : Below a.heap.size a b) : SBx w L b := ⟨h.bel.trans (hb.mono h.bel.size), fun p hp => (hb.block _ (lt_of_some (h.box p hp))).trans (h.box p hp)⟩
theorem SBx.drew {w a : World} {L : List (Nat × Obj)} (h : SBx w L a) : SBx w L a.drew := ⟨h.bel.drew, h.box⟩
theorem held_gw {P : Program} {ops : Array Oper} {md : Region.Mode} {Q : Exit → Act → World → Prop} {S : World → Prop} {fuel : Nat} {listed : Array Bool} {a : Act} {w : World} (i : Nat) {oi : Oper} (hi : ops[i]? = some oi) (hg : Region.wanted oi (yielded ops a.tmps) = true) (hr : Region.ready md ops listed = [i])
    (h : ∀ K : Act → World → Prop, (∀ a' w', S w' → wpAnyH P md ops Q S fuel (listed.setIfInBounds i true) a' w' → K a' w') → oi.wp P a w K Q) : wpAnyH P md ops Q S (fuel + 1) listed a w := by
  refine wpAnyH_all hr (by simp) fun j hj => ?_
  obtain rfl : j = i := by simpa using hj
  unfold wpOp
  simp only [hi]
  rw [if_pos hg]
  exact Or.inl (h _ fun a' w' h1 h2 => ⟨h1, h2⟩)
theorem itm_ok (L : List Itm) : ∀ x ∈ itmL L, okI x := fun x hx => by
  obtain ⟨y, -, rfl⟩ := List.mem_map.1 hx
  exact fix_ok y
theorem itm_len (L : List Itm) : (itmL L).length ≤ 20 := by
  unfold itmL
  rw [List.length_map, List.length_take]
  omega
/-- A valid map of at most n items. -/
structure Gd (m : Mp) (n : Nat) : Prop where
  ok : okM m
  len : m.st.length = 8
  flat : m.st.flatten.length ≤ n
theorem Gd.few {m : Mp} {n : Nat} (h : Gd m n) (hn : n ≤ 1000) : Few m := fun k hk => by
  rw [ms_of (by rw [h.len]; exact hk)]
  exact Nat.le_trans (List.sublist_flatten_of_mem (List.getElem_mem _)).length_le (Nat.le_trans h.flat hn)
theorem Gd.up {m : Mp} {n k : Nat} (h : Gd m n) (hk : n ≤ k) : Gd m k := ⟨h.ok, h.len, Nat.le_trans h.flat hk⟩
theorem Gd.rem {m : Mp} {n : Nat} (h : Gd m n) : fromL (iL m) m.garb = m := by
  unfold fromL
  rw [if_pos ⟨iL_ok h.ok h.len, h.ok.lo, h.ok.hi⟩, sort_iL, split_iL h.ok h.len, byT_flat h.ok h.len]
theorem Gd.items {m : Mp} {n : Nat} (h : Gd m n) : itemsL m = iL m := by unfold itemsL; rw [if_pos h.ok]
theorem Gd.lenI {m : Mp} {n : Nat} (h : Gd m n) : (iL m).length = m.st.flatten.length := by
  have hn := nodup_flat h.ok h.len 8 (Nat.le_refl _)
  rw [List.take_of_length_le (by rw [h.len]; exact Nat.le_refl _)] at hn
  have hn2 : ((iL m).map (·.key)).Nodup := by
    have h1 := asc_iL m
    unfold Asc at h1
    unfold List.Nodup
    rw [List.pairwise_map]
    exact h1.imp fun h => Nat.ne_of_lt h
  have hp : ((iL m).map (·.key)).Perm (m.st.flatten.map (·.key)) := by
    refine (List.perm_ext_iff_of_nodup hn2 hn).2 fun q => ?_
    have hk : ∀ L : List Itm, q ∈ L.map (·.key) ↔ lk L q ≠ none := fun L => by
      rw [Ne, lk_none]
      constructor
      · intro h1 h2
        obtain ⟨x, hx, rfl⟩ := List.mem_map.1 h1
        exact h2 x hx rfl
      · intro h1
        cases c : lk L q with
        | none => exact absurd (lk_none.1 c) h1
        | some y => exact List.mem_map.2 ⟨y, (lk_some c).1, (lk_some c).2⟩
    rw [hk, hk]
    unfold iL
    rw [lk_sortL]
  have h2 := hp.length_eq
  rwa [List.length_map, List.length_map] at h2
theorem Gd.lenM {m : Mp} {n : Nat} (h : Gd m n) : lenM m = (iL m).length := by
  unfold Gf.lenM
  rw [if_pos h.ok, h.lenI]
theorem gd_mp0 (n : Nat) : Gd mp0 n := ⟨mp0_ok.1, mp0_ok.2, Nat.zero_le n⟩
theorem gd_from {L : List Itm} {g : Int} (h : ∀ x ∈ L, okI x) (h0 : 0 ≤ g) (h1 : g ≤ 1099511627776) : Gd (fromL L g) L.length ∧ (fromL L g).garb = g := by
  unfold fromL
  rw [if_pos ⟨h, h0, h1⟩]
  exact ⟨⟨fromL_ok h h0 h1, split_len _, by show (splitM (sortL L)).flatten.length ≤ _; rw [(flat_split (sortL L)).1]; exact length_sortL L⟩, rfl⟩
theorem gd_put {m : Mp} {n : Nat} (h : Gd m n) {x : Itm} (hx : okI x) : Gd (putM m x) (n + 1) := by
  have h1 := putM_ok h.ok h.len hx
  refine ⟨h1.1, h1.2, ?_⟩
  unfold putM fromL
  split
  · split
    · exact Nat.le_trans h.flat (Nat.le_succ _)
    · split
      · show (splitM (sortL (putL (iL m) x))).flatten.length ≤ _
        rw [(flat_split _).1]
        refine Nat.le_trans (length_sortL _) (Nat.le_trans (length_insL _ _) ?_)
        rw [sort_iL, h.lenI]
        exact Nat.succ_le_succ h.flat
      · exact Nat.zero_le _
  · exact Nat.le_trans h.flat (Nat.le_succ _)
theorem gd_del {m : Mp} {n : Nat} (h : Gd m n) (k : Nat) : Gd (delM m k) n := by
  have h1 := delM_ok h.ok h.len k
  refine ⟨h1.1, h1.2, ?_⟩
  unfold delM fromL
  split
  · split
    · exact h.flat
    · split
      · show (splitM (sortL (dropL (iL m) k))).flatten.length ≤ _
        rw [(flat_split _).1]
        refine Nat.le_trans (length_sortL _) (Nat.le_trans (List.length_filter_le _ _) ?_)
        rw [sort_iL, h.lenI]
        exact h.flat
      · exact Nat.zero_le _
  · exact h.flat
theorem Gd.fewN {m : Mp} {n : Nat} (h : Gd m n) : FewN m n := fun k hk => by
  rw [ms_of (by rw [h.len]; exact hk)]
  exact Nat.le_trans (List.sublist_flatten_of_mem (List.getElem_mem _)).length_le h.flat
/-- Two valid maps with the same items and counts are the same. -/
theorem same_gO {a b : Mp} {n k : Nat} (ha : Gd a n) (hb : Gd b k) (h : ∀ q, gO a q = gO b q) (hs : a.live + a.garb = b.live + b.garb) : sameM a b = true := by
  have hst : a.st = b.st := st_ext ha.len hb.len fun s hs => by
    show ms a s = ms b s
    refine asc_ext (ha.ok.ok s hs).2 (hb.ok.ok s hs).2 fun q => ?_
    by_cases e : sp q = s
    · subst e; exact h q
    · rw [lk_stripe ha.ok hs q e, lk_stripe hb.ok hs q e]
  have hl : a.live = b.live := by rw [ha.ok.live, hb.ok.live, hst]
  unfold sameM
  exact decide_eq_true ⟨hst, hl, by omega⟩
theorem order_put {m : Mp} {n : Nat} (h : Gd m n) (hg : m.garb ≤ 100000) {p q : Itm} (hp : okI p) (hq : okI q) (he : p.key ≠ q.key) : sameM (putM (putM m p) q) (putM (putM m q) p) = true := by
  have p1 := put_cnt h.ok h.len hp h.fewN hg (by decide)
  have q1 := put_cnt h.ok h.len hq h.fewN hg (by decide)
  have gp := gd_put h hp
  have gq := gd_put h hq
  have p2 := put_cnt gp.ok gp.len hq gp.fewN p1.2.1 (by decide)
  have q2 := put_cnt gq.ok gq.len hp gq.fewN q1.2.1 (by decide)
  refine same_gO (gd_put gp hq) (gd_put gq hp) (fun k => ?_) (by omega)
  rw [gO_put gp.ok gp.len hq (by omega), gO_put h.ok h.len hp (by omega), gO_put gq.ok gq.len hp (by omega), gO_put h.ok h.len hq (by omega)]
  by_cases c1 : q.key = k
  · rw [if_pos c1, if_neg (fun h => he (by rw [h, c1])), if_pos c1]
  · rw [if_neg c1, if_neg c1]
theorem order_del {m : Mp} {n : Nat} (h : Gd m n) (hg : m.garb ≤ 100000) {p q : Itm} (hp : okI p) (he : p.key ≠ q.key) : sameM (delM (putM m p) q.key) (putM (delM m q.key) p) = true := by
  have p1 := put_cnt h.ok h.len hp h.fewN hg (by decide)
  have q1 := del_cnt h.ok h.len q.key h.fewN hg (by decide)
  have gp := gd_put h hp
  have gq := gd_del h q.key
  have p2 := del_cnt gp.ok gp.len q.key gp.fewN p1.2.1 (by decide)
  have q2 := put_cnt gq.ok gq.len hp gq.fewN q1.2.1 (by decide)
  refine same_gO (gd_del gp q.key) (gd_put gq hp) (fun k => ?_) (by omega)
  rw [gO_del gp.ok gp.len q.key (by omega), gO_put h.ok h.len hp (by omega), gO_put gq.ok gq.len hp (by omega), gO_del h.ok h.len q.key (by omega)]
  by_cases c1 : q.key = k
  · rw [if_pos c1, if_neg (fun h => he (by rw [h, c1])), if_pos c1]
  · rw [if_neg c1, if_neg c1]
theorem put_twice {m : Mp} {n : Nat} (h : Gd m n) (hg : m.garb ≤ 100000) {p : Itm} (hp : okI p) : iL (putM (putM m p) p) = iL (putM m p) ∧ (putM (putM m p) p).garb - (putM m p).garb = szT p := by
  have p1 := put_cnt h.ok h.len hp h.fewN hg (by decide)
  have gp := gd_put h hp
  have gpp := gd_put gp hp
  have hgo : gO (putM m p) p.key = some p := by rw [gO_put h.ok h.len hp (by omega), if_pos rfl]
  refine ⟨asc_ext (asc_iL _) (asc_iL _) fun k => ?_, ?_⟩
  · rw [lk_iL gpp.ok gpp.len, lk_iL gp.ok gp.len]
    show gO _ k = gO _ k
    rw [gO_put gp.ok gp.len hp (by omega), gO_put h.ok h.len hp (by omega)]
    by_cases c : p.key = k
    · rw [if_pos c]; rw [if_pos c]
    · rw [if_neg c]
  · have ho : oldT (ms (putM m p) (sp p.key)) p.key = szT p := by
      unfold oldT
      unfold gO at hgo
      rw [hgo]
      rfl
    have hb := szT_bd p
    have h1 := p1.2.1
    generalize putM m p = b at *
    rw [put_eq gp.ok gp.len hp (by rw [ho]; unfold G40; omega), ho]
    show b.garb + szT p - b.garb = szT p
    omega
/-- Two items, one behind the other, in a block that holds nothing else. -/
theorem it_two {w : World} {x y : Itm} (hx : ItOk x) (hy : ItOk y) : It (w.alloc (.cells #[.int .u64 (x.key : Int), .int .u32 (x.ck : Int), .int .i64 x.off, .int .i64 x.sz, .int .u64 (y.key : Int), .int .u32 (y.ck : Int), .int .i64 y.off, .int .i64 y.sz] 37)) (.slice (some ⟨w.heap.size, 0, none⟩) 2 2) [x, y] :=
  owT_it (base := w.heap.size) ⟨by
    intro z hz
    rcases List.mem_cons.1 hz with rfl | hz
    · exact hx
    · rw [List.mem_singleton.1 hz]; exact hy, ⟨by simp [cellsT, itV], Or.inr ⟨w.heap.size, 2, _, rfl, Nat.le_refl _, heap_alloc_new _ _, Nat.le_refl _, by unfold maxLen; decide, rfl, by simp [cellsT, itV]⟩⟩⟩
end Go.Proofs.Ytlooldnaoooehaa.Gf
