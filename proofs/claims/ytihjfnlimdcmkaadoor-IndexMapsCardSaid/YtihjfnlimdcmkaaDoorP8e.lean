/- What is proved here: the contracts of the library's Grow and Concat, and of the program's Find, Put and Drop (index). Condition: lists of at most 1000 items. -/
import Derived.Test.YtihjfnlimdcmkaaDoorP8d
namespace Go.Proofs.YtihjfnlimdcmkaaDoor.Gf
open Go Go.Joins Go.ChangeShapes Go.WideShapes Go.ChangeAt Go.RowKit Go.Deep Go.Lib Go.Sort Go.Proofs Go.Proofs.YtihjfnlimdcmkaaDoor.By Go.Proofs.YtihjfnlimdcmkaaDoor.Qt

theorem spl_cut {L : List Itm} {k j m : Nat} (_h : Spl L k j m) : L = L.take j ++ ((L.drop j).take m ++ L.drop (j + m)) := cut3 L j m
theorem spl_lk {L : List Itm} {k j m : Nat} (h : Spl L k j m) (hA : Asc L) : (m = 0 ∧ lk L k = none) ∨ (m = 1 ∧ ∃ y, (L.drop j).take m = [y] ∧ lk L k = some y) := by
  rcases h.mid with ⟨hm, he⟩ | ⟨hm, y, hy, hk⟩
  · refine Or.inl ⟨hm, lk_none.2 fun x hx => ?_⟩
    rw [spl_cut h, he, List.nil_append] at hx
    rcases List.mem_append.1 hx with h1 | h1
    · have := h.lo x h1; omega
    · have := h.hi x h1; omega
  · refine Or.inr ⟨hm, y, hy, (asc_lk hA).2 ⟨?_, hk⟩⟩
    have : y ∈ (L.drop j).take m := by rw [hy]; simp
    exact List.mem_of_mem_drop (List.mem_of_mem_take this)
theorem spl_del {L : List Itm} {k j m : Nat} (h : Spl L k j m) : L.take j ++ L.drop (j + m) = delL k L := by
  unfold delL
  conv => rhs; rw [spl_cut h]
  rw [List.filter_append, List.filter_append]
  have e1 : (L.take j).filter (fun x => x.key != k) = L.take j := List.filter_eq_self.2 fun x hx => by have := h.lo x hx; simp; omega
  have e2 : (L.drop (j + m)).filter (fun x => x.key != k) = L.drop (j + m) := List.filter_eq_self.2 fun x hx => by have := h.hi x hx; simp; omega
  have e3 : ((L.drop j).take m).filter (fun x => x.key != k) = [] := by
    rcases h.mid with ⟨hm, he⟩ | ⟨hm, y, hy, hk⟩
    · rw [he]; rfl
    · rw [hy]; simp [hk]
  rw [e1, e2, e3, List.nil_append]
theorem spl_ins {L : List Itm} {x : Itm} {j m : Nat} (h : Spl L x.key j m) : L.take j ++ x :: L.drop (j + m) = insL x L := by
  have hle := h.le
  have hc : cntL x.key L = j := by
    refine cntL_spec x.key L j (by omega) (fun i hi hij => ?_) (fun hj hlt => ?_)
    · exact h.lo _ (List.mem_take_iff_getElem.2 ⟨i, by omega, rfl⟩)
    · rcases h.mid with ⟨hm, he⟩ | ⟨hm, y, hy, hk⟩
      · have := h.hi L[j] (by rw [hm, Nat.add_zero, List.drop_eq_getElem_cons hj]; exact List.mem_cons_self ..)
        omega
      · rw [hm, List.drop_eq_getElem_cons hj, List.take_succ_cons, List.take_zero] at hy
        have : L[j] = y := by simpa using hy
        rw [this] at hlt
        omega
  rw [insL_split, hc]
  congr 2
  rcases h.mid with ⟨hm, he⟩ | ⟨hm, y, hy, hk⟩
  · subst hm
    rw [Nat.add_zero]
    cases hd : L.drop j with
    | nil => rfl
    | cons z r =>
      have := h.hi z (by rw [Nat.add_zero, hd]; simp)
      show z :: r = if z.key = x.key then r else z :: r
      rw [if_neg (by omega)]
  · subst hm
    have hj : j < L.length := by omega
    rw [List.drop_eq_getElem_cons hj, List.take_succ_cons, List.take_zero] at hy
    have e : L[j] = y := by simpa using hy
    rw [List.drop_eq_getElem_cons hj]
    show L.drop (j + 1) = if L[j].key = x.key then L.drop (j + 1) else L[j] :: L.drop (j + 1)
    rw [e, if_pos hk]
/-- append(nil, make([]api.Item, m)...). -/
theorem run_appzT (W : World) (m : Nat) (ty : TypeId) (h1 : 1 ≤ m) (hm : m ≤ 1000000) : ∃ (cap : Nat) (cs : Array Value), m ≤ cap ∧ cap ≤ maxLen ∧ cs.size = cap * 4 ∧
    (Builtin.append_ #[22, 3] ty #[.slice none 0 0, .int .i64 (m : Int)]).run Tryd.prog W = .ok (.slice (some ⟨W.heap.size, 0, none⟩) m cap) (W.drew.alloc (.cells cs 41)) := by
  obtain ⟨i, hi, hz, hz1, hz2⟩ := info_parts infoT
  have hge := grownCap_ge W m 0 41
  have hcm : grownCap W m 0 41 ≤ maxLen := grownCap_le_maxLen W m 0 41 (by unfold maxLen; omega)
  have hw : IntKind.i64.wrap (m : Int) = (m : Int) := IntWalk.i64_in _ (by omega)
  have hneg : ¬ ((m : Int) < 0) := by omega
  have hbig : ¬ ((281474976710656 : Int) < (m : Int) * (i.bytes : Int)) := by rw [hz2]; omega
  have hm0 : m ≠ 0 := by omega
  have c1 : ¬ ((9223372036854775807 : Int) < (m : Int)) := by omega
  have c2 : ¬ (281474976710656 < Builtin.nextslicecap m 0 * i.bytes) := by rw [nextslicecap_zero (by omega), hz2]; omega
  have hcell : (Value.agg #[Value.int .u64 0, .int .u32 0, .int .i64 0, .int .i64 0]).cells = #[Value.int .u64 0, .int .u32 0, .int .i64 0, .int .i64 0] := rfl
  refine ⟨grownCap W m 0 41, Builtin.zeroCells #[Value.int .u64 0, .int .u32 0, .int .i64 0, .int .i64 0] m ++ Builtin.zeroCells #[Value.int .u64 0, .int .u32 0, .int .i64 0, .int .i64 0] (grownCap W m 0 41 - m), hge, hcm, ?_, ?_⟩
  · simp [Builtin.zeroCells]
    omega
  · simp [Builtin.append_, run_underlying Tryd.underlying22, run_underlying Tryd.underlying3, sizeOf, typeInfo, zeroValue, hi, hz, hz1, asInt, asIntOf, hw, hneg, hbig, Question.forced, newRow, grownCap, hm0, hcell, run_firstCells_none, c1, c2]
    intro h
    omega
theorem appzT {ops : Array Oper} {rest : List Oper} {dst : Option Tmp} {s x : Operand} {pos : String} {after : Array Edge} {ty : TypeId} {a : Act} {W : World} {Q : Exit → Act → World → Prop} {m : Nat}
    (hs : a.eval s = .slice none 0 0) (hx : a.eval x = .int .i64 (m : Int)) (h1 : 1 ≤ m) (hm : m ≤ 1000000)
    (h : ∀ (cap : Nat) (cs : Array Value), m ≤ cap → cap ≤ maxLen → cs.size = cap * 4 → wpList Tryd.prog ops Q rest (a.put dst (.slice (some ⟨W.heap.size, 0, none⟩) m cap)) (W.drew.alloc (.cells cs 41))) : wpList Tryd.prog ops Q (⟨dst, .call { callee := .builtin .append, args := #[s, x], argTypes := #[22, 3] }, ty, pos, after, none⟩ :: rest) a W := by
  refine wpList_plain rfl fun K hK => ?_
  obtain ⟨cap, cs, q1, q2, q3, hr⟩ := run_appzT W m ty h1 hm
  unfold Oper.wp execOp
  simp only [resolve, invoke, builtin, Sem.run_bind, Sem.run_pure, Result.andThen_ok, List.map_toArray, List.map_cons, List.map_nil, hs, hx, hr]
  exact hK _ _ (h cap cs q1 q2 q3)
set_option maxRecDepth 100000 in
theorem pgrow_any (m : Nat) (w : World) (hm : m ≤ 1000000) : Calls Tryd.prog 56 #[.slice none 0 0, .int .i64 (m : Int)] w fun e w' => (∃ v, e = .returned v ∧ OwT w' w.heap.size v []) ∧ Below w.heap.size w w' := by
  by_cases h0 : m = 0
  · subst h0
    go_enter Tryd.func56, Tryd.ntmps56
    go_wp2
    go_ret
    exact ⟨⟨_, rfl, owT_nil _ _⟩, Below.refl _ _⟩
  · have hz : (0 : Int) < (m : Int) := by omega
    have hn : ¬ (m : Int) < 0 := by omega
    have hp : 0 < m := by omega
    have h1 : 1 ≤ m := by omega
    clear h0
    go_enter Tryd.func56, Tryd.ntmps56
    go_wp2_with (at_builtin; refine appzT (dst := some 22) (m := m) ?_ ?_ h1 hm ?_; exact rfl; exact rfl; intro cap cs q1 q2 q3; have OW : Hid (OwT (w.drew.alloc (.cells cs 41)) w.heap.size (.slice (some ⟨w.heap.size, 0, none⟩) 0 cap) []) := ⟨by simp, ⟨by simp [cellsT], Or.inr ⟨w.heap.size, cap, cs, by simp, Nat.le_refl _, heap_alloc_new w.drew _, by simp, q2, q3, by simp [cellsT]⟩⟩⟩; clear q1 q2 q3)
    go_ret
    exact ⟨⟨_, rfl, OW.out⟩, (below_drewN w 1).alloc (Nat.le_refl _) _⟩
theorem flat_snoc {Ls : List (List Itm)} {i : Nat} (h : i < Ls.length) : (Ls.take (i + 1)).flatten = (Ls.take i).flatten ++ Ls.getD i [] := by
  rw [List.take_succ_eq_append_getElem h, List.flatten_append, List.flatten_cons, List.flatten_nil, List.append_nil, show Ls.getD i [] = Ls[i] by simp [List.getD, h]]
theorem flat_le (Ls : List (List Itm)) (i : Nat) : (Ls.take i).flatten.length ≤ Ls.flatten.length := by
  conv => rhs; rw [← List.take_append_drop i Ls]
  rw [List.flatten_append, List.length_append]
  omega
set_option maxRecDepth 100000 in
set_option maxHeartbeats 6400000 in
theorem pconcat_any (g n : Nat) (vs : List Value) (Ls : List (List Itm)) (fr : Nat × Nat) (w : World) (hg : w.heap[g]? = some (.cells vs.toArray 22 fr)) (hv : vs.length = n) (hl : Ls.length = n) (hI : ∀ i, i < n → It w (vs.getD i undef) (Ls.getD i [])) (hn : n ≤ 10) (ht : Ls.flatten.length ≤ 10000) :
    Calls Tryd.prog 42 #[.slice (some ⟨g, 0, none⟩) n n] w (LI w Ls.flatten) := by
  have CEL : Hid (∀ i, i < n → ∀ W, Below w.heap.size w W → W.cell? ⟨g, i, none⟩ = some (vs.getD i undef) ∧ It W (vs.getD i undef) (Ls.getD i [])) := fun i hi W hW =>
    ⟨by rw [cell_of_row W g i _ _ _ ((hW.block g (lt_of_some hg)).trans hg)]; simp [List.getD, show i < vs.length by omega], it_below (hI i hi) hW⟩
  have HL := Lib.hid hl
  have HT := Lib.hid ht
  have GROW := Lib.hid pgrow_any
  unfold LI
  clear hg hv hl hI ht
  go_enter Tryd.func42, Tryd.ntmps42
  go_wp2_with fail
  go_loopw [3, 11] (fun sz t wr => ∃ i q : Nat, i ≤ n ∧ t = .int .i64 (i : Int) ∧ sz = .int .i64 (q : Int) ∧ q ≤ 10000 ∧ Hid (q = (Ls.take i).flatten.length) ∧ wr = w) (fun _ t _ => n - (intOf t).toNat)
  case atStart => exact ⟨0, 0, by omega, rfl, rfl, by omega, rfl, rfl⟩
  case round =>
    obtain ⟨i, q, hi, rfl, rfl, hq, HQ, rfl⟩ := hrel
    by_cases hin : i < n
    · have hl4 : decide ((i : Int) < (n : Int)) = true := decide_eq_true (by omega)
      have p0 : (0 : Int) ≤ (i : Int) := by omega
      have p1 : (i : Int) < (n : Int) := by omega
      obtain ⟨c0, hit⟩ := CEL.out i hin wr (Below.refl _ _)
      obtain ⟨a1, c1, hv1, -, -⟩ := it_form hit
      rw [hv1] at c0
      obtain ⟨m1, hm1⟩ : ∃ m, m = (Ls.getD i []).length := ⟨_, rfl⟩
      rw [← hm1] at c0
      have hle := flat_le Ls (i + 1)
      rw [flat_snoc (by have := HL.out; omega), List.length_append, ← HQ.out, ← hm1] at hle
      have HQ2 : Hid (q + m1 = (Ls.take (i + 1)).flatten.length) := by show _ = _; rw [flat_snoc (by have := HL.out; omega), List.length_append, ← HQ.out, ← hm1]
      have hq2 : q + m1 ≤ 10000 := by have := HT.out; omega
      have hng : ¬ (q : Int) + (m1 : Int) < 0 := by omega
      clear hit hv1 hm1 hle HQ
      go_wp2
      go_roundw
      case rel => exact ⟨i + 1, q + m1, by omega, by go_num, by go_num, hq2, HQ2, by first | rfl | trivial⟩
      case measure => simp [intOf]; omega
    · obtain rfl : i = n := by omega
      have hl4 : decide ((i : Int) < (i : Int)) = false := decide_eq_false (by omega)
      clear HQ
      go_wp2_with fail
      refine (GROW.out q wr (by omega)).mono ?_
      rintro e w2 ⟨⟨v2, rfl, ho2⟩, hb2⟩
      have O2 := Lib.hid ho2
      have B2 := Lib.hid hb2
      clear ho2 hb2 hl4 GROW
      go_wp2_with fail
      go_loopw [6, 27] (fun out t wl => ∃ j : Nat, j ≤ i ∧ t = .int .i64 (j : Int) ∧ Hid (OwT wl wr.heap.size out (Ls.take j).flatten) ∧ Hid (Below wr.heap.size wr wl)) (fun _ t _ => i - (intOf t).toNat)
      case atStart => exact ⟨0, by omega, rfl, O2, B2⟩
      case round =>
        clear O2 B2
        obtain ⟨j, hj, rfl, O, B⟩ := hrel
        by_cases hji : j < i
        · have hl4 : decide ((j : Int) < (i : Int)) = true := decide_eq_true (by omega)
          have p0 : (0 : Int) ≤ (j : Int) := by omega
          have p1 : (j : Int) < (i : Int) := by omega
          obtain ⟨c0, hit⟩ := CEL.out j hji _ B.out
          have HIT := Lib.hid hit
          obtain ⟨a1, c1, hv1, -, -⟩ := it_form hit
          rw [hv1] at c0 HIT
          have HLE : Hid ((Ls.take j).flatten.length + (Ls.getD j []).length ≤ 100000000) := by
            show _ ≤ _
            have hle := flat_le Ls (j + 1)
            rw [flat_snoc (by have := HL.out; omega), List.length_append] at hle
            have := HT.out
            omega
          have HFS := Lib.hid (flat_snoc (Ls := Ls) (i := j) (by have := HL.out; omega))
          obtain ⟨ao, co, rfl, -, -⟩ := owT_form O.out
          clear hit hv1
          go_wp2_with (at_builtin; refine app_it (dst := some 33) ?_ ?_ O.out HIT.out HLE.out B.out.size ?_; exact rfl; exact rfl; intro v5 w5 ho5 hg5; rw [← HFS.out] at ho5; have O5 := Lib.hid ho5; have B5 := Lib.hid (below_grownT B.out hg5 O.out B.out.size (Nat.le_refl _)); clear ho5 hg5)
          go_roundw
          case rel => exact ⟨j + 1, by omega, by go_num, O5, B5⟩
          case measure => simp [intOf]; omega
        · obtain rfl : j = i := by omega
          have hl4 : decide ((j : Int) < (j : Int)) = false := decide_eq_false (by omega)
          have OE : Hid (∀ (B : Nat) W v, OwT W B v (Ls.take j).flatten → It W v Ls.flatten) := fun B W v h => by
            have h2 := owT_it h
            rwa [List.take_of_length_le (by have := HL.out; omega)] at h2
          go_wp2
          go_ret
          exact ⟨⟨_, rfl, OE.out _ _ _ O.out⟩, B.out⟩
theorem pfind_end {R : Ending → World → Prop} {W : World} {g : Nat} {tmps : Array Value} {k c d s : Value} (hp : tmps.getD 4 undef = .pointer (some ⟨g, 0, none⟩)) (hg : W.heap[g]? = some (.cells #[k, c, d, s] 41 (0, 0)))
    (hR : R (.returned (.tuple #[.agg #[k, c, d, s], tmps.getD 5 undef])) W) : bodyPost Tryd.prog Tryd.f22 R .ret { tmps := tmps, defers := [] } W :=
  bodyPost_ret (results_rt rfl _ _ g #[k, c, d, s] hp hg Tryd.underlying41 rfl infoT4) rfl hR
theorem set4J {W : World} {g : Nat} {a b c d k l m n : Value} {T : TypeId} (h : W.heap[g]? = some (.cells #[a, b, c, d] T (0, 0))) : ((((W.setCell ⟨g, 0, none⟩ k).setCell ⟨g, 1, none⟩ l).setCell ⟨g, 2, none⟩ m).setCell ⟨g, 3, none⟩ n).heap[g]? = some (.cells #[k, l, m, n] T (0, 0)) := by
  have h1 := heap_setCell_same W g 0 _ _ k h
  have h2 := heap_setCell_same _ g 1 _ _ l h1
  have h3 := heap_setCell_same _ g 2 _ _ m h2
  exact heap_setCell_same _ g 3 _ _ n h3
theorem below4J {B : Nat} {w W : World} {g : Nat} {k l m n : Value} (h : Below B w W) (hg : B ≤ g) : Below B w ((((W.setCell ⟨g, 0, none⟩ k).setCell ⟨g, 1, none⟩ l).setCell ⟨g, 2, none⟩ m).setCell ⟨g, 3, none⟩ n) :=
  (((h.setCell (p := ⟨g, 0, none⟩) hg _).setCell (p := ⟨g, 1, none⟩) hg _).setCell (p := ⟨g, 2, none⟩) hg _).setCell (p := ⟨g, 3, none⟩) hg _
set_option maxRecDepth 100000 in
set_option maxHeartbeats 6400000 in
theorem pfind8_any (v : Value) (L : List Itm) (k : Nat) (w : World) (s : It w v L) (hlen : L.length ≤ 1000) : Calls Tryd.prog 22 #[v, .int .u64 (k : Int)] w (FD w L k) := by
  have HB0 := Lib.hid ((Below.refl w.heap.size w).alloc (Nat.le_refl _) (.cells #[.int .u64 0, .int .u32 0, .int .i64 0, .int .i64 0] 41))
  have X0 := Lib.hid (heap_alloc_new w (.cells #[.int .u64 0, .int .u32 0, .int .i64 0, .int .i64 0] 41))
  have PO := Lib.hid (fun W (hW : Below w.heap.size w W) => porder_any v L W (it_below s hW) hlen)
  have PS := Lib.hid (fun (u : Value) W (h : It W u (sortL L)) => psplit_any u (sortL L) k W h (asc_sortL L) (Nat.le_trans (length_sortL L) hlen))
  have OKL := Lib.hid s.1
  obtain ⟨a, c, rfl, -, -⟩ := it_form s
  obtain ⟨n, hn⟩ : ∃ n, n = L.length := ⟨_, rfl⟩
  unfold FD
  rw [← hn] at PO ⊢
  clear s hlen hn
  go_enter Tryd.func22, Tryd.ntmps22
  go_wp2_with fail
  generalize w.alloc (.cells #[.int .u64 0, .int .u32 0, .int .i64 0, .int .i64 0] 41) = W0 at *
  refine (PO.out _ HB0.out).mono ?_
  rintro e w1 ⟨⟨v1, rfl, hi1⟩, hb1⟩
  have B1 := Lib.hid (bt HB0.out hb1)
  have X1 := Lib.hid ((hb1.block _ (lt_of_some X0.out)).trans X0.out)
  have SP1 := Lib.hid (PS.out v1 w1 hi1)
  clear hi1 hb1 PO PS HB0 X0
  go_wp2_with fail
  refine SP1.out.mono ?_
  rintro e w2 ⟨va, vb, vc, j, m, rfl, h1, h2, h3, hsp, hb2⟩
  have B2 := Lib.hid (bt B1.out hb2)
  have x2 := (hb2.block _ (lt_of_some X1.out)).trans X1.out
  have X2 := Lib.hid x2
  clear hb2 SP1 B1 X1
  have LK := spl_lk hsp (asc_sortL L)
  rw [lk_sortL] at LK
  have d0 := cell_of_row w2 w.heap.size 0 _ _ _ x2
  have d1 := cell_of_row w2 w.heap.size 1 _ _ _ x2
  have d2 := cell_of_row w2 w.heap.size 2 _ _ _ x2
  have d3 := cell_of_row w2 w.heap.size 3 _ _ _ x2
  have f0 := frozen_of_row w2 w.heap.size 0 _ _ x2
  have f1 := frozen_of_row w2 w.heap.size 1 _ _ x2
  have f2 := frozen_of_row w2 w.heap.size 2 _ _ x2
  have f3 := frozen_of_row w2 w.heap.size 3 _ _ x2
  obtain ⟨a1, c1, rfl, -, -⟩ := it_form h1
  obtain ⟨a3, c3, rfl, -, -⟩ := it_form h3
  clear h1 h3 x2
  generalize (List.take j (sortL L)).length = n1
  generalize (List.drop (j + m) (sortL L)).length = n3
  rcases LK with ⟨rfl, hk⟩ | ⟨rfl, y, hy, hk⟩
  · rw [List.take_zero] at h2
    obtain ⟨a2, c2, rfl, -, -⟩ := it_form h2
    have e1 : fnL L k = z0 := by unfold fnL; rw [hk]; rfl
    have e2 : hasL L k = false := by unfold hasL; rw [hk]; rfl
    have E := Lib.hid (And.intro e1 e2)
    rw [show ([] : List Itm).length = 0 from rfl]
    clear h2 hk e1 e2 hsp
    go_wp2_with fail
    exact pfind_end (g := w.heap.size) rfl (set4J X2.out) ⟨by rw [E.out.1, E.out.2]; rfl, below4J B2.out (Nat.le_refl _)⟩
  · rw [hy] at h2
    obtain ⟨b2, o2, c2, rfl, -, -, hk2⟩ := it_cells h2 (by simp)
    obtain ⟨k0, k1, k2, k3⟩ := hk2 0 (by simp)
    rw [show ([y] : List Itm).getD 0 z0 = y from rfl, Nat.zero_mul, Nat.add_zero] at k0 k1 k2 k3
    have e1 : fnL L k = y := by unfold fnL; rw [hk]; rfl
    have e2 : hasL L k = true := by unfold hasL; rw [hk]; rfl
    have E := Lib.hid (And.intro e1 e2)
    rw [show ([y] : List Itm).length = 1 from rfl]
    clear h2 hk e1 e2 hsp hk2 hy
    go_wp2_with fail
    exact pfind_end (g := w.heap.size) rfl (set4J X2.out) ⟨by rw [E.out.1, E.out.2]; rfl, below4J B2.out (Nat.le_refl _)⟩
set_option maxRecDepth 100000 in
set_option maxHeartbeats 6400000 in
theorem pdrop8_any (v : Value) (L : List Itm) (k : Nat) (w : World) (s : It w v L) (hlen : L.length ≤ 1000) : Calls Tryd.prog 24 #[v, .int .u64 (k : Int)] w (LI w (dropL L k)) := by
  have PO := Lib.hid (porder_any v L w s hlen)
  have PS := Lib.hid (fun (u : Value) W (h : It W u (sortL L)) => psplit_any u (sortL L) k W h (asc_sortL L) (Nat.le_trans (length_sortL L) hlen))
  have HLN : Hid ((sortL L).length ≤ 1000) := Nat.le_trans (length_sortL L) hlen
  obtain ⟨a, c, rfl, -, -⟩ := it_form s
  unfold LI at PO ⊢
  unfold dropL
  generalize L.length = n at *
  clear s hlen
  go_enter Tryd.func24, Tryd.ntmps24
  go_wp2_with fail
  refine PO.out.mono ?_
  rintro e w1 ⟨⟨v1, rfl, hi1⟩, hb1⟩
  have B1 := Lib.hid hb1
  have SP1 := Lib.hid (PS.out v1 w1 hi1)
  clear hi1 hb1 PO PS
  go_wp2_with fail
  refine SP1.out.mono ?_
  rintro e w2 ⟨va, vb, vc, j, m, rfl, h1, h2, h3, hsp, hb2⟩
  have B2 := Lib.hid (bt B1.out hb2)
  have DEL := Lib.hid (spl_del hsp)
  obtain ⟨a1, c1, e1, -, -⟩ := it_form h1
  obtain ⟨a2, c2, e2, -, -⟩ := it_form h2
  obtain ⟨a3, c3, e3, -, -⟩ := it_form h3
  have hbox := heap_alloc_new w2 (.cells #[va, vc] 22)
  have hal : Below w2.heap.size w2 (w2.alloc (.cells #[va, vc] 22)) := (Below.refl _ _).alloc (Nat.le_refl _) _
  have CC := Lib.hid (pconcat_any w2.heap.size 2 [va, vc] [(sortL L).take j, (sortL L).drop (j + m)] (0, 0) (w2.alloc (.cells #[va, vc] 22)) hbox rfl rfl (fun i hi => by
    match i, hi with
    | 0, _ => exact it_below h1 hal
    | 1, _ => exact it_below h3 hal) (by decide) (by
      have := HLN.out
      simp only [List.flatten_cons, List.flatten_nil, List.append_nil, List.length_append, List.length_take, List.length_drop]
      omega))
  have B3 := Lib.hid (B2.out.alloc B2.out.size (.cells #[va, vc] 22))
  rw [show ([(sortL L).take j, (sortL L).drop (j + m)] : List (List Itm)).flatten = delL k (sortL L) by rw [← DEL.out]; simp] at CC
  unfold LI at CC
  subst e1 e2 e3
  clear h1 h2 h3 hsp hb2 B2 hbox hal DEL
  generalize (List.take j (sortL L)).length = n1 at *
  generalize (List.take m (List.drop j (sortL L))).length = n2 at *
  generalize (List.drop (j + m) (sortL L)).length = n3 at *
  go_wp2_with fail
  refine CC.out.mono ?_
  rintro e w3 ⟨⟨v3, rfl, hi3⟩, hb3⟩
  have HI3 := Lib.hid hi3
  have B4 := Lib.hid (bt B3.out hb3)
  obtain ⟨a4, c4, rfl, -, -⟩ := it_form hi3
  clear hi3 hb3
  go_wp2
  go_ret
  exact ⟨⟨_, rfl, HI3.out⟩, B4.out⟩
end Go.Proofs.YtihjfnlimdcmkaaDoor.Gf
