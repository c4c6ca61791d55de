/- What is proved here: behind some operations taken first, a list of quiet operations, then a list that stands in one forced order, each list by its indices. No program text. -/
import Derived.Test.YtbkhedfhnmkodaaDoorQt
import Derived.OrdersHeld
namespace Go.Proofs.YtbkhedfhnmkodaaDoor.Qt
open Go Go.RowKit Go.Sort

section
variable {P : Program} {ops : Array Oper} {md : Region.Mode} {C : World → Prop}

/-- Each of the head waits, by way of the head, to be followed by t. -/
def sinkI (md : Region.Mode) (ops : Array Oper) (t : Nat) : List Nat → Bool
  | [] => true
  | i :: r => ((r ++ [t]).any fun j => Region.waitsFor md ops j i) && sinkI md ops t r
/-- Each one waits for the one before. -/
def chainI (md : Region.Mode) (ops : Array Oper) : Nat → List Nat → Bool
  | _, [] => true
  | t, u :: r => Region.waitsFor md ops u t && chainI md ops u r
structure HInv (md : Region.Mode) (ops : Array Oper) (tl : List Nat) (listed : Array Bool) : Prop where
  size : listed.size = ops.size
  closed : ∀ j oj, ops[j]? = some oj → listed.getD j false = true → ∀ e ∈ oj.after, Region.binds md e = true → listed.getD e.on false = true
  tail : ∀ t ∈ tl, t < ops.size ∧ listed.getD t true = false
theorem getD_eq {listed : Array Bool} {i : Nat} (hi : i < listed.size) (a b : Bool) : listed.getD i a = listed.getD i b := by simp [hi]
theorem HInv.set {tl : List Nat} {i : Nat} {listed : Array Bool} (inv : HInv md ops tl listed) (hi : i ∈ Region.ready md ops listed) (hin : i ∉ tl) : HInv md ops tl (listed.setIfInBounds i true) := by
  obtain ⟨_, oi, hoi, hall⟩ := mem_ready.1 hi
  refine ⟨by simp [inv.size], fun j oj hj hl e he hb => ?_, fun t ht => ⟨(inv.tail t ht).1, by
    have hne : i ≠ t := fun e => by subst e; exact hin ht
    rw [getD_set_ne true hne]; exact (inv.tail t ht).2⟩⟩
  by_cases hij : i = j
  · subst hij
    have : oj = oi := Option.some.inj (hj.symm.trans hoi)
    subst this
    exact getD_set_true (hall e he hb)
  · rw [getD_set_ne false hij] at hl
    exact getD_set_true (inv.closed j oj hj hl e he hb)
theorem sink_waits {t : Nat} {tl : List Nat} {listed : Array Bool} (inv : HInv md ops tl listed) : ∀ (hd : List Nat), sinkI md ops t hd = true → (∃ i ∈ hd, listed.getD i true = false) → t ∉ Region.ready md ops listed
  | [], _, ⟨_, hi, _⟩ => by cases hi
  | i0 :: r, hs, ⟨i, hi, hun⟩ => by
    simp only [sinkI, Bool.and_eq_true] at hs
    by_cases hr : ∃ i ∈ r, listed.getD i true = false
    · exact sink_waits inv r hs.2 hr
    · have e : i = i0 := by
        rcases List.mem_cons.1 hi with e | e
        · exact e
        · exact absurd ⟨i, e, hun⟩ hr
      subst e
      obtain ⟨j, hj, hw⟩ := List.any_eq_true.1 hs.1
      obtain ⟨oj, hoj, e, he, hb, hon⟩ := Region.waitsFor_spec hw
      intro htr
      rcases List.mem_append.1 hj with hj | hj
      · have hjl : listed.getD j true = true := by
          cases h : listed.getD j true with
          | true => rfl
          | false => exact absurd ⟨j, hj, h⟩ hr
        have hjs : j < listed.size := by rw [inv.size]; exact (Array.getElem?_eq_some_iff.1 hoj).1
        have h2 := inv.closed j oj hoj ((getD_eq hjs false true).trans hjl) e he hb
        rw [hon, getD_both hun] at h2
        cases h2
      · have hjt : j = t := by simpa using hj
        subst hjt
        obtain ⟨_, o', ho', hall⟩ := mem_ready.1 htr
        have : o' = oj := Option.some.inj (ho'.symm.trans hoj)
        subst this
        have h2 := hall e he hb
        rw [hon, getD_both hun] at h2
        cases h2
theorem chain_waits {tl : List Nat} {listed : Array Bool} (inv : HInv md ops tl listed) : ∀ (t : Nat) (r : List Nat), (∀ u ∈ t :: r, u ∈ tl) → chainI md ops t r = true → ∀ u ∈ r, u ∉ Region.ready md ops listed
  | _, [], _, _, _, hu => by cases hu
  | t, u :: r, hm, hc, x, hx => by
    simp only [chainI, Bool.and_eq_true] at hc
    rcases List.mem_cons.1 hx with e | e
    · subst e
      obtain ⟨oj, hoj, e, he, hb, hon⟩ := Region.waitsFor_spec hc.1
      intro hr
      obtain ⟨_, o', ho', hall⟩ := mem_ready.1 hr
      have : o' = oj := Option.some.inj (ho'.symm.trans hoj)
      subst this
      have h2 := hall e he hb
      have ht := (inv.tail t (hm t (by simp))).2
      rw [hon, getD_both ht] at h2
      cases h2
    · exact chain_waits inv u r (fun v hv => hm v (by simp [List.mem_cons.1 hv])) hc.2 x e
theorem tail_waitsI {t0 : Nat} {ts hd : List Nat} {listed : Array Bool} (inv : HInv md ops (t0 :: ts) listed) (hs : sinkI md ops t0 hd = true) (hc : chainI md ops t0 ts = true) (hu : ∃ i ∈ hd, listed.getD i true = false) : ∀ t ∈ t0 :: ts, t ∉ Region.ready md ops listed := fun t ht => by
  rcases List.mem_cons.1 ht with e | e
  · subst e
    exact sink_waits inv hd hs hu
  · exact chain_waits inv t0 ts (fun _ h => h) hc t e

def anyHd (P : Program) (md : Region.Mode) (ops : Array Oper) (C : World → Prop) (tl : List Nat) (L : Array Bool → Act → Prop) : Nat → Array Bool → Act → Prop
  | 0, listed, a => L listed a
  | f + 1, listed, a =>
    Region.ready md ops listed ≠ [] ∧ ∀ i ∈ Region.ready md ops listed, i ∉ tl ∧ qOp P ops C i (anyHd P md ops C tl L f (listed.setIfInBounds i true)) a
theorem any_of_hd {tl : List Nat} {g : Nat} {L : Array Bool → Act → Prop} {Q' : Exit → Act → World → Prop} (hL : ∀ listed a w, C w → L listed a → wpAny P md ops Q' g listed a w) :
    ∀ (f : Nat) (listed : Array Bool) (a : Act) (w : World), C w → anyHd P md ops C tl L f listed a → wpAny P md ops Q' (f + g) listed a w
  | 0, listed, a, w, hw, h => by rw [Nat.zero_add]; exact hL _ _ _ hw h
  | f + 1, listed, a, w, hw, h => by
    rw [show f + 1 + g = (f + g) + 1 by omega]
    exact ⟨fun h0 => absurd h0 h.1, fun i hi => wpOp_of_qOp hw (fun a' w' hw' h' => any_of_hd hL f _ a' w' hw' h') (h.2 i hi).2⟩
theorem hd_first {t0 : Nat} {ts hd : List Nat} {i : Nat} {oi : Oper} {v : Value} {L : Array Bool → Act → Prop} (hi : ops[i]? = some oi) (hsel : ∀ (j : Nat) (o : Oper) cs b, ops[j]? = some o → o.op ≠ .select cs b)
    (hs : sinkI md ops t0 hd = true) (hc : chainI md ops t0 ts = true) (hin : i ∈ hd)
    (hdone : ∀ listed a, L listed a → ∀ j ∈ Region.ready md ops listed, j ∈ t0 :: ts) :
    ∀ (f : Nat) (listed : Array Bool) (a : Act), HInv md ops (t0 :: ts) listed →
      (∀ j oj, ops[j]? = some oj → j ≠ i → listed.getD j true = false → (∀ e ∈ oj.after, Region.binds md e = true → e.on ≠ i) → oi.apart ops oj = true) →
      i ∈ Region.ready md ops listed → YieldsIn P ops C oi v a →
      anyHd P md ops C (t0 :: ts) L f (listed.setIfInBounds i true) (a.put oi.dst v) → anyHd P md ops C (t0 :: ts) L (f + 1) listed a := by
  intro f
  induction f with
  | zero =>
    intro listed a inv _ hr hy H
    have hun := (mem_ready.1 hr).1
    refine ⟨fun h => (by rw [h] at hr; cases hr), fun j hj => ?_⟩
    have hjn : j ∉ t0 :: ts := fun h => tail_waitsI inv hs hc ⟨i, hin, hun⟩ j h hj
    refine ⟨hjn, ?_⟩
    by_cases hji : j = i
    · subst hji; exact hy.qOp hi H
    · exact absurd (hdone _ _ H j (ready_mono hj hji)) hjn
  | succ f ih =>
    intro listed a inv hfree hr hy H
    have hun := (mem_ready.1 hr).1
    refine ⟨fun h => (by rw [h] at hr; cases hr), fun j hj => ?_⟩
    have hjn : j ∉ t0 :: ts := fun h => tail_waitsI inv hs hc ⟨i, hin, hun⟩ j h hj
    refine ⟨hjn, ?_⟩
    by_cases hji : j = i
    · subst hji; exact hy.qOp hi H
    · have h1 := (H.2 j (ready_mono hj hji)).2
      obtain ⟨hjun, oj, hoj, hall⟩ := mem_ready.1 hj
      have hnot : ∀ e ∈ oj.after, Region.binds md e = true → e.on ≠ i := fun e he hb heq => by
        have h1 := hall e he hb
        rw [heq, getD_both hun] at h1
        cases h1
      have h2 := qOp_put hoj (hfree j oj hoj hji hjun hnot) (fun cs b => hsel i oi cs b hi) (fun cs b => hsel j oj cs b hoj) hy h1
      have hfree' : ∀ k ok, ops[k]? = some ok → k ≠ i → (listed.setIfInBounds j true).getD k true = false →
          (∀ e ∈ ok.after, Region.binds md e = true → e.on ≠ i) → oi.apart ops ok = true := fun k ok hk hki hun hno => by
        refine hfree k ok hk hki ?_ hno
        by_cases hjk : j = k
        · subst hjk; exact hjun
        · rw [getD_set_ne true hjk] at hun; exact hun
      refine qOp_mono (fun a' h3 => ih (listed.setIfInBounds j true) a' (inv.set hj hjn) hfree' (ready_mono hr (Ne.symm hji)) h3.1 ?_) h2
      rw [Array.setIfInBounds_comm _ _ hji]
      exact h3.2
/-- One order, by indices. -/
def seqI (md : Region.Mode) (ops : Array Oper) : List Nat → Array Bool → Bool
  | [], listed => (Region.ready md ops listed).isEmpty
  | t :: ts, listed => decide (Region.ready md ops listed = [t]) && seqI md ops ts (listed.setIfInBounds t true)
theorem any_of_seqI {Q' : Exit → Act → World → Prop} : ∀ (tl : List Nat) (l : List Oper) (listed : Array Bool) (a : Act) (w : World), l.map some = tl.map (fun t => ops[t]?) →
    seqI md ops tl listed = true → wpList P ops Q' l a w → wpAny P md ops Q' tl.length listed a w
  | [], [], _, _, _, _, hB, h => ⟨by simpa [seqI] using hB, h⟩
  | [], _ :: _, _, _, _, hl, _, _ => by simp at hl
  | _ :: _, [], _, _, _, hl, _, _ => by simp at hl
  | t :: tl, o :: l, listed, a, w, hl, hB, h => by
    simp only [List.map_cons, List.cons.injEq] at hl
    simp only [seqI, Bool.and_eq_true, decide_eq_true_eq] at hB
    refine ⟨fun h1 => (by rw [hB.1] at h1; cases h1), fun i hi => ?_⟩
    rw [hB.1] at hi
    have hik : i = t := by simpa using hi
    subst hik
    have hw : wpOp P ops Q' i (wpList P ops Q' l) a w := by unfold wpOp; simp only [← hl.1]; exact h
    exact wpOp_mono (fun a' w' h' => any_of_seqI tl l _ a' w' hl.2 hB.2 h') hw
theorem seqI_ready {t0 : Nat} {ts : List Nat} {listed : Array Bool} (h : seqI md ops (t0 :: ts) listed = true) : ∀ j ∈ Region.ready md ops listed, j ∈ t0 :: ts := by
  intro j hj
  simp only [seqI, Bool.and_eq_true, decide_eq_true_eq] at h
  rw [h.1] at hj
  have : j = t0 := by simpa using hj
  simp [this]
def lexI (md : Region.Mode) (ops : Array Oper) (tl : List Nat) : List Nat → Array Bool → Bool
  | [], listed => seqI md ops tl listed
  | k :: hd, listed => (Region.ready md ops listed).contains k && Region.free md ops listed k && !(tl.contains k) && lexI md ops tl hd (listed.setIfInBounds k true)
theorem hd_lex {t0 : Nat} {ts hd0 : List Nat} {Lq : Act → Prop} (hsel : Region.noSelect ops = true) (hs : sinkI md ops t0 hd0 = true) (hc : chainI md ops t0 ts = true) :
    ∀ (hd : List Nat) (l : List Oper) (listed : Array Bool) (a : Act), (∀ i ∈ hd, i ∈ hd0) → l.map some = hd.map (fun t => ops[t]?) → HInv md ops (t0 :: ts) listed →
    lexI md ops (t0 :: ts) hd listed = true → wpQuiet P ops C Lq l a →
    anyHd P md ops C (t0 :: ts) (fun listed' a' => seqI md ops (t0 :: ts) listed' = true ∧ Lq a') hd.length listed a
  | [], [], _, _, _, _, _, hB, h => ⟨by simpa [lexI] using hB, h⟩
  | [], _ :: _, _, _, _, hl, _, _, _ => by simp at hl
  | _ :: _, [], _, _, _, hl, _, _, _ => by simp at hl
  | k :: hd, o :: l, listed, a, hm, hl, inv, hB, h => by
    simp only [List.map_cons, List.cons.injEq] at hl
    have h0 : ops[k]? = some o := hl.1.symm
    simp only [lexI, Bool.and_eq_true, Bool.not_eq_true', List.contains_eq_mem, decide_eq_true_eq, decide_eq_false_iff_not] at hB
    obtain ⟨⟨⟨hr, hf⟩, hkt⟩, hB'⟩ := hB
    have hst : qOp P ops C k (wpQuiet P ops C Lq l) a := by unfold qOp; simp only [h0]; exact h
    obtain ⟨v, hy, hK⟩ := yieldsIn_of_qOp h0 hst
    exact hd_first h0 (Region.noSelect_spec hsel) hs hc (hm k (by simp)) (fun listed' a' hL => seqI_ready hL.1) hd.length listed a inv (Region.free_spec h0 hf) hr hy
      (hd_lex hsel hs hc hd l _ _ (fun i hi => hm i (by simp [hi])) hl.2 (inv.set hr hkt) hB' hK)
def startB (md : Region.Mode) (ops : Array Oper) (tl : List Nat) (listed : Array Bool) : Bool :=
  decide (listed.size = ops.size) && ((List.range ops.size).all fun j => !(listed.getD j false) || match ops[j]? with
    | none => true
    | some o => o.after.all fun e => !(Region.binds md e) || listed.getD e.on false) && tl.all fun t => decide (t < ops.size) && !(listed.getD t true)
theorem start_inv {tl : List Nat} {listed : Array Bool} (h : startB md ops tl listed = true) : HInv md ops tl listed := by
  simp only [startB, Bool.and_eq_true, decide_eq_true_eq] at h
  obtain ⟨⟨h1, h2⟩, h3⟩ := h
  refine ⟨h1, fun j oj hj hl e he hb => ?_, fun t ht => ?_⟩
  · have h4 := List.all_eq_true.1 h2 j (List.mem_range.2 (Array.getElem?_eq_some_iff.1 hj).1)
    simp only [hl, Bool.not_true, Bool.false_or, hj] at h4
    have h5 := Array.all_eq_true_iff_forall_mem.1 h4 e he
    simpa [hb] using h5
  · have h4 := List.all_eq_true.1 h3 t ht
    simpa using h4
/-- Quiet operations, then a forced order, behind what has been taken. -/
theorem any_quiet_tail {Q' : Exit → Act → World → Prop} {fuel : Nat} {listed : Array Bool} {a : Act} {w : World} (hd : List Nat) (t0 : Nat) (ts : List Nat) (lh lt : List Oper) (hfuel : fuel = hd.length + (t0 :: ts).length)
    (hB : (Region.noSelect ops && sinkI md ops t0 hd && chainI md ops t0 ts && startB md ops (t0 :: ts) listed && lexI md ops (t0 :: ts) hd listed) = true)
    (h1 : lh.map some = hd.map (fun t => ops[t]?)) (h2 : lt.map some = (t0 :: ts).map (fun t => ops[t]?)) (hC : C w)
    (h : wpQuiet P ops C (fun a' => ∀ w', C w' → wpList P ops Q' lt a' w') lh a) : wpAny P md ops Q' fuel listed a w := by
  simp only [Bool.and_eq_true] at hB
  obtain ⟨⟨⟨⟨hsel, hs⟩, hc⟩, hst⟩, hlex⟩ := hB
  have H := hd_lex (P := P) (C := C) hsel hs hc hd lh listed a (fun _ h => h) h1 (start_inv hst) hlex h
  rw [hfuel]
  exact any_of_hd (C := C) (Q' := Q') (g := (t0 :: ts).length) (fun listed' a' w' hw' hL => any_of_seqI (t0 :: ts) lt listed' a' w' h2 hL.1 (hL.2 w' hw')) _ _ _ _ hC H
end
/-- The same in the class of the worlds in which nothing old has changed. -/
theorem any_bl_tail {P : Program} {ops : Array Oper} {md : Region.Mode} {Q' : Exit → Act → World → Prop} {fuel : Nat} {listed : Array Bool} {a : Act} {w : World} (hd : List Nat) (t0 : Nat) (ts : List Nat) (lh lt : List Oper) (hfuel : fuel = hd.length + (t0 :: ts).length)
    (hB : (Region.noSelect ops && sinkI md ops t0 hd && chainI md ops t0 ts && startB md ops (t0 :: ts) listed && lexI md ops (t0 :: ts) hd listed) = true)
    (h1 : lh.map some = hd.map (fun t => ops[t]?)) (h2 : lt.map some = (t0 :: ts).map (fun t => ops[t]?))
    (h : wpQuiet P ops (fun w' => ∃ p : Regrown, w' = grow (redrawn w p.d) p.os) (fun a' => ∀ w', Below w.heap.size w w' → wpList P ops Q' lt a' w') lh a) : wpAny P md ops Q' fuel listed a w :=
  any_quiet_tail (C := fun w' => ∃ p : Regrown, w' = grow (redrawn w p.d) p.os) hd t0 ts lh lt hfuel hB h1 h2 ⟨⟨w.drawn, #[]⟩, by rw [grow_empty]; rfl⟩ (by
    have h3 : ∀ (l' : List Oper) (a : Act), wpQuiet P ops (fun w' => ∃ p : Regrown, w' = grow (redrawn w p.d) p.os) (fun a' => ∀ w', Below w.heap.size w w' → wpList P ops Q' lt a' w') l' a → wpQuiet P ops (fun w' => ∃ p : Regrown, w' = grow (redrawn w p.d) p.os) (fun a' => ∀ w', (∃ p : Regrown, w' = grow (redrawn w p.d) p.os) → wpList P ops Q' lt a' w') l' a := by
      intro l'
      induction l' with
      | nil => exact fun a h w' hw' => h w' (bl_below hw')
      | cons o l' ih =>
        intro a h
        unfold wpQuiet at h ⊢
        split
        · rename_i hw
          rw [if_pos hw] at h
          exact Oper.quiet_mono (fun a => ih a) h
        · rename_i hw
          rw [if_neg hw] at h
          exact ih _ h
    exact h3 _ a h)
def pickOps (ops : Array Oper) (l : List Nat) : List Oper := l.filterMap fun t => ops[t]?
theorem any_bl_pick {P : Program} {l : List Oper} {md : Region.Mode} {Q' : Exit → Act → World → Prop} {fuel : Nat} {listed : Array Bool} {a : Act} {w : World} (hd : List Nat) (t0 : Nat) (ts : List Nat) (hfuel : fuel = hd.length + (t0 :: ts).length)
    (hB : (Region.noSelect l.toArray && sinkI md l.toArray t0 hd && chainI md l.toArray t0 ts && startB md l.toArray (t0 :: ts) listed && lexI md l.toArray (t0 :: ts) hd listed) = true)
    (h1 : (pickOps l.toArray hd).map some = hd.map (fun t => l.toArray[t]?)) (h2 : (pickOps l.toArray (t0 :: ts)).map some = (t0 :: ts).map (fun t => l.toArray[t]?))
    (h : wpQuiet P l.toArray (fun w' => ∃ p : Regrown, w' = grow (redrawn w p.d) p.os) (fun a' => ∀ w', Below w.heap.size w w' → wpList P l.toArray Q' (pickOps l.toArray (t0 :: ts)) a' w') (pickOps l.toArray hd) a) : wpAny P md l.toArray Q' fuel listed a w :=
  any_bl_tail hd t0 ts _ _ hfuel hB h1 h2 h
/-- A walk over operations that read only, each in every world that meets S. -/
def wpHeads (P : Program) (ops : Array Oper) (S : World → Prop) (Q : Act → Prop) : List Oper → Act → Prop
  | [], a => Q a
  | o :: rest, a => if Region.wanted o (yielded ops a.tmps) then ∃ v, (∀ w, S w → (execOp a.eval o).run P w = .ok (.value v) w) ∧ wpHeads P ops S Q rest (a.put o.dst v) else wpHeads P ops S Q rest (a.put o.dst undef)
theorem wpHeads_step {P : Program} {ops : Array Oper} {S : World → Prop} {Q : Act → Prop} {a : Act} {o : Oper} {rest : List Oper}
    (h : ∀ K : Act → Prop, (∀ a, wpHeads P ops S Q rest a → K a) → if Region.wanted o (yielded ops a.tmps) then ∃ v, (∀ w, S w → (execOp a.eval o).run P w = .ok (.value v) w) ∧ K (a.put o.dst v) else K (a.put o.dst undef)) : wpHeads P ops S Q (o :: rest) a :=
  h _ fun _ h => h
theorem wpHeads_nil {P : Program} {ops : Array Oper} {S : World → Prop} {Q : Act → Prop} {a : Act} (h : Q a) : wpHeads P ops S Q [] a := h
def headsB (md : Region.Mode) (ops : Array Oper) : List Nat → Array Bool → Bool
  | [], _ => true
  | k :: hd, listed => Region.free md ops listed k && (Region.ready md ops listed).contains k && headsB md ops hd (listed.setIfInBounds k true)
def listAll : List Nat → Array Bool → Array Bool
  | [], l => l
  | k :: hd, l => listAll hd (l.setIfInBounds k true)
theorem held_heads {P : Program} {ops : Array Oper} {md : Region.Mode} {Q : Exit → Act → World → Prop} {S : World → Prop} (hs : Region.noSelect ops = true) (hQ : ∀ c (a : Act) d v w, Q (.panic c) (a.put d v) w → Q (.panic c) a w) {fuel : Nat} {w : World} (hS : S w) :
    ∀ (hd : List Nat) (lh : List Oper) (listed : Array Bool) (a : Act), headsB md ops hd listed = true → lh.map some = hd.map (fun t => ops[t]?) → wpHeads P ops S (fun a' => wpAnyH P md ops Q S fuel (listAll hd listed) a' w) lh a → wpAnyH P md ops Q S (hd.length + fuel) listed a w
  | [], [], _, _, _, _, h => by rw [List.length_nil, Nat.zero_add]; exact h
  | [], _ :: _, _, _, _, hl, _ => by simp at hl
  | _ :: _, [], _, _, _, hl, _ => by simp at hl
  | k :: hd, o :: lh, listed, a, hB, hl, h => by
    simp only [List.map_cons, List.cons.injEq] at hl
    simp only [headsB, Bool.and_eq_true] at hB
    rw [List.length_cons, show hd.length + 1 + fuel = (hd.length + fuel) + 1 by omega]
    unfold wpHeads at h
    by_cases hw : Region.wanted o (yielded ops a.tmps) = true
    · rw [if_pos hw] at h
      obtain ⟨v, hv, hr⟩ := h
      exact wpAnyH_take hl.1.symm hs hB.1.1 hB.1.2 (fun c a w => hQ c a _ _ w) (Or.inl ⟨hw, hv⟩) hS (held_heads hs hQ hS hd lh _ _ hB.2 hl.2 hr)
    · rw [if_neg hw] at h
      exact wpAnyH_take hl.1.symm hs hB.1.1 hB.1.2 (fun c a w => hQ c a _ _ w) (Or.inr ⟨by simpa using hw, rfl⟩) hS (held_heads hs hQ hS hd lh _ _ hB.2 hl.2 h)
/-- A region whose operations hd read only old cells: they are taken first; what is left may come up in its own order. -/
theorem wp_region_heads {P : Program} {id : Nat} {Q : Exit → Act → World → Prop} {a : Act} {w : World} {l : List Oper} (hd : List Nat) (fuel : Nat) (hm : P.follows .mixedOrders = true) (hQ : ∀ c (a : Act) d v w, Q (.panic c) (a.put d v) w → Q (.panic c) a w)
    (hB : (Region.noSelect l.toArray && headsB .any l.toArray hd (Array.replicate l.toArray.size false)) = true) (hf : l.toArray.size = hd.length + fuel) (h1 : (pickOps l.toArray hd).map some = hd.map (fun t => l.toArray[t]?))
    (h : wpHeads P l.toArray (fun w' => ∃ p : Regrown, w' = grow (redrawn w p.d) p.os) (fun a' => wpAnyH P .any l.toArray Q (fun w' => ∃ p : Regrown, w' = grow (redrawn w p.d) p.os) fuel (listAll hd (Array.replicate l.toArray.size false)) a' w.drew) (pickOps l.toArray hd) a) : (Code.region id l.toArray true).wp P Q a w := by
  simp only [Bool.and_eq_true] at hB
  refine wp_region_held (S := fun w' => ∃ p : Regrown, w' = grow (redrawn w p.d) p.os) hm ?_
  have hS : (fun w' => ∃ p : Regrown, w' = grow (redrawn w p.d) p.os) w.drew := bl_start w
  have := held_heads (P := P) (md := .any) (Q := Q) hB.1 hQ hS hd _ _ a hB.2 h1 h
  rw [hf] at *
  exact this
/-- One operation that alone may come up, in a held region. -/
theorem held_one {P : Program} {ops : Array Oper} {md : Region.Mode} {Q : Exit → Act → World → Prop} {S : World → Prop} {fuel : Nat} {listed : Array Bool} {a : Act} {w : World} (i : Nat) {oi : Oper} (hi : ops[i]? = some oi) (hg : oi.guard = none) (hr : Region.ready md ops listed = [i])
    (h : ∀ K : Act → World → Prop, (∀ a' w', S w' → wpAnyH P md ops Q S fuel (listed.setIfInBounds i true) a' w' → K a' w') → oi.wp P a w K Q) : wpAnyH P md ops Q S (fuel + 1) listed a w := by
  refine wpAnyH_all hr (by simp) fun j hj => ?_
  obtain rfl : j = i := by simpa using hj
  unfold wpOp
  simp only [hi]
  rw [if_pos (by simp [Region.wanted, hg])]
  exact Or.inl (h _ fun a' w' h1 h2 => ⟨h1, h2⟩)
theorem bl_of_below {w w' : World} (h : Below w.heap.size w w') : ∃ p : Regrown, w' = grow (redrawn w p.d) p.os := regrown_of_below h
end Go.Proofs.YtbkhedfhnmkodaaDoor.Qt
