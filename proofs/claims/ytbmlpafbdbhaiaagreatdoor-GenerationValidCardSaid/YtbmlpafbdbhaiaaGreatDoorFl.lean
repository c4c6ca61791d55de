/- What is proved here: operations that make a block, and that nobody in the region waits for but its last stores, may come up anywhere among calls that stand in one order: the walk of the calls is written once. No program text. -/
import Derived.Test.YtbmlpafbdbhaiaaGreatDoorVa
namespace Go.Proofs.YtbmlpafbdbhaiaaGreatDoor.Qt
open Go Go.RowKit Go.Sort

section
variable {P : Program} {ops : Array Oper} {md : Region.Mode} {Q : Exit → Act → World → Prop} {S : World → Prop}

/-- Operation i makes the block o and leaves its address in the slot d. -/
def FloB (P : Program) (ops : Array Oper) (f : Nat × Tmp × Obj) : Prop :=
 ∃ oi, ops[f.1]? = some oi ∧ oi.dst = some f.2.1 ∧ oi.guard = none ∧ ∀ a w, (execOp (Act.eval a) oi).run P w = .ok (.value (.pointer (some ⟨w.heap.size, 0, none⟩))) (w.alloc f.2.2)
def put1 (a : Act) (p : Tmp × Nat) : Act := a.put (some p.1) (.pointer (some ⟨p.2, 0, none⟩))
def putsL (a : Act) (l : List (Tmp × Nat)) : Act := l.foldl put1 a
theorem wpOp_put1 {j : Nat} {oj : Oper} {d : Tmp} {g : Nat} (hj : ops[j]? = some oj) (hl : d ∉ oj.looksAt ops) (hd : oj.dst ≠ some d) (hsj : ∀ cs b, oj.op ≠ .select cs b)
 (hQ : ∀ c (a a' : Act) w, Q (.panic c) a w → Q (.panic c) a' w) {K : Act → World → Prop} {a : Act} {w : World} (h : wpOp P ops Q j K a w) :
 wpOp P ops Q j (fun a' w' => ∃ a0, a' = put1 a0 (d, g) ∧ K a0 w') (put1 a (d, g)) w := by
 have h1 : ∀ e, some d = some e → e ∉ oj.looksAt ops := fun e he => by cases he; exact hl
 have h2 : ∀ e, some d = some e → oj.dst ≠ some e := fun e he => by cases he; exact hd
 unfold put1
 unfold wpOp at *
 simp only [hj] at *
 rw [wanted_put oj a (some d) _ h1]
 split
 ·rename_i hw
  simp only [hw, if_true] at h
  rcases h with h | ⟨hasks, hlets⟩
  case inr => exact .inr ⟨by unfold Oper.asks at *; rw [execOp_put oj hsj a (some d) _ h1]; exact hasks, hlets⟩
  refine .inl ?_
  unfold Oper.wp at *
  rw [execOp_put oj hsj a (some d) _ h1]
  generalize (execOp a.eval oj).run P w = r at *
  cases r with
  | ok n w' =>
   cases n <;> simp only [Oper.upon] at h ⊢
   case value u => exact ⟨_, Act.put_comm a _ u h2, h⟩
   case skip => exact ⟨_, Act.put_comm a _ undef h2, h⟩
   case defer e => exact ⟨_, by rw [Act.put_defers]; exact Act.put_comm _ _ undef h2, h⟩
   case enter f args =>
    refine Calls.mono h fun e w'' he => ?_
    cases e with
    | returned u => exact ⟨_, Act.put_comm a _ u h2, he⟩
    | panicked c => exact hQ _ _ _ _ he
    | outgrown => exact he
   case row row args => exact Rows.mono h fun u w'' he => ⟨_, Act.put_comm a _ u h2, he⟩
  | halt x w' =>
   cases x <;> simp only [Oper.upon] at h ⊢
   case panic u => exact hQ _ _ _ _ h
 ·rename_i hw
  simp only [hw] at h
  exact ⟨_, Act.put_comm a _ undef h2, h⟩
theorem wpOp_puts {j : Nat} {oj : Oper} (hj : ops[j]? = some oj) (hsj : ∀ cs b, oj.op ≠ .select cs b) (hQ : ∀ c (a a' : Act) w, Q (.panic c) a w → Q (.panic c) a' w) :
 ∀ (l : List (Tmp × Nat)) {K : Act → World → Prop} {a : Act} {w : World}, (∀ p ∈ l, p.1 ∉ oj.looksAt ops ∧ oj.dst ≠ some p.1) → wpOp P ops Q j K a w →
 wpOp P ops Q j (fun a' w' => ∃ a0, a' = putsL a0 l ∧ K a0 w') (putsL a l) w
 | [], _, _, _, _, h => wpOp_mono (fun a' _ hk => ⟨a', rfl, hk⟩) h
 | p :: l, _, a, _, hm, h => by
  have h1 := wpOp_put1 (d := p.1) (g := p.2) hj (hm p (by simp)).1 (hm p (by simp)).2 hsj hQ h
  have h2 := wpOp_puts hj hsj hQ l (fun q hq => hm q (by simp [hq])) h1
  refine wpOp_mono (fun a' w' hk => ?_) h2
  obtain ⟨a1, rfl, a0, rfl, hk⟩ := hk
  exact ⟨a0, rfl, hk⟩
/-- The calls, one behind the other; ahead of each one, blocks may have been made. -/
def wpChain (P : Program) (ops : Array Oper) (Q : Exit → Act → World → Prop) (S : World → Prop) (END : Act → World → Prop) : List Nat → Act → World → Prop
 | [], a, w => ∀ W, Below w.heap.size w W → S W → END a W
 | c :: cs, a, w => ∀ W, Below w.heap.size w W → S W → wpOp P ops Q c (fun a' w' => S w' ∧ Below W.heap.size W w' ∧ wpChain P ops Q S END cs a' w') a W
theorem wpChain.later {END : Act → World → Prop} {cs : List Nat} {a : Act} {w w' : World} (h : wpChain P ops Q S END cs a w) (hb : Below w.heap.size w w') : wpChain P ops Q S END cs a w' := by
 cases cs with
 | nil => exact fun W h1 h2 => h W (hb.trans (h1.mono hb.size)) h2
 | cons c cs => exact fun W h1 h2 => h W (hb.trans (h1.mono hb.size)) h2
theorem chain_nil {END : Act → World → Prop} {a : Act} {w : World} (h : ∀ W, Below w.heap.size w W → S W → END a W) : wpChain P ops Q S END [] a w := h
theorem chain_gw {END : Act → World → Prop} {cs : List Nat} {a : Act} {w : World} (c : Nat) {oc : Oper} (hi : ops[c]? = some oc) (hg : Region.wanted oc (yielded ops a.tmps) = true)
 (h : ∀ W, Below w.heap.size w W → S W → ∀ K : Act → World → Prop, (∀ a' w', S w' → Below W.heap.size W w' → wpChain P ops Q S END cs a' w' → K a' w') → oc.wp P a W K Q) : wpChain P ops Q S END (c :: cs) a w := fun W hb hS => by
 unfold wpOp
 simp only [hi]
 rw [if_pos hg]
 exact Or.inl (h W hb hS _ fun a' w' h1 h2 h3 => ⟨h1, h2, h3⟩)
/-- Every order of the makers among the calls leads to Lend. -/
def inter (md : Region.Mode) (ops : Array Oper) (Lend : Array Bool) : Nat → List Nat → List Nat → Array Bool → Bool
 | 0, pend, cs, listed => pend.isEmpty && cs.isEmpty && decide (listed = Lend)
 | n + 1, pend, cs, listed => !(Region.ready md ops listed).isEmpty && (Region.ready md ops listed).all fun i =>
  (pend.contains i && inter md ops Lend n (pend.erase i) cs (listed.setIfInBounds i true)) || (match cs with
   | [] => false
   | c :: cs' => (c == i) && inter md ops Lend n pend cs' (listed.setIfInBounds i true))
def apartB (ops : Array Oper) (F : List (Nat × Tmp × Obj)) (cs : List Nat) : Bool := cs.all fun c => match ops[c]? with
 | none => false
 | some oc => F.all fun f => !(oc.looksAt ops).contains f.2.1 && decide (oc.dst ≠ some f.2.1)
theorem perm_lift {α β : Type} {f : α → β} {l F : List β} (h : l.Perm F) : ∀ (done : List α), done.map f = l → ∃ d' : List α, d'.Perm done ∧ d'.map f = F := by
 induction h with
 | nil => exact fun done h => ⟨done, List.Perm.refl _, h⟩
 | cons x _ ih =>
  intro done h
  cases done with
  | nil => cases h
  | cons p ps =>
   simp only [List.map_cons, List.cons.injEq] at h
   obtain ⟨d', h1, h2⟩ := ih ps h.2
   exact ⟨p :: d', h1.cons p, by rw [List.map_cons, h2, h.1]⟩
 | swap x y l =>
  intro done h
  cases done with
  | nil => cases h
  | cons p ps =>
   cases ps with
   | nil => simp at h
   | cons q qs =>
    simp only [List.map_cons, List.cons.injEq] at h
    exact ⟨q :: p :: qs, List.Perm.swap p q qs, by rw [List.map_cons, List.map_cons, h.1, h.2.1, h.2.2]⟩
 | trans _ _ ih1 ih2 =>
  intro done h
  obtain ⟨d1, h1, h2⟩ := ih1 done h
  obtain ⟨d2, h3, h4⟩ := ih2 d1 h2
  exact ⟨d2, h3.trans h1, h4⟩
theorem inj_of_nodup {α β : Type} {f : α → β} : ∀ {l : List α}, (l.map f).Nodup → ∀ x ∈ l, ∀ y ∈ l, f x = f y → x = y
 | [], _, x, hx, _, _, _ => by cases hx
 | p :: l, h, x, hx, y, hy, e => by
  rw [List.map_cons, List.nodup_cons] at h
  rcases List.mem_cons.1 hx with hx | hx <;> rcases List.mem_cons.1 hy with hy | hy
  ·rw [hx, hy]
  ·exact absurd (List.mem_map.2 ⟨y, hy, by rw [← e, hx]⟩) h.1
  ·exact absurd (List.mem_map.2 ⟨x, hx, by rw [e, hy]⟩) h.1
  ·exact inj_of_nodup h.2 x hx y hy e
theorem puts_perm {l l' : List (Tmp × Nat)} (hp : l.Perm l') (hn : (l.map (·.1)).Nodup) (a : Act) : putsL a l = putsL a l' := by
 refine hp.foldl_eq' (fun x hx y hy z => ?_) a
 by_cases e : x.1 = y.1
 ·rw [inj_of_nodup hn x hx y hy e]
 ·exact Act.put_comm z _ _ fun d hd hd2 => e ((Option.some.inj hd).trans (Option.some.inj hd2).symm)
theorem first_of_mem {i : Nat} : ∀ {L : List Nat}, i ∈ L → ∃ x y, L = x ++ i :: y ∧ i ∉ x
 | [], h => by cases h
 | z :: L, h => by
  by_cases e : z = i
  ·subst e; exact ⟨[], L, rfl, by simp⟩
  ·obtain ⟨x, y, h1, h2⟩ := first_of_mem ((List.mem_cons.1 h).resolve_left fun h => e h.symm)
   exact ⟨z :: x, y, by rw [h1]; rfl, fun h => (List.mem_cons.1 h).elim (fun h => e h.symm) h2⟩
/-- What is to be shown behind the calls: all blocks have been made. -/
def FEnd (P : Program) (md : Region.Mode) (ops : Array Oper) (Q : Exit → Act → World → Prop) (S : World → Prop) (F : List (Nat × Tmp × Obj)) (base fuelE : Nat) (Lend : Array Bool) (a : Act) (W : World) : Prop :=
 ∀ ps : List ((Nat × Tmp × Obj) × Nat), ps.map (·.1) = F → (∀ p ∈ ps, base ≤ p.2 ∧ W.heap[p.2]? = some p.1.2.2) → (ps.map (·.2)).Nodup → wpAnyH P md ops Q S fuelE Lend (putsL a (ps.map fun p => (p.1.2.1, p.2))) W
theorem float_go {F : List (Nat × Tmp × Obj)} {base fuelE : Nat} {Lend : Array Bool} (hF : ∀ f ∈ F, FloB P ops f) (hd : (F.map fun f => f.2.1).Nodup) (hsel : Region.noSelect ops = true) (hQ : ∀ c (a a' : Act) w, Q (.panic c) a w → Q (.panic c) a' w) (hS : ∀ w, S w → ∀ f ∈ F, S (w.alloc f.2.2)) :
 ∀ (n : Nat) (pend : List (Nat × Tmp × Obj)) (done : List ((Nat × Tmp × Obj) × Nat)) (cs : List Nat) (listed : Array Bool) (a : Act) (w : World), inter md ops Lend n (pend.map (·.1)) cs listed = true → (pend ++ done.map (·.1)).Perm F → apartB ops F cs = true → base ≤ w.heap.size →
  (∀ p ∈ done, base ≤ p.2 ∧ w.heap[p.2]? = some p.1.2.2) → (done.map (·.2)).Nodup → S w → wpChain P ops Q S (FEnd P md ops Q S F base fuelE Lend) cs a w →
  wpAnyH P md ops Q S (n + fuelE) listed (putsL a (done.map fun p => (p.1.2.1, p.2))) w := by
 intro n
 induction n with
 | zero =>
  intro pend done cs listed a w hI hp _ _ hD hN hSw H
  simp only [inter, Bool.and_eq_true, List.isEmpty_iff, decide_eq_true_eq] at hI
  obtain ⟨⟨h1, rfl⟩, rfl⟩ := hI
  have h1 := List.map_eq_nil_iff.1 h1
  subst h1
  rw [List.nil_append] at hp
  obtain ⟨d', hp', hm⟩ := perm_lift hp done rfl
  have hpp := hp'.map fun p : (Nat × Tmp × Obj) × Nat => (p.1.2.1, p.2)
  have hn2 : ((done.map fun p : (Nat × Tmp × Obj) × Nat => (p.1.2.1, p.2)).map (·.1)).Nodup := by
   have h2 := (hp'.map fun p : (Nat × Tmp × Obj) × Nat => p.1.2.1)
   have h3 : (d'.map fun p : (Nat × Tmp × Obj) × Nat => p.1.2.1) = F.map fun f => f.2.1 := by rw [← hm, List.map_map]; rfl
   rw [h3] at h2
   rw [List.map_map]
   exact h2.nodup_iff.1 hd
  rw [Nat.zero_add, puts_perm hpp.symm hn2]
  exact H w (Below.refl _ _) hSw d' hm (fun p hpm => hD p (hp'.mem_iff.1 hpm)) ((hp'.map (·.2)).nodup_iff.2 hN)
 | succ n ih =>
  intro pend done cs listed a w hI hp hA hbase hD hN hSw H
  simp only [inter, Bool.and_eq_true, Bool.not_eq_true', List.all_eq_true] at hI
  rw [show n + 1 + fuelE = (n + fuelE) + 1 by omega]
  refine ⟨fun h0 => (by rw [h0] at hI; cases hI.1), fun i hi => ?_⟩
  have hc := hI.2 i hi
  simp only [Bool.or_eq_true, Bool.and_eq_true] at hc
  rcases hc with ⟨hc1, hc2⟩ | hc
  ·have hc1 := List.contains_iff_mem.1 hc1
   obtain ⟨l1, l2, hl, hnl⟩ := first_of_mem hc1
   obtain ⟨p1, p2, rfl, h1, h2⟩ := List.map_eq_append_iff.1 hl
   obtain ⟨f, p3, rfl, hf, h3⟩ := List.map_eq_cons_iff.1 h2
   have hfF : f ∈ F := hp.mem_iff.1 (by simp)
   obtain ⟨oi, ho, hdst, hg, hrun⟩ := hF f hfF
   have hw2 : Below w.heap.size w (w.alloc f.2.2) := by have := (Below.refl w.heap.size w).alloc (Nat.le_refl _) f.2.2; exact this
   unfold wpOp
   rw [← hf, ho]
   dsimp only
   rw [if_pos (by simp [Region.wanted, hg])]
   refine Or.inl ?_
   unfold Oper.wp
   rw [hrun]
   simp only [Oper.upon]
   rw [hdst]
   refine ⟨hS w hSw f hfF, ?_⟩
   have hlt : ∀ p ∈ done, p.2 < w.heap.size := fun p hpm => (Array.getElem?_eq_some_iff.1 (hD p hpm).2).1
   have hgo := ih (p1 ++ p3) (done ++ [(f, w.heap.size)]) cs (listed.setIfInBounds i true) a (w.alloc f.2.2) (by
    rw [hl, List.erase_append_right _ hnl, List.erase_cons_head, ← h1, ← h3, ← List.map_append] at hc2
    exact hc2) (by
    refine List.Perm.trans ?_ hp
    rw [List.map_append, List.map_singleton]
    simp only [List.append_assoc, List.cons_append]
    refine List.Perm.append_left p1 ?_
    rw [← List.append_assoc]
    exact List.perm_append_singleton f (p3 ++ done.map (·.1))) hA (Nat.le_trans hbase hw2.size) (fun p hpm => by
    rcases List.mem_append.1 hpm with hpm | hpm
    ·exact ⟨(hD p hpm).1, (hw2.block _ (hlt p hpm)).trans (hD p hpm).2⟩
    ·rw [List.mem_singleton.1 hpm]
     exact ⟨hbase, heap_alloc_new _ _⟩) (by
    rw [List.map_append, List.nodup_append]
    refine ⟨hN, by simp, fun x hx y hy => ?_⟩
    obtain ⟨p, hpm, rfl⟩ := List.mem_map.1 hx
    simp only [List.map_cons, List.map_nil, List.mem_singleton] at hy
    have := hlt p hpm
    omega) (hS w hSw f hfF) (H.later hw2)
   rw [← hf] at hgo
   rw [List.map_append, putsL, List.foldl_append] at hgo
   exact hgo
  ·cases cs with
   | nil => cases hc
   | cons c cs' =>
    simp only [Bool.and_eq_true, beq_iff_eq] at hc
    obtain ⟨rfl, hc2⟩ := hc
    have hA1 := List.all_eq_true.1 hA c (by simp)
    obtain ⟨hun, oj, hoj, -⟩ := mem_ready.1 hi
    simp only [hoj, List.all_eq_true, Bool.and_eq_true, Bool.not_eq_true', decide_eq_true_eq] at hA1
    have h1 := H w (Below.refl _ _) hSw
    have h2 := wpOp_puts hoj (fun cs b => Region.noSelect_spec hsel c oj cs b hoj) hQ (done.map fun p => (p.1.2.1, p.2)) (fun p hpm => by
     obtain ⟨q, hq, rfl⟩ := List.mem_map.1 hpm
     have h3 := hA1 q.1 (hp.mem_iff.1 (List.mem_append_right _ (List.mem_map.2 ⟨q, hq, rfl⟩)))
     exact ⟨fun h => by rw [List.contains_iff_mem.2 h] at h3; exact absurd h3.1 (by simp), h3.2⟩) h1
    refine wpOp_mono (fun a' w' hk => ?_) h2
    obtain ⟨a0, rfl, hSw', hb, hk⟩ := hk
    exact ⟨hSw', ih pend done cs' (listed.setIfInBounds c true) a0 w' hc2 hp (by
     unfold apartB at hA ⊢
     rw [List.all_cons, Bool.and_eq_true] at hA
     exact hA.2) (Nat.le_trans hbase hb.size) (fun p hpm => ⟨(hD p hpm).1, (hb.block _ (Array.getElem?_eq_some_iff.1 (hD p hpm).2).1).trans (hD p hpm).2⟩) hN hSw' hk⟩
/-- One maker. -/
theorem wp_float1 {fuelE base : Nat} {listed : Array Bool} {a : Act} {w : World} (i : Nat) (d : Tmp) (o : Obj) (cs : List Nat) (Lend : Array Bool) (n : Nat) (hF : FloB P ops (i, d, o)) (hsel : Region.noSelect ops = true) (hQ : ∀ c (a a' : Act) w, Q (.panic c) a w → Q (.panic c) a' w) (hS : ∀ w, S w → S (w.alloc o))
 (hI : inter md ops Lend n [i] cs listed = true) (hA : apartB ops [(i, d, o)] cs = true) (hb : base ≤ w.heap.size) (hSw : S w)
 (h : wpChain P ops Q S (fun a W => ∀ g, base ≤ g → W.heap[g]? = some o → wpAnyH P md ops Q S fuelE Lend (a.put (some d) (.pointer (some ⟨g, 0, none⟩))) W) cs a w) : wpAnyH P md ops Q S (n + fuelE) listed a w := by
 refine float_go (F := [(i, d, o)]) (base := base) (fun f hf => by rw [List.mem_singleton.1 hf]; exact hF) (by simp) hsel hQ (fun w hw f hf => by rw [List.mem_singleton.1 hf]; exact hS w hw) n [(i, d, o)] [] cs listed a w hI (by simp) hA hb (fun p hp => by cases hp) (by simp) hSw ?_
 have hm : ∀ (cs : List Nat) (a : Act) (w : World), wpChain P ops Q S (fun a W => ∀ g, base ≤ g → W.heap[g]? = some o → wpAnyH P md ops Q S fuelE Lend (a.put (some d) (.pointer (some ⟨g, 0, none⟩))) W) cs a w → wpChain P ops Q S (FEnd P md ops Q S [(i, d, o)] base fuelE Lend) cs a w := by
  intro cs
  induction cs with
  | nil =>
   intro a w h W h1 h2 ps hps hbx _
   obtain ⟨p, ps', rfl, hp, h3⟩ := List.map_eq_cons_iff.1 hps
   have h3 := List.map_eq_nil_iff.1 h3
   subst h3
   obtain ⟨q, g⟩ := p
   dsimp only at hp
   subst hp
   have hb1 := hbx ((i, d, o), g) (by simp)
   exact h W h1 h2 g hb1.1 hb1.2
  | cons c cs ih => exact fun a w h W h1 h2 => wpOp_mono (fun a' w' hk => ⟨hk.1, hk.2.1, ih a' w' hk.2.2⟩) (h W h1 h2)
 exact hm cs a w h
end
end Go.Proofs.YtbmlpafbdbhaiaaGreatDoor.Qt
