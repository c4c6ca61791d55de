/- What is proved here: the reference's Rotate of a slot. -/
import Derived.Test.YtgbnclepgjcakaaGreatGs24
namespace Go.Proofs.YtgbnclepgjcakaaGreat.Gf
open Go Go.Joins Go.ChangeShapes Go.WideShapes Go.ChangeAt Go.RowKit Go.Deep Go.Proofs.YtgbnclepgjcakaaGreat.By Go.Proofs.YtgbnclepgjcakaaGreat.Qt
set_option maxRecDepth 100000
set_option maxHeartbeats 204800000

theorem held_three {P : Program} {ops : Array Oper} {md : Region.Mode} {Q : Exit → Act → World → Prop} {S : World → Prop} {fuel : Nat} {listed : Array Bool} {a : Act} {w : World} (i k l : Nat) {oi ok ol : Oper} (hi : ops[i]? = some oi) (hk : ops[k]? = some ok) (hl : ops[l]? = some ol) (hg : oi.guard = none) (hg2 : ok.guard = none) (hg3 : ol.guard = none) (hr : Region.ready md ops listed = [i, k, l])
 (h : ∀ K : Act → World → Prop, (∀ a' w', S w' → wpAnyH P md ops Q S fuel (listed.setIfInBounds i true) a' w' → K a' w') → oi.wp P a w K Q)
 (h2 : ∀ K : Act → World → Prop, (∀ a' w', S w' → wpAnyH P md ops Q S fuel (listed.setIfInBounds k true) a' w' → K a' w') → ok.wp P a w K Q)
 (h3 : ∀ K : Act → World → Prop, (∀ a' w', S w' → wpAnyH P md ops Q S fuel (listed.setIfInBounds l true) a' w' → K a' w') → ol.wp P a w K Q) : wpAnyH P md ops Q S (fuel + 1) listed a w := by
 refine wpAnyH_all hr (by simp) fun j hj => ?_
 have hj2 : j = i ∨ j = k ∨ j = l := by simpa using hj
 rcases hj2 with rfl | rfl | rfl
 ·unfold wpOp
  simp only [hi]
  rw [if_pos (by simp [Region.wanted, hg])]
  exact Or.inl (h _ fun a' w' h1 h2 => ⟨h1, h2⟩)
 ·unfold wpOp
  simp only [hk]
  rw [if_pos (by simp [Region.wanted, hg2])]
  exact Or.inl (h2 _ fun a' w' h1 h2 => ⟨h1, h2⟩)
 ·unfold wpOp
  simp only [hl]
  rw [if_pos (by simp [Region.wanted, hg3])]
  exact Or.inl (h3 _ fun a' w' h1 h2 => ⟨h1, h2⟩)
/-- What stays while a list grows: the older blocks, and two boxes. -/
structure KeepG2 (w : World) (g1 : Nat) (o1 : Obj) (g2 : Nat) (o2 : Obj) (W : World) : Prop where
 be : Below w.heap.size w W
 a1 : W.heap[g1]? = some o1
 a2 : W.heap[g2]? = some o2
theorem KeepG2.below {w W W' : World} {g1 g2 : Nat} {o1 o2 : Obj} (h : KeepG2 w g1 o1 g2 o2 W) (hb : Below W.heap.size W W') : KeepG2 w g1 o1 g2 o2 W' :=
 ⟨h.be.trans (hb.mono h.be.size), (hb.block _ (lt_of_some h.a1)).trans h.a1, (hb.block _ (lt_of_some h.a2)).trans h.a2⟩
theorem KeepG2.grown {w W W' : World} {g1 g2 : Nat} {o1 o2 : Obj} {row : Option Nat} (h : KeepG2 w g1 o1 g2 o2 W) (hg : W.grownBy W' row) (hr : ∀ j, row = some j → w.heap.size ≤ j) (n1 : ¬ some g1 = row) (n2 : ¬ some g2 = row) : KeepG2 w g1 o1 g2 o2 W' :=
 ⟨h.be.grown hg h.be.size hr, (hg.block _ (lt_of_some h.a1) n1).trans h.a1, (hg.block _ (lt_of_some h.a2) n2).trans h.a2⟩
theorem KeepG2.row {w W : World} {g1 g2 p : Nat} {o1 o2 : Obj} (h : KeepG2 w g1 o1 g2 o2 W) (hp : w.heap.size ≤ p) (n1 : g1 ≠ p) (n2 : g2 ≠ p) (cs : Array Value) : KeepG2 w g1 o1 g2 o2 (W.setRow p cs) :=
 ⟨below_setRowM h.be hp cs, (setRow_other W p g1 cs n1).trans h.a1, (setRow_other W p g2 cs n2).trans h.a2⟩
theorem src_grown {z : Nat} {w w' : World} {b off : Nat} {V : List (List Value)} {row : Option Nat} (h : SrcV z w b off V) (hr : Rows z V) (hg : w.grownBy w' row) (hn : ¬ some b = row) : SrcV z w' b off V := fun k u hk hu => by
 have h1 := h k u hk hu
 have hp : (V.getD k []).length = z := by
  rw [List.getD_eq_getElem?_getD, List.getElem?_eq_getElem hk]
  exact (hr _ (List.getElem_mem hk)).1
 rw [List.getElem?_eq_getElem (by omega)] at h1 ⊢
 have hb := hg.block b (block_lt_of_cell h1) hn
 unfold World.cell? at h1 ⊢
 simp only at h1 ⊢
 rw [hb]
 exact h1
/-- What the region of Rotate keeps until its store. -/
structure R8 (w wx : World) (BQ : Nat) (so zo : Obj) (b off : Nat) (VT : List (List Value)) (fz : Nat) (fo : Obj) (fr : Nat) (ro : Obj) (X : World) : Prop where
 s : X.heap[w.heap.size]? = some so
 z : X.heap[w.heap.size + 1]? = some zo
 sr : SrcV 14 X b off VT
 sz : BQ ≤ X.heap.size
 k : KeepG2 w fz fo fr ro X
 bx : Below wx.heap.size wx X
theorem R8.below {w wx X X' : World} {BQ b off fz fr : Nat} {so zo fo ro : Obj} {VT : List (List Value)} (h : R8 w wx BQ so zo b off VT fz fo fr ro X) (hr : Rows 14 VT) (hb : Below X.heap.size X X') : R8 w wx BQ so zo b off VT fz fo fr ro X' :=
 ⟨(hb.block _ (lt_of_some h.s)).trans h.s, (hb.block _ (lt_of_some h.z)).trans h.z, src_below hr h.sr hb, Nat.le_trans h.sz hb.size, h.k.below hb, h.bx.trans (hb.mono h.bx.size)⟩
theorem R8.grown {w wx X X' : World} {BQ b off fz fr : Nat} {so zo fo ro : Obj} {VT : List (List Value)} {row : Option Nat} (h : R8 w wx BQ so zo b off VT fz fo fr ro X) (hr : Rows 14 VT) (hg : X.grownBy X' row) (hj : ∀ j, row = some j → BQ ≤ j) (q : (BQ = wx.heap.size ∧ b < BQ) ∧ w.heap.size + 1 < fz ∧ fz < BQ ∧ fr < BQ ∧ w.heap.size + 1 < fr) : R8 w wx BQ so zo b off VT fz fo fr ro X' := by
 have n : ∀ g, g < BQ → ¬ some g = row := fun g hg e => by have := hj g e.symm; omega
 exact ⟨(hg.block _ (lt_of_some h.s) (n _ (by omega))).trans h.s, (hg.block _ (lt_of_some h.z) (n _ (by omega))).trans h.z, src_grown h.sr hr hg (n _ q.1.2), Nat.le_trans h.sz hg.size, h.k.grown hg (fun j hj' => by have := hj j hj'; omega) (n _ q.2.2.1) (n _ q.2.2.2.1), h.bx.grown hg h.bx.size (fun j hj' => by have := hj j hj'; omega)⟩
theorem r8_end {w wx X : World} {BQ b off fz fr : Nat} {zo fo ro : Obj} {VT M : List (List Value)} {T : TypeId} {os : Array Value} {v : Value} {rF rR : List Value} {F R : Ge} (h : R8 w wx BQ (.cells os T (0, 0)) zo b off VT fz fo fr ro X) (q : (BQ = wx.heap.size ∧ b < BQ) ∧ w.heap.size + 1 < fz ∧ fz < BQ ∧ fr < BQ ∧ w.heap.size + 1 < fr) (ho : OwV 46 14 X BQ v M) (hF : GC wx rF F) (hR : GC wx rR R) (hn : ∀ (k : Nat) (n : Int), os[k]? ≠ some (Value.int .u64 n)) (cs : Array Value) :
 KeepG2 w fz fo fr ro (X.setRow w.heap.size cs) ∧ Hid ((X.setRow w.heap.size cs).heap[w.heap.size]? = some (.cells cs T (0, 0)) ∧ (X.setRow w.heap.size cs).heap[w.heap.size + 1]? = some zo ∧ OwV 46 14 (X.setRow w.heap.size cs) BQ v M ∧ GC (X.setRow w.heap.size cs) rF F ∧ GC (X.setRow w.heap.size cs) rR R ∧ Below w.heap.size w (X.setRow w.heap.size cs)) :=
 ⟨h.k.row (Nat.le_refl _) (by omega) (by omega) cs, Lh ⟨setRow_heap _ _ _ _ _ _ h.s, (setRow_other _ _ _ _ (by omega)).trans h.z, ov_move ho fun b hb _ => setRow_other _ _ _ _ (by have := (ov_lt ho b hb).1; omega), gc_setRow (gc_below hF h.bx) h.s hn, gc_setRow (gc_below hR h.bx) h.s hn, below_setRowM h.k.be (Nat.le_refl _) cs⟩⟩
/-- The last generation, frozen. -/
def fzG (g : Ge) : Ge := { g with mode := 2 }
/-- What Rotate answers. -/
noncomputable def rotC (s : Slt) : Int := if okSb s = true then (if rotB s = true then 0 else 9) else 1
noncomputable def rotL (s : Slt) : Slt := ⟨s.id, s.limit, s.ro, s.gens.take (s.gens.length - 1) ++ [fzG (lastG s), frG ((lastG s).num + 1)]⟩
noncomputable def rotT (s : Slt) : Slt := if rotC s = 0 then rotL s else ⟨0, 0, false, []⟩
def RotO (s : Slt) (w : World) (e : Ending) (w' : World) : Prop := (∃ v, e = .returned (.tuple #[v, .int .i64 (rotC s)]) ∧ Sv w' v (rotT s)) ∧ Below w.heap.size w w'
theorem rotO_of {s : Slt} {c : Int} {x : Slt} {w w' : World} {e : Ending} (hc : rotC s = c) (hx : rotT s = x) (q : (∃ v, e = .returned (.tuple #[v, .int .i64 c]) ∧ Sv w' v x) ∧ Below w.heap.size w w') : RotO s w e w' := by
 unfold RotO
 rw [hc, hx]
 exact q
theorem rot_bad {s : Slt} {w w' : World} {e : Ending} (h : ¬ okS s) (q : (∃ v, e = .returned (.tuple #[v, .int .i64 1]) ∧ Sv w' v ⟨0, 0, false, []⟩) ∧ Below w.heap.size w w') : RotO s w e w' := by
 have hc : rotC s = 1 := by unfold rotC; rw [okSb_f h]; rfl
 exact rotO_of hc (by unfold rotT; rw [hc]; rfl) q
theorem rot_full {s : Slt} {w w' : World} {e : Ending} (h : okS s) (hn : rotB s = false) (q : (∃ v, e = .returned (.tuple #[v, .int .i64 9]) ∧ Sv w' v ⟨0, 0, false, []⟩) ∧ Below w.heap.size w w') : RotO s w e w' := by
 have hc : rotC s = 9 := by unfold rotC; rw [okSb_t h, if_pos rfl, hn]; rfl
 exact rotO_of hc (by unfold rotT; rw [hc]; rfl) q
theorem rot_ok {s : Slt} {w w' : World} {e : Ending} (h : okS s ∧ rotB s = true) (q : (∃ v, e = .returned (.tuple #[v, .int .i64 0]) ∧ Sv w' v (rotL s)) ∧ Below w.heap.size w w') : RotO s w e w' := by
 have hc : rotC s = 0 := by unfold rotC; rw [okSb_t h.1, if_pos rfl, h.2]; rfl
 exact rotO_of hc (by unfold rotT; rw [hc, if_pos rfl]) q
theorem rot_gl {T : TypeId} {w : World} {base : Nat} {v : Value} {V : List (List Value)} {s : Slt} {n m : Nat} {F R : Ge} {rF rR : List Value} (hn : n = s.gens.length) (hvt : (V.take m).length = m) (hvl : V.length = n) (hm : m + 1 = n) (h : OwV T 14 w base v (V.take m ++ [rF, rR]))
 (hg : ∀ k, k < s.gens.length → GC w (V.getD k []) (s.gens.getD k g0)) (hF : F = fzG (lastG s)) (hR : R = frG ((lastG s).num + 1)) (gF : GC w rF F) (gR : GC w rR R) : Gl w v (rotL s).gens := by
 have hl : (s.gens.take (s.gens.length - 1)).length = m := by rw [List.length_take]; omega
 refine gl_own h (by simp only [rotL, List.length_append, hvt, hl, List.length_cons, List.length_nil]) fun k hk => ?_
 simp only [rotL, List.length_append, hl, List.length_cons, List.length_nil] at hk ⊢
 have e1 : s.gens.length - 1 = m := by omega
 rw [e1]
 by_cases c1 : k < m
 ·rw [List.getD_eq_getElem?_getD, List.getElem?_append_left (by omega), List.getElem?_take, if_pos c1, ← List.getD_eq_getElem?_getD, List.getD_eq_getElem?_getD (l := _ ++ _), List.getElem?_append_left (by rw [List.length_take]; omega), List.getElem?_take, if_pos c1, ← List.getD_eq_getElem?_getD]
  exact hg k (by omega)
 ·have hl2 : (s.gens.take m).length = m := by rw [List.length_take]; omega
  rw [List.getD_eq_getElem?_getD, List.getElem?_append_right (by omega), List.getD_eq_getElem?_getD, List.getElem?_append_right (by omega), hvt, hl2]
  by_cases c2 : k = m
  ·subst c2
   rw [Nat.sub_self, ← hF]
   exact gF
  ·have e2 : k - m = 1 := by omega
   rw [e2, ← hR]
   exact gR
theorem src_two {w : World} {g : Nat} {F R : Ge} {z0 z1 z2 z3 z4 z5 z6 z7 r0 r1 r2 r3 r4 r5 r6 r7 : Value} (h : w.heap[g]? = some (.cells #[.int .i64 F.num, .int .i64 F.rev, .int .i64 F.mode, .int .i64 F.size, z0, z1, z2, z3, z4, z5, z6, z7, .int .i64 F.m.live, .int .i64 F.m.garb, .int .i64 R.num, .int .i64 R.rev, .int .i64 R.mode, .int .i64 R.size, r0, r1, r2, r3, r4, r5, r6, r7, .int .i64 R.m.live, .int .i64 R.m.garb] 46 (0, 0))) : SrcV 14 w g 0 [[.int .i64 F.num, .int .i64 F.rev, .int .i64 F.mode, .int .i64 F.size, z0, z1, z2, z3, z4, z5, z6, z7, .int .i64 F.m.live, .int .i64 F.m.garb], [.int .i64 R.num, .int .i64 R.rev, .int .i64 R.mode, .int .i64 R.size, r0, r1, r2, r3, r4, r5, r6, r7, .int .i64 R.m.live, .int .i64 R.m.garb]] := fun k q hk hq => by
 simp only [List.length_cons, List.length_nil] at hk
 rw [cell_of_row w g _ _ _ _ h, List.getElem?_toArray]
 obtain rfl | rfl : k = 0 ∨ k = 1 := by omega
 ·obtain rfl | rfl | rfl | rfl | rfl | rfl | rfl | rfl | rfl | rfl | rfl | rfl | rfl | rfl : q = 0 ∨ q = 1 ∨ q = 2 ∨ q = 3 ∨ q = 4 ∨ q = 5 ∨ q = 6 ∨ q = 7 ∨ q = 8 ∨ q = 9 ∨ q = 10 ∨ q = 11 ∨ q = 12 ∨ q = 13 := by omega
  all_goals rfl
 ·obtain rfl | rfl | rfl | rfl | rfl | rfl | rfl | rfl | rfl | rfl | rfl | rfl | rfl | rfl : q = 0 ∨ q = 1 ∨ q = 2 ∨ q = 3 ∨ q = 4 ∨ q = 5 ∨ q = 6 ∨ q = 7 ∨ q = 8 ∨ q = 9 ∨ q = 10 ∨ q = 11 ∨ q = 12 ∨ q = 13 := by omega
  all_goals rfl
theorem slb_u64 {id lim : Int} {ro : Bool} {a : Option Addr} {n c : Nat} : ∀ (k : Nat) (q : Int), (#[.int .i64 id, .int .i64 lim, .bool ro, .slice a n c] : Array Value)[k]? ≠ some (.int .u64 q) := by
 intro k q h
 match k, h with
 | 0, h => simp at h
 | 1, h => simp at h
 | 2, h => simp at h
 | 3, h => simp at h
 | k + 4, h => simp at h
theorem last_ok {s : Slt} (h : okS s) : okGe (lastG s) ∧ (lastG s).mode = 1 := by
 have h1 := h.n1
 have q := h.od (s.gens.length - 1) (by omega)
 exact ⟨q.ok, q.mode.2 (by omega)⟩
theorem rot_facts {s : Slt} (h : okS s) (hr : rotB s = true) : modC (lastG s) 1 = 0 ∧ modG (lastG s) 1 2 = fzG (lastG s) ∧ 1 ≤ (lastG s).num ∧ (lastG s).num < 8 := by
 have q := last_ok h
 refine ⟨?_, ?_, q.1.hd.n1, ?_⟩
 ·unfold modC
  rw [okGb_t q.1, if_pos rfl, if_pos q.2]
 ·unfold modG
  rw [if_pos ⟨okGb_t q.1, q.2⟩]
  rfl
 ·unfold rotB at hr
  rw [Bool.and_eq_true] at hr
  exact of_decide_eq_true hr.2
theorem rsrotate_x (id lim : Int) (ro : Bool) (a : Option Addr) (n c : Nat) (L : List Ge) (w : World) (hn : n = L.length) (hl : Gl w (.slice a n c) L) (hlen : n ≤ 10000) (hf : ∀ g ∈ L, LGe g) (hj : J64 id ∧ J64 lim) : Calls Tryz.prog 32 #[.agg #[.int .i64 id, .int .i64 lim, .bool ro, .slice a n c]] w (RotO ⟨id, lim, ro, L⟩ w) := by
 obtain ⟨V, a', c', hVL, hav, hR, hGC, hSrc⟩ := gl_rows hl
 obtain ⟨rfl, -, rfl⟩ : a = a' ∧ n = L.length ∧ c = c' := by simpa using hav
 have q0 := al2 w (.cells #[.int .i64 id, .int .i64 lim, .bool ro, .slice a n c] 24) (.cells #[.int .i64 0, .int .i64 0, .bool false, .slice none 0 0] 24)
 have HS := Lh q0.1
 have HZ := Lh q0.2.1
 have B0 := Lh q0.2.2
 have GL := Lh (gl_below hl q0.2.2)
 have HN := Lh hn
 have HLN := Lh hlen
 have HVL := Lh (hVL.trans hn.symm)
 have HRW := Lh hR
 have HGC := Lh hGC
 have HSC := Lh hSrc
 have HJ := Lh hj
 have HLF := Lh hf
 have hcc : n ≤ c := by
  obtain ⟨_, _, e1, e2, _⟩ := gl_form hl
  obtain ⟨-, e3, rfl⟩ : _ ∧ n = L.length ∧ c = _ := by simpa using e1
  omega
 have HCC := Lh hcc
 have PV := Lh (fun W (h : Gl W (.slice a n c) L) => rsvalid_x id lim ro a n c L W hn h hlen hf)
 have PR := Lh (fun W (h : Gl W (.slice a n c) L) => rcanrot_x id lim ro a n c L W hn h hlen hf)
 clear hl hf q0 hn hlen hav hVL hR hGC hSrc hj hcc
 go_enter Tryz.func32, Tryz.ntmps32
 go_upto_region 1 with fail
 generalize (w.alloc (.cells #[.int .i64 id, .int .i64 lim, .bool ro, .slice a n c] 24)).alloc (.cells #[.int .i64 0, .int .i64 0, .bool false, .slice none 0 0] 24) = W0 at *
 obtain ⟨⟨y0, y1, y2, y3⟩, -⟩ := bx4 HS.out
 go_wp2_with fail
 clear y0 y1 y2 y3
 refine (PV.out W0 GL.out).mono ?_
 rintro e W1 ⟨rfl, hb⟩
 have HS1 := Lh ((hb.block _ (lt_of_some HS.out)).trans HS.out)
 have HZ1 := Lh ((hb.block _ (lt_of_some HZ.out)).trans HZ.out)
 have GL1 := Lh (gl_below GL.out hb)
 have B1 := Lh (B0.out.trans (hb.mono B0.out.size))
 clear hb HS HZ GL B0 PV
 rcases Classical.em (okS ⟨id, lim, ro, L⟩) with h1 | h1
 case inr =>
  rw [okSb_f h1]
  have HK := Lh h1
  clear h1
  go_wp2_with ((with_reducible refine storeRS (w.heap.size + 1) _ #[.int .i64 0, .int .i64 0, .bool false, .slice none 0 0] ?_ ?_ HZ1.out rfl rfl zs_one ?_); exact rfl; exact rfl)
  refine bodyPost_ret (results_rt (S := 24) rfl _ _ (w.heap.size + 1) #[.int .i64 0, .int .i64 0, .bool false, .slice none 0 0] rfl (setRow_heap _ _ _ _ _ _ HZ1.out) Tryz.underlying24 rfl infoRS4) rfl ?_
  exact rot_bad HK.out ⟨⟨_, rfl, _, rfl, zeroS_ok _, by unfold J64; decide, by unfold J64; decide⟩, below_setRowM B1.out (Nat.le_succ _) _⟩
 rw [okSb_t h1]
 have HK := Lh h1
 clear h1
 obtain ⟨⟨y0, y1, y2, y3⟩, -⟩ := bx4 HS1.out
 go_wp2_with fail
 clear y0 y1 y2 y3
 refine (PR.out W1 GL1.out).mono ?_
 rintro e W2 ⟨rfl, hb⟩
 have HS2 := Lh ((hb.block _ (lt_of_some HS1.out)).trans HS1.out)
 have HZ2 := Lh ((hb.block _ (lt_of_some HZ1.out)).trans HZ1.out)
 have GL2 := Lh (gl_below GL1.out hb)
 have B2 := Lh (B1.out.trans (hb.mono B1.out.size))
 clear hb HS1 HZ1 GL1 B1 PR
 obtain ⟨rq, hrq⟩ : ∃ q, q = rotB ⟨id, lim, ro, L⟩ := ⟨_, rfl⟩
 rw [← hrq]
 have HRQ := Lh hrq.symm
 clear hrq
 cases rq
 case false =>
  go_wp2_with ((with_reducible refine storeRS (w.heap.size + 1) _ #[.int .i64 0, .int .i64 0, .bool false, .slice none 0 0] ?_ ?_ HZ2.out rfl rfl zs_one ?_); exact rfl; exact rfl)
  refine bodyPost_ret (results_rt (S := 24) rfl _ _ (w.heap.size + 1) #[.int .i64 0, .int .i64 0, .bool false, .slice none 0 0] rfl (setRow_heap _ _ _ _ _ _ HZ2.out) Tryz.underlying24 rfl infoRS4) rfl ?_
  exact rot_full HK.out HRQ.out ⟨⟨_, rfl, _, rfl, zeroS_ok _, by unfold J64; decide, by unfold J64; decide⟩, below_setRowM B2.out (Nat.le_succ _) _⟩
 have HRO := Lh (And.intro HK.out HRQ.out)
 have RF := Lh (rot_facts HK.out HRQ.out)
 have hn0 : 0 < n := by have := HK.out.n1; have := HN.out; simp only at *; omega
 obtain ⟨b, off, rfl, s0, s1, s2, s3, s4, s5, s6, s7, GA⟩ := gl_at GL2.out (show n - 1 < n by omega)
 obtain ⟨b', off', hab, hsr⟩ := HSC.out (by have := HN.out; omega)
 obtain ⟨rfl, rfl⟩ : b = b' ∧ off = off' := by simpa using hab
 obtain ⟨m, hp⟩ : ∃ m, m = n - 1 := ⟨_, rfl⟩
 have hq : lastG ⟨id, lim, ro, L⟩ = L.getD m g0 := by unfold lastG; rw [hp, HN.out]
 rw [← hp] at GA
 have e1 : (n : Int) - 1 = (m : Int) := by omega
 have HE1 := Lh (show IntKind.i64.wrap ((n : Int) - 1) = (m : Int) by rw [e1]; exact IntWalk.i64_in _ (by have := HLN.out; omega))
 have HE2 := Lh (show wrap64 ((n : Int) - 1) = (m : Int) by unfold wrap64; have := HLN.out; omega)
 have e2 : wrap64 (m : Int) = (m : Int) := by unfold wrap64; have := HLN.out; omega
 have p0 : (0 : Int) ≤ (m : Int) := by omega
 have p1 : (m : Int) < (n : Int) := by omega
 have HMM := Lh (show m + 1 = n by omega)
 have HMC := Lh (show m ≤ c by have := HCC.out; omega)
 have HVT := Lh (show (V.take m).length = m by rw [List.length_take, HVL.out]; omega)
 have HLM := Lh (show m ≤ 10000 by have := HLN.out; omega)
 have HRT := Lh (show Rows 14 (V.take m) from fun p hp => HRW.out p (List.mem_of_mem_take hp))
 have HST := Lh (show SrcV 14 w b off (V.take m) from fun k u hk hu => by
  rw [HVT.out] at hk
  rw [hsr k u (by rw [HVL.out]; omega) hu, List.getD_eq_getElem?_getD, List.getD_eq_getElem?_getD, List.getElem?_take, if_pos hk])
 have HBW := Lh (show b < w.heap.size from by
  have q := hsr 0 0 (by have := HVL.out; omega) (by decide)
  have hl := gc_len (HGC.out 0 (by have := HN.out; omega))
  rw [List.getElem?_eq_getElem (by omega)] at q
  exact block_lt_of_cell q)
 clear hp hn0 hab hsr HSC
 have HT := Lh hq
 have hlg : LGe (L.getD m g0) := HLF.out _ (by
  rw [List.getD_eq_getElem?_getD, List.getElem?_eq_getElem (show m < L.length by have := HN.out; have := HMM.out; omega)]
  exact List.getElem_mem _)
 generalize L.getD m g0 = T at *
 rw [hq] at RF
 have PF := Lh (fun W (h : Gv W (.agg #[.int .i64 T.num, .int .i64 T.rev, .int .i64 T.mode, .int .i64 T.size, s0, s1, s2, s3, s4, s5, s6, s7, .int .i64 T.m.live, .int .i64 T.m.garb]) T) => rfreeze_any (.agg #[.int .i64 T.num, .int .i64 T.rev, .int .i64 T.mode, .int .i64 T.size, s0, s1, s2, s3, s4, s5, s6, s7, .int .i64 T.m.live, .int .i64 T.m.garb]) T W h hlg.1 (by have := hlg.2; omega))
 have MS := Lh GA.ms
 have JJ := Lh GA.j
 obtain ⟨x0, x1, x2, x3, x4, x5, x6, x7, x8, x9, x10, x11, x12, x13⟩ := GA.cells
 obtain ⟨⟨y0, y1, y2, y3⟩, -⟩ := bx4 HS2.out
 clear GA hq hlg
 go_wp2_with fail
 clear x0 x1 x2 x3 x4 x5 x6 x7 x8 x9 x10 x11 x12 x13
 clear y0 y1 y2 y3
 clear e1 e2 p0 p1
 refine (PF.out W2 ⟨s0, s1, s2, s3, s4, s5, s6, s7, rfl, MS.out, JJ.out⟩).mono ?_
 rintro e W3 ⟨⟨vf, rfl, hgv⟩, hb⟩
 rw [RF.out.1]
 rw [RF.out.2.1] at hgv
 obtain ⟨F, hF⟩ : ∃ F, F = fzG T := ⟨_, rfl⟩
 rw [← hF] at hgv
 have HFE := Lh (show F = fzG (lastG ⟨id, lim, ro, L⟩) by rw [hF, HT.out])
 have HFN := Lh (show F.num = T.num by rw [hF]; rfl)
 obtain ⟨z0, z1, z2, z3, z4, z5, z6, z7, rfl, hmz, hjz⟩ := hgv
 have HS3 := Lh ((hb.block _ (lt_of_some HS2.out)).trans HS2.out)
 have HZ3 := Lh ((hb.block _ (lt_of_some HZ2.out)).trans HZ2.out)
 have B3 := Lh (B2.out.trans (hb.mono B2.out.size))
 have ONF := Lh (gc_one hmz)
 have MSF := Lh hmz
 have JF := Lh hjz
 have hz := heap_alloc_new W3 (.cells #[.int .i64 0, .int .i64 0, .int .i64 0, .int .i64 0, .slice none 0 0, .slice none 0 0, .slice none 0 0, .slice none 0 0, .slice none 0 0, .slice none 0 0, .slice none 0 0, .slice none 0 0, .int .i64 0, .int .i64 0] 46)
 clear hb hF HS2 HZ2 B2 PF MS JJ hmz hjz GL2
 go_upto_region 7 with ((with_reducible refine storeRG W3.heap.size _ #[.int .i64 F.num, .int .i64 F.rev, .int .i64 F.mode, .int .i64 F.size, z0, z1, z2, z3, z4, z5, z6, z7, .int .i64 F.m.live, .int .i64 F.m.garb] ?_ ?_ hz rfl rfl ONF.out ?_); exact rfl; exact rfl)
 rw [World.setRow_alloc_new]
 have hb := bel_al W3 (.cells #[.int .i64 F.num, .int .i64 F.rev, .int .i64 F.mode, .int .i64 F.size, z0, z1, z2, z3, z4, z5, z6, z7, .int .i64 F.m.live, .int .i64 F.m.garb] 46)
 have HS4 := Lh ((hb.block _ (lt_of_some HS3.out)).trans HS3.out)
 have HZ4 := Lh ((hb.block _ (lt_of_some HZ3.out)).trans HZ3.out)
 have HF4 := Lh (heap_alloc_new W3 (.cells #[.int .i64 F.num, .int .i64 F.rev, .int .i64 F.mode, .int .i64 F.size, z0, z1, z2, z3, z4, z5, z6, z7, .int .i64 F.m.live, .int .i64 F.m.garb] 46))
 have B4 := Lh (B3.out.trans (hb.mono B3.out.size))
 have MSF4 := Lh (ms_below MSF.out hb)
 have HFZ := Lh (show w.heap.size + 1 < W3.heap.size from lt_of_some HZ3.out)
 clear hb hz HS3 HZ3 B3 MSF
 generalize W3.alloc (.cells #[.int .i64 F.num, .int .i64 F.rev, .int .i64 F.mode, .int .i64 F.size, z0, z1, z2, z3, z4, z5, z6, z7, .int .i64 F.m.live, .int .i64 F.m.garb] 46) = W4 at *
 generalize W3.heap.size = fz at *
 obtain ⟨x0, x1, x2, x3, x4, x5, x6, x7, x8, x9, x10, x11, x12, x13⟩ := bx14 HF4.out
 have e1 : wrap64 (F.num + 1) = T.num + 1 := by rw [HFN.out]; unfold wrap64; have := RF.out.2.2; omega
 have e2 : IntKind.i64.wrap (F.num + 1) = T.num + 1 := by rw [HFN.out]; exact IntWalk.i64_in _ (by have := RF.out.2.2; omega)
 go_wp2_with fail
 clear x0 x1 x2 x3 x4 x5 x6 x7 x8 x9 x10 x11 x12 x13
 first | rw [e1] | rw [e2] | skip
 clear e1 e2
 refine (rfresh_any (T.num + 1) W4).mono ?_
 rintro e W5 ⟨⟨vr, rfl, hgv⟩, hb⟩
 have hfr : 1 ≤ T.num + 1 ∧ T.num + 1 ≤ 8 := by have := RF.out.2.2; omega
 rw [if_pos hfr]
 rw [if_pos hfr] at hgv
 clear hfr
 obtain ⟨R, hRg⟩ : ∃ R, R = frG (T.num + 1) := ⟨_, rfl⟩
 rw [← hRg] at hgv
 have HRE := Lh (show R = frG ((lastG ⟨id, lim, ro, L⟩).num + 1) by rw [hRg, HT.out])
 obtain ⟨r0, r1, r2, r3, r4, r5, r6, r7, rfl, hmr, hjr⟩ := hgv
 have HS5 := Lh ((hb.block _ (lt_of_some HS4.out)).trans HS4.out)
 have HZ5 := Lh ((hb.block _ (lt_of_some HZ4.out)).trans HZ4.out)
 have HF5 := Lh ((hb.block _ (lt_of_some HF4.out)).trans HF4.out)
 have B5 := Lh (B4.out.trans (hb.mono B4.out.size))
 have MSF5 := Lh (ms_below MSF4.out hb)
 have ONR := Lh (gc_one hmr)
 have MSR := Lh hmr
 have JR := Lh hjr
 have hz := heap_alloc_new W5 (.cells #[.int .i64 0, .int .i64 0, .int .i64 0, .int .i64 0, .slice none 0 0, .slice none 0 0, .slice none 0 0, .slice none 0 0, .slice none 0 0, .slice none 0 0, .slice none 0 0, .slice none 0 0, .int .i64 0, .int .i64 0] 46)
 clear hb hRg HS4 HZ4 HF4 B4 MSF4 hmr hjr
 go_upto_region 8 with ((with_reducible refine storeRG W5.heap.size _ #[.int .i64 R.num, .int .i64 R.rev, .int .i64 R.mode, .int .i64 R.size, r0, r1, r2, r3, r4, r5, r6, r7, .int .i64 R.m.live, .int .i64 R.m.garb] ?_ ?_ hz rfl rfl ONR.out ?_); exact rfl; exact rfl)
 rw [World.setRow_alloc_new]
 have hb := bel_al W5 (.cells #[.int .i64 R.num, .int .i64 R.rev, .int .i64 R.mode, .int .i64 R.size, r0, r1, r2, r3, r4, r5, r6, r7, .int .i64 R.m.live, .int .i64 R.m.garb] 46)
 have hss : KeepG2 w fz (.cells #[.int .i64 F.num, .int .i64 F.rev, .int .i64 F.mode, .int .i64 F.size, z0, z1, z2, z3, z4, z5, z6, z7, .int .i64 F.m.live, .int .i64 F.m.garb] 46) W5.heap.size (.cells #[.int .i64 R.num, .int .i64 R.rev, .int .i64 R.mode, .int .i64 R.size, r0, r1, r2, r3, r4, r5, r6, r7, .int .i64 R.m.live, .int .i64 R.m.garb] 46) (W5.alloc (.cells #[.int .i64 R.num, .int .i64 R.rev, .int .i64 R.mode, .int .i64 R.size, r0, r1, r2, r3, r4, r5, r6, r7, .int .i64 R.m.live, .int .i64 R.m.garb] 46)) := ⟨B5.out.trans (hb.mono B5.out.size), (hb.block _ (lt_of_some HF5.out)).trans HF5.out, heap_alloc_new W5 (.cells #[.int .i64 R.num, .int .i64 R.rev, .int .i64 R.mode, .int .i64 R.size, r0, r1, r2, r3, r4, r5, r6, r7, .int .i64 R.m.live, .int .i64 R.m.garb] 46)⟩
 have HFG := Lh (show GC (W5.alloc (.cells #[.int .i64 R.num, .int .i64 R.rev, .int .i64 R.mode, .int .i64 R.size, r0, r1, r2, r3, r4, r5, r6, r7, .int .i64 R.m.live, .int .i64 R.m.garb] 46)) [.int .i64 F.num, .int .i64 F.rev, .int .i64 F.mode, .int .i64 F.size, z0, z1, z2, z3, z4, z5, z6, z7, .int .i64 F.m.live, .int .i64 F.m.garb] F from ⟨z0, z1, z2, z3, z4, z5, z6, z7, rfl, ms_below MSF5.out hb, JF.out⟩)
 have HRG := Lh (show GC (W5.alloc (.cells #[.int .i64 R.num, .int .i64 R.rev, .int .i64 R.mode, .int .i64 R.size, r0, r1, r2, r3, r4, r5, r6, r7, .int .i64 R.m.live, .int .i64 R.m.garb] 46)) [.int .i64 R.num, .int .i64 R.rev, .int .i64 R.mode, .int .i64 R.size, r0, r1, r2, r3, r4, r5, r6, r7, .int .i64 R.m.live, .int .i64 R.m.garb] R from ⟨r0, r1, r2, r3, r4, r5, r6, r7, rfl, ms_below MSR.out hb, JR.out⟩)
 have HFR := Lh (show w.heap.size + 1 < W5.heap.size ∧ fz < W5.heap.size from ⟨lt_of_some HZ5.out, lt_of_some HF5.out⟩)
 obtain ⟨BQ, hBQ⟩ : ∃ q, q = (W5.alloc (.cells #[.int .i64 R.num, .int .i64 R.rev, .int .i64 R.mode, .int .i64 R.size, r0, r1, r2, r3, r4, r5, r6, r7, .int .i64 R.m.live, .int .i64 R.m.garb] 46)).heap.size := ⟨_, rfl⟩
 have HBQ := Lh (show (BQ = (W5.alloc (.cells #[.int .i64 R.num, .int .i64 R.rev, .int .i64 R.mode, .int .i64 R.size, r0, r1, r2, r3, r4, r5, r6, r7, .int .i64 R.m.live, .int .i64 R.m.garb] 46)).heap.size ∧ b < BQ) ∧ w.heap.size + 1 < fz ∧ fz < BQ ∧ W5.heap.size < BQ ∧ w.heap.size + 1 < W5.heap.size by have := HFR.out; have := HFZ.out; have := HBW.out; simp at hBQ; simp; omega)
 have H := Lh (show R8 w (W5.alloc (.cells #[.int .i64 R.num, .int .i64 R.rev, .int .i64 R.mode, .int .i64 R.size, r0, r1, r2, r3, r4, r5, r6, r7, .int .i64 R.m.live, .int .i64 R.m.garb] 46)) BQ (.cells #[.int .i64 id, .int .i64 lim, .bool ro, .slice (some ⟨b, off, none⟩) n c] 24 (0, 0)) (.cells #[.int .i64 0, .int .i64 0, .bool false, .slice none 0 0] 24 (0, 0)) b off (V.take m) fz (.cells #[.int .i64 F.num, .int .i64 F.rev, .int .i64 F.mode, .int .i64 F.size, z0, z1, z2, z3, z4, z5, z6, z7, .int .i64 F.m.live, .int .i64 F.m.garb] 46 (0, 0)) W5.heap.size (.cells #[.int .i64 R.num, .int .i64 R.rev, .int .i64 R.mode, .int .i64 R.size, r0, r1, r2, r3, r4, r5, r6, r7, .int .i64 R.m.live, .int .i64 R.m.garb] 46 (0, 0)) (W5.alloc (.cells #[.int .i64 R.num, .int .i64 R.rev, .int .i64 R.mode, .int .i64 R.size, r0, r1, r2, r3, r4, r5, r6, r7, .int .i64 R.m.live, .int .i64 R.m.garb] 46)) from ⟨(hb.block _ (lt_of_some HS5.out)).trans HS5.out, (hb.block _ (lt_of_some HZ5.out)).trans HZ5.out, src_below HRT.out HST.out hss.be, by rw [hBQ]; exact Nat.le_refl _, hss, Below.refl _ _⟩)
 clear hb hz HS5 HZ5 HF5 B5 MSF5 MSR hBQ hss
 generalize W5.alloc (.cells #[.int .i64 R.num, .int .i64 R.rev, .int .i64 R.mode, .int .i64 R.size, r0, r1, r2, r3, r4, r5, r6, r7, .int .i64 R.m.live, .int .i64 R.m.garb] 46) = wx at *
 generalize W5.heap.size = fr at *
 have HL1 := Lh (show ([] : List (List Value)).length + (V.take m).length ≤ 100000000 by rw [HVT.out]; have := HLM.out; simp only [List.length_nil]; omega)
 have HL2 := Lh (show (V.take m).length + [[.int .i64 F.num, .int .i64 F.rev, .int .i64 F.mode, .int .i64 F.size, z0, z1, z2, z3, z4, z5, z6, z7, .int .i64 F.m.live, .int .i64 F.m.garb], [.int .i64 R.num, .int .i64 R.rev, .int .i64 R.mode, .int .i64 R.size, r0, r1, r2, r3, r4, r5, r6, r7, .int .i64 R.m.live, .int .i64 R.m.garb]].length ≤ 100000000 by rw [HVT.out]; have := HLM.out; simp only [List.length_cons, List.length_nil]; omega)
 have HR2 := Lh (show Rows 14 [[.int .i64 F.num, .int .i64 F.rev, .int .i64 F.mode, .int .i64 F.size, z0, z1, z2, z3, z4, z5, z6, z7, .int .i64 F.m.live, .int .i64 F.m.garb], [.int .i64 R.num, .int .i64 R.rev, .int .i64 R.mode, .int .i64 R.size, r0, r1, r2, r3, r4, r5, r6, r7, .int .i64 R.m.live, .int .i64 R.m.garb]] from fun p hp => by
  rcases List.mem_cons.1 hp with rfl | hp
  ·exact gc_row HFG.out
  ·obtain rfl := List.mem_singleton.1 hp
   exact gc_row HRG.out)
 go_cut [] from 37 to 48 (fun wz => ∃ (a9 : Option Addr) (n9 c9 : Nat), Hid (wz.heap[w.heap.size]? = some (.cells #[.int .i64 id, .int .i64 lim, .bool ro, .slice a9 n9 c9] 24 (0, 0)) ∧ wz.heap[w.heap.size + 1]? = some (.cells #[.int .i64 0, .int .i64 0, .bool false, .slice none 0 0] 24 (0, 0)) ∧ OwV 46 14 wz BQ (.slice a9 n9 c9) (V.take m ++ [[.int .i64 F.num, .int .i64 F.rev, .int .i64 F.mode, .int .i64 F.size, z0, z1, z2, z3, z4, z5, z6, z7, .int .i64 F.m.live, .int .i64 F.m.garb], [.int .i64 R.num, .int .i64 R.rev, .int .i64 R.mode, .int .i64 R.size, r0, r1, r2, r3, r4, r5, r6, r7, .int .i64 R.m.live, .int .i64 R.m.garb]]) ∧ GC wz [.int .i64 F.num, .int .i64 F.rev, .int .i64 F.mode, .int .i64 F.size, z0, z1, z2, z3, z4, z5, z6, z7, .int .i64 F.m.live, .int .i64 F.m.garb] F ∧ GC wz [.int .i64 R.num, .int .i64 R.rev, .int .i64 R.mode, .int .i64 R.size, r0, r1, r2, r3, r4, r5, r6, r7, .int .i64 R.m.live, .int .i64 R.m.garb] R ∧ Below w.heap.size w wz))
 case first =>
  refine wp_onlyN ?_
  refine wp_region_headsS (KeepG2 w fz (.cells #[.int .i64 F.num, .int .i64 F.rev, .int .i64 F.mode, .int .i64 F.size, z0, z1, z2, z3, z4, z5, z6, z7, .int .i64 F.m.live, .int .i64 F.m.garb] 46 (0, 0)) fr (.cells #[.int .i64 R.num, .int .i64 R.rev, .int .i64 R.mode, .int .i64 R.size, r0, r1, r2, r3, r4, r5, r6, r7, .int .i64 R.m.live, .int .i64 R.m.garb] 46 (0, 0))) [1, 3, 4, 7, 8] 8 (by kernel_rfl) (fun _ _ _ _ _ h => h.elim) (by kernel_rfl) (by rfl) (by rfl) ⟨H.out.k.be.drew, H.out.k.a1, H.out.k.a2⟩ ?_
  simp only [pickOps, List.filterMap_cons, List.filterMap_nil, List.getElem?_toArray, List.getElem?_cons_zero, List.getElem?_cons_succ]
  refine wpHeads_step (fun K hK => ?_)
  go_simp
  refine ⟨_, fun _ _ => rfl, hK _ ?_⟩
  clear hK K
  refine wpHeads_step (fun K hK => ?_)
  go_simp
  refine ⟨_, fun _ _ => rfl, hK _ ?_⟩
  clear hK K
  refine wpHeads_step (fun K hK => ?_)
  go_simp
  refine ⟨.int .i64 (m : Int), fun w' hw' => by
   have e1 : IntKind.i64.wrap ((n : Int) - 1) = (m : Int) := HE1.out
   have e2 : wrap64 ((n : Int) - 1) = (m : Int) := HE2.out
   go_simp, hK _ ?_⟩
  clear hK K
  refine wpHeads_step (fun K hK => ?_)
  go_simp
  refine ⟨.agg #[.int .i64 F.num, .int .i64 F.rev, .int .i64 F.mode, .int .i64 F.size, z0, z1, z2, z3, z4, z5, z6, z7, .int .i64 F.m.live, .int .i64 F.m.garb], fun w' hw' => by
   obtain ⟨x0, x1, x2, x3, x4, x5, x6, x7, x8, x9, x10, x11, x12, x13⟩ := bx14 hw'.a1
   go_simp, hK _ ?_⟩
  clear hK K
  refine wpHeads_step (fun K hK => ?_)
  go_simp
  refine ⟨.agg #[.int .i64 R.num, .int .i64 R.rev, .int .i64 R.mode, .int .i64 R.size, r0, r1, r2, r3, r4, r5, r6, r7, .int .i64 R.m.live, .int .i64 R.m.garb], fun w' hw' => by
   obtain ⟨x0, x1, x2, x3, x4, x5, x6, x7, x8, x9, x10, x11, x12, x13⟩ := bx14 hw'.a2
   go_simp, hK _ ?_⟩
  clear hK K
  refine wpHeads_nil ?_
  have H0 := Lh (H.out.below HRT.out (Below.refl wx.heap.size wx).drew)
  clear H
  generalize wx.drew = X0 at *
  refine held_three 0 2 9 rfl rfl rfl rfl rfl rfl (by kernel_rfl) (fun K hK => ?_) (fun K hK => ?_) (fun K hK => ?_)
  ·go_simp
   have hb := bel_al X0 (.cells #[] 46)
   have hbk := heap_alloc_new X0 (.cells #[] 46)
   have ho := ov_empty (T := 46) 14 X0 (base := BQ) rfl H0.out.sz
   obtain ⟨X1, hX⟩ : ∃ Y, Y = X0.alloc (.cells #[] 46) := ⟨_, rfl⟩
   rw [← hX] at hb hbk ho ⊢
   clear hX
   have H1 := Lh (H0.out.below HRT.out hb)
   have OV1 := Lh ho
   refine hK _ _ H1.out.k ?_
   clear hK K hb ho hbk
   generalize X0.heap.size = ge at *
   refine held_two 2 9 rfl rfl rfl rfl (by kernel_rfl) (fun K hK => ?_) (fun K hK => ?_)
   ·obtain ⟨⟨y0, y1, y2, y3⟩, -⟩ := bx4 H1.out.s
    go_simp
    refine hK _ _ H1.out.k ?_
    clear hK K y0 y1 y2 y3
    refine held_two 5 9 rfl rfl rfl rfl (by kernel_rfl) (fun K hK => ?_) (fun K hK => ?_)
    ·have p0 : (0 : Int) ≤ (m : Int) := by omega
     have p1 : (m : Int) ≤ (c : Int) := by have := HMC.out; omega
     have p2 := HMC.out
     go_simp
     refine hK _ _ H1.out.k ?_
     clear hK K p0 p1 p2
     refine held_two 6 9 rfl rfl rfl rfl (by kernel_rfl) (fun K hK => ?_) (fun K hK => ?_)
     ·refine wp_app_v lsRG (by rfl) (by rfl) HVT.out.symm OV1.out (M := V.take m) HRT.out H1.out.sr HL1.out H1.out.sz ?_
      intro v9 X2 ho hg hat
      have H2 := Lh (H1.out.grown HRT.out hg (fun j hj => (ov_lt OV1.out j hj).1) HBQ.out)
      rw [List.nil_append] at ho
      obtain ⟨a8, c8, hv9, -, -⟩ := ov_form ho
      rw [HVT.out] at hv9
      subst hv9
      have OV2 := Lh ho
      refine hK _ _ H2.out.k ?_
      clear hK K ho hg hat
      refine gwr 9 fun K hK => ?_
      go_simp
      have hb := bel_al X2 (.cells #[.int .i64 F.num, .int .i64 F.rev, .int .i64 F.mode, .int .i64 F.size, z0, z1, z2, z3, z4, z5, z6, z7, .int .i64 F.m.live, .int .i64 F.m.garb, .int .i64 R.num, .int .i64 R.rev, .int .i64 R.mode, .int .i64 R.size, r0, r1, r2, r3, r4, r5, r6, r7, .int .i64 R.m.live, .int .i64 R.m.garb] 46)
      have hbk := heap_alloc_new X2 (.cells #[.int .i64 F.num, .int .i64 F.rev, .int .i64 F.mode, .int .i64 F.size, z0, z1, z2, z3, z4, z5, z6, z7, .int .i64 F.m.live, .int .i64 F.m.garb, .int .i64 R.num, .int .i64 R.rev, .int .i64 R.mode, .int .i64 R.size, r0, r1, r2, r3, r4, r5, r6, r7, .int .i64 R.m.live, .int .i64 R.m.garb] 46)
      obtain ⟨X3, hX⟩ : ∃ Y, Y = X2.alloc (.cells #[.int .i64 F.num, .int .i64 F.rev, .int .i64 F.mode, .int .i64 F.size, z0, z1, z2, z3, z4, z5, z6, z7, .int .i64 F.m.live, .int .i64 F.m.garb, .int .i64 R.num, .int .i64 R.rev, .int .i64 R.mode, .int .i64 R.size, r0, r1, r2, r3, r4, r5, r6, r7, .int .i64 R.m.live, .int .i64 R.m.garb] 46) := ⟨_, rfl⟩
      rw [← hX] at hb hbk ⊢
      clear hX
      have H3 := Lh (H2.out.below HRT.out hb)
      have OV3 := Lh (ov_below OV2.out hb)
      have HM3 := Lh (src_two hbk)
      refine hK _ _ H3.out.k ?_
      clear hK K hb hbk
      generalize X2.heap.size = g2 at *
      refine gwr 10 fun K hK => ?_
      refine wp_app_v lsRG (by rfl) (by rfl) rfl OV3.out (M := [[.int .i64 F.num, .int .i64 F.rev, .int .i64 F.mode, .int .i64 F.size, z0, z1, z2, z3, z4, z5, z6, z7, .int .i64 F.m.live, .int .i64 F.m.garb], [.int .i64 R.num, .int .i64 R.rev, .int .i64 R.mode, .int .i64 R.size, r0, r1, r2, r3, r4, r5, r6, r7, .int .i64 R.m.live, .int .i64 R.m.garb]]) HR2.out HM3.out HL2.out H3.out.sz ?_
      intro v9 X4 ho hg hat
      have H4 := Lh (H3.out.grown HRT.out hg (fun j hj => (ov_lt OV3.out j hj).1) HBQ.out)
      obtain ⟨a9, c9, hv9, -, -⟩ := ov_form ho
      obtain ⟨n9, hn9⟩ : ∃ n9, n9 = (V.take m ++ [[.int .i64 F.num, .int .i64 F.rev, .int .i64 F.mode, .int .i64 F.size, z0, z1, z2, z3, z4, z5, z6, z7, .int .i64 F.m.live, .int .i64 F.m.garb], [.int .i64 R.num, .int .i64 R.rev, .int .i64 R.mode, .int .i64 R.size, r0, r1, r2, r3, r4, r5, r6, r7, .int .i64 R.m.live, .int .i64 R.m.garb]]).length := ⟨_, rfl⟩
      rw [← hn9] at hv9
      subst hv9
      clear hn9
      have OV4 := Lh ho
      refine hK _ _ H4.out.k ?_
      clear hK K ho hg hat
      refine gwr 11 fun K hK => ?_
      go_simp
      refine hK _ _ H4.out.k ?_
      clear hK K
      refine gwr 12 fun K hK => ?_
      obtain ⟨⟨y0, y1, y2, y3⟩, f0, f1, f2, f3⟩ := bx4 H4.out.s
      go_simp
      clear y0 y1 y2 y3 f0 f1 f2 f3
      rw [setCell_eq_setRow _ _ _ _ _ _ _ H4.out.s]
      have hs : (#[.int .i64 id, .int .i64 lim, .bool ro, .slice (some ⟨b, off, none⟩) n c] : Array Value).setIfInBounds 3 (.slice a9 n9 c9) = #[.int .i64 id, .int .i64 lim, .bool ro, .slice a9 n9 c9] := rfl
      rw [hs]
      have HD := Lh (r8_end H4.out HBQ.out OV4.out HFG.out HRG.out slb_u64 #[.int .i64 id, .int .i64 lim, .bool ro, .slice a9 n9 c9])
      refine hK _ _ HD.out.1 ?_
      clear hK K hs
      refine wpAnyH_done (by kernel_rfl) ?_ _
      unfold onlyN
      dsimp only
      go_wp2_with fail
      go_meet
      exact ⟨a9, n9, c9, HD.out.2⟩
     ·go_simp
      have hb := bel_al X1 (.cells #[.int .i64 F.num, .int .i64 F.rev, .int .i64 F.mode, .int .i64 F.size, z0, z1, z2, z3, z4, z5, z6, z7, .int .i64 F.m.live, .int .i64 F.m.garb, .int .i64 R.num, .int .i64 R.rev, .int .i64 R.mode, .int .i64 R.size, r0, r1, r2, r3, r4, r5, r6, r7, .int .i64 R.m.live, .int .i64 R.m.garb] 46)
      have hbk := heap_alloc_new X1 (.cells #[.int .i64 F.num, .int .i64 F.rev, .int .i64 F.mode, .int .i64 F.size, z0, z1, z2, z3, z4, z5, z6, z7, .int .i64 F.m.live, .int .i64 F.m.garb, .int .i64 R.num, .int .i64 R.rev, .int .i64 R.mode, .int .i64 R.size, r0, r1, r2, r3, r4, r5, r6, r7, .int .i64 R.m.live, .int .i64 R.m.garb] 46)
      obtain ⟨X2, hX⟩ : ∃ Y, Y = X1.alloc (.cells #[.int .i64 F.num, .int .i64 F.rev, .int .i64 F.mode, .int .i64 F.size, z0, z1, z2, z3, z4, z5, z6, z7, .int .i64 F.m.live, .int .i64 F.m.garb, .int .i64 R.num, .int .i64 R.rev, .int .i64 R.mode, .int .i64 R.size, r0, r1, r2, r3, r4, r5, r6, r7, .int .i64 R.m.live, .int .i64 R.m.garb] 46) := ⟨_, rfl⟩
      rw [← hX] at hb hbk ⊢
      clear hX
      have H2 := Lh (H1.out.below HRT.out hb)
      have OV2 := Lh (ov_below OV1.out hb)
      have HM2 := Lh (src_two hbk)
      have HNE := Lh (show ge ≠ X1.heap.size from by have := (ov_lt OV1.out ge rfl).2; omega)
      refine hK _ _ H2.out.k ?_
      clear hK K hb hbk
      generalize X1.heap.size = g2 at *
      refine gwr 6 fun K hK => ?_
      refine wp_app_v lsRG (by rfl) (by rfl) HVT.out.symm OV2.out (M := V.take m) HRT.out H2.out.sr HL1.out H2.out.sz ?_
      intro v9 X3 ho hg hat
      have H3 := Lh (H2.out.grown HRT.out hg (fun j hj => (ov_lt OV2.out j hj).1) HBQ.out)
      rw [List.nil_append] at ho
      obtain ⟨a8, c8, hv9, -, -⟩ := ov_form ho
      rw [HVT.out] at hv9
      subst hv9
      have HM3 := Lh (src_grown HM2.out HR2.out hg (fun e => HNE.out (Option.some.inj e).symm))
      have OV3 := Lh ho
      refine hK _ _ H3.out.k ?_
      clear hK K ho hg hat
      refine gwr 10 fun K hK => ?_
      refine wp_app_v lsRG (by rfl) (by rfl) rfl OV3.out (M := [[.int .i64 F.num, .int .i64 F.rev, .int .i64 F.mode, .int .i64 F.size, z0, z1, z2, z3, z4, z5, z6, z7, .int .i64 F.m.live, .int .i64 F.m.garb], [.int .i64 R.num, .int .i64 R.rev, .int .i64 R.mode, .int .i64 R.size, r0, r1, r2, r3, r4, r5, r6, r7, .int .i64 R.m.live, .int .i64 R.m.garb]]) HR2.out HM3.out HL2.out H3.out.sz ?_
      intro v9 X4 ho hg hat
      have H4 := Lh (H3.out.grown HRT.out hg (fun j hj => (ov_lt OV3.out j hj).1) HBQ.out)
      obtain ⟨a9, c9, hv9, -, -⟩ := ov_form ho
      obtain ⟨n9, hn9⟩ : ∃ n9, n9 = (V.take m ++ [[.int .i64 F.num, .int .i64 F.rev, .int .i64 F.mode, .int .i64 F.size, z0, z1, z2, z3, z4, z5, z6, z7, .int .i64 F.m.live, .int .i64 F.m.garb], [.int .i64 R.num, .int .i64 R.rev, .int .i64 R.mode, .int .i64 R.size, r0, r1, r2, r3, r4, r5, r6, r7, .int .i64 R.m.live, .int .i64 R.m.garb]]).length := ⟨_, rfl⟩
      rw [← hn9] at hv9
      subst hv9
      clear hn9
      have OV4 := Lh ho
      refine hK _ _ H4.out.k ?_
      clear hK K ho hg hat
      refine gwr 11 fun K hK => ?_
      go_simp
      refine hK _ _ H4.out.k ?_
      clear hK K
      refine gwr 12 fun K hK => ?_
      obtain ⟨⟨y0, y1, y2, y3⟩, f0, f1, f2, f3⟩ := bx4 H4.out.s
      go_simp
      clear y0 y1 y2 y3 f0 f1 f2 f3
      rw [setCell_eq_setRow _ _ _ _ _ _ _ H4.out.s]
      have hs : (#[.int .i64 id, .int .i64 lim, .bool ro, .slice (some ⟨b, off, none⟩) n c] : Array Value).setIfInBounds 3 (.slice a9 n9 c9) = #[.int .i64 id, .int .i64 lim, .bool ro, .slice a9 n9 c9] := rfl
      rw [hs]
      have HD := Lh (r8_end H4.out HBQ.out OV4.out HFG.out HRG.out slb_u64 #[.int .i64 id, .int .i64 lim, .bool ro, .slice a9 n9 c9])
      refine hK _ _ HD.out.1 ?_
      clear hK K hs
      refine wpAnyH_done (by kernel_rfl) ?_ _
      unfold onlyN
      dsimp only
      go_wp2_with fail
      go_meet
      exact ⟨a9, n9, c9, HD.out.2⟩
    ·go_simp
     have hb := bel_al X1 (.cells #[.int .i64 F.num, .int .i64 F.rev, .int .i64 F.mode, .int .i64 F.size, z0, z1, z2, z3, z4, z5, z6, z7, .int .i64 F.m.live, .int .i64 F.m.garb, .int .i64 R.num, .int .i64 R.rev, .int .i64 R.mode, .int .i64 R.size, r0, r1, r2, r3, r4, r5, r6, r7, .int .i64 R.m.live, .int .i64 R.m.garb] 46)
     have hbk := heap_alloc_new X1 (.cells #[.int .i64 F.num, .int .i64 F.rev, .int .i64 F.mode, .int .i64 F.size, z0, z1, z2, z3, z4, z5, z6, z7, .int .i64 F.m.live, .int .i64 F.m.garb, .int .i64 R.num, .int .i64 R.rev, .int .i64 R.mode, .int .i64 R.size, r0, r1, r2, r3, r4, r5, r6, r7, .int .i64 R.m.live, .int .i64 R.m.garb] 46)
     obtain ⟨X2, hX⟩ : ∃ Y, Y = X1.alloc (.cells #[.int .i64 F.num, .int .i64 F.rev, .int .i64 F.mode, .int .i64 F.size, z0, z1, z2, z3, z4, z5, z6, z7, .int .i64 F.m.live, .int .i64 F.m.garb, .int .i64 R.num, .int .i64 R.rev, .int .i64 R.mode, .int .i64 R.size, r0, r1, r2, r3, r4, r5, r6, r7, .int .i64 R.m.live, .int .i64 R.m.garb] 46) := ⟨_, rfl⟩
     rw [← hX] at hb hbk ⊢
     clear hX
     have H2 := Lh (H1.out.below HRT.out hb)
     have OV2 := Lh (ov_below OV1.out hb)
     have HM2 := Lh (src_two hbk)
     have HNE := Lh (show ge ≠ X1.heap.size from by have := (ov_lt OV1.out ge rfl).2; omega)
     refine hK _ _ H2.out.k ?_
     clear hK K hb hbk
     generalize X1.heap.size = g2 at *
     refine gwr 5 fun K hK => ?_
     have p0 : (0 : Int) ≤ (m : Int) := by omega
     have p1 : (m : Int) ≤ (c : Int) := by have := HMC.out; omega
     have p2 := HMC.out
     go_simp
     refine hK _ _ H2.out.k ?_
     clear hK K p0 p1 p2
     refine gwr 6 fun K hK => ?_
     refine wp_app_v lsRG (by rfl) (by rfl) HVT.out.symm OV2.out (M := V.take m) HRT.out H2.out.sr HL1.out H2.out.sz ?_
     intro v9 X3 ho hg hat
     have H3 := Lh (H2.out.grown HRT.out hg (fun j hj => (ov_lt OV2.out j hj).1) HBQ.out)
     rw [List.nil_append] at ho
     obtain ⟨a8, c8, hv9, -, -⟩ := ov_form ho
     rw [HVT.out] at hv9
     subst hv9
     have HM3 := Lh (src_grown HM2.out HR2.out hg (fun e => HNE.out (Option.some.inj e).symm))
     have OV3 := Lh ho
     refine hK _ _ H3.out.k ?_
     clear hK K ho hg hat
     refine gwr 10 fun K hK => ?_
     refine wp_app_v lsRG (by rfl) (by rfl) rfl OV3.out (M := [[.int .i64 F.num, .int .i64 F.rev, .int .i64 F.mode, .int .i64 F.size, z0, z1, z2, z3, z4, z5, z6, z7, .int .i64 F.m.live, .int .i64 F.m.garb], [.int .i64 R.num, .int .i64 R.rev, .int .i64 R.mode, .int .i64 R.size, r0, r1, r2, r3, r4, r5, r6, r7, .int .i64 R.m.live, .int .i64 R.m.garb]]) HR2.out HM3.out HL2.out H3.out.sz ?_
     intro v9 X4 ho hg hat
     have H4 := Lh (H3.out.grown HRT.out hg (fun j hj => (ov_lt OV3.out j hj).1) HBQ.out)
     obtain ⟨a9, c9, hv9, -, -⟩ := ov_form ho
     obtain ⟨n9, hn9⟩ : ∃ n9, n9 = (V.take m ++ [[.int .i64 F.num, .int .i64 F.rev, .int .i64 F.mode, .int .i64 F.size, z0, z1, z2, z3, z4, z5, z6, z7, .int .i64 F.m.live, .int .i64 F.m.garb], [.int .i64 R.num, .int .i64 R.rev, .int .i64 R.mode, .int .i64 R.size, r0, r1, r2, r3, r4, r5, r6, r7, .int .i64 R.m.live, .int .i64 R.m.garb]]).length := ⟨_, rfl⟩
     rw [← hn9] at hv9
     subst hv9
     clear hn9
     have OV4 := Lh ho
     refine hK _ _ H4.out.k ?_
     clear hK K ho hg hat
     refine gwr 11 fun K hK => ?_
     go_simp
     refine hK _ _ H4.out.k ?_
     clear hK K
     refine gwr 12 fun K hK => ?_
     obtain ⟨⟨y0, y1, y2, y3⟩, f0, f1, f2, f3⟩ := bx4 H4.out.s
     go_simp
     clear y0 y1 y2 y3 f0 f1 f2 f3
     rw [setCell_eq_setRow _ _ _ _ _ _ _ H4.out.s]
     have hs : (#[.int .i64 id, .int .i64 lim, .bool ro, .slice (some ⟨b, off, none⟩) n c] : Array Value).setIfInBounds 3 (.slice a9 n9 c9) = #[.int .i64 id, .int .i64 lim, .bool ro, .slice a9 n9 c9] := rfl
     rw [hs]
     have HD := Lh (r8_end H4.out HBQ.out OV4.out HFG.out HRG.out slb_u64 #[.int .i64 id, .int .i64 lim, .bool ro, .slice a9 n9 c9])
     refine hK _ _ HD.out.1 ?_
     clear hK K hs
     refine wpAnyH_done (by kernel_rfl) ?_ _
     unfold onlyN
     dsimp only
     go_wp2_with fail
     go_meet
     exact ⟨a9, n9, c9, HD.out.2⟩
   ·go_simp
    have hb := bel_al X1 (.cells #[.int .i64 F.num, .int .i64 F.rev, .int .i64 F.mode, .int .i64 F.size, z0, z1, z2, z3, z4, z5, z6, z7, .int .i64 F.m.live, .int .i64 F.m.garb, .int .i64 R.num, .int .i64 R.rev, .int .i64 R.mode, .int .i64 R.size, r0, r1, r2, r3, r4, r5, r6, r7, .int .i64 R.m.live, .int .i64 R.m.garb] 46)
    have hbk := heap_alloc_new X1 (.cells #[.int .i64 F.num, .int .i64 F.rev, .int .i64 F.mode, .int .i64 F.size, z0, z1, z2, z3, z4, z5, z6, z7, .int .i64 F.m.live, .int .i64 F.m.garb, .int .i64 R.num, .int .i64 R.rev, .int .i64 R.mode, .int .i64 R.size, r0, r1, r2, r3, r4, r5, r6, r7, .int .i64 R.m.live, .int .i64 R.m.garb] 46)
    obtain ⟨X2, hX⟩ : ∃ Y, Y = X1.alloc (.cells #[.int .i64 F.num, .int .i64 F.rev, .int .i64 F.mode, .int .i64 F.size, z0, z1, z2, z3, z4, z5, z6, z7, .int .i64 F.m.live, .int .i64 F.m.garb, .int .i64 R.num, .int .i64 R.rev, .int .i64 R.mode, .int .i64 R.size, r0, r1, r2, r3, r4, r5, r6, r7, .int .i64 R.m.live, .int .i64 R.m.garb] 46) := ⟨_, rfl⟩
    rw [← hX] at hb hbk ⊢
    clear hX
    have H2 := Lh (H1.out.below HRT.out hb)
    have OV2 := Lh (ov_below OV1.out hb)
    have HM2 := Lh (src_two hbk)
    have HNE := Lh (show ge ≠ X1.heap.size from by have := (ov_lt OV1.out ge rfl).2; omega)
    refine hK _ _ H2.out.k ?_
    clear hK K hb hbk
    generalize X1.heap.size = g2 at *
    refine gwr 2 fun K hK => ?_
    obtain ⟨⟨y0, y1, y2, y3⟩, -⟩ := bx4 H2.out.s
    go_simp
    refine hK _ _ H2.out.k ?_
    clear hK K y0 y1 y2 y3
    refine gwr 5 fun K hK => ?_
    have p0 : (0 : Int) ≤ (m : Int) := by omega
    have p1 : (m : Int) ≤ (c : Int) := by have := HMC.out; omega
    have p2 := HMC.out
    go_simp
    refine hK _ _ H2.out.k ?_
    clear hK K p0 p1 p2
    refine gwr 6 fun K hK => ?_
    refine wp_app_v lsRG (by rfl) (by rfl) HVT.out.symm OV2.out (M := V.take m) HRT.out H2.out.sr HL1.out H2.out.sz ?_
    intro v9 X3 ho hg hat
    have H3 := Lh (H2.out.grown HRT.out hg (fun j hj => (ov_lt OV2.out j hj).1) HBQ.out)
    rw [List.nil_append] at ho
    obtain ⟨a8, c8, hv9, -, -⟩ := ov_form ho
    rw [HVT.out] at hv9
    subst hv9
    have HM3 := Lh (src_grown HM2.out HR2.out hg (fun e => HNE.out (Option.some.inj e).symm))
    have OV3 := Lh ho
    refine hK _ _ H3.out.k ?_
    clear hK K ho hg hat
    refine gwr 10 fun K hK => ?_
    refine wp_app_v lsRG (by rfl) (by rfl) rfl OV3.out (M := [[.int .i64 F.num, .int .i64 F.rev, .int .i64 F.mode, .int .i64 F.size, z0, z1, z2, z3, z4, z5, z6, z7, .int .i64 F.m.live, .int .i64 F.m.garb], [.int .i64 R.num, .int .i64 R.rev, .int .i64 R.mode, .int .i64 R.size, r0, r1, r2, r3, r4, r5, r6, r7, .int .i64 R.m.live, .int .i64 R.m.garb]]) HR2.out HM3.out HL2.out H3.out.sz ?_
    intro v9 X4 ho hg hat
    have H4 := Lh (H3.out.grown HRT.out hg (fun j hj => (ov_lt OV3.out j hj).1) HBQ.out)
    obtain ⟨a9, c9, hv9, -, -⟩ := ov_form ho
    obtain ⟨n9, hn9⟩ : ∃ n9, n9 = (V.take m ++ [[.int .i64 F.num, .int .i64 F.rev, .int .i64 F.mode, .int .i64 F.size, z0, z1, z2, z3, z4, z5, z6, z7, .int .i64 F.m.live, .int .i64 F.m.garb], [.int .i64 R.num, .int .i64 R.rev, .int .i64 R.mode, .int .i64 R.size, r0, r1, r2, r3, r4, r5, r6, r7, .int .i64 R.m.live, .int .i64 R.m.garb]]).length := ⟨_, rfl⟩
    rw [← hn9] at hv9
    subst hv9
    clear hn9
    have OV4 := Lh ho
    refine hK _ _ H4.out.k ?_
    clear hK K ho hg hat
    refine gwr 11 fun K hK => ?_
    go_simp
    refine hK _ _ H4.out.k ?_
    clear hK K
    refine gwr 12 fun K hK => ?_
    obtain ⟨⟨y0, y1, y2, y3⟩, f0, f1, f2, f3⟩ := bx4 H4.out.s
    go_simp
    clear y0 y1 y2 y3 f0 f1 f2 f3
    rw [setCell_eq_setRow _ _ _ _ _ _ _ H4.out.s]
    have hs : (#[.int .i64 id, .int .i64 lim, .bool ro, .slice (some ⟨b, off, none⟩) n c] : Array Value).setIfInBounds 3 (.slice a9 n9 c9) = #[.int .i64 id, .int .i64 lim, .bool ro, .slice a9 n9 c9] := rfl
    rw [hs]
    have HD := Lh (r8_end H4.out HBQ.out OV4.out HFG.out HRG.out slb_u64 #[.int .i64 id, .int .i64 lim, .bool ro, .slice a9 n9 c9])
    refine hK _ _ HD.out.1 ?_
    clear hK K hs
    refine wpAnyH_done (by kernel_rfl) ?_ _
    unfold onlyN
    dsimp only
    go_wp2_with fail
    go_meet
    exact ⟨a9, n9, c9, HD.out.2⟩
  ·obtain ⟨⟨y0, y1, y2, y3⟩, -⟩ := bx4 H0.out.s
   go_simp
   refine hK _ _ H0.out.k ?_
   clear hK K y0 y1 y2 y3
   refine held_three 0 5 9 rfl rfl rfl rfl rfl rfl (by kernel_rfl) (fun K hK => ?_) (fun K hK => ?_) (fun K hK => ?_)
   ·go_simp
    have hb := bel_al X0 (.cells #[] 46)
    have hbk := heap_alloc_new X0 (.cells #[] 46)
    have ho := ov_empty (T := 46) 14 X0 (base := BQ) rfl H0.out.sz
    obtain ⟨X1, hX⟩ : ∃ Y, Y = X0.alloc (.cells #[] 46) := ⟨_, rfl⟩
    rw [← hX] at hb hbk ho ⊢
    clear hX
    have H1 := Lh (H0.out.below HRT.out hb)
    have OV1 := Lh ho
    refine hK _ _ H1.out.k ?_
    clear hK K hb ho hbk
    generalize X0.heap.size = ge at *
    refine held_two 5 9 rfl rfl rfl rfl (by kernel_rfl) (fun K hK => ?_) (fun K hK => ?_)
    ·have p0 : (0 : Int) ≤ (m : Int) := by omega
     have p1 : (m : Int) ≤ (c : Int) := by have := HMC.out; omega
     have p2 := HMC.out
     go_simp
     refine hK _ _ H1.out.k ?_
     clear hK K p0 p1 p2
     refine held_two 6 9 rfl rfl rfl rfl (by kernel_rfl) (fun K hK => ?_) (fun K hK => ?_)
     ·refine wp_app_v lsRG (by rfl) (by rfl) HVT.out.symm OV1.out (M := V.take m) HRT.out H1.out.sr HL1.out H1.out.sz ?_
      intro v9 X2 ho hg hat
      have H2 := Lh (H1.out.grown HRT.out hg (fun j hj => (ov_lt OV1.out j hj).1) HBQ.out)
      rw [List.nil_append] at ho
      obtain ⟨a8, c8, hv9, -, -⟩ := ov_form ho
      rw [HVT.out] at hv9
      subst hv9
      have OV2 := Lh ho
      refine hK _ _ H2.out.k ?_
      clear hK K ho hg hat
      refine gwr 9 fun K hK => ?_
      go_simp
      have hb := bel_al X2 (.cells #[.int .i64 F.num, .int .i64 F.rev, .int .i64 F.mode, .int .i64 F.size, z0, z1, z2, z3, z4, z5, z6, z7, .int .i64 F.m.live, .int .i64 F.m.garb, .int .i64 R.num, .int .i64 R.rev, .int .i64 R.mode, .int .i64 R.size, r0, r1, r2, r3, r4, r5, r6, r7, .int .i64 R.m.live, .int .i64 R.m.garb] 46)
      have hbk := heap_alloc_new X2 (.cells #[.int .i64 F.num, .int .i64 F.rev, .int .i64 F.mode, .int .i64 F.size, z0, z1, z2, z3, z4, z5, z6, z7, .int .i64 F.m.live, .int .i64 F.m.garb, .int .i64 R.num, .int .i64 R.rev, .int .i64 R.mode, .int .i64 R.size, r0, r1, r2, r3, r4, r5, r6, r7, .int .i64 R.m.live, .int .i64 R.m.garb] 46)
      obtain ⟨X3, hX⟩ : ∃ Y, Y = X2.alloc (.cells #[.int .i64 F.num, .int .i64 F.rev, .int .i64 F.mode, .int .i64 F.size, z0, z1, z2, z3, z4, z5, z6, z7, .int .i64 F.m.live, .int .i64 F.m.garb, .int .i64 R.num, .int .i64 R.rev, .int .i64 R.mode, .int .i64 R.size, r0, r1, r2, r3, r4, r5, r6, r7, .int .i64 R.m.live, .int .i64 R.m.garb] 46) := ⟨_, rfl⟩
      rw [← hX] at hb hbk ⊢
      clear hX
      have H3 := Lh (H2.out.below HRT.out hb)
      have OV3 := Lh (ov_below OV2.out hb)
      have HM3 := Lh (src_two hbk)
      refine hK _ _ H3.out.k ?_
      clear hK K hb hbk
      generalize X2.heap.size = g2 at *
      refine gwr 10 fun K hK => ?_
      refine wp_app_v lsRG (by rfl) (by rfl) rfl OV3.out (M := [[.int .i64 F.num, .int .i64 F.rev, .int .i64 F.mode, .int .i64 F.size, z0, z1, z2, z3, z4, z5, z6, z7, .int .i64 F.m.live, .int .i64 F.m.garb], [.int .i64 R.num, .int .i64 R.rev, .int .i64 R.mode, .int .i64 R.size, r0, r1, r2, r3, r4, r5, r6, r7, .int .i64 R.m.live, .int .i64 R.m.garb]]) HR2.out HM3.out HL2.out H3.out.sz ?_
      intro v9 X4 ho hg hat
      have H4 := Lh (H3.out.grown HRT.out hg (fun j hj => (ov_lt OV3.out j hj).1) HBQ.out)
      obtain ⟨a9, c9, hv9, -, -⟩ := ov_form ho
      obtain ⟨n9, hn9⟩ : ∃ n9, n9 = (V.take m ++ [[.int .i64 F.num, .int .i64 F.rev, .int .i64 F.mode, .int .i64 F.size, z0, z1, z2, z3, z4, z5, z6, z7, .int .i64 F.m.live, .int .i64 F.m.garb], [.int .i64 R.num, .int .i64 R.rev, .int .i64 R.mode, .int .i64 R.size, r0, r1, r2, r3, r4, r5, r6, r7, .int .i64 R.m.live, .int .i64 R.m.garb]]).length := ⟨_, rfl⟩
      rw [← hn9] at hv9
      subst hv9
      clear hn9
      have OV4 := Lh ho
      refine hK _ _ H4.out.k ?_
      clear hK K ho hg hat
      refine gwr 11 fun K hK => ?_
      go_simp
      refine hK _ _ H4.out.k ?_
      clear hK K
      refine gwr 12 fun K hK => ?_
      obtain ⟨⟨y0, y1, y2, y3⟩, f0, f1, f2, f3⟩ := bx4 H4.out.s
      go_simp
      clear y0 y1 y2 y3 f0 f1 f2 f3
      rw [setCell_eq_setRow _ _ _ _ _ _ _ H4.out.s]
      have hs : (#[.int .i64 id, .int .i64 lim, .bool ro, .slice (some ⟨b, off, none⟩) n c] : Array Value).setIfInBounds 3 (.slice a9 n9 c9) = #[.int .i64 id, .int .i64 lim, .bool ro, .slice a9 n9 c9] := rfl
      rw [hs]
      have HD := Lh (r8_end H4.out HBQ.out OV4.out HFG.out HRG.out slb_u64 #[.int .i64 id, .int .i64 lim, .bool ro, .slice a9 n9 c9])
      refine hK _ _ HD.out.1 ?_
      clear hK K hs
      refine wpAnyH_done (by kernel_rfl) ?_ _
      unfold onlyN
      dsimp only
      go_wp2_with fail
      go_meet
      exact ⟨a9, n9, c9, HD.out.2⟩
     ·go_simp
      have hb := bel_al X1 (.cells #[.int .i64 F.num, .int .i64 F.rev, .int .i64 F.mode, .int .i64 F.size, z0, z1, z2, z3, z4, z5, z6, z7, .int .i64 F.m.live, .int .i64 F.m.garb, .int .i64 R.num, .int .i64 R.rev, .int .i64 R.mode, .int .i64 R.size, r0, r1, r2, r3, r4, r5, r6, r7, .int .i64 R.m.live, .int .i64 R.m.garb] 46)
      have hbk := heap_alloc_new X1 (.cells #[.int .i64 F.num, .int .i64 F.rev, .int .i64 F.mode, .int .i64 F.size, z0, z1, z2, z3, z4, z5, z6, z7, .int .i64 F.m.live, .int .i64 F.m.garb, .int .i64 R.num, .int .i64 R.rev, .int .i64 R.mode, .int .i64 R.size, r0, r1, r2, r3, r4, r5, r6, r7, .int .i64 R.m.live, .int .i64 R.m.garb] 46)
      obtain ⟨X2, hX⟩ : ∃ Y, Y = X1.alloc (.cells #[.int .i64 F.num, .int .i64 F.rev, .int .i64 F.mode, .int .i64 F.size, z0, z1, z2, z3, z4, z5, z6, z7, .int .i64 F.m.live, .int .i64 F.m.garb, .int .i64 R.num, .int .i64 R.rev, .int .i64 R.mode, .int .i64 R.size, r0, r1, r2, r3, r4, r5, r6, r7, .int .i64 R.m.live, .int .i64 R.m.garb] 46) := ⟨_, rfl⟩
      rw [← hX] at hb hbk ⊢
      clear hX
      have H2 := Lh (H1.out.below HRT.out hb)
      have OV2 := Lh (ov_below OV1.out hb)
      have HM2 := Lh (src_two hbk)
      have HNE := Lh (show ge ≠ X1.heap.size from by have := (ov_lt OV1.out ge rfl).2; omega)
      refine hK _ _ H2.out.k ?_
      clear hK K hb hbk
      generalize X1.heap.size = g2 at *
      refine gwr 6 fun K hK => ?_
      refine wp_app_v lsRG (by rfl) (by rfl) HVT.out.symm OV2.out (M := V.take m) HRT.out H2.out.sr HL1.out H2.out.sz ?_
      intro v9 X3 ho hg hat
      have H3 := Lh (H2.out.grown HRT.out hg (fun j hj => (ov_lt OV2.out j hj).1) HBQ.out)
      rw [List.nil_append] at ho
      obtain ⟨a8, c8, hv9, -, -⟩ := ov_form ho
      rw [HVT.out] at hv9
      subst hv9
      have HM3 := Lh (src_grown HM2.out HR2.out hg (fun e => HNE.out (Option.some.inj e).symm))
      have OV3 := Lh ho
      refine hK _ _ H3.out.k ?_
      clear hK K ho hg hat
      refine gwr 10 fun K hK => ?_
      refine wp_app_v lsRG (by rfl) (by rfl) rfl OV3.out (M := [[.int .i64 F.num, .int .i64 F.rev, .int .i64 F.mode, .int .i64 F.size, z0, z1, z2, z3, z4, z5, z6, z7, .int .i64 F.m.live, .int .i64 F.m.garb], [.int .i64 R.num, .int .i64 R.rev, .int .i64 R.mode, .int .i64 R.size, r0, r1, r2, r3, r4, r5, r6, r7, .int .i64 R.m.live, .int .i64 R.m.garb]]) HR2.out HM3.out HL2.out H3.out.sz ?_
      intro v9 X4 ho hg hat
      have H4 := Lh (H3.out.grown HRT.out hg (fun j hj => (ov_lt OV3.out j hj).1) HBQ.out)
      obtain ⟨a9, c9, hv9, -, -⟩ := ov_form ho
      obtain ⟨n9, hn9⟩ : ∃ n9, n9 = (V.take m ++ [[.int .i64 F.num, .int .i64 F.rev, .int .i64 F.mode, .int .i64 F.size, z0, z1, z2, z3, z4, z5, z6, z7, .int .i64 F.m.live, .int .i64 F.m.garb], [.int .i64 R.num, .int .i64 R.rev, .int .i64 R.mode, .int .i64 R.size, r0, r1, r2, r3, r4, r5, r6, r7, .int .i64 R.m.live, .int .i64 R.m.garb]]).length := ⟨_, rfl⟩
      rw [← hn9] at hv9
      subst hv9
      clear hn9
      have OV4 := Lh ho
      refine hK _ _ H4.out.k ?_
      clear hK K ho hg hat
      refine gwr 11 fun K hK => ?_
      go_simp
      refine hK _ _ H4.out.k ?_
      clear hK K
      refine gwr 12 fun K hK => ?_
      obtain ⟨⟨y0, y1, y2, y3⟩, f0, f1, f2, f3⟩ := bx4 H4.out.s
      go_simp
      clear y0 y1 y2 y3 f0 f1 f2 f3
      rw [setCell_eq_setRow _ _ _ _ _ _ _ H4.out.s]
      have hs : (#[.int .i64 id, .int .i64 lim, .bool ro, .slice (some ⟨b, off, none⟩) n c] : Array Value).setIfInBounds 3 (.slice a9 n9 c9) = #[.int .i64 id, .int .i64 lim, .bool ro, .slice a9 n9 c9] := rfl
      rw [hs]
      have HD := Lh (r8_end H4.out HBQ.out OV4.out HFG.out HRG.out slb_u64 #[.int .i64 id, .int .i64 lim, .bool ro, .slice a9 n9 c9])
      refine hK _ _ HD.out.1 ?_
      clear hK K hs
      refine wpAnyH_done (by kernel_rfl) ?_ _
      unfold onlyN
      dsimp only
      go_wp2_with fail
      go_meet
      exact ⟨a9, n9, c9, HD.out.2⟩
    ·go_simp
     have hb := bel_al X1 (.cells #[.int .i64 F.num, .int .i64 F.rev, .int .i64 F.mode, .int .i64 F.size, z0, z1, z2, z3, z4, z5, z6, z7, .int .i64 F.m.live, .int .i64 F.m.garb, .int .i64 R.num, .int .i64 R.rev, .int .i64 R.mode, .int .i64 R.size, r0, r1, r2, r3, r4, r5, r6, r7, .int .i64 R.m.live, .int .i64 R.m.garb] 46)
     have hbk := heap_alloc_new X1 (.cells #[.int .i64 F.num, .int .i64 F.rev, .int .i64 F.mode, .int .i64 F.size, z0, z1, z2, z3, z4, z5, z6, z7, .int .i64 F.m.live, .int .i64 F.m.garb, .int .i64 R.num, .int .i64 R.rev, .int .i64 R.mode, .int .i64 R.size, r0, r1, r2, r3, r4, r5, r6, r7, .int .i64 R.m.live, .int .i64 R.m.garb] 46)
     obtain ⟨X2, hX⟩ : ∃ Y, Y = X1.alloc (.cells #[.int .i64 F.num, .int .i64 F.rev, .int .i64 F.mode, .int .i64 F.size, z0, z1, z2, z3, z4, z5, z6, z7, .int .i64 F.m.live, .int .i64 F.m.garb, .int .i64 R.num, .int .i64 R.rev, .int .i64 R.mode, .int .i64 R.size, r0, r1, r2, r3, r4, r5, r6, r7, .int .i64 R.m.live, .int .i64 R.m.garb] 46) := ⟨_, rfl⟩
     rw [← hX] at hb hbk ⊢
     clear hX
     have H2 := Lh (H1.out.below HRT.out hb)
     have OV2 := Lh (ov_below OV1.out hb)
     have HM2 := Lh (src_two hbk)
     have HNE := Lh (show ge ≠ X1.heap.size from by have := (ov_lt OV1.out ge rfl).2; omega)
     refine hK _ _ H2.out.k ?_
     clear hK K hb hbk
     generalize X1.heap.size = g2 at *
     refine gwr 5 fun K hK => ?_
     have p0 : (0 : Int) ≤ (m : Int) := by omega
     have p1 : (m : Int) ≤ (c : Int) := by have := HMC.out; omega
     have p2 := HMC.out
     go_simp
     refine hK _ _ H2.out.k ?_
     clear hK K p0 p1 p2
     refine gwr 6 fun K hK => ?_
     refine wp_app_v lsRG (by rfl) (by rfl) HVT.out.symm OV2.out (M := V.take m) HRT.out H2.out.sr HL1.out H2.out.sz ?_
     intro v9 X3 ho hg hat
     have H3 := Lh (H2.out.grown HRT.out hg (fun j hj => (ov_lt OV2.out j hj).1) HBQ.out)
     rw [List.nil_append] at ho
     obtain ⟨a8, c8, hv9, -, -⟩ := ov_form ho
     rw [HVT.out] at hv9
     subst hv9
     have HM3 := Lh (src_grown HM2.out HR2.out hg (fun e => HNE.out (Option.some.inj e).symm))
     have OV3 := Lh ho
     refine hK _ _ H3.out.k ?_
     clear hK K ho hg hat
     refine gwr 10 fun K hK => ?_
     refine wp_app_v lsRG (by rfl) (by rfl) rfl OV3.out (M := [[.int .i64 F.num, .int .i64 F.rev, .int .i64 F.mode, .int .i64 F.size, z0, z1, z2, z3, z4, z5, z6, z7, .int .i64 F.m.live, .int .i64 F.m.garb], [.int .i64 R.num, .int .i64 R.rev, .int .i64 R.mode, .int .i64 R.size, r0, r1, r2, r3, r4, r5, r6, r7, .int .i64 R.m.live, .int .i64 R.m.garb]]) HR2.out HM3.out HL2.out H3.out.sz ?_
     intro v9 X4 ho hg hat
     have H4 := Lh (H3.out.grown HRT.out hg (fun j hj => (ov_lt OV3.out j hj).1) HBQ.out)
     obtain ⟨a9, c9, hv9, -, -⟩ := ov_form ho
     obtain ⟨n9, hn9⟩ : ∃ n9, n9 = (V.take m ++ [[.int .i64 F.num, .int .i64 F.rev, .int .i64 F.mode, .int .i64 F.size, z0, z1, z2, z3, z4, z5, z6, z7, .int .i64 F.m.live, .int .i64 F.m.garb], [.int .i64 R.num, .int .i64 R.rev, .int .i64 R.mode, .int .i64 R.size, r0, r1, r2, r3, r4, r5, r6, r7, .int .i64 R.m.live, .int .i64 R.m.garb]]).length := ⟨_, rfl⟩
     rw [← hn9] at hv9
     subst hv9
     clear hn9
     have OV4 := Lh ho
     refine hK _ _ H4.out.k ?_
     clear hK K ho hg hat
     refine gwr 11 fun K hK => ?_
     go_simp
     refine hK _ _ H4.out.k ?_
     clear hK K
     refine gwr 12 fun K hK => ?_
     obtain ⟨⟨y0, y1, y2, y3⟩, f0, f1, f2, f3⟩ := bx4 H4.out.s
     go_simp
     clear y0 y1 y2 y3 f0 f1 f2 f3
     rw [setCell_eq_setRow _ _ _ _ _ _ _ H4.out.s]
     have hs : (#[.int .i64 id, .int .i64 lim, .bool ro, .slice (some ⟨b, off, none⟩) n c] : Array Value).setIfInBounds 3 (.slice a9 n9 c9) = #[.int .i64 id, .int .i64 lim, .bool ro, .slice a9 n9 c9] := rfl
     rw [hs]
     have HD := Lh (r8_end H4.out HBQ.out OV4.out HFG.out HRG.out slb_u64 #[.int .i64 id, .int .i64 lim, .bool ro, .slice a9 n9 c9])
     refine hK _ _ HD.out.1 ?_
     clear hK K hs
     refine wpAnyH_done (by kernel_rfl) ?_ _
     unfold onlyN
     dsimp only
     go_wp2_with fail
     go_meet
     exact ⟨a9, n9, c9, HD.out.2⟩
   ·have p0 : (0 : Int) ≤ (m : Int) := by omega
    have p1 : (m : Int) ≤ (c : Int) := by have := HMC.out; omega
    have p2 := HMC.out
    go_simp
    refine hK _ _ H0.out.k ?_
    clear hK K p0 p1 p2
    refine held_two 0 9 rfl rfl rfl rfl (by kernel_rfl) (fun K hK => ?_) (fun K hK => ?_)
    ·go_simp
     have hb := bel_al X0 (.cells #[] 46)
     have hbk := heap_alloc_new X0 (.cells #[] 46)
     have ho := ov_empty (T := 46) 14 X0 (base := BQ) rfl H0.out.sz
     obtain ⟨X1, hX⟩ : ∃ Y, Y = X0.alloc (.cells #[] 46) := ⟨_, rfl⟩
     rw [← hX] at hb hbk ho ⊢
     clear hX
     have H1 := Lh (H0.out.below HRT.out hb)
     have OV1 := Lh ho
     refine hK _ _ H1.out.k ?_
     clear hK K hb ho hbk
     generalize X0.heap.size = ge at *
     refine held_two 6 9 rfl rfl rfl rfl (by kernel_rfl) (fun K hK => ?_) (fun K hK => ?_)
     ·refine wp_app_v lsRG (by rfl) (by rfl) HVT.out.symm OV1.out (M := V.take m) HRT.out H1.out.sr HL1.out H1.out.sz ?_
      intro v9 X2 ho hg hat
      have H2 := Lh (H1.out.grown HRT.out hg (fun j hj => (ov_lt OV1.out j hj).1) HBQ.out)
      rw [List.nil_append] at ho
      obtain ⟨a8, c8, hv9, -, -⟩ := ov_form ho
      rw [HVT.out] at hv9
      subst hv9
      have OV2 := Lh ho
      refine hK _ _ H2.out.k ?_
      clear hK K ho hg hat
      refine gwr 9 fun K hK => ?_
      go_simp
      have hb := bel_al X2 (.cells #[.int .i64 F.num, .int .i64 F.rev, .int .i64 F.mode, .int .i64 F.size, z0, z1, z2, z3, z4, z5, z6, z7, .int .i64 F.m.live, .int .i64 F.m.garb, .int .i64 R.num, .int .i64 R.rev, .int .i64 R.mode, .int .i64 R.size, r0, r1, r2, r3, r4, r5, r6, r7, .int .i64 R.m.live, .int .i64 R.m.garb] 46)
      have hbk := heap_alloc_new X2 (.cells #[.int .i64 F.num, .int .i64 F.rev, .int .i64 F.mode, .int .i64 F.size, z0, z1, z2, z3, z4, z5, z6, z7, .int .i64 F.m.live, .int .i64 F.m.garb, .int .i64 R.num, .int .i64 R.rev, .int .i64 R.mode, .int .i64 R.size, r0, r1, r2, r3, r4, r5, r6, r7, .int .i64 R.m.live, .int .i64 R.m.garb] 46)
      obtain ⟨X3, hX⟩ : ∃ Y, Y = X2.alloc (.cells #[.int .i64 F.num, .int .i64 F.rev, .int .i64 F.mode, .int .i64 F.size, z0, z1, z2, z3, z4, z5, z6, z7, .int .i64 F.m.live, .int .i64 F.m.garb, .int .i64 R.num, .int .i64 R.rev, .int .i64 R.mode, .int .i64 R.size, r0, r1, r2, r3, r4, r5, r6, r7, .int .i64 R.m.live, .int .i64 R.m.garb] 46) := ⟨_, rfl⟩
      rw [← hX] at hb hbk ⊢
      clear hX
      have H3 := Lh (H2.out.below HRT.out hb)
      have OV3 := Lh (ov_below OV2.out hb)
      have HM3 := Lh (src_two hbk)
      refine hK _ _ H3.out.k ?_
      clear hK K hb hbk
      generalize X2.heap.size = g2 at *
      refine gwr 10 fun K hK => ?_
      refine wp_app_v lsRG (by rfl) (by rfl) rfl OV3.out (M := [[.int .i64 F.num, .int .i64 F.rev, .int .i64 F.mode, .int .i64 F.size, z0, z1, z2, z3, z4, z5, z6, z7, .int .i64 F.m.live, .int .i64 F.m.garb], [.int .i64 R.num, .int .i64 R.rev, .int .i64 R.mode, .int .i64 R.size, r0, r1, r2, r3, r4, r5, r6, r7, .int .i64 R.m.live, .int .i64 R.m.garb]]) HR2.out HM3.out HL2.out H3.out.sz ?_
      intro v9 X4 ho hg hat
      have H4 := Lh (H3.out.grown HRT.out hg (fun j hj => (ov_lt OV3.out j hj).1) HBQ.out)
      obtain ⟨a9, c9, hv9, -, -⟩ := ov_form ho
      obtain ⟨n9, hn9⟩ : ∃ n9, n9 = (V.take m ++ [[.int .i64 F.num, .int .i64 F.rev, .int .i64 F.mode, .int .i64 F.size, z0, z1, z2, z3, z4, z5, z6, z7, .int .i64 F.m.live, .int .i64 F.m.garb], [.int .i64 R.num, .int .i64 R.rev, .int .i64 R.mode, .int .i64 R.size, r0, r1, r2, r3, r4, r5, r6, r7, .int .i64 R.m.live, .int .i64 R.m.garb]]).length := ⟨_, rfl⟩
      rw [← hn9] at hv9
      subst hv9
      clear hn9
      have OV4 := Lh ho
      refine hK _ _ H4.out.k ?_
      clear hK K ho hg hat
      refine gwr 11 fun K hK => ?_
      go_simp
      refine hK _ _ H4.out.k ?_
      clear hK K
      refine gwr 12 fun K hK => ?_
      obtain ⟨⟨y0, y1, y2, y3⟩, f0, f1, f2, f3⟩ := bx4 H4.out.s
      go_simp
      clear y0 y1 y2 y3 f0 f1 f2 f3
      rw [setCell_eq_setRow _ _ _ _ _ _ _ H4.out.s]
      have hs : (#[.int .i64 id, .int .i64 lim, .bool ro, .slice (some ⟨b, off, none⟩) n c] : Array Value).setIfInBounds 3 (.slice a9 n9 c9) = #[.int .i64 id, .int .i64 lim, .bool ro, .slice a9 n9 c9] := rfl
      rw [hs]
      have HD := Lh (r8_end H4.out HBQ.out OV4.out HFG.out HRG.out slb_u64 #[.int .i64 id, .int .i64 lim, .bool ro, .slice a9 n9 c9])
      refine hK _ _ HD.out.1 ?_
      clear hK K hs
      refine wpAnyH_done (by kernel_rfl) ?_ _
      unfold onlyN
      dsimp only
      go_wp2_with fail
      go_meet
      exact ⟨a9, n9, c9, HD.out.2⟩
     ·go_simp
      have hb := bel_al X1 (.cells #[.int .i64 F.num, .int .i64 F.rev, .int .i64 F.mode, .int .i64 F.size, z0, z1, z2, z3, z4, z5, z6, z7, .int .i64 F.m.live, .int .i64 F.m.garb, .int .i64 R.num, .int .i64 R.rev, .int .i64 R.mode, .int .i64 R.size, r0, r1, r2, r3, r4, r5, r6, r7, .int .i64 R.m.live, .int .i64 R.m.garb] 46)
      have hbk := heap_alloc_new X1 (.cells #[.int .i64 F.num, .int .i64 F.rev, .int .i64 F.mode, .int .i64 F.size, z0, z1, z2, z3, z4, z5, z6, z7, .int .i64 F.m.live, .int .i64 F.m.garb, .int .i64 R.num, .int .i64 R.rev, .int .i64 R.mode, .int .i64 R.size, r0, r1, r2, r3, r4, r5, r6, r7, .int .i64 R.m.live, .int .i64 R.m.garb] 46)
      obtain ⟨X2, hX⟩ : ∃ Y, Y = X1.alloc (.cells #[.int .i64 F.num, .int .i64 F.rev, .int .i64 F.mode, .int .i64 F.size, z0, z1, z2, z3, z4, z5, z6, z7, .int .i64 F.m.live, .int .i64 F.m.garb, .int .i64 R.num, .int .i64 R.rev, .int .i64 R.mode, .int .i64 R.size, r0, r1, r2, r3, r4, r5, r6, r7, .int .i64 R.m.live, .int .i64 R.m.garb] 46) := ⟨_, rfl⟩
      rw [← hX] at hb hbk ⊢
      clear hX
      have H2 := Lh (H1.out.below HRT.out hb)
      have OV2 := Lh (ov_below OV1.out hb)
      have HM2 := Lh (src_two hbk)
      have HNE := Lh (show ge ≠ X1.heap.size from by have := (ov_lt OV1.out ge rfl).2; omega)
      refine hK _ _ H2.out.k ?_
      clear hK K hb hbk
      generalize X1.heap.size = g2 at *
      refine gwr 6 fun K hK => ?_
      refine wp_app_v lsRG (by rfl) (by rfl) HVT.out.symm OV2.out (M := V.take m) HRT.out H2.out.sr HL1.out H2.out.sz ?_
      intro v9 X3 ho hg hat
      have H3 := Lh (H2.out.grown HRT.out hg (fun j hj => (ov_lt OV2.out j hj).1) HBQ.out)
      rw [List.nil_append] at ho
      obtain ⟨a8, c8, hv9, -, -⟩ := ov_form ho
      rw [HVT.out] at hv9
      subst hv9
      have HM3 := Lh (src_grown HM2.out HR2.out hg (fun e => HNE.out (Option.some.inj e).symm))
      have OV3 := Lh ho
      refine hK _ _ H3.out.k ?_
      clear hK K ho hg hat
      refine gwr 10 fun K hK => ?_
      refine wp_app_v lsRG (by rfl) (by rfl) rfl OV3.out (M := [[.int .i64 F.num, .int .i64 F.rev, .int .i64 F.mode, .int .i64 F.size, z0, z1, z2, z3, z4, z5, z6, z7, .int .i64 F.m.live, .int .i64 F.m.garb], [.int .i64 R.num, .int .i64 R.rev, .int .i64 R.mode, .int .i64 R.size, r0, r1, r2, r3, r4, r5, r6, r7, .int .i64 R.m.live, .int .i64 R.m.garb]]) HR2.out HM3.out HL2.out H3.out.sz ?_
      intro v9 X4 ho hg hat
      have H4 := Lh (H3.out.grown HRT.out hg (fun j hj => (ov_lt OV3.out j hj).1) HBQ.out)
      obtain ⟨a9, c9, hv9, -, -⟩ := ov_form ho
      obtain ⟨n9, hn9⟩ : ∃ n9, n9 = (V.take m ++ [[.int .i64 F.num, .int .i64 F.rev, .int .i64 F.mode, .int .i64 F.size, z0, z1, z2, z3, z4, z5, z6, z7, .int .i64 F.m.live, .int .i64 F.m.garb], [.int .i64 R.num, .int .i64 R.rev, .int .i64 R.mode, .int .i64 R.size, r0, r1, r2, r3, r4, r5, r6, r7, .int .i64 R.m.live, .int .i64 R.m.garb]]).length := ⟨_, rfl⟩
      rw [← hn9] at hv9
      subst hv9
      clear hn9
      have OV4 := Lh ho
      refine hK _ _ H4.out.k ?_
      clear hK K ho hg hat
      refine gwr 11 fun K hK => ?_
      go_simp
      refine hK _ _ H4.out.k ?_
      clear hK K
      refine gwr 12 fun K hK => ?_
      obtain ⟨⟨y0, y1, y2, y3⟩, f0, f1, f2, f3⟩ := bx4 H4.out.s
      go_simp
      clear y0 y1 y2 y3 f0 f1 f2 f3
      rw [setCell_eq_setRow _ _ _ _ _ _ _ H4.out.s]
      have hs : (#[.int .i64 id, .int .i64 lim, .bool ro, .slice (some ⟨b, off, none⟩) n c] : Array Value).setIfInBounds 3 (.slice a9 n9 c9) = #[.int .i64 id, .int .i64 lim, .bool ro, .slice a9 n9 c9] := rfl
      rw [hs]
      have HD := Lh (r8_end H4.out HBQ.out OV4.out HFG.out HRG.out slb_u64 #[.int .i64 id, .int .i64 lim, .bool ro, .slice a9 n9 c9])
      refine hK _ _ HD.out.1 ?_
      clear hK K hs
      refine wpAnyH_done (by kernel_rfl) ?_ _
      unfold onlyN
      dsimp only
      go_wp2_with fail
      go_meet
      exact ⟨a9, n9, c9, HD.out.2⟩
    ·go_simp
     have hb := bel_al X0 (.cells #[.int .i64 F.num, .int .i64 F.rev, .int .i64 F.mode, .int .i64 F.size, z0, z1, z2, z3, z4, z5, z6, z7, .int .i64 F.m.live, .int .i64 F.m.garb, .int .i64 R.num, .int .i64 R.rev, .int .i64 R.mode, .int .i64 R.size, r0, r1, r2, r3, r4, r5, r6, r7, .int .i64 R.m.live, .int .i64 R.m.garb] 46)
     have hbk := heap_alloc_new X0 (.cells #[.int .i64 F.num, .int .i64 F.rev, .int .i64 F.mode, .int .i64 F.size, z0, z1, z2, z3, z4, z5, z6, z7, .int .i64 F.m.live, .int .i64 F.m.garb, .int .i64 R.num, .int .i64 R.rev, .int .i64 R.mode, .int .i64 R.size, r0, r1, r2, r3, r4, r5, r6, r7, .int .i64 R.m.live, .int .i64 R.m.garb] 46)
     obtain ⟨X1, hX⟩ : ∃ Y, Y = X0.alloc (.cells #[.int .i64 F.num, .int .i64 F.rev, .int .i64 F.mode, .int .i64 F.size, z0, z1, z2, z3, z4, z5, z6, z7, .int .i64 F.m.live, .int .i64 F.m.garb, .int .i64 R.num, .int .i64 R.rev, .int .i64 R.mode, .int .i64 R.size, r0, r1, r2, r3, r4, r5, r6, r7, .int .i64 R.m.live, .int .i64 R.m.garb] 46) := ⟨_, rfl⟩
     rw [← hX] at hb hbk ⊢
     clear hX
     have H1 := Lh (H0.out.below HRT.out hb)
     have HM1 := Lh (src_two hbk)
     have HGL := Lh (lt_of_some hbk)
     refine hK _ _ H1.out.k ?_
     clear hK K hb hbk
     generalize X0.heap.size = g2 at *
     refine gwr 0 fun K hK => ?_
     go_simp
     have hb := bel_al X1 (.cells #[] 46)
     have hbk := heap_alloc_new X1 (.cells #[] 46)
     have ho := ov_empty (T := 46) 14 X1 (base := BQ) rfl H1.out.sz
     obtain ⟨X2, hX⟩ : ∃ Y, Y = X1.alloc (.cells #[] 46) := ⟨_, rfl⟩
     rw [← hX] at hb hbk ho ⊢
     clear hX
     have H2 := Lh (H1.out.below HRT.out hb)
     have OV2 := Lh ho
     have HM2 := Lh (src_below HR2.out HM1.out hb)
     have HNE := Lh (show X1.heap.size ≠ g2 from by have := HGL.out; omega)
     refine hK _ _ H2.out.k ?_
     clear hK K hb ho hbk
     generalize X1.heap.size = ge at *
     refine gwr 6 fun K hK => ?_
     refine wp_app_v lsRG (by rfl) (by rfl) HVT.out.symm OV2.out (M := V.take m) HRT.out H2.out.sr HL1.out H2.out.sz ?_
     intro v9 X3 ho hg hat
     have H3 := Lh (H2.out.grown HRT.out hg (fun j hj => (ov_lt OV2.out j hj).1) HBQ.out)
     rw [List.nil_append] at ho
     obtain ⟨a8, c8, hv9, -, -⟩ := ov_form ho
     rw [HVT.out] at hv9
     subst hv9
     have HM3 := Lh (src_grown HM2.out HR2.out hg (fun e => HNE.out (Option.some.inj e).symm))
     have OV3 := Lh ho
     refine hK _ _ H3.out.k ?_
     clear hK K ho hg hat
     refine gwr 10 fun K hK => ?_
     refine wp_app_v lsRG (by rfl) (by rfl) rfl OV3.out (M := [[.int .i64 F.num, .int .i64 F.rev, .int .i64 F.mode, .int .i64 F.size, z0, z1, z2, z3, z4, z5, z6, z7, .int .i64 F.m.live, .int .i64 F.m.garb], [.int .i64 R.num, .int .i64 R.rev, .int .i64 R.mode, .int .i64 R.size, r0, r1, r2, r3, r4, r5, r6, r7, .int .i64 R.m.live, .int .i64 R.m.garb]]) HR2.out HM3.out HL2.out H3.out.sz ?_
     intro v9 X4 ho hg hat
     have H4 := Lh (H3.out.grown HRT.out hg (fun j hj => (ov_lt OV3.out j hj).1) HBQ.out)
     obtain ⟨a9, c9, hv9, -, -⟩ := ov_form ho
     obtain ⟨n9, hn9⟩ : ∃ n9, n9 = (V.take m ++ [[.int .i64 F.num, .int .i64 F.rev, .int .i64 F.mode, .int .i64 F.size, z0, z1, z2, z3, z4, z5, z6, z7, .int .i64 F.m.live, .int .i64 F.m.garb], [.int .i64 R.num, .int .i64 R.rev, .int .i64 R.mode, .int .i64 R.size, r0, r1, r2, r3, r4, r5, r6, r7, .int .i64 R.m.live, .int .i64 R.m.garb]]).length := ⟨_, rfl⟩
     rw [← hn9] at hv9
     subst hv9
     clear hn9
     have OV4 := Lh ho
     refine hK _ _ H4.out.k ?_
     clear hK K ho hg hat
     refine gwr 11 fun K hK => ?_
     go_simp
     refine hK _ _ H4.out.k ?_
     clear hK K
     refine gwr 12 fun K hK => ?_
     obtain ⟨⟨y0, y1, y2, y3⟩, f0, f1, f2, f3⟩ := bx4 H4.out.s
     go_simp
     clear y0 y1 y2 y3 f0 f1 f2 f3
     rw [setCell_eq_setRow _ _ _ _ _ _ _ H4.out.s]
     have hs : (#[.int .i64 id, .int .i64 lim, .bool ro, .slice (some ⟨b, off, none⟩) n c] : Array Value).setIfInBounds 3 (.slice a9 n9 c9) = #[.int .i64 id, .int .i64 lim, .bool ro, .slice a9 n9 c9] := rfl
     rw [hs]
     have HD := Lh (r8_end H4.out HBQ.out OV4.out HFG.out HRG.out slb_u64 #[.int .i64 id, .int .i64 lim, .bool ro, .slice a9 n9 c9])
     refine hK _ _ HD.out.1 ?_
     clear hK K hs
     refine wpAnyH_done (by kernel_rfl) ?_ _
     unfold onlyN
     dsimp only
     go_wp2_with fail
     go_meet
     exact ⟨a9, n9, c9, HD.out.2⟩
   ·go_simp
    have hb := bel_al X0 (.cells #[.int .i64 F.num, .int .i64 F.rev, .int .i64 F.mode, .int .i64 F.size, z0, z1, z2, z3, z4, z5, z6, z7, .int .i64 F.m.live, .int .i64 F.m.garb, .int .i64 R.num, .int .i64 R.rev, .int .i64 R.mode, .int .i64 R.size, r0, r1, r2, r3, r4, r5, r6, r7, .int .i64 R.m.live, .int .i64 R.m.garb] 46)
    have hbk := heap_alloc_new X0 (.cells #[.int .i64 F.num, .int .i64 F.rev, .int .i64 F.mode, .int .i64 F.size, z0, z1, z2, z3, z4, z5, z6, z7, .int .i64 F.m.live, .int .i64 F.m.garb, .int .i64 R.num, .int .i64 R.rev, .int .i64 R.mode, .int .i64 R.size, r0, r1, r2, r3, r4, r5, r6, r7, .int .i64 R.m.live, .int .i64 R.m.garb] 46)
    obtain ⟨X1, hX⟩ : ∃ Y, Y = X0.alloc (.cells #[.int .i64 F.num, .int .i64 F.rev, .int .i64 F.mode, .int .i64 F.size, z0, z1, z2, z3, z4, z5, z6, z7, .int .i64 F.m.live, .int .i64 F.m.garb, .int .i64 R.num, .int .i64 R.rev, .int .i64 R.mode, .int .i64 R.size, r0, r1, r2, r3, r4, r5, r6, r7, .int .i64 R.m.live, .int .i64 R.m.garb] 46) := ⟨_, rfl⟩
    rw [← hX] at hb hbk ⊢
    clear hX
    have H1 := Lh (H0.out.below HRT.out hb)
    have HM1 := Lh (src_two hbk)
    have HGL := Lh (lt_of_some hbk)
    refine hK _ _ H1.out.k ?_
    clear hK K hb hbk
    generalize X0.heap.size = g2 at *
    refine held_two 0 5 rfl rfl rfl rfl (by kernel_rfl) (fun K hK => ?_) (fun K hK => ?_)
    ·go_simp
     have hb := bel_al X1 (.cells #[] 46)
     have hbk := heap_alloc_new X1 (.cells #[] 46)
     have ho := ov_empty (T := 46) 14 X1 (base := BQ) rfl H1.out.sz
     obtain ⟨X2, hX⟩ : ∃ Y, Y = X1.alloc (.cells #[] 46) := ⟨_, rfl⟩
     rw [← hX] at hb hbk ho ⊢
     clear hX
     have H2 := Lh (H1.out.below HRT.out hb)
     have OV2 := Lh ho
     have HM2 := Lh (src_below HR2.out HM1.out hb)
     have HNE := Lh (show X1.heap.size ≠ g2 from by have := HGL.out; omega)
     refine hK _ _ H2.out.k ?_
     clear hK K hb ho hbk
     generalize X1.heap.size = ge at *
     refine gwr 5 fun K hK => ?_
     have p0 : (0 : Int) ≤ (m : Int) := by omega
     have p1 : (m : Int) ≤ (c : Int) := by have := HMC.out; omega
     have p2 := HMC.out
     go_simp
     refine hK _ _ H2.out.k ?_
     clear hK K p0 p1 p2
     refine gwr 6 fun K hK => ?_
     refine wp_app_v lsRG (by rfl) (by rfl) HVT.out.symm OV2.out (M := V.take m) HRT.out H2.out.sr HL1.out H2.out.sz ?_
     intro v9 X3 ho hg hat
     have H3 := Lh (H2.out.grown HRT.out hg (fun j hj => (ov_lt OV2.out j hj).1) HBQ.out)
     rw [List.nil_append] at ho
     obtain ⟨a8, c8, hv9, -, -⟩ := ov_form ho
     rw [HVT.out] at hv9
     subst hv9
     have HM3 := Lh (src_grown HM2.out HR2.out hg (fun e => HNE.out (Option.some.inj e).symm))
     have OV3 := Lh ho
     refine hK _ _ H3.out.k ?_
     clear hK K ho hg hat
     refine gwr 10 fun K hK => ?_
     refine wp_app_v lsRG (by rfl) (by rfl) rfl OV3.out (M := [[.int .i64 F.num, .int .i64 F.rev, .int .i64 F.mode, .int .i64 F.size, z0, z1, z2, z3, z4, z5, z6, z7, .int .i64 F.m.live, .int .i64 F.m.garb], [.int .i64 R.num, .int .i64 R.rev, .int .i64 R.mode, .int .i64 R.size, r0, r1, r2, r3, r4, r5, r6, r7, .int .i64 R.m.live, .int .i64 R.m.garb]]) HR2.out HM3.out HL2.out H3.out.sz ?_
     intro v9 X4 ho hg hat
     have H4 := Lh (H3.out.grown HRT.out hg (fun j hj => (ov_lt OV3.out j hj).1) HBQ.out)
     obtain ⟨a9, c9, hv9, -, -⟩ := ov_form ho
     obtain ⟨n9, hn9⟩ : ∃ n9, n9 = (V.take m ++ [[.int .i64 F.num, .int .i64 F.rev, .int .i64 F.mode, .int .i64 F.size, z0, z1, z2, z3, z4, z5, z6, z7, .int .i64 F.m.live, .int .i64 F.m.garb], [.int .i64 R.num, .int .i64 R.rev, .int .i64 R.mode, .int .i64 R.size, r0, r1, r2, r3, r4, r5, r6, r7, .int .i64 R.m.live, .int .i64 R.m.garb]]).length := ⟨_, rfl⟩
     rw [← hn9] at hv9
     subst hv9
     clear hn9
     have OV4 := Lh ho
     refine hK _ _ H4.out.k ?_
     clear hK K ho hg hat
     refine gwr 11 fun K hK => ?_
     go_simp
     refine hK _ _ H4.out.k ?_
     clear hK K
     refine gwr 12 fun K hK => ?_
     obtain ⟨⟨y0, y1, y2, y3⟩, f0, f1, f2, f3⟩ := bx4 H4.out.s
     go_simp
     clear y0 y1 y2 y3 f0 f1 f2 f3
     rw [setCell_eq_setRow _ _ _ _ _ _ _ H4.out.s]
     have hs : (#[.int .i64 id, .int .i64 lim, .bool ro, .slice (some ⟨b, off, none⟩) n c] : Array Value).setIfInBounds 3 (.slice a9 n9 c9) = #[.int .i64 id, .int .i64 lim, .bool ro, .slice a9 n9 c9] := rfl
     rw [hs]
     have HD := Lh (r8_end H4.out HBQ.out OV4.out HFG.out HRG.out slb_u64 #[.int .i64 id, .int .i64 lim, .bool ro, .slice a9 n9 c9])
     refine hK _ _ HD.out.1 ?_
     clear hK K hs
     refine wpAnyH_done (by kernel_rfl) ?_ _
     unfold onlyN
     dsimp only
     go_wp2_with fail
     go_meet
     exact ⟨a9, n9, c9, HD.out.2⟩
    ·have p0 : (0 : Int) ≤ (m : Int) := by omega
     have p1 : (m : Int) ≤ (c : Int) := by have := HMC.out; omega
     have p2 := HMC.out
     go_simp
     refine hK _ _ H1.out.k ?_
     clear hK K p0 p1 p2
     refine gwr 0 fun K hK => ?_
     go_simp
     have hb := bel_al X1 (.cells #[] 46)
     have hbk := heap_alloc_new X1 (.cells #[] 46)
     have ho := ov_empty (T := 46) 14 X1 (base := BQ) rfl H1.out.sz
     obtain ⟨X2, hX⟩ : ∃ Y, Y = X1.alloc (.cells #[] 46) := ⟨_, rfl⟩
     rw [← hX] at hb hbk ho ⊢
     clear hX
     have H2 := Lh (H1.out.below HRT.out hb)
     have OV2 := Lh ho
     have HM2 := Lh (src_below HR2.out HM1.out hb)
     have HNE := Lh (show X1.heap.size ≠ g2 from by have := HGL.out; omega)
     refine hK _ _ H2.out.k ?_
     clear hK K hb ho hbk
     generalize X1.heap.size = ge at *
     refine gwr 6 fun K hK => ?_
     refine wp_app_v lsRG (by rfl) (by rfl) HVT.out.symm OV2.out (M := V.take m) HRT.out H2.out.sr HL1.out H2.out.sz ?_
     intro v9 X3 ho hg hat
     have H3 := Lh (H2.out.grown HRT.out hg (fun j hj => (ov_lt OV2.out j hj).1) HBQ.out)
     rw [List.nil_append] at ho
     obtain ⟨a8, c8, hv9, -, -⟩ := ov_form ho
     rw [HVT.out] at hv9
     subst hv9
     have HM3 := Lh (src_grown HM2.out HR2.out hg (fun e => HNE.out (Option.some.inj e).symm))
     have OV3 := Lh ho
     refine hK _ _ H3.out.k ?_
     clear hK K ho hg hat
     refine gwr 10 fun K hK => ?_
     refine wp_app_v lsRG (by rfl) (by rfl) rfl OV3.out (M := [[.int .i64 F.num, .int .i64 F.rev, .int .i64 F.mode, .int .i64 F.size, z0, z1, z2, z3, z4, z5, z6, z7, .int .i64 F.m.live, .int .i64 F.m.garb], [.int .i64 R.num, .int .i64 R.rev, .int .i64 R.mode, .int .i64 R.size, r0, r1, r2, r3, r4, r5, r6, r7, .int .i64 R.m.live, .int .i64 R.m.garb]]) HR2.out HM3.out HL2.out H3.out.sz ?_
     intro v9 X4 ho hg hat
     have H4 := Lh (H3.out.grown HRT.out hg (fun j hj => (ov_lt OV3.out j hj).1) HBQ.out)
     obtain ⟨a9, c9, hv9, -, -⟩ := ov_form ho
     obtain ⟨n9, hn9⟩ : ∃ n9, n9 = (V.take m ++ [[.int .i64 F.num, .int .i64 F.rev, .int .i64 F.mode, .int .i64 F.size, z0, z1, z2, z3, z4, z5, z6, z7, .int .i64 F.m.live, .int .i64 F.m.garb], [.int .i64 R.num, .int .i64 R.rev, .int .i64 R.mode, .int .i64 R.size, r0, r1, r2, r3, r4, r5, r6, r7, .int .i64 R.m.live, .int .i64 R.m.garb]]).length := ⟨_, rfl⟩
     rw [← hn9] at hv9
     subst hv9
     clear hn9
     have OV4 := Lh ho
     refine hK _ _ H4.out.k ?_
     clear hK K ho hg hat
     refine gwr 11 fun K hK => ?_
     go_simp
     refine hK _ _ H4.out.k ?_
     clear hK K
     refine gwr 12 fun K hK => ?_
     obtain ⟨⟨y0, y1, y2, y3⟩, f0, f1, f2, f3⟩ := bx4 H4.out.s
     go_simp
     clear y0 y1 y2 y3 f0 f1 f2 f3
     rw [setCell_eq_setRow _ _ _ _ _ _ _ H4.out.s]
     have hs : (#[.int .i64 id, .int .i64 lim, .bool ro, .slice (some ⟨b, off, none⟩) n c] : Array Value).setIfInBounds 3 (.slice a9 n9 c9) = #[.int .i64 id, .int .i64 lim, .bool ro, .slice a9 n9 c9] := rfl
     rw [hs]
     have HD := Lh (r8_end H4.out HBQ.out OV4.out HFG.out HRG.out slb_u64 #[.int .i64 id, .int .i64 lim, .bool ro, .slice a9 n9 c9])
     refine hK _ _ HD.out.1 ?_
     clear hK K hs
     refine wpAnyH_done (by kernel_rfl) ?_ _
     unfold onlyN
     dsimp only
     go_wp2_with fail
     go_meet
     exact ⟨a9, n9, c9, HD.out.2⟩
  ·go_simp
   have hb := bel_al X0 (.cells #[.int .i64 F.num, .int .i64 F.rev, .int .i64 F.mode, .int .i64 F.size, z0, z1, z2, z3, z4, z5, z6, z7, .int .i64 F.m.live, .int .i64 F.m.garb, .int .i64 R.num, .int .i64 R.rev, .int .i64 R.mode, .int .i64 R.size, r0, r1, r2, r3, r4, r5, r6, r7, .int .i64 R.m.live, .int .i64 R.m.garb] 46)
   have hbk := heap_alloc_new X0 (.cells #[.int .i64 F.num, .int .i64 F.rev, .int .i64 F.mode, .int .i64 F.size, z0, z1, z2, z3, z4, z5, z6, z7, .int .i64 F.m.live, .int .i64 F.m.garb, .int .i64 R.num, .int .i64 R.rev, .int .i64 R.mode, .int .i64 R.size, r0, r1, r2, r3, r4, r5, r6, r7, .int .i64 R.m.live, .int .i64 R.m.garb] 46)
   obtain ⟨X1, hX⟩ : ∃ Y, Y = X0.alloc (.cells #[.int .i64 F.num, .int .i64 F.rev, .int .i64 F.mode, .int .i64 F.size, z0, z1, z2, z3, z4, z5, z6, z7, .int .i64 F.m.live, .int .i64 F.m.garb, .int .i64 R.num, .int .i64 R.rev, .int .i64 R.mode, .int .i64 R.size, r0, r1, r2, r3, r4, r5, r6, r7, .int .i64 R.m.live, .int .i64 R.m.garb] 46) := ⟨_, rfl⟩
   rw [← hX] at hb hbk ⊢
   clear hX
   have H1 := Lh (H0.out.below HRT.out hb)
   have HM1 := Lh (src_two hbk)
   have HGL := Lh (lt_of_some hbk)
   refine hK _ _ H1.out.k ?_
   clear hK K hb hbk
   generalize X0.heap.size = g2 at *
   refine held_two 0 2 rfl rfl rfl rfl (by kernel_rfl) (fun K hK => ?_) (fun K hK => ?_)
   ·go_simp
    have hb := bel_al X1 (.cells #[] 46)
    have hbk := heap_alloc_new X1 (.cells #[] 46)
    have ho := ov_empty (T := 46) 14 X1 (base := BQ) rfl H1.out.sz
    obtain ⟨X2, hX⟩ : ∃ Y, Y = X1.alloc (.cells #[] 46) := ⟨_, rfl⟩
    rw [← hX] at hb hbk ho ⊢
    clear hX
    have H2 := Lh (H1.out.below HRT.out hb)
    have OV2 := Lh ho
    have HM2 := Lh (src_below HR2.out HM1.out hb)
    have HNE := Lh (show X1.heap.size ≠ g2 from by have := HGL.out; omega)
    refine hK _ _ H2.out.k ?_
    clear hK K hb ho hbk
    generalize X1.heap.size = ge at *
    refine gwr 2 fun K hK => ?_
    obtain ⟨⟨y0, y1, y2, y3⟩, -⟩ := bx4 H2.out.s
    go_simp
    refine hK _ _ H2.out.k ?_
    clear hK K y0 y1 y2 y3
    refine gwr 5 fun K hK => ?_
    have p0 : (0 : Int) ≤ (m : Int) := by omega
    have p1 : (m : Int) ≤ (c : Int) := by have := HMC.out; omega
    have p2 := HMC.out
    go_simp
    refine hK _ _ H2.out.k ?_
    clear hK K p0 p1 p2
    refine gwr 6 fun K hK => ?_
    refine wp_app_v lsRG (by rfl) (by rfl) HVT.out.symm OV2.out (M := V.take m) HRT.out H2.out.sr HL1.out H2.out.sz ?_
    intro v9 X3 ho hg hat
    have H3 := Lh (H2.out.grown HRT.out hg (fun j hj => (ov_lt OV2.out j hj).1) HBQ.out)
    rw [List.nil_append] at ho
    obtain ⟨a8, c8, hv9, -, -⟩ := ov_form ho
    rw [HVT.out] at hv9
    subst hv9
    have HM3 := Lh (src_grown HM2.out HR2.out hg (fun e => HNE.out (Option.some.inj e).symm))
    have OV3 := Lh ho
    refine hK _ _ H3.out.k ?_
    clear hK K ho hg hat
    refine gwr 10 fun K hK => ?_
    refine wp_app_v lsRG (by rfl) (by rfl) rfl OV3.out (M := [[.int .i64 F.num, .int .i64 F.rev, .int .i64 F.mode, .int .i64 F.size, z0, z1, z2, z3, z4, z5, z6, z7, .int .i64 F.m.live, .int .i64 F.m.garb], [.int .i64 R.num, .int .i64 R.rev, .int .i64 R.mode, .int .i64 R.size, r0, r1, r2, r3, r4, r5, r6, r7, .int .i64 R.m.live, .int .i64 R.m.garb]]) HR2.out HM3.out HL2.out H3.out.sz ?_
    intro v9 X4 ho hg hat
    have H4 := Lh (H3.out.grown HRT.out hg (fun j hj => (ov_lt OV3.out j hj).1) HBQ.out)
    obtain ⟨a9, c9, hv9, -, -⟩ := ov_form ho
    obtain ⟨n9, hn9⟩ : ∃ n9, n9 = (V.take m ++ [[.int .i64 F.num, .int .i64 F.rev, .int .i64 F.mode, .int .i64 F.size, z0, z1, z2, z3, z4, z5, z6, z7, .int .i64 F.m.live, .int .i64 F.m.garb], [.int .i64 R.num, .int .i64 R.rev, .int .i64 R.mode, .int .i64 R.size, r0, r1, r2, r3, r4, r5, r6, r7, .int .i64 R.m.live, .int .i64 R.m.garb]]).length := ⟨_, rfl⟩
    rw [← hn9] at hv9
    subst hv9
    clear hn9
    have OV4 := Lh ho
    refine hK _ _ H4.out.k ?_
    clear hK K ho hg hat
    refine gwr 11 fun K hK => ?_
    go_simp
    refine hK _ _ H4.out.k ?_
    clear hK K
    refine gwr 12 fun K hK => ?_
    obtain ⟨⟨y0, y1, y2, y3⟩, f0, f1, f2, f3⟩ := bx4 H4.out.s
    go_simp
    clear y0 y1 y2 y3 f0 f1 f2 f3
    rw [setCell_eq_setRow _ _ _ _ _ _ _ H4.out.s]
    have hs : (#[.int .i64 id, .int .i64 lim, .bool ro, .slice (some ⟨b, off, none⟩) n c] : Array Value).setIfInBounds 3 (.slice a9 n9 c9) = #[.int .i64 id, .int .i64 lim, .bool ro, .slice a9 n9 c9] := rfl
    rw [hs]
    have HD := Lh (r8_end H4.out HBQ.out OV4.out HFG.out HRG.out slb_u64 #[.int .i64 id, .int .i64 lim, .bool ro, .slice a9 n9 c9])
    refine hK _ _ HD.out.1 ?_
    clear hK K hs
    refine wpAnyH_done (by kernel_rfl) ?_ _
    unfold onlyN
    dsimp only
    go_wp2_with fail
    go_meet
    exact ⟨a9, n9, c9, HD.out.2⟩
   ·obtain ⟨⟨y0, y1, y2, y3⟩, -⟩ := bx4 H1.out.s
    go_simp
    refine hK _ _ H1.out.k ?_
    clear hK K y0 y1 y2 y3
    refine held_two 0 5 rfl rfl rfl rfl (by kernel_rfl) (fun K hK => ?_) (fun K hK => ?_)
    ·go_simp
     have hb := bel_al X1 (.cells #[] 46)
     have hbk := heap_alloc_new X1 (.cells #[] 46)
     have ho := ov_empty (T := 46) 14 X1 (base := BQ) rfl H1.out.sz
     obtain ⟨X2, hX⟩ : ∃ Y, Y = X1.alloc (.cells #[] 46) := ⟨_, rfl⟩
     rw [← hX] at hb hbk ho ⊢
     clear hX
     have H2 := Lh (H1.out.below HRT.out hb)
     have OV2 := Lh ho
     have HM2 := Lh (src_below HR2.out HM1.out hb)
     have HNE := Lh (show X1.heap.size ≠ g2 from by have := HGL.out; omega)
     refine hK _ _ H2.out.k ?_
     clear hK K hb ho hbk
     generalize X1.heap.size = ge at *
     refine gwr 5 fun K hK => ?_
     have p0 : (0 : Int) ≤ (m : Int) := by omega
     have p1 : (m : Int) ≤ (c : Int) := by have := HMC.out; omega
     have p2 := HMC.out
     go_simp
     refine hK _ _ H2.out.k ?_
     clear hK K p0 p1 p2
     refine gwr 6 fun K hK => ?_
     refine wp_app_v lsRG (by rfl) (by rfl) HVT.out.symm OV2.out (M := V.take m) HRT.out H2.out.sr HL1.out H2.out.sz ?_
     intro v9 X3 ho hg hat
     have H3 := Lh (H2.out.grown HRT.out hg (fun j hj => (ov_lt OV2.out j hj).1) HBQ.out)
     rw [List.nil_append] at ho
     obtain ⟨a8, c8, hv9, -, -⟩ := ov_form ho
     rw [HVT.out] at hv9
     subst hv9
     have HM3 := Lh (src_grown HM2.out HR2.out hg (fun e => HNE.out (Option.some.inj e).symm))
     have OV3 := Lh ho
     refine hK _ _ H3.out.k ?_
     clear hK K ho hg hat
     refine gwr 10 fun K hK => ?_
     refine wp_app_v lsRG (by rfl) (by rfl) rfl OV3.out (M := [[.int .i64 F.num, .int .i64 F.rev, .int .i64 F.mode, .int .i64 F.size, z0, z1, z2, z3, z4, z5, z6, z7, .int .i64 F.m.live, .int .i64 F.m.garb], [.int .i64 R.num, .int .i64 R.rev, .int .i64 R.mode, .int .i64 R.size, r0, r1, r2, r3, r4, r5, r6, r7, .int .i64 R.m.live, .int .i64 R.m.garb]]) HR2.out HM3.out HL2.out H3.out.sz ?_
     intro v9 X4 ho hg hat
     have H4 := Lh (H3.out.grown HRT.out hg (fun j hj => (ov_lt OV3.out j hj).1) HBQ.out)
     obtain ⟨a9, c9, hv9, -, -⟩ := ov_form ho
     obtain ⟨n9, hn9⟩ : ∃ n9, n9 = (V.take m ++ [[.int .i64 F.num, .int .i64 F.rev, .int .i64 F.mode, .int .i64 F.size, z0, z1, z2, z3, z4, z5, z6, z7, .int .i64 F.m.live, .int .i64 F.m.garb], [.int .i64 R.num, .int .i64 R.rev, .int .i64 R.mode, .int .i64 R.size, r0, r1, r2, r3, r4, r5, r6, r7, .int .i64 R.m.live, .int .i64 R.m.garb]]).length := ⟨_, rfl⟩
     rw [← hn9] at hv9
     subst hv9
     clear hn9
     have OV4 := Lh ho
     refine hK _ _ H4.out.k ?_
     clear hK K ho hg hat
     refine gwr 11 fun K hK => ?_
     go_simp
     refine hK _ _ H4.out.k ?_
     clear hK K
     refine gwr 12 fun K hK => ?_
     obtain ⟨⟨y0, y1, y2, y3⟩, f0, f1, f2, f3⟩ := bx4 H4.out.s
     go_simp
     clear y0 y1 y2 y3 f0 f1 f2 f3
     rw [setCell_eq_setRow _ _ _ _ _ _ _ H4.out.s]
     have hs : (#[.int .i64 id, .int .i64 lim, .bool ro, .slice (some ⟨b, off, none⟩) n c] : Array Value).setIfInBounds 3 (.slice a9 n9 c9) = #[.int .i64 id, .int .i64 lim, .bool ro, .slice a9 n9 c9] := rfl
     rw [hs]
     have HD := Lh (r8_end H4.out HBQ.out OV4.out HFG.out HRG.out slb_u64 #[.int .i64 id, .int .i64 lim, .bool ro, .slice a9 n9 c9])
     refine hK _ _ HD.out.1 ?_
     clear hK K hs
     refine wpAnyH_done (by kernel_rfl) ?_ _
     unfold onlyN
     dsimp only
     go_wp2_with fail
     go_meet
     exact ⟨a9, n9, c9, HD.out.2⟩
    ·have p0 : (0 : Int) ≤ (m : Int) := by omega
     have p1 : (m : Int) ≤ (c : Int) := by have := HMC.out; omega
     have p2 := HMC.out
     go_simp
     refine hK _ _ H1.out.k ?_
     clear hK K p0 p1 p2
     refine gwr 0 fun K hK => ?_
     go_simp
     have hb := bel_al X1 (.cells #[] 46)
     have hbk := heap_alloc_new X1 (.cells #[] 46)
     have ho := ov_empty (T := 46) 14 X1 (base := BQ) rfl H1.out.sz
     obtain ⟨X2, hX⟩ : ∃ Y, Y = X1.alloc (.cells #[] 46) := ⟨_, rfl⟩
     rw [← hX] at hb hbk ho ⊢
     clear hX
     have H2 := Lh (H1.out.below HRT.out hb)
     have OV2 := Lh ho
     have HM2 := Lh (src_below HR2.out HM1.out hb)
     have HNE := Lh (show X1.heap.size ≠ g2 from by have := HGL.out; omega)
     refine hK _ _ H2.out.k ?_
     clear hK K hb ho hbk
     generalize X1.heap.size = ge at *
     refine gwr 6 fun K hK => ?_
     refine wp_app_v lsRG (by rfl) (by rfl) HVT.out.symm OV2.out (M := V.take m) HRT.out H2.out.sr HL1.out H2.out.sz ?_
     intro v9 X3 ho hg hat
     have H3 := Lh (H2.out.grown HRT.out hg (fun j hj => (ov_lt OV2.out j hj).1) HBQ.out)
     rw [List.nil_append] at ho
     obtain ⟨a8, c8, hv9, -, -⟩ := ov_form ho
     rw [HVT.out] at hv9
     subst hv9
     have HM3 := Lh (src_grown HM2.out HR2.out hg (fun e => HNE.out (Option.some.inj e).symm))
     have OV3 := Lh ho
     refine hK _ _ H3.out.k ?_
     clear hK K ho hg hat
     refine gwr 10 fun K hK => ?_
     refine wp_app_v lsRG (by rfl) (by rfl) rfl OV3.out (M := [[.int .i64 F.num, .int .i64 F.rev, .int .i64 F.mode, .int .i64 F.size, z0, z1, z2, z3, z4, z5, z6, z7, .int .i64 F.m.live, .int .i64 F.m.garb], [.int .i64 R.num, .int .i64 R.rev, .int .i64 R.mode, .int .i64 R.size, r0, r1, r2, r3, r4, r5, r6, r7, .int .i64 R.m.live, .int .i64 R.m.garb]]) HR2.out HM3.out HL2.out H3.out.sz ?_
     intro v9 X4 ho hg hat
     have H4 := Lh (H3.out.grown HRT.out hg (fun j hj => (ov_lt OV3.out j hj).1) HBQ.out)
     obtain ⟨a9, c9, hv9, -, -⟩ := ov_form ho
     obtain ⟨n9, hn9⟩ : ∃ n9, n9 = (V.take m ++ [[.int .i64 F.num, .int .i64 F.rev, .int .i64 F.mode, .int .i64 F.size, z0, z1, z2, z3, z4, z5, z6, z7, .int .i64 F.m.live, .int .i64 F.m.garb], [.int .i64 R.num, .int .i64 R.rev, .int .i64 R.mode, .int .i64 R.size, r0, r1, r2, r3, r4, r5, r6, r7, .int .i64 R.m.live, .int .i64 R.m.garb]]).length := ⟨_, rfl⟩
     rw [← hn9] at hv9
     subst hv9
     clear hn9
     have OV4 := Lh ho
     refine hK _ _ H4.out.k ?_
     clear hK K ho hg hat
     refine gwr 11 fun K hK => ?_
     go_simp
     refine hK _ _ H4.out.k ?_
     clear hK K
     refine gwr 12 fun K hK => ?_
     obtain ⟨⟨y0, y1, y2, y3⟩, f0, f1, f2, f3⟩ := bx4 H4.out.s
     go_simp
     clear y0 y1 y2 y3 f0 f1 f2 f3
     rw [setCell_eq_setRow _ _ _ _ _ _ _ H4.out.s]
     have hs : (#[.int .i64 id, .int .i64 lim, .bool ro, .slice (some ⟨b, off, none⟩) n c] : Array Value).setIfInBounds 3 (.slice a9 n9 c9) = #[.int .i64 id, .int .i64 lim, .bool ro, .slice a9 n9 c9] := rfl
     rw [hs]
     have HD := Lh (r8_end H4.out HBQ.out OV4.out HFG.out HRG.out slb_u64 #[.int .i64 id, .int .i64 lim, .bool ro, .slice a9 n9 c9])
     refine hK _ _ HD.out.1 ?_
     clear hK K hs
     refine wpAnyH_done (by kernel_rfl) ?_ _
     unfold onlyN
     dsimp only
     go_wp2_with fail
     go_meet
     exact ⟨a9, n9, c9, HD.out.2⟩
 case rest =>
  obtain ⟨a9, n9, c9, HD⟩ := hcut
  rename World => X9
  have HZ9 := Lh HD.out.2.1
  have B9 := Lh HD.out.2.2.2.2.2
  obtain ⟨⟨y0, y1, y2, y3⟩, -⟩ := bx4 HD.out.1
  go_wp2_with ((with_reducible refine storeRS (w.heap.size + 1) _ #[.int .i64 id, .int .i64 lim, .bool ro, .slice a9 n9 c9] ?_ ?_ HZ9.out rfl rfl lv_one ?_); exact rfl; exact rfl)
  refine bodyPost_ret (results_rt (S := 24) rfl _ _ (w.heap.size + 1) #[.int .i64 id, .int .i64 lim, .bool ro, .slice a9 n9 c9] rfl (setRow_heap _ _ _ _ _ _ HZ9.out) Tryz.underlying24 rfl infoRS4) rfl ?_
  refine rot_ok HRO.out ⟨⟨_, rfl, _, rfl, ?_, HJ.out⟩, below_setRowM B9.out (Nat.le_succ _) _⟩
  exact rot_gl HN.out HVT.out HVL.out HMM.out (ov_move HD.out.2.2.1 fun b hb _ => setRow_other _ _ _ _ (by have := (ov_lt HD.out.2.2.1 b hb).1; have := HBQ.out.2; omega)) (fun k hk => gc_setRow (gc_below (HGC.out k hk) B9.out) HZ9.out zeroS_u64) HFE.out HRE.out (gc_setRow HD.out.2.2.2.1 HZ9.out zeroS_u64) (gc_setRow HD.out.2.2.2.2.1 HZ9.out zeroS_u64)
end Go.Proofs.YtgbnclepgjcakaaGreat.Gf
