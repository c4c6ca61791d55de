/- What is proved here: the contract of the reference's Encode (layer 7). No condition. -/
import Derived.Test.YtekdnloabhnngaaDoorR7
import Derived.Test.YtekdnloabhnngaaDoorQp
import Derived.ArgAppend
import Derived.Lib.SlBytesConst
namespace Go.Proofs.YtekdnloabhnngaaDoor.Gf
open Go Go.ChangeShapes Go.WideShapes Go.ChangeAt Go.RowKit Go.Proofs.YtekdnloabhnngaaDoor.By Go.Proofs.YtekdnloabhnngaaDoor.Crc Go.Proofs.YtekdnloabhnngaaDoor.Qt

/-- A call that answers bytes of its own and an error. -/
def EO (w : World) (l : List Nat) (err : Int) (e : Ending) (w' : World) : Prop := (∃ v, e = .returned (.tuple #[v, .int .i64 err]) ∧ Own w' w.heap.size v l) ∧ Below w.heap.size w w'
/-- What a function that boxes its parameter and collects bytes has between two steps. -/
structure St7 (w W : World) (bx : Array Value) (v : Value) (L : List Nat) : Prop where
  below : Below w.heap.size w W
  box : W.heap[w.heap.size]? = some (.cells bx 23 (0, 0))
  own : Own W (w.heap.size + 1) v L
structure SB (w : World) (bx : Array Value) (W : World) : Prop where
  below : Below w.heap.size w W
  box : W.heap[w.heap.size]? = some (.cells bx 23 (0, 0))
theorem St7.later {w W W' : World} {bx : Array Value} {v : Value} {L : List Nat} (h : St7 w W bx v L) (hb : Below W.heap.size W W') : St7 w W' bx v L :=
  ⟨bt h.below hb, (hb.block _ (lt_of_some h.box)).trans h.box, own_below' h.own hb⟩
theorem St7.app {w W W' : World} {bx : Array Value} {v v' : Value} {L L' : List Nat} (h : St7 w W bx v L) (hg : W.grownBy W' v.ownBlock) (ho : Own W' (w.heap.size + 1) v' L') : St7 w W' bx v' L' :=
  ⟨h.below.grown hg h.below.size fun q hq => by have := h.own.lt q hq; omega, (hg.block _ (lt_of_some h.box) fun e => by have := h.own.lt _ e.symm; omega).trans h.box, ho⟩
theorem St7.size {w W : World} {bx : Array Value} {v : Value} {L : List Nat} (h : St7 w W bx v L) : w.heap.size + 1 ≤ W.heap.size := lt_of_some h.box
/-- append to a slice that has no room, whoever's it is. -/
theorem app_full {ops : Array Oper} {rest : List Oper} {dst : Option Tmp} {s x : Operand} {pos : String} {after : Array Edge} {ty : TypeId} {a : Act} {W : World} {Q : Exit → Act → World → Prop}
    {g o cap : Nat} {y : Value} {l m : List Nat} (hs : a.eval s = .slice (some ⟨g, o, none⟩) l.length cap) (hy : a.eval x = y) (hv : Sl W (.slice (some ⟨g, o, none⟩) l.length cap) l) (hl : 0 < l.length) (hx : Sl W y m) (hm : 0 < m.length) (hf : cap < l.length + m.length) (hlm : l.length + m.length ≤ 100000000)
    (h : ∀ v' w', Own w' W.heap.size v' (l ++ m) → W.grownBy w' none → wpList Tryd.prog ops Q rest (a.put dst v') w') : wpList Tryd.prog ops Q (⟨dst, .call { callee := .builtin .append, args := #[s, x], argTypes := #[26, 26] }, ty, pos, after, none⟩ :: rest) a W := by
  refine wpList_plain rfl fun K hK => ?_
  obtain ⟨i, hi, hz0, hz1, hz2⟩ := info_parts infoB
  obtain ⟨b, off, c, rfl, -, -, hc⟩ := sl_cells hx hm
  obtain ⟨b0, off0, c0, hv0, -, -, hc0⟩ := sl_cells hv hl
  obtain ⟨⟨rfl, rfl⟩, rfl⟩ : (g = b0 ∧ o = off0) ∧ cap = c0 := by simpa using hv0
  have cell : ∀ (L : List Nat) (p q : Nat), (∀ k, k < L.length → W.cell? ⟨p, q + k, none⟩ = some (.int .u8 ((L.getD k 0 : Nat) : Int))) → ∀ j u, (cellsOf L)[j]? = some u → W.cell? ((⟨p, q, none⟩ : Addr).add j) = some u := fun L p q hh j u hu => by
    simp only [cellsOf, List.getElem?_map, Option.map_eq_some_iff] at hu
    obtain ⟨n, hn, rfl⟩ := hu
    have hj : j < L.length := (List.getElem?_eq_some_iff.1 hn).1
    rw [Addr.add_lit, hh j hj]
    simp [List.getD, hn]
  obtain ⟨v', w', hr, h2, h3⟩ := run_append_arg_grows (P := Tryd.prog) W 26 ty 5 i (.int .u8 0) 1 1 Tryd.underlying26 hi hz0 hz1 hz2 rfl (by decide) ⟨g, o, none⟩ l.length cap (cellsOf l) (by rw [cellsOf_length, Nat.mul_one]) (cell l g o hc0) ⟨b, off, none⟩ m.length c (cellsOf m) (by rw [cellsOf_length, Nat.mul_one]) (cell m b off hc) hf (by unfold maxLen; omega) (by omega)
  have hall : ∀ z ∈ l ++ m, z < 256 := fun z hz => (List.mem_append.1 hz).elim (hv.1 z) (hx.1 z)
  unfold Oper.wp execOp
  simp only [resolve, invoke, builtin, Sem.run_bind, Sem.run_pure, Result.andThen_ok, List.map_toArray, List.map_cons, List.map_nil, hs, hy, hr]
  exact hK _ _ (h v' w' ⟨hall, by rw [List.length_append, cellsOf_append]; exact h2⟩ h3)
/-- A slice of another call's own stays where an append grows ours. -/
theorem own_grown {W W' : World} {B B2 : Nat} {v u : Value} {L M : List Nat} (h : Own W B u M) (hg : W.grownBy W' v.ownBlock) (_ho : Own W B2 v L) (hs : ∀ q, v.ownBlock = some q → q < B) : Own W' B u M :=
  own_keep h fun k hk => by
    have h1 := h.lt k hk
    have h2 : k < W.heap.size := (h.2.lt k hk).2
    exact hg.block k h2 fun e => by have := hs k e.symm; omega
def onlyN (Q : Exit → Act → World → Prop) : Exit → Act → World → Prop
  | .normal, a, w => Q .normal a w
  | _, _, _ => False
theorem wp_onlyN {P : Program} {c : Code} {Q : Exit → Act → World → Prop} {a : Act} {w : World} (h : c.wp P (onlyN Q) a w) : c.wp P Q a w :=
  Code.wp_mono (fun e a w h => by cases e <;> first | exact h | exact h.elim) h
theorem held_two {P : Program} {ops : Array Oper} {md : Region.Mode} {Q : Exit → Act → World → Prop} {S : World → Prop} {fuel : Nat} {listed : Array Bool} {a : Act} {w : World} (i k : Nat) {oi ok : Oper} (hi : ops[i]? = some oi) (hk : ops[k]? = some ok) (hg : oi.guard = none) (hg2 : ok.guard = none) (hr : Region.ready md ops listed = [i, k])
    (h : ∀ K : Act → World → Prop, (∀ a' w', S w' → wpAnyH P md ops Q S fuel (listed.setIfInBounds i true) a' w' → K a' w') → oi.wp P a w K Q)
    (h2 : ∀ K : Act → World → Prop, (∀ a' w', S w' → wpAnyH P md ops Q S fuel (listed.setIfInBounds k true) a' w' → K a' w') → ok.wp P a w K Q) : wpAnyH P md ops Q S (fuel + 1) listed a w := by
  refine wpAnyH_all hr (by simp) fun j hj => ?_
  have hj2 : j = i ∨ j = k := by simpa using hj
  rcases hj2 with rfl | rfl
  · unfold wpOp
    simp only [hi]
    rw [if_pos (by simp [Region.wanted, hg])]
    exact Or.inl (h _ fun a' w' h1 h2 => ⟨h1, h2⟩)
  · unfold wpOp
    simp only [hk]
    rw [if_pos (by simp [Region.wanted, hg2])]
    exact Or.inl (h2 _ fun a' w' h1 h2 => ⟨h1, h2⟩)
theorem wp_region_headsS {P : Program} {id : Nat} {Q : Exit → Act → World → Prop} {a : Act} {w : World} {l : List Oper} (S : World → Prop) (hd : List Nat) (fuel : Nat) (hm : P.follows .mixedOrders = true) (hQ : ∀ c (a : Act) d v w, Q (.panic c) (a.put d v) w → Q (.panic c) a w)
    (hB : (Region.noSelect l.toArray && headsB .any l.toArray hd (Array.replicate l.toArray.size false)) = true) (hf : l.toArray.size = hd.length + fuel) (h1 : (pickOps l.toArray hd).map some = hd.map (fun t => l.toArray[t]?)) (hS : S w.drew)
    (h : wpHeads P l.toArray S (fun a' => wpAnyH P .any l.toArray Q S fuel (listAll hd (Array.replicate l.toArray.size false)) a' w.drew) (pickOps l.toArray hd) a) : (Code.region id l.toArray true).wp P Q a w := by
  simp only [Bool.and_eq_true] at hB
  refine wp_region_held (S := S) hm ?_
  have := held_heads (P := P) (md := .any) (Q := Q) hB.1 hQ hS hd _ _ a hB.2 h1 h
  rw [hf] at *
  exact this
theorem held_g {P : Program} {ops : Array Oper} {md : Region.Mode} {Q : Exit → Act → World → Prop} {S : World → Prop} {fuel : Nat} {listed : Array Bool} {a : Act} {w : World} (i : Nat) {oi : Oper} (hi : ops[i]? = some oi) (hg : Region.wanted oi (yielded ops a.tmps) = true) (hr : Region.ready md ops listed = [i])
    (h : ∀ K : Act → World → Prop, (∀ a' w', S w' → wpAnyH P md ops Q S fuel (listed.setIfInBounds i true) a' w' → K a' w') → oi.wp P a w K Q) : wpAnyH P md ops Q S (fuel + 1) listed a w := by
  refine wpAnyH_all hr (by simp) fun j hj => ?_
  obtain rfl : j = i := by simpa using hj
  unfold wpOp
  simp only [hi]
  rw [if_pos hg]
  exact Or.inl (h _ fun a' w' h1 h2 => ⟨h1, h2⟩)
set_option maxRecDepth 100000 in
set_option maxHeartbeats 6400000 in
theorem rencode7_ok (s g r : Nat) (w : World) (h : okS s g r = true) : Calls Tryd.prog 10 #[SV s g r] w (EO w (encS s g r) 0) := by
  have RV := Lib.hid (rvalid7_any s g r)
  rw [h] at RV
  obtain ⟨-, h2, -, h4, -, h6⟩ := okS_iff.1 h
  unfold EO
  unfold SV at RV ⊢
  have HB0 := Lib.hid ((Below.refl w.heap.size w).alloc (Nat.le_refl _) (.cells #[.int .i64 (s : Int), .int .i64 (g : Int), .int .i64 (r : Int)] 23))
  have X0 := Lib.hid (heap_alloc_new w (.cells #[.int .i64 (s : Int), .int .i64 (g : Int), .int .i64 (r : Int)] 23))
  clear h
  go_enter Tryd.func10, Tryd.ntmps10
  go_wp2_with fail
  refine (RV.out _).mono ?_
  rintro e W2 ⟨rfl, hb2⟩
  have B2 := Lib.hid (bt HB0.out hb2)
  have X2 := Lib.hid ((hb2.block w.heap.size (lt_of_some X0.out)).trans X0.out)
  have AL := (Below.refl W2.heap.size W2).alloc (Nat.le_refl _) (.cells (cellsOf [78, 86, 79, 76]).toArray 5 (4, 5))
  have hconv := Lib.run_convert_bytes_const (P := Tryd.prog) W2 26 5 (cellsOf [78, 86, 79, 76]).toArray 4 4 Tryd.underlying26 Tryd.underlying5
  have hsn := sl_block (w := W2.alloc (.cells (cellsOf [78, 86, 79, 76]).toArray 5 (4, 5))) (n := 4) (l := [78, 86, 79, 76]) (by simp) rfl (by unfold maxLen; omega) rfl (heap_alloc_new W2 _)
  rw [show (cellsOf [78, 86, 79, 76]).toArray = #[.int .u8 78, .int .u8 86, .int .u8 79, .int .u8 76] from rfl] at hconv AL hsn
  simp only [List.size_toArray, List.length_cons, List.length_nil, Nat.zero_add, Nat.reduceAdd] at hconv
  have SN := Lib.hid hsn
  have BA := Lib.hid (bt B2.out AL)
  have XA := Lib.hid ((AL.block _ (lt_of_some X2.out)).trans X2.out)
  obtain ⟨c0, c1, c2, -, -, -⟩ := bx3 X2.out
  obtain ⟨d0, d1, d2, -, -, -⟩ := bx3 XA.out
  have HRG := Lib.hid (And.intro h2 (And.intro h4 h6))
  have us : IntKind.u64.wrap (s : Int) = (s : Int) := IntWalk.u64_in _ (by omega)
  have ug : IntKind.u64.wrap (g : Int) = (g : Int) := IntWalk.u64_in _ (by omega)
  have ur : IntKind.u64.wrap (r : Int) = (r : Int) := IntWalk.u64_in _ (by omega)
  clear AL hb2 hsn h2 h4 h6
  go_wp2_with fail
  refine (number_any s 2 _ (by omega)).mono ?_
  generalize W2.heap.size = gn at *
  generalize W2.alloc (.cells #[.int .u8 78, .int .u8 86, .int .u8 79, .int .u8 76] 5 (4, 5)) = W3 at *
  rintro e Wa ⟨⟨sa, rfl, hoa⟩, hba⟩
  obtain ⟨aa, na, ca, rfl, -⟩ := own_form hoa
  have OA := Lib.hid hoa
  have SN2 := Lib.hid (sl_below SN.out hba)
  have B4 := Lib.hid (bt BA.out hba)
  have X4 := Lib.hid ((hba.block _ (lt_of_some XA.out)).trans XA.out)
  clear hoa hba c0 c1 c2 d0 d1 d2 hconv
  go_wp2_with (at_builtin; refine app_full (dst := some 14) (l := [78, 86, 79, 76]) (m := beL 2 s) ?_ ?_ SN2.out (by decide) OA.out.sl (by rw [beL_length]; decide) (by rw [beL_length]; decide) (by rw [beL_length]; decide) ?_; exact rfl; exact rfl; intro v5 w5 ho5 hg5; have S5 : Hid (St7 w w5 #[.int .i64 (s : Int), .int .i64 (g : Int), .int .i64 (r : Int)] v5 ([78, 86, 79, 76] ++ beL 2 s)) := ⟨B4.out.grown hg5 B4.out.size (fun q hq => by cases hq), (hg5.block _ (lt_of_some X4.out) (fun e => by cases e)).trans X4.out, own_base (lt_of_some X4.out) ho5⟩; clear ho5 hg5; obtain ⟨sa5, sn5, sc5, hv5, -⟩ := own_form S5.out.own; subst hv5)
  refine wp_onlyN ?_
  have b0 : SB w #[.int .i64 (s : Int), .int .i64 (g : Int), .int .i64 (r : Int)] w5.drew := ⟨S5.out.below.drew, S5.out.box⟩
  have S6 := Lib.hid (S5.out.later (W' := w5.drew) ⟨rfl, rfl, rfl, Nat.le_refl _, fun _ _ => rfl⟩)
  refine wp_region_headsS (SB w #[.int .i64 (s : Int), .int .i64 (g : Int), .int .i64 (r : Int)]) [0, 1, 2, 3, 6, 7, 8] 5 (by kernel_rfl) (fun _ _ _ _ _ h => h.elim) (by kernel_rfl) (by rfl) (by rfl) b0 ?_
  simp only [pickOps, List.filterMap_cons, List.filterMap_nil, List.getElem?_toArray, List.getElem?_cons_zero, List.getElem?_cons_succ]
  refine wpHeads_step (fun K hK => ?_)
  go_simp
  refine ⟨_, fun _ _ => rfl, hK _ ?_⟩
  clear hK K
  refine wpHeads_step (fun K hK => ?_)
  go_simp
  refine ⟨_, fun _ _ => rfl, hK _ ?_⟩
  clear hK K
  refine wpHeads_step (fun K hK => ?_)
  go_simp
  refine ⟨.int .i64 (g : Int), fun w' hw' => by rw [(bx3 hw'.box).2.1]; rfl, hK _ ?_⟩
  clear hK K
  refine wpHeads_step (fun K hK => ?_)
  go_simp
  refine ⟨_, fun _ _ => rfl, hK _ ?_⟩
  clear hK K
  refine wpHeads_step (fun K hK => ?_)
  go_simp
  refine ⟨_, fun _ _ => rfl, hK _ ?_⟩
  clear hK K
  refine wpHeads_step (fun K hK => ?_)
  go_simp
  refine ⟨.int .i64 (r : Int), fun w' hw' => by rw [(bx3 hw'.box).2.2.1]; rfl, hK _ ?_⟩
  clear hK K
  refine wpHeads_step (fun K hK => ?_)
  go_simp
  refine ⟨_, fun _ _ => rfl, hK _ ?_⟩
  clear hK K
  refine wpHeads_nil ?_
  have HS7 : Hid (∀ W v L, St7 w W #[.int .i64 (s : Int), .int .i64 (g : Int), .int .i64 (r : Int)] v L → SB w #[.int .i64 (s : Int), .int .i64 (g : Int), .int .i64 (r : Int)] W) := fun W v L h => ⟨h.below, h.box⟩
  generalize w5.drew = W6 at *
  refine held_one 4 rfl rfl (by kernel_rfl) fun K hK => ?_
  go_simp
  go_at_call 20
  refine (number_any g 2 _ (by omega)).mono ?_
  rintro e W7 ⟨⟨sb, rfl, hob⟩, hbb⟩
  have S7 := Lib.hid (S6.out.later hbb)
  obtain ⟨ab, nb, cb, rfl, -⟩ := own_form hob
  have OB := Lib.hid hob
  refine hK _ _ (HS7.out _ _ _ S7.out) ?_
  clear hK K hob hbb
  refine held_one 5 rfl rfl (by kernel_rfl) fun K hK => ?_
  refine wp_app rfl rfl S7.out.own OB.out.sl (by simp [beL_length]) S7.out.size ?_
  intro v8 W8 ho8 hg8
  have S8 := Lib.hid (S7.out.app hg8 ho8)
  obtain ⟨a8, n8, c8, rfl, -⟩ := own_form S8.out.own
  refine hK _ _ (HS7.out _ _ _ S8.out) ?_
  clear hK K ho8 hg8
  refine held_one 9 rfl rfl (by kernel_rfl) fun K hK => ?_
  go_simp
  go_at_call 20
  refine (number_any r 4 _ (by omega)).mono ?_
  rintro e W9 ⟨⟨sb, rfl, hob⟩, hbb⟩
  have S9 := Lib.hid (S8.out.later hbb)
  obtain ⟨ad, nd, cd, rfl, -⟩ := own_form hob
  have OD := Lib.hid hob
  refine hK _ _ (HS7.out _ _ _ S9.out) ?_
  clear hK K hob hbb
  refine held_one 10 rfl rfl (by kernel_rfl) fun K hK => ?_
  refine wp_app rfl rfl S9.out.own OD.out.sl (by simp [beL_length]) S9.out.size ?_
  intro v10 W10 ho10 hg10
  have S10 := Lib.hid (S9.out.app hg10 ho10)
  obtain ⟨a10, n10, c10, rfl, -⟩ := own_form S10.out.own
  refine hK _ _ (HS7.out _ _ _ S10.out) ?_
  clear hK K ho10 hg10
  refine held_one 11 rfl rfl (by kernel_rfl) fun K hK => ?_
  go_simp
  refine hK _ _ (HS7.out _ _ _ S10.out) ?_
  clear hK K
  refine wpAnyH_done (by kernel_rfl) ?_ _
  unfold onlyN
  dsimp only
  rw [show [78, 86, 79, 76] ++ beL 2 s ++ beL 2 g ++ beL 4 r = bodS s g r from rfl] at S10
  go_wp2_with fail
  refine (check_any _ _ _ S10.out.own.sl).mono ?_
  rintro e W11 ⟨⟨sc, rfl, hoc⟩, hbc⟩
  have S11 := Lib.hid (S10.out.later hbc)
  obtain ⟨af, nf, cf, rfl, -⟩ := own_form hoc
  have OF := Lib.hid hoc
  clear hoc hbc
  go_wp2_with (at_builtin; refine app_sl (dst := some 29) ?_ ?_ S11.out.own OF.out.sl (by simp [bodS_length, leL_length]) S11.out.size ?_; exact rfl; exact rfl; intro v12 w12 ho12 hg12; have S12 := Lib.hid (S11.out.app hg12 ho12); clear ho12 hg12)
  go_ret2
  exact ⟨⟨_, rfl, own_base (by omega) S12.out.own⟩, S12.out.below⟩
set_option maxRecDepth 100000 in
theorem rencode7_bad (s g r : Int) (w : World) (h : okS s g r = false) : Calls Tryd.prog 10 #[SV s g r] w (EO w [] 1) := by
  have RV := Lib.hid (rvalid7_any s g r)
  rw [h] at RV
  unfold EO
  unfold SV at RV ⊢
  have HB0 := Lib.hid ((Below.refl w.heap.size w).alloc (Nat.le_refl _) (.cells #[.int .i64 s, .int .i64 g, .int .i64 r] 23))
  clear h
  go_enter Tryd.func10, Tryd.ntmps10
  go_wp2_with fail
  refine (RV.out _).mono ?_
  rintro e W2 ⟨rfl, hb2⟩
  have B2 := Lib.hid (bt HB0.out hb2)
  clear hb2
  go_wp2
  go_ret2
  exact ⟨⟨_, rfl, own_nil _ _⟩, B2.out⟩
end Go.Proofs.YtekdnloabhnngaaDoor.Gf
