/- What is proved here: for every input the law Crc32cJoins returns true and leaves its arguments as they were. Condition: package variable nibbles starts as the program's text lays it (the card ties it); nothing else. -/
import Derived.Test.YtffpbmlpnclmkaaDoorLift
import Derived.Test.YtffpbmlpnclmkaaDoorApp
namespace Go.Proofs.YtffpbmlpnclmkaaDoor.crc32cJoins
open Go Go.ChangeShapes Go.WideShapes Go.ChangeAt Go.RowKit Go.Proofs.YtffpbmlpnclmkaaDoor.Crc

set_option maxRecDepth 100000 in
set_option maxHeartbeats 1600000 in
theorem walk {w : World} (v : Value) (l : List Nat) (hs : Sl w v l) (v2 : Value) (l2 : List Nat) (hs2 : Sl w v2 l2) (ht : Tab w) :
    Calls Tryd.prog 6 #[v, v2] w fun e w' => e = .returned (.bool true) ∧ Below w.heap.size w w' := by
  have HT := Lib.hid ht
  have HS := Lib.hid hs
  have HS2 := Lib.hid hs2
  have hl1 : (l.take 2000).length ≤ 2000 := List.length_take_le _ _
  have hl2 : (l2.take 2000).length ≤ 2000 := List.length_take_le _ _
  obtain ⟨L1, hL1⟩ : ∃ L1, L1 = l.take 2000 := ⟨_, rfl⟩
  obtain ⟨L2, hL2⟩ : ∃ L2, L2 = l2.take 2000 := ⟨_, rfl⟩
  rw [← hL1] at hl1
  rw [← hL2] at hl2
  have HL1 := Lib.hid hL1
  have HL2 := Lib.hid hL2
  clear ht hs hs2 hL1 hL2
  go_enter Tryd.func6, Tryd.ntmps6
  go_wp2_with fail
  refine (cut_form 2000 L1 HL1.out HS.out (by decide)).mono ?_
  rintro e w' ⟨⟨a1, c1, rfl, hx⟩, rfl⟩
  have HX := Lib.hid hx
  clear hx
  go_wp2_with fail
  refine (cut_form 2000 L2 HL2.out HS2.out (by decide)).mono ?_
  rintro e w' ⟨⟨a2, c2, rfl, hy⟩, rfl⟩
  have HY := Lib.hid hy
  clear hy
  have e1 := sum_any _ L1 w HX.out HT.out
  have e2 := sum_any _ L2 w HY.out HT.out
  have e3 := combine_any (ext 0 L1) (ext 0 L2) L2.length w (ext_lt (by decide) HX.out.1) (ext_lt (by decide) HY.out.1) (by omega) HT.out
  rw [join_ext L1 L2 HY.out.1] at e3
  have e4 := fun v3 w3 (h : Sl w3 v3 ([] ++ L1 ++ L2)) (ht : Tab w3) => sum_any v3 _ w3 h ht
  simp only [List.nil_append] at e4
  generalize ext 0 (L1 ++ L2) = T at e3 e4
  generalize ext 0 L1 = S1 at e1 e3
  generalize ext 0 L2 = S2 at e2 e3
  have E1 := Lib.hid e1
  have E2 := Lib.hid e2
  have E3 := Lib.hid e3
  have E4 := Lib.hid e4
  clear e1 e2 e3 e4
  go_wp2_with fail
  refine E1.out.mono ?_
  rintro e w' ⟨rfl, rfl⟩
  go_wp2_with fail
  refine E2.out.mono ?_
  rintro e w' ⟨rfl, rfl⟩
  go_wp2_with fail
  refine E3.out.mono ?_
  rintro e w1 ⟨rfl, hB⟩
  have hsz := hB.size
  have hB0 := hB.alloc hsz (.cells #[] 5)
  have HO0 := Lib.hid (own_empty w1 hsz)
  go_wp2_with (first
    | ((with_reducible refine app_sl (dst := some 18) ?_ ?_ HO0.out (sl_below HX.out hB0) (by simp; omega) (by simp; omega) ?_); exact rfl; exact rfl; intro v3 w3 ho3 hg3; have hB1 := hB0.grown hg3 (by simp; omega) (own_block HO0.out); have HO1 := Lib.hid ho3; have hs1 := hB1.size; clear ho3 hg3)
    | ((with_reducible refine app_sl (dst := some 20) ?_ ?_ HO1.out (sl_below HY.out hB1) (by simp; omega) hs1 ?_); exact rfl; exact rfl; intro v4 w4 ho4 hg4; have hB3 := hB1.grown hg4 hs1 (own_block HO1.out); have HO3 := Lib.hid ho4; clear ho4 hg4))
  have HT3 := Lib.hid (tab_below HT.out hB3)
  refine (E4.out _ _ (by have := HO3.out.sl; simpa using this) HT3.out).mono ?_
  rintro e w' ⟨rfl, rfl⟩
  go_wp2_with fail
  refine (awake_any _ HT3.out).mono ?_
  rintro e w5 ⟨rfl, hB5⟩
  go_wp2_with fail
  go_ret
  exact ⟨rfl, hB3.trans (hB5.mono hB3.size)⟩

end Go.Proofs.YtffpbmlpnclmkaaDoor.crc32cJoins
namespace Go.Proofs.YtffpbmlpnclmkaaDoor.crc32cJoins
open Go Go.ChangeShapes Go.WideShapes Go.ChangeAt Go.RowKit Go.Proofs.YtffpbmlpnclmkaaDoor.Crc

/-- What the walk gives, for every argument and every world that holds the laid variables. -/
theorem contract (H : Type) (enc : TypeId × Value → H) (W : World) (base : Nat) (args : Array Value) (ds gs : List (DataW H)) (before : List MemPlace)
    (hval : ∀ (j : Nat) t v, Tryd.f6.params[j]? = some t → args[j]? = some v → Value.okWide Tryd.prog W .any base t v)
    (hW : DataW.Whole enc Tryd.prog Tryd.f6.params.toList Rows.crc32cJoinsSpec.vars false W args.toList ds gs before) (hL : laidMetH Tryd.prog Rows.crc32cJoinsRow.laid W) :
    Calls Tryd.prog 6 args W fun e W' => ∃ v, e = .returned v ∧ Rows.crc32cJoinsSpec.post enc Tryd.prog Tryd.f6 false true false false W args v W' := by
  have hW' := hW
  obtain ⟨p, q, hA0, hV, rfl, hfz, hnd⟩ := hW
  have hA : DataW.TrodAll enc Tryd.prog W 0 (fun _ => true) true Tryd.f6.params.toList args.toList ds p := hA0
  rw [Tryd.params6] at hA hval
  obtain ⟨v0, vs0, d0, ds0, p0, q0, hargs, rfl, rfl, h0, r0⟩ := trodAll_cons hA
  obtain ⟨v1, vs1, d1, ds1, p1, q1, rfl, rfl, rfl, h1, r1⟩ := trodAll_cons r0
  obtain ⟨rfl, rfl, rfl⟩ := trodAll_nil r1
  obtain rfl : args = #[v0, v1] := by cases args; simp_all
  obtain ⟨rfl, rfl⟩ := trodVars_none hV
  have k0 := h0
  have lt0 : ∀ x ∈ p0, x.block < W.heap.size := by obtain ⟨m, hm⟩ := k0; exact DataW.trod_lt m _ _ _ hm
  obtain ⟨l0, s0⟩ := sl_open (hval 0 22 v0 rfl rfl) h0
  have k1 := h1
  have lt1 : ∀ x ∈ p1, x.block < W.heap.size := by obtain ⟨m, hm⟩ := k1; exact DataW.trod_lt m _ _ _ hm
  obtain ⟨l1, s1⟩ := sl_open (hval 1 22 v1 rfl rfl) h1
  clear hA0
  refine (walk v0 l0 s0 v1 l1 s1 (tab_of hL)).mono fun e W' ⟨he, bel⟩ => ?_
  subst he
  exact ⟨_, rfl, _, _, _, [], _, [], hW', trodAll_mk1 (shut_bool Tryd.underlying4 _), (trodAll_cons_mk (Below.trod laidOut (by kernel_rfl) (of_decide_eq_true (by kernel_rfl)) k0 bel lt0) (trodAll_cons_mk (Below.trod laidOut (by kernel_rfl) (of_decide_eq_true (by kernel_rfl)) k1 bel lt1) trodAll_mk0)), rfl, bel.frame _, fun h => by cases h⟩

theorem laid_met (os : Os) : laidMet Tryd.prog Rows.crc32cJoinsRow.laid ((laidWorld os).forCall (fun _ _ => 0) ⟨#[], #[Value.slice none 0 0, Value.slice none 0 0], []⟩).memory :=
  laidMet_of_run' 8 (by kernel_rfl) (by kernel_rfl)
theorem reads (os : Os) {H : Type} (enc : TypeId × Value → H) : ∃ places, DataW.whole enc Tryd.prog ((laidWorld os).forCall (fun _ _ => 0) ⟨#[], #[Value.slice none 0 0, Value.slice none 0 0], []⟩).memory Tryd.f6.params.toList Rows.crc32cJoinsSpec.vars false #[Value.slice none 0 0, Value.slice none 0 0].toList 8 = some ([.nil, .nil], [], places) :=
  ⟨[], by kernel_rfl⟩

set_option maxRecDepth 100000 in
theorem lifted (os : Os) (started : os.Started) (H : Type) (enc : TypeId × Value → H) (F : Stop.Interp) :
    ReturnsInHanded {} Tryd.checked os 6 .any ((OpenSpec.ofChange Rows.crc32cJoinsSpec).preRow enc Tryd.prog Tryd.f6 Rows.crc32cJoinsRow.domain false Rows.crc32cJoinsRow.laid) (((OpenSpec.ofChange Rows.crc32cJoinsSpec).at F).post enc Tryd.prog Tryd.f6 false true false false) := by
  obtain ⟨places, hx⟩ := reads os enc
  refine returnsInHanded_of_row (C := Tryd.checked) (s := OpenSpec.ofChange Rows.crc32cJoinsSpec) own started (by kernel_rfl) Tryd.func6
    (witness_row_at (enc := enc) (C := Tryd.checked) false (laidWorld os) #[Value.slice none 0 0, Value.slice none 0 0] rfl (by kernel_rfl) (by kernel_rfl) (by kernel_rfl)
      (OpenSpec.preRow_of_cond 8 hx (by kernel_rfl) (fun k hk => by cases hk) (by kernel_rfl) (laid_met os))) ?_
  intro W base args ds gs before hval hW _ _ _ hL _ _
  exact contract H enc W base args ds gs before hval hW hL

theorem said : Rows.Crc32cJoinsSaid :=
  OpenClaim.holds_of_cond 6 Tryd.f6 rfl rfl rfl rfl rfl rfl rfl ⟨rfl, rfl, rfl, rfl, rfl⟩ rfl rfl rfl rfl rfl (by kernel_rfl) Tryd.func6 (by kernel_rfl)
    (of_decide_eq_true (by kernel_rfl)) (by unfold Func.isWrapper; first | (rw [if_pos (by decide +kernel)]; kernel_rfl) | (rw [if_neg (by decide +kernel)]; exact ⟨rfl, rfl⟩))
    (fun os started H enc _ F => by rw [OpenClaim.pre_eq_preRow]; exact lifted os started H enc F)

theorem plain (f : FuncId) (fn : Func) (hf : Tryd.pinned.checked.prog.funcNamed "needlestore/needlestorelaw01.Crc32cJoins" = some f) (hfn : Tryd.pinned.checked.prog.funcs[f]? = some fn) :
    false = Tryd.pinned.checked.prog.looks [] ∧ ∀ (j : Nat) t, fn.params[j]? = some t → Tryd.pinned.checked.prog.wantsStandIn t = false := by
  obtain rfl : f = 6 := Option.some.inj ((show Tryd.prog.funcNamed "needlestore/needlestorelaw01.Crc32cJoins" = some 6 by kernel_rfl).symm.trans hf) |>.symm
  obtain rfl : fn = Tryd.f6 := (Option.some.inj (Tryd.func6.symm.trans hfn)).symm
  refine ⟨by kernel_rfl, fun j t ht => ?_⟩
  rw [Tryd.params6] at ht
  have hm := Array.mem_of_getElem? ht
  simp at hm
  subst hm
  exact (show Tryd.prog.wantsStandIn 22 = false by kernel_rfl)

/-- The card. -/
theorem card : Rows.Crc32cJoinsCardSaid :=
  Claim7.holds_tied_plain_at .later [] _ _ _ _ said (fun _ h => by cases h) (by kernel_rfl) (fun _ h => by cases h) crc32cJoins_row_tie rfl ⟨rfl, rfl⟩ (by kernel_rfl) rfl plain (by kernel_rfl)
end Go.Proofs.YtffpbmlpnclmkaaDoor.crc32cJoins
namespace Go.Proofs.YtffpbmlpnclmkaaDoor
theorem crc32cJoins_holds : Rows.Crc32cJoinsCardSaid := crc32cJoins.card
end Go.Proofs.YtffpbmlpnclmkaaDoor
