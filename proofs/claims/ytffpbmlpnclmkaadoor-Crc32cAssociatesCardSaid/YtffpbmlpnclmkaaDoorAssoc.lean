/- What is proved here: for every input the law Crc32cAssociates returns true and leaves its arguments as they were. Condition: package variable nibbles starts as the program's text lays it (the card ties it); nothing else. -/
import Derived.Test.YtffpbmlpnclmkaaDoorLift
namespace Go.Proofs.YtffpbmlpnclmkaaDoor.crc32cAssociates
open Go Go.ChangeShapes Go.WideShapes Go.ChangeAt Go.RowKit Go.Proofs.YtffpbmlpnclmkaaDoor.Crc

theorem assoc (a b c m n : Nat) : sgn (8 * n) (sgn (8 * m) a ^^^ b) ^^^ c = sgn (8 * (m + n)) a ^^^ (sgn (8 * n) b ^^^ c) := by
  rw [sgn_xor, ← sgn_add, Nat.mul_add, Nat.xor_assoc]
set_option maxRecDepth 100000 in
set_option maxHeartbeats 1600000 in
theorem walk_of (a b c m n : Nat) (w : World) (ht : Tab w) (ha : a < 4294967296) (hb : b < 4294967296) (hc : c < 4294967296) (hm : m < 4294967296) (hn : n < 4294967296) :
    Calls Tryd.prog 7 #[.int .u32 (a : Int), .int .u32 (b : Int), .int .u32 (c : Int), .int .u32 (m : Int), .int .u32 (n : Int)] w fun e w' => e = .returned (.bool true) ∧ Below w.heap.size w w' := by
  have l1 : sgn (8 * m) a ^^^ b < 4294967296 := Nat.xor_lt_two_pow (n := 32) (sgn_lt ha) hb
  have l2 : sgn (8 * n) b ^^^ c < 4294967296 := Nat.xor_lt_two_pow (n := 32) (sgn_lt hb) hc
  have h1 := fun w ht => combine_any a b m w ha hb (by omega) ht
  have h2 := fun w ht => combine_any (sgn (8 * m) a ^^^ b) c n w l1 hc (by omega) ht
  have h3 := fun w ht => combine_any b c n w hb hc (by omega) ht
  have h4 := fun w ht => combine_any a (sgn (8 * n) b ^^^ c) (m + n) w ha l2 (by omega) ht
  rw [show ((m + n : Nat) : Int) = (m : Int) + n by omega] at h4
  rw [assoc] at h2
  generalize sgn (8 * m) a ^^^ b = x1 at h1 h2
  generalize sgn (8 * n) b ^^^ c = x3 at h2 h3 h4
  generalize sgn (8 * (m + n)) a ^^^ x3 = x2 at h2 h4
  have HT := Lib.hid ht
  have H1 := Lib.hid h1
  have H2 := Lib.hid h2
  have H3 := Lib.hid h3
  have H4 := Lib.hid h4
  clear ht h1 h2 h3 h4 l1 l2
  go_enter Tryd.func7, Tryd.ntmps7
  go_wp2_with fail
  refine (H1.out w HT.out).mono ?_
  rintro e w1 ⟨rfl, hB1⟩
  go_wp2_with fail
  refine (H2.out w1 (tab_below HT.out hB1)).mono ?_
  rintro e w2 ⟨rfl, hB2⟩
  have hB12 := hB1.trans (hB2.mono hB1.size)
  clear hB1 hB2
  go_wp2_with fail
  refine (H3.out w2 (tab_below HT.out hB12)).mono ?_
  rintro e w3 ⟨rfl, hB3⟩
  have hB13 := hB12.trans (hB3.mono hB12.size)
  clear hB12 hB3
  go_wp2_with fail
  refine (H4.out w3 (tab_below HT.out hB13)).mono ?_
  rintro e w4 ⟨rfl, hB4⟩
  have hB14 := hB13.trans (hB4.mono hB13.size)
  clear hB13 hB4
  go_wp2_with fail
  refine (awake_any w4 (tab_below HT.out hB14)).mono ?_
  rintro e w5 ⟨rfl, hB5⟩
  go_wp2_with fail
  go_ret
  exact ⟨rfl, hB14.trans (hB5.mono hB14.size)⟩
theorem walk {w : World} (a : Int) (ha : (Lit.int .u32 a).wf = true) (b : Int) (hb : (Lit.int .u32 b).wf = true) (c : Int) (hc : (Lit.int .u32 c).wf = true) (m : Int) (hm : (Lit.int .u32 m).wf = true) (n : Int) (hn : (Lit.int .u32 n).wf = true) (ht : Tab w) :
    Calls Tryd.prog 7 #[.int .u32 a, .int .u32 b, .int .u32 c, .int .u32 m, .int .u32 n] w fun e w' => e = .returned (.bool true) ∧ Below w.heap.size w w' := by
  obtain ⟨x1, rfl, h1⟩ := u32_nat ha
  obtain ⟨x2, rfl, h2⟩ := u32_nat hb
  obtain ⟨x3, rfl, h3⟩ := u32_nat hc
  obtain ⟨x4, rfl, h4⟩ := u32_nat hm
  obtain ⟨x5, rfl, h5⟩ := u32_nat hn
  exact walk_of x1 x2 x3 x4 x5 w ht h1 h2 h3 h4 h5

end Go.Proofs.YtffpbmlpnclmkaaDoor.crc32cAssociates
namespace Go.Proofs.YtffpbmlpnclmkaaDoor.crc32cAssociates
open Go Go.ChangeShapes Go.WideShapes Go.ChangeAt Go.RowKit Go.Proofs.YtffpbmlpnclmkaaDoor.Crc

/-- What the walk gives, for every argument and every world that holds the laid variables. -/
theorem contract (H : Type) (enc : TypeId × Value → H) (W : World) (base : Nat) (args : Array Value) (ds gs : List (DataW H)) (before : List MemPlace)
    (hval : ∀ (j : Nat) t v, Tryd.f7.params[j]? = some t → args[j]? = some v → Value.okWide Tryd.prog W .any base t v)
    (hW : DataW.Whole enc Tryd.prog Tryd.f7.params.toList Rows.crc32cAssociatesSpec.vars false W args.toList ds gs before) (hL : laidMetH Tryd.prog Rows.crc32cAssociatesRow.laid W) :
    Calls Tryd.prog 7 args W fun e W' => ∃ v, e = .returned v ∧ Rows.crc32cAssociatesSpec.post enc Tryd.prog Tryd.f7 false true false false W args v W' := by
  have hW' := hW
  obtain ⟨p, q, hA0, hV, rfl, hfz, hnd⟩ := hW
  have hA : DataW.TrodAll enc Tryd.prog W 0 (fun _ => true) true Tryd.f7.params.toList args.toList ds p := hA0
  rw [Tryd.params7] at hA hval
  obtain ⟨v0, vs0, d0, ds0, p0, q0, hargs, rfl, rfl, h0, r0⟩ := trodAll_cons hA
  obtain ⟨v1, vs1, d1, ds1, p1, q1, rfl, rfl, rfl, h1, r1⟩ := trodAll_cons r0
  obtain ⟨v2, vs2, d2, ds2, p2, q2, rfl, rfl, rfl, h2, r2⟩ := trodAll_cons r1
  obtain ⟨v3, vs3, d3, ds3, p3, q3, rfl, rfl, rfl, h3, r3⟩ := trodAll_cons r2
  obtain ⟨v4, vs4, d4, ds4, p4, q4, rfl, rfl, rfl, h4, r4⟩ := trodAll_cons r3
  obtain ⟨rfl, rfl, rfl⟩ := trodAll_nil r4
  obtain rfl : args = #[v0, v1, v2, v3, v4] := by cases args; simp_all
  obtain ⟨rfl, rfl⟩ := trodVars_none hV
  obtain ⟨a0, rfl, rfl, rfl, w0⟩ := open_int Tryd.underlying23 (hval 0 23 v0 rfl rfl) h0
  obtain ⟨a1, rfl, rfl, rfl, w1⟩ := open_int Tryd.underlying23 (hval 1 23 v1 rfl rfl) h1
  obtain ⟨a2, rfl, rfl, rfl, w2⟩ := open_int Tryd.underlying23 (hval 2 23 v2 rfl rfl) h2
  obtain ⟨a3, rfl, rfl, rfl, w3⟩ := open_int Tryd.underlying23 (hval 3 23 v3 rfl rfl) h3
  obtain ⟨a4, rfl, rfl, rfl, w4⟩ := open_int Tryd.underlying23 (hval 4 23 v4 rfl rfl) h4
  clear hA0
  refine (walk a0 w0 a1 w1 a2 w2 a3 w3 a4 w4 (tab_of hL)).mono fun e W' ⟨he, bel⟩ => ?_
  subst he
  exact ⟨_, rfl, _, _, _, [], _, [], hW', trodAll_mk1 (shut_bool Tryd.underlying4 _), (trodAll_cons_mk (shut_int Tryd.underlying23 w0) (trodAll_cons_mk (shut_int Tryd.underlying23 w1) (trodAll_cons_mk (shut_int Tryd.underlying23 w2) (trodAll_cons_mk (shut_int Tryd.underlying23 w3) (trodAll_cons_mk (shut_int Tryd.underlying23 w4) trodAll_mk0))))), rfl, bel.frame _, fun h => by cases h⟩

theorem laid_met (os : Os) : laidMet Tryd.prog Rows.crc32cAssociatesRow.laid ((laidWorld os).forCall (fun _ _ => 0) ⟨#[], #[Value.int .u32 0, Value.int .u32 0, Value.int .u32 0, Value.int .u32 0, Value.int .u32 0], []⟩).memory :=
  laidMet_of_run' 8 (by kernel_rfl) (by kernel_rfl)
theorem reads (os : Os) {H : Type} (enc : TypeId × Value → H) : ∃ places, DataW.whole enc Tryd.prog ((laidWorld os).forCall (fun _ _ => 0) ⟨#[], #[Value.int .u32 0, Value.int .u32 0, Value.int .u32 0, Value.int .u32 0, Value.int .u32 0], []⟩).memory Tryd.f7.params.toList Rows.crc32cAssociatesSpec.vars false #[Value.int .u32 0, Value.int .u32 0, Value.int .u32 0, Value.int .u32 0, Value.int .u32 0].toList 8 = some ([.lit (.int .u32 0), .lit (.int .u32 0), .lit (.int .u32 0), .lit (.int .u32 0), .lit (.int .u32 0)], [], places) :=
  ⟨[], by kernel_rfl⟩

set_option maxRecDepth 100000 in
theorem lifted (os : Os) (started : os.Started) (H : Type) (enc : TypeId × Value → H) (F : Stop.Interp) :
    ReturnsInHanded {} Tryd.checked os 7 .any ((OpenSpec.ofChange Rows.crc32cAssociatesSpec).preRow enc Tryd.prog Tryd.f7 Rows.crc32cAssociatesRow.domain false Rows.crc32cAssociatesRow.laid) (((OpenSpec.ofChange Rows.crc32cAssociatesSpec).at F).post enc Tryd.prog Tryd.f7 false true false false) := by
  obtain ⟨places, hx⟩ := reads os enc
  refine returnsInHanded_of_row (C := Tryd.checked) (s := OpenSpec.ofChange Rows.crc32cAssociatesSpec) own started (by kernel_rfl) Tryd.func7
    (witness_row_at (enc := enc) (C := Tryd.checked) false (laidWorld os) #[Value.int .u32 0, Value.int .u32 0, Value.int .u32 0, Value.int .u32 0, Value.int .u32 0] rfl (by kernel_rfl) (by kernel_rfl) (by kernel_rfl)
      (OpenSpec.preRow_of_cond 8 hx (by kernel_rfl) (fun k hk => by cases hk) (by kernel_rfl) (laid_met os))) ?_
  intro W base args ds gs before hval hW _ _ _ hL _ _
  exact contract H enc W base args ds gs before hval hW hL

theorem said : Rows.Crc32cAssociatesSaid :=
  OpenClaim.holds_of_cond 7 Tryd.f7 rfl rfl rfl rfl rfl rfl rfl ⟨rfl, rfl, rfl, rfl, rfl⟩ rfl rfl rfl rfl rfl (by kernel_rfl) Tryd.func7 (by kernel_rfl)
    (of_decide_eq_true (by kernel_rfl)) (by unfold Func.isWrapper; first | (rw [if_pos (by decide +kernel)]; kernel_rfl) | (rw [if_neg (by decide +kernel)]; exact ⟨rfl, rfl⟩))
    (fun os started H enc _ F => by rw [OpenClaim.pre_eq_preRow]; exact lifted os started H enc F)

theorem plain (f : FuncId) (fn : Func) (hf : Tryd.pinned.checked.prog.funcNamed "needlestore/needlestorelaw01.Crc32cAssociates" = some f) (hfn : Tryd.pinned.checked.prog.funcs[f]? = some fn) :
    false = Tryd.pinned.checked.prog.looks [] ∧ ∀ (j : Nat) t, fn.params[j]? = some t → Tryd.pinned.checked.prog.wantsStandIn t = false := by
  obtain rfl : f = 7 := Option.some.inj ((show Tryd.prog.funcNamed "needlestore/needlestorelaw01.Crc32cAssociates" = some 7 by kernel_rfl).symm.trans hf) |>.symm
  obtain rfl : fn = Tryd.f7 := (Option.some.inj (Tryd.func7.symm.trans hfn)).symm
  refine ⟨by kernel_rfl, fun j t ht => ?_⟩
  rw [Tryd.params7] at ht
  have hm := Array.mem_of_getElem? ht
  simp at hm
  subst hm
  exact (show Tryd.prog.wantsStandIn 23 = false by kernel_rfl)

/-- The card. -/
theorem card : Rows.Crc32cAssociatesCardSaid :=
  Claim7.holds_tied_plain_at .later [] _ _ _ _ said (fun _ h => by cases h) (by kernel_rfl) (fun _ h => by cases h) crc32cAssociates_row_tie rfl ⟨rfl, rfl⟩ (by kernel_rfl) rfl plain (by kernel_rfl)
end Go.Proofs.YtffpbmlpnclmkaaDoor.crc32cAssociates
namespace Go.Proofs.YtffpbmlpnclmkaaDoor
theorem crc32cAssociates_holds : Rows.Crc32cAssociatesCardSaid := crc32cAssociates.card
end Go.Proofs.YtffpbmlpnclmkaaDoor
