/- What is proved here: for every input the law GfmatrixApplies returns true and leaves its arguments as they were. No condition. -/
import Derived.Test.YtcckhgadgiaofaaRows
import Derived.Test.YtcckhgadgiaofaaP3
import Derived.Test.YtcckhgadgiaofaaL6j
import Derived.ChangeOld
namespace Go.Proofs.Ytcckhgadgiaofaa.gfmatrixApplies
open Go Go.Joins Go.Deep Go.ChangeShapes Go.WideShapes Go.ChangeAt Go.RowKit Go.Proofs.Ytcckhgadgiaofaa.By Go.Proofs.Ytcckhgadgiaofaa.Gf

theorem own : ownKnob Try.prog.godebug = none := by kernel_rfl
theorem laidOut : laidOutB Try.prog = true := by kernel_rfl
theorem i64_of {n : Int} (h : (Lit.int .i64 n).wf = true) : I64 n := by
  unfold I64
  exact bounds_i64 h
theorem walk {w : World} (r0 c0 : Int) (v0 : Value) (l0 : List Nat) (hr0 : I64 r0) (hc0 : I64 c0) (s0 : Sl w v0 l0) (v1 : Value) (l1 : List (List Nat)) (s1 : Sr w v1 l1) : Calls Try.prog 10 #[mv r0 c0 v0, v1] w fun e w' => e = .returned (.bool true) ∧ Below w.heap.size w w' :=
  applies_walk pcs3 r0 c0 v0 l0 v1 l1 w hr0 hc0 s0 s1 trivial
end Go.Proofs.Ytcckhgadgiaofaa.gfmatrixApplies
namespace Go.Proofs.Ytcckhgadgiaofaa.gfmatrixApplies
open Go Go.Joins Go.Deep Go.ChangeShapes Go.WideShapes Go.ChangeAt Go.RowKit Go.Proofs.Ytcckhgadgiaofaa.By Go.Proofs.Ytcckhgadgiaofaa.Gf

set_option maxRecDepth 100000 in
theorem lifted (os : Os) (started : os.Started) (H : Type) (enc : TypeId × Value → H) :
    ReturnsInHanded {} Try.checked os 10 .any (Rows.gfmatrixAppliesSpec.pre6 enc Try.prog Try.f10 Rows.gfmatrixAppliesRow.domain false) (Rows.gfmatrixAppliesSpec.post enc Try.prog Try.f10 false true false false) := by
  refine returnsInHanded_of_change (C := Try.checked) own started (by kernel_rfl) Try.func10
    (ChangeSpec.witness6 (enc := enc) (C := Try.checked) false ⟨#[], #[Value.agg #[.int .i64 0, .int .i64 0, .slice none 0 0], Value.slice none 0 0], []⟩ 8 (by kernel_rfl) (by kernel_rfl) (by kernel_rfl) (by kernel_rfl)) ?_
  intro W base args ds gs before hval0 hW hcnd _
  clear hcnd
  have hval : ∀ (j : Nat) t v, Try.f10.params[j]? = some t → args[j]? = some v → Value.okWide Try.prog W .any base t v := hval0
  have hW' := hW
  obtain ⟨p, q, hA0, hV, rfl, hfz, hnd⟩ := hW
  have hA : DataW.TrodAll enc Try.prog W 0 (fun _ => true) true Try.f10.params.toList args.toList ds p := hA0
  rw [Try.params10] at hA hval
  obtain ⟨v0, vs0, d0, ds0, p0, q0, hargs, rfl, rfl, h0, r0⟩ := trodAll_cons hA
  obtain ⟨v1, vs1, d1, ds1, p1, q1, rfl, rfl, rfl, h1, r1⟩ := trodAll_cons r0
  obtain ⟨rfl, rfl, rfl⟩ := trodAll_nil r1
  obtain rfl : args = #[v0, v1] := by cases args; simp_all
  obtain ⟨rfl, rfl⟩ := trodVars_none hV
  have k0 := h0
  have lt0 : ∀ x ∈ p0, x.block < W.heap.size := by obtain ⟨m, hm⟩ := k0; exact DataW.trod_lt m _ _ _ hm
  obtain ⟨rr0, cc0, vv0, l0, rfl, hr0, hc0, s0⟩ := mx_open (hval 0 24 v0 rfl rfl) h0
  have k1 := h1
  have lt1 : ∀ x ∈ p1, x.block < W.heap.size := by obtain ⟨m, hm⟩ := k1; exact DataW.trod_lt m _ _ _ hm
  obtain ⟨l1, s1⟩ := sr_open (hval 1 54 v1 rfl rfl) h1
  clear hA0 hval0
  refine (walk rr0 cc0 vv0 l0 hr0 hc0 s0 v1 l1 s1).mono fun e W' ⟨he, bel⟩ => ?_
  subst he
  exact ⟨_, rfl, _, _, _, [], _, [], hW', trodAll_mk1 (shut_bool Try.underlying4 _), (trodAll_cons_mk (Below.trod laidOut (by kernel_rfl) (of_decide_eq_true (by kernel_rfl)) k0 bel lt0) (trodAll_cons_mk (Below.trod laidOut (by kernel_rfl) (of_decide_eq_true (by kernel_rfl)) k1 bel lt1) trodAll_mk0)), rfl, bel.frame _, fun h => by cases h⟩

theorem said : Rows.GfmatrixAppliesSaid :=
  OpenClaim.holds_of_wide 10 Try.f10 rfl rfl rfl rfl rfl rfl rfl ⟨rfl, rfl, rfl, rfl, rfl⟩ rfl rfl rfl rfl rfl (by kernel_rfl) Try.func10 (by kernel_rfl)
    (of_decide_eq_true (by kernel_rfl)) (by unfold Func.isWrapper; first | (rw [if_pos (by decide +kernel)]; kernel_rfl) | (rw [if_neg (by decide +kernel)]; exact ⟨rfl, rfl⟩))
    (fun os started H enc _ => lifted os started H enc)
end Go.Proofs.Ytcckhgadgiaofaa.gfmatrixApplies
namespace Go.Proofs.Ytcckhgadgiaofaa
theorem gfmatrixApplies_holds : Rows.GfmatrixAppliesSaid := gfmatrixApplies.said
end Go.Proofs.Ytcckhgadgiaofaa
