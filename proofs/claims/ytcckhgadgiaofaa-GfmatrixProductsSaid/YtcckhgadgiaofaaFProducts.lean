/- What is proved here: for every input the law GfmatrixProducts returns true and leaves its arguments as they were. No condition. -/
import Derived.Test.YtcckhgadgiaofaaRows
import Derived.Test.YtcckhgadgiaofaaP3
import Derived.Test.YtcckhgadgiaofaaL6g
import Derived.ChangeOld
namespace Go.Proofs.Ytcckhgadgiaofaa.gfmatrixProducts
open Go Go.Joins Go.Deep Go.ChangeShapes Go.WideShapes Go.ChangeAt Go.RowKit Go.Proofs.Ytcckhgadgiaofaa.By Go.Proofs.Ytcckhgadgiaofaa.Gf

theorem own : ownKnob Try.prog.godebug = none := by kernel_rfl
theorem laidOut : laidOutB Try.prog = true := by kernel_rfl
theorem i64_of {n : Int} (h : (Lit.int .i64 n).wf = true) : I64 n := by
  unfold I64
  exact bounds_i64 h
theorem walk {w : World} (r0 c0 : Int) (v0 : Value) (l0 : List Nat) (hr0 : I64 r0) (hc0 : I64 c0) (s0 : Sl w v0 l0) (r1 c1 : Int) (v1 : Value) (l1 : List Nat) (hr1 : I64 r1) (hc1 : I64 c1) (s1 : Sl w v1 l1) (v2 : Value) (l2 : List Int) (s2 : Si w v2 l2) : Calls Try.prog 4 #[mv r0 c0 v0, mv r1 c1 v1, v2] w fun e w' => e = .returned (.bool true) ∧ Below w.heap.size w w' :=
  prods_walk pcs3 r0 c0 v0 l0 r1 c1 v1 l1 v2 l2 w hr0 hc0 s0 hr1 hc1 s1 s2 trivial
end Go.Proofs.Ytcckhgadgiaofaa.gfmatrixProducts
namespace Go.Proofs.Ytcckhgadgiaofaa.gfmatrixProducts
open Go Go.Joins Go.Deep Go.ChangeShapes Go.WideShapes Go.ChangeAt Go.RowKit Go.Proofs.Ytcckhgadgiaofaa.By Go.Proofs.Ytcckhgadgiaofaa.Gf

set_option maxRecDepth 100000 in
theorem lifted (os : Os) (started : os.Started) (H : Type) (enc : TypeId × Value → H) :
    ReturnsInHanded {} Try.checked os 4 .any (Rows.gfmatrixProductsSpec.pre6 enc Try.prog Try.f4 Rows.gfmatrixProductsRow.domain false) (Rows.gfmatrixProductsSpec.post enc Try.prog Try.f4 false true false false) := by
  refine returnsInHanded_of_change (C := Try.checked) own started (by kernel_rfl) Try.func4
    (ChangeSpec.witness6 (enc := enc) (C := Try.checked) false ⟨#[], #[Value.agg #[.int .i64 0, .int .i64 0, .slice none 0 0], Value.agg #[.int .i64 0, .int .i64 0, .slice none 0 0], Value.slice none 0 0], []⟩ 8 (by kernel_rfl) (by kernel_rfl) (by kernel_rfl) (by kernel_rfl)) ?_
  intro W base args ds gs before hval0 hW hcnd _
  clear hcnd
  have hval : ∀ (j : Nat) t v, Try.f4.params[j]? = some t → args[j]? = some v → Value.okWide Try.prog W .any base t v := hval0
  have hW' := hW
  obtain ⟨p, q, hA0, hV, rfl, hfz, hnd⟩ := hW
  have hA : DataW.TrodAll enc Try.prog W 0 (fun _ => true) true Try.f4.params.toList args.toList ds p := hA0
  rw [Try.params4] at hA hval
  obtain ⟨v0, vs0, d0, ds0, p0, q0, hargs, rfl, rfl, h0, r0⟩ := trodAll_cons hA
  obtain ⟨v1, vs1, d1, ds1, p1, q1, rfl, rfl, rfl, h1, r1⟩ := trodAll_cons r0
  obtain ⟨v2, vs2, d2, ds2, p2, q2, rfl, rfl, rfl, h2, r2⟩ := trodAll_cons r1
  obtain ⟨rfl, rfl, rfl⟩ := trodAll_nil r2
  obtain rfl : args = #[v0, v1, v2] := by cases args; simp_all
  obtain ⟨rfl, rfl⟩ := trodVars_none hV
  have k0 := h0
  have lt0 : ∀ x ∈ p0, x.block < W.heap.size := by obtain ⟨m, hm⟩ := k0; exact DataW.trod_lt m _ _ _ hm
  obtain ⟨rr0, cc0, vv0, l0, rfl, hr0, hc0, s0⟩ := mx_open (hval 0 24 v0 rfl rfl) h0
  have k1 := h1
  have lt1 : ∀ x ∈ p1, x.block < W.heap.size := by obtain ⟨m, hm⟩ := k1; exact DataW.trod_lt m _ _ _ hm
  obtain ⟨rr1, cc1, vv1, l1, rfl, hr1, hc1, s1⟩ := mx_open (hval 1 24 v1 rfl rfl) h1
  have k2 := h2
  have lt2 : ∀ x ∈ p2, x.block < W.heap.size := by obtain ⟨m, hm⟩ := k2; exact DataW.trod_lt m _ _ _ hm
  obtain ⟨l2, s2⟩ := si_open (hval 2 39 v2 rfl rfl) h2
  clear hA0 hval0
  refine (walk rr0 cc0 vv0 l0 hr0 hc0 s0 rr1 cc1 vv1 l1 hr1 hc1 s1 v2 l2 s2).mono fun e W' ⟨he, bel⟩ => ?_
  subst he
  exact ⟨_, rfl, _, _, _, [], _, [], hW', trodAll_mk1 (shut_bool Try.underlying4 _), (trodAll_cons_mk (Below.trod laidOut (by kernel_rfl) (of_decide_eq_true (by kernel_rfl)) k0 bel lt0) (trodAll_cons_mk (Below.trod laidOut (by kernel_rfl) (of_decide_eq_true (by kernel_rfl)) k1 bel lt1) (trodAll_cons_mk (Below.trod laidOut (by kernel_rfl) (of_decide_eq_true (by kernel_rfl)) k2 bel lt2) trodAll_mk0))), rfl, bel.frame _, fun h => by cases h⟩

theorem said : Rows.GfmatrixProductsSaid :=
  OpenClaim.holds_of_wide 4 Try.f4 rfl rfl rfl rfl rfl rfl rfl ⟨rfl, rfl, rfl, rfl, rfl⟩ rfl rfl rfl rfl rfl (by kernel_rfl) Try.func4 (by kernel_rfl)
    (of_decide_eq_true (by kernel_rfl)) (by unfold Func.isWrapper; first | (rw [if_pos (by decide +kernel)]; kernel_rfl) | (rw [if_neg (by decide +kernel)]; exact ⟨rfl, rfl⟩))
    (fun os started H enc _ => lifted os started H enc)
end Go.Proofs.Ytcckhgadgiaofaa.gfmatrixProducts
namespace Go.Proofs.Ytcckhgadgiaofaa
theorem gfmatrixProducts_holds : Rows.GfmatrixProductsSaid := gfmatrixProducts.said
end Go.Proofs.Ytcckhgadgiaofaa
