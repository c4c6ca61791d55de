/- What is proved here: for every input the law DiskWrites returns true and leaves its arguments as they were. No condition. -/
import Derived.Test.YtpipgbjkkiheaaaRows
import Derived.Test.YtpipgbjkkiheaaaLP10j
import Derived.ChangeOld
import Derived.ChangeMaps5
namespace Go.Proofs.Ytpipgbjkkiheaaa.diskWrites
open Go Go.Joins Go.Deep Go.ChangeShapes Go.WideShapes Go.ChangeAt Go.RowKit Go.Proofs.Ytpipgbjkkiheaaa.By Go.Proofs.Ytpipgbjkkiheaaa.Gf

theorem own : ownKnob Try.prog.godebug = none := by kernel_rfl
theorem laidOut : laidOutB Try.prog = true := by kernel_rfl
theorem walk {w : World} (v0 : Value) (l0 : List Opn) (s0 : Rd (fun _ => True) w (.sl tyOp) [v0] l0) (v1 : ByteArray) (s1 : v1.size ≤ maxLen) (n2 : Int) (_h2 : (Lit.int .i64 n2).wf = true) (v3 : Value) (l3 : List Nat) (s3 : Sl w v3 l3) : Calls Try.prog 7 #[v0, .string v1, .int .i64 n2, v3] w fun e w' => e = .returned (.bool true) ∧ Below w.heap.size w w' := 
  writes_any v0 l0 v1 n2 v3 l3 w s0 s1 (bounds_i64 _h2) s3
end Go.Proofs.Ytpipgbjkkiheaaa.diskWrites
namespace Go.Proofs.Ytpipgbjkkiheaaa.diskWrites
open Go Go.Joins Go.Deep Go.ChangeShapes Go.WideShapes Go.ChangeAt Go.RowKit Go.Proofs.Ytpipgbjkkiheaaa.By Go.Proofs.Ytpipgbjkkiheaaa.Gf

set_option maxRecDepth 100000 in
theorem lifted (os : Os) (started : os.Started) (H : Type) (enc : TypeId × Value → H) :
    ReturnsInHanded {} Try.checked os 7 .any (Rows.diskWritesSpec.pre6 enc Try.prog Try.f7 Rows.diskWritesRow.domain false) (Rows.diskWritesSpec.post enc Try.prog Try.f7 false true false false) := by
  refine returnsInHanded_of_change (C := Try.checked) own started (by kernel_rfl) Try.func7
    (ChangeSpec.witness6 (enc := enc) (C := Try.checked) false ⟨#[], #[Value.slice none 0 0, Value.string ⟨#[]⟩, Value.int .i64 0, Value.slice none 0 0], []⟩ 8 (by kernel_rfl) (by kernel_rfl) (by kernel_rfl) (by kernel_rfl)) ?_
  intro W base args ds gs before hval0 hW hcnd _
  clear hcnd
  have hval : ∀ (j : Nat) t v, Try.f7.params[j]? = some t → args[j]? = some v → Value.okWide Try.prog W .any base t v := hval0
  have hW' := hW
  obtain ⟨p, q, hA0, hV, rfl, hfz, hnd⟩ := hW
  have hA : DataW.TrodAll enc Try.prog W 0 (fun _ => true) true Try.f7.params.toList args.toList ds p := hA0
  rw [Try.params7] at hA hval
  obtain ⟨v0, vs0, d0, ds0, p0, q0, hargs, rfl, rfl, h0, r0⟩ := trodAll_cons hA
  obtain ⟨v1, vs1, d1, ds1, p1, q1, rfl, rfl, rfl, h1, r1⟩ := trodAll_cons r0
  obtain ⟨v2, vs2, d2, ds2, p2, q2, rfl, rfl, rfl, h2, r2⟩ := trodAll_cons r1
  obtain ⟨v3, vs3, d3, ds3, p3, q3, rfl, rfl, rfl, h3, r3⟩ := trodAll_cons r2
  obtain ⟨rfl, rfl, rfl⟩ := trodAll_nil r3
  obtain rfl : args = #[v0, v1, v2, v3] := by cases args; simp_all
  obtain ⟨rfl, rfl⟩ := trodVars_none hV
  have k0 := h0
  have lt0 : ∀ x ∈ p0, x.block < W.heap.size := by obtain ⟨m, hm⟩ := k0; exact DataW.trod_lt m _ _ _ hm
  obtain ⟨l0, s0⟩ := ops_open (hval 0 25 v0 rfl rfl) h0
  obtain ⟨t1, rfl, rfl, rfl, n1⟩ := ChangeMaps.open_string Try.underlying9 (hval 1 9 v1 rfl rfl) h1
  obtain ⟨a2, rfl, rfl, rfl, w2⟩ := open_int Try.underlying2 (hval 2 2 v2 rfl rfl) h2
  have k3 := h3
  have lt3 : ∀ x ∈ p3, x.block < W.heap.size := by obtain ⟨m, hm⟩ := k3; exact DataW.trod_lt m _ _ _ hm
  obtain ⟨l3, s3⟩ := sl_open (hval 3 52 v3 rfl rfl) h3
  clear hA0 hval0
  refine (walk v0 l0 s0 t1 n1 a2 w2 v3 l3 s3).mono fun e W' ⟨he, bel⟩ => ?_
  subst he
  exact ⟨_, rfl, _, _, _, [], _, [], hW', trodAll_mk1 (shut_bool Try.underlying4 _), (trodAll_cons_mk (Below.trod laidOut (by kernel_rfl) (of_decide_eq_true (by kernel_rfl)) k0 bel lt0) (trodAll_cons_mk (ChangeMaps.shut_string Try.underlying9 n1) (trodAll_cons_mk (shut_int Try.underlying2 w2) (trodAll_cons_mk (Below.trod laidOut (by kernel_rfl) (of_decide_eq_true (by kernel_rfl)) k3 bel lt3) trodAll_mk0)))), rfl, bel.frame _, fun h => by cases h⟩

theorem said : Rows.DiskWritesSaid :=
  OpenClaim.holds_of_wide 7 Try.f7 rfl rfl rfl rfl rfl rfl rfl ⟨rfl, rfl, rfl, rfl, rfl⟩ rfl rfl rfl rfl rfl (by kernel_rfl) Try.func7 (by kernel_rfl)
    (of_decide_eq_true (by kernel_rfl)) (by unfold Func.isWrapper; first | (rw [if_pos (by decide +kernel)]; kernel_rfl) | (rw [if_neg (by decide +kernel)]; exact ⟨rfl, rfl⟩))
    (fun os started H enc _ => lifted os started H enc)
end Go.Proofs.Ytpipgbjkkiheaaa.diskWrites
namespace Go.Proofs.Ytpipgbjkkiheaaa
theorem diskWrites_holds : Rows.DiskWritesSaid := diskWrites.said
end Go.Proofs.Ytpipgbjkkiheaaa
