/- What is proved here: Stripe, size, written, removed, wasted of the program, and the reference's Stripe. -/
import Derived.Test.YtempgcnpfjhacaaJ11c
import Derived.Test.YtempgcnpfjhacaaM11
import Derived.Test.YtempgcnpfjhacaaF11
import Derived.Laws.Cover3
namespace Go.Proofs.Ytempgcnpfjhacaa.Gf
open Go Go.Joins Go.ChangeShapes Go.WideShapes Go.ChangeAt Go.RowKit Go.Deep Go.Proofs.Ytempgcnpfjhacaa.By Go.Proofs.Ytempgcnpfjhacaa.Qt

theorem pstripe_any (k : Nat) (w : World) : Calls Try.prog 27 #[.int .u64 (k : Int)] w fun e w' => e = .returned (.int .i64 ((sp k : Nat) : Int)) ∧ w = w' := by
  have e1 : IntKind.u64.wrap ((k : Int) * 11400714819323198485) = ((k * 11400714819323198485 % 18446744073709551616 : Nat) : Int) := by show (k : Int) * 11400714819323198485 % 18446744073709551616 = _; omega
  have e2 : ((k * 11400714819323198485 % 18446744073709551616 : Nat) : Int) / 2305843009213693952 = ((sp k : Nat) : Int) := by unfold sp; omega
  have e3 : wrap64 ((sp k : Nat) : Int) = ((sp k : Nat) : Int) := by have := sp_lt k; unfold wrap64; omega
  generalize k * 11400714819323198485 % 18446744073709551616 = z at *
  generalize sp k = q at *
  go_enter Try.func27, Try.ntmps27
  go_wp2
  go_ret
  exact ⟨congrArg (fun z => Ending.returned (.int .i64 z)) e3, rfl⟩
/-- The float of a record's length. -/
theorem psz_any (x : Itm) (hx : J64 x.sz) (w : World) : Calls Try.prog 57 #[TV x] w fun e w' => e = .returned (.float .f64 (flw (szT x))) ∧ Below w.heap.size w w' := by
  have PS := Lib.hid (fun W => psize_any x.sz W hx)
  have e1 : floatOfInt .f64 (szI6 x.sz) = flw (szT x) := rfl
  have q := bel_al w (.cells #[.int .u64 (x.key : Int), .int .u32 (x.ck : Int), .int .i64 x.off, .int .i64 x.sz] 35)
  have HX := Lib.hid (heap_alloc_new w (.cells #[.int .u64 (x.key : Int), .int .u32 (x.ck : Int), .int .i64 x.off, .int .i64 x.sz] 35))
  generalize szI6 x.sz = z at *
  generalize flw (szT x) = y at *
  unfold TV
  go_enter Try.func57, Try.ntmps57
  go_upto_region 1 with fail
  generalize w.alloc (.cells #[.int .u64 (x.key : Int), .int .u32 (x.ck : Int), .int .i64 x.off, .int .i64 x.sz] 35) = W1 at *
  obtain ⟨⟨x0, x1, x2, x3⟩, -⟩ := bx4 HX.out
  go_wp2_with fail
  refine (PS.out _).mono ?_
  rintro e w2 ⟨rfl, rfl⟩
  go_wp2_with fail
  go_ret
  exact ⟨rfl, q⟩
theorem pwritten_any (x : Itm) (hx : J64 x.sz) (w : World) : Calls Try.prog 44 #[TV x] w fun e w' => e = .returned (.complex .f64 (flw (szT x)) (flw 0)) ∧ Below w.heap.size w w' := by
  have PS := Lib.hid (fun W => psz_any x hx W)
  have q := bel_al w (.cells #[.int .u64 (x.key : Int), .int .u32 (x.ck : Int), .int .i64 x.off, .int .i64 x.sz] 35)
  have HX := Lib.hid (heap_alloc_new w (.cells #[.int .u64 (x.key : Int), .int .u32 (x.ck : Int), .int .i64 x.off, .int .i64 x.sz] 35))
  unfold TV at PS ⊢
  rw [flw_zero]
  generalize flw (szT x) = y at *
  go_enter Try.func44, Try.ntmps44
  go_upto_region 1 with fail
  generalize w.alloc (.cells #[.int .u64 (x.key : Int), .int .u32 (x.ck : Int), .int .i64 x.off, .int .i64 x.sz] 35) = W1 at *
  obtain ⟨⟨x0, x1, x2, x3⟩, -⟩ := bx4 HX.out
  go_wp2_with fail
  refine (PS.out _).mono ?_
  rintro e w2 ⟨rfl, hb⟩
  go_wp2_with fail
  go_ret
  exact ⟨rfl, q.trans (hb.mono q.size)⟩
end Go.Proofs.Ytempgcnpfjhacaa.Gf
