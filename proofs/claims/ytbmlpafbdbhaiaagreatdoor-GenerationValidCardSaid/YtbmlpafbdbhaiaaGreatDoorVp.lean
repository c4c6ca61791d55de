/- What is proved here: Stripe, size, written, removed, wasted of the program, and the reference's Stripe. -/
import Derived.Test.YtbmlpafbdbhaiaaGreatDoorJ11c
import Derived.Test.YtbmlpafbdbhaiaaGreatDoorVm
import Derived.Test.YtbmlpafbdbhaiaaGreatDoorVa
import Derived.Laws.Cover3
import Derived.Deep.CutRange
import Derived.Deep.WholeRow
namespace Go.Proofs.YtbmlpafbdbhaiaaGreatDoor.Gf
open Go Go.Joins Go.ChangeShapes Go.WideShapes Go.ChangeAt Go.RowKit Go.Deep Go.Proofs.YtbmlpafbdbhaiaaGreatDoor.By Go.Proofs.YtbmlpafbdbhaiaaGreatDoor.Qt

theorem pstripe_any (k : Nat) (w : World) : Calls Tryz.prog 71 #[.int .u64 (k : Int)] w fun e w' => e = .returned (.int .i64 ((sp k : Nat) : Int)) ∧ w = w' := by
 have e1 : IntKind.u64.wrap ((k : Int) * 11400714819323198485) = ((k * 11400714819323198485 % 18446744073709551616 : Nat) : Int) := by show (k : Int) * 11400714819323198485 % 18446744073709551616 = _; omega
 have e2 : ((k * 11400714819323198485 % 18446744073709551616 : Nat) : Int) / 2305843009213693952 = ((sp k : Nat) : Int) := by unfold sp; omega
 have e3 : wrap64 ((sp k : Nat) : Int) = ((sp k : Nat) : Int) := by have := sp_lt k; unfold wrap64; omega
 generalize k * 11400714819323198485 % 18446744073709551616 = z at *
 generalize sp k = q at *
 go_enter Tryz.func71, Tryz.ntmps71
 go_wp2
 go_ret
 exact ⟨congrArg (fun z => Ending.returned (.int .i64 z)) e3, rfl⟩
theorem rstripe_any (k : Nat) (w : World) : Calls Tryz.prog 90 #[.int .u64 (k : Int)] w fun e w' => e = .returned (.int .i64 ((sp k : Nat) : Int)) ∧ w = w' := by
 have e1 : IntKind.u64.wrap ((k : Int) * 11400714819323198485) = ((k * 11400714819323198485 % 18446744073709551616 : Nat) : Int) := by show (k : Int) * 11400714819323198485 % 18446744073709551616 = _; omega
 have e2 : ((k * 11400714819323198485 % 18446744073709551616 : Nat) : Int) / 2305843009213693952 = ((sp k : Nat) : Int) := by unfold sp; omega
 have e3 : wrap64 ((sp k : Nat) : Int) = ((sp k : Nat) : Int) := by have := sp_lt k; unfold wrap64; omega
 generalize k * 11400714819323198485 % 18446744073709551616 = z at *
 generalize sp k = q at *
 go_enter Tryz.func90, Tryz.ntmps90
 go_wp2
 go_ret
 exact ⟨congrArg (fun z => Ending.returned (.int .i64 z)) e3, rfl⟩
/-- The float of a record's length. -/
theorem psz_any (x : Itm) (hx : J64 x.sz) (w : World) : Calls Tryz.prog 144 #[TV x] w fun e w' => e = .returned (.float .f64 (flw (szT x))) ∧ Below w.heap.size w w' := by
 have PS := Lh (fun W => psize_any x.sz W hx)
 have e1 : floatOfInt .f64 (szI6 x.sz) = flw (szT x) := rfl
 have q := bel_al w (.cells #[.int .u64 (x.key : Int), .int .u32 (x.ck : Int), .int .i64 x.off, .int .i64 x.sz] 56)
 have HX := Lh (heap_alloc_new w (.cells #[.int .u64 (x.key : Int), .int .u32 (x.ck : Int), .int .i64 x.off, .int .i64 x.sz] 56))
 generalize szI6 x.sz = z at *
 generalize flw (szT x) = y at *
 unfold TV
 go_enter Tryz.func144, Tryz.ntmps144
 go_upto_region 1 with fail
 generalize w.alloc (.cells #[.int .u64 (x.key : Int), .int .u32 (x.ck : Int), .int .i64 x.off, .int .i64 x.sz] 56) = W1 at *
 obtain ⟨⟨x0, x1, x2, x3⟩, -⟩ := bx4 HX.out
 go_wp2_with fail
 refine (PS.out _).mono ?_
 rintro e w2 ⟨rfl, rfl⟩
 go_wp2_with fail
 go_ret
 exact ⟨rfl, q⟩
theorem pwritten_any (x : Itm) (hx : J64 x.sz) (w : World) : Calls Tryz.prog 113 #[TV x] w fun e w' => e = .returned (.complex .f64 (flw (szT x)) (flw 0)) ∧ Below w.heap.size w w' := by
 have PS := Lh (fun W => psz_any x hx W)
 have q := bel_al w (.cells #[.int .u64 (x.key : Int), .int .u32 (x.ck : Int), .int .i64 x.off, .int .i64 x.sz] 56)
 have HX := Lh (heap_alloc_new w (.cells #[.int .u64 (x.key : Int), .int .u32 (x.ck : Int), .int .i64 x.off, .int .i64 x.sz] 56))
 unfold TV at PS ⊢
 rw [flw_zero]
 generalize flw (szT x) = y at *
 go_enter Tryz.func113, Tryz.ntmps113
 go_upto_region 1 with fail
 generalize w.alloc (.cells #[.int .u64 (x.key : Int), .int .u32 (x.ck : Int), .int .i64 x.off, .int .i64 x.sz] 56) = W1 at *
 obtain ⟨⟨x0, x1, x2, x3⟩, -⟩ := bx4 HX.out
 go_wp2_with fail
 refine (PS.out _).mono ?_
 rintro e w2 ⟨rfl, hb⟩
 go_wp2_with fail
 go_ret
 exact ⟨rfl, q.trans (hb.mono q.size)⟩
theorem pwasted_any (n : Int) (w : World) : Calls Tryz.prog 120 #[.int .i64 n] w fun e w' => e = .returned (.complex .f64 (flw 0) (flw n)) ∧ w = w' := by
 have e1 : floatOfInt .f64 n = flw n := rfl
 rw [flw_zero]
 generalize flw n = y at *
 go_enter Tryz.func120, Tryz.ntmps120
 go_wp2_with fail
 go_ret
 exact ⟨rfl, rfl⟩
end Go.Proofs.YtbmlpafbdbhaiaaGreatDoor.Gf
namespace Go.Proofs.YtbmlpafbdbhaiaaGreatDoor.Gf
open Go Go.Joins Go.ChangeShapes Go.WideShapes Go.ChangeAt Go.RowKit Go.Deep Go.Proofs.YtbmlpafbdbhaiaaGreatDoor.By Go.Proofs.YtbmlpafbdbhaiaaGreatDoor.Qt
set_option maxRecDepth 100000
set_option maxHeartbeats 204800000

/-- Its stripes in memory. -/
def Ms (w : World) (vs : List Value) (m : Mp) : Prop := m.st.length = 8 ∧ J64 m.live ∧ J64 m.garb ∧ ∀ k, k < 8 → ∃ a c, vs[k]? = some (.slice a (ms m k).length c) ∧ It w (.slice a (ms m k).length c) (ms m k)
/-- A map as a value. -/
def Mv (w : World) (v : Value) (m : Mp) : Prop := ∃ s0 s1 s2 s3 s4 s5 s6 s7, v = .agg #[s0, s1, s2, s3, s4, s5, s6, s7, .int .i64 m.live, .int .i64 m.garb] ∧ Ms w [s0, s1, s2, s3, s4, s5, s6, s7] m
theorem ms_below {w w' : World} {vs : List Value} {m : Mp} (h : Ms w vs m) (hB : Below w.heap.size w w') : Ms w' vs m := ⟨h.1, h.2.1, h.2.2.1, fun k hk => by
 obtain ⟨a, c, h1, h2⟩ := h.2.2.2 k hk
 exact ⟨a, c, h1, it_below h2 hB⟩⟩
theorem mv_below {w w' : World} {v : Value} {m : Mp} (h : Mv w v m) (hB : Below w.heap.size w w') : Mv w' v m := by
 obtain ⟨s0, s1, s2, s3, s4, s5, s6, s7, rfl, h2⟩ := h
 exact ⟨s0, s1, s2, s3, s4, s5, s6, s7, rfl, ms_below h2 hB⟩
theorem bx10 {w : World} {g : Nat} {s0 s1 s2 s3 s4 s5 s6 s7 s8 s9 : Value} {T : TypeId} {fr : Nat × Nat} (h : w.heap[g]? = some (.cells #[s0, s1, s2, s3, s4, s5, s6, s7, s8, s9] T fr)) : w.cell? ⟨g, 0, none⟩ = some s0 ∧ w.cell? ⟨g, 1, none⟩ = some s1 ∧ w.cell? ⟨g, 2, none⟩ = some s2 ∧ w.cell? ⟨g, 3, none⟩ = some s3 ∧ w.cell? ⟨g, 4, none⟩ = some s4 ∧ w.cell? ⟨g, 5, none⟩ = some s5 ∧ w.cell? ⟨g, 6, none⟩ = some s6 ∧ w.cell? ⟨g, 7, none⟩ = some s7 ∧ w.cell? ⟨g, 8, none⟩ = some s8 ∧ w.cell? ⟨g, 9, none⟩ = some s9 :=
 ⟨cell_of_row w g 0 _ _ _ h, cell_of_row w g 1 _ _ _ h, cell_of_row w g 2 _ _ _ h, cell_of_row w g 3 _ _ _ h, cell_of_row w g 4 _ _ _ h, cell_of_row w g 5 _ _ _ h, cell_of_row w g 6 _ _ _ h, cell_of_row w g 7 _ _ _ h, cell_of_row w g 8 _ _ _ h, cell_of_row w g 9 _ _ _ h⟩
/-- A stripe in the box of a map. -/
theorem bxk {w : World} {g : Nat} {s0 s1 s2 s3 s4 s5 s6 s7 s8 s9 : Value} {T : TypeId} {fr : Nat × Nat} (h : w.heap[g]? = some (.cells #[s0, s1, s2, s3, s4, s5, s6, s7, s8, s9] T fr)) {k : Nat} (hk : k < 8) {v : Value} (hv : [s0, s1, s2, s3, s4, s5, s6, s7][k]? = some v) : w.cell? ⟨g, k, none⟩ = some v := by
 rw [cell_of_row w g k _ _ _ h, ← hv]
 obtain rfl | rfl | rfl | rfl | rfl | rfl | rfl | rfl : k = 0 ∨ k = 1 ∨ k = 2 ∨ k = 3 ∨ k = 4 ∨ k = 5 ∨ k = 6 ∨ k = 7 := by omega
 all_goals rfl
theorem size22 : (Tryz.prog.info? 38).map (·.size) = some 1 := by kernel_rfl
/-- A stripe of the stripes as a value. -/
theorem run_index8 {s0 s1 s2 s3 s4 s5 s6 s7 : Value} {k : Nat} {a : Option Addr} {n c : Nat} (w : World) (hk : k < 8) (hv : [s0, s1, s2, s3, s4, s5, s6, s7][k]? = some (.slice a n c)) :
 (Instr.index 39 (.agg #[s0, s1, s2, s3, s4, s5, s6, s7]) (.int .i64 (k : Int))).run Tryz.prog w = .ok (.slice a n c) w := by
 obtain ⟨i, hi, hs⟩ := Option.map_eq_some_iff.1 size22
 simp [Instr.index, run_underlying Tryz.underlying39, run_underlying Tryz.underlying38, part, isAgg, sizeOf, typeInfo, hi, hs, hk, asIntOf]
 exact (List.getElem?_eq_some_iff.1 hv).2
theorem pvalidItem_any (x : Itm) (hx : ItOk x) (w : World) : Calls Tryz.prog 118 #[TV x] w fun e w' => e = .returned (.bool (decide (okI x))) ∧ Below w.heap.size w w' := by
 have e0 : decide (okT [x]) = decide (okI x) := decide_eq_decide.2 (by
  unfold okT Asc
  simp)
 have PV := Lh (fun W v (h : It W v [x]) => pvalid8_any v [x] W h)
 rw [e0] at PV
 have q := bel_al w (.cells #[.int .u64 (x.key : Int), .int .u32 (x.ck : Int), .int .i64 x.off, .int .i64 x.sz] 56)
 have HX := Lh (heap_alloc_new w (.cells #[.int .u64 (x.key : Int), .int .u32 (x.ck : Int), .int .i64 x.off, .int .i64 x.sz] 56))
 unfold TV
 generalize decide (okI x) = y at *
 go_enter Tryz.func118, Tryz.ntmps118
 go_upto_region 1 with fail
 have IO := Lh (it_one hx (heap_alloc_new (w.alloc (.cells #[.int .u64 (x.key : Int), .int .u32 (x.ck : Int), .int .i64 x.off, .int .i64 x.sz] 56)) (.cells #[.int .u64 (x.key : Int), .int .u32 (x.ck : Int), .int .i64 x.off, .int .i64 x.sz] 56)))
 have q2 := bel_al (w.alloc (.cells #[.int .u64 (x.key : Int), .int .u32 (x.ck : Int), .int .i64 x.off, .int .i64 x.sz] 56)) (.cells #[.int .u64 (x.key : Int), .int .u32 (x.ck : Int), .int .i64 x.off, .int .i64 x.sz] 56)
 generalize w.alloc (.cells #[.int .u64 (x.key : Int), .int .u32 (x.ck : Int), .int .i64 x.off, .int .i64 x.sz] 56) = W1 at *
 obtain ⟨⟨x0, x1, x2, x3⟩, -⟩ := bx4 HX.out
 go_wp2_with fail
 refine (PV.out _ _ IO.out).mono ?_
 rintro e w2 ⟨rfl, hb⟩
 go_wp2_with fail
 go_ret
 exact ⟨rfl, (q.trans (q2.mono q.size)).trans (hb.mono (Nat.le_trans q.size q2.size))⟩
/-- The items ahead of the i-th lie in a stripe. -/
theorem spTo_succ {L : List Itm} {s i : Nat} (h : ∀ x ∈ L.take i, sp x.key = s) (hi : i < L.length) (hx : sp (L.getD i z0).key = s) : ∀ x ∈ L.take (i + 1), sp x.key = s := fun x hm => by
 rw [take_snocT hi] at hm
 rcases List.mem_append.1 hm with hm | hm
 ·exact h x hm
 ·rw [List.mem_singleton.1 hm]; exact hx
theorem pbelong_any (v : Value) (L : List Itm) (s : Nat) (w : World) (sl : It w v L) (hlen : L.length ≤ 1000000) : Calls Tryz.prog 82 #[v, .int .i64 (s : Int)] w fun e w' => e = .returned (.bool (decide (∀ x ∈ L, sp x.key = s))) ∧ Below w.heap.size w w' := by
 have SL := Lh sl
 obtain ⟨a, c, rfl, -, -⟩ := it_form sl
 obtain ⟨n, hn⟩ : ∃ z, z = L.length := ⟨_, rfl⟩
 rw [← hn] at SL ⊢
 have HN := Lh (And.intro hn hlen)
 obtain ⟨q, hq⟩ : ∃ z, z = decide (∀ x ∈ L, sp x.key = s) := ⟨_, rfl⟩
 rw [← hq]
 have HQ := Lh hq
 clear sl hn hlen hq
 go_enter Tryz.func82, Tryz.ntmps82
 go_wp2_with fail
 go_loopw [9] (fun t wr => ∃ i : Nat, i ≤ n ∧ t = .int .i64 (i : Int) ∧ Hid (∀ x ∈ L.take i, sp x.key = s) ∧ Hid (Below w.heap.size w wr)) (fun t _ => n - (intOf t).toNat)
 case atStart => exact ⟨0, by omega, rfl, Lh (by simp), Lh (Below.refl _ _)⟩
 case round =>
  obtain ⟨i, hi, rfl, HT, BR⟩ := hrel
  rename World => wl
  by_cases hlt : i < n
  case neg =>
   have l1 : decide ((i : Int) < (n : Int)) = false := decide_eq_false (by omega)
   have l2 : decide (i < n) = false := decide_eq_false hlt
   have hqt : q = true := by
    rw [HQ.out]
    refine decide_eq_true fun x hx => HT.out x ?_
    rw [List.take_of_length_le (by have := HN.out.1; omega)]
    exact hx
   clear hlt hi HT
   subst hqt
   go_wp2_with fail
   go_ret
   exact ⟨rfl, BR.out⟩
  have l1 : decide ((i : Int) < (n : Int)) = true := decide_eq_true (by omega)
  have l2 : decide (i < n) = true := decide_eq_true hlt
  have HI := Lh hlt
  have EW := Lh (show wrap64 ((i : Int) + 1) = ((i + 1 : Nat) : Int) by have := HN.out; unfold wrap64; omega)
  obtain ⟨b, off, cap, hv, -, -, hc⟩ := it_cells (it_below SL.out BR.out) (by have := HN.out.1; omega)
  obtain ⟨rfl, -⟩ : a = some ⟨b, off, none⟩ ∧ (n = L.length ∧ c = cap) := by simpa using hv
  have C := hc i (by have := HN.out.1; omega)
  obtain ⟨x, hx⟩ : ∃ z, z = L.getD i z0 := ⟨_, rfl⟩
  rw [← hx] at C
  have HX := Lh hx
  obtain ⟨k0, k1, k2, k3⟩ := C
  have p0 : (0 : Int) ≤ (i : Int) := by omega
  have p1 : (i : Int) < (n : Int) := by omega
  clear hv hc hx hlt hi
  go_upto_region 4 with fail
  clear k0 k1 k2 k3 p0 p1 l1 l2
  have q1 := bel_al wl (.cells #[.int .u64 (x.key : Int), .int .u32 (x.ck : Int), .int .i64 x.off, .int .i64 x.sz] 56)
  have HB := Lh (heap_alloc_new wl (.cells #[.int .u64 (x.key : Int), .int .u32 (x.ck : Int), .int .i64 x.off, .int .i64 x.sz] 56))
  have B1 := Lh (BR.out.trans (q1.mono BR.out.size))
  clear q1
  generalize wl.alloc (.cells #[.int .u64 (x.key : Int), .int .u32 (x.ck : Int), .int .i64 x.off, .int .i64 x.sz] 56) = W1 at *
  obtain ⟨⟨x0, x1, x2, x3⟩, -⟩ := bx4 HB.out
  have ST := Lh (pstripe_any x.key W1)
  by_cases hsp : sp x.key = s
  case neg =>
   have l3 : (((sp x.key : Nat) : Int) != (s : Int)) = true := by rw [bne_iff_ne]; omega
   have hqf : q = false := by
    rw [HQ.out]
    refine decide_eq_false fun h => hsp ?_
    rw [HX.out]
    refine h _ (getT_mem ?_)
    have h1 := HI.out
    have h2 := HN.out.1
    omega
   clear hsp HT
   subst hqf
   generalize sp x.key = y at *
   go_wp2_with fail
   refine ST.out.mono ?_
   rintro e w2 ⟨rfl, rfl⟩
   go_wp2_with fail
   go_ret
   exact ⟨rfl, B1.out⟩
  have l3 : (((sp x.key : Nat) : Int) != (s : Int)) = false := by rw [bne_eq_false_iff_eq]; omega
  have HT1 := Lh (spTo_succ HT.out (by have := HI.out; have := HN.out.1; omega) (by rw [← HX.out]; exact hsp))
  clear hsp HT
  generalize sp x.key = y at *
  go_wp2_with fail
  refine ST.out.mono ?_
  rintro e w2 ⟨rfl, rfl⟩
  go_wp2_with fail
  go_roundw
  case rel =>
   have h1 := HI.out
   exact ⟨i + 1, by omega, by rw [EW.out], HT1, B1⟩
  case measure =>
   have h1 := HI.out
   rw [EW.out]
   simp [intOf]; omega
end Go.Proofs.YtbmlpafbdbhaiaaGreatDoor.Gf
namespace Go.Proofs.YtbmlpafbdbhaiaaGreatDoor.Gf
open Go Go.Joins Go.ChangeShapes Go.WideShapes Go.ChangeAt Go.RowKit Go.Deep Go.Proofs.YtbmlpafbdbhaiaaGreatDoor.By Go.Proofs.YtbmlpafbdbhaiaaGreatDoor.Qt
set_option maxRecDepth 100000
set_option maxHeartbeats 204800000

theorem csum {a b c d : Int} (ha : a.natAbs < 2 ^ 53) (hb : b.natAbs < 2 ^ 53) (hc : c.natAbs < 2 ^ 53) (hd : d.natAbs < 2 ^ 53) (h1 : (a + c).natAbs < 2 ^ 53) (h2 : (b + d).natAbs < 2 ^ 53) : cSumBits .add .f64 (flw a) (flw b) (flw c) (flw d) = some (flw (a + c), flw (b + d)) := by
 unfold cSumBits
 rw [add_flw ha hc h1, add_flw hb hd h2]
 rfl
/-- Few items in each stripe. -/
def Few (m : Mp) : Prop := ∀ k, k < 8 → (ms m k).length ≤ 1000
theorem flat_len {m : Mp} (h : Few m) (hl : m.st.length = 8) : ∀ s, s ≤ 8 → (m.st.take s).flatten.length ≤ 1000 * s
 | 0, _ => by simp
 | s + 1, hs => by
  have ih := flat_len h hl s (by omega)
  have := h s (by omega)
  rw [List.take_succ_eq_append_getElem (by omega), List.flatten_append, List.length_append, ← ms_of (by omega), show [ms m s].flatten = ms m s by simp]
  omega
theorem byT_take_st {m : Mp} (hl : m.st.length = 8) {s : Nat} (hs : s < 8) : byT (m.st.take (s + 1)).flatten = byT (m.st.take s).flatten + byT (ms m s) := by
 rw [List.take_succ_eq_append_getElem (by omega), List.flatten_append, byT_append, ← ms_of (by omega), show [ms m s].flatten = ms m s by simp]
theorem byT_takeI {L : List Itm} {i : Nat} (hi : i < L.length) : byT (L.take (i + 1)) = byT (L.take i) + szT (L.getD i z0) := by
 rw [take_snocT hi, byT_append, byT_cons, byT_nil]
 omega
/-- A sum of records as a complex number. -/
def Cx (z0' z1' : Nat) (a b : Int) : Prop := z0' = flw a ∧ z1' = flw b
theorem precords_any (v : Value) (m : Mp) (w : World) (hv : Mv w v m) (hf : Few m) : Calls Tryz.prog 83 #[v] w fun e w' => e = .returned (.complex .f64 (flw (byT m.st.flatten)) (flw 0)) ∧ Below w.heap.size w w' := by
 obtain ⟨s0, s1, s2, s3, s4, s5, s6, s7, rfl, hms⟩ := hv
 have HL := Lh hms.1
 have HF := Lh hf
 have BX := Lh (bel_al w (.cells #[s0, s1, s2, s3, s4, s5, s6, s7, .int .i64 m.live, .int .i64 m.garb] 48))
 have HX := Lh (heap_alloc_new w (.cells #[s0, s1, s2, s3, s4, s5, s6, s7, .int .i64 m.live, .int .i64 m.garb] 48))
 have MS := Lh (ms_below hms BX.out)
 clear hms hf
 go_enter Tryz.func83, Tryz.ntmps83
 go_upto_region 1 with fail
 generalize w.alloc (.cells #[s0, s1, s2, s3, s4, s5, s6, s7, .int .i64 m.live, .int .i64 m.garb] 48) = W1 at *
 obtain ⟨x0, x1, x2, x3, x4, x5, x6, x7, x8, x9⟩ := bx10 HX.out
 go_wp2_with fail
 clear x0 x1 x2 x3 x4 x5 x6 x7 x8 x9
 go_loopw [3, 10] (fun t3 t10 wr => ∃ (k y z : Nat), k ≤ 8 ∧ t10 = .int .i64 (k : Int) ∧ t3 = .complex .f64 y z ∧ Hid (Cx y z (byT (m.st.take k).flatten) 0) ∧ Hid (Below W1.heap.size W1 wr)) (fun _ t _ => 8 - (intOf t).toNat)
 case atStart => exact ⟨0, 0, 0, by omega, rfl, rfl, Lh ⟨flw_zero.symm, flw_zero.symm⟩, Lh (Below.refl _ _)⟩
 case round =>
  obtain ⟨k, y, z, hk, rfl, rfl, HC, BR⟩ := hrel
  rename World => wl
  by_cases hlt : k < 8
  case neg =>
   have l1 : decide ((k : Int) < 8) = false := decide_eq_false (by omega)
   have l2 : decide (k < 8) = false := decide_eq_false hlt
   have HE := Lh (show y = flw (byT m.st.flatten) ∧ z = flw 0 by
    have h := HC.out
    rw [List.take_of_length_le (by have := HL.out; omega)] at h
    exact h)
   clear hlt hk HC
   go_wp2_with fail
   go_ret
   exact ⟨by rw [HE.out.1, HE.out.2]; rfl, BX.out.trans (BR.out.mono BX.out.size)⟩
  have l1 : decide ((k : Int) < 8) = true := decide_eq_true (by omega)
  have l2 : decide (k < 8) = true := decide_eq_true hlt
  have HK := Lh hlt
  have EK := Lh (show wrap64 ((k : Int) + 1) = ((k + 1 : Nat) : Int) by unfold wrap64; omega)
  obtain ⟨a, c, hsel, hit⟩ := MS.out.2.2.2 k hlt
  obtain ⟨L, hL⟩ : ∃ z, z = ms m k := ⟨_, rfl⟩
  rw [← hL] at hsel hit
  obtain ⟨n, hn⟩ : ∃ z, z = L.length := ⟨_, rfl⟩
  rw [← hn] at hsel hit
  have IT := Lh (it_below hit BR.out)
  have HN := Lh (show n = L.length ∧ n ≤ 1000 from ⟨hn, by rw [hn, hL]; exact HF.out k hlt⟩)
  have HML := Lh hL
  have hix := run_index8 wl hlt hsel
  clear hsel hit hL hn hlt hk
  go_upto_region 5 with fail
  clear hix l1 l2
  go_wp2_with fail
  go_loopw [3, 15] (fun t3 t15 wr => ∃ (i y2 z2 : Nat), i ≤ n ∧ t15 = .int .i64 (i : Int) ∧ t3 = .complex .f64 y2 z2 ∧ Hid (Cx y2 z2 (byT (m.st.take k).flatten + byT (L.take i)) 0) ∧ Hid (Below wl.heap.size wl wr)) (fun _ t _ => n - (intOf t).toNat)
  case atStart => exact ⟨0, y, z, by omega, rfl, rfl, Lh (by simpa [byT_nil] using HC.out), Lh (Below.refl _ _)⟩
  case round =>
   clear HC
   obtain ⟨i, y2, z2, hi, rfl, rfl, HC, BQ⟩ := hrel
   rename World => wk
   by_cases hlt : i < n
   case neg =>
    have l1 : decide ((i : Int) < (n : Int)) = false := decide_eq_false (by omega)
    have l2 : decide (i < n) = false := decide_eq_false hlt
    have BE := Lh (show Below W1.heap.size W1 wk from BR.out.trans (BQ.out.mono BR.out.size))
    have HE := Lh (show Cx y2 z2 (byT (m.st.take (k + 1)).flatten) 0 by
     have h := HC.out
     rw [show L.take i = L from List.take_of_length_le (by have := HN.out.1; omega)] at h
     rw [byT_take_st HL.out HK.out, ← HML.out]
     exact h)
    clear hlt hi HC
    go_wp2_with fail
    go_roundw
    case rel =>
     have h1 := HK.out
     exact ⟨k + 1, y2, z2, by omega, by rw [EK.out], rfl, HE, BE⟩
    case measure =>
     have h1 := HK.out
     rw [EK.out]
     simp [intOf]; omega
   have l1 : decide ((i : Int) < (n : Int)) = true := decide_eq_true (by omega)
   have l2 : decide (i < n) = true := decide_eq_true hlt
   have HI := Lh hlt
   have EI := Lh (show wrap64 ((i : Int) + 1) = ((i + 1 : Nat) : Int) by have := HN.out; unfold wrap64; omega)
   obtain ⟨b, off, cap, hv, -, -, hc⟩ := it_cells (it_below IT.out BQ.out) (by have := HN.out.1; omega)
   obtain ⟨rfl, -⟩ : a = some ⟨b, off, none⟩ ∧ (n = L.length ∧ c = cap) := by simpa using hv
   have C := hc i (by have := HN.out.1; omega)
   have hok : ItOk (L.getD i z0) := getT_ok IT.out.1 i
   have hsum := byT_takeI (L := L) (i := i) (by have := HN.out.1; omega)
   obtain ⟨x, hx⟩ : ∃ z, z = L.getD i z0 := ⟨_, rfl⟩
   rw [← hx] at C hok hsum
   have PW := Lh (fun W => pwritten_any x hok.sz W)
   obtain ⟨k0, k1, k2, k3⟩ := C
   have b1 := byT_bd (m.st.take k).flatten
   have b2 := flat_len HF.out HL.out k (by have := HK.out; omega)
   have b3 := byT_bd (L.take i)
   have b4 := szT_bd x
   have b5 : (L.take i).length ≤ 1000 := by rw [List.length_take]; have := HN.out; omega
   obtain ⟨y3, hy3⟩ : ∃ y3, y3 = flw (szT x) := ⟨_, rfl⟩
   obtain ⟨zz, hzz⟩ : ∃ zz, zz = flw 0 := ⟨_, rfl⟩
   obtain ⟨y4, hy4⟩ : ∃ y4, y4 = flw (byT (m.st.take k).flatten + byT (L.take i) + szT x) := ⟨_, rfl⟩
   have hz2 : z2 = zz := by rw [hzz]; exact HC.out.2
   subst hz2
   have hadd : cSumBits .add .f64 y2 z2 y3 z2 = some (y4, z2) := by
    have h := csum (a := byT (m.st.take k).flatten + byT (L.take i)) (b := 0) (c := szT x) (d := 0) (by have := HK.out; omega) (by decide) (by omega) (by decide) (by have := HK.out; omega) (by decide)
    rw [← HC.out.1, ← hy3, ← hy4, show (0 : Int) + 0 = 0 from rfl, ← hzz] at h
    exact h
   have HADD := Lh (fun W => run_complex_sum (P := Tryz.prog) W .add (Or.inl rfl) 136 .f64 y2 z2 y3 z2 y4 z2 hadd)
   have HE := Lh (show Cx y4 z2 (byT (m.st.take k).flatten + byT (L.take (i + 1))) 0 from ⟨by rw [hy4, hsum]; congr 1; omega, hzz⟩)
   rw [← hy3, ← hzz] at PW
   have p0 : (0 : Int) ≤ (i : Int) := by omega
   have p1 : (i : Int) < (n : Int) := by omega
   clear hv hc hok hsum hx hlt hi hadd hy3 hy4 hzz HC b1 b2 b3 b4 b5
   go_upto_region 8 with fail
   clear k0 k1 k2 k3 p0 p1 l1 l2
   have q1 := bel_al wk (.cells #[.int .u64 (x.key : Int), .int .u32 (x.ck : Int), .int .i64 x.off, .int .i64 x.sz] 56)
   have HB := Lh (heap_alloc_new wk (.cells #[.int .u64 (x.key : Int), .int .u32 (x.ck : Int), .int .i64 x.off, .int .i64 x.sz] 56))
   have B1 := Lh (BQ.out.trans (q1.mono BQ.out.size))
   clear q1
   generalize wk.alloc (.cells #[.int .u64 (x.key : Int), .int .u32 (x.ck : Int), .int .i64 x.off, .int .i64 x.sz] 56) = W2 at *
   obtain ⟨⟨x0, x1, x2, x3⟩, -⟩ := bx4 HB.out
   go_wp2_with fail
   clear x0 x1 x2 x3
   refine (PW.out _).mono ?_
   rintro e w3 ⟨rfl, hb⟩
   have hadd := HADD.out w3
   have B3 := Lh (B1.out.trans (hb.mono B1.out.size))
   clear hb HADD PW
   go_wp2_with fail
   clear hadd
   go_roundw
   case rel =>
    have h1 := HI.out
    exact ⟨i + 1, y4, z2, by omega, by rw [EI.out], rfl, HE, B3⟩
   case measure =>
    have h1 := HI.out
    rw [EI.out]
    simp [intOf]; omega
end Go.Proofs.YtbmlpafbdbhaiaaGreatDoor.Gf
namespace Go.Proofs.YtbmlpafbdbhaiaaGreatDoor.Gf
open Go Go.Joins Go.ChangeShapes Go.WideShapes Go.ChangeAt Go.RowKit Go.Deep Go.Proofs.YtbmlpafbdbhaiaaGreatDoor.By Go.Proofs.YtbmlpafbdbhaiaaGreatDoor.Qt
set_option maxRecDepth 100000
set_option maxHeartbeats 204800000

open Classical in
noncomputable def okMb (m : Mp) : Bool := decide (okM m)
theorem okMb_t {m : Mp} (h : okM m) : okMb m = true := by unfold okMb; exact @decide_eq_true _ (Classical.propDecidable _) h
theorem okMb_f {m : Mp} (h : ¬ okM m) : okMb m = false := by unfold okMb; exact @decide_eq_false _ (Classical.propDecidable _) h
/-- Every stripe ahead of the k-th is in order. -/
def okSt (m : Mp) (k : Nat) : Prop := ∀ s, s < k → okT (ms m s) ∧ ∀ x ∈ ms m s, sp x.key = s
theorem okM_iff {m : Mp} : okM m ↔ okSt m 8 ∧ m.live = byT m.st.flatten ∧ 0 ≤ m.garb ∧ m.garb ≤ 1099511627776 :=
 ⟨fun h => ⟨fun s hs => ⟨h.ok s hs, h.sp s hs⟩, h.live, h.lo, h.hi⟩, fun h => ⟨fun s hs => (h.1 s hs).1, fun s hs => (h.1 s hs).2, h.2.1, h.2.2.1, h.2.2.2⟩⟩
theorem pvalid11_any (v : Value) (m : Mp) (w : World) (hv : Mv w v m) (hf : Few m) : Calls Tryz.prog 48 #[v] w fun e w' => e = .returned (.bool (okMb m)) ∧ Below w.heap.size w w' := by
 obtain ⟨s0, s1, s2, s3, s4, s5, s6, s7, rfl, hms⟩ := hv
 have HL := Lh hms.1
 have HF := Lh hf
 have BX := Lh (bel_al w (.cells #[s0, s1, s2, s3, s4, s5, s6, s7, .int .i64 m.live, .int .i64 m.garb] 48))
 have HX := Lh (heap_alloc_new w (.cells #[s0, s1, s2, s3, s4, s5, s6, s7, .int .i64 m.live, .int .i64 m.garb] 48))
 have MS := Lh (ms_below hms BX.out)
 obtain ⟨q, hq⟩ : ∃ q, q = okMb m := ⟨_, rfl⟩
 rw [← hq]
 have HQ := Lh hq
 have SW := Lh (show w.heap.size ≤ (w.alloc (.cells #[s0, s1, s2, s3, s4, s5, s6, s7, .int .i64 m.live, .int .i64 m.garb] 48)).heap.size from BX.out.size)
 clear hms hf hq
 go_enter Tryz.func48, Tryz.ntmps48
 go_upto_region 1 with fail
 generalize w.alloc (.cells #[s0, s1, s2, s3, s4, s5, s6, s7, .int .i64 m.live, .int .i64 m.garb] 48) = W1 at *
 obtain ⟨x0, x1, x2, x3, x4, x5, x6, x7, x8, x9⟩ := bx10 HX.out
 go_wp2_with fail
 clear x0 x1 x2 x3 x4 x5 x6 x7 x8 x9
 go_loopw [7] (fun t7 wr => ∃ k : Nat, k ≤ 8 ∧ t7 = .int .i64 (k : Int) ∧ Hid (okSt m k) ∧ Hid (Below W1.heap.size W1 wr)) (fun t _ => 8 - (intOf t).toNat)
 case atStart => exact ⟨0, by omega, rfl, Lh (fun s hs => by omega), Lh (Below.refl _ _)⟩
 case round =>
  obtain ⟨k, hk, rfl, HO, BR⟩ := hrel
  rename World => wl
  by_cases hlt : k < 8
  case neg =>
   have l1 : decide ((k : Int) < 8) = false := decide_eq_false (by omega)
   have l2 : decide (k < 8) = false := decide_eq_false hlt
   have HO8 := Lh (show okSt m 8 by rw [show 8 = k by omega]; exact HO.out)
   clear hlt hk HO
   have HXl := Lh ((BR.out.block _ (lt_of_some HX.out)).trans HX.out)
   have MVl : Mv wl (.agg #[s0, s1, s2, s3, s4, s5, s6, s7, .int .i64 m.live, .int .i64 m.garb]) m := ⟨s0, s1, s2, s3, s4, s5, s6, s7, rfl, ms_below MS.out BR.out⟩
   have BL := Lh (BX.out.trans (BR.out.mono SW.out))
   obtain ⟨x0, x1, x2, x3, x4, x5, x6, x7, x8, x9⟩ := bx10 HXl.out
   have G1 := Lh (regrown_bel (w := wl) fun w' hw' => precords_any _ m w' (mv_below MVl hw') HF.out)
   obtain ⟨S, hS⟩ : ∃ S, S = byT m.st.flatten := ⟨_, rfl⟩
   have hSb : 0 ≤ S ∧ S ≤ 33600000 := by
    have h1 := byT_bd m.st.flatten
    have h2 := flat_len HF.out HL.out 8 (Nat.le_refl _)
    rw [List.take_of_length_le (by have := HL.out; omega)] at h2
    omega
   have fi : floatToIntVal .f64 (flw S) .i64 = some S := int_flw (by omega)
   rw [← hS] at G1
   have HIF := Lh (show okM m ↔ okSt m 8 ∧ m.live = S ∧ 0 ≤ m.garb ∧ m.garb ≤ 1099511627776 by rw [hS]; exact okM_iff)
   obtain ⟨y, hy⟩ : ∃ y, y = flw S := ⟨_, rfl⟩
   obtain ⟨zz, hzz⟩ : ∃ zz, zz = flw 0 := ⟨_, rfl⟩
   rw [← hy] at fi
   rw [← hy, ← hzz] at G1
   have y0 := fun d os => cell_regrown x0 d os
   have y1 := fun d os => cell_regrown x1 d os
   have y2 := fun d os => cell_regrown x2 d os
   have y3 := fun d os => cell_regrown x3 d os
   have y4 := fun d os => cell_regrown x4 d os
   have y5 := fun d os => cell_regrown x5 d os
   have y6 := fun d os => cell_regrown x6 d os
   have y7 := fun d os => cell_regrown x7 d os
   have y8 := fun d os => cell_regrown x8 d os
   have y9 := fun d os => cell_regrown x9 d os
   have HCV := Lh (fun W => run_convert_float_int (P := Tryz.prog) W 134 2 .f64 .i64 y S rfl Tryz.underlying2 fi)
   clear x0 x1 x2 x3 x4 x5 x6 x7 x8 x9 hSb hy hzz hS MVl fi
   by_cases c1 : m.live = S
   case neg =>
    have hqf : q = false := by rw [HQ.out]; exact okMb_f fun h => c1 (HIF.out.1 h).2.1
    have l3 : (m.live == S) = false := by simpa using c1
    have l4 : decide (m.live = S) = false := decide_eq_false c1
    clear c1
    subst hqf
    go_upto_region 7 with fail
    refine wp_region_bl (by kernel_rfl) (by kernel_rfl) ?_
    iterate 3 (go_big_quiet_step (fail))
    go_big_quiet_step ((go_at_call 83; exact G1.out _ _))
    have hcv := fun W => HCV.out W
    repeat (go_big_quiet_step (fail))
    refine wpQuiet_nil ?_
    intro w9 hb9
    have B9 := Lh (BL.out.trans (hb9.mono (Nat.le_trans SW.out BR.out.size)))
    clear hb9
    go_wp2_with fail
    go_ret
    exact ⟨rfl, B9.out⟩
   have l3 : (m.live == S) = true := by simpa using c1
   have l4 : decide (m.live = S) = true := decide_eq_true c1
   have l5 : (S == S) = true := by simp
   by_cases c2 : 0 ≤ m.garb
   case neg =>
    have hqf : q = false := by rw [HQ.out]; exact okMb_f fun h => c2 (HIF.out.1 h).2.2.1
    have l6 : decide (0 ≤ m.garb) = false := decide_eq_false c2
    clear c1 c2
    subst hqf
    go_upto_region 7 with fail
    refine wp_region_bl (by kernel_rfl) (by kernel_rfl) ?_
    iterate 3 (go_big_quiet_step (fail))
    go_big_quiet_step ((go_at_call 83; exact G1.out _ _))
    have hcv := fun W => HCV.out W
    repeat (go_big_quiet_step (fail))
    refine wpQuiet_nil ?_
    intro w9 hb9
    have B9 := Lh (BL.out.trans (hb9.mono (Nat.le_trans SW.out BR.out.size)))
    clear hb9
    go_wp2_with fail
    go_ret
    exact ⟨rfl, B9.out⟩
   have l6 : decide (0 ≤ m.garb) = true := decide_eq_true c2
   by_cases c3 : m.garb ≤ 1099511627776
   case neg =>
    have hqf : q = false := by rw [HQ.out]; exact okMb_f fun h => c3 (HIF.out.1 h).2.2.2
    have l7 : decide (m.garb ≤ 1099511627776) = false := decide_eq_false c3
    clear c1 c2 c3
    subst hqf
    go_upto_region 7 with fail
    refine wp_region_bl (by kernel_rfl) (by kernel_rfl) ?_
    iterate 3 (go_big_quiet_step (fail))
    go_big_quiet_step ((go_at_call 83; exact G1.out _ _))
    have hcv := fun W => HCV.out W
    repeat (go_big_quiet_step (fail))
    refine wpQuiet_nil ?_
    intro w9 hb9
    have B9 := Lh (BL.out.trans (hb9.mono (Nat.le_trans SW.out BR.out.size)))
    clear hb9
    go_wp2_with fail
    go_ret
    exact ⟨rfl, B9.out⟩
   have hqt : q = true := by rw [HQ.out]; exact okMb_t (HIF.out.2 ⟨HO8.out, c1, c2, c3⟩)
   have l7 : decide (m.garb ≤ 1099511627776) = true := decide_eq_true c3
   clear c1 c2 c3
   subst hqt
   go_upto_region 7 with fail
   refine wp_region_bl (by kernel_rfl) (by kernel_rfl) ?_
   iterate 3 (go_big_quiet_step (fail))
   go_big_quiet_step ((go_at_call 83; exact G1.out _ _))
   have hcv := fun W => HCV.out W
   repeat (go_big_quiet_step (fail))
   refine wpQuiet_nil ?_
   intro w9 hb9
   have B9 := Lh (BL.out.trans (hb9.mono (Nat.le_trans SW.out BR.out.size)))
   clear hb9
   go_wp2_with fail
   go_ret
   exact ⟨rfl, B9.out⟩
  have l1 : decide ((k : Int) < 8) = true := decide_eq_true (by omega)
  have l2 : decide (k < 8) = true := decide_eq_true hlt
  have HK := Lh hlt
  have EK := Lh (show wrap64 ((k : Int) + 1) = ((k + 1 : Nat) : Int) by unfold wrap64; omega)
  obtain ⟨a, c, hsel, hit⟩ := MS.out.2.2.2 k hlt
  obtain ⟨L, hL⟩ : ∃ z, z = ms m k := ⟨_, rfl⟩
  have hln := HF.out k hlt
  rw [← hL] at hsel hit hln
  have IT := Lh (it_below hit BR.out)
  have PV := Lh (pvalid8_any _ L wl IT.out)
  have PB := Lh (fun W h => pbelong_any _ L k W (it_below IT.out h) (by omega))
  obtain ⟨n, hn⟩ : ∃ z, z = L.length := ⟨_, rfl⟩
  rw [← hn] at hsel PV PB
  have HML := Lh hL
  have hix := run_index8 wl hlt hsel
  clear hsel hit hL hn hlt hk hln IT
  by_cases c1 : okT L
  case neg =>
   have hqf : q = false := by rw [HQ.out]; exact okMb_f fun h => c1 (by rw [HML.out]; exact h.ok k HK.out)
   rw [decide_eq_false c1] at PV
   clear c1
   subst hqf
   go_wp2_with fail
   refine PV.out.mono ?_
   rintro e w2 ⟨rfl, hb⟩
   have B2 := Lh (BX.out.trans ((BR.out.trans (hb.mono BR.out.size)).mono SW.out))
   clear hb
   go_wp2_with fail
   go_ret
   exact ⟨rfl, B2.out⟩
  rw [decide_eq_true c1] at PV
  by_cases c2 : ∀ x ∈ L, sp x.key = k
  case neg =>
   have hqf : q = false := by rw [HQ.out]; exact okMb_f fun h => c2 (by rw [HML.out]; exact h.sp k HK.out)
   rw [decide_eq_false c2] at PB
   clear c1 c2
   subst hqf
   go_wp2_with fail
   refine PV.out.mono ?_
   rintro e w2 ⟨rfl, hb⟩
   have PB2 := Lh (PB.out w2 hb)
   have B1 := Lh (BR.out.trans (hb.mono BR.out.size))
   clear hb hix
   go_wp2_with fail
   refine PB2.out.mono ?_
   rintro e w3 ⟨rfl, hb⟩
   have B2 := Lh (BX.out.trans ((B1.out.trans (hb.mono B1.out.size)).mono SW.out))
   clear hb
   go_wp2_with fail
   go_ret
   exact ⟨rfl, B2.out⟩
  rw [decide_eq_true c2] at PB
  have HO1 := Lh (show okSt m (k + 1) from fun s hs => by
   rcases Nat.lt_or_ge s k with h | h
   ·exact HO.out s h
   ·obtain rfl : s = k := by omega
    rw [← HML.out]
    exact ⟨c1, c2⟩)
  clear c1 c2 HO
  go_wp2_with fail
  refine PV.out.mono ?_
  rintro e w2 ⟨rfl, hb⟩
  have PB2 := Lh (PB.out w2 hb)
  have B1 := Lh (BR.out.trans (hb.mono BR.out.size))
  clear hb hix
  go_wp2_with fail
  refine PB2.out.mono ?_
  rintro e w3 ⟨rfl, hb⟩
  have B2 := Lh (B1.out.trans (hb.mono B1.out.size))
  clear hb
  go_wp2_with fail
  go_roundw
  case rel =>
   have h1 := HK.out
   exact ⟨k + 1, by omega, by rw [EK.out], HO1, B2⟩
  case measure =>
   have h1 := HK.out
   rw [EK.out]
   simp [intOf]; omega
end Go.Proofs.YtbmlpafbdbhaiaaGreatDoor.Gf
namespace Go.Proofs.YtbmlpafbdbhaiaaGreatDoor.Gf
open Go Go.Joins Go.ChangeShapes Go.WideShapes Go.ChangeAt Go.RowKit Go.Deep Go.Proofs.YtbmlpafbdbhaiaaGreatDoor.By Go.Proofs.YtbmlpafbdbhaiaaGreatDoor.Qt
set_option maxRecDepth 100000
set_option maxHeartbeats 204800000

open Classical in
/-- The stripe of a key, of a map that is valid. -/
noncomputable def gL (m : Mp) (k : Nat) : List Itm := if okM m then ms m (sp k) else []
theorem pget_end {R : Ending → World → Prop} {W : World} {g : Nat} {tmps : Array Value} {k c d s : Value} (hp : tmps.getD 4 undef = .pointer (some ⟨g, 0, none⟩)) (hg : W.heap[g]? = some (.cells #[k, c, d, s] 56 (0, 0)))
 (hR : R (.returned (.tuple #[.agg #[k, c, d, s], tmps.getD 5 undef])) W) : bodyPost Tryz.prog Tryz.f37 R .ret { tmps := tmps, defers := [] } W :=
 bodyPost_ret (results_rt rfl _ _ g #[k, c, d, s] hp hg Tryz.underlying56 rfl infoT4) rfl hR
theorem pget_any (v : Value) (m : Mp) (k : Nat) (w : World) (hv : Mv w v m) (hf : Few m) : Calls Tryz.prog 37 #[v, .int .u64 (k : Int)] w (FD w (gL m k) k) := by
 have HF := Lh hf
 have PV := Lh (fun W (h : Below w.heap.size w W) => pvalid11_any v m W (mv_below hv h) hf)
 obtain ⟨s0, s1, s2, s3, s4, s5, s6, s7, rfl, hms⟩ := hv
 have q1 := bel_al w (.cells #[s0, s1, s2, s3, s4, s5, s6, s7, .int .i64 m.live, .int .i64 m.garb] 48)
 have h1 := heap_alloc_new w (.cells #[s0, s1, s2, s3, s4, s5, s6, s7, .int .i64 m.live, .int .i64 m.garb] 48)
 have hsz : (w.alloc (.cells #[s0, s1, s2, s3, s4, s5, s6, s7, .int .i64 m.live, .int .i64 m.garb] 48)).heap.size = w.heap.size + 1 := by simp
 have q2 := bel_al (w.alloc (.cells #[s0, s1, s2, s3, s4, s5, s6, s7, .int .i64 m.live, .int .i64 m.garb] 48)) (.cells #[.int .u64 0, .int .u32 0, .int .i64 0, .int .i64 0] 56)
 have h2 := heap_alloc_new (w.alloc (.cells #[s0, s1, s2, s3, s4, s5, s6, s7, .int .i64 m.live, .int .i64 m.garb] 48)) (.cells #[.int .u64 0, .int .u32 0, .int .i64 0, .int .i64 0] 56)
 rw [hsz] at h2
 have HZ2 := Lh h2
 have HM2 := Lh ((q2.block _ (lt_of_some h1)).trans h1)
 have B2 := Lh (q1.trans (q2.mono q1.size))
 have MS2 := Lh (ms_below hms B2.out)
 clear hms hf q1 q2 h1 h2 hsz
 go_enter Tryz.func37, Tryz.ntmps37
 go_upto_region 1 with fail
 generalize (w.alloc (.cells #[s0, s1, s2, s3, s4, s5, s6, s7, .int .i64 m.live, .int .i64 m.garb] 48)).alloc (.cells #[.int .u64 0, .int .u32 0, .int .i64 0, .int .i64 0] 56) = W2 at *
 obtain ⟨x0, x1, x2, x3, x4, x5, x6, x7, x8, x9⟩ := bx10 HM2.out
 by_cases hok : okM m
 case neg =>
  have PV2 := Lh (PV.out W2 B2.out)
  rw [okMb_f hok] at PV2
  have HE := Lh (show gL m k = [] by unfold gL; rw [if_neg hok])
  clear hok PV
  go_wp2_with fail
  clear x0 x1 x2 x3 x4 x5 x6 x7 x8 x9
  refine PV2.out.mono ?_
  rintro e w3 ⟨rfl, hb⟩
  have B3 := Lh (B2.out.trans (hb.mono B2.out.size))
  have HZ3 := Lh ((hb.block _ (lt_of_some HZ2.out)).trans HZ2.out)
  clear hb PV2 HZ2 HM2 B2
  obtain ⟨⟨d0, d1, d2, d3⟩, f0, f1, f2, f3⟩ := bx4 HZ3.out
  go_wp2_with fail
  exact pget_end (g := w.heap.size + 1) rfl (set4J HZ3.out) ⟨by rw [HE.out]; rfl, below4J B3.out (Nat.le_succ _)⟩
 have PV2 := Lh (PV.out W2 B2.out)
 rw [okMb_t hok] at PV2
 have HE := Lh (show gL m k = ms m (sp k) by unfold gL; rw [if_pos hok])
 obtain ⟨a, c, hsel, hit⟩ := MS2.out.2.2.2 (sp k) (sp_lt k)
 have PF := Lh (fun W (h : Below W2.heap.size W2 W) => pfind8_any _ (ms m (sp k)) k W (it_below hit h) (HF.out _ (sp_lt k)))
 obtain ⟨n, hn⟩ : ∃ z, z = (ms m (sp k)).length := ⟨_, rfl⟩
 rw [← hn] at hsel PF
 have hcell := bxk HM2.out (sp_lt k) hsel
 have HC := Lh hcell
 have ST := Lh (fun W => pstripe_any k W)
 have hlt := sp_lt k
 obtain ⟨u, hu⟩ : ∃ u, u = sp k := ⟨_, rfl⟩
 rw [← hu] at ST HC hlt
 have p0 : (0 : Int) ≤ (u : Int) := by omega
 have p1 : (u : Int) < 8 := by omega
 have p2 : u < 8 := hlt
 have HU := Lh hu
 clear hok PV hit hn hsel hcell hlt hu
 go_wp2_with fail
 clear x0 x1 x2 x3 x4 x5 x6 x7 x8 x9
 refine PV2.out.mono ?_
 rintro e w3 ⟨rfl, hb⟩
 have B3 := Lh (B2.out.trans (hb.mono B2.out.size))
 have BB3 := Lh hb
 have HZ3 := Lh ((hb.block _ (lt_of_some HZ2.out)).trans HZ2.out)
 have hc3 := (hb.cell (block_lt_of_cell HC.out)).trans HC.out
 clear hb PV2 HZ2 HM2 B2
 go_wp2_with fail
 refine (ST.out _).mono ?_
 rintro e w4 ⟨rfl, rfl⟩
 go_wp2_with fail
 refine (PF.out _ BB3.out).mono ?_
 rintro e w5 ⟨rfl, hb⟩
 have B5 := Lh (B3.out.trans (hb.mono B3.out.size))
 have HZ5 := Lh ((hb.block _ (lt_of_some HZ3.out)).trans HZ3.out)
 clear hb HZ3 hc3 B3
 obtain ⟨⟨d0, d1, d2, d3⟩, f0, f1, f2, f3⟩ := bx4 HZ5.out
 have HFD := Lh (show fnL (ms m (sp k)) k = fnL (gL m k) k ∧ hasL (ms m (sp k)) k = hasL (gL m k) k by rw [HE.out]; exact ⟨rfl, rfl⟩)
 unfold TV
 generalize fnL (ms m (sp k)) k = y at *
 generalize hasL (ms m (sp k)) k = qq at *
 go_wp2_with fail
 exact pget_end (g := w.heap.size + 1) rfl (set4J HZ5.out) ⟨by rw [← HFD.out.1, ← HFD.out.2]; rfl, below4J B5.out (Nat.le_succ _)⟩
end Go.Proofs.YtbmlpafbdbhaiaaGreatDoor.Gf
namespace Go.Proofs.YtbmlpafbdbhaiaaGreatDoor.Gf
open Go Go.Joins Go.ChangeShapes Go.WideShapes Go.ChangeAt Go.RowKit Go.Deep Go.Proofs.YtbmlpafbdbhaiaaGreatDoor.By Go.Proofs.YtbmlpafbdbhaiaaGreatDoor.Qt
set_option maxRecDepth 100000
set_option maxHeartbeats 204800000

theorem c40_flw : flw 1099511627776 = 4787326403894837248 := by decide +kernel
theorem infoM10 : (Tryz.prog.info? 48).map (·.size) = some 10 := by kernel_rfl
/-- A store of a whole map. -/
theorem storeM {ops : Array Oper} {rest : List Oper} {x y : Operand} {pos : String} {after : Array Edge} {ty : TypeId} {a : Act} {w : World} {Q : Exit → Act → World → Prop}
 (g : Nat) (old cs : Array Value) (hx : a.eval x = .pointer (some ⟨g, 0, none⟩)) (hy : a.eval y = .agg cs) (hg : w.heap[g]? = some (.cells old 48 (0, 0))) (ho : old.size = 10) (hs : cs.size = 10) (h1 : cs.all (·.oneCell') = true)
 (h : wpList Tryz.prog ops Q rest a (w.setRow g cs)) : wpList Tryz.prog ops Q (⟨none, .store 48 x y, ty, pos, after, none⟩ :: rest) a w :=
 wpList_store_row rfl 48 x y rfl g cs hx hy 48 old hg (by rw [infoM10, hs]) (by omega) h1 h
theorem ms_one {w : World} {s0 s1 s2 s3 s4 s5 s6 s7 : Value} {m : Mp} (h : Ms w [s0, s1, s2, s3, s4, s5, s6, s7] m) (l g : Int) : (#[s0, s1, s2, s3, s4, s5, s6, s7, .int .i64 l, .int .i64 g] : Array Value).all (·.oneCell') = true := by
 obtain ⟨a0, c0, h0, -⟩ := h.2.2.2 0 (by decide)
 obtain ⟨a1, c1, h1, -⟩ := h.2.2.2 1 (by decide)
 obtain ⟨a2, c2, h2, -⟩ := h.2.2.2 2 (by decide)
 obtain ⟨a3, c3, h3, -⟩ := h.2.2.2 3 (by decide)
 obtain ⟨a4, c4, h4, -⟩ := h.2.2.2 4 (by decide)
 obtain ⟨a5, c5, h5, -⟩ := h.2.2.2 5 (by decide)
 obtain ⟨a6, c6, h6, -⟩ := h.2.2.2 6 (by decide)
 obtain ⟨a7, c7, h7, -⟩ := h.2.2.2 7 (by decide)
 simp at h0 h1 h2 h3 h4 h5 h6 h7
 subst h0 h1 h2 h3 h4 h5 h6 h7
 simp [show ∀ a n c, (Value.slice a n c).oneCell' = true from fun _ _ _ => rfl, show ∀ k x, (Value.int k x).oneCell' = true from fun _ _ => rfl]
theorem below_setRowM {B g : Nat} {w0 w : World} (h : Below B w0 w) (hg : B ≤ g) (cs : Array Value) : Below B w0 (w.setRow g cs) := h.trans ⟨rfl, rfl, rfl, by simp, fun k hk => setRow_other _ _ _ _ (by omega)⟩
theorem fz10 {w : World} {g : Nat} {s0 s1 s2 s3 s4 s5 s6 s7 s8 s9 : Value} {T : TypeId} (h : w.heap[g]? = some (.cells #[s0, s1, s2, s3, s4, s5, s6, s7, s8, s9] T (0, 0))) : w.frozen? ⟨g, 0, none⟩ = false ∧ w.frozen? ⟨g, 1, none⟩ = false ∧ w.frozen? ⟨g, 2, none⟩ = false ∧ w.frozen? ⟨g, 3, none⟩ = false ∧ w.frozen? ⟨g, 4, none⟩ = false ∧ w.frozen? ⟨g, 5, none⟩ = false ∧ w.frozen? ⟨g, 6, none⟩ = false ∧ w.frozen? ⟨g, 7, none⟩ = false ∧ w.frozen? ⟨g, 8, none⟩ = false ∧ w.frozen? ⟨g, 9, none⟩ = false :=
 ⟨frozen_of_row w g 0 _ _ h, frozen_of_row w g 1 _ _ h, frozen_of_row w g 2 _ _ h, frozen_of_row w g 3 _ _ h, frozen_of_row w g 4 _ _ h, frozen_of_row w g 5 _ _ h, frozen_of_row w g 6 _ _ h, frozen_of_row w g 7 _ _ h, frozen_of_row w g 8 _ _ h, frozen_of_row w g 9 _ _ h⟩
/-- A call that answers a map and whether it was changed. -/
def AdO (w : World) (m : Mp) (q : Bool) (e : Ending) (w' : World) : Prop := (∃ v, e = .returned (.tuple #[v, .bool q]) ∧ Mv w' v m) ∧ Below w.heap.size w w'
theorem padd_end {R : Ending → World → Prop} {W : World} {g : Nat} {tmps : Array Value} {s0 s1 s2 s3 s4 s5 s6 s7 s8 s9 : Value} (hp : tmps.getD 4 undef = .pointer (some ⟨g, 0, none⟩)) (hg : W.heap[g]? = some (.cells #[s0, s1, s2, s3, s4, s5, s6, s7, s8, s9] 48 (0, 0)))
 (hR : R (.returned (.tuple #[.agg #[s0, s1, s2, s3, s4, s5, s6, s7, s8, s9], tmps.getD 5 undef])) W) : bodyPost Tryz.prog Tryz.f119 R .ret { tmps := tmps, defers := [] } W :=
 bodyPost_ret (results_rt rfl _ _ g #[s0, s1, s2, s3, s4, s5, s6, s7, s8, s9] hp hg Tryz.underlying48 rfl infoM10) rfl hR
theorem padd_all (v : Value) (m : Mp) (y z Y Z : Nat) (full : Bool) (l' g' : Int) (w : World) (hv : Mv w v m) (hsum : cSumBits .add .f64 (flw m.live) (flw m.garb) y z = some (Y, Z)) (ho : (FloatKind.f64.format.order Z (flw 1099511627776) == some .gt) = full)
 (hl : full = false → floatToIntVal .f64 Y .i64 = some l' ∧ J64 l') (hg : full = false → floatToIntVal .f64 Z .i64 = some g' ∧ J64 g') :
 Calls Tryz.prog 119 #[v, .complex .f64 y z] w (AdO w (if full then m else ⟨m.st, l', g'⟩) (!full)) := by
 obtain ⟨s0, s1, s2, s3, s4, s5, s6, s7, rfl, hms⟩ := hv
 have q1 := bel_al w (.cells #[s0, s1, s2, s3, s4, s5, s6, s7, .int .i64 m.live, .int .i64 m.garb] 48)
 have h1 := heap_alloc_new w (.cells #[s0, s1, s2, s3, s4, s5, s6, s7, .int .i64 m.live, .int .i64 m.garb] 48)
 have hsz : (w.alloc (.cells #[s0, s1, s2, s3, s4, s5, s6, s7, .int .i64 m.live, .int .i64 m.garb] 48)).heap.size = w.heap.size + 1 := by simp
 have q2 := bel_al (w.alloc (.cells #[s0, s1, s2, s3, s4, s5, s6, s7, .int .i64 m.live, .int .i64 m.garb] 48)) (.cells #[.slice none 0 0, .slice none 0 0, .slice none 0 0, .slice none 0 0, .slice none 0 0, .slice none 0 0, .slice none 0 0, .slice none 0 0, .int .i64 0, .int .i64 0] 48)
 have h2 := heap_alloc_new (w.alloc (.cells #[s0, s1, s2, s3, s4, s5, s6, s7, .int .i64 m.live, .int .i64 m.garb] 48)) (.cells #[.slice none 0 0, .slice none 0 0, .slice none 0 0, .slice none 0 0, .slice none 0 0, .slice none 0 0, .slice none 0 0, .slice none 0 0, .int .i64 0, .int .i64 0] 48)
 rw [hsz] at h2
 have HZ2 := Lh h2
 have HM2 := Lh ((q2.block _ (lt_of_some h1)).trans h1)
 have B2 := Lh (q1.trans (q2.mono q1.size))
 have MS := Lh hms
 have HL := Lh hl
 have HG := Lh hg
 have hc1 : floatOfInt .f64 m.live = flw m.live := rfl
 have hc2 : floatOfInt .f64 m.garb = flw m.garb := rfl
 rw [c40_flw] at ho
 clear hms q1 q2 h1 h2 hsz hl hg
 generalize flw m.live = lf at *
 generalize flw m.garb = gf at *
 go_enter Tryz.func119, Tryz.ntmps119
 go_upto_region 1 with fail
 generalize (w.alloc (.cells #[s0, s1, s2, s3, s4, s5, s6, s7, .int .i64 m.live, .int .i64 m.garb] 48)).alloc (.cells #[.slice none 0 0, .slice none 0 0, .slice none 0 0, .slice none 0 0, .slice none 0 0, .slice none 0 0, .slice none 0 0, .slice none 0 0, .int .i64 0, .int .i64 0] 48) = W2 at *
 obtain ⟨x0, x1, x2, x3, x4, x5, x6, x7, x8, x9⟩ := bx10 HM2.out
 have hadd := run_complex_sum (P := Tryz.prog) W2 .add (Or.inl rfl) 136 .f64 lf gf y z Y Z hsum
 cases full
 case true =>
  have ON := Lh (ms_one MS.out m.live m.garb)
  go_wp2_with ((with_reducible refine storeM (w.heap.size + 1) _ #[s0, s1, s2, s3, s4, s5, s6, s7, .int .i64 m.live, .int .i64 m.garb] ?_ ?_ HZ2.out rfl rfl ON.out ?_); exact rfl; exact rfl)
  have SZ := Lh (setRow_heap W2 (w.heap.size + 1) _ #[s0, s1, s2, s3, s4, s5, s6, s7, .int .i64 m.live, .int .i64 m.garb] _ _ HZ2.out)
  have BE := Lh (below_setRowM B2.out (Nat.le_succ w.heap.size) #[s0, s1, s2, s3, s4, s5, s6, s7, .int .i64 m.live, .int .i64 m.garb])
  refine padd_end (g := w.heap.size + 1) rfl SZ.out ?_
  exact ⟨⟨_, rfl, s0, s1, s2, s3, s4, s5, s6, s7, rfl, ms_below MS.out BE.out⟩, BE.out⟩
 have fl := (HL.out rfl).1
 have fg := (HG.out rfl).1
 have cv1 := run_convert_float_int (P := Tryz.prog) W2 134 2 .f64 .i64 Y l' rfl Tryz.underlying2 fl
 have cv2 := run_convert_float_int (P := Tryz.prog) W2 134 2 .f64 .i64 Z g' rfl Tryz.underlying2 fg
 have f8 := frozen_of_row W2 w.heap.size 8 _ _ HM2.out
 have f9 := frozen_of_row W2 w.heap.size 9 _ _ HM2.out
 clear fl fg
 go_upto_region 5 with fail
 clear x0 x1 x2 x3 x4 x5 x6 x7 x8 x9 f8 f9 cv1 cv2 hadd
 have hm8 : (W2.setCell ⟨w.heap.size, 8, none⟩ (.int .i64 l')).heap[w.heap.size]? = some (.cells #[s0, s1, s2, s3, s4, s5, s6, s7, .int .i64 l', .int .i64 m.garb] 48 (0, 0)) := heap_setCell_same W2 w.heap.size 8 _ _ _ HM2.out
 have hm9 : ((W2.setCell ⟨w.heap.size, 8, none⟩ (.int .i64 l')).setCell ⟨w.heap.size, 9, none⟩ (.int .i64 g')).heap[w.heap.size]? = some (.cells #[s0, s1, s2, s3, s4, s5, s6, s7, .int .i64 l', .int .i64 g'] 48 (0, 0)) := heap_setCell_same _ w.heap.size 9 _ _ _ hm8
 have hz9 : ((W2.setCell ⟨w.heap.size, 8, none⟩ (.int .i64 l')).setCell ⟨w.heap.size, 9, none⟩ (.int .i64 g')).heap[w.heap.size + 1]? = some (.cells #[.slice none 0 0, .slice none 0 0, .slice none 0 0, .slice none 0 0, .slice none 0 0, .slice none 0 0, .slice none 0 0, .slice none 0 0, .int .i64 0, .int .i64 0] 48 (0, 0)) := by
  rw [heap_setCell_other _ _ _ _ (by simp), heap_setCell_other _ _ _ _ (by simp)]
  exact HZ2.out
 have HM5 := Lh hm9
 have HZ5 := Lh hz9
 have B5 := Lh ((B2.out.setCell (p := ⟨w.heap.size, 8, none⟩) (Nat.le_refl _) (.int .i64 l')).setCell (p := ⟨w.heap.size, 9, none⟩) (Nat.le_refl _) (.int .i64 g'))
 clear hm8 hm9 hz9 HM2 HZ2 B2
 generalize (W2.setCell ⟨w.heap.size, 8, none⟩ (.int .i64 l')).setCell ⟨w.heap.size, 9, none⟩ (.int .i64 g') = W5 at *
 obtain ⟨x0, x1, x2, x3, x4, x5, x6, x7, x8, x9⟩ := bx10 HM5.out
 have ON := Lh (ms_one MS.out l' g')
 go_wp2_with ((with_reducible refine storeM (w.heap.size + 1) _ #[s0, s1, s2, s3, s4, s5, s6, s7, .int .i64 l', .int .i64 g'] ?_ ?_ HZ5.out rfl rfl ON.out ?_); exact rfl; exact rfl)
 have SZ := Lh (setRow_heap W5 (w.heap.size + 1) _ #[s0, s1, s2, s3, s4, s5, s6, s7, .int .i64 l', .int .i64 g'] _ _ HZ5.out)
 have BE := Lh (below_setRowM B5.out (Nat.le_succ w.heap.size) #[s0, s1, s2, s3, s4, s5, s6, s7, .int .i64 l', .int .i64 g'])
 refine padd_end (g := w.heap.size + 1) rfl SZ.out ?_
 have hms := ms_below MS.out BE.out
 exact ⟨⟨_, rfl, s0, s1, s2, s3, s4, s5, s6, s7, rfl, hms.1, (HL.out (by trivial)).2, (HG.out (by trivial)).2, hms.2.2.2⟩, BE.out⟩
/-- add of what is exact. -/
theorem padd_any (v : Value) (m : Mp) (a b : Int) (w : World) (hv : Mv w v m) (h1 : m.live.natAbs ≤ 2 ^ 50) (h2 : m.garb.natAbs ≤ 2 ^ 50) (h3 : a.natAbs ≤ 2 ^ 50) (h4 : b.natAbs ≤ 2 ^ 52) :
 Calls Tryz.prog 119 #[v, .complex .f64 (flw a) (flw b)] w (AdO w (if G40 < m.garb + b then m else ⟨m.st, m.live + a, m.garb + b⟩) (decide (¬ G40 < m.garb + b))) := by
 have hs := csum (a := m.live) (b := m.garb) (c := a) (d := b) (by omega) (by omega) (by omega) (by omega) (by omega) (by omega)
 have ho : (FloatKind.f64.format.order (flw (m.garb + b)) (flw 1099511627776) == some .gt) = decide (G40 < m.garb + b) := by
  rw [order_flw (by omega) (by decide)]
  unfold G40
  rcases Int.lt_trichotomy (m.garb + b) 1099511627776 with h | h | h
  ·rw [cmp_lt h, decide_eq_false (by omega)]; rfl
  ·rw [h, cmp_self, decide_eq_false (by omega)]; rfl
  ·rw [cmp_gt h, decide_eq_true h]; rfl
 have h := padd_all v m _ _ _ _ (decide (G40 < m.garb + b)) (m.live + a) (m.garb + b) w hv hs ho (fun _ => ⟨int_flw (by omega), by unfold J64; omega⟩) (fun _ => ⟨int_flw (by omega), by unfold J64; omega⟩)
 by_cases c : G40 < m.garb + b
 ·rw [decide_eq_true c] at h
  rw [if_pos c, decide_eq_false (not_not_intro c)]
  exact h
 ·rw [decide_eq_false c] at h
  rw [if_neg c, decide_eq_true c]
  exact h
/-- add of too much garbage. -/
theorem padd_big (v : Value) (m : Mp) (P a Y z : Nat) (w : World) (hv : Mv w v m) (h0 : 0 ≤ m.garb) (h2 : m.garb.natAbs ≤ 2 ^ 50) (hz : Big P z) (hP : P ≤ 700) (hY : floatBits .add .f64 (flw m.live) a = some Y) :
 Calls Tryz.prog 119 #[v, .complex .f64 a z] w (AdO w m false) := by
 obtain ⟨r, hr, hb⟩ := add_big hz (by omega) h0 (by omega)
 have hs : cSumBits .add .f64 (flw m.live) (flw m.garb) a z = some (Y, r) := by
  unfold cSumBits
  rw [hY, hr]
  rfl
 exact padd_all v m _ _ _ _ true 0 0 w hv hs (by rw [gt_big hb (by decide) (by decide)]; rfl) (fun h => by cases h) (fun h => by cases h)
end Go.Proofs.YtbmlpafbdbhaiaaGreatDoor.Gf
namespace Go.Proofs.YtbmlpafbdbhaiaaGreatDoor.Gf
open Go Go.Joins Go.ChangeShapes Go.WideShapes Go.ChangeAt Go.RowKit Go.Deep Go.Proofs.YtbmlpafbdbhaiaaGreatDoor.By Go.Proofs.YtbmlpafbdbhaiaaGreatDoor.Qt
set_option maxRecDepth 100000
set_option maxHeartbeats 204800000

theorem held_two {P : Program} {ops : Array Oper} {md : Region.Mode} {Q : Exit → Act → World → Prop} {S : World → Prop} {fuel : Nat} {listed : Array Bool} {a : Act} {w : World} (i k : Nat) {oi ok : Oper} (hi : ops[i]? = some oi) (hk : ops[k]? = some ok) (hg : oi.guard = none) (hg2 : ok.guard = none) (hr : Region.ready md ops listed = [i, k])
 (h : ∀ K : Act → World → Prop, (∀ a' w', S w' → wpAnyH P md ops Q S fuel (listed.setIfInBounds i true) a' w' → K a' w') → oi.wp P a w K Q)
 (h2 : ∀ K : Act → World → Prop, (∀ a' w', S w' → wpAnyH P md ops Q S fuel (listed.setIfInBounds k true) a' w' → K a' w') → ok.wp P a w K Q) : wpAnyH P md ops Q S (fuel + 1) listed a w := by
 refine wpAnyH_all hr (by simp) fun j hj => ?_
 have hj2 : j = i ∨ j = k := by simpa using hj
 rcases hj2 with rfl | rfl
 ·unfold wpOp
  simp only [hi]
  rw [if_pos (by simp [Region.wanted, hg])]
  exact Or.inl (h _ fun a' w' h1 h2 => ⟨h1, h2⟩)
 ·unfold wpOp
  simp only [hk]
  rw [if_pos (by simp [Region.wanted, hg2])]
  exact Or.inl (h2 _ fun a' w' h1 h2 => ⟨h1, h2⟩)
/-- Items stay where the block of a map is written. -/
theorem it_keepM {Y Y' : World} {p : Nat} {cs0 : Array Value} {T : TypeId} {v : Value} {L : List Itm} (s : It Y v L) (hz : Y.heap[p]? = some (.cells cs0 T (0, 0))) (hn : ∀ (k : Nat) (n : Int), cs0[k]? ≠ some (Value.int .u64 n)) (hk : ∀ b, b ≠ p → Y'.heap[b]? = Y.heap[b]?) : It Y' v L := by
 obtain ⟨h0, a, cap, h1, h2, h3, h4⟩ := s
 refine ⟨h0, a, cap, h1, h2, h3, fun hp => ?_⟩
 obtain ⟨b, off, e, hc⟩ := h4 hp
 refine ⟨b, off, e, fun j u hu => ?_⟩
 have hb : b ≠ p := fun e => by
  subst e
  match L, hp, hc with
  | x :: L, _, hc =>
   have h := hc 0 (.int .u64 (x.key : Int)) (by simp [cellsT, itV])
   rw [cell_of_row _ _ _ _ _ _ hz] at h
   exact hn _ _ h
 rw [← hc j u hu]
 simp only [World.cell?, hk b hb]
theorem zero_u64 : ∀ (k : Nat) (n : Int), (#[.slice none 0 0, .slice none 0 0, .slice none 0 0, .slice none 0 0, .slice none 0 0, .slice none 0 0, .slice none 0 0, .slice none 0 0, .int .i64 0, .int .i64 0] : Array Value)[k]? ≠ some (Value.int .u64 n) := fun k n h => by
 match k, h with
 | 0, h => simp at h
 | 1, h => simp at h
 | 2, h => simp at h
 | 3, h => simp at h
 | 4, h => simp at h
 | 5, h => simp at h
 | 6, h => simp at h
 | 7, h => simp at h
 | 8, h => simp at h
 | 9, h => simp at h
 | k + 10, h => simp at h
theorem ms_setRowZ {Y : World} {p : Nat} {vs : List Value} {m : Mp} {cs : Array Value} (h : Ms Y vs m) (hz : Y.heap[p]? = some (.cells #[.slice none 0 0, .slice none 0 0, .slice none 0 0, .slice none 0 0, .slice none 0 0, .slice none 0 0, .slice none 0 0, .slice none 0 0, .int .i64 0, .int .i64 0] 48 (0, 0))) : Ms (Y.setRow p cs) vs m := ⟨h.1, h.2.1, h.2.2.1, fun k hk => by
 obtain ⟨a, c, h1, h2⟩ := h.2.2.2 k hk
 exact ⟨a, c, h1, it_keepM h2 hz zero_u64 fun b hb => setRow_other _ _ _ _ hb⟩⟩
/-- A call that answers a map. -/
def MO (w : World) (m : Mp) (e : Ending) (w' : World) : Prop := (∃ v, e = .returned v ∧ Mv w' v m) ∧ Below w.heap.size w w'
theorem mo_end {fn : Func} {p : Tmp} {R : Ending → World → Prop} {W : World} {tmps : Array Value} {s0 s1 s2 s3 s4 s5 s6 s7 s8 s9 : Value} (hr : fn.results = #[.cell p 48]) (g : Nat) (hp : tmps.getD p undef = .pointer (some ⟨g, 0, none⟩)) (hg : W.heap[g]? = some (.cells #[s0, s1, s2, s3, s4, s5, s6, s7, s8, s9] 48 (0, 0)))
 (hR : R (.returned (.agg #[s0, s1, s2, s3, s4, s5, s6, s7, s8, s9])) W) : bodyPost Tryz.prog fn R .ret { tmps := tmps, defers := [] } W :=
 bodyPost_ret (results_cell_row hr _ _ g 48 #[s0, s1, s2, s3, s4, s5, s6, s7, s8, s9] (0, 0) _ hp hg Tryz.underlying48 rfl infoM10) rfl hR
theorem pwasted_bel (n : Int) (w : World) : Calls Tryz.prog 120 #[.int .i64 n] w fun e w' => e = .returned (.complex .f64 (flw 0) (flw n)) ∧ Below w.heap.size w w' := (pwasted_any n w).mono fun _ _ ⟨h1, h2⟩ => ⟨h1, by rw [h2]; exact Below.refl _ _⟩
theorem few_live {m : Mp} (hf : Few m) (h : okM m) (hl : m.st.length = 8) : 0 ≤ m.live ∧ m.live ≤ 33600000 := by
 have h1 := byT_bd m.st.flatten
 have h2 := flat_len hf hl 8 (Nat.le_refl _)
 rw [List.take_of_length_le (by omega)] at h2
 rw [h.live]
 omega
theorem pwaste_any (v : Value) (m : Mp) (n : Int) (w : World) (hv : Mv w v m) (hf : Few m) (hn : J64 n) : Calls Tryz.prog 100 #[v, .int .i64 n] w (MO w (wasteM m n)) := by
 have HNJ := Lh hn
 have PV := Lh (fun W (h : Below w.heap.size w W) => pvalid11_any v m W (mv_below hv h) hf)
 have HF := Lh hf
 obtain ⟨s0, s1, s2, s3, s4, s5, s6, s7, rfl, hms⟩ := hv
 have q1 := bel_al w (.cells #[s0, s1, s2, s3, s4, s5, s6, s7, .int .i64 m.live, .int .i64 m.garb] 48)
 have h1 := heap_alloc_new w (.cells #[s0, s1, s2, s3, s4, s5, s6, s7, .int .i64 m.live, .int .i64 m.garb] 48)
 have hsz : (w.alloc (.cells #[s0, s1, s2, s3, s4, s5, s6, s7, .int .i64 m.live, .int .i64 m.garb] 48)).heap.size = w.heap.size + 1 := by simp
 have q2 := bel_al (w.alloc (.cells #[s0, s1, s2, s3, s4, s5, s6, s7, .int .i64 m.live, .int .i64 m.garb] 48)) (.cells #[.slice none 0 0, .slice none 0 0, .slice none 0 0, .slice none 0 0, .slice none 0 0, .slice none 0 0, .slice none 0 0, .slice none 0 0, .int .i64 0, .int .i64 0] 48)
 have h2 := heap_alloc_new (w.alloc (.cells #[s0, s1, s2, s3, s4, s5, s6, s7, .int .i64 m.live, .int .i64 m.garb] 48)) (.cells #[.slice none 0 0, .slice none 0 0, .slice none 0 0, .slice none 0 0, .slice none 0 0, .slice none 0 0, .slice none 0 0, .slice none 0 0, .int .i64 0, .int .i64 0] 48)
 rw [hsz] at h2
 have HZ2 := Lh h2
 have HM2 := Lh ((q2.block _ (lt_of_some h1)).trans h1)
 have B2 := Lh (q1.trans (q2.mono q1.size))
 have MS2 := Lh (ms_below hms B2.out)
 have HSZ := Lh (show ((w.alloc (.cells #[s0, s1, s2, s3, s4, s5, s6, s7, .int .i64 m.live, .int .i64 m.garb] 48)).alloc (.cells #[.slice none 0 0, .slice none 0 0, .slice none 0 0, .slice none 0 0, .slice none 0 0, .slice none 0 0, .slice none 0 0, .slice none 0 0, .int .i64 0, .int .i64 0] 48)).heap.size = w.heap.size + 2 by simp)
 clear hms q1 q2 h1 h2 hsz
 clear hf hn
 go_enter Tryz.func100, Tryz.ntmps100
 go_upto_region 1 with fail
 generalize (w.alloc (.cells #[s0, s1, s2, s3, s4, s5, s6, s7, .int .i64 m.live, .int .i64 m.garb] 48)).alloc (.cells #[.slice none 0 0, .slice none 0 0, .slice none 0 0, .slice none 0 0, .slice none 0 0, .slice none 0 0, .slice none 0 0, .slice none 0 0, .int .i64 0, .int .i64 0] 48) = W2 at *
 have PV2 := Lh (PV.out W2 B2.out)
 clear PV
 by_cases hok : okM m
 case neg =>
  rw [okMb_f hok] at PV2
  have HE := Lh (show wasteM m n = m by unfold wasteM; rw [if_neg (fun h => hok h.1)])
  clear hok
  obtain ⟨x0, x1, x2, x3, x4, x5, x6, x7, x8, x9⟩ := bx10 HM2.out
  go_wp2_with fail
  clear x0 x1 x2 x3 x4 x5 x6 x7 x8 x9
  refine PV2.out.mono ?_
  rintro e w3 ⟨rfl, hb⟩
  have B3 := Lh (B2.out.trans (hb.mono B2.out.size))
  have HZ3 := Lh ((hb.block _ (lt_of_some HZ2.out)).trans HZ2.out)
  have HM3 := Lh ((hb.block _ (lt_of_some HM2.out)).trans HM2.out)
  have MS3 := Lh (ms_below MS2.out hb)
  clear hb PV2 HZ2 HM2 B2 MS2
  have ON := Lh (ms_one MS3.out m.live m.garb)
  obtain ⟨x0, x1, x2, x3, x4, x5, x6, x7, x8, x9⟩ := bx10 HM3.out
  go_wp2_with ((with_reducible refine storeM (w.heap.size + 1) _ #[s0, s1, s2, s3, s4, s5, s6, s7, .int .i64 m.live, .int .i64 m.garb] ?_ ?_ HZ3.out rfl rfl ON.out ?_); exact rfl; exact rfl)
  have SZ := Lh (setRow_heap w3 (w.heap.size + 1) _ #[s0, s1, s2, s3, s4, s5, s6, s7, .int .i64 m.live, .int .i64 m.garb] _ _ HZ3.out)
  have BE := Lh (below_setRowM B3.out (Nat.le_succ w.heap.size) #[s0, s1, s2, s3, s4, s5, s6, s7, .int .i64 m.live, .int .i64 m.garb])
  refine mo_end (fn := Tryz.f100) rfl (w.heap.size + 1) rfl SZ.out ?_
  rw [HE.out]
  exact ⟨⟨_, rfl, s0, s1, s2, s3, s4, s5, s6, s7, rfl, ms_setRowZ MS3.out HZ3.out⟩, BE.out⟩
 rw [okMb_t hok] at PV2
 by_cases hn0 : n < 0
 case pos =>
  have l1 : decide (n < 0) = true := decide_eq_true hn0
  have HE := Lh (show wasteM m n = m by unfold wasteM; rw [if_neg (fun h => by have := h.2.1; omega)])
  clear hok hn0
  obtain ⟨x0, x1, x2, x3, x4, x5, x6, x7, x8, x9⟩ := bx10 HM2.out
  go_wp2_with fail
  clear x0 x1 x2 x3 x4 x5 x6 x7 x8 x9
  refine PV2.out.mono ?_
  rintro e w3 ⟨rfl, hb⟩
  have B3 := Lh (B2.out.trans (hb.mono B2.out.size))
  have HZ3 := Lh ((hb.block _ (lt_of_some HZ2.out)).trans HZ2.out)
  have HM3 := Lh ((hb.block _ (lt_of_some HM2.out)).trans HM2.out)
  have MS3 := Lh (ms_below MS2.out hb)
  clear hb PV2 HZ2 HM2 B2 MS2
  have ON := Lh (ms_one MS3.out m.live m.garb)
  obtain ⟨x0, x1, x2, x3, x4, x5, x6, x7, x8, x9⟩ := bx10 HM3.out
  go_wp2_with ((with_reducible refine storeM (w.heap.size + 1) _ #[s0, s1, s2, s3, s4, s5, s6, s7, .int .i64 m.live, .int .i64 m.garb] ?_ ?_ HZ3.out rfl rfl ON.out ?_); exact rfl; exact rfl)
  have SZ := Lh (setRow_heap w3 (w.heap.size + 1) _ #[s0, s1, s2, s3, s4, s5, s6, s7, .int .i64 m.live, .int .i64 m.garb] _ _ HZ3.out)
  have BE := Lh (below_setRowM B3.out (Nat.le_succ w.heap.size) #[s0, s1, s2, s3, s4, s5, s6, s7, .int .i64 m.live, .int .i64 m.garb])
  refine mo_end (fn := Tryz.f100) rfl (w.heap.size + 1) rfl SZ.out ?_
  rw [HE.out]
  exact ⟨⟨_, rfl, s0, s1, s2, s3, s4, s5, s6, s7, rfl, ms_setRowZ MS3.out HZ3.out⟩, BE.out⟩
 have l1 : decide (n < 0) = false := decide_eq_false hn0
 have hfl := few_live HF.out hok MS2.out.1
 obtain ⟨mm, q, hadd, hmm⟩ : ∃ mm q, (∀ W, Below W2.heap.size W2 W → Calls Tryz.prog 119 #[.agg #[s0, s1, s2, s3, s4, s5, s6, s7, .int .i64 m.live, .int .i64 m.garb], .complex .f64 (flw 0) (flw n)] W (AdO W mm q)) ∧ mm = wasteM m n := by
  have hmv : ∀ W, Below W2.heap.size W2 W → Mv W (.agg #[s0, s1, s2, s3, s4, s5, s6, s7, .int .i64 m.live, .int .i64 m.garb]) m := fun W h => ⟨s0, s1, s2, s3, s4, s5, s6, s7, rfl, ms_below MS2.out h⟩
  have hgl := hok.lo
  have hgh := hok.hi
  by_cases hbg : n < 2 ^ 52
  ·refine ⟨_, _, fun W h => padd_any _ m 0 n W (hmv W h) (by omega) (by omega) (by decide) (by omega), ?_⟩
   unfold wasteM
   by_cases c : G40 < m.garb + n
   ·rw [if_pos c, if_neg (fun h => by have := h.2.2; omega)]
   ·rw [if_neg c, if_pos ⟨hok, by omega, by omega⟩, Int.add_zero]
  ·have hJ := HNJ.out
   refine ⟨m, false, fun W h => padd_big _ m 12 (flw 0) (flw (m.live + 0)) (flw n) W (hmv W h) hgl (by omega) (flw_big (by omega) (by unfold J64 at hJ; omega)) (by decide) (add_flw (by omega) (by decide) (by omega)), ?_⟩
   unfold wasteM
   rw [if_neg (fun h => by have := h.2.2; unfold G40 at this; omega)]
 have CB2 := Lh hadd
 have HE := Lh hmm
 have CA2 := Lh (fun W => pwasted_bel n W)
 clear hok hn0 hfl hadd hmm
 obtain ⟨y, hy⟩ : ∃ y, y = flw 0 := ⟨_, rfl⟩
 obtain ⟨z, hz⟩ : ∃ z, z = flw n := ⟨_, rfl⟩
 rw [← hy, ← hz] at CA2 CB2
 clear hy hz
 obtain ⟨x0, x1, x2, x3, x4, x5, x6, x7, x8, x9⟩ := bx10 HM2.out
 go_wp2_with fail
 clear x0 x1 x2 x3 x4 x5 x6 x7 x8 x9
 refine PV2.out.mono ?_
 rintro e w3 ⟨rfl, hb⟩
 have B3 := Lh (B2.out.trans (hb.mono B2.out.size))
 have HZ3 := Lh ((hb.block _ (lt_of_some HZ2.out)).trans HZ2.out)
 have HM3 := Lh ((hb.block _ (lt_of_some HM2.out)).trans HM2.out)
 have MS3 := Lh (ms_below MS2.out hb)
 have CB := Lh (fun W (h : Below w3.heap.size w3 W) => CB2.out W (hb.trans (h.mono hb.size)))
 have CA := Lh (fun W (_ : Below w3.heap.size w3 W) => CA2.out W)
 have HLE := Lh (show w.heap.size + 2 ≤ w3.heap.size by have := hb.size; have := HSZ.out; omega)
 clear hb PV2 HZ2 HM2 B2 MS2 CA2 CB2
 go_upto_region 3 with fail
 clear l1
 go_cut [5, 6] from 15 to 21 (fun tp tq wx => ∃ (gn : Nat) (t0 t1 t2 t3 t4 t5 t6 t7 : Value), tp = .pointer (some ⟨gn, 0, none⟩) ∧ tq = .bool q ∧ Hid (wx.heap[gn]? = some (.cells #[t0, t1, t2, t3, t4, t5, t6, t7, .int .i64 mm.live, .int .i64 mm.garb] 48 (0, 0))) ∧ Hid (w3.heap.size ≤ gn) ∧ Hid (Ms wx [t0, t1, t2, t3, t4, t5, t6, t7] mm) ∧ Hid (Below w3.heap.size w3 wx))
 case first =>
  have S0 := Lh (Below.refl w3.heap.size w3).drew
  refine wp_onlyN ?_
  refine wp_region_headsS (fun W' => Below w3.heap.size w3 W') [0, 1] 8 (by kernel_rfl) (fun _ _ _ _ _ h => h.elim) (by kernel_rfl) (by rfl) (by rfl) S0.out ?_
  simp only [pickOps, List.filterMap_cons, List.filterMap_nil, List.getElem?_toArray, List.getElem?_cons_zero, List.getElem?_cons_succ]
  refine wpHeads_step (fun K hK => ?_)
  go_simp
  refine ⟨.agg #[s0, s1, s2, s3, s4, s5, s6, s7, .int .i64 m.live, .int .i64 m.garb], fun w' hw' => by
   obtain ⟨x0, x1, x2, x3, x4, x5, x6, x7, x8, x9⟩ := bx10 ((hw'.block _ (lt_of_some HM3.out)).trans HM3.out)
   simp [x0, x1, x2, x3, x4, x5, x6, x7, x8, x9], hK _ ?_⟩
  clear hK K
  refine wpHeads_step (fun K hK => ?_)
  go_simp
  refine ⟨_, fun _ _ => rfl, hK _ ?_⟩
  clear hK K
  refine wpHeads_nil ?_
  have SD := S0
  generalize w3.drew = WD at *
  clear S0
  refine held_two 2 7 rfl rfl rfl rfl (by kernel_rfl) (fun K hK => ?_) (fun K hK => ?_)
  ·go_simp
   go_at_call 120
   refine (CA.out WD SD.out).mono ?_
   rintro e w30 ⟨rfl, hb⟩
   refine hK _ _ (SD.out.trans (hb.mono SD.out.size)) ?_
   clear hK K
   have S30 := Lh (SD.out.trans (hb.mono SD.out.size))
   clear hb SD
   refine held_two 3 7 rfl rfl rfl rfl (by kernel_rfl) (fun K hK => ?_) (fun K hK => ?_)
   ·go_simp
    go_at_call 119
    refine (CB.out w30 S30.out).mono ?_
    rintro e w31 ⟨⟨v5, rfl, hv5⟩, hb⟩
    refine hK _ _ (S30.out.trans (hb.mono S30.out.size)) ?_
    clear hK K
    have S31 := Lh (S30.out.trans (hb.mono S30.out.size))
    obtain ⟨t0, t1, t2, t3, t4, t5, t6, t7, rfl, hms5⟩ := hv5
    have R31 := Lh hms5
    clear hb S30 hms5
    refine wpAnyH_take (i := 4) (v := .tuple #[.agg #[t0, t1, t2, t3, t4, t5, t6, t7, .int .i64 mm.live, .int .i64 mm.garb], .bool q]) rfl (by kernel_rfl) (by kernel_rfl) (by kernel_rfl) (fun _ _ _ h => h) (Or.inl ⟨by kernel_rfl, fun w _ => by go_simp⟩) S31.out ?_
    refine wpAnyH_take (i := 5) (v := .agg #[t0, t1, t2, t3, t4, t5, t6, t7, .int .i64 mm.live, .int .i64 mm.garb]) rfl (by kernel_rfl) (by kernel_rfl) (by kernel_rfl) (fun _ _ _ h => h) (Or.inl ⟨by kernel_rfl, fun w _ => by go_simp⟩) S31.out ?_
    refine wpAnyH_take (i := 6) (v := .bool q) rfl (by kernel_rfl) (by kernel_rfl) (by kernel_rfl) (fun _ _ _ h => h) (Or.inl ⟨by kernel_rfl, fun w _ => by go_simp⟩) S31.out ?_
    refine held_one 7 rfl rfl (by kernel_rfl) fun K hK => ?_
    go_simp
    have hb := bel_al w31 (.cells #[.slice none 0 0, .slice none 0 0, .slice none 0 0, .slice none 0 0, .slice none 0 0, .slice none 0 0, .slice none 0 0, .slice none 0 0, .int .i64 0, .int .i64 0] 48)
    refine hK _ _ (S31.out.trans (hb.mono S31.out.size)) ?_
    clear hK K
    have S32 := Lh (S31.out.trans (hb.mono S31.out.size))
    have HG32 := Lh (heap_alloc_new w31 (.cells #[.slice none 0 0, .slice none 0 0, .slice none 0 0, .slice none 0 0, .slice none 0 0, .slice none 0 0, .slice none 0 0, .slice none 0 0, .int .i64 0, .int .i64 0] 48))
    have GE := Lh (show w3.heap.size ≤ w31.heap.size from S31.out.size)
    have R32 := Lh (ms_below R31.out hb)
    clear R31
    clear hb S31
    generalize w31.alloc (.cells #[.slice none 0 0, .slice none 0 0, .slice none 0 0, .slice none 0 0, .slice none 0 0, .slice none 0 0, .slice none 0 0, .slice none 0 0, .int .i64 0, .int .i64 0] 48) = w32 at *
    generalize w31.heap.size = gn at *
    have ON := Lh (ms_one R32.out mm.live mm.garb)
    refine held_one 8 rfl rfl (by kernel_rfl) fun K hK => ?_
    refine wp_store_row 48 _ _ rfl gn #[t0, t1, t2, t3, t4, t5, t6, t7, .int .i64 mm.live, .int .i64 mm.garb] (by rfl) (by rfl) 48 _ HG32.out infoM10 rfl ON.out ?_
    have SN := Lh (below_setRowM S32.out GE.out #[t0, t1, t2, t3, t4, t5, t6, t7, .int .i64 mm.live, .int .i64 mm.garb])
    refine hK _ _ SN.out ?_
    clear hK K
    refine held_one 9 rfl rfl (by kernel_rfl) fun K hK => ?_
    go_simp
    refine hK _ _ SN.out ?_
    clear hK K
    refine wpAnyH_done (by kernel_rfl) ?_ _
    unfold onlyN
    dsimp only
    go_wp2_with fail
    go_meet
    exact ⟨gn, t0, t1, t2, t3, t4, t5, t6, t7, rfl, rfl, Lh (setRow_heap _ _ _ _ _ _ HG32.out), GE, Lh (ms_setRowZ R32.out HG32.out), SN⟩
   ·go_simp
    have hb := bel_al w30 (.cells #[.slice none 0 0, .slice none 0 0, .slice none 0 0, .slice none 0 0, .slice none 0 0, .slice none 0 0, .slice none 0 0, .slice none 0 0, .int .i64 0, .int .i64 0] 48)
    refine hK _ _ (S30.out.trans (hb.mono S30.out.size)) ?_
    clear hK K
    have S31 := Lh (S30.out.trans (hb.mono S30.out.size))
    have HG31 := Lh (heap_alloc_new w30 (.cells #[.slice none 0 0, .slice none 0 0, .slice none 0 0, .slice none 0 0, .slice none 0 0, .slice none 0 0, .slice none 0 0, .slice none 0 0, .int .i64 0, .int .i64 0] 48))
    have GE := Lh (show w3.heap.size ≤ w30.heap.size from S30.out.size)
    clear hb S30
    generalize w30.alloc (.cells #[.slice none 0 0, .slice none 0 0, .slice none 0 0, .slice none 0 0, .slice none 0 0, .slice none 0 0, .slice none 0 0, .slice none 0 0, .int .i64 0, .int .i64 0] 48) = w31 at *
    generalize w30.heap.size = gn at *
    refine held_one 3 rfl rfl (by kernel_rfl) fun K hK => ?_
    go_simp
    go_at_call 119
    refine (CB.out w31 S31.out).mono ?_
    rintro e w32 ⟨⟨v5, rfl, hv5⟩, hb⟩
    refine hK _ _ (S31.out.trans (hb.mono S31.out.size)) ?_
    clear hK K
    have S32 := Lh (S31.out.trans (hb.mono S31.out.size))
    have HG32 := Lh ((hb.block _ (lt_of_some HG31.out)).trans HG31.out)
    obtain ⟨t0, t1, t2, t3, t4, t5, t6, t7, rfl, hms5⟩ := hv5
    have R32 := Lh hms5
    clear hb S31 hms5 HG31
    refine wpAnyH_take (i := 4) (v := .tuple #[.agg #[t0, t1, t2, t3, t4, t5, t6, t7, .int .i64 mm.live, .int .i64 mm.garb], .bool q]) rfl (by kernel_rfl) (by kernel_rfl) (by kernel_rfl) (fun _ _ _ h => h) (Or.inl ⟨by kernel_rfl, fun w _ => by go_simp⟩) S32.out ?_
    refine wpAnyH_take (i := 5) (v := .agg #[t0, t1, t2, t3, t4, t5, t6, t7, .int .i64 mm.live, .int .i64 mm.garb]) rfl (by kernel_rfl) (by kernel_rfl) (by kernel_rfl) (fun _ _ _ h => h) (Or.inl ⟨by kernel_rfl, fun w _ => by go_simp⟩) S32.out ?_
    refine wpAnyH_take (i := 6) (v := .bool q) rfl (by kernel_rfl) (by kernel_rfl) (by kernel_rfl) (fun _ _ _ h => h) (Or.inl ⟨by kernel_rfl, fun w _ => by go_simp⟩) S32.out ?_
    have ON := Lh (ms_one R32.out mm.live mm.garb)
    refine held_one 8 rfl rfl (by kernel_rfl) fun K hK => ?_
    refine wp_store_row 48 _ _ rfl gn #[t0, t1, t2, t3, t4, t5, t6, t7, .int .i64 mm.live, .int .i64 mm.garb] (by rfl) (by rfl) 48 _ HG32.out infoM10 rfl ON.out ?_
    have SN := Lh (below_setRowM S32.out GE.out #[t0, t1, t2, t3, t4, t5, t6, t7, .int .i64 mm.live, .int .i64 mm.garb])
    refine hK _ _ SN.out ?_
    clear hK K
    refine held_one 9 rfl rfl (by kernel_rfl) fun K hK => ?_
    go_simp
    refine hK _ _ SN.out ?_
    clear hK K
    refine wpAnyH_done (by kernel_rfl) ?_ _
    unfold onlyN
    dsimp only
    go_wp2_with fail
    go_meet
    exact ⟨gn, t0, t1, t2, t3, t4, t5, t6, t7, rfl, rfl, Lh (setRow_heap _ _ _ _ _ _ HG32.out), GE, Lh (ms_setRowZ R32.out HG32.out), SN⟩
  ·go_simp
   have hb := bel_al WD (.cells #[.slice none 0 0, .slice none 0 0, .slice none 0 0, .slice none 0 0, .slice none 0 0, .slice none 0 0, .slice none 0 0, .slice none 0 0, .int .i64 0, .int .i64 0] 48)
   refine hK _ _ (SD.out.trans (hb.mono SD.out.size)) ?_
   clear hK K
   have S30 := Lh (SD.out.trans (hb.mono SD.out.size))
   have HG30 := Lh (heap_alloc_new WD (.cells #[.slice none 0 0, .slice none 0 0, .slice none 0 0, .slice none 0 0, .slice none 0 0, .slice none 0 0, .slice none 0 0, .slice none 0 0, .int .i64 0, .int .i64 0] 48))
   have GE := Lh (show w3.heap.size ≤ WD.heap.size from SD.out.size)
   clear hb SD
   generalize WD.alloc (.cells #[.slice none 0 0, .slice none 0 0, .slice none 0 0, .slice none 0 0, .slice none 0 0, .slice none 0 0, .slice none 0 0, .slice none 0 0, .int .i64 0, .int .i64 0] 48) = w30 at *
   generalize WD.heap.size = gn at *
   refine held_one 2 rfl rfl (by kernel_rfl) fun K hK => ?_
   go_simp
   go_at_call 120
   refine (CA.out w30 S30.out).mono ?_
   rintro e w31 ⟨rfl, hb⟩
   refine hK _ _ (S30.out.trans (hb.mono S30.out.size)) ?_
   clear hK K
   have S31 := Lh (S30.out.trans (hb.mono S30.out.size))
   have HG31 := Lh ((hb.block _ (lt_of_some HG30.out)).trans HG30.out)
   clear hb S30 HG30
   refine held_one 3 rfl rfl (by kernel_rfl) fun K hK => ?_
   go_simp
   go_at_call 119
   refine (CB.out w31 S31.out).mono ?_
   rintro e w32 ⟨⟨v5, rfl, hv5⟩, hb⟩
   refine hK _ _ (S31.out.trans (hb.mono S31.out.size)) ?_
   clear hK K
   have S32 := Lh (S31.out.trans (hb.mono S31.out.size))
   have HG32 := Lh ((hb.block _ (lt_of_some HG31.out)).trans HG31.out)
   obtain ⟨t0, t1, t2, t3, t4, t5, t6, t7, rfl, hms5⟩ := hv5
   have R32 := Lh hms5
   clear hb S31 hms5 HG31
   refine wpAnyH_take (i := 4) (v := .tuple #[.agg #[t0, t1, t2, t3, t4, t5, t6, t7, .int .i64 mm.live, .int .i64 mm.garb], .bool q]) rfl (by kernel_rfl) (by kernel_rfl) (by kernel_rfl) (fun _ _ _ h => h) (Or.inl ⟨by kernel_rfl, fun w _ => by go_simp⟩) S32.out ?_
   refine wpAnyH_take (i := 5) (v := .agg #[t0, t1, t2, t3, t4, t5, t6, t7, .int .i64 mm.live, .int .i64 mm.garb]) rfl (by kernel_rfl) (by kernel_rfl) (by kernel_rfl) (fun _ _ _ h => h) (Or.inl ⟨by kernel_rfl, fun w _ => by go_simp⟩) S32.out ?_
   refine wpAnyH_take (i := 6) (v := .bool q) rfl (by kernel_rfl) (by kernel_rfl) (by kernel_rfl) (fun _ _ _ h => h) (Or.inl ⟨by kernel_rfl, fun w _ => by go_simp⟩) S32.out ?_
   have ON := Lh (ms_one R32.out mm.live mm.garb)
   refine held_one 8 rfl rfl (by kernel_rfl) fun K hK => ?_
   refine wp_store_row 48 _ _ rfl gn #[t0, t1, t2, t3, t4, t5, t6, t7, .int .i64 mm.live, .int .i64 mm.garb] (by rfl) (by rfl) 48 _ HG32.out infoM10 rfl ON.out ?_
   have SN := Lh (below_setRowM S32.out GE.out #[t0, t1, t2, t3, t4, t5, t6, t7, .int .i64 mm.live, .int .i64 mm.garb])
   refine hK _ _ SN.out ?_
   clear hK K
   refine held_one 9 rfl rfl (by kernel_rfl) fun K hK => ?_
   go_simp
   refine hK _ _ SN.out ?_
   clear hK K
   refine wpAnyH_done (by kernel_rfl) ?_ _
   unfold onlyN
   dsimp only
   go_wp2_with fail
   go_meet
   exact ⟨gn, t0, t1, t2, t3, t4, t5, t6, t7, rfl, rfl, Lh (setRow_heap _ _ _ _ _ _ HG32.out), GE, Lh (ms_setRowZ R32.out HG32.out), SN⟩
 case rest =>
  rename World => w9
  obtain ⟨gn, t0, t1, t2, t3, t4, t5, t6, t7, rfl, rfl, HB9, HGN, MS9, S9⟩ := hcut
  have HZ9 := Lh ((S9.out.block _ (lt_of_some HZ3.out)).trans HZ3.out)
  have B9 := Lh (B3.out.trans (S9.out.mono B3.out.size))
  have ON := Lh (ms_one MS9.out mm.live mm.garb)
  obtain ⟨x0, x1, x2, x3, x4, x5, x6, x7, x8, x9⟩ := bx10 HB9.out
  go_wp2_with ((with_reducible refine storeM (w.heap.size + 1) _ #[t0, t1, t2, t3, t4, t5, t6, t7, .int .i64 mm.live, .int .i64 mm.garb] ?_ ?_ HZ9.out rfl rfl ON.out ?_); exact rfl; exact rfl)
  have SZ := Lh (setRow_heap w9 (w.heap.size + 1) _ #[t0, t1, t2, t3, t4, t5, t6, t7, .int .i64 mm.live, .int .i64 mm.garb] _ _ HZ9.out)
  have BE := Lh (below_setRowM B9.out (Nat.le_succ w.heap.size) #[t0, t1, t2, t3, t4, t5, t6, t7, .int .i64 mm.live, .int .i64 mm.garb])
  refine mo_end (fn := Tryz.f100) rfl (w.heap.size + 1) rfl SZ.out ?_
  rw [← HE.out]
  exact ⟨⟨_, rfl, t0, t1, t2, t3, t4, t5, t6, t7, rfl, ms_setRowZ MS9.out HZ9.out⟩, BE.out⟩
end Go.Proofs.YtbmlpafbdbhaiaaGreatDoor.Gf
namespace Go.Proofs.YtbmlpafbdbhaiaaGreatDoor.Gf
open Go Go.Joins Go.ChangeShapes Go.WideShapes Go.ChangeAt Go.RowKit Go.Deep Go.Proofs.YtbmlpafbdbhaiaaGreatDoor.By Go.Proofs.YtbmlpafbdbhaiaaGreatDoor.Qt

/-- A stripe written into the cells of a map. -/
theorem set8 (c0 c1 c2 c3 c4 c5 c6 c7 v l g : Value) (u : Nat) (hu : u < 8) : ∃ d0 d1 d2 d3 d4 d5 d6 d7, (#[c0, c1, c2, c3, c4, c5, c6, c7, l, g] : Array Value).setIfInBounds u v = #[d0, d1, d2, d3, d4, d5, d6, d7, l, g] ∧ ∀ k, k < 8 → [d0, d1, d2, d3, d4, d5, d6, d7][k]? = if k = u then some v else [c0, c1, c2, c3, c4, c5, c6, c7][k]? := by
 have key : ∀ (D : List Value) , D.length = 8 → ∃ d0 d1 d2 d3 d4 d5 d6 d7, D = [d0, d1, d2, d3, d4, d5, d6, d7] := fun D h => by
  match D, h with
  | [d0, d1, d2, d3, d4, d5, d6, d7], _ => exact ⟨_, _, _, _, _, _, _, _, rfl⟩
 obtain rfl | rfl | rfl | rfl | rfl | rfl | rfl | rfl : u = 0 ∨ u = 1 ∨ u = 2 ∨ u = 3 ∨ u = 4 ∨ u = 5 ∨ u = 6 ∨ u = 7 := by omega
 all_goals
  refine ⟨_, _, _, _, _, _, _, _, rfl, fun k hk => ?_⟩
  obtain rfl | rfl | rfl | rfl | rfl | rfl | rfl | rfl : k = 0 ∨ k = 1 ∨ k = 2 ∨ k = 3 ∨ k = 4 ∨ k = 5 ∨ k = 6 ∨ k = 7 := by omega
  all_goals rfl
theorem ms_u64 {w : World} {s0 s1 s2 s3 s4 s5 s6 s7 : Value} {m : Mp} (h : Ms w [s0, s1, s2, s3, s4, s5, s6, s7] m) (l g : Int) : ∀ (k : Nat) (n : Int), (#[s0, s1, s2, s3, s4, s5, s6, s7, .int .i64 l, .int .i64 g] : Array Value)[k]? ≠ some (Value.int .u64 n) := fun k n e => by
 by_cases hk : k < 8
 ·obtain ⟨a, c, h1, -⟩ := h.2.2.2 k hk
  have e2 : (#[s0, s1, s2, s3, s4, s5, s6, s7, .int .i64 l, .int .i64 g] : Array Value)[k]? = [s0, s1, s2, s3, s4, s5, s6, s7][k]? := by
   obtain rfl | rfl | rfl | rfl | rfl | rfl | rfl | rfl : k = 0 ∨ k = 1 ∨ k = 2 ∨ k = 3 ∨ k = 4 ∨ k = 5 ∨ k = 6 ∨ k = 7 := by omega
   all_goals rfl
  rw [e2, h1] at e
  cases e
 ·match k, hk, e with
  | 8, _, e => simp at e
  | 9, _, e => simp at e
  | k + 10, _, e => simp at e
/-- A map in memory behind a store of a stripe into its box. -/
theorem ms_set {w : World} {p u : Nat} {c0 c1 c2 c3 c4 c5 c6 c7 d0 d1 d2 d3 d4 d5 d6 d7 : Value} {m : Mp} {a : Option Addr} {c : Nat} {L : List Itm} {l g l' g' : Int} (h : Ms w [c0, c1, c2, c3, c4, c5, c6, c7] m) (hp : w.heap[p]? = some (.cells #[c0, c1, c2, c3, c4, c5, c6, c7, .int .i64 l, .int .i64 g] 48 (0, 0))) (hu : u < 8) (hL : It w (.slice a L.length c) L) (hd : ∀ k, k < 8 → [d0, d1, d2, d3, d4, d5, d6, d7][k]? = if k = u then some (.slice a L.length c) else [c0, c1, c2, c3, c4, c5, c6, c7][k]?) (hl : J64 l') (hg : J64 g') (v : Value) :
 Ms (w.setCell ⟨p, u, none⟩ v) [d0, d1, d2, d3, d4, d5, d6, d7] ⟨m.st.set u L, l', g'⟩ := by
 have hk : ∀ b, b ≠ p → (w.setCell ⟨p, u, none⟩ v).heap[b]? = w.heap[b]? := fun b hb => heap_setCell_other _ _ _ _ hb
 refine ⟨by rw [List.length_set]; exact h.1, hl, hg, fun k hk8 => ?_⟩
 rw [hd k hk8]
 by_cases e : k = u
 ·subst e
  have hm : ms ⟨m.st.set k L, l', g'⟩ k = L := by
   unfold ms
   rw [List.getD_eq_getElem?_getD, List.getElem?_set_self (by have := h.1; omega)]
   rfl
  rw [if_pos rfl, hm]
  exact ⟨a, c, rfl, it_keepM hL hp (ms_u64 h l g) hk⟩
 ·have hm : ms ⟨m.st.set u L, l', g'⟩ k = ms m k := by
   unfold ms
   rw [List.getD_eq_getElem?_getD, List.getElem?_set_ne (fun h => e h.symm)]
   rfl
  rw [if_neg e, hm]
  obtain ⟨a2, c2, h1, h2⟩ := h.2.2.2 k hk8
  exact ⟨a2, c2, h1, it_keepM h2 hp (ms_u64 h l g) hk⟩
end Go.Proofs.YtbmlpafbdbhaiaaGreatDoor.Gf
namespace Go.Proofs.YtbmlpafbdbhaiaaGreatDoor.Gf
open Go Go.Joins Go.ChangeShapes Go.WideShapes Go.ChangeAt Go.RowKit Go.Deep Go.Proofs.YtbmlpafbdbhaiaaGreatDoor.By Go.Proofs.YtbmlpafbdbhaiaaGreatDoor.Qt

end Go.Proofs.YtbmlpafbdbhaiaaGreatDoor.Gf
namespace Go.Proofs.YtbmlpafbdbhaiaaGreatDoor.Gf
open Go Go.Joins Go.ChangeShapes Go.WideShapes Go.ChangeAt Go.RowKit Go.Deep Go.Proofs.YtbmlpafbdbhaiaaGreatDoor.By Go.Proofs.YtbmlpafbdbhaiaaGreatDoor.Qt

theorem mp0_ms (w : World) : Ms w [.slice none 0 0, .slice none 0 0, .slice none 0 0, .slice none 0 0, .slice none 0 0, .slice none 0 0, .slice none 0 0, .slice none 0 0] mp0 := ⟨rfl, by unfold J64 mp0; decide, by unfold J64 mp0; decide, fun k hk => by
 obtain rfl | rfl | rfl | rfl | rfl | rfl | rfl | rfl : k = 0 ∨ k = 1 ∨ k = 2 ∨ k = 3 ∨ k = 4 ∨ k = 5 ∨ k = 6 ∨ k = 7 := by omega
 all_goals exact ⟨none, 0, rfl, it_nil w⟩⟩
theorem pnew_any (w : World) : Calls Tryz.prog 57 #[] w (MO w mp0) := by
 have q := bel_al w (.cells #[.slice none 0 0, .slice none 0 0, .slice none 0 0, .slice none 0 0, .slice none 0 0, .slice none 0 0, .slice none 0 0, .slice none 0 0, .int .i64 0, .int .i64 0] 48)
 have hz := heap_alloc_new w (.cells #[.slice none 0 0, .slice none 0 0, .slice none 0 0, .slice none 0 0, .slice none 0 0, .slice none 0 0, .slice none 0 0, .slice none 0 0, .int .i64 0, .int .i64 0] 48)
 go_enter Tryz.func57, Tryz.ntmps57
 go_wp2_with fail
 refine mo_end (fn := Tryz.f57) rfl w.heap.size rfl hz ?_
 exact ⟨⟨_, rfl, _, _, _, _, _, _, _, _, rfl, mp0_ms _⟩, q⟩
end Go.Proofs.YtbmlpafbdbhaiaaGreatDoor.Gf
namespace Go.Proofs.YtbmlpafbdbhaiaaGreatDoor.Gf
open Go Go.Joins Go.ChangeShapes Go.WideShapes Go.ChangeAt Go.RowKit Go.Deep Go.Proofs.YtbmlpafbdbhaiaaGreatDoor.By Go.Proofs.YtbmlpafbdbhaiaaGreatDoor.Qt
set_option maxRecDepth 100000
set_option maxHeartbeats 204800000

theorem su_nil11 (w : World) : Su w (.slice none 0 0) [] := ⟨by simp, none, 0, rfl, Nat.le_refl _, by simp, fun h => by simp at h⟩
theorem flat_take_le {m : Mp} (k : Nat) : (m.st.take k).flatten.length ≤ m.st.flatten.length := by
 have e : m.st.flatten = (m.st.take k).flatten ++ (m.st.drop k).flatten := by rw [← List.flatten_append, List.take_append_drop]
 rw [e, List.length_append]
 omega
theorem pitems11_any (v : Value) (m : Mp) (w : World) (hv : Mv w v m) (hf : Few m) (hn : m.st.flatten.length ≤ 1000) : Calls Tryz.prog 39 #[v] w (LI w (itemsL m)) := by
 have HF := Lh hf
 have HNN := Lh hn
 have PV := Lh (fun W (h : Below w.heap.size w W) => pvalid11_any v m W (mv_below hv h) hf)
 obtain ⟨s0, s1, s2, s3, s4, s5, s6, s7, rfl, hms⟩ := hv
 have BX := Lh (bel_al w (.cells #[s0, s1, s2, s3, s4, s5, s6, s7, .int .i64 m.live, .int .i64 m.garb] 48))
 have HX := Lh (heap_alloc_new w (.cells #[s0, s1, s2, s3, s4, s5, s6, s7, .int .i64 m.live, .int .i64 m.garb] 48))
 have MS := Lh (ms_below hms BX.out)
 have SW := Lh (show w.heap.size ≤ (w.alloc (.cells #[s0, s1, s2, s3, s4, s5, s6, s7, .int .i64 m.live, .int .i64 m.garb] 48)).heap.size from BX.out.size)
 clear hms hf
 go_enter Tryz.func39, Tryz.ntmps39
 go_upto_region 1 with fail
 generalize w.alloc (.cells #[s0, s1, s2, s3, s4, s5, s6, s7, .int .i64 m.live, .int .i64 m.garb] 48) = W1 at *
 have PV1 := Lh (PV.out W1 BX.out)
 clear PV
 clear hn
 by_cases hok : okM m
 case neg =>
  rw [okMb_f hok] at PV1
  have HE := Lh (show itemsL m = [] by unfold itemsL; rw [if_neg hok])
  clear hok
  obtain ⟨x0, x1, x2, x3, x4, x5, x6, x7, x8, x9⟩ := bx10 HX.out
  go_wp2_with fail
  clear x0 x1 x2 x3 x4 x5 x6 x7 x8 x9
  refine PV1.out.mono ?_
  rintro e w2 ⟨rfl, hb⟩
  have B2 := Lh (BX.out.trans (hb.mono SW.out))
  have S2 := Lh hb
  have HX2 := Lh ((hb.block _ (lt_of_some HX.out)).trans HX.out)
  have MS2 := Lh (ms_below MS.out hb)
  clear hb PV1 HX MS
  go_wp2_with fail
  go_ret
  exact ⟨⟨_, rfl, by rw [HE.out]; exact it_nil _⟩, B2.out⟩
 rw [okMb_t hok] at PV1
 have HE := Lh (show itemsL m = iL m by unfold itemsL; rw [if_pos hok])
 clear hok
 obtain ⟨x0, x1, x2, x3, x4, x5, x6, x7, x8, x9⟩ := bx10 HX.out
 go_wp2_with fail
 clear x0 x1 x2 x3 x4 x5 x6 x7 x8 x9
 refine PV1.out.mono ?_
 rintro e w2 ⟨rfl, hb⟩
 have B2 := Lh (BX.out.trans (hb.mono SW.out))
 have S2 := Lh hb
 have HX2 := Lh ((hb.block _ (lt_of_some HX.out)).trans HX.out)
 have MS2 := Lh (ms_below MS.out hb)
 clear hb PV1 HX MS
 obtain ⟨x0, x1, x2, x3, x4, x5, x6, x7, x8, x9⟩ := bx10 HX2.out
 go_wp2_with fail
 clear x0 x1 x2 x3 x4 x5 x6 x7 x8 x9
 go_loopw [3, 11] (fun t3 t11 wr => ∃ k : Nat, k ≤ 8 ∧ t11 = .int .i64 (k : Int) ∧ Hid (It wr t3 (sortL (m.st.take k).flatten)) ∧ Hid (Below w2.heap.size w2 wr)) (fun _ t _ => 8 - (intOf t).toNat)
 case atStart => exact ⟨0, by omega, rfl, Lh (it_nil _), Lh (Below.refl _ _)⟩
 case round =>
  obtain ⟨k, hk, rfl, HI, BR⟩ := hrel
  rename World => wl
  have HLN := Lh (show (sortL (m.st.take k).flatten).length ≤ 1000 from Nat.le_trans (length_sortL _) (Nat.le_trans (flat_take_le k) HNN.out))
  by_cases hlt : k < 8
  case neg =>
   have l1 : decide ((k : Int) < 8) = false := decide_eq_false (by omega)
   have l2 : decide (k < 8) = false := decide_eq_false hlt
   have HR := Lh (show sortL (m.st.take k).flatten = itemsL m by rw [HE.out, List.take_of_length_le (by have := MS2.out.1; omega)]; rfl)
   clear hlt hk
   obtain ⟨ai, ci, rfl, -, -⟩ := it_form HI.out
   go_wp2_with fail
   go_ret
   exact ⟨⟨_, rfl, by rw [← HR.out]; exact HI.out⟩, B2.out.trans (BR.out.mono B2.out.size)⟩
  have l1 : decide ((k : Int) < 8) = true := decide_eq_true (by omega)
  have l2 : decide (k < 8) = true := decide_eq_true hlt
  have HK := Lh hlt
  have EK := Lh (show wrap64 ((k : Int) + 1) = ((k + 1 : Nat) : Int) by unfold wrap64; omega)
  obtain ⟨a, c, hsel, hit⟩ := MS2.out.2.2.2 k hlt
  have hit2 := it_below hit BR.out
  have hst : sortL (m.st.take (k + 1)).flatten = mergeL (sortL (m.st.take k).flatten) (ms m k) [] := by
   rw [merge_step, List.take_succ_eq_append_getElem (by have := MS2.out.1; omega), List.flatten_append, ← ms_of (by have := MS2.out.1; omega)]
   simp
  have HST := Lh hst
  have PM := Lh (fun v1 (h : It wl v1 (sortL (m.st.take k).flatten)) => pmerge8_any v1 _ (.slice none 0 0) _ _ [] wl h hit2 (su_nil11 wl) HLN.out (HF.out k hlt) (by decide))
  rw [← hst] at PM
  have PM2 := Lh (PM.out _ HI.out)
  obtain ⟨n, hn⟩ : ∃ z, z = (ms m k).length := ⟨_, rfl⟩
  rw [← hn] at hsel PM2
  have hix := run_index8 wl hlt hsel
  obtain ⟨ai, ci, rfl, -, -⟩ := it_form HI.out
  clear hsel hit hit2 hst PM hn hlt hk HI
  go_wp2_with fail
  refine PM2.out.mono ?_
  rintro e w3 ⟨⟨v3, rfl, hi3⟩, hb⟩
  have B3 := Lh (BR.out.trans (hb.mono BR.out.size))
  have I3 := Lh hi3
  clear hb hi3 PM2 hix
  go_wp2_with fail
  go_roundw
  case rel =>
   have h1 := HK.out
   exact ⟨k + 1, by omega, by rw [EK.out], I3, B3⟩
  case measure =>
   have h1 := HK.out
   rw [EK.out]
   simp [intOf]; omega
end Go.Proofs.YtbmlpafbdbhaiaaGreatDoor.Gf
namespace Go.Proofs.YtbmlpafbdbhaiaaGreatDoor.Gf
open Go Go.Joins Go.ChangeShapes Go.WideShapes Go.ChangeAt Go.RowKit Go.Deep Go.Proofs.YtbmlpafbdbhaiaaGreatDoor.By Go.Proofs.YtbmlpafbdbhaiaaGreatDoor.Qt

theorem ms_mp0 (s : Nat) : ms mp0 s = [] := by
 unfold ms mp0
 rw [List.getD_eq_getElem?_getD, List.getElem?_replicate]
 split <;> rfl
theorem few_mp0 : Few mp0 := fun k _ => by rw [ms_mp0]; exact Nat.zero_le _
end Go.Proofs.YtbmlpafbdbhaiaaGreatDoor.Gf
namespace Go.Proofs.YtbmlpafbdbhaiaaGreatDoor.Gf
open Go Go.Joins Go.ChangeShapes Go.WideShapes Go.ChangeAt Go.RowKit Go.Deep Go.Proofs.YtbmlpafbdbhaiaaGreatDoor.By Go.Proofs.YtbmlpafbdbhaiaaGreatDoor.Qt
set_option maxRecDepth 100000
set_option maxHeartbeats 204800000

open Classical in
noncomputable def lenM (m : Mp) : Nat := if okM m then m.st.flatten.length else 0
theorem plen11_any (v : Value) (m : Mp) (w : World) (hv : Mv w v m) (hf : Few m) (hn : m.st.flatten.length ≤ 1000) : Calls Tryz.prog 95 #[v] w fun e w' => e = .returned (.int .i64 ((lenM m : Nat) : Int)) ∧ Below w.heap.size w w' := by
 have HF := Lh hf
 have HNN := Lh hn
 have PV := Lh (fun W (h : Below w.heap.size w W) => pvalid11_any v m W (mv_below hv h) hf)
 obtain ⟨s0, s1, s2, s3, s4, s5, s6, s7, rfl, hms⟩ := hv
 have BX := Lh (bel_al w (.cells #[s0, s1, s2, s3, s4, s5, s6, s7, .int .i64 m.live, .int .i64 m.garb] 48))
 have HX := Lh (heap_alloc_new w (.cells #[s0, s1, s2, s3, s4, s5, s6, s7, .int .i64 m.live, .int .i64 m.garb] 48))
 have MS := Lh (ms_below hms BX.out)
 have SW := Lh (show w.heap.size ≤ (w.alloc (.cells #[s0, s1, s2, s3, s4, s5, s6, s7, .int .i64 m.live, .int .i64 m.garb] 48)).heap.size from BX.out.size)
 clear hms hf
 go_enter Tryz.func95, Tryz.ntmps95
 go_upto_region 1 with fail
 generalize w.alloc (.cells #[s0, s1, s2, s3, s4, s5, s6, s7, .int .i64 m.live, .int .i64 m.garb] 48) = W1 at *
 have PV1 := Lh (PV.out W1 BX.out)
 clear PV
 clear hn
 by_cases hok : okM m
 case neg =>
  rw [okMb_f hok] at PV1
  have HE := Lh (show lenM m = 0 by unfold lenM; rw [if_neg hok])
  clear hok
  obtain ⟨x0, x1, x2, x3, x4, x5, x6, x7, x8, x9⟩ := bx10 HX.out
  go_wp2_with fail
  clear x0 x1 x2 x3 x4 x5 x6 x7 x8 x9
  refine PV1.out.mono ?_
  rintro e w2 ⟨rfl, hb⟩
  have B2 := Lh (BX.out.trans (hb.mono SW.out))
  have S2 := Lh hb
  have HX2 := Lh ((hb.block _ (lt_of_some HX.out)).trans HX.out)
  have MS2 := Lh (ms_below MS.out hb)
  clear hb PV1 HX MS
  go_wp2_with fail
  go_ret
  exact ⟨by rw [HE.out]; rfl, B2.out⟩
 rw [okMb_t hok] at PV1
 have HE := Lh (show lenM m = m.st.flatten.length by unfold lenM; rw [if_pos hok])
 clear hok
 obtain ⟨x0, x1, x2, x3, x4, x5, x6, x7, x8, x9⟩ := bx10 HX.out
 go_wp2_with fail
 clear x0 x1 x2 x3 x4 x5 x6 x7 x8 x9
 refine PV1.out.mono ?_
 rintro e w2 ⟨rfl, hb⟩
 have B2 := Lh (BX.out.trans (hb.mono SW.out))
 have S2 := Lh hb
 have HX2 := Lh ((hb.block _ (lt_of_some HX.out)).trans HX.out)
 have MS2 := Lh (ms_below MS.out hb)
 clear hb PV1 HX MS
 obtain ⟨x0, x1, x2, x3, x4, x5, x6, x7, x8, x9⟩ := bx10 HX2.out
 go_wp2_with fail
 clear x0 x1 x2 x3 x4 x5 x6 x7 x8 x9
 go_loopw [3, 11] (fun t3 t11 wr => ∃ (k T : Nat), k ≤ 8 ∧ t11 = .int .i64 (k : Int) ∧ t3 = .int .i64 (T : Int) ∧ Hid (T = (m.st.take k).flatten.length) ∧ Hid (Below w2.heap.size w2 wr)) (fun _ t _ => 8 - (intOf t).toNat)
 case atStart => exact ⟨0, 0, by omega, rfl, rfl, Lh rfl, Lh (Below.refl _ _)⟩
 case round =>
  obtain ⟨k, T, hk, rfl, rfl, HT, BR⟩ := hrel
  rename World => wl
  by_cases hlt : k < 8
  case neg =>
   have l1 : decide ((k : Int) < 8) = false := decide_eq_false (by omega)
   have l2 : decide (k < 8) = false := decide_eq_false hlt
   have HR := Lh (show T = lenM m by rw [HE.out, HT.out, List.take_of_length_le (by have := MS2.out.1; omega)])
   clear hlt hk
   go_wp2_with fail
   go_ret
   exact ⟨by rw [← HR.out]; rfl, B2.out.trans (BR.out.mono B2.out.size)⟩
  have l1 : decide ((k : Int) < 8) = true := decide_eq_true (by omega)
  have l2 : decide (k < 8) = true := decide_eq_true hlt
  have HK := Lh hlt
  have EK := Lh (show wrap64 ((k : Int) + 1) = ((k + 1 : Nat) : Int) by unfold wrap64; omega)
  obtain ⟨a, c, hsel, -⟩ := MS2.out.2.2.2 k hlt
  have hst : (m.st.take (k + 1)).flatten.length = (m.st.take k).flatten.length + (ms m k).length := by
   rw [List.take_succ_eq_append_getElem (by have := MS2.out.1; omega), List.flatten_append, List.length_append, ← ms_of (by have := MS2.out.1; omega)]
   simp
  have hle := flat_take_le (m := m) (k + 1)
  obtain ⟨n, hn⟩ : ∃ z, z = (ms m k).length := ⟨_, rfl⟩
  rw [← hn] at hsel hst
  have hix := run_index8 wl hlt hsel
  have HT1 := Lh (show T + n = (m.st.take (k + 1)).flatten.length by rw [hst, HT.out])
  have ET := Lh (show wrap64 ((T : Int) + (n : Int)) = ((T + n : Nat) : Int) by have := HNN.out; have := HT1.out; unfold wrap64; omega)
  clear hsel hst hle hn hlt hk HT
  go_wp2_with fail
  go_roundw
  case rel =>
   have h1 := HK.out
   exact ⟨k + 1, T + n, by omega, by rw [EK.out], by rw [ET.out], HT1, BR⟩
  case measure =>
   have h1 := HK.out
   rw [EK.out]
   simp [intOf]; omega
end Go.Proofs.YtbmlpafbdbhaiaaGreatDoor.Gf
