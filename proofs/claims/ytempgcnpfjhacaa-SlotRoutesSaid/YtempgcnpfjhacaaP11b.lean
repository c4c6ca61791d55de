/- What is proved here: needle maps in memory; belong and validItem of the program. -/
import Derived.Test.YtempgcnpfjhacaaP11a
namespace Go.Proofs.Ytempgcnpfjhacaa.Gf
open Go Go.Joins Go.ChangeShapes Go.WideShapes Go.ChangeAt Go.RowKit Go.Deep Go.Proofs.Ytempgcnpfjhacaa.By Go.Proofs.Ytempgcnpfjhacaa.Qt

/-- Its stripes in memory. -/
def Ms (w : World) (vs : List Value) (m : Mp) : Prop := m.st.length = 8 ∧ J64 m.live ∧ J64 m.garb ∧ ∀ k, k < 8 → ∃ a c, vs[k]? = some (.slice a (ms m k).length c) ∧ It w (.slice a (ms m k).length c) (ms m k)
/-- A map as a value. -/
def Mv (w : World) (v : Value) (m : Mp) : Prop := ∃ s0 s1 s2 s3 s4 s5 s6 s7, v = .agg #[s0, s1, s2, s3, s4, s5, s6, s7, .int .i64 m.live, .int .i64 m.garb] ∧ Ms w [s0, s1, s2, s3, s4, s5, s6, s7] m
theorem ms_below {w w' : World} {vs : List Value} {m : Mp} (h : Ms w vs m) (hB : Below w.heap.size w w') : Ms w' vs m := ⟨h.1, h.2.1, h.2.2.1, fun k hk => by
  obtain ⟨a, c, h1, h2⟩ := h.2.2.2 k hk
  exact ⟨a, c, h1, it_below h2 hB⟩⟩
theorem mv_below {w w' : World} {v : Value} {m : Mp} (h : Mv w v m) (hB : Below w.heap.size w w') : Mv w' v m := by
  obtain ⟨s0, s1, s2, s3, s4, s5, s6, s7, rfl, h2⟩ := h
  exact ⟨s0, s1, s2, s3, s4, s5, s6, s7, rfl, ms_below h2 hB⟩
theorem bx10 {w : World} {g : Nat} {s0 s1 s2 s3 s4 s5 s6 s7 s8 s9 : Value} {T : TypeId} {fr : Nat × Nat} (h : w.heap[g]? = some (.cells #[s0, s1, s2, s3, s4, s5, s6, s7, s8, s9] T fr)) : w.cell? ⟨g, 0, none⟩ = some s0 ∧ w.cell? ⟨g, 1, none⟩ = some s1 ∧ w.cell? ⟨g, 2, none⟩ = some s2 ∧ w.cell? ⟨g, 3, none⟩ = some s3 ∧ w.cell? ⟨g, 4, none⟩ = some s4 ∧ w.cell? ⟨g, 5, none⟩ = some s5 ∧ w.cell? ⟨g, 6, none⟩ = some s6 ∧ w.cell? ⟨g, 7, none⟩ = some s7 ∧ w.cell? ⟨g, 8, none⟩ = some s8 ∧ w.cell? ⟨g, 9, none⟩ = some s9 :=
  ⟨cell_of_row w g 0 _ _ _ h, cell_of_row w g 1 _ _ _ h, cell_of_row w g 2 _ _ _ h, cell_of_row w g 3 _ _ _ h, cell_of_row w g 4 _ _ _ h, cell_of_row w g 5 _ _ _ h, cell_of_row w g 6 _ _ _ h, cell_of_row w g 7 _ _ _ h, cell_of_row w g 8 _ _ _ h, cell_of_row w g 9 _ _ _ h⟩
/-- A stripe in the box of a map. -/
theorem bxk {w : World} {g : Nat} {s0 s1 s2 s3 s4 s5 s6 s7 s8 s9 : Value} {T : TypeId} {fr : Nat × Nat} (h : w.heap[g]? = some (.cells #[s0, s1, s2, s3, s4, s5, s6, s7, s8, s9] T fr)) {k : Nat} (hk : k < 8) {v : Value} (hv : [s0, s1, s2, s3, s4, s5, s6, s7][k]? = some v) : w.cell? ⟨g, k, none⟩ = some v := by
  rw [cell_of_row w g k _ _ _ h, ← hv]
  obtain rfl | rfl | rfl | rfl | rfl | rfl | rfl | rfl : k = 0 ∨ k = 1 ∨ k = 2 ∨ k = 3 ∨ k = 4 ∨ k = 5 ∨ k = 6 ∨ k = 7 := by omega
  all_goals rfl
theorem size22 : (Try.prog.info? 41).map (·.size) = some 1 := by kernel_rfl
/-- A stripe of the stripes as a value. -/
theorem run_index8 {s0 s1 s2 s3 s4 s5 s6 s7 : Value} {k : Nat} {a : Option Addr} {n c : Nat} (w : World) (hk : k < 8) (hv : [s0, s1, s2, s3, s4, s5, s6, s7][k]? = some (.slice a n c)) :
    (Instr.index 42 (.agg #[s0, s1, s2, s3, s4, s5, s6, s7]) (.int .i64 (k : Int))).run Try.prog w = .ok (.slice a n c) w := by
  obtain ⟨i, hi, hs⟩ := Option.map_eq_some_iff.1 size22
  simp [Instr.index, run_underlying Try.underlying42, run_underlying Try.underlying41, part, isAgg, sizeOf, typeInfo, hi, hs, hk, asIntOf]
  exact (List.getElem?_eq_some_iff.1 hv).2
/-- The items ahead of the i-th lie in a stripe. -/
theorem spTo_succ {L : List Itm} {s i : Nat} (h : ∀ x ∈ L.take i, sp x.key = s) (hi : i < L.length) (hx : sp (L.getD i z0).key = s) : ∀ x ∈ L.take (i + 1), sp x.key = s := fun x hm => by
  rw [take_snocT hi] at hm
  rcases List.mem_append.1 hm with hm | hm
  · exact h x hm
  · rw [List.mem_singleton.1 hm]; exact hx
set_option maxRecDepth 100000 in
set_option maxHeartbeats 6400000 in
theorem pbelong_any (v : Value) (L : List Itm) (s : Nat) (w : World) (sl : It w v L) (hlen : L.length ≤ 1000000) : Calls Try.prog 31 #[v, .int .i64 (s : Int)] w fun e w' => e = .returned (.bool (decide (∀ x ∈ L, sp x.key = s))) ∧ Below w.heap.size w w' := by
  have SL := Lib.hid sl
  obtain ⟨a, c, rfl, -, -⟩ := it_form sl
  obtain ⟨n, hn⟩ : ∃ z, z = L.length := ⟨_, rfl⟩
  rw [← hn] at SL ⊢
  have HN := Lib.hid (And.intro hn hlen)
  obtain ⟨q, hq⟩ : ∃ z, z = decide (∀ x ∈ L, sp x.key = s) := ⟨_, rfl⟩
  rw [← hq]
  have HQ := Lib.hid hq
  clear sl hn hlen hq
  go_enter Try.func31, Try.ntmps31
  go_wp2_with fail
  go_loopw [9] (fun t wr => ∃ i : Nat, i ≤ n ∧ t = .int .i64 (i : Int) ∧ Hid (∀ x ∈ L.take i, sp x.key = s) ∧ Hid (Below w.heap.size w wr)) (fun t _ => n - (intOf t).toNat)
  case atStart => exact ⟨0, by omega, rfl, Lib.hid (by simp), Lib.hid (Below.refl _ _)⟩
  case round =>
    obtain ⟨i, hi, rfl, HT, BR⟩ := hrel
    rename World => wl
    by_cases hlt : i < n
    case neg =>
      have l1 : decide ((i : Int) < (n : Int)) = false := decide_eq_false (by omega)
      have l2 : decide (i < n) = false := decide_eq_false hlt
      have hqt : q = true := by
        rw [HQ.out]
        refine decide_eq_true fun x hx => HT.out x ?_
        rw [List.take_of_length_le (by have := HN.out.1; omega)]
        exact hx
      clear hlt hi HT
      subst hqt
      go_wp2_with fail
      go_ret
      exact ⟨rfl, BR.out⟩
    have l1 : decide ((i : Int) < (n : Int)) = true := decide_eq_true (by omega)
    have l2 : decide (i < n) = true := decide_eq_true hlt
    have HI := Lib.hid hlt
    have EW := Lib.hid (show wrap64 ((i : Int) + 1) = ((i + 1 : Nat) : Int) by have := HN.out; unfold wrap64; omega)
    obtain ⟨b, off, cap, hv, -, -, hc⟩ := it_cells (it_below SL.out BR.out) (by have := HN.out.1; omega)
    obtain ⟨rfl, -⟩ : a = some ⟨b, off, none⟩ ∧ (n = L.length ∧ c = cap) := by simpa using hv
    have C := hc i (by have := HN.out.1; omega)
    obtain ⟨x, hx⟩ : ∃ z, z = L.getD i z0 := ⟨_, rfl⟩
    rw [← hx] at C
    have HX := Lib.hid hx
    obtain ⟨k0, k1, k2, k3⟩ := C
    have p0 : (0 : Int) ≤ (i : Int) := by omega
    have p1 : (i : Int) < (n : Int) := by omega
    clear hv hc hx hlt hi
    go_upto_region 4 with fail
    clear k0 k1 k2 k3 p0 p1 l1 l2
    have q1 := bel_al wl (.cells #[.int .u64 (x.key : Int), .int .u32 (x.ck : Int), .int .i64 x.off, .int .i64 x.sz] 35)
    have HB := Lib.hid (heap_alloc_new wl (.cells #[.int .u64 (x.key : Int), .int .u32 (x.ck : Int), .int .i64 x.off, .int .i64 x.sz] 35))
    have B1 := Lib.hid (BR.out.trans (q1.mono BR.out.size))
    clear q1
    generalize wl.alloc (.cells #[.int .u64 (x.key : Int), .int .u32 (x.ck : Int), .int .i64 x.off, .int .i64 x.sz] 35) = W1 at *
    obtain ⟨⟨x0, x1, x2, x3⟩, -⟩ := bx4 HB.out
    have ST := Lib.hid (pstripe_any x.key W1)
    by_cases hsp : sp x.key = s
    case neg =>
      have l3 : (((sp x.key : Nat) : Int) != (s : Int)) = true := by rw [bne_iff_ne]; omega
      have hqf : q = false := by
        rw [HQ.out]
        refine decide_eq_false fun h => hsp ?_
        rw [HX.out]
        refine h _ (getT_mem ?_)
        have h1 := HI.out
        have h2 := HN.out.1
        omega
      clear hsp HT
      subst hqf
      generalize sp x.key = y at *
      go_wp2_with fail
      refine ST.out.mono ?_
      rintro e w2 ⟨rfl, rfl⟩
      go_wp2_with fail
      go_ret
      exact ⟨rfl, B1.out⟩
    have l3 : (((sp x.key : Nat) : Int) != (s : Int)) = false := by rw [bne_eq_false_iff_eq]; omega
    have HT1 := Lib.hid (spTo_succ HT.out (by have := HI.out; have := HN.out.1; omega) (by rw [← HX.out]; exact hsp))
    clear hsp HT
    generalize sp x.key = y at *
    go_wp2_with fail
    refine ST.out.mono ?_
    rintro e w2 ⟨rfl, rfl⟩
    go_wp2_with fail
    go_roundw
    case rel =>
      have h1 := HI.out
      exact ⟨i + 1, by omega, by rw [EW.out], HT1, B1⟩
    case measure =>
      have h1 := HI.out
      rw [EW.out]
      simp [intOf]; omega
end Go.Proofs.Ytempgcnpfjhacaa.Gf
