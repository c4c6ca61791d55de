/- What is proved here: small facts for the laws of layer 12: lists of needles that come in, boxes that stay, the program's Seal. -/
import Derived.Test.YtbmlpafbdbhaiaaGreatDoorGa4
import Derived.Test.YtbmlpafbdbhaiaaGreatDoorGa5
import Derived.Test.YtbmlpafbdbhaiaaGreatDoorGt2
namespace Go.Proofs.YtbmlpafbdbhaiaaGreatDoor.Gf
open Go Go.Joins Go.ChangeShapes Go.WideShapes Go.ChangeAt Go.RowKit Go.Deep Go.Proofs.YtbmlpafbdbhaiaaGreatDoor.By Go.Proofs.YtbmlpafbdbhaiaaGreatDoor.Qt
set_option maxRecDepth 100000
set_option maxHeartbeats 204800000
theorem pseal_any (v : Value) (g : Ge) (w : World) (hv : Gv w v g) (hf : Few g.m) (hn : g.m.st.flatten.length ≤ 1000) : Calls Tryz.prog 33 #[v] w (ModO g 2 3 w) := by
 obtain ⟨s0, s1, s2, s3, s4, s5, s6, s7, rfl, hm, hj⟩ := hv
 have q0 := al2 w (.cells #[.int .i64 g.num, .int .i64 g.rev, .int .i64 g.mode, .int .i64 g.size, s0, s1, s2, s3, s4, s5, s6, s7, .int .i64 g.m.live, .int .i64 g.m.garb] 50) (.cells #[.int .i64 0, .int .i64 0, .int .i64 0, .int .i64 0, .slice none 0 0, .slice none 0 0, .slice none 0 0, .slice none 0 0, .slice none 0 0, .slice none 0 0, .slice none 0 0, .slice none 0 0, .int .i64 0, .int .i64 0] 50)
 have HS := Lh q0.1
 have HZ := Lh q0.2.1
 have B0 := Lh q0.2.2
 have PV := Lh (pturn_any (.agg #[.int .i64 g.num, .int .i64 g.rev, .int .i64 g.mode, .int .i64 g.size, s0, s1, s2, s3, s4, s5, s6, s7, .int .i64 g.m.live, .int .i64 g.m.garb]) g 2 3 (by unfold J64; decide) _ ⟨s0, s1, s2, s3, s4, s5, s6, s7, rfl, ms_below hm q0.2.2, hj⟩ hf hn)
 clear q0 hm hj hf hn
 go_enter Tryz.func33, Tryz.ntmps33
 go_upto_region 1 with fail
 generalize (w.alloc (.cells #[.int .i64 g.num, .int .i64 g.rev, .int .i64 g.mode, .int .i64 g.size, s0, s1, s2, s3, s4, s5, s6, s7, .int .i64 g.m.live, .int .i64 g.m.garb] 50)).alloc (.cells #[.int .i64 0, .int .i64 0, .int .i64 0, .int .i64 0, .slice none 0 0, .slice none 0 0, .slice none 0 0, .slice none 0 0, .slice none 0 0, .slice none 0 0, .slice none 0 0, .slice none 0 0, .int .i64 0, .int .i64 0] 50) = W0 at *
 obtain ⟨x0, x1, x2, x3, x4, x5, x6, x7, x8, x9, x10, x11, x12, x13⟩ := bx14 HS.out
 go_wp2_with fail
 clear x0 x1 x2 x3 x4 x5 x6 x7 x8 x9 x10 x11 x12 x13
 refine PV.out.mono ?_
 rintro e W1 ⟨⟨v1, rfl, hv1⟩, hb⟩
 obtain ⟨t0, t1, t2, t3, t4, t5, t6, t7, rfl, hm1, hj1⟩ := hv1
 have HZ1 := Lh ((hb.block _ (lt_of_some HZ.out)).trans HZ.out)
 have B1 := Lh (B0.out.trans (hb.mono B0.out.size))
 have ON := Lh (gc_one hm1)
 have MS1 := Lh hm1
 have HJ1 := Lh hj1
 generalize hT : modG g 2 3 = T at *
 generalize hC : modC g 2 = C at *
 have HT := Lh hT
 have HC := Lh hC
 clear hT hC
 clear hb HZ B0 PV hm1 hj1
 go_wp2_with ((with_reducible refine storeG (w.heap.size + 1) _ #[.int .i64 T.num, .int .i64 T.rev, .int .i64 T.mode, .int .i64 T.size, t0, t1, t2, t3, t4, t5, t6, t7, .int .i64 T.m.live, .int .i64 T.m.garb] ?_ ?_ HZ1.out rfl rfl ON.out ?_); exact rfl; exact rfl)
 refine bodyPost_ret (results_rt (S := 50) rfl _ _ (w.heap.size + 1) #[.int .i64 T.num, .int .i64 T.rev, .int .i64 T.mode, .int .i64 T.size, t0, t1, t2, t3, t4, t5, t6, t7, .int .i64 T.m.live, .int .i64 T.m.garb] rfl (setRow_heap _ _ _ _ _ _ HZ1.out) Tryz.underlying50 rfl infoG14) rfl ?_
 exact modO_of HT.out HC.out ⟨⟨_, rfl, t0, t1, t2, t3, t4, t5, t6, t7, rfl, ms_setRowF MS1.out HZ1.out zeroG_u64, HJ1.out⟩, below_setRowM B1.out (Nat.le_succ _) _⟩
theorem ni_of_nr {w : World} {v : Value} {n : Nat} (h : Nr w v n) : ∃ L, Ni w v L := by
  obtain ⟨a, c, h1, h2, h3, h4⟩ := h
  by_cases hn : n = 0
  · subst hn
    exact ⟨[], a, c, h1, h2, h3, fun h => absurd h (Nat.lt_irrefl 0)⟩
  obtain ⟨b, off, ha, hc⟩ := h4 (by omega)
  have hx : ∀ i, ∃ x : Rcd, i < n → NI w b (off + i * 4) x := fun i => by
    by_cases hi : i < n
    · obtain ⟨key, ck, del, da, dn, dc, k1, k2, k3, k4, c0, c1, c2, c3⟩ := hc i hi
      exact ⟨⟨key, ck, del, (dn : Int)⟩, fun _ => ⟨da, dn, dc, rfl, k3, k4, k1, k2, c0, c1, c2, c3⟩⟩
    · exact ⟨r0, fun h => absurd h hi⟩
  refine ⟨(List.range n).map fun i => Classical.choose (hx i), a, c, by simpa using h1, by simpa using h2, h3, fun _ => ⟨b, off, ha, fun i hi => ?_⟩⟩
  have hi : i < n := by simpa using hi
  have e : ((List.range n).map fun i => Classical.choose (hx i)).getD i r0 = Classical.choose (hx i) := by
    rw [List.getD_eq_getElem?_getD, List.getElem?_map, List.getElem?_range hi]
    rfl
  rw [e]
  exact Classical.choose_spec (hx i) hi
theorem and24 {q : Int} (h : 0 ≤ q ∧ q < 8) : bits .and .i64 q 24 = 0 := by
  have h2 : q = 0 ∨ q = 1 ∨ q = 2 ∨ q = 3 ∨ q = 4 ∨ q = 5 ∨ q = 6 ∨ q = 7 := by omega
  rcases h2 with rfl | rfl | rfl | rfl | rfl | rfl | rfl | rfl <;> decide
theorem nx_setRow {w : World} {v : Value} {l : List Rcd} {p : Nat} {cs cs0 : Array Value} {T : TypeId} (h : Nx w v l) (hz : w.heap[p]? = some (.cells cs0 T (0, 0))) (hn : ∀ (k : Nat) (n : Int), cs0[k]? ≠ some (Value.int .u64 n)) : Nx (w.setRow p cs) v l := by
  obtain ⟨a, c, h1, h4⟩ := h
  refine ⟨a, c, h1, fun hp => ?_⟩
  obtain ⟨b, off, ha, hc⟩ := h4 hp
  refine ⟨b, off, ha, fun i hi => ?_⟩
  obtain ⟨da, dn, dc, e1, e2, e3, e4, k0, k1, k2, k3⟩ := hc i hi
  have hb : b ≠ p := fun e => by
    subst e
    rw [cell_of_row _ _ _ _ _ _ hz] at k0
    exact hn _ _ k0
  have hk : ∀ (o : Nat) (u : Value), w.cell? ⟨b, o, none⟩ = some u → (w.setRow p cs).cell? ⟨b, o, none⟩ = some u := fun o u hu => by
    rw [← hu]
    simp only [World.cell?, setRow_other w p b cs hb]
  exact ⟨da, dn, dc, e1, e2, e3, e4, hk _ _ k0, hk _ _ k1, hk _ _ k2, hk _ _ k3⟩
/-- A box holds a generation. -/
def BxG (w : World) (p : Nat) (T : TypeId) (g : Ge) : Prop := ∃ s0 s1 s2 s3 s4 s5 s6 s7, w.heap[p]? = some (.cells #[.int .i64 g.num, .int .i64 g.rev, .int .i64 g.mode, .int .i64 g.size, s0, s1, s2, s3, s4, s5, s6, s7, .int .i64 g.m.live, .int .i64 g.m.garb] T (0, 0)) ∧ Ms w [s0, s1, s2, s3, s4, s5, s6, s7] g.m ∧ (J64 g.num ∧ J64 g.rev ∧ J64 g.mode ∧ J64 g.size)
theorem bxG_below {w w' : World} {p : Nat} {T : TypeId} {g : Ge} (h : BxG w p T g) (hB : Below w.heap.size w w') : BxG w' p T g := by
  obtain ⟨s0, s1, s2, s3, s4, s5, s6, s7, h1, h2, h3⟩ := h
  exact ⟨s0, s1, s2, s3, s4, s5, s6, s7, (hB.block _ (lt_of_some h1)).trans h1, ms_below h2 hB, h3⟩
theorem bxG_lt {w : World} {p : Nat} {T : TypeId} {g : Ge} (h : BxG w p T g) : p < w.heap.size := by
  obtain ⟨s0, s1, s2, s3, s4, s5, s6, s7, h1, -⟩ := h
  exact lt_of_some h1
theorem bxG_set {w : World} {p b : Nat} {T T2 : TypeId} {g u : Ge} {cs : Array Value} (h : BxG w p T g) (hu : BxG w b T2 u) (hne : p ≠ b) : BxG (w.setRow b cs) p T g := by
  obtain ⟨s0, s1, s2, s3, s4, s5, s6, s7, h1, h2, h3⟩ := h
  obtain ⟨t0, t1, t2, t3, t4, t5, t6, t7, k1, k2, k3⟩ := hu
  exact ⟨s0, s1, s2, s3, s4, s5, s6, s7, (setRow_other w b p cs hne).trans h1, ms_setRowF h2 k1 (gc_u64 k2), h3⟩
end Go.Proofs.YtbmlpafbdbhaiaaGreatDoor.Gf
