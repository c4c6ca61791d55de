/- What is proved here: the items of a generation by their keys (table), and a generation made of such a map (filled). -/
import Derived.Test.YtbmlpafbdbhaiaaGreatDoorGm2
import Derived.Test.YtbmlpafbdbhaiaaGreatDoorGm3
import Derived.Test.YtbmlpafbdbhaiaaGreatDoorGt1
namespace Go.Proofs.YtbmlpafbdbhaiaaGreatDoor.Gf
open Go Go.Joins Go.ChangeShapes Go.WideShapes Go.ChangeAt Go.RowKit Go.Deep Go.Proofs.YtbmlpafbdbhaiaaGreatDoor.By Go.Proofs.YtbmlpafbdbhaiaaGreatDoor.Qt
set_option maxRecDepth 100000
set_option maxHeartbeats 204800000
theorem storeT {ops : Array Oper} {rest : List Oper} {x y : Operand} {pos : String} {after : Array Edge} {ty : TypeId} {a : Act} {w : World} {Q : Exit → Act → World → Prop}
 (g : Nat) (old cs : Array Value) (hx : a.eval x = .pointer (some ⟨g, 0, none⟩)) (hy : a.eval y = .agg cs) (hg : w.heap[g]? = some (.cells old 56 (0, 0))) (ho : old.size = 4) (hs : cs.size = 4) (h1 : cs.all (·.oneCell') = true)
 (h : wpList Tryz.prog ops Q rest a (w.setRow g cs)) : wpList Tryz.prog ops Q (⟨none, .store 56 x y, ty, pos, after, none⟩ :: rest) a w :=
 wpList_store_row rfl 56 x y rfl g cs hx hy 56 old hg (by rw [infoI4, hs]) (by omega) h1 h
theorem storePM {ops : Array Oper} {rest : List Oper} {x y : Operand} {pos : String} {after : Array Edge} {ty : TypeId} {a : Act} {w w2 : World} {Q : Exit → Act → World → Prop} {T : TypeId}
 (g : Nat) (old cs : Array Value) (hx : a.eval x = .pointer (some ⟨g, 4, none⟩)) (hy : a.eval y = .agg cs) (hg : w.heap[g]? = some (.cells old T (0, 0))) (ho : old.size = 14) (hs : cs.size = 10) (h1 : cs.all (·.oneCell') = true)
 (hw : w.setCells g 4 cs.toList = w2) (h : wpList Tryz.prog ops Q rest a w2) : wpList Tryz.prog ops Q (⟨none, .store 48 x y, ty, pos, after, none⟩ :: rest) a w :=
 wpList_store_mid rfl 48 x y rfl g 4 cs hx hy (there_row hg (by omega)) (by rw [infoM10, hs]) h1 (by rw [hw]; exact h)
/-- A cell of another block stays while a map is written. -/
theorem cell_mi {P : Program} {k : TypeId} {w w' : World} {b n : Nat} {f : Nat → Option Itm} {p : Addr} {u : Value} (h : w.cell? p = some u) (hm : MI P k w b n f) (hg : w.grownBy w' (some b)) : w'.cell? p = some u := by
 obtain ⟨D, ⟨es, cl, hb, -⟩, -⟩ := hm
 have hn : p.block ≠ b := fun e => by
  unfold World.cell? at h
  rw [e, hb] at h
  cases h
 have h2 := hg.block p.block (block_lt_of_cell h) (by simpa using hn)
 unfold World.cell? at h ⊢
 rw [h2]
 exact h
theorem it_mi {P : Program} {k : TypeId} {w w' : World} {b n : Nat} {f : Nat → Option Itm} {v : Value} {L : List Itm} (h : It w v L) (hm : MI P k w b n f) (hg : w.grownBy w' (some b)) : It w' v L := by
 obtain ⟨h0, a, cap, h1, h2, h3, h4⟩ := h
 refine ⟨h0, a, cap, h1, h2, h3, fun hp => ?_⟩
 obtain ⟨b2, off, e, hc⟩ := h4 hp
 exact ⟨b2, off, e, fun j u hu => cell_mi (hc j u hu) hm hg⟩
theorem heap_mi {P : Program} {k : TypeId} {w w' : World} {b n g : Nat} {f : Nat → Option Itm} {cs : Array Value} {T : TypeId} {fr : Nat × Nat} (h : w.heap[g]? = some (.cells cs T fr)) (hm : MI P k w b n f) (hg : w.grownBy w' (some b)) : w'.heap[g]? = some (.cells cs T fr) := by
 obtain ⟨D, ⟨es, cl, hb, -⟩, -⟩ := hm
 exact (hg.block g (lt_of_some h) (fun e => by cases e; rw [h] at hb; cases hb)).trans h
theorem take_succ_lk {L : List Itm} {i : Nat} (hi : i < L.length) (q : Nat) : lk (L.take (i + 1)) q = if (L.getD i z0).key = q then some (L.getD i z0) else lk (L.take i) q := by
 rw [List.take_add_one, List.getElem?_eq_getElem hi, Option.toList_some, lk_snoc, getD_itm hi]
theorem ptable_x (s0 s1 s2 s3 s4 s5 s6 s7 : Value) (m : Mp) (n : Nat) (w : World) (hms : Ms w [s0, s1, s2, s3, s4, s5, s6, s7] m) (hgd : Gd m n) (hn : n ≤ 1000) : Calls Tryz.prog 62 #[.agg #[s0, s1, s2, s3, s4, s5, s6, s7, .int .i64 m.live, .int .i64 m.garb]] w fun e w' => (∃ b nn, e = .returned (.map (some b)) ∧ w.heap.size ≤ b ∧ MI Tryz.prog 53 w' b nn (gO m) ∧ nn ≤ 1000) ∧ Below w.heap.size w w' := by
 have hb := bel_al w (.cells #[s0, s1, s2, s3, s4, s5, s6, s7, .int .i64 m.live, .int .i64 m.garb] 48)
 have HX := Lh (heap_alloc_new w (.cells #[s0, s1, s2, s3, s4, s5, s6, s7, .int .i64 m.live, .int .i64 m.garb] 48))
 have B0 := Lh hb
 have MS0 := Lh (ms_below hms hb)
 have HF := Lh (hgd.few hn)
 have HFL := Lh (Nat.le_trans hgd.flat hn)
 have HLM := Lh hgd.lenM
 have HIT := Lh hgd.items
 have HLI := Lh (show (iL m).length ≤ 1000 by rw [hgd.lenI]; exact Nat.le_trans hgd.flat hn)
 have HLK := Lh (show ∀ q, lk (iL m) q = gO m q from fun q => lk_iL hgd.ok hgd.len q)
 have HOI := Lh (iL_ok hgd.ok hgd.len)
 clear hb hms hgd hn
 go_enter Tryz.func62, Tryz.ntmps62
 go_upto_region 1 with fail
 generalize w.alloc (.cells #[s0, s1, s2, s3, s4, s5, s6, s7, .int .i64 m.live, .int .i64 m.garb] 48) = W0 at *
 obtain ⟨x0, x1, x2, x3, x4, x5, x6, x7, x8, x9⟩ := bx10 HX.out
 go_wp2_with fail
 clear x0 x1 x2 x3 x4 x5 x6 x7 x8 x9
 refine (plen11_any (.agg #[s0, s1, s2, s3, s4, s5, s6, s7, .int .i64 m.live, .int .i64 m.garb]) m W0 ⟨s0, s1, s2, s3, s4, s5, s6, s7, rfl, MS0.out⟩ HF.out HFL.out).mono ?_
 rintro e W1 ⟨rfl, hb⟩
 have HX1 := Lh ((hb.block _ (lt_of_some HX.out)).trans HX.out)
 have MS1 := Lh (ms_below MS0.out hb)
 have B1 := Lh (B0.out.trans (hb.mono B0.out.size))
 clear hb HX MS0 B0
 have hmm : ∀ (k : Nat) (W : World), (Instr.makeMap 107 (some (.int .i64 (k : Int)))).run Tryz.prog W = .ok (.map (some W.heap.size)) (W.alloc (.map #[] 0)) := fun k W => by
  rfl
 go_upto_region 2 with fail
 clear hmm
 have hb := bel_al W1 (.map #[] 0)
 have HMI := Lh (mi_made (P := Tryz.prog) (k := 53) W1)
 have HX2 := Lh ((hb.block _ (lt_of_some HX1.out)).trans HX1.out)
 have MS2 := Lh (ms_below MS1.out hb)
 have B2 := Lh (B1.out.trans (hb.mono B1.out.size))
 have HBM := Lh (show w.heap.size ≤ W1.heap.size from B1.out.size)
 clear hb HX1 MS1 B1
 generalize W1.alloc (.map #[] 0) = W2 at *
 generalize W1.heap.size = b at *
 obtain ⟨x0, x1, x2, x3, x4, x5, x6, x7, x8, x9⟩ := bx10 HX2.out
 go_wp2_with fail
 clear x0 x1 x2 x3 x4 x5 x6 x7 x8 x9
 refine (pitems11_any (.agg #[s0, s1, s2, s3, s4, s5, s6, s7, .int .i64 m.live, .int .i64 m.garb]) m W2 ⟨s0, s1, s2, s3, s4, s5, s6, s7, rfl, MS2.out⟩ HF.out HFL.out).mono ?_
 rintro e W3 ⟨⟨v, rfl, hit⟩, hb⟩
 rw [HIT.out] at hit
 generalize iL m = L at *
 obtain ⟨a, c, rfl, -⟩ := it_form hit
 obtain ⟨k, hk⟩ : ∃ q, q = L.length := ⟨_, rfl⟩
 have HK := Lh (show k = L.length ∧ k ≤ 1000 from ⟨hk, by have := HLI.out; omega⟩)
 rw [← hk] at hit ⊢
 have HI3 := Lh hit
 have HM3 := Lh (mi_below HMI.out hb)
 have B3 := Lh (B2.out.trans (hb.mono B2.out.size))
 clear hb hit hk HX2 MS2 B2 HMI
 go_wp2_with fail
 go_loopw [12] (fun t wr => ∃ i : Nat, i ≤ k ∧ t = .int .i64 (i : Int) ∧ MI Tryz.prog 53 wr b i (fun q => lk (L.take i) q) ∧ It wr (.slice a k c) L ∧ Below w.heap.size w wr) (fun t _ => k - (intOf t).toNat)
 case atStart => exact ⟨0, Nat.zero_le _, rfl, HM3.out, HI3.out, B3.out⟩
 case round =>
  obtain ⟨i, hi, rfl, hm, hit, hB⟩ := hrel
  rename World => wl
  by_cases hlt : i < k
  case neg =>
   obtain rfl : i = k := by omega
   have d1 : decide ((i : Int) < (i : Int)) = false := decide_eq_false (by omega)
   have HM := Lh (show MI Tryz.prog 53 wl b i (gO m) from by
    have e : (fun q => lk (L.take i) q) = gO m := funext fun q => by rw [HK.out.1, List.take_length]; exact HLK.out q
    rw [← e]
    exact hm)
   have HB := Lh hB
   clear hi hm hit hB hlt HI3 HM3 B3
   go_wp2_with fail
   go_ret
   exact ⟨⟨b, i, rfl, HBM.out, HM.out, HK.out.2⟩, HB.out⟩
  have d1 : decide ((i : Int) < (k : Int)) = true := decide_eq_true (by omega)
  have d2 : decide (i < k) = true := decide_eq_true hlt
  obtain ⟨b8, off, cap, hv, -, -, hC⟩ := it_cells hit (by have := HK.out.1; omega)
  obtain ⟨rfl, -, rfl⟩ : a = some ⟨b8, off, none⟩ ∧ k = L.length ∧ c = cap := by simpa using hv
  have hC := hC i (by have := HK.out.1; omega)
  have HIL := Lh (show i < L.length by have := HK.out.1; omega)
  have HYO := Lh (hit.1 _ (getT_mem HIL.out))
  obtain ⟨y, hy⟩ : ∃ q, q = L.getD i z0 := ⟨_, rfl⟩
  rw [← hy] at hC HYO
  have HY := Lh hy
  have p0 : (0 : Int) ≤ (i : Int) := by omega
  have p1 : (i : Int) < (k : Int) := by omega
  obtain ⟨k0, k1, k2, k3⟩ := hC
  have HM := Lh hm
  have HIT4 := Lh hit
  have HB := Lh hB
  have HLT := Lh hlt
  have hz := heap_alloc_new wl (.cells #[.int .u64 0, .int .u32 0, .int .i64 0, .int .i64 0] 56)
  clear hm hit hB hlt hi hv hy HI3 HM3 B3
  go_upto_region 5 with ((with_reducible refine storeT wl.heap.size _ #[.int .u64 (y.key : Int), .int .u32 (y.ck : Int), .int .i64 y.off, .int .i64 y.sz] ?_ ?_ hz rfl rfl (tx_one y) ?_); exact rfl; exact rfl)
  rw [World.setRow_alloc_new]
  clear k0 k1 k2 k3 p0 p1 d1 d2 hz
  have hb := bel_al wl (.cells #[.int .u64 (y.key : Int), .int .u32 (y.ck : Int), .int .i64 y.off, .int .i64 y.sz] 56)
  have HXX := Lh (heap_alloc_new wl (.cells #[.int .u64 (y.key : Int), .int .u32 (y.ck : Int), .int .i64 y.off, .int .i64 y.sz] 56))
  have HM1 := Lh (mi_below HM.out hb)
  have HI1 := Lh (it_below HIT4.out hb)
  have HB1 := Lh (HB.out.trans (hb.mono HB.out.size))
  clear hb HM HIT4 HB
  generalize wl.alloc (.cells #[.int .u64 (y.key : Int), .int .u32 (y.ck : Int), .int .i64 y.off, .int .i64 y.sz] 56) = W5 at *
  generalize wl.heap.size = gx at *
  obtain ⟨⟨y0, y1, y2, y3⟩, -⟩ := bx4 HXX.out
  have HNX := Lh (show i < maxLen from by unfold maxLen; have := HK.out.2; have := HLT.out; omega)
  go_wp2_with (at_mapUpdate; refine mi_put Tryz.underlying53 Tryz.underlying107 rfl rfl HM1.out HNX.out HYO.out rfl rfl rfl ?_; intro W6 hm6 hg6; have HM6 := Lh hm6; have HI6 := Lh (it_mi HI1.out HM1.out hg6); have HB6 := Lh (HB1.out.grown hg6 HB1.out.size (fun j hj => by cases hj; exact HBM.out)); clear hm6 hg6)
  have hw := w64s8 i (by have := HLT.out; have := HK.out.2; omega)
  go_wp2_with fail
  go_roundw
  case rel => exact ⟨i + 1, HLT.out, by go_num, by
    have e : (fun q => lk (L.take (i + 1)) q) = (fun q => if y.key = q then some y else lk (L.take i) q) := funext fun q => by rw [take_succ_lk HIL.out q, ← HY.out]
    rw [e]
    exact HM6.out, HI6.out, HB6.out⟩
  case measure => exact meas8 k i HLT.out (by have := HK.out.2; omega)
/-- A generation with another size and map. -/
theorem pfilled_x (s0 s1 s2 s3 s4 s5 s6 s7 : Value) (g : Ge) (sz : Int) (b nn : Nat) (m : Mp) (n : Nat) (w : World) (hms : Ms w [s0, s1, s2, s3, s4, s5, s6, s7] g.m) (hj : J64 g.num ∧ J64 g.rev ∧ J64 g.mode ∧ J64 g.size) (hmi : MI Tryz.prog 53 w b nn (gO m)) (hnn : nn ≤ 2000) (hgd : GdS m sz n) (h16 : 16 ≤ sz) : Calls Tryz.prog 64 #[.agg #[.int .i64 g.num, .int .i64 g.rev, .int .i64 g.mode, .int .i64 g.size, s0, s1, s2, s3, s4, s5, s6, s7, .int .i64 g.m.live, .int .i64 g.m.garb], .int .i64 sz, .map (some b)] w fun e w' => (∃ v, e = .returned v ∧ Gv w' v { g with size := sz, m := m }) ∧ Below w.heap.size w w' := by
 have q0 := al2 w (.cells #[.int .i64 g.num, .int .i64 g.rev, .int .i64 g.mode, .int .i64 g.size, s0, s1, s2, s3, s4, s5, s6, s7, .int .i64 g.m.live, .int .i64 g.m.garb] 50) (.cells #[.int .i64 0, .int .i64 0, .int .i64 0, .int .i64 0, .slice none 0 0, .slice none 0 0, .slice none 0 0, .slice none 0 0, .slice none 0 0, .slice none 0 0, .slice none 0 0, .slice none 0 0, .int .i64 0, .int .i64 0] 50)
 have HS := Lh q0.1
 have HZ := Lh q0.2.1
 have B0 := Lh q0.2.2
 have MS0 := Lh (ms_below hms q0.2.2)
 have HU := Lh (gc_u64 (g := g) hms)
 have HMI := Lh (mi_below hmi q0.2.2)
 have HJ := Lh hj
 have HG := Lh hgd
 have H16 := Lh h16
 have HNN := Lh hnn
 clear q0 hms hj hmi hgd h16 hnn
 go_enter Tryz.func64, Tryz.ntmps64
 go_upto_region 1 with fail
 generalize (w.alloc (.cells #[.int .i64 g.num, .int .i64 g.rev, .int .i64 g.mode, .int .i64 g.size, s0, s1, s2, s3, s4, s5, s6, s7, .int .i64 g.m.live, .int .i64 g.m.garb] 50)).alloc (.cells #[.int .i64 0, .int .i64 0, .int .i64 0, .int .i64 0, .slice none 0 0, .slice none 0 0, .slice none 0 0, .slice none 0 0, .slice none 0 0, .slice none 0 0, .slice none 0 0, .slice none 0 0, .int .i64 0, .int .i64 0] 50) = W0 at *
 go_wp2_with fail
 refine (pvalues_x (some b) W0).mono ?_
 rintro e W1 ⟨rfl, hW1⟩
 have hb := bel_al W0 (.cells #[.map (some b)] 107)
 have hbx := heap_alloc_new W0 (.cells #[.map (some b)] 107)
 rw [← hW1] at hb hbx
 have HS1 := Lh ((hb.block _ (lt_of_some HS.out)).trans HS.out)
 have HZ1 := Lh ((hb.block _ (lt_of_some HZ.out)).trans HZ.out)
 have MS1 := Lh (ms_below MS0.out hb)
 have HM1 := Lh (mi_below HMI.out hb)
 have B1 := Lh (B0.out.trans (hb.mono B0.out.size))
 have HBX := Lh (cell_of_row W1 W0.heap.size 0 _ _ _ hbx)
 clear hb hbx hW1 HS HZ MS0 HMI B0
 generalize W0.heap.size = bm at *
 go_wp2_with fail
 refine (pcollect_x bm b nn (gO m) W1 HBX.out HM1.out (by have := HNN.out; omega)).mono ?_
 rintro e W2 ⟨⟨v, xs, rfl, hall, ho⟩, hb⟩
 have HS2 := Lh ((hb.block _ (lt_of_some HS1.out)).trans HS1.out)
 have HZ2 := Lh ((hb.block _ (lt_of_some HZ1.out)).trans HZ1.out)
 have MS2 := Lh (ms_below MS1.out hb)
 have B2 := Lh (B1.out.trans (hb.mono B1.out.size))
 have HIT := Lh (owT_it ho)
 obtain ⟨L, hL⟩ : ∃ L, L = xs.map Subtype.val := ⟨_, rfl⟩
 have hfk : ∀ q x, gO m q = some x → x.key = q ∧ ItOk x := by
  obtain ⟨D, -, h4⟩ := HM1.out
  exact h4.ok
 have HLK := Lh (show ∀ q, lk L q = gO m q from fun q => by rw [hL]; exact all_lk hall hfk q)
 clear hfk
 have HND := Lh (show (L.map (·.key)).Nodup from by rw [hL, List.map_map]; exact hall.1)
 rw [← hL] at HIT
 obtain ⟨HQ1, HQ2, HQ3⟩ := fill_eq HG.out.gd HLK.out HND.out
 have HF1 := Lh HQ1
 have HF2 := Lh HQ2
 have HF3 := Lh HQ3
 have HLN := Lh (show L.length ≤ 1000 from by
  have h1 : (L.map (·.key)).Perm ((iL m).map (·.key)) := by
   refine (List.perm_ext_iff_of_nodup HND.out ?_).2 fun q => ?_
   · have h1 := asc_iL m
     unfold Asc at h1
     unfold List.Nodup
     rw [List.pairwise_map]
     exact h1.imp fun h => Nat.ne_of_lt h
   · have hk : ∀ M : List Itm, q ∈ M.map (·.key) ↔ lk M q ≠ none := fun M => by
      rw [Ne, lk_none]
      constructor
      · intro h1 h2
        obtain ⟨x, hx, rfl⟩ := List.mem_map.1 h1
        exact h2 x hx rfl
      · intro h1
        cases c : lk M q with
        | none => exact absurd (lk_none.1 c) h1
        | some y => exact List.mem_map.2 ⟨y, (lk_some c).1, (lk_some c).2⟩
     rw [hk, hk, HLK.out, lk_iL HG.out.gd.ok HG.out.gd.len]
     rfl
  have h2 := h1.length_eq
  rw [List.length_map, List.length_map, HG.out.gd.lenI] at h2
  have := HG.out.gd.flat
  have := HG.out.few
  omega)
 obtain ⟨a9, c9, rfl, -⟩ := owT_form ho
 clear hb ho hL hall HS1 HZ1 MS1 HM1 B1 HBX HQ1 HQ2 HQ3 HLK HND
 generalize (List.map Subtype.val xs).length = n9 at *
 go_wp2_with fail
 refine (pfrom_any (.slice a9 n9 c9) L 0 W2 HIT.out HLN.out (by unfold J64; decide)).mono ?_
 rintro e W3 ⟨⟨v, rfl, hmv⟩, hb⟩
 obtain ⟨M, hM⟩ : ∃ M, M = fromL L 0 := ⟨_, rfl⟩
 rw [← hM] at hmv HF1 HF2 HF3
 obtain ⟨t0, t1, t2, t3, t4, t5, t6, t7, rfl, hmt⟩ := hmv
 have HS3 := Lh ((hb.block _ (lt_of_some HS2.out)).trans HS2.out)
 have HZ3 := Lh ((hb.block _ (lt_of_some HZ2.out)).trans HZ2.out)
 have MS3 := Lh (ms_below MS2.out hb)
 have MT3 := Lh hmt
 have B3 := Lh (B2.out.trans (hb.mono B2.out.size))
 have ONM := Lh (ms_one hmt M.live M.garb)
 have hz := heap_alloc_new W3 (.cells #[.slice none 0 0, .slice none 0 0, .slice none 0 0, .slice none 0 0, .slice none 0 0, .slice none 0 0, .slice none 0 0, .slice none 0 0, .int .i64 0, .int .i64 0] 48)
 clear hb hmt hM HS2 HZ2 MS2 B2 HIT HLN
 go_upto_region 2 with ((with_reducible refine storeM W3.heap.size _ #[t0, t1, t2, t3, t4, t5, t6, t7, .int .i64 M.live, .int .i64 M.garb] ?_ ?_ hz rfl rfl ONM.out ?_); exact rfl; exact rfl)
 rw [World.setRow_alloc_new]
 have hb := bel_al W3 (.cells #[t0, t1, t2, t3, t4, t5, t6, t7, .int .i64 M.live, .int .i64 M.garb] 48)
 have HX4 := Lh (heap_alloc_new W3 (.cells #[t0, t1, t2, t3, t4, t5, t6, t7, .int .i64 M.live, .int .i64 M.garb] 48))
 have HS4 := Lh ((hb.block _ (lt_of_some HS3.out)).trans HS3.out)
 have HZ4 := Lh ((hb.block _ (lt_of_some HZ3.out)).trans HZ3.out)
 have MT4 := Lh (ms_below MT3.out hb)
 have B4 := Lh (B3.out.trans (hb.mono B3.out.size))
 clear hb hz HS3 HZ3 MS3 MT3 B3 ONM
 generalize W3.alloc (.cells #[t0, t1, t2, t3, t4, t5, t6, t7, .int .i64 M.live, .int .i64 M.garb] 48) = W4 at *
 generalize W3.heap.size = gm at *
 obtain ⟨E, hE⟩ : ∃ E : Int, E = m.garb := ⟨_, rfl⟩
 have HL0 := Lh (show 0 ≤ M.live ∧ M.live ≤ 33600000 from few_live (HF3.out.few HG.out.few) HF3.out.ok HF3.out.len)
 have HSE := Lh (show wrap64 (sz - 16) = sz - 16 ∧ wrap64 (sz - 16 - M.live) = E from by
  have h1 := HG.out.sum
  have h2 := HG.out.top
  have h3 := H16.out
  have h4 := HF1.out
  have h5 := HL0.out
  have h6 := HG.out.garb
  have h7 := HG.out.gd.ok.lo
  refine ⟨by unfold wrap64; omega, ?_⟩
  rw [hE, show sz - 16 - M.live = m.garb by omega]
  unfold wrap64
  omega)
 have HEG := Lh hE
 have HJE := Lh (show J64 E from by rw [hE]; have := HG.out.garb; have := HG.out.gd.ok.lo; unfold J64; omega)
 clear hE
 obtain ⟨x0, x1, x2, x3, x4, x5, x6, x7, x8, x9⟩ := bx10 HX4.out
 have e1 := HSE.out.1
 have e2 := HSE.out.2
 go_wp2_with fail
 clear x0 x1 x2 x3 x4 x5 x6 x7 x8 x9 e1 e2
 refine (pwaste_any (.agg #[t0, t1, t2, t3, t4, t5, t6, t7, .int .i64 M.live, .int .i64 M.garb]) M E W4 ⟨t0, t1, t2, t3, t4, t5, t6, t7, rfl, MT4.out⟩ (HF3.out.few HG.out.few) HJE.out).mono ?_
 rintro e W5 ⟨⟨v, rfl, hmv⟩, hb⟩
 rw [HEG.out, HF2.out] at hmv
 obtain ⟨r0, r1, r2, r3, r4, r5, r6, r7, rfl, hmr⟩ := hmv
 have HS5 := Lh ((hb.block _ (lt_of_some HS4.out)).trans HS4.out)
 have HZ5 := Lh ((hb.block _ (lt_of_some HZ4.out)).trans HZ4.out)
 have MR5 := Lh hmr
 have B5 := Lh (B4.out.trans (hb.mono B4.out.size))
 have ONR := Lh (ms_one hmr m.live m.garb)
 have ONG := Lh (gc_one (g := { g with size := sz, m := m }) hmr)
 clear hb hmr HS4 HZ4 MT4 B4 HX4 HSE
 have HS6 := Lh (show (W5.setCell ⟨w.heap.size, 3, none⟩ (.int .i64 sz)).heap[w.heap.size]? = some (.cells #[.int .i64 g.num, .int .i64 g.rev, .int .i64 g.mode, .int .i64 sz, s0, s1, s2, s3, s4, s5, s6, s7, .int .i64 g.m.live, .int .i64 g.m.garb] 50 (0, 0)) from by
  rw [setCell_eq_setRow _ _ _ _ _ _ _ HS5.out]
  exact setRow_heap _ _ _ _ _ _ HS5.out)
 have hw9 : (W5.setCell ⟨w.heap.size, 3, none⟩ (.int .i64 sz)).setCells w.heap.size 4 (#[r0, r1, r2, r3, r4, r5, r6, r7, .int .i64 m.live, .int .i64 m.garb] : Array Value).toList = (W5.setCell ⟨w.heap.size, 3, none⟩ (.int .i64 sz)).setRow w.heap.size #[.int .i64 g.num, .int .i64 g.rev, .int .i64 g.mode, .int .i64 sz, r0, r1, r2, r3, r4, r5, r6, r7, .int .i64 m.live, .int .i64 m.garb] := setMap HS6.out
 have hw10 : (W5.setCell ⟨w.heap.size, 3, none⟩ (.int .i64 sz)).setRow w.heap.size #[.int .i64 g.num, .int .i64 g.rev, .int .i64 g.mode, .int .i64 sz, r0, r1, r2, r3, r4, r5, r6, r7, .int .i64 m.live, .int .i64 m.garb] = W5.setRow w.heap.size #[.int .i64 g.num, .int .i64 g.rev, .int .i64 g.mode, .int .i64 sz, r0, r1, r2, r3, r4, r5, r6, r7, .int .i64 m.live, .int .i64 m.garb] := by
  rw [setCell_eq_setRow _ _ _ _ _ _ _ HS5.out]
  exact setRow_setRow _ _ _ _
 rw [hw10] at hw9
 obtain ⟨x0, x1, x2, x3, x4, x5, x6, x7, x8, x9, x10, x11, x12, x13⟩ := bx14 HS5.out
 have f3 := frozen_of_row W5 w.heap.size 3 _ _ HS5.out
 go_upto_region 3 with ((with_reducible refine storePM w.heap.size _ #[r0, r1, r2, r3, r4, r5, r6, r7, .int .i64 m.live, .int .i64 m.garb] ?_ ?_ HS6.out rfl rfl ONR.out hw9 ?_); exact rfl; exact rfl)
 clear x0 x1 x2 x3 x4 x5 x6 x7 x8 x9 x10 x11 x12 x13 f3
 have HS7 := Lh (setRow_heap W5 w.heap.size _ #[.int .i64 g.num, .int .i64 g.rev, .int .i64 g.mode, .int .i64 sz, r0, r1, r2, r3, r4, r5, r6, r7, .int .i64 m.live, .int .i64 m.garb] _ _ HS5.out)
 have HZ7 := Lh ((setRow_other W5 w.heap.size (w.heap.size + 1) #[.int .i64 g.num, .int .i64 g.rev, .int .i64 g.mode, .int .i64 sz, r0, r1, r2, r3, r4, r5, r6, r7, .int .i64 m.live, .int .i64 m.garb] (by omega)).trans HZ5.out)
 have MR7 := Lh (ms_setRowF (cs := #[.int .i64 g.num, .int .i64 g.rev, .int .i64 g.mode, .int .i64 sz, r0, r1, r2, r3, r4, r5, r6, r7, .int .i64 m.live, .int .i64 m.garb]) MR5.out HS5.out HU.out)
 have B7 := Lh (below_setRowM B5.out (Nat.le_refl _) #[.int .i64 g.num, .int .i64 g.rev, .int .i64 g.mode, .int .i64 sz, r0, r1, r2, r3, r4, r5, r6, r7, .int .i64 m.live, .int .i64 m.garb])
 clear HS5 HZ5 MR5 B5 HS6 hw9 hw10
 generalize W5.setRow w.heap.size #[.int .i64 g.num, .int .i64 g.rev, .int .i64 g.mode, .int .i64 sz, r0, r1, r2, r3, r4, r5, r6, r7, .int .i64 m.live, .int .i64 m.garb] = W7 at *
 obtain ⟨x0, x1, x2, x3, x4, x5, x6, x7, x8, x9, x10, x11, x12, x13⟩ := bx14 HS7.out
 go_wp2_with ((with_reducible refine storeG (w.heap.size + 1) _ #[.int .i64 g.num, .int .i64 g.rev, .int .i64 g.mode, .int .i64 sz, r0, r1, r2, r3, r4, r5, r6, r7, .int .i64 m.live, .int .i64 m.garb] ?_ ?_ HZ7.out rfl rfl ONG.out ?_); exact rfl; exact rfl)
 refine bodyPost_ret (results_cell_row rfl _ _ (w.heap.size + 1) 50 #[.int .i64 g.num, .int .i64 g.rev, .int .i64 g.mode, .int .i64 sz, r0, r1, r2, r3, r4, r5, r6, r7, .int .i64 m.live, .int .i64 m.garb] (0, 0) _ rfl (setRow_heap _ _ _ _ _ _ HZ7.out) Tryz.underlying50 rfl infoG14) rfl ?_
 exact ⟨⟨_, rfl, r0, r1, r2, r3, r4, r5, r6, r7, rfl, ms_setRowF MR7.out HZ7.out zeroG_u64, HJ.out.1, HJ.out.2.1, HJ.out.2.2.1, by have := HG.out.top; have := H16.out; unfold J64; simp only; omega⟩, below_setRowM B7.out (Nat.le_succ _) _⟩
end Go.Proofs.YtbmlpafbdbhaiaaGreatDoor.Gf
