/- What is proved here: Items of both sides, in any slot of few items. -/
import Derived.Test.YtgbnclepgjcakaaGreatGs32
namespace Go.Proofs.YtgbnclepgjcakaaGreat.Gf
open Go Go.Joins Go.ChangeShapes Go.WideShapes Go.ChangeAt Go.RowKit Go.Deep Go.Proofs.YtgbnclepgjcakaaGreat.By Go.Proofs.YtgbnclepgjcakaaGreat.Qt
set_option maxRecDepth 100000
set_option maxHeartbeats 204800000

/-- The items of the first i generations, one behind the other. -/
noncomputable def allI (L : List Ge) (i : Nat) : List Itm := ((L.take i).map fun g => itemsL g.m).flatten
theorem allI_step {L : List Ge} {i : Nat} (hi : i < L.length) : allI L (i + 1) = allI L i ++ itemsL (L.getD i g0).m := by
 unfold allI
 rw [List.take_add_one, List.getElem?_eq_getElem hi, List.map_append, List.flatten_append, List.getD_eq_getElem?_getD, List.getElem?_eq_getElem hi]
 simp
theorem items_len (m : Mp) : (itemsL m).length ≤ m.st.flatten.length := by
 unfold itemsL
 split
 ·exact length_sortL _
 ·exact Nat.zero_le _
theorem allI_len {L : List Ge} (h : ∀ g ∈ L, g.m.st.flatten.length ≤ 64) : ∀ i, (allI L i).length ≤ 64 * i
 | 0 => by simp [allI]
 | i + 1 => by
  have ih := allI_len h i
  by_cases hi : i < L.length
  ·rw [allI_step hi, List.length_append]
   have h1 := items_len (L.getD i g0).m
   have h2 := h (L.getD i g0) (by
    rw [List.getD_eq_getElem?_getD, List.getElem?_eq_getElem hi]
    exact List.getElem_mem _)
   omega
  ·have e : allI L (i + 1) = allI L i := by
    unfold allI
    rw [List.take_of_length_le (by omega), List.take_of_length_le (by omega)]
   rw [e]
   omega
theorem allI_ok {L : List Ge} {n : Nat} (h : ∀ i, i < L.length → ordAt L i) (hl : ∀ i, i < L.length → (L.getD i g0).m.st.length = 8) : ∀ x ∈ allI L n, okI x := fun x hx => by
 unfold allI at hx
 obtain ⟨l, hl1, hx1⟩ := List.mem_flatten.1 hx
 obtain ⟨g, hg, rfl⟩ := List.mem_map.1 hl1
 obtain ⟨j, hj, hjg⟩ := List.getElem_of_mem (List.mem_of_mem_take hg)
 have e : L.getD j g0 = g := by rw [List.getD_eq_getElem?_getD, List.getElem?_eq_getElem hj, hjg]; rfl
 have ho := (h j hj).ok.ok
 have h8 := hl j hj
 rw [e] at ho h8
 unfold itemsL at hx1
 rw [if_pos ho] at hx1
 exact iL_ok ho h8 x hx1
theorem items_from {l : List Itm} (h : ∀ x ∈ l, okI x) : itemsL (fromL l 0) = sortL l := by
 have hg : (0 : Int) ≤ G40 := by decide
 have ok := fromL_ok h (Int.le_refl 0) hg
 unfold fromL
 rw [if_pos ⟨h, Int.le_refl 0, hg⟩]
 unfold itemsL
 rw [if_pos ok]
 refine asc_ext (asc_iL _) (asc_sortL _) fun k => ?_
 rw [lk_iL ok (split_len _)]
 show lk ((splitM (sortL l)).getD (sp k) []) k = _
 rw [split_get _ (sp_lt k)]
 rw [lk_fS, if_pos rfl]
open Classical in
/-- What Items answers. -/
noncomputable def itS (s : Slt) : List Itm := if okSb s = true then sortL (allI s.gens s.gens.length) else []
def ItO (s : Slt) (w : World) (e : Ending) (w' : World) : Prop := (∃ v, e = .returned v ∧ It w' v (itS s)) ∧ Below w.heap.size w w'
theorem itO_bad {s : Slt} {w w' : World} {v : Value} (h : ¬ okS s) (hi : It w' v []) (hb : Below w.heap.size w w') : ItO s w (.returned v) w' := by
 refine ⟨⟨v, rfl, ?_⟩, hb⟩
 unfold itS
 rw [okSb_f h]
 exact hi
theorem itO_ok {s : Slt} {w w' : World} {v : Value} (h : okS s) (hi : It w' v (sortL (allI s.gens s.gens.length))) (hb : Below w.heap.size w w') : ItO s w (.returned v) w' := by
 refine ⟨⟨v, rfl, ?_⟩, hb⟩
 unfold itS
 rw [okSb_t h, if_pos rfl]
 exact hi
theorem psitems_x (id lim : Int) (ro : Bool) (a : Option Addr) (n c : Nat) (L : List Ge) (w : World) (hn : n = L.length) (hl : Gl w (.slice a n c) L) (hlen : n ≤ 10000) (hf : ∀ g ∈ L, LGe g) (h64 : ∀ g ∈ L, g.m.st.flatten.length ≤ 64) : Calls Tryz.prog 29 #[.agg #[.int .i64 id, .int .i64 lim, .bool ro, .slice a n c]] w (ItO ⟨id, lim, ro, L⟩ w) := by
 have q0 := bel_al w (.cells #[.int .i64 id, .int .i64 lim, .bool ro, .slice a n c] 33)
 have HS := Lh (heap_alloc_new w (.cells #[.int .i64 id, .int .i64 lim, .bool ro, .slice a n c] 33))
 have B0 := Lh q0
 have GLw := Lh hl
 have HN := Lh hn
 have HLN := Lh hlen
 have HLF := Lh (show ∀ j, j < n → Few (L.getD j g0).m ∧ (L.getD j g0).m.st.flatten.length ≤ 64 from fun j hj => by
  have hm : L.getD j g0 ∈ L := by
   rw [List.getD_eq_getElem?_getD, List.getElem?_eq_getElem (show j < L.length by omega)]
   exact List.getElem_mem _
  exact ⟨(hf _ hm).1, h64 _ hm⟩)
 have HAL := Lh (fun i => allI_len h64 i)
 have PV := Lh (fun W (h : Gl W (.slice a n c) L) => psvalid_x id lim ro a n c L W hn h hlen hf)
 clear q0 hl hn hlen hf h64
 go_enter Tryz.func29, Tryz.ntmps29
 go_upto_region 1 with fail
 generalize w.alloc (.cells #[.int .i64 id, .int .i64 lim, .bool ro, .slice a n c] 33) = W0 at *
 obtain ⟨⟨y0, y1, y2, y3⟩, -⟩ := bx4 HS.out
 go_wp2_with fail
 clear y0 y1 y2 y3
 refine (PV.out W0 (gl_below GLw.out B0.out)).mono ?_
 rintro e W1 ⟨rfl, hb⟩
 have HS1 := Lh ((hb.block _ (lt_of_some HS.out)).trans HS.out)
 have B1 := Lh (B0.out.trans (hb.mono B0.out.size))
 clear hb HS B0 PV
 rcases Classical.em (okS ⟨id, lim, ro, L⟩) with h1 | h1
 case inr =>
  rw [okSb_f h1]
  have HK := Lh h1
  clear h1
  go_wp2_with fail
  go_ret
  exact itO_bad HK.out (it_nil _) B1.out
 rw [okSb_t h1]
 have HK := Lh h1
 have HN8 := Lh (show n ≤ 8 by have := h1.n8; have := HN.out; simp only at *; omega)
 clear h1
 obtain ⟨⟨y0, y1, y2, y3⟩, -⟩ := bx4 HS1.out
 go_wp2_with fail
 clear y0 y1 y2 y3
 go_loopw [3, 12] (fun u3 u12 wr => ∃ i : Nat, i ≤ n ∧ u12 = .int .i64 (i : Int) ∧ OwT wr w.heap.size u3 (allI L i) ∧ Below w.heap.size w wr) (fun _ t _ => n - (intOf t).toNat)
 case atStart => exact ⟨0, Nat.zero_le _, rfl, owT_nil _ _, B1.out⟩
 case round =>
  obtain ⟨i, hi, rfl, hov, hB⟩ := hrel
  rename World => wl
  have OV := Lh hov
  have BW := Lh hB
  clear hov hB
  by_cases hlt : i < n
  case neg =>
   obtain rfl : n = i := by omega
   have d1 : decide ((n : Int) < (n : Int)) = false := decide_eq_false (by omega)
   have HLA := Lh (show (allI L n).length ≤ 1000 by have := HAL.out n; have := HN8.out; omega)
   have HOKA := Lh (allI_ok (L := L) (n := n) (fun j hj => HK.out.od j hj) (fun j hj => by
    obtain ⟨_, _, _, _, _, _, _, _, _, _, _, ga⟩ := gl_at GLw.out (show j < n by rw [HN.out]; exact hj)
    exact ga.ms.1))
   have HIT := Lh (owT_it OV.out)
   obtain ⟨a9, c9, hv9, -, -⟩ := owT_form OV.out
   subst hv9
   clear hi hlt
   go_wp2_with fail
   refine (pfrom_any _ (allI L n) 0 wl HIT.out HLA.out (by unfold J64; decide)).mono ?_
   rintro e W2 ⟨⟨vm, rfl, hmv⟩, hb⟩
   have B2 := Lh (BW.out.trans (hb.mono BW.out.size))
   have GD := gd_from (g := 0) HOKA.out (Int.le_refl 0) (by decide)
   have HFW := Lh (GD.1.few HLA.out)
   have HFL := Lh GD.1.flat
   clear hb GD
   go_wp2_with fail
   refine (pitems11_any vm (fromL (allI L n) 0) W2 hmv HFW.out (Nat.le_trans HFL.out HLA.out)).mono ?_
   rintro e W3 ⟨⟨vi, rfl, hit⟩, hb⟩
   have B3 := Lh (B2.out.trans (hb.mono B2.out.size))
   rw [items_from HOKA.out] at hit
   clear hb
   have HI3 := Lh hit
   clear hit
   go_wp2_with fail
   go_ret
   exact itO_ok HK.out (by show It W3 vi (sortL (allI L L.length)); rw [← HN.out]; exact HI3.out) B3.out
  have d1 : decide ((i : Int) < (n : Int)) = true := decide_eq_true (by omega)
  have d2 : decide (i < n) = true := decide_eq_true hlt
  have HI := Lh hlt
  obtain ⟨b, off, rfl, s0, s1, s2, s3, s4, s5, s6, s7, ga⟩ := gl_at (gl_below GLw.out BW.out) hlt
  have HFW := Lh (HLF.out i hlt)
  have HTK := Lh (allI_step (L := L) (i := i) (by have := HN.out; omega))
  generalize hju : L.getD i g0 = u at *
  have ON := Lh ga.one
  have MSu := Lh ga.ms
  have p0 : (0 : Int) ≤ (i : Int) := by omega
  have p1 : (i : Int) < (n : Int) := by omega
  obtain ⟨x0, x1, x2, x3, x4, x5, x6, x7, x8, x9, x10, x11, x12, x13⟩ := ga.cells
  have hz := heap_alloc_new wl (.cells #[.int .i64 0, .int .i64 0, .int .i64 0, .int .i64 0, .slice none 0 0, .slice none 0 0, .slice none 0 0, .slice none 0 0, .slice none 0 0, .slice none 0 0, .slice none 0 0, .slice none 0 0, .int .i64 0, .int .i64 0] 40)
  clear ga hlt hi hju
  go_upto_region 7 with ((with_reducible refine storeG wl.heap.size _ #[.int .i64 u.num, .int .i64 u.rev, .int .i64 u.mode, .int .i64 u.size, s0, s1, s2, s3, s4, s5, s6, s7, .int .i64 u.m.live, .int .i64 u.m.garb] ?_ ?_ hz rfl rfl ON.out ?_); exact rfl; exact rfl)
  rw [World.setRow_alloc_new]
  clear x0 x1 x2 x3 x4 x5 x6 x7 x8 x9 x10 x11 x12 x13
  clear p0 p1 d1 d2
  have hb := bel_al wl (.cells #[.int .i64 u.num, .int .i64 u.rev, .int .i64 u.mode, .int .i64 u.size, s0, s1, s2, s3, s4, s5, s6, s7, .int .i64 u.m.live, .int .i64 u.m.garb] 40)
  have HX := Lh (heap_alloc_new wl (.cells #[.int .i64 u.num, .int .i64 u.rev, .int .i64 u.mode, .int .i64 u.size, s0, s1, s2, s3, s4, s5, s6, s7, .int .i64 u.m.live, .int .i64 u.m.garb] 40))
  have OV1 := Lh (owT_below OV.out hb)
  have BW1 := Lh (BW.out.trans (hb.mono BW.out.size))
  have MS1 := Lh (ms_below MSu.out hb)
  clear hb hz OV BW MSu
  generalize wl.alloc (.cells #[.int .i64 u.num, .int .i64 u.rev, .int .i64 u.mode, .int .i64 u.size, s0, s1, s2, s3, s4, s5, s6, s7, .int .i64 u.m.live, .int .i64 u.m.garb] 40) = wx at *
  generalize wl.heap.size = gx at *
  obtain ⟨x0, x1, x2, x3, x4, x5, x6, x7, x8, x9, x10, x11, x12, x13⟩ := bx14 HX.out
  have hw := w64s8 i (by have := HLN.out; have := HI.out; omega)
  go_wp2_with fail
  clear x0 x1 x2 x3 x4 x5 x6 x7 x8 x9 x10 x11 x12 x13
  refine (pitems11_any (.agg #[s0, s1, s2, s3, s4, s5, s6, s7, .int .i64 u.m.live, .int .i64 u.m.garb]) u.m wx ⟨s0, s1, s2, s3, s4, s5, s6, s7, rfl, MS1.out⟩ HFW.out.1 (by have := HFW.out.2; omega)).mono ?_
  rintro e W3 ⟨⟨vi, rfl, hit⟩, hb⟩
  have HIT := Lh hit
  have OV2 := Lh (owT_below OV1.out hb)
  have BW2 := Lh (BW1.out.trans (hb.mono BW1.out.size))
  have SZ2 := Lh BW2.out.size
  clear hb hit OV1 BW1 MS1 HX
  have HLE := Lh (show (allI L i).length + (itemsL u.m).length ≤ 100000000 by
   have h1 := HAL.out i
   have h2 := items_len u.m
   have := HFW.out.2; have := HLN.out; have := HI.out; omega)
  go_wp2_with (at_builtin; refine app_it (dst := some 20) ?_ ?_ OV2.out HIT.out HLE.out SZ2.out ?_; exact rfl; exact rfl; intro v9 X9 ho hg; rw [← HTK.out] at ho; have OV9 := Lh ho; have BW9 := Lh (BW2.out.grown hg BW2.out.size (fun k hk => by have := (owT_lt OV2.out k hk).1; omega)); have SZ9 := Lh (Nat.le_trans SZ2.out hg.size); clear ho hg OV2 BW2)
  go_roundw
  case rel => exact ⟨i + 1, HI.out, by go_num, OV9.out, BW9.out⟩
  case measure => exact meas8 n i HI.out (by have := HLN.out; omega)
theorem rsitems_x (id lim : Int) (ro : Bool) (a : Option Addr) (n c : Nat) (L : List Ge) (w : World) (hn : n = L.length) (hl : Gl w (.slice a n c) L) (hlen : n ≤ 10000) (hf : ∀ g ∈ L, LGe g) (h64 : ∀ g ∈ L, g.m.st.flatten.length ≤ 64) : Calls Tryz.prog 30 #[.agg #[.int .i64 id, .int .i64 lim, .bool ro, .slice a n c]] w (ItO ⟨id, lim, ro, L⟩ w) := by
 have q0 := bel_al w (.cells #[.int .i64 id, .int .i64 lim, .bool ro, .slice a n c] 24)
 have HS := Lh (heap_alloc_new w (.cells #[.int .i64 id, .int .i64 lim, .bool ro, .slice a n c] 24))
 have B0 := Lh q0
 have GLw := Lh hl
 have HN := Lh hn
 have HLN := Lh hlen
 have HLF := Lh (show ∀ j, j < n → Few (L.getD j g0).m ∧ (L.getD j g0).m.st.flatten.length ≤ 64 from fun j hj => by
  have hm : L.getD j g0 ∈ L := by
   rw [List.getD_eq_getElem?_getD, List.getElem?_eq_getElem (show j < L.length by omega)]
   exact List.getElem_mem _
  exact ⟨(hf _ hm).1, h64 _ hm⟩)
 have HAL := Lh (fun i => allI_len h64 i)
 have PV := Lh (fun W (h : Gl W (.slice a n c) L) => rsvalid_x id lim ro a n c L W hn h hlen hf)
 clear q0 hl hn hlen hf h64
 go_enter Tryz.func30, Tryz.ntmps30
 go_upto_region 1 with fail
 generalize w.alloc (.cells #[.int .i64 id, .int .i64 lim, .bool ro, .slice a n c] 24) = W0 at *
 go_wp2_with fail
 go_loopw [3, 4] (fun u3 u4 wr => ∃ i : Nat, i ≤ n ∧ u4 = .int .i64 (i : Int) ∧ OwT wr (w.heap.size + 1) u3 (allI L i) ∧ (0 < i → okS ⟨id, lim, ro, L⟩) ∧ Below w.heap.size w wr ∧ wr.heap[w.heap.size]? = some (.cells #[.int .i64 id, .int .i64 lim, .bool ro, .slice a n c] 24 (0, 0))) (fun _ t _ => n - (intOf t).toNat)
 case atStart => exact ⟨0, Nat.zero_le _, rfl, owT_nil _ _, fun h => absurd h (Nat.lt_irrefl 0), B0.out, HS.out⟩
 case round =>
  obtain ⟨i, hi, rfl, hov, hok, hB, hs⟩ := hrel
  rename World => wl
  have OV := Lh hov
  have BW := Lh hB
  have HSl := Lh hs
  have HOK := Lh hok
  have SZ := Lh (show w.heap.size + 1 ≤ wl.heap.size from lt_of_some hs)
  clear hov hB hs hok HS B0
  have hw := w64s8 i (by have := HLN.out; omega)
  obtain ⟨⟨y0, y1, y2, y3⟩, -⟩ := bx4 HSl.out
  by_cases hlt : i < n
  case neg =>
   obtain rfl : n = i := by omega
   have d1 : decide ((n : Int) < (n : Int)) = false := decide_eq_false (by omega)
   have HIT := Lh (owT_it OV.out)
   have HLA := Lh (show (allI L n).length ≤ 1000000 by have := HAL.out n; have := HLN.out; omega)
   have HEX := Lh (show okS ⟨id, lim, ro, L⟩ ∨ n = 0 from by
    rcases Nat.eq_zero_or_pos n with h | h
    ·exact Or.inr h
    ·exact Or.inl (HOK.out h))
   clear hi hlt
   go_wp2_with fail
   refine (rsorted_any _ (allI L n) wl HIT.out HLA.out).mono ?_
   rintro e W2 ⟨⟨v2, rfl, ho⟩, hb⟩
   have B2 := Lh (BW.out.trans (hb.mono BW.out.size))
   have HI2 := Lh (owT_it ho)
   clear hb ho
   go_wp2_with fail
   go_ret
   rcases HEX.out with h | h
   ·exact itO_ok h (by show It W2 v2 (sortL (allI L L.length)); rw [← HN.out]; exact HI2.out) B2.out
   ·have h2 : ¬ okS ⟨id, lim, ro, L⟩ := fun q => by have := q.n1; have := HN.out; simp only at *; omega
    have h3 := HI2.out
    rw [h] at h3
    exact itO_bad h2 h3 B2.out
  have d1 : decide ((i : Int) < (n : Int)) = true := decide_eq_true (by omega)
  have d2 : decide (i < n) = true := decide_eq_true hlt
  have HI := Lh hlt
  clear hi hlt
  go_wp2_with fail
  clear y0 y1 y2 y3
  clear d1 d2
  refine (PV.out wl (gl_below GLw.out BW.out)).mono ?_
  rintro e W2 ⟨rfl, hb⟩
  have OV2 := Lh (owT_below OV.out hb)
  have BW2 := Lh (BW.out.trans (hb.mono BW.out.size))
  have SZ2 := Lh (Nat.le_trans SZ.out hb.size)
  have HS2 := Lh ((hb.block _ (lt_of_some HSl.out)).trans HSl.out)
  clear hb OV BW SZ HSl
  rcases Classical.em (okS ⟨id, lim, ro, L⟩) with h1 | h1
  case inr =>
   rw [okSb_f h1]
   have HK := Lh h1
   have HI0 := Lh (show i = 0 from by
    rcases Nat.eq_zero_or_pos i with h | h
    ·exact h
    ·exact absurd (HOK.out h) h1)
   clear h1
   have HIT := Lh (show It W2 _ [] from by have ho := owT_it OV2.out; rw [HI0.out] at ho; exact ho)
   go_wp2_with fail
   refine (rsorted_any _ [] W2 HIT.out (by decide)).mono ?_
   rintro e W3 ⟨⟨v3, rfl, ho⟩, hb⟩
   have B3 := Lh (BW2.out.trans (hb.mono BW2.out.size))
   have HI3 := Lh (owT_it ho)
   clear hb ho
   go_wp2_with fail
   go_ret
   exact itO_bad HK.out HI3.out B3.out
  rw [okSb_t h1]
  have HK := Lh h1
  clear h1
  obtain ⟨b, off, rfl, s0, s1, s2, s3, s4, s5, s6, s7, ga⟩ := gl_at (gl_below GLw.out BW2.out) HI.out
  have HFW := Lh (HLF.out i HI.out)
  have HTK := Lh (allI_step (L := L) (i := i) (by have := HN.out; have := HI.out; omega))
  generalize hju : L.getD i g0 = u at *
  have MS2 := Lh ga.ms
  have p0 : (0 : Int) ≤ (i : Int) := by omega
  have p1 : (i : Int) < (n : Int) := by have := HI.out; omega
  obtain ⟨x0, x1, x2, x3, x4, x5, x6, x7, x8, x9, x10, x11, x12, x13⟩ := ga.cells
  obtain ⟨⟨y0, y1, y2, y3⟩, -⟩ := bx4 HS2.out
  clear hju ga
  go_wp2_with fail
  clear x0 x1 x2 x3 x4 x5 x6 x7 x8 x9 x10 x11 x12 x13
  clear y0 y1 y2 y3
  clear p0 p1
  refine (ritems11_any (.agg #[s0, s1, s2, s3, s4, s5, s6, s7, .int .i64 u.m.live, .int .i64 u.m.garb]) u.m W2 ⟨s0, s1, s2, s3, s4, s5, s6, s7, rfl, MS2.out⟩ HFW.out.1).mono ?_
  rintro e W3 ⟨⟨vi, rfl, hit⟩, hb⟩
  have HIT := Lh hit
  have OV3 := Lh (owT_below OV2.out hb)
  have BW3 := Lh (BW2.out.trans (hb.mono BW2.out.size))
  have SZ3 := Lh (Nat.le_trans SZ2.out hb.size)
  have HS3 := Lh ((hb.block _ (lt_of_some HS2.out)).trans HS2.out)
  clear hb hit OV2 BW2 SZ2 HS2 MS2
  have HLE := Lh (show (allI L i).length + (itemsL u.m).length ≤ 100000000 by
   have h1 := HAL.out i
   have h2 := items_len u.m
   have := HFW.out.2; have := HLN.out; have := HI.out; omega)
  go_wp2_with (at_builtin; refine app_it (dst := some 24) ?_ ?_ OV3.out HIT.out HLE.out SZ3.out ?_; exact rfl; exact rfl; intro v9 X9 ho hg; rw [← HTK.out] at ho; have OV9 := Lh ho; have BW9 := Lh (BW3.out.grown hg BW3.out.size (fun k hk => by have := (owT_lt OV3.out k hk).1; omega)); have SZ9 := Lh (Nat.le_trans SZ3.out hg.size); have HS9 := Lh ((hg.block _ (lt_of_some HS3.out) (fun e => by have := (owT_lt OV3.out _ e.symm).1; omega)).trans HS3.out); clear ho hg OV3 BW3)
  go_roundw
  case rel => exact ⟨i + 1, HI.out, by go_num, OV9.out, fun _ => HK.out, BW9.out, HS9.out⟩
  case measure => exact meas8 n i HI.out (by have := HLN.out; omega)
end Go.Proofs.YtgbnclepgjcakaaGreat.Gf
