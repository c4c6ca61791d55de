/- What is proved here: the walk of the law ScanLast, over what it asks of the program. No condition. -/
import Derived.Test.YtlnccofanicihaaDoorQ9k
namespace Go.Proofs.YtlnccofanicihaaDoor.Gf
open Go Go.Joins Go.ChangeShapes Go.WideShapes Go.ChangeAt Go.RowKit Go.Deep Go.Proofs.YtlnccofanicihaaDoor.By Go.Proofs.YtlnccofanicihaaDoor.Crc Go.Proofs.YtlnccofanicihaaDoor.Qt

/-- append of needles that lie in older memory. -/
theorem run_app_nds {b0 : Nat} {W w0 : World} {base : Nat} {v x : Value} {R M : List Ndl} (t : TypeId) (hv : OwN b0 W base v R) (hx : Ns w0 x M) (h0 : w0.heap.size ≤ b0) (hB : Below w0.heap.size w0 W) (hlm : R.length + M.length ≤ 100000000) (hb : base ≤ W.heap.size) (h00 : b0 ≤ base) :
    ∃ v' w', (Builtin.append_ #[23, 23] t #[v, x]).run Tryd.prog W = .ok v' w' ∧ OwN b0 w' base v' (R ++ M) ∧ W.grownBy w' v.ownBlock := by
  obtain ⟨i, hi, hz0, hz1, hz2⟩ := info_parts infoN4
  obtain ⟨L, rfl, hL, hown⟩ := hv
  obtain ⟨L2, rfl, ⟨hk, a, cap, rfl, hc1, hc2, hc3⟩, hs⟩ := hx
  rw [List.length_map, List.length_map] at hlm
  have hkp : ∀ r ∈ L2, KpB b0 W base r.s r.x.data := fun r hr => Or.inr ⟨w0, h0, hB, hs r hr⟩
  have some_case : ∀ (q : Addr) (cp : Nat), (∀ j u, (cellsN L2)[j]? = some u → W.cell? (q.add j) = some u) →
      ∃ v' w', (Builtin.append_ #[23, 23] t #[v, .slice (some q) L2.length cp]).run Tryd.prog W = .ok v' w' ∧ OwN b0 w' base v' (L.map NV.x ++ L2.map NV.x) ∧ W.grownBy w' v.ownBlock := fun q cp hc => by
    obtain ⟨v', w', hr, ho, hgr, _⟩ := run_append_own (P := Tryd.prog) W base 23 t 56 i _ 4 40 undN hi hz0 hz1 hz2 rfl (by decide) _ _ _ hown q L2.length cp (cellsN L2) (cellsN_length _) hc (cellsN_one _ hk) (by unfold maxLen; omega) (by omega) hb
    refine ⟨v', w', hr, ⟨L ++ L2, by rw [List.map_append], fun r hr => ?_, by rw [List.length_append, cellsN_append]; exact ho⟩, hgr⟩
    rcases List.mem_append.1 hr with hr | hr
    · exact ⟨(hL r hr).1, kp_growN (hL r hr).2 hown hgr hb h00⟩
    · exact ⟨hk r hr, kp_growN (hkp r hr) hown hgr hb h00⟩
  by_cases hp : 0 < L2.length
  · obtain ⟨b, off, rfl, hcell⟩ := hc3 hp
    exact some_case _ _ fun j u hu => by
      rw [add_none]
      exact (hB.cell (block_lt_of_cell (hcell j u hu))).trans (hcell j u hu)
  · obtain rfl : L2 = [] := List.eq_nil_of_length_eq_zero (by omega)
    cases a with
    | some q => exact some_case q _ fun j u hu => by simp [cellsN] at hu
    | none =>
      have hsame : W.grownBy W v.ownBlock := ⟨rfl, rfl, rfl, Nat.le_refl _, fun _ _ _ => rfl⟩
      have hL' : OwN b0 W base v (L.map NV.x ++ ([] : List NV).map NV.x) := by
        rw [List.map_nil, List.append_nil]
        exact ⟨L, rfl, hL, hown⟩
      rcases hown.2 with ⟨rfl, h0⟩ | ⟨g', cap', cur, rfl, hg, hbk, hn, hcm, hsz, ht⟩
      · refine ⟨.slice none 0 0, W, ?_, hL', hsame⟩
        simp [Builtin.append_, run_underlying undN, sizeOf, typeInfo, hi, Builtin.lenOf, Builtin.firstCells]
      · refine ⟨_, W, ?_, hL', hsame⟩
        simp [Builtin.append_, run_underlying undN, sizeOf, typeInfo, hi, Builtin.lenOf, Builtin.firstCells, loadCells, storeCells, hn]
theorem app_nds {b0 : Nat} {ops : Array Oper} {rest : List Oper} {dst : Option Tmp} {s x : Operand} {pos : String} {after : Array Edge} {t : TypeId} {a : Act} {W w0 : World} {Q : Exit → Act → World → Prop}
    {base : Nat} {v y : Value} {R M : List Ndl} (hs : a.eval s = v) (hy : a.eval x = y) (hv : OwN b0 W base v R) (hx : Ns w0 y M) (h0 : w0.heap.size ≤ b0) (hB : Below w0.heap.size w0 W) (hlm : R.length + M.length ≤ 100000000) (hb : base ≤ W.heap.size) (h00 : b0 ≤ base)
    (h : ∀ v' w', OwN b0 w' base v' (R ++ M) → W.grownBy w' v.ownBlock → wpList Tryd.prog ops Q rest (a.put dst v') w') : wpList Tryd.prog ops Q (⟨dst, .call { callee := .builtin .append, args := #[s, x], argTypes := #[23, 23] }, t, pos, after, none⟩ :: rest) a W := by
  obtain ⟨v', w', hr, h2, h3⟩ := run_app_nds t hv hx h0 hB hlm hb h00
  refine wpList_plain rfl fun _ hK => ?_
  unfold Oper.wp execOp
  simp only [resolve, invoke, builtin, Sem.run_bind, Sem.run_pure, Result.andThen_ok, List.map_toArray, List.map_cons, List.map_nil, hs, hy, hr]
  exact hK _ _ (h v' w' h2 h3)
/-- A list of one needle without data. -/
theorem owN_one (w : World) (b0 : Nat) {key : Nat} (hk : key < 18446744073709551616) : OwN b0 (w.alloc (.cells #[.int .u64 (key : Int), .int .u32 0, .bool false, .slice none 0 0] 56)) w.heap.size (.slice (some ⟨w.heap.size, 0, none⟩) 1 1) [⟨key, 0, false, []⟩] :=
  ⟨[⟨⟨key, 0, false, []⟩, .slice none 0 0⟩], rfl, fun r hr => by
    obtain rfl := List.mem_singleton.1 hr
    exact ⟨⟨hk, by show (0 : Nat) < _; omega, _, _, _, rfl⟩, Or.inl (own_nil _ _)⟩,
    ⟨rfl, Or.inr ⟨w.heap.size, 1, _, rfl, Nat.le_refl _, heap_alloc_new _ _, Nat.le_refl _, by unfold maxLen; decide, rfl, rfl⟩⟩⟩
theorem box4 {w : World} {g : Nat} {a b c d : Value} {T : TypeId} {fr : Nat × Nat} (h : w.heap[g]? = some (.cells #[a, b, c, d] T fr)) : w.cell? ⟨g, 0, none⟩ = some a ∧ w.cell? ⟨g, 1, none⟩ = some b ∧ w.cell? ⟨g, 2, none⟩ = some c ∧ w.cell? ⟨g, 3, none⟩ = some d :=
  ⟨cell_of_row w g 0 _ _ _ h, cell_of_row w g 1 _ _ _ h, cell_of_row w g 2 _ _ _ h, cell_of_row w g 3 _ _ _ h⟩
theorem itms_le (K : List Ndl) : (itemsL (rcs 16 K)).length ≤ K.length := by
  have h := length_itemsL (rcs 16 K)
  rwa [rcs_length] at h
set_option maxRecDepth 100000 in
set_option maxHeartbeats 12800000 in
theorem last9_walk {Ok : World → Prop} (P : PC9 Ok) (v : Value) (L : List Ndl) (kk : Nat) (w : World) (hw : Ok w) (s : Ns w v L) (hkk : kk < 18446744073709551616) : Calls Tryd.prog 7 #[v, .int .u64 (kk : Int)] w fun e w' => e = .returned (.bool true) ∧ Below w.heap.size w w' := by
  have SM := Lib.hid (small_any v L w s)
  have HG := Lib.hid (good_small s)
  have HKL := Lib.hid (smL_length L)
  obtain ⟨al, cl, rfl, -, -⟩ := ns_form s
  generalize L.length = n at *
  generalize smL L = K at *
  have AW := Lib.hid (fun W (h : Ok W) => awake9_any P W h)
  have ST := Lib.hid (fun (W W' : World) => P.st (w := W) (w' := W'))
  have HP := Lib.hid P
  have HBF := Lib.hid (bodF_le K HG.out)
  obtain ⟨k1, hk1⟩ : ∃ z, z = K.length := ⟨_, rfl⟩
  have HK1 := Lib.hid hk1
  have hk12 : k1 ≤ 12 := by have := HKL.out; omega
  have OF := Lib.hid (op_full HG.out)
  have HKK := Lib.hid hkk
  have HRL := Lib.hid (rcs_length K 16)
  have HIL := Lib.hid (itms_le K)
  have HCN := Lib.hid (cnt_items K)
  have HIT := Lib.hid (fun i => item_last (k := K) (i := i))
  clear s P hk1 hkk
  go_enter Tryd.func7, Tryd.ntmps7
  go_wp2_with fail
  refine SM.out.mono ?_
  rintro e w1 ⟨⟨v1, rfl, hn1⟩, hb1⟩
  have hw1 := Lib.hid (ST.out _ _ hw hb1)
  have B1 := Lib.hid hb1
  have FA := Lib.hid (file_any v1 K w1 hn1 HG.out (by have := HKL.out; omega))
  unfold FO at FA
  have NS1 := Lib.hid hn1
  obtain ⟨a1, c1, rfl, -, -⟩ := ns_form hn1
  rw [← HK1.out] at NS1 FA ⊢
  clear hn1 hb1 SM hw
  go_wp2_with fail
  refine FA.out.mono ?_
  rintro e w2 ⟨⟨v2, t2, rfl, ho2, hr2⟩, hb2⟩
  have hw2 := Lib.hid (ST.out _ _ hw1.out hb2)
  have BW2 := Lib.hid hb2
  have OP := Lib.hid (HP.out.opn v2 (filL K) w2 hw2.out ho2.sl (by have h1 := filL_length K; have h2 := HBF.out; have h3 := HKL.out; omega))
  unfold OO at OP
  rw [OF.out.1, OF.out.2.1, OF.out.2.2] at OP
  obtain ⟨a2, c2, rfl, -, -⟩ := sl_form ho2.sl
  generalize (filL K).length = m2 at *
  obtain ⟨ta, tn, tc, rfl⟩ : ∃ a n c, t2 = Value.slice a n c := by
    obtain ⟨_, ⟨h, _⟩ | ⟨g, cap, cur, h, _⟩⟩ := hr2
    · exact ⟨_, _, _, h⟩
    · exact ⟨_, _, _, h⟩
  clear ho2 hr2 hb2 FA
  go_wp2_with fail
  refine OP.out.mono ?_
  rintro e w3 ⟨⟨v3, rfl, ho3⟩, hb3⟩
  have hb4 := bel_al w3 (.cells #[.int .i64 0, .int .i64 1, .int .i64 0] 30)
  have BW4 := Lib.hid (bt (bt BW2.out hb3) hb4)
  have hw4 := Lib.hid (ST.out _ _ (ST.out _ _ hw2.out hb3) hb4)
  have RS4 := Lib.hid (rs_below (owR_rs ho3) hb4)
  have IT := Lib.hid (HP.out.itm v3 (rcs 16 K) _ RS4.out (by have h1 := HRL.out; have h2 := HKL.out; omega))
  obtain ⟨a3, c3, rfl, -, -⟩ := owR_form ho3
  have hrl := HRL.out
  rw [← HK1.out] at hrl
  rw [hrl] at RS4 IT ⊢
  unfold ITO at IT
  clear ho3 hb3 hb4 OP hrl hw2 BW2
  go_wp2_with fail
  refine IT.out.mono ?_
  rintro e w5 ⟨⟨v5, rfl, hi5⟩, hb5⟩
  have BW5 := Lib.hid (bt BW4.out hb5)
  have hw5 := Lib.hid (ST.out _ _ hw4.out hb5)
  have RS5 := Lib.hid (rs_below RS4.out hb5)
  obtain ⟨a5, c5, rfl, -, -⟩ := it_form hi5
  have IT5 := Lib.hid hi5
  obtain ⟨m, hm⟩ : ∃ z, z = (itemsL (rcs 16 K)).length := ⟨_, rfl⟩
  have hm12 : m ≤ 12 := by have h1 := HIL.out; have h2 := HK1.out; omega
  rw [← hm] at IT5 ⊢
  have HM := Lib.hid hm
  clear hi5 hb5 IT hw4 BW4 RS4 hm
  have ON := Lib.hid (owN_one w5 w5.heap.size HKK.out)
  have BA := Lib.hid (bel_al w5 (.cells #[.int .u64 (kk : Int), .int .u32 0, .bool false, .slice none 0 0] 56))
  go_wp2_with (at_builtin; refine app_nds (dst := some 49) (w0 := w1) ?_ ?_ ON.out NS1.out BW5.out.size (bt BW5.out BA.out) (by have h1 := HK1.out; simp only [List.length_cons, List.length_nil]; omega) BA.out.size (Nat.le_refl _) ?_; exact rfl; exact rfl; intro v6 w6 ho6 hg6; have BG := Lib.hid (BA.out.grown hg6 BA.out.size fun q hq => (owN_lt ON.out q hq).1); have HO6 := Lib.hid ho6; clear ho6 hg6; obtain ⟨a6, c6, rfl, -, -⟩ := owN_form HO6.out; obtain ⟨nx, hnx⟩ : ∃ z, z = ([⟨kk, 0, false, []⟩] ++ K : List Ndl).length := ⟨_, rfl⟩; rw [← hnx] at HO6 ⊢; have HNX := Lib.hid hnx; clear hnx)
  have B5 := Lib.hid (bt B1.out BW5.out)
  have B6 := Lib.hid (bt B5.out BG.out)
  have hw6 := Lib.hid (ST.out _ _ hw5.out BG.out)
  have NS6 := Lib.hid (ns_below (ns_below NS1.out BW5.out) BG.out)
  have RS6 := Lib.hid (rs_below RS5.out BG.out)
  have IT6 := Lib.hid (it_below IT5.out BG.out)
  have NX6 := Lib.hid (owN_rs HO6.out)
  have hnx13 : nx ≤ 13 := by have h1 := HNX.out; have h2 := HK1.out; rw [List.length_append, List.length_singleton] at h1; omega
  clear HO6 BG ON BA IT5 RS5 NS1 hw5 B5 BW5 B1 HP OF HBF HKL HKK hw1
  generalize ([⟨kk, 0, false, []⟩] ++ K : List Ndl) = XL at *
  go_loopw [51] (fun t wr => ∃ p : Nat, p ≤ nx ∧ t = .int .i64 (p : Int) ∧ Hid (Below w6.heap.size w6 wr)) (fun t _ => nx - (intOf t).toNat)
  case atStart => exact ⟨0, by omega, rfl, Lib.hid (Below.refl _ _)⟩
  case round =>
    obtain ⟨p, hp, rfl, HB⟩ := hrel
    rename World => wq
    by_cases hpn : p < nx
    · have l1 : decide ((p : Int) < (nx : Int)) = true := decide_eq_true (by omega)
      have p0 : (0 : Int) ≤ (p : Int) := by omega
      have p1 : (p : Int) < (nx : Int) := by omega
      have hnl := HNX.out
      obtain ⟨b5, o5, c5', hv5, -, -, q5⟩ := ns_cells NX6.out (by omega)
      obtain ⟨rfl, -, -⟩ : a6 = some ⟨b5, o5, none⟩ ∧ nx = XL.length ∧ c6 = c5' := by simpa using hv5
      obtain ⟨d, D0⟩ := q5 p (by omega)
      obtain ⟨g0, g1, g2, g3, okr, sd⟩ := D0.below HB.out
      generalize XL.getD p nd0 = x at *
      obtain ⟨ad, cd, rfl, -, -⟩ := sl_form sd
      generalize x.data.length = nd at *
      have HX := Lib.hid (heap_alloc_new wq (.cells #[.int .u64 (x.key : Int), .int .u32 (x.cookie : Int), .bool x.del, .slice ad nd cd] 56))
      have B7 := Lib.hid (bt HB.out (bel_al wq (.cells #[.int .u64 (x.key : Int), .int .u32 (x.cookie : Int), .bool x.del, .slice ad nd cd] 56)))
      clear hnl hv5 q5 D0 okr sd hpn
      go_wp2_with fail
      generalize wq.alloc (.cells #[.int .u64 (x.key : Int), .int .u32 (x.cookie : Int), .bool x.del, .slice ad nd cd] 56) = W1 at *
      have NS7 := Lib.hid (ns_below NS6.out B7.out)
      have RS7 := Lib.hid (rs_below RS6.out B7.out)
      have IT7 := Lib.hid (it_below IT6.out B7.out)
      clear g0 g1 g2 g3 HB
      obtain ⟨gx, hgx⟩ : ∃ z, z = wq.heap.size := ⟨_, rfl⟩
      rw [← hgx] at HX ⊢
      clear hgx
      have HXK := Lib.hid (box4 HX.out).1
      go_loopw [15, 57] (fun last t wr => ∃ i : Nat, i ≤ k1 ∧ t = .int .i64 (i : Int) ∧ last = .int .i64 (lastF K x.key i) ∧ Hid (Below W1.heap.size W1 wr)) (fun _ t _ => k1 - (intOf t).toNat)
      case atStart => exact ⟨0, by omega, rfl, rfl, Lib.hid (Below.refl _ _)⟩
      case round =>
        obtain ⟨i, hi, rfl, rfl, HB⟩ := hrel
        by_cases hin : i < k1
        · have l2 : decide ((i : Int) < (k1 : Int)) = true := decide_eq_true (by omega)
          have i0 : (0 : Int) ≤ (i : Int) := by omega
          have i1 : (i : Int) < (k1 : Int) := by omega
          have hkl := HK1.out
          obtain ⟨b1, o1, c1', hv1, -, -, q1⟩ := ns_cells NS7.out (by omega)
          obtain ⟨rfl, -, -⟩ : a1 = some ⟨b1, o1, none⟩ ∧ k1 = K.length ∧ c1 = c1' := by simpa using hv1
          obtain ⟨d1, D1⟩ := q1 i (by omega)
          have g0 := (HB.out.cell (block_lt_of_cell D1.c0)).trans D1.c0
          have x0 := (HB.out.cell (block_lt_of_cell HXK.out)).trans HXK.out
          have hls : lastF K x.key (i + 1) = if (K.getD i nd0).key = x.key then (i : Int) else lastF K x.key i := rfl
          obtain ⟨la, hla⟩ : ∃ z, z = lastF K x.key i := ⟨_, rfl⟩
          rw [← hla] at hls ⊢
          generalize (K.getD i nd0).key = ky at *
          generalize x.key = xk at *
          by_cases hkx : ky = xk
          · have z1 : ((ky : Int) == (xk : Int)) = true := by rw [hkx]; simp
            have z2 : decide ((ky : Int) = (xk : Int)) = true := by rw [hkx]; simp
            have z3 : (ky == xk) = true := by rw [hkx]; simp
            have z4 : decide (ky = xk) = true := by rw [hkx]; simp
            rw [if_pos hkx] at hls
            have HLS := Lib.hid hls
            clear hls hkx hkl hv1 q1 D1 hla
            go_wp2_with fail
            go_quiet (fail)
            have B9 := Lib.hid (bt HB.out (below_drewN wr nq))
            clear g0 x0
            generalize wr.drewN nq = W9 at *
            go_wp2
            go_roundw
            case rel => exact ⟨i + 1, by omega, by go_num, by rw [HLS.out], B9⟩
            case measure => simp [intOf]; omega
          · have z1 : ((ky : Int) == (xk : Int)) = false := beq_false_of_ne (by omega)
            have z2 : decide ((ky : Int) = (xk : Int)) = false := decide_eq_false (by omega)
            have z3 : (ky == xk) = false := beq_false_of_ne hkx
            have z4 : decide (ky = xk) = false := decide_eq_false hkx
            rw [if_neg hkx] at hls
            have HLS := Lib.hid hls
            clear hls hkx hkl hv1 q1 D1 hla
            go_wp2_with fail
            go_quiet (fail)
            have B9 := Lib.hid (bt HB.out (below_drewN wr nq))
            clear g0 x0
            generalize wr.drewN nq = W9 at *
            go_wp2
            go_roundw
            case rel => exact ⟨i + 1, by omega, by go_num, by rw [HLS.out], B9⟩
            case measure => simp [intOf]; omega
        · obtain rfl : i = k1 := by omega
          have l2 : decide ((i : Int) < (i : Int)) = false := decide_eq_false (by omega)
          have NS8 := Lib.hid (ns_below NS7.out HB.out)
          have RS8 := Lib.hid (rs_below RS7.out HB.out)
          have IT8 := Lib.hid (it_below IT7.out HB.out)
          have HX8 := Lib.hid ((HB.out.block _ (lt_of_some HX.out)).trans HX.out)
          have B8 := Lib.hid (bt B7.out HB.out)
          have hlb := lastF_lt K x.key i
          obtain ⟨la, hla⟩ : ∃ z, z = lastF K x.key i := ⟨_, rfl⟩
          rw [← hla] at hlb ⊢
          have HLA := Lib.hid hla
          have HLB := Lib.hid hlb
          clear hla hlb NS7 RS7 IT7 HX HB B7 HXK
          go_wp2_with fail
          rename World => wo
          go_loopw [17, 72] (fun many t wr => ∃ u : Nat, u ≤ m ∧ t = .int .i64 (u : Int) ∧ many = .int .i64 ((cntF (itemsL (rcs 16 K)) x.key u : Nat) : Int) ∧ Hid (Below wo.heap.size wo wr)) (fun _ t _ => m - (intOf t).toNat)
          case atStart => exact ⟨0, by omega, rfl, rfl, Lib.hid (Below.refl _ _)⟩
          case round =>
            obtain ⟨u, hu, rfl, rfl, HB⟩ := hrel
            have hml := HM.out
            by_cases hum : u < m
            · have l3 : decide ((u : Int) < (m : Int)) = true := decide_eq_true (by omega)
              have j0 : (0 : Int) ≤ (u : Int) := by omega
              have j1 : (u : Int) < (m : Int) := by omega
              obtain ⟨b2, o2, c2', hv2, -, -, q2⟩ := it_cells IT8.out (by omega)
              obtain ⟨rfl, -, -⟩ : a5 = some ⟨b2, o2, none⟩ ∧ m = (itemsL (rcs 16 K)).length ∧ c5 = c2' := by simpa using hv2
              obtain ⟨h0, h1, h2, h3⟩ := (q2 u (by omega)).below HB.out
              have hit := HIT.out u (by omega)
              have hcs : cntF (itemsL (rcs 16 K)) x.key (u + 1) = if ((itemsL (rcs 16 K)).getD u z0).key = x.key then cntF (itemsL (rcs 16 K)) x.key u + 1 else cntF (itemsL (rcs 16 K)) x.key u := rfl
              have hcle := cntF_le (itemsL (rcs 16 K)) x.key u
              obtain ⟨cv, hcv⟩ : ∃ z, z = cntF (itemsL (rcs 16 K)) x.key u := ⟨_, rfl⟩
              rw [← hcv] at hcs hcle ⊢
              generalize (itemsL (rcs 16 K)).getD u z0 = it at *
              have X8 := (HB.out.block _ (lt_of_some HX8.out)).trans HX8.out
              clear hv2 q2 hcv hml
              by_cases hkx : it.key = x.key
              · rw [if_pos hkx] at hcs
                rw [hkx, ← HK1.out, ← HLA.out] at hit
                obtain ⟨hla0, hite⟩ := hit
                have hlb := HLB.out
                obtain ⟨j, rfl⟩ : ∃ j : Nat, la = (j : Int) := ⟨la.toNat, by omega⟩
                have hji : j < i := by omega
                rw [Int.toNat_natCast, rcs_get K 16 j (by rw [← HK1.out]; exact hji)] at hite
                have hkl := HK1.out
                have hrl := HRL.out
                obtain ⟨b1, o1, c1', hv1, -, -, q1⟩ := ns_cells NS8.out (by omega)
                obtain ⟨rfl, -, -⟩ : a1 = some ⟨b1, o1, none⟩ ∧ i = K.length ∧ c1 = c1' := by simpa using hv1
                obtain ⟨d1, D1⟩ := q1 j (by omega)
                obtain ⟨b3, o3, c3', hv3, -, -, q3⟩ := rs_cells RS8.out (by omega)
                obtain ⟨rfl, -, -⟩ : a3 = some ⟨b3, o3, none⟩ ∧ i = (rcs 16 K).length ∧ c3 = c3' := by rw [HRL.out, ← HK1.out] at hv3 ⊢; simpa using hv3
                obtain ⟨d3, D3⟩ := q3 j (by omega)
                rw [rcs_get K 16 j (by omega)] at D3
                have r0 := (D3.below HB.out).c0
                obtain ⟨g0, g1, g2, g3, -, sd⟩ := D1.below HB.out
                dsimp only at r0
                obtain ⟨kj, hkj⟩ : ∃ z, z = K.getD j nd0 := ⟨_, rfl⟩
                rw [← hkj] at hite g0 g1 g2 sd
                obtain ⟨of, hof⟩ : ∃ z, z = 16 + (bodF (K.take j)).length := ⟨_, rfl⟩
                rw [← hof] at hite r0
                obtain ⟨ad, cd, rfl, -, -⟩ := sl_form sd
                subst hite
                have e2 : (itmOf ⟨(of : Int), kj⟩).key = kj.key := rfl
                have e3 : (itmOf ⟨(of : Int), kj⟩).ck = kj.cookie := rfl
                have e4 : (itmOf ⟨(of : Int), kj⟩).off = (of : Int) := rfl
                have e5 : (itmOf ⟨(of : Int), kj⟩).sz = ((kj.data.length : Nat) : Int) := rfl
                rw [e2] at h0 hkx
                rw [e3] at h1
                rw [e4] at h2
                rw [e5] at h3
                generalize kj.data.length = nj at *
                rw [← hkx] at X8
                have y := box4 (heap_alloc_new wr (.cells #[.int .u64 (kj.key : Int), .int .u32 (kj.cookie : Int), .int .i64 (of : Int), .int .i64 (nj : Int)] 66))
                have BY := bel_al wr (.cells #[.int .u64 (kj.key : Int), .int .u32 (kj.cookie : Int), .int .i64 (of : Int), .int .i64 (nj : Int)] 66)
                obtain ⟨y0, y1, y2, y3⟩ := y
                have x0 := (box4 ((BY.block _ (lt_of_some X8)).trans X8)).1
                replace r0 := (BY.cell (block_lt_of_cell r0)).trans r0
                replace g1 := (BY.cell (block_lt_of_cell g1)).trans g1
                replace g3 := (BY.cell (block_lt_of_cell g3)).trans g3
                have B9 := Lib.hid (bt HB.out BY)
                have s0 : (0 : Int) ≤ (j : Int) := by omega
                have s1 : (j : Int) < (i : Int) := by omega
                have s2 : decide ((j : Int) < 0) = false := decide_eq_false (by omega)
                have HCS := Lib.hid hcs
                have HCL := Lib.hid hcle
                have s3 : cv ≤ 12 := by omega
                clear hcs hcle hkx hla0 hlb hkl hrl hv1 hv3 q1 q3 D1 D3 sd hkj hof e2 e3 e4 e5 X8 BY HIT HB g0 g2 hji
                go_wp2_with fail
                go_quiet (fail)
                have B10 := Lib.hid (bt B9.out (below_drewN _ nq))
                generalize (wr.alloc (.cells #[.int .u64 (kj.key : Int), .int .u32 (kj.cookie : Int), .int .i64 (of : Int), .int .i64 (nj : Int)] 66)).drewN nq = W9 at *
                clear r0 g1 g3 y0 y1 y2 y3 x0 h0 h1 h2 h3
                go_wp2
                go_roundw
                case rel => exact ⟨u + 1, by omega, by go_num, by rw [HCS.out]; go_num, B10⟩
                case measure => simp [intOf]; omega
              · rw [if_neg hkx] at hcs
                have X9 := (box4 X8).1
                have y := box4 (heap_alloc_new wr (.cells #[.int .u64 (it.key : Int), .int .u32 (it.ck : Int), .int .i64 it.off, .int .i64 it.sz] 66))
                have BY := bel_al wr (.cells #[.int .u64 (it.key : Int), .int .u32 (it.ck : Int), .int .i64 it.off, .int .i64 it.sz] 66)
                obtain ⟨y0, y1, y2, y3⟩ := y
                have x0 := (box4 ((BY.block _ (lt_of_some X8)).trans X8)).1
                have B9 := Lib.hid (bt HB.out BY)
                have z1 : ((it.key : Int) != (x.key : Int)) = true := by rw [bne_iff_ne]; omega
                have z2 : decide ((it.key : Int) = (x.key : Int)) = false := decide_eq_false (by omega)
                have z3 : (it.key != x.key) = true := by rw [bne_iff_ne]; exact hkx
                have HCS := Lib.hid hcs
                clear hcs hcle hkx X8 X9 BY HB hit
                generalize x.key = xk at *
                generalize it.key = ik at *
                generalize it.ck = ic at *
                generalize it.off = io at *
                generalize it.sz = is at *
                go_wp2
                go_roundw
                case rel => exact ⟨u + 1, by omega, by go_num, by rw [HCS.out], B9⟩
                case measure => simp [intOf]; omega
            · obtain rfl : u = m := by omega
              have l3 : decide ((u : Int) < (u : Int)) = false := decide_eq_false (by omega)
              have hc := HCN.out x.key
              rw [← hml, ← HK1.out, ← HLA.out] at hc
              have NS9 := Lib.hid (ns_below NS8.out HB.out)
              have B9 := Lib.hid (bt B8.out HB.out)
              generalize cntF (itemsL (rcs 16 K)) x.key u = cv at *
              clear HB hml
              by_cases hl : la < 0
              · rw [if_pos hl] at hc
                subst hc
                rw [show (((0 : Nat)) : Int) = 0 from rfl]
                have z1 : decide (la ≥ 0) = false := decide_eq_false (by omega)
                have z2 : decide (0 ≤ la) = false := decide_eq_false (by omega)
                clear hl
                go_wp2
                go_roundw
                case rel => exact ⟨p + 1, by omega, by go_num, B9⟩
                case measure => simp [intOf]; omega
              · rw [if_neg hl] at hc
                have hlb := HLB.out
                obtain ⟨j, rfl⟩ : ∃ j : Nat, la = (j : Int) := ⟨la.toNat, by omega⟩
                rw [Int.toNat_natCast] at hc
                have hkl := HK1.out
                obtain ⟨b1, o1, c1', hv1, -, -, q1⟩ := ns_cells NS9.out (by omega)
                obtain ⟨rfl, -, -⟩ : a1 = some ⟨b1, o1, none⟩ ∧ i = K.length ∧ c1 = c1' := by simpa using hv1
                obtain ⟨d1, D1⟩ := q1 j (by omega)
                have g2 := D1.c2
                have z1 : decide ((j : Int) ≥ 0) = true := decide_eq_true (by omega)
                have z2 : decide (0 ≤ (j : Int)) = true := decide_eq_true (by omega)
                have s0 : (0 : Int) ≤ (j : Int) := by omega
                have s1 : (j : Int) < (i : Int) := by omega
                generalize (K.getD j nd0).del = dl at *
                clear hl hlb hkl hv1 q1 D1
                cases dl
                · obtain rfl : cv = 1 := by simpa using hc
                  rw [show (((1 : Nat)) : Int) = 1 from rfl]
                  clear hc
                  go_wp2
                  go_roundw
                  case rel => exact ⟨p + 1, by omega, by go_num, B9⟩
                  case measure => simp [intOf]; omega
                · obtain rfl : cv = 0 := by simpa using hc
                  rw [show (((0 : Nat)) : Int) = 0 from rfl]
                  clear hc
                  go_wp2
                  go_roundw
                  case rel => exact ⟨p + 1, by omega, by go_num, B9⟩
                  case measure => simp [intOf]; omega
    · obtain rfl : p = nx := by omega
      have l1 : decide ((p : Int) < (p : Int)) = false := decide_eq_false (by omega)
      have hw9 := Lib.hid (ST.out _ _ hw6.out HB.out)
      have B9 := Lib.hid (bt B6.out HB.out)
      go_wp2_with fail
      refine (AW.out _ hw9.out).mono ?_
      rintro e w5 ⟨rfl, hb5⟩
      have B5 := Lib.hid (bt B9.out hb5)
      clear hb5
      go_wp2
      go_ret
      exact ⟨rfl, B5.out⟩
end Go.Proofs.YtlnccofanicihaaDoor.Gf
