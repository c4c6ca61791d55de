/- What is proved here: the law NmapKeys answers true. No condition. -/
import Derived.Test.YtihnpjpdepoheaaLP11a
import Derived.Test.YtihnpjpdepoheaaP11m
namespace Go.Proofs.Ytihnpjpdepoheaa.Gf
open Go Go.Joins Go.ChangeShapes Go.WideShapes Go.ChangeAt Go.RowKit Go.Deep Go.Proofs.Ytihnpjpdepoheaa.By Go.Proofs.Ytihnpjpdepoheaa.Qt

/-- The law's map after i rounds. -/
structure Kn (K : List Itm) (D : List Bool) (m : Mp) (i : Nat) : Prop where
  ok : okM m
  len : m.st.length = 8
  few : FewN m i
  hi : m.garb ≤ (i : Int) * 100000
  get : ∀ q, gO m q = gK K D q i
theorem dl_at {D : List Bool} {i : Nat} {d : Bool} (h : D[i]? = some d) : dl D i = d := by
  unfold dl
  rw [List.getD_eq_getElem?_getD, h]
  rfl
theorem dl_off {D : List Bool} {i : Nat} (h : D.length ≤ i) : dl D i = false := by
  unfold dl
  rw [List.getD_eq_getElem?_getD, List.getElem?_eq_none h]
  rfl
theorem kn_put {K : List Itm} {D : List Bool} {m : Mp} {i : Nat} (h : Kn K D m i) (hi : i ≤ 20) (hx : okI (K.getD i z0)) (hd : dl D i = false) : Kn K D (putM m (K.getD i z0)) (i + 1) := by
  have h1 := putM_ok h.ok h.len hx
  have h2 := put_cnt h.ok h.len hx h.few h.hi (by omega)
  refine ⟨h1.1, h1.2, h2.2.2, by have := h2.2.1; omega, fun q => ?_⟩
  rw [gO_put h.ok h.len hx (by have := h.hi; omega), h.get]
  show _ = if (K.getD i z0).key = q then _ else _
  rw [hd]
  rfl
theorem kn_del {K : List Itm} {D : List Bool} {m : Mp} {i : Nat} (h : Kn K D m i) (hi : i ≤ 20) (hx : okI (K.getD i z0)) (hd : dl D i = true) : Kn K D (delM (putM m (K.getD i z0)) (K.getD i z0).key) (i + 1) := by
  have h1 := putM_ok h.ok h.len hx
  have h2 := put_cnt h.ok h.len hx h.few h.hi (by omega)
  have h3 := delM_ok h1.1 h1.2 (K.getD i z0).key
  have h4 := del_cnt h1.1 h1.2 (K.getD i z0).key h2.2.2 h2.2.1 (by omega)
  refine ⟨h3.1, h3.2, h4.2.2, by have := h4.2.1; omega, fun q => ?_⟩
  rw [gO_del h1.1 h1.2 _ (by have := h2.2.1; omega), gO_put h.ok h.len hx (by have := h.hi; omega), h.get]
  show _ = if (K.getD i z0).key = q then _ else _
  rw [hd]
  by_cases e : (K.getD i z0).key = q
  · rw [if_pos e, if_pos e]; rfl
  · rw [if_neg e, if_neg e, if_neg e]
/-- What the law's inner loop has of a key after i rounds. -/
structure In (K : List Itm) (D : List Bool) (q j i : Nat) (y : Itm) (h s : Bool) : Prop where
  has : h = (gK K D q i).isSome
  want : h = true → gK K D q i = some y
  seen : s = decide (∃ a, a < i ∧ (K.getD a z0).key = q ∧ (a : Int) < (j : Int) - 1)
theorem in_zero (K : List Itm) (D : List Bool) (q j : Nat) : In K D q j 0 z0 false false := ⟨rfl, fun h => (by cases h), (by
  rw [decide_eq_false]
  rintro ⟨a, h, -⟩
  omega)⟩
theorem in_skip {K : List Itm} {D : List Bool} {q j i : Nat} {y : Itm} {h s : Bool} (H : In K D q j i y h s) (e : (K.getD i z0).key ≠ q) : In K D q j (i + 1) y h s := by
  have hg : gK K D q (i + 1) = gK K D q i := by show (if _ then _ else _) = _; rw [if_neg e]
  refine ⟨by rw [hg]; exact H.has, fun h1 => by rw [hg]; exact H.want h1, ?_⟩
  rw [H.seen]
  refine decide_eq_decide.2 ⟨fun ⟨a, h1, h2⟩ => ⟨a, by omega, h2⟩, fun ⟨a, h1, h2, h3⟩ => ?_⟩
  rcases Nat.lt_or_ge a i with h | h
  · exact ⟨a, h, h2, h3⟩
  · obtain rfl : a = i := by omega
    exact absurd h2 e
theorem in_hit {K : List Itm} {D : List Bool} {q j i : Nat} {y : Itm} {h s : Bool} (H : In K D q j i y h s) (e : (K.getD i z0).key = q) : In K D q j (i + 1) (K.getD i z0) (!dl D i) (s || decide ((i : Int) < (j : Int) - 1)) := by
  have hg : gK K D q (i + 1) = if dl D i then none else some (K.getD i z0) := by show (if _ then _ else _) = _; rw [if_pos e]
  refine ⟨(by rw [hg]; cases dl D i <;> rfl), (fun h1 => by
    rw [hg]
    cases hd : dl D i
    · rfl
    · rw [hd] at h1; cases h1), ?_⟩
  rw [H.seen]
  by_cases c : (i : Int) < (j : Int) - 1
  · rw [decide_eq_true c, Bool.or_true]
    exact (decide_eq_true ⟨i, by omega, e, c⟩).symm
  · rw [decide_eq_false c, Bool.or_false]
    refine decide_eq_decide.2 ⟨fun ⟨a, h1, h2⟩ => ⟨a, by omega, h2⟩, fun ⟨a, h1, h2, h3⟩ => ?_⟩
    rcases Nat.lt_or_ge a i with h | h
    · exact ⟨a, h, h2, h3⟩
    · obtain rfl : a = i := by omega
      exact absurd h3 c
/-- The count's next step. -/
theorem fk_step {K : List Itm} {D : List Bool} {x xk y : Itm} {j : Nat} {h s : Bool} (hj : j < ([xk] ++ K).length) (hx : x = ([xk] ++ K).getD j z0) (H : In K D x.key j K.length y h s) : (fk K (fun q => (gK K D q K.length).isSome) (j + 1 - 1)).length = (fk K (fun q => (gK K D q K.length).isSome) (j - 1)).length + (if decide (0 < j) && (h && !s) then 1 else 0) := by
  cases j with
  | zero => rfl
  | succ j =>
    have hxk : x = K.getD j z0 := by rw [hx]; rfl
    have hjl : j < K.length := by simpa using hj
    have hs : s = sn K x.key j := by
      rw [H.seen]
      unfold sn
      refine decide_eq_decide.2 ⟨fun ⟨a, h1, h2, h3⟩ => ⟨a, by omega, h2⟩, fun ⟨a, h1, h2⟩ => ⟨a, by omega, h2, by omega⟩⟩
    rw [show j + 1 + 1 - 1 = j + 1 by omega, show j + 1 - 1 = j by omega, decide_eq_true (show 0 < j + 1 by omega), Bool.true_and]
    show (fk K (fun q => (gK K D q K.length).isSome) j ++ (if (gK K D (K.getD j z0).key K.length).isSome && !sn K (K.getD j z0).key j then [(K.getD j z0).key] else [])).length = _
    rw [← hxk, ← hs, ← H.has, List.length_append]
    congr 1
    split <;> rfl
theorem owT_one {w : World} {x : Itm} (hx : ItOk x) : OwT (w.alloc (.cells #[.int .u64 (x.key : Int), .int .u32 (x.ck : Int), .int .i64 x.off, .int .i64 x.sz] 37)) w.heap.size (.slice (some ⟨w.heap.size, 0, none⟩) 1 1) [x] :=
  ⟨by simpa using hx, ⟨by simp [cellsT, itV], Or.inr ⟨w.heap.size, 1, _, rfl, Nat.le_refl _, heap_alloc_new _ _, Nat.le_refl _, by unfold maxLen; decide, rfl, by simp [cellsT, itV]⟩⟩⟩
set_option maxRecDepth 100000 in
set_option maxHeartbeats 25600000 in
theorem keys_any (v : Value) (L : List Itm) (vd : Value) (D : List Bool) (key : Nat) (hkey : key < 18446744073709551616) (w : World) (sl : It w v L) (sd : Rd (fun _ => True) w (.sl .b) [vd] D) : Calls Try.prog 5 #[v, vd, .int .u64 (key : Int)] w fun e w' => e = .returned (.bool true) ∧ Below w.heap.size w w' := by
  have HKEY := Lib.hid hkey
  clear hkey
  have PI := Lib.hid (litems_any v L w sl)
  have KOK := Lib.hid (itmL_ok L)
  have KLN := Lib.hid (itmL_len L)
  generalize itmL L = K at *
  obtain ⟨aL, cL, rfl, -, -⟩ := it_form sl
  obtain ⟨aD, cD, rfl, -, -⟩ := rd_sl sd
  obtain ⟨nD, hnD⟩ : ∃ z, z = D.length := ⟨_, rfl⟩
  rw [← hnD] at sd ⊢
  have SD := Lib.hid sd
  have HDU := Lib.hid hnD
  generalize L.length = nL at *
  clear sl sd hnD
  go_enter Try.func5, Try.ntmps5
  go_wp2_with fail
  refine PI.out.mono ?_
  rintro e w1 ⟨⟨v1, rfl, ho1⟩, hb1⟩
  obtain ⟨aK, cK, rfl, -, -⟩ := owT_form ho1
  obtain ⟨n, hn⟩ : ∃ z, z = K.length := ⟨_, rfl⟩
  have IK1 := Lib.hid (owT_it ho1)
  rw [← hn] at IK1 ⊢
  have HN := Lib.hid (show n = K.length ∧ n ≤ 20 from ⟨hn, by rw [hn]; exact KLN.out⟩)
  have B1 := Lib.hid hb1
  have SD1 := Lib.hid (rd_below SD.out hb1)
  clear ho1 hn hb1 PI SD KLN
  go_wp2_with fail
  refine (pnew_any w1).mono ?_
  rintro e w2 ⟨⟨v2, rfl, hv2⟩, hb2⟩
  obtain ⟨t0, t1, t2, t3, t4, t5, t6, t7, rfl, hms2⟩ := hv2
  have B2 := Lib.hid (B1.out.trans (hb2.mono B1.out.size))
  have IK := Lib.hid (it_below IK1.out hb2)
  have SD2 := Lib.hid (rd_below SD1.out hb2)
  have ON2 := Lib.hid (ms_one hms2 mp0.live mp0.garb)
  have hz2 := heap_alloc_new w2 (.cells #[.slice none 0 0, .slice none 0 0, .slice none 0 0, .slice none 0 0, .slice none 0 0, .slice none 0 0, .slice none 0 0, .slice none 0 0, .int .i64 0, .int .i64 0] 32)
  clear hb2 B1 IK1 SD1
  go_upto_region 3 with ((with_reducible refine storeM w2.heap.size _ #[t0, t1, t2, t3, t4, t5, t6, t7, .int .i64 mp0.live, .int .i64 mp0.garb] ?_ ?_ hz2 rfl rfl ON2.out ?_); exact rfl; exact rfl)
  rw [World.setRow_alloc_new]
  have q3 := bel_al w2 (.cells #[t0, t1, t2, t3, t4, t5, t6, t7, .int .i64 mp0.live, .int .i64 mp0.garb] 32)
  have BM3 := Lib.hid (show BxM (w2.alloc (.cells #[t0, t1, t2, t3, t4, t5, t6, t7, .int .i64 mp0.live, .int .i64 mp0.garb] 32)) w2.heap.size mp0 from ⟨t0, t1, t2, t3, t4, t5, t6, t7, heap_alloc_new _ _, ms_below hms2 q3⟩)
  have B3 := Lib.hid q3
  clear hz2 hms2 q3 ON2
  generalize w2.alloc (.cells #[t0, t1, t2, t3, t4, t5, t6, t7, .int .i64 mp0.live, .int .i64 mp0.garb] 32) = w3 at *
  obtain ⟨gb, hgb⟩ : ∃ g, g = w2.heap.size := ⟨_, rfl⟩
  have HGB := Lib.hid (show w2.heap.size ≤ gb by omega)
  rw [← hgb] at BM3
  rw [← hgb]
  clear hgb
  have KN0 := Lib.hid (show Kn K D mp0 0 from ⟨mp0_ok.1, mp0_ok.2, fun k hk => by rw [ms_mp0]; exact Nat.le_refl _, by decide, fun q => gO_mp0 q⟩)
  go_wp2_with fail
  go_loopw [24] (fun t24 wr => ∃ (i : Nat) (mm : Mp), i ≤ n ∧ t24 = .int .i64 (i : Int) ∧ Hid (BxM wr gb mm) ∧ Hid (Kn K D mm i) ∧ Hid (Below w2.heap.size w2 wr)) (fun t _ => n - (intOf t).toNat)
  case atStart => exact ⟨0, mp0, by omega, rfl, BM3, KN0, B3⟩
  case round =>
    clear BM3 KN0 B3
    obtain ⟨i, mm, hi, rfl, BMl, KN, Bl⟩ := hrel
    rename World => wl
    by_cases hlt : i < n
    case neg =>
      have l1 : decide ((i : Int) < (n : Int)) = false := decide_eq_false (by omega)
      have l2 : decide (i < n) = false := decide_eq_false hlt
      have KNN := Lib.hid (show Kn K D mm n by rw [show n = i by omega]; exact KN.out)
      clear hlt hi KN
      have hxk : ItOk (⟨key, 0, 0, 0⟩ : Itm) := ⟨HKEY.out, (by show (0 : Nat) < 4294967296; decide), (by show J64 0; unfold J64; decide), (by show J64 0; unfold J64; decide)⟩
      go_upto_region 11 with fail
      have q1 := bel_al wl (.cells #[.int .u64 (key : Int), .int .u32 0, .int .i64 0, .int .i64 0] 37)
      have O0 := Lib.hid (show OwT (wl.alloc (.cells #[.int .u64 (key : Int), .int .u32 0, .int .i64 0, .int .i64 0] 37)) wl.heap.size (.slice (some ⟨wl.heap.size, 0, none⟩) 1 1) [(⟨key, 0, 0, 0⟩ : Itm)] from owT_one hxk)
      have IKa := Lib.hid (it_below IK.out (Bl.out.trans (q1.mono Bl.out.size)))
      have BA := Lib.hid q1
      have LE := Lib.hid q1.size
      obtain ⟨xk, hxkd⟩ : ∃ z : Itm, z = ⟨key, 0, 0, 0⟩ := ⟨_, rfl⟩
      rw [← hxkd] at O0
      have HLE := Lib.hid (show [xk].length + K.length ≤ 100000000 by rw [← HN.out.1]; have := HN.out.2; simp; omega)
      clear q1 hxk hxkd
      go_wp2_with (at_builtin; refine app_it (dst := some 55) ?_ ?_ O0.out IKa.out HLE.out LE.out ?_; exact rfl; exact rfl; intro v20 w20 ho20 hg20; have BW := Lib.hid (below_grownT BA.out hg20 O0.out LE.out (Nat.le_refl _)); have I20 := Lib.hid (owT_it ho20); obtain ⟨a0, c0, rfl, -, -⟩ := owT_form ho20; obtain ⟨n0, hn0⟩ : ∃ z, z = ([xk] ++ K).length := ⟨_, rfl⟩; rw [← hn0] at I20; rw [← hn0]; have HN0 := Lib.hid (show n0 = ([xk] ++ K).length ∧ n0 = n + 1 from ⟨hn0, by have h := HN.out.1; rw [hn0, List.length_append, List.length_singleton]; omega⟩); clear ho20 hg20 O0 IKa BA LE hn0)
      have B20 := Lib.hid (Bl.out.trans (BW.out.mono Bl.out.size))
      have BM20 := Lib.hid (bxM_below BMl.out BW.out)
      have IK20 := Lib.hid (it_below IK.out B20.out)
      have SD20 := Lib.hid (rd_below SD2.out B20.out)
      have MANY := Lib.hid (show (fk K (fun q => (gK K D q K.length).isSome) K.length).length = mm.st.flatten.length from many_len KNN.out.ok KNN.out.len (fun q => by rw [← HN.out.1]; exact KNN.out.get q))
      have HFW := Lib.hid (show Few mm ∧ mm.st.flatten.length ≤ 1000 by
        have hbl := flat_lenN KNN.out.few KNN.out.len 8 (Nat.le_refl _)
        rw [List.take_of_length_le (by have := KNN.out.len; omega)] at hbl
        exact ⟨few_of KNN.out.few (by have := HN.out.2; omega), by have := HN.out.2; omega⟩)
      clear BW BMl Bl
      generalize hP : (fun q => (gK K D q K.length).isSome) = P at MANY
      have HP := Lib.hid hP
      clear hP
      go_loopw [10, 57] (fun t10 t57 wr => ∃ (j T : Nat), j ≤ n0 ∧ t57 = .int .i64 (j : Int) ∧ t10 = .int .i64 (T : Int) ∧ Hid (T = (fk K P (j - 1)).length) ∧ Hid (T ≤ j) ∧ Hid (Below w20.heap.size w20 wr)) (fun _ t _ => n0 - (intOf t).toNat)
      case atStart => exact ⟨0, 0, by omega, rfl, rfl, Lib.hid rfl, Lib.hid (Nat.le_refl _), Lib.hid (Below.refl _ _)⟩
      case round =>
        obtain ⟨j, T, hj, rfl, rfl, HT, HTJ, BR⟩ := hrel
        rename World => wr
        have BMr := Lib.hid (bxM_below BM20.out BR.out)
        by_cases hlt : j < n0
        case neg =>
          have l1 : decide ((j : Int) < (n0 : Int)) = false := decide_eq_false (by omega)
          have l2 : decide (j < n0) = false := decide_eq_false hlt
          have hT : T = mm.st.flatten.length := by rw [HT.out, ← MANY.out, show j - 1 = K.length by have := HN0.out.2; have := HN.out.1; omega]
          have HE := Lib.hid (show lenM mm = T by unfold lenM; rw [if_pos KNN.out.ok, hT])
          have Bz := Lib.hid (B2.out.trans ((B20.out.trans (BR.out.mono B20.out.size)).mono B2.out.size))
          clear hlt hj hT HT
          obtain ⟨s0, s1, s2, s3, s4, s5, s6, s7, hbx, hms⟩ := BMr.out
          have PL := Lib.hid (plen11_any _ mm wr ⟨s0, s1, s2, s3, s4, s5, s6, s7, rfl, hms⟩ HFW.out.1 HFW.out.2)
          rw [HE.out] at PL
          have HB := Lib.hid hbx
          have HS := Lib.hid hms
          obtain ⟨x0, x1, x2, x3, x4, x5, x6, x7, x8, x9⟩ := bx10 hbx
          clear hbx hms
          go_wp2_with fail
          clear x0 x1 x2 x3 x4 x5 x6 x7 x8 x9
          refine PL.out.mono ?_
          rintro e w30 ⟨rfl, hb⟩
          have PV := Lib.hid (pvalid11_any _ mm w30 ⟨s0, s1, s2, s3, s4, s5, s6, s7, rfl, ms_below HS.out hb⟩ HFW.out.1)
          rw [okMb_t KNN.out.ok] at PV
          have hbx := (hb.block _ (lt_of_some HB.out)).trans HB.out
          have Bz2 := Lib.hid (Bz.out.trans (hb.mono Bz.out.size))
          have eT : ((T : Int) == (T : Int)) = true := by simp
          obtain ⟨x0, x1, x2, x3, x4, x5, x6, x7, x8, x9⟩ := bx10 hbx
          clear hbx hb PL
          go_wp2_with fail
          clear x0 x1 x2 x3 x4 x5 x6 x7 x8 x9
          refine PV.out.mono ?_
          rintro e w31 ⟨rfl, hb⟩
          have Bz3 := Lib.hid (Bz2.out.trans (hb.mono Bz2.out.size))
          clear hb PV
          go_wp2_with fail
          refine (awake11_any _).mono ?_
          rintro e wz ⟨rfl, hb⟩
          have BZ := Lib.hid (Bz3.out.trans (hb.mono Bz3.out.size))
          clear hb
          go_wp2_with fail
          go_ret
          exact ⟨rfl, BZ.out⟩
        have l1 : decide ((j : Int) < (n0 : Int)) = true := decide_eq_true (by omega)
        have l2 : decide (j < n0) = true := decide_eq_true hlt
        have HJ := Lib.hid hlt
        have EJ := Lib.hid (show wrap64 ((j : Int) + 1) = ((j + 1 : Nat) : Int) by have := HN0.out.2; have := HN.out.2; unfold wrap64; omega)
        have ESUB := Lib.hid (show wrap64 ((j : Int) - 1) = (j : Int) - 1 by have := HN0.out.2; have := HN.out.2; unfold wrap64; omega)
        obtain ⟨b, off, cap, hv, -, -, hc⟩ := it_cells (it_below I20.out BR.out) (by rw [← HN0.out.1]; omega)
        simp only [Value.slice.injEq] at hv
        obtain ⟨rfl, -, -⟩ := hv
        have hC := hc j (by rw [← HN0.out.1]; omega)
        have hxo : ItOk (([xk] ++ K).getD j z0) := getT_ok I20.out.1 j
        obtain ⟨x, hx⟩ : ∃ z, z = ([xk] ++ K).getD j z0 := ⟨_, rfl⟩
        rw [← hx] at hC hxo
        have HXD := Lib.hid hx
        have HXO := Lib.hid hxo
        obtain ⟨k0, k1, k2, k3⟩ := hC
        have p0 : (0 : Int) ≤ (j : Int) := by omega
        have p1 : (j : Int) < (n0 : Int) := by omega
        clear hc hxo hx hlt hj
        go_upto_region 14 with fail
        clear k0 k1 k2 k3 p0 p1 l1 l2
        have qa := bel_al wr (.cells #[.int .u64 (x.key : Int), .int .u32 (x.ck : Int), .int .i64 x.off, .int .i64 x.sz] 37)
        have HXA := Lib.hid (heap_alloc_new wr (.cells #[.int .u64 (x.key : Int), .int .u32 (x.ck : Int), .int .i64 x.off, .int .i64 x.sz] 37))
        have BA := Lib.hid (BR.out.trans (qa.mono BR.out.size))
        have BMa := Lib.hid (bxM_below BMr.out qa)
        have GX := Lib.hid (show w20.heap.size ≤ wr.heap.size from BR.out.size)
        clear qa BMr BR
        generalize wr.alloc (.cells #[.int .u64 (x.key : Int), .int .u32 (x.ck : Int), .int .i64 x.off, .int .i64 x.sz] 37) = wa at *
        go_upto_region 15 with fail
        have SDA := Lib.hid (rd_below SD20.out BA.out)
        have IKA := Lib.hid (it_below IK20.out BA.out)
        have HW0 := Lib.hid (heap_alloc_new wa (.cells #[.int .u64 0, .int .u32 0, .int .i64 0, .int .i64 0] 37))
        have BQ0 := Lib.hid (bel_al wa (.cells #[.int .u64 0, .int .u32 0, .int .i64 0, .int .i64 0] 37))
        have IN0 := Lib.hid (in_zero K D x.key j)
        go_wp2_with fail
        go_loopw [14, 15, 65] (fun t14 t15 t65 wk => ∃ (i : Nat) (y : Itm) (h s : Bool), i ≤ n ∧ t65 = .int .i64 (i : Int) ∧ t14 = .bool h ∧ t15 = .bool s ∧ Hid (wk.heap[wa.heap.size]? = some (.cells #[.int .u64 (y.key : Int), .int .u32 (y.ck : Int), .int .i64 y.off, .int .i64 y.sz] 37 (0, 0))) ∧ Hid (In K D x.key j i y h s) ∧ Hid (Below wa.heap.size wa wk)) (fun _ _ t _ => n - (intOf t).toNat)
        case atStart => exact ⟨0, z0, false, false, by omega, rfl, rfl, rfl, HW0, IN0, BQ0⟩
        case round =>
          clear HW0 BQ0 IN0
          obtain ⟨i, y, h, s, hi, rfl, rfl, rfl, HWk, INk, BQ⟩ := hrel
          rename World => wk
          have HXk := Lib.hid ((BQ.out.block _ (lt_of_some HXA.out)).trans HXA.out)
          by_cases hlt : i < n
          case neg =>
            have l1 : decide ((i : Int) < (n : Int)) = false := decide_eq_false (by omega)
            have l2 : decide (i < n) = false := decide_eq_false hlt
            have INN := Lib.hid (show In K D x.key j K.length y h s by rw [← HN.out.1, show n = i by omega]; exact INk.out)
            clear hlt hi INk
            have BMk := Lib.hid (bxM_below BMa.out BQ.out)
            obtain ⟨s0, s1, s2, s3, s4, s5, s6, s7, hbx, hms⟩ := BMk.out
            have hgl : gL mm x.key = ms mm (sp x.key) := by unfold gL; rw [if_pos KNN.out.ok]
            have hgo : lk (ms mm (sp x.key)) x.key = gK K D x.key K.length := by have h1 := KNN.out.get x.key; rw [HN.out.1] at h1; exact h1
            have hha : hasL (gL mm x.key) x.key = h := by unfold hasL; rw [hgl, hgo]; exact INN.out.has.symm
            obtain ⟨G, hG⟩ : ∃ G, G = fnL (gL mm x.key) x.key := ⟨_, rfl⟩
            have HGY := Lib.hid (show h = true → G = y from fun e => by rw [hG]; unfold fnL; rw [hgl, hgo, INN.out.want e]; rfl)
            have PG := Lib.hid (pget_any _ mm x.key wk ⟨s0, s1, s2, s3, s4, s5, s6, s7, rfl, hms⟩ HFW.out.1)
            unfold FD at PG
            rw [hha, ← hG] at PG
            have HST := Lib.hid (show (fk K P (j + 1 - 1)).length = (fk K P (j - 1)).length + (if decide (0 < j) && (h && !s) then 1 else 0) by
              have h1 := fk_step (D := D) (y := y) (h := h) (s := s) (by rw [← HN0.out.1]; exact HJ.out) HXD.out INN.out
              rw [HP.out] at h1
              exact h1)
            obtain ⟨x0, x1, x2, x3, x4, x5, x6, x7, x8, x9⟩ := bx10 hbx
            obtain ⟨⟨z0', z1', z2', z3'⟩, -⟩ := bx4 HXk.out
            clear hbx hms hgl hgo hha hG INN BMk
            unfold TV at PG
            go_wp2_with fail
            clear x0 x1 x2 x3 x4 x5 x6 x7 x8 x9 z0' z1' z2' z3' l1 l2
            refine PG.out.mono ?_
            rintro e w30 ⟨rfl, hb⟩
            have HW30 := Lib.hid ((hb.block _ (lt_of_some HWk.out)).trans HWk.out)
            have B30 := Lib.hid (BA.out.trans ((BQ.out.trans (hb.mono BQ.out.size)).mono BA.out.size))
            clear hb PG HWk BQ HXk
            go_upto_region 24 with fail
            have q31 := bel_al w30 (.cells #[.int .u64 (G.key : Int), .int .u32 (G.ck : Int), .int .i64 G.off, .int .i64 G.sz] 37)
            have HG31 := Lib.hid (heap_alloc_new w30 (.cells #[.int .u64 (G.key : Int), .int .u32 (G.ck : Int), .int .i64 G.off, .int .i64 G.sz] 37))
            have HW31 := Lib.hid ((q31.block _ (lt_of_some HW30.out)).trans HW30.out)
            have BR31 := Lib.hid (B30.out.trans (q31.mono B30.out.size))
            clear q31 HW30 B30
            generalize w30.alloc (.cells #[.int .u64 (G.key : Int), .int .u32 (G.ck : Int), .int .i64 G.off, .int .i64 G.sz] 37) = w31 at *
            obtain ⟨p, hp⟩ : ∃ p, decide (0 < j) = p := ⟨_, rfl⟩
            have l5 : decide ((0 : Int) < (j : Int)) = p := by rw [← hp]; exact decide_eq_decide.2 (by omega)
            rw [hp] at HST
            have l6 := hp
            clear hp
            cases p
            · cases h
              · cases s
                · have HT2 := Lib.hid (show T = (fk K P (j + 1 - 1)).length by have h1 := HST.out; rw [← HT.out] at h1; simp at h1; simpa using h1.symm)
                  have HTJ2 := Lib.hid (show T ≤ j + 1 by have := HTJ.out; omega)
                  clear HST HT
                  go_wp2_with fail
                  go_roundw
                  case rel =>
                    have h1 := HJ.out
                    exact ⟨j + 1, T, by omega, by rw [EJ.out], rfl, HT2, HTJ2, BR31⟩
                  case measure =>
                    have h1 := HJ.out
                    rw [EJ.out]
                    simp [intOf]; omega
                · have HT2 := Lib.hid (show T = (fk K P (j + 1 - 1)).length by have h1 := HST.out; rw [← HT.out] at h1; simp at h1; simpa using h1.symm)
                  have HTJ2 := Lib.hid (show T ≤ j + 1 by have := HTJ.out; omega)
                  clear HST HT
                  go_wp2_with fail
                  go_roundw
                  case rel =>
                    have h1 := HJ.out
                    exact ⟨j + 1, T, by omega, by rw [EJ.out], rfl, HT2, HTJ2, BR31⟩
                  case measure =>
                    have h1 := HJ.out
                    rw [EJ.out]
                    simp [intOf]; omega
              · cases s
                · obtain rfl : G = y := HGY.out rfl
                  have hneq : (binOp .neq 37 (.agg #[.int .u64 (G.key : Int), .int .u32 (G.ck : Int), .int .i64 G.off, .int .i64 G.sz]) (.agg #[.int .u64 (G.key : Int), .int .u32 (G.ck : Int), .int .i64 G.off, .int .i64 G.sz])).run Try.prog w31 = .ok (.bool false) w31 := by
                    have h1 := neqT G G w31
                    rw [decide_eq_true rfl] at h1
                    exact h1
                  obtain ⟨⟨u0, u1, u2, u3⟩, -⟩ := bx4 HG31.out
                  obtain ⟨⟨y0, y1, y2, y3⟩, -⟩ := bx4 HW31.out
                  have HT2 := Lib.hid (show T = (fk K P (j + 1 - 1)).length by have h1 := HST.out; rw [← HT.out] at h1; simp at h1; simpa using h1.symm)
                  have HTJ2 := Lib.hid (show T ≤ j + 1 by have := HTJ.out; omega)
                  clear HST HT
                  go_wp2_with fail
                  go_roundw
                  case rel =>
                    have h1 := HJ.out
                    exact ⟨j + 1, T, by omega, by rw [EJ.out], rfl, HT2, HTJ2, BR31⟩
                  case measure =>
                    have h1 := HJ.out
                    rw [EJ.out]
                    simp [intOf]; omega
                · obtain rfl : G = y := HGY.out rfl
                  have hneq : (binOp .neq 37 (.agg #[.int .u64 (G.key : Int), .int .u32 (G.ck : Int), .int .i64 G.off, .int .i64 G.sz]) (.agg #[.int .u64 (G.key : Int), .int .u32 (G.ck : Int), .int .i64 G.off, .int .i64 G.sz])).run Try.prog w31 = .ok (.bool false) w31 := by
                    have h1 := neqT G G w31
                    rw [decide_eq_true rfl] at h1
                    exact h1
                  obtain ⟨⟨u0, u1, u2, u3⟩, -⟩ := bx4 HG31.out
                  obtain ⟨⟨y0, y1, y2, y3⟩, -⟩ := bx4 HW31.out
                  have HT2 := Lib.hid (show T = (fk K P (j + 1 - 1)).length by have h1 := HST.out; rw [← HT.out] at h1; simp at h1; simpa using h1.symm)
                  have HTJ2 := Lib.hid (show T ≤ j + 1 by have := HTJ.out; omega)
                  clear HST HT
                  go_wp2_with fail
                  go_roundw
                  case rel =>
                    have h1 := HJ.out
                    exact ⟨j + 1, T, by omega, by rw [EJ.out], rfl, HT2, HTJ2, BR31⟩
                  case measure =>
                    have h1 := HJ.out
                    rw [EJ.out]
                    simp [intOf]; omega
            · cases h
              · cases s
                · have HT2 := Lib.hid (show T = (fk K P (j + 1 - 1)).length by have h1 := HST.out; rw [← HT.out] at h1; simp at h1; simpa using h1.symm)
                  have HTJ2 := Lib.hid (show T ≤ j + 1 by have := HTJ.out; omega)
                  clear HST HT
                  go_wp2_with fail
                  go_roundw
                  case rel =>
                    have h1 := HJ.out
                    exact ⟨j + 1, T, by omega, by rw [EJ.out], rfl, HT2, HTJ2, BR31⟩
                  case measure =>
                    have h1 := HJ.out
                    rw [EJ.out]
                    simp [intOf]; omega
                · have HT2 := Lib.hid (show T = (fk K P (j + 1 - 1)).length by have h1 := HST.out; rw [← HT.out] at h1; simp at h1; simpa using h1.symm)
                  have HTJ2 := Lib.hid (show T ≤ j + 1 by have := HTJ.out; omega)
                  clear HST HT
                  go_wp2_with fail
                  go_roundw
                  case rel =>
                    have h1 := HJ.out
                    exact ⟨j + 1, T, by omega, by rw [EJ.out], rfl, HT2, HTJ2, BR31⟩
                  case measure =>
                    have h1 := HJ.out
                    rw [EJ.out]
                    simp [intOf]; omega
              · cases s
                · obtain rfl : G = y := HGY.out rfl
                  have hneq : (binOp .neq 37 (.agg #[.int .u64 (G.key : Int), .int .u32 (G.ck : Int), .int .i64 G.off, .int .i64 G.sz]) (.agg #[.int .u64 (G.key : Int), .int .u32 (G.ck : Int), .int .i64 G.off, .int .i64 G.sz])).run Try.prog w31 = .ok (.bool false) w31 := by
                    have h1 := neqT G G w31
                    rw [decide_eq_true rfl] at h1
                    exact h1
                  obtain ⟨⟨u0, u1, u2, u3⟩, -⟩ := bx4 HG31.out
                  obtain ⟨⟨y0, y1, y2, y3⟩, -⟩ := bx4 HW31.out
                  have HT2 := Lib.hid (show T + 1 = (fk K P (j + 1 - 1)).length by have h1 := HST.out; rw [← HT.out] at h1; simp at h1; simpa using h1.symm)
                  have HTJ2 := Lib.hid (show T + 1 ≤ j + 1 by have := HTJ.out; omega)
                  have ET := Lib.hid (show wrap64 ((T : Int) + 1) = ((T + 1 : Nat) : Int) by have := HTJ.out; have := HJ.out; have := HN0.out.2; have := HN.out.2; unfold wrap64; omega)
                  clear HST HT
                  go_wp2_with fail
                  go_roundw
                  case rel =>
                    have h1 := HJ.out
                    exact ⟨j + 1, T + 1, by omega, by rw [EJ.out], by rw [ET.out], HT2, HTJ2, BR31⟩
                  case measure =>
                    have h1 := HJ.out
                    rw [EJ.out]
                    simp [intOf]; omega
                · obtain rfl : G = y := HGY.out rfl
                  have hneq : (binOp .neq 37 (.agg #[.int .u64 (G.key : Int), .int .u32 (G.ck : Int), .int .i64 G.off, .int .i64 G.sz]) (.agg #[.int .u64 (G.key : Int), .int .u32 (G.ck : Int), .int .i64 G.off, .int .i64 G.sz])).run Try.prog w31 = .ok (.bool false) w31 := by
                    have h1 := neqT G G w31
                    rw [decide_eq_true rfl] at h1
                    exact h1
                  obtain ⟨⟨u0, u1, u2, u3⟩, -⟩ := bx4 HG31.out
                  obtain ⟨⟨y0, y1, y2, y3⟩, -⟩ := bx4 HW31.out
                  have HT2 := Lib.hid (show T = (fk K P (j + 1 - 1)).length by have h1 := HST.out; rw [← HT.out] at h1; simp at h1; simpa using h1.symm)
                  have HTJ2 := Lib.hid (show T ≤ j + 1 by have := HTJ.out; omega)
                  clear HST HT
                  go_wp2_with fail
                  go_roundw
                  case rel =>
                    have h1 := HJ.out
                    exact ⟨j + 1, T, by omega, by rw [EJ.out], rfl, HT2, HTJ2, BR31⟩
                  case measure =>
                    have h1 := HJ.out
                    rw [EJ.out]
                    simp [intOf]; omega
          have l1 : decide ((i : Int) < (n : Int)) = true := decide_eq_true (by omega)
          have l2 : decide (i < n) = true := decide_eq_true hlt
          have HI := Lib.hid hlt
          have EI := Lib.hid (show wrap64 ((i : Int) + 1) = ((i + 1 : Nat) : Int) by have := HN.out; unfold wrap64; omega)
          obtain ⟨b, off, cap, hv, -, -, hc⟩ := it_cells IKA.out (by rw [← HN.out.1]; omega)
          simp only [Value.slice.injEq] at hv
          obtain ⟨rfl, -, -⟩ := hv
          have hC := hc i (by rw [← HN.out.1]; omega)
          obtain ⟨xi, hxi⟩ : ∃ z, z = K.getD i z0 := ⟨_, rfl⟩
          rw [← hxi] at hC
          have HXI := Lib.hid hxi
          have CA := Lib.hid hC
          have hC := hC.below BQ.out
          obtain ⟨⟨z0', z1', z2', z3'⟩, -⟩ := bx4 HXk.out
          obtain ⟨k0, k1, k2, k3⟩ := hC
          have r0 := fun d os => cell_regrown k0 d os
          have r4 := fun d os => cell_regrown z0' d os
          have p0 : (0 : Int) ≤ (i : Int) := by omega
          have p1 : (i : Int) < (n : Int) := by omega
          clear hc hxi hlt hi k0 k1 k2 k3 z0' z1' z2' z3'
          go_upto_region 19 with fail
          clear l1 l2
          by_cases he : xi.key = x.key
          case neg =>
            have l3 : (((xi.key : Nat) : Int) == ((x.key : Nat) : Int)) = false := by rw [beq_eq_false_iff_ne]; omega
            have l4 : decide (xi.key = x.key) = false := decide_eq_false he
            have HN1 := Lib.hid (in_skip INk.out (by rw [← HXI.out]; exact he))
            clear he INk
            refine wp_region_bl (by kernel_rfl) (by kernel_rfl) ?_
            iterate 8 (go_big_quiet_step (fail))
            refine wpQuiet_nil ?_
            intro w5 hb
            have HW5 := Lib.hid ((hb.block _ (lt_of_some HWk.out)).trans HWk.out)
            have B5 := Lib.hid (BQ.out.trans (hb.mono BQ.out.size))
            clear hb r0 r4 HWk BQ
            go_wp2_with fail
            go_roundw
            case rel =>
              have h1 := HI.out
              exact ⟨i + 1, y, h, s, by omega, by rw [EI.out], rfl, rfl, HW5, HN1, B5⟩
            case measure =>
              have h1 := HI.out
              rw [EI.out]
              simp [intOf]; omega
          have l3 : (((xi.key : Nat) : Int) == ((x.key : Nat) : Int)) = true := by rw [beq_iff_eq]; omega
          have l4 : decide (xi.key = x.key) = true := decide_eq_true he
          have HHIT := Lib.hid (show In K D x.key j (i + 1) xi (!dl D i) (s || decide ((i : Int) < (j : Int) - 1)) from by have h2 := in_hit INk.out (by rw [← HXI.out]; exact he); rw [← HXI.out] at h2; exact h2)
          clear he INk
          refine wp_region_bl (by kernel_rfl) (by kernel_rfl) ?_
          iterate 8 (go_big_quiet_step (fail))
          refine wpQuiet_nil ?_
          intro w5 hb
          have HW5 := Lib.hid ((hb.block _ (lt_of_some HWk.out)).trans HWk.out)
          have B5 := Lib.hid (BQ.out.trans (hb.mono BQ.out.size))
          clear hb r0 r4 HWk BQ
          go_upto_region 20 with fail
          clear l3 l4
          by_cases hd : i < nD
          · have l1 : decide ((i : Int) < (nD : Int)) = true := decide_eq_true (by omega)
            have l2 : decide (i < nD) = true := decide_eq_true hd
            obtain ⟨d, hdv⟩ : ∃ d, D[i]? = some d := ⟨_, List.getElem?_eq_getElem (by have := HDU.out; omega)⟩
            obtain ⟨bo, oo, rfl, kd⟩ := rd_b_at SDA.out hdv
            have HD := Lib.hid (dl_at hdv)
            have HH := Lib.hid (show In K D x.key j (i + 1) xi (!d || false) (s || decide ((i : Int) < (j : Int) - 1)) from by rw [Bool.or_false, ← HD.out]; exact HHIT.out)
            rw [Bool.or_false] at HH
            have p2 : (i : Int) < (nD : Int) := by omega
            clear hdv hd HHIT
            have S0 := Lib.hid (show Below wa.heap.size wa w5.drew from B5.out.drew)
            refine wp_onlyN ?_
            refine wp_region_headsS (fun W' => Below wa.heap.size wa W') [0, 1, 2, 3, 4, 5, 6, 7, 8, 9, 10, 11, 12, 13, 14] 2 (by kernel_rfl) (fun _ _ _ _ _ h => h.elim) (by kernel_rfl) (by rfl) (by rfl) S0.out ?_
            simp only [pickOps, List.filterMap_cons, List.filterMap_nil, List.getElem?_toArray, List.getElem?_cons_zero, List.getElem?_cons_succ]
            refine wpHeads_step (fun K' hK => ?_)
            go_simp
            refine ⟨_, fun _ _ => rfl, hK _ ?_⟩
            clear hK K'
            refine wpHeads_step (fun K' hK => ?_)
            go_simp
            refine ⟨_, fun _ _ => rfl, hK _ ?_⟩
            clear hK K'
            refine wpHeads_step (fun K' hK => ?_)
            go_simp
            refine ⟨.pointer (some ⟨b, off + i * 4, none⟩), fun w' hw' => by go_simp, hK _ ?_⟩
            clear hK K'
            refine wpHeads_step (fun K' hK => ?_)
            go_simp
            refine ⟨.agg #[.int .u64 (xi.key : Int), .int .u32 (xi.ck : Int), .int .i64 xi.off, .int .i64 xi.sz], fun w' hw' => by
              obtain ⟨e0, e1, e2, e3⟩ := CA.out.below hw'
              simp [e0, e1, e2, e3], hK _ ?_⟩
            clear hK K'
            refine wpHeads_step (fun K' hK => ?_)
            go_simp
            refine ⟨_, fun _ _ => rfl, hK _ ?_⟩
            clear hK K'
            refine wpHeads_step (fun K' hK => ?_)
            go_simp
            refine ⟨_, fun _ _ => rfl, hK _ ?_⟩
            clear hK K'
            refine wpHeads_step (fun K' hK => ?_)
            go_simp
            refine ⟨.int .i64 (nD : Int), fun w' hw' => by go_simp, hK _ ?_⟩
            clear hK K'
            refine wpHeads_step (fun K' hK => ?_)
            go_simp
            refine ⟨.bool true, fun w' hw' => by go_simp, hK _ ?_⟩
            clear hK K'
            refine wpHeads_step (fun K' hK => ?_)
            go_simp
            refine ⟨.bool true, fun w' hw' => by go_simp, hK _ ?_⟩
            clear hK K'
            refine wpHeads_step (fun K' hK => ?_)
            go_simp
            refine ⟨_, fun _ _ => rfl, hK _ ?_⟩
            clear hK K'
            refine wpHeads_step (fun K' hK => ?_)
            go_simp
            refine ⟨_, fun _ _ => rfl, hK _ ?_⟩
            clear hK K'
            refine wpHeads_step (fun K' hK => ?_)
            go_simp
            refine ⟨.pointer (some ⟨bo, oo + i, none⟩), fun w' hw' => by go_simp, hK _ ?_⟩
            clear hK K'
            refine wpHeads_step (fun K' hK => ?_)
            go_simp
            refine ⟨.bool d, fun w' hw' => by
              have e0 := (hw'.cell (block_lt_of_cell kd)).trans kd
              simp [e0], hK _ ?_⟩
            clear hK K'
            refine wpHeads_step (fun K' hK => ?_)
            go_simp
            refine ⟨.bool d, fun w' hw' => by go_simp, hK _ ?_⟩
            clear hK K'
            refine wpHeads_step (fun K' hK => ?_)
            go_simp
            refine ⟨.bool (!d), fun w' hw' => by go_simp, hK _ ?_⟩
            clear hK K'
            refine wpHeads_nil ?_
            have dd := (Below.refl w5.heap.size w5).drew
            have hw6 := (dd.block _ (lt_of_some HW5.out)).trans HW5.out
            clear dd
            generalize w5.drew = w6 at *
            have HW6 := Lib.hid hw6
            obtain ⟨⟨e0, e1, e2, e3⟩, f0, f1, f2, f3⟩ := bx4 hw6
            have B7 := Lib.hid (below4J (k := .int .u64 (xi.key : Int)) (l := .int .u32 (xi.ck : Int)) (m := .int .i64 xi.off) (n := .int .i64 xi.sz) S0.out (Nat.le_refl wa.heap.size))
            refine held_one 15 rfl rfl (by kernel_rfl) fun K' hK => ?_
            go_simp
            refine hK _ _ B7.out ?_
            clear hK K'
            refine held_one 16 rfl rfl (by kernel_rfl) fun K' hK => ?_
            go_simp
            refine hK _ _ B7.out ?_
            clear hK K'
            refine wpAnyH_done (by kernel_rfl) ?_ _
            unfold onlyN
            dsimp only
            clear hw6 l1 l2
            go_upto_region 21 with fail
            clear e0 e1 e2 e3 f0 f1 f2 f3
            have HW7 := Lib.hid (set4J (k := .int .u64 (xi.key : Int)) (l := .int .u32 (xi.ck : Int)) (m := .int .i64 xi.off) (n := .int .i64 xi.sz) HW6.out)
            clear HW6 HW5 B5 S0
            generalize ((((w6.setCell ⟨wa.heap.size, 0, none⟩ (.int .u64 (xi.key : Int))).setCell ⟨wa.heap.size, 1, none⟩ (.int .u32 (xi.ck : Int))).setCell ⟨wa.heap.size, 2, none⟩ (.int .i64 xi.off)).setCell ⟨wa.heap.size, 3, none⟩ (.int .i64 xi.sz)) = w7 at *
            cases s
            · have HN1 := Lib.hid (show In K D x.key j (i + 1) xi (!d) (decide ((i : Int) < (j : Int) - 1)) from by have h := HH.out; rw [Bool.false_or] at h; exact h)
              obtain ⟨sq, hsq⟩ : ∃ z, z = decide ((i : Int) < (j : Int) - 1) := ⟨_, rfl⟩
              rw [← hsq] at HN1
              have es : decide ((i : Int) < wrap64 ((j : Int) - 1)) = sq := by rw [ESUB.out, hsq]
              clear hsq
              go_wp2_with fail
              go_roundw
              case rel =>
                have h1 := HI.out
                exact ⟨i + 1, xi, !d, sq, by omega, by rw [EI.out], rfl, rfl, HW7, HN1, B7⟩
              case measure =>
                have h1 := HI.out
                rw [EI.out]
                simp [intOf]; omega
            · have HN1 := Lib.hid (show In K D x.key j (i + 1) xi (!d) true from by have h := HH.out; rw [Bool.true_or] at h; exact h)
              go_wp2_with fail
              go_roundw
              case rel =>
                have h1 := HI.out
                exact ⟨i + 1, xi, !d, true, by omega, by rw [EI.out], rfl, rfl, HW7, HN1, B7⟩
              case measure =>
                have h1 := HI.out
                rw [EI.out]
                simp [intOf]; omega
          · have l1 : decide ((i : Int) < (nD : Int)) = false := decide_eq_false (by omega)
            have l2 : decide (i < nD) = false := decide_eq_false hd
            have HD := Lib.hid (dl_off (D := D) (i := i) (by have := HDU.out; omega))
            have HH := Lib.hid (show In K D x.key j (i + 1) xi (!false) (s || decide ((i : Int) < (j : Int) - 1)) from by rw [← HD.out]; exact HHIT.out)
            clear hd HHIT
            have S0 := Lib.hid (show Below wa.heap.size wa w5.drew from B5.out.drew)
            refine wp_onlyN ?_
            refine wp_region_headsS (fun W' => Below wa.heap.size wa W') [0, 1, 2, 3, 4, 5, 6, 7, 8, 9, 10, 11, 12, 13, 14] 2 (by kernel_rfl) (fun _ _ _ _ _ h => h.elim) (by kernel_rfl) (by rfl) (by rfl) S0.out ?_
            simp only [pickOps, List.filterMap_cons, List.filterMap_nil, List.getElem?_toArray, List.getElem?_cons_zero, List.getElem?_cons_succ]
            refine wpHeads_step (fun K' hK => ?_)
            go_simp
            refine ⟨_, fun _ _ => rfl, hK _ ?_⟩
            clear hK K'
            refine wpHeads_step (fun K' hK => ?_)
            go_simp
            refine ⟨_, fun _ _ => rfl, hK _ ?_⟩
            clear hK K'
            refine wpHeads_step (fun K' hK => ?_)
            go_simp
            refine ⟨.pointer (some ⟨b, off + i * 4, none⟩), fun w' hw' => by go_simp, hK _ ?_⟩
            clear hK K'
            refine wpHeads_step (fun K' hK => ?_)
            go_simp
            refine ⟨.agg #[.int .u64 (xi.key : Int), .int .u32 (xi.ck : Int), .int .i64 xi.off, .int .i64 xi.sz], fun w' hw' => by
              obtain ⟨e0, e1, e2, e3⟩ := CA.out.below hw'
              simp [e0, e1, e2, e3], hK _ ?_⟩
            clear hK K'
            refine wpHeads_step (fun K' hK => ?_)
            go_simp
            refine ⟨_, fun _ _ => rfl, hK _ ?_⟩
            clear hK K'
            refine wpHeads_step (fun K' hK => ?_)
            go_simp
            refine ⟨_, fun _ _ => rfl, hK _ ?_⟩
            clear hK K'
            refine wpHeads_step (fun K' hK => ?_)
            go_simp
            refine ⟨.int .i64 (nD : Int), fun w' hw' => by go_simp, hK _ ?_⟩
            clear hK K'
            refine wpHeads_step (fun K' hK => ?_)
            go_simp
            refine ⟨.bool false, fun w' hw' => by go_simp, hK _ ?_⟩
            clear hK K'
            refine wpHeads_step (fun K' hK => ?_)
            go_simp
            refine ⟨.bool false, fun w' hw' => by go_simp, hK _ ?_⟩
            clear hK K'
            refine wpHeads_step (fun K' hK => ?_)
            go_simp
            refine hK _ ?_
            clear hK K'
            refine wpHeads_step (fun K' hK => ?_)
            go_simp
            refine hK _ ?_
            clear hK K'
            refine wpHeads_step (fun K' hK => ?_)
            go_simp
            refine hK _ ?_
            clear hK K'
            refine wpHeads_step (fun K' hK => ?_)
            go_simp
            refine hK _ ?_
            clear hK K'
            refine wpHeads_step (fun K' hK => ?_)
            go_simp
            refine ⟨.bool false, fun w' hw' => by go_simp, hK _ ?_⟩
            clear hK K'
            refine wpHeads_step (fun K' hK => ?_)
            go_simp
            refine ⟨.bool true, fun w' hw' => by go_simp, hK _ ?_⟩
            clear hK K'
            refine wpHeads_nil ?_
            have dd := (Below.refl w5.heap.size w5).drew
            have hw6 := (dd.block _ (lt_of_some HW5.out)).trans HW5.out
            clear dd
            generalize w5.drew = w6 at *
            have HW6 := Lib.hid hw6
            obtain ⟨⟨e0, e1, e2, e3⟩, f0, f1, f2, f3⟩ := bx4 hw6
            have B7 := Lib.hid (below4J (k := .int .u64 (xi.key : Int)) (l := .int .u32 (xi.ck : Int)) (m := .int .i64 xi.off) (n := .int .i64 xi.sz) S0.out (Nat.le_refl wa.heap.size))
            refine held_one 15 rfl rfl (by kernel_rfl) fun K' hK => ?_
            go_simp
            refine hK _ _ B7.out ?_
            clear hK K'
            refine held_one 16 rfl rfl (by kernel_rfl) fun K' hK => ?_
            go_simp
            refine hK _ _ B7.out ?_
            clear hK K'
            refine wpAnyH_done (by kernel_rfl) ?_ _
            unfold onlyN
            dsimp only
            clear hw6 l1 l2
            go_upto_region 21 with fail
            clear e0 e1 e2 e3 f0 f1 f2 f3
            have HW7 := Lib.hid (set4J (k := .int .u64 (xi.key : Int)) (l := .int .u32 (xi.ck : Int)) (m := .int .i64 xi.off) (n := .int .i64 xi.sz) HW6.out)
            clear HW6 HW5 B5 S0
            generalize ((((w6.setCell ⟨wa.heap.size, 0, none⟩ (.int .u64 (xi.key : Int))).setCell ⟨wa.heap.size, 1, none⟩ (.int .u32 (xi.ck : Int))).setCell ⟨wa.heap.size, 2, none⟩ (.int .i64 xi.off)).setCell ⟨wa.heap.size, 3, none⟩ (.int .i64 xi.sz)) = w7 at *
            cases s
            · have HN1 := Lib.hid (show In K D x.key j (i + 1) xi (!false) (decide ((i : Int) < (j : Int) - 1)) from by have h := HH.out; rw [Bool.false_or] at h; exact h)
              obtain ⟨sq, hsq⟩ : ∃ z, z = decide ((i : Int) < (j : Int) - 1) := ⟨_, rfl⟩
              rw [← hsq] at HN1
              have es : decide ((i : Int) < wrap64 ((j : Int) - 1)) = sq := by rw [ESUB.out, hsq]
              clear hsq
              go_wp2_with fail
              go_roundw
              case rel =>
                have h1 := HI.out
                exact ⟨i + 1, xi, !false, sq, by omega, by rw [EI.out], rfl, rfl, HW7, HN1, B7⟩
              case measure =>
                have h1 := HI.out
                rw [EI.out]
                simp [intOf]; omega
            · have HN1 := Lib.hid (show In K D x.key j (i + 1) xi (!false) true from by have h := HH.out; rw [Bool.true_or] at h; exact h)
              go_wp2_with fail
              go_roundw
              case rel =>
                have h1 := HI.out
                exact ⟨i + 1, xi, !false, true, by omega, by rw [EI.out], rfl, rfl, HW7, HN1, B7⟩
              case measure =>
                have h1 := HI.out
                rw [EI.out]
                simp [intOf]; omega
    have l1 : decide ((i : Int) < (n : Int)) = true := decide_eq_true (by omega)
    have l2 : decide (i < n) = true := decide_eq_true hlt
    have HI := Lib.hid hlt
    have HI20 := Lib.hid (show i ≤ 20 by have := HN.out.2; omega)
    have EI := Lib.hid (show wrap64 ((i : Int) + 1) = ((i + 1 : Nat) : Int) by have := HN.out; unfold wrap64; omega)
    obtain ⟨b, off, cap, hv, -, -, hc⟩ := it_cells IK.out (by have := HN.out.1; omega)
    obtain ⟨rfl, -⟩ : aK = some ⟨b, off, none⟩ ∧ (n = K.length ∧ cK = cap) := by simpa using hv
    have hC := hc i (by have := HN.out.1; omega)
    have hxk := getT_mem (L := K) (k := i) (by have := HN.out.1; omega)
    have hxo := KOK.out _ hxk
    have hxi := IK.out.1 _ hxk
    obtain ⟨x, hx⟩ : ∃ z, z = K.getD i z0 := ⟨_, rfl⟩
    have KP := Lib.hid (show dl D i = false → Kn K D (putM mm x) (i + 1) by rw [hx]; exact fun e => kn_put KN.out HI20.out hxo e)
    have KD := Lib.hid (show dl D i = true → Kn K D (delM (putM mm x) x.key) (i + 1) by rw [hx]; exact fun e => kn_del KN.out HI20.out hxo e)
    rw [← hx] at hC hxo hxi
    have CI := Lib.hid hC
    have XO := Lib.hid (And.intro hxo hxi)
    have FW := Lib.hid (show FewN (putM mm x) (i + 1) from (put_cnt KN.out.ok KN.out.len hxo KN.out.few KN.out.hi (by have := HI20.out; omega)).2.2)
    have p0 : (0 : Int) ≤ (i : Int) := by omega
    have p1 : (i : Int) < (n : Int) := by omega
    clear hv hc hC hxk hxo hxi hx hlt hi
    go_upto_region 6 with fail
    clear l1 l2
    obtain ⟨s0, s1, s2, s3, s4, s5, s6, s7, hbx, hms⟩ := BMl.out
    obtain ⟨x0, x1, x2, x3, x4, x5, x6, x7, x8, x9⟩ := bx10 hbx
    have y0 := fun d os => cell_regrown x0 d os
    have y1 := fun d os => cell_regrown x1 d os
    have y2 := fun d os => cell_regrown x2 d os
    have y3 := fun d os => cell_regrown x3 d os
    have y4 := fun d os => cell_regrown x4 d os
    have y5 := fun d os => cell_regrown x5 d os
    have y6 := fun d os => cell_regrown x6 d os
    have y7 := fun d os => cell_regrown x7 d os
    have y8 := fun d os => cell_regrown x8 d os
    have y9 := fun d os => cell_regrown x9 d os
    have HBX := Lib.hid hbx
    have HMS := Lib.hid hms
    have hre := (CI.out.below Bl.out).re
    obtain ⟨r0, r1, r2, r3⟩ := hre
    clear x0 x1 x2 x3 x4 x5 x6 x7 x8 x9 hbx hms
    refine wp_region_bl_tail 5 (by kernel_rfl) (by kernel_rfl) ?_
    simp only [List.take_succ_cons, List.take_zero, List.drop_succ_cons, List.drop_zero]
    iterate 5 (go_big_quiet_step (fail))
    refine wpQuiet_nil ?_
    intro w4 hb
    have PC := Lib.hid (pput11_any _ mm x w4 ⟨s0, s1, s2, s3, s4, s5, s6, s7, rfl, ms_below HMS.out hb⟩ (few_of KN.out.few (by have := HI20.out; omega)) XO.out.2)
    have HBX2 := Lib.hid ((hb.block _ (lt_of_some HBX.out)).trans HBX.out)
    have HMS2 := Lib.hid (ms_below HMS.out hb)
    have B4 := Lib.hid (Bl.out.trans (hb.mono Bl.out.size))
    clear hb y0 y1 y2 y3 y4 y5 y6 y7 y8 y9 HBX HMS r0 r1 r2 r3
    go_wp2_with fail
    refine PC.out.mono ?_
    rintro e w4b ⟨⟨v8, rfl, hv8⟩, hb⟩
    obtain ⟨t0, t1, t2, t3, t4, t5, t6, t7, rfl, hms8⟩ := hv8
    have ON := Lib.hid (ms_one hms8 (putM mm x).live (putM mm x).garb)
    have HMS8 := Lib.hid hms8
    have HBX8 := Lib.hid ((hb.block _ (lt_of_some HBX2.out)).trans HBX2.out)
    have B4b := Lib.hid (B4.out.trans (hb.mono B4.out.size))
    have NU := Lib.hid (ms_u64 HMS2.out mm.live mm.garb)
    clear hb PC HBX2 HMS2 B4 hms8
    go_upto_region 7 with ((with_reducible refine storeM gb _ #[t0, t1, t2, t3, t4, t5, t6, t7, .int .i64 (putM mm x).live, .int .i64 (putM mm x).garb] ?_ ?_ HBX8.out rfl rfl ON.out ?_); exact rfl; exact rfl)
    have BM5 := Lib.hid (show BxM (w4b.setRow gb #[t0, t1, t2, t3, t4, t5, t6, t7, .int .i64 (putM mm x).live, .int .i64 (putM mm x).garb]) gb ((putM mm x)) from ⟨t0, t1, t2, t3, t4, t5, t6, t7, setRow_heap _ _ _ _ _ _ HBX8.out, ms_setRowM HMS8.out HBX8.out NU.out⟩)
    have B5 := Lib.hid (below_setRowM B4b.out HGB.out #[t0, t1, t2, t3, t4, t5, t6, t7, .int .i64 (putM mm x).live, .int .i64 (putM mm x).garb])
    clear HMS8 HBX8 NU ON B4b
    generalize w4b.setRow gb #[t0, t1, t2, t3, t4, t5, t6, t7, .int .i64 (putM mm x).live, .int .i64 (putM mm x).garb] = w5 at *
    generalize putM mm x = m5 at *
    go_cut [42] from 33 to 41 (fun tq wx => tq = .bool (dl D i) ∧ wx = w5)
    case first =>
      by_cases hd : i < nD
      · have l1 : decide ((i : Int) < (nD : Int)) = true := decide_eq_true (by omega)
        have l2 : decide (i < nD) = true := decide_eq_true hd
        obtain ⟨d, hdv⟩ : ∃ d, D[i]? = some d := ⟨_, List.getElem?_eq_getElem (by have := HDU.out; omega)⟩
        obtain ⟨bo, oo, rfl, k0⟩ := rd_b_at (rd_below SD2.out B5.out) hdv
        have HD := Lib.hid (dl_at hdv)
        have p2 : (i : Int) < (nD : Int) := by omega
        clear hdv hd
        go_wp2_with fail
        go_meet
        exact ⟨by rw [HD.out], rfl⟩
      · have l1 : decide ((i : Int) < (nD : Int)) = false := decide_eq_false (by omega)
        have l2 : decide (i < nD) = false := decide_eq_false hd
        have HD := Lib.hid (dl_off (D := D) (i := i) (by have := HDU.out; omega))
        clear hd
        go_wp2_with fail
        go_meet
        exact ⟨by rw [HD.out], rfl⟩
    case rest =>
      obtain ⟨rfl, rfl⟩ := hcut
      obtain ⟨qd, hqd⟩ : ∃ q, q = dl D i := ⟨_, rfl⟩
      rw [← hqd] at KP KD ⊢
      clear hqd
      go_upto_if 42 with fail
      cases qd
      · have KN5 := Lib.hid (KP.out rfl)
        clear KP KD
        go_wp2_with fail
        go_roundw
        case rel =>
          have h1 := HI.out
          exact ⟨i + 1, m5, by omega, by rw [EI.out], BM5, KN5, B5⟩
        case measure =>
          have h1 := HI.out
          rw [EI.out]
          simp [intOf]; omega
      · have KN5 := Lib.hid (KD.out rfl)
        clear KP KD
        go_upto_region 8 with fail
        obtain ⟨s0, s1, s2, s3, s4, s5, s6, s7, hbx, hms⟩ := BM5.out
        obtain ⟨x0, x1, x2, x3, x4, x5, x6, x7, x8, x9⟩ := bx10 hbx
        have y0 := fun d os => cell_regrown x0 d os
        have y1 := fun d os => cell_regrown x1 d os
        have y2 := fun d os => cell_regrown x2 d os
        have y3 := fun d os => cell_regrown x3 d os
        have y4 := fun d os => cell_regrown x4 d os
        have y5 := fun d os => cell_regrown x5 d os
        have y6 := fun d os => cell_regrown x6 d os
        have y7 := fun d os => cell_regrown x7 d os
        have y8 := fun d os => cell_regrown x8 d os
        have y9 := fun d os => cell_regrown x9 d os
        have HBX := Lib.hid hbx
        have HMS := Lib.hid hms
        have hre := (CI.out.below B5.out).re
        obtain ⟨r0, r1, r2, r3⟩ := hre
        clear x0 x1 x2 x3 x4 x5 x6 x7 x8 x9 hbx hms
        refine wp_region_bl_tail 6 (by kernel_rfl) (by kernel_rfl) ?_
        simp only [List.take_succ_cons, List.take_zero, List.drop_succ_cons, List.drop_zero]
        iterate 6 (go_big_quiet_step (fail))
        refine wpQuiet_nil ?_
        intro w8 hb
        have PC := Lib.hid (pdelete_any _ m5 x.key w8 ⟨s0, s1, s2, s3, s4, s5, s6, s7, rfl, ms_below HMS.out hb⟩ (few_of FW.out (by have := HI20.out; omega)))
        have HBX2 := Lib.hid ((hb.block _ (lt_of_some HBX.out)).trans HBX.out)
        have HMS2 := Lib.hid (ms_below HMS.out hb)
        have B8 := Lib.hid (B5.out.trans (hb.mono B5.out.size))
        clear hb y0 y1 y2 y3 y4 y5 y6 y7 y8 y9 HBX HMS r0 r1 r2 r3
        go_wp2_with fail
        refine PC.out.mono ?_
        rintro e w8b ⟨⟨v8, rfl, hv8⟩, hb⟩
        obtain ⟨t0, t1, t2, t3, t4, t5, t6, t7, rfl, hms8⟩ := hv8
        have ON := Lib.hid (ms_one hms8 (delM m5 x.key).live (delM m5 x.key).garb)
        have HMS8 := Lib.hid hms8
        have HBX8 := Lib.hid ((hb.block _ (lt_of_some HBX2.out)).trans HBX2.out)
        have B8b := Lib.hid (B8.out.trans (hb.mono B8.out.size))
        have NU := Lib.hid (ms_u64 HMS2.out m5.live m5.garb)
        clear hb PC HBX2 HMS2 B8 hms8
        go_wp2_with ((with_reducible refine storeM gb _ #[t0, t1, t2, t3, t4, t5, t6, t7, .int .i64 (delM m5 x.key).live, .int .i64 (delM m5 x.key).garb] ?_ ?_ HBX8.out rfl rfl ON.out ?_); exact rfl; exact rfl)
        have BM6 := Lib.hid (show BxM (w8b.setRow gb #[t0, t1, t2, t3, t4, t5, t6, t7, .int .i64 (delM m5 x.key).live, .int .i64 (delM m5 x.key).garb]) gb ((delM m5 x.key)) from ⟨t0, t1, t2, t3, t4, t5, t6, t7, setRow_heap _ _ _ _ _ _ HBX8.out, ms_setRowM HMS8.out HBX8.out NU.out⟩)
        have B6 := Lib.hid (below_setRowM B8b.out HGB.out #[t0, t1, t2, t3, t4, t5, t6, t7, .int .i64 (delM m5 x.key).live, .int .i64 (delM m5 x.key).garb])
        clear HMS8 HBX8 NU ON B8b
        go_roundw
        case rel =>
          have h1 := HI.out
          exact ⟨i + 1, _, by omega, by rw [EI.out], BM6, KN5, B6⟩
        case measure =>
          have h1 := HI.out
          rw [EI.out]
          simp [intOf]; omega
end Go.Proofs.Ytihnpjpdepoheaa.Gf
