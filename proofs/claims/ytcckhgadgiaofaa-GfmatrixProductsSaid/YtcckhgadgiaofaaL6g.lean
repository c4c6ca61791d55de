/- What is proved here: the walk of the law GfmatrixProducts. Condition: PC3. -/
import Derived.Test.YtcckhgadgiaofaaL5
import Derived.Test.YtcckhgadgiaofaaG4f
import Derived.Test.YtcckhgadgiaofaaR3c
import Derived.Test.YtcckhgadgiaofaaR3d
namespace Go.Proofs.Ytcckhgadgiaofaa.Gf
open Go Go.ChangeShapes Go.WideShapes Go.ChangeAt Go.RowKit Go.Sort Go.Proofs.Ytcckhgadgiaofaa.By Go.Proofs.Ytcckhgadgiaofaa.Qt

theorem held_two {P : Program} {ops : Array Oper} {md : Region.Mode} {Q : Exit → Act → World → Prop} {S : World → Prop} {fuel : Nat} {listed : Array Bool} {a : Act} {w : World} (i k : Nat) {oi ok : Oper} (hi : ops[i]? = some oi) (hk : ops[k]? = some ok) (hg : oi.guard = none) (hg2 : ok.guard = none) (hr : Region.ready md ops listed = [i, k])
    (h : ∀ K : Act → World → Prop, (∀ a' w', S w' → wpAnyH P md ops Q S fuel (listed.setIfInBounds i true) a' w' → K a' w') → oi.wp P a w K Q)
    (h2 : ∀ K : Act → World → Prop, (∀ a' w', S w' → wpAnyH P md ops Q S fuel (listed.setIfInBounds k true) a' w' → K a' w') → ok.wp P a w K Q) : wpAnyH P md ops Q S (fuel + 1) listed a w := by
  refine wpAnyH_all hr (by simp) fun j hj => ?_
  have hj2 : j = i ∨ j = k := by simpa using hj
  rcases hj2 with rfl | rfl
  · unfold wpOp
    simp only [hi]
    rw [if_pos (by simp [Region.wanted, hg])]
    exact Or.inl (h _ fun a' w' h1 h2 => ⟨h1, h2⟩)
  · unfold wpOp
    simp only [hk]
    rw [if_pos (by simp [Region.wanted, hg2])]
    exact Or.inl (h2 _ fun a' w' h1 h2 => ⟨h1, h2⟩)
theorem below_setRow3 {B p : Nat} {a w : World} {cs : Array Value} (h : Below B a w) (hp : B ≤ p) : Below B a (w.setRow p cs) :=
  h.trans ⟨rfl, rfl, rfl, by simp, fun k hk => setRow_other _ _ _ _ (by omega)⟩
theorem sl_setRow {Y : World} {p : Nat} {T : TypeId} {v : Value} {L : List Nat} {cs : Array Value} (s : Sl Y v L) (hz : Y.heap[p]? = some (.cells #[.int .i64 0, .int .i64 0, .slice none 0 0] T (0, 0))) : Sl (Y.setRow p cs) v L := by
  obtain ⟨h1, h2, h3⟩ := s
  refine ⟨h1, h2, ?_⟩
  rcases h3 with h3 | ⟨b, off, cap, hv, hc1, hc2, hcell⟩
  · exact Or.inl h3
  · refine Or.inr ⟨b, off, cap, hv, hc1, hc2, fun k hk => ?_⟩
    have hb : b ≠ p := fun e => by
      subst e
      have h := hcell k hk
      rw [cell_of_row _ _ _ _ _ _ hz] at h
      generalize off + k = j at h
      match j, h with
      | 0, h => simp at h
      | 1, h => simp at h
      | 2, h => simp at h
      | j + 3, h => simp at h
    exact (cell_setRow_other _ _ _ _ hb).trans (hcell k hk)
theorem mul_det (ra ca rb cb : Int) (la lb : List Nat) : ∃ (R C : Int) (L : List Nat) (E : Int), ∀ (w : World), (∀ (e : Ending) (w' : World), mulPostS ra ca la rb cb lb w e w' → MS w R C L E e w') ∧ ∀ (e : Ending) (w' : World), mulPost ra ca la rb cb lb w e w' → MS w R C L E e w' := by
  by_cases h : Vd ra ca la.length ∧ Vd rb cb lb.length ∧ ca = rb
  · exact ⟨ra, cb, _, 0, fun w => ⟨fun e w' hp => by unfold mulPostS at hp; rw [if_pos h] at hp; exact hp, fun e w' hp => by unfold mulPost at hp; rw [if_pos h] at hp; exact MO.ms hp⟩⟩
  · exact ⟨0, 0, [], 1, fun w => ⟨fun e w' hp => by unfold mulPostS at hp; rw [if_neg h] at hp; exact hp, fun e w' hp => by unfold mulPost at hp; rw [if_neg h] at hp; exact MO.ms hp⟩⟩
theorem pick_det (r c : Int) (l : List Nat) (zs : List Int) : ∃ (R C : Int) (L : List Nat) (E : Int), ∀ (w : World), (∀ (e : Ending) (w' : World), pickPostS r c l zs w e w' → MS w R C L E e w') ∧ ∀ (e : Ending) (w' : World), pickPost r c l zs w e w' → MS w R C L E e w' := by
  by_cases h : Vd r c l.length ∧ (1 ≤ zs.length ∧ zs.length ≤ 16) ∧ ∀ i, i < zs.length → 0 ≤ zs.getD i 0 ∧ zs.getD i 0 < r
  · exact ⟨_, _, _, 0, fun w => ⟨fun e w' hp => by unfold pickPostS at hp; rw [if_pos h] at hp; exact hp, fun e w' hp => by unfold pickPost at hp; rw [if_pos h] at hp; exact MO.ms hp⟩⟩
  · exact ⟨0, 0, [], 1, fun w => ⟨fun e w' hp => by unfold pickPostS at hp; rw [if_neg h] at hp; exact hp, fun e w' hp => by unfold pickPost at hp; rw [if_neg h] at hp; exact MO.ms hp⟩⟩
set_option maxRecDepth 100000 in
set_option maxHeartbeats 6400000 in
theorem prods_walk {Ok : World → Prop} (P : PC3 Ok) (r c : Int) (v : Value) (l : List Nat) (r' c' : Int) (v' : Value) (l' : List Nat) (v2 : Value) (zs : List Int) (w : World) (hr : I64 r) (hc : I64 c) (s : Sl w v l) (hr' : I64 r') (hc' : I64 c') (s' : Sl w v' l') (s2 : Si w v2 zs) (ok : Ok w) : Calls Try.prog 4 #[mv r c v, mv r' c' v', v2] w fun e w' => e = .returned (.bool true) ∧ Below w.heap.size w w' := by
  obtain ⟨R1, C1, L1, E1, hd1⟩ := mul_det r c r' c' l l'
  obtain ⟨R2, C2, L2, E2, hd2⟩ := pick_det r c l zs
  have p1 := fun w s s' ok => (P.mul r c r' c' v v' l l' w hr hc hr' hc' s s' ok).mono (hd1 w).1
  have p2 := fun w s s' => (rmul3_any r c r' c' v v' l l' w s s').mono (hd1 w).2
  have p3 := fun w s s2 ok => (P.pick r c v v2 l zs w hr hc s s2 ok).mono (hd2 w).1
  have p4 := fun w s s2 => (rpick_any r c v v2 l zs w s s2).mono (hd2 w).2
  obtain ⟨a, cap, rfl, -, -⟩ := sl_form s
  obtain ⟨a', cap', rfl, -, -⟩ := sl_form s'
  obtain ⟨a2, c2, hv2, -, -⟩ := si_form s2
  obtain ⟨n2, hn2⟩ : ∃ n, n = zs.length := ⟨_, rfl⟩
  rw [← hn2] at hv2
  subst hv2
  have P1 := Lib.hid p1
  have P2 := Lib.hid p2
  have P3 := Lib.hid p3
  have P4 := Lib.hid p4
  have AW := Lib.hid (fun w ok => awake_any P w ok)
  have ST := Lib.hid P.st
  have OK := Lib.hid ok
  have SI := Lib.hid s2
  have HV := Lib.hid (fun w => heavy_any r c a l.length cap w)
  have GV := Lib.hid (fun w => given_any r c a l.length cap w)
  have HV' := Lib.hid (fun w => heavy_any r' c' a' l'.length cap' w)
  have GV' := Lib.hid (fun w => given_any r' c' a' l'.length cap' w)
  have al1 := (Below.refl w.heap.size w).alloc (Nat.le_refl _) (.cells #[.int .i64 r, .int .i64 c, .slice a l.length cap] 24)
  have tQ : MB (w.alloc (.cells #[.int .i64 r, .int .i64 c, .slice a l.length cap] 24)) 24 w.heap.size r c a l.length cap l := MB.mk' s
  have al2 := (Below.refl (w.alloc (.cells #[.int .i64 r, .int .i64 c, .slice a l.length cap] 24)).heap.size _).alloc (Nat.le_refl _) (.cells #[.int .i64 r', .int .i64 c', .slice a' l'.length cap'] 24)
  have tQ' := MB.mk' (T := 24) (r := r') (c := c') (sl_below s' al1)
  have tQ := tQ.later al2
  have tB := bt al1 al2
  rw [show (w.alloc (.cells #[.int .i64 r, .int .i64 c, .slice a l.length cap] 24)).heap.size = w.heap.size + 1 by simp] at tQ'
  have Qm := Lib.hid tQ
  have Nm := Lib.hid tQ'
  have B := Lib.hid tB
  clear p1 p2 p3 p4 hd1 hd2 ok s s' s2 tQ tQ' tB hr hc hr' hc' hn2 al1 al2
  unfold mv at *
  generalize l.length = q at *
  generalize l'.length = q' at *
  go_enter Try.func4, Try.ntmps4
  go_wp2_with fail
  generalize hW0 : (w.alloc (.cells #[.int .i64 r, .int .i64 c, .slice a q cap] 24)).alloc (.cells #[.int .i64 r', .int .i64 c', .slice a' q' cap'] 24) = W0 at *
  clear hW0
  refine (HV.out _).mono ?_
  rintro e w1 ⟨rfl, hb1⟩
  have tQm := Qm.out.later hb1
  have tNm := Nm.out.later hb1
  have tB := bt B.out hb1
  clear B Qm Nm
  have Qm := Lib.hid tQm
  have Nm := Lib.hid tNm
  have B := Lib.hid tB
  clear tB tQm tNm
  clear hb1
  by_cases hq : 400 < q
  · have hd : decide (400 < q) = true := decide_eq_true hq
    go_wp2_with fail
    refine (AW.out w1 (ST.out _ _ OK.out B.out)).mono ?_
    rintro e w9 ⟨rfl, hb9⟩
    go_wp2_with fail
    go_ret
    exact ⟨rfl, bt B.out hb9⟩
  have hd : decide (400 < q) = false := decide_eq_false hq
  obtain ⟨Nmc0, Nmc1, Nmc2⟩ := Nm.out.cells
  go_wp2_with fail
  clear Nmc0 Nmc1 Nmc2
  refine (HV'.out _).mono ?_
  rintro e w2 ⟨rfl, hb2⟩
  have tQm := Qm.out.later hb2
  have tNm := Nm.out.later hb2
  have tB := bt B.out hb2
  clear B Qm Nm
  have Qm := Lib.hid tQm
  have Nm := Lib.hid tNm
  have B := Lib.hid tB
  clear tB tQm tNm
  clear hb2
  by_cases hq' : 400 < q'
  · have hd' : decide (400 < q') = true := decide_eq_true hq'
    go_wp2_with fail
    refine (AW.out w2 (ST.out _ _ OK.out B.out)).mono ?_
    rintro e w9 ⟨rfl, hb9⟩
    go_wp2_with fail
    go_ret
    exact ⟨rfl, bt B.out hb9⟩
  have hd' : decide (400 < q') = false := decide_eq_false hq'
  by_cases h40 : (40 : Int) < (n2 : Int)
  · go_wp2_with fail
    refine (AW.out w2 (ST.out _ _ OK.out B.out)).mono ?_
    rintro e w9 ⟨rfl, hb9⟩
    go_wp2_with fail
    go_ret
    exact ⟨rfl, bt B.out hb9⟩
  go_wp2_with fail
  obtain ⟨z0, z1, z2⟩ := cells3 Qm.out.blk
  obtain ⟨y0, y1, y2⟩ := cells3 Nm.out.blk
  refine wp_region_heads [0, 2] 9 (by kernel_rfl) (fun _ _ d _ _ h => by cases d <;> exact h) (by kernel_rfl) (by rfl) (by rfl) ?_
  simp only [pickOps, List.filterMap_cons, List.filterMap_nil, List.getElem?_toArray, List.getElem?_cons_zero, List.getElem?_cons_succ]
  repeat (refine wpHeads_step (fun K hK => ?_); go_simp; refine hK _ ?_; clear hK K)
  refine wpHeads_nil ?_
  clear z0 z1 z2 y0 y1 y2
  have hX := (Below.refl w2.heap.size w2).drew
  generalize w2.drew = X at hX ⊢
  have HX := Lib.hid hX
  clear hX
  refine held_two 1 8 rfl rfl rfl rfl (by kernel_rfl) (fun K hK => ?_) (fun K hK => ?_)
  · go_simp
    go_at_call 19
    refine (GV.out _).mono ?_
    rintro e Y1 ⟨rfl, hb⟩
    refine hK _ _ (bl_of_below (bt HX.out hb)) ?_
    clear hK K
    have tX := bt HX.out hb
    clear HX hb
    have HX := Lib.hid tX
    clear tX
    refine held_two 3 8 rfl rfl rfl rfl (by kernel_rfl) (fun K hK => ?_) (fun K hK => ?_)
    · go_simp
      go_at_call 19
      refine (GV'.out _).mono ?_
      rintro e Y2 ⟨rfl, hb⟩
      refine hK _ _ (bl_of_below (bt HX.out hb)) ?_
      clear hK K
      have tX := bt HX.out hb
      clear HX hb
      have HX := Lib.hid tX
      clear tX
      refine held_two 4 8 rfl rfl rfl rfl (by kernel_rfl) (fun K hK => ?_) (fun K hK => ?_)
      · go_simp
        go_at_call 22
        refine (P1.out _ (Qm.out.later HX.out).sl (Nm.out.later HX.out).sl (ST.out _ _ OK.out (bt B.out HX.out))).mono ?_
        unfold MS mv
        rintro e Y3 ⟨⟨s5, rfl, hs5⟩, hb⟩
        obtain ⟨a5, c5, hv5, -, -⟩ := sl_form hs5
        obtain ⟨n5, hn5⟩ : ∃ n, n = L1.length := ⟨_, rfl⟩
        rw [← hn5] at hv5
        subst hv5
        clear hn5
        refine hK _ _ (bl_of_below (bt HX.out hb)) ?_
        clear hK K
        have tX := bt HX.out hb
        clear HX hb
        have HX := Lib.hid tX
        have S5 := Lib.hid hs5
        clear tX hs5
        refine wpAnyH_take (i := 5) (v := .tuple #[.agg #[.int .i64 R1, .int .i64 C1, .slice a5 n5 c5], .int .i64 E1]) rfl (by kernel_rfl) (by kernel_rfl) (by kernel_rfl) (fun _ _ _ h => h) (Or.inl ⟨by rfl, fun w _ => by rfl⟩) (bl_of_below HX.out) ?_
        refine wpAnyH_take (i := 6) (v := .agg #[.int .i64 R1, .int .i64 C1, .slice a5 n5 c5]) rfl (by kernel_rfl) (by kernel_rfl) (by kernel_rfl) (fun _ _ _ h => h) (Or.inl ⟨by rfl, fun w _ => by rfl⟩) (bl_of_below HX.out) ?_
        refine wpAnyH_take (i := 7) (v := .int .i64 E1) rfl (by kernel_rfl) (by kernel_rfl) (by kernel_rfl) (fun _ _ _ h => h) (Or.inl ⟨by rfl, fun w _ => by rfl⟩) (bl_of_below HX.out) ?_
        refine held_one 8 rfl rfl (by kernel_rfl) fun K hK => ?_
        go_simp
        have tX := HX.out.alloc HX.out.size (.cells #[.int .i64 0, .int .i64 0, .slice none 0 0] 27)
        refine hK _ _ (bl_of_below tX) ?_
        clear hK K
        have hz := heap_alloc_new Y3 (.cells #[.int .i64 0, .int .i64 0, .slice none 0 0] 27)
        have HP := Lib.hid HX.out.size
        have tS := sl_below S5.out ((Below.refl Y3.heap.size Y3).alloc (Nat.le_refl _) (.cells #[.int .i64 0, .int .i64 0, .slice none 0 0] 27))
        clear S5
        generalize Y3.alloc (.cells #[.int .i64 0, .int .i64 0, .slice none 0 0] 27) = Y4 at *
        generalize Y3.heap.size = p at *
        have S5 := Lib.hid tS
        clear tS
        have Z := Lib.hid hz
        clear HX hz
        have HX := Lib.hid tX
        clear tX
        refine held_one 9 rfl rfl (by kernel_rfl) fun K hK => ?_
        refine wp_store_row 27 _ _ rfl p #[.int .i64 R1, .int .i64 C1, .slice a5 n5 c5] (by rfl) (by rfl) 27 _ Z.out size27 rfl (by simp [show (Value.int .i64 R1).oneCell' = true from rfl, show (Value.int .i64 C1).oneCell' = true from rfl, show (Value.slice a5 n5 c5).oneCell' = true from rfl]) ?_
        have tX := below_setRow3 (cs := #[.int .i64 R1, .int .i64 C1, .slice a5 n5 c5]) HX.out HP.out
        have tM : MB (Y4.setRow p #[.int .i64 R1, .int .i64 C1, .slice a5 n5 c5]) 27 p R1 C1 a5 n5 c5 L1 := ⟨setRow_heap _ _ _ _ _ _ Z.out, sl_setRow S5.out Z.out⟩
        refine hK _ _ (bl_of_below tX) ?_
        clear hK K
        generalize Y4.setRow p #[.int .i64 R1, .int .i64 C1, .slice a5 n5 c5] = V at tX tM ⊢
        clear HX Z S5 HP
        have M1 := Lib.hid tM
        have HX := Lib.hid tX
        clear tM tX
        refine held_one 10 rfl rfl (by kernel_rfl) fun K hK => ?_
        go_simp
        refine hK _ _ (bl_of_below HX.out) ?_
        clear hK K
        refine wpAnyH_done (by kernel_rfl) ?_ _
        have tQ := Qm.out.later HX.out
        have tN := Nm.out.later HX.out
        have tBB := bt B.out HX.out
        clear Qm Nm B HX
        have Qm := Lib.hid tQ
        have Nm := Lib.hid tN
        have B := Lib.hid tBB
        clear tQ tN tBB
        obtain ⟨Qmc0, Qmc1, Qmc2⟩ := Qm.out.cells
        obtain ⟨Nmc0, Nmc1, Nmc2⟩ := Nm.out.cells
        go_wp2_with fail
        clear Qmc0 Qmc1 Qmc2 Nmc0 Nmc1 Nmc2
        refine (P2.out V Qm.out.sl Nm.out.sl).mono ?_
        unfold MS mv
        rintro e w21 ⟨⟨s21, rfl, hs21⟩, hb21⟩
        obtain ⟨a21, c21, hv21, -, -⟩ := sl_form hs21
        obtain ⟨n21, hn21⟩ : ∃ n, n = (L1).length := ⟨_, rfl⟩
        rw [← hn21] at hv21
        subst hv21
        clear hn21
        have al21 := (Below.refl w21.heap.size w21).alloc (Nat.le_refl _) (.cells #[.int .i64 R1, .int .i64 C1, .slice a21 n21 c21] 24)
        have tnew : MB (w21.alloc (.cells #[.int .i64 R1, .int .i64 C1, .slice a21 n21 c21] 24)) 24 w21.heap.size R1 C1 a21 n21 c21 (L1) := MB.mk' hs21
        have tQm := (Qm.out.later hb21).later al21
        have tNm := (Nm.out.later hb21).later al21
        have tM1 := (M1.out.later hb21).later al21
        have tB := bt (bt B.out hb21) al21
        clear B Qm Nm M1
        have Qm := Lib.hid tQm
        have Nm := Lib.hid tNm
        have M1 := Lib.hid tM1
        have B := Lib.hid tB
        clear tB tQm tNm tM1
        have M2 := Lib.hid tnew
        clear tnew al21 hb21 hs21
        obtain ⟨Qmc0, Qmc1, Qmc2⟩ := Qm.out.cells
        go_wp2_with fail
        generalize w21.alloc (.cells #[.int .i64 R1, .int .i64 C1, .slice a21 n21 c21] 24) = W21 at *
        clear Qmc0 Qmc1 Qmc2
        refine (GV.out W21).mono ?_
        rintro e wg ⟨rfl, hbg⟩
        have tQm := Qm.out.later hbg
        have tNm := Nm.out.later hbg
        have tM1 := M1.out.later hbg
        have tM2 := M2.out.later hbg
        have tB := bt B.out hbg
        clear B Qm Nm M1 M2
        have Qm := Lib.hid tQm
        have Nm := Lib.hid tNm
        have M1 := Lib.hid tM1
        have M2 := Lib.hid tM2
        have B := Lib.hid tB
        clear tB tQm tNm tM1 tM2
        clear hbg
        go_wp2_with fail
        refine (P3.out wg Qm.out.sl (si_below SI.out B.out) (ST.out _ _ OK.out B.out)).mono ?_
        unfold MS mv
        rintro e w22 ⟨⟨s22, rfl, hs22⟩, hb22⟩
        obtain ⟨a22, c22, hv22, -, -⟩ := sl_form hs22
        obtain ⟨n22, hn22⟩ : ∃ n, n = (L2).length := ⟨_, rfl⟩
        rw [← hn22] at hv22
        subst hv22
        clear hn22
        have al22 := (Below.refl w22.heap.size w22).alloc (Nat.le_refl _) (.cells #[.int .i64 R2, .int .i64 C2, .slice a22 n22 c22] 27)
        have tnew : MB (w22.alloc (.cells #[.int .i64 R2, .int .i64 C2, .slice a22 n22 c22] 27)) 27 w22.heap.size R2 C2 a22 n22 c22 (L2) := MB.mk' hs22
        have tQm := (Qm.out.later hb22).later al22
        have tNm := (Nm.out.later hb22).later al22
        have tM1 := (M1.out.later hb22).later al22
        have tM2 := (M2.out.later hb22).later al22
        have tB := bt (bt B.out hb22) al22
        clear B Qm Nm M1 M2
        have Qm := Lib.hid tQm
        have Nm := Lib.hid tNm
        have M1 := Lib.hid tM1
        have M2 := Lib.hid tM2
        have B := Lib.hid tB
        clear tB tQm tNm tM1 tM2
        have M3 := Lib.hid tnew
        clear tnew al22 hb22 hs22
        obtain ⟨Qmc0, Qmc1, Qmc2⟩ := Qm.out.cells
        go_wp2_with fail
        generalize w22.alloc (.cells #[.int .i64 R2, .int .i64 C2, .slice a22 n22 c22] 27) = W22 at *
        clear Qmc0 Qmc1 Qmc2
        refine (P4.out W22 Qm.out.sl (si_below SI.out B.out)).mono ?_
        unfold MS mv
        rintro e w23 ⟨⟨s23, rfl, hs23⟩, hb23⟩
        obtain ⟨a23, c23, hv23, -, -⟩ := sl_form hs23
        obtain ⟨n23, hn23⟩ : ∃ n, n = (L2).length := ⟨_, rfl⟩
        rw [← hn23] at hv23
        subst hv23
        clear hn23
        have al23 := (Below.refl w23.heap.size w23).alloc (Nat.le_refl _) (.cells #[.int .i64 R2, .int .i64 C2, .slice a23 n23 c23] 24)
        have tnew : MB (w23.alloc (.cells #[.int .i64 R2, .int .i64 C2, .slice a23 n23 c23] 24)) 24 w23.heap.size R2 C2 a23 n23 c23 (L2) := MB.mk' hs23
        have tQm := (Qm.out.later hb23).later al23
        have tNm := (Nm.out.later hb23).later al23
        have tM1 := (M1.out.later hb23).later al23
        have tM2 := (M2.out.later hb23).later al23
        have tM3 := (M3.out.later hb23).later al23
        have tB := bt (bt B.out hb23) al23
        clear B Qm Nm M1 M2 M3
        have Qm := Lib.hid tQm
        have Nm := Lib.hid tNm
        have M1 := Lib.hid tM1
        have M2 := Lib.hid tM2
        have M3 := Lib.hid tM3
        have B := Lib.hid tB
        clear tB tQm tNm tM1 tM2 tM3
        have M4 := Lib.hid tnew
        clear tnew al23 hb23 hs23
        obtain ⟨M1c0, M1c1, M1c2⟩ := M1.out.cells
        obtain ⟨M2c0, M2c1, M2c2⟩ := M2.out.cells
        go_wp2_with fail
        generalize w23.alloc (.cells #[.int .i64 R2, .int .i64 C2, .slice a23 n23 c23] 24) = W23 at *
        clear M1c0 M1c1 M1c2 M2c0 M2c1 M2c2
        refine (same_any R1 C1 R1 C1 _ _ (L1) (L1) W23 M1.out.sl M2.out.sl).mono ?_
        rw [decide_eq_true (show R1 = R1 ∧ C1 = C1 ∧ (L1) = (L1) from ⟨rfl, rfl, rfl⟩)]
        rintro e W24 ⟨rfl, hb24⟩
        have tQm := Qm.out.later hb24
        have tNm := Nm.out.later hb24
        have tM1 := M1.out.later hb24
        have tM2 := M2.out.later hb24
        have tM3 := M3.out.later hb24
        have tM4 := M4.out.later hb24
        have tB := bt B.out hb24
        clear B Qm Nm M1 M2 M3 M4
        have Qm := Lib.hid tQm
        have Nm := Lib.hid tNm
        have M1 := Lib.hid tM1
        have M2 := Lib.hid tM2
        have M3 := Lib.hid tM3
        have M4 := Lib.hid tM4
        have B := Lib.hid tB
        clear tB tQm tNm tM1 tM2 tM3 tM4
        clear hb24
        obtain ⟨M3c0, M3c1, M3c2⟩ := M3.out.cells
        obtain ⟨M4c0, M4c1, M4c2⟩ := M4.out.cells
        go_wp2_with fail
        clear M3c0 M3c1 M3c2 M4c0 M4c1 M4c2
        refine (same_any R2 C2 R2 C2 _ _ (L2) (L2) W24 M3.out.sl M4.out.sl).mono ?_
        rw [decide_eq_true (show R2 = R2 ∧ C2 = C2 ∧ (L2) = (L2) from ⟨rfl, rfl, rfl⟩)]
        rintro e W25 ⟨rfl, hb25⟩
        have tQm := Qm.out.later hb25
        have tNm := Nm.out.later hb25
        have tM1 := M1.out.later hb25
        have tM2 := M2.out.later hb25
        have tM3 := M3.out.later hb25
        have tM4 := M4.out.later hb25
        have tB := bt B.out hb25
        clear B Qm Nm M1 M2 M3 M4
        have Qm := Lib.hid tQm
        have Nm := Lib.hid tNm
        have M1 := Lib.hid tM1
        have M2 := Lib.hid tM2
        have M3 := Lib.hid tM3
        have M4 := Lib.hid tM4
        have B := Lib.hid tB
        clear tB tQm tNm tM1 tM2 tM3 tM4
        clear hb25
        go_wp2_with fail
        refine (AW.out W25 (ST.out _ _ OK.out B.out)).mono ?_
        rintro e w26 ⟨rfl, hb26⟩
        go_wp2_with fail
        go_ret
        exact ⟨rfl, bt B.out hb26⟩
      · go_simp
        have tX := HX.out.alloc HX.out.size (.cells #[.int .i64 0, .int .i64 0, .slice none 0 0] 27)
        refine hK _ _ (bl_of_below tX) ?_
        clear hK K
        have hz := heap_alloc_new Y2 (.cells #[.int .i64 0, .int .i64 0, .slice none 0 0] 27)
        have HP := Lib.hid HX.out.size
        generalize Y2.alloc (.cells #[.int .i64 0, .int .i64 0, .slice none 0 0] 27) = Y5 at *
        generalize Y2.heap.size = p at *
        have Z := Lib.hid hz
        clear HX hz
        have HX := Lib.hid tX
        clear tX
        refine held_one 4 rfl rfl (by kernel_rfl) fun K hK => ?_
        go_simp
        go_at_call 22
        refine (P1.out _ (Qm.out.later HX.out).sl (Nm.out.later HX.out).sl (ST.out _ _ OK.out (bt B.out HX.out))).mono ?_
        unfold MS mv
        rintro e Y6 ⟨⟨s5, rfl, hs5⟩, hb⟩
        obtain ⟨a5, c5, hv5, -, -⟩ := sl_form hs5
        obtain ⟨n5, hn5⟩ : ∃ n, n = L1.length := ⟨_, rfl⟩
        rw [← hn5] at hv5
        subst hv5
        clear hn5
        refine hK _ _ (bl_of_below (bt HX.out hb)) ?_
        clear hK K
        have tX := bt HX.out hb
        have tZ := (hb.block _ (lt_of_some Z.out)).trans Z.out
        clear Z
        have Z := Lib.hid tZ
        clear tZ
        clear HX hb
        have HX := Lib.hid tX
        have S5 := Lib.hid hs5
        clear tX hs5
        refine wpAnyH_take (i := 5) (v := .tuple #[.agg #[.int .i64 R1, .int .i64 C1, .slice a5 n5 c5], .int .i64 E1]) rfl (by kernel_rfl) (by kernel_rfl) (by kernel_rfl) (fun _ _ _ h => h) (Or.inl ⟨by rfl, fun w _ => by rfl⟩) (bl_of_below HX.out) ?_
        refine wpAnyH_take (i := 6) (v := .agg #[.int .i64 R1, .int .i64 C1, .slice a5 n5 c5]) rfl (by kernel_rfl) (by kernel_rfl) (by kernel_rfl) (fun _ _ _ h => h) (Or.inl ⟨by rfl, fun w _ => by rfl⟩) (bl_of_below HX.out) ?_
        refine wpAnyH_take (i := 7) (v := .int .i64 E1) rfl (by kernel_rfl) (by kernel_rfl) (by kernel_rfl) (fun _ _ _ h => h) (Or.inl ⟨by rfl, fun w _ => by rfl⟩) (bl_of_below HX.out) ?_
        refine held_one 9 rfl rfl (by kernel_rfl) fun K hK => ?_
        refine wp_store_row 27 _ _ rfl p #[.int .i64 R1, .int .i64 C1, .slice a5 n5 c5] (by rfl) (by rfl) 27 _ Z.out size27 rfl (by simp [show (Value.int .i64 R1).oneCell' = true from rfl, show (Value.int .i64 C1).oneCell' = true from rfl, show (Value.slice a5 n5 c5).oneCell' = true from rfl]) ?_
        have tX := below_setRow3 (cs := #[.int .i64 R1, .int .i64 C1, .slice a5 n5 c5]) HX.out HP.out
        have tM : MB (Y6.setRow p #[.int .i64 R1, .int .i64 C1, .slice a5 n5 c5]) 27 p R1 C1 a5 n5 c5 L1 := ⟨setRow_heap _ _ _ _ _ _ Z.out, sl_setRow S5.out Z.out⟩
        refine hK _ _ (bl_of_below tX) ?_
        clear hK K
        generalize Y6.setRow p #[.int .i64 R1, .int .i64 C1, .slice a5 n5 c5] = V at tX tM ⊢
        clear HX Z S5 HP
        have M1 := Lib.hid tM
        have HX := Lib.hid tX
        clear tM tX
        refine held_one 10 rfl rfl (by kernel_rfl) fun K hK => ?_
        go_simp
        refine hK _ _ (bl_of_below HX.out) ?_
        clear hK K
        refine wpAnyH_done (by kernel_rfl) ?_ _
        have tQ := Qm.out.later HX.out
        have tN := Nm.out.later HX.out
        have tBB := bt B.out HX.out
        clear Qm Nm B HX
        have Qm := Lib.hid tQ
        have Nm := Lib.hid tN
        have B := Lib.hid tBB
        clear tQ tN tBB
        obtain ⟨Qmc0, Qmc1, Qmc2⟩ := Qm.out.cells
        obtain ⟨Nmc0, Nmc1, Nmc2⟩ := Nm.out.cells
        go_wp2_with fail
        clear Qmc0 Qmc1 Qmc2 Nmc0 Nmc1 Nmc2
        refine (P2.out V Qm.out.sl Nm.out.sl).mono ?_
        unfold MS mv
        rintro e w21 ⟨⟨s21, rfl, hs21⟩, hb21⟩
        obtain ⟨a21, c21, hv21, -, -⟩ := sl_form hs21
        obtain ⟨n21, hn21⟩ : ∃ n, n = (L1).length := ⟨_, rfl⟩
        rw [← hn21] at hv21
        subst hv21
        clear hn21
        have al21 := (Below.refl w21.heap.size w21).alloc (Nat.le_refl _) (.cells #[.int .i64 R1, .int .i64 C1, .slice a21 n21 c21] 24)
        have tnew : MB (w21.alloc (.cells #[.int .i64 R1, .int .i64 C1, .slice a21 n21 c21] 24)) 24 w21.heap.size R1 C1 a21 n21 c21 (L1) := MB.mk' hs21
        have tQm := (Qm.out.later hb21).later al21
        have tNm := (Nm.out.later hb21).later al21
        have tM1 := (M1.out.later hb21).later al21
        have tB := bt (bt B.out hb21) al21
        clear B Qm Nm M1
        have Qm := Lib.hid tQm
        have Nm := Lib.hid tNm
        have M1 := Lib.hid tM1
        have B := Lib.hid tB
        clear tB tQm tNm tM1
        have M2 := Lib.hid tnew
        clear tnew al21 hb21 hs21
        obtain ⟨Qmc0, Qmc1, Qmc2⟩ := Qm.out.cells
        go_wp2_with fail
        generalize w21.alloc (.cells #[.int .i64 R1, .int .i64 C1, .slice a21 n21 c21] 24) = W21 at *
        clear Qmc0 Qmc1 Qmc2
        refine (GV.out W21).mono ?_
        rintro e wg ⟨rfl, hbg⟩
        have tQm := Qm.out.later hbg
        have tNm := Nm.out.later hbg
        have tM1 := M1.out.later hbg
        have tM2 := M2.out.later hbg
        have tB := bt B.out hbg
        clear B Qm Nm M1 M2
        have Qm := Lib.hid tQm
        have Nm := Lib.hid tNm
        have M1 := Lib.hid tM1
        have M2 := Lib.hid tM2
        have B := Lib.hid tB
        clear tB tQm tNm tM1 tM2
        clear hbg
        go_wp2_with fail
        refine (P3.out wg Qm.out.sl (si_below SI.out B.out) (ST.out _ _ OK.out B.out)).mono ?_
        unfold MS mv
        rintro e w22 ⟨⟨s22, rfl, hs22⟩, hb22⟩
        obtain ⟨a22, c22, hv22, -, -⟩ := sl_form hs22
        obtain ⟨n22, hn22⟩ : ∃ n, n = (L2).length := ⟨_, rfl⟩
        rw [← hn22] at hv22
        subst hv22
        clear hn22
        have al22 := (Below.refl w22.heap.size w22).alloc (Nat.le_refl _) (.cells #[.int .i64 R2, .int .i64 C2, .slice a22 n22 c22] 27)
        have tnew : MB (w22.alloc (.cells #[.int .i64 R2, .int .i64 C2, .slice a22 n22 c22] 27)) 27 w22.heap.size R2 C2 a22 n22 c22 (L2) := MB.mk' hs22
        have tQm := (Qm.out.later hb22).later al22
        have tNm := (Nm.out.later hb22).later al22
        have tM1 := (M1.out.later hb22).later al22
        have tM2 := (M2.out.later hb22).later al22
        have tB := bt (bt B.out hb22) al22
        clear B Qm Nm M1 M2
        have Qm := Lib.hid tQm
        have Nm := Lib.hid tNm
        have M1 := Lib.hid tM1
        have M2 := Lib.hid tM2
        have B := Lib.hid tB
        clear tB tQm tNm tM1 tM2
        have M3 := Lib.hid tnew
        clear tnew al22 hb22 hs22
        obtain ⟨Qmc0, Qmc1, Qmc2⟩ := Qm.out.cells
        go_wp2_with fail
        generalize w22.alloc (.cells #[.int .i64 R2, .int .i64 C2, .slice a22 n22 c22] 27) = W22 at *
        clear Qmc0 Qmc1 Qmc2
        refine (P4.out W22 Qm.out.sl (si_below SI.out B.out)).mono ?_
        unfold MS mv
        rintro e w23 ⟨⟨s23, rfl, hs23⟩, hb23⟩
        obtain ⟨a23, c23, hv23, -, -⟩ := sl_form hs23
        obtain ⟨n23, hn23⟩ : ∃ n, n = (L2).length := ⟨_, rfl⟩
        rw [← hn23] at hv23
        subst hv23
        clear hn23
        have al23 := (Below.refl w23.heap.size w23).alloc (Nat.le_refl _) (.cells #[.int .i64 R2, .int .i64 C2, .slice a23 n23 c23] 24)
        have tnew : MB (w23.alloc (.cells #[.int .i64 R2, .int .i64 C2, .slice a23 n23 c23] 24)) 24 w23.heap.size R2 C2 a23 n23 c23 (L2) := MB.mk' hs23
        have tQm := (Qm.out.later hb23).later al23
        have tNm := (Nm.out.later hb23).later al23
        have tM1 := (M1.out.later hb23).later al23
        have tM2 := (M2.out.later hb23).later al23
        have tM3 := (M3.out.later hb23).later al23
        have tB := bt (bt B.out hb23) al23
        clear B Qm Nm M1 M2 M3
        have Qm := Lib.hid tQm
        have Nm := Lib.hid tNm
        have M1 := Lib.hid tM1
        have M2 := Lib.hid tM2
        have M3 := Lib.hid tM3
        have B := Lib.hid tB
        clear tB tQm tNm tM1 tM2 tM3
        have M4 := Lib.hid tnew
        clear tnew al23 hb23 hs23
        obtain ⟨M1c0, M1c1, M1c2⟩ := M1.out.cells
        obtain ⟨M2c0, M2c1, M2c2⟩ := M2.out.cells
        go_wp2_with fail
        generalize w23.alloc (.cells #[.int .i64 R2, .int .i64 C2, .slice a23 n23 c23] 24) = W23 at *
        clear M1c0 M1c1 M1c2 M2c0 M2c1 M2c2
        refine (same_any R1 C1 R1 C1 _ _ (L1) (L1) W23 M1.out.sl M2.out.sl).mono ?_
        rw [decide_eq_true (show R1 = R1 ∧ C1 = C1 ∧ (L1) = (L1) from ⟨rfl, rfl, rfl⟩)]
        rintro e W24 ⟨rfl, hb24⟩
        have tQm := Qm.out.later hb24
        have tNm := Nm.out.later hb24
        have tM1 := M1.out.later hb24
        have tM2 := M2.out.later hb24
        have tM3 := M3.out.later hb24
        have tM4 := M4.out.later hb24
        have tB := bt B.out hb24
        clear B Qm Nm M1 M2 M3 M4
        have Qm := Lib.hid tQm
        have Nm := Lib.hid tNm
        have M1 := Lib.hid tM1
        have M2 := Lib.hid tM2
        have M3 := Lib.hid tM3
        have M4 := Lib.hid tM4
        have B := Lib.hid tB
        clear tB tQm tNm tM1 tM2 tM3 tM4
        clear hb24
        obtain ⟨M3c0, M3c1, M3c2⟩ := M3.out.cells
        obtain ⟨M4c0, M4c1, M4c2⟩ := M4.out.cells
        go_wp2_with fail
        clear M3c0 M3c1 M3c2 M4c0 M4c1 M4c2
        refine (same_any R2 C2 R2 C2 _ _ (L2) (L2) W24 M3.out.sl M4.out.sl).mono ?_
        rw [decide_eq_true (show R2 = R2 ∧ C2 = C2 ∧ (L2) = (L2) from ⟨rfl, rfl, rfl⟩)]
        rintro e W25 ⟨rfl, hb25⟩
        have tQm := Qm.out.later hb25
        have tNm := Nm.out.later hb25
        have tM1 := M1.out.later hb25
        have tM2 := M2.out.later hb25
        have tM3 := M3.out.later hb25
        have tM4 := M4.out.later hb25
        have tB := bt B.out hb25
        clear B Qm Nm M1 M2 M3 M4
        have Qm := Lib.hid tQm
        have Nm := Lib.hid tNm
        have M1 := Lib.hid tM1
        have M2 := Lib.hid tM2
        have M3 := Lib.hid tM3
        have M4 := Lib.hid tM4
        have B := Lib.hid tB
        clear tB tQm tNm tM1 tM2 tM3 tM4
        clear hb25
        go_wp2_with fail
        refine (AW.out W25 (ST.out _ _ OK.out B.out)).mono ?_
        rintro e w26 ⟨rfl, hb26⟩
        go_wp2_with fail
        go_ret
        exact ⟨rfl, bt B.out hb26⟩
    · go_simp
      have tX := HX.out.alloc HX.out.size (.cells #[.int .i64 0, .int .i64 0, .slice none 0 0] 27)
      refine hK _ _ (bl_of_below tX) ?_
      clear hK K
      have hz := heap_alloc_new Y1 (.cells #[.int .i64 0, .int .i64 0, .slice none 0 0] 27)
      have HP := Lib.hid HX.out.size
      generalize Y1.alloc (.cells #[.int .i64 0, .int .i64 0, .slice none 0 0] 27) = Y7 at *
      generalize Y1.heap.size = p at *
      have Z := Lib.hid hz
      clear HX hz
      have HX := Lib.hid tX
      clear tX
      refine held_one 3 rfl rfl (by kernel_rfl) fun K hK => ?_
      go_simp
      go_at_call 19
      refine (GV'.out _).mono ?_
      rintro e Y8 ⟨rfl, hb⟩
      refine hK _ _ (bl_of_below (bt HX.out hb)) ?_
      clear hK K
      have tX := bt HX.out hb
      have tZ := (hb.block _ (lt_of_some Z.out)).trans Z.out
      clear Z
      have Z := Lib.hid tZ
      clear tZ
      clear HX hb
      have HX := Lib.hid tX
      clear tX
      refine held_one 4 rfl rfl (by kernel_rfl) fun K hK => ?_
      go_simp
      go_at_call 22
      refine (P1.out _ (Qm.out.later HX.out).sl (Nm.out.later HX.out).sl (ST.out _ _ OK.out (bt B.out HX.out))).mono ?_
      unfold MS mv
      rintro e Y9 ⟨⟨s5, rfl, hs5⟩, hb⟩
      obtain ⟨a5, c5, hv5, -, -⟩ := sl_form hs5
      obtain ⟨n5, hn5⟩ : ∃ n, n = L1.length := ⟨_, rfl⟩
      rw [← hn5] at hv5
      subst hv5
      clear hn5
      refine hK _ _ (bl_of_below (bt HX.out hb)) ?_
      clear hK K
      have tX := bt HX.out hb
      have tZ := (hb.block _ (lt_of_some Z.out)).trans Z.out
      clear Z
      have Z := Lib.hid tZ
      clear tZ
      clear HX hb
      have HX := Lib.hid tX
      have S5 := Lib.hid hs5
      clear tX hs5
      refine wpAnyH_take (i := 5) (v := .tuple #[.agg #[.int .i64 R1, .int .i64 C1, .slice a5 n5 c5], .int .i64 E1]) rfl (by kernel_rfl) (by kernel_rfl) (by kernel_rfl) (fun _ _ _ h => h) (Or.inl ⟨by rfl, fun w _ => by rfl⟩) (bl_of_below HX.out) ?_
      refine wpAnyH_take (i := 6) (v := .agg #[.int .i64 R1, .int .i64 C1, .slice a5 n5 c5]) rfl (by kernel_rfl) (by kernel_rfl) (by kernel_rfl) (fun _ _ _ h => h) (Or.inl ⟨by rfl, fun w _ => by rfl⟩) (bl_of_below HX.out) ?_
      refine wpAnyH_take (i := 7) (v := .int .i64 E1) rfl (by kernel_rfl) (by kernel_rfl) (by kernel_rfl) (fun _ _ _ h => h) (Or.inl ⟨by rfl, fun w _ => by rfl⟩) (bl_of_below HX.out) ?_
      refine held_one 9 rfl rfl (by kernel_rfl) fun K hK => ?_
      refine wp_store_row 27 _ _ rfl p #[.int .i64 R1, .int .i64 C1, .slice a5 n5 c5] (by rfl) (by rfl) 27 _ Z.out size27 rfl (by simp [show (Value.int .i64 R1).oneCell' = true from rfl, show (Value.int .i64 C1).oneCell' = true from rfl, show (Value.slice a5 n5 c5).oneCell' = true from rfl]) ?_
      have tX := below_setRow3 (cs := #[.int .i64 R1, .int .i64 C1, .slice a5 n5 c5]) HX.out HP.out
      have tM : MB (Y9.setRow p #[.int .i64 R1, .int .i64 C1, .slice a5 n5 c5]) 27 p R1 C1 a5 n5 c5 L1 := ⟨setRow_heap _ _ _ _ _ _ Z.out, sl_setRow S5.out Z.out⟩
      refine hK _ _ (bl_of_below tX) ?_
      clear hK K
      generalize Y9.setRow p #[.int .i64 R1, .int .i64 C1, .slice a5 n5 c5] = V at tX tM ⊢
      clear HX Z S5 HP
      have M1 := Lib.hid tM
      have HX := Lib.hid tX
      clear tM tX
      refine held_one 10 rfl rfl (by kernel_rfl) fun K hK => ?_
      go_simp
      refine hK _ _ (bl_of_below HX.out) ?_
      clear hK K
      refine wpAnyH_done (by kernel_rfl) ?_ _
      have tQ := Qm.out.later HX.out
      have tN := Nm.out.later HX.out
      have tBB := bt B.out HX.out
      clear Qm Nm B HX
      have Qm := Lib.hid tQ
      have Nm := Lib.hid tN
      have B := Lib.hid tBB
      clear tQ tN tBB
      obtain ⟨Qmc0, Qmc1, Qmc2⟩ := Qm.out.cells
      obtain ⟨Nmc0, Nmc1, Nmc2⟩ := Nm.out.cells
      go_wp2_with fail
      clear Qmc0 Qmc1 Qmc2 Nmc0 Nmc1 Nmc2
      refine (P2.out V Qm.out.sl Nm.out.sl).mono ?_
      unfold MS mv
      rintro e w21 ⟨⟨s21, rfl, hs21⟩, hb21⟩
      obtain ⟨a21, c21, hv21, -, -⟩ := sl_form hs21
      obtain ⟨n21, hn21⟩ : ∃ n, n = (L1).length := ⟨_, rfl⟩
      rw [← hn21] at hv21
      subst hv21
      clear hn21
      have al21 := (Below.refl w21.heap.size w21).alloc (Nat.le_refl _) (.cells #[.int .i64 R1, .int .i64 C1, .slice a21 n21 c21] 24)
      have tnew : MB (w21.alloc (.cells #[.int .i64 R1, .int .i64 C1, .slice a21 n21 c21] 24)) 24 w21.heap.size R1 C1 a21 n21 c21 (L1) := MB.mk' hs21
      have tQm := (Qm.out.later hb21).later al21
      have tNm := (Nm.out.later hb21).later al21
      have tM1 := (M1.out.later hb21).later al21
      have tB := bt (bt B.out hb21) al21
      clear B Qm Nm M1
      have Qm := Lib.hid tQm
      have Nm := Lib.hid tNm
      have M1 := Lib.hid tM1
      have B := Lib.hid tB
      clear tB tQm tNm tM1
      have M2 := Lib.hid tnew
      clear tnew al21 hb21 hs21
      obtain ⟨Qmc0, Qmc1, Qmc2⟩ := Qm.out.cells
      go_wp2_with fail
      generalize w21.alloc (.cells #[.int .i64 R1, .int .i64 C1, .slice a21 n21 c21] 24) = W21 at *
      clear Qmc0 Qmc1 Qmc2
      refine (GV.out W21).mono ?_
      rintro e wg ⟨rfl, hbg⟩
      have tQm := Qm.out.later hbg
      have tNm := Nm.out.later hbg
      have tM1 := M1.out.later hbg
      have tM2 := M2.out.later hbg
      have tB := bt B.out hbg
      clear B Qm Nm M1 M2
      have Qm := Lib.hid tQm
      have Nm := Lib.hid tNm
      have M1 := Lib.hid tM1
      have M2 := Lib.hid tM2
      have B := Lib.hid tB
      clear tB tQm tNm tM1 tM2
      clear hbg
      go_wp2_with fail
      refine (P3.out wg Qm.out.sl (si_below SI.out B.out) (ST.out _ _ OK.out B.out)).mono ?_
      unfold MS mv
      rintro e w22 ⟨⟨s22, rfl, hs22⟩, hb22⟩
      obtain ⟨a22, c22, hv22, -, -⟩ := sl_form hs22
      obtain ⟨n22, hn22⟩ : ∃ n, n = (L2).length := ⟨_, rfl⟩
      rw [← hn22] at hv22
      subst hv22
      clear hn22
      have al22 := (Below.refl w22.heap.size w22).alloc (Nat.le_refl _) (.cells #[.int .i64 R2, .int .i64 C2, .slice a22 n22 c22] 27)
      have tnew : MB (w22.alloc (.cells #[.int .i64 R2, .int .i64 C2, .slice a22 n22 c22] 27)) 27 w22.heap.size R2 C2 a22 n22 c22 (L2) := MB.mk' hs22
      have tQm := (Qm.out.later hb22).later al22
      have tNm := (Nm.out.later hb22).later al22
      have tM1 := (M1.out.later hb22).later al22
      have tM2 := (M2.out.later hb22).later al22
      have tB := bt (bt B.out hb22) al22
      clear B Qm Nm M1 M2
      have Qm := Lib.hid tQm
      have Nm := Lib.hid tNm
      have M1 := Lib.hid tM1
      have M2 := Lib.hid tM2
      have B := Lib.hid tB
      clear tB tQm tNm tM1 tM2
      have M3 := Lib.hid tnew
      clear tnew al22 hb22 hs22
      obtain ⟨Qmc0, Qmc1, Qmc2⟩ := Qm.out.cells
      go_wp2_with fail
      generalize w22.alloc (.cells #[.int .i64 R2, .int .i64 C2, .slice a22 n22 c22] 27) = W22 at *
      clear Qmc0 Qmc1 Qmc2
      refine (P4.out W22 Qm.out.sl (si_below SI.out B.out)).mono ?_
      unfold MS mv
      rintro e w23 ⟨⟨s23, rfl, hs23⟩, hb23⟩
      obtain ⟨a23, c23, hv23, -, -⟩ := sl_form hs23
      obtain ⟨n23, hn23⟩ : ∃ n, n = (L2).length := ⟨_, rfl⟩
      rw [← hn23] at hv23
      subst hv23
      clear hn23
      have al23 := (Below.refl w23.heap.size w23).alloc (Nat.le_refl _) (.cells #[.int .i64 R2, .int .i64 C2, .slice a23 n23 c23] 24)
      have tnew : MB (w23.alloc (.cells #[.int .i64 R2, .int .i64 C2, .slice a23 n23 c23] 24)) 24 w23.heap.size R2 C2 a23 n23 c23 (L2) := MB.mk' hs23
      have tQm := (Qm.out.later hb23).later al23
      have tNm := (Nm.out.later hb23).later al23
      have tM1 := (M1.out.later hb23).later al23
      have tM2 := (M2.out.later hb23).later al23
      have tM3 := (M3.out.later hb23).later al23
      have tB := bt (bt B.out hb23) al23
      clear B Qm Nm M1 M2 M3
      have Qm := Lib.hid tQm
      have Nm := Lib.hid tNm
      have M1 := Lib.hid tM1
      have M2 := Lib.hid tM2
      have M3 := Lib.hid tM3
      have B := Lib.hid tB
      clear tB tQm tNm tM1 tM2 tM3
      have M4 := Lib.hid tnew
      clear tnew al23 hb23 hs23
      obtain ⟨M1c0, M1c1, M1c2⟩ := M1.out.cells
      obtain ⟨M2c0, M2c1, M2c2⟩ := M2.out.cells
      go_wp2_with fail
      generalize w23.alloc (.cells #[.int .i64 R2, .int .i64 C2, .slice a23 n23 c23] 24) = W23 at *
      clear M1c0 M1c1 M1c2 M2c0 M2c1 M2c2
      refine (same_any R1 C1 R1 C1 _ _ (L1) (L1) W23 M1.out.sl M2.out.sl).mono ?_
      rw [decide_eq_true (show R1 = R1 ∧ C1 = C1 ∧ (L1) = (L1) from ⟨rfl, rfl, rfl⟩)]
      rintro e W24 ⟨rfl, hb24⟩
      have tQm := Qm.out.later hb24
      have tNm := Nm.out.later hb24
      have tM1 := M1.out.later hb24
      have tM2 := M2.out.later hb24
      have tM3 := M3.out.later hb24
      have tM4 := M4.out.later hb24
      have tB := bt B.out hb24
      clear B Qm Nm M1 M2 M3 M4
      have Qm := Lib.hid tQm
      have Nm := Lib.hid tNm
      have M1 := Lib.hid tM1
      have M2 := Lib.hid tM2
      have M3 := Lib.hid tM3
      have M4 := Lib.hid tM4
      have B := Lib.hid tB
      clear tB tQm tNm tM1 tM2 tM3 tM4
      clear hb24
      obtain ⟨M3c0, M3c1, M3c2⟩ := M3.out.cells
      obtain ⟨M4c0, M4c1, M4c2⟩ := M4.out.cells
      go_wp2_with fail
      clear M3c0 M3c1 M3c2 M4c0 M4c1 M4c2
      refine (same_any R2 C2 R2 C2 _ _ (L2) (L2) W24 M3.out.sl M4.out.sl).mono ?_
      rw [decide_eq_true (show R2 = R2 ∧ C2 = C2 ∧ (L2) = (L2) from ⟨rfl, rfl, rfl⟩)]
      rintro e W25 ⟨rfl, hb25⟩
      have tQm := Qm.out.later hb25
      have tNm := Nm.out.later hb25
      have tM1 := M1.out.later hb25
      have tM2 := M2.out.later hb25
      have tM3 := M3.out.later hb25
      have tM4 := M4.out.later hb25
      have tB := bt B.out hb25
      clear B Qm Nm M1 M2 M3 M4
      have Qm := Lib.hid tQm
      have Nm := Lib.hid tNm
      have M1 := Lib.hid tM1
      have M2 := Lib.hid tM2
      have M3 := Lib.hid tM3
      have M4 := Lib.hid tM4
      have B := Lib.hid tB
      clear tB tQm tNm tM1 tM2 tM3 tM4
      clear hb25
      go_wp2_with fail
      refine (AW.out W25 (ST.out _ _ OK.out B.out)).mono ?_
      rintro e w26 ⟨rfl, hb26⟩
      go_wp2_with fail
      go_ret
      exact ⟨rfl, bt B.out hb26⟩
  · go_simp
    have tX := HX.out.alloc HX.out.size (.cells #[.int .i64 0, .int .i64 0, .slice none 0 0] 27)
    refine hK _ _ (bl_of_below tX) ?_
    clear hK K
    have hz := heap_alloc_new X (.cells #[.int .i64 0, .int .i64 0, .slice none 0 0] 27)
    have HP := Lib.hid HX.out.size
    generalize X.alloc (.cells #[.int .i64 0, .int .i64 0, .slice none 0 0] 27) = Y10 at *
    generalize X.heap.size = p at *
    have Z := Lib.hid hz
    clear HX hz
    have HX := Lib.hid tX
    clear tX
    refine held_one 1 rfl rfl (by kernel_rfl) fun K hK => ?_
    go_simp
    go_at_call 19
    refine (GV.out _).mono ?_
    rintro e Y11 ⟨rfl, hb⟩
    refine hK _ _ (bl_of_below (bt HX.out hb)) ?_
    clear hK K
    have tX := bt HX.out hb
    have tZ := (hb.block _ (lt_of_some Z.out)).trans Z.out
    clear Z
    have Z := Lib.hid tZ
    clear tZ
    clear HX hb
    have HX := Lib.hid tX
    clear tX
    refine held_one 3 rfl rfl (by kernel_rfl) fun K hK => ?_
    go_simp
    go_at_call 19
    refine (GV'.out _).mono ?_
    rintro e Y12 ⟨rfl, hb⟩
    refine hK _ _ (bl_of_below (bt HX.out hb)) ?_
    clear hK K
    have tX := bt HX.out hb
    have tZ := (hb.block _ (lt_of_some Z.out)).trans Z.out
    clear Z
    have Z := Lib.hid tZ
    clear tZ
    clear HX hb
    have HX := Lib.hid tX
    clear tX
    refine held_one 4 rfl rfl (by kernel_rfl) fun K hK => ?_
    go_simp
    go_at_call 22
    refine (P1.out _ (Qm.out.later HX.out).sl (Nm.out.later HX.out).sl (ST.out _ _ OK.out (bt B.out HX.out))).mono ?_
    unfold MS mv
    rintro e Y13 ⟨⟨s5, rfl, hs5⟩, hb⟩
    obtain ⟨a5, c5, hv5, -, -⟩ := sl_form hs5
    obtain ⟨n5, hn5⟩ : ∃ n, n = L1.length := ⟨_, rfl⟩
    rw [← hn5] at hv5
    subst hv5
    clear hn5
    refine hK _ _ (bl_of_below (bt HX.out hb)) ?_
    clear hK K
    have tX := bt HX.out hb
    have tZ := (hb.block _ (lt_of_some Z.out)).trans Z.out
    clear Z
    have Z := Lib.hid tZ
    clear tZ
    clear HX hb
    have HX := Lib.hid tX
    have S5 := Lib.hid hs5
    clear tX hs5
    refine wpAnyH_take (i := 5) (v := .tuple #[.agg #[.int .i64 R1, .int .i64 C1, .slice a5 n5 c5], .int .i64 E1]) rfl (by kernel_rfl) (by kernel_rfl) (by kernel_rfl) (fun _ _ _ h => h) (Or.inl ⟨by rfl, fun w _ => by rfl⟩) (bl_of_below HX.out) ?_
    refine wpAnyH_take (i := 6) (v := .agg #[.int .i64 R1, .int .i64 C1, .slice a5 n5 c5]) rfl (by kernel_rfl) (by kernel_rfl) (by kernel_rfl) (fun _ _ _ h => h) (Or.inl ⟨by rfl, fun w _ => by rfl⟩) (bl_of_below HX.out) ?_
    refine wpAnyH_take (i := 7) (v := .int .i64 E1) rfl (by kernel_rfl) (by kernel_rfl) (by kernel_rfl) (fun _ _ _ h => h) (Or.inl ⟨by rfl, fun w _ => by rfl⟩) (bl_of_below HX.out) ?_
    refine held_one 9 rfl rfl (by kernel_rfl) fun K hK => ?_
    refine wp_store_row 27 _ _ rfl p #[.int .i64 R1, .int .i64 C1, .slice a5 n5 c5] (by rfl) (by rfl) 27 _ Z.out size27 rfl (by simp [show (Value.int .i64 R1).oneCell' = true from rfl, show (Value.int .i64 C1).oneCell' = true from rfl, show (Value.slice a5 n5 c5).oneCell' = true from rfl]) ?_
    have tX := below_setRow3 (cs := #[.int .i64 R1, .int .i64 C1, .slice a5 n5 c5]) HX.out HP.out
    have tM : MB (Y13.setRow p #[.int .i64 R1, .int .i64 C1, .slice a5 n5 c5]) 27 p R1 C1 a5 n5 c5 L1 := ⟨setRow_heap _ _ _ _ _ _ Z.out, sl_setRow S5.out Z.out⟩
    refine hK _ _ (bl_of_below tX) ?_
    clear hK K
    generalize Y13.setRow p #[.int .i64 R1, .int .i64 C1, .slice a5 n5 c5] = V at tX tM ⊢
    clear HX Z S5 HP
    have M1 := Lib.hid tM
    have HX := Lib.hid tX
    clear tM tX
    refine held_one 10 rfl rfl (by kernel_rfl) fun K hK => ?_
    go_simp
    refine hK _ _ (bl_of_below HX.out) ?_
    clear hK K
    refine wpAnyH_done (by kernel_rfl) ?_ _
    have tQ := Qm.out.later HX.out
    have tN := Nm.out.later HX.out
    have tBB := bt B.out HX.out
    clear Qm Nm B HX
    have Qm := Lib.hid tQ
    have Nm := Lib.hid tN
    have B := Lib.hid tBB
    clear tQ tN tBB
    obtain ⟨Qmc0, Qmc1, Qmc2⟩ := Qm.out.cells
    obtain ⟨Nmc0, Nmc1, Nmc2⟩ := Nm.out.cells
    go_wp2_with fail
    clear Qmc0 Qmc1 Qmc2 Nmc0 Nmc1 Nmc2
    refine (P2.out V Qm.out.sl Nm.out.sl).mono ?_
    unfold MS mv
    rintro e w21 ⟨⟨s21, rfl, hs21⟩, hb21⟩
    obtain ⟨a21, c21, hv21, -, -⟩ := sl_form hs21
    obtain ⟨n21, hn21⟩ : ∃ n, n = (L1).length := ⟨_, rfl⟩
    rw [← hn21] at hv21
    subst hv21
    clear hn21
    have al21 := (Below.refl w21.heap.size w21).alloc (Nat.le_refl _) (.cells #[.int .i64 R1, .int .i64 C1, .slice a21 n21 c21] 24)
    have tnew : MB (w21.alloc (.cells #[.int .i64 R1, .int .i64 C1, .slice a21 n21 c21] 24)) 24 w21.heap.size R1 C1 a21 n21 c21 (L1) := MB.mk' hs21
    have tQm := (Qm.out.later hb21).later al21
    have tNm := (Nm.out.later hb21).later al21
    have tM1 := (M1.out.later hb21).later al21
    have tB := bt (bt B.out hb21) al21
    clear B Qm Nm M1
    have Qm := Lib.hid tQm
    have Nm := Lib.hid tNm
    have M1 := Lib.hid tM1
    have B := Lib.hid tB
    clear tB tQm tNm tM1
    have M2 := Lib.hid tnew
    clear tnew al21 hb21 hs21
    obtain ⟨Qmc0, Qmc1, Qmc2⟩ := Qm.out.cells
    go_wp2_with fail
    generalize w21.alloc (.cells #[.int .i64 R1, .int .i64 C1, .slice a21 n21 c21] 24) = W21 at *
    clear Qmc0 Qmc1 Qmc2
    refine (GV.out W21).mono ?_
    rintro e wg ⟨rfl, hbg⟩
    have tQm := Qm.out.later hbg
    have tNm := Nm.out.later hbg
    have tM1 := M1.out.later hbg
    have tM2 := M2.out.later hbg
    have tB := bt B.out hbg
    clear B Qm Nm M1 M2
    have Qm := Lib.hid tQm
    have Nm := Lib.hid tNm
    have M1 := Lib.hid tM1
    have M2 := Lib.hid tM2
    have B := Lib.hid tB
    clear tB tQm tNm tM1 tM2
    clear hbg
    go_wp2_with fail
    refine (P3.out wg Qm.out.sl (si_below SI.out B.out) (ST.out _ _ OK.out B.out)).mono ?_
    unfold MS mv
    rintro e w22 ⟨⟨s22, rfl, hs22⟩, hb22⟩
    obtain ⟨a22, c22, hv22, -, -⟩ := sl_form hs22
    obtain ⟨n22, hn22⟩ : ∃ n, n = (L2).length := ⟨_, rfl⟩
    rw [← hn22] at hv22
    subst hv22
    clear hn22
    have al22 := (Below.refl w22.heap.size w22).alloc (Nat.le_refl _) (.cells #[.int .i64 R2, .int .i64 C2, .slice a22 n22 c22] 27)
    have tnew : MB (w22.alloc (.cells #[.int .i64 R2, .int .i64 C2, .slice a22 n22 c22] 27)) 27 w22.heap.size R2 C2 a22 n22 c22 (L2) := MB.mk' hs22
    have tQm := (Qm.out.later hb22).later al22
    have tNm := (Nm.out.later hb22).later al22
    have tM1 := (M1.out.later hb22).later al22
    have tM2 := (M2.out.later hb22).later al22
    have tB := bt (bt B.out hb22) al22
    clear B Qm Nm M1 M2
    have Qm := Lib.hid tQm
    have Nm := Lib.hid tNm
    have M1 := Lib.hid tM1
    have M2 := Lib.hid tM2
    have B := Lib.hid tB
    clear tB tQm tNm tM1 tM2
    have M3 := Lib.hid tnew
    clear tnew al22 hb22 hs22
    obtain ⟨Qmc0, Qmc1, Qmc2⟩ := Qm.out.cells
    go_wp2_with fail
    generalize w22.alloc (.cells #[.int .i64 R2, .int .i64 C2, .slice a22 n22 c22] 27) = W22 at *
    clear Qmc0 Qmc1 Qmc2
    refine (P4.out W22 Qm.out.sl (si_below SI.out B.out)).mono ?_
    unfold MS mv
    rintro e w23 ⟨⟨s23, rfl, hs23⟩, hb23⟩
    obtain ⟨a23, c23, hv23, -, -⟩ := sl_form hs23
    obtain ⟨n23, hn23⟩ : ∃ n, n = (L2).length := ⟨_, rfl⟩
    rw [← hn23] at hv23
    subst hv23
    clear hn23
    have al23 := (Below.refl w23.heap.size w23).alloc (Nat.le_refl _) (.cells #[.int .i64 R2, .int .i64 C2, .slice a23 n23 c23] 24)
    have tnew : MB (w23.alloc (.cells #[.int .i64 R2, .int .i64 C2, .slice a23 n23 c23] 24)) 24 w23.heap.size R2 C2 a23 n23 c23 (L2) := MB.mk' hs23
    have tQm := (Qm.out.later hb23).later al23
    have tNm := (Nm.out.later hb23).later al23
    have tM1 := (M1.out.later hb23).later al23
    have tM2 := (M2.out.later hb23).later al23
    have tM3 := (M3.out.later hb23).later al23
    have tB := bt (bt B.out hb23) al23
    clear B Qm Nm M1 M2 M3
    have Qm := Lib.hid tQm
    have Nm := Lib.hid tNm
    have M1 := Lib.hid tM1
    have M2 := Lib.hid tM2
    have M3 := Lib.hid tM3
    have B := Lib.hid tB
    clear tB tQm tNm tM1 tM2 tM3
    have M4 := Lib.hid tnew
    clear tnew al23 hb23 hs23
    obtain ⟨M1c0, M1c1, M1c2⟩ := M1.out.cells
    obtain ⟨M2c0, M2c1, M2c2⟩ := M2.out.cells
    go_wp2_with fail
    generalize w23.alloc (.cells #[.int .i64 R2, .int .i64 C2, .slice a23 n23 c23] 24) = W23 at *
    clear M1c0 M1c1 M1c2 M2c0 M2c1 M2c2
    refine (same_any R1 C1 R1 C1 _ _ (L1) (L1) W23 M1.out.sl M2.out.sl).mono ?_
    rw [decide_eq_true (show R1 = R1 ∧ C1 = C1 ∧ (L1) = (L1) from ⟨rfl, rfl, rfl⟩)]
    rintro e W24 ⟨rfl, hb24⟩
    have tQm := Qm.out.later hb24
    have tNm := Nm.out.later hb24
    have tM1 := M1.out.later hb24
    have tM2 := M2.out.later hb24
    have tM3 := M3.out.later hb24
    have tM4 := M4.out.later hb24
    have tB := bt B.out hb24
    clear B Qm Nm M1 M2 M3 M4
    have Qm := Lib.hid tQm
    have Nm := Lib.hid tNm
    have M1 := Lib.hid tM1
    have M2 := Lib.hid tM2
    have M3 := Lib.hid tM3
    have M4 := Lib.hid tM4
    have B := Lib.hid tB
    clear tB tQm tNm tM1 tM2 tM3 tM4
    clear hb24
    obtain ⟨M3c0, M3c1, M3c2⟩ := M3.out.cells
    obtain ⟨M4c0, M4c1, M4c2⟩ := M4.out.cells
    go_wp2_with fail
    clear M3c0 M3c1 M3c2 M4c0 M4c1 M4c2
    refine (same_any R2 C2 R2 C2 _ _ (L2) (L2) W24 M3.out.sl M4.out.sl).mono ?_
    rw [decide_eq_true (show R2 = R2 ∧ C2 = C2 ∧ (L2) = (L2) from ⟨rfl, rfl, rfl⟩)]
    rintro e W25 ⟨rfl, hb25⟩
    have tQm := Qm.out.later hb25
    have tNm := Nm.out.later hb25
    have tM1 := M1.out.later hb25
    have tM2 := M2.out.later hb25
    have tM3 := M3.out.later hb25
    have tM4 := M4.out.later hb25
    have tB := bt B.out hb25
    clear B Qm Nm M1 M2 M3 M4
    have Qm := Lib.hid tQm
    have Nm := Lib.hid tNm
    have M1 := Lib.hid tM1
    have M2 := Lib.hid tM2
    have M3 := Lib.hid tM3
    have M4 := Lib.hid tM4
    have B := Lib.hid tB
    clear tB tQm tNm tM1 tM2 tM3 tM4
    clear hb25
    go_wp2_with fail
    refine (AW.out W25 (ST.out _ _ OK.out B.out)).mono ?_
    rintro e w26 ⟨rfl, hb26⟩
    go_wp2_with fail
    go_ret
    exact ⟨rfl, bt B.out hb26⟩
  
end Go.Proofs.Ytcckhgadgiaofaa.Gf
