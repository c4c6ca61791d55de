/- What is proved here: the walk of the law GfmatrixRows. Condition: PC3. -/
import Derived.Test.YtcckhgadgiaofaaL5
namespace Go.Proofs.Ytcckhgadgiaofaa.Gf
open Go Go.ChangeShapes Go.WideShapes Go.ChangeAt Go.RowKit Go.Sort Go.Proofs.Ytcckhgadgiaofaa.By Go.Proofs.Ytcckhgadgiaofaa.Qt

def zi (rs : List Nat) : List Int := rs.map fun x : Nat => (x : Int)
theorem zi_length (rs : List Nat) : (zi rs).length = rs.length := by simp [zi]
theorem zi_getD (rs : List Nat) (i : Nat) : (zi rs).getD i 0 = ((rs.getD i 0 : Nat) : Int) := by
  unfold zi List.getD
  rw [List.getElem?_map]
  cases rs[i]? <;> rfl
theorem zi_snoc (rs : List Nat) (x : Nat) : zi (rs ++ [x]) = zi rs ++ [(x : Int)] := by simp [zi]
theorem q_vander16 {Ok : World → Prop} (P : PC3 Ok) (K : Nat) (hK : 1 ≤ K ∧ K ≤ 8) (w : World) (ok : Ok w) : Calls Try.prog 16 #[.int .i64 16, .int .i64 (K : Int)] w (MS w 16 (K : Int) (flat 16 K pn) 0) := by
  have hs : Sized 16 (K : Int) := by unfold Sized; omega
  refine (P.vander 16 K w (by unfold I64; omega) (by unfold I64; omega) ok).mono fun e w' hp => ?_
  unfold vanderPostS at hp
  rw [if_pos hs] at hp
  exact hp
theorem q_pick16 {Ok : World → Prop} (P : PC3 Ok) {K : Nat} (hK : 1 ≤ K ∧ K ≤ 8) {rs : List Nat} (hlen : rs.length = K) (h16 : ∀ x ∈ rs, x < 16) (v1 v2 : Value) (w : World) (s1 : Sl w v1 (flat 16 K pn)) (s2 : Si w v2 (zi rs)) (ok : Ok w) :
    Calls Try.prog 24 #[mv 16 (K : Int) v1, v2] w (MS w (K : Int) (K : Int) (flat K K (pickm (flat 16 K pn) K (zi rs))) 0) := by
  refine (P.pick 16 K v1 v2 (flat 16 K pn) (zi rs) w (by unfold I64; omega) (by unfold I64; omega) s1 s2 ok).mono fun e w' hp => ?_
  have hz : (zi rs).length = K := (zi_length rs).trans hlen
  unfold pickPostS at hp
  rw [if_pos ⟨⟨by unfold Sized; omega, by rw [flat_length]; simp⟩, by omega, fun i hi => by
    rw [zi_getD]
    have : rs.getD i 0 < 16 := h16 _ (by rw [zi_length] at hi; simp [List.getD, hi])
    omega⟩, hz] at hp
  exact hp
theorem q_inv16 {Ok : World → Prop} (P : PC3 Ok) {K : Nat} (hK : 1 ≤ K ∧ K ≤ 8) {rs : List Nat} (hlen : rs.length = K) (h16 : ∀ x ∈ rs, x < 16) (hnd : rs.Nodup) (v : Value) (w : World) (s : Sl w v (flat K K (pickm (flat 16 K pn) K (zi rs)))) (ok : Ok w) :
    Calls Try.prog 26 #[mv (K : Int) (K : Int) v] w (fun e w' => ∃ L, MS w (K : Int) (K : Int) L 0 e w') := by
  refine (P.invert K K v _ w (by unfold I64; omega) (by unfold I64; omega) s ok).mono fun e w' hp => ?_
  unfold invPostS at hp
  rw [if_pos ⟨⟨by unfold Sized; omega, by rw [flat_length]; simp⟩, rfl⟩] at hp
  rcases hp with ⟨X, -, h⟩ | ⟨hs, -⟩
  · exact ⟨_, h⟩
  · refine absurd hs (vander_not_sing hlen (fun r hr => Nat.lt_trans (h16 r hr) (by decide)) hnd fun i hi k hk => ?_)
    have e1 : ent (flat K K (pickm (flat 16 K pn) K (zi rs))) K i k = pickm (flat 16 K pn) K (zi rs) i k := ent_flat _ i hi k hk
    have hi2 : i < rs.length := by
      have h2 : i < K := hi
      omega
    have h3 : rs.getD i 0 < 16 := h16 _ (by simp [List.getD, hi2])
    refine Eq.trans e1 ?_
    unfold pickm
    rw [zi_getD, Int.toNat_natCast]
    exact ent_flat pn _ h3 k hk
set_option maxRecDepth 100000 in
set_option maxHeartbeats 6400000 in
theorem rows_walk {Ok : World → Prop} (P : PC3 Ok) (n : Int) (v : Value) (xs : List Int) (w : World) (_hn : I64 n) (s : Si w v xs) (ok : Ok w) : Calls Try.prog 9 #[.int .i64 n, v] w fun e w' => e = .returned (.bool true) ∧ Below w.heap.size w w' := by
  have h1 := i64_and15 n
  have t1 : (n % 16).tmod 8 = (((n % 16).toNat % 8 : Nat) : Int) := by rw [Int.tmod_eq_emod_of_nonneg (by omega)]; omega
  obtain ⟨K, hK⟩ : ∃ K : Nat, K = 1 + (n % 16).toNat % 8 := ⟨_, rfl⟩
  have hK1 : 1 ≤ K ∧ K ≤ 8 := by omega
  have e1 : (1 : Int) + (((n % 16).toNat % 8 : Nat) : Int) = (K : Int) := by omega
  have x1 : (n % 16).toNat % 8 < 8 := by omega
  have m1 : 0 ≤ n % 16 ∧ n % 16 < 16 := by omega
  generalize n % 16 = rm at *
  generalize rm.toNat % 8 = ra at *
  have QV := Lib.hid (fun w ok => q_vander16 P K hK1 w ok)
  have QP := Lib.hid (fun (rs : List Nat) hlen h16 v1 v2 w s1 s2 ok => q_pick16 (rs := rs) P hK1 hlen h16 v1 v2 w s1 s2 ok)
  have QI := Lib.hid (fun (rs : List Nat) hlen h16 hnd v w s ok => q_inv16 (rs := rs) P hK1 hlen h16 hnd v w s ok)
  have AW := Lib.hid (fun w ok => awake_any P w ok)
  have ST := Lib.hid P.st
  have OK := Lib.hid ok
  have S := Lib.hid s
  obtain ⟨a5, c5, hv5, -, -⟩ := si_form s
  obtain ⟨n5, hn5⟩ : ∃ n, n = xs.length := ⟨_, rfl⟩
  rw [← hn5] at hv5
  subst hv5
  have N5 := Lib.hid hn5
  clear s ok hn5 hK
  unfold mv at QV QP QI
  go_enter Try.func9, Try.ntmps9
  go_wp2_with fail
  have B := Lib.hid (Below.refl w.heap.size w)
  refine (QV.out w OK.out).mono ?_
  unfold MS mv
  rintro e w1 ⟨⟨s1, rfl, hs1⟩, hb1⟩
  obtain ⟨a1, c1, hv1, -, -⟩ := sl_form hs1
  obtain ⟨n1, hn1⟩ : ∃ n, n = (flat 16 K pn).length := ⟨_, rfl⟩
  rw [← hn1] at hv1
  subst hv1
  clear hn1
  have al1 := (Below.refl w1.heap.size w1).alloc (Nat.le_refl _) (.cells #[.int .i64 16, .int .i64 (K : Int), .slice a1 n1 c1] 27)
  have tnew : MB (w1.alloc (.cells #[.int .i64 16, .int .i64 (K : Int), .slice a1 n1 c1] 27)) 27 w1.heap.size 16 (K : Int) a1 n1 c1 (flat 16 K pn) := MB.mk' hs1
  have tB := bt (bt B.out hb1) al1
  clear B 
  have B := Lib.hid tB
  clear tB 
  have Vm := Lib.hid tnew
  clear tnew al1 hb1 hs1
  go_wp2_with fail
  generalize w1.alloc (.cells #[.int .i64 16, .int .i64 (K : Int), .slice a1 n1 c1] 27) = W1 at *
  clear h1 t1 e1 x1 m1
  go_loopw [8, 9] (fun t8 t9 wr => ∃ (i : Nat) (rs : List Nat), i ≤ n5 ∧ i ≤ 60 ∧ t9 = .int .i64 (i : Int) ∧ OwnI wr W1.heap.size t8 (zi rs) ∧ rs.length ≤ K ∧ (∀ x ∈ rs, x < 16) ∧ rs.Nodup ∧ Below W1.heap.size W1 wr) (fun _ t9 _ => n5 - (intOf t9).toNat)
  case atStart => exact ⟨0, [], by omega, by omega, rfl, ⟨by simp [zi], World.ownsRow_nil _ _ _ _⟩, by simp, by simp, by simp, Below.refl _ _⟩
  case round =>
    obtain ⟨i, rs, hi, hi60, rfl, hO, hKl, h16, hnd, hBw⟩ := hrel
    have HO := Lib.hid hO
    have H16 := Lib.hid h16
    have HND := Lib.hid hnd
    have HBw := Lib.hid hBw
    obtain ⟨m, hm⟩ : ∃ m, m = rs.length := ⟨_, rfl⟩
    rw [← hm] at hKl
    have HM : Hid ((zi rs).length = m) := (zi_length rs).trans hm.symm
    obtain ⟨al, cpl, hvl⟩ := ownsRow_form HO.out.2
    rw [HM.out] at hvl
    subst hvl
    clear hO h16 hnd hBw hm
    by_cases c1 : (i : Int) < (n5 : Int)
    · by_cases c2 : (i : Int) < 60
      · by_cases c3 : (m : Int) < (K : Int)
        · obtain ⟨b5, o5, c5', hv5, _, _, hk5⟩ := si_cells (si_below S.out (bt B.out HBw.out)) (by rw [← N5.out]; omega)
          have hx := hk5 i (by rw [← N5.out]; omega)
          have ha5 : a5 = some ⟨b5, o5, none⟩ := by simp at hv5; exact hv5.1
          subst ha5
          obtain ⟨z, hz⟩ : ∃ z, z = xs.getD i 0 := ⟨_, rfl⟩
          rw [← hz] at hx
          obtain ⟨x, hx15, hxlt⟩ : ∃ x : Nat, bits .and .i64 z 15 = (x : Int) ∧ x < 16 := ⟨(z % 16).toNat, by rw [i64_and15]; omega, by omega⟩
          have p0 : (0 : Int) ≤ (i : Int) := by omega
          clear hv5 hk5 hz
          go_wp2_with fail
          go_loop [11, 49] (fun t11 t49 => ∃ (j : Nat) (b : Bool), j ≤ m ∧ t49 = .int .i64 (j : Int) ∧ t11 = .bool b ∧ (b = true ↔ ∀ q, q < j → rs.getD q 0 ≠ x)) (fun _ t49 => m - (intOf t49).toNat)
          case atStart => exact ⟨0, true, by omega, rfl, rfl, by simp⟩
          case round =>
            obtain ⟨j, b, hj, rfl, rfl, hb⟩ := hrel
            have HBb := Lib.hid hb
            clear hb
            by_cases hjm : (j : Int) < (m : Int)
            · obtain ⟨b8, o8, c8', hv8, _, _, hk8⟩ := si_cells HO.out.si (by rw [HM.out]; omega)
              have hy := hk8 j (by rw [HM.out]; omega)
              rw [zi_getD] at hy
              have ha8 : al = some ⟨b8, o8, none⟩ := by simp at hv8; exact hv8.1
              subst ha8
              obtain ⟨y, hy'⟩ : ∃ y, y = rs.getD j 0 := ⟨_, rfl⟩
              rw [← hy'] at hy
              have HY := Lib.hid hy'
              have q0 : (0 : Int) ≤ (j : Int) := by omega
              clear hv8 hk8 hy'
              cases b with
              | false =>
                go_wp2_with fail
                go_round
                case rel => exact ⟨j + 1, false, by omega, by go_num, rfl, by simp only [Bool.false_eq_true, false_iff]; exact fun h => by have := HBb.out.2 (fun q hq => h q (by omega)); cases this⟩
                case measure => simp [intOf]; omega
              | true =>
                by_cases hyx : y = x
                · have hne : ((y : Int) != (x : Int)) = false := by rw [hyx]; simp
                  go_wp2_with fail
                  go_round
                  case rel => exact ⟨j + 1, false, by omega, by go_num, rfl, by simp only [Bool.false_eq_true, false_iff]; exact fun h => h j (by omega) (HY.out.symm.trans hyx)⟩
                  case measure => simp [intOf]; omega
                · have hne : ((y : Int) != (x : Int)) = true := by rw [bne_iff_ne]; omega
                  go_wp2_with fail
                  go_round
                  case rel =>
                    refine ⟨j + 1, true, by omega, by go_num, rfl, fun _ q hq => ?_, fun _ => rfl⟩
                    by_cases e : q < j
                    · exact HBb.out.1 rfl q e
                    · obtain rfl : q = j := by omega
                      rw [← HY.out]; exact hyx
                  case measure => simp [intOf]; omega
            · obtain rfl : j = m := by omega
              cases b with
              | false =>
                go_wp2_with fail
                go_roundw
                case rel => exact ⟨i + 1, rs, by omega, by omega, by go_num, HO.out, by rw [← zi_length, HM.out]; exact hKl, H16.out, HND.out, HBw.out⟩
                case measure => simp [intOf]; omega
              | true =>
                go_wp2_with (at_builtin; refine app1 (dst := some 66) Try.underlying39 infoI rfl (by decide) ?_ ?_ (ownsRow_mono HO.out.2 ((Below.refl wr.heap.size wr).alloc (Nat.le_refl _) _)) (heap_alloc_new _ _) rfl (by have := HM.out; omega) (by have := HBw.out.size; simp; omega) ?_; exact rfl; exact rfl; intro v3 w3 ho3 hg3; have HO3 := Lib.hid ho3; have HG3 := Lib.hid hg3; obtain ⟨av, cv, hv3⟩ := ownsRow_form ho3; subst hv3; clear ho3 hg3)
                go_roundw
                case rel =>
                  refine ⟨i + 1, rs ++ [x], by omega, by omega, by go_num, ?_, ?_, ?_, ?_, ?_⟩
                  · rw [zi_snoc]
                    exact owni_push HO.out.1 (by omega) HO3.out
                  · have := HM.out
                    rw [zi_length] at this
                    simp; omega
                  · intro q hq
                    rcases List.mem_append.1 hq with hq | hq
                    · exact H16.out q hq
                    · rw [List.mem_singleton] at hq; omega
                  · refine List.nodup_append.2 ⟨HND.out, by simp, fun p hp q hq e => ?_⟩
                    rw [List.mem_singleton] at hq
                    subst hq
                    obtain ⟨d, hd, e2⟩ := List.mem_iff_getElem.1 hp
                    have hl := HM.out
                    rw [zi_length] at hl
                    exact HBb.out.1 rfl d (by omega) (by simp [List.getD, hd, e2, e])
                  · exact (HBw.out.alloc HBw.out.size _).grown HG3.out (by have := HBw.out.size; simp; omega) (fun q hq => (HO.out.2.lt q hq).1)
                case measure => simp [intOf]; omega
        · have hlt := c3
          have tV := Vm.out.later HBw.out
          have tBB := bt B.out HBw.out
          clear Vm B
          have Vm := Lib.hid tV
          have B := Lib.hid tBB
          clear tV tBB
          have S8 := Lib.hid HO.out.si
          have HL := Lib.hid (show rs.length = K by rw [← zi_length, HM.out]; omega)
          clear HBw
          obtain rfl : m = K := by omega
          obtain ⟨Vmc0, Vmc1, Vmc2⟩ := Vm.out.cells
          go_wp2_with fail
          clear Vmc0 Vmc1 Vmc2
          refine (QP.out rs HL.out H16.out _ _ wr Vm.out.sl S8.out (ST.out _ _ OK.out B.out)).mono ?_
          unfold MS mv
          rintro e w4 ⟨⟨s4, rfl, hs4⟩, hb4⟩
          obtain ⟨a4, c4, hv4, -, -⟩ := sl_form hs4
          obtain ⟨n4, hn4⟩ : ∃ n, n = (flat m m (pickm (flat 16 m pn) m (zi rs))).length := ⟨_, rfl⟩
          rw [← hn4] at hv4
          subst hv4
          clear hn4
          have al4 := (Below.refl w4.heap.size w4).alloc (Nat.le_refl _) (.cells #[.int .i64 (m : Int), .int .i64 (m : Int), .slice a4 n4 c4] 27)
          have tnew : MB (w4.alloc (.cells #[.int .i64 (m : Int), .int .i64 (m : Int), .slice a4 n4 c4] 27)) 27 w4.heap.size (m : Int) (m : Int) a4 n4 c4 (flat m m (pickm (flat 16 m pn) m (zi rs))) := MB.mk' hs4
          have tVm := (Vm.out.later hb4).later al4
          have tB := bt (bt B.out hb4) al4
          clear B Vm
          have Vm := Lib.hid tVm
          have B := Lib.hid tB
          clear tB tVm
          have Pm := Lib.hid tnew
          clear tnew al4 hb4 hs4
          obtain ⟨Pmc0, Pmc1, Pmc2⟩ := Pm.out.cells
          go_wp2_with fail
          generalize w4.alloc (.cells #[.int .i64 (m : Int), .int .i64 (m : Int), .slice a4 n4 c4] 27) = W4 at *
          clear Pmc0 Pmc1 Pmc2
          refine (QI.out rs HL.out H16.out HND.out _ W4 Pm.out.sl (ST.out _ _ OK.out B.out)).mono ?_
          rintro e Wi ⟨Li, hLi⟩
          revert hLi
          unfold MS mv
          rintro ⟨⟨s5, rfl, hs5⟩, hb5⟩
          obtain ⟨a5, c5, hv5, -, -⟩ := sl_form hs5
          obtain ⟨n5, hn5⟩ : ∃ n, n = Li.length := ⟨_, rfl⟩
          rw [← hn5] at hv5
          subst hv5
          clear hn5
          have al5 := (Below.refl Wi.heap.size Wi).alloc (Nat.le_refl _) (.cells #[.int .i64 (m : Int), .int .i64 (m : Int), .slice a5 n5 c5] 27)
          have tB := bt (bt B.out hb5) al5
          clear B Vm Pm hs5 hb5 al5
          have B := Lib.hid tB
          clear tB
          go_wp2_with fail
          generalize Wi.alloc (.cells #[.int .i64 (m : Int), .int .i64 (m : Int), .slice a5 n5 c5] 27) = W5 at *
          refine (AW.out W5 (ST.out _ _ OK.out B.out)).mono ?_
          rintro e w6 ⟨rfl, hb6⟩
          go_wp2_with fail
          go_ret
          exact ⟨rfl, bt B.out hb6⟩
      · by_cases hlt : (m : Int) < (K : Int)
        · go_wp2_with fail
          refine (AW.out wr (ST.out _ _ OK.out (bt B.out HBw.out))).mono ?_
          rintro e w9 ⟨rfl, hb9⟩
          go_wp2_with fail
          go_ret
          exact ⟨rfl, bt (bt B.out HBw.out) hb9⟩
        · have tV := Vm.out.later HBw.out
          have tBB := bt B.out HBw.out
          clear Vm B
          have Vm := Lib.hid tV
          have B := Lib.hid tBB
          clear tV tBB
          have S8 := Lib.hid HO.out.si
          have HL := Lib.hid (show rs.length = K by rw [← zi_length, HM.out]; omega)
          clear HBw
          obtain rfl : m = K := by omega
          obtain ⟨Vmc0, Vmc1, Vmc2⟩ := Vm.out.cells
          go_wp2_with fail
          clear Vmc0 Vmc1 Vmc2
          refine (QP.out rs HL.out H16.out _ _ wr Vm.out.sl S8.out (ST.out _ _ OK.out B.out)).mono ?_
          unfold MS mv
          rintro e w4 ⟨⟨s4, rfl, hs4⟩, hb4⟩
          obtain ⟨a4, c4, hv4, -, -⟩ := sl_form hs4
          obtain ⟨n4, hn4⟩ : ∃ n, n = (flat m m (pickm (flat 16 m pn) m (zi rs))).length := ⟨_, rfl⟩
          rw [← hn4] at hv4
          subst hv4
          clear hn4
          have al4 := (Below.refl w4.heap.size w4).alloc (Nat.le_refl _) (.cells #[.int .i64 (m : Int), .int .i64 (m : Int), .slice a4 n4 c4] 27)
          have tnew : MB (w4.alloc (.cells #[.int .i64 (m : Int), .int .i64 (m : Int), .slice a4 n4 c4] 27)) 27 w4.heap.size (m : Int) (m : Int) a4 n4 c4 (flat m m (pickm (flat 16 m pn) m (zi rs))) := MB.mk' hs4
          have tVm := (Vm.out.later hb4).later al4
          have tB := bt (bt B.out hb4) al4
          clear B Vm
          have Vm := Lib.hid tVm
          have B := Lib.hid tB
          clear tB tVm
          have Pm := Lib.hid tnew
          clear tnew al4 hb4 hs4
          obtain ⟨Pmc0, Pmc1, Pmc2⟩ := Pm.out.cells
          go_wp2_with fail
          generalize w4.alloc (.cells #[.int .i64 (m : Int), .int .i64 (m : Int), .slice a4 n4 c4] 27) = W4 at *
          clear Pmc0 Pmc1 Pmc2
          refine (QI.out rs HL.out H16.out HND.out _ W4 Pm.out.sl (ST.out _ _ OK.out B.out)).mono ?_
          rintro e Wi ⟨Li, hLi⟩
          revert hLi
          unfold MS mv
          rintro ⟨⟨s5, rfl, hs5⟩, hb5⟩
          obtain ⟨a5, c5, hv5, -, -⟩ := sl_form hs5
          obtain ⟨n5, hn5⟩ : ∃ n, n = Li.length := ⟨_, rfl⟩
          rw [← hn5] at hv5
          subst hv5
          clear hn5
          have al5 := (Below.refl Wi.heap.size Wi).alloc (Nat.le_refl _) (.cells #[.int .i64 (m : Int), .int .i64 (m : Int), .slice a5 n5 c5] 27)
          have tB := bt (bt B.out hb5) al5
          clear B Vm Pm hs5 hb5 al5
          have B := Lib.hid tB
          clear tB
          go_wp2_with fail
          generalize Wi.alloc (.cells #[.int .i64 (m : Int), .int .i64 (m : Int), .slice a5 n5 c5] 27) = W5 at *
          refine (AW.out W5 (ST.out _ _ OK.out B.out)).mono ?_
          rintro e w6 ⟨rfl, hb6⟩
          go_wp2_with fail
          go_ret
          exact ⟨rfl, bt B.out hb6⟩
    · by_cases hlt : (m : Int) < (K : Int)
      · go_wp2_with fail
        refine (AW.out wr (ST.out _ _ OK.out (bt B.out HBw.out))).mono ?_
        rintro e w9 ⟨rfl, hb9⟩
        go_wp2_with fail
        go_ret
        exact ⟨rfl, bt (bt B.out HBw.out) hb9⟩
      · have tV := Vm.out.later HBw.out
        have tBB := bt B.out HBw.out
        clear Vm B
        have Vm := Lib.hid tV
        have B := Lib.hid tBB
        clear tV tBB
        have S8 := Lib.hid HO.out.si
        have HL := Lib.hid (show rs.length = K by rw [← zi_length, HM.out]; omega)
        clear HBw
        obtain rfl : m = K := by omega
        obtain ⟨Vmc0, Vmc1, Vmc2⟩ := Vm.out.cells
        go_wp2_with fail
        clear Vmc0 Vmc1 Vmc2
        refine (QP.out rs HL.out H16.out _ _ wr Vm.out.sl S8.out (ST.out _ _ OK.out B.out)).mono ?_
        unfold MS mv
        rintro e w4 ⟨⟨s4, rfl, hs4⟩, hb4⟩
        obtain ⟨a4, c4, hv4, -, -⟩ := sl_form hs4
        obtain ⟨n4, hn4⟩ : ∃ n, n = (flat m m (pickm (flat 16 m pn) m (zi rs))).length := ⟨_, rfl⟩
        rw [← hn4] at hv4
        subst hv4
        clear hn4
        have al4 := (Below.refl w4.heap.size w4).alloc (Nat.le_refl _) (.cells #[.int .i64 (m : Int), .int .i64 (m : Int), .slice a4 n4 c4] 27)
        have tnew : MB (w4.alloc (.cells #[.int .i64 (m : Int), .int .i64 (m : Int), .slice a4 n4 c4] 27)) 27 w4.heap.size (m : Int) (m : Int) a4 n4 c4 (flat m m (pickm (flat 16 m pn) m (zi rs))) := MB.mk' hs4
        have tVm := (Vm.out.later hb4).later al4
        have tB := bt (bt B.out hb4) al4
        clear B Vm
        have Vm := Lib.hid tVm
        have B := Lib.hid tB
        clear tB tVm
        have Pm := Lib.hid tnew
        clear tnew al4 hb4 hs4
        obtain ⟨Pmc0, Pmc1, Pmc2⟩ := Pm.out.cells
        go_wp2_with fail
        generalize w4.alloc (.cells #[.int .i64 (m : Int), .int .i64 (m : Int), .slice a4 n4 c4] 27) = W4 at *
        clear Pmc0 Pmc1 Pmc2
        refine (QI.out rs HL.out H16.out HND.out _ W4 Pm.out.sl (ST.out _ _ OK.out B.out)).mono ?_
        rintro e Wi ⟨Li, hLi⟩
        revert hLi
        unfold MS mv
        rintro ⟨⟨s5, rfl, hs5⟩, hb5⟩
        obtain ⟨a5, c5, hv5, -, -⟩ := sl_form hs5
        obtain ⟨n5, hn5⟩ : ∃ n, n = Li.length := ⟨_, rfl⟩
        rw [← hn5] at hv5
        subst hv5
        clear hn5
        have al5 := (Below.refl Wi.heap.size Wi).alloc (Nat.le_refl _) (.cells #[.int .i64 (m : Int), .int .i64 (m : Int), .slice a5 n5 c5] 27)
        have tB := bt (bt B.out hb5) al5
        clear B Vm Pm hs5 hb5 al5
        have B := Lib.hid tB
        clear tB
        go_wp2_with fail
        generalize Wi.alloc (.cells #[.int .i64 (m : Int), .int .i64 (m : Int), .slice a5 n5 c5] 27) = W5 at *
        refine (AW.out W5 (ST.out _ _ OK.out B.out)).mono ?_
        rintro e w6 ⟨rfl, hb6⟩
        go_wp2_with fail
        go_ret
        exact ⟨rfl, bt B.out hb6⟩
end Go.Proofs.Ytcckhgadgiaofaa.Gf
