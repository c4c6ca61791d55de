/- What is proved here: the walk of the law GfmatrixSingular. Condition: PC3. -/
import Derived.Test.YtcckhgadgiaofaaL5
import Derived.Test.YtcckhgadgiaofaaQp
import Derived.Test.YtcckhgadgiaofaaMl
import Derived.BigQuiet
namespace Go.Proofs.Ytcckhgadgiaofaa.Gf
open Go Go.ChangeShapes Go.WideShapes Go.ChangeAt Go.RowKit Go.Sort Go.Proofs.Ytcckhgadgiaofaa.By Go.Proofs.Ytcckhgadgiaofaa.Qt

/-- The law's remainder, never negative. -/
def rmd (i : Int) (R : Nat) : Nat := (i % (R : Int)).toNat
theorem rmd_lt (i : Int) {R : Nat} (h : 1 ≤ R) : rmd i R < R := by
  have h1 := Int.emod_lt_of_pos i (show (0 : Int) < (R : Int) by omega)
  have h2 := Int.emod_nonneg i (show (R : Int) ≠ 0 by omega)
  unfold rmd
  omega
theorem rmd_eq (i : Int) {R : Nat} (h : 1 ≤ R) : (i.tmod (R : Int) + (R : Int)).tmod (R : Int) = ((rmd i R : Nat) : Int) ∧ -(R : Int) < i.tmod (R : Int) ∧ i.tmod (R : Int) < (R : Int) := by
  have hR : (0 : Int) < (R : Int) := by omega
  have b1 : -(R : Int) < i.tmod (R : Int) ∧ i.tmod (R : Int) < (R : Int) := by
    have h1 := Int.tmod_lt_of_pos i hR
    have h2 := Int.lt_tmod_of_pos i hR
    exact ⟨h2, h1⟩
  refine ⟨?_, b1⟩
  rw [Int.tmod_eq_emod_of_nonneg (by omega), Int.add_emod_right]
  have e : (i.tmod (R : Int)) % (R : Int) = i % (R : Int) := by
    rw [Int.emod_tmod_comm i (R : Int)]
  rw [e]
  have h2 := Int.emod_nonneg i (show (R : Int) ≠ 0 by omega)
  unfold rmd
  omega
where Int.emod_tmod_comm (i R : Int) : (i.tmod R) % R = i % R := by
        have h := Int.tmod_add_mul_tdiv i R
        have e : i % R = (i.tmod R + R * i.tdiv R) % R := by rw [h]
        rw [e, Int.add_mul_emod_self_left]
/-- The law's second matrix: row y is f times row x, as far as column j. -/
def mset (M : Nat → Nat → Nat) (x y f j a b : Nat) : Nat := if a = y ∧ b < j then gm f (M x b) else M a b
set_option maxRecDepth 100000 in
set_option maxHeartbeats 6400000 in
theorem sing_walk {Ok : World → Prop} (P : PC3 Ok) (n : Int) (v : Value) (l : List Nat) (i k f : Int) (w : World) (hn : I64 n) (s : Sl w v l) (_hi : I64 i) (_hk : I64 k) (hf0 : (Lit.int .u8 f).wf = true) (ok : Ok w) : Calls Try.prog 7 #[.int .i64 n, v, .int .i64 i, .int .i64 k, .int .u8 f] w fun e w' => e = .returned (.bool true) ∧ Below w.heap.size w w' := by
  obtain ⟨f, rfl, hf⟩ : ∃ x : Nat, f = x ∧ x < 256 := by
    simp [Lit.wf, IntKind.min, IntKind.max, IntKind.signed, IntKind.bits] at hf0
    exact ⟨f.toNat, by omega, by omega⟩
  clear hf0
  have hR := sz5_bd n
  have hR : 1 ≤ sz5 n ∧ sz5 n ≤ 16 := by omega
  have MD := Lib.hid (fun w s => made_any n n v l w s hn hn)
  have HM : Hid (Bd (sz5 n) (sz5 n) (mdm (sz5 n) l)) := mdm_bd s.1
  have S := Lib.hid s
  have AW := Lib.hid (fun w ok => awake_any P w ok)
  have ST := Lib.hid P.st
  have OK := Lib.hid ok
  unfold I64 at _hi _hk
  clear s ok hn
  generalize hMM : mdm (sz5 n) l = M at *
  generalize hRR : sz5 n = R at *
  clear hMM hRR
  by_cases h2 : R < 2
  · have hd : decide ((R : Int) < 2) = true := decide_eq_true (by omega)
    unfold mv at MD
    go_enter Try.func7, Try.ntmps7
    go_wp2_with fail
    have B := Lib.hid (Below.refl w.heap.size w)
    refine (MD.out w S.out).mono ?_
    try unfold mv
    rintro e w1 ⟨⟨s1, rfl, ho1⟩, hb1⟩
    have hs1 := ho1.sl
    clear ho1
    obtain ⟨a1, c1, hv1, -, -⟩ := sl_form hs1
    obtain ⟨n1, hn1⟩ : ∃ n, n = (flat R R M).length := ⟨_, rfl⟩
    rw [← hn1] at hv1
    subst hv1
    clear hn1
    have al1 := (Below.refl w1.heap.size w1).alloc (Nat.le_refl _) (.cells #[.int .i64 (R : Int), .int .i64 (R : Int), .slice a1 n1 c1] 27)
    have tnew : MB (w1.alloc (.cells #[.int .i64 (R : Int), .int .i64 (R : Int), .slice a1 n1 c1] 27)) 27 w1.heap.size (R : Int) (R : Int) a1 n1 c1 (flat R R M) := MB.mk' hs1
    have tB := bt (bt B.out hb1) al1
    clear B 
    have B := Lib.hid tB
    clear tB 
    have Mm := Lib.hid tnew
    clear tnew al1 hb1 hs1
    obtain ⟨Mmc0, Mmc1, Mmc2⟩ := Mm.out.cells
    go_wp2_with fail
    generalize w1.alloc (.cells #[.int .i64 (R : Int), .int .i64 (R : Int), .slice a1 n1 c1] 27) = W1 at *
    clear Mmc0 Mmc1 Mmc2
    refine (AW.out W1 (ST.out _ _ OK.out B.out)).mono ?_
    rintro e w9 ⟨rfl, hb9⟩
    go_wp2_with fail
    go_ret
    exact ⟨rfl, bt B.out hb9⟩
  · have hd : decide ((R : Int) < 2) = false := decide_eq_false (by omega)
    unfold mv at MD
    go_enter Try.func7, Try.ntmps7
    go_wp2_with fail
    have B := Lib.hid (Below.refl w.heap.size w)
    refine (MD.out w S.out).mono ?_
    try unfold mv
    rintro e w1 ⟨⟨s1, rfl, ho1⟩, hb1⟩
    have hs1 := ho1.sl
    clear ho1
    obtain ⟨a1, c1, hv1, -, -⟩ := sl_form hs1
    obtain ⟨n1, hn1⟩ : ∃ n, n = (flat R R M).length := ⟨_, rfl⟩
    rw [← hn1] at hv1
    subst hv1
    clear hn1
    have al1 := (Below.refl w1.heap.size w1).alloc (Nat.le_refl _) (.cells #[.int .i64 (R : Int), .int .i64 (R : Int), .slice a1 n1 c1] 27)
    have tnew : MB (w1.alloc (.cells #[.int .i64 (R : Int), .int .i64 (R : Int), .slice a1 n1 c1] 27)) 27 w1.heap.size (R : Int) (R : Int) a1 n1 c1 (flat R R M) := MB.mk' hs1
    have tB := bt (bt B.out hb1) al1
    clear B 
    have B := Lib.hid tB
    clear tB 
    have Mm := Lib.hid tnew
    clear tnew al1 hb1 hs1
    obtain ⟨Mmc0, Mmc1, Mmc2⟩ := Mm.out.cells
    go_wp2_with fail
    generalize w1.alloc (.cells #[.int .i64 (R : Int), .int .i64 (R : Int), .slice a1 n1 c1] 27) = W1 at *
    clear Mmc0 Mmc1 Mmc2
    clear hd
    obtain ⟨c0, c1, c2⟩ := Mm.out.cells
    obtain ⟨ex, ex1, ex2⟩ := rmd_eq i (show 1 ≤ R by omega)
    obtain ⟨ey, ey1, ey2⟩ := rmd_eq k (show 1 ≤ R by omega)
    have hx := rmd_lt i (show 1 ≤ R by omega)
    have hy := rmd_lt k (show 1 ≤ R by omega)
    generalize rmd i R = x at *
    generalize rmd k R = y at *
    generalize hti : i.tmod (R : Int) = ti at *
    generalize htk : k.tmod (R : Int) = tk at *
    have hR0 : ((R : Int) == 0) = false := beq_false_of_ne (by omega)
    have hR1 : ¬ ((R : Int) = 0) := by omega
    have u1 : IntKind.i64.wrap ti = ti := IntWalk.i64_in _ (by omega)
    have u2 : IntKind.i64.wrap (ti + (R : Int)) = ti + (R : Int) := IntWalk.i64_in _ (by omega)
    have u3 : IntKind.i64.wrap (x : Int) = (x : Int) := IntWalk.i64_in _ (by omega)
    have v1 : IntKind.i64.wrap tk = tk := IntWalk.i64_in _ (by omega)
    have v2 : IntKind.i64.wrap (tk + (R : Int)) = tk + (R : Int) := IntWalk.i64_in _ (by omega)
    have v3 : IntKind.i64.wrap (y : Int) = (y : Int) := IntWalk.i64_in _ (by omega)
    go_quiet (fail)
    have hdn := below_drewN W1 nq
    have tMm := Mm.out.later hdn
    have tB := bt B.out hdn
    clear B Mm
    have Mm := Lib.hid tMm
    have B := Lib.hid tB
    clear tB tMm
    generalize W1.drewN nq = Wq2 at *
    clear hdn
    clear c0 c1 c2
    obtain ⟨c0, c1, c2⟩ := Mm.out.cells
    go_wp2_with fail
    go_quiet (fail)
    have hdn := below_drewN Wq2 nq
    have tMm := Mm.out.later hdn
    have tB := bt B.out hdn
    clear B Mm
    have Mm := Lib.hid tMm
    have B := Lib.hid tB
    clear tB tMm
    generalize Wq2.drewN nq = Wq3 at *
    clear hdn
    clear u1 u2 u3 v1 v2 v3 hR0 hR1 hti htk ex ey ex1 ex2 ey1 ey2 c0 c1 c2 _hi _hk
    by_cases hxy : x = y
    · have hd2 : ((x : Int) == (y : Int)) = true := by rw [beq_iff_eq]; omega
      go_wp2_with fail
      refine (AW.out Wq3 (ST.out _ _ OK.out B.out)).mono ?_
      rintro e w9 ⟨rfl, hb9⟩
      go_wp2_with fail
      go_ret
      exact ⟨rfl, bt B.out hb9⟩
    · have hd2 : ((x : Int) == (y : Int)) = false := beq_false_of_ne (by omega)
      have ha := (Below.refl Wq3.heap.size Wq3).alloc (Nat.le_refl _) (.cells #[] 5)
      have he := own_empty Wq3 (Nat.le_refl Wq3.heap.size)
      have tm := Mm.out.later ha
      obtain ⟨c0, c1, c2⟩ := tm.cells
      obtain ⟨d0, d1, d2⟩ := Mm.out.cells
      have hml := Mm.out.lt
      have hne : ¬ w1.heap.size = Wq3.heap.size := by omega
      have HA := Lib.hid ha
      have HE := Lib.hid he
      have TM := Lib.hid tm
      have HSM := Lib.hid tm.sl
      have hfl : (flat R R M).length = R * R := flat_length R R M
      obtain ⟨q, hq⟩ : ∃ q, q = R * R := ⟨_, rfl⟩
      have hq25 : q ≤ 256 := by rw [hq]; exact Nat.mul_le_mul hR.2 hR.2
      rw [← hq] at hfl
      have HQ := Lib.hid hq
      have HFL := Lib.hid hfl
      clear ha he tm hq hfl
      go_wp2_with (at_builtin; refine app_sl (dst := some 53) ?_ ?_ HE.out HSM.out (by have := HFL.out; simp; omega) (by simp) ?_; exact rfl; exact rfl; intro v8 w8 ho8 hg8; rw [List.nil_append] at ho8; obtain ⟨ge, ce, hv8, -, -⟩ := own_some ho8 (by have h := HFL.out; have h2 := HQ.out; have := at_lt (show 0 < R by omega) (show 0 < R by omega); omega); rw [HFL.out] at hv8; subst hv8; have HO8 := Lib.hid ho8; have HG8 := Lib.hid hg8; clear ho8 hg8)
      have hb8 : Below Wq3.heap.size Wq3 w8 := HA.out.grown HG8.out HA.out.size (fun z hz => by have e : Wq3.heap.size = z := Option.some.inj hz; omega)
      clear HE HSM HG8 HA TM c0 c1 c2 d0 d1 d2 hne
      have HB8 := Lib.hid hb8
      clear hb8
      go_loopw [15] (fun t wr => ∃ j : Nat, j ≤ R ∧ t = .int .i64 (j : Int) ∧ Own wr Wq3.heap.size (.slice (some ⟨ge, 0, none⟩) q ce) (flat R R (mset M x y f j)) ∧ Below Wq3.heap.size Wq3 wr) (fun t _ => R - (intOf t).toNat)
      case atStart =>
        refine ⟨0, by omega, rfl, ?_, HB8.out⟩
        have e : flat R R (mset M x y f 0) = flat R R M := flat_ext fun a _ b _ => by unfold mset; rw [if_neg (by omega)]
        rw [e]
        exact HO8.out
      case round =>
        clear HO8 HB8
        obtain ⟨j, hj, rfl, hO, hB⟩ := hrel
        have HO := Lib.hid hO
        have HBr := Lib.hid hB
        have tm := Mm.out.later hB
        obtain ⟨c0, c1, c2⟩ := tm.cells
        have TM := Lib.hid tm
        clear hO hB tm
        by_cases hlt : j < R
        · obtain ⟨px, hpx⟩ : ∃ p, p = x * R := ⟨_, rfl⟩
          obtain ⟨py, hpy⟩ : ∃ p, p = y * R := ⟨_, rfl⟩
          have hl1 : px + j < q := by rw [hpx, HQ.out]; exact at_lt hx hlt
          have hl2 : py + j < q := by rw [hpy, HQ.out]; exact at_lt hy hlt
          have hlen : (flat R R (mset M x y f j)).length = q := by rw [flat_length, HQ.out]
          obtain ⟨f1, _, _⟩ := own_cell HO.out hlen hl1
          have hmx : mset M x y f j x j = M x j := by unfold mset; rw [if_neg (fun h => hxy h.1)]
          rw [flat_getD (by rw [← HQ.out]; exact hl1), hpx, div_at hlt, mod_at hlt, hmx, ← hpx] at f1
          have hst : (flat R R (mset M x y f j)).set (py + j) (gm f (M x j)) = flat R R (mset M x y f (j + 1)) := by
            rw [hpy, flat_set _ hlt]
            refine flat_ext fun a _ b _ => ?_
            unfold mset
            by_cases e : a = y ∧ b = j
            · rw [if_pos e, if_pos ⟨e.1, by omega⟩, e.2]
            · rw [if_neg e]
              by_cases e2 : a = y ∧ b < j
              · rw [if_pos e2, if_pos ⟨e2.1, by omega⟩]
              · rw [if_neg e2, if_neg (by omega)]
          have hmb := HM.out x hx j hlt
          have hgb : gm f (M x j) < 256 := gm_lt hf
          have hE : ∀ d os, Calls Try.prog 30 #[.int .u8 (f : Int), .int .u8 ((M x j : Nat) : Int)] (grow (redrawn wr d) os) fun e w'' => e = .returned (.int .u8 ((gm f (M x j) : Nat) : Int)) ∧ ∃ p : Regrown, w'' = grow (redrawn wr p.d) p.os := fun d os => Calls.regrown_of (P.gmul f (M x j) _ hf hmb (ST.out _ _ OK.out (bt (bt B.out HBr.out) (below_regrown wr d os))))
          have hxr : (x : Int) * (R : Int) = (px : Int) := by rw [hpx]; simp
          have hyr : (y : Int) * (R : Int) = (py : Int) := by rw [hpy]; simp
          have HLEN := Lib.hid hlen
          generalize flat R R (mset M x y f j) = L at HO hst HLEN
          generalize gm f (M x j) = z at hst hgb hE
          generalize M x j = mx at f1 hE
          have HST := Lib.hid hst
          have HEE := Lib.hid hE
          clear hst hE hmb hpx hpy hmx hlen
          have u1 : IntKind.i64.wrap (px : Int) = (px : Int) := IntWalk.i64_in _ (by omega)
          have u2 : IntKind.i64.wrap ((px : Int) + (j : Int)) = (px : Int) + (j : Int) := IntWalk.i64_in _ (by omega)
          have u3 : IntKind.i64.wrap (py : Int) = (py : Int) := IntWalk.i64_in _ (by omega)
          have u4 : IntKind.i64.wrap ((py : Int) + (j : Int)) = (py : Int) + (j : Int) := IntWalk.i64_in _ (by omega)
          have n1' : ((px : Int) + (j : Int)).toNat = px + j := by omega
          have n2' : ((py : Int) + (j : Int)).toNat = py + j := by omega
          have i1 : (0 : Int) ≤ (px : Int) + (j : Int) := by omega
          have i2 : (px : Int) + (j : Int) < (q : Int) := by omega
          have i3 : (0 : Int) ≤ (py : Int) + (j : Int) := by omega
          have i4 : (py : Int) + (j : Int) < (q : Int) := by omega
          go_wp2_with fail
          clear c0 c1 c2
          obtain ⟨c0, c1, c2⟩ := TM.out.cells
          have c0 := cells_regrown c0
          have c1 := cells_regrown c1
          have f1 := cells_regrown f1
          refine wp_region_bl_tail 19 (by kernel_rfl) (by kernel_rfl) ?_
          simp only [List.take_succ_cons, List.take_zero, List.drop_succ_cons, List.drop_zero]
          repeat (quiet_step ((go_at_call 30; exact HEE.out _ _)))
          refine wpQuiet_nil ?_
          intro w9 hb9
          have HO9 := Lib.hid (own_below' HO.out hb9)
          have HB9 := Lib.hid (bt HBr.out hb9)
          obtain ⟨q1, q2, q3⟩ := own_cell HO9.out HLEN.out hl2
          clear c0 c1 c2 f1 u1 u2 u3 u4 hb9 HO HBr TM
          go_wp2
          all_goals first | (exact absurd (q2.symm.trans (show _ = true by assumption)) (by decide)) | skip
          go_roundw
          case rel => exact ⟨j + 1, by omega, by go_num, by rw [← HST.out]; exact own_set HO9.out HLEN.out hl2 hgb, HB9.out.setCell q3 _⟩
          case measure => simp [intOf]; omega
        · obtain rfl : R = j := by omega
          have hM' : Bd R R (mset M x y f R) := fun a ha b hb => by
            unfold mset
            by_cases e : a = y ∧ b < R
            · rw [if_pos e]; exact gm_lt hf
            · rw [if_neg e]; exact HM.out a ha b hb
          have hns : ∀ X, ¬ Inv2 R (mset M x y f R) X := fun X => rows_not_inv hM' hf hx hy hxy fun b hb => by
            unfold mset
            rw [if_pos ⟨rfl, hb⟩, if_neg (fun h => hxy h.1)]
          have q1 := (q_invert P (mset M x y f R) hR wr _ HO.out.sl (ST.out _ _ OK.out (bt B.out HBr.out))).mono fun e w' h => by
            rcases h with ⟨X, hX, _⟩ | ⟨_, hm⟩
            · exact absurd hX (hns X)
            · exact hm
          unfold mv at q1
          have Q1 := Lib.hid q1
          clear q1 hns hM'
          go_wp2_with fail
          refine Q1.out.mono ?_
          unfold MS mv
          rintro e w9 ⟨⟨s9, rfl, hs9⟩, hb9⟩
          obtain ⟨a9, c9, hv9, -, -⟩ := sl_form hs9
          rw [show ([] : List Nat).length = 0 from rfl] at hv9
          subst hv9
          have hb10 := (bt (bt B.out HBr.out) hb9).alloc (bt (bt B.out HBr.out) hb9).size (.cells #[.int .i64 0, .int .i64 0, .slice a9 0 c9] 27)
          have HB10 := Lib.hid hb10
          clear hs9 hb9 hb10 c0 c1 c2
          go_wp2_with fail
          refine (AW.out _ (ST.out _ _ OK.out HB10.out)).mono ?_
          rintro e w11 ⟨rfl, hb11⟩
          go_wp2_with fail
          go_ret
          exact ⟨rfl, bt HB10.out hb11⟩
end Go.Proofs.Ytcckhgadgiaofaa.Gf
