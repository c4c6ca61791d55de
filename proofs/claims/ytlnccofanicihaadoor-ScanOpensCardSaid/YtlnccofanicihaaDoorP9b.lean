/- What is proved here: the contract of the program's Open (scan). Condition: the table of crc32c as laid. -/
import Derived.Test.YtlnccofanicihaaDoorR9e
import Derived.Test.YtlnccofanicihaaDoorJ7
import Derived.Deep.Cut
import Derived.WalkMore
import Derived.ScopeJumps
namespace Go.Proofs.YtlnccofanicihaaDoor.Gf
open Go Go.Joins Go.ChangeShapes Go.WideShapes Go.ChangeAt Go.RowKit Go.Deep Go.Proofs.YtlnccofanicihaaDoor.By Go.Proofs.YtlnccofanicihaaDoor.Crc Go.Proofs.YtlnccofanicihaaDoor.Qt

/-- A scope out of which the run jumps forward to one label. -/
theorem wp_scope_forward {P : Program} {a : Act} {w : World} {Q : Exit → Act → World → Prop} {c rest : Code} (l : Nat) (hf : findLabel c l = some rest) (first : ∀ K : Act → World → Prop, (∀ a w, rest.wp P (Exit.noGoto Q) a w → K a w) → c.wp P (Exit.jump l K Q) a w) : (Code.scope c).wp P Q a w :=
  wp_scope_jumps l (fun a w => rest.wp P (Exit.noGoto Q) a w) (fun _ _ => 0) hf (first _ fun _ _ h => h) fun _ _ h => wp_mono h fun e _ _ hq => by
    cases e with
    | goto _ => exact hq.elim
    | _ => exact hq
theorem Exit.jump_ret {l : Nat} {J : Act → World → Prop} {Q : Exit → Act → World → Prop} {a : Act} {w : World} : Exit.jump l J Q .ret a w = Q .ret a w := rfl
theorem popn_end {R : Ending → World → Prop} {W : World} {g : Nat} {tmps : Array Value} {k c d : Value} (hp : tmps.getD 2 undef = .pointer (some ⟨g, 0, none⟩)) (hg : W.heap[g]? = some (.cells #[k, c, d] 30 (0, 0)))
    (hR : R (.returned (.tuple #[.agg #[k, c, d], tmps.getD 3 undef, tmps.getD 4 undef, tmps.getD 5 undef])) W) : bodyPost Tryd.prog Tryd.f12 R .ret { tmps := tmps, defers := [] } W :=
  bodyPost_ret (results_rttt rfl _ _ g #[k, c, d] hp hg Tryd.underlying30 rfl info7) rfl hR
set_option maxRecDepth 100000 in
set_option maxHeartbeats 6400000 in
theorem popen_any (v : Value) (l : List Nat) (w : World) (s : Sl w v l) (ht : Tab w) (hlen : l.length ≤ 100000000) : Calls Tryd.prog 12 #[v] w (OO 61 w l) := by
  have HT := Lib.hid ht
  obtain ⟨al, cl, hv, hcl, hcm⟩ := sl_form s
  obtain ⟨n, hn⟩ : ∃ n, n = l.length := ⟨_, rfl⟩
  rw [← hn] at hv hlen
  subst hv
  have S := Lib.hid s
  have N := Lib.hid hn
  have HLEN := Lib.hid hlen
  clear s hn hcl hcm ht hlen
  have HB0 := Lib.hid ((Below.refl w.heap.size w).alloc (Nat.le_refl _) (.cells #[.int .i64 0, .int .i64 0, .int .i64 0] 30))
  have HG0 := Lib.hid (heap_alloc_new w (.cells #[.int .i64 0, .int .i64 0, .int .i64 0] 30))
  go_enter Tryd.func12, Tryd.ntmps12
  go_wp2_with fail
  refine wp_scope_forward 0 rfl ?_
  intro KJ hKJ
  have HKJ := Lib.hid hKJ
  clear hKJ
  go_wp2_with fail
  refine (pdecode7_any _ l _ (sl_below S.out HB0.out) (tab_below HT.out HB0.out)).mono ?_
  rintro e w1 ⟨rfl, hb1⟩
  have hG : w1.heap[w.heap.size]? = some (.cells #[.int .i64 0, .int .i64 0, .int .i64 0] 30 (0, 0)) := (hb1.block _ (by simp)).trans HG0.out
  have B1 := Lib.hid (bt HB0.out hb1)
  have HG := Lib.hid hG
  obtain ⟨x0, x1, x2, z0', z1', z2'⟩ := bx3 hG
  clear hb1 hG HG0 HB0
  obtain ⟨a, b, c, hx⟩ : ∃ a b c : Int, dX7 l = .agg #[.int .i64 a, .int .i64 b, .int .i64 c] := by unfold dX7; split; exact ⟨_, _, _, rfl⟩; exact ⟨0, 0, 0, rfl⟩
  rw [hx]
  have HX := Lib.hid hx
  obtain ⟨E, hE⟩ : ∃ E, E = dE7 l := ⟨_, rfl⟩
  rw [← hE]
  have HE := Lib.hid hE
  clear hx hE
  go_upto_region 2 with fail
  have HG1 := Lib.hid (set3 (k := .int .i64 a) (l := .int .i64 b) (m := .int .i64 c) HG.out)
  have B1' := Lib.hid (below3 (k := .int .i64 a) (l := .int .i64 b) (m := .int .i64 c) B1.out (Nat.le_refl _))
  have HLT1 : Hid (w.heap.size + 1 ≤ w1.heap.size) := Nat.succ_le_of_lt (lt_of_some HG.out)
  clear x0 x1 x2 z0' z1' z2' HG B1
  generalize ((w1.setCell ⟨w.heap.size, 0, none⟩ (.int .i64 a)).setCell ⟨w.heap.size, 1, none⟩ (.int .i64 b)).setCell ⟨w.heap.size, 2, none⟩ (.int .i64 c) = W2 at *
  clear HLT1
  by_cases he : E = 0
  · subst he
    have H16 : Hid (16 ≤ n) := Lib.hid (by rw [N.out]; have := (d7_of HE.out.symm).1; omega)
    have HOP : Hid (opL l = recs l 16) := Lib.hid (by unfold opL; rw [if_pos HE.out.symm])
    go_wp2_with fail
    go_loopw [3, 4] (fun out end_ wr => ∃ (q : Nat) (R : List Rc), end_ = .int .i64 (q : Int) ∧ q ≤ n ∧ R.length ≤ q ∧ OwR 61 0 wr (w.heap.size + 1) out R ∧ Below w.heap.size w wr ∧ wr.heap[w.heap.size]? = some (.cells #[.int .i64 a, .int .i64 b, .int .i64 c] 30 (0, 0)) ∧ recs l 16 = (R ++ (recs l q).1, (recs l q).2)) (fun _ end_ _ => n - (intOf end_).toNat)
    case atStart => exact ⟨16, [], rfl, H16.out, Nat.zero_le _, owR_nil _ _ _ _, B1'.out, HG1.out, by simp⟩
    case round =>
      clear HG1 B1'
      obtain ⟨q, R, rfl, hq, hR, ho, hB, hbx, hrec⟩ := hrel
      have HO := Lib.hid ho
      have HB := Lib.hid hB
      have HREC := Lib.hid hrec
      have HQ := Lib.hid (And.intro hq hR)
      have HGL := Lib.hid hbx
      have HLT : Hid (w.heap.size + 1 ≤ wr.heap.size) := Nat.succ_le_of_lt (lt_of_some hbx)
      clear ho hB hrec hR hbx
      have hlen := HLEN.out
      obtain ⟨ao, co, rfl, hco1, hco2⟩ := owR_form HO.out
      have HCO := Lib.hid (And.intro hco1 hco2)
      generalize R.length = m at *
      clear hco1 hco2
      have SLF := Lib.hid (sl_from (sl_below S.out HB.out) hq)
      by_cases hcq : q = cl
      all_goals
        first
          | (subst hcq
             have hsl := SLF.out
             rw [if_pos rfl, Nat.sub_self] at hsl
             have HSL := Lib.hid hsl
             clear hsl)
          | (have hcq2 : ¬ cl = q := fun e => hcq e.symm
             have hsl := SLF.out
             rw [if_neg hcq2] at hsl
             have HSL := Lib.hid hsl
             clear hsl)
        clear SLF
        go_wp2_with fail
        refine (pdecode_any _ (l.drop q) wr HSL.out (tab_below HT.out HB.out)).mono ?_
        rintro e w2 ⟨⟨vx, rfl, d, rfl, hk1, hk2, hd⟩, hb2⟩
        have B2 := Lib.hid (bt HB.out hb2)
        obtain ⟨ad, cd, rfl, hcd1, hcd2⟩ := sl_form hd.sl
        have HD := Lib.hid hd
        have HSLF : Hid True := Lib.hid trivial
        have HK := Lib.hid (And.intro hk1 hk2)
        have HO2 := Lib.hid (owR_below HO.out hb2)
        have HG2 := Lib.hid ((hb2.block _ (lt_of_some HGL.out)).trans HGL.out)
        clear hd hk1 hk2 hb2 HO HGL
        by_cases he : decE (l.drop q) = 0
        · have HN := decN_ok he
          rw [List.length_drop, ← N.out] at HN
          obtain ⟨k, hk⟩ : ∃ k, k = decN (l.drop q) := ⟨_, rfl⟩
          have HR2 := Lib.hid (recs_mono HREC.out hk.symm he)
          rw [← hk] at HN
          have g0 : decide ((((decE (l.drop q) : Nat) : Int)) = 0) = true := by rw [he]; rfl
          rw [he, ← hk]
          generalize decX (l.drop q) = X at *
          obtain ⟨nd, hnd⟩ : ∃ z, z = X.data.length := ⟨_, rfl⟩
          rw [← hnd] at HD hcd1 ⊢
          have HND := Lib.hid (And.intro hnd (And.intro hcd1 hcd2))
          clear hnd hcd1 hcd2 HSLF
          have HE := Lib.hid he
          have HKK := Lib.hid hk
          have HNN := Lib.hid HN
          have hm8 : m ≤ 100000000 := by have := HQ.out.2; omega
          have HM8 := Lib.hid hm8
          clear hk he HN g0 hm8
          obtain ⟨A, hA⟩ : ∃ A, A = Obj.cells #[.int .u64 (X.key : Int), .int .u32 (X.cookie : Int), .bool X.del, .slice ad nd cd] 56 := ⟨_, rfl⟩
          obtain ⟨C, hC⟩ : ∃ C, C = Obj.cells #[.int .i64 (q : Int), .int .u64 (X.key : Int), .int .u32 (X.cookie : Int), .bool X.del, .slice ad nd cd] 61 := ⟨_, rfl⟩
          have ha : Below w2.heap.size w2 ((w2.alloc A).alloc C) := ((Below.refl _ _).alloc (Nat.le_refl _) _).alloc (by simp) _
          have hg : ((w2.alloc A).alloc C).heap[w2.heap.size + 1]? = some C := by have h := heap_alloc_new (w2.alloc A) C; rwa [show (w2.alloc A).heap.size = w2.heap.size + 1 by simp] at h
          rw [hA, hC] at ha hg
          have HA := Lib.hid ha
          have HG := Lib.hid hg
          have HSZ := Lib.hid (Nat.le_trans (Nat.succ_le_of_lt (lt_of_some HG2.out)) ha.size)
          have HSZ0 := Lib.hid (Nat.le_trans B2.out.size ha.size)
          have HG3 := Lib.hid ((ha.block _ (lt_of_some HG2.out)).trans HG2.out)
          have HKP := Lib.hid (show KpB 0 _ (w.heap.size + 1) (.slice ad nd cd) X.data from Or.inl (own_weak (own_below' HD.out ha) HLT.out))
          have HOK := Lib.hid (show RvOk ⟨(q : Int), X, .slice ad nd cd⟩ from ⟨by have := HQ.out.1; show _ ≤ ((q : Nat) : Int) ∧ ((q : Nat) : Int) ≤ _; omega, HK.out.1, HK.out.2, _, _, _, rfl⟩)
          have HOA := Lib.hid (owR_below HO2.out ha)
          have HRM : Hid (R.length = m) := Lib.hid (by obtain ⟨a9, c9, e9, -, -⟩ := owR_form HO2.out; simp at e9; exact e9.2.1.symm)
          clear ha hg hA hC A C
          go_wp2_with (at_builtin; refine app_rc tyScan (dst := some 33) (base := w.heap.size + 1) (g := w2.heap.size + 1) (r := ⟨(q : Int), X⟩) ?_ ?_ HOA.out HG.out HKP.out HOK.out (by have h1 := HRM.out; have h2 := HM8.out; omega) HSZ.out (Nat.zero_le _) ?_; exact rfl; exact rfl; intro v5 w5 ho5 hg5; have B5 := Lib.hid (below_grownR (bt B2.out HA.out) hg5 HOA.out HSZ0.out (Nat.le_succ _)); have HG5 := Lib.hid (show w5.heap[w.heap.size]? = some (.cells #[.int .i64 a, .int .i64 b, .int .i64 c] 30 (0, 0)) from (hg5.block _ (lt_of_some HG3.out) (fun e => by first | (have := (owR_lt HOA.out _ e).1; omega) | (have := (owR_lt HOA.out _ e.symm).1; omega))).trans HG3.out); have HO5 := Lib.hid ho5; clear ho5 hg5)
          have h1 := HNN.out
          have h2 := HQ.out
          have h3 : q + k ≤ n := by omega
          have hw : wrap64 ((q : Int) + (k : Int)) = ((q + k : Nat) : Int) := by unfold wrap64; omega
          go_roundw
          case rel => exact ⟨_, _, _, _, _, _, _, _, _, _, _, _, _, _, _, _, _, _, _, _, _, _, _, _, ⟨q + k, R ++ [⟨(q : Int), X⟩], by rw [hw], by omega, by have h1 := HRM.out; have h2 := HQ.out.2; have h3 := HNN.out.1; simp; omega, HO5.out, B5.out, HG5.out, HR2.out⟩, rfl⟩
          case measure =>
            rw [hw]
            simp [intOf]
            omega
        · have HX : decX (l.drop q) = ⟨0, 0, false, []⟩ := by unfold decX; rw [if_neg he]
          have HR2 := Lib.hid HREC.out
          rw [recs_err he, List.append_nil] at HR2
          have g0 : ((((decE (l.drop q) : Nat) : Int)) != 0) = true := by rw [bne_iff_ne]; omega
          generalize decE (l.drop q) = E at *
          generalize decX (l.drop q) = X at *
          obtain ⟨nd, hnd⟩ : ∃ z, z = X.data.length := ⟨_, rfl⟩
          rw [← hnd]
          clear HX hcd1 hcd2 hnd
          generalize decN (l.drop q) = K at *
          have ha := (Below.refl w2.heap.size w2).alloc (Nat.le_refl _) (.cells #[.int .u64 (X.key : Int), .int .u32 (X.cookie : Int), .bool X.del, .slice ad nd cd] 56)
          have hG4 := (ha.block _ (lt_of_some HG2.out)).trans HG2.out
          obtain ⟨x0, x1, x2, z0', z1', z2'⟩ := bx3 hG4
          have HA := Lib.hid ha
          have HG4 := Lib.hid hG4
          clear ha hG4
          go_wp2
          refine wp_goto (show (0 : Nat) = 0 ∧ KJ _ _ from ⟨rfl, HKJ.out _ _ ?_⟩)
          clear HKJ
          go_wp2
          rw [Exit.noGoto_ret]
          refine popn_end (g := w.heap.size) rfl (set3 HG4.out) ?_
          refine ⟨⟨.slice ao m co, by rw [HX.out, HOP.out, HR2.out, ← HE.out]; rfl, ?_⟩, below3 (bt B2.out HA.out) (Nat.le_refl _)⟩
          rw [HOP.out, HR2.out]
          exact owR_base (owR_set (owR_set (owR_set (owR_below HO2.out HA.out) (by omega) (Nat.zero_le _)) (by omega) (Nat.zero_le _)) (by omega) (Nat.zero_le _)) (Nat.le_succ _)
  · have HOP : Hid (opL l = ([], 0)) := Lib.hid (by unfold opL; rw [if_neg (by rw [← HE.out]; exact he)])
    have g0 : ((((E : Nat) : Int)) != 0) = true := by rw [bne_iff_ne]; omega
    have HX2 : Hid (dX7 l = .agg #[.int .i64 0, .int .i64 0, .int .i64 0]) := Lib.hid (by unfold dX7; rw [if_neg (by rw [← HE.out]; exact he)]; rfl)
    clear he
    obtain ⟨x0, x1, x2, z0', z1', z2'⟩ := bx3 HG1.out
    go_wp2
    rw [Exit.jump_ret]
    refine popn_end (g := w.heap.size) rfl (set3 HG1.out) ?_
    exact ⟨⟨.slice none 0 0, by rw [HX2.out, HOP.out, ← HE.out]; rfl, by rw [HOP.out]; exact owR_nil _ _ _ _⟩, below3 B1'.out (Nat.le_refl _)⟩
end Go.Proofs.YtlnccofanicihaaDoor.Gf
