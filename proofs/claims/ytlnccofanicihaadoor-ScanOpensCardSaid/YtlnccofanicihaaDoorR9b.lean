/- What is proved here: the reference's Salvage. No condition. -/
import Derived.Test.YtlnccofanicihaaDoorR9a
namespace Go.Proofs.YtlnccofanicihaaDoor.Gf
open Go Go.Joins Go.ChangeShapes Go.WideShapes Go.ChangeAt Go.RowKit Go.Deep Go.Proofs.YtlnccofanicihaaDoor.By Go.Proofs.YtlnccofanicihaaDoor.Crc Go.Proofs.YtlnccofanicihaaDoor.Qt

/-- A call that answers records. -/
def SO (T : TypeId) (w : World) (R : List Rc) (e : Ending) (w' : World) : Prop := (∃ v, e = .returned v ∧ OwR T 0 w' w.heap.size v R) ∧ Below w.heap.size w w'
theorem slv_mono {l : List Nat} {q n : Nat} {R M : List Rc} (h : M = R ++ slv l q) (hn : decN (l.drop q) = n) (he : decE (l.drop q) = 0) : M = (R ++ [⟨(q : Int), decX (l.drop q)⟩]) ++ slv l (q + n) := by
  rw [h, slv_ok he, hn, List.append_assoc]
  rfl
set_option maxRecDepth 100000 in
set_option maxHeartbeats 6400000 in
theorem rsalvage_any (v : Value) (l : List Nat) (w : World) (s : Sl w v l) (hlen : l.length ≤ 100000000) : Calls Tryd.prog 16 #[v] w (SO 77 w (slv l 16)) := by
  obtain ⟨al, cl, hv, hcl, hcm⟩ := sl_form s
  obtain ⟨n, hn⟩ : ∃ n, n = l.length := ⟨_, rfl⟩
  rw [← hn] at hv hlen
  subst hv
  have S := Lib.hid s
  have N := Lib.hid hn
  clear s hn hcl hcm
  go_enter Tryd.func16, Tryd.ntmps16
  go_wp2_with fail
  go_loopw [3, 4] (fun out at_ wr => ∃ (q : Nat) (R : List Rc), at_ = .int .i64 (q : Int) ∧ q ≤ n + 16 ∧ R.length ≤ q ∧ OwR 77 0 wr w.heap.size out R ∧ Below w.heap.size w wr ∧ slv l 16 = R ++ slv l q) (fun _ at_ _ => n + 16 - (intOf at_).toNat)
  case atStart => exact ⟨16, [], rfl, by omega, Nat.zero_le _, owR_nil _ _ _ _, Below.refl _ _, by simp⟩
  case round =>
    obtain ⟨q, R, rfl, hq, hR, ho, hB, hrec⟩ := hrel
    by_cases hqn : n ≤ q
    · have c1 : decide ((q : Int) < (n : Int)) = false := decide_eq_false (by omega)
      rw [slv_end (b := l) (p := q) (by have := N.out; omega), List.append_nil] at hrec
      have HO := Lib.hid ho
      have HB := Lib.hid hB
      have HREC := Lib.hid hrec
      clear ho hB hrec hR
      obtain ⟨ao, co, rfl, -, -⟩ := owR_form HO.out
      generalize R.length = m at *
      go_wp2
      go_ret
      exact ⟨⟨.slice ao m co, rfl, by rw [HREC.out]; exact HO.out⟩, HB.out⟩
    replace hq : q ≤ n := by omega
    have hqn2 : q < n := by omega
    clear hqn
    have c1 : decide ((q : Int) < (n : Int)) = true := decide_eq_true (by omega)
    have HO := Lib.hid ho
    have HB := Lib.hid hB
    have HREC := Lib.hid hrec
    have HQ := Lib.hid (And.intro hq hR)
    have HQN := Lib.hid hqn2
    clear hqn2
    clear ho hB hrec hR
    obtain ⟨ao, co, rfl, hco1, hco2⟩ := owR_form HO.out
    have HCO := Lib.hid (And.intro hco1 hco2)
    generalize R.length = m at *
    clear hco1 hco2
    have SLF := Lib.hid (sl_from (sl_below S.out HB.out) hq)
    by_cases hcq : q = cl
    all_goals
      first
        | (subst hcq
           have hsl := SLF.out
           rw [if_pos rfl, Nat.sub_self] at hsl
           have HSL := Lib.hid hsl
           clear hsl)
        | (have hcq2 : ¬ cl = q := fun e => hcq e.symm
           have hsl := SLF.out
           rw [if_neg hcq2] at hsl
           have HSL := Lib.hid hsl
           clear hsl)
      clear SLF
      go_wp2_with fail
      refine (rdecode_any _ (l.drop q) wr HSL.out).mono ?_
      rintro e w2 ⟨⟨vx, rfl, d, rfl, hk1, hk2, hd⟩, hb2⟩
      have B2 := Lib.hid (bt HB.out hb2)
      obtain ⟨ad, cd, rfl, hcd1, hcd2⟩ := sl_form hd.sl
      have HD := Lib.hid hd
      have HSLF : Hid True := Lib.hid trivial
      have HK := Lib.hid (And.intro hk1 hk2)
      have HO2 := Lib.hid (owR_below HO.out hb2)
      clear hd hk1 hk2 hb2 HO
      by_cases he : decE (l.drop q) = 0
      · have HN := decN_ok he
        rw [List.length_drop, ← N.out] at HN
        obtain ⟨k, hk⟩ : ∃ k, k = decN (l.drop q) := ⟨_, rfl⟩
        have HR2 := Lib.hid (slv_mono HREC.out hk.symm he)
        rw [← hk] at HN
        have g0 : decide ((((decE (l.drop q) : Nat) : Int)) = 0) = true := by rw [he]; rfl
        rw [he, ← hk]
        generalize decX (l.drop q) = X at *
        obtain ⟨nd, hnd⟩ : ∃ z, z = X.data.length := ⟨_, rfl⟩
        rw [← hnd] at HD hcd1 ⊢
        have HND := Lib.hid (And.intro hnd (And.intro hcd1 hcd2))
        clear hnd hcd1 hcd2 HSLF
        have HE := Lib.hid he
        have HKK := Lib.hid hk
        have HNN := Lib.hid HN
        have hm8 : m ≤ 100000000 := by have := HQ.out.2; omega
        have HM8 := Lib.hid hm8
        clear hk he HN g0 hm8
        obtain ⟨A, hA⟩ : ∃ A, A = Obj.cells #[.int .u64 (X.key : Int), .int .u32 (X.cookie : Int), .bool X.del, .slice ad nd cd] 56 := ⟨_, rfl⟩
        obtain ⟨C, hC⟩ : ∃ C, C = Obj.cells #[.int .i64 (q : Int), .int .u64 (X.key : Int), .int .u32 (X.cookie : Int), .bool X.del, .slice ad nd cd] 77 := ⟨_, rfl⟩
        have ha : Below w2.heap.size w2 ((w2.alloc A).alloc C) := ((Below.refl _ _).alloc (Nat.le_refl _) _).alloc (by simp) _
        have hg : ((w2.alloc A).alloc C).heap[w2.heap.size + 1]? = some C := by have h := heap_alloc_new (w2.alloc A) C; rwa [show (w2.alloc A).heap.size = w2.heap.size + 1 by simp] at h
        rw [hA, hC] at ha hg
        have HA := Lib.hid ha
        have HG := Lib.hid hg
        have HSZ := Lib.hid (Nat.le_trans B2.out.size ha.size)
        have HKP := Lib.hid (show KpB 0 _ w.heap.size (.slice ad nd cd) X.data from Or.inl (own_weak (own_below' HD.out ha) HB.out.size))
        have HOK := Lib.hid (show RvOk ⟨(q : Int), X, .slice ad nd cd⟩ from ⟨by have := HQ.out.1; show _ ≤ ((q : Nat) : Int) ∧ ((q : Nat) : Int) ≤ _; omega, HK.out.1, HK.out.2, _, _, _, rfl⟩)
        have HOA := Lib.hid (owR_below HO2.out ha)
        have HRM : Hid (R.length = m) := Lib.hid (by obtain ⟨a9, c9, e9, -, -⟩ := owR_form HO2.out; simp at e9; exact e9.2.1.symm)
        clear ha hg hA hC A C
        go_wp2_with (at_builtin; refine app_rc tyRef (dst := some 29) (base := w.heap.size) (g := w2.heap.size + 1) (r := ⟨(q : Int), X⟩) ?_ ?_ HOA.out HG.out HKP.out HOK.out (by have h1 := HRM.out; have h2 := HM8.out; omega) HSZ.out (Nat.zero_le _) ?_; exact rfl; exact rfl; intro v5 w5 ho5 hg5; have B5 := Lib.hid (below_grownR (bt B2.out HA.out) hg5 HOA.out HSZ.out (Nat.le_refl _)); have HO5 := Lib.hid ho5; clear ho5 hg5)
        have h1 := HNN.out
        have h2 := HQ.out
        have h3 : q + k ≤ n := by omega
        have h5 := HQN.out
        have hw : wrap64 ((q : Int) + (k : Int)) = ((q + k : Nat) : Int) := by unfold wrap64; omega
        go_roundw
        case rel => exact ⟨q + k, R ++ [⟨(q : Int), X⟩], by rw [hw], by omega, by have h1 := HRM.out; have h2 := HQ.out.2; have h3 := HNN.out.1; simp; omega, HO5.out, B5.out, HR2.out⟩
        case measure =>
          rw [hw]
          simp [intOf]
          omega
      · have HX : decX (l.drop q) = ⟨0, 0, false, []⟩ := by unfold decX; rw [if_neg he]
        have HR2 := Lib.hid HREC.out
        rw [slv_err he] at HR2
        have g0 : ((((decE (l.drop q) : Nat) : Int)) != 0) = true := by rw [bne_iff_ne]; omega
        generalize decE (l.drop q) = E at *
        generalize decX (l.drop q) = X at *
        obtain ⟨nd, hnd⟩ : ∃ z, z = X.data.length := ⟨_, rfl⟩
        rw [← hnd]
        clear HX hcd1 hcd2 hnd
        generalize decN (l.drop q) = K at *
        have HRM : Hid (R.length = m) := Lib.hid (by obtain ⟨a9, c9, e9, -, -⟩ := owR_form HO2.out; simp at e9; exact e9.2.1.symm)
        go_wp2
        have h2 := HQ.out
        have h3 := HQN.out
        have h4 := HRM.out
        have ha := (Below.refl w2.heap.size w2).alloc (Nat.le_refl _) (.cells #[.int .u64 (X.key : Int), .int .u32 (X.cookie : Int), .bool X.del, .slice ad nd cd] 56)
        go_roundw
        case rel => exact ⟨q + 8, R, rfl, by omega, by omega, owR_below HO2.out ha, bt B2.out ha, HR2.out⟩
        case measure =>
          simp [intOf]
          omega
end Go.Proofs.YtlnccofanicihaaDoor.Gf
