/- What is proved here: the reference's Records, and the rest of a slice of bytes. No condition. -/
import Derived.Test.YtlnccofanicihaaDoorQ6d
import Derived.Test.YtlnccofanicihaaDoorI9
namespace Go.Proofs.YtlnccofanicihaaDoor.Gf
open Go Go.Joins Go.ChangeShapes Go.WideShapes Go.ChangeAt Go.RowKit Go.Deep Go.Proofs.YtlnccofanicihaaDoor.By Go.Proofs.YtlnccofanicihaaDoor.Crc Go.Proofs.YtlnccofanicihaaDoor.Qt

theorem elemB9 : Tryd.prog.underlying 22 = some (.slice (Tryd.prog.elem 22)) := by kernel_rfl
theorem run_fromB (W : World) (a : Option Addr) {n cap l : Nat} (h1 : l ≤ n) : (Instr.sliceAt 22 (.slice a n cap) (some (.int .i64 (l : Int))) none none).run Tryd.prog W = .ok (.slice (if cap = l then a else a.map (·.add l)) (n - l) (cap - l)) W := by
  rw [run_sliceAt_slice (h := elemB9)]
  simp [Instr.slice, Instr.sliceBounds, Instr.sliceBound, run_underlying Tryd.underlying22, asIntOf, h1]
/-- What lies behind the l-th byte. -/
theorem sl_from {W : World} {a : Option Addr} {n cap p : Nat} {l : List Nat} (h : Sl W (.slice a n cap) l) (hp : p ≤ n) : Sl W (.slice (if cap = p then a else a.map (·.add p)) (n - p) (cap - p)) (l.drop p) := by
  obtain ⟨a', cap', hv, h2, h3⟩ := sl_form h
  obtain ⟨rfl, rfl, rfl⟩ : a = a' ∧ n = l.length ∧ cap = cap' := by simpa using hv
  by_cases e : p = l.length
  · rw [List.drop_of_length_le (by omega), show l.length - p = 0 by omega]
    exact ⟨by simp, by simp, Or.inl ⟨_, _, rfl, rfl, by omega⟩⟩
  · obtain ⟨b, o, c, hv', h4, h5, hk⟩ := sl_cells h (by omega)
    obtain ⟨rfl, -⟩ : a = some ⟨b, o, none⟩ ∧ cap = c := by simpa using hv'
    have hc := sl_cut (w := W) (p := p) (c := l.length - p) h.1 rfl h3 h2 hk (by omega)
    rw [List.take_of_length_le (by rw [List.length_drop]; exact Nat.le_refl _)] at hc
    rw [if_neg (by omega)]
    simpa [add_none] using hc
/-- l[k:], as a step. -/
theorem from_stepB {ops : Array Oper} {rest : List Oper} {dst : Option Tmp} {s x : Operand} {pos : String} {after : Array Edge} {ty : TypeId} {a : Act} {W : World} {Q : Exit → Act → World → Prop}
    {p : Option Addr} {n cap l : Nat} (hs : a.eval s = .slice p n cap) (hx : a.eval x = .int .i64 (l : Int)) (h1 : l ≤ n)
    (h : wpList Tryd.prog ops Q rest (a.put dst (.slice (if cap = l then p else p.map (·.add l)) (n - l) (cap - l))) W) : wpList Tryd.prog ops Q (⟨dst, .slice 22 s (some x) none none, ty, pos, after, none⟩ :: rest) a W := by
  refine wpList_plain rfl fun K hK => ?_
  unfold Oper.wp execOp
  simp only [hs, hx, Option.map_some, Option.map_none, Sem.run_bind, Sem.run_pure, Result.andThen_ok, run_fromB W p h1]
  exact hK _ _ h
/-- A call that answers records and a place. -/
def RO (T : TypeId) (w : World) (R : List Rc) (n : Nat) (e : Ending) (w' : World) : Prop := (∃ v, e = .returned (.tuple #[v, .int .i64 (n : Int)]) ∧ OwR T 0 w' w.heap.size v R) ∧ Below w.heap.size w w'
theorem recs_mono {l : List Nat} {q n : Nat} {R : List Rc} {p : Nat} (h : recs l p = (R ++ (recs l q).1, (recs l q).2)) (hn : decN (l.drop q) = n) (he : decE (l.drop q) = 0) : recs l p = ((R ++ [⟨(q : Int), decX (l.drop q)⟩]) ++ (recs l (q + n)).1, (recs l (q + n)).2) := by
  rw [h, recs_ok he, hn, List.append_assoc]
  rfl
set_option maxRecDepth 100000 in
set_option maxHeartbeats 6400000 in
theorem rrecords_any (v : Value) (l : List Nat) (p : Nat) (w : World) (s : Sl w v l) (hlen : l.length ≤ 100000000) (hp : p ≤ l.length) : Calls Tryd.prog 31 #[v, .int .i64 (p : Int)] w (RO 77 w (recs l p).1 (recs l p).2) := by
  obtain ⟨al, cl, hv, hcl, hcm⟩ := sl_form s
  obtain ⟨n, hn⟩ : ∃ n, n = l.length := ⟨_, rfl⟩
  rw [← hn] at hv hlen hp
  subst hv
  have S := Lib.hid s
  have N := Lib.hid hn
  clear s hn hcl hcm
  go_enter Tryd.func31, Tryd.ntmps31
  go_wp2_with fail
  go_loopw [1, 6] (fun at_ out wr => ∃ (q : Nat) (R : List Rc), at_ = .int .i64 (q : Int) ∧ q ≤ n ∧ R.length ≤ q ∧ OwR 77 0 wr w.heap.size out R ∧ Below w.heap.size w wr ∧ recs l p = (R ++ (recs l q).1, (recs l q).2)) (fun at_ _ _ => n - (intOf at_).toNat)
  case atStart => exact ⟨p, [], rfl, hp, Nat.zero_le _, owR_nil _ _ _ _, Below.refl _ _, by simp⟩
  case round =>
    obtain ⟨q, R, rfl, hq, hR, ho, hB, hrec⟩ := hrel
    have c1 : decide ((q : Int) ≤ (n : Int)) = true := decide_eq_true (by omega)
    have HO := Lib.hid ho
    have HB := Lib.hid hB
    have HREC := Lib.hid hrec
    have HQ := Lib.hid (And.intro hq hR)
    have RD := Lib.hid (rdecode_any _ _ wr (sl_from (sl_below S.out hB) hq))
    clear ho hB hrec hR
    obtain ⟨ao, co, rfl, hco1, hco2⟩ := owR_form HO.out
    have HCO := Lib.hid (And.intro hco1 hco2)
    generalize R.length = m at *
    clear hco1 hco2
    have SLF := Lib.hid (sl_from (sl_below S.out HB.out) hq)
    clear RD
    by_cases hcq : q = cl
    all_goals
      first
        | (subst hcq
           have hsl := SLF.out
           rw [if_pos rfl, Nat.sub_self] at hsl
           have HSL := Lib.hid hsl
           clear hsl)
        | (have hcq2 : ¬ cl = q := fun e => hcq e.symm
           have hsl := SLF.out
           rw [if_neg hcq2] at hsl
           have HSL := Lib.hid hsl
           clear hsl)
      clear SLF
      go_wp2_with fail
      refine (rdecode_any _ (l.drop q) wr HSL.out).mono ?_
      rintro e w2 ⟨⟨vx, rfl, d, rfl, hk1, hk2, hd⟩, hb2⟩
      have B2 := Lib.hid (bt HB.out hb2)
      obtain ⟨ad, cd, rfl, hcd1, hcd2⟩ := sl_form hd.sl
      have HD := Lib.hid hd
      have HSLF : Hid True := Lib.hid trivial
      have HK := Lib.hid (And.intro hk1 hk2)
      have HO2 := Lib.hid (owR_below HO.out hb2)
      clear hd hk1 hk2 hb2 HO
      by_cases he : decE (l.drop q) = 0
      · have HN := decN_ok he
        rw [List.length_drop, ← N.out] at HN
        obtain ⟨k, hk⟩ : ∃ k, k = decN (l.drop q) := ⟨_, rfl⟩
        have HR2 := Lib.hid (recs_mono HREC.out hk.symm he)
        rw [← hk] at HN
        have g0 : decide ((((decE (l.drop q) : Nat) : Int)) = 0) = true := by rw [he]; rfl
        rw [he, ← hk]
        generalize decX (l.drop q) = X at *
        obtain ⟨nd, hnd⟩ : ∃ z, z = X.data.length := ⟨_, rfl⟩
        rw [← hnd] at HD hcd1 ⊢
        have HND := Lib.hid (And.intro hnd (And.intro hcd1 hcd2))
        clear hnd hcd1 hcd2 HSLF
        have HE := Lib.hid he
        have HKK := Lib.hid hk
        have HNN := Lib.hid HN
        have hm8 : m ≤ 100000000 := by have := HQ.out.2; omega
        have HM8 := Lib.hid hm8
        clear hk he HN g0 hm8
        obtain ⟨A, hA⟩ : ∃ A, A = Obj.cells #[.int .u64 (X.key : Int), .int .u32 (X.cookie : Int), .bool X.del, .slice ad nd cd] 56 := ⟨_, rfl⟩
        obtain ⟨C, hC⟩ : ∃ C, C = Obj.cells #[.int .i64 (q : Int), .int .u64 (X.key : Int), .int .u32 (X.cookie : Int), .bool X.del, .slice ad nd cd] 77 := ⟨_, rfl⟩
        have ha : Below w2.heap.size w2 ((w2.alloc A).alloc C) := ((Below.refl _ _).alloc (Nat.le_refl _) _).alloc (by simp) _
        have hg : ((w2.alloc A).alloc C).heap[w2.heap.size + 1]? = some C := by have h := heap_alloc_new (w2.alloc A) C; rwa [show (w2.alloc A).heap.size = w2.heap.size + 1 by simp] at h
        rw [hA, hC] at ha hg
        have HA := Lib.hid ha
        have HG := Lib.hid hg
        have HSZ := Lib.hid (Nat.le_trans B2.out.size ha.size)
        have HKP := Lib.hid (show KpB 0 _ w.heap.size (.slice ad nd cd) X.data from Or.inl (own_weak (own_below' HD.out ha) HB.out.size))
        have HOK := Lib.hid (show RvOk ⟨(q : Int), X, .slice ad nd cd⟩ from ⟨by have := HQ.out.1; show _ ≤ ((q : Nat) : Int) ∧ ((q : Nat) : Int) ≤ _; omega, HK.out.1, HK.out.2, _, _, _, rfl⟩)
        have HOA := Lib.hid (owR_below HO2.out ha)
        have HRM : Hid (R.length = m) := Lib.hid (by obtain ⟨a9, c9, e9, -, -⟩ := owR_form HO2.out; simp at e9; exact e9.2.1.symm)
        clear ha hg hA hC A C
        go_wp2_with (at_builtin; refine app_rc tyRef (dst := some 29) (base := w.heap.size) (g := w2.heap.size + 1) (r := ⟨(q : Int), X⟩) ?_ ?_ HOA.out HG.out HKP.out HOK.out (by have h1 := HRM.out; have h2 := HM8.out; omega) HSZ.out (Nat.zero_le _) ?_; exact rfl; exact rfl; intro v5 w5 ho5 hg5; have B5 := Lib.hid (below_grownR (bt B2.out HA.out) hg5 HOA.out HSZ.out (Nat.le_refl _)); have HO5 := Lib.hid ho5; clear ho5 hg5)
        have h1 := HNN.out
        have h2 := HQ.out
        have h3 : q + k ≤ n := by omega
        have hw : wrap64 ((q : Int) + (k : Int)) = ((q + k : Nat) : Int) := by unfold wrap64; omega
        go_roundw
        case rel => exact ⟨q + k, R ++ [⟨(q : Int), X⟩], by rw [hw], by omega, by have h1 := HRM.out; have h2 := HQ.out.2; have h3 := HNN.out.1; simp; omega, HO5.out, B5.out, HR2.out⟩
        case measure =>
          rw [hw]
          simp [intOf]
          omega
      · have HX : decX (l.drop q) = ⟨0, 0, false, []⟩ := by unfold decX; rw [if_neg he]
        have HR2 := Lib.hid HREC.out
        rw [recs_err he, List.append_nil] at HR2
        have g0 : ((((decE (l.drop q) : Nat) : Int)) != 0) = true := by rw [bne_iff_ne]; omega
        generalize decE (l.drop q) = E at *
        generalize decX (l.drop q) = X at *
        obtain ⟨nd, hnd⟩ : ∃ z, z = X.data.length := ⟨_, rfl⟩
        rw [← hnd]
        clear HX hcd1 hcd2 hnd
        generalize decN (l.drop q) = K at *
        go_wp2
        go_ret2
        have ha := (Below.refl w2.heap.size w2).alloc (Nat.le_refl _) (.cells #[.int .u64 (X.key : Int), .int .u32 (X.cookie : Int), .bool X.del, .slice ad nd cd] 56)
        exact ⟨⟨.slice ao m co, by rw [HR2.out]; rfl, by rw [HR2.out]; exact owR_below HO2.out ha⟩, bt B2.out ha⟩
end Go.Proofs.YtlnccofanicihaaDoor.Gf
