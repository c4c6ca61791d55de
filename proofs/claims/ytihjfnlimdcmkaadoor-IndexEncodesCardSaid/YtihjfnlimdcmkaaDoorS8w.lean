/- What is proved here: the contract of the library's CompactFunc, at items. -/
import Derived.Test.YtihjfnlimdcmkaaDoorS8v
namespace Go.Proofs.YtihjfnlimdcmkaaDoor.Gf
open Go Go.Proofs Go.Shelf Go.RowKit Go.Lib Go.Sort

theorem clear_run {P : Program} {W W' : World} {a : Addr} {nn c : Nat} (ty : TypeId) (h22 : P.underlying 22 = some (TypeDesc.slice 41)) (hv : ∀ w, (zeroValue 41).run P w = .ok (TV z0) w)
    (hst : Sem.run P (storeCells a (Builtin.zeroCells (TV z0).cells (nn + 1)).toList 0) W = .ok () W') : (Builtin.clear_ #[22] ty #[.slice (some a) (nn + 1) c]).run P W = .ok (.tuple #[]) W' := by
  simp [Builtin.clear_, run_underlying h22, hv, hst]
theorem cp_step {L : List Itm} {t : Nat} (ht : t + 1 < L.length) : cp none (L.take (t + 1 + 1)) = if (L.getD t z0).key = (L.getD (t + 1) z0).key then cp none (L.take (t + 1)) else cp none (L.take (t + 1)) ++ [L.getD (t + 1) z0] := by
  have e1 : L.getD t z0 = L[t] := by simp [List.getD, show t < L.length by omega]
  have e2 : L.getD (t + 1) z0 = L[t + 1] := by simp [List.getD, ht]
  rw [e1, e2, List.take_succ_eq_append_getElem ht, cp_snoc]
  have e3 : (L.take (t + 1)).getLast? = some L[t] := by rw [List.take_succ_eq_append_getElem (show t < L.length by omega), List.getLast?_concat]
  rw [e3]
  simp only [Option.some.injEq]
theorem getD_arr {d : Array Itm} {i : Nat} (hi : i < d.size) : d[i]! = d.toList.getD i z0 := by
  rw [getElem!_pos d i hi]
  simp [List.getD, hi]
theorem drop_at {d : Array Itm} {L : List Itm} {s i : Nat} (h : d.toList.drop s = L.drop s) (hsi : s ≤ i) (hi : i < d.size) : d[i]! = L.getD i z0 := by
  rw [getD_arr hi]
  have := congrArg (fun M => M[i - s]?) h
  simp only [List.getElem?_drop, show s + (i - s) = i by omega] at this
  simp [List.getD, this]
theorem take_set {d : Array Itm} {q : Nat} (hq : q < d.size) (x : Itm) : (d.setIfInBounds q x).toList.take (q + 1) = d.toList.take q ++ [x] := by
  rw [Array.toList_setIfInBounds, List.take_succ_eq_append_getElem (by simpa using hq)]
  simp [List.take_set_of_le]
theorem drop_set {d : Array Itm} {q s : Nat} (hq : q < s) (x : Itm) : (d.setIfInBounds q x).toList.drop s = d.toList.drop s := by
  rw [Array.toList_setIfInBounds, List.drop_set_of_lt hq]
/-- What CompactFunc answers. -/
def CompQ (k : Nat) (w0 : World) (blk off cap n : Nat) (T : List Itm) (e : Ending) (w' : World) : Prop := ∃ (q : Nat) (d' : Array Itm), e = .returned (.slice (some ⟨blk, off, none⟩) q cap) ∧ q ≤ n ∧ d'.size = n ∧ d'.toList.take q = cp none T ∧ SWK itV k w0 blk off d' w'
variable {P : Program} {k : Nat} {w0 W : World} {blk off : Nat} {d0 dk : Array Itm}
set_option maxHeartbeats 16000000 in
set_option maxRecDepth 1000000 in
theorem comp_any (L : LG2 P k) (g : Nat) (cb : Array Value) (cap : Nat) (d : Array Itm) (w : World) (R : RowK itV k w0 blk off d0) (eg : ∀ args w, (callFunc g args).run P w = .ok (.enter g args) w) (heq : EqLays P g cb k blk off d0.size w0) (hs : d0.size = d.size) (S : SWK itV k w0 blk off d w) (hn2 : 2 ≤ d.size) (hcap : d.size ≤ cap) (hsz : d.size ≤ 1000000) :
    Calls P 54 #[.slice (some ⟨blk, off, none⟩) d.size cap, .func (.func g) #[] cb] w (CompQ k w0 blk off cap d.size d.toList) := by
  have mixed := L.mixed
  have t0 := L.t0; have ag0 := L.a0; have zt0 := L.z0; have vt0 := L.v0
  have t3 := L.t3; have ag3 := L.a3; have zt3 := L.z3; have vt3 := L.v3
  have t4 := L.t4; have ag4 := L.a4; have zt4 := L.z4; have vt4 := L.v4
  have t22 := L.t22; have ag22 := L.a22; have zt22 := L.z22; have vt22 := L.v22
  have t51 := L.t51; have ag51 := L.a51; have zt51 := L.z51; have vt51 := L.v51
  have t72 := L.t72; have ag72 := L.a72; have zt72 := L.z72; have vt72 := L.v72
  have u22 := run_underlying L.t22; have u51 := run_underlying L.t51; have u3 := run_underlying L.t3
  have aE := L.aE; have zE := L.zE
  have t74 := L.t74; have ag74 := L.a74; have zt74 := L.z74; have vt74 := L.v74
  have HV : Aside _ := L.vE
  have HC : Aside _ := heq
  have S0 : Aside (SWK itV k w0 blk off d w) := S
  obtain ⟨n, hn⟩ : ∃ q, q = d.size := ⟨_, rfl⟩
  obtain ⟨T, hT⟩ : ∃ T, T = d.toList := ⟨_, rfl⟩
  have HN : Aside (n = d.size ∧ T = d.toList ∧ T.length = n) := ⟨hn, hT, by rw [hn, hT, Array.length_toList]⟩
  have hT1 : T.length ≤ n ∧ n ≤ T.length := by rw [HN.out.2.2]; exact ⟨Nat.le_refl _, Nat.le_refl _⟩
  rw [← hn] at hs hn2 hcap hsz ⊢
  rw [← hT]
  have t2 : ¬ (n : Int) < 2 := by omega
  have hsd : d.size ≤ n ∧ n ≤ d.size := by omega
  clear S heq hn hT
  go_enter L.fcomp, Tryd.ntmps54
  go_wp2_with fail
  go_loopg [5] n (fun kx s5 wr => ∃ (j : Nat), s5 = .int .i64 ((j : Int) + 1) ∧ j + 1 ≤ n ∧ n - j ≤ kx ∧ Aside (SWK itV k w0 blk off d wr) ∧ Aside (cp none (T.take (j + 1)) = T.take (j + 1)))
  case atStart => exact ⟨0, rfl, by omega, by omega, S0, by
    show _ = _
    cases hTT : T with
    | nil => rfl
    | cons x r => rfl⟩
  case round =>
    clear S0 t2
    obtain ⟨j, rfl, hjn, hkx, S1, H1⟩ := hrel
    by_cases hlt : j + 1 < n
    · have hltz : (j : Int) + 1 < (n : Int) := by omega
      have gx : d[j + 1]! = T.getD (j + 1) z0 := by rw [HN.out.2.1]; exact getD_arr (by omega)
      have gy : d[j]! = T.getD j z0 := by rw [HN.out.2.1]; exact getD_arr (by omega)
      by_cases hlv : (T.getD (j + 1) z0).key = (T.getD j z0).key
      · have hcv : (d[j + 1]!).key = (d[j]!).key := by rw [gx, gy]; exact hlv
        have HK0 : Aside (cp none (T.take (j + 1 + 1)) = T.take (j + 1)) := by
          show _ = _
          rw [cp_step (by omega), if_pos hlv.symm, H1.out]
        clear gx gy hlv H1
        have ea1i : (((j : Int) + 1)).toNat = j + 1 := by omega
        have pa1i : (0 : Int) ≤ ((j : Int) + 1) := by omega
        have ba1i : ((j : Int) + 1) < (n : Int) := by omega
        have ra1i : IntKind.i64.wrap (((j : Int) + 1)) = ((j : Int) + 1) := by rw [IntKind.wrap_i64]; omega
        have ea1j : ((j : Int)).toNat = j := by omega
        have pa1j : (0 : Int) ≤ (j : Int) := by omega
        have ba1j : (j : Int) < (n : Int) := by omega
        have ra1j : IntKind.i64.wrap ((j : Int)) = (j : Int) := by rw [IntKind.wrap_i64]; omega
        obtain ⟨x1, hx1⟩ : ∃ x, x = d[j + 1]! := ⟨_, rfl⟩
        obtain ⟨y1, hy1⟩ : ∃ x, x = d[j]! := ⟨_, rfl⟩
        have l1a := S1.out.ld R (by omega) P (j + 1) (by omega)
        have l1b := S1.out.ld R (by omega) P (j) (by omega)
        rw [← hx1] at l1a hcv
        rw [← hy1] at l1b hcv
        have hc1 := swk_eq S1.out HC.out (by omega) x1 y1
        rw [decide_eq_true hcv] at hc1
        clear hx1 hy1 hcv
        go_wp2_with fail
        go_quiet_grown (first | (go_at_fn g; refine Calls.grown_of (hc1 _ _)))
        have S2 : Aside (SWK itV k w0 blk off d (grow (wr.drewN nq) osq)) := S1.out.grown nq osq
        clear l1a l1b hc1 S1
        generalize grow (wr.drewN nq) osq = w2 at S2 ⊢
        clear nq osq
        have nc1 : ¬ cap = j + 1 := by omega
        have nc2 : j + 1 ≤ n := by omega
        have nc3 : j + 1 ≤ cap := by omega
        have nc4 : (j : Int) + 1 ≤ (cap : Int) := by omega
        have nc5 : (j : Int) + 1 ≤ (n : Int) := by omega
        go_upto_region 8 with fail
        generalize hn2' : n - (j + 1) = n2
        generalize cap - (j + 1) = c2
        have m1 : n2 + (j + 1) ≤ n := by omega
        have m2 : n ≤ n2 + (j + 1) := by omega
        clear hn2' nc1 nc2 nc3 nc4 nc5 hltz hkx
        go_wp2_with fail
        go_loopg [5, 7] n2 (fun kx s5 s7 wr => ∃ (kk q : Nat) (dk : Array Itm), s5 = .int .i64 kk ∧ s7 = .int .i64 ((q : Int) + 1) ∧ kk ≤ j + 1 + q ∧ q + 1 ≤ n2 ∧ n2 - q ≤ kx ∧ dk.size = n ∧ Aside (SWK itV k w0 blk off dk wr) ∧ Aside (dk.toList.take kk = cp none (T.take (j + 1 + q + 1)) ∧ dk.toList.drop (j + 1 + q) = T.drop (j + 1 + q)))
        case atStart => exact ⟨j + 1, 0, d, by go_num, rfl, by omega, by omega, by omega, by omega, S2, ⟨by rw [← HN.out.2.1]; exact HK0.out.symm, by rw [← HN.out.2.1]⟩⟩
        case round =>
          clear S2 HK0
          obtain ⟨kk, q, dk, rfl, rfl, hkk, hq, hkx, hds, S1, H1⟩ := hrel
          by_cases hlt2 : q + 1 < n2
          · have hltz : (q : Int) + 1 < (n2 : Int) := by omega
            have gx : dk[j + 1 + (q + 1)]! = T.getD (j + 1 + q + 1) z0 := drop_at H1.out.2 (by omega) (by omega)
            have gy : dk[j + 1 + q]! = T.getD (j + 1 + q) z0 := drop_at H1.out.2 (Nat.le_refl _) (by omega)
            have CS := cp_step (L := T) (t := j + 1 + q) (by omega)
            have DR : dk.toList.drop (j + 1 + (q + 1)) = T.drop (j + 1 + (q + 1)) := by
              have := congrArg (fun M => M.drop 1) H1.out.2
              simpa [List.drop_drop, Nat.add_assoc] using this
            by_cases hlv : (T.getD (j + 1 + q + 1) z0).key = (T.getD (j + 1 + q) z0).key
            · have hcv : (dk[j + 1 + (q + 1)]!).key = (dk[j + 1 + q]!).key := by rw [gx, gy]; exact hlv
              have H2 : Aside (dk.toList.take kk = cp none (T.take (j + 1 + (q + 1) + 1)) ∧ dk.toList.drop (j + 1 + (q + 1)) = T.drop (j + 1 + (q + 1))) := ⟨by
                rw [show j + 1 + (q + 1) + 1 = j + 1 + q + 1 + 1 by omega, CS, if_pos hlv.symm]; exact H1.out.1, DR⟩
              clear gx gy hlv H1 CS DR
              have ea2i : (((q : Int) + 1)).toNat = q + 1 := by omega
              have pa2i : (0 : Int) ≤ ((q : Int) + 1) := by omega
              have ba2i : ((q : Int) + 1) < (n2 : Int) := by omega
              have ra2i : IntKind.i64.wrap (((q : Int) + 1)) = ((q : Int) + 1) := by rw [IntKind.wrap_i64]; omega
              have ea2j : ((q : Int)).toNat = q := by omega
              have pa2j : (0 : Int) ≤ (q : Int) := by omega
              have ba2j : (q : Int) < (n2 : Int) := by omega
              have ra2j : IntKind.i64.wrap ((q : Int)) = (q : Int) := by rw [IntKind.wrap_i64]; omega
              obtain ⟨x2, hx2⟩ : ∃ x, x = dk[j + 1 + (q + 1)]! := ⟨_, rfl⟩
              obtain ⟨y2, hy2⟩ : ∃ x, x = dk[j + 1 + q]! := ⟨_, rfl⟩
              have l2a := S1.out.ld R (by omega) P (j + 1 + (q + 1)) (by omega)
              have l2b := S1.out.ld R (by omega) P (j + 1 + q) (by omega)
              rw [← hx2] at l2a hcv
              rw [← hy2] at l2b hcv
              have hc2 := swk_eq S1.out HC.out (by omega) x2 y2
              rw [decide_eq_true hcv] at hc2
              clear hx2 hy2 hcv
              rw [Nat.add_mul, ← Nat.add_assoc] at l2a l2b
              go_wp2_with fail
              go_quiet_grown (first | (go_at_fn g; refine Calls.grown_of (hc2 _ _)))
              have S2 : Aside (SWK itV k w0 blk off dk (grow (wr.drewN nq) osq)) := S1.out.grown nq osq
              clear l2a l2b hc2 S1
              generalize grow (wr.drewN nq) osq = w2 at S2 ⊢
              clear nq osq
              go_wp2
              go_roundg (n2 - (q + 1))
              case measure => omega
              case rel => exact ⟨kk, q + 1, dk, rfl, by go_num, by omega, by omega, by omega, hds, S2, H2⟩
            · have hcv : ¬ (dk[j + 1 + (q + 1)]!).key = (dk[j + 1 + q]!).key := by rw [gx, gy]; exact hlv
              have hkn : kk < n := by omega
              have H2 : Aside ((dk.setIfInBounds kk dk[j + 1 + (q + 1)]!).toList.take (kk + 1) = cp none (T.take (j + 1 + (q + 1) + 1)) ∧ (dk.setIfInBounds kk dk[j + 1 + (q + 1)]!).toList.drop (j + 1 + (q + 1)) = T.drop (j + 1 + (q + 1))) := ⟨by
                rw [take_set (by omega), H1.out.1, show j + 1 + (q + 1) + 1 = j + 1 + q + 1 + 1 by omega, CS, if_neg (fun h => hlv h.symm), gx], by rw [drop_set (by omega)]; exact DR⟩
              clear gx gy hlv H1 CS DR
              have ea3i : (((q : Int) + 1)).toNat = q + 1 := by omega
              have pa3i : (0 : Int) ≤ ((q : Int) + 1) := by omega
              have ba3i : ((q : Int) + 1) < (n2 : Int) := by omega
              have ra3i : IntKind.i64.wrap (((q : Int) + 1)) = ((q : Int) + 1) := by rw [IntKind.wrap_i64]; omega
              have ea3j : ((q : Int)).toNat = q := by omega
              have pa3j : (0 : Int) ≤ (q : Int) := by omega
              have ba3j : (q : Int) < (n2 : Int) := by omega
              have ra3j : IntKind.i64.wrap ((q : Int)) = (q : Int) := by rw [IntKind.wrap_i64]; omega
              obtain ⟨x3, hx3⟩ : ∃ x, x = dk[j + 1 + (q + 1)]! := ⟨_, rfl⟩
              obtain ⟨y3, hy3⟩ : ∃ x, x = dk[j + 1 + q]! := ⟨_, rfl⟩
              have l3a := S1.out.ld R (by omega) P (j + 1 + (q + 1)) (by omega)
              have l3b := S1.out.ld R (by omega) P (j + 1 + q) (by omega)
              rw [← hx3] at l3a hcv
              rw [← hy3] at l3b hcv
              have hc3 := swk_eq S1.out HC.out (by omega) x3 y3
              rw [decide_eq_false hcv] at hc3
              clear hx3 hy3 hcv
              rw [Nat.add_mul, ← Nat.add_assoc] at l3a l3b
              go_wp2_with fail
              go_quiet_grown (first | (go_at_fn g; refine Calls.grown_of (hc3 _ _)))
              have S2 : Aside (SWK itV k w0 blk off dk (grow (wr.drewN nq) osq)) := S1.out.grown nq osq
              clear l3a l3b hc3 S1
              generalize grow (wr.drewN nq) osq = w2 at S2 ⊢
              clear nq osq
              have ea4k : ((kk : Int)).toNat = kk := by omega
              have pa4k : (0 : Int) ≤ (kk : Int) := by omega
              have ba4k : (kk : Int) < (n : Int) := by omega
              have ra4k : IntKind.i64.wrap ((kk : Int)) = (kk : Int) := by rw [IntKind.wrap_i64]; omega
              have l4 := S2.out.load R (by omega) P (j + 1 + (q + 1)) (by omega)
              rw [Nat.add_mul, ← Nat.add_assoc] at l4
              have s4 := swk_store S2.out R (by omega) P kk (by omega) dk[j + 1 + (q + 1)]!
              have S3 : Aside (SWK itV k w0 blk off (dk.setIfInBounds kk dk[j + 1 + (q + 1)]!) (w2.setCells blk (off + kk * k) (itV dk[j + 1 + (q + 1)]!))) := swk_set S2.out R kk (by omega) _
              have n4 : (itV dk[j + 1 + (q + 1)]!).length = k := R.hk _
              have sz4 : (dk.setIfInBounds kk dk[j + 1 + (q + 1)]!).size = n := by rw [Array.size_setIfInBounds]; exact hds
              generalize dk.setIfInBounds kk dk[j + 1 + (q + 1)]! = d3 at S3 H2 sz4
              generalize itV dk[j + 1 + (q + 1)]! = c4 at S3 l4 s4 n4
              clear S2
              go_wp2
              clear l4 s4
              generalize w2.setCells blk (off + kk * k) c4 = w3 at S3 ⊢
              go_roundg (n2 - (q + 1))
              case measure => omega
              case rel => exact ⟨kk + 1, q + 1, d3, by go_num, by go_num, by omega, by omega, by omega, sz4, S3, H2⟩
          · have hltz : ¬ (q : Int) + 1 < (n2 : Int) := by omega
            have HE : Aside (dk.toList.take kk = cp none T) := by
              show _ = _
              rw [H1.out.1, List.take_of_length_le (by omega)]
            obtain ⟨nn, hnn⟩ : ∃ q, n - kk = q + 1 := ⟨n - kk - 1, by omega⟩
            obtain ⟨hst, d3, hs3, ht3, hS3⟩ := swk_clear S1.out R (by omega) P kk (by omega)
            rw [hds, hnn] at hst hS3
            have hcl := fun ty => clear_run (c := cap - kk) ty t22 HV.out hst
            have F3 : Aside (d3.size = n ∧ d3.toList.take kk = cp none T ∧ SWK itV k w0 blk off d3 (wr.setCells blk (off + kk * k) (Builtin.zeroCells (TV z0).cells (nn + 1)).toList)) := ⟨by omega, by rw [ht3, HE.out], hS3⟩
            have nd1 : ¬ cap = kk := by omega
            have nd2 : kk ≤ n := by omega
            have nd3 : kk ≤ cap := by omega
            have nd4 : (kk : Int) ≤ (cap : Int) := by omega
            have nd5 : (kk : Int) ≤ (n : Int) := by omega
            clear hst hs3 ht3 hS3 H1 HE S1
            generalize (Builtin.zeroCells (TV z0).cells (nn + 1)).toList = zz at hcl F3
            go_wp2
            go_ret
            exact ⟨kk, d3, rfl, by omega, F3.out.1, F3.out.2.1, F3.out.2.2⟩
      · have hcv : ¬ (d[j + 1]!).key = (d[j]!).key := by rw [gx, gy]; exact hlv
        have HK0 : Aside (cp none (T.take (j + 1 + 1)) = T.take (j + 1 + 1)) := by
          show _ = _
          rw [cp_step (by omega), if_neg (fun h => hlv h.symm), H1.out, List.take_succ_eq_append_getElem (show j + 1 < T.length by omega)]
          simp [List.getD, show j + 1 < T.length by omega]
        clear gx gy hlv H1
        have ea5i : (((j : Int) + 1)).toNat = j + 1 := by omega
        have pa5i : (0 : Int) ≤ ((j : Int) + 1) := by omega
        have ba5i : ((j : Int) + 1) < (n : Int) := by omega
        have ra5i : IntKind.i64.wrap (((j : Int) + 1)) = ((j : Int) + 1) := by rw [IntKind.wrap_i64]; omega
        have ea5j : ((j : Int)).toNat = j := by omega
        have pa5j : (0 : Int) ≤ (j : Int) := by omega
        have ba5j : (j : Int) < (n : Int) := by omega
        have ra5j : IntKind.i64.wrap ((j : Int)) = (j : Int) := by rw [IntKind.wrap_i64]; omega
        obtain ⟨x5, hx5⟩ : ∃ x, x = d[j + 1]! := ⟨_, rfl⟩
        obtain ⟨y5, hy5⟩ : ∃ x, x = d[j]! := ⟨_, rfl⟩
        have l5a := S1.out.ld R (by omega) P (j + 1) (by omega)
        have l5b := S1.out.ld R (by omega) P (j) (by omega)
        rw [← hx5] at l5a hcv
        rw [← hy5] at l5b hcv
        have hc5 := swk_eq S1.out HC.out (by omega) x5 y5
        rw [decide_eq_false hcv] at hc5
        clear hx5 hy5 hcv
        go_wp2_with fail
        go_quiet_grown (first | (go_at_fn g; refine Calls.grown_of (hc5 _ _)))
        have S2 : Aside (SWK itV k w0 blk off d (grow (wr.drewN nq) osq)) := S1.out.grown nq osq
        clear l5a l5b hc5 S1
        generalize grow (wr.drewN nq) osq = w2 at S2 ⊢
        clear nq osq
        go_wp2
        go_roundg (n - (j + 1))
        case measure => omega
        case rel => exact ⟨j + 1, by go_num, by omega, by omega, S2, HK0⟩
    · have hltz : ¬ (j : Int) + 1 < (n : Int) := by omega
      have e1 : T.take (j + 1) = T := List.take_of_length_le (by omega)
      have e2 : T.take n = T := List.take_of_length_le (by omega)
      have h1 := H1.out
      rw [e1] at h1
      have HE : Aside (d.toList.take n = cp none T) := by
        show _ = _
        rw [← HN.out.2.1, e2, h1]
      clear H1 e1 e2 h1 hT1
      go_wp2
      go_ret
      exact ⟨n, d, rfl, by omega, HN.out.1.symm, HE.out, S1.out⟩
end Go.Proofs.YtihjfnlimdcmkaaDoor.Gf
