/- What is proved here: the program's number, guess and Parse at every text. -/
import Derived.Test.YtbmlpafbdbhaiaaGreatDoorGw8
import Derived.Test.YtbmlpafbdbhaiaaGreatDoorGw2
namespace Go.Proofs.YtbmlpafbdbhaiaaGreatDoor.Gf
open Go Go.Joins Go.ChangeShapes Go.WideShapes Go.ChangeAt Go.RowKit Go.Deep Go.Proofs.YtbmlpafbdbhaiaaGreatDoor.By Go.Proofs.YtbmlpafbdbhaiaaGreatDoor.Qt Go.Proofs
set_option maxRecDepth 100000
set_option maxHeartbeats 204800000
/-- The number that a text is read as. -/
def numF (s : ByteArray) : Int := match Lib.atoiAll s.data.toList with
  | .ok v => v
  | .range => Lib.atoiSat s.data.toList
  | _ => 0
theorem pnumber_all (s : ByteArray) (hl : s.size ≤ 1000) (w : World) (hw : StrW w) : Calls Tryz.prog 80 #[.string s] w fun e w' => e = .returned (.int .i64 (numF s)) ∧ Below w.heap.size w w' := by
  obtain ⟨te, pe, he⟩ := hw.e
  obtain ⟨tr, pr, hr⟩ := hw.r
  unfold numF
  rcases h : Lib.atoiAll s.data.toList with v | _ | _
  · go_enter Tryz.func80, Tryz.ntmps80
    go_wp2_with fail
    refine (Tryz.strconv_Atoi_ok s (by omega) v h w).mono ?_
    rintro e W ⟨rfl, hW⟩
    have hb : Below w.heap.size w W := by
      rcases hW with rfl | ⟨t, rfl⟩
      · exact Below.refl _ _
      · exact Lib.bytesWorld_below w _ t
    clear hW
    go_wp2_with fail
    go_ret
    exact ⟨rfl, hb⟩
  · go_enter Tryz.func80, Tryz.ntmps80
    go_wp2_with fail
    refine (Tryz.strconv_Atoi_syn s (by omega) h _ w he (Or.inr ⟨te, pe, rfl⟩)).mono ?_
    rintro e W ⟨N, rfl, -, -, hb⟩
    go_wp2_with fail
    go_ret
    exact ⟨rfl, hb⟩
  · go_enter Tryz.func80, Tryz.ntmps80
    go_wp2_with fail
    refine (Tryz.strconv_Atoi_range s (by omega) h _ w hr (Or.inr ⟨tr, pr, rfl⟩)).mono ?_
    rintro e W ⟨N, rfl, -, -, hb⟩
    go_wp2_with fail
    go_ret
    exact ⟨rfl, hb⟩
/-- The first kind with whose part the text begins; 0 if there is none. -/
def kindF (q : ByteArray) : Int :=
  if Lib.hasPrefix q.data.toList (endA 1).toList = true then 1 else if Lib.hasPrefix q.data.toList (endA 2).toList = true then 2 else if Lib.hasPrefix q.data.toList (endA 3).toList = true then 3
  else if Lib.hasPrefix q.data.toList (endA 4).toList = true then 4 else if Lib.hasPrefix q.data.toList (endA 5).toList = true then 5 else 0
def zV : Int × Int × Int × Int × Bool := (0, 0, 0, 0, false)
def partV (ps : List ByteArray) (tp : Bool) : Int × Int × Int × Int × Bool := match ps with
  | [_, q1, q2, q3] => if kindF q3 = 0 then zV else (kindF q3, numF q1, numF q2, numF ⟨(Lib.trimPrefix q3.data.toList (endA (kindF q3)).toList).toArray⟩, tp)
  | _ => zV
def cutT (s : ByteArray) : ByteArray := ⟨(Lib.trimSuffix s.data.toList [46, 116, 109, 112]).toArray⟩
def tmpT (s : ByteArray) : Bool := Lib.hasSuffix s.data.toList [46, 116, 109, 112]
def psT (s : ByteArray) : List ByteArray := Lib.splitB ⟨#[46]⟩ 0 (min 4 ((cutT s).size + 1) - 1) (cutT s)
/-- What guess answers. -/
def gsV (s : ByteArray) : Int × Int × Int × Int × Bool := partV (psT s) (tmpT s)
def nmV (x : Int × Int × Int × Int × Bool) : Value := .agg #[.int .i64 x.1, .int .i64 x.2.1, .int .i64 x.2.2.1, .int .i64 x.2.2.2.1, .bool x.2.2.2.2]
theorem n5_one (k s g h : Int) (t : Bool) : (#[.int .i64 k, .int .i64 s, .int .i64 g, .int .i64 h, .bool t] : Array Value).all (·.oneCell') = true := by simp [show ∀ (k : IntKind) (z : Int), (Value.int k z).oneCell' = true from fun _ _ => rfl, show ∀ b : Bool, (Value.bool b).oneCell' = true from fun _ => rfl]
theorem cutT_le (s : ByteArray) : (cutT s).size ≤ s.size := by
  show (Lib.trimSuffix s.data.toList [46, 116, 109, 112]).toArray.size ≤ s.data.size
  unfold Lib.trimSuffix
  split
  · simp
  · simp
theorem trimP_le {q : ByteArray} {n : Nat} {l : List UInt8} (h : q.size ≤ n) : (⟨(Lib.trimPrefix q.data.toList l).toArray⟩ : ByteArray).size ≤ n := by
  show (Lib.trimPrefix q.data.toList l).toArray.size ≤ n
  have h2 : q.data.size ≤ n := h
  unfold Lib.trimPrefix
  split
  · simp
    omega
  · simpa using h2
theorem split_le (sep : ByteArray) : ∀ (k : Nat) (s : ByteArray) (q : ByteArray), q ∈ Lib.splitB sep 0 k s → q.size ≤ s.size
  | 0, s, q, h => by
    obtain rfl := List.mem_singleton.1 h
    exact Nat.le_refl _
  | k + 1, s, q, h => by
    unfold Lib.splitB at h
    split at h
    · obtain rfl := List.mem_singleton.1 h
      exact Nat.le_refl _
    · rcases List.mem_cons.1 h with h1 | h1
      · rw [h1, ByteArray.size_extract]
        omega
      · have h2 := split_le sep k _ q h1
        rw [ByteArray.size_extract] at h2
        omega
theorem gsV_few {s : ByteArray} (h : (psT s).length < 4) : nmV (gsV s) = .agg #[.int .i64 0, .int .i64 0, .int .i64 0, .int .i64 0, .bool false] := by
  unfold gsV partV
  split
  · rename_i q0 q1 q2 q3 hq
    rw [hq] at h
    simp at h
  · rfl
theorem gsV_none {s q0 q1 q2 q3 : ByteArray} (h : psT s = [q0, q1, q2, q3]) (hn : ∀ j : Nat, 1 ≤ j → j < 6 → Lib.hasPrefix q3.data.toList (endA j).toList = false) : nmV (gsV s) = .agg #[.int .i64 0, .int .i64 0, .int .i64 0, .int .i64 0, .bool false] := by
  have h1 := hn 1 (by decide) (by decide)
  have h2 := hn 2 (by decide) (by decide)
  have h3 := hn 3 (by decide) (by decide)
  have h4 := hn 4 (by decide) (by decide)
  have h5 := hn 5 (by decide) (by decide)
  have hk : kindF q3 = 0 := by
    unfold kindF
    rw [show endA 1 = endA ((1 : Nat) : Int) from rfl, show endA 2 = endA ((2 : Nat) : Int) from rfl, show endA 3 = endA ((3 : Nat) : Int) from rfl, show endA 4 = endA ((4 : Nat) : Int) from rfl, show endA 5 = endA ((5 : Nat) : Int) from rfl, h1, h2, h3, h4, h5]
    rfl
  unfold gsV partV
  rw [h]
  simp only
  rw [if_pos hk]
  rfl
theorem gsV_hit {s q0 q1 q2 q3 : ByteArray} {k : Nat} (h : psT s = [q0, q1, q2, q3]) (hk : 1 ≤ k ∧ k < 6) (hn : ∀ j : Nat, 1 ≤ j → j < k → Lib.hasPrefix q3.data.toList (endA j).toList = false) (ht : Lib.hasPrefix q3.data.toList (endA k).toList = true) :
    nmV (gsV s) = .agg #[.int .i64 (k : Int), .int .i64 (numF q1), .int .i64 (numF q2), .int .i64 (numF ⟨(Lib.trimPrefix q3.data.toList (endA k).toList).toArray⟩), .bool (tmpT s)] := by
  have e : kindF q3 = (k : Int) := by
    unfold kindF
    rw [show endA 1 = endA ((1 : Nat) : Int) from rfl, show endA 2 = endA ((2 : Nat) : Int) from rfl, show endA 3 = endA ((3 : Nat) : Int) from rfl, show endA 4 = endA ((4 : Nat) : Int) from rfl, show endA 5 = endA ((5 : Nat) : Int) from rfl]
    have hc : k = 1 ∨ k = 2 ∨ k = 3 ∨ k = 4 ∨ k = 5 := by omega
    rcases hc with rfl | rfl | rfl | rfl | rfl
    · rw [ht]; rfl
    · rw [hn 1 (by decide) (by decide), ht]; rfl
    · rw [hn 1 (by decide) (by decide), hn 2 (by decide) (by decide), ht]; rfl
    · rw [hn 1 (by decide) (by decide), hn 2 (by decide) (by decide), hn 3 (by decide) (by decide), ht]; rfl
    · rw [hn 1 (by decide) (by decide), hn 2 (by decide) (by decide), hn 3 (by decide) (by decide), hn 4 (by decide) (by decide), ht]; rfl
  unfold gsV partV
  rw [h]
  simp only
  rw [if_neg (by rw [e]; omega), e]
  rfl
/-- What stays while the numbers are read: the older blocks and the parts of the text. -/
structure KpQ (B : Nat) (w : World) (gp : Nat) (cs : Array Value) (W : World) : Prop where
  be : Below B w W
  pt : W.heap[gp]? = some (.cells cs 9 (0, 0))
theorem kpQ_below {B gp : Nat} {cs : Array Value} {w W W' : World} (h : KpQ B w gp cs W) (hb : Below W.heap.size W W') (hB : B ≤ w.heap.size := by exact Nat.le_refl _) : KpQ B w gp cs W' := ⟨h.be.trans (hb.mono (Nat.le_trans hB h.be.size)), (hb.block _ (lt_of_some h.pt)).trans h.pt⟩
theorem kpQ_set {gp : Nat} {w W : World} {ps cs cs0 : Array Value} {T : TypeId} (h : KpQ w.heap.size w gp ps W) (_hz : W.heap[w.heap.size]? = some (.cells cs0 T (0, 0))) (hn : gp ≠ w.heap.size) : KpQ w.heap.size w gp ps (W.setRow w.heap.size cs) := ⟨below_setRowM h.be (Nat.le_refl _) _, (setRow_other _ _ _ _ hn).trans h.pt⟩
theorem pguess_any (s : ByteArray) (hl : s.size ≤ 1000) (w : World) (hw : StrW w) : Calls Tryz.prog 46 #[.string s] w fun e w' => e = .returned (nmV (gsV s)) ∧ Below w.heap.size w w' := by
  have HBX := Lh (heap_alloc_new w (.cells #[.int .i64 0, .int .i64 0, .int .i64 0, .int .i64 0, .bool false] 29))
  have B1 := Lh (bel_al w (.cells #[.int .i64 0, .int .i64 0, .int .i64 0, .int .i64 0, .bool false] 29))
  have HSW := Lh (strW_below hw B1.out)
  have HL := Lh hl
  clear hw hl
  go_enter Tryz.func46, Tryz.ntmps46
  go_upto_region 1 with fail
  generalize w.alloc (.cells #[.int .i64 0, .int .i64 0, .int .i64 0, .int .i64 0, .bool false] 29) = W1 at *
  go_wp2_with fail
  refine (Tryz.strings_CutSuffix s ⟨#[46, 116, 109, 112]⟩ W1 (by have := HL.out; omega)).mono ?_
  rintro e W2 ⟨rfl, rfl⟩
  rw [show (⟨(Lib.trimSuffix s.data.toList ((⟨#[46, 116, 109, 112]⟩ : ByteArray).data.toList)).toArray⟩ : ByteArray) = cutT s from rfl, show Lib.hasSuffix s.data.toList ((⟨#[46, 116, 109, 112]⟩ : ByteArray).data.toList) = tmpT s from rfl]
  obtain ⟨tp, htp⟩ : ∃ b, b = tmpT s := ⟨_, rfl⟩
  have HTP := Lh htp
  have HCL := Lh (Nat.le_trans (cutT_le s) HL.out)
  rw [← htp]
  clear htp
  go_wp2_with fail
  obtain ⟨m, hm⟩ := HSW.out.m
  refine (Tryz.strings_SplitN (cutT s) ⟨#[46]⟩ 4 m W2 (by have := HCL.out; omega) hm (by decide) (by decide) (by decide)).mono ?_
  rintro e W3 ⟨rfl, rfl⟩
  rw [show Lib.splitB ⟨#[46]⟩ 0 (min 4 ((cutT s).size + 1) - 1) (cutT s) = psT s from rfl]
  clear hm
  have HPL := Lh (show (psT s).length ≤ min 4 ((cutT s).size + 1) from by have := Lib.splitB_length_le ⟨#[46]⟩ 0 (min 4 ((cutT s).size + 1) - 1) (cutT s); unfold psT; omega)
  rcases Classical.em ((psT s).length < 4) with h4 | h4
  · obtain ⟨n, hn⟩ : ∃ n, n = (psT s).length := ⟨_, rfl⟩
    have d1 : decide ((n : Int) < 4) = true := decide_eq_true (by omega)
    have d2 : decide (n < 4) = true := decide_eq_true (by omega)
    have HG := Lh (gsV_few h4)
    obtain ⟨cs, hcs⟩ : ∃ cs, cs = Lib.cellsOf (psT s) (min 4 ((cutT s).size + 1)) := ⟨_, rfl⟩
    obtain ⟨c, hc⟩ : ∃ c, c = min 4 ((cutT s).size + 1) := ⟨_, rfl⟩
    rw [← hcs, ← hn, ← hc]
    have hb := bel_al W2 (.cells cs 9)
    have HBX2 := Lh ((hb.block _ (lt_of_some HBX.out)).trans HBX.out)
    have B2 := Lh (B1.out.trans (hb.mono B1.out.size))
    clear hb hn hcs hc h4 HBX B1 HSW
    generalize W2.alloc (.cells cs 9) = W3 at *
    generalize W2.heap.size = gp at *
    go_wp2_with ((with_reducible refine storeNm w.heap.size _ #[.int .i64 0, .int .i64 0, .int .i64 0, .int .i64 0, .bool false] ?_ ?_ HBX2.out rfl rfl z5_one ?_); exact rfl; exact rfl)
    refine bodyPost_ret (results_cell_row rfl _ _ w.heap.size 29 #[.int .i64 0, .int .i64 0, .int .i64 0, .int .i64 0, .bool false] (0, 0) _ rfl (setRow_heap _ _ _ _ _ _ HBX2.out) Tryz.underlying29 rfl infoN5) rfl ?_
    exact ⟨by rw [HG.out], below_setRowM B2.out (Nat.le_refl _) _⟩
  have hp4 : (psT s).length = 4 := by have := HPL.out; omega
  have hc4 : min 4 ((cutT s).size + 1) = 4 := by have := HPL.out; omega
  obtain ⟨q0, q1, q2, q3, hps⟩ : ∃ q0 q1 q2 q3, psT s = [q0, q1, q2, q3] := by
    match hq : psT s, hp4 with
    | [a, b, c, d], _ => exact ⟨a, b, c, d, rfl⟩
  have HPS := Lh hps
  have hle : ∀ q ∈ psT s, q.size ≤ 1000 := fun q hq => Nat.le_trans (split_le _ _ _ q hq) HCL.out
  have HQ1 := Lh (hle q1 (by rw [hps]; simp))
  have HQ2 := Lh (hle q2 (by rw [hps]; simp))
  have HQ3 := Lh (hle q3 (by rw [hps]; simp))
  rw [hc4, hps, show Lib.cellsOf [q0, q1, q2, q3] 4 = #[.string q0, .string q1, .string q2, .string q3] from rfl, show ([q0, q1, q2, q3] : List ByteArray).length = 4 from rfl]
  have hz := heap_alloc_new W2 (.cells #[.string q0, .string q1, .string q2, .string q3] 9)
  have hb := bel_al W2 (.cells #[.string q0, .string q1, .string q2, .string q3] 9)
  have S3 := Lh (show KpQ w.heap.size w W2.heap.size #[.string q0, .string q1, .string q2, .string q3] (W2.alloc (.cells #[.string q0, .string q1, .string q2, .string q3] 9)) from ⟨B1.out.trans (hb.mono B1.out.size), hz⟩)
  have HSW3 := Lh (strW_below HSW.out hb)
  have HBX3 := Lh ((hb.block _ (lt_of_some HBX.out)).trans HBX.out)
  have HNE := Lh (show W2.heap.size ≠ w.heap.size from by have := lt_of_some HBX.out; omega)
  clear hz hb HSW HBX B1 hps hle hp4 hc4 h4 HPL
  generalize W2.alloc (.cells #[.string q0, .string q1, .string q2, .string q3] 9) = W3 at *
  generalize W2.heap.size = gp at *
  go_wp2_with fail
  go_loopw [5, 6, 7] (fun t _ _ wr => ∃ i : Nat, 1 ≤ i ∧ i ≤ 6 ∧ t = .int .i64 (i : Int) ∧ (∀ j : Nat, 1 ≤ j → j < i → Lib.hasPrefix q3.data.toList (endA j).toList = false) ∧ KpQ w.heap.size w gp #[.string q0, .string q1, .string q2, .string q3] wr ∧ StrW wr ∧ wr.heap[w.heap.size]? = some (.cells #[.int .i64 0, .int .i64 0, .int .i64 0, .int .i64 0, .bool false] 29 (0, 0))) (fun t _ _ _ => 6 - (intOf t).toNat)
  case atStart => exact ⟨1, by decide, by decide, rfl, fun j h1 h2 => by omega, S3.out, HSW3.out, HBX3.out⟩
  case round =>
    obtain ⟨i, h1, h6, rfl, hno, hk, hsw, hbx⟩ := hrel
    rename World => W3
    have HNO := Lh hno
    have S3 := Lh hk
    have HSW3 := Lh hsw
    have HBX3 := Lh hbx
    clear hno hk hsw hbx
    have hc : i = 1 ∨ i = 2 ∨ i = 3 ∨ i = 4 ∨ i = 5 ∨ i = 6 := by omega
    clear h1 h6
    rcases hc with rfl | rfl | rfl | rfl | rfl | rfl
    · obtain ⟨ok, hok⟩ : ∃ b, b = Lib.hasPrefix q3.data.toList (endA 1).toList := ⟨_, rfl⟩
      have HOK := Lh hok
      have cp := Tryz.strings_CutPrefix q3 ⟨#[100, 97, 116]⟩ W3
      rw [show ((⟨#[100, 97, 116]⟩ : ByteArray).data.toList) = (endA 1).toList from rfl, ← hok] at cp
      obtain ⟨sh, hsh⟩ : ∃ x : ByteArray, x = ⟨(Lib.trimPrefix q3.data.toList (endA 1).toList).toArray⟩ := ⟨_, rfl⟩
      rw [← hsh] at cp
      have HSHD := Lh hsh
      have HCP := Lh cp
      clear hok hsh cp
      obtain ⟨y0, y1, y2, y3⟩ := bxs4 S3.out.pt
      go_upto_region 8 with fail
      go_quiet (first
       | (go_at_call 43; exact Calls.quiet_of_same (pending_1 _))
       | (go_at_call 79; exact Calls.quiet_of_same (by have h := Tryz.strings_CutPrefix q3 ⟨#[100, 97, 116]⟩; rw [show ((⟨#[100, 97, 116]⟩ : ByteArray).data.toList) = (endA 1).toList from rfl, ← HOK.out, ← HSHD.out] at h; exact h _)))
      have S4 := Lh (kpQ_below S3.out (below_drewN _ nq))
      have HSW4 := Lh (strW_drewN HSW3.out nq)
      have HBX4 := Lh (show (W3.drewN nq).heap[w.heap.size]? = _ from HBX3.out)
      clear y0 y1 y2 y3 S3 HSW3 HBX3 HCP
      generalize W3.drewN nq = W4 at *
      cases ok
      · have HX := Lh (show ∀ j : Nat, 1 ≤ j → j < 1 + 1 → Lib.hasPrefix q3.data.toList (endA j).toList = false from fun j h1 h2 => by
          by_cases e : j = 1
          · subst e
            exact HOK.out.symm
          · exact HNO.out j h1 (by omega))
        go_wp2_with fail
        go_roundw
        case rel => exact ⟨2, by omega, by omega, rfl, HX.out, S4.out, HSW4.out, HBX4.out⟩
        case measure => simp [intOf]
      · have HSH := Lh (show sh.size ≤ 1000 from by rw [HSHD.out]; exact trimP_le HQ3.out)
        have HGS := Lh (show nmV (gsV s) = .agg #[.int .i64 1, .int .i64 (numF q1), .int .i64 (numF q2), .int .i64 (numF sh), .bool tp] from by
          rw [HSHD.out, HTP.out]
          exact gsV_hit (k := 1) HPS.out (by decide) HNO.out HOK.out.symm)
        go_upto_region 10 with fail
        clear HOK HSHD
        refine wp_onlyN ?_
        refine wp_region_headsS (fun W' => KpQ w.heap.size w gp #[.string q0, .string q1, .string q2, .string q3] W') [0, 1, 2, 3, 5, 6, 7, 9, 11] 5 (by kernel_rfl) (fun _ _ _ _ _ h => h.elim) (by kernel_rfl) (by rfl) (by rfl) (kpQ_below S4.out (Below.drew (Below.refl _ _))) ?_
        simp only [pickOps, List.filterMap_cons, List.filterMap_nil, List.getElem?_toArray, List.getElem?_cons_zero, List.getElem?_cons_succ]
        refine wpHeads_step (fun K hK => ?_)
        go_simp
        refine ⟨_, fun _ _ => rfl, hK _ ?_⟩
        clear hK K
        refine wpHeads_step (fun K hK => ?_)
        go_simp
        refine ⟨_, fun _ _ => rfl, hK _ ?_⟩
        clear hK K
        refine wpHeads_step (fun K hK => ?_)
        go_simp
        refine ⟨.pointer (some ⟨gp, 1, none⟩), fun w' hw' => by
          skip
          go_simp, hK _ ?_⟩
        clear hK K
        refine wpHeads_step (fun K hK => ?_)
        go_simp
        refine ⟨.string q1, fun w' hw' => by
          obtain ⟨y0, y1, y2, y3⟩ := bxs4 hw'.pt
          go_simp, hK _ ?_⟩
        clear hK K
        refine wpHeads_step (fun K hK => ?_)
        go_simp
        refine ⟨_, fun _ _ => rfl, hK _ ?_⟩
        clear hK K
        refine wpHeads_step (fun K hK => ?_)
        go_simp
        refine ⟨.pointer (some ⟨gp, 2, none⟩), fun w' hw' => by
          skip
          go_simp, hK _ ?_⟩
        clear hK K
        refine wpHeads_step (fun K hK => ?_)
        go_simp
        refine ⟨.string q2, fun w' hw' => by
          obtain ⟨y0, y1, y2, y3⟩ := bxs4 hw'.pt
          go_simp, hK _ ?_⟩
        clear hK K
        refine wpHeads_step (fun K hK => ?_)
        go_simp
        refine ⟨_, fun _ _ => rfl, hK _ ?_⟩
        clear hK K
        refine wpHeads_step (fun K hK => ?_)
        go_simp
        refine ⟨_, fun _ _ => rfl, hK _ ?_⟩
        clear hK K
        refine wpHeads_nil ?_
        have SX0 := Lh (kpQ_below S4.out (Below.drew (Below.refl _ _)))
        have HSW0 := Lh (strW_drew HSW4.out)
        have HBX0 := Lh (show W4.drew.heap[w.heap.size]? = _ from HBX4.out)
        clear S4 HSW4 HBX4
        generalize W4.drew = Y0 at *
        refine gwq 4 fun K hK => ?_
        go_simp
        refine (pnumber_all q1 HQ1.out Y0 HSW0.out).mono ?_
        rintro e Y1 ⟨rfl, hb⟩
        have SX1 := Lh (kpQ_below SX0.out hb)
        have HSW1 := Lh (strW_below HSW0.out hb)
        have HBX1 := Lh ((hb.block _ (lt_of_some HBX0.out)).trans HBX0.out)
        refine hK _ _ SX1.out ?_
        clear hK K hb
        refine gwq 8 fun K hK => ?_
        go_simp
        refine (pnumber_all q2 HQ2.out Y1 HSW1.out).mono ?_
        rintro e Y2 ⟨rfl, hb⟩
        have SX2 := Lh (kpQ_below SX1.out hb)
        have HSW2 := Lh (strW_below HSW1.out hb)
        have HBX2 := Lh ((hb.block _ (lt_of_some HBX1.out)).trans HBX1.out)
        refine hK _ _ SX2.out ?_
        clear hK K hb
        refine gwq 10 fun K hK => ?_
        go_simp
        refine (pnumber_all sh HSH.out Y2 HSW2.out).mono ?_
        rintro e Y3 ⟨rfl, hb⟩
        have SX3 := Lh (kpQ_below SX2.out hb)
        have HSW3 := Lh (strW_below HSW2.out hb)
        have HBX3 := Lh ((hb.block _ (lt_of_some HBX2.out)).trans HBX2.out)
        refine hK _ _ SX3.out ?_
        clear hK K hb
        obtain ⟨n1, hn1⟩ : ∃ n, n = numF q1 := ⟨_, rfl⟩
        obtain ⟨n2, hn2⟩ : ∃ n, n = numF q2 := ⟨_, rfl⟩
        obtain ⟨n3, hn3⟩ : ∃ n, n = numF sh := ⟨_, rfl⟩
        rw [← hn1, ← hn2, ← hn3]
        have HN1 := Lh hn1
        have HN2 := Lh hn2
        have HN3 := Lh hn3
        clear hn1 hn2 hn3
        refine tky 12 (.agg #[.int .i64 1, .int .i64 n1, .int .i64 n2, .int .i64 n3, .bool tp]) rfl (fun w' hw' => by
          go_simp) SX3.out ?_
        refine gwq 13 fun K hK => ?_
        refine wp_store_row 29 _ _ rfl w.heap.size #[.int .i64 1, .int .i64 n1, .int .i64 n2, .int .i64 n3, .bool tp] (by rfl) (by rfl) 29 _ HBX3.out infoN5 rfl (n5_one _ _ _ _ _) ?_
        have HR := Lh (setRow_heap Y3 w.heap.size _ #[.int .i64 1, .int .i64 n1, .int .i64 n2, .int .i64 n3, .bool tp] _ _ HBX3.out)
        have SR := Lh (kpQ_set SX3.out HBX3.out HNE.out (cs := #[.int .i64 1, .int .i64 n1, .int .i64 n2, .int .i64 n3, .bool tp]))
        refine hK _ _ SR.out ?_
        clear hK K
        generalize Y3.setRow w.heap.size #[.int .i64 1, .int .i64 n1, .int .i64 n2, .int .i64 n3, .bool tp] = YR at *
        refine wpAnyH_done (by kernel_rfl) ?_ _
        unfold onlyN
        dsimp only
        go_wp2_with fail
        refine bodyPost_ret (results_cell_row rfl _ _ w.heap.size 29 #[.int .i64 1, .int .i64 n1, .int .i64 n2, .int .i64 n3, .bool tp] (0, 0) _ rfl HR.out Tryz.underlying29 rfl infoN5) rfl ?_
        exact ⟨by rw [HGS.out, HN1.out, HN2.out, HN3.out], SR.out.be⟩
    · obtain ⟨ok, hok⟩ : ∃ b, b = Lib.hasPrefix q3.data.toList (endA 2).toList := ⟨_, rfl⟩
      have HOK := Lh hok
      have cp := Tryz.strings_CutPrefix q3 ⟨#[115, 104, 100]⟩ W3
      rw [show ((⟨#[115, 104, 100]⟩ : ByteArray).data.toList) = (endA 2).toList from rfl, ← hok] at cp
      obtain ⟨sh, hsh⟩ : ∃ x : ByteArray, x = ⟨(Lib.trimPrefix q3.data.toList (endA 2).toList).toArray⟩ := ⟨_, rfl⟩
      rw [← hsh] at cp
      have HSHD := Lh hsh
      have HCP := Lh cp
      clear hok hsh cp
      obtain ⟨y0, y1, y2, y3⟩ := bxs4 S3.out.pt
      go_upto_region 8 with fail
      go_quiet (first
       | (go_at_call 43; exact Calls.quiet_of_same (pending_2 _))
       | (go_at_call 79; exact Calls.quiet_of_same (by have h := Tryz.strings_CutPrefix q3 ⟨#[115, 104, 100]⟩; rw [show ((⟨#[115, 104, 100]⟩ : ByteArray).data.toList) = (endA 2).toList from rfl, ← HOK.out, ← HSHD.out] at h; exact h _)))
      have S4 := Lh (kpQ_below S3.out (below_drewN _ nq))
      have HSW4 := Lh (strW_drewN HSW3.out nq)
      have HBX4 := Lh (show (W3.drewN nq).heap[w.heap.size]? = _ from HBX3.out)
      clear y0 y1 y2 y3 S3 HSW3 HBX3 HCP
      generalize W3.drewN nq = W4 at *
      cases ok
      · have HX := Lh (show ∀ j : Nat, 1 ≤ j → j < 2 + 1 → Lib.hasPrefix q3.data.toList (endA j).toList = false from fun j h1 h2 => by
          by_cases e : j = 2
          · subst e
            exact HOK.out.symm
          · exact HNO.out j h1 (by omega))
        go_wp2_with fail
        go_roundw
        case rel => exact ⟨3, by omega, by omega, rfl, HX.out, S4.out, HSW4.out, HBX4.out⟩
        case measure => simp [intOf]
      · have HSH := Lh (show sh.size ≤ 1000 from by rw [HSHD.out]; exact trimP_le HQ3.out)
        have HGS := Lh (show nmV (gsV s) = .agg #[.int .i64 2, .int .i64 (numF q1), .int .i64 (numF q2), .int .i64 (numF sh), .bool tp] from by
          rw [HSHD.out, HTP.out]
          exact gsV_hit (k := 2) HPS.out (by decide) HNO.out HOK.out.symm)
        go_upto_region 10 with fail
        clear HOK HSHD
        refine wp_onlyN ?_
        refine wp_region_headsS (fun W' => KpQ w.heap.size w gp #[.string q0, .string q1, .string q2, .string q3] W') [0, 1, 2, 3, 5, 6, 7, 9, 11] 5 (by kernel_rfl) (fun _ _ _ _ _ h => h.elim) (by kernel_rfl) (by rfl) (by rfl) (kpQ_below S4.out (Below.drew (Below.refl _ _))) ?_
        simp only [pickOps, List.filterMap_cons, List.filterMap_nil, List.getElem?_toArray, List.getElem?_cons_zero, List.getElem?_cons_succ]
        refine wpHeads_step (fun K hK => ?_)
        go_simp
        refine ⟨_, fun _ _ => rfl, hK _ ?_⟩
        clear hK K
        refine wpHeads_step (fun K hK => ?_)
        go_simp
        refine ⟨_, fun _ _ => rfl, hK _ ?_⟩
        clear hK K
        refine wpHeads_step (fun K hK => ?_)
        go_simp
        refine ⟨.pointer (some ⟨gp, 1, none⟩), fun w' hw' => by
          skip
          go_simp, hK _ ?_⟩
        clear hK K
        refine wpHeads_step (fun K hK => ?_)
        go_simp
        refine ⟨.string q1, fun w' hw' => by
          obtain ⟨y0, y1, y2, y3⟩ := bxs4 hw'.pt
          go_simp, hK _ ?_⟩
        clear hK K
        refine wpHeads_step (fun K hK => ?_)
        go_simp
        refine ⟨_, fun _ _ => rfl, hK _ ?_⟩
        clear hK K
        refine wpHeads_step (fun K hK => ?_)
        go_simp
        refine ⟨.pointer (some ⟨gp, 2, none⟩), fun w' hw' => by
          skip
          go_simp, hK _ ?_⟩
        clear hK K
        refine wpHeads_step (fun K hK => ?_)
        go_simp
        refine ⟨.string q2, fun w' hw' => by
          obtain ⟨y0, y1, y2, y3⟩ := bxs4 hw'.pt
          go_simp, hK _ ?_⟩
        clear hK K
        refine wpHeads_step (fun K hK => ?_)
        go_simp
        refine ⟨_, fun _ _ => rfl, hK _ ?_⟩
        clear hK K
        refine wpHeads_step (fun K hK => ?_)
        go_simp
        refine ⟨_, fun _ _ => rfl, hK _ ?_⟩
        clear hK K
        refine wpHeads_nil ?_
        have SX0 := Lh (kpQ_below S4.out (Below.drew (Below.refl _ _)))
        have HSW0 := Lh (strW_drew HSW4.out)
        have HBX0 := Lh (show W4.drew.heap[w.heap.size]? = _ from HBX4.out)
        clear S4 HSW4 HBX4
        generalize W4.drew = Y0 at *
        refine gwq 4 fun K hK => ?_
        go_simp
        refine (pnumber_all q1 HQ1.out Y0 HSW0.out).mono ?_
        rintro e Y1 ⟨rfl, hb⟩
        have SX1 := Lh (kpQ_below SX0.out hb)
        have HSW1 := Lh (strW_below HSW0.out hb)
        have HBX1 := Lh ((hb.block _ (lt_of_some HBX0.out)).trans HBX0.out)
        refine hK _ _ SX1.out ?_
        clear hK K hb
        refine gwq 8 fun K hK => ?_
        go_simp
        refine (pnumber_all q2 HQ2.out Y1 HSW1.out).mono ?_
        rintro e Y2 ⟨rfl, hb⟩
        have SX2 := Lh (kpQ_below SX1.out hb)
        have HSW2 := Lh (strW_below HSW1.out hb)
        have HBX2 := Lh ((hb.block _ (lt_of_some HBX1.out)).trans HBX1.out)
        refine hK _ _ SX2.out ?_
        clear hK K hb
        refine gwq 10 fun K hK => ?_
        go_simp
        refine (pnumber_all sh HSH.out Y2 HSW2.out).mono ?_
        rintro e Y3 ⟨rfl, hb⟩
        have SX3 := Lh (kpQ_below SX2.out hb)
        have HSW3 := Lh (strW_below HSW2.out hb)
        have HBX3 := Lh ((hb.block _ (lt_of_some HBX2.out)).trans HBX2.out)
        refine hK _ _ SX3.out ?_
        clear hK K hb
        obtain ⟨n1, hn1⟩ : ∃ n, n = numF q1 := ⟨_, rfl⟩
        obtain ⟨n2, hn2⟩ : ∃ n, n = numF q2 := ⟨_, rfl⟩
        obtain ⟨n3, hn3⟩ : ∃ n, n = numF sh := ⟨_, rfl⟩
        rw [← hn1, ← hn2, ← hn3]
        have HN1 := Lh hn1
        have HN2 := Lh hn2
        have HN3 := Lh hn3
        clear hn1 hn2 hn3
        refine tky 12 (.agg #[.int .i64 2, .int .i64 n1, .int .i64 n2, .int .i64 n3, .bool tp]) rfl (fun w' hw' => by
          go_simp) SX3.out ?_
        refine gwq 13 fun K hK => ?_
        refine wp_store_row 29 _ _ rfl w.heap.size #[.int .i64 2, .int .i64 n1, .int .i64 n2, .int .i64 n3, .bool tp] (by rfl) (by rfl) 29 _ HBX3.out infoN5 rfl (n5_one _ _ _ _ _) ?_
        have HR := Lh (setRow_heap Y3 w.heap.size _ #[.int .i64 2, .int .i64 n1, .int .i64 n2, .int .i64 n3, .bool tp] _ _ HBX3.out)
        have SR := Lh (kpQ_set SX3.out HBX3.out HNE.out (cs := #[.int .i64 2, .int .i64 n1, .int .i64 n2, .int .i64 n3, .bool tp]))
        refine hK _ _ SR.out ?_
        clear hK K
        generalize Y3.setRow w.heap.size #[.int .i64 2, .int .i64 n1, .int .i64 n2, .int .i64 n3, .bool tp] = YR at *
        refine wpAnyH_done (by kernel_rfl) ?_ _
        unfold onlyN
        dsimp only
        go_wp2_with fail
        refine bodyPost_ret (results_cell_row rfl _ _ w.heap.size 29 #[.int .i64 2, .int .i64 n1, .int .i64 n2, .int .i64 n3, .bool tp] (0, 0) _ rfl HR.out Tryz.underlying29 rfl infoN5) rfl ?_
        exact ⟨by rw [HGS.out, HN1.out, HN2.out, HN3.out], SR.out.be⟩
    · obtain ⟨ok, hok⟩ : ∃ b, b = Lib.hasPrefix q3.data.toList (endA 3).toList := ⟨_, rfl⟩
      have HOK := Lh hok
      have cp := Tryz.strings_CutPrefix q3 ⟨#[100, 101, 108]⟩ W3
      rw [show ((⟨#[100, 101, 108]⟩ : ByteArray).data.toList) = (endA 3).toList from rfl, ← hok] at cp
      obtain ⟨sh, hsh⟩ : ∃ x : ByteArray, x = ⟨(Lib.trimPrefix q3.data.toList (endA 3).toList).toArray⟩ := ⟨_, rfl⟩
      rw [← hsh] at cp
      have HSHD := Lh hsh
      have HCP := Lh cp
      clear hok hsh cp
      obtain ⟨y0, y1, y2, y3⟩ := bxs4 S3.out.pt
      go_upto_region 8 with fail
      go_quiet (first
       | (go_at_call 43; exact Calls.quiet_of_same (pending_3 _))
       | (go_at_call 79; exact Calls.quiet_of_same (by have h := Tryz.strings_CutPrefix q3 ⟨#[100, 101, 108]⟩; rw [show ((⟨#[100, 101, 108]⟩ : ByteArray).data.toList) = (endA 3).toList from rfl, ← HOK.out, ← HSHD.out] at h; exact h _)))
      have S4 := Lh (kpQ_below S3.out (below_drewN _ nq))
      have HSW4 := Lh (strW_drewN HSW3.out nq)
      have HBX4 := Lh (show (W3.drewN nq).heap[w.heap.size]? = _ from HBX3.out)
      clear y0 y1 y2 y3 S3 HSW3 HBX3 HCP
      generalize W3.drewN nq = W4 at *
      cases ok
      · have HX := Lh (show ∀ j : Nat, 1 ≤ j → j < 3 + 1 → Lib.hasPrefix q3.data.toList (endA j).toList = false from fun j h1 h2 => by
          by_cases e : j = 3
          · subst e
            exact HOK.out.symm
          · exact HNO.out j h1 (by omega))
        go_wp2_with fail
        go_roundw
        case rel => exact ⟨4, by omega, by omega, rfl, HX.out, S4.out, HSW4.out, HBX4.out⟩
        case measure => simp [intOf]
      · have HSH := Lh (show sh.size ≤ 1000 from by rw [HSHD.out]; exact trimP_le HQ3.out)
        have HGS := Lh (show nmV (gsV s) = .agg #[.int .i64 3, .int .i64 (numF q1), .int .i64 (numF q2), .int .i64 (numF sh), .bool tp] from by
          rw [HSHD.out, HTP.out]
          exact gsV_hit (k := 3) HPS.out (by decide) HNO.out HOK.out.symm)
        go_upto_region 10 with fail
        clear HOK HSHD
        refine wp_onlyN ?_
        refine wp_region_headsS (fun W' => KpQ w.heap.size w gp #[.string q0, .string q1, .string q2, .string q3] W') [0, 1, 2, 3, 5, 6, 7, 9, 11] 5 (by kernel_rfl) (fun _ _ _ _ _ h => h.elim) (by kernel_rfl) (by rfl) (by rfl) (kpQ_below S4.out (Below.drew (Below.refl _ _))) ?_
        simp only [pickOps, List.filterMap_cons, List.filterMap_nil, List.getElem?_toArray, List.getElem?_cons_zero, List.getElem?_cons_succ]
        refine wpHeads_step (fun K hK => ?_)
        go_simp
        refine ⟨_, fun _ _ => rfl, hK _ ?_⟩
        clear hK K
        refine wpHeads_step (fun K hK => ?_)
        go_simp
        refine ⟨_, fun _ _ => rfl, hK _ ?_⟩
        clear hK K
        refine wpHeads_step (fun K hK => ?_)
        go_simp
        refine ⟨.pointer (some ⟨gp, 1, none⟩), fun w' hw' => by
          skip
          go_simp, hK _ ?_⟩
        clear hK K
        refine wpHeads_step (fun K hK => ?_)
        go_simp
        refine ⟨.string q1, fun w' hw' => by
          obtain ⟨y0, y1, y2, y3⟩ := bxs4 hw'.pt
          go_simp, hK _ ?_⟩
        clear hK K
        refine wpHeads_step (fun K hK => ?_)
        go_simp
        refine ⟨_, fun _ _ => rfl, hK _ ?_⟩
        clear hK K
        refine wpHeads_step (fun K hK => ?_)
        go_simp
        refine ⟨.pointer (some ⟨gp, 2, none⟩), fun w' hw' => by
          skip
          go_simp, hK _ ?_⟩
        clear hK K
        refine wpHeads_step (fun K hK => ?_)
        go_simp
        refine ⟨.string q2, fun w' hw' => by
          obtain ⟨y0, y1, y2, y3⟩ := bxs4 hw'.pt
          go_simp, hK _ ?_⟩
        clear hK K
        refine wpHeads_step (fun K hK => ?_)
        go_simp
        refine ⟨_, fun _ _ => rfl, hK _ ?_⟩
        clear hK K
        refine wpHeads_step (fun K hK => ?_)
        go_simp
        refine ⟨_, fun _ _ => rfl, hK _ ?_⟩
        clear hK K
        refine wpHeads_nil ?_
        have SX0 := Lh (kpQ_below S4.out (Below.drew (Below.refl _ _)))
        have HSW0 := Lh (strW_drew HSW4.out)
        have HBX0 := Lh (show W4.drew.heap[w.heap.size]? = _ from HBX4.out)
        clear S4 HSW4 HBX4
        generalize W4.drew = Y0 at *
        refine gwq 4 fun K hK => ?_
        go_simp
        refine (pnumber_all q1 HQ1.out Y0 HSW0.out).mono ?_
        rintro e Y1 ⟨rfl, hb⟩
        have SX1 := Lh (kpQ_below SX0.out hb)
        have HSW1 := Lh (strW_below HSW0.out hb)
        have HBX1 := Lh ((hb.block _ (lt_of_some HBX0.out)).trans HBX0.out)
        refine hK _ _ SX1.out ?_
        clear hK K hb
        refine gwq 8 fun K hK => ?_
        go_simp
        refine (pnumber_all q2 HQ2.out Y1 HSW1.out).mono ?_
        rintro e Y2 ⟨rfl, hb⟩
        have SX2 := Lh (kpQ_below SX1.out hb)
        have HSW2 := Lh (strW_below HSW1.out hb)
        have HBX2 := Lh ((hb.block _ (lt_of_some HBX1.out)).trans HBX1.out)
        refine hK _ _ SX2.out ?_
        clear hK K hb
        refine gwq 10 fun K hK => ?_
        go_simp
        refine (pnumber_all sh HSH.out Y2 HSW2.out).mono ?_
        rintro e Y3 ⟨rfl, hb⟩
        have SX3 := Lh (kpQ_below SX2.out hb)
        have HSW3 := Lh (strW_below HSW2.out hb)
        have HBX3 := Lh ((hb.block _ (lt_of_some HBX2.out)).trans HBX2.out)
        refine hK _ _ SX3.out ?_
        clear hK K hb
        obtain ⟨n1, hn1⟩ : ∃ n, n = numF q1 := ⟨_, rfl⟩
        obtain ⟨n2, hn2⟩ : ∃ n, n = numF q2 := ⟨_, rfl⟩
        obtain ⟨n3, hn3⟩ : ∃ n, n = numF sh := ⟨_, rfl⟩
        rw [← hn1, ← hn2, ← hn3]
        have HN1 := Lh hn1
        have HN2 := Lh hn2
        have HN3 := Lh hn3
        clear hn1 hn2 hn3
        refine tky 12 (.agg #[.int .i64 3, .int .i64 n1, .int .i64 n2, .int .i64 n3, .bool tp]) rfl (fun w' hw' => by
          go_simp) SX3.out ?_
        refine gwq 13 fun K hK => ?_
        refine wp_store_row 29 _ _ rfl w.heap.size #[.int .i64 3, .int .i64 n1, .int .i64 n2, .int .i64 n3, .bool tp] (by rfl) (by rfl) 29 _ HBX3.out infoN5 rfl (n5_one _ _ _ _ _) ?_
        have HR := Lh (setRow_heap Y3 w.heap.size _ #[.int .i64 3, .int .i64 n1, .int .i64 n2, .int .i64 n3, .bool tp] _ _ HBX3.out)
        have SR := Lh (kpQ_set SX3.out HBX3.out HNE.out (cs := #[.int .i64 3, .int .i64 n1, .int .i64 n2, .int .i64 n3, .bool tp]))
        refine hK _ _ SR.out ?_
        clear hK K
        generalize Y3.setRow w.heap.size #[.int .i64 3, .int .i64 n1, .int .i64 n2, .int .i64 n3, .bool tp] = YR at *
        refine wpAnyH_done (by kernel_rfl) ?_ _
        unfold onlyN
        dsimp only
        go_wp2_with fail
        refine bodyPost_ret (results_cell_row rfl _ _ w.heap.size 29 #[.int .i64 3, .int .i64 n1, .int .i64 n2, .int .i64 n3, .bool tp] (0, 0) _ rfl HR.out Tryz.underlying29 rfl infoN5) rfl ?_
        exact ⟨by rw [HGS.out, HN1.out, HN2.out, HN3.out], SR.out.be⟩
    · obtain ⟨ok, hok⟩ : ∃ b, b = Lib.hasPrefix q3.data.toList (endA 4).toList := ⟨_, rfl⟩
      have HOK := Lh hok
      have cp := Tryz.strings_CutPrefix q3 ⟨#[105, 100, 120]⟩ W3
      rw [show ((⟨#[105, 100, 120]⟩ : ByteArray).data.toList) = (endA 4).toList from rfl, ← hok] at cp
      obtain ⟨sh, hsh⟩ : ∃ x : ByteArray, x = ⟨(Lib.trimPrefix q3.data.toList (endA 4).toList).toArray⟩ := ⟨_, rfl⟩
      rw [← hsh] at cp
      have HSHD := Lh hsh
      have HCP := Lh cp
      clear hok hsh cp
      obtain ⟨y0, y1, y2, y3⟩ := bxs4 S3.out.pt
      go_upto_region 8 with fail
      go_quiet (first
       | (go_at_call 43; exact Calls.quiet_of_same (pending_4 _))
       | (go_at_call 79; exact Calls.quiet_of_same (by have h := Tryz.strings_CutPrefix q3 ⟨#[105, 100, 120]⟩; rw [show ((⟨#[105, 100, 120]⟩ : ByteArray).data.toList) = (endA 4).toList from rfl, ← HOK.out, ← HSHD.out] at h; exact h _)))
      have S4 := Lh (kpQ_below S3.out (below_drewN _ nq))
      have HSW4 := Lh (strW_drewN HSW3.out nq)
      have HBX4 := Lh (show (W3.drewN nq).heap[w.heap.size]? = _ from HBX3.out)
      clear y0 y1 y2 y3 S3 HSW3 HBX3 HCP
      generalize W3.drewN nq = W4 at *
      cases ok
      · have HX := Lh (show ∀ j : Nat, 1 ≤ j → j < 4 + 1 → Lib.hasPrefix q3.data.toList (endA j).toList = false from fun j h1 h2 => by
          by_cases e : j = 4
          · subst e
            exact HOK.out.symm
          · exact HNO.out j h1 (by omega))
        go_wp2_with fail
        go_roundw
        case rel => exact ⟨5, by omega, by omega, rfl, HX.out, S4.out, HSW4.out, HBX4.out⟩
        case measure => simp [intOf]
      · have HSH := Lh (show sh.size ≤ 1000 from by rw [HSHD.out]; exact trimP_le HQ3.out)
        have HGS := Lh (show nmV (gsV s) = .agg #[.int .i64 4, .int .i64 (numF q1), .int .i64 (numF q2), .int .i64 (numF sh), .bool tp] from by
          rw [HSHD.out, HTP.out]
          exact gsV_hit (k := 4) HPS.out (by decide) HNO.out HOK.out.symm)
        go_upto_region 10 with fail
        clear HOK HSHD
        refine wp_onlyN ?_
        refine wp_region_headsS (fun W' => KpQ w.heap.size w gp #[.string q0, .string q1, .string q2, .string q3] W') [0, 1, 2, 3, 5, 6, 7, 9, 11] 5 (by kernel_rfl) (fun _ _ _ _ _ h => h.elim) (by kernel_rfl) (by rfl) (by rfl) (kpQ_below S4.out (Below.drew (Below.refl _ _))) ?_
        simp only [pickOps, List.filterMap_cons, List.filterMap_nil, List.getElem?_toArray, List.getElem?_cons_zero, List.getElem?_cons_succ]
        refine wpHeads_step (fun K hK => ?_)
        go_simp
        refine ⟨_, fun _ _ => rfl, hK _ ?_⟩
        clear hK K
        refine wpHeads_step (fun K hK => ?_)
        go_simp
        refine ⟨_, fun _ _ => rfl, hK _ ?_⟩
        clear hK K
        refine wpHeads_step (fun K hK => ?_)
        go_simp
        refine ⟨.pointer (some ⟨gp, 1, none⟩), fun w' hw' => by
          skip
          go_simp, hK _ ?_⟩
        clear hK K
        refine wpHeads_step (fun K hK => ?_)
        go_simp
        refine ⟨.string q1, fun w' hw' => by
          obtain ⟨y0, y1, y2, y3⟩ := bxs4 hw'.pt
          go_simp, hK _ ?_⟩
        clear hK K
        refine wpHeads_step (fun K hK => ?_)
        go_simp
        refine ⟨_, fun _ _ => rfl, hK _ ?_⟩
        clear hK K
        refine wpHeads_step (fun K hK => ?_)
        go_simp
        refine ⟨.pointer (some ⟨gp, 2, none⟩), fun w' hw' => by
          skip
          go_simp, hK _ ?_⟩
        clear hK K
        refine wpHeads_step (fun K hK => ?_)
        go_simp
        refine ⟨.string q2, fun w' hw' => by
          obtain ⟨y0, y1, y2, y3⟩ := bxs4 hw'.pt
          go_simp, hK _ ?_⟩
        clear hK K
        refine wpHeads_step (fun K hK => ?_)
        go_simp
        refine ⟨_, fun _ _ => rfl, hK _ ?_⟩
        clear hK K
        refine wpHeads_step (fun K hK => ?_)
        go_simp
        refine ⟨_, fun _ _ => rfl, hK _ ?_⟩
        clear hK K
        refine wpHeads_nil ?_
        have SX0 := Lh (kpQ_below S4.out (Below.drew (Below.refl _ _)))
        have HSW0 := Lh (strW_drew HSW4.out)
        have HBX0 := Lh (show W4.drew.heap[w.heap.size]? = _ from HBX4.out)
        clear S4 HSW4 HBX4
        generalize W4.drew = Y0 at *
        refine gwq 4 fun K hK => ?_
        go_simp
        refine (pnumber_all q1 HQ1.out Y0 HSW0.out).mono ?_
        rintro e Y1 ⟨rfl, hb⟩
        have SX1 := Lh (kpQ_below SX0.out hb)
        have HSW1 := Lh (strW_below HSW0.out hb)
        have HBX1 := Lh ((hb.block _ (lt_of_some HBX0.out)).trans HBX0.out)
        refine hK _ _ SX1.out ?_
        clear hK K hb
        refine gwq 8 fun K hK => ?_
        go_simp
        refine (pnumber_all q2 HQ2.out Y1 HSW1.out).mono ?_
        rintro e Y2 ⟨rfl, hb⟩
        have SX2 := Lh (kpQ_below SX1.out hb)
        have HSW2 := Lh (strW_below HSW1.out hb)
        have HBX2 := Lh ((hb.block _ (lt_of_some HBX1.out)).trans HBX1.out)
        refine hK _ _ SX2.out ?_
        clear hK K hb
        refine gwq 10 fun K hK => ?_
        go_simp
        refine (pnumber_all sh HSH.out Y2 HSW2.out).mono ?_
        rintro e Y3 ⟨rfl, hb⟩
        have SX3 := Lh (kpQ_below SX2.out hb)
        have HSW3 := Lh (strW_below HSW2.out hb)
        have HBX3 := Lh ((hb.block _ (lt_of_some HBX2.out)).trans HBX2.out)
        refine hK _ _ SX3.out ?_
        clear hK K hb
        obtain ⟨n1, hn1⟩ : ∃ n, n = numF q1 := ⟨_, rfl⟩
        obtain ⟨n2, hn2⟩ : ∃ n, n = numF q2 := ⟨_, rfl⟩
        obtain ⟨n3, hn3⟩ : ∃ n, n = numF sh := ⟨_, rfl⟩
        rw [← hn1, ← hn2, ← hn3]
        have HN1 := Lh hn1
        have HN2 := Lh hn2
        have HN3 := Lh hn3
        clear hn1 hn2 hn3
        refine tky 12 (.agg #[.int .i64 4, .int .i64 n1, .int .i64 n2, .int .i64 n3, .bool tp]) rfl (fun w' hw' => by
          go_simp) SX3.out ?_
        refine gwq 13 fun K hK => ?_
        refine wp_store_row 29 _ _ rfl w.heap.size #[.int .i64 4, .int .i64 n1, .int .i64 n2, .int .i64 n3, .bool tp] (by rfl) (by rfl) 29 _ HBX3.out infoN5 rfl (n5_one _ _ _ _ _) ?_
        have HR := Lh (setRow_heap Y3 w.heap.size _ #[.int .i64 4, .int .i64 n1, .int .i64 n2, .int .i64 n3, .bool tp] _ _ HBX3.out)
        have SR := Lh (kpQ_set SX3.out HBX3.out HNE.out (cs := #[.int .i64 4, .int .i64 n1, .int .i64 n2, .int .i64 n3, .bool tp]))
        refine hK _ _ SR.out ?_
        clear hK K
        generalize Y3.setRow w.heap.size #[.int .i64 4, .int .i64 n1, .int .i64 n2, .int .i64 n3, .bool tp] = YR at *
        refine wpAnyH_done (by kernel_rfl) ?_ _
        unfold onlyN
        dsimp only
        go_wp2_with fail
        refine bodyPost_ret (results_cell_row rfl _ _ w.heap.size 29 #[.int .i64 4, .int .i64 n1, .int .i64 n2, .int .i64 n3, .bool tp] (0, 0) _ rfl HR.out Tryz.underlying29 rfl infoN5) rfl ?_
        exact ⟨by rw [HGS.out, HN1.out, HN2.out, HN3.out], SR.out.be⟩
    · obtain ⟨ok, hok⟩ : ∃ b, b = Lib.hasPrefix q3.data.toList (endA 5).toList := ⟨_, rfl⟩
      have HOK := Lh hok
      have cp := Tryz.strings_CutPrefix q3 ⟨#[101, 99]⟩ W3
      rw [show ((⟨#[101, 99]⟩ : ByteArray).data.toList) = (endA 5).toList from rfl, ← hok] at cp
      obtain ⟨sh, hsh⟩ : ∃ x : ByteArray, x = ⟨(Lib.trimPrefix q3.data.toList (endA 5).toList).toArray⟩ := ⟨_, rfl⟩
      rw [← hsh] at cp
      have HSHD := Lh hsh
      have HCP := Lh cp
      clear hok hsh cp
      obtain ⟨y0, y1, y2, y3⟩ := bxs4 S3.out.pt
      go_upto_region 8 with fail
      go_quiet (first
       | (go_at_call 43; exact Calls.quiet_of_same (pending_5 _))
       | (go_at_call 79; exact Calls.quiet_of_same (by have h := Tryz.strings_CutPrefix q3 ⟨#[101, 99]⟩; rw [show ((⟨#[101, 99]⟩ : ByteArray).data.toList) = (endA 5).toList from rfl, ← HOK.out, ← HSHD.out] at h; exact h _)))
      have S4 := Lh (kpQ_below S3.out (below_drewN _ nq))
      have HSW4 := Lh (strW_drewN HSW3.out nq)
      have HBX4 := Lh (show (W3.drewN nq).heap[w.heap.size]? = _ from HBX3.out)
      clear y0 y1 y2 y3 S3 HSW3 HBX3 HCP
      generalize W3.drewN nq = W4 at *
      cases ok
      · have HX := Lh (show ∀ j : Nat, 1 ≤ j → j < 5 + 1 → Lib.hasPrefix q3.data.toList (endA j).toList = false from fun j h1 h2 => by
          by_cases e : j = 5
          · subst e
            exact HOK.out.symm
          · exact HNO.out j h1 (by omega))
        go_wp2_with fail
        go_roundw
        case rel => exact ⟨6, by omega, by omega, rfl, HX.out, S4.out, HSW4.out, HBX4.out⟩
        case measure => simp [intOf]
      · have HSH := Lh (show sh.size ≤ 1000 from by rw [HSHD.out]; exact trimP_le HQ3.out)
        have HGS := Lh (show nmV (gsV s) = .agg #[.int .i64 5, .int .i64 (numF q1), .int .i64 (numF q2), .int .i64 (numF sh), .bool tp] from by
          rw [HSHD.out, HTP.out]
          exact gsV_hit (k := 5) HPS.out (by decide) HNO.out HOK.out.symm)
        go_upto_region 10 with fail
        clear HOK HSHD
        refine wp_onlyN ?_
        refine wp_region_headsS (fun W' => KpQ w.heap.size w gp #[.string q0, .string q1, .string q2, .string q3] W') [0, 1, 2, 3, 5, 6, 7, 9, 11] 5 (by kernel_rfl) (fun _ _ _ _ _ h => h.elim) (by kernel_rfl) (by rfl) (by rfl) (kpQ_below S4.out (Below.drew (Below.refl _ _))) ?_
        simp only [pickOps, List.filterMap_cons, List.filterMap_nil, List.getElem?_toArray, List.getElem?_cons_zero, List.getElem?_cons_succ]
        refine wpHeads_step (fun K hK => ?_)
        go_simp
        refine ⟨_, fun _ _ => rfl, hK _ ?_⟩
        clear hK K
        refine wpHeads_step (fun K hK => ?_)
        go_simp
        refine ⟨_, fun _ _ => rfl, hK _ ?_⟩
        clear hK K
        refine wpHeads_step (fun K hK => ?_)
        go_simp
        refine ⟨.pointer (some ⟨gp, 1, none⟩), fun w' hw' => by
          skip
          go_simp, hK _ ?_⟩
        clear hK K
        refine wpHeads_step (fun K hK => ?_)
        go_simp
        refine ⟨.string q1, fun w' hw' => by
          obtain ⟨y0, y1, y2, y3⟩ := bxs4 hw'.pt
          go_simp, hK _ ?_⟩
        clear hK K
        refine wpHeads_step (fun K hK => ?_)
        go_simp
        refine ⟨_, fun _ _ => rfl, hK _ ?_⟩
        clear hK K
        refine wpHeads_step (fun K hK => ?_)
        go_simp
        refine ⟨.pointer (some ⟨gp, 2, none⟩), fun w' hw' => by
          skip
          go_simp, hK _ ?_⟩
        clear hK K
        refine wpHeads_step (fun K hK => ?_)
        go_simp
        refine ⟨.string q2, fun w' hw' => by
          obtain ⟨y0, y1, y2, y3⟩ := bxs4 hw'.pt
          go_simp, hK _ ?_⟩
        clear hK K
        refine wpHeads_step (fun K hK => ?_)
        go_simp
        refine ⟨_, fun _ _ => rfl, hK _ ?_⟩
        clear hK K
        refine wpHeads_step (fun K hK => ?_)
        go_simp
        refine ⟨_, fun _ _ => rfl, hK _ ?_⟩
        clear hK K
        refine wpHeads_nil ?_
        have SX0 := Lh (kpQ_below S4.out (Below.drew (Below.refl _ _)))
        have HSW0 := Lh (strW_drew HSW4.out)
        have HBX0 := Lh (show W4.drew.heap[w.heap.size]? = _ from HBX4.out)
        clear S4 HSW4 HBX4
        generalize W4.drew = Y0 at *
        refine gwq 4 fun K hK => ?_
        go_simp
        refine (pnumber_all q1 HQ1.out Y0 HSW0.out).mono ?_
        rintro e Y1 ⟨rfl, hb⟩
        have SX1 := Lh (kpQ_below SX0.out hb)
        have HSW1 := Lh (strW_below HSW0.out hb)
        have HBX1 := Lh ((hb.block _ (lt_of_some HBX0.out)).trans HBX0.out)
        refine hK _ _ SX1.out ?_
        clear hK K hb
        refine gwq 8 fun K hK => ?_
        go_simp
        refine (pnumber_all q2 HQ2.out Y1 HSW1.out).mono ?_
        rintro e Y2 ⟨rfl, hb⟩
        have SX2 := Lh (kpQ_below SX1.out hb)
        have HSW2 := Lh (strW_below HSW1.out hb)
        have HBX2 := Lh ((hb.block _ (lt_of_some HBX1.out)).trans HBX1.out)
        refine hK _ _ SX2.out ?_
        clear hK K hb
        refine gwq 10 fun K hK => ?_
        go_simp
        refine (pnumber_all sh HSH.out Y2 HSW2.out).mono ?_
        rintro e Y3 ⟨rfl, hb⟩
        have SX3 := Lh (kpQ_below SX2.out hb)
        have HSW3 := Lh (strW_below HSW2.out hb)
        have HBX3 := Lh ((hb.block _ (lt_of_some HBX2.out)).trans HBX2.out)
        refine hK _ _ SX3.out ?_
        clear hK K hb
        obtain ⟨n1, hn1⟩ : ∃ n, n = numF q1 := ⟨_, rfl⟩
        obtain ⟨n2, hn2⟩ : ∃ n, n = numF q2 := ⟨_, rfl⟩
        obtain ⟨n3, hn3⟩ : ∃ n, n = numF sh := ⟨_, rfl⟩
        rw [← hn1, ← hn2, ← hn3]
        have HN1 := Lh hn1
        have HN2 := Lh hn2
        have HN3 := Lh hn3
        clear hn1 hn2 hn3
        refine tky 12 (.agg #[.int .i64 5, .int .i64 n1, .int .i64 n2, .int .i64 n3, .bool tp]) rfl (fun w' hw' => by
          go_simp) SX3.out ?_
        refine gwq 13 fun K hK => ?_
        refine wp_store_row 29 _ _ rfl w.heap.size #[.int .i64 5, .int .i64 n1, .int .i64 n2, .int .i64 n3, .bool tp] (by rfl) (by rfl) 29 _ HBX3.out infoN5 rfl (n5_one _ _ _ _ _) ?_
        have HR := Lh (setRow_heap Y3 w.heap.size _ #[.int .i64 5, .int .i64 n1, .int .i64 n2, .int .i64 n3, .bool tp] _ _ HBX3.out)
        have SR := Lh (kpQ_set SX3.out HBX3.out HNE.out (cs := #[.int .i64 5, .int .i64 n1, .int .i64 n2, .int .i64 n3, .bool tp]))
        refine hK _ _ SR.out ?_
        clear hK K
        generalize Y3.setRow w.heap.size #[.int .i64 5, .int .i64 n1, .int .i64 n2, .int .i64 n3, .bool tp] = YR at *
        refine wpAnyH_done (by kernel_rfl) ?_ _
        unfold onlyN
        dsimp only
        go_wp2_with fail
        refine bodyPost_ret (results_cell_row rfl _ _ w.heap.size 29 #[.int .i64 5, .int .i64 n1, .int .i64 n2, .int .i64 n3, .bool tp] (0, 0) _ rfl HR.out Tryz.underlying29 rfl infoN5) rfl ?_
        exact ⟨by rw [HGS.out, HN1.out, HN2.out, HN3.out], SR.out.be⟩
    · have HG := Lh (gsV_none HPS.out HNO.out)
      go_wp2_with ((with_reducible refine storeNm w.heap.size _ #[.int .i64 0, .int .i64 0, .int .i64 0, .int .i64 0, .bool false] ?_ ?_ HBX3.out rfl rfl z5_one ?_); exact rfl; exact rfl)
      refine bodyPost_ret (results_cell_row rfl _ _ w.heap.size 29 #[.int .i64 0, .int .i64 0, .int .i64 0, .int .i64 0, .bool false] (0, 0) _ rfl (setRow_heap _ _ _ _ _ _ HBX3.out) Tryz.underlying29 rfl infoN5) rfl ?_
      exact ⟨by rw [HG.out], below_setRowM S3.out.be (Nat.le_refl _) _⟩
end Go.Proofs.YtbmlpafbdbhaiaaGreatDoor.Gf
