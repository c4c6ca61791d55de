/- What is proved here: the contract of the program's divide (scan). Condition: a list of at most 100000 records. -/
import Derived.Test.YtlnccofanicihaaDoorP9d
namespace Go.Proofs.YtlnccofanicihaaDoor.Gf
open Go Go.Joins Go.ChangeShapes Go.WideShapes Go.ChangeAt Go.RowKit Go.Deep Go.Sort Go.Maps Go.Proofs.YtlnccofanicihaaDoor.By Go.Proofs.YtlnccofanicihaaDoor.Crc Go.Proofs.YtlnccofanicihaaDoor.Qt

theorem divF_live {R : List Rc} {i j : Nat} {r : Rc} (hr : R.getD i rc0 = r) (hl : lastN R r.x.key = j) (he : j = i) (hd : r.x.del = false) : divF R (i + 1) = ((divF R i).1 ++ [r], (divF R i).2) := by
  rw [divF_succ, hr, if_pos ⟨by omega, hd⟩]
theorem divF_other {R : List Rc} {i j : Nat} {r : Rc} (hr : R.getD i rc0 = r) (hl : lastN R r.x.key = j) (he : ¬ (j = i ∧ r.x.del = false)) : divF R (i + 1) = ((divF R i).1, (divF R i).2 ++ [r]) := by
  rw [divF_succ, hr, if_neg (fun h => he ⟨by omega, h.2⟩)]
set_option maxRecDepth 100000 in
set_option maxHeartbeats 12800000 in
theorem pdivide_any (v : Value) (R : List Rc) (w : World) (s : Rs w v R) (hlen : R.length ≤ 100000) : Calls Tryd.prog 33 #[v] w (DVO w R) := by
  obtain ⟨al, cl, hv, -, -⟩ := rs_form s
  obtain ⟨n, hn⟩ : ∃ n, n = R.length := ⟨_, rfl⟩
  rw [← hn] at hv hlen
  subst hv
  have S := Lib.hid s
  have N := Lib.hid hn
  have hmm := run_makeMap9 n
  have G0 : Hid (La (w.alloc (.map #[] 0)) w.heap.size 0 (R.take 0)) := World.ownsMap_made _ _ _ _
  have B0 := Lib.hid (bel_al w (.map #[] 0))
  clear s hn
  go_enter Tryd.func33, Tryd.ntmps33
  go_wp2_with fail
  generalize hMB : w.heap.size = MB at G0
  have HMB := Lib.hid hMB
  have B0' : Hid (MB + 1 ≤ (w.alloc (.map #[] 0)).heap.size) := by show _ ≤ _; rw [← hMB]; simp
  clear hmm hMB
  go_loopw [14] (fun t wr => ∃ i : Nat, i ≤ n ∧ t = .int .i64 (i : Int) ∧ Hid (La wr MB i (R.take i)) ∧ Hid (Below w.heap.size w wr) ∧ Hid (MB + 1 ≤ wr.heap.size)) (fun t _ => n - (intOf t).toNat)
  case atStart => exact ⟨0, by omega, rfl, G0, B0, B0'⟩
  case round =>
    clear G0 B0 B0'
    obtain ⟨i, hi, rfl, HG, HB, HZ⟩ := hrel
    by_cases hin : i < n
    · have hl4 : decide ((i : Int) < (n : Int)) = true := decide_eq_true (by omega)
      have p0 : (0 : Int) ≤ (i : Int) := by omega
      have p1 : (i : Int) < (n : Int) := by omega
      have N' := N.out
      obtain ⟨b1, o1, c1', hv1, -, -, hk1⟩ := rs_cells S.out (by omega)
      obtain ⟨rfl, -, -⟩ : al = some ⟨b1, o1, none⟩ ∧ n = R.length ∧ cl = c1' := by simpa using hv1
      obtain ⟨d, C0⟩ := hk1 i (by omega)
      obtain ⟨f0, f1, f2, f3, f4, okr, sd⟩ := C0.below HB.out
      have hgt : R.take (i + 1) = R.take i ++ [R.getD i rc0] := take_snocR (by omega)
      generalize R.getD i rc0 = r at *
      obtain ⟨ad, cd, rfl, -, -⟩ := sl_form sd
      generalize r.x.data.length = nd at *
      have hkey := keyOf_int_mk Tryd.underlying53 (wfK9 okr.key)
      have hval := plainElem_int (P := Tryd.prog) (H := Unit) Tryd.underlying3 (wfI9 (g := i) (by omega))
      have HGT := Lib.hid hgt
      have HW := bel_al wr (.cells #[.int .i64 r.off, .int .u64 (r.x.key : Int), .int .u32 (r.x.cookie : Int), .bool r.x.del, .slice ad nd cd] 61)
      have hown := HG.out.later HW
      have HBW := Lib.hid (bt HB.out HW)
      have HZW : Hid (MB + 1 ≤ (wr.alloc (.cells #[.int .i64 r.off, .int .u64 (r.x.key : Int), .int .u32 (r.x.cookie : Int), .bool r.x.del, .slice ad nd cd] 61)).heap.size) := Nat.le_trans HZ.out HW.size
      have HIL : Hid ((R.take i).length = i) := by show _ = _; rw [List.length_take]; omega
      unfold La at hown
      have hmx : i < maxLen := by unfold maxLen; omega
      clear C0 hk1 hv1 N' sd okr hgt HW HG HB HZ
      go_wp2_with (at_mapUpdate; refine wpList_mapUpdate_own _ rfl _ _ _ 95 rfl 53 3 keyK9 Tryd.underlying95 _ MB i _ rfl hown hmx _ _ _ rfl rfl hkey _ [] hval ?_; intro w5 hown5 hgrow5; have G5 : Hid (La w5 MB (i + 1) (R.take (i + 1))) := (by show La _ _ _ _; unfold La; rw [HGT.out, lastD_snoc, HIL.out]; exact hown5); have B5 : Hid (Below w.heap.size w w5) := HBW.out.grown hgrow5 HBW.out.size (fun q hq => by cases hq; rw [HMB.out]; exact Nat.le_refl _); have Z5 : Hid (MB + 1 ≤ w5.heap.size) := Nat.le_trans HZW.out hgrow5.size; clear hown5 hgrow5)
      go_roundw
      case rel => exact ⟨i + 1, by omega, by go_num, G5, B5, Z5⟩
      case measure => simp [intOf]; omega
    · obtain rfl : i = n := by omega
      have hl4 : decide ((i : Int) < (i : Int)) = false := decide_eq_false (by omega)
      have GF : Hid (La wr MB i R) := by
        show La _ _ _ _
        have := HG.out
        rwa [List.take_of_length_le (by rw [← N.out]; exact Nat.le_refl _)] at this
      clear HG
      rename World => wo
      have HO0 := Lib.hid (owR_nil 61 w.heap.size wo (MB + 1))
      go_wp2_with fail
      go_loopw [2, 3, 27] (fun u1 u2 t wl => ∃ j : Nat, j ≤ i ∧ t = .int .i64 (j : Int) ∧ Hid (OwR 61 w.heap.size wl (MB + 1) u1 (divF R j).1) ∧ Hid (OwR 61 w.heap.size wl (MB + 1) u2 (divF R j).2) ∧ Hid (Apart u1 u2) ∧ Hid (La wl MB i R) ∧ Hid (Below w.heap.size w wl) ∧ Hid (MB + 1 ≤ wl.heap.size)) (fun _ _ t _ => i - (intOf t).toNat)
      case atStart => exact ⟨0, by omega, rfl, HO0, HO0, apart_nil _, GF, HB, HZ⟩
      case round =>
        clear GF HB HZ HO0
        obtain ⟨j, hj, rfl, HL, HM, HP, HG, HB, HZ⟩ := hrel
        by_cases hjn : j < i
        · have hl4 : decide ((j : Int) < (i : Int)) = true := decide_eq_true (by omega)
          have p0 : (0 : Int) ≤ (j : Int) := by omega
          have p1 : (j : Int) < (i : Int) := by omega
          have N' := N.out
          obtain ⟨b1, o1, c1', hv1, -, -, hk1⟩ := rs_cells S.out (by omega)
          obtain ⟨rfl, -, -⟩ : al = some ⟨b1, o1, none⟩ ∧ i = R.length ∧ cl = c1' := by simpa using hv1
          obtain ⟨d, C0⟩ := hk1 j (by omega)
          have sd := C0.sl
          obtain ⟨f0, f1, f2, f3, f4, okr, -⟩ := C0.below HB.out
          obtain ⟨r, hr⟩ : ∃ r, R.getD j rc0 = r := ⟨_, rfl⟩
          rw [hr] at f0 f1 f2 f3 okr sd
          obtain ⟨off, ⟨key, ck, del, data⟩⟩ := r
          dsimp only at f0 f1 f2 f3 f4 okr sd
          obtain ⟨ad, cd, rfl, -, -⟩ := sl_form sd
          obtain ⟨nd, hnd⟩ : ∃ z, z = data.length := ⟨_, rfl⟩
          rw [← hnd] at f4 sd okr
          have SD := Lib.hid sd
          have OKR := Lib.hid okr
          have HK := Lib.hid okr.key
          have hdl := divF_length R j
          obtain ⟨q, hq⟩ : ∃ q, q = lastN R key := ⟨_, rfl⟩
          have HQ := Lib.hid hq
          obtain ⟨D1, hD1⟩ : ∃ D, D = (divF R j).1 := ⟨_, rfl⟩
          obtain ⟨D2, hD2⟩ : ∃ D, D = (divF R j).2 := ⟨_, rfl⟩
          rw [← hD1] at HL hdl
          rw [← hD2] at HM hdl
          have HLM : Hid (D1.length ≤ 100000000 ∧ D2.length ≤ 100000000) := Lib.hid ⟨by omega, by omega⟩
          have HB0 : Hid (w.heap.size ≤ MB + 1) := by show _ ≤ _; rw [HMB.out]; exact Nat.le_succ _
          have EQL := Lib.hid (fun (he : q = j) (hd : del = false) => (divF_live hr hq.symm he hd))
          have EQO := Lib.hid (fun (he : ¬ (q = j ∧ del = false)) => (divF_other hr hq.symm he))
          rw [← hD1, ← hD2] at EQL EQO
          obtain ⟨a1, c1, rfl, -, -⟩ := owR_form HL.out
          obtain ⟨a2, c2, rfl, -, -⟩ := owR_form HM.out
          obtain ⟨n1, hn1⟩ : ∃ z, z = D1.length := ⟨_, rfl⟩
          obtain ⟨n2, hn2⟩ : ∃ z, z = D2.length := ⟨_, rfl⟩
          rw [← hn1] at HL HP ⊢
          rw [← hn2] at HM HP ⊢
          clear C0 hk1 hv1 N' sd okr hr hnd hq hD1 hD2 hdl hn1 hn2
          by_cases hqj : q = j
          · subst hqj
            cases del
            · have EQ := Lib.hid (EQL.out rfl rfl)
              clear EQL EQO
              have HA1 := Lib.hid (bel_al wr (.cells #[.int .i64 off, .int .u64 (key : Int), .int .u32 (ck : Int), .bool false, .slice ad nd cd] 61))
              have HA2 := Lib.hid (b2' wr (.cells #[.int .i64 off, .int .u64 (key : Int), .int .u32 (ck : Int), .bool false, .slice ad nd cd] 61) (.cells #[.int .i64 off, .int .u64 (key : Int), .int .u32 (ck : Int), .bool false, .slice ad nd cd] 61))
              have HLK := (HG.out.later HA1.out).look HK.out
              rw [← HQ.out] at HLK
              have HNG := Lib.hid (heap_alloc2_new wr (.cells #[.int .i64 off, .int .u64 (key : Int), .int .u32 (ck : Int), .bool false, .slice ad nd cd] 61) (.cells #[.int .i64 off, .int .u64 (key : Int), .int .u32 (ck : Int), .bool false, .slice ad nd cd] 61))
              have HL2 := Lib.hid (owR_below HL.out HA2.out)
              have HM2 := Lib.hid (owR_below HM.out HA2.out)
              have HG2 := Lib.hid (HG.out.later HA2.out)
              have HB2 := Lib.hid (bt HB.out HA2.out)
              have HZ2 := Lib.hid (Nat.le_trans HZ.out HA2.out.size)
              have HKP := Lib.hid (show KpB w.heap.size ((wr.alloc (.cells #[.int .i64 off, .int .u64 (key : Int), .int .u32 (ck : Int), .bool false, .slice ad nd cd] 61)).alloc (.cells #[.int .i64 off, .int .u64 (key : Int), .int .u32 (ck : Int), .bool false, .slice ad nd cd] 61)) (MB + 1) (.slice ad nd cd) data from Or.inr ⟨w, Nat.le_refl _, HB2.out, SD.out⟩)
              have HOK := Lib.hid (show RvOk ⟨off, ⟨key, ck, false, data⟩, .slice ad nd cd⟩ from OKR.out)
              clear HL HM HG HB HZ
              go_wp2_with (at_builtin; refine app_rc_at tyScan (dst := some 48) (base := MB + 1) (g := wr.heap.size + 1) (r := ⟨off, ⟨key, ck, false, data⟩⟩) ?_ ?_ HL2.out HNG.out HKP.out HOK.out HLM.out.1 HZ2.out HB0.out ?_; exact rfl; exact rfl; intro v5 w5 ho5 hg5 hat5; have HL5 := Lib.hid ho5; have HM5 := Lib.hid (owR_kept tyScan HM2.out HL2.out hg5 HP.out HZ2.out HB0.out); have HP5 := Lib.hid (apart_grown HP.out HM2.out hat5); have HG5 := Lib.hid (HG2.out.grown hg5 HL2.out (Nat.lt_succ_self MB)); have HB5 := Lib.hid (below_grownR HB2.out hg5 HL2.out HB2.out.size HB0.out); have HZ5 := Lib.hid (Nat.le_trans HZ2.out hg5.size); clear ho5 hg5 hat5)
              go_roundw
              case rel => exact ⟨q + 1, by omega, by go_num, by show OwR _ _ _ _ _ _; rw [EQ.out]; exact HL5.out, by show OwR _ _ _ _ _ _; rw [EQ.out]; exact HM5.out, HP5, HG5, HB5, HZ5⟩
              case measure => simp [intOf]; omega
            · have EQ := Lib.hid (EQO.out (fun h => by cases h.2))
              clear EQL EQO
              have HA1 := Lib.hid (bel_al wr (.cells #[.int .i64 off, .int .u64 (key : Int), .int .u32 (ck : Int), .bool true, .slice ad nd cd] 61))
              have HA2 := Lib.hid (b2' wr (.cells #[.int .i64 off, .int .u64 (key : Int), .int .u32 (ck : Int), .bool true, .slice ad nd cd] 61) (.cells #[.int .i64 off, .int .u64 (key : Int), .int .u32 (ck : Int), .bool true, .slice ad nd cd] 61))
              have HLK := (HG.out.later HA1.out).look HK.out
              rw [← HQ.out] at HLK
              have HNG := Lib.hid (heap_alloc2_new wr (.cells #[.int .i64 off, .int .u64 (key : Int), .int .u32 (ck : Int), .bool true, .slice ad nd cd] 61) (.cells #[.int .i64 off, .int .u64 (key : Int), .int .u32 (ck : Int), .bool true, .slice ad nd cd] 61))
              have HL2 := Lib.hid (owR_below HL.out HA2.out)
              have HM2 := Lib.hid (owR_below HM.out HA2.out)
              have HG2 := Lib.hid (HG.out.later HA2.out)
              have HB2 := Lib.hid (bt HB.out HA2.out)
              have HZ2 := Lib.hid (Nat.le_trans HZ.out HA2.out.size)
              have HKP := Lib.hid (show KpB w.heap.size ((wr.alloc (.cells #[.int .i64 off, .int .u64 (key : Int), .int .u32 (ck : Int), .bool true, .slice ad nd cd] 61)).alloc (.cells #[.int .i64 off, .int .u64 (key : Int), .int .u32 (ck : Int), .bool true, .slice ad nd cd] 61)) (MB + 1) (.slice ad nd cd) data from Or.inr ⟨w, Nat.le_refl _, HB2.out, SD.out⟩)
              have HOK := Lib.hid (show RvOk ⟨off, ⟨key, ck, true, data⟩, .slice ad nd cd⟩ from OKR.out)
              clear HL HM HG HB HZ
              go_wp2_with (at_builtin; refine app_rc_at tyScan (dst := some 52) (base := MB + 1) (g := wr.heap.size + 1) (r := ⟨off, ⟨key, ck, true, data⟩⟩) ?_ ?_ HM2.out HNG.out HKP.out HOK.out HLM.out.2 HZ2.out HB0.out ?_; exact rfl; exact rfl; intro v5 w5 ho5 hg5 hat5; have HM5 := Lib.hid ho5; have HL5 := Lib.hid (owR_kept tyScan HL2.out HM2.out hg5 HP.out.symm HZ2.out HB0.out); have HP5 := Lib.hid (apart_grown HP.out.symm HL2.out hat5).symm; have HG5 := Lib.hid (HG2.out.grown hg5 HM2.out (Nat.lt_succ_self MB)); have HB5 := Lib.hid (below_grownR HB2.out hg5 HM2.out HB2.out.size HB0.out); have HZ5 := Lib.hid (Nat.le_trans HZ2.out hg5.size); clear ho5 hg5 hat5)
              go_roundw
              case rel => exact ⟨q + 1, by omega, by go_num, by show OwR _ _ _ _ _ _; rw [EQ.out]; exact HL5.out, by show OwR _ _ _ _ _ _; rw [EQ.out]; exact HM5.out, HP5, HG5, HB5, HZ5⟩
              case measure => simp [intOf]; omega
          · have g0 : decide ((q : Int) = (j : Int)) = false := decide_eq_false (by omega)
            have g1 : ((q : Int) == (j : Int)) = false := beq_eq_false_iff_ne.2 (by omega)
            have EQ := Lib.hid (EQO.out (fun h => hqj h.1))
            clear EQL EQO
            have HA1 := Lib.hid (bel_al wr (.cells #[.int .i64 off, .int .u64 (key : Int), .int .u32 (ck : Int), .bool del, .slice ad nd cd] 61))
            have HA2 := Lib.hid (b2' wr (.cells #[.int .i64 off, .int .u64 (key : Int), .int .u32 (ck : Int), .bool del, .slice ad nd cd] 61) (.cells #[.int .i64 off, .int .u64 (key : Int), .int .u32 (ck : Int), .bool del, .slice ad nd cd] 61))
            have HLK := (HG.out.later HA1.out).look HK.out
            rw [← HQ.out] at HLK
            have HNG := Lib.hid (heap_alloc2_new wr (.cells #[.int .i64 off, .int .u64 (key : Int), .int .u32 (ck : Int), .bool del, .slice ad nd cd] 61) (.cells #[.int .i64 off, .int .u64 (key : Int), .int .u32 (ck : Int), .bool del, .slice ad nd cd] 61))
            have HL2 := Lib.hid (owR_below HL.out HA2.out)
            have HM2 := Lib.hid (owR_below HM.out HA2.out)
            have HG2 := Lib.hid (HG.out.later HA2.out)
            have HB2 := Lib.hid (bt HB.out HA2.out)
            have HZ2 := Lib.hid (Nat.le_trans HZ.out HA2.out.size)
            have HKP := Lib.hid (show KpB w.heap.size ((wr.alloc (.cells #[.int .i64 off, .int .u64 (key : Int), .int .u32 (ck : Int), .bool del, .slice ad nd cd] 61)).alloc (.cells #[.int .i64 off, .int .u64 (key : Int), .int .u32 (ck : Int), .bool del, .slice ad nd cd] 61)) (MB + 1) (.slice ad nd cd) data from Or.inr ⟨w, Nat.le_refl _, HB2.out, SD.out⟩)
            have HOK := Lib.hid (show RvOk ⟨off, ⟨key, ck, del, data⟩, .slice ad nd cd⟩ from OKR.out)
            clear HL HM HG HB HZ
            go_wp2_with (at_builtin; refine app_rc_at tyScan (dst := some 52) (base := MB + 1) (g := wr.heap.size + 1) (r := ⟨off, ⟨key, ck, del, data⟩⟩) ?_ ?_ HM2.out HNG.out HKP.out HOK.out HLM.out.2 HZ2.out HB0.out ?_; exact rfl; exact rfl; intro v5 w5 ho5 hg5 hat5; have HM5 := Lib.hid ho5; have HL5 := Lib.hid (owR_kept tyScan HL2.out HM2.out hg5 HP.out.symm HZ2.out HB0.out); have HP5 := Lib.hid (apart_grown HP.out.symm HL2.out hat5).symm; have HG5 := Lib.hid (HG2.out.grown hg5 HM2.out (Nat.lt_succ_self MB)); have HB5 := Lib.hid (below_grownR HB2.out hg5 HM2.out HB2.out.size HB0.out); have HZ5 := Lib.hid (Nat.le_trans HZ2.out hg5.size); clear ho5 hg5 hat5)
            go_roundw
            case rel => exact ⟨j + 1, by omega, by go_num, by show OwR _ _ _ _ _ _; rw [EQ.out]; exact HL5.out, by show OwR _ _ _ _ _ _; rw [EQ.out]; exact HM5.out, HP5, HG5, HB5, HZ5⟩
            case measure => simp [intOf]; omega
        · obtain rfl : j = i := by omega
          have hl4 : decide ((j : Int) < (j : Int)) = false := decide_eq_false (by omega)
          have N' := N.out
          have HB0 : Hid (w.heap.size ≤ MB + 1) := by show _ ≤ _; rw [HMB.out]; exact Nat.le_succ _
          obtain ⟨a1, c1, rfl, -, -⟩ := owR_form HL.out
          obtain ⟨a2, c2, rfl, -, -⟩ := owR_form HM.out
          generalize (divF R j).1.length = n1 at *
          generalize (divF R j).2.length = n2 at *
          clear N'
          go_wp2
          go_ret2
          exact ⟨⟨_, _, rfl, by rw [← N.out]; exact owR_base HL.out HB0.out, by rw [← N.out]; exact owR_base HM.out HB0.out⟩, HB.out⟩
end Go.Proofs.YtlnccofanicihaaDoor.Gf
