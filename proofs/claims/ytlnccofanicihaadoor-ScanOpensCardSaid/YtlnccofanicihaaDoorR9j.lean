/- What is proved here: the contract of the laws' small. No condition. -/
import Derived.Test.YtlnccofanicihaaDoorR9g
namespace Go.Proofs.YtlnccofanicihaaDoor.Gf
open Go Go.Joins Go.ChangeShapes Go.WideShapes Go.ChangeAt Go.RowKit Go.Deep Go.Proofs.YtlnccofanicihaaDoor.By Go.Proofs.YtlnccofanicihaaDoor.Crc Go.Proofs.YtlnccofanicihaaDoor.Qt

/-- What small makes of a needle, and of a list. -/
def smN (x : Ndl) : Ndl := ⟨if 1000 < x.key then x.key % 8 else x.key, x.cookie, x.del, if x.del then [] else x.data.take 60⟩
def smL (L : List Ndl) : List Ndl := (L.take 12).map smN
theorem smL_length (L : List Ndl) : (smL L).length ≤ 12 := by
  unfold smL
  rw [List.length_map, List.length_take]
  omega
theorem and7 (x : Nat) (hx : x < 18446744073709551616) : bits .and .u64 (x : Int) 7 = ((x % 8 : Nat) : Int) := by
  have e1 : (BitVec.ofInt 64 (x : Int)).toNat = x := by rw [BitVec.toNat_ofInt]; omega
  have e2 : (BitVec.ofInt 64 (7 : Int)).toNat = 7 := rfl
  have h := Nat.and_two_pow_sub_one_eq_mod x 3
  have e3 : (BitVec.ofInt 64 (x : Int) &&& BitVec.ofInt 64 7).toNat = x % 8 := by rw [BitVec.toNat_and, e1, e2]; exact h
  show IntKind.u64.wrap ((BitVec.ofInt 64 (x : Int) &&& BitVec.ofInt 64 7).toNat : Int) = _
  rw [e3]
  show ((x % 8 : Nat) : Int) % 18446744073709551616 = _
  omega
/-- A call that answers needles. -/
def GNO (w : World) (R : List Ndl) (e : Ending) (w' : World) : Prop := (∃ v, e = .returned v ∧ Ns w' v R) ∧ Below w.heap.size w w'
set_option maxRecDepth 100000 in
set_option maxHeartbeats 12800000 in
theorem small_any (v : Value) (L : List Ndl) (w : World) (s : Ns w v L) : Calls Tryd.prog 11 #[v] w (GNO w (smL L)) := by
  obtain ⟨al, cl, hv, hc1, hc2⟩ := ns_form s
  obtain ⟨n, hn⟩ : ∃ n, n = L.length := ⟨_, rfl⟩
  rw [← hn] at hv hc1
  subst hv
  have S := Lib.hid s
  have N := Lib.hid hn
  have HC := Lib.hid (Nat.le_trans hc1 hc2)
  clear s hn hc1 hc2
  go_enter Tryd.func11, Tryd.ntmps11
  go_wp2_with fail
  go_loopw [3, 4] (fun out t wr => ∃ i : Nat, i ≤ n ∧ i ≤ 12 ∧ t = .int .i64 (i : Int) ∧ Hid (OwN w.heap.size wr w.heap.size out ((L.take i).map smN)) ∧ Hid (Below w.heap.size w wr)) (fun _ t _ => 12 - (intOf t).toNat)
  case atStart => exact ⟨0, by omega, by omega, rfl, owN_nil _ _ _, Below.refl _ _⟩
  case round =>
    obtain ⟨i, hi, hi2, rfl, HO, HB⟩ := hrel
    by_cases hin : i < n
    · have l1 : decide ((i : Int) < (n : Int)) = true := decide_eq_true (by omega)
      by_cases h12 : i < 12
      · have l2 : decide ((i : Int) < 12) = true := decide_eq_true (by omega)
        have p0 : (0 : Int) ≤ (i : Int) := by omega
        have p1 : (i : Int) < (n : Int) := by omega
        have N' := N.out
        obtain ⟨b1, o1, c1', hv1, -, -, hk1⟩ := ns_cells S.out (by omega)
        obtain ⟨rfl, -, -⟩ : al = some ⟨b1, o1, none⟩ ∧ n = L.length ∧ cl = c1' := by simpa using hv1
        obtain ⟨d, C0⟩ := hk1 i (by omega)
        have sd0 := C0.sl
        obtain ⟨f0, f1, f2, f3, okr, -⟩ := C0.below HB.out
        have hs2 : (L.take (i + 1)).map smN = (L.take i).map smN ++ [smN (L.getD i nd0)] := by rw [take_snocN (by omega), List.map_append]; rfl
        have hle : ((L.take i).map smN).length ≤ 100 := by rw [List.length_map, List.length_take]; omega
        generalize (L.take i).map smN = D at *
        generalize L.getD i nd0 = x at *
        obtain ⟨key, ck, del, data⟩ := x
        dsimp only at f0 f1 f2 f3 okr sd0
        rw [show smN ⟨key, ck, del, data⟩ = ⟨if 1000 < key then key % 8 else key, ck, del, if del then [] else data.take 60⟩ from rfl] at hs2
        obtain ⟨ad, cd, rfl, hnc, hcm⟩ := sl_form sd0
        have KEY := Lib.hid okr.key
        have CK := Lib.hid okr.ck
        have SD := Lib.hid sd0
        have SNIL := Lib.hid (sl_nil w)
        have S60 := Lib.hid (fun (h : 60 ≤ data.length) => sl_take sd0 h)
        have HT := Lib.hid (fun (h : ¬ 60 < data.length) => (List.take_of_length_le (Nat.le_of_not_lt h) : data.take 60 = data))
        have HLM : Hid (D.length ≤ 100000000) := Nat.le_trans hle (by omega)
        have A7 := and7 key okr.key
        obtain ⟨nd, hnd⟩ : ∃ z, z = data.length := ⟨_, rfl⟩
        rw [← hnd] at f3 SD S60 HT hnc
        obtain ⟨ao, co, rfl, -, -⟩ := owN_form HO.out
        obtain ⟨m, hm⟩ : ∃ z, z = D.length := ⟨_, rfl⟩
        rw [← hm] at HO ⊢
        clear C0 hk1 hv1 N' okr sd0 hle hnd hm hcm
        by_cases hbig : 60 < nd
        · have g60 : decide ((nd : Int) > 60) = true := decide_eq_true (by omega)
          have g60' : decide (60 < (nd : Int)) = true := decide_eq_true (by omega)
          have q60 : 60 ≤ cd := by omega
          have q60' : (60 : Int) ≤ (cd : Int) := by omega
          cases del
          · by_cases hky : 1000 < key
            · have gk : decide (1000 < (key : Int)) = true := decide_eq_true (by omega)
              have HS : Hid ((L.take (i + 1)).map smN = D ++ [⟨key % 8, ck, false, data.take 60⟩]) := Lib.hid (by rw [hs2]; simp [hky])
              have HBIG := Lib.hid hbig
              have HKY := Lib.hid hky
              have HA := Lib.hid (b2' wr (.cells #[.int .u64 ((key % 8 : Nat) : Int), .int .u32 (ck : Int), .bool false, .slice ad 60 cd] 56) (.cells #[.int .u64 ((key % 8 : Nat) : Int), .int .u32 (ck : Int), .bool false, .slice ad 60 cd] 56))
              have HN := Lib.hid (heap_alloc2_new wr (.cells #[.int .u64 ((key % 8 : Nat) : Int), .int .u32 (ck : Int), .bool false, .slice ad 60 cd] 56) (.cells #[.int .u64 ((key % 8 : Nat) : Int), .int .u32 (ck : Int), .bool false, .slice ad 60 cd] 56))
              have HOA := Lib.hid (owN_below HO.out HA.out)
              have HBA := Lib.hid (bt HB.out HA.out)
              have HKP := Lib.hid (show KpB w.heap.size ((wr.alloc (.cells #[.int .u64 ((key % 8 : Nat) : Int), .int .u32 (ck : Int), .bool false, .slice ad 60 cd] 56)).alloc (.cells #[.int .u64 ((key % 8 : Nat) : Int), .int .u32 (ck : Int), .bool false, .slice ad 60 cd] 56)) w.heap.size (.slice ad 60 cd) (data.take 60) from Or.inr ⟨w, Nat.le_refl _, HBA.out, S60.out (by have := HBIG.out; omega)⟩)
              have HOK : Hid (NvOk ⟨⟨key % 8, ck, false, data.take 60⟩, .slice ad 60 cd⟩) := Lib.hid ⟨by have := KEY.out; show key % 8 < _; omega, CK.out, _, _, _, rfl⟩
              clear hs2 hky hbig HT S60 SD SNIL
              go_wp2_with (at_builtin; refine app_nd (dst := some 41) (base := w.heap.size) (g := wr.heap.size + 1) (r := ⟨key % 8, ck, false, data.take 60⟩) ?_ ?_ HOA.out HN.out HKP.out HOK.out HLM.out HBA.out.size (Nat.le_refl _) ?_; exact rfl; exact rfl; intro v5 w5 ho5 hg5; have B5 := Lib.hid (below_grownN HBA.out hg5 HOA.out HBA.out.size (Nat.le_refl _)); have HO5 := Lib.hid ho5; clear ho5 hg5)
              go_roundw
              case rel => exact ⟨i + 1, by omega, by omega, by go_num, by show OwN _ _ _ _ _; rw [HS.out]; exact HO5.out, B5⟩
              case measure => simp [intOf]; omega
            · have gk : decide (1000 < (key : Int)) = false := decide_eq_false (by omega)
              have HS : Hid ((L.take (i + 1)).map smN = D ++ [⟨key, ck, false, data.take 60⟩]) := Lib.hid (by rw [hs2]; simp [hky])
              have HBIG := Lib.hid hbig
              have HKY := Lib.hid hky
              have HA := Lib.hid (b2' wr (.cells #[.int .u64 (key : Int), .int .u32 (ck : Int), .bool false, .slice ad 60 cd] 56) (.cells #[.int .u64 (key : Int), .int .u32 (ck : Int), .bool false, .slice ad 60 cd] 56))
              have HN := Lib.hid (heap_alloc2_new wr (.cells #[.int .u64 (key : Int), .int .u32 (ck : Int), .bool false, .slice ad 60 cd] 56) (.cells #[.int .u64 (key : Int), .int .u32 (ck : Int), .bool false, .slice ad 60 cd] 56))
              have HOA := Lib.hid (owN_below HO.out HA.out)
              have HBA := Lib.hid (bt HB.out HA.out)
              have HKP := Lib.hid (show KpB w.heap.size ((wr.alloc (.cells #[.int .u64 (key : Int), .int .u32 (ck : Int), .bool false, .slice ad 60 cd] 56)).alloc (.cells #[.int .u64 (key : Int), .int .u32 (ck : Int), .bool false, .slice ad 60 cd] 56)) w.heap.size (.slice ad 60 cd) (data.take 60) from Or.inr ⟨w, Nat.le_refl _, HBA.out, S60.out (by have := HBIG.out; omega)⟩)
              have HOK : Hid (NvOk ⟨⟨key, ck, false, data.take 60⟩, .slice ad 60 cd⟩) := Lib.hid ⟨by have := KEY.out; exact this, CK.out, _, _, _, rfl⟩
              clear hs2 hky hbig HT S60 SD SNIL
              go_wp2_with (at_builtin; refine app_nd (dst := some 41) (base := w.heap.size) (g := wr.heap.size + 1) (r := ⟨key, ck, false, data.take 60⟩) ?_ ?_ HOA.out HN.out HKP.out HOK.out HLM.out HBA.out.size (Nat.le_refl _) ?_; exact rfl; exact rfl; intro v5 w5 ho5 hg5; have B5 := Lib.hid (below_grownN HBA.out hg5 HOA.out HBA.out.size (Nat.le_refl _)); have HO5 := Lib.hid ho5; clear ho5 hg5)
              go_roundw
              case rel => exact ⟨i + 1, by omega, by omega, by go_num, by show OwN _ _ _ _ _; rw [HS.out]; exact HO5.out, B5⟩
              case measure => simp [intOf]; omega
          · by_cases hky : 1000 < key
            · have gk : decide (1000 < (key : Int)) = true := decide_eq_true (by omega)
              have HS : Hid ((L.take (i + 1)).map smN = D ++ [⟨key % 8, ck, true, []⟩]) := Lib.hid (by rw [hs2]; simp [hky])
              have HBIG := Lib.hid hbig
              have HKY := Lib.hid hky
              have HA := Lib.hid (b2' wr (.cells #[.int .u64 ((key % 8 : Nat) : Int), .int .u32 (ck : Int), .bool true, .slice none 0 0] 56) (.cells #[.int .u64 ((key % 8 : Nat) : Int), .int .u32 (ck : Int), .bool true, .slice none 0 0] 56))
              have HN := Lib.hid (heap_alloc2_new wr (.cells #[.int .u64 ((key % 8 : Nat) : Int), .int .u32 (ck : Int), .bool true, .slice none 0 0] 56) (.cells #[.int .u64 ((key % 8 : Nat) : Int), .int .u32 (ck : Int), .bool true, .slice none 0 0] 56))
              have HOA := Lib.hid (owN_below HO.out HA.out)
              have HBA := Lib.hid (bt HB.out HA.out)
              have HKP := Lib.hid (show KpB w.heap.size ((wr.alloc (.cells #[.int .u64 ((key % 8 : Nat) : Int), .int .u32 (ck : Int), .bool true, .slice none 0 0] 56)).alloc (.cells #[.int .u64 ((key % 8 : Nat) : Int), .int .u32 (ck : Int), .bool true, .slice none 0 0] 56)) w.heap.size (.slice none 0 0) ([]) from Or.inr ⟨w, Nat.le_refl _, HBA.out, SNIL.out⟩)
              have HOK : Hid (NvOk ⟨⟨key % 8, ck, true, []⟩, .slice none 0 0⟩) := Lib.hid ⟨by have := KEY.out; show key % 8 < _; omega, CK.out, _, _, _, rfl⟩
              clear hs2 hky hbig HT S60 SD SNIL
              go_wp2_with (at_builtin; refine app_nd (dst := some 41) (base := w.heap.size) (g := wr.heap.size + 1) (r := ⟨key % 8, ck, true, []⟩) ?_ ?_ HOA.out HN.out HKP.out HOK.out HLM.out HBA.out.size (Nat.le_refl _) ?_; exact rfl; exact rfl; intro v5 w5 ho5 hg5; have B5 := Lib.hid (below_grownN HBA.out hg5 HOA.out HBA.out.size (Nat.le_refl _)); have HO5 := Lib.hid ho5; clear ho5 hg5)
              go_roundw
              case rel => exact ⟨i + 1, by omega, by omega, by go_num, by show OwN _ _ _ _ _; rw [HS.out]; exact HO5.out, B5⟩
              case measure => simp [intOf]; omega
            · have gk : decide (1000 < (key : Int)) = false := decide_eq_false (by omega)
              have HS : Hid ((L.take (i + 1)).map smN = D ++ [⟨key, ck, true, []⟩]) := Lib.hid (by rw [hs2]; simp [hky])
              have HBIG := Lib.hid hbig
              have HKY := Lib.hid hky
              have HA := Lib.hid (b2' wr (.cells #[.int .u64 (key : Int), .int .u32 (ck : Int), .bool true, .slice none 0 0] 56) (.cells #[.int .u64 (key : Int), .int .u32 (ck : Int), .bool true, .slice none 0 0] 56))
              have HN := Lib.hid (heap_alloc2_new wr (.cells #[.int .u64 (key : Int), .int .u32 (ck : Int), .bool true, .slice none 0 0] 56) (.cells #[.int .u64 (key : Int), .int .u32 (ck : Int), .bool true, .slice none 0 0] 56))
              have HOA := Lib.hid (owN_below HO.out HA.out)
              have HBA := Lib.hid (bt HB.out HA.out)
              have HKP := Lib.hid (show KpB w.heap.size ((wr.alloc (.cells #[.int .u64 (key : Int), .int .u32 (ck : Int), .bool true, .slice none 0 0] 56)).alloc (.cells #[.int .u64 (key : Int), .int .u32 (ck : Int), .bool true, .slice none 0 0] 56)) w.heap.size (.slice none 0 0) ([]) from Or.inr ⟨w, Nat.le_refl _, HBA.out, SNIL.out⟩)
              have HOK : Hid (NvOk ⟨⟨key, ck, true, []⟩, .slice none 0 0⟩) := Lib.hid ⟨by have := KEY.out; exact this, CK.out, _, _, _, rfl⟩
              clear hs2 hky hbig HT S60 SD SNIL
              go_wp2_with (at_builtin; refine app_nd (dst := some 41) (base := w.heap.size) (g := wr.heap.size + 1) (r := ⟨key, ck, true, []⟩) ?_ ?_ HOA.out HN.out HKP.out HOK.out HLM.out HBA.out.size (Nat.le_refl _) ?_; exact rfl; exact rfl; intro v5 w5 ho5 hg5; have B5 := Lib.hid (below_grownN HBA.out hg5 HOA.out HBA.out.size (Nat.le_refl _)); have HO5 := Lib.hid ho5; clear ho5 hg5)
              go_roundw
              case rel => exact ⟨i + 1, by omega, by omega, by go_num, by show OwN _ _ _ _ _; rw [HS.out]; exact HO5.out, B5⟩
              case measure => simp [intOf]; omega
        · have g60 : decide ((nd : Int) > 60) = false := decide_eq_false (by omega)
          have g60' : decide (60 < (nd : Int)) = false := decide_eq_false (by omega)
          cases del
          · by_cases hky : 1000 < key
            · have gk : decide (1000 < (key : Int)) = true := decide_eq_true (by omega)
              have HS : Hid ((L.take (i + 1)).map smN = D ++ [⟨key % 8, ck, false, data⟩]) := Lib.hid (by rw [hs2]; simp [hky, HT.out hbig])
              have HBIG := Lib.hid hbig
              have HKY := Lib.hid hky
              have HA := Lib.hid (b2' wr (.cells #[.int .u64 ((key % 8 : Nat) : Int), .int .u32 (ck : Int), .bool false, .slice ad nd cd] 56) (.cells #[.int .u64 ((key % 8 : Nat) : Int), .int .u32 (ck : Int), .bool false, .slice ad nd cd] 56))
              have HN := Lib.hid (heap_alloc2_new wr (.cells #[.int .u64 ((key % 8 : Nat) : Int), .int .u32 (ck : Int), .bool false, .slice ad nd cd] 56) (.cells #[.int .u64 ((key % 8 : Nat) : Int), .int .u32 (ck : Int), .bool false, .slice ad nd cd] 56))
              have HOA := Lib.hid (owN_below HO.out HA.out)
              have HBA := Lib.hid (bt HB.out HA.out)
              have HKP := Lib.hid (show KpB w.heap.size ((wr.alloc (.cells #[.int .u64 ((key % 8 : Nat) : Int), .int .u32 (ck : Int), .bool false, .slice ad nd cd] 56)).alloc (.cells #[.int .u64 ((key % 8 : Nat) : Int), .int .u32 (ck : Int), .bool false, .slice ad nd cd] 56)) w.heap.size (.slice ad nd cd) (data) from Or.inr ⟨w, Nat.le_refl _, HBA.out, SD.out⟩)
              have HOK : Hid (NvOk ⟨⟨key % 8, ck, false, data⟩, .slice ad nd cd⟩) := Lib.hid ⟨by have := KEY.out; show key % 8 < _; omega, CK.out, _, _, _, rfl⟩
              clear hs2 hky hbig HT S60 SD SNIL
              go_wp2_with (at_builtin; refine app_nd (dst := some 41) (base := w.heap.size) (g := wr.heap.size + 1) (r := ⟨key % 8, ck, false, data⟩) ?_ ?_ HOA.out HN.out HKP.out HOK.out HLM.out HBA.out.size (Nat.le_refl _) ?_; exact rfl; exact rfl; intro v5 w5 ho5 hg5; have B5 := Lib.hid (below_grownN HBA.out hg5 HOA.out HBA.out.size (Nat.le_refl _)); have HO5 := Lib.hid ho5; clear ho5 hg5)
              go_roundw
              case rel => exact ⟨i + 1, by omega, by omega, by go_num, by show OwN _ _ _ _ _; rw [HS.out]; exact HO5.out, B5⟩
              case measure => simp [intOf]; omega
            · have gk : decide (1000 < (key : Int)) = false := decide_eq_false (by omega)
              have HS : Hid ((L.take (i + 1)).map smN = D ++ [⟨key, ck, false, data⟩]) := Lib.hid (by rw [hs2]; simp [hky, HT.out hbig])
              have HBIG := Lib.hid hbig
              have HKY := Lib.hid hky
              have HA := Lib.hid (b2' wr (.cells #[.int .u64 (key : Int), .int .u32 (ck : Int), .bool false, .slice ad nd cd] 56) (.cells #[.int .u64 (key : Int), .int .u32 (ck : Int), .bool false, .slice ad nd cd] 56))
              have HN := Lib.hid (heap_alloc2_new wr (.cells #[.int .u64 (key : Int), .int .u32 (ck : Int), .bool false, .slice ad nd cd] 56) (.cells #[.int .u64 (key : Int), .int .u32 (ck : Int), .bool false, .slice ad nd cd] 56))
              have HOA := Lib.hid (owN_below HO.out HA.out)
              have HBA := Lib.hid (bt HB.out HA.out)
              have HKP := Lib.hid (show KpB w.heap.size ((wr.alloc (.cells #[.int .u64 (key : Int), .int .u32 (ck : Int), .bool false, .slice ad nd cd] 56)).alloc (.cells #[.int .u64 (key : Int), .int .u32 (ck : Int), .bool false, .slice ad nd cd] 56)) w.heap.size (.slice ad nd cd) (data) from Or.inr ⟨w, Nat.le_refl _, HBA.out, SD.out⟩)
              have HOK : Hid (NvOk ⟨⟨key, ck, false, data⟩, .slice ad nd cd⟩) := Lib.hid ⟨by have := KEY.out; exact this, CK.out, _, _, _, rfl⟩
              clear hs2 hky hbig HT S60 SD SNIL
              go_wp2_with (at_builtin; refine app_nd (dst := some 41) (base := w.heap.size) (g := wr.heap.size + 1) (r := ⟨key, ck, false, data⟩) ?_ ?_ HOA.out HN.out HKP.out HOK.out HLM.out HBA.out.size (Nat.le_refl _) ?_; exact rfl; exact rfl; intro v5 w5 ho5 hg5; have B5 := Lib.hid (below_grownN HBA.out hg5 HOA.out HBA.out.size (Nat.le_refl _)); have HO5 := Lib.hid ho5; clear ho5 hg5)
              go_roundw
              case rel => exact ⟨i + 1, by omega, by omega, by go_num, by show OwN _ _ _ _ _; rw [HS.out]; exact HO5.out, B5⟩
              case measure => simp [intOf]; omega
          · by_cases hky : 1000 < key
            · have gk : decide (1000 < (key : Int)) = true := decide_eq_true (by omega)
              have HS : Hid ((L.take (i + 1)).map smN = D ++ [⟨key % 8, ck, true, []⟩]) := Lib.hid (by rw [hs2]; simp [hky])
              have HBIG := Lib.hid hbig
              have HKY := Lib.hid hky
              have HA := Lib.hid (b2' wr (.cells #[.int .u64 ((key % 8 : Nat) : Int), .int .u32 (ck : Int), .bool true, .slice none 0 0] 56) (.cells #[.int .u64 ((key % 8 : Nat) : Int), .int .u32 (ck : Int), .bool true, .slice none 0 0] 56))
              have HN := Lib.hid (heap_alloc2_new wr (.cells #[.int .u64 ((key % 8 : Nat) : Int), .int .u32 (ck : Int), .bool true, .slice none 0 0] 56) (.cells #[.int .u64 ((key % 8 : Nat) : Int), .int .u32 (ck : Int), .bool true, .slice none 0 0] 56))
              have HOA := Lib.hid (owN_below HO.out HA.out)
              have HBA := Lib.hid (bt HB.out HA.out)
              have HKP := Lib.hid (show KpB w.heap.size ((wr.alloc (.cells #[.int .u64 ((key % 8 : Nat) : Int), .int .u32 (ck : Int), .bool true, .slice none 0 0] 56)).alloc (.cells #[.int .u64 ((key % 8 : Nat) : Int), .int .u32 (ck : Int), .bool true, .slice none 0 0] 56)) w.heap.size (.slice none 0 0) ([]) from Or.inr ⟨w, Nat.le_refl _, HBA.out, SNIL.out⟩)
              have HOK : Hid (NvOk ⟨⟨key % 8, ck, true, []⟩, .slice none 0 0⟩) := Lib.hid ⟨by have := KEY.out; show key % 8 < _; omega, CK.out, _, _, _, rfl⟩
              clear hs2 hky hbig HT S60 SD SNIL
              go_wp2_with (at_builtin; refine app_nd (dst := some 41) (base := w.heap.size) (g := wr.heap.size + 1) (r := ⟨key % 8, ck, true, []⟩) ?_ ?_ HOA.out HN.out HKP.out HOK.out HLM.out HBA.out.size (Nat.le_refl _) ?_; exact rfl; exact rfl; intro v5 w5 ho5 hg5; have B5 := Lib.hid (below_grownN HBA.out hg5 HOA.out HBA.out.size (Nat.le_refl _)); have HO5 := Lib.hid ho5; clear ho5 hg5)
              go_roundw
              case rel => exact ⟨i + 1, by omega, by omega, by go_num, by show OwN _ _ _ _ _; rw [HS.out]; exact HO5.out, B5⟩
              case measure => simp [intOf]; omega
            · have gk : decide (1000 < (key : Int)) = false := decide_eq_false (by omega)
              have HS : Hid ((L.take (i + 1)).map smN = D ++ [⟨key, ck, true, []⟩]) := Lib.hid (by rw [hs2]; simp [hky])
              have HBIG := Lib.hid hbig
              have HKY := Lib.hid hky
              have HA := Lib.hid (b2' wr (.cells #[.int .u64 (key : Int), .int .u32 (ck : Int), .bool true, .slice none 0 0] 56) (.cells #[.int .u64 (key : Int), .int .u32 (ck : Int), .bool true, .slice none 0 0] 56))
              have HN := Lib.hid (heap_alloc2_new wr (.cells #[.int .u64 (key : Int), .int .u32 (ck : Int), .bool true, .slice none 0 0] 56) (.cells #[.int .u64 (key : Int), .int .u32 (ck : Int), .bool true, .slice none 0 0] 56))
              have HOA := Lib.hid (owN_below HO.out HA.out)
              have HBA := Lib.hid (bt HB.out HA.out)
              have HKP := Lib.hid (show KpB w.heap.size ((wr.alloc (.cells #[.int .u64 (key : Int), .int .u32 (ck : Int), .bool true, .slice none 0 0] 56)).alloc (.cells #[.int .u64 (key : Int), .int .u32 (ck : Int), .bool true, .slice none 0 0] 56)) w.heap.size (.slice none 0 0) ([]) from Or.inr ⟨w, Nat.le_refl _, HBA.out, SNIL.out⟩)
              have HOK : Hid (NvOk ⟨⟨key, ck, true, []⟩, .slice none 0 0⟩) := Lib.hid ⟨by have := KEY.out; exact this, CK.out, _, _, _, rfl⟩
              clear hs2 hky hbig HT S60 SD SNIL
              go_wp2_with (at_builtin; refine app_nd (dst := some 41) (base := w.heap.size) (g := wr.heap.size + 1) (r := ⟨key, ck, true, []⟩) ?_ ?_ HOA.out HN.out HKP.out HOK.out HLM.out HBA.out.size (Nat.le_refl _) ?_; exact rfl; exact rfl; intro v5 w5 ho5 hg5; have B5 := Lib.hid (below_grownN HBA.out hg5 HOA.out HBA.out.size (Nat.le_refl _)); have HO5 := Lib.hid ho5; clear ho5 hg5)
              go_roundw
              case rel => exact ⟨i + 1, by omega, by omega, by go_num, by show OwN _ _ _ _ _; rw [HS.out]; exact HO5.out, B5⟩
              case measure => simp [intOf]; omega
      · have l2 : decide ((i : Int) < 12) = false := decide_eq_false (by omega)
        obtain rfl : i = 12 := by omega
        obtain ⟨ao, co, rfl, -, -⟩ := owN_form HO.out
        generalize (List.map smN (List.take 12 L)).length = m at *
        go_wp2
        go_ret
        exact ⟨⟨_, rfl, owN_rs HO.out⟩, HB.out⟩
    · obtain rfl : i = n := by omega
      have l1 : decide ((i : Int) < (i : Int)) = false := decide_eq_false (by omega)
      have ht : L.take i = L.take 12 := by rw [List.take_of_length_le (by rw [N.out]; exact Nat.le_refl _), List.take_of_length_le (by rw [← N.out]; omega)]
      rw [ht] at HO
      obtain ⟨ao, co, rfl, -, -⟩ := owN_form HO.out
      generalize (List.map smN (List.take 12 L)).length = m at *
      clear ht
      go_wp2
      go_ret
      exact ⟨⟨_, rfl, owN_rs HO.out⟩, HB.out⟩
end Go.Proofs.YtlnccofanicihaaDoor.Gf
