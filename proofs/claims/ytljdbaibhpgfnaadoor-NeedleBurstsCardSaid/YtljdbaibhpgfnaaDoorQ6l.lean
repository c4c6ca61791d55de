/- What is proved here: the walk of the law NeedleBursts, over what it asks of the program. No condition. -/
import Derived.Test.YtljdbaibhpgfnaaDoorQ6k
import Derived.Test.YtljdbaibhpgfnaaDoorMath3
namespace Go.Proofs.YtljdbaibhpgfnaaDoor.Gf
open Go Go.Joins Go.ChangeShapes Go.WideShapes Go.ChangeAt Go.RowKit Go.Deep Go.Proofs.YtljdbaibhpgfnaaDoor.By Go.Proofs.YtljdbaibhpgfnaaDoor.Crc Go.Proofs.YtljdbaibhpgfnaaDoor.Qt

/-- One bit of the pattern. -/
theorem and1_shift (f i : Nat) (hf : f < 4294967296) : bits .and .u32 ((f : Int) / 2 ^ i) 1 = ((f / 2 ^ i % 2 : Nat) : Int) := by
  have e : ((f : Int) / 2 ^ i) = ((f / 2 ^ i : Nat) : Int) := by simp
  have h := Nat.div_le_self f (2 ^ i)
  rw [e, and1 _ (by omega)]
theorem xor_lt8 {y z : Nat} (hy : y < 256) (hz : z < 256) : y ^^^ z < 256 := Nat.xor_lt_two_pow (n := 8) hy hz
theorem own_capl {w : World} {base g n c : Nat} {l : List Nat} (h : Own w base (.slice (some ⟨g, 0, none⟩) n c) l) : l.length ≤ c ∧ c ≤ maxLen := by
  obtain ⟨_, _, ⟨h0, _⟩ | ⟨g', cap, _, h0, _, _, h1, h2, _⟩⟩ := h
  · cases h0
  · cases h0
    exact ⟨h1, h2⟩
theorem own_cells {w : World} {base g n c : Nat} {M : List Nat} (h : Own w base (.slice (some ⟨g, 0, none⟩) n c) M) (hM : M.length = n) : ∀ k, k < n → w.cell? ⟨g, 0 + k, none⟩ = some (.int .u8 ((M.getD k 0 : Nat) : Int)) := fun k hk => by
  rw [Nat.zero_add]
  exact (own_cell h hM hk).1
set_option maxRecDepth 100000 in
set_option maxHeartbeats 6400000 in
theorem bursts6_walk {Ok : World → Prop} (P : PC6 Ok) (v : Value) (x : Ndl) (n0 : Int) (_hn : I64b n0) (flip : Nat) (hf : flip < 4294967296) (w : World) (hw : Ok w) (h : Nd w v x) : Calls Tryd.prog 8 #[v, .int .i64 n0, .int .u32 (flip : Int)] w fun e w' => e = .returned (.bool true) ∧ Below w.heap.size w w' := by
  have PD := Lib.hid P.dec
  have PE := Lib.hid P.enc
  have ST := Lib.hid (fun (W W' : World) => P.st (w := W) (w' := W'))
  have AW := Lib.hid (awake6_any P)
  clear P
  have HN := Lib.hid (fun W (hB : Below w.heap.size w W) => nd_below h hB)
  obtain ⟨s, rfl, -, -, h3⟩ := h
  obtain ⟨sa, sc, rfl, -, -⟩ := sl_form h3
  clear h3
  generalize x.data.length = xn at *
  have HFL := Lib.hid hf
  have B0 := Lib.hid ((Below.refl w.heap.size w).alloc (Nat.le_refl _) (.cells #[.int .u64 (x.key : Int), .int .u32 (x.cookie : Int), .bool x.del, .slice sa xn sc] 26))
  clear hf
  go_enter Tryd.func8, Tryd.ntmps8
  go_wp2_with fail
  refine (cut6_any _ x _ (HN.out _ B0.out)).mono ?_
  rintro e w1 ⟨⟨v1, rfl, hc⟩, hb1⟩
  have B1 := Lib.hid (bt B0.out hb1)
  clear hb1 B0
  go_wp2_with fail
  refine (PE.out v1 (cutN x) w1 (ST.out _ _ hw B1.out) hc).mono ?_
  have HO2 := Lib.hid (nd_ok hc)
  clear hc HN
  generalize cutN x = X at *
  rintro e w2 ⟨⟨s2, rfl, hs⟩, hb2⟩
  have B2 := Lib.hid (bt B1.out hb2)
  clear hb2 B1
  by_cases hE : encE X = 0
  · rw [show encL X = recL X by unfold encL; rw [if_pos hE]] at hs
    rw [hE]
    have HE := Lib.hid hE
    have hge := szR_ge X.data.length
    obtain ⟨R, hR⟩ : ∃ R, R = szR X.data.length := ⟨_, rfl⟩
    have hlen : (recL X).length = R := by rw [recL_length, hR]
    have hle : R ≤ 4128 := by
      have h1 := (enc_ok hE).1
      have h2 := szR_lt X.data.length
      omega
    rw [← hR] at hge
    obtain ⟨b, o, c, hv, hc1, hc2, hcc⟩ := sl_cells hs (by omega)
    rw [hlen] at hv hc1 hcc
    subst hv
    obtain ⟨A, hA⟩ : ∃ A, n0.tmod (8 * (R : Int)) = A := ⟨_, rfl⟩
    have hA1 : -(8 * (R : Int)) < A ∧ A < 8 * (R : Int) := by
      rw [← hA]
      have := Int.tmod_lt_of_pos n0 (b := 8 * (R : Int)) (by omega)
      have h2 := Int.lt_tmod_of_pos n0 (b := 8 * (R : Int)) (by omega)
      omega
    obtain ⟨K, hK, hKlt⟩ : ∃ K : Nat, (A + 8 * (R : Int)).tmod (8 * (R : Int)) = (K : Int) ∧ K < 8 * R := by
      have e : (A + 8 * (R : Int)).tmod (8 * (R : Int)) = (A + 8 * (R : Int)) % (8 * (R : Int)) := Int.tmod_eq_emod_of_nonneg (by omega)
      have e1 := Int.emod_nonneg (A + 8 * (R : Int)) (b := 8 * (R : Int)) (by omega)
      have e2 := Int.emod_lt_of_pos (A + 8 * (R : Int)) (b := 8 * (R : Int)) (by omega)
      rw [e]
      generalize (A + 8 * (R : Int)) % (8 * (R : Int)) = X at e1 e2
      exact ⟨X.toNat, by omega, by omega⟩
    have hA2 := hA1.1
    have hA3 := hA1.2
    have hne : (8 * (R : Int) == 0) = false := beq_false_of_ne (by omega)
    have g3 : decide ((R : Int) < 24) = false := decide_eq_false (by omega)
    have HCC := Lib.hid hcc
    have HS := Lib.hid hs
    have HL := Lib.hid (And.intro hlen (And.intro hle (And.intro (show 24 ≤ R by omega) (And.intro hc1 hc2))))
    have HP : Hid (0 < (recL X).length) := by show 0 < _; omega
    have HK := Lib.hid (And.intro hK hKlt)
    have OE := Lib.hid (own_empty w2 (Nat.le_refl w2.heap.size))
    have BE := Lib.hid ((Below.refl w2.heap.size w2).alloc (Nat.le_refl _) (.cells #[] 5))
    clear hs hE hR hlen hc1 hc2 hcc hA1 hKlt hge
    go_wp2_with (at_builtin; refine app_sl (dst := some 46) ?_ ?_ OE.out (sl_below HS.out BE.out) (by have := HL.out.1; have := HL.out.2.1; simp; omega) (by simp) ?_; exact rfl; exact rfl; intro v5 w5 ho5 hg5; rw [List.nil_append] at ho5; have B5 := Lib.hid (BE.out.grown hg5 BE.out.size fun q hq => by have := OE.out.lt q hq; omega); obtain ⟨g5, c5, hv5, -⟩ := own_pos ho5 HP.out; rw [HL.out.1] at hv5; subst hv5; have O5 := Lib.hid ho5; clear ho5 hg5)
    clear hA hK hne hA2 hA3 g3
    go_loopw [12] (fun i wr => ∃ (I : Nat) (M : List Nat), I ≤ 32 ∧ K + I ≤ 8 * R ∧ i = .int .i64 I ∧ M.length = R ∧ num M = num (recL X) ^^^ (flip % 2 ^ I) * 2 ^ K ∧ Own wr w2.heap.size (.slice (some ⟨g5, 0, none⟩) R c5) M ∧ Below w2.heap.size w2 wr) (fun i _ => 32 - (intOf i).toNat)
    case atStart => exact ⟨0, recL X, by omega, by have := HK.out.2; omega, rfl, HL.out.1, by simp [Nat.mod_one], O5.out, B5.out⟩
    case round =>
      obtain ⟨I, M, hI, hKI, rfl, hM, hnum, hO, hB⟩ := hrel
      have HN := Lib.hid hnum
      have HM := Lib.hid hM
      have HO := Lib.hid hO
      have hMl : ∀ b ∈ M, b < 256 := hO.1
      have HMl := Lib.hid hMl
      clear hnum hM hMl hO
      by_cases hlt : I < 32 ∧ K + I < 8 * R
      · obtain ⟨i1, i2⟩ := hlt
        have hql : (K + I) / 8 < R := by omega
        obtain ⟨hc, hfz, hbg⟩ := own_cell HO.out HM.out hql
        have hy := getD_lt HMl.out ((K + I) / 8)
        have b1 := and1_shift flip I HFL.out
        have hbt : flip / 2 ^ I % 2 < 2 := Nat.mod_lt _ (by decide)
        obtain ⟨bt, hbte⟩ : ∃ bt, bt = flip / 2 ^ I % 2 := ⟨_, rfl⟩
        obtain ⟨y, hye⟩ : ∃ y, y = M.getD ((K + I) / 8) 0 := ⟨_, rfl⟩
        rw [← hbte] at b1 hbt
        rw [← hye] at hc hy
        have HBT := Lib.hid hbte
        have HY := Lib.hid hye
        have hKb : K ≤ 40000 := by have := HK.out.2; have := HL.out.2.1; omega
        clear hbte hye
        go_wp2
        go_roundw
        case rel =>
          refine ⟨I + 1, M.set ((K + I) / 8) (M.getD ((K + I) / 8) 0 ^^^ flip / 2 ^ I % 2 * 2 ^ ((K + I) % 8)), by omega, by omega, by go_num, by simpa using HM.out, ?_, ?_, hB.setCell hbg _⟩
          · exact num_step M (num (recL X)) flip K I HMl.out (by rw [HM.out]; exact hql) HN.out
          · have e2 : 2 ^ ((K + I) % 8) ≤ 2 ^ 7 := Nat.pow_le_pow_right (by decide) (by omega)
            have e3 : bt * 2 ^ ((K + I) % 8) < 256 := by
              have := Nat.mul_le_mul (show bt ≤ 1 by omega) e2
              omega
            have e4 : ((bt : Int) * 2 ^ ((K + I) % 8) % 256) = ((bt * 2 ^ ((K + I) % 8) : Nat) : Int) := by
              have : ((bt : Int) * 2 ^ ((K + I) % 8)) = ((bt * 2 ^ ((K + I) % 8) : Nat) : Int) := by simp
              rw [this]
              generalize bt * 2 ^ ((K + I) % 8) = z at e3
              omega
            rw [e4, u8_xor_nat _ _ hy e3, HY.out, HBT.out]
            exact own_set HO.out HM.out hql (by rw [← HY.out, ← HBT.out]; exact xor_lt8 hy e3)
        case measure => simp [intOf]; omega
      · have hKb : K ≤ 40000 := by have := HK.out.2; have := HL.out.2.1; omega
        have HCB : Hid (∀ k, k < R → wr.cell? ⟨b, o + k, none⟩ = some (.int .u8 (((recL X).getD k 0 : Nat) : Int))) := fun k hk => (hB.cell (p := ⟨b, o + k, none⟩) (block_lt_of_cell (HCC.out k hk))).trans (HCC.out k hk)
        have HMl := Lib.hid HO.out.1
        have B4 := Lib.hid hB
        have HSM := Lib.hid HO.out.sl
        have HSB := Lib.hid (sl_below HS.out B4.out)
        obtain ⟨F, hF⟩ : ∃ F, F = flip % 2 ^ I := ⟨_, rfl⟩
        have HF : Hid (F < 4294967296) := by show F < _; rw [hF]; exact Nat.lt_of_le_of_lt (Nat.mod_le _ _) HFL.out
        rw [← hF] at HN
        clear hF hB
        have K1 := Lib.hid (fun W (hW : Below wr.heap.size wr W) => conv_sl (sl_below HSB.out hW))
        have K2 := Lib.hid (fun W (hW : Below wr.heap.size wr W) => conv_sl (sl_below HSM.out hW))
        have hex : (¬ I < 32) ∨ (I < 32 ∧ decide ((K : Int) + (I : Int) < 8 * (R : Int)) = false) := by
          by_cases h32 : I < 32
          · exact Or.inr ⟨h32, decide_eq_false (by omega)⟩
          · exact Or.inl h32
        clear hlt
        obtain ⟨bR, bM⟩ : (∃ bb, bb = ((strOf (recL X)).toList == (strOf M).toList)) ∧ True := ⟨⟨_, rfl⟩, trivial⟩
        clear bR bM
        have he1 := str_eq HSB.out.1 HSM.out.1
        by_cases heq : recL X = M
        · rw [decide_eq_true heq] at he1
          generalize strOf (recL X) = T1 at K1 he1
          generalize strOf M = T2 at K2 he1
          clear heq
          rcases hex with hx1 | ⟨hx1, hx2⟩
          all_goals
            go_wp2_with fail
            refine wp_onlyN ?_
            have B0' := Lib.hid (Below.refl wr.heap.size wr).drew
            refine wp_region_headsS (fun w' => Below wr.heap.size wr w') [] 14 (by kernel_rfl) (fun _ _ _ _ _ h => h.elim) (by kernel_rfl) (by rfl) (by rfl) B0'.out ?_
            simp only [pickOps, List.filterMap_nil]
            refine wpHeads_nil ?_
            refine wpAnyH_take (i := 0) (v := .slice (some ⟨b, o, none⟩) R c) rfl (by kernel_rfl) (by kernel_rfl) (by kernel_rfl) (fun _ _ _ h => h) (Or.inl ⟨by kernel_rfl, fun w' hw' => by go_simp⟩) B0'.out ?_
            refine wpAnyH_take (i := 2) (v := .slice (some ⟨g5, 0, none⟩) R c5) rfl (by kernel_rfl) (by kernel_rfl) (by kernel_rfl) (fun _ _ _ h => h) (Or.inl ⟨by kernel_rfl, fun w' hw' => by go_simp⟩) B0'.out ?_
            refine wpAnyH_take (i := 1) (v := .string T1) rfl (by kernel_rfl) (by kernel_rfl) (by kernel_rfl) (fun _ _ _ h => h) (Or.inl ⟨by kernel_rfl, fun w' hw' => by go_simp; rw [K1.out w' hw']; rfl⟩) B0'.out ?_
            refine wpAnyH_take (i := 3) (v := .string T2) rfl (by kernel_rfl) (by kernel_rfl) (by kernel_rfl) (fun _ _ _ h => h) (Or.inl ⟨by kernel_rfl, fun w' hw' => by go_simp; rw [K2.out w' hw']; rfl⟩) B0'.out ?_
            refine held_g 4 rfl (by kernel_rfl) (by kernel_rfl) fun K hK => ?_
            go_simp
            refine hK _ _ B0'.out ?_
            clear hK K
            refine held_g 5 rfl (by kernel_rfl) (by kernel_rfl) fun K hK => ?_
            go_simp
            refine hK _ _ B0'.out ?_
            clear hK K
            refine wpAnyH_take (i := 6) (v := undef) rfl (by kernel_rfl) (by kernel_rfl) (by kernel_rfl) (fun _ _ _ h => h) (Or.inr ⟨by kernel_rfl, rfl⟩) B0'.out ?_
            refine wpAnyH_take (i := 7) (v := undef) rfl (by kernel_rfl) (by kernel_rfl) (by kernel_rfl) (fun _ _ _ h => h) (Or.inr ⟨by kernel_rfl, rfl⟩) B0'.out ?_
            refine wpAnyH_take (i := 8) (v := undef) rfl (by kernel_rfl) (by kernel_rfl) (by kernel_rfl) (fun _ _ _ h => h) (Or.inr ⟨by kernel_rfl, rfl⟩) B0'.out ?_
            refine wpAnyH_take (i := 9) (v := undef) rfl (by kernel_rfl) (by kernel_rfl) (by kernel_rfl) (fun _ _ _ h => h) (Or.inr ⟨by kernel_rfl, rfl⟩) B0'.out ?_
            refine wpAnyH_take (i := 10) (v := undef) rfl (by kernel_rfl) (by kernel_rfl) (by kernel_rfl) (fun _ _ _ h => h) (Or.inr ⟨by kernel_rfl, rfl⟩) B0'.out ?_
            refine wpAnyH_take (i := 11) (v := undef) rfl (by kernel_rfl) (by kernel_rfl) (by kernel_rfl) (fun _ _ _ h => h) (Or.inr ⟨by kernel_rfl, rfl⟩) B0'.out ?_
            refine wpAnyH_take (i := 12) (v := undef) rfl (by kernel_rfl) (by kernel_rfl) (by kernel_rfl) (fun _ _ _ h => h) (Or.inr ⟨by kernel_rfl, rfl⟩) B0'.out ?_
            refine held_g 13 rfl (by kernel_rfl) (by kernel_rfl) fun K hK => ?_
            go_simp
            refine hK _ _ B0'.out ?_
            clear hK K
            refine wpAnyH_done (by kernel_rfl) ?_ _
            unfold onlyN
            dsimp only
            go_wp2_with fail
            refine (AW.out _ (ST.out _ _ hw (bt B2.out (B4.out.drew)))).mono ?_
            rintro e w6 ⟨rfl, hb6⟩
            have B6 := Lib.hid (bt (bt B2.out B4.out.drew) hb6)
            clear hb6
            go_wp2_with fail
            go_ret
            exact ⟨rfl, B6.out⟩
        · rw [decide_eq_false heq] at he1
          have S3 := Lib.hid (sl_cut (w := wr) (p := 16) (c := 4) HSB.out.1 HL.out.1 HL.out.2.2.2.2 HL.out.2.2.2.1 HCB.out (by have := HL.out.2.2.1; omega))
          have S4 := Lib.hid (sl_cut (w := wr) (p := 16) (c := 4) HSM.out.1 HM.out (own_capl HO.out).2 (by have h := (own_capl HO.out).1; rw [HM.out] at h; exact h) (own_cells HO.out HM.out) (by have := HL.out.2.2.1; omega))
          rw [Nat.zero_add] at S4
          have K3 := Lib.hid (fun W (hW : Below wr.heap.size wr W) => conv_sl (sl_below S3.out hW))
          have K4 := Lib.hid (fun W (hW : Below wr.heap.size wr W) => conv_sl (sl_below S4.out hW))
          have he2 := str_eq S3.out.1 S4.out.1
          have HC5 : Hid (R ≤ c5) := by have h := (own_capl HO.out).1; rw [HM.out] at h; exact h
          have q1 : (20 : Int) ≤ (c : Int) := by have := HL.out.2.2.2.1; have := HL.out.2.2.1; omega
          have q2 : (20 : Int) ≤ (c5 : Int) := by have := HC5.out; have := HL.out.2.2.1; omega
          have q3 : ¬ c = 16 := by omega
          have q4 : ¬ c5 = 16 := by omega
          by_cases hseg : ((recL X).drop 16).take 4 = (M.drop 16).take 4
          · rw [decide_eq_true hseg] at he2
            have hne0 : decE M ≠ 0 := fun h0 => heq (dec_burst HO2.out HE.out HMl.out (by rw [HM.out, HL.out.1]) HF.out HN.out hseg.symm h0).symm
            generalize strOf (recL X) = T1 at K1 he1
            generalize strOf M = T2 at K2 he1
            generalize strOf (((recL X).drop 16).take 4) = T3 at K3 he2
            generalize strOf ((M.drop 16).take 4) = T4 at K4 he2
            clear heq hseg S3 S4 HN
            rcases hex with hx1 | ⟨hx1, hx2⟩
            all_goals
              go_wp2_with fail
              refine wp_onlyN ?_
              have B0' := Lib.hid (Below.refl wr.heap.size wr).drew
              refine wp_region_headsS (fun w' => Below wr.heap.size wr w') [] 14 (by kernel_rfl) (fun _ _ _ _ _ h => h.elim) (by kernel_rfl) (by rfl) (by rfl) B0'.out ?_
              simp only [pickOps, List.filterMap_nil]
              refine wpHeads_nil ?_
              refine wpAnyH_take (i := 0) (v := .slice (some ⟨b, o, none⟩) R c) rfl (by kernel_rfl) (by kernel_rfl) (by kernel_rfl) (fun _ _ _ h => h) (Or.inl ⟨by kernel_rfl, fun w' hw' => by go_simp⟩) B0'.out ?_
              refine wpAnyH_take (i := 2) (v := .slice (some ⟨g5, 0, none⟩) R c5) rfl (by kernel_rfl) (by kernel_rfl) (by kernel_rfl) (fun _ _ _ h => h) (Or.inl ⟨by kernel_rfl, fun w' hw' => by go_simp⟩) B0'.out ?_
              refine wpAnyH_take (i := 1) (v := .string T1) rfl (by kernel_rfl) (by kernel_rfl) (by kernel_rfl) (fun _ _ _ h => h) (Or.inl ⟨by kernel_rfl, fun w' hw' => by go_simp; rw [K1.out w' hw']; rfl⟩) B0'.out ?_
              refine wpAnyH_take (i := 3) (v := .string T2) rfl (by kernel_rfl) (by kernel_rfl) (by kernel_rfl) (fun _ _ _ h => h) (Or.inl ⟨by kernel_rfl, fun w' hw' => by go_simp; rw [K2.out w' hw']; rfl⟩) B0'.out ?_
              refine held_g 4 rfl (by kernel_rfl) (by kernel_rfl) fun K hK => ?_
              go_simp
              refine hK _ _ B0'.out ?_
              clear hK K
              refine held_g 5 rfl (by kernel_rfl) (by kernel_rfl) fun K hK => ?_
              go_simp
              refine hK _ _ B0'.out ?_
              clear hK K
              refine wpAnyH_take (i := 6) (v := .slice (some ⟨b, o, none⟩) R c) rfl (by kernel_rfl) (by kernel_rfl) (by kernel_rfl) (fun _ _ _ h => h) (Or.inl ⟨by kernel_rfl, fun w' hw' => by go_simp⟩) B0'.out ?_
              refine wpAnyH_take (i := 9) (v := .slice (some ⟨g5, 0, none⟩) R c5) rfl (by kernel_rfl) (by kernel_rfl) (by kernel_rfl) (fun _ _ _ h => h) (Or.inl ⟨by kernel_rfl, fun w' hw' => by go_simp⟩) B0'.out ?_
              refine wpAnyH_take (i := 7) (v := .slice (some ⟨b, o + 16, none⟩) 4 (c - 16)) rfl (by kernel_rfl) (by kernel_rfl) (by kernel_rfl) (fun _ _ _ h => h) (Or.inl ⟨by kernel_rfl, fun w' hw' => by go_simp⟩) B0'.out ?_
              refine wpAnyH_take (i := 10) (v := .slice (some ⟨g5, 16, none⟩) 4 (c5 - 16)) rfl (by kernel_rfl) (by kernel_rfl) (by kernel_rfl) (fun _ _ _ h => h) (Or.inl ⟨by kernel_rfl, fun w' hw' => by go_simp⟩) B0'.out ?_
              refine wpAnyH_take (i := 8) (v := .string T3) rfl (by kernel_rfl) (by kernel_rfl) (by kernel_rfl) (fun _ _ _ h => h) (Or.inl ⟨by kernel_rfl, fun w' hw' => by go_simp; rw [K3.out w' hw']; rfl⟩) B0'.out ?_
              refine wpAnyH_take (i := 11) (v := .string T4) rfl (by kernel_rfl) (by kernel_rfl) (by kernel_rfl) (fun _ _ _ h => h) (Or.inl ⟨by kernel_rfl, fun w' hw' => by go_simp; rw [K4.out w' hw']; rfl⟩) B0'.out ?_
              refine held_g 12 rfl (by kernel_rfl) (by kernel_rfl) fun K hK => ?_
              go_simp
              refine hK _ _ B0'.out ?_
              clear hK K
              refine held_g 13 rfl (by kernel_rfl) (by kernel_rfl) fun K hK => ?_
              go_simp
              refine hK _ _ B0'.out ?_
              clear hK K
              refine wpAnyH_done (by kernel_rfl) ?_ _
              unfold onlyN
              dsimp only
              go_wp2_with fail
              refine (PD.out _ M _ (ST.out _ _ hw (bt B2.out B4.out.drew)) (sl_drew HSM.out)).mono ?_
              generalize decX M = Y
              generalize decN M = N
              generalize hE9 : decE M = E9 at *
              unfold ED
              rintro e w7 ⟨⟨v7, rfl, s7, rfl, -, -, hs7⟩, hb7⟩
              obtain ⟨a7, c7, rfl, -, -⟩ := sl_form hs7
              have B7 := Lib.hid (bt (bt (bt B2.out B4.out.drew) hb7) ((Below.refl w7.heap.size w7).alloc (Nat.le_refl _) (.cells #[.int .u64 (Y.key : Int), .int .u32 (Y.cookie : Int), .bool Y.del, .slice a7 Y.data.length c7] 26)))
              have g9 : ((E9 : Int) != 0) = true := bne_iff_ne.2 (by omega)
              clear hs7 hb7 hE9 hne0
              generalize Y.data.length = yn at *
              go_wp2_with fail
              refine (AW.out _ (ST.out _ _ hw B7.out)).mono ?_
              rintro e w8 ⟨rfl, hb8⟩
              have B8 := Lib.hid (bt B7.out hb8)
              clear hb8 B7
              go_wp2_with fail
              go_ret
              exact ⟨rfl, B8.out⟩
          · rw [decide_eq_false hseg] at he2
            generalize strOf (recL X) = T1 at K1 he1
            generalize strOf M = T2 at K2 he1
            generalize strOf (((recL X).drop 16).take 4) = T3 at K3 he2
            generalize strOf ((M.drop 16).take 4) = T4 at K4 he2
            clear heq hseg S3 S4 HN
            rcases hex with hx1 | ⟨hx1, hx2⟩
            all_goals
              go_wp2_with fail
              refine wp_onlyN ?_
              have B0' := Lib.hid (Below.refl wr.heap.size wr).drew
              refine wp_region_headsS (fun w' => Below wr.heap.size wr w') [] 14 (by kernel_rfl) (fun _ _ _ _ _ h => h.elim) (by kernel_rfl) (by rfl) (by rfl) B0'.out ?_
              simp only [pickOps, List.filterMap_nil]
              refine wpHeads_nil ?_
              refine wpAnyH_take (i := 0) (v := .slice (some ⟨b, o, none⟩) R c) rfl (by kernel_rfl) (by kernel_rfl) (by kernel_rfl) (fun _ _ _ h => h) (Or.inl ⟨by kernel_rfl, fun w' hw' => by go_simp⟩) B0'.out ?_
              refine wpAnyH_take (i := 2) (v := .slice (some ⟨g5, 0, none⟩) R c5) rfl (by kernel_rfl) (by kernel_rfl) (by kernel_rfl) (fun _ _ _ h => h) (Or.inl ⟨by kernel_rfl, fun w' hw' => by go_simp⟩) B0'.out ?_
              refine wpAnyH_take (i := 1) (v := .string T1) rfl (by kernel_rfl) (by kernel_rfl) (by kernel_rfl) (fun _ _ _ h => h) (Or.inl ⟨by kernel_rfl, fun w' hw' => by go_simp; rw [K1.out w' hw']; rfl⟩) B0'.out ?_
              refine wpAnyH_take (i := 3) (v := .string T2) rfl (by kernel_rfl) (by kernel_rfl) (by kernel_rfl) (fun _ _ _ h => h) (Or.inl ⟨by kernel_rfl, fun w' hw' => by go_simp; rw [K2.out w' hw']; rfl⟩) B0'.out ?_
              refine held_g 4 rfl (by kernel_rfl) (by kernel_rfl) fun K hK => ?_
              go_simp
              refine hK _ _ B0'.out ?_
              clear hK K
              refine held_g 5 rfl (by kernel_rfl) (by kernel_rfl) fun K hK => ?_
              go_simp
              refine hK _ _ B0'.out ?_
              clear hK K
              refine wpAnyH_take (i := 6) (v := .slice (some ⟨b, o, none⟩) R c) rfl (by kernel_rfl) (by kernel_rfl) (by kernel_rfl) (fun _ _ _ h => h) (Or.inl ⟨by kernel_rfl, fun w' hw' => by go_simp⟩) B0'.out ?_
              refine wpAnyH_take (i := 9) (v := .slice (some ⟨g5, 0, none⟩) R c5) rfl (by kernel_rfl) (by kernel_rfl) (by kernel_rfl) (fun _ _ _ h => h) (Or.inl ⟨by kernel_rfl, fun w' hw' => by go_simp⟩) B0'.out ?_
              refine wpAnyH_take (i := 7) (v := .slice (some ⟨b, o + 16, none⟩) 4 (c - 16)) rfl (by kernel_rfl) (by kernel_rfl) (by kernel_rfl) (fun _ _ _ h => h) (Or.inl ⟨by kernel_rfl, fun w' hw' => by go_simp⟩) B0'.out ?_
              refine wpAnyH_take (i := 10) (v := .slice (some ⟨g5, 16, none⟩) 4 (c5 - 16)) rfl (by kernel_rfl) (by kernel_rfl) (by kernel_rfl) (fun _ _ _ h => h) (Or.inl ⟨by kernel_rfl, fun w' hw' => by go_simp⟩) B0'.out ?_
              refine wpAnyH_take (i := 8) (v := .string T3) rfl (by kernel_rfl) (by kernel_rfl) (by kernel_rfl) (fun _ _ _ h => h) (Or.inl ⟨by kernel_rfl, fun w' hw' => by go_simp; rw [K3.out w' hw']; rfl⟩) B0'.out ?_
              refine wpAnyH_take (i := 11) (v := .string T4) rfl (by kernel_rfl) (by kernel_rfl) (by kernel_rfl) (fun _ _ _ h => h) (Or.inl ⟨by kernel_rfl, fun w' hw' => by go_simp; rw [K4.out w' hw']; rfl⟩) B0'.out ?_
              refine held_g 12 rfl (by kernel_rfl) (by kernel_rfl) fun K hK => ?_
              go_simp
              refine hK _ _ B0'.out ?_
              clear hK K
              refine held_g 13 rfl (by kernel_rfl) (by kernel_rfl) fun K hK => ?_
              go_simp
              refine hK _ _ B0'.out ?_
              clear hK K
              refine wpAnyH_done (by kernel_rfl) ?_ _
              unfold onlyN
              dsimp only
              go_wp2_with fail
              refine (AW.out _ (ST.out _ _ hw (bt B2.out (B4.out.drew)))).mono ?_
              rintro e w6 ⟨rfl, hb6⟩
              have B6 := Lib.hid (bt (bt B2.out B4.out.drew) hb6)
              clear hb6
              go_wp2_with fail
              go_ret
              exact ⟨rfl, B6.out⟩
  · obtain ⟨E, hE2⟩ : ∃ E, E = encE X := ⟨_, rfl⟩
    rw [← hE2] at hE ⊢
    have g1 : ((E : Int) != 0) = true := bne_iff_ne.2 (by omega)
    obtain ⟨a2, c2, rfl, -, -⟩ := sl_form hs
    generalize (encL X).length = R at *
    clear hs HO2 hE hE2 PD
    go_wp2_with fail
    refine (AW.out _ (ST.out _ _ hw B2.out)).mono ?_
    rintro e w4 ⟨rfl, hb4⟩
    have B4 := Lib.hid (bt B2.out hb4)
    clear hb4 B2
    go_wp2_with fail
    go_ret
    exact ⟨rfl, B4.out⟩
end Go.Proofs.YtljdbaibhpgfnaaDoor.Gf
