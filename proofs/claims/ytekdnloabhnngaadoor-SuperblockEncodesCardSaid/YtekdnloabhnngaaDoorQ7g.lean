/- What is proved here: the walk of the law SuperblockBursts, over what it asks of the program. No condition. -/
import Derived.Test.YtekdnloabhnngaaDoorQ7f
import Derived.Test.YtekdnloabhnngaaDoorMath3
namespace Go.Proofs.YtekdnloabhnngaaDoor.Gf
open Go Go.Joins Go.ChangeShapes Go.WideShapes Go.ChangeAt Go.RowKit Go.Deep Go.Proofs.YtekdnloabhnngaaDoor.By Go.Proofs.YtekdnloabhnngaaDoor.Crc Go.Proofs.YtekdnloabhnngaaDoor.Qt

theorem and1_shift (f i : Nat) (hf : f < 4294967296) : bits .and .u32 ((f : Int) / 2 ^ i) 1 = ((f / 2 ^ i % 2 : Nat) : Int) := by
  have e : ((f : Int) / 2 ^ i) = ((f / 2 ^ i : Nat) : Int) := by simp
  have h := Nat.div_le_self f (2 ^ i)
  rw [e, and1 _ (by omega)]
theorem xor_lt8 {y z : Nat} (hy : y < 256) (hz : z < 256) : y ^^^ z < 256 := Nat.xor_lt_two_pow (n := 8) hy hz
theorem own_pos {w : World} {base : Nat} {v : Value} {l : List Nat} (h : Own w base v l) (hl : 0 < l.length) : ∃ g c, v = .slice (some ⟨g, 0, none⟩) l.length c ∧ base ≤ g := by
  obtain ⟨_, _, ⟨rfl, h0⟩ | ⟨g, cap, _, rfl, hg, _⟩⟩ := h
  · omega
  · exact ⟨g, cap, rfl, hg⟩
theorem enV_burst {a b c : Int} (h : okS a b c = true) {M : List Nat} {f k : Nat} (hM : ∀ x ∈ M, x < 256) (hlen : M.length = 16) (hf : f < 4294967296) (hn : num M = num (enV a b c) ^^^ f * 2 ^ k) : (enV a b c = M) ↔ dE7 M = 0 := by
  have e : enV a b c = encS a.toNat b.toNat c.toNat := by unfold enV; rw [if_pos h]
  constructor
  · intro he
    rw [← he]
    have := (enV_back h []).1
    rwa [List.append_nil] at this
  · intro h0
    rw [e] at hn ⊢
    exact (burst7 hM hlen hf hn h0).symm
set_option maxRecDepth 100000 in
set_option maxHeartbeats 6400000 in
theorem bursts7_walk {Ok : World → Prop} (P : PC7 Ok) (s g r : Int) (n0 : Int) (_hn : J64 n0) (flip : Nat) (hf : flip < 4294967296) (w : World) (hw : Ok w) : Calls Tryd.prog 6 #[SV s g r, .int .i64 n0, .int .u32 (flip : Int)] w fun e w' => e = .returned (.bool true) ∧ Below w.heap.size w w' := by
  have PE := Lib.hid (fun s g r W (h : Ok W) => P.enc s g r W h)
  have PD := Lib.hid (fun v l W (h : Ok W) => P.dec v l W h)
  have ST := Lib.hid (fun (W W' : World) => P.st (w := W) (w' := W'))
  have AW := Lib.hid (awake7_any P)
  clear P
  have NR := Lib.hid (near_any s g r)
  obtain ⟨k1, k2, k3, k4, k5, k6⟩ := near_ok s g r
  unfold SV at NR ⊢
  generalize s % 4 = s0 at *
  generalize 1 + g % 8 = g0 at *
  generalize r % 4294967296 = r0 at *
  have hok := okS_iff.2 ⟨k1, k2, k3, k4, k5, k6⟩
  have E := Lib.hid (fun W (h : Ok W) => PE.out s0 g0 r0 W h (j64_small (by omega)) (j64_small (by omega)) (j64_small (by omega)))
  unfold EW SV at E
  rw [show enE s0 g0 r0 = 0 by unfold enE; rw [if_pos hok]] at E
  have HBU := Lib.hid (fun (M : List Nat) (f k : Nat) => enV_burst hok (M := M) (f := f) (k := k))
  have HLE := Lib.hid (enV_back hok []).2.2
  generalize enV s0 g0 r0 = L at *
  have HFL := Lib.hid hf
  have HB0 := Lib.hid ((Below.refl w.heap.size w).alloc (Nat.le_refl _) (.cells #[.int .i64 s, .int .i64 g, .int .i64 r] 23))
  clear k1 k2 k3 k4 k5 k6 hok hf PE
  obtain ⟨A, hA⟩ : ∃ A, n0.tmod 128 = A := ⟨_, rfl⟩
  have hA1 : -128 < A ∧ A < 128 := by
    rw [← hA]
    have := Int.tmod_lt_of_pos n0 (b := 128) (by omega)
    have h2 := Int.lt_tmod_of_pos n0 (b := 128) (by omega)
    omega
  obtain ⟨K, hK, hKlt⟩ : ∃ K : Nat, (A + 128).tmod 128 = (K : Int) ∧ K < 128 := by
    have e : (A + 128).tmod 128 = (A + 128) % 128 := Int.tmod_eq_emod_of_nonneg (by omega)
    rw [e]
    exact ⟨((A + 128) % 128).toNat, by omega, by omega⟩
  have w1' : wrap64 (A + 128) = A + 128 := by unfold wrap64; omega
  have HK := Lib.hid hKlt
  clear hA1 hKlt
  go_enter Tryd.func6, Tryd.ntmps6
  go_wp2_with fail
  refine (NR.out _).mono ?_
  rintro e w1 ⟨rfl, hb1⟩
  have B1 := Lib.hid (bt HB0.out hb1)
  clear hb1
  go_wp2_with fail
  refine (E.out _ (ST.out _ _ hw B1.out)).mono ?_
  rintro e w2 ⟨⟨v2, rfl, hs⟩, hb2⟩
  have B2 := Lib.hid (bt B1.out hb2)
  obtain ⟨b, o, c, hv, -, -, -⟩ := sl_cells hs (by rw [HLE.out]; decide)
  rw [HLE.out] at hv
  subst hv
  have HS := Lib.hid hs
  have HP : Hid (0 < L.length) := by show 0 < _; rw [HLE.out]; decide
  have OE := Lib.hid (own_empty w2 (Nat.le_refl w2.heap.size))
  have BE := Lib.hid ((Below.refl w2.heap.size w2).alloc (Nat.le_refl _) (.cells #[] 5))
  clear hs hb2 E
  go_wp2_with (at_builtin; refine app_sl (dst := some 33) ?_ ?_ OE.out (sl_below HS.out BE.out) (by have := HLE.out; simp; omega) (by simp) ?_; exact rfl; exact rfl; intro v5 w5 ho5 hg5; rw [List.nil_append] at ho5; have B5 := Lib.hid (BE.out.grown hg5 BE.out.size fun q hq => by have := OE.out.lt q hq; omega); obtain ⟨g5, c5, hv5, -⟩ := own_pos ho5 HP.out; rw [HLE.out] at hv5; subst hv5; have O5 := Lib.hid ho5; clear ho5 hg5)
  clear hA hK w1'
  go_loopw [11] (fun i wr => ∃ (I : Nat) (M : List Nat), I ≤ 32 ∧ K + I ≤ 128 ∧ i = .int .i64 I ∧ M.length = 16 ∧ num M = num L ^^^ (flip % 2 ^ I) * 2 ^ K ∧ Own wr w2.heap.size (.slice (some ⟨g5, 0, none⟩) 16 c5) M ∧ Below w2.heap.size w2 wr) (fun i _ => 32 - (intOf i).toNat)
  case atStart => exact ⟨0, L, by omega, by have := HK.out; omega, rfl, HLE.out, by simp [Nat.mod_one], O5.out, B5.out⟩
  case round =>
    obtain ⟨I, M, hI, hKI, rfl, hM, hnum, hO, hB⟩ := hrel
    have HN := Lib.hid hnum
    have HM := Lib.hid hM
    have HO := Lib.hid hO
    have hMl : ∀ b ∈ M, b < 256 := hO.1
    have HMl := Lib.hid hMl
    clear hnum hM hMl hO
    by_cases hlt : I < 32 ∧ K + I < 128
    · obtain ⟨i1, i2⟩ := hlt
      have hql : (K + I) / 8 < 16 := by omega
      obtain ⟨hc, hfz, hbg⟩ := own_cell HO.out HM.out hql
      have hy := getD_lt HMl.out ((K + I) / 8)
      have b1 := and1_shift flip I HFL.out
      have hbt : flip / 2 ^ I % 2 < 2 := Nat.mod_lt _ (by decide)
      obtain ⟨bt, hbte⟩ : ∃ bt, bt = flip / 2 ^ I % 2 := ⟨_, rfl⟩
      obtain ⟨y, hye⟩ : ∃ y, y = M.getD ((K + I) / 8) 0 := ⟨_, rfl⟩
      rw [← hbte] at b1 hbt
      rw [← hye] at hc hy
      have HBT := Lib.hid hbte
      have HY := Lib.hid hye
      clear hbte hye
      go_wp2
      go_roundw
      case rel =>
        refine ⟨I + 1, M.set ((K + I) / 8) (M.getD ((K + I) / 8) 0 ^^^ flip / 2 ^ I % 2 * 2 ^ ((K + I) % 8)), by omega, by omega, by go_num, by simpa using HM.out, ?_, ?_, hB.setCell hbg _⟩
        · exact num_step M (num L) flip K I HMl.out (by rw [HM.out]; exact hql) HN.out
        · have e2 : 2 ^ ((K + I) % 8) ≤ 2 ^ 7 := Nat.pow_le_pow_right (by decide) (by omega)
          have e3 : bt * 2 ^ ((K + I) % 8) < 256 := by
            have := Nat.mul_le_mul (show bt ≤ 1 by omega) e2
            omega
          have e4 : ((bt : Int) * 2 ^ ((K + I) % 8) % 256) = ((bt * 2 ^ ((K + I) % 8) : Nat) : Int) := by
            have : ((bt : Int) * 2 ^ ((K + I) % 8)) = ((bt * 2 ^ ((K + I) % 8) : Nat) : Int) := by simp
            rw [this]
            generalize bt * 2 ^ ((K + I) % 8) = z at e3
            omega
          rw [e4, u8_xor_nat _ _ hy e3, HY.out, HBT.out]
          exact own_set HO.out HM.out hql (by rw [← HY.out, ← HBT.out]; exact xor_lt8 hy e3)
      case measure => simp [intOf]; omega
    · have B4 := Lib.hid hB
      have hF : flip % 2 ^ I < 4294967296 := Nat.lt_of_le_of_lt (Nat.mod_le _ _) HFL.out
      have hiff := HBU.out M (flip % 2 ^ I) K HMl.out HM.out hF HN.out
      have he := str_eq HS.out.1 HMl.out
      have HSB := Lib.hid (sl_below HS.out B4.out)
      obtain ⟨D, hD⟩ : ∃ D, decide (L = M) = D := ⟨_, rfl⟩
      rw [hD] at he
      have HDE : Hid ((((dE7 M : Nat) : Int) == 0) = D) := by
        show _ = _
        by_cases h : L = M
        · rw [← hD, decide_eq_true h, hiff.1 h]; rfl
        · rw [← hD, decide_eq_false h]
          exact beq_false_of_ne fun e => h (hiff.2 (by omega))
      have HEQ := Lib.hid he
      have hex : (¬ I < 32) ∨ (I < 32 ∧ decide ((K : Int) + (I : Int) < 128) = false) := by
        by_cases h32 : I < 32
        · exact Or.inr ⟨h32, decide_eq_false (by omega)⟩
        · exact Or.inl h32
      have hKb : K ≤ 128 := by omega
      clear hlt hiff he hD hF hB hKI
      rcases hex with hx1 | ⟨hx1, hx2⟩
      all_goals
        go_wp2_with fail
        refine (PD.out _ M _ (ST.out _ _ hw (bt B2.out B4.out)) HO.out.sl).mono ?_
        unfold DS
        have hv : ∃ a b c : Int, dX7 M = SV a b c := by unfold dX7; split <;> exact ⟨_, _, _, rfl⟩
        obtain ⟨a, b', c', hv⟩ := hv
        rw [hv]
        unfold SV
        rintro e w6 ⟨rfl, hb6⟩
        have AL := (Below.refl w6.heap.size w6).alloc (Nat.le_refl _) (.cells #[.int .i64 a, .int .i64 b', .int .i64 c'] 23)
        have B6 := Lib.hid (bt (bt (bt B2.out B4.out) hb6) AL)
        have q1 := conv_sl (sl_below HSB.out (bt hb6 AL))
        have q2 := conv_sl (sl_below HO.out.sl (bt hb6 AL))
        have q3 := HEQ.out
        have q4 := HDE.out
        generalize strOf L = T1 at *
        generalize strOf M = T2 at *
        generalize dE7 M = E9 at *
        clear AL hb6 hv
        go_wp2_with fail
        refine (AW.out _ (ST.out _ _ hw B6.out)).mono ?_
        rintro e w8 ⟨rfl, hb8⟩
        have B8 := Lib.hid (bt B6.out hb8)
        clear hb8
        go_wp2_with fail
        go_ret
        exact ⟨rfl, B8.out⟩
end Go.Proofs.YtekdnloabhnngaaDoor.Gf
