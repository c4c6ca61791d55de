/- What is proved here: the walk of the law NeedleShort, over what it asks of the program. No condition. -/
import Derived.Test.YtljdbaibhpgfnaaDoorQ6f
namespace Go.Proofs.YtljdbaibhpgfnaaDoor.Gf
open Go Go.Joins Go.ChangeShapes Go.WideShapes Go.ChangeAt Go.RowKit Go.Deep Go.Proofs.YtljdbaibhpgfnaaDoor.By Go.Proofs.YtljdbaibhpgfnaaDoor.Crc Go.Proofs.YtljdbaibhpgfnaaDoor.Qt

def rmd (i : Int) (R : Nat) : Nat := (i % (R : Int)).toNat
theorem rmd_lt (i : Int) {R : Nat} (h : 1 ≤ R) : rmd i R < R := by
  have h1 := Int.emod_lt_of_pos i (show (0 : Int) < (R : Int) by omega)
  have h2 := Int.emod_nonneg i (show (R : Int) ≠ 0 by omega)
  unfold rmd
  omega
theorem rmd_eq (i : Int) {R : Nat} (h : 1 ≤ R) : (i.tmod (R : Int) + (R : Int)).tmod (R : Int) = ((rmd i R : Nat) : Int) ∧ -(R : Int) < i.tmod (R : Int) ∧ i.tmod (R : Int) < (R : Int) := by
  have hR : (0 : Int) < (R : Int) := by omega
  have b1 : -(R : Int) < i.tmod (R : Int) ∧ i.tmod (R : Int) < (R : Int) := by
    have h1 := Int.tmod_lt_of_pos i hR
    have h2 := Int.lt_tmod_of_pos i hR
    exact ⟨h2, h1⟩
  refine ⟨?_, b1⟩
  rw [Int.tmod_eq_emod_of_nonneg (by omega), Int.add_emod_right]
  have e : (i.tmod (R : Int)) % (R : Int) = i % (R : Int) := by
    rw [Int.emod_tmod_comm i (R : Int)]
  rw [e]
  have h2 := Int.emod_nonneg i (show (R : Int) ≠ 0 by omega)
  unfold rmd
  omega
where Int.emod_tmod_comm (i R : Int) : (i.tmod R) % R = i % R := by
        have h := Int.tmod_add_mul_tdiv i R
        have e : i % R = (i.tmod R + R * i.tdiv R) % R := by rw [h]
        rw [e, Int.add_mul_emod_self_left]
set_option maxRecDepth 100000 in
set_option maxHeartbeats 6400000 in
theorem short_walk {Ok : World → Prop} (P : PC6 Ok) (v : Value) (x : Ndl) (n0 : Int) (_hn : I64b n0) (w : World) (hw : Ok w) (h : Nd w v x) : Calls Tryd.prog 9 #[v, .int .i64 n0] w fun e w' => e = .returned (.bool true) ∧ Below w.heap.size w w' := by
  have PD := Lib.hid P.dec
  have PE := Lib.hid P.enc
  have ST := Lib.hid (fun (W W' : World) => P.st (w := W) (w' := W'))
  have AW := Lib.hid (awake6_any P)
  clear P
  have HN := Lib.hid (fun W (hB : Below w.heap.size w W) => nd_below h hB)
  obtain ⟨s, rfl, -, -, h3⟩ := h
  obtain ⟨sa, sc, rfl, -, -⟩ := sl_form h3
  clear h3
  generalize x.data.length = xn at *
  have b0 := (Below.refl w.heap.size w).alloc (Nat.le_refl _) (.cells #[.int .u64 (x.key : Int), .int .u32 (x.cookie : Int), .bool x.del, .slice sa xn sc] 26)
  have B0 := Lib.hid b0
  clear b0
  go_enter Tryd.func9, Tryd.ntmps9
  go_wp2_with fail
  refine (cut6_any _ x _ (HN.out _ B0.out)).mono ?_
  rintro e w1 ⟨⟨v1, rfl, hc⟩, hb1⟩
  have B1 := Lib.hid (bt B0.out hb1)
  clear hb1 B0
  go_wp2_with fail
  refine (PE.out v1 (cutN x) w1 (ST.out _ _ hw B1.out) hc).mono ?_
  have HO := Lib.hid (nd_ok hc)
  clear hc HN
  generalize cutN x = X at *
  rintro e w2 ⟨⟨s2, rfl, hs⟩, hb2⟩
  have B2 := Lib.hid (bt B1.out hb2)
  clear hb2 B1 PE
  by_cases hE : encE X = 0
  · rw [show encL X = recL X by unfold encL; rw [if_pos hE]] at hs
    rw [hE]
    have hge := szR_ge X.data.length
    obtain ⟨R, hR⟩ : ∃ R, R = szR X.data.length := ⟨_, rfl⟩
    have hlen : (recL X).length = R := by rw [recL_length, hR]
    have hle : R ≤ 4128 := by
      have h1 := (enc_ok hE).1
      have h2 := szR_lt X.data.length
      omega
    rw [← hR] at hge
    obtain ⟨b, o, c, hv, hc1, hc2, -⟩ := sl_cells hs (by omega)
    rw [hlen] at hv hc1
    subst hv
    obtain ⟨t, p, t1, t2, t3, t4, t5⟩ : ∃ (t : Int) (p : Nat), n0.tmod (R : Int) = t ∧ -(R : Int) < t ∧ t < (R : Int) ∧ (t + (R : Int)).tmod (R : Int) = (p : Int) ∧ p < R := ⟨_, _, rfl, (rmd_eq n0 (R := R) (by omega)).2.1, (rmd_eq n0 (R := R) (by omega)).2.2, (rmd_eq n0 (R := R) (by omega)).1, rmd_lt n0 (by omega)⟩
    have ht := Lib.hid (sl_take (n := p) (show Sl w2 (.slice (some ⟨b, o, none⟩) (recL X).length c) (recL X) by rw [hlen]; exact hs) (by omega))
    have HD := Lib.hid (dec_short HO.out hE (m := p) (by omega))
    have g1 : ((R : Int) == 0) = false := beq_false_of_ne (by omega)
    have g2 : ((R : Int) = 0) = False := eq_false (by omega)
    have p1 : (p : Int) ≤ (c : Int) := by omega
    have p0 : (0 : Int) ≤ (p : Int) := by omega
    unfold maxLen at hc2
    have o2 : wrap64 (t + (R : Int)) = t + (R : Int) := by unfold wrap64; omega
    clear hs HO hE hlen hR hge hle
    go_wp2_with fail
    refine (PD.out _ _ w2 (ST.out _ _ hw B2.out) ht.out).mono ?_
    rw [HD.out]
    generalize decX ((recL X).take p) = Y
    generalize decN ((recL X).take p) = M
    unfold ED
    rintro e w3 ⟨⟨v3, rfl, s3, rfl, -, -, hs3⟩, hb3⟩
    obtain ⟨a3, c3, rfl, -, -⟩ := sl_form hs3
    have B3 := Lib.hid (bt (bt B2.out hb3) ((Below.refl w3.heap.size w3).alloc (Nat.le_refl _) (.cells #[.int .u64 (Y.key : Int), .int .u32 (Y.cookie : Int), .bool Y.del, .slice a3 Y.data.length c3] 26)))
    clear hs3 hb3 HD ht PD B2
    generalize Y.data.length = yn at *
    go_wp2_with fail
    refine (AW.out _ (ST.out _ _ hw B3.out)).mono ?_
    rintro e w4 ⟨rfl, hb4⟩
    have B4 := Lib.hid (bt B3.out hb4)
    clear hb4 B3
    go_wp2_with fail
    go_ret
    exact ⟨rfl, B4.out⟩
  · obtain ⟨E, hE2⟩ : ∃ E, E = encE X := ⟨_, rfl⟩
    rw [← hE2] at hE ⊢
    have g1 : ((E : Int) != 0) = true := bne_iff_ne.2 (by omega)
    obtain ⟨a2, c2, rfl, -, -⟩ := sl_form hs
    generalize (encL X).length = R at *
    clear hs HO hE hE2 PD
    go_wp2_with fail
    refine (AW.out _ (ST.out _ _ hw B2.out)).mono ?_
    rintro e w4 ⟨rfl, hb4⟩
    have B4 := Lib.hid (bt B2.out hb4)
    clear hb4 B2
    go_wp2_with fail
    go_ret
    exact ⟨rfl, B4.out⟩
end Go.Proofs.YtljdbaibhpgfnaaDoor.Gf
