/- What is proved here: the contract of the reference's Encode (layer 8). Condition: lists of at most 1000 items. -/
import Derived.Test.YtihjfnlimdcmkaaDoorQ8a
namespace Go.Proofs.YtihjfnlimdcmkaaDoor.Gf
open Go Go.Joins Go.ChangeShapes Go.WideShapes Go.ChangeAt Go.RowKit Go.Deep Go.Proofs.YtihjfnlimdcmkaaDoor.By Go.Proofs.YtihjfnlimdcmkaaDoor.Crc Go.Proofs.YtihjfnlimdcmkaaDoor.Qt

theorem encT_snoc {L : List Itm} {i : Nat} (h : i < L.length) : encT (L.take (i + 1)) = encT (L.take i) ++ recT (L.getD i z0) := by
  rw [take_snocT h, encT_append]
  simp [encT]
theorem own_grown {W W' : World} {B B2 : Nat} {v u : Value} {L M : List Nat} (h : Own W B u M) (hg : W.grownBy W' v.ownBlock) (_ho : Own W B2 v L) (hs : ∀ q, v.ownBlock = some q → q < B) : Own W' B u M :=
  own_keep h fun k hk => by
    have h1 := h.lt k hk
    have h2 : k < W.heap.size := (h.2.lt k hk).2
    exact hg.block k h2 fun e => by have := hs k e.symm; omega
set_option maxRecDepth 100000 in
theorem rencode8_bad (v : Value) (L : List Itm) (w : World) (s : It w v L) (h : ¬ okT L) : Calls Tryd.prog 17 #[v] w (EW w [] 1) := by
  have RV := Lib.hid (rvalid8_any v L w s)
  rw [decide_eq_false h] at RV
  unfold EW
  obtain ⟨a, c, rfl, -, -⟩ := it_form s
  generalize L.length = n at *
  clear s h
  go_enter Tryd.func17, Tryd.ntmps17
  go_wp2_with fail
  refine RV.out.mono ?_
  rintro e W2 ⟨rfl, hb2⟩
  have B2 := Lib.hid hb2
  clear hb2
  go_wp2
  go_ret2
  exact ⟨⟨_, rfl, sl_nil _⟩, B2.out⟩
/-- Bytes in memory of the call's own, and an error. -/
def EWO (w : World) (l : List Nat) (err : Nat) (e : Ending) (w' : World) : Prop := (∃ v, e = .returned (.tuple #[v, .int .i64 (err : Int)]) ∧ Own w' w.heap.size v l) ∧ Below w.heap.size w w'
set_option maxRecDepth 100000 in
set_option maxHeartbeats 12800000 in
theorem rencode8_own (v : Value) (L : List Itm) (w : World) (s : It w v L) (h : okT L) (hlen : L.length ≤ 1000) : Calls Tryd.prog 17 #[v] w (EWO w (encT L) 0) := by
  have RV := Lib.hid (rvalid8_any v L w s)
  rw [decide_eq_true h] at RV
  unfold EWO
  obtain ⟨a, c, rfl, -, -⟩ := it_form s
  obtain ⟨n, hn⟩ : ∃ n, n = L.length := ⟨_, rfl⟩
  rw [← hn] at hlen ⊢
  have N := Lib.hid hn
  have S0 := Lib.hid s
  rw [← hn] at S0 RV
  have OKL := Lib.hid h.1
  clear hn s h
  go_enter Tryd.func17, Tryd.ntmps17
  go_wp2_with fail
  refine RV.out.mono ?_
  rintro e w1 ⟨rfl, hb1⟩
  have B1 := Lib.hid hb1
  clear hb1 RV
  go_wp2_with fail
  go_loopw [4, 5] (fun out t wr => ∃ i : Nat, i ≤ n ∧ t = .int .i64 (i : Int) ∧ Own wr w.heap.size out (encT (L.take i)) ∧ Below w.heap.size w wr) (fun _ t _ => n - (intOf t).toNat)
  case atStart => exact ⟨0, by omega, rfl, own_nil _ _, B1.out⟩
  case round =>
    obtain ⟨i, hi, rfl, ho, hB⟩ := hrel
    by_cases hin : i < n
    · have hl4 : decide ((i : Int) < (n : Int)) = true := decide_eq_true (by omega)
      have p0 : (0 : Int) ≤ (i : Int) := by omega
      have p1 : (i : Int) < (n : Int) := by omega
      have N' := N.out
      have hsn := encT_snoc (L := L) (i := i) (by omega)
      obtain ⟨b1, o1, c1', hv1, -, -, hk1⟩ := it_cells S0.out (by omega)
      obtain ⟨rfl, -, -⟩ : a = some ⟨b1, o1, none⟩ ∧ n = L.length ∧ c = c1' := by simpa using hv1
      have KX0 : ∀ W, Below w.heap.size w W → C4 W b1 (o1 + i * 4) (L.getD i z0) := fun W hW => (hk1 i (by omega)).below hW
      have okx := getT_ok S0.out.1 i
      have okv := OKL.out _ (getT_mem (show i < L.length by omega))
      have hle : (encT (L.take i)).length ≤ 100000 := by rw [encT_length, List.length_take]; omega
      obtain ⟨E, hE⟩ : ∃ q, q = encT (L.take i) := ⟨_, rfl⟩
      rw [← hE] at ho hsn hle
      generalize L.getD i z0 = x at *
      obtain ⟨key, ck, off, sz⟩ := x
      obtain ⟨v1, v2, -, v4, v5⟩ := okv
      obtain ⟨k1, k2, -, -⟩ := okx
      dsimp only at v1 v2 v4 v5 k1 k2
      obtain ⟨o, rfl⟩ := Int.eq_ofNat_of_zero_le (show 0 ≤ off by omega)
      obtain ⟨z, rfl⟩ := Int.eq_ofNat_of_zero_le v4
      have KX := Lib.hid KX0
      have uo : IntKind.u64.wrap (o : Int) = (o : Int) := IntWalk.u64_in _ (by omega)
      have uz : IntKind.u64.wrap (z : Int) = (z : Int) := IntWalk.u64_in _ (by omega)
      have uc : IntKind.u64.wrap (ck : Int) = (ck : Int) := IntWalk.u64_in _ (by omega)
      have HSN := Lib.hid hsn
      have HLE := Lib.hid hle
      have HO := Lib.hid ho
      have HB := Lib.hid hB
      obtain ⟨ao, no, co, rfl, -⟩ := own_form ho
      clear hk1 hv1 N' ho hB hsn hle hE KX0 v1 v2 v4 v5 k1 k2
      go_wp2_with fail
      refine wp_onlyN ?_
      refine wp_region_headsS (fun w' => Below wr.heap.size wr w') [0, 1, 2, 3, 4, 6, 7, 8, 9, 10, 11] 4 (by kernel_rfl) (fun _ _ _ _ _ h => h.elim) (by kernel_rfl) (by rfl) (by rfl) (Below.refl _ _).drew ?_
      simp only [pickOps, List.filterMap_cons, List.filterMap_nil, List.getElem?_toArray, List.getElem?_cons_zero, List.getElem?_cons_succ]
      refine wpHeads_step (fun K hK => ?_)
      go_simp
      refine ⟨_, fun _ _ => rfl, hK _ ?_⟩
      clear hK K
      refine wpHeads_step (fun K hK => ?_)
      go_simp
      refine ⟨_, fun _ _ => rfl, hK _ ?_⟩
      clear hK K
      refine wpHeads_step (fun K hK => ?_)
      go_simp
      refine ⟨_, fun _ _ => rfl, hK _ ?_⟩
      clear hK K
      refine wpHeads_step (fun K hK => ?_)
      go_simp
      refine ⟨_, fun _ _ => rfl, hK _ ?_⟩
      clear hK K
      refine wpHeads_step (fun K hK => ?_)
      go_simp
      refine ⟨.int .u64 (key : Int), fun w' hw' => by rw [(KX.out w' (bt HB.out hw')).c0]; rfl, hK _ ?_⟩
      clear hK K
      refine wpHeads_step (fun K hK => ?_)
      go_simp
      refine ⟨_, fun _ _ => rfl, hK _ ?_⟩
      clear hK K
      refine wpHeads_step (fun K hK => ?_)
      go_simp
      refine ⟨_, fun _ _ => rfl, hK _ ?_⟩
      clear hK K
      refine wpHeads_step (fun K hK => ?_)
      go_simp
      refine ⟨_, fun _ _ => rfl, hK _ ?_⟩
      clear hK K
      refine wpHeads_step (fun K hK => ?_)
      go_simp
      refine ⟨_, fun _ _ => rfl, hK _ ?_⟩
      clear hK K
      refine wpHeads_step (fun K hK => ?_)
      go_simp
      refine ⟨.int .u32 (ck : Int), fun w' hw' => by rw [(KX.out w' (bt HB.out hw')).c1]; rfl, hK _ ?_⟩
      clear hK K
      refine wpHeads_step (fun K hK => ?_)
      go_simp
      refine ⟨_, fun _ _ => rfl, hK _ ?_⟩
      clear hK K
      refine wpHeads_nil ?_
      have B1' := Lib.hid ((Below.refl wr.heap.size wr).drew)
      generalize wr.drew = W1 at *
      refine held_one 5 rfl rfl (by kernel_rfl) fun K hK => ?_
      go_simp
      go_at_call 35
      refine (number_any key 8 _ (by omega)).mono ?_
      rintro e w1 ⟨⟨s3, rfl, ho4⟩, hb2⟩
      have B5 := Lib.hid (bt B1'.out hb2)
      obtain ⟨a7, nn8, c9, rfl, -⟩ := own_form ho4
      have P6 := Lib.hid (own_base B1'.out.size ho4)
      refine hK _ _ B5.out ?_
      clear hK K hb2 ho4
      refine held_one 12 rfl rfl (by kernel_rfl) fun K hK => ?_
      go_simp
      go_at_call 35
      refine (number_any ck 4 _ (by omega)).mono ?_
      rintro e w10 ⟨⟨s12, rfl, ho13⟩, hb11⟩
      have B14 := Lib.hid (bt B5.out hb11)
      have O16 := Lib.hid (own_below' P6.out hb11)
      clear P6
      obtain ⟨a17, nn18, c19, rfl, -⟩ := own_form ho13
      have P15 := Lib.hid (own_base B5.out.size ho13)
      refine hK _ _ B14.out ?_
      clear hK K hb11 ho13
      refine held_one 13 rfl rfl (by kernel_rfl) fun K hK => ?_
      refine wp_app rfl rfl O16.out P15.out.sl (by simp [beL_length]) B14.out.size ?_
      intro v20 w21 ho22 hg23
      have B24 := Lib.hid (below_grown B14.out hg23 O16.out B14.out.size (Nat.le_refl _))
      obtain ⟨a26, nn27, c28, rfl, -⟩ := own_form ho22
      have O25 := Lib.hid ho22
      refine hK _ _ B24.out ?_
      clear hK K ho22 hg23
      refine held_one 14 rfl rfl (by kernel_rfl) fun K hK => ?_
      go_simp
      refine hK _ _ B24.out ?_
      clear hK K
      refine wpAnyH_done (by kernel_rfl) ?_ _
      unfold onlyN
      dsimp only
      go_wp2_with fail
      refine wp_onlyN ?_
      refine wp_region_headsS (fun w' => Below wr.heap.size wr w') [0, 1, 2, 3, 4, 5, 6, 9, 10, 11, 12, 13, 14] 5 (by kernel_rfl) (fun _ _ _ _ _ h => h.elim) (by kernel_rfl) (by rfl) (by rfl) B24.out.drew ?_
      simp only [pickOps, List.filterMap_cons, List.filterMap_nil, List.getElem?_toArray, List.getElem?_cons_zero, List.getElem?_cons_succ]
      refine wpHeads_step (fun K hK => ?_)
      go_simp
      refine ⟨_, fun _ _ => rfl, hK _ ?_⟩
      clear hK K
      refine wpHeads_step (fun K hK => ?_)
      go_simp
      refine ⟨_, fun _ _ => rfl, hK _ ?_⟩
      clear hK K
      refine wpHeads_step (fun K hK => ?_)
      go_simp
      refine ⟨_, fun _ _ => rfl, hK _ ?_⟩
      clear hK K
      refine wpHeads_step (fun K hK => ?_)
      go_simp
      refine ⟨_, fun _ _ => rfl, hK _ ?_⟩
      clear hK K
      refine wpHeads_step (fun K hK => ?_)
      go_simp
      refine ⟨_, fun _ _ => rfl, hK _ ?_⟩
      clear hK K
      refine wpHeads_step (fun K hK => ?_)
      go_simp
      refine ⟨.int .i64 (o : Int), fun w' hw' => by rw [(KX.out w' (bt HB.out hw')).c2]; rfl, hK _ ?_⟩
      clear hK K
      refine wpHeads_step (fun K hK => ?_)
      go_simp
      refine ⟨_, fun _ _ => rfl, hK _ ?_⟩
      clear hK K
      refine wpHeads_step (fun K hK => ?_)
      go_simp
      refine ⟨_, fun _ _ => rfl, hK _ ?_⟩
      clear hK K
      refine wpHeads_step (fun K hK => ?_)
      go_simp
      refine ⟨_, fun _ _ => rfl, hK _ ?_⟩
      clear hK K
      refine wpHeads_step (fun K hK => ?_)
      go_simp
      refine ⟨_, fun _ _ => rfl, hK _ ?_⟩
      clear hK K
      refine wpHeads_step (fun K hK => ?_)
      go_simp
      refine ⟨_, fun _ _ => rfl, hK _ ?_⟩
      clear hK K
      refine wpHeads_step (fun K hK => ?_)
      go_simp
      refine ⟨.int .i64 (z : Int), fun w' hw' => by rw [(KX.out w' (bt HB.out hw')).c3]; rfl, hK _ ?_⟩
      clear hK K
      refine wpHeads_step (fun K hK => ?_)
      go_simp
      refine ⟨_, fun _ _ => rfl, hK _ ?_⟩
      clear hK K
      refine wpHeads_nil ?_
      have B29 := Lib.hid (B24.out.drew)
      have O30 := Lib.hid (O25.out.drew)
      refine held_one 7 rfl rfl (by kernel_rfl) fun K hK => ?_
      go_simp
      go_at_call 35
      refine (number_any o 4 _ (by omega)).mono ?_
      rintro e w31 ⟨⟨s33, rfl, ho34⟩, hb32⟩
      have B35 := Lib.hid (bt B29.out hb32)
      have O37 := Lib.hid (own_below' O30.out hb32)
      clear O30
      obtain ⟨a38, nn39, c40, rfl, -⟩ := own_form ho34
      have P36 := Lib.hid (own_base B29.out.size ho34)
      refine hK _ _ B35.out ?_
      clear hK K hb32 ho34
      refine held_one 8 rfl rfl (by kernel_rfl) fun K hK => ?_
      refine wp_app rfl rfl O37.out P36.out.sl (by simp [beL_length]) B35.out.size ?_
      intro v41 w42 ho43 hg44
      have B45 := Lib.hid (below_grown B35.out hg44 O37.out B35.out.size (Nat.le_refl _))
      obtain ⟨a47, nn48, c49, rfl, -⟩ := own_form ho43
      have O46 := Lib.hid ho43
      refine hK _ _ B45.out ?_
      clear hK K ho43 hg44
      refine held_one 15 rfl rfl (by kernel_rfl) fun K hK => ?_
      go_simp
      go_at_call 35
      refine (number_any z 4 _ (by omega)).mono ?_
      rintro e w50 ⟨⟨s52, rfl, ho53⟩, hb51⟩
      have B54 := Lib.hid (bt B45.out hb51)
      have O56 := Lib.hid (own_below' O46.out hb51)
      clear O46
      obtain ⟨a57, nn58, c59, rfl, -⟩ := own_form ho53
      have P55 := Lib.hid (own_base B45.out.size ho53)
      refine hK _ _ B54.out ?_
      clear hK K hb51 ho53
      refine held_one 16 rfl rfl (by kernel_rfl) fun K hK => ?_
      refine wp_app rfl rfl O56.out P55.out.sl (by simp [beL_length]) B54.out.size ?_
      intro v60 w61 ho62 hg63
      have B64 := Lib.hid (below_grown B54.out hg63 O56.out B54.out.size (Nat.le_refl _))
      obtain ⟨a66, nn67, c68, rfl, -⟩ := own_form ho62
      have O65 := Lib.hid ho62
      refine hK _ _ B64.out ?_
      clear hK K ho62 hg63
      refine held_one 17 rfl rfl (by kernel_rfl) fun K hK => ?_
      go_simp
      refine hK _ _ B64.out ?_
      clear hK K
      refine wpAnyH_done (by kernel_rfl) ?_ _
      unfold onlyN
      dsimp only
      have hbd : beL 8 key ++ beL 4 ck ++ beL 4 o ++ beL 4 z = bodT ⟨key, ck, (o : Int), (z : Int)⟩ := rfl
      have OB := Lib.hid O65.out
      rw [hbd] at OB
      have BB := Lib.hid B64.out
      have HO9 := Lib.hid (own_below' HO.out BB.out)
      have HB9 := Lib.hid (bt HB.out BB.out)
      have HLT : Hid (∀ q, Value.ownBlock (.slice ao no co) = some q → q < wr.heap.size) := fun q hq => (HO.out.2.lt q hq).2
      have HL9 : Hid (E.length + (bodT ⟨key, ck, (o : Int), (z : Int)⟩).length ≤ 100000000 ∧ (E ++ bodT ⟨key, ck, (o : Int), (z : Int)⟩).length + (leL (ext 0 (bodT ⟨key, ck, (o : Int), (z : Int)⟩))).length ≤ 100000000) := by
        have := HLE.out
        refine ⟨?_, ?_⟩
        · rw [bodT_length]; omega
        · rw [List.length_append, bodT_length, leL_length]; omega
      obtain ⟨BD, hBD⟩ : ∃ q, q = bodT ⟨key, ck, (o : Int), (z : Int)⟩ := ⟨_, rfl⟩
      rw [← hBD] at OB HL9
      have HBD := Lib.hid hBD.symm
      clear hBD hbd
      go_wp2_with (first
        | (at_builtin; refine app_sl (dst := some 49) ?_ ?_ HO9.out OB.out.sl HL9.out.1 HB9.out.size ?_; exact rfl; exact rfl; intro v9 w9 ho9 hg9; have BN := Lib.hid (below_grown HB9.out hg9 HO9.out HB9.out.size (Nat.le_refl _)); have ON := Lib.hid ho9; have OBN := Lib.hid (own_grown OB.out hg9 HO9.out HLT.out); obtain ⟨a9, n9, c9, rfl, -⟩ := own_form ho9; clear ho9 hg9)
        | (go_at_call 18; refine (check_any _ _ _ OBN.out.sl).mono ?_; rintro e w10 ⟨⟨s10, rfl, ho10⟩, hb10⟩; have ONC := Lib.hid (own_below' ON.out hb10); have BNC := Lib.hid (bt BN.out hb10); have OC := Lib.hid ho10; obtain ⟨a10, n10, c10, rfl, -⟩ := own_form ho10; clear ho10 hb10)
        | (at_builtin; refine app_sl (dst := some 52) ?_ ?_ ONC.out OC.out.sl HL9.out.2 BNC.out.size ?_; exact rfl; exact rfl; intro v11 w11 ho11 hg11; have BF := Lib.hid (below_grown BNC.out hg11 ONC.out BNC.out.size (Nat.le_refl _)); have OF := Lib.hid ho11; obtain ⟨a11, n11, c11, hv11, -⟩ := own_form ho11; subst hv11; clear ho11 hg11))
      go_roundw
      case rel => exact ⟨i + 1, by omega, by go_num, by rw [HSN.out]; simpa [recT, HBD.out] using OF.out, BF.out⟩
      case measure => simp [intOf]; omega
    · obtain rfl : i = n := by omega
      have hl4 : decide ((i : Int) < (i : Int)) = false := decide_eq_false (by omega)
      rw [List.take_of_length_le (by have := N.out; omega)] at ho
      obtain ⟨ao, no, co, rfl, -⟩ := own_form ho
      have HO := Lib.hid ho
      have HB := Lib.hid hB
      clear ho hB
      go_wp2
      go_ret2
      exact ⟨⟨_, rfl, HO.out⟩, HB.out⟩
theorem rencode8_ok (v : Value) (L : List Itm) (w : World) (s : It w v L) (h : okT L) (hlen : L.length ≤ 1000) : Calls Tryd.prog 17 #[v] w (EW w (encT L) 0) := by
  refine (rencode8_own v L w s h hlen).mono ?_
  rintro e w' ⟨⟨u, rfl, ho⟩, hb⟩
  exact ⟨⟨u, rfl, ho.sl⟩, hb⟩
theorem rencode8_any (v : Value) (L : List Itm) (w : World) (s : It w v L) (hlen : L.length ≤ 1000) : Calls Tryd.prog 17 #[v] w (EW w (eT L) (eE L)) := by
  unfold eT eE
  by_cases h : okT L
  · rw [if_pos h, if_pos h]
    exact rencode8_ok v L w s h hlen
  · rw [if_neg h, if_neg h]
    exact rencode8_bad v L w s h
end Go.Proofs.YtihjfnlimdcmkaaDoor.Gf
