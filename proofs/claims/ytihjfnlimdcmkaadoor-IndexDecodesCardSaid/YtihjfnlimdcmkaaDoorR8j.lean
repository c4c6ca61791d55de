/- What is proved here: the contract of the reference's Decode (layer 8). Condition: at most 10000 bytes. -/
import Derived.Test.YtihjfnlimdcmkaaDoorR8i
namespace Go.Proofs.YtihjfnlimdcmkaaDoor.Gf
open Go Go.Joins Go.ChangeShapes Go.WideShapes Go.ChangeAt Go.RowKit Go.Deep Go.Proofs.YtihjfnlimdcmkaaDoor.By Go.Proofs.YtihjfnlimdcmkaaDoor.Crc Go.Proofs.YtihjfnlimdcmkaaDoor.Qt

theorem seg_small {l : List Nat} (h : ∀ b ∈ l, b < 256) (p n : Nat) : valL ((l.drop p).take n) < 256 ^ n := by
  have h1 := valL_lt _ (mem_seg h p n)
  have h2 : ((l.drop p).take n).length ≤ n := by rw [List.length_take]; omega
  exact Nat.lt_of_lt_of_le h1 (Nat.pow_le_pow_right (by decide) h2)
/-- How the loop stands: i entries were read, A is what they are. -/
def dcAt (l : List Nat) (i : Nat) (A : List Itm) : Prop := (dcT l.length l).1 = (dcT l.length (l.drop (24 * i))).1 ∧ (dcT l.length l).2 = A ++ (dcT l.length (l.drop (24 * i))).2 ∧ A.length = i
theorem dcAt_zero (l : List Nat) : dcAt l 0 [] := ⟨rfl, rfl, rfl⟩
theorem dcAt_good {l : List Nat} {i : Nat} {A : List Itm} (h : dcAt l i A) (h1 : 24 * i + 24 ≤ l.length) (h2 : ckT (l.drop (24 * i))) : dcAt l (i + 1) (A ++ [itO (l.drop (24 * i))]) := by
  obtain ⟨a, b, c⟩ := h
  have hl : (l.drop (24 * i)).length = l.length - 24 * i := List.length_drop
  rw [dcT_good (by omega) h2 (by omega)] at a b
  rw [List.drop_drop, show 24 * i + 24 = 24 * (i + 1) by omega] at a b
  exact ⟨a, by rw [b]; simp, by simp [c]⟩
theorem dcAt_short {l : List Nat} {i : Nat} {A : List Itm} (h : dcAt l i A) (h1 : 24 * i < l.length) (h2 : l.length < 24 * i + 24) : dE8 l = 4 ∧ dL8 l = [] := by
  obtain ⟨a, -, -⟩ := h
  have hl : (l.drop (24 * i)).length = l.length - 24 * i := List.length_drop
  rw [dcT_short (n := l.length) (l := l.drop (24 * i)) (by intro e; rw [e] at hl; simp at hl; omega) (by omega) (by omega)] at a
  have e : dE8 l = 4 := by unfold dE8; rw [a]; rfl
  exact ⟨e, by unfold dL8; rw [e]; rfl⟩
theorem dcAt_bad {l : List Nat} {i : Nat} {A : List Itm} (h : dcAt l i A) (h1 : 24 * i + 24 ≤ l.length) (h2 : ¬ ckT (l.drop (24 * i))) : dE8 l = 5 ∧ dL8 l = [] := by
  obtain ⟨a, -, -⟩ := h
  have hl : (l.drop (24 * i)).length = l.length - 24 * i := List.length_drop
  rw [dcT_bad (by omega) h2 (by omega)] at a
  have e : dE8 l = 5 := by unfold dE8; rw [a]; rfl
  exact ⟨e, by unfold dL8; rw [e]; rfl⟩
theorem dcAt_end {l : List Nat} {i : Nat} {A : List Itm} (h : dcAt l i A) (h1 : l.length ≤ 24 * i) : (okT A → dE8 l = 0 ∧ dL8 l = A) ∧ (¬ okT A → dE8 l = 3 ∧ dL8 l = []) := by
  obtain ⟨a, b, -⟩ := h
  have hd : l.drop (24 * i) = [] := List.drop_of_length_le h1
  rw [hd, dcT_nil] at a b
  rw [List.append_nil] at b
  refine ⟨fun h => ?_, fun h => ?_⟩
  · have e : dE8 l = 0 := by unfold dE8; rw [a, if_neg (by decide), b, if_pos h]
    exact ⟨e, by unfold dL8; rw [e, if_pos rfl, b]⟩
  · have e : dE8 l = 3 := by unfold dE8; rw [a, if_neg (by decide), b, if_neg h]
    exact ⟨e, by unfold dL8; rw [e, if_neg (by decide)]⟩
theorem ckT_take {l : List Nat} : ckT l ↔ leL (ext 0 ((l.take 24).take 20)) = ((l.take 24).drop 20) := by
  unfold ckT
  rw [List.take_take, show min 20 24 = 20 from rfl, List.drop_take, show 24 - 20 = 4 from rfl]
theorem itO_take {l : List Nat} : itO l = itO (l.take 24) := by
  unfold itO
  rw [List.take_take, List.drop_take, List.drop_take, List.drop_take, List.take_take, List.take_take, List.take_take]
  rfl
theorem take_take' (c : List Nat) (hc : c.length = 24) : ((c.drop 20).take 4) = c.drop 20 := List.take_of_length_le (by rw [List.length_drop]; omega)
set_option maxRecDepth 100000 in
set_option maxHeartbeats 12800000 in
theorem rdecode8_any (v : Value) (l : List Nat) (w : World) (s : Sl w v l) (hlen : l.length ≤ 10000) : Calls Tryd.prog 20 #[v] w (LW w (dL8 l) (dE8 l)) := by
  unfold LW
  obtain ⟨a, c, rfl, hlc, hcm⟩ := sl_form s
  obtain ⟨n, hn⟩ : ∃ n, n = l.length := ⟨_, rfl⟩
  rw [← hn] at hlen hlc ⊢
  have N := Lib.hid hn
  have S0 := Lib.hid s
  rw [← hn] at S0
  have HLC := Lib.hid hlc
  clear hn s hlc hcm
  go_enter Tryd.func20, Tryd.ntmps20
  go_wp2_with fail
  go_loopw [4, 5] (fun lv t wr => ∃ (i : Nat) (A : List Itm), 24 * i ≤ n ∧ t = .int .i64 ((24 * i : Nat) : Int) ∧ dcAt l i A ∧ OwT wr w.heap.size lv A ∧ Below w.heap.size w wr) (fun _ t _ => n - (intOf t).toNat)
  case atStart => exact ⟨0, [], by omega, rfl, dcAt_zero l, owT_nil _ _, Below.refl _ _⟩
  case round =>
    obtain ⟨i, A, hi, rfl, hdc, ho, hB⟩ := hrel
    obtain ⟨at0, hat⟩ : ∃ q, q = 24 * i := ⟨_, rfl⟩
    rw [← hat] at hi ⊢
    have HAT := Lib.hid hat
    by_cases hin : at0 < n
    case neg =>
      obtain rfl : at0 = n := by omega
      have hl4 : decide ((at0 : Int) < (at0 : Int)) = false := decide_eq_false (by omega)
      have HEND := Lib.hid (dcAt_end hdc (by have := N.out; omega))
      have HO := Lib.hid ho
      have HB := Lib.hid hB
      have RV := Lib.hid (rvalid8_any u4 A wr (owT_it ho))
      obtain ⟨ao, co, rfl, -, -⟩ := owT_form ho
      obtain ⟨m, hm⟩ : ∃ q, q = A.length := ⟨_, rfl⟩
      rw [← hm] at HO RV ⊢
      clear ho hB hdc hm hat
      go_wp2_with fail
      refine RV.out.mono ?_
      rintro e w2 ⟨rfl, hb2⟩
      have B2 := Lib.hid (bt HB.out hb2)
      have O2 := Lib.hid (owT_below HO.out hb2)
      clear hb2 HO HB RV
      by_cases hok : okT A
      · rw [decide_eq_true hok]
        obtain ⟨e1, e2⟩ := HEND.out.1 hok
        have E := Lib.hid (And.intro e1 e2)
        clear e1 e2 hok HEND
        go_wp2
        go_ret2
        exact ⟨⟨_, by rw [E.out.1]; rfl, by rw [E.out.2]; exact owT_it O2.out⟩, B2.out⟩
      · rw [decide_eq_false hok]
        obtain ⟨e1, e2⟩ := HEND.out.2 hok
        have E := Lib.hid (And.intro e1 e2)
        clear e1 e2 hok HEND
        go_wp2
        go_ret2
        exact ⟨⟨_, by rw [E.out.1]; rfl, by rw [E.out.2]; exact it_nil _⟩, B2.out⟩
    have hl4 : decide ((at0 : Int) < (n : Int)) = true := decide_eq_true (by omega)
    have w0 : wrap64 ((n : Int) - (at0 : Int)) = (n : Int) - (at0 : Int) := by unfold wrap64; omega
    by_cases hsh : n < at0 + 24
    · have hl5 : decide ((n : Int) - (at0 : Int) < 24) = true := decide_eq_true (by omega)
      obtain ⟨e1, e2⟩ := dcAt_short hdc (by have := N.out; omega) (by have := N.out; omega)
      have E := Lib.hid (And.intro e1 e2)
      have HB := Lib.hid hB
      clear e1 e2 hdc ho hB hat
      go_wp2
      go_ret2
      exact ⟨⟨_, by rw [E.out.1]; rfl, by rw [E.out.2]; exact it_nil _⟩, HB.out⟩
    have hl5 : decide ((n : Int) - (at0 : Int) < 24) = false := decide_eq_false (by omega)
    have N' := N.out
    obtain ⟨b, o, c', hv, hc1, hc2, hk⟩ := sl_cells S0.out (by omega)
    obtain ⟨rfl, -, rfl⟩ : a = some ⟨b, o, none⟩ ∧ n = l.length ∧ c = c' := by simpa using hv
    have HCUT0 : ∀ p q, p + q ≤ l.length → ∀ W, Below w.heap.size w W → Sl W (.slice (some ⟨b, o + p, none⟩) q (c - p)) ((l.drop p).take q) := fun p q hpq W hW =>
      sl_below (sl_cut (w := w) (p := p) (c := q) S0.out.1 rfl hc2 hc1 hk hpq) hW
    have HGOOD := Lib.hid (fun h => dcAt_good hdc (by omega : 24 * i + 24 ≤ l.length) h)
    have HBAD := Lib.hid (fun h => dcAt_bad hdc (by omega : 24 * i + 24 ≤ l.length) h)
    rw [← hat] at HGOOD HBAD
    rw [ckT_take, itO_take] at HGOOD
    rw [ckT_take] at HBAD
    obtain ⟨ch, hch⟩ : ∃ q, q = (l.drop at0).take 24 := ⟨_, rfl⟩
    have hchl : ch.length = 24 := by rw [hch, List.length_take, List.length_drop]; omega
    have hcb : ∀ x ∈ ch, x < 256 := by rw [hch]; exact mem_seg S0.out.1 _ _
    have HCH : Hid (∀ p q, p + q ≤ 24 → ∀ W, Below w.heap.size w W → Sl W (.slice (some ⟨b, o + at0 + p, none⟩) q (c - at0 - p)) ((ch.drop p).take q)) := fun p q hpq W hW => by
      have h := HCUT0 (at0 + p) q (by omega) W hW
      rw [← Nat.add_assoc, ← Nat.sub_sub, ← List.drop_drop] at h
      rw [hch, List.drop_take, List.take_take, Nat.min_eq_left (by omega)]
      exact h
    rw [← hch] at HGOOD HBAD
    have hcc : 24 ≤ c - at0 := by omega
    obtain ⟨cc, hcc0⟩ : ∃ q, q = c - at0 := ⟨_, rfl⟩
    rw [← hcc0] at HCH hcc
    have HCC := Lib.hid hcc0
    clear hcc0
    have hlen24 : (A ++ [itO ch]).length ≤ 100000000 := by
      have := hdc.2.2
      simp
      omega
    have HL24 := Lib.hid hlen24
    have e3 : (at0 : Int) + 24 ≤ (c : Int) := by have := HLC.out; omega
    have e5 : ¬ c = at0 := by omega
    have HAT24 : Hid (at0 + 24 - at0 = 24) := by show _ = _; omega
    have e1 : wrap64 ((at0 : Int) + 24) = (at0 : Int) + 24 := by unfold wrap64; omega
    have HO := Lib.hid ho
    have HB := Lib.hid hB
    have CHL := Lib.hid hchl
    have CHB := Lib.hid hcb
    obtain ⟨ao, co, rfl, -, -⟩ := owT_form ho
    obtain ⟨m, hm⟩ : ∃ q, q = A.length := ⟨_, rfl⟩
    rw [← hm] at HO ⊢
    clear hv hc1 hc2 hk HCUT0 hdc ho hB hch hchl hcb hlen24 N' hm hat
    go_wp2_with fail
    rw [HAT24.out, ← HCC.out]
    generalize o + at0 = bo at *
    have S20 := Lib.hid (fun W (hW : Below w.heap.size w W) => (by have h := HCH.out 0 20 (by omega) W hW; rwa [Nat.add_zero, Nat.sub_zero, List.drop_zero] at h : Sl W (.slice (some ⟨b, bo, none⟩) 20 cc) (ch.take 20)))
    have S4 := Lib.hid (fun W (hW : Below w.heap.size w W) => (by have h := HCH.out 20 4 (by omega) W hW; rwa [take_take' ch CHL.out] at h : Sl W (.slice (some ⟨b, bo + 20, none⟩) 4 (cc - 20)) (ch.drop 20)))
    have f20 : (20 : Int) ≤ (cc : Int) := by omega
    have f20n : ¬ cc = 20 := by omega
    refine wp_onlyN ?_
    refine wp_region_headsS (fun w' => Below wr.heap.size wr w') [0, 1, 4, 5, 6] 3 (by kernel_rfl) (fun _ _ _ _ _ h => h.elim) (by kernel_rfl) (by rfl) (by rfl) (Below.refl _ _).drew ?_
    simp only [pickOps, List.filterMap_cons, List.filterMap_nil, List.getElem?_toArray, List.getElem?_cons_zero, List.getElem?_cons_succ]
    refine wpHeads_step (fun K hK => ?_)
    go_simp
    refine ⟨_, fun _ _ => rfl, hK _ ?_⟩
    clear hK K
    refine wpHeads_step (fun K hK => ?_)
    go_simp
    refine ⟨_, fun _ _ => rfl, hK _ ?_⟩
    clear hK K
    refine wpHeads_step (fun K hK => ?_)
    go_simp
    refine ⟨_, fun _ _ => rfl, hK _ ?_⟩
    clear hK K
    refine wpHeads_step (fun K hK => ?_)
    go_simp
    refine ⟨_, fun _ _ => rfl, hK _ ?_⟩
    clear hK K
    refine wpHeads_step (fun K hK => ?_)
    go_simp
    refine ⟨.string (strOf (ch.drop 20)), fun w' hw' => by rw [conv_sl (S4.out w' (bt HB.out hw'))]; rfl, hK _ ?_⟩
    clear hK K
    refine wpHeads_nil ?_
    have B1 := Lib.hid ((Below.refl wr.heap.size wr).drew)
    generalize wr.drew = W1 at *
    refine held_one 2 rfl rfl (by kernel_rfl) fun K hK => ?_
    go_simp
    go_at_call 18
    refine (check_any _ _ _ (S20.out _ (bt HB.out B1.out))).mono ?_
    rintro e w3 ⟨⟨s3, rfl, ho3⟩, hb3⟩
    have B3 := Lib.hid (bt B1.out hb3)
    refine hK _ _ B3.out ?_
    clear hK K hb3
    obtain ⟨a3, n3, c3, rfl, -⟩ := own_form ho3
    have u1 := conv_sl ho3.sl
    refine held_one 3 rfl rfl (by kernel_rfl) fun K hK => ?_
    go_simp
    refine hK _ _ B3.out ?_
    clear hK K
    have hseq := str_eq ho3.sl.1 (fun x hx => CHB.out x (List.mem_of_mem_drop hx) : ∀ x ∈ ch.drop 20, x < 256)
    generalize hD : decide (leL (ext 0 (ch.take 20)) = ch.drop 20) = D at hseq
    generalize strOf (leL (ext 0 (ch.take 20))) = T1 at *
    generalize strOf (ch.drop 20) = T2 at *
    have HD := Lib.hid hD
    refine held_one 7 rfl rfl (by kernel_rfl) fun K hK => ?_
    clear hD
    go_simp
    refine hK _ _ B3.out ?_
    clear hK K u1
    refine wpAnyH_done (by kernel_rfl) ?_ _
    unfold onlyN
    dsimp only
    clear ho3 hseq B1
    have HBW := Lib.hid (bt HB.out B3.out)
    have HOW := Lib.hid (owT_below HO.out B3.out)
    by_cases hck : leL (ext 0 (ch.take 20)) = ch.drop 20
    case neg =>
      obtain rfl : D = false := by rw [← HD.out]; exact decide_eq_false hck
      obtain ⟨x1, x2⟩ := HBAD.out hck
      have E := Lib.hid (And.intro x1 x2)
      clear x1 x2 hck HGOOD HBAD
      go_wp2
      go_ret2
      exact ⟨⟨_, by rw [E.out.1]; rfl, by rw [E.out.2]; exact it_nil _⟩, HBW.out⟩
    obtain rfl : D = true := by rw [← HD.out]; exact decide_eq_true hck
    have HDC := Lib.hid (HGOOD.out hck)
    clear hck HGOOD HBAD HD
    have V0 := Lib.hid (fun W (hW : Below w.heap.size w W) => rvalue_any _ _ W (by have h := HCH.out 0 8 (by omega) W hW; rwa [Nat.add_zero, Nat.sub_zero, List.drop_zero] at h : Sl W (.slice (some ⟨b, bo, none⟩) 8 cc) (ch.take 8)) (by have := CHL.out; simp; omega) (by simp; omega))
    have V8 := Lib.hid (fun W (hW : Below w.heap.size w W) => rvalue_any _ _ W (HCH.out 8 4 (by omega) W hW) (by have := CHL.out; simp; omega) (by simp; omega))
    have V12 := Lib.hid (fun W (hW : Below w.heap.size w W) => rvalue_any _ _ W (HCH.out 12 4 (by omega) W hW) (by have := CHL.out; simp; omega) (by simp; omega))
    have V16 := Lib.hid (fun W (hW : Below w.heap.size w W) => rvalue_any _ _ W (HCH.out 16 4 (by omega) W hW) (by have := CHL.out; simp; omega) (by simp; omega))
    have n0 := seg_small CHB.out 0 8
    rw [List.drop_zero] at n0
    have n8 := seg_small CHB.out 8 4
    have n12 := seg_small CHB.out 12 4
    have n16 := seg_small CHB.out 16 4
    have hit : itO ch = ⟨valL (ch.take 8), valL ((ch.drop 8).take 4), (valL ((ch.drop 12).take 4) : Int), (valL ((ch.drop 16).take 4) : Int)⟩ := rfl
    have hcell : cellsT [itO ch] = [.int .u64 ((valL (ch.take 8) : Nat) : Int), .int .u32 ((valL ((ch.drop 8).take 4) : Nat) : Int), .int .i64 ((valL ((ch.drop 12).take 4) : Nat) : Int), .int .i64 ((valL ((ch.drop 16).take 4) : Nat) : Int)] := rfl
    generalize valL (ch.take 8) = Y0 at *
    generalize valL ((ch.drop 8).take 4) = Y8 at *
    generalize valL ((ch.drop 12).take 4) = Y12 at *
    generalize valL ((ch.drop 16).take 4) = Y16 at *
    rw [hit] at HDC HL24
    have w8 : IntKind.u32.wrap (Y8 : Int) = (Y8 : Int) := IntWalk.u32_in _ (by omega)
    have w12 : IntKind.i64.wrap (Y12 : Int) = (Y12 : Int) := IntWalk.i64_in _ (by omega)
    have w16 : IntKind.i64.wrap (Y16 : Int) = (Y16 : Int) := IntWalk.i64_in _ (by omega)
    have OKI : Hid (ItOk ⟨Y0, Y8, (Y12 : Int), (Y16 : Int)⟩) := ⟨by show Y0 < _; omega, by show Y8 < _; omega, by unfold J64; dsimp only; omega, by unfold J64; dsimp only; omega⟩
    have f8 : (8 : Int) ≤ (cc : Int) := by omega
    have f12 : (12 : Int) ≤ (cc : Int) := by omega
    have f16 : (16 : Int) ≤ (cc : Int) := by omega
    have f8n : ¬ cc = 8 := by omega
    have f12n : ¬ cc = 12 := by omega
    have f16n : ¬ cc = 16 := by omega
    clear n0 n8 n12 n16 hit hcell
    go_wp2_with fail
    refine wp_onlyN ?_
    refine wp_region_headsS (fun w' => Below w.heap.size w w') [0, 1, 2, 4, 5, 8, 9, 12, 13] 11 (by kernel_rfl) (fun _ _ _ _ _ h => h.elim) (by kernel_rfl) (by rfl) (by rfl) HBW.out.drew ?_
    simp only [pickOps, List.filterMap_cons, List.filterMap_nil, List.getElem?_toArray, List.getElem?_cons_zero, List.getElem?_cons_succ]
    refine wpHeads_step (fun K hK => ?_)
    go_simp
    refine ⟨_, fun _ _ => rfl, hK _ ?_⟩
    clear hK K
    refine wpHeads_step (fun K hK => ?_)
    go_simp
    refine ⟨_, fun _ _ => rfl, hK _ ?_⟩
    clear hK K
    refine wpHeads_step (fun K hK => ?_)
    go_simp
    refine ⟨_, fun _ _ => rfl, hK _ ?_⟩
    clear hK K
    refine wpHeads_step (fun K hK => ?_)
    go_simp
    refine ⟨_, fun _ _ => rfl, hK _ ?_⟩
    clear hK K
    refine wpHeads_step (fun K hK => ?_)
    go_simp
    refine ⟨_, fun _ _ => rfl, hK _ ?_⟩
    clear hK K
    refine wpHeads_step (fun K hK => ?_)
    go_simp
    refine ⟨_, fun _ _ => rfl, hK _ ?_⟩
    clear hK K
    refine wpHeads_step (fun K hK => ?_)
    go_simp
    refine ⟨_, fun _ _ => rfl, hK _ ?_⟩
    clear hK K
    refine wpHeads_step (fun K hK => ?_)
    go_simp
    refine ⟨_, fun _ _ => rfl, hK _ ?_⟩
    clear hK K
    refine wpHeads_step (fun K hK => ?_)
    go_simp
    refine ⟨_, fun _ _ => rfl, hK _ ?_⟩
    clear hK K
    refine wpHeads_nil ?_
    have B4 := Lib.hid HBW.out.drew
    have HO4 := Lib.hid (owT_below HOW.out ((Below.refl _ w3).drew))
    have HB4 := Lib.hid HBW.out.drew
    clear B3 HOW HBW
    generalize w3.drew = W4 at *
    refine held_one 3 rfl rfl (by kernel_rfl) fun K hK => ?_
    go_simp
    go_at_call 39
    refine (V0.out _ HB4.out).mono ?_
    rintro e Y ⟨rfl, rfl⟩
    refine hK _ _ B4.out ?_
    clear hK K
    refine held_one 6 rfl rfl (by kernel_rfl) fun K hK => ?_
    go_simp
    go_at_call 39
    refine (V8.out _ HB4.out).mono ?_
    rintro e Y ⟨rfl, rfl⟩
    refine hK _ _ B4.out ?_
    clear hK K
    refine wpAnyH_take (i := 7) (v := .int .u32 (IntKind.u32.wrap (Y8 : Int))) rfl (by kernel_rfl) (by kernel_rfl) (by kernel_rfl) (fun _ _ _ h => h) (Or.inl ⟨by kernel_rfl, fun w _ => by rfl⟩) B4.out ?_
    rw [w8]
    refine held_one 10 rfl rfl (by kernel_rfl) fun K hK => ?_
    go_simp
    go_at_call 39
    refine (V12.out _ HB4.out).mono ?_
    rintro e Y ⟨rfl, rfl⟩
    refine hK _ _ B4.out ?_
    clear hK K
    refine wpAnyH_take (i := 11) (v := .int .i64 (IntKind.i64.wrap (Y12 : Int))) rfl (by kernel_rfl) (by kernel_rfl) (by kernel_rfl) (fun _ _ _ h => h) (Or.inl ⟨by kernel_rfl, fun w _ => by rfl⟩) B4.out ?_
    rw [w12]
    refine held_one 14 rfl rfl (by kernel_rfl) fun K hK => ?_
    go_simp
    go_at_call 39
    refine (V16.out _ HB4.out).mono ?_
    rintro e Y ⟨rfl, rfl⟩
    refine hK _ _ B4.out ?_
    clear hK K
    refine wpAnyH_take (i := 15) (v := .int .i64 (IntKind.i64.wrap (Y16 : Int))) rfl (by kernel_rfl) (by kernel_rfl) (by kernel_rfl) (fun _ _ _ h => h) (Or.inl ⟨by kernel_rfl, fun w _ => by rfl⟩) B4.out ?_
    rw [w16]
    refine wpAnyH_take (i := 16) (v := .agg #[.int .u64 (Y0 : Int), .int .u32 (Y8 : Int), .int .i64 (Y12 : Int), .int .i64 (Y16 : Int)]) rfl (by kernel_rfl) (by kernel_rfl) (by kernel_rfl) (fun _ _ _ h => h) (Or.inl ⟨by kernel_rfl, fun w _ => by go_simp⟩) B4.out ?_
    refine held_one 17 rfl rfl (by kernel_rfl) fun K hK => ?_
    go_simp
    have B5 := Lib.hid (bt B4.out (bel_al W4 (.cells #[.int .u64 (Y0 : Int), .int .u32 (Y8 : Int), .int .i64 (Y12 : Int), .int .i64 (Y16 : Int)] 41)))
    have HX5 := Lib.hid (it_one (x := ⟨Y0, Y8, (Y12 : Int), (Y16 : Int)⟩) OKI.out (heap_alloc_new W4 (.cells #[.int .u64 (Y0 : Int), .int .u32 (Y8 : Int), .int .i64 (Y12 : Int), .int .i64 (Y16 : Int)] 41)))
    have HO5 := Lib.hid (owT_below HO4.out (bel_al W4 (.cells #[.int .u64 (Y0 : Int), .int .u32 (Y8 : Int), .int .i64 (Y12 : Int), .int .i64 (Y16 : Int)] 41)))
    have HB5 := Lib.hid (bt HB4.out (bel_al W4 (.cells #[.int .u64 (Y0 : Int), .int .u32 (Y8 : Int), .int .i64 (Y12 : Int), .int .i64 (Y16 : Int)] 41)))
    refine hK _ _ B5.out ?_
    clear hK K HO4 B4 HB4
    generalize W4.heap.size = g4 at *
    generalize W4.alloc (.cells #[.int .u64 (Y0 : Int), .int .u32 (Y8 : Int), .int .i64 (Y12 : Int), .int .i64 (Y16 : Int)] 41) = W5 at *
    refine held_one 18 rfl rfl (by kernel_rfl) fun K hK => ?_
    refine wp_app_it rfl rfl HO5.out HX5.out (by have h := HL24.out; simpa using h) HB5.out.size ?_
    intro v6 W6 ho6 hg6
    have HB6 := Lib.hid (below_grownT HB5.out hg6 HO5.out HB5.out.size (Nat.le_refl _))
    have HO6 := Lib.hid ho6
    obtain ⟨a6, c6, hv6, -, -⟩ := owT_form ho6
    obtain ⟨n6, hn6⟩ : ∃ q, q = (A ++ [(⟨Y0, Y8, (Y12 : Int), (Y16 : Int)⟩ : Itm)]).length := ⟨_, rfl⟩
    rw [← hn6] at hv6
    subst hv6
    refine hK _ _ HB6.out ?_
    clear hK K ho6 hg6 hn6
    refine held_one 19 rfl rfl (by kernel_rfl) fun K hK => ?_
    go_simp
    refine hK _ _ HB6.out ?_
    clear hK K
    refine wpAnyH_done (by kernel_rfl) ?_ _
    unfold onlyN
    dsimp only
    go_wp2
    go_roundw
    case rel => exact ⟨i + 1, _, by have := HAT.out; omega, congrArg (Value.int .i64) (by have := HAT.out; omega), HDC.out, HO6.out, HB6.out⟩
    case measure => simp [intOf]; omega
end Go.Proofs.YtihjfnlimdcmkaaDoor.Gf
