/- What is proved here: what the operations answer is a valid disk again. No program text. -/
import Derived.Test.YtpipgbjkkiheaaaK10H
namespace Go.Proofs.Ytpipgbjkkiheaaa.Gf
open Go

theorem insR_len {α : Type} (nm : α → ByteArray) (f : α) : ∀ L : List α, (insR nm L f).length = if hasG nm L (nm f) = true then L.length else L.length + 1
  | [] => rfl
  | x :: L => by
    have ih := insR_len nm f L
    rw [hasG_cons]
    unfold insR
    split
    · rw [List.length_cons, ih, List.length_cons]
      split <;> rfl
    · split <;> rfl
theorem leftN_ge {l : Int} (h : -1 ≤ l) : -1 ≤ leftN l := by
  unfold leftN
  split <;> omega
theorem put_valid {d : Dk} (h : validB d = true) {f : Fl} (hf : fileB f = true) (hlen : (putG nmF d.2.2 f).length ≤ 256) {l : Int} (hl : -1 ≤ l) : validB (d.1, l, putG nmF d.2.2 f) = true := by
  have hs := valid_srt h
  have hp := valid_parts h
  unfold validB
  simp only [Bool.and_eq_true, decide_eq_true_eq]
  refine ⟨⟨⟨hp.1, hl⟩, hlen⟩, ok_of ?_ fun g hg => ?_⟩
  · rw [putG_insR nmF f hs]
    exact insR_srt nmF f hs
  · rw [putG_insR nmF f hs] at hg
    rcases insR_mem nmF f _ g hg with rfl | hg
    · exact hf
    · exact ok_mem hp.2.2.2 g hg
theorem put_len {d : Dk} (h : validB d = true) {f : Fl} (hh : hasG nmF d.2.2 f.1 = true) : (putG nmF d.2.2 f).length = d.2.2.length := by
  rw [putG_insR nmF f (valid_srt h), insR_len, if_pos hh]
theorem drop_valid {d : Dk} (h : validB d = true) (s : ByteArray) {l : Int} (hl : -1 ≤ l) : validB (d.1, l, dropG nmF d.2.2 s) = true ∧ (dropG nmF d.2.2 s).length ≤ d.2.2.length := by
  have hs := valid_srt h
  have hp := valid_parts h
  have hsub : ∀ g ∈ dropG nmF d.2.2 s, g ∈ d.2.2 := fun g hg => by
    unfold dropG at hg
    split at hg
    · rcases List.mem_append.1 hg with hg | hg
      · exact List.mem_of_mem_take hg
      · exact List.mem_of_mem_drop hg
    · exact hg
  have hlen : (dropG nmF d.2.2 s).length ≤ d.2.2.length := by
    unfold dropG
    split
    · rw [List.length_append, List.length_take, List.length_drop]
      omega
    · exact Nat.le_refl _
  refine ⟨?_, hlen⟩
  unfold validB
  simp only [Bool.and_eq_true, decide_eq_true_eq]
  exact ⟨⟨⟨hp.1, hl⟩, Nat.le_trans hlen hp.2.2.1⟩, ok_of (dropG_srt hs) fun g hg => ok_mem hp.2.2.2 g (hsub g hg)⟩
theorem create_valid {d : Dk} {s : ByteArray} (h : createE d s = 0) : validB (createD d s) = true := by
  have hr : readyE d s = 0 := by
    unfold createE at h
    by_cases c : readyE d s = 0
    · exact c
    · rw [if_neg c] at h; exact absurd h c
  have hv := (ready_len hr).2
  have hn : nameB s = true := by
    unfold readyE at hr
    cases hc : nameB s with
    | true => rfl
    | false => rw [hc] at hr; simp at hr
  have hp := valid_parts hv
  rw [create_eq h]
  have hne : d.2.2.length ≠ 256 ∧ fndL d.2.2 s < 0 := by
    unfold createE at h
    rw [if_pos hr] at h
    split at h
    · cases h
    · rename_i c
      split at h
      · cases h
      · rename_i c2
        exact ⟨c2, by omega⟩
  refine put_valid hv (f := (s, [], [])) ?_ ?_ (leftN_ge hp.2.1)
  · unfold fileB
    rw [Bool.and_eq_true]
    exact ⟨hn, flB_nil (by show 0 ≤ 1048576; decide)⟩
  · rw [putG_insR nmF _ (valid_srt hv), insR_len]
    split <;> omega
theorem at_parts {d : Dk} {s : ByteArray} (h : atE d s = 0) : validB d = true ∧ nameB s = true ∧ hasG nmF d.2.2 s = true ∧ fileAt d s ∈ d.2.2 ∧ (fileAt d s).1 = s ∧ flB (fileAt d s).2.1 (fileAt d s).2.2 = true := by
  obtain ⟨-, hm, hf, hn, hv, hr, -, hp⟩ := open_ok h
  refine ⟨hv, ?_, (fnd_has (valid_srt hv) hp).1, hm, hn, hf⟩
  have h1 := ok_mem (valid_parts hv).2.2.2 _ hm
  unfold fileB at h1
  rw [Bool.and_eq_true, hn] at h1
  exact h1.1
theorem set_valid {d : Dk} {s : ByteArray} (h : atE d s = 0) {b : List Nat} {p : List Wr} (hf : flB b p = true) : validB (d.1, leftN d.2.1, putG nmF d.2.2 (s, b, p)) = true := by
  obtain ⟨hv, hn, hh, -⟩ := at_parts h
  have hp := valid_parts hv
  refine put_valid hv ?_ ?_ (leftN_ge hp.2.1)
  · unfold fileB
    rw [Bool.and_eq_true]
    exact ⟨hn, hf⟩
  · rw [put_len hv hh]
    exact hp.2.2.1
theorem sync_valid {d : Dk} {s : ByteArray} (h : atE d s = 0) : validB (syncD d s) = true := by
  obtain ⟨hv, hn, hh, hm, hnm, hf⟩ := at_parts h
  rw [sync_eq h, hnm]
  refine set_valid h (flB_nil ?_)
  exact contL_le _
theorem remove_valid {d : Dk} {s : ByteArray} (h : atE d s = 0) : validB (removeD d s) = true := by
  obtain ⟨hv, -⟩ := at_parts h
  rw [remove_eq h]
  exact (drop_valid hv s (leftN_ge (valid_parts hv).2.1)).1
theorem rename_valid {d : Dk} {s t : ByteArray} (h : renameE d s t = 0) : validB (renameD d s t) = true := by
  have hc : nameB t = true ∧ atE d s = 0 := by
    unfold renameE at h
    by_cases c : nameB t = true
    · rw [if_pos c] at h; exact ⟨c, h⟩
    · rw [if_neg c] at h; exact absurd h (by decide)
  obtain ⟨hv, hn, hh, hm, hnm, hf⟩ := at_parts hc.2
  have hp := valid_parts hv
  have hd := drop_valid hv s (l := leftN d.2.1) (leftN_ge hp.2.1)
  rw [rename_eq h]
  refine put_valid (d := (d.1, leftN d.2.1, dropG nmF d.2.2 s)) hd.1 ?_ ?_ (leftN_ge hp.2.1)
  · unfold fileB
    rw [Bool.and_eq_true]
    exact ⟨hc.1, hf⟩
  · show (putG nmF (dropG nmF d.2.2 s) _).length ≤ 256
    rw [putG_insR nmF _ (dropG_srt (valid_srt hv)), insR_len]
    have hlt : (dropG nmF d.2.2 s).length + 1 = d.2.2.length := by
      unfold dropG
      rw [if_pos hh, List.length_append, List.length_take, List.length_drop]
      have := hasG_lt hh
      omega
    split <;> omega
theorem flB_write {b : List Nat} {p : List Wr} (hf : flB b p = true) {off : Nat} {x : List Nat} (hoff : off ≤ (apL b p).length) (hx : max (apL b p).length (off + x.length) ≤ 1048576) : flB b (p ++ [((off : Int), x, false)]) = true := by
  unfold flB at hf ⊢
  rw [Bool.and_eq_true] at hf ⊢
  refine ⟨hf.1, ?_⟩
  rw [okP_append, hf.2, Bool.true_and, okP, Bool.and_eq_true, Bool.and_eq_true]
  refine ⟨⟨?_, ?_⟩, rfl⟩
  · simp [wOk]
    omega
  · rw [decide_eq_true_iff, apW_length]
    simpa using hx
theorem flB_trunc {b : List Nat} {p : List Wr} (hf : flB b p = true) {off : Nat} (hoff : off ≤ (apL b p).length) : flB b (p ++ [((off : Int), [], true)]) = true := by
  have hl : (apL b p).length ≤ 1048576 := by
    have h := hf
    unfold flB at h
    rw [Bool.and_eq_true, decide_eq_true_iff] at h
    exact okP_le p b h.2 h.1
  unfold flB at hf ⊢
  rw [Bool.and_eq_true] at hf ⊢
  refine ⟨hf.1, ?_⟩
  rw [okP_append, hf.2, Bool.true_and, okP, Bool.and_eq_true, Bool.and_eq_true]
  refine ⟨⟨?_, ?_⟩, rfl⟩
  · simp [wOk]
    omega
  · rw [decide_eq_true_iff, apW_length]
    simp
    omega
theorem wEx_max {d : Dk} {x : Fl} {off : Nat} {b : List Nat} (h : wEx d x off b = 0) : max (contL x).length (off + b.length) ≤ 1048576 := by
  unfold wEx at h
  by_cases c : 1048576 < max (contL x).length (off + b.length)
  · rw [if_pos c] at h; cases h
  · omega
theorem append_parts {d : Dk} {s : ByteArray} {b : List Nat} (h : appendE d s b = 0) : atE d s = 0 ∧ wEx d (fileAt d s) (contL (fileAt d s)).length b = 0 := by
  unfold appendE at h
  by_cases c : atE d s = 0
  · rw [if_pos c] at h; exact ⟨c, h⟩
  · rw [if_neg c] at h; exact absurd h c
theorem append_valid {d : Dk} {s : ByteArray} {b : List Nat} (h : appendE d s b = 0) : validB (appendD d s b) = true := by
  obtain ⟨ha, hw⟩ := append_parts h
  obtain ⟨hv, hn, hh, hm, hnm, hf⟩ := at_parts ha
  unfold appendD
  rw [if_pos h]
  unfold wDx
  rw [hnm]
  refine set_valid ha (flB_write hf ?_ ?_)
  · rw [contL_ok (s := (fileAt d s).1) hf]
    exact Nat.le_refl _
  · have h1 := wEx_max hw
    rw [contL_ok (s := (fileAt d s).1) hf] at h1 ⊢
    exact h1
theorem put_parts {d : Dk} {s : ByteArray} {off : Int} {b : List Nat} (h : putE d s off b = 0) : atE d s = 0 ∧ 0 ≤ off ∧ off ≤ ((contL (fileAt d s)).length : Int) ∧ wEx d (fileAt d s) off.toNat b = 0 := by
  unfold putE at h
  by_cases c : atE d s = 0
  · rw [if_pos c] at h
    by_cases c2 : off < 0 ∨ ((contL (fileAt d s)).length : Int) < off
    · rw [if_pos c2] at h; cases h
    · rw [if_neg c2] at h
      exact ⟨c, by omega, by omega, h⟩
  · rw [if_neg c] at h; exact absurd h c
theorem putD_valid {d : Dk} {s : ByteArray} {off : Int} {b : List Nat} (h : putE d s off b = 0) : validB (putD d s off b) = true := by
  obtain ⟨ha, h0, h1, hw⟩ := put_parts h
  obtain ⟨hv, hn, hh, hm, hnm, hf⟩ := at_parts ha
  obtain ⟨o, rfl⟩ := Int.eq_ofNat_of_zero_le h0
  unfold putD
  rw [if_pos h]
  unfold wDx
  rw [hnm]
  rw [contL_ok (s := (fileAt d s).1) hf] at h1
  refine set_valid ha (flB_write hf (by omega) ?_)
  have h2 := wEx_max hw
  rw [contL_ok (s := (fileAt d s).1) hf, Int.toNat_natCast] at h2
  exact h2
theorem trunc_parts {d : Dk} {s : ByteArray} {n : Int} (h : truncE d s n = 0) : atE d s = 0 ∧ 0 ≤ n ∧ n ≤ ((contL (fileAt d s)).length : Int) := by
  unfold truncE at h
  by_cases c : atE d s = 0
  · rw [if_pos c] at h
    by_cases c2 : n < 0 ∨ ((contL (fileAt d s)).length : Int) < n
    · rw [if_pos c2] at h; cases h
    · exact ⟨c, by omega, by omega⟩
  · rw [if_neg c] at h; exact absurd h c
theorem trunc_valid {d : Dk} {s : ByteArray} {n : Int} (h : truncE d s n = 0) : validB (truncD d s n) = true := by
  obtain ⟨ha, h0, h1⟩ := trunc_parts h
  obtain ⟨hv, hn, hh, hm, hnm, hf⟩ := at_parts ha
  obtain ⟨o, rfl⟩ := Int.eq_ofNat_of_zero_le h0
  unfold truncD
  rw [if_pos h]
  unfold wDx
  rw [hnm]
  rw [contL_ok (s := (fileAt d s).1) hf] at h1
  exact set_valid ha (flB_trunc hf (by omega))
theorem totN_cons (x : Fl) (L : List Fl) : totN (x :: L) = (contL x).length + totN L := by simp [totN]
theorem tot_insR (f : Fl) : ∀ L : List Fl, totN (insR nmF L f) + (if hasG nmF L f.1 = true then (contL (L.getD (lbG nmF L f.1) fl0)).length else 0) = totN L + (contL f).length
  | [] => by simp [insR, totN, hasG]
  | x :: L => by
    have ih := tot_insR f L
    rw [hasG_cons, lbG_cons]
    unfold insR
    by_cases c : ltS (nmF x) f.1 = true
    · rw [if_pos c, if_pos c, if_pos c, totN_cons, totN_cons, List.getD_cons_succ]
      omega
    · rw [if_neg c, if_neg c, if_neg c, List.getD_cons_zero]
      by_cases e : nmEq (nmF x) f.1 = true
      · rw [if_pos e, if_pos e, totN_cons, totN_cons]
        omega
      · rw [if_neg e, if_neg e, totN_cons, totN_cons]
        omega
theorem tot_put {d : Dk} (h : validB d = true) (f : Fl) : totN (putG nmF d.2.2 f) + (if hasG nmF d.2.2 f.1 = true then (contL (d.2.2.getD (lbG nmF d.2.2 f.1) fl0)).length else 0) = totN d.2.2 + (contL f).length := by
  rw [putG_insR nmF f (valid_srt h)]
  exact tot_insR f _
theorem at_lb {d : Dk} {s : ByteArray} (h : atE d s = 0) : fileAt d s = d.2.2.getD (lbG nmF d.2.2 s) fl0 := by
  obtain ⟨-, -, -, -, hv, -, hi, hp⟩ := open_ok h
  unfold fileAt
  rw [hi, (fnd_has (valid_srt hv) hp).2]
theorem tot_set {d : Dk} {s : ByteArray} (h : atE d s = 0) (b : List Nat) (p : List Wr) : totN (putG nmF d.2.2 (s, b, p)) + (contL (fileAt d s)).length = totN d.2.2 + (contL (s, b, p)).length := by
  obtain ⟨hv, hn, hh, -⟩ := at_parts h
  have h1 := tot_put hv (s, b, p)
  rw [if_pos (show hasG nmF d.2.2 (s, b, p).1 = true from hh), ← at_lb h] at h1
  exact h1
theorem tot_append {d : Dk} {s : ByteArray} {b : List Nat} (h : appendE d s b = 0) : totN (appendD d s b).2.2 = totN d.2.2 + b.length := by
  obtain ⟨ha, hw⟩ := append_parts h
  obtain ⟨hv, hn, hh, hm, hnm, hf⟩ := at_parts ha
  have h1 := tot_set ha (fileAt d s).2.1 ((fileAt d s).2.2 ++ [(((contL (fileAt d s)).length : Int), b, false)])
  have h2 : flB (fileAt d s).2.1 ((fileAt d s).2.2 ++ [(((contL (fileAt d s)).length : Int), b, false)]) = true := by
    have h3 := wEx_max hw
    rw [contL_ok (s := (fileAt d s).1) hf] at h3 ⊢
    exact flB_write hf (Nat.le_refl _) h3
  unfold appendD
  rw [if_pos h]
  unfold wDx
  rw [hnm]
  rw [contL_ok (s := s) h2] at h1
  have h4 : (apL (fileAt d s).2.1 ((fileAt d s).2.2 ++ [(((contL (fileAt d s)).length : Int), b, false)])).length = (contL (fileAt d s)).length + b.length := by
    rw [contL_ok (s := (fileAt d s).1) hf, apL_end, List.length_append]
  rw [h4] at h1
  show totN (putG nmF d.2.2 _) = _
  omega
theorem apL_one (b : List Nat) (w : Wr) : apL b [w] = apW b w := rfl
theorem tot_drop {d : Dk} {s : ByteArray} (h : atE d s = 0) : totN (dropG nmF d.2.2 s) + (contL (fileAt d s)).length = totN d.2.2 := by
  obtain ⟨hv, hn, hh, -⟩ := at_parts h
  have hlt := hasG_lt hh
  rw [at_lb h]
  unfold dropG
  rw [if_pos hh]
  generalize lbG nmF d.2.2 s = j at *
  have e : d.2.2 = d.2.2.take j ++ d.2.2.getD j fl0 :: d.2.2.drop (j + 1) := by
    rw [List.getD_eq_getElem?_getD, List.getElem?_eq_getElem hlt]
    show _ = d.2.2.take j ++ d.2.2[j] :: d.2.2.drop (j + 1)
    rw [← List.drop_eq_getElem_cons hlt, List.take_append_drop]
  have hs : ∀ A B : List Fl, totN (A ++ B) = totN A + totN B := fun A B => by simp [totN]
  conv => rhs; rw [e]
  rw [hs, hs, totN_cons]
  omega
theorem tot_remove {d : Dk} {s : ByteArray} (h : atE d s = 0) : totN (removeD d s).2.2 ≤ totN d.2.2 := by
  rw [remove_eq h]
  have := tot_drop h
  show totN (dropG nmF d.2.2 s) ≤ _
  omega
theorem tot_sync {d : Dk} {s : ByteArray} (h : atE d s = 0) : totN (syncD d s).2.2 = totN d.2.2 := by
  obtain ⟨hv, hn, hh, hm, hnm, hf⟩ := at_parts h
  rw [sync_eq h, hnm]
  have h1 := tot_set h (contL (fileAt d s)) []
  have h2 : contL (s, contL (fileAt d s), []) = contL (fileAt d s) := contL_ok (s := s) (b := contL (fileAt d s)) (p := []) (flB_nil (contL_le _))
  rw [h2] at h1
  show totN (putG nmF d.2.2 _) = _
  omega
theorem tot_putD {d : Dk} {s : ByteArray} {off : Int} {b : List Nat} (h : putE d s off b = 0) : totN (putD d s off b).2.2 + (contL (fileAt d s)).length = totN d.2.2 + max (contL (fileAt d s)).length (off.toNat + b.length) := by
  obtain ⟨ha, h0, h1, hw⟩ := put_parts h
  obtain ⟨hv, hn, hh, hm, hnm, hf⟩ := at_parts ha
  obtain ⟨o, rfl⟩ := Int.eq_ofNat_of_zero_le h0
  rw [Int.toNat_natCast] at hw ⊢
  have h2 := wEx_max hw
  have h3 := tot_set ha (fileAt d s).2.1 ((fileAt d s).2.2 ++ [((o : Int), b, false)])
  rw [contL_ok (s := (fileAt d s).1) hf] at h1 h2 h3 ⊢
  rw [contL_ok (s := s) (flB_write hf (by omega) h2), apL_append] at h3
  unfold putD
  rw [if_pos h]
  unfold wDx
  rw [hnm]
  have h4 : (apL (apL (fileAt d s).2.1 (fileAt d s).2.2) [((o : Int), b, false)]).length = max (apL (fileAt d s).2.1 (fileAt d s).2.2).length (o + b.length) := by
    rw [apL_one, apW_length]
    simp
  rw [h4] at h3
  exact h3
theorem tot_trunc {d : Dk} {s : ByteArray} {n : Int} (h : truncE d s n = 0) : totN (truncD d s n).2.2 ≤ totN d.2.2 := by
  obtain ⟨ha, h0, h1⟩ := trunc_parts h
  obtain ⟨hv, hn, hh, hm, hnm, hf⟩ := at_parts ha
  obtain ⟨o, rfl⟩ := Int.eq_ofNat_of_zero_le h0
  have h3 := tot_set ha (fileAt d s).2.1 ((fileAt d s).2.2 ++ [((o : Int), [], true)])
  rw [contL_ok (s := (fileAt d s).1) hf] at h1 h3
  rw [contL_ok (s := s) (flB_trunc hf (by omega)), apL_append] at h3
  unfold truncD
  rw [if_pos h]
  unfold wDx
  rw [hnm]
  have h4 : (apL (apL (fileAt d s).2.1 (fileAt d s).2.2) [((o : Int), [], true)]).length = min (apL (fileAt d s).2.1 (fileAt d s).2.2).length o := by
    rw [apL_one, apW_length]
    simp
  rw [h4] at h3
  show totN (putG nmF d.2.2 _) ≤ _
  omega
theorem tot_create {d : Dk} {s : ByteArray} (h : createE d s = 0) : totN (createD d s).2.2 = totN d.2.2 := by
  have hr : readyE d s = 0 := by
    unfold createE at h
    by_cases c : readyE d s = 0
    · exact c
    · rw [if_neg c] at h; exact absurd h c
  have hv := (ready_len hr).2
  rw [create_eq h]
  have h1 := tot_put hv (s, [], [])
  have hno : ¬ hasG nmF d.2.2 s = true := fun hh => by
    have h2 := fnd_lb (s := s) (valid_srt hv)
    unfold createE at h
    rw [if_pos hr, h2, if_pos hh, if_pos (by omega)] at h
    cases h
  rw [if_neg (show ¬ hasG nmF d.2.2 (s, [], []).1 = true from hno)] at h1
  have h3 : (contL (s, [], [])).length = 0 := rfl
  rw [h3] at h1
  exact h1
theorem tot_rename {d : Dk} {s t : ByteArray} (h : renameE d s t = 0) : totN (renameD d s t).2.2 ≤ totN d.2.2 := by
  have ha : atE d s = 0 := by
    unfold renameE at h
    by_cases c : nameB t = true
    · rw [if_pos c] at h; exact h
    · rw [if_neg c] at h; exact absurd h (by decide)
  obtain ⟨hv, hn, hh, hm, hnm, hf⟩ := at_parts ha
  have h1 := tot_drop ha
  have h2 := tot_put (drop_valid hv s (l := leftN d.2.1) (leftN_ge (valid_parts hv).2.1)).1 (t, (fileAt d s).2.1, (fileAt d s).2.2)
  have h3 : contL (t, (fileAt d s).2.1, (fileAt d s).2.2) = contL (fileAt d s) := rfl
  rw [rename_eq h]
  rw [h3] at h2
  show totN (putG nmF (dropG nmF d.2.2 s) _) ≤ _
  dsimp only at h2
  omega
theorem srt_uniq {L : List Fl} (h : SrtF L) {f g : Fl} (hf : f ∈ L) (hg : g ∈ L) (he : f.1 = g.1) : f = g := by
  obtain ⟨i, hi, rfl⟩ := List.mem_iff_getElem.1 hf
  obtain ⟨j, hj, rfl⟩ := List.mem_iff_getElem.1 hg
  have hp := List.pairwise_iff_getElem.1 h
  rcases Nat.lt_trichotomy i j with c | c | c
  · have h1 : ltS L[i].1 L[j].1 = true := hp i j hi hj c
    rw [he, ltS_irr] at h1
    cases h1
  · subst c
    rfl
  · have h1 : ltS L[j].1 L[i].1 = true := hp j i hj hi c
    rw [he, ltS_irr] at h1
    cases h1
/-- A file of a valid disk is found under its name. -/
theorem at_mem {d : Dk} (hv : validB d = true) (h0 : d.2.1 ≠ 0) {f : Fl} (hf : f ∈ d.2.2) : atE d f.1 = 0 ∧ fileAt d f.1 = f := by
  have hb := ok_mem (valid_parts hv).2.2.2 f hf
  unfold fileB at hb
  rw [Bool.and_eq_true] at hb
  have ha : atE d f.1 = 0 := by
    have hr : readyE d f.1 = 0 := by
      unfold readyE
      rw [hv, hb.1, if_neg h0]
      rfl
    unfold atE
    rw [hr, if_pos rfl, if_neg]
    unfold fndL
    cases hc : d.2.2.findIdx? (fun g => nmEq g.1 f.1) with
    | some i => show ¬ ((i : Int) < 0); omega
    | none =>
      rw [List.findIdx?_eq_none_iff] at hc
      have := hc f hf
      rw [nmEq_refl] at this
      cases this
  obtain ⟨-, hm, -, hn, -⟩ := open_ok ha
  exact ⟨ha, srt_uniq (valid_srt hv) hm hf hn⟩
theorem size_mem {d : Dk} (hv : validB d = true) (h0 : d.2.1 ≠ 0) {f : Fl} (hf : f ∈ d.2.2) : sizeD d f.1 = ((contL f).length : Int) := by
  obtain ⟨h1, h2⟩ := at_mem hv h0 hf
  unfold sizeD
  rw [h1, if_pos rfl, h2]
theorem crash_valid {d : Dk} {l : List Kep} (h : validB d = true) : validB (crashD d l) = true := by
  have hp := valid_parts h
  unfold crashD
  rw [if_pos h]
  unfold validB
  simp only [Bool.and_eq_true, decide_eq_true_eq]
  refine ⟨⟨⟨hp.1, by decide⟩, by rw [List.length_map]; exact hp.2.2.1⟩, ok_of ?_ fun g hg => ?_⟩
  · exact List.Pairwise.map _ (fun x y hxy => hxy) (valid_srt h)
  · obtain ⟨f, hf, rfl⟩ := List.mem_map.1 hg
    have h1 := ok_mem hp.2.2.2 f hf
    unfold fileB at h1 ⊢
    rw [Bool.and_eq_true] at h1 ⊢
    exact ⟨h1.1, flB_nil (contL_le _)⟩
end Go.Proofs.Ytpipgbjkkiheaaa.Gf
