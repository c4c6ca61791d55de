/- What is proved here: the mathematics of the two files of the law DiskMoves. No program text. -/
import Derived.Test.YtpjkgbngiifkmaaK10H
namespace Go.Proofs.Ytpjkgbngiifkmaa.Gf
open Go

abbrev sO : ByteArray := ⟨#[111, 108, 100]⟩
abbrev sF : ByteArray := ⟨#[102, 114, 101, 115, 104]⟩
theorem nmO : nameB sO = true := by decide
theorem nmFr : nameB sF = true := by decide
theorem lt_FO : ltS sF sO = true := by
  rw [ltS_eq, Lib.toList_data, Lib.toList_data]
  decide
theorem ne_FO : nmEq sF sO = false := nmEq_lt lt_FO
theorem ne_OF : nmEq sO sF = false := nmEq_gt lt_FO
theorem nlt_OF : ltS sO sF = false := ltS_asymm lt_FO
/-- A disk with both files. -/
abbrev twoD (b : List Nat) (p : List Wr) (a : List Nat) : Dk := (0, -1, [(sF, b, p), (sO, a, [])])
section
variable {a b : List Nat} {p : List Wr}
theorem two_srt : SrtF [(sF, b, p), (sO, a, [])] := by
  unfold SrtF SrtN
  simp [lt_FO]
theorem two_valid (ha : a.length ≤ 1048576) (hf : flB b p = true) : validB (twoD b p a) = true := by
  unfold validB
  simp only [Bool.and_eq_true, decide_eq_true_eq]
  refine ⟨⟨⟨by decide, by decide⟩, by show 2 ≤ 256; decide⟩, ok_of two_srt fun f hm => ?_⟩
  unfold fileB
  rw [Bool.and_eq_true]
  rcases List.mem_cons.1 hm with rfl | hm
  · exact ⟨nmFr, hf⟩
  · obtain rfl := List.mem_singleton.1 hm
    exact ⟨nmO, flB_nil ha⟩
theorem two_fnd : fndL (twoD b p a).2.2 sF = 0 := by
  unfold fndL
  simp [List.findIdx?_cons, nmEq_refl]
theorem two_ready (ha : a.length ≤ 1048576) (hf : flB b p = true) : readyE (twoD b p a) sF = 0 := by
  unfold readyE
  rw [two_valid ha hf, nmFr]
  rfl
theorem two_at (ha : a.length ≤ 1048576) (hf : flB b p = true) : atE (twoD b p a) sF = 0 := by
  unfold atE
  rw [two_ready ha hf, two_fnd]
  rfl
theorem two_file (ha : a.length ≤ 1048576) (hf : flB b p = true) : fileAt (twoD b p a) sF = (sF, b, p) := by
  unfold fileAt atI
  rw [two_ready ha hf, if_pos rfl, two_fnd]
  rfl
theorem two_put (x : List Nat) (q : List Wr) : putG nmF [(sF, b, p), (sO, a, [])] (sF, x, q) = [(sF, x, q), (sO, a, [])] := by
  rw [putG_insR nmF _ two_srt]
  simp [insR, nmF, ltS_irr, nmEq_refl]
theorem one_createE (ha : a.length ≤ 1048576) : createE (oneD (-1) sO a []) sF = 0 := by
  have hr : readyE (oneD (-1) sO a []) sF = 0 := by
    unfold readyE
    rw [one_valid (by decide) nmO (flB_nil ha), nmFr]
    rfl
  unfold createE
  rw [hr, show fndL (oneD (-1) sO a []).2.2 sF = -1 by unfold fndL; simp [List.findIdx?_cons, ne_OF]]
  rfl
theorem one_create (ha : a.length ≤ 1048576) : createD (oneD (-1) sO a []) sF = twoD [] [] a := by
  rw [create_eq (one_createE ha)]
  show (0, -1, _) = _
  rw [putG_insR nmF _ (List.pairwise_singleton _ _)]
  simp [insR, nmF, nlt_OF, ne_OF]
theorem two_appE (ha : a.length ≤ 1048576) (hb : b.length ≤ 1048576) : appendE (twoD [] [] a) sF b = 0 := by
  unfold appendE
  rw [two_at ha (flB_nil (by decide)), if_pos rfl, two_file ha (flB_nil (by decide))]
  unfold wEx
  rw [contL_ok (flB_nil (by decide)), if_neg (by simp [apL]; omega), if_neg (by intro h; exact h.1 rfl)]
theorem two_app (ha : a.length ≤ 1048576) (hb : b.length ≤ 1048576) : appendD (twoD [] [] a) sF b = twoD [] [(0, b, false)] a := by
  unfold appendD
  rw [two_appE ha hb, if_pos rfl, two_file ha (flB_nil (by decide)), contL_ok (flB_nil (by decide))]
  unfold wDx
  show (0, -1, _) = _
  rw [show (((sF, [], []) : Fl).1, ((sF, [], []) : Fl).2.1, ((sF, [], []) : Fl).2.2 ++ [(((apL [] []).length : Int), b, false)]) = (sF, [], [(0, b, false)]) from rfl, two_put]
theorem w1_ok (hb : b.length ≤ 1048576) : flB [] [(0, b, false)] = true := by
  have h := flB_end (b := []) (p := []) (x := b) (flB_nil (by decide)) (by simp [apL]; omega)
  exact h
theorem w1_apL : apL [] [(0, b, false)] = b := by
  have h := apL_end [] [] b
  simpa [apL] using h
theorem two_sync (ha : a.length ≤ 1048576) (hb : b.length ≤ 1048576) : syncD (twoD [] [(0, b, false)] a) sF = twoD b [] a := by
  rw [sync_eq (two_at ha (w1_ok hb)), two_file ha (w1_ok hb), contL_ok (w1_ok hb), w1_apL]
  show (0, -1, _) = _
  rw [two_put]
theorem two_renE (ha : a.length ≤ 1048576) (hf : flB b p = true) : renameE (twoD b p a) sF sO = 0 := by
  unfold renameE
  rw [nmO, if_pos rfl, two_at ha hf]
theorem two_ren (ha : a.length ≤ 1048576) (hf : flB b p = true) : renameD (twoD b p a) sF sO = oneD (-1) sO b p := by
  rw [rename_eq (two_renE ha hf), two_file ha hf]
  show (0, -1, _) = _
  rw [show dropG nmF (twoD b p a).2.2 sF = [(sO, a, [])] by
    rw [dropG_cons]
    simp [nmF, ltS_irr, nmEq_refl], one_put (s := sO) (b := a) (p := []) (sO, b, p)]
theorem one_at6 (hf : flB b p = true) : atE (oneD (-1) sO b p) sF = 6 := by
  unfold atE
  have hr : readyE (oneD (-1) sO b p) sF = 0 := by
    unfold readyE
    rw [one_valid (by decide) nmO hf, nmFr]
    rfl
  rw [hr, show fndL (oneD (-1) sO b p).2.2 sF = -1 by unfold fndL; simp [List.findIdx?_cons, ne_OF]]
  rfl
theorem two_pn {k : Nat} (h : p.length ≤ k) : PnD (twoD b p a) k := fun f hf => by
  rcases List.mem_cons.1 hf with rfl | hf
  · exact h
  · obtain rfl := List.mem_singleton.1 hf
    exact Nat.zero_le _
theorem one_readE {n : Int} (hf : flB b p = true) (h0 : 0 ≤ n) (hn : n ≤ ((apL b p).length : Int)) : readE (oneD (-1) sO b p) sO 0 n = 0 ∧ readL (oneD (-1) sO b p) sO 0 n = (apL b p).take n.toNat := by
  have h1 : readE (oneD (-1) sO b p) sO 0 n = 0 := by
    unfold readE
    rw [one_at (by decide) nmO hf, show (if (-1 : Int) = 0 then 13 else 0) = 0 from rfl, if_pos rfl, one_file (by decide) nmO hf (by decide), contL_ok hf, if_neg (by omega)]
  refine ⟨h1, ?_⟩
  unfold readL
  rw [h1, if_pos rfl, one_file (by decide) nmO hf (by decide), contL_ok hf]
  rfl
end
end Go.Proofs.Ytpjkgbngiifkmaa.Gf
