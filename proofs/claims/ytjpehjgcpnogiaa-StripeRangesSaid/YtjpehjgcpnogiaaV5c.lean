/- What is proved here: rows of one length in different blocks of a call's own, and the contract of the reference's Split. Condition: at most 100,000 bytes. -/
import Derived.Test.YtjpehjgcpnogiaaV5b
import Derived.StillTailTactics
namespace Go.Proofs.Ytjpehjgcpnogiaa.Gf
open Go Go.Joins Go.ChangeShapes Go.WideShapes Go.ChangeAt Go.RowKit Go.Deep Go.Proofs.Ytjpehjgcpnogiaa.By

def mkS (M g : Nat) : Value := .slice (some ⟨g, 0, none⟩) M M
theorem own_at {w : World} {base g n c : Nat} {l : List Nat} (h : Own w base (.slice (some ⟨g, 0, none⟩) n c) l) : base ≤ g ∧ g < w.heap.size ∧ ∃ cur fr, w.heap[g]? = some (.cells cur 5 fr) := by
  obtain ⟨_, _, ⟨h3, _⟩ | ⟨q, _, cq, h3, h4, hq, _⟩⟩ := h
  · cases h3
  · cases h3
    exact ⟨h4, lt_of_some hq, cq, _, hq⟩
/-- Rows of one length, each in a block of its own. -/
structure Dr (w : World) (b0 : Nat) (v : Value) (gs : List Nat) (M : Nat) (L : List (List Nat)) : Prop where
  own : OwnR w b0 v (gs.map (mkS M)) L
  inc : ∀ i j, i < j → j < gs.length → gs.getD i 0 < gs.getD j 0
  wid : ∀ k, k < L.length → (L.getD k []).length = M
section
variable {w w' : World} {b0 M k : Nat} {v : Value} {gs : List Nat} {L : List (List Nat)}
theorem Dr.glen (h : Dr w b0 v gs M L) : gs.length = L.length := by simpa using h.own.2.1
theorem map_at (hk : k < gs.length) : (gs.map (mkS M)).getD k undef = mkS M (gs.getD k 0) := by simp [List.getD, hk]
theorem Dr.row (h : Dr w b0 v gs M L) (hk : k < L.length) : Own w b0 (mkS M (gs.getD k 0)) (L.getD k []) := by
  have := h.own.2.2 k hk
  rwa [map_at (by rw [h.glen]; exact hk)] at this
theorem Dr.later (h : Dr w b0 v gs M L) (hb : Below w.heap.size w w') : Dr w' b0 v gs M L := ⟨ownr_below h.own hb, h.inc, h.wid⟩
theorem dr_nil (w : World) (b0 M : Nat) : Dr w b0 (.slice none 0 0) [] M [] := ⟨ownr_nil _ _, fun i j _ hj => by simp at hj, fun k hk => by simp at hk⟩
theorem Dr.push {v' : Value} {g : Nat} {l : List Nat} (h : Dr w b0 v gs M L) (hx : Own w b0 (mkS M g) l) (hl : l.length = M) (hgt : ∀ i, i < gs.length → gs.getD i 0 < g) (hg : w.grownBy w' v.ownBlock) (ho : w'.ownsRow b0 28 1 v' (gs.length + 1) (gs.map (mkS M) ++ [mkS M g])) : Dr w' b0 v' (gs ++ [g]) M (L ++ [l]) := by
  have hgl := h.glen
  refine ⟨?_, fun i j hij hj => ?_, fun k hk => ?_⟩
  · have := ownr_push h.own hx hg (by rw [List.length_map]; exact ho)
    simpa using this
  · simp at hj
    by_cases e : j < gs.length
    · have h1 : (gs ++ [g]).getD i 0 = gs.getD i 0 := by simp [List.getD, List.getElem?_append, show i < gs.length by omega]
      have h2 : (gs ++ [g]).getD j 0 = gs.getD j 0 := by simp [List.getD, List.getElem?_append, e]
      rw [h1, h2]
      exact h.inc i j hij e
    · obtain rfl : j = gs.length := by omega
      have h1 : (gs ++ [g]).getD i 0 = gs.getD i 0 := by simp [List.getD, List.getElem?_append, hij]
      have h2 : (gs ++ [g]).getD gs.length 0 = g := by simp [List.getD]
      rw [h1, h2]
      exact hgt i hij
  · by_cases e : k < L.length
    · have h2 : (L ++ [l]).getD k [] = L.getD k [] := by simp [List.getD, List.getElem?_append, e]
      rw [h2]
      exact h.wid k e
    · have e2 : k = L.length := by simp at hk; omega
      have h2 : (L ++ [l]).getD k [] = l := by rw [e2]; simp [List.getD]
      rw [h2, hl]
theorem Dr.cell {g n c : Nat} (h : Dr w b0 (.slice (some ⟨g, 0, none⟩) n c) gs M L) (hk : k < L.length) : w.cell? ⟨g, k, none⟩ = some (mkS M (gs.getD k 0)) := by
  have hgl := h.glen
  obtain ⟨_, ⟨h3, _⟩ | ⟨g2, cap, cur, h3, hg, hb, hc, hm, hsz, ht⟩⟩ := h.own.1
  · cases h3
  · cases h3
    rw [cell_of_row w g k cur 28 (0, 0) hb]
    have e := congrArg (·[k]?) ht
    have hk3 : k < gs.length := by omega
    simp only [Nat.mul_one, List.getElem?_take, List.length_map, hk3, if_true] at e
    simpa [List.getD, hk3] using e
/-- A store into a row. -/
theorem Dr.set {q x : Nat} (h : Dr w b0 v gs M L) (hk : k < L.length) (hq : q < M) (hx : x < 256) : Dr (w.setCell ⟨gs.getD k 0, q, none⟩ (.int .u8 (x : Int))) b0 v gs M (L.set k ((L.getD k []).set q x)) := by
  have hgl := h.glen
  obtain ⟨_, _, cur, fr, hcur⟩ := own_at (h.row hk)
  refine ⟨⟨?_, by simp [hgl], fun j hj => ?_⟩, h.inc, fun j hj => ?_⟩
  · obtain ⟨h1, h2 | ⟨g2, cap, cu2, h3, hg, hb, hc, hm, hsz, ht⟩⟩ := h.own.1
    · exact ⟨h1, Or.inl h2⟩
    · refine ⟨h1, Or.inr ⟨g2, cap, cu2, h3, hg, (heap_setCell_other _ _ _ _ fun e => ?_).trans hb, hc, hm, hsz, ht⟩⟩
      subst e
      rw [hcur] at hb
      simp at hb
  · rw [List.length_set] at hj
    rw [map_at (by omega)]
    by_cases e : j = k
    · subst e
      rw [getD_set_eq hj]
      exact own_set (h.row hk) (h.wid j hj) hq hx
    · rw [getD_set_other e]
      refine own_keep (h.row hj) fun b hb => heap_setCell_other _ _ _ _ fun e2 => ?_
      cases hb
      have e4 : gs.getD j 0 = gs.getD k 0 := by first | exact e2 | exact e2.symm
      rcases Nat.lt_or_gt_of_ne e with e3 | e3
      · have := h.inc j k e3 (by omega)
        omega
      · have := h.inc k j e3 (by omega)
        omega
  · rw [List.length_set] at hj
    by_cases e : j = k
    · subst e
      rw [getD_set_eq hj, List.length_set, h.wid j hj]
    · rw [getD_set_other e, h.wid j hj]
end
/-- The shards when i bytes are there. -/
def partL (b : List Nat) (M i : Nat) : List (List Nat) := (List.range 4).map fun s => (List.range M).map fun a => if posOf s a < i then b.getD (posOf s a) 0 else 0
theorem partL_length (b : List Nat) (M i : Nat) : (partL b M i).length = 4 := by simp [partL]
theorem partL_getD (b : List Nat) {M i s : Nat} (hs : s < 4) : (partL b M i).getD s [] = (List.range M).map fun a => if posOf s a < i then b.getD (posOf s a) 0 else 0 := by simp [partL, List.getD, hs]
theorem part_zero (b : List Nat) (M : Nat) : partL b M 0 = List.replicate 4 (List.replicate M 0) := by
  have h : ∀ s, ((List.range M).map fun a => if posOf s a < 0 then b.getD (posOf s a) 0 else 0) = List.replicate M 0 := fun s => by
    simp only [Nat.not_lt_zero, if_false]
    rw [List.map_const', List.length_range]
  unfold partL
  simp only [h]
  rw [List.map_const', List.length_range]
theorem part_step (b : List Nat) {M i : Nat} (_h : atOf i < M) : partL b M (i + 1) = (partL b M i).set (shOf i) (((partL b M i).getD (shOf i) []).set (atOf i) (b.getD i 0)) := by
  have hs4 := sh_lt i
  apply List.ext_getElem (by simp [partL])
  intro s h1 h2
  have hs : s < 4 := by simpa [partL] using h1
  rw [List.getElem_set]
  by_cases e : shOf i = s
  · rw [if_pos e, partL_getD b hs4]
    apply List.ext_getElem (by simp [partL])
    intro a h3 h4
    have ha : a < M := by simpa using h4
    rw [List.getElem_set]
    simp only [partL, List.getElem_map, List.getElem_range]
    by_cases e2 : atOf i = a
    · have : posOf s a = i := by rw [← e, ← e2, pos_of]
      rw [if_pos e2, this, if_pos (by omega)]
    · have : posOf s a ≠ i := fun h => e2 (by rw [← h, at_pos a hs])
      rw [if_neg e2, e]
      by_cases e3 : posOf s a < i
      · rw [if_pos (by omega), if_pos e3]
      · rw [if_neg (by omega), if_neg e3]
  · rw [if_neg e]
    simp only [partL, List.getElem_map, List.getElem_range]
    refine List.map_congr_left fun a _ => ?_
    have : posOf s a ≠ i := fun h => e (by rw [← h, sh_pos a hs])
    by_cases e3 : posOf s a < i
    · rw [if_pos (by omega), if_pos e3]
    · rw [if_neg (by omega), if_neg e3]
theorem part_all (b : List Nat) : partL b (szN b.length) b.length = splitL b := by
  unfold partL splitL rowL
  refine List.map_congr_left fun s _ => List.map_congr_left fun a _ => ?_
  by_cases e : posOf s a < b.length
  · rw [if_pos e]
  · rw [if_neg e]
    exact (getD_out (by omega)).symm
set_option maxRecDepth 100000 in
set_option maxHeartbeats 6400000 in
theorem rsplit_any (v : Value) (l : List Nat) (w : World) (s : Sl w v l) (hm : l.length ≤ 100000) : Calls Try.prog 18 #[v] w fun e w' => (∃ v gs, e = .returned v ∧ Dr w' w.heap.size v gs (szN l.length) (splitL l)) ∧ Below w.heap.size w w' := by
  obtain ⟨a, c, hv, -, -⟩ := sl_form s
  obtain ⟨n, hn⟩ : ∃ n, n = l.length := ⟨_, rfl⟩
  rw [← hn] at hv hm ⊢
  subst hv
  have RS := Lib.hid (fun W => rsize5_any (n : Int) W (by omega))
  have hz := RS.out
  rw [szI_nat] at hz
  have RZ := Lib.hid hz
  have RP := Lib.hid (fun (k : Nat) (h : I64b (k : Int)) W => rplace_any (k : Int) W h)
  have hM : szN n ≤ 100000 := by unfold szN; omega
  have HP0 := Lib.hid (part_zero l (szN n))
  have HPS := Lib.hid (fun i (h : atOf i < szN n) => part_step l h)
  have HPA := Lib.hid (part_all l)
  rw [← hn] at HPA
  have HAT := Lib.hid (fun i (h : i < n) => at_lt h)
  generalize szN n = M at *
  have S := Lib.hid s
  have HN := Lib.hid hn
  have HL := Lib.hid fun i => partL_length l M i
  clear hz s hn
  go_enter Try.func18, Try.ntmps18
  go_wp2_with fail
  go_loopw [3, 4] (fun out t wr => ∃ (k : Nat) (gs : List Nat), k ≤ 4 ∧ t = .int .i64 (k : Int) ∧ gs.length = k ∧ Dr wr w.heap.size out gs M (List.replicate k (List.replicate M 0)) ∧ Below w.heap.size w wr) (fun _ t _ => 4 - (intOf t).toNat)
  case atStart => exact ⟨0, [], by omega, rfl, rfl, dr_nil _ _ _, Below.refl _ _⟩
  case round =>
    obtain ⟨k, gs, hk, rfl, hgl, hD, hB⟩ := hrel
    obtain ⟨oa, oc, hv⟩ := ownsRow_form hD.own.1
    rw [List.length_map, hgl] at hv
    subst hv
    have HD := Lib.hid hD
    have HB := Lib.hid hB
    have HGL := Lib.hid hgl
    clear hD hB hgl
    by_cases hk4 : k < 4
    · have hl4 : decide ((k : Int) < 4) = true := decide_eq_true (by omega)
      go_wp2_with fail
      refine (RZ.out wr).mono ?_
      rintro e w' ⟨rfl, rfl⟩
      have AL := Lib.hid ((Below.refl wr.heap.size wr).alloc (Nat.le_refl _) (.cells (cellsOf (List.replicate M 0)).toArray 5))
      have MD := Lib.hid (own_made wr (base := w.heap.size) (n := M) HB.out.size (by unfold maxLen; omega))
      have HRW := Lib.hid (HD.out.later AL.out)
      have AL2 := Lib.hid ((Below.refl (wr.alloc (.cells (cellsOf (List.replicate M 0)).toArray 5)).heap.size (wr.alloc (.cells (cellsOf (List.replicate M 0)).toArray 5))).alloc (Nat.le_refl _) (.cells #[.slice (some ⟨wr.heap.size, 0, none⟩) M M] 28))
      have hrow := (HRW.out.later AL2.out).own.1
      rw [List.length_map, HGL.out] at hrow
      have HROW := Lib.hid hrow
      clear hrow
      go_wp2_with (first
        | ((with_reducible refine make_step (n := M) ?_ (by omega) ?_); exact rfl)
        | (at_builtin; refine app1 (g := wr.heap.size + 1) (dst := some 19) Try.underlying31 infoS rfl (by decide) ?_ ?_ HROW.out (heap_alloc2_new _ _ _) rfl (by omega) (by have := HB.out.size; simp; omega) ?_; exact rfl; exact rfl; intro v3 w3 ho3 hg3; obtain ⟨av, cv, hv3⟩ := ownsRow_form ho3; subst hv3; have HO3 := Lib.hid ho3; have HG3 := Lib.hid hg3; clear ho3 hg3))
      have hbf : Below w.heap.size w w3 := ((bt HB.out AL.out).alloc (bt HB.out AL.out).size _).grown HG3.out (by have := HB.out.size; simp; omega) fun q hq => (HD.out.own.1.lt q hq).1
      have hnew := (HRW.out.later AL2.out).push (own_below' MD.out AL2.out) (by simp) (fun j hj => (own_at (HD.out.row (by rw [← HD.out.glen]; exact hj))).2.1) HG3.out (by rw [HGL.out]; exact HO3.out)
      rw [← List.replicate_succ'] at hnew
      have HNEW := Lib.hid hnew
      have HBF := Lib.hid hbf
      have HLN : Hid ((gs ++ [wr.heap.size]).length = k + 1) := by show _ = _; rw [List.length_append, HGL.out]; rfl
      clear hnew hbf
      go_roundw
      case rel => exact ⟨k + 1, _, by omega, by go_num, HLN.out, HNEW.out, HBF.out⟩
      case measure => simp [intOf]; omega
    · obtain rfl : k = 4 := by omega
      rw [show ((4 : Nat) : Int) = 4 from rfl]
      obtain ⟨g, hg⟩ : ∃ g, oa = some ⟨g, 0, none⟩ := by
        have hgl := HGL.out
        obtain ⟨_, ⟨h3, _⟩ | ⟨g2, cap, cur, h3, _⟩⟩ := HD.out.own.1
        · rw [List.length_map, hgl] at *
          simp at h3
        · injection h3 with h3 _ _
          exact ⟨g2, h3⟩
      subst hg
      have hD := HD.out
      rw [← HP0.out] at hD
      have HD0 := Lib.hid hD
      clear hD HD HGL
      go_wp2_with fail
      go_loopw [5] (fun t wr => ∃ i : Nat, i ≤ n ∧ t = .int .i64 (i : Int) ∧ Dr wr w.heap.size (.slice (some ⟨g, 0, none⟩) 4 oc) gs M (partL l M i) ∧ Below w.heap.size w wr) (fun t _ => n - (intOf t).toNat)
      case atStart => exact ⟨0, by omega, rfl, HD0.out, HB.out⟩
      case round =>
        clear HD0 HB
        obtain ⟨i, hi, rfl, hD, hB⟩ := hrel
        by_cases hin : i < n
        · have hl4 : decide ((i : Int) < (n : Int)) = true := decide_eq_true (by omega)
          have hp := RP.out i (by unfold I64b; omega) wr
          rw [plS_nat, plA_nat, plE_nat] at hp
          have hsh := sh_lt i
          have hat := HAT.out i hin
          have hps := HPS.out i hat
          have hll := HL.out i
          obtain ⟨b0, o0, c0, hv0, -, -, kk⟩ := sl_cells S.out (by have := HN.out; omega)
          obtain ⟨rfl, -, rfl⟩ : a = some ⟨b0, o0, none⟩ ∧ n = l.length ∧ c = c0 := by simpa using hv0
          have f1 := kk i (by have := HN.out; omega)
          have f1 := (hB.cell (p := ⟨b0, o0 + i, none⟩) (block_lt_of_cell f1)).trans f1
          have f2 := hD.cell (k := shOf i) (by omega)
          have hrw := hD.row (k := shOf i) (by omega)
          have hwd := hD.wid (shOf i) (by omega)
          have hz := getD_lt S.out.1 i
          have hDd := hD.later ((Below.refl wr.heap.size wr).drew)
          have hset := hDd.set (k := shOf i) (q := atOf i) (x := l.getD i 0) (by omega) hat hz
          rw [← hps] at hset
          have hlo := (own_at hrw).1
          have hB2 := hB.drew.setCell (p := ⟨gs.getD (shOf i) 0, atOf i, none⟩) hlo (.int .u8 ((l.getD i 0 : Nat) : Int))
          unfold mkS at f2 hrw
          obtain ⟨f3, f4, -⟩ := own_cell hrw hwd hat
          have HSET := Lib.hid hset
          have HB2 := Lib.hid hB2
          have HP := Lib.hid hp
          generalize l.getD i 0 = y at *
          generalize ((partL l M i).getD (shOf i) []).getD (atOf i) 0 = y2 at *
          generalize gs.getD (shOf i) 0 = gi at *
          generalize shOf i = sh at *
          generalize atOf i = at' at *
          have p0 : (0 : Int) ≤ (sh : Int) := by omega
          have p1 : (sh : Int) < 4 := by omega
          have p2 : (0 : Int) ≤ (at' : Int) := by omega
          have p3 : (at' : Int) < (M : Int) := by omega
          have p4 : (0 : Int) ≤ (i : Int) := by omega
          have p5 : (i : Int) < (n : Int) := by omega
          clear hp hps hv0 kk hrw hwd hz hDd hset hlo hB2 hD hB hll
          go_wp2_with fail
          refine HP.out.mono ?_
          rintro e w' ⟨rfl, rfl⟩
          go_wp2
          go_still_tail 9, (by kernel_rfl)
          go_wp2
          go_roundw
          case rel => exact ⟨i + 1, by omega, by go_num, HSET.out, HB2.out⟩
          case measure => simp [intOf]; omega
        · obtain rfl : i = n := by omega
          have hl4 : decide ((i : Int) < (i : Int)) = false := decide_eq_false (by omega)
          rw [HPA.out] at hD
          have HD := Lib.hid hD
          have HB := Lib.hid hB
          clear hD hB
          go_wp2
          go_ret
          exact ⟨⟨_, _, rfl, HD.out⟩, HB.out⟩
end Go.Proofs.Ytjpehjgcpnogiaa.Gf
