/- What is proved here: a map made again from its items is the map; what deletes and appended records make of a map. No program text. -/
import Derived.Test.YtbmlpafbdbhaiaaGreatDoorGm1
import Derived.Test.YtbmlpafbdbhaiaaGreatDoorVq
namespace Go.Proofs.YtbmlpafbdbhaiaaGreatDoor.Gf
open Go Go.Joins Go.ChangeShapes Go.WideShapes Go.ChangeAt Go.RowKit Go.Deep Go.Proofs.YtbmlpafbdbhaiaaGreatDoor.By Go.Proofs.YtbmlpafbdbhaiaaGreatDoor.Qt
set_option maxRecDepth 100000
set_option maxHeartbeats 204800000
theorem gO_from {L : List Itm} (h : ∀ x ∈ L, okI x) (q : Nat) : gO (fromL L 0) q = lk L q := by
 unfold fromL gO
 rw [if_pos ⟨h, by decide, by decide⟩]
 show lk ((splitM (sortL L)).getD (sp q) []) q = _
 rw [split_get _ (sp_lt q), lk_fS, if_pos rfl, lk_sortL]
theorem gd_st {a b : Mp} {n k : Nat} (ha : Gd a n) (hb : Gd b k) (h : ∀ q, gO a q = gO b q) : a.st = b.st ∧ a.live = b.live := by
 have hst : a.st = b.st := st_ext ha.len hb.len fun s hs => by
  show ms a s = ms b s
  refine asc_ext (ha.ok.ok s hs).2 (hb.ok.ok s hs).2 fun q => ?_
  by_cases e : sp q = s
  · subst e; exact h q
  · rw [lk_stripe ha.ok hs q e, lk_stripe hb.ok hs q e]
 exact ⟨hst, by rw [ha.ok.live, hb.ok.live, hst]⟩
theorem key_inj : ∀ {L : List Itm}, (L.map (·.key)).Nodup → ∀ {x y : Itm}, x ∈ L → y ∈ L → x.key = y.key → x = y
 | [], _, _, _, hx, _, _ => by cases hx
 | z :: L, h, x, y, hx, hy, e => by
  rw [List.map_cons, List.nodup_cons] at h
  rcases List.mem_cons.1 hx with e1 | h1
  · rcases List.mem_cons.1 hy with e2 | h2
    · rw [e1, e2]
    · exact absurd (show z.key ∈ L.map (·.key) from List.mem_map.2 ⟨y, h2, by rw [← e, e1]⟩) h.1
  · rcases List.mem_cons.1 hy with e2 | h2
    · exact absurd (show z.key ∈ L.map (·.key) from List.mem_map.2 ⟨x, h1, by rw [e, e2]⟩) h.1
    · exact key_inj h.2 h1 h2 e
/-- The items of a list whose keys differ are found under their keys. -/
theorem lk_nodup {L : List Itm} (h : (L.map (·.key)).Nodup) {x : Itm} (hx : x ∈ L) : lk L x.key = some x := by
 cases hq : lk L x.key with
 | none => exact absurd rfl (lk_none.1 hq x hx)
 | some y =>
  obtain ⟨hy, hk⟩ := lk_some hq
  rw [key_inj h hy hx hk]
theorem all_lk {f : Nat → Option Itm} {xs : List { x : Itm // ItOk x }} (h : AllI f xs) (hf : ∀ q x, f q = some x → x.key = q ∧ ItOk x) (q : Nat) : lk (xs.map Subtype.val) q = f q := by
 cases hq : f q with
 | none =>
  refine lk_none.2 fun x hx e => ?_
  obtain ⟨z, hz, rfl⟩ := List.mem_map.1 hx
  have h1 := (h.2 z).1 hz
  rw [e, hq] at h1
  cases h1
 | some x =>
  obtain ⟨hk, ho⟩ := hf q x hq
  subst hk
  exact lk_nodup (by rw [List.map_map]; exact h.1) (List.mem_map.2 ⟨⟨x, ho⟩, (h.2 ⟨x, ho⟩).2 hq, rfl⟩)
theorem gd_itm {m : Mp} {n : Nat} (h : Gd m n) {q : Nat} {x : Itm} (hq : gO m q = some x) : x.key = q ∧ okI x := by
 obtain ⟨h1, h2⟩ := lk_some hq
 exact ⟨h2, (h.ok.ok _ (sp_lt q)).1 x h1⟩
/-- What remains of a map's items, put in order, is the map. -/
theorem fill_eq {L : List Itm} {m : Mp} {n : Nat} (hm : Gd m n) (h : ∀ q, lk L q = gO m q) (hk : (L.map (·.key)).Nodup) : (fromL L 0).live = m.live ∧ wasteM (fromL L 0) m.garb = m ∧ Gd (fromL L 0) n := by
 have hL : ∀ x ∈ L, okI x := fun x hx => (gd_itm hm (by rw [← h, lk_nodup hk hx])).2
 have h1 := (gd_from hL (by decide : (0 : Int) ≤ 0) (by decide)).1
 have hg := (gd_from hL (by decide : (0 : Int) ≤ 0) (by decide)).2
 obtain ⟨h2, h3⟩ := gd_st h1 hm fun q => by rw [gO_from hL, h]
 refine ⟨h3, ?_, ⟨h1.ok, h1.len, by rw [h2]; exact hm.flat⟩⟩
 unfold wasteM
 rw [if_pos ⟨h1.ok, hm.ok.lo, by rw [hg]; have := hm.ok.hi; unfold G40; omega⟩, h2, h3, hg]
 obtain ⟨a, b, c⟩ := m
 simp
/-- A map that accounts for a file of sz bytes. -/
structure GdS (m : Mp) (sz : Int) (n : Nat) : Prop where
 gd : Gd m n
 sum : m.live + m.garb = sz - 16
 top : sz ≤ 1048576
 few : n ≤ 1000
theorem GdS.garb {m : Mp} {sz : Int} {n : Nat} (h : GdS m sz n) : m.garb ≤ 1048560 := by
 have := (few_live (h.gd.few h.few) h.gd.ok h.gd.len).1
 have := h.sum
 have := h.top
 omega
theorem gdS_del {m : Mp} {sz : Int} {n : Nat} (h : GdS m sz n) (k : Nat) : GdS (delM m k) sz n ∧ ∀ q, gO (delM m k) q = if k = q then none else gO m q :=
 ⟨⟨gd_del h.gd k, by rw [(del_cnt h.gd.ok h.gd.len k h.gd.fewN h.garb (by decide)).1]; exact h.sum, h.top, h.few⟩, gO_del h.gd.ok h.gd.len k (Int.le_trans h.garb (by decide))⟩
/-- The map without some keys. -/
noncomputable def delK (m : Mp) (ks : List Nat) : Mp := ks.foldl delM m
theorem gdS_delK : ∀ (ks : List Nat) {m : Mp} {sz : Int} {n : Nat}, GdS m sz n → GdS (delK m ks) sz n ∧ ∀ q, gO (delK m ks) q = if q ∈ ks then none else gO m q
 | [], m, sz, n, h => ⟨h, fun q => by simp [delK]⟩
 | k :: ks, m, sz, n, h => by
  obtain ⟨h1, h2⟩ := gdS_del h k
  obtain ⟨h3, h4⟩ := gdS_delK ks h1
  refine ⟨h3, fun q => ?_⟩
  show gO (delK (delM m k) ks) q = _
  rw [h4 q, h2 q]
  by_cases e : k = q
  · subst e; simp
  · by_cases e2 : q ∈ ks
    · simp [e2]
    · rw [if_neg e2, if_neg e, if_neg (by simp [e2]; omega)]
theorem delK_snoc (m : Mp) (ks : List Nat) (k : Nat) : delK m (ks ++ [k]) = delM (delK m ks) k := by simp [delK, List.foldl_append]
/-- A record that is appended. -/
structure Rcd where
 key : Nat
 ck : Nat
 del : Bool
 sz : Int
/-- What Needle.Valid asks. -/
def okR (x : Rcd) : Prop := 0 ≤ x.sz ∧ x.sz ≤ 4096 ∧ (x.del = true → x.sz = 0)
noncomputable def addR (s : Mp × Int) (x : Rcd) : Mp × Int := (if x.del = true then wasteM (delM s.1 x.key) (szI6 x.sz) else putM s.1 ⟨x.key, x.ck, s.2, x.sz⟩, s.2 + szI6 x.sz)
noncomputable def addL (m : Mp) (sz : Int) (l : List Rcd) : Mp × Int := l.foldl addR (m, sz)
theorem addL_snoc (m : Mp) (sz : Int) (l : List Rcd) (x : Rcd) : addL m sz (l ++ [x]) = addR (addL m sz l) x := by simp [addL, List.foldl_append]
def sumR (l : List Rcd) : Int := (l.map fun x => szI6 x.sz).sum
theorem sumR_snoc (l : List Rcd) (x : Rcd) : sumR (l ++ [x]) = sumR l + szI6 x.sz := by simp [sumR, List.sum_append]
theorem szI6_bd (n : Int) : 0 ≤ szI6 n ∧ szI6 n ≤ 4200 := by unfold szI6; split <;> omega
theorem sumR_lo : ∀ l : List Rcd, 0 ≤ sumR l
 | [] => Int.le_refl 0
 | x :: l => by
  have := sumR_lo l
  have := (szI6_bd x.sz).1
  show 0 ≤ (szI6 x.sz + (l.map fun x => szI6 x.sz).sum)
  unfold sumR at *
  omega
theorem sumR_hi : ∀ l : List Rcd, sumR l ≤ 4200 * (l.length : Int)
 | [] => Int.le_refl 0
 | x :: l => by
  have := sumR_hi l
  have := (szI6_bd x.sz).2
  show (szI6 x.sz + (l.map fun x => szI6 x.sz).sum) ≤ _
  unfold sumR at *
  simp only [List.length_cons]
  omega
theorem addL_sz : ∀ (l : List Rcd) (m : Mp) (sz : Int), (addL m sz l).2 = sz + sumR l
 | [], m, sz => by simp [addL, sumR]
 | x :: l, m, sz => by
  have h := addL_sz l (addR (m, sz) x).1 (addR (m, sz) x).2
  show (addL (addR (m, sz) x).1 (addR (m, sz) x).2 l).2 = _
  rw [h]
  show sz + szI6 x.sz + sumR l = sz + sumR (x :: l)
  unfold sumR
  simp only [List.map_cons, List.sum_cons]
  omega
/-- What a key has behind the records. -/
def lkR (f : Nat → Option Itm) (sz : Int) : List Rcd → Nat → Option Itm
 | [], q => f q
 | x :: l, q => lkR (fun r => if x.key = r then (if x.del = true then none else some ⟨x.key, x.ck, sz, x.sz⟩) else f r) (sz + szI6 x.sz) l q
theorem szI6_pos {n : Int} (h : 0 ≤ n) (h2 : n ≤ 4096) : szI6 n = (n + 31) / 8 * 8 := by
 unfold szI6
 rw [if_neg (by omega)]
theorem gdS_add {m : Mp} {sz : Int} {n : Nat} (h : GdS m sz n) (hn : n + 1 ≤ 1000) (h8 : sz.tmod 8 = 0) (h16 : 16 ≤ sz) {x : Rcd} (hx : okR x) (ht : sz + szI6 x.sz ≤ 1048576) : GdS (addR (m, sz) x).1 (sz + szI6 x.sz) (n + 1) ∧ (sz + szI6 x.sz).tmod 8 = 0 ∧ ∀ q, gO (addR (m, sz) x).1 q = if x.key = q then (if x.del = true then none else some ⟨x.key, x.ck, sz, x.sz⟩) else gO m q := by
 have h9 : (sz + szI6 x.sz).tmod 8 = 0 := by
  rw [szI6_pos hx.1 hx.2.1]
  have := hx.1
  rw [Int.tmod_eq_emod_of_nonneg (by omega)] at h8 ⊢
  omega
 have hz := szI6_bd x.sz
 unfold addR
 cases hd : x.del with
 | true =>
  obtain ⟨h1, h2⟩ := gdS_del h x.key
  have hw := waste_cnt h1.gd.ok hz.1 (by omega) h1.gd.fewN h1.garb (by decide)
  have hk := wasteM_ok h1.gd.ok h1.gd.len (szI6 x.sz)
  have hs : (wasteM (delM m x.key) (szI6 x.sz)).st = (delM m x.key).st := by unfold wasteM; split <;> rfl
  refine ⟨⟨⟨hk.1, hk.2, by simp only [if_true]; rw [hs]; exact Nat.le_succ_of_le h1.gd.flat⟩, by simp only [if_true]; rw [hw.1, h1.sum]; omega, ht, hn⟩, h9, fun q => ?_⟩
  simp only [if_true]
  unfold gO ms at *
  rw [hs]
  exact h2 q
 | false =>
  have hi : okI ⟨x.key, x.ck, sz, x.sz⟩ := ⟨h16, by show sz ≤ 1048576; omega, h8, hx.1, hx.2.1⟩
  have hp := put_cnt h.gd.ok h.gd.len hi h.gd.fewN h.garb (by decide)
  refine ⟨⟨gd_put h.gd hi, by simp only [Bool.false_eq_true, if_false]; rw [hp.1, h.sum]; show _ = sz + szI6 x.sz - 16; unfold szT; simp only; omega, ht, hn⟩, h9, fun q => ?_⟩
  simp only [Bool.false_eq_true, if_false]
  exact gO_put h.gd.ok h.gd.len hi (Int.le_trans h.garb (by decide)) q
theorem gdS_addL : ∀ (l : List Rcd) {m : Mp} {sz : Int} {n : Nat}, GdS m sz n → n + l.length ≤ 1000 → sz.tmod 8 = 0 → 16 ≤ sz → (∀ x ∈ l, okR x) → sz + sumR l ≤ 1048576 →
  GdS (addL m sz l).1 (sz + sumR l) (n + l.length) ∧ (sz + sumR l).tmod 8 = 0 ∧ ∀ q, gO (addL m sz l).1 q = lkR (gO m) sz l q
 | [], m, sz, n, h, _, h8, _, _, _ => by
  have e : sz + sumR [] = sz := by simp [sumR]
  rw [e]
  exact ⟨h, h8, fun q => rfl⟩
 | x :: l, m, sz, n, h, hn, h8, h16, hx, ht => by
  simp only [List.length_cons] at hn
  have hl := sumR_lo l
  have e : sumR (x :: l) = szI6 x.sz + sumR l := by simp [sumR]
  obtain ⟨h1, h2, h3⟩ := gdS_add h (by omega) h8 h16 (hx x (List.mem_cons_self ..)) (by omega)
  obtain ⟨h4, h5, h6⟩ := gdS_addL l h1 (by omega) h2 (by have := (szI6_bd x.sz).1; omega) (fun y hy => hx y (List.mem_cons_of_mem _ hy)) (by omega)
  rw [e, ← Int.add_assoc]
  refine ⟨?_, h5, fun q => ?_⟩
  · have e3 : n + (x :: l).length = n + 1 + l.length := by simp only [List.length_cons]; omega
    rw [e3]
    exact h4
  · show gO (addL (addR (m, sz) x).1 (sz + szI6 x.sz) l).1 q = _
    rw [h6 q]
    show lkR _ _ l q = lkR _ _ l q
    rw [show gO (addR (m, sz) x).1 = _ from funext h3]
end Go.Proofs.YtbmlpafbdbhaiaaGreatDoor.Gf
