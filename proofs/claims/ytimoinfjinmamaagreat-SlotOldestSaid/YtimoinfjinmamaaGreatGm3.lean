/- What is proved here: a map made again from its items is the map; what deletes and appended records make of a map. No program text. -/
import Derived.Test.YtimoinfjinmamaaGreatGm1
import Derived.Test.YtimoinfjinmamaaGreatVq
import Derived.Test.YtimoinfjinmamaaGreatEx
namespace Go.Proofs.YtimoinfjinmamaaGreat.Gf
open Joins ChangeShapes WideShapes ChangeAt RowKit Deep By Qt
set_option maxRecDepth 100000
set_option maxHeartbeats 204800000
theorem gO_from {L : List Itm} (h : ∀ x ∈ L, okI x) (q : Nat) : gO (jxg L 0) q = lk L q := by
 unfold jxg gO;rw [if_pos ⟨h, by decide, by decide⟩];show lk ((jwp (jqx L)).getD (sp q) []) q = _;rw [jwr _ (sp_lt q), lk_fS, if_pos rfl, jws]
theorem gd_st {a b : Mp} {n k : Nat} (ha : Gd a n) (hb : Gd b k) (h : ∀ q, gO a q = gO b q) : a.st = b.st ∧ a.live = b.live := by
 have hst : a.st = b.st := st_ext ha.len hb.len fun s hs => by
  show ms a s = ms b s;refine asc_ext (ha.ok.ok s hs).2 (hb.ok.ok s hs).2 fun q => ?_
  by_cases e : sp q = s
  ·subst e; exact h q
  ·rw [lk_stripe ha.ok hs q e, lk_stripe hb.ok hs q e]
 exact ⟨hst, by rw [ha.ok.live, hb.ok.live, hst]⟩
theorem key_inj : ∀ {L : List Itm}, (L.map (·.key)).Nodup → ∀ {x y : Itm}, x ∈ L → y ∈ L → x.key = y.key → x = y
 | [], _, _, _, hx, _, _ => by cases hx
 | z :: L, h, x, y, hx, hy, e => by
  rw [List.map_cons, List.nodup_cons] at h;rcases List.mem_cons.1 hx with e1 | h1
  ·rcases List.mem_cons.1 hy with e2 | h2
   ·rw [e1, e2]
   ·exact absurd (show z.key ∈ L.map (·.key) from List.mem_map.2 ⟨y, h2, by rw [← e, e1]⟩) h.1
  ·rcases List.mem_cons.1 hy with e2 | h2
   ·exact absurd (show z.key ∈ L.map (·.key) from List.mem_map.2 ⟨x, h1, by rw [e, e2]⟩) h.1
   ·exact key_inj h.2 h1 h2 e
theorem lk_nodup {L : List Itm} (h : (L.map (·.key)).Nodup) {x : Itm} (hx : x ∈ L) : lk L x.key = some x := by
 cases hq : lk L x.key with
 | none => exact absurd rfl (jxs.1 hq x hx)
 | some y =>
  obtain ⟨hy, hk⟩ := lk_some hq;rw [key_inj h hy hx hk]
theorem all_lk {f : Nat → Option Itm} {xs : List { x : Itm // ItOk x }} (h : AllI f xs) (hf : ∀ q x, f q = some x → x.key = q ∧ ItOk x) (q : Nat) : lk (xs.map Subtype.val) q = f q := by
 cases hq : f q with
 | none =>
  refine jxs.2 fun x hx e => ?_;obtain ⟨z, hz, rfl⟩ := List.mem_map.1 hx;have h1 := (h.2 z).1 hz;rw [e, hq] at h1
  cases h1
 | some x =>
  obtain ⟨hk, ho⟩ := hf q x hq;subst hk;exact lk_nodup (by rw [List.map_map]; exact h.1) (List.mem_map.2 ⟨⟨x, ho⟩, (h.2 ⟨x, ho⟩).2 hq, rfl⟩)
theorem gd_itm {m : Mp} {n : Nat} (h : Gd m n) {q : Nat} {x : Itm} (hq : gO m q = some x) : x.key = q ∧ okI x := by
 obtain ⟨h1, h2⟩ := lk_some hq;exact ⟨h2, (h.ok.ok _ (sp_lt q)).1 x h1⟩
theorem fill_eq {L : List Itm} {m : Mp} {n : Nat} (hm : Gd m n) (h : ∀ q, lk L q = gO m q) (hk : (L.map (·.key)).Nodup) : (jxg L 0).live = m.live ∧ jwk (jxg L 0) m.garb = m ∧ Gd (jxg L 0) n := by
 have hL : ∀ x ∈ L, okI x := fun x hx => (gd_itm hm (by rw [← h, lk_nodup hk hx])).2;have h1 := (gd_from hL (by decide : (0 : Int) ≤ 0) (by decide)).1;have hg := (gd_from hL (by decide : (0 : Int) ≤ 0) (by decide)).2;obtain ⟨h2, h3⟩ := gd_st h1 hm fun q => by rw [gO_from hL, h]
 refine ⟨h3, ?_, ⟨h1.ok, h1.len, by rw [h2]; exact hm.flat⟩⟩;unfold jwk;rw [if_pos ⟨h1.ok, hm.ok.lo, by rw [hg]; have := hm.ok.hi; unfold G40; omega⟩, h2, h3, hg];obtain ⟨a, b, c⟩ := m;simp
structure GdS (m : Mp) (sz : Int) (n : Nat) : Prop where
 gd : Gd m n
 sum : m.live + m.garb = sz - 16
 top : sz ≤ 1048576
 few : n ≤ 1000
theorem GdS.garb {m : Mp} {sz : Int} {n : Nat} (h : GdS m sz n) : m.garb ≤ 1048560 := by
 have := (few_live (h.gd.few h.few) h.gd.ok h.gd.len).1;have := h.sum;have := h.top;omega
theorem gdS_del {m : Mp} {sz : Int} {n : Nat} (h : GdS m sz n) (k : Nat) : GdS (delM m k) sz n ∧ ∀ q, gO (delM m k) q = if k = q then none else gO m q :=
 ⟨⟨gd_del h.gd k, by rw [(del_cnt h.gd.ok h.gd.len k h.gd.fewN h.garb (by decide)).1]; exact h.sum, h.top, h.few⟩, gO_del h.gd.ok h.gd.len k (Int.le_trans h.garb (by decide))⟩
noncomputable def delK (m : Mp) (ks : List Nat) : Mp := ks.foldl delM m
theorem gdS_delK : ∀ (ks : List Nat) {m : Mp} {sz : Int} {n : Nat}, GdS m sz n → GdS (delK m ks) sz n ∧ ∀ q, gO (delK m ks) q = if q ∈ ks then none else gO m q
 | [], m, sz, n, h => ⟨h, fun q => by simp [delK]⟩
 | k :: ks, m, sz, n, h => by
  obtain ⟨h1, h2⟩ := gdS_del h k;obtain ⟨h3, h4⟩ := gdS_delK ks h1;refine ⟨h3, fun q => ?_⟩;show gO (delK (delM m k) ks) q = _;rw [h4 q, h2 q]
  by_cases e : k = q
  ·subst e; simp
  ·by_cases e2 : q ∈ ks
   ·simp [e2]
   ·rw [if_neg e2, if_neg e, if_neg (by simp [e2]; omega)]
theorem delK_snoc (m : Mp) (ks : List Nat) (k : Nat) : delK m (ks ++ [k]) = delM (delK m ks) k := by simp [delK, List.foldl_append]
structure Rcd where
 key : Nat
 ck : Nat
 del : Bool
 sz : Int
def okR (x : Rcd) : Prop := 0 ≤ x.sz ∧ x.sz ≤ 4096 ∧ (x.del = true → x.sz = 0)
end Go.Proofs.YtimoinfjinmamaaGreat.Gf
