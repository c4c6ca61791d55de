/- What is proved here: a slot whose older generations lose a key one after the other: it stays valid, and what is found in it. No program text. -/
import Derived.Test.YtimoinfjinmamaaGreatGm5
import Derived.Test.YtimoinfjinmamaaGreatGs32
import Derived.Test.YtimoinfjinmamaaGreatGs35
import Derived.Test.YtimoinfjinmamaaGreatEx
namespace Go.Proofs.YtimoinfjinmamaaGreat.Gf
open Joins ChangeShapes WideShapes ChangeAt RowKit Deep By Qt
set_option maxRecDepth 100000
set_option maxHeartbeats 204800000
noncomputable def delG (g : Ge) (k : Nat) : Ge := { g with m := delM g.m k }
structure GoodG (g : Ge) : Prop where
 ok : okGe g
 st : g.m.st.length = 8
 fl : g.m.st.flatten.length ≤ 64
theorem GoodG.gd {g : Ge} (h : GoodG g) : GdS g.m g.size 64 := ⟨⟨h.ok.ok, h.st, h.fl⟩, by have := h.ok.eq; omega, h.ok.hd.s1, by decide⟩
theorem hit_gO {g : Ge} (h : okGe g) (q : Nat) : hitB g q ↔ (gO g.m q).isSome = true := by
 unfold hitB gL hasL gO;rw [if_pos h.ok]
theorem iL_del {m : Mp} {sz : Int} {n : Nat} (h : GdS m sz n) (k : Nat) : iL (delM m k) = (iL m).filter fun x => x.key != k := by
 obtain ⟨h1, h2⟩ := gdS_del h k;refine asc_ext (asc_iL _) (List.Pairwise.filter _ (asc_iL m)) fun q => ?_;rw [lk_iL h1.gd.ok h1.gd.len];have e : (iL m).filter (fun x => x.key != k) = delL k (iL m) := rfl;rw [e, lk_delL (asc_iL m) k q, lk_iL h.gd.ok h.gd.len];have h3 := h2 q;unfold gO at h3;rw [h3]
 by_cases e2 : k = q
 ·rw [if_pos e2, if_pos e2.symm]
 ·rw [if_neg e2, if_neg (fun e3 => e2 e3.symm)]
theorem good_del {g : Ge} (h : GoodG g) (k : Nat) : GoodG (delG g k) := by
 obtain ⟨h1, h2⟩ := gdS_del h.gd k;have hs := h1.sum;refine ⟨⟨⟨h.ok.hd.n1, h.ok.hd.n8, h.ok.hd.r0, h.ok.hd.r1, h.ok.hd.m1, h.ok.hd.m3, h.ok.hd.s0, h.ok.hd.s1, h.ok.hd.s8⟩, h1.gd.ok, ?_, ?_⟩, h1.gd.len, h1.gd.flat⟩
 ·show g.size = 16 + (delM g.m k).live + (delM g.m k).garb
  omega
 ·show apL (iL (delM g.m k)) g.size
  rw [iL_del h.gd k];exact ⟨fun x hx => h.ok.ap.1 x (List.mem_filter.1 hx).1, List.Pairwise.filter _ h.ok.ap.2⟩
theorem hit_del {g : Ge} (h : GoodG g) (k : Nat) : ¬ hitB (delG g k) k := by
 rw [hit_gO (good_del h k).ok];show ¬ (gO (delM g.m k) k).isSome = true;rw [(gdS_del h.gd k).2 k, if_pos rfl];simp
theorem del_nohit {g : Ge} (h : GoodG g) {k : Nat} (hn : ¬ hitB g k) : delG g k = g := by
 rw [hit_gO h.ok] at hn;have : gO g.m k = none := by
  cases hq : gO g.m k with
  | none => rfl
  | some x => rw [hq] at hn; exact absurd rfl hn
 unfold delG;rw [del_none h.ok.ok h.st this]
noncomputable def cutG (L : List Ge) (k : Nat) (c : Int) : List Ge := L.map fun g => if g.num ≤ c then delG g k else g
theorem jxk (L : List Ge) (k : Nat) (c : Int) : (cutG L k c).length = L.length := by simp [cutG]
theorem cutg_at {L : List Ge} {k p : Nat} {c : Int} (h : p < L.length) : (cutG L k c).getD p g0 = if (L.getD p g0).num ≤ c then delG (L.getD p g0) k else L.getD p g0 := by
 unfold cutG;rw [List.getD_eq_getElem?_getD, List.getElem?_map, List.getElem?_eq_getElem h, List.getD_eq_getElem?_getD, List.getElem?_eq_getElem h];rfl
theorem cut_num {L : List Ge} {k p : Nat} {c : Int} (h : p < L.length) : ((cutG L k c).getD p g0).num = (L.getD p g0).num ∧ ((cutG L k c).getD p g0).mode = (L.getD p g0).mode ∧ ((cutG L k c).getD p g0).size = (L.getD p g0).size := by
 rw [cutg_at h];split <;> exact ⟨rfl, rfl, rfl⟩
theorem cut_good {L : List Ge} (h : ∀ p, p < L.length → GoodG (L.getD p g0)) {k p : Nat} {c : Int} (hp : p < L.length) : GoodG ((cutG L k c).getD p g0) := by
 rw [cutg_at hp];split
 ·exact good_del (h p hp) k
 ·exact h p hp
noncomputable def cutS (s : Slt) (k : Nat) (c : Int) : Slt := { s with gens := cutG s.gens k c }
structure GoodS (s : Slt) : Prop where
 ok : okS s
 g : ∀ p, p < s.gens.length → GoodG (s.gens.getD p g0)
theorem cut_ok {s : Slt} (h : GoodS s) {k : Nat} {c : Int} (hc : c < (jwh s).num) : GoodS (cutS s k c) := by
 have hl : (cutS s k c).gens.length = s.gens.length := jxk _ _ _;have h1 := h.ok.n1;have hg : ∀ p, p < s.gens.length → GoodG ((cutS s k c).gens.getD p g0) := fun p hp => cut_good h.g hp;refine ⟨⟨h.ok.i0, h.ok.i4, h.ok.l0, h.ok.l1, by rw [hl]; exact h.ok.n1, by rw [hl]; exact h.ok.n8, fun i hi => ?_, ?_⟩, fun p hp => hg p (by rw [hl] at hp; exact hp)⟩
 ·rw [hl] at hi
  have ho := h.ok.od i hi;refine ⟨(hg i hi).ok, ?_, fun h0 => ?_⟩
  ·rw [show ((cutS s k c).gens.getD i g0).mode = _ from (cut_num hi).2.1, hl]
   exact ho.mode
  ·rw [show ((cutS s k c).gens.getD i g0).num = _ from (cut_num hi).1, show ((cutS s k c).gens.getD (i - 1) g0).num = _ from (cut_num (by omega)).1]
   exact ho.asc h0
 ·refine ⟨fun i hi => ?_, ?_⟩
  ·rw [hl] at hi
   rw [show ((cutS s k c).gens.getD i g0).size = _ from (cut_num hi).2.2];exact h.ok.rm.all i hi
  ·rw [hl, show (cutS s k c).gens.getD (s.gens.length - 1) g0 = jwh s from by
    show (cutG s.gens k c).getD _ g0 = _;rw [cutg_at (by omega), if_neg (by unfold jwh at hc; omega)];rfl]
   exact h.ok.rm.top
theorem cut_hit {L : List Ge} (h : ∀ p, p < L.length → GoodG (L.getD p g0)) {k p : Nat} {c : Int} (hp : p < L.length) : hitB ((cutG L k c).getD p g0) k ↔ c < (L.getD p g0).num ∧ hitB (L.getD p g0) k := by
 rw [cutg_at hp];split
 case isTrue h1 => exact ⟨fun h2 => absurd h2 (hit_del (h p hp) k), fun h2 => by omega⟩
 case isFalse h1 => exact ⟨fun h2 => ⟨by omega, h2⟩, fun h2 => h2.2⟩
theorem last_hit {L : List Ge} {k : Nat} : (∃ j, fndP L k j) ∨ ∀ p, p < L.length → ¬ hitB (L.getD p g0) k := by
 have : ∀ n, n ≤ L.length → (∃ j, j < n ∧ hitB (L.getD j g0) k ∧ ∀ i, j < i → i < n → ¬ hitB (L.getD i g0) k) ∨ ∀ p, p < n → ¬ hitB (L.getD p g0) k := by
  intro n
  induction n with
  | zero => intro _; exact Or.inr fun p hp => absurd hp (Nat.not_lt_zero p)
  | succ n ih =>
   intro hn
   by_cases h : hitB (L.getD n g0) k
   ·exact Or.inl ⟨n, by omega, h, fun i h1 h2 => by omega⟩
   ·rcases ih (by omega) with ⟨j, h1, h2, h3⟩ | h1
    ·refine Or.inl ⟨j, by omega, h2, fun i h4 h5 => ?_⟩
     by_cases e : i = n
     ·rw [e]; exact h
     ·exact h3 i h4 (by omega)
    ·refine Or.inr fun p hp => ?_
     by_cases e : p = n
     ·rw [e]; exact h
     ·exact h1 p (by omega)
 exact this L.length (Nat.le_refl _)
theorem find_cut_some {s : Slt} (h : GoodS s) {k j : Nat} {c : Int} (hc : c < (jwh s).num) (hj : fndP s.gens k j) (hn : c < (s.gens.getD j g0).num) : plcV (cutS s k c) k = plcV s k ∧ plcB (cutS s k c) k = true := by
 have h2 : fndP (cutS s k c).gens k j := ⟨by rw [show (cutS s k c).gens.length = s.gens.length from jxk _ _ _]; exact hj.1, (cut_hit h.g hj.1).2 ⟨hn, hj.2.1⟩, fun i h1 h3 h4 => by
  rw [show (cutS s k c).gens.length = s.gens.length from jxk _ _ _] at h3;exact hj.2.2 i h1 h3 ((cut_hit h.g h3).1 h4).2⟩
 have e : (cutS s k c).gens.getD j g0 = s.gens.getD j g0 := by
  show (cutG s.gens k c).getD j g0 = _;rw [cutg_at hj.1, if_neg (by omega)]
 have q := plc_some (cut_ok h hc (k := k)).ok h2;rw [e] at q;exact ⟨by rw [q.1, (plc_some h.ok hj).1], q.2⟩
theorem find_cut_none {s : Slt} (h : GoodS s) {k j : Nat} {c : Int} (hj : fndP s.gens k j) (hn : (s.gens.getD j g0).num ≤ c) : plcB (cutS s k c) k = false :=
 (plc_none fun _ p hp h2 => by
  rw [show (cutS s k c).gens.length = s.gens.length from jxk _ _ _] at hp;obtain ⟨h3, h4⟩ := (cut_hit h.g hp).1 h2;rcases Nat.lt_trichotomy p j with e | e | e
  ·have := num_mono h.ok j p e hj.1
   omega
  ·subst e; omega
  ·exact hj.2.2 p e hp h4).2
theorem old_mem {L : List Ge} {k i : Nat} {z : Int} (hi : i ≤ L.length) : z ∈ oldF L k i ↔ ∃ p, p < i ∧ hitB (L.getD p g0) k ∧ (L.getD p g0).num = z := by
 unfold oldF;rw [List.mem_map]
 constructor
 ·rintro ⟨g, hg, rfl⟩
  obtain ⟨h1, h2⟩ := List.mem_filter.1 hg;obtain ⟨p, hp, rfl⟩ := List.getElem_of_mem h1;rw [List.length_take] at hp;have e : L.getD p g0 = (L.take i)[p] := by
   rw [List.getD_eq_getElem?_getD, List.getElem?_eq_getElem (by omega), List.getElem_take];rfl
  exact ⟨p, by omega, by rw [e]; exact h2, by rw [e]⟩
 ·rintro ⟨p, hp, h1, h2⟩
  have e : L.getD p g0 = (L.take i)[p]'(by rw [List.length_take]; omega) := by
   rw [List.getD_eq_getElem?_getD, List.getElem?_eq_getElem (by omega), List.getElem_take];rfl
  refine ⟨L.getD p g0, List.mem_filter.2 ⟨?_, h1⟩, h2⟩;rw [e];exact List.getElem_mem _
theorem old_asc {s : Slt} (h : okS s) (k : Nat) : ∀ i, i ≤ s.gens.length → (oldF s.gens k i).Pairwise (· < ·)
 | 0, _ => by simp [oldF]
 | i + 1, hi => by
  have ih := old_asc h k i (by omega)
  by_cases hh : hitB (s.gens.getD i g0) k
  ·have e : oldF s.gens k (i + 1) = oldF s.gens k i ++ [(s.gens.getD i g0).num] := by
    have h1 := oldF_hit (show i < s.gens.length by omega) hh;unfold rowsI at h1;have h2 := congrArg (List.map fun (r : List Value) => match r with | [.int _ x] => x | _ => 0) h1
    simpa [List.map_map, Function.comp_def] using h2
   rw [e, List.pairwise_append];refine ⟨ih, by simp, fun a ha b hb => ?_⟩;obtain rfl := List.mem_singleton.1 hb;obtain ⟨p, hp, -, rfl⟩ := (old_mem (by omega)).1 ha;exact num_mono h i p hp (by omega)
  ·rw [oldF_no (by omega) hh]
   exact ih
def cutN (O : List Int) (q : Nat) : Int := if q = 0 then 0 else O.getD (q - 1) 0
theorem cutN_succ (O : List Int) (q : Nat) : cutN O (q + 1) = O.getD q 0 := by unfold cutN; rw [if_neg (by omega), Nat.add_sub_cancel]
theorem getD_memI {O : List Int} {q : Nat} (h : q < O.length) : O.getD q 0 ∈ O := by
 rw [List.getD_eq_getElem?_getD, List.getElem?_eq_getElem h];exact List.getElem_mem _
theorem asc_getD {O : List Int} (h : O.Pairwise (· < ·)) {p q : Nat} (hp : p < q) (hq : q < O.length) : O.getD p 0 < O.getD q 0 := by
 rw [List.getD_eq_getElem?_getD, List.getElem?_eq_getElem (by omega), List.getD_eq_getElem?_getD, List.getElem?_eq_getElem hq];exact List.pairwise_iff_getElem.1 h p q (by omega) hq hp
theorem old_top {s : Slt} (h : okS s) {k : Nat} {z : Int} (hz : z ∈ oldF s.gens k (s.gens.length - 1)) : z < (jwh s).num := by
 obtain ⟨p, hp, -, rfl⟩ := (old_mem (by omega)).1 hz;exact num_mono h (s.gens.length - 1) p hp (by have := h.n1; omega)
theorem cutN_top {s : Slt} (h : okS s) {k q : Nat} (hq : q ≤ (oldF s.gens k (s.gens.length - 1)).length) : cutN (oldF s.gens k (s.gens.length - 1)) q < (jwh s).num := by
 unfold cutN;split
 ·have := (h.od (s.gens.length - 1) (by have := h.n1; omega)).ok.hd.n1
  unfold jwh;omega
 ·exact old_top h (getD_memI (by omega))
theorem ext_getDg {A B : List Ge} (hl : A.length = B.length) (h : ∀ k, k < A.length → A.getD k g0 = B.getD k g0) : A = B := by
 refine List.ext_getElem hl fun k h1 h2 => ?_;have := h k h1;rw [List.getD_eq_getElem?_getD, List.getElem?_eq_getElem h1, List.getD_eq_getElem?_getD, List.getElem?_eq_getElem h2] at this;exact this
theorem cut_next {s : Slt} (h : GoodS s) {k q j : Nat} (hq : q < (oldF s.gens k (s.gens.length - 1)).length) (hj : j < s.gens.length) (hn : (s.gens.getD j g0).num = (oldF s.gens k (s.gens.length - 1)).getD q 0) :
 (cutG s.gens k (cutN (oldF s.gens k (s.gens.length - 1)) q)).getD j g0 = s.gens.getD j g0 ∧ (s.gens.getD j g0).mode ≠ 1 ∧ repL (cutG s.gens k (cutN (oldF s.gens k (s.gens.length - 1)) q)) (delG (s.gens.getD j g0) k) = cutG s.gens k (cutN (oldF s.gens k (s.gens.length - 1)) (q + 1)) := by
 obtain ⟨O, hO⟩ : ∃ O, O = oldF s.gens k (s.gens.length - 1) := ⟨_, rfl⟩;have ha := old_asc h.ok k (s.gens.length - 1) (by omega);have hm := getD_memI hq;rw [← hn] at hm;have htop := old_top h.ok hm;have hmem : ∀ z, z ∈ O ↔ ∃ p, p < s.gens.length - 1 ∧ hitB (s.gens.getD p g0) k ∧ (s.gens.getD p g0).num = z := fun z => by rw [hO]; exact old_mem (show s.gens.length - 1 ≤ s.gens.length by omega)
 rw [← hO] at hq hn ha hm ⊢;have hcl : cutN O q < O.getD q 0 := by
  unfold cutN;split
  ·have := (h.ok.od j hj).ok.hd.n1
   omega
  ·exact asc_getD ha (by omega) hq
 refine ⟨by rw [cutg_at hj, if_neg (by omega)], fun e => ?_, ?_⟩
 ·have h1 := (h.ok.od j hj).mode.1 e
  have : j = s.gens.length - 1 := by omega
  unfold jwh at htop;rw [this] at htop;omega
 ·rw [cutN_succ]
  refine ext_getDg (by rw [jx5, jxk, jxk]) fun p h1 => ?_;have h2 : p < s.gens.length := by rw [jx5, jxk] at h1; exact h1
  rw [repL_at (by rw [jxk]; exact h2), (cut_num h2).1, cutg_at h2, cutg_at h2];show (if (s.gens.getD p g0).num = (s.gens.getD j g0).num then delG (s.gens.getD j g0) k else _) = _
  by_cases e : (s.gens.getD p g0).num = (s.gens.getD j g0).num
  ·have : p = j := by
    rcases Nat.lt_trichotomy p j with e3 | e3 | e3
    ·have := num_mono h.ok j p e3 hj; omega
    ·exact e3
    ·have := num_mono h.ok p j e3 h2; omega
   subst this;rw [if_pos rfl, if_pos (by omega)]
  ·rw [if_neg e]
   by_cases e3 : (s.gens.getD p g0).num ≤ cutN O q
   ·rw [if_pos e3, if_pos (by omega)]
   ·rw [if_neg e3]
    by_cases e4 : (s.gens.getD p g0).num ≤ O.getD q 0
    ·rw [if_pos e4]
     refine (del_nohit (h.g p h2) fun hh => ?_).symm;have hp2 : p < s.gens.length - 1 := by
      rcases Nat.lt_or_ge p (s.gens.length - 1) with e5 | e5
      ·exact e5
      ·have : p = s.gens.length - 1 := by omega
       unfold jwh at htop;rw [this] at e4;omega
     have h5 := (hmem (s.gens.getD p g0).num).2 ⟨p, hp2, hh, rfl⟩;obtain ⟨r, hr, her⟩ := List.getElem_of_mem h5;have her2 : O.getD r 0 = (s.gens.getD p g0).num := by rw [List.getD_eq_getElem?_getD, List.getElem?_eq_getElem hr]; exact her
     rcases Nat.lt_or_ge r q with e6 | e6
     ·apply e3
      unfold cutN;rw [if_neg (by omega)];rcases Nat.lt_or_ge r (q - 1) with e7 | e7
      ·have := asc_getD ha e7 (by omega); omega
      ·have : r = q - 1 := by omega
       rw [← this]; omega
     ·rcases Nat.lt_or_ge q r with e7 | e7
      ·have := asc_getD ha e7 hr; omega
      ·have : r = q := by omega
       subst this;exact e (by omega)
    ·rw [if_neg e4]
theorem old_none {s : Slt} (h : GoodS s) {k : Nat} : oldF (cutG s.gens k (cutN (oldF s.gens k (s.gens.length - 1)) (oldF s.gens k (s.gens.length - 1)).length)) k (s.gens.length - 1) = [] := by
 obtain ⟨O, hO⟩ : ∃ O, O = oldF s.gens k (s.gens.length - 1) := ⟨_, rfl⟩;have ha := old_asc h.ok k (s.gens.length - 1) (by omega);have hmem : ∀ z, z ∈ O ↔ ∃ p, p < s.gens.length - 1 ∧ hitB (s.gens.getD p g0) k ∧ (s.gens.getD p g0).num = z := fun z => by rw [hO]; exact old_mem (show s.gens.length - 1 ≤ s.gens.length by omega)
 rw [← hO] at ha ⊢;refine List.eq_nil_iff_forall_not_mem.2 fun z hz => ?_;obtain ⟨p, hp, hh, -⟩ := (old_mem (by rw [jxk]; omega)).1 hz;have h2 : p < s.gens.length := by omega
 obtain ⟨h3, h4⟩ := (cut_hit h.g h2).1 hh;have h5 := (hmem (s.gens.getD p g0).num).2 ⟨p, hp, h4, rfl⟩;obtain ⟨r, hr, her⟩ := List.getElem_of_mem h5;have her2 : O.getD r 0 = (s.gens.getD p g0).num := by rw [List.getD_eq_getElem?_getD, List.getElem?_eq_getElem hr]; exact her
 unfold cutN at h3;rw [if_neg (by omega)] at h3;rcases Nat.lt_or_ge r (O.length - 1) with e7 | e7
 ·have := asc_getD ha e7 (by omega); omega
 ·have : r = O.length - 1 := by omega
  rw [← this] at h3; omega
theorem find_next {s : Slt} (h : GoodS s) {k q j : Nat} (hq : q < (oldF s.gens k (s.gens.length - 1)).length) (hj : fndP s.gens k j) :
 (q + 1 < (oldF s.gens k (s.gens.length - 1)).length ∨ (s.gens.getD j g0).mode = 1 → cutN (oldF s.gens k (s.gens.length - 1)) (q + 1) < (s.gens.getD j g0).num) ∧ (¬ (q + 1 < (oldF s.gens k (s.gens.length - 1)).length ∨ (s.gens.getD j g0).mode = 1) → (s.gens.getD j g0).num ≤ cutN (oldF s.gens k (s.gens.length - 1)) (q + 1)) := by
 have ha := old_asc h.ok k (s.gens.length - 1) (by omega);have hm := getD_memI hq;have htop := old_top h.ok hm;have hmem : ∀ z, z ∈ oldF s.gens k (s.gens.length - 1) ↔ ∃ p, p < s.gens.length - 1 ∧ hitB (s.gens.getD p g0) k ∧ (s.gens.getD p g0).num = z := fun z => old_mem (show s.gens.length - 1 ≤ s.gens.length by omega);rw [cutN_succ];generalize oldF s.gens k (s.gens.length - 1) = O at *;have hmode := (h.ok.od j hj.1).mode;refine ⟨fun h1 => ?_, fun h1 => ?_⟩
 ·by_cases e : (s.gens.getD j g0).mode = 1
  ·have : j = s.gens.length - 1 := by have := hmode.1 e; omega
   unfold jwh at htop;rw [this];omega
  ·have h2 : q + 1 < O.length := by
    rcases h1 with h1 | h1
    ·exact h1
    ·exact absurd h1 e
   have h3 := asc_getD ha (show q < q + 1 by omega) h2;obtain ⟨p, hp, hh, h4⟩ := (hmem _).1 (getD_memI h2);have h5 : (s.gens.getD p g0).num ≤ (s.gens.getD j g0).num := by
    rcases Nat.lt_trichotomy p j with e3 | e3 | e3
    ·have := num_mono h.ok j p e3 hj.1; omega
    ·rw [e3]; omega
    ·exact absurd hh (hj.2.2 p e3 (by omega))
   omega
 ·have h2 : ¬ (s.gens.getD j g0).mode = 1 := fun e => h1 (Or.inr e)
  have h3 : j < s.gens.length - 1 := by
   rcases Nat.lt_or_ge j (s.gens.length - 1) with e | e
   ·exact e
   ·exact absurd (hmode.2 (by have := hj.1; omega)) h2
  have h4 := (hmem _).2 ⟨j, h3, hj.2.1, rfl⟩;obtain ⟨r, hr, her⟩ := List.getElem_of_mem h4;have her2 : O.getD r 0 = (s.gens.getD j g0).num := by rw [List.getD_eq_getElem?_getD, List.getElem?_eq_getElem hr]; exact her
  have h5 : ¬ q + 1 < O.length := fun e => h1 (Or.inl e);have : r ≤ q := by omega
  rcases Nat.lt_or_ge r q with e7 | e7
  ·have := asc_getD ha e7 hq; omega
  ·have : r = q := by omega
   subst this;omega
theorem old_hit {s : Slt} {k : Nat} (h : 0 < (oldF s.gens k (s.gens.length - 1)).length) : ∃ j, fndP s.gens k j := by
 rcases last_hit (L := s.gens) (k := k) with h1 | h1
 ·exact h1
 ·obtain ⟨p, hp, hh, -⟩ := (old_mem (show s.gens.length - 1 ≤ s.gens.length by omega)).1 (getD_memI h)
  exact absurd hh (h1 p (by omega))
end Go.Proofs.YtimoinfjinmamaaGreat.Gf
