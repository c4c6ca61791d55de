/- What is proved here: what the taking out of old items wants of the common texts. -/
import Derived.Test.YtimoinfjinmamaaGreatVa
import Derived.Test.YtimoinfjinmamaaGreatL11
import Derived.Test.YtimoinfjinmamaaGreatVm
import Derived.Test.YtimoinfjinmamaaGreatVp
import Derived.Test.YtimoinfjinmamaaGreatVq
/- What is proved here: what layer 11 leans on, out of the older layers. -/
namespace Go.Proofs.YtimoinfjinmamaaGreat.Gf
open Go Ieee
set_option maxRecDepth 100000
set_option maxHeartbeats 204800000
theorem cmp_lt {a b : Int} (h : a < b) : compare a b = .lt := by
 show compareOfLessAndEq a b = _;unfold compareOfLessAndEq;rw [if_pos h]
theorem cmp_gt {a b : Int} (h : b < a) : compare a b = .gt := by
 show compareOfLessAndEq a b = _;unfold compareOfLessAndEq;rw [if_neg (by omega), if_neg (by omega)]
theorem cmp_self (a : Int) : compare a a = .eq := by
 show compareOfLessAndEq a a = _;unfold compareOfLessAndEq;rw [if_neg (by omega), if_pos rfl]
theorem cmp_mul (a b : Int) (q : Nat) : compare (a * 2 ^ q) (b * 2 ^ q) = compare a b := by
 have hp := pow2_pos q;rcases Int.lt_trichotomy a b with h | h | h
 ·rw [cmp_lt h, cmp_lt (Int.mul_lt_mul_of_pos_right h hp)]
 ·subst h; rw [cmp_self, cmp_self]
 ·rw [cmp_gt h, cmp_gt (Int.mul_lt_mul_of_pos_right h hp)]
theorem order_flw {a b : Int} (ha : a.natAbs < 2 ^ 53) (hb : b.natAbs < 2 ^ 53) : FloatKind.f64.format.order (flw a) (flw b) = some (compare a b) := by
 show double.order (flw a) (flw b) = _;obtain ⟨p, -, e1⟩ := flw_read ha;obtain ⟨q, -, e2⟩ := flw_read hb;unfold Format.order;rw [e1, e2];unfold Datum.order;dsimp only;have eb : min (-(p : Int)) (-(q : Int)) = -((max p q : Nat) : Int) := by omega
 have u1 : (-(p : Int) - -((max p q : Nat) : Int)).toNat = max p q - p := by omega
 have u2 : (-(q : Int) - -((max p q : Nat) : Int)).toNat = max p q - q := by omega
 rw [eb, u1, u2, signed_eq, signed_eq, show p + (max p q - p) = max p q by omega, show q + (max p q - q) = max p q by omega, cmp_mul]
def Big (P w : Nat) : Prop := ∃ k p : Nat, 2 ^ 52 ≤ k ∧ k < 2 ^ 53 ∧ p ≤ P ∧ double.read w = .number false k (p : Int)
theorem nearest_big {v P : Nat} (h : 2 ^ 52 ≤ v) (hv : v < 2 ^ (P + 52)) (hP : P ≤ 900) (q : Nat) : Big P (double.nearest false (v * 2 ^ q) (-(q : Int))) := by
 have h0 : 0 < v := Nat.lt_of_lt_of_le (Nat.two_pow_pos _) h;have l1 : 52 ≤ v.log2 := (Nat.le_log2 (by omega)).2 h;have l2 : v.log2 < P + 52 := (Nat.log2_lt (by omega)).2 hv;have hpos : 0 < v * 2 ^ q := Nat.mul_pos h0 (Nat.two_pow_pos q);unfold Format.nearest;rw [if_neg (by omega), log2_shift h0, least_eq];dsimp only;have e1 : max (-(q : Int) + ((v.log2 + q : Nat) : Int) - (double.fractionBits : Nat)) (-1074) = (v.log2 : Int) - 52 := by
  show max (-(q : Int) + ((v.log2 + q : Nat) : Int) - ((52 : Nat) : Int)) (-1074) = _;omega
 rw [e1];have e2 : ((v.log2 : Int) - 52 - (-1074)).toNat = v.log2 + 1022 := by omega
 have a1 : (-(q : Int) - ((v.log2 : Int) - 52)).toNat = 0 := by omega
 have a2 : ((v.log2 : Int) - 52 - -(q : Int)).toNat = v.log2 - 52 + q := by omega
 rw [e2, a1, a2, Nat.shiftLeft_zero];obtain ⟨k, hk⟩ : ∃ z, z = Toward.even.cut false (v * 2 ^ q) (v.log2 - 52 + q) := ⟨_, rfl⟩;have hkb : 2 ^ 52 ≤ k ∧ k ≤ 2 ^ 53 := by
  have hlow : v * 2 ^ q / 2 ^ (v.log2 - 52 + q) = v / 2 ^ (v.log2 - 52) := by
   rw [Nat.pow_add, Nat.mul_div_mul_right _ _ (Nat.two_pow_pos q)]
  have hge : 2 ^ 52 ≤ v / 2 ^ (v.log2 - 52) := by
   rw [Nat.le_div_iff_mul_le (Nat.two_pow_pos _), ← Nat.pow_add, show 52 + (v.log2 - 52) = v.log2 by omega];exact log2_lo h0
  have hlt : v / 2 ^ (v.log2 - 52) < 2 ^ 53 := by
   rw [Nat.div_lt_iff_lt_mul (Nat.two_pow_pos _), ← Nat.pow_add, show 53 + (v.log2 - 52) = v.log2 + 1 by omega];exact log2_hi
  rw [hk];unfold Toward.cut;dsimp only;rw [log2_shift h0, Nat.min_eq_left (by omega), Nat.one_shiftLeft, hlow];have hb : ∀ b : Bool, b.toNat ≤ 1 := by decide
  have := hb (decide (2 ^ (v.log2 - 52 + q) < 2 * (v * 2 ^ q % 2 ^ (v.log2 - 52 + q))) || 2 ^ (v.log2 - 52 + q) == 2 * (v * 2 ^ q % 2 ^ (v.log2 - 52 + q)) && v / 2 ^ (v.log2 - 52) % 2 == 1);omega
 rw [← hk];clear hk a1 a2 e1 e2 hpos hv h;have e3 : min ((v.log2 + 1022) * double.binade + k) double.infRung = (v.log2 + 1022) * 2 ^ 52 + k := by
  show min ((v.log2 + 1022) * 2 ^ 52 + k) (2047 * 2 ^ 52) = _;exact Nat.min_eq_left (by omega)
 rw [e3]
 by_cases c : k < 2 ^ 53
 ·exact ⟨k, v.log2 - 52, hkb.1, c, by omega, by rw [read_word false (by omega) hkb.1 c, show ((v.log2 + 1022 : Nat) : Int) - 1074 = ((v.log2 - 52 : Nat) : Int) by omega]⟩
 ·refine ⟨2 ^ 52, v.log2 - 51, Nat.le_refl _, by decide, by omega, ?_⟩
  rw [show (v.log2 + 1022) * 2 ^ 52 + k = (v.log2 + 1022 + 1) * 2 ^ 52 + 2 ^ 52 by omega, read_word false (by omega) (Nat.le_refl _) (by decide), show ((v.log2 + 1022 + 1 : Nat) : Int) - 1074 = ((v.log2 - 51 : Nat) : Int) by omega]
theorem flw_big {n : Int} (h : 2 ^ 52 ≤ n) (hn : n < 2 ^ 64) : Big 12 (flw n) := by
 have := nearest_big (v := n.natAbs) (P := 12) (by omega) (show n.natAbs < 2 ^ 64 by omega) (by decide) 0;rw [Nat.pow_zero, Nat.mul_one] at this;rw [flw_eq, decide_eq_false (by omega)];exact this
theorem add_big {P w : Nat} (h : Big P w) (hP : P ≤ 800) {a : Int} (ha0 : 0 ≤ a) (ha : a.natAbs < 2 ^ 53) : ∃ r, floatBits .add .f64 (flw a) w = some r ∧ Big (P + 2) r := by
 obtain ⟨k, p, h1, h2, h3, e1⟩ := h;obtain ⟨q, -, e2⟩ := flw_read ha;rw [decide_eq_false (by omega)] at e2;show ∃ r, double.add (flw a) w = some r ∧ Big (P + 2) r;unfold Format.add;rw [e1, e2];unfold Datum.sum;dsimp only;have eb : min (-(q : Int)) (p : Int) = -(q : Int) := by omega
 have u1 : (-(q : Int) - -(q : Int)).toNat = 0 := by omega
 have u2 : ((p : Int) - -(q : Int)).toNat = p + q := by omega
 rw [eb, u1, u2, Option.map_some];refine ⟨_, rfl, ?_⟩;have et : signed false (a.natAbs * 2 ^ q) 0 + signed false k (p + q) = (((a.natAbs + k * 2 ^ p) * 2 ^ q : Nat) : Int) := by
  unfold signed;rw [if_neg (by decide), if_neg (by decide), Nat.shiftLeft_zero, Nat.shiftLeft_eq, Nat.add_mul, Nat.mul_assoc k, ← Nat.pow_add]
  push_cast
  rfl
 have hpos : 0 < (a.natAbs + k * 2 ^ p) * 2 ^ q := Nat.mul_pos (by have := Nat.mul_pos (show 0 < k by omega) (Nat.two_pow_pos p); omega) (Nat.two_pow_pos q);rw [et, if_neg (by omega), Int.natAbs_natCast, decide_eq_false (by omega)];refine nearest_big ?_ ?_ (by omega) q
 ·have := Nat.mul_le_mul h1 (Nat.one_le_two_pow (n := p))
  omega
 ·have b1 : k * 2 ^ p < 2 ^ 53 * 2 ^ P := Nat.mul_lt_mul_of_lt_of_le h2 (Nat.pow_le_pow_right (by decide) h3) (Nat.two_pow_pos _)
  have b2 : (2 : Nat) ^ 53 ≤ 2 ^ 53 * 2 ^ P := Nat.le_mul_of_pos_right _ (Nat.two_pow_pos P);have b3 : (2 : Nat) ^ (P + 2 + 52) = 2 ^ 53 * 2 ^ P + 2 ^ 53 * 2 ^ P := by
   rw [show P + 2 + 52 = 1 + (53 + P) by omega, Nat.pow_add, Nat.pow_add 2 53 P];omega
  omega
theorem gt_big {P w : Nat} (h : Big P w) {a : Int} (ha0 : 0 ≤ a) (ha : a < 2 ^ 52) : FloatKind.f64.format.order w (flw a) = some .gt := by
 obtain ⟨k, p, h1, h2, h3, e1⟩ := h;obtain ⟨q, -, e2⟩ := flw_read (n := a) (by omega);rw [decide_eq_false (by omega)] at e2;show double.order w (flw a) = _;unfold Format.order;rw [e1, e2];unfold Datum.order;dsimp only;have eb : min (p : Int) (-(q : Int)) = -(q : Int) := by omega
 have u1 : (-(q : Int) - -(q : Int)).toNat = 0 := by omega
 have u2 : ((p : Int) - -(q : Int)).toNat = p + q := by omega
 rw [eb, u1, u2];have e3 : signed false (a.natAbs * 2 ^ q) 0 = ((a.natAbs * 2 ^ q : Nat) : Int) := by
  unfold signed;rw [if_neg (by decide), Nat.shiftLeft_zero]
 have e4 : signed false k (p + q) = ((k * 2 ^ p * 2 ^ q : Nat) : Int) := by
  unfold signed;rw [if_neg (by decide), Nat.shiftLeft_eq, Nat.mul_assoc, ← Nat.pow_add]
 rw [e3, e4];have hlt : a.natAbs * 2 ^ q < k * 2 ^ p * 2 ^ q := Nat.mul_lt_mul_of_pos_right (by
  have := Nat.mul_le_mul h1 (Nat.one_le_two_pow (n := p));omega) (Nat.two_pow_pos q)
 rw [cmp_gt (by omega)]
end Go.Proofs.YtimoinfjinmamaaGreat.Gf
/- What is proved here: what layer 11 leans on, out of the older layers. -/
namespace Go.Proofs.YtimoinfjinmamaaGreat.Gf
open Go Go.ChangeAt Go.ChangeShapes Go.Deep Go.Joins Go.Proofs.YtimoinfjinmamaaGreat.By Go.Proofs.YtimoinfjinmamaaGreat.Qt Go.RowKit Go.Sort Go.WideShapes
set_option maxRecDepth 100000
set_option maxHeartbeats 204800000
theorem mem_delL {k : Nat} {S : List Itm} {z : Itm} (h : z ∈ delL k S) : z ∈ S := (List.mem_filter.1 h).1
end Go.Proofs.YtimoinfjinmamaaGreat.Gf
/- What is proved here: the mathematics of a needle map: its stripes are what its items are, parted. No program text. -/
namespace Go.Proofs.YtimoinfjinmamaaGreat.Gf
open Go
theorem asc_fS {L : List Itm} (s : Nat) (h : Asc L) : Asc (fS s L) := List.Pairwise.filter _ h
theorem mem_fS {L : List Itm} {s : Nat} {x : Itm} : x ∈ fS s L ↔ x ∈ L ∧ sp x.key = s := by
 unfold fS;rw [List.mem_filter];simp
theorem lk_fS (L : List Itm) (s k : Nat) : lk (fS s L) k = if sp k = s then lk L k else none := by
 revert L
 refine listRev ?_ ?_
 ·simp [fS, lk_nil]
 ·intro L x ih
  unfold fS at ih ⊢;rw [List.filter_append, lk_snoc]
  by_cases c : sp x.key = s
  ·rw [List.filter_cons_of_pos (by simpa using c), List.filter_nil, lk_snoc, ih]
   by_cases e : x.key = k
   ·rw [if_pos e, if_pos (by rw [← e]; exact c), if_pos e]
   ·rw [if_neg e, if_neg e]
  ·rw [List.filter_cons_of_neg (by simpa using c), List.filter_nil, List.append_nil, ih]
   by_cases e : x.key = k
   ·rw [if_neg (by rw [← e]; exact c), if_neg (by rw [← e]; exact c)]
   ·rw [if_neg e]
theorem fS_iL {m : Mp} (h : okM m) (hl : m.st.length = 8) {s : Nat} (hs : s < 8) : fS s (iL m) = ms m s := by
 refine asc_ext (asc_fS s (asc_iL m)) (h.ok s hs).2 fun k => ?_;rw [lk_fS, lk_iL h hl]
 by_cases c : sp k = s
 ·rw [if_pos c, c]
 ·rw [if_neg c, lk_stripe h hs k c]
theorem byT_ins {x : Itm} {S : List Itm} (h : Asc S) : byT (insL x S) + ((lk S x.key).map szT).getD 0 = byT S + szT x := by
 induction S with
 | nil => simp [insL, jxy, byT_nil, lk_nil]
 | cons y S ih =>
  obtain ⟨h1, h2⟩ := jw7.1 h;have ih := ih h2;have hl : lk (y :: S) x.key = if y.key = x.key then some y else lk S x.key := by
   have := lk_app [y] S x.key;rw [List.singleton_append] at this;rw [this];have e1 : lk [y] x.key = if y.key = x.key then some y else none := by
    have := lk_snoc [] y x.key;rw [List.nil_append] at this;rw [this, lk_nil]
   rw [e1]
   by_cases c : y.key = x.key
   ·rw [if_pos c, if_pos c]
    have : lk S x.key = none := jxs.2 fun z hz e => by have := h1 z hz; omega
    rw [this];rfl
   ·rw [if_neg c, if_neg c]
    cases lk S x.key <;> rfl
  unfold insL;split
  ·rename_i c
   rw [hl, if_neg (by omega), jxy, jxy];omega
  ·split
   ·rename_i c
    rw [hl, if_pos c, jxy, jxy];simp;omega
   ·have hn : lk (y :: S) x.key = none := jxs.2 fun z hz e => by
     rcases List.mem_cons.1 hz with rfl | hz
     ·omega
     ·have := h1 z hz; omega
    rw [hn, jxy, jxy];simp;omega
theorem byT_sort : ∀ {L : List Itm}, (L.map (·.key)).Nodup → byT (jqx L) = byT L := by
 intro L;refine listRev (P := fun L => (L.map (·.key)).Nodup → byT (jqx L) = byT L) ?_ ?_ L
 ·intro _; rfl
 ·intro L x ih h
  rw [List.map_append, List.nodup_append] at h;obtain ⟨h1, -, h3⟩ := h;rw [sortL_snoc, byT_append, ← ih h1, jxy, byT_nil];have e := byT_ins (x := x) (jq3 L);rw [jws, jxs.2 (fun z hz e => h3 z.key (List.mem_map.2 ⟨z, hz, rfl⟩) x.key (by simp) e)] at e;simp at e;omega
theorem byT_del {k : Nat} {S : List Itm} (h : Asc S) : byT (delL k S) + ((lk S k).map szT).getD 0 = byT S := by
 induction S with
 | nil => simp [delL, byT_nil, lk_nil]
 | cons y S ih =>
  obtain ⟨h1, h2⟩ := jw7.1 h;have ih := ih h2;have hl : lk (y :: S) k = (lk S k).or (if y.key = k then some y else none) := by
   have := lk_app [y] S k;rw [List.singleton_append] at this;rw [this];have e1 : lk [y] k = if y.key = k then some y else none := by
    have := lk_snoc [] y k;rw [List.nil_append] at this;rw [this, lk_nil]
   rw [e1]
  unfold delL at ih ⊢
  by_cases c : y.key = k
  ·rw [hl, if_pos c, List.filter_cons_of_neg (by simpa using c), jxy]
   have : lk S k = none := jxs.2 fun z hz e => by have := h1 z hz; omega
   rw [this] at ih ⊢;simp at ih ⊢;omega
  ·rw [hl, if_neg c, List.filter_cons_of_pos (by simpa using c), jxy, jxy]
   cases e : lk S k with
   | none => rw [e] at ih; simp at ih ⊢; omega
   | some z => rw [e] at ih; simp at ih ⊢; omega
theorem old_stripe {m : Mp} (h : okM m) (hl : m.st.length = 8) (k : Nat) : oldT (iL m) k = oldT (ms m (sp k)) k := by unfold oldT; rw [lk_iL h hl]
theorem byT_flat {m : Mp} (h : okM m) (hl : m.st.length = 8) : byT (iL m) = m.live := by
 rw [h.live];have e : ∀ s, s ≤ 8 → byT (jqx (m.st.take s).flatten) = byT (m.st.take s).flatten ∧ ∀ x ∈ (m.st.take s).flatten, sp x.key < s := by
  intro s
  induction s with
  | zero => intro _; exact ⟨rfl, by simp⟩
  | succ s ih =>
   intro hs;obtain ⟨-, h2⟩ := ih (by omega);have hx : ∀ x ∈ (m.st.take (s + 1)).flatten, sp x.key < s + 1 := by
    rw [List.take_succ_eq_append_getElem (by omega), List.flatten_append, ← ms_of (by omega)];intro x hx;rcases List.mem_append.1 hx with hx | hx
    ·have := h2 x hx; omega
    ·have := h.sp s (by omega) x (by simpa using hx); omega
   exact ⟨byT_sort (nodup_flat h hl (s + 1) hs), hx⟩
 have := (e 8 (Nat.le_refl _)).1;rw [List.take_of_length_le (by omega)] at this;exact this
theorem del_none {m : Mp} (h : okM m) (hl : m.st.length = 8) {k : Nat} (hg : lk (ms m (sp k)) k = none) : delM m k = m := by
 unfold delM;rw [if_neg];rintro ⟨-, h2⟩;rw [lk_iL h hl, hg] at h2
 cases h2
theorem del_eq {m : Mp} (h : okM m) (hl : m.st.length = 8) {k : Nat} (hs : (lk (ms m (sp k)) k).isSome) (hg : m.garb + oldT (ms m (sp k)) k ≤ G40) : delM m k = ⟨m.st.set (sp k) (dropL (ms m (sp k)) k), m.live - oldT (ms m (sp k)) k, m.garb + oldT (ms m (sp k)) k⟩ := by
 have ho := oldT_bd (iL m) k;have ha := asc_iL m;have hs8 := sp_lt k;unfold delM;rw [if_pos ⟨h, by rw [lk_iL h hl]; exact hs⟩, if_neg (by rw [old_stripe h hl]; omega)];unfold jxg;have hp : dropL (iL m) k = delL k (iL m) := by unfold dropL; rw [sort_iL]
 have hsp : jqx (dropL (iL m) k) = delL k (iL m) := by rw [hp]; exact sort_asc (asc_delL k ha)
 rw [if_pos ⟨fun y hy => by
  rw [hp] at hy;exact iL_ok h hl y (mem_delL hy), by have := h.lo; omega, by rw [old_stripe h hl]; exact hg⟩, hsp]
 have e1 : jwp (delL k (iL m)) = m.st.set (sp k) (dropL (ms m (sp k)) k) := by
  refine st_ext (jxc _) (by rw [List.length_set]; exact hl) fun s hs => ?_;rw [jwr _ hs]
  by_cases c : sp k = s
  ·have e2 : (m.st.set (sp k) (dropL (ms m (sp k)) k)).getD s [] = dropL (ms m (sp k)) k := by
    rw [List.getD_eq_getElem?_getD, c, List.getElem?_set_self (by omega)];rfl
   rw [e2];refine asc_ext (asc_fS s (asc_delL k ha)) (asc_delL k (jq3 _)) fun j => ?_;unfold dropL;rw [lk_fS, lk_delL ha, lk_delL (jq3 _), jws, lk_iL h hl]
   by_cases e : j = k
   ·rw [if_pos e, if_pos e]; split <;> rfl
   ·rw [if_neg e, if_neg e]
    by_cases c3 : sp j = s
    ·rw [if_pos c3, c3, c]
    ·rw [if_neg c3, lk_stripe h hs8 j (by omega)]
  ·have e2 : (m.st.set (sp k) (dropL (ms m (sp k)) k)).getD s [] = ms m s := by
    rw [List.getD_eq_getElem?_getD, List.getElem?_set_ne c];rfl
   rw [e2, ← fS_iL h hl hs];refine asc_ext (asc_fS s (asc_delL k ha)) (asc_fS s ha) fun j => ?_;rw [lk_fS, lk_fS, lk_delL ha]
   by_cases c3 : sp j = s
   ·rw [if_pos c3, if_pos c3, if_neg (by intro e; rw [e] at c3; exact c c3)]
   ·rw [if_neg c3, if_neg c3]
 rw [e1];have e3 := byT_del (k := k) ha;have e4 := byT_flat h hl;have e5 := old_stripe h hl k;unfold oldT at e5 ⊢;rw [e5] at e3
 congr 1
 ·omega
 ·rw [e5]
theorem split_sort (L : List Itm) (s : Nat) : jqx (fS s L) = fS s (jqx L) := asc_ext (jq3 _) (asc_fS s (jq3 L)) fun k => by
 rw [jws, lk_fS, lk_fS, jws]
end Go.Proofs.YtimoinfjinmamaaGreat.Gf
namespace Go.Proofs.YtimoinfjinmamaaGreat.Gf
open Go
theorem fromL_ok {l : List Itm} {g : Int} (h : ∀ x ∈ l, okI x) (h0 : 0 ≤ g) (h1 : g ≤ G40) : okM ⟨jwp (jqx l), byT (jqx l), g⟩ where
 ok := fun s hs => by
  show okT ((jwp (jqx l)).getD s []);rw [jwr _ hs];exact ⟨fun x hx => h x (mem_sortL _ _ (mem_fS.1 hx).1), asc_fS s (jq3 l)⟩
 sp := fun s hs x hx => by
  have hx2 : x ∈ (jwp (jqx l)).getD s [] := hx;rw [jwr _ hs] at hx2;exact (mem_fS.1 hx2).2
 live := (flat_split (jqx l)).2.symm
 lo := h0
 hi := h1
theorem delM_ok {m : Mp} (h : okM m) (hl : m.st.length = 8) (k : Nat) : okM (delM m k) ∧ (delM m k).st.length = 8 := by
 unfold delM;split
 ·split
  ·exact ⟨h, hl⟩
  ·rename_i hg
   have hp : dropL (iL m) k = delL k (iL m) := by unfold dropL; rw [sort_iL]
   have hall : ∀ y ∈ dropL (iL m) k, okI y := fun y hy => by
    rw [hp] at hy;exact iL_ok h hl y (mem_delL hy)
   have ho := oldT_bd (iL m) k;have hlo := h.lo;unfold jxg;rw [if_pos ⟨hall, by omega, by omega⟩];exact ⟨fromL_ok hall (by omega) (by omega), jxc _⟩
 ·exact ⟨h, hl⟩
theorem few_set {m : Mp} {n u : Nat} {L : List Itm} {l g : Int} (h : FewN m n) (hL : L.length ≤ n) : FewN ⟨m.st.set u L, l, g⟩ n := fun k hk => by
 show ((m.st.set u L).getD k []).length ≤ n;rw [List.getD_eq_getElem?_getD]
 by_cases e : u = k
 ·subst e
  by_cases hu : u < m.st.length
  ·rw [List.getElem?_set_self hu]; exact hL
  ·rw [List.set_eq_of_length_le (by omega), ← List.getD_eq_getElem?_getD]; exact h u hk
 ·rw [List.getElem?_set_ne e, ← List.getD_eq_getElem?_getD]
  exact h k hk
theorem del_cnt {m : Mp} (h : okM m) (hl : m.st.length = 8) (k : Nat) {n : Nat} (hf : FewN m n) {g : Int} (hg : m.garb ≤ g) (hg2 : g ≤ 1000000000) : (delM m k).live + (delM m k).garb = m.live + m.garb ∧ (delM m k).garb ≤ g + 4200 ∧ FewN (delM m k) n := by
 have ho := oldT_bd (ms m (sp k)) k
 cases e : lk (ms m (sp k)) k with
 | none =>
  rw [del_none h hl e];exact ⟨rfl, by omega, hf⟩
 | some y =>
  rw [del_eq h hl (by rw [e]; rfl) (by unfold G40; omega)];refine ⟨by show m.live - _ + (m.garb + _) = _; omega, by show m.garb + _ ≤ _; omega, few_set hf ?_⟩;have h1 := jqz (ms m (sp k));have h3 := hf _ (sp_lt k);have h2 : (delL k (jqx (ms m (sp k)))).length ≤ (jqx (ms m (sp k))).length := List.length_filter_le _ _;show (delL k (jqx (ms m (sp k)))).length ≤ n;omega
end Go.Proofs.YtimoinfjinmamaaGreat.Gf
namespace Go.Proofs.YtimoinfjinmamaaGreat.Gf
open Go
def gO (m : Mp) (q : Nat) : Option Itm := lk (ms m (sp q)) q
theorem ms_set_get {m : Mp} (hl : m.st.length = 8) {u s : Nat} {L : List Itm} {l g : Int} (hu : u < 8) : ms ⟨m.st.set u L, l, g⟩ s = if u = s then L else ms m s := by
 show (m.st.set u L).getD s [] = _;rw [List.getD_eq_getElem?_getD]
 by_cases e : u = s
 ·subst e
  rw [if_pos rfl, List.getElem?_set_self (by omega)];rfl
 ·rw [if_neg e, List.getElem?_set_ne e]
  rfl
theorem gO_del {m : Mp} (h : okM m) (hl : m.st.length = 8) (k : Nat) (hg : m.garb ≤ 1000000000) (q : Nat) : gO (delM m k) q = if k = q then none else gO m q := by
 have ho := oldT_bd (ms m (sp k)) k
 cases e : lk (ms m (sp k)) k with
 | none =>
  rw [del_none h hl e]
  by_cases c : k = q
  ·subst c; rw [if_pos rfl]; exact e
  ·rw [if_neg c]
 | some y =>
  rw [del_eq h hl (by rw [e]; rfl) (by unfold G40; omega)];unfold gO;rw [ms_set_get hl (sp_lt _)]
  by_cases c : sp k = sp q
  ·rw [if_pos c, ← c]
   unfold dropL;rw [lk_delL (jq3 _), jws]
   by_cases d : k = q
   ·rw [if_pos d.symm, if_pos d]
   ·rw [if_neg (fun h => d h.symm), if_neg d]
  ·rw [if_neg c, if_neg (fun h => c (by rw [h]))]
end Go.Proofs.YtimoinfjinmamaaGreat.Gf
/- What is proved here: Stripe, size, written, removed, wasted of the program, and the reference's Stripe. -/
namespace Go.Proofs.YtimoinfjinmamaaGreat.Gf
open Joins ChangeShapes WideShapes ChangeAt RowKit Deep By Qt
theorem pwasted_any (n : Int) (w : World) : Calls Tryz.prog 107 #[.int .i64 n] w fun e w' => e = .returned (.complex .f64 (flw 0) (flw n)) ∧ w = w' := by
 have e1 : floatOfInt .f64 n = flw n := rfl;rw [flw_zero];generalize flw n = y at *
 go_enter Tryz.func107, Tryz.ntmps107
 go_wp2_with fail
 go_ret
 exact ⟨rfl, rfl⟩
end Go.Proofs.YtimoinfjinmamaaGreat.Gf
namespace Go.Proofs.YtimoinfjinmamaaGreat.Gf
open Joins ChangeShapes WideShapes ChangeAt RowKit Deep By Qt
set_option maxRecDepth 100000
set_option maxHeartbeats 204800000
theorem pvalidItem_any (x : Itm) (hx : ItOk x) (w : World) : Calls Tryz.prog 104 #[TV x] w fun e w' => e = .returned (.bool (decide (okI x))) ∧ Below w.heap.size w w' := by
 have e0 : decide (okT [x]) = decide (okI x) := decide_eq_decide.2 (by
  unfold okT Asc;simp)
 have PV := Lh (fun W v (h : It W v [x]) => pvalid8_any v [x] W h);rw [e0] at PV;have q := jqg w (.cells #[.int .u64 (x.key : Int), .int .u32 (x.ck : Int), .int .i64 x.off, .int .i64 x.sz] 65);have HX := Lh (heap_alloc_new w (.cells #[.int .u64 (x.key : Int), .int .u32 (x.ck : Int), .int .i64 x.off, .int .i64 x.sz] 65));unfold TV;generalize decide (okI x) = y at *
 go_enter Tryz.func104, Tryz.ntmps104
 go_upto_region 1 with fail
 have IO := Lh (jx1 hx (heap_alloc_new (w.alloc (.cells #[.int .u64 (x.key : Int), .int .u32 (x.ck : Int), .int .i64 x.off, .int .i64 x.sz] 65)) (.cells #[.int .u64 (x.key : Int), .int .u32 (x.ck : Int), .int .i64 x.off, .int .i64 x.sz] 65)));have q2 := jqg (w.alloc (.cells #[.int .u64 (x.key : Int), .int .u32 (x.ck : Int), .int .i64 x.off, .int .i64 x.sz] 65)) (.cells #[.int .u64 (x.key : Int), .int .u32 (x.ck : Int), .int .i64 x.off, .int .i64 x.sz] 65);generalize w.alloc (.cells #[.int .u64 (x.key : Int), .int .u32 (x.ck : Int), .int .i64 x.off, .int .i64 x.sz] 65) = W1 at *;obtain ⟨⟨x0, x1, x2, x3⟩, -⟩ := bx4 HX.out;go_wp2_with fail
 refine (PV.out _ _ IO.out).mono ?_;rintro e w2 ⟨rfl, hb⟩;go_wp2_with fail
 go_ret
 exact ⟨rfl, (q.trans (q2.mono q.size)).trans (hb.mono (Nat.le_trans q.size q2.size))⟩
end Go.Proofs.YtimoinfjinmamaaGreat.Gf
namespace Go.Proofs.YtimoinfjinmamaaGreat.Gf
open Joins ChangeShapes WideShapes ChangeAt RowKit Deep By Qt
set_option maxRecDepth 100000
set_option maxHeartbeats 204800000
theorem c40_flw : flw 1099511627776 = 4787326403894837248 := by decide +kernel
theorem storeM {ops : Array Oper} {rest : List Oper} {x y : Operand} {pos : String} {after : Array Edge} {ty : TypeId} {a : Act} {w : World} {Q : Exit → Act → World → Prop}
 (g : Nat) (old cs : Array Value) (hx : a.eval x = .pointer (some ⟨g, 0, none⟩)) (hy : a.eval y = .agg cs) (hg : w.heap[g]? = some (.cells old 53 (0, 0))) (ho : old.size = 10) (hs : cs.size = 10) (h1 : cs.all (·.oneCell') = true)
 (h : wpList Tryz.prog ops Q rest a (w.setRow g cs)) : wpList Tryz.prog ops Q (⟨none, .store 53 x y, ty, pos, after, none⟩ :: rest) a w :=
 wpList_store_row rfl 53 x y rfl g cs hx hy 53 old hg (by rw [infoM10, hs]) (by omega) h1 h
def AdO (w : World) (m : Mp) (q : Bool) (e : Ending) (w' : World) : Prop := (∃ v, e = .returned (.tuple #[v, .bool q]) ∧ Mv w' v m) ∧ Below w.heap.size w w'
theorem padd_end {R : Ending → World → Prop} {W : World} {g : Nat} {tmps : Array Value} {s0 s1 s2 s3 s4 s5 s6 s7 s8 s9 : Value} (hp : tmps.getD 4 undef = .pointer (some ⟨g, 0, none⟩)) (hg : W.heap[g]? = some (.cells #[s0, s1, s2, s3, s4, s5, s6, s7, s8, s9] 53 (0, 0)))
 (hR : R (.returned (.tuple #[.agg #[s0, s1, s2, s3, s4, s5, s6, s7, s8, s9], tmps.getD 5 undef])) W) : bodyPost Tryz.prog Tryz.f106 R .ret { tmps := tmps, defers := [] } W :=
 bodyPost_ret (jqn rfl _ _ g #[s0, s1, s2, s3, s4, s5, s6, s7, s8, s9] hp hg Tryz.underlying53 rfl infoM10) rfl hR
theorem padd_all (v : Value) (m : Mp) (y z Y Z : Nat) (full : Bool) (l' g' : Int) (w : World) (hv : Mv w v m) (hsum : cSumBits .add .f64 (flw m.live) (flw m.garb) y z = some (Y, Z)) (ho : (FloatKind.f64.format.order Z (flw 1099511627776) == some .gt) = full)
 (hl : full = false → floatToIntVal .f64 Y .i64 = some l' ∧ J64 l') (hg : full = false → floatToIntVal .f64 Z .i64 = some g' ∧ J64 g') :
 Calls Tryz.prog 106 #[v, .complex .f64 y z] w (AdO w (if full then m else ⟨m.st, l', g'⟩) (!full)) := by
 obtain ⟨s0, s1, s2, s3, s4, s5, s6, s7, rfl, hms⟩ := hv;have q1 := jqg w (.cells #[s0, s1, s2, s3, s4, s5, s6, s7, .int .i64 m.live, .int .i64 m.garb] 53);have h1 := heap_alloc_new w (.cells #[s0, s1, s2, s3, s4, s5, s6, s7, .int .i64 m.live, .int .i64 m.garb] 53);have hsz : (w.alloc (.cells #[s0, s1, s2, s3, s4, s5, s6, s7, .int .i64 m.live, .int .i64 m.garb] 53)).heap.size = w.heap.size + 1 := by simp
 have q2 := jqg (w.alloc (.cells #[s0, s1, s2, s3, s4, s5, s6, s7, .int .i64 m.live, .int .i64 m.garb] 53)) (.cells #[.slice none 0 0, .slice none 0 0, .slice none 0 0, .slice none 0 0, .slice none 0 0, .slice none 0 0, .slice none 0 0, .slice none 0 0, .int .i64 0, .int .i64 0] 53);have h2 := heap_alloc_new (w.alloc (.cells #[s0, s1, s2, s3, s4, s5, s6, s7, .int .i64 m.live, .int .i64 m.garb] 53)) (.cells #[.slice none 0 0, .slice none 0 0, .slice none 0 0, .slice none 0 0, .slice none 0 0, .slice none 0 0, .slice none 0 0, .slice none 0 0, .int .i64 0, .int .i64 0] 53);rw [hsz] at h2;have HZ2 := Lh h2;have HM2 := Lh ((q2.block _ (jqb h1)).trans h1);have B2 := Lh (q1.trans (q2.mono q1.size));have MS := Lh hms;have HL := Lh hl;have HG := Lh hg;have hc1 : floatOfInt .f64 m.live = flw m.live := rfl;have hc2 : floatOfInt .f64 m.garb = flw m.garb := rfl;rw [c40_flw] at ho;clear hms q1 q2 h1 h2 hsz hl hg;generalize flw m.live = lf at *;generalize flw m.garb = gf at *
 go_enter Tryz.func106, Tryz.ntmps106
 go_upto_region 1 with fail
 generalize (w.alloc (.cells #[s0, s1, s2, s3, s4, s5, s6, s7, .int .i64 m.live, .int .i64 m.garb] 53)).alloc (.cells #[.slice none 0 0, .slice none 0 0, .slice none 0 0, .slice none 0 0, .slice none 0 0, .slice none 0 0, .slice none 0 0, .slice none 0 0, .int .i64 0, .int .i64 0] 53) = W2 at *;obtain ⟨x0, x1, x2, x3, x4, x5, x6, x7, x8, x9⟩ := bx10 HM2.out;have hadd := run_complex_sum (P := Tryz.prog) W2 .add (Or.inl rfl) 153 .f64 lf gf y z Y Z hsum
 cases full
 case true =>
  have ON := Lh (jwx MS.out m.live m.garb);go_wp2_with ((with_reducible refine storeM (w.heap.size + 1) _ #[s0, s1, s2, s3, s4, s5, s6, s7, .int .i64 m.live, .int .i64 m.garb] ?_ ?_ HZ2.out rfl rfl ON.out ?_); exact rfl; exact rfl)
  have SZ := Lh (setRow_heap W2 (w.heap.size + 1) _ #[s0, s1, s2, s3, s4, s5, s6, s7, .int .i64 m.live, .int .i64 m.garb] _ _ HZ2.out);have BE := Lh (jqd B2.out (Nat.le_succ w.heap.size) #[s0, s1, s2, s3, s4, s5, s6, s7, .int .i64 m.live, .int .i64 m.garb]);refine padd_end (g := w.heap.size + 1) rfl SZ.out ?_;exact ⟨⟨_, rfl, s0, s1, s2, s3, s4, s5, s6, s7, rfl, jqf MS.out BE.out⟩, BE.out⟩
 have fl := (HL.out rfl).1;have fg := (HG.out rfl).1;have cv1 := run_convert_float_int (P := Tryz.prog) W2 151 2 .f64 .i64 Y l' rfl Tryz.underlying2 fl;have cv2 := run_convert_float_int (P := Tryz.prog) W2 151 2 .f64 .i64 Z g' rfl Tryz.underlying2 fg;have f8 := frozen_of_row W2 w.heap.size 8 _ _ HM2.out;have f9 := frozen_of_row W2 w.heap.size 9 _ _ HM2.out;clear fl fg;go_upto_region 5 with fail
 clear x0 x1 x2 x3 x4 x5 x6 x7 x8 x9 f8 f9 cv1 cv2 hadd;have hm8 : (W2.setCell ⟨w.heap.size, 8, none⟩ (.int .i64 l')).heap[w.heap.size]? = some (.cells #[s0, s1, s2, s3, s4, s5, s6, s7, .int .i64 l', .int .i64 m.garb] 53 (0, 0)) := heap_setCell_same W2 w.heap.size 8 _ _ _ HM2.out;have hm9 : ((W2.setCell ⟨w.heap.size, 8, none⟩ (.int .i64 l')).setCell ⟨w.heap.size, 9, none⟩ (.int .i64 g')).heap[w.heap.size]? = some (.cells #[s0, s1, s2, s3, s4, s5, s6, s7, .int .i64 l', .int .i64 g'] 53 (0, 0)) := heap_setCell_same _ w.heap.size 9 _ _ _ hm8;have hz9 : ((W2.setCell ⟨w.heap.size, 8, none⟩ (.int .i64 l')).setCell ⟨w.heap.size, 9, none⟩ (.int .i64 g')).heap[w.heap.size + 1]? = some (.cells #[.slice none 0 0, .slice none 0 0, .slice none 0 0, .slice none 0 0, .slice none 0 0, .slice none 0 0, .slice none 0 0, .slice none 0 0, .int .i64 0, .int .i64 0] 53 (0, 0)) := by
  rw [heap_setCell_other _ _ _ _ (by simp), heap_setCell_other _ _ _ _ (by simp)];exact HZ2.out
 have HM5 := Lh hm9;have HZ5 := Lh hz9;have B5 := Lh ((B2.out.setCell (p := ⟨w.heap.size, 8, none⟩) (Nat.le_refl _) (.int .i64 l')).setCell (p := ⟨w.heap.size, 9, none⟩) (Nat.le_refl _) (.int .i64 g'));clear hm8 hm9 hz9 HM2 HZ2 B2;generalize (W2.setCell ⟨w.heap.size, 8, none⟩ (.int .i64 l')).setCell ⟨w.heap.size, 9, none⟩ (.int .i64 g') = W5 at *;obtain ⟨x0, x1, x2, x3, x4, x5, x6, x7, x8, x9⟩ := bx10 HM5.out;have ON := Lh (jwx MS.out l' g');go_wp2_with ((with_reducible refine storeM (w.heap.size + 1) _ #[s0, s1, s2, s3, s4, s5, s6, s7, .int .i64 l', .int .i64 g'] ?_ ?_ HZ5.out rfl rfl ON.out ?_); exact rfl; exact rfl)
 have SZ := Lh (setRow_heap W5 (w.heap.size + 1) _ #[s0, s1, s2, s3, s4, s5, s6, s7, .int .i64 l', .int .i64 g'] _ _ HZ5.out);have BE := Lh (jqd B5.out (Nat.le_succ w.heap.size) #[s0, s1, s2, s3, s4, s5, s6, s7, .int .i64 l', .int .i64 g']);refine padd_end (g := w.heap.size + 1) rfl SZ.out ?_;have hms := jqf MS.out BE.out;exact ⟨⟨_, rfl, s0, s1, s2, s3, s4, s5, s6, s7, rfl, hms.1, (HL.out (by trivial)).2, (HG.out (by trivial)).2, hms.2.2.2⟩, BE.out⟩
theorem padd_any (v : Value) (m : Mp) (a b : Int) (w : World) (hv : Mv w v m) (h1 : m.live.natAbs ≤ 2 ^ 50) (h2 : m.garb.natAbs ≤ 2 ^ 50) (h3 : a.natAbs ≤ 2 ^ 50) (h4 : b.natAbs ≤ 2 ^ 52) :
 Calls Tryz.prog 106 #[v, .complex .f64 (flw a) (flw b)] w (AdO w (if G40 < m.garb + b then m else ⟨m.st, m.live + a, m.garb + b⟩) (decide (¬ G40 < m.garb + b))) := by
 have hs := csum (a := m.live) (b := m.garb) (c := a) (d := b) (by omega) (by omega) (by omega) (by omega) (by omega) (by omega);have ho : (FloatKind.f64.format.order (flw (m.garb + b)) (flw 1099511627776) == some .gt) = decide (G40 < m.garb + b) := by
  rw [order_flw (by omega) (by decide)];unfold G40;rcases Int.lt_trichotomy (m.garb + b) 1099511627776 with h | h | h
  ·rw [cmp_lt h, decide_eq_false (by omega)]; rfl
  ·rw [h, cmp_self, decide_eq_false (by omega)]; rfl
  ·rw [cmp_gt h, decide_eq_true h]; rfl
 have h := padd_all v m _ _ _ _ (decide (G40 < m.garb + b)) (m.live + a) (m.garb + b) w hv hs ho (fun _ => ⟨int_flw (by omega), by unfold J64; omega⟩) (fun _ => ⟨int_flw (by omega), by unfold J64; omega⟩)
 by_cases c : G40 < m.garb + b
 ·rw [decide_eq_true c] at h
  rw [if_pos c, decide_eq_false (not_not_intro c)];exact h
 ·rw [decide_eq_false c] at h
  rw [if_neg c, decide_eq_true c];exact h
theorem padd_big (v : Value) (m : Mp) (P a Y z : Nat) (w : World) (hv : Mv w v m) (h0 : 0 ≤ m.garb) (h2 : m.garb.natAbs ≤ 2 ^ 50) (hz : Big P z) (hP : P ≤ 700) (hY : floatBits .add .f64 (flw m.live) a = some Y) :
 Calls Tryz.prog 106 #[v, .complex .f64 a z] w (AdO w m false) := by
 obtain ⟨r, hr, hb⟩ := add_big hz (by omega) h0 (by omega);have hs : cSumBits .add .f64 (flw m.live) (flw m.garb) a z = some (Y, r) := by
  unfold cSumBits;rw [hY, hr];rfl
 exact padd_all v m _ _ _ _ true 0 0 w hv hs (by rw [gt_big hb (by decide) (by decide)]; rfl) (fun h => by cases h) (fun h => by cases h)
end Go.Proofs.YtimoinfjinmamaaGreat.Gf
namespace Go.Proofs.YtimoinfjinmamaaGreat.Gf
open Joins ChangeShapes WideShapes ChangeAt RowKit Deep By Qt
set_option maxRecDepth 100000
set_option maxHeartbeats 204800000
theorem jxd {Y : World} {p : Nat} {vs : List Value} {m : Mp} {cs : Array Value} (h : Ms Y vs m) (hz : Y.heap[p]? = some (.cells #[.slice none 0 0, .slice none 0 0, .slice none 0 0, .slice none 0 0, .slice none 0 0, .slice none 0 0, .slice none 0 0, .slice none 0 0, .int .i64 0, .int .i64 0] 53 (0, 0))) : Ms (Y.setRow p cs) vs m := ⟨h.1, h.2.1, h.2.2.1, fun k hk => by
 obtain ⟨a, c, h1, h2⟩ := h.2.2.2 k hk;exact ⟨a, c, h1, it_keepM h2 hz zero_u64 fun b hb => setRow_other _ _ _ _ hb⟩⟩
theorem pwasted_bel (n : Int) (w : World) : Calls Tryz.prog 107 #[.int .i64 n] w fun e w' => e = .returned (.complex .f64 (flw 0) (flw n)) ∧ Below w.heap.size w w' := (pwasted_any n w).mono fun _ _ ⟨h1, h2⟩ => ⟨h1, by rw [h2]; exact Below.refl _ _⟩
theorem pwaste_any (v : Value) (m : Mp) (n : Int) (w : World) (hv : Mv w v m) (hf : Few m) (hn : J64 n) : Calls Tryz.prog 86 #[v, .int .i64 n] w (MO w (jwk m n)) := by
 have HNJ := Lh hn;have PV := Lh (fun W (h : Below w.heap.size w W) => pvalid11_any v m W (jxq hv h) hf);have HF := Lh hf;obtain ⟨s0, s1, s2, s3, s4, s5, s6, s7, rfl, hms⟩ := hv;have q1 := jqg w (.cells #[s0, s1, s2, s3, s4, s5, s6, s7, .int .i64 m.live, .int .i64 m.garb] 53);have h1 := heap_alloc_new w (.cells #[s0, s1, s2, s3, s4, s5, s6, s7, .int .i64 m.live, .int .i64 m.garb] 53);have hsz : (w.alloc (.cells #[s0, s1, s2, s3, s4, s5, s6, s7, .int .i64 m.live, .int .i64 m.garb] 53)).heap.size = w.heap.size + 1 := by simp
 have q2 := jqg (w.alloc (.cells #[s0, s1, s2, s3, s4, s5, s6, s7, .int .i64 m.live, .int .i64 m.garb] 53)) (.cells #[.slice none 0 0, .slice none 0 0, .slice none 0 0, .slice none 0 0, .slice none 0 0, .slice none 0 0, .slice none 0 0, .slice none 0 0, .int .i64 0, .int .i64 0] 53);have h2 := heap_alloc_new (w.alloc (.cells #[s0, s1, s2, s3, s4, s5, s6, s7, .int .i64 m.live, .int .i64 m.garb] 53)) (.cells #[.slice none 0 0, .slice none 0 0, .slice none 0 0, .slice none 0 0, .slice none 0 0, .slice none 0 0, .slice none 0 0, .slice none 0 0, .int .i64 0, .int .i64 0] 53);rw [hsz] at h2;have HZ2 := Lh h2;have HM2 := Lh ((q2.block _ (jqb h1)).trans h1);have B2 := Lh (q1.trans (q2.mono q1.size));have MS2 := Lh (jqf hms B2.out);have HSZ := Lh (show ((w.alloc (.cells #[s0, s1, s2, s3, s4, s5, s6, s7, .int .i64 m.live, .int .i64 m.garb] 53)).alloc (.cells #[.slice none 0 0, .slice none 0 0, .slice none 0 0, .slice none 0 0, .slice none 0 0, .slice none 0 0, .slice none 0 0, .slice none 0 0, .int .i64 0, .int .i64 0] 53)).heap.size = w.heap.size + 2 by simp);clear hms q1 q2 h1 h2 hsz;clear hf hn
 go_enter Tryz.func86, Tryz.ntmps86
 go_upto_region 1 with fail
 generalize (w.alloc (.cells #[s0, s1, s2, s3, s4, s5, s6, s7, .int .i64 m.live, .int .i64 m.garb] 53)).alloc (.cells #[.slice none 0 0, .slice none 0 0, .slice none 0 0, .slice none 0 0, .slice none 0 0, .slice none 0 0, .slice none 0 0, .slice none 0 0, .int .i64 0, .int .i64 0] 53) = W2 at *;have PV2 := Lh (PV.out W2 B2.out);clear PV
 by_cases hok : okM m
 case neg =>
  rw [jx8 hok] at PV2;have HE := Lh (show jwk m n = m by unfold jwk; rw [if_neg (fun h => hok h.1)]);clear hok;obtain ⟨x0, x1, x2, x3, x4, x5, x6, x7, x8, x9⟩ := bx10 HM2.out;go_wp2_with fail
  clear x0 x1 x2 x3 x4 x5 x6 x7 x8 x9;refine PV2.out.mono ?_;rintro e w3 ⟨rfl, hb⟩;have B3 := Lh (B2.out.trans (hb.mono B2.out.size));have HZ3 := Lh ((hb.block _ (jqb HZ2.out)).trans HZ2.out);have HM3 := Lh ((hb.block _ (jqb HM2.out)).trans HM2.out);have MS3 := Lh (jqf MS2.out hb);clear hb PV2 HZ2 HM2 B2 MS2;have ON := Lh (jwx MS3.out m.live m.garb);obtain ⟨x0, x1, x2, x3, x4, x5, x6, x7, x8, x9⟩ := bx10 HM3.out;go_wp2_with ((with_reducible refine storeM (w.heap.size + 1) _ #[s0, s1, s2, s3, s4, s5, s6, s7, .int .i64 m.live, .int .i64 m.garb] ?_ ?_ HZ3.out rfl rfl ON.out ?_); exact rfl; exact rfl)
  have SZ := Lh (setRow_heap w3 (w.heap.size + 1) _ #[s0, s1, s2, s3, s4, s5, s6, s7, .int .i64 m.live, .int .i64 m.garb] _ _ HZ3.out);have BE := Lh (jqd B3.out (Nat.le_succ w.heap.size) #[s0, s1, s2, s3, s4, s5, s6, s7, .int .i64 m.live, .int .i64 m.garb]);refine mo_end (fn := Tryz.f86) rfl (w.heap.size + 1) rfl SZ.out ?_;rw [HE.out];exact ⟨⟨_, rfl, s0, s1, s2, s3, s4, s5, s6, s7, rfl, jxd MS3.out HZ3.out⟩, BE.out⟩
 rw [okMb_t hok] at PV2
 by_cases hn0 : n < 0
 case pos =>
  have l1 : decide (n < 0) = true := decide_eq_true hn0;have HE := Lh (show jwk m n = m by unfold jwk; rw [if_neg (fun h => by have := h.2.1; omega)]);clear hok hn0;obtain ⟨x0, x1, x2, x3, x4, x5, x6, x7, x8, x9⟩ := bx10 HM2.out;go_wp2_with fail
  clear x0 x1 x2 x3 x4 x5 x6 x7 x8 x9;refine PV2.out.mono ?_;rintro e w3 ⟨rfl, hb⟩;have B3 := Lh (B2.out.trans (hb.mono B2.out.size));have HZ3 := Lh ((hb.block _ (jqb HZ2.out)).trans HZ2.out);have HM3 := Lh ((hb.block _ (jqb HM2.out)).trans HM2.out);have MS3 := Lh (jqf MS2.out hb);clear hb PV2 HZ2 HM2 B2 MS2;have ON := Lh (jwx MS3.out m.live m.garb);obtain ⟨x0, x1, x2, x3, x4, x5, x6, x7, x8, x9⟩ := bx10 HM3.out;go_wp2_with ((with_reducible refine storeM (w.heap.size + 1) _ #[s0, s1, s2, s3, s4, s5, s6, s7, .int .i64 m.live, .int .i64 m.garb] ?_ ?_ HZ3.out rfl rfl ON.out ?_); exact rfl; exact rfl)
  have SZ := Lh (setRow_heap w3 (w.heap.size + 1) _ #[s0, s1, s2, s3, s4, s5, s6, s7, .int .i64 m.live, .int .i64 m.garb] _ _ HZ3.out);have BE := Lh (jqd B3.out (Nat.le_succ w.heap.size) #[s0, s1, s2, s3, s4, s5, s6, s7, .int .i64 m.live, .int .i64 m.garb]);refine mo_end (fn := Tryz.f86) rfl (w.heap.size + 1) rfl SZ.out ?_;rw [HE.out];exact ⟨⟨_, rfl, s0, s1, s2, s3, s4, s5, s6, s7, rfl, jxd MS3.out HZ3.out⟩, BE.out⟩
 have l1 : decide (n < 0) = false := decide_eq_false hn0;have hfl := few_live HF.out hok MS2.out.1;obtain ⟨mm, q, hadd, hmm⟩ : ∃ mm q, (∀ W, Below W2.heap.size W2 W → Calls Tryz.prog 106 #[.agg #[s0, s1, s2, s3, s4, s5, s6, s7, .int .i64 m.live, .int .i64 m.garb], .complex .f64 (flw 0) (flw n)] W (AdO W mm q)) ∧ mm = jwk m n := by
  have hmv : ∀ W, Below W2.heap.size W2 W → Mv W (.agg #[s0, s1, s2, s3, s4, s5, s6, s7, .int .i64 m.live, .int .i64 m.garb]) m := fun W h => ⟨s0, s1, s2, s3, s4, s5, s6, s7, rfl, jqf MS2.out h⟩;have hgl := hok.lo;have hgh := hok.hi
  by_cases hbg : n < 2 ^ 52
  ·refine ⟨_, _, fun W h => padd_any _ m 0 n W (hmv W h) (by omega) (by omega) (by decide) (by omega), ?_⟩
   unfold jwk
   by_cases c : G40 < m.garb + n
   ·rw [if_pos c, if_neg (fun h => by have := h.2.2; omega)]
   ·rw [if_neg c, if_pos ⟨hok, by omega, by omega⟩, Int.add_zero]
  ·have hJ := HNJ.out
   refine ⟨m, false, fun W h => padd_big _ m 12 (flw 0) (flw (m.live + 0)) (flw n) W (hmv W h) hgl (by omega) (flw_big (by omega) (by unfold J64 at hJ; omega)) (by decide) (add_flw (by omega) (by decide) (by omega)), ?_⟩;unfold jwk;rw [if_neg (fun h => by have := h.2.2; unfold G40 at this; omega)]
 have CB2 := Lh hadd;have HE := Lh hmm;have CA2 := Lh (fun W => pwasted_bel n W);clear hok hn0 hfl hadd hmm;obtain ⟨y, hy⟩ : ∃ y, y = flw 0 := ⟨_, rfl⟩;obtain ⟨z, hz⟩ : ∃ z, z = flw n := ⟨_, rfl⟩;rw [← hy, ← hz] at CA2 CB2;clear hy hz;obtain ⟨x0, x1, x2, x3, x4, x5, x6, x7, x8, x9⟩ := bx10 HM2.out;go_wp2_with fail
 clear x0 x1 x2 x3 x4 x5 x6 x7 x8 x9;refine PV2.out.mono ?_;rintro e w3 ⟨rfl, hb⟩;have B3 := Lh (B2.out.trans (hb.mono B2.out.size));have HZ3 := Lh ((hb.block _ (jqb HZ2.out)).trans HZ2.out);have HM3 := Lh ((hb.block _ (jqb HM2.out)).trans HM2.out);have MS3 := Lh (jqf MS2.out hb);have CB := Lh (fun W (h : Below w3.heap.size w3 W) => CB2.out W (hb.trans (h.mono hb.size)));have CA := Lh (fun W (_ : Below w3.heap.size w3 W) => CA2.out W);have HLE := Lh (show w.heap.size + 2 ≤ w3.heap.size by have := hb.size; have := HSZ.out; omega);clear hb PV2 HZ2 HM2 B2 MS2 CA2 CB2;go_upto_region 3 with fail
 clear l1
 go_cut [5, 6] from 15 to 21 (fun tp tq wx => ∃ (gn : Nat) (t0 t1 t2 t3 t4 t5 t6 t7 : Value), tp = .pointer (some ⟨gn, 0, none⟩) ∧ tq = .bool q ∧ Hid (wx.heap[gn]? = some (.cells #[t0, t1, t2, t3, t4, t5, t6, t7, .int .i64 mm.live, .int .i64 mm.garb] 53 (0, 0))) ∧ Hid (w3.heap.size ≤ gn) ∧ Hid (Ms wx [t0, t1, t2, t3, t4, t5, t6, t7] mm) ∧ Hid (Below w3.heap.size w3 wx))
 case first =>
  have S0 := Lh (Below.refl w3.heap.size w3).drew;refine jq0 ?_;refine jqh (fun W' => Below w3.heap.size w3 W') [0, 1] 8 (by kernel_rfl) (fun _ _ _ _ _ h => h.elim) (by kernel_rfl) (by rfl) (by rfl) S0.out ?_;simp only [jq2, List.filterMap_cons, List.filterMap_nil, List.getElem?_toArray, List.getElem?_cons_zero, List.getElem?_cons_succ];refine jqc (fun K hK => ?_);go_simp;refine ⟨.agg #[s0, s1, s2, s3, s4, s5, s6, s7, .int .i64 m.live, .int .i64 m.garb], fun w' hw' => by
   obtain ⟨x0, x1, x2, x3, x4, x5, x6, x7, x8, x9⟩ := bx10 ((hw'.block _ (jqb HM3.out)).trans HM3.out);simp [x0, x1, x2, x3, x4, x5, x6, x7, x8, x9], hK _ ?_⟩
  clear hK K;refine jqc (fun K hK => ?_);go_simp;refine ⟨_, fun _ _ => rfl, hK _ ?_⟩;clear hK K;refine jqp ?_;have SD := S0;generalize w3.drew = WD at *;clear S0;refine jq6 2 7 rfl rfl rfl rfl (by kernel_rfl) (fun K hK => ?_) (fun K hK => ?_)
  ·go_simp
   go_at_call 107
   refine (CA.out WD SD.out).mono ?_;rintro e w30 ⟨rfl, hb⟩;refine hK _ _ (SD.out.trans (hb.mono SD.out.size)) ?_;clear hK K;have S30 := Lh (SD.out.trans (hb.mono SD.out.size));clear hb SD;refine jq6 3 7 rfl rfl rfl rfl (by kernel_rfl) (fun K hK => ?_) (fun K hK => ?_)
   ·go_simp
    go_at_call 106
    refine (CB.out w30 S30.out).mono ?_;rintro e w31 ⟨⟨v5, rfl, hv5⟩, hb⟩;refine hK _ _ (S30.out.trans (hb.mono S30.out.size)) ?_;clear hK K;have S31 := Lh (S30.out.trans (hb.mono S30.out.size));obtain ⟨t0, t1, t2, t3, t4, t5, t6, t7, rfl, hms5⟩ := hv5;have R31 := Lh hms5;clear hb S30 hms5;refine wpAnyH_take (i := 4) (v := .tuple #[.agg #[t0, t1, t2, t3, t4, t5, t6, t7, .int .i64 mm.live, .int .i64 mm.garb], .bool q]) rfl (by kernel_rfl) (by kernel_rfl) (by kernel_rfl) (fun _ _ _ h => h) (Or.inl ⟨by kernel_rfl, fun w _ => by go_simp⟩) S31.out ?_;refine wpAnyH_take (i := 5) (v := .agg #[t0, t1, t2, t3, t4, t5, t6, t7, .int .i64 mm.live, .int .i64 mm.garb]) rfl (by kernel_rfl) (by kernel_rfl) (by kernel_rfl) (fun _ _ _ h => h) (Or.inl ⟨by kernel_rfl, fun w _ => by go_simp⟩) S31.out ?_;refine wpAnyH_take (i := 6) (v := .bool q) rfl (by kernel_rfl) (by kernel_rfl) (by kernel_rfl) (fun _ _ _ h => h) (Or.inl ⟨by kernel_rfl, fun w _ => by go_simp⟩) S31.out ?_;refine jqk 7 rfl rfl (by kernel_rfl) fun K hK => ?_;go_simp;have hb := jqg w31 (.cells #[.slice none 0 0, .slice none 0 0, .slice none 0 0, .slice none 0 0, .slice none 0 0, .slice none 0 0, .slice none 0 0, .slice none 0 0, .int .i64 0, .int .i64 0] 53);refine hK _ _ (S31.out.trans (hb.mono S31.out.size)) ?_;clear hK K;have S32 := Lh (S31.out.trans (hb.mono S31.out.size));have HG32 := Lh (heap_alloc_new w31 (.cells #[.slice none 0 0, .slice none 0 0, .slice none 0 0, .slice none 0 0, .slice none 0 0, .slice none 0 0, .slice none 0 0, .slice none 0 0, .int .i64 0, .int .i64 0] 53));have GE := Lh (show w3.heap.size ≤ w31.heap.size from S31.out.size);have R32 := Lh (jqf R31.out hb);clear R31;clear hb S31;generalize w31.alloc (.cells #[.slice none 0 0, .slice none 0 0, .slice none 0 0, .slice none 0 0, .slice none 0 0, .slice none 0 0, .slice none 0 0, .slice none 0 0, .int .i64 0, .int .i64 0] 53) = w32 at *;generalize w31.heap.size = gn at *;have ON := Lh (jwx R32.out mm.live mm.garb);refine jqk 8 rfl rfl (by kernel_rfl) fun K hK => ?_;refine wp_store_row 53 _ _ rfl gn #[t0, t1, t2, t3, t4, t5, t6, t7, .int .i64 mm.live, .int .i64 mm.garb] (by rfl) (by rfl) 53 _ HG32.out infoM10 rfl ON.out ?_;have SN := Lh (jqd S32.out GE.out #[t0, t1, t2, t3, t4, t5, t6, t7, .int .i64 mm.live, .int .i64 mm.garb]);refine hK _ _ SN.out ?_;clear hK K;refine jqk 9 rfl rfl (by kernel_rfl) fun K hK => ?_;go_simp;refine hK _ _ SN.out ?_;clear hK K;refine wpAnyH_done (by kernel_rfl) ?_ _;unfold jqw;dsimp only;go_wp2_with fail
    go_meet
    exact ⟨gn, t0, t1, t2, t3, t4, t5, t6, t7, rfl, rfl, Lh (setRow_heap _ _ _ _ _ _ HG32.out), GE, Lh (jxd R32.out HG32.out), SN⟩
   ·go_simp
    have hb := jqg w30 (.cells #[.slice none 0 0, .slice none 0 0, .slice none 0 0, .slice none 0 0, .slice none 0 0, .slice none 0 0, .slice none 0 0, .slice none 0 0, .int .i64 0, .int .i64 0] 53);refine hK _ _ (S30.out.trans (hb.mono S30.out.size)) ?_;clear hK K;have S31 := Lh (S30.out.trans (hb.mono S30.out.size));have HG31 := Lh (heap_alloc_new w30 (.cells #[.slice none 0 0, .slice none 0 0, .slice none 0 0, .slice none 0 0, .slice none 0 0, .slice none 0 0, .slice none 0 0, .slice none 0 0, .int .i64 0, .int .i64 0] 53));have GE := Lh (show w3.heap.size ≤ w30.heap.size from S30.out.size);clear hb S30;generalize w30.alloc (.cells #[.slice none 0 0, .slice none 0 0, .slice none 0 0, .slice none 0 0, .slice none 0 0, .slice none 0 0, .slice none 0 0, .slice none 0 0, .int .i64 0, .int .i64 0] 53) = w31 at *;generalize w30.heap.size = gn at *;refine jqk 3 rfl rfl (by kernel_rfl) fun K hK => ?_;go_simp
    go_at_call 106
    refine (CB.out w31 S31.out).mono ?_;rintro e w32 ⟨⟨v5, rfl, hv5⟩, hb⟩;refine hK _ _ (S31.out.trans (hb.mono S31.out.size)) ?_;clear hK K;have S32 := Lh (S31.out.trans (hb.mono S31.out.size));have HG32 := Lh ((hb.block _ (jqb HG31.out)).trans HG31.out);obtain ⟨t0, t1, t2, t3, t4, t5, t6, t7, rfl, hms5⟩ := hv5;have R32 := Lh hms5;clear hb S31 hms5 HG31;refine wpAnyH_take (i := 4) (v := .tuple #[.agg #[t0, t1, t2, t3, t4, t5, t6, t7, .int .i64 mm.live, .int .i64 mm.garb], .bool q]) rfl (by kernel_rfl) (by kernel_rfl) (by kernel_rfl) (fun _ _ _ h => h) (Or.inl ⟨by kernel_rfl, fun w _ => by go_simp⟩) S32.out ?_;refine wpAnyH_take (i := 5) (v := .agg #[t0, t1, t2, t3, t4, t5, t6, t7, .int .i64 mm.live, .int .i64 mm.garb]) rfl (by kernel_rfl) (by kernel_rfl) (by kernel_rfl) (fun _ _ _ h => h) (Or.inl ⟨by kernel_rfl, fun w _ => by go_simp⟩) S32.out ?_;refine wpAnyH_take (i := 6) (v := .bool q) rfl (by kernel_rfl) (by kernel_rfl) (by kernel_rfl) (fun _ _ _ h => h) (Or.inl ⟨by kernel_rfl, fun w _ => by go_simp⟩) S32.out ?_;have ON := Lh (jwx R32.out mm.live mm.garb);refine jqk 8 rfl rfl (by kernel_rfl) fun K hK => ?_;refine wp_store_row 53 _ _ rfl gn #[t0, t1, t2, t3, t4, t5, t6, t7, .int .i64 mm.live, .int .i64 mm.garb] (by rfl) (by rfl) 53 _ HG32.out infoM10 rfl ON.out ?_;have SN := Lh (jqd S32.out GE.out #[t0, t1, t2, t3, t4, t5, t6, t7, .int .i64 mm.live, .int .i64 mm.garb]);refine hK _ _ SN.out ?_;clear hK K;refine jqk 9 rfl rfl (by kernel_rfl) fun K hK => ?_;go_simp;refine hK _ _ SN.out ?_;clear hK K;refine wpAnyH_done (by kernel_rfl) ?_ _;unfold jqw;dsimp only;go_wp2_with fail
    go_meet
    exact ⟨gn, t0, t1, t2, t3, t4, t5, t6, t7, rfl, rfl, Lh (setRow_heap _ _ _ _ _ _ HG32.out), GE, Lh (jxd R32.out HG32.out), SN⟩
  ·go_simp
   have hb := jqg WD (.cells #[.slice none 0 0, .slice none 0 0, .slice none 0 0, .slice none 0 0, .slice none 0 0, .slice none 0 0, .slice none 0 0, .slice none 0 0, .int .i64 0, .int .i64 0] 53);refine hK _ _ (SD.out.trans (hb.mono SD.out.size)) ?_;clear hK K;have S30 := Lh (SD.out.trans (hb.mono SD.out.size));have HG30 := Lh (heap_alloc_new WD (.cells #[.slice none 0 0, .slice none 0 0, .slice none 0 0, .slice none 0 0, .slice none 0 0, .slice none 0 0, .slice none 0 0, .slice none 0 0, .int .i64 0, .int .i64 0] 53));have GE := Lh (show w3.heap.size ≤ WD.heap.size from SD.out.size);clear hb SD;generalize WD.alloc (.cells #[.slice none 0 0, .slice none 0 0, .slice none 0 0, .slice none 0 0, .slice none 0 0, .slice none 0 0, .slice none 0 0, .slice none 0 0, .int .i64 0, .int .i64 0] 53) = w30 at *;generalize WD.heap.size = gn at *;refine jqk 2 rfl rfl (by kernel_rfl) fun K hK => ?_;go_simp
   go_at_call 107
   refine (CA.out w30 S30.out).mono ?_;rintro e w31 ⟨rfl, hb⟩;refine hK _ _ (S30.out.trans (hb.mono S30.out.size)) ?_;clear hK K;have S31 := Lh (S30.out.trans (hb.mono S30.out.size));have HG31 := Lh ((hb.block _ (jqb HG30.out)).trans HG30.out);clear hb S30 HG30;refine jqk 3 rfl rfl (by kernel_rfl) fun K hK => ?_;go_simp
   go_at_call 106
   refine (CB.out w31 S31.out).mono ?_;rintro e w32 ⟨⟨v5, rfl, hv5⟩, hb⟩;refine hK _ _ (S31.out.trans (hb.mono S31.out.size)) ?_;clear hK K;have S32 := Lh (S31.out.trans (hb.mono S31.out.size));have HG32 := Lh ((hb.block _ (jqb HG31.out)).trans HG31.out);obtain ⟨t0, t1, t2, t3, t4, t5, t6, t7, rfl, hms5⟩ := hv5;have R32 := Lh hms5;clear hb S31 hms5 HG31;refine wpAnyH_take (i := 4) (v := .tuple #[.agg #[t0, t1, t2, t3, t4, t5, t6, t7, .int .i64 mm.live, .int .i64 mm.garb], .bool q]) rfl (by kernel_rfl) (by kernel_rfl) (by kernel_rfl) (fun _ _ _ h => h) (Or.inl ⟨by kernel_rfl, fun w _ => by go_simp⟩) S32.out ?_;refine wpAnyH_take (i := 5) (v := .agg #[t0, t1, t2, t3, t4, t5, t6, t7, .int .i64 mm.live, .int .i64 mm.garb]) rfl (by kernel_rfl) (by kernel_rfl) (by kernel_rfl) (fun _ _ _ h => h) (Or.inl ⟨by kernel_rfl, fun w _ => by go_simp⟩) S32.out ?_;refine wpAnyH_take (i := 6) (v := .bool q) rfl (by kernel_rfl) (by kernel_rfl) (by kernel_rfl) (fun _ _ _ h => h) (Or.inl ⟨by kernel_rfl, fun w _ => by go_simp⟩) S32.out ?_;have ON := Lh (jwx R32.out mm.live mm.garb);refine jqk 8 rfl rfl (by kernel_rfl) fun K hK => ?_;refine wp_store_row 53 _ _ rfl gn #[t0, t1, t2, t3, t4, t5, t6, t7, .int .i64 mm.live, .int .i64 mm.garb] (by rfl) (by rfl) 53 _ HG32.out infoM10 rfl ON.out ?_;have SN := Lh (jqd S32.out GE.out #[t0, t1, t2, t3, t4, t5, t6, t7, .int .i64 mm.live, .int .i64 mm.garb]);refine hK _ _ SN.out ?_;clear hK K;refine jqk 9 rfl rfl (by kernel_rfl) fun K hK => ?_;go_simp;refine hK _ _ SN.out ?_;clear hK K;refine wpAnyH_done (by kernel_rfl) ?_ _;unfold jqw;dsimp only;go_wp2_with fail
   go_meet
   exact ⟨gn, t0, t1, t2, t3, t4, t5, t6, t7, rfl, rfl, Lh (setRow_heap _ _ _ _ _ _ HG32.out), GE, Lh (jxd R32.out HG32.out), SN⟩
 case rest =>
  rename World => w9
  obtain ⟨gn, t0, t1, t2, t3, t4, t5, t6, t7, rfl, rfl, HB9, HGN, MS9, S9⟩ := hcut;have HZ9 := Lh ((S9.out.block _ (jqb HZ3.out)).trans HZ3.out);have B9 := Lh (B3.out.trans (S9.out.mono B3.out.size));have ON := Lh (jwx MS9.out mm.live mm.garb);obtain ⟨x0, x1, x2, x3, x4, x5, x6, x7, x8, x9⟩ := bx10 HB9.out;go_wp2_with ((with_reducible refine storeM (w.heap.size + 1) _ #[t0, t1, t2, t3, t4, t5, t6, t7, .int .i64 mm.live, .int .i64 mm.garb] ?_ ?_ HZ9.out rfl rfl ON.out ?_); exact rfl; exact rfl)
  have SZ := Lh (setRow_heap w9 (w.heap.size + 1) _ #[t0, t1, t2, t3, t4, t5, t6, t7, .int .i64 mm.live, .int .i64 mm.garb] _ _ HZ9.out);have BE := Lh (jqd B9.out (Nat.le_succ w.heap.size) #[t0, t1, t2, t3, t4, t5, t6, t7, .int .i64 mm.live, .int .i64 mm.garb]);refine mo_end (fn := Tryz.f86) rfl (w.heap.size + 1) rfl SZ.out ?_;rw [← HE.out];exact ⟨⟨_, rfl, t0, t1, t2, t3, t4, t5, t6, t7, rfl, jxd MS9.out HZ9.out⟩, BE.out⟩
end Go.Proofs.YtimoinfjinmamaaGreat.Gf
namespace Go.Proofs.YtimoinfjinmamaaGreat.Gf
open Joins ChangeShapes WideShapes ChangeAt RowKit Deep By Qt
theorem ms_set {w : World} {p u : Nat} {c0 c1 c2 c3 c4 c5 c6 c7 d0 d1 d2 d3 d4 d5 d6 d7 : Value} {m : Mp} {a : Option Addr} {c : Nat} {L : List Itm} {l g l' g' : Int} (h : Ms w [c0, c1, c2, c3, c4, c5, c6, c7] m) (hp : w.heap[p]? = some (.cells #[c0, c1, c2, c3, c4, c5, c6, c7, .int .i64 l, .int .i64 g] 53 (0, 0))) (hu : u < 8) (hL : It w (.slice a L.length c) L) (hd : ∀ k, k < 8 → [d0, d1, d2, d3, d4, d5, d6, d7][k]? = if k = u then some (.slice a L.length c) else [c0, c1, c2, c3, c4, c5, c6, c7][k]?) (hl : J64 l') (hg : J64 g') (v : Value) :
 Ms (w.setCell ⟨p, u, none⟩ v) [d0, d1, d2, d3, d4, d5, d6, d7] ⟨m.st.set u L, l', g'⟩ := by
 have hk : ∀ b, b ≠ p → (w.setCell ⟨p, u, none⟩ v).heap[b]? = w.heap[b]? := fun b hb => heap_setCell_other _ _ _ _ hb;refine ⟨by rw [List.length_set]; exact h.1, hl, hg, fun k hk8 => ?_⟩;rw [hd k hk8]
 by_cases e : k = u
 ·subst e
  have hm : ms ⟨m.st.set k L, l', g'⟩ k = L := by
   unfold ms;rw [List.getD_eq_getElem?_getD, List.getElem?_set_self (by have := h.1; omega)];rfl
  rw [if_pos rfl, hm];exact ⟨a, c, rfl, it_keepM hL hp (ms_u64 h l g) hk⟩
 ·have hm : ms ⟨m.st.set u L, l', g'⟩ k = ms m k := by
   unfold ms;rw [List.getD_eq_getElem?_getD, List.getElem?_set_ne (fun h => e h.symm)];rfl
  rw [if_neg e, hm];obtain ⟨a2, c2, h1, h2⟩ := h.2.2.2 k hk8;exact ⟨a2, c2, h1, it_keepM h2 hp (ms_u64 h l g) hk⟩
end Go.Proofs.YtimoinfjinmamaaGreat.Gf
/- What is proved here: the laws' told and given: a map of the program and of the reference are the same value. -/
namespace Go.Proofs.YtimoinfjinmamaaGreat.Gf
open Joins ChangeShapes WideShapes ChangeAt RowKit Deep By Qt
def NewO (w : World) (e : Ending) (w' : World) : Prop := e = .returned (.agg #[.slice none 0 0, .slice none 0 0, .slice none 0 0, .slice none 0 0, .slice none 0 0, .slice none 0 0, .slice none 0 0, .slice none 0 0, .int .i64 0, .int .i64 0]) ∧ Below w.heap.size w w'
theorem pnew_nil (w : World) : Calls Tryz.prog 63 #[] w (NewO w) := by
 have q := jqg w (.cells #[.slice none 0 0, .slice none 0 0, .slice none 0 0, .slice none 0 0, .slice none 0 0, .slice none 0 0, .slice none 0 0, .slice none 0 0, .int .i64 0, .int .i64 0] 53);have hz := heap_alloc_new w (.cells #[.slice none 0 0, .slice none 0 0, .slice none 0 0, .slice none 0 0, .slice none 0 0, .slice none 0 0, .slice none 0 0, .slice none 0 0, .int .i64 0, .int .i64 0] 53)
 go_enter Tryz.func63, Tryz.ntmps63
 go_wp2_with fail
 refine mo_end (fn := Tryz.f63) rfl w.heap.size rfl hz ?_;exact ⟨rfl, q⟩
theorem ms_setRowM {w : World} {p : Nat} {t0 t1 t2 t3 t4 t5 t6 t7 d0 d1 d2 d3 d4 d5 d6 d7 : Value} {m m' : Mp} {l g : Int} (h : Ms w [t0, t1, t2, t3, t4, t5, t6, t7] m) (hd : Ms w [d0, d1, d2, d3, d4, d5, d6, d7] m') (hp : w.heap[p]? = some (.cells #[d0, d1, d2, d3, d4, d5, d6, d7, .int .i64 l, .int .i64 g] 53 (0, 0))) (cs : Array Value) : Ms (w.setRow p cs) [t0, t1, t2, t3, t4, t5, t6, t7] m := ⟨h.1, h.2.1, h.2.2.1, fun k hk => by
 obtain ⟨a, c, h1, h2⟩ := h.2.2.2 k hk;exact ⟨a, c, h1, it_keepM h2 hp (ms_u64 hd l g) fun b hb => setRow_other _ _ _ _ hb⟩⟩
end Go.Proofs.YtimoinfjinmamaaGreat.Gf
namespace Go.Proofs.YtimoinfjinmamaaGreat.Gf
open Joins ChangeShapes WideShapes ChangeAt RowKit Deep By Qt
set_option maxRecDepth 100000
set_option maxHeartbeats 204800000
def mixM (L : List Itm) (k : Nat) : List (List Itm) := (List.range 8).map fun s => if s < k then jqx (fS s L) else fS s L
theorem mix_len (L : List Itm) (k : Nat) : (mixM L k).length = 8 := by simp [mixM]
theorem mix_get (L : List Itm) (k : Nat) {s : Nat} (h : s < 8) : (mixM L k).getD s [] = if s < k then jqx (fS s L) else fS s L := by
 unfold mixM;rw [List.getD_eq_getElem?_getD, List.getElem?_map, List.getElem?_range h];rfl
theorem mix_succ {L : List Itm} {k : Nat} (hk : k < 8) : (mixM L k).set k (jqx (fS k L)) = mixM L (k + 1) := by
 refine st_ext (by rw [List.length_set]; exact mix_len _ _) (mix_len _ _) fun s hs => ?_;rw [mix_get _ _ hs, List.getD_eq_getElem?_getD]
 by_cases e : k = s
 ·subst e
  rw [List.getElem?_set_self (by rw [mix_len]; exact hk), if_pos (by omega)];rfl
 ·rw [List.getElem?_set_ne e, ← List.getD_eq_getElem?_getD, mix_get _ _ hs]
  by_cases c : s < k
  ·rw [if_pos c, if_pos (by omega)]
  ·rw [if_neg c, if_neg (by omega)]
theorem mix_all (L : List Itm) : mixM L 8 = jwp (jqx L) := st_ext (mix_len _ _) (jxc _) fun s hs => by
 rw [mix_get _ _ hs, if_pos hs, jwr _ hs, split_sort]
theorem merge_nil (F : List Itm) : mergeL [] F [] = jqx F := by
 have h := merge_step [] F
 simpa [jqx] using h
theorem ms_mix {w : World} {base : Nat} {c0 c1 c2 c3 c4 c5 c6 c7 : Value} {L : List Itm} (h : OwS w base [c0, c1, c2, c3, c4, c5, c6, c7] (jwp L)) : Ms w [c0, c1, c2, c3, c4, c5, c6, c7] ⟨mixM L 0, 0, 0⟩ := ⟨mix_len _ _, by unfold J64; dsimp only; omega, by unfold J64; dsimp only; omega, fun k hk => by
 obtain ⟨v, h1, h2⟩ := h.own k hk;rw [jwr _ hk] at h2;have e : ms ⟨mixM L 0, 0, 0⟩ k = fS k L := by
  show (mixM L 0).getD k [] = _;rw [mix_get _ _ hk, if_neg (by omega)]
 rw [e];have h3 := jxr h2;obtain ⟨a, q, rfl, -, -⟩ := jqs h2;exact ⟨a, q, h1, h3⟩⟩
theorem few_split {L : List Itm} (h : L.length ≤ 1000) : Few ⟨jwp (jqx L), 0, 0⟩ := fun k hk => by
 have e : ms ⟨jwp (jqx L), 0, 0⟩ k = fS k (jqx L) := jwr _ hk;rw [e];exact Nat.le_trans (List.length_filter_le _ _) (Nat.le_trans (jqz L) h)
theorem from_add {L : List Itm} {gb : Int} (hok : ∀ x ∈ L, okI x) (h0 : 0 ≤ gb) (hJ : J64 gb) (hlen : L.length ≤ 1000) : ∃ Y Z mm q, cSumBits .add .f64 (flw (byT (jwp (jqx L)).flatten)) (flw 0) (flw 0) (flw gb) = some (Y, Z) ∧ (∀ v W, Mv W v ⟨jwp (jqx L), 0, 0⟩ → Calls Tryz.prog 106 #[v, .complex .f64 Y Z] W (AdO W mm q)) ∧ ((q = true → mm = jxg L gb) ∧ (q = false → jxg L gb = mp0)) := by
 have e1 := (flat_split (jqx L)).2;have e2 := byT_bd (jqx L);have e3 : (jqx L).length ≤ L.length := jqz L;rw [e1];have e4 : (jqx L).length ≤ 1000 := Nat.le_trans e3 hlen
 by_cases hbg : gb < 2 ^ 52
 ·have hs := csum (a := byT (jqx L)) (b := 0) (c := 0) (d := gb) (by omega) (by decide) (by decide) (by omega) (by omega) (by omega)
  refine ⟨_, _, _, _, hs, fun v W hv => padd_any v _ (byT (jqx L) + 0) (0 + gb) W hv (by show (0 : Int).natAbs ≤ 2 ^ 50; decide) (by show (0 : Int).natAbs ≤ 2 ^ 50; decide) (by omega) (by omega), fun h => ?_, fun h => ?_⟩
  ·have h := of_decide_eq_true h
   unfold jxg;dsimp only at h ⊢;rw [if_neg h, if_pos ⟨hok, h0, by omega⟩];simp
  ·have h := of_decide_eq_false h
   unfold jxg;dsimp only at h;rw [if_neg (fun h2 => h (fun h3 => by have := h2.2.2; omega))]
 ·obtain ⟨r, hr, hbr⟩ := add_big (flw_big (n := gb) (by omega) (by unfold J64 at hJ; omega)) (by decide) (a := 0) (by decide) (by decide)
  refine ⟨flw (byT (jqx L) + 0), r, _, false, ?_, fun v W hv => padd_big v _ 14 (flw (byT (jqx L) + 0)) _ r W hv (Int.le_refl 0) (by show (0 : Int).natAbs ≤ 2 ^ 50; decide) hbr (by decide) (add_flw (a := 0) (by decide) (by omega) (by omega)), fun h => (by cases h), fun _ => ?_⟩
  ·unfold cSumBits
   rw [add_flw (by omega) (by decide) (by omega), hr];rfl
  ·unfold jxg
   rw [if_neg (fun h => by have := h.2.2; unfold G40 at this; omega)]
theorem pfrom_any (v : Value) (L : List Itm) (gb : Int) (w : World) (hl : It w v L) (hlen : L.length ≤ 1000) (hgb : J64 gb) : Calls Tryz.prog 83 #[v, .int .i64 gb] w (MO w (jxg L gb)) := by
 have SL := Lh hl;have ON8 := Lh (jwx (mp0_ms w) 0 0);obtain ⟨a, c, rfl, -, hcm⟩ := jqy hl;obtain ⟨n, hn⟩ : ∃ z, z = L.length := ⟨_, rfl⟩;rw [← hn] at SL hlen ⊢;have HN := Lh (And.intro hn hlen);have HJ := Lh hgb;have BX := Lh (jqg w (.cells #[.slice none 0 0, .slice none 0 0, .slice none 0 0, .slice none 0 0, .slice none 0 0, .slice none 0 0, .slice none 0 0, .slice none 0 0, .int .i64 0, .int .i64 0] 53));have HZ := Lh (heap_alloc_new w (.cells #[.slice none 0 0, .slice none 0 0, .slice none 0 0, .slice none 0 0, .slice none 0 0, .slice none 0 0, .slice none 0 0, .slice none 0 0, .int .i64 0, .int .i64 0] 53));have SZ1 := Lh (show w.heap.size + 1 ≤ (w.alloc (.cells #[.slice none 0 0, .slice none 0 0, .slice none 0 0, .slice none 0 0, .slice none 0 0, .slice none 0 0, .slice none 0 0, .slice none 0 0, .int .i64 0, .int .i64 0] 53)).heap.size by simp);clear hl hn hlen hcm hgb
 go_enter Tryz.func83, Tryz.ntmps83
 go_upto_region 1 with fail
 generalize w.alloc (.cells #[.slice none 0 0, .slice none 0 0, .slice none 0 0, .slice none 0 0, .slice none 0 0, .slice none 0 0, .slice none 0 0, .slice none 0 0, .int .i64 0, .int .i64 0] 53) = W1 at *
 by_cases hg0 : gb < 0
 case pos =>
  have l1 : decide (gb < 0) = true := decide_eq_true hg0;have HE := Lh (show jxg L gb = mp0 by unfold jxg; rw [if_neg (fun h => by have := h.2.1; omega)]);clear hg0;go_wp2_with fail
  refine (pnew_nil W1).mono ?_;rintro e w3 ⟨rfl, hb⟩;have HZ3 := Lh ((hb.block _ (jqb HZ.out)).trans HZ.out);have B3 := Lh (BX.out.trans (hb.mono BX.out.size));clear hb;go_wp2_with ((with_reducible refine storeM w.heap.size _ #[.slice none 0 0, .slice none 0 0, .slice none 0 0, .slice none 0 0, .slice none 0 0, .slice none 0 0, .slice none 0 0, .slice none 0 0, .int .i64 0, .int .i64 0] ?_ ?_ HZ3.out rfl rfl ON8.out ?_); exact rfl; exact rfl)
  refine mo_end (fn := Tryz.f83) rfl w.heap.size rfl (setRow_heap _ _ _ _ _ _ HZ3.out) ?_;rw [HE.out];exact ⟨⟨_, rfl, _, _, _, _, _, _, _, _, rfl, mp0_ms _⟩, jqd B3.out (Nat.le_refl _) _⟩
 have l1 : decide (gb < 0) = false := decide_eq_false hg0;have HG0 := Lh (show 0 ≤ gb by omega);clear hg0;go_upto_region 3 with fail
 go_wp2_with fail
 refine (pnew_nil W1).mono ?_;rintro e w3 ⟨rfl, hb⟩;have HZ3 := Lh ((hb.block _ (jqb HZ.out)).trans HZ.out);have B3 := Lh (BX.out.trans (hb.mono BX.out.size));have q4 := jqg w3 (.cells #[.slice none 0 0, .slice none 0 0, .slice none 0 0, .slice none 0 0, .slice none 0 0, .slice none 0 0, .slice none 0 0, .slice none 0 0, .int .i64 0, .int .i64 0] 53);have HG4 := Lh (heap_alloc_new w3 (.cells #[.slice none 0 0, .slice none 0 0, .slice none 0 0, .slice none 0 0, .slice none 0 0, .slice none 0 0, .slice none 0 0, .slice none 0 0, .int .i64 0, .int .i64 0] 53));have HZ4 := Lh ((q4.block _ (jqb HZ3.out)).trans HZ3.out);have B4 := Lh (B3.out.trans (q4.mono B3.out.size));have NG := Lh (show w.heap.size < w3.heap.size by have := jqb HZ3.out; omega);clear hb q4 HZ BX SZ1 HZ3 B3;go_upto_region 4 with fail
 generalize w3.alloc (.cells #[.slice none 0 0, .slice none 0 0, .slice none 0 0, .slice none 0 0, .slice none 0 0, .slice none 0 0, .slice none 0 0, .slice none 0 0, .int .i64 0, .int .i64 0] 53) = w4 at *;generalize hgg : w3.heap.size = g at *;clear hgg;clear l1;go_wp2_with fail
 go_loopw [18] (fun t wr => ∃ i : Nat, i ≤ n ∧ t = .int .i64 (i : Int) ∧ Hid (∀ x ∈ L.take i, okI x) ∧ ∃ c0 c1 c2 c3 c4 c5 c6 c7 : Value, Hid (wr.heap[g]? = some (.cells #[c0, c1, c2, c3, c4, c5, c6, c7, .int .i64 0, .int .i64 0] 53 (0, 0))) ∧ Hid (OwS wr (g + 1) [c0, c1, c2, c3, c4, c5, c6, c7] (jwp (L.take i))) ∧ Hid (wr.heap[w.heap.size]? = some (.cells #[.slice none 0 0, .slice none 0 0, .slice none 0 0, .slice none 0 0, .slice none 0 0, .slice none 0 0, .slice none 0 0, .slice none 0 0, .int .i64 0, .int .i64 0] 53 (0, 0))) ∧ Hid (Below w.heap.size w wr)) (fun t _ => n - (intOf t).toNat)
 case atStart => exact ⟨0, by omega, rfl, Lh (by simp), _, _, _, _, _, _, _, _, HG4, Lh (by rw [List.take_zero]; exact ows_nil _ _), HZ4, B4⟩
 case round =>
  obtain ⟨i, hi, rfl, HT, c0, c1, c2, c3, c4, c5, c6, c7, HG, OS, HZ, BR⟩ := hrel
  rename World => wl
  clear HG4 HZ4 B4
  by_cases hlt : i < n
  case neg =>
   obtain rfl : i = n := by omega
   have hall : L.take i = L := List.take_of_length_le (by have := HN.out.1; omega);rw [hall] at OS HT;clear hlt hi hall;have l1 : decide ((i : Int) < (i : Int)) = false := decide_eq_false (by omega);have l2 : decide (i < i) = false := decide_eq_false (by omega);obtain ⟨x0, x1, x2, x3, x4, x5, x6, x7, x8, x9⟩ := bx10 HG.out;go_wp2_with fail
   clear x0 x1 x2 x3 x4 x5 x6 x7 x8 x9 l1 l2;have M0 := Lh (ms_mix OS.out);have HLN := Lh (show ∀ s, (fS s L).length ≤ 1000 from fun s => Nat.le_trans (List.length_filter_le _ _) (by have := HN.out; omega))
   go_loopw [42] (fun t wr => ∃ k : Nat, k ≤ 8 ∧ t = .int .i64 (k : Int) ∧ ∃ d0 d1 d2 d3 d4 d5 d6 d7 : Value, Hid (wr.heap[g]? = some (.cells #[d0, d1, d2, d3, d4, d5, d6, d7, .int .i64 0, .int .i64 0] 53 (0, 0))) ∧ Hid (Ms wr [d0, d1, d2, d3, d4, d5, d6, d7] ⟨mixM L k, 0, 0⟩) ∧ Hid (OwS wr (g + 1) [c0, c1, c2, c3, c4, c5, c6, c7] (jwp L)) ∧ Hid (wr.heap[w.heap.size]? = some (.cells #[.slice none 0 0, .slice none 0 0, .slice none 0 0, .slice none 0 0, .slice none 0 0, .slice none 0 0, .slice none 0 0, .slice none 0 0, .int .i64 0, .int .i64 0] 53 (0, 0))) ∧ Hid (Below w.heap.size w wr)) (fun t _ => 8 - (intOf t).toNat)
   case atStart => exact ⟨0, by omega, rfl, _, _, _, _, _, _, _, _, HG, M0, OS, HZ, BR⟩
   case round =>
    obtain ⟨k, hk, rfl, d0, d1, d2, d3, d4, d5, d6, d7, HG2, MS2, OS2, HZ2, B2⟩ := hrel
    rename World => w2
    clear HG M0 OS HZ BR
    by_cases hlt : k < 8
    case neg =>
     obtain rfl : k = 8 := by omega
     rw [mix_all] at MS2;clear hlt hk OS2;have l1 : decide (((8 : Nat) : Int) < 8) = false := by decide
     have l2 : decide (8 < 8) = false := by decide
     obtain ⟨Y, Z, mm, q, hsum, hadd, hq⟩ := from_add HT.out HG0.out HJ.out (by have := HN.out; omega);have HQ := Lh hq;have PR := Lh (fun W (h : Below w2.heap.size w2 W) => precords_any (.agg #[d0, d1, d2, d3, d4, d5, d6, d7, .int .i64 0, .int .i64 0]) _ W ⟨_, _, _, _, _, _, _, _, rfl, jqf MS2.out h⟩ (few_split (by have := HN.out; omega)));have PW := Lh (fun W => pwasted_bel gb W);have PA := Lh (fun W (h : Below w2.heap.size w2 W) => hadd (.agg #[d0, d1, d2, d3, d4, d5, d6, d7, .int .i64 0, .int .i64 0]) W ⟨_, _, _, _, _, _, _, _, rfl, jqf MS2.out h⟩);dsimp only at PR;obtain ⟨r1, hr1⟩ : ∃ z, z = flw (byT (jwp (jqx L)).flatten) := ⟨_, rfl⟩;obtain ⟨r2, hr2⟩ : ∃ z, z = flw 0 := ⟨_, rfl⟩;obtain ⟨r4, hr4⟩ : ∃ z, z = flw gb := ⟨_, rfl⟩;rw [← hr1, ← hr2] at PR;rw [← hr2, ← hr4] at PW;rw [← hr1, ← hr2, ← hr4] at hsum;have HADD := Lh (fun W => run_complex_sum (P := Tryz.prog) W .add (Or.inl rfl) 153 .f64 r1 r2 r2 r4 Y Z hsum);clear hsum hadd hq hr1 hr2 hr4;go_upto_region 17 with fail
     clear l1 l2;have S0 := Lh (Below.refl w2.heap.size w2).drew;refine jq0 ?_;refine jqh (fun W' => Below w.heap.size w2 W') [3] 11 (by kernel_rfl) (fun _ _ _ _ _ h => h.elim) (by kernel_rfl) (by rfl) (by rfl) (S0.out.mono B2.out.size) ?_;simp only [jq2, List.filterMap_cons, List.filterMap_nil, List.getElem?_toArray, List.getElem?_cons_zero, List.getElem?_cons_succ];refine jqc (fun K hK => ?_);go_simp;refine ⟨_, fun _ _ => rfl, hK _ ?_⟩;clear hK K;refine jqp ?_;generalize hwd : w2.drew = wD at *;clear hwd;have TD := Lh S0.out;have HGD := Lh ((S0.out.block _ (jqb HG2.out)).trans HG2.out);have HZD := Lh ((S0.out.block _ (jqb HZ2.out)).trans HZ2.out);have BD := Lh (B2.out.size);clear S0;refine jq6 0 1 rfl rfl rfl rfl (by kernel_rfl) (fun K hK => ?_) (fun K hK => ?_)
     ·obtain ⟨x0, x1, x2, x3, x4, x5, x6, x7, x8, x9⟩ := bx10 HGD.out
      go_simp;refine hK _ _ (TD.out.mono BD.out) ?_;clear hK K x0 x1 x2 x3 x4 x5 x6 x7 x8 x9;refine jqk 1 rfl rfl (by kernel_rfl) fun K hK => ?_;obtain ⟨x0, x1, x2, x3, x4, x5, x6, x7, x8, x9⟩ := bx10 HGD.out;go_simp;refine hK _ _ (TD.out.mono BD.out) ?_;clear hK K x0 x1 x2 x3 x4 x5 x6 x7 x8 x9;refine jqk 2 rfl rfl (by kernel_rfl) fun K hK => ?_;go_simp
      go_at_call 97
      refine (PR.out _ TD.out).mono ?_;rintro e y3 ⟨rfl, hb⟩;have TN := Lh (TD.out.trans (hb.mono TD.out.size));refine hK _ _ (TN.out.mono BD.out) ?_;clear hK K;have HGN := Lh ((hb.block _ (jqb HGD.out)).trans HGD.out);have HZN := Lh ((hb.block _ (jqb HZD.out)).trans HZD.out);clear hb TD HGD HZD;have TD := TN;have HGD := HGN;have HZD := HZN;clear TN HGN HZN;refine jqk 4 rfl rfl (by kernel_rfl) fun K hK => ?_;go_simp
      go_at_call 107
      refine (PW.out _).mono ?_;rintro e y4 ⟨rfl, hb⟩;have TN := Lh (TD.out.trans (hb.mono TD.out.size));refine hK _ _ (TN.out.mono BD.out) ?_;clear hK K;have HGN := Lh ((hb.block _ (jqb HGD.out)).trans HGD.out);have HZN := Lh ((hb.block _ (jqb HZD.out)).trans HZD.out);clear hb TD HGD HZD;have TD := TN;have HGD := HGN;have HZD := HZN;clear TN HGN HZN;refine jqk 5 rfl rfl (by kernel_rfl) fun K hK => ?_;have hadd := HADD.out;go_simp
      try simp only [hadd]
      refine hK _ _ (TD.out.mono BD.out) ?_;clear hK K hadd;refine jqk 6 rfl rfl (by kernel_rfl) fun K hK => ?_;go_simp
      go_at_call 106
      refine (PA.out _ TD.out).mono ?_;rintro e y6 ⟨⟨v5, rfl, hv5⟩, hb⟩;have TN := Lh (TD.out.trans (hb.mono TD.out.size));refine hK _ _ (TN.out.mono BD.out) ?_;clear hK K;have HGN := Lh ((hb.block _ (jqb HGD.out)).trans HGD.out);have HZN := Lh ((hb.block _ (jqb HZD.out)).trans HZD.out);clear hb TD HGD HZD;have TD := TN;have HGD := HGN;have HZD := HZN;clear TN HGN HZN;obtain ⟨t0, t1, t2, t3, t4, t5, t6, t7, rfl, hms5⟩ := hv5;have MS := Lh hms5;clear hms5;refine wpAnyH_take (i := 7) (v := .tuple #[.agg #[t0, t1, t2, t3, t4, t5, t6, t7, .int .i64 mm.live, .int .i64 mm.garb], .bool q]) rfl (by kernel_rfl) (by kernel_rfl) (by kernel_rfl) (fun _ _ _ h => h) (Or.inl ⟨by kernel_rfl, fun w _ => by go_simp⟩) (TD.out.mono BD.out) ?_;refine wpAnyH_take (i := 8) (v := .agg #[t0, t1, t2, t3, t4, t5, t6, t7, .int .i64 mm.live, .int .i64 mm.garb]) rfl (by kernel_rfl) (by kernel_rfl) (by kernel_rfl) (fun _ _ _ h => h) (Or.inl ⟨by kernel_rfl, fun w _ => by go_simp⟩) (TD.out.mono BD.out) ?_;refine wpAnyH_take (i := 9) (v := .bool q) rfl (by kernel_rfl) (by kernel_rfl) (by kernel_rfl) (fun _ _ _ h => h) (Or.inl ⟨by kernel_rfl, fun w _ => by go_simp⟩) (TD.out.mono BD.out) ?_;have ON := Lh (jwx MS.out mm.live mm.garb);refine jqk 10 rfl rfl (by kernel_rfl) fun K hK => ?_;refine wp_store_row 53 _ _ rfl g #[t0, t1, t2, t3, t4, t5, t6, t7, .int .i64 mm.live, .int .i64 mm.garb] (by rfl) (by rfl) 53 _ HGD.out infoM10 rfl ON.out ?_;have SN := Lh (jqd (TD.out.mono BD.out) (show w.heap.size ≤ g by have := NG.out; omega) #[t0, t1, t2, t3, t4, t5, t6, t7, .int .i64 mm.live, .int .i64 mm.garb]);refine hK _ _ SN.out ?_;clear hK K;refine jqk 11 rfl rfl (by kernel_rfl) fun K hK => ?_;go_simp;refine hK _ _ SN.out ?_;clear hK K;have HGS := Lh (setRow_heap _ _ _ #[t0, t1, t2, t3, t4, t5, t6, t7, .int .i64 mm.live, .int .i64 mm.garb] _ _ HGD.out);have HZS := Lh ((setRow_other _ g w.heap.size #[t0, t1, t2, t3, t4, t5, t6, t7, .int .i64 mm.live, .int .i64 mm.garb] (by have := NG.out; omega)).trans HZD.out);have MSS := Lh (ms_setRowM MS.out (jqf MS2.out TD.out) HGD.out #[t0, t1, t2, t3, t4, t5, t6, t7, .int .i64 mm.live, .int .i64 mm.garb]);have BS := Lh (B2.out.trans SN.out);refine wpAnyH_done (by kernel_rfl) ?_ _;unfold jqw;dsimp only;clear SN MS HGD HZD TD PA PR PW HADD
      cases q
      case false =>
       have HE := Lh (HQ.out.2 rfl);clear HQ;go_wp2_with fail
       refine (pnew_nil _).mono ?_;rintro e z3 ⟨rfl, hb⟩;have HZ3 := Lh ((hb.block _ (jqb HZS.out)).trans HZS.out);have B3 := Lh (BS.out.trans (hb.mono BS.out.size));clear hb;go_wp2_with ((with_reducible refine storeM w.heap.size _ #[.slice none 0 0, .slice none 0 0, .slice none 0 0, .slice none 0 0, .slice none 0 0, .slice none 0 0, .slice none 0 0, .slice none 0 0, .int .i64 0, .int .i64 0] ?_ ?_ HZ3.out rfl rfl ON8.out ?_); exact rfl; exact rfl)
       refine mo_end (fn := Tryz.f83) rfl w.heap.size rfl (setRow_heap _ _ _ _ _ _ HZ3.out) ?_;rw [HE.out];exact ⟨⟨_, rfl, _, _, _, _, _, _, _, _, rfl, mp0_ms _⟩, jqd B3.out (Nat.le_refl _) _⟩
      have HE := Lh (HQ.out.1 rfl);clear HQ;obtain ⟨x0, x1, x2, x3, x4, x5, x6, x7, x8, x9⟩ := bx10 HGS.out;go_wp2_with ((with_reducible refine storeM w.heap.size _ #[t0, t1, t2, t3, t4, t5, t6, t7, .int .i64 mm.live, .int .i64 mm.garb] ?_ ?_ HZS.out rfl rfl ON.out ?_); exact rfl; exact rfl)
      refine mo_end (fn := Tryz.f83) rfl w.heap.size rfl (setRow_heap _ _ _ _ _ _ HZS.out) ?_;rw [← HE.out];exact ⟨⟨_, rfl, t0, t1, t2, t3, t4, t5, t6, t7, rfl, jxd MSS.out HZS.out⟩, jqd BS.out (Nat.le_refl _) _⟩
     ·obtain ⟨x0, x1, x2, x3, x4, x5, x6, x7, x8, x9⟩ := bx10 HGD.out
      go_simp;refine hK _ _ (TD.out.mono BD.out) ?_;clear hK K x0 x1 x2 x3 x4 x5 x6 x7 x8 x9;refine jq6 0 2 rfl rfl rfl rfl (by kernel_rfl) (fun K hK => ?_) (fun K hK => ?_)
      ·obtain ⟨x0, x1, x2, x3, x4, x5, x6, x7, x8, x9⟩ := bx10 HGD.out
       go_simp;refine hK _ _ (TD.out.mono BD.out) ?_;clear hK K x0 x1 x2 x3 x4 x5 x6 x7 x8 x9;refine jqk 2 rfl rfl (by kernel_rfl) fun K hK => ?_;go_simp
       go_at_call 97
       refine (PR.out _ TD.out).mono ?_;rintro e y9 ⟨rfl, hb⟩;have TN := Lh (TD.out.trans (hb.mono TD.out.size));refine hK _ _ (TN.out.mono BD.out) ?_;clear hK K;have HGN := Lh ((hb.block _ (jqb HGD.out)).trans HGD.out);have HZN := Lh ((hb.block _ (jqb HZD.out)).trans HZD.out);clear hb TD HGD HZD;have TD := TN;have HGD := HGN;have HZD := HZN;clear TN HGN HZN;refine jqk 4 rfl rfl (by kernel_rfl) fun K hK => ?_;go_simp
       go_at_call 107
       refine (PW.out _).mono ?_;rintro e y10 ⟨rfl, hb⟩;have TN := Lh (TD.out.trans (hb.mono TD.out.size));refine hK _ _ (TN.out.mono BD.out) ?_;clear hK K;have HGN := Lh ((hb.block _ (jqb HGD.out)).trans HGD.out);have HZN := Lh ((hb.block _ (jqb HZD.out)).trans HZD.out);clear hb TD HGD HZD;have TD := TN;have HGD := HGN;have HZD := HZN;clear TN HGN HZN;refine jqk 5 rfl rfl (by kernel_rfl) fun K hK => ?_;have hadd := HADD.out;go_simp
       try simp only [hadd]
       refine hK _ _ (TD.out.mono BD.out) ?_;clear hK K hadd;refine jqk 6 rfl rfl (by kernel_rfl) fun K hK => ?_;go_simp
       go_at_call 106
       refine (PA.out _ TD.out).mono ?_;rintro e y12 ⟨⟨v5, rfl, hv5⟩, hb⟩;have TN := Lh (TD.out.trans (hb.mono TD.out.size));refine hK _ _ (TN.out.mono BD.out) ?_;clear hK K;have HGN := Lh ((hb.block _ (jqb HGD.out)).trans HGD.out);have HZN := Lh ((hb.block _ (jqb HZD.out)).trans HZD.out);clear hb TD HGD HZD;have TD := TN;have HGD := HGN;have HZD := HZN;clear TN HGN HZN;obtain ⟨t0, t1, t2, t3, t4, t5, t6, t7, rfl, hms5⟩ := hv5;have MS := Lh hms5;clear hms5;refine wpAnyH_take (i := 7) (v := .tuple #[.agg #[t0, t1, t2, t3, t4, t5, t6, t7, .int .i64 mm.live, .int .i64 mm.garb], .bool q]) rfl (by kernel_rfl) (by kernel_rfl) (by kernel_rfl) (fun _ _ _ h => h) (Or.inl ⟨by kernel_rfl, fun w _ => by go_simp⟩) (TD.out.mono BD.out) ?_;refine wpAnyH_take (i := 8) (v := .agg #[t0, t1, t2, t3, t4, t5, t6, t7, .int .i64 mm.live, .int .i64 mm.garb]) rfl (by kernel_rfl) (by kernel_rfl) (by kernel_rfl) (fun _ _ _ h => h) (Or.inl ⟨by kernel_rfl, fun w _ => by go_simp⟩) (TD.out.mono BD.out) ?_;refine wpAnyH_take (i := 9) (v := .bool q) rfl (by kernel_rfl) (by kernel_rfl) (by kernel_rfl) (fun _ _ _ h => h) (Or.inl ⟨by kernel_rfl, fun w _ => by go_simp⟩) (TD.out.mono BD.out) ?_;have ON := Lh (jwx MS.out mm.live mm.garb);refine jqk 10 rfl rfl (by kernel_rfl) fun K hK => ?_;refine wp_store_row 53 _ _ rfl g #[t0, t1, t2, t3, t4, t5, t6, t7, .int .i64 mm.live, .int .i64 mm.garb] (by rfl) (by rfl) 53 _ HGD.out infoM10 rfl ON.out ?_;have SN := Lh (jqd (TD.out.mono BD.out) (show w.heap.size ≤ g by have := NG.out; omega) #[t0, t1, t2, t3, t4, t5, t6, t7, .int .i64 mm.live, .int .i64 mm.garb]);refine hK _ _ SN.out ?_;clear hK K;refine jqk 11 rfl rfl (by kernel_rfl) fun K hK => ?_;go_simp;refine hK _ _ SN.out ?_;clear hK K;have HGS := Lh (setRow_heap _ _ _ #[t0, t1, t2, t3, t4, t5, t6, t7, .int .i64 mm.live, .int .i64 mm.garb] _ _ HGD.out);have HZS := Lh ((setRow_other _ g w.heap.size #[t0, t1, t2, t3, t4, t5, t6, t7, .int .i64 mm.live, .int .i64 mm.garb] (by have := NG.out; omega)).trans HZD.out);have MSS := Lh (ms_setRowM MS.out (jqf MS2.out TD.out) HGD.out #[t0, t1, t2, t3, t4, t5, t6, t7, .int .i64 mm.live, .int .i64 mm.garb]);have BS := Lh (B2.out.trans SN.out);refine wpAnyH_done (by kernel_rfl) ?_ _;unfold jqw;dsimp only;clear SN MS HGD HZD TD PA PR PW HADD
       cases q
       case false =>
        have HE := Lh (HQ.out.2 rfl);clear HQ;go_wp2_with fail
        refine (pnew_nil _).mono ?_;rintro e z3 ⟨rfl, hb⟩;have HZ3 := Lh ((hb.block _ (jqb HZS.out)).trans HZS.out);have B3 := Lh (BS.out.trans (hb.mono BS.out.size));clear hb;go_wp2_with ((with_reducible refine storeM w.heap.size _ #[.slice none 0 0, .slice none 0 0, .slice none 0 0, .slice none 0 0, .slice none 0 0, .slice none 0 0, .slice none 0 0, .slice none 0 0, .int .i64 0, .int .i64 0] ?_ ?_ HZ3.out rfl rfl ON8.out ?_); exact rfl; exact rfl)
        refine mo_end (fn := Tryz.f83) rfl w.heap.size rfl (setRow_heap _ _ _ _ _ _ HZ3.out) ?_;rw [HE.out];exact ⟨⟨_, rfl, _, _, _, _, _, _, _, _, rfl, mp0_ms _⟩, jqd B3.out (Nat.le_refl _) _⟩
       have HE := Lh (HQ.out.1 rfl);clear HQ;obtain ⟨x0, x1, x2, x3, x4, x5, x6, x7, x8, x9⟩ := bx10 HGS.out;go_wp2_with ((with_reducible refine storeM w.heap.size _ #[t0, t1, t2, t3, t4, t5, t6, t7, .int .i64 mm.live, .int .i64 mm.garb] ?_ ?_ HZS.out rfl rfl ON.out ?_); exact rfl; exact rfl)
       refine mo_end (fn := Tryz.f83) rfl w.heap.size rfl (setRow_heap _ _ _ _ _ _ HZS.out) ?_;rw [← HE.out];exact ⟨⟨_, rfl, t0, t1, t2, t3, t4, t5, t6, t7, rfl, jxd MSS.out HZS.out⟩, jqd BS.out (Nat.le_refl _) _⟩
      ·go_simp
       go_at_call 97
       refine (PR.out _ TD.out).mono ?_;rintro e y13 ⟨rfl, hb⟩;have TN := Lh (TD.out.trans (hb.mono TD.out.size));refine hK _ _ (TN.out.mono BD.out) ?_;clear hK K;have HGN := Lh ((hb.block _ (jqb HGD.out)).trans HGD.out);have HZN := Lh ((hb.block _ (jqb HZD.out)).trans HZD.out);clear hb TD HGD HZD;have TD := TN;have HGD := HGN;have HZD := HZN;clear TN HGN HZN;refine jq6 0 4 rfl rfl rfl rfl (by kernel_rfl) (fun K hK => ?_) (fun K hK => ?_)
       ·obtain ⟨x0, x1, x2, x3, x4, x5, x6, x7, x8, x9⟩ := bx10 HGD.out
        go_simp;refine hK _ _ (TD.out.mono BD.out) ?_;clear hK K x0 x1 x2 x3 x4 x5 x6 x7 x8 x9;refine jqk 4 rfl rfl (by kernel_rfl) fun K hK => ?_;go_simp
        go_at_call 107
        refine (PW.out _).mono ?_;rintro e y15 ⟨rfl, hb⟩;have TN := Lh (TD.out.trans (hb.mono TD.out.size));refine hK _ _ (TN.out.mono BD.out) ?_;clear hK K;have HGN := Lh ((hb.block _ (jqb HGD.out)).trans HGD.out);have HZN := Lh ((hb.block _ (jqb HZD.out)).trans HZD.out);clear hb TD HGD HZD;have TD := TN;have HGD := HGN;have HZD := HZN;clear TN HGN HZN;refine jqk 5 rfl rfl (by kernel_rfl) fun K hK => ?_;have hadd := HADD.out;go_simp
        try simp only [hadd]
        refine hK _ _ (TD.out.mono BD.out) ?_;clear hK K hadd;refine jqk 6 rfl rfl (by kernel_rfl) fun K hK => ?_;go_simp
        go_at_call 106
        refine (PA.out _ TD.out).mono ?_;rintro e y17 ⟨⟨v5, rfl, hv5⟩, hb⟩;have TN := Lh (TD.out.trans (hb.mono TD.out.size));refine hK _ _ (TN.out.mono BD.out) ?_;clear hK K;have HGN := Lh ((hb.block _ (jqb HGD.out)).trans HGD.out);have HZN := Lh ((hb.block _ (jqb HZD.out)).trans HZD.out);clear hb TD HGD HZD;have TD := TN;have HGD := HGN;have HZD := HZN;clear TN HGN HZN;obtain ⟨t0, t1, t2, t3, t4, t5, t6, t7, rfl, hms5⟩ := hv5;have MS := Lh hms5;clear hms5;refine wpAnyH_take (i := 7) (v := .tuple #[.agg #[t0, t1, t2, t3, t4, t5, t6, t7, .int .i64 mm.live, .int .i64 mm.garb], .bool q]) rfl (by kernel_rfl) (by kernel_rfl) (by kernel_rfl) (fun _ _ _ h => h) (Or.inl ⟨by kernel_rfl, fun w _ => by go_simp⟩) (TD.out.mono BD.out) ?_;refine wpAnyH_take (i := 8) (v := .agg #[t0, t1, t2, t3, t4, t5, t6, t7, .int .i64 mm.live, .int .i64 mm.garb]) rfl (by kernel_rfl) (by kernel_rfl) (by kernel_rfl) (fun _ _ _ h => h) (Or.inl ⟨by kernel_rfl, fun w _ => by go_simp⟩) (TD.out.mono BD.out) ?_;refine wpAnyH_take (i := 9) (v := .bool q) rfl (by kernel_rfl) (by kernel_rfl) (by kernel_rfl) (fun _ _ _ h => h) (Or.inl ⟨by kernel_rfl, fun w _ => by go_simp⟩) (TD.out.mono BD.out) ?_;have ON := Lh (jwx MS.out mm.live mm.garb);refine jqk 10 rfl rfl (by kernel_rfl) fun K hK => ?_;refine wp_store_row 53 _ _ rfl g #[t0, t1, t2, t3, t4, t5, t6, t7, .int .i64 mm.live, .int .i64 mm.garb] (by rfl) (by rfl) 53 _ HGD.out infoM10 rfl ON.out ?_;have SN := Lh (jqd (TD.out.mono BD.out) (show w.heap.size ≤ g by have := NG.out; omega) #[t0, t1, t2, t3, t4, t5, t6, t7, .int .i64 mm.live, .int .i64 mm.garb]);refine hK _ _ SN.out ?_;clear hK K;refine jqk 11 rfl rfl (by kernel_rfl) fun K hK => ?_;go_simp;refine hK _ _ SN.out ?_;clear hK K;have HGS := Lh (setRow_heap _ _ _ #[t0, t1, t2, t3, t4, t5, t6, t7, .int .i64 mm.live, .int .i64 mm.garb] _ _ HGD.out);have HZS := Lh ((setRow_other _ g w.heap.size #[t0, t1, t2, t3, t4, t5, t6, t7, .int .i64 mm.live, .int .i64 mm.garb] (by have := NG.out; omega)).trans HZD.out);have MSS := Lh (ms_setRowM MS.out (jqf MS2.out TD.out) HGD.out #[t0, t1, t2, t3, t4, t5, t6, t7, .int .i64 mm.live, .int .i64 mm.garb]);have BS := Lh (B2.out.trans SN.out);refine wpAnyH_done (by kernel_rfl) ?_ _;unfold jqw;dsimp only;clear SN MS HGD HZD TD PA PR PW HADD
        cases q
        case false =>
         have HE := Lh (HQ.out.2 rfl);clear HQ;go_wp2_with fail
         refine (pnew_nil _).mono ?_;rintro e z3 ⟨rfl, hb⟩;have HZ3 := Lh ((hb.block _ (jqb HZS.out)).trans HZS.out);have B3 := Lh (BS.out.trans (hb.mono BS.out.size));clear hb;go_wp2_with ((with_reducible refine storeM w.heap.size _ #[.slice none 0 0, .slice none 0 0, .slice none 0 0, .slice none 0 0, .slice none 0 0, .slice none 0 0, .slice none 0 0, .slice none 0 0, .int .i64 0, .int .i64 0] ?_ ?_ HZ3.out rfl rfl ON8.out ?_); exact rfl; exact rfl)
         refine mo_end (fn := Tryz.f83) rfl w.heap.size rfl (setRow_heap _ _ _ _ _ _ HZ3.out) ?_;rw [HE.out];exact ⟨⟨_, rfl, _, _, _, _, _, _, _, _, rfl, mp0_ms _⟩, jqd B3.out (Nat.le_refl _) _⟩
        have HE := Lh (HQ.out.1 rfl);clear HQ;obtain ⟨x0, x1, x2, x3, x4, x5, x6, x7, x8, x9⟩ := bx10 HGS.out;go_wp2_with ((with_reducible refine storeM w.heap.size _ #[t0, t1, t2, t3, t4, t5, t6, t7, .int .i64 mm.live, .int .i64 mm.garb] ?_ ?_ HZS.out rfl rfl ON.out ?_); exact rfl; exact rfl)
        refine mo_end (fn := Tryz.f83) rfl w.heap.size rfl (setRow_heap _ _ _ _ _ _ HZS.out) ?_;rw [← HE.out];exact ⟨⟨_, rfl, t0, t1, t2, t3, t4, t5, t6, t7, rfl, jxd MSS.out HZS.out⟩, jqd BS.out (Nat.le_refl _) _⟩
       ·go_simp
        go_at_call 107
        refine (PW.out _).mono ?_;rintro e y18 ⟨rfl, hb⟩;have TN := Lh (TD.out.trans (hb.mono TD.out.size));refine hK _ _ (TN.out.mono BD.out) ?_;clear hK K;have HGN := Lh ((hb.block _ (jqb HGD.out)).trans HGD.out);have HZN := Lh ((hb.block _ (jqb HZD.out)).trans HZD.out);clear hb TD HGD HZD;have TD := TN;have HGD := HGN;have HZD := HZN;clear TN HGN HZN;refine jq6 0 5 rfl rfl rfl rfl (by kernel_rfl) (fun K hK => ?_) (fun K hK => ?_)
        ·obtain ⟨x0, x1, x2, x3, x4, x5, x6, x7, x8, x9⟩ := bx10 HGD.out
         go_simp;refine hK _ _ (TD.out.mono BD.out) ?_;clear hK K x0 x1 x2 x3 x4 x5 x6 x7 x8 x9;refine jqk 5 rfl rfl (by kernel_rfl) fun K hK => ?_;have hadd := HADD.out;go_simp
         try simp only [hadd]
         refine hK _ _ (TD.out.mono BD.out) ?_;clear hK K hadd;refine jqk 6 rfl rfl (by kernel_rfl) fun K hK => ?_;go_simp
         go_at_call 106
         refine (PA.out _ TD.out).mono ?_;rintro e y21 ⟨⟨v5, rfl, hv5⟩, hb⟩;have TN := Lh (TD.out.trans (hb.mono TD.out.size));refine hK _ _ (TN.out.mono BD.out) ?_;clear hK K;have HGN := Lh ((hb.block _ (jqb HGD.out)).trans HGD.out);have HZN := Lh ((hb.block _ (jqb HZD.out)).trans HZD.out);clear hb TD HGD HZD;have TD := TN;have HGD := HGN;have HZD := HZN;clear TN HGN HZN;obtain ⟨t0, t1, t2, t3, t4, t5, t6, t7, rfl, hms5⟩ := hv5;have MS := Lh hms5;clear hms5;refine wpAnyH_take (i := 7) (v := .tuple #[.agg #[t0, t1, t2, t3, t4, t5, t6, t7, .int .i64 mm.live, .int .i64 mm.garb], .bool q]) rfl (by kernel_rfl) (by kernel_rfl) (by kernel_rfl) (fun _ _ _ h => h) (Or.inl ⟨by kernel_rfl, fun w _ => by go_simp⟩) (TD.out.mono BD.out) ?_;refine wpAnyH_take (i := 8) (v := .agg #[t0, t1, t2, t3, t4, t5, t6, t7, .int .i64 mm.live, .int .i64 mm.garb]) rfl (by kernel_rfl) (by kernel_rfl) (by kernel_rfl) (fun _ _ _ h => h) (Or.inl ⟨by kernel_rfl, fun w _ => by go_simp⟩) (TD.out.mono BD.out) ?_;refine wpAnyH_take (i := 9) (v := .bool q) rfl (by kernel_rfl) (by kernel_rfl) (by kernel_rfl) (fun _ _ _ h => h) (Or.inl ⟨by kernel_rfl, fun w _ => by go_simp⟩) (TD.out.mono BD.out) ?_;have ON := Lh (jwx MS.out mm.live mm.garb);refine jqk 10 rfl rfl (by kernel_rfl) fun K hK => ?_;refine wp_store_row 53 _ _ rfl g #[t0, t1, t2, t3, t4, t5, t6, t7, .int .i64 mm.live, .int .i64 mm.garb] (by rfl) (by rfl) 53 _ HGD.out infoM10 rfl ON.out ?_;have SN := Lh (jqd (TD.out.mono BD.out) (show w.heap.size ≤ g by have := NG.out; omega) #[t0, t1, t2, t3, t4, t5, t6, t7, .int .i64 mm.live, .int .i64 mm.garb]);refine hK _ _ SN.out ?_;clear hK K;refine jqk 11 rfl rfl (by kernel_rfl) fun K hK => ?_;go_simp;refine hK _ _ SN.out ?_;clear hK K;have HGS := Lh (setRow_heap _ _ _ #[t0, t1, t2, t3, t4, t5, t6, t7, .int .i64 mm.live, .int .i64 mm.garb] _ _ HGD.out);have HZS := Lh ((setRow_other _ g w.heap.size #[t0, t1, t2, t3, t4, t5, t6, t7, .int .i64 mm.live, .int .i64 mm.garb] (by have := NG.out; omega)).trans HZD.out);have MSS := Lh (ms_setRowM MS.out (jqf MS2.out TD.out) HGD.out #[t0, t1, t2, t3, t4, t5, t6, t7, .int .i64 mm.live, .int .i64 mm.garb]);have BS := Lh (B2.out.trans SN.out);refine wpAnyH_done (by kernel_rfl) ?_ _;unfold jqw;dsimp only;clear SN MS HGD HZD TD PA PR PW HADD
         cases q
         case false =>
          have HE := Lh (HQ.out.2 rfl);clear HQ;go_wp2_with fail
          refine (pnew_nil _).mono ?_;rintro e z3 ⟨rfl, hb⟩;have HZ3 := Lh ((hb.block _ (jqb HZS.out)).trans HZS.out);have B3 := Lh (BS.out.trans (hb.mono BS.out.size));clear hb;go_wp2_with ((with_reducible refine storeM w.heap.size _ #[.slice none 0 0, .slice none 0 0, .slice none 0 0, .slice none 0 0, .slice none 0 0, .slice none 0 0, .slice none 0 0, .slice none 0 0, .int .i64 0, .int .i64 0] ?_ ?_ HZ3.out rfl rfl ON8.out ?_); exact rfl; exact rfl)
          refine mo_end (fn := Tryz.f83) rfl w.heap.size rfl (setRow_heap _ _ _ _ _ _ HZ3.out) ?_;rw [HE.out];exact ⟨⟨_, rfl, _, _, _, _, _, _, _, _, rfl, mp0_ms _⟩, jqd B3.out (Nat.le_refl _) _⟩
         have HE := Lh (HQ.out.1 rfl);clear HQ;obtain ⟨x0, x1, x2, x3, x4, x5, x6, x7, x8, x9⟩ := bx10 HGS.out;go_wp2_with ((with_reducible refine storeM w.heap.size _ #[t0, t1, t2, t3, t4, t5, t6, t7, .int .i64 mm.live, .int .i64 mm.garb] ?_ ?_ HZS.out rfl rfl ON.out ?_); exact rfl; exact rfl)
         refine mo_end (fn := Tryz.f83) rfl w.heap.size rfl (setRow_heap _ _ _ _ _ _ HZS.out) ?_;rw [← HE.out];exact ⟨⟨_, rfl, t0, t1, t2, t3, t4, t5, t6, t7, rfl, jxd MSS.out HZS.out⟩, jqd BS.out (Nat.le_refl _) _⟩
        ·have hadd := HADD.out
         go_simp
         try simp only [hadd]
         refine hK _ _ (TD.out.mono BD.out) ?_;clear hK K hadd;refine jqk 0 rfl rfl (by kernel_rfl) fun K hK => ?_;obtain ⟨x0, x1, x2, x3, x4, x5, x6, x7, x8, x9⟩ := bx10 HGD.out;go_simp;refine hK _ _ (TD.out.mono BD.out) ?_;clear hK K x0 x1 x2 x3 x4 x5 x6 x7 x8 x9;refine jqk 6 rfl rfl (by kernel_rfl) fun K hK => ?_;go_simp
         go_at_call 106
         refine (PA.out _ TD.out).mono ?_;rintro e y24 ⟨⟨v5, rfl, hv5⟩, hb⟩;have TN := Lh (TD.out.trans (hb.mono TD.out.size));refine hK _ _ (TN.out.mono BD.out) ?_;clear hK K;have HGN := Lh ((hb.block _ (jqb HGD.out)).trans HGD.out);have HZN := Lh ((hb.block _ (jqb HZD.out)).trans HZD.out);clear hb TD HGD HZD;have TD := TN;have HGD := HGN;have HZD := HZN;clear TN HGN HZN;obtain ⟨t0, t1, t2, t3, t4, t5, t6, t7, rfl, hms5⟩ := hv5;have MS := Lh hms5;clear hms5;refine wpAnyH_take (i := 7) (v := .tuple #[.agg #[t0, t1, t2, t3, t4, t5, t6, t7, .int .i64 mm.live, .int .i64 mm.garb], .bool q]) rfl (by kernel_rfl) (by kernel_rfl) (by kernel_rfl) (fun _ _ _ h => h) (Or.inl ⟨by kernel_rfl, fun w _ => by go_simp⟩) (TD.out.mono BD.out) ?_;refine wpAnyH_take (i := 8) (v := .agg #[t0, t1, t2, t3, t4, t5, t6, t7, .int .i64 mm.live, .int .i64 mm.garb]) rfl (by kernel_rfl) (by kernel_rfl) (by kernel_rfl) (fun _ _ _ h => h) (Or.inl ⟨by kernel_rfl, fun w _ => by go_simp⟩) (TD.out.mono BD.out) ?_;refine wpAnyH_take (i := 9) (v := .bool q) rfl (by kernel_rfl) (by kernel_rfl) (by kernel_rfl) (fun _ _ _ h => h) (Or.inl ⟨by kernel_rfl, fun w _ => by go_simp⟩) (TD.out.mono BD.out) ?_;have ON := Lh (jwx MS.out mm.live mm.garb);refine jqk 10 rfl rfl (by kernel_rfl) fun K hK => ?_;refine wp_store_row 53 _ _ rfl g #[t0, t1, t2, t3, t4, t5, t6, t7, .int .i64 mm.live, .int .i64 mm.garb] (by rfl) (by rfl) 53 _ HGD.out infoM10 rfl ON.out ?_;have SN := Lh (jqd (TD.out.mono BD.out) (show w.heap.size ≤ g by have := NG.out; omega) #[t0, t1, t2, t3, t4, t5, t6, t7, .int .i64 mm.live, .int .i64 mm.garb]);refine hK _ _ SN.out ?_;clear hK K;refine jqk 11 rfl rfl (by kernel_rfl) fun K hK => ?_;go_simp;refine hK _ _ SN.out ?_;clear hK K;have HGS := Lh (setRow_heap _ _ _ #[t0, t1, t2, t3, t4, t5, t6, t7, .int .i64 mm.live, .int .i64 mm.garb] _ _ HGD.out);have HZS := Lh ((setRow_other _ g w.heap.size #[t0, t1, t2, t3, t4, t5, t6, t7, .int .i64 mm.live, .int .i64 mm.garb] (by have := NG.out; omega)).trans HZD.out);have MSS := Lh (ms_setRowM MS.out (jqf MS2.out TD.out) HGD.out #[t0, t1, t2, t3, t4, t5, t6, t7, .int .i64 mm.live, .int .i64 mm.garb]);have BS := Lh (B2.out.trans SN.out);refine wpAnyH_done (by kernel_rfl) ?_ _;unfold jqw;dsimp only;clear SN MS HGD HZD TD PA PR PW HADD
         cases q
         case false =>
          have HE := Lh (HQ.out.2 rfl);clear HQ;go_wp2_with fail
          refine (pnew_nil _).mono ?_;rintro e z3 ⟨rfl, hb⟩;have HZ3 := Lh ((hb.block _ (jqb HZS.out)).trans HZS.out);have B3 := Lh (BS.out.trans (hb.mono BS.out.size));clear hb;go_wp2_with ((with_reducible refine storeM w.heap.size _ #[.slice none 0 0, .slice none 0 0, .slice none 0 0, .slice none 0 0, .slice none 0 0, .slice none 0 0, .slice none 0 0, .slice none 0 0, .int .i64 0, .int .i64 0] ?_ ?_ HZ3.out rfl rfl ON8.out ?_); exact rfl; exact rfl)
          refine mo_end (fn := Tryz.f83) rfl w.heap.size rfl (setRow_heap _ _ _ _ _ _ HZ3.out) ?_;rw [HE.out];exact ⟨⟨_, rfl, _, _, _, _, _, _, _, _, rfl, mp0_ms _⟩, jqd B3.out (Nat.le_refl _) _⟩
         have HE := Lh (HQ.out.1 rfl);clear HQ;obtain ⟨x0, x1, x2, x3, x4, x5, x6, x7, x8, x9⟩ := bx10 HGS.out;go_wp2_with ((with_reducible refine storeM w.heap.size _ #[t0, t1, t2, t3, t4, t5, t6, t7, .int .i64 mm.live, .int .i64 mm.garb] ?_ ?_ HZS.out rfl rfl ON.out ?_); exact rfl; exact rfl)
         refine mo_end (fn := Tryz.f83) rfl w.heap.size rfl (setRow_heap _ _ _ _ _ _ HZS.out) ?_;rw [← HE.out];exact ⟨⟨_, rfl, t0, t1, t2, t3, t4, t5, t6, t7, rfl, jxd MSS.out HZS.out⟩, jqd BS.out (Nat.le_refl _) _⟩
    have l1 : decide ((k : Int) < 8) = true := decide_eq_true (by omega);have l2 : decide (k < 8) = true := decide_eq_true hlt;have HK := Lh hlt;have EK := Lh (show wrap64 ((k : Int) + 1) = ((k + 1 : Nat) : Int) by unfold wrap64; omega);obtain ⟨vk, hsel, how⟩ := OS2.out.own k hlt;rw [jwr _ hlt] at how;have hit := jxr how;obtain ⟨ak, ck, rfl, -, -⟩ := jqs how;have PM := Lh (pmerge8_any (.slice none 0 0) _ (.slice none 0 0) [] _ [] w2 (it_nil w2) hit (su_nil11 w2) (by decide) (HLN.out k) (by decide));rw [merge_nil] at PM;obtain ⟨nk, hnk⟩ : ∃ z, z = (fS k L).length := ⟨_, rfl⟩;rw [← hnk] at hsel PM;have hix := run_index8 w2 hlt hsel;have p0 : (0 : Int) ≤ (k : Int) := by omega
    have p1 : (k : Int) < 8 := by omega
    clear how hit hsel hnk hlt hk;go_wp2_with fail
    refine PM.out.mono ?_;rintro e w3 ⟨⟨v3, rfl, hi3⟩, hb⟩;obtain ⟨a3, q3, rfl, -, -⟩ := jqy hi3;have B3 := Lh (B2.out.trans (hb.mono B2.out.size));have HG3 := Lh ((hb.block _ (jqb HG2.out)).trans HG2.out);have HZ3 := Lh ((hb.block _ (jqb HZ2.out)).trans HZ2.out);have MS3 := Lh (jqf MS2.out hb);have OS3 := Lh (OS2.out.below hb);have IT3 := Lh hi3;clear hb hi3 PM hix HG2 HZ2 MS2 OS2 B2;obtain ⟨n3, hn3⟩ : ∃ z, z = (jqx (fS k L)).length := ⟨_, rfl⟩;have HN3 := Lh hn3;rw [← hn3] at IT3 ⊢;clear hn3;obtain ⟨ad, cd, hseld, -⟩ := MS3.out.2.2.2 k HK.out;have hcelld := bxk HG3.out HK.out hseld;have fzd := frozen_of_row w3 g k _ _ HG3.out;clear hseld;go_upto_region 16 with fail
    obtain ⟨e0, e1, e2, e3, e4, e5, e6, e7, he, hd⟩ := set8 d0 d1 d2 d3 d4 d5 d6 d7 (.slice a3 n3 q3) (.int .i64 0) (.int .i64 0) k HK.out;have hg4 := heap_setCell_same w3 g k _ _ (.slice a3 n3 q3) HG3.out;rw [he] at hg4;have HG4 := Lh hg4;have ms4 := ms_set (d0 := e0) (d1 := e1) (d2 := e2) (d3 := e3) (d4 := e4) (d5 := e5) (d6 := e6) (d7 := e7) (a := a3) (c := q3) (L := jqx (fS k L)) (l' := 0) (g' := 0) MS3.out HG3.out HK.out (by rw [← HN3.out]; exact IT3.out) (by rw [← HN3.out]; exact hd) MS3.out.2.1 MS3.out.2.2.1 (.slice a3 n3 q3);rw [mix_succ HK.out] at ms4;have MS4 := Lh ms4;have OS4 := Lh (OS3.out.store (i := k) (.slice a3 n3 q3));have HZ4 := Lh (show (w3.setCell ⟨g, k, none⟩ (.slice a3 n3 q3)).heap[w.heap.size]? = some (.cells #[.slice none 0 0, .slice none 0 0, .slice none 0 0, .slice none 0 0, .slice none 0 0, .slice none 0 0, .slice none 0 0, .slice none 0 0, .int .i64 0, .int .i64 0] 53 (0, 0)) by
     rw [heap_setCell_other _ _ _ _ (show w.heap.size ≠ g by have := NG.out; omega)];exact HZ3.out)
    have B4 := Lh (B3.out.setCell (p := ⟨g, k, none⟩) (show w.heap.size ≤ g by have := NG.out; omega) (.slice a3 n3 q3));clear he hd hg4 ms4 hcelld fzd MS3 HG3 HZ3 B3 OS3 IT3;generalize w3.setCell ⟨g, k, none⟩ (.slice a3 n3 q3) = w4 at *;go_wp2_with fail
    go_roundw
    case rel =>
     have h1 := HK.out;exact ⟨k + 1, by omega, by first | rw [EK.out] | rfl, e0, e1, e2, e3, e4, e5, e6, e7, HG4, MS4, OS4, HZ4, B4⟩
    case measure =>
     have h1 := HK.out
     first | rw [EK.out] | skip
     simp [intOf];omega
  have l1 : decide ((i : Int) < (n : Int)) = true := decide_eq_true (by omega);have l2 : decide (i < n) = true := decide_eq_true hlt;have HI := Lh hlt;have EW := Lh (show wrap64 ((i : Int) + 1) = ((i + 1 : Nat) : Int) by have := HN.out; unfold wrap64; omega);obtain ⟨b, off, cap, hv, -, -, hc⟩ := jq8 (jqr SL.out BR.out) (by have := HN.out.1; omega);obtain ⟨rfl, -⟩ : a = some ⟨b, off, none⟩ ∧ (n = L.length ∧ c = cap) := by simpa using hv
  have CC := hc i (by have := HN.out.1; omega);obtain ⟨x, hx⟩ : ∃ z, z = L.getD i z0 := ⟨_, rfl⟩;rw [← hx] at CC;have HX := Lh hx;have hxo : ItOk x := by rw [hx]; exact SL.out.1 _ (jx3 (by have := HN.out.1; omega))
  have HXO := Lh hxo;obtain ⟨k0, k1, k2, k3⟩ := CC;have p0 : (0 : Int) ≤ (i : Int) := by omega
  have p1 : (i : Int) < (n : Int) := by omega
  clear hv hc hx hlt hi hxo;go_upto_region 7 with fail
  clear k0 k1 k2 k3 p0 p1 l1 l2;have q1 := jqg wl (.cells #[.int .u64 (x.key : Int), .int .u32 (x.ck : Int), .int .i64 x.off, .int .i64 x.sz] 65);have HB := Lh (heap_alloc_new wl (.cells #[.int .u64 (x.key : Int), .int .u32 (x.ck : Int), .int .i64 x.off, .int .i64 x.sz] 65));have B1 := Lh (BR.out.trans (q1.mono BR.out.size));have OS1 := Lh (OS.out.below q1);have HG1 := Lh ((q1.block _ (jqb HG.out)).trans HG.out);have HZ1 := Lh ((q1.block _ (jqb HZ.out)).trans HZ.out);have GI := Lh (show g < wl.heap.size from jqb HG.out);clear q1 BR OS HG HZ;generalize wl.alloc (.cells #[.int .u64 (x.key : Int), .int .u32 (x.ck : Int), .int .i64 x.off, .int .i64 x.sz] 65) = W1 at *;generalize wl.heap.size = gi at *;obtain ⟨⟨x0, x1, x2, x3⟩, -⟩ := bx4 HB.out;have PI := Lh (pvalidItem_any x HXO.out W1);unfold TV at PI
  by_cases hok : okI x
  case neg =>
   have HE := Lh (show jxg L gb = mp0 by
    unfold jxg;rw [if_neg (fun h => hok (h.1 x (by rw [HX.out]; exact jx3 (by have := HI.out; have := HN.out.1; omega))))])
   rw [decide_eq_false hok] at PI;clear hok;go_wp2_with fail
   refine PI.out.mono ?_;rintro e w2 ⟨rfl, hb⟩;have HZ2 := Lh ((hb.block _ (jqb HZ1.out)).trans HZ1.out);have B2 := Lh (B1.out.trans (hb.mono B1.out.size));clear hb;go_wp2_with fail
   refine (pnew_nil w2).mono ?_;rintro e w3 ⟨rfl, hb⟩;have HZ3 := Lh ((hb.block _ (jqb HZ2.out)).trans HZ2.out);have B3 := Lh (B2.out.trans (hb.mono B2.out.size));clear hb;go_wp2_with ((with_reducible refine storeM w.heap.size _ #[.slice none 0 0, .slice none 0 0, .slice none 0 0, .slice none 0 0, .slice none 0 0, .slice none 0 0, .slice none 0 0, .slice none 0 0, .int .i64 0, .int .i64 0] ?_ ?_ HZ3.out rfl rfl ON8.out ?_); exact rfl; exact rfl)
   refine mo_end (fn := Tryz.f83) rfl w.heap.size rfl (setRow_heap _ _ _ _ _ _ HZ3.out) ?_;rw [HE.out];exact ⟨⟨_, rfl, _, _, _, _, _, _, _, _, rfl, mp0_ms _⟩, jqd B3.out (Nat.le_refl _) _⟩
  have HOK := Lh hok;rw [decide_eq_true hok] at PI;have ST := Lh (fun W => pstripe_any x.key W);obtain ⟨u, hu⟩ : ∃ u, u = sp x.key := ⟨_, rfl⟩;rw [← hu] at ST;have HU := Lh (And.intro hu (show u < 8 by rw [hu]; exact sp_lt _));have htk : L.take (i + 1) = L.take i ++ [x] := by
   rw [List.take_succ_eq_append_getElem (show i < L.length by have := HI.out; have := HN.out.1; omega), HX.out]
   congr 2
   simp [List.getD, show i < L.length by have := HI.out; have := HN.out.1; omega]
  have HST := Lh (show (jwp (L.take i)).set u (fS u (L.take i) ++ [x]) = jwp (L.take (i + 1)) by rw [htk, split_snoc, ← hu]);have HT1 := Lh (show ∀ y ∈ L.take (i + 1), okI y by
   rw [htk];intro y hy;rcases List.mem_append.1 hy with h | h
   ·exact HT.out y h
   ·rw [List.mem_singleton.1 h]; exact HOK.out)
  have HLN := Lh (show (fS u (L.take i)).length + 1 ≤ 100000000 by
   have h1 : (fS u (L.take i)).length ≤ (L.take i).length := List.length_filter_le _ _;rw [List.length_take] at h1;have := HN.out;omega)
  clear hok hu htk HT;go_wp2_with fail
  refine PI.out.mono ?_;rintro e w2 ⟨rfl, hb⟩;have HB2 := Lh ((hb.block _ (jqb HB.out)).trans HB.out);have HZ2 := Lh ((hb.block _ (jqb HZ1.out)).trans HZ1.out);have HG2 := Lh ((hb.block _ (jqb HG1.out)).trans HG1.out);have OS2 := Lh (OS1.out.below hb);have B2 := Lh (B1.out.trans (hb.mono B1.out.size));clear hb PI x0 x1 x2 x3 HB HZ1 HG1 OS1 B1;obtain ⟨⟨x0, x1, x2, x3⟩, -⟩ := bx4 HB2.out;go_wp2_with fail
  refine (ST.out w2).mono ?_;rintro e w2' ⟨rfl, rfl⟩;clear ST;go_upto_region 10 with fail
  clear x0 x1 x2 x3;obtain ⟨vu, hsel, hown⟩ := OS2.out.own u HU.out.2;have HS := Lh hsel;have p0 : (0 : Int) ≤ (u : Int) := by omega
  have p1 : (u : Int) < 8 := by have := HU.out.2; omega
  have OW := Lh hown;have GB := Lh (show w.heap.size ≤ g by have := NG.out; omega);have GG := Lh (show g + 1 ≤ w2.heap.size by have := jqb HG2.out; omega);clear hsel hown;have S0 := Lh (Below.refl w2.heap.size w2).drew;refine jq0 ?_;refine jqh (fun W' => Below w.heap.size w2 W') [0, 1, 2, 3, 8] 6 (by kernel_rfl) (fun _ _ _ _ _ h => h.elim) (by kernel_rfl) (by rfl) (by rfl) (S0.out.mono B2.out.size) ?_;simp only [jq2, List.filterMap_cons, List.filterMap_nil, List.getElem?_toArray, List.getElem?_cons_zero, List.getElem?_cons_succ];refine jqc (fun K hK => ?_);go_simp;refine ⟨_, fun _ _ => rfl, hK _ ?_⟩;clear hK K;refine jqc (fun K hK => ?_);go_simp;refine ⟨_, fun _ _ => rfl, hK _ ?_⟩;clear hK K;refine jqc (fun K hK => ?_);go_simp;refine ⟨_, fun _ _ => rfl, hK _ ?_⟩;clear hK K;refine jqc (fun K hK => ?_);go_simp;refine ⟨_, fun _ _ => rfl, hK _ ?_⟩;clear hK K;refine jqc (fun K hK => ?_);go_simp;refine ⟨_, fun _ _ => rfl, hK _ ?_⟩;clear hK K;refine jqp ?_;have SD := Lh (S0.out.mono B2.out.size);have HGD := Lh ((S0.out.block _ (jqb HG2.out)).trans HG2.out);have HBD := Lh ((S0.out.block _ (jqb HB2.out)).trans HB2.out);have HZD := Lh ((S0.out.block _ (jqb HZ2.out)).trans HZ2.out);have OSD := Lh (OS2.out.below S0.out);have GD := Lh (show g + 1 ≤ w2.drew.heap.size from Nat.le_trans GG.out S0.out.size);clear S0 HG2 HB2 HZ2 OS2 GG;generalize w2.drew = wD at *;refine jq6 4 5 rfl rfl rfl rfl (by kernel_rfl) (fun K hK => ?_) (fun K hK => ?_)
  ·have hc := bxk HGD.out HU.out.2 HS.out
   go_simp
   try simp only [hc]
   refine hK _ _ SD.out ?_;clear hK K hc;refine jqk 5 rfl rfl (by kernel_rfl) fun K hK => ?_;obtain ⟨⟨x0, x1, x2, x3⟩, -⟩ := bx4 HBD.out;go_simp
   try simp only [x0, x1, x2, x3]
   refine hK _ _ SD.out ?_;clear hK K x0 x1 x2 x3;refine jqk 6 rfl rfl (by kernel_rfl) fun K hK => ?_;go_simp;have hb := jqg wD (.cells #[.int .u64 (x.key : Int), .int .u32 (x.ck : Int), .int .i64 x.off, .int .i64 x.sz] 65);refine hK _ _ (SD.out.trans (hb.mono (Nat.le_trans B2.out.size SD.out.size))) ?_;clear hK K;have SE := Lh (SD.out.trans (hb.mono (Nat.le_trans B2.out.size SD.out.size)));have HGE := Lh ((hb.block _ (jqb HGD.out)).trans HGD.out);have HZE := Lh ((hb.block _ (jqb HZD.out)).trans HZD.out);have OSE := Lh (OSD.out.below hb);have GE := Lh (show g + 1 ≤ (wD.alloc (.cells #[.int .u64 (x.key : Int), .int .u32 (x.ck : Int), .int .i64 x.off, .int .i64 x.sz] 65)).heap.size from Nat.le_trans GD.out hb.size);have ITE := Lh (jx1 HXO.out (heap_alloc_new wD (.cells #[.int .u64 (x.key : Int), .int .u32 (x.ck : Int), .int .i64 x.off, .int .i64 x.sz] 65)));clear hb SD HGD HZD OSD HBD GD;generalize wD.alloc (.cells #[.int .u64 (x.key : Int), .int .u32 (x.ck : Int), .int .i64 x.off, .int .i64 x.sz] 65) = wE at *;generalize wD.heap.size = ge at *;refine jqk 7 rfl rfl (by kernel_rfl) fun K hK => ?_;obtain ⟨v2, hs2, ow⟩ := OSE.out.own u HU.out.2;obtain rfl : vu = v2 := Option.some.inj (HS.out.symm.trans hs2);clear hs2;rw [jwr _ HU.out.2] at ow;refine wp_app_it1 (base := g + 1) (v := vu) (L := fS u (L.take i)) (y := x) rfl rfl ow ITE.out HLN.out GE.out (fun v7 w7 ho hg hat => ?_);obtain ⟨a7, q7, hv7, -, -⟩ := jqs ho;generalize (fS u (L.take i) ++ [x]).length = n7 at hv7;subst hv7;have S7 := Lh (jqq SE.out hg ow (Nat.le_trans GB.out (Nat.le_trans (Nat.le_succ g) GE.out)) (Nat.le_trans GB.out (Nat.le_succ g)));refine hK _ _ S7.out ?_;clear hK K;have HG7 := Lh ((hg.block g GE.out (fun e => by have := owT_lt ow g e.symm; omega)).trans HGE.out);have HZ7 := Lh ((hg.block w.heap.size (jqb HZE.out) (fun e => by have h1 := owT_lt ow _ e.symm; have h2 := GB.out; omega)).trans HZE.out);obtain ⟨d0, d1, d2, d3, d4, d5, d6, d7, he, hd⟩ := set8 c0 c1 c2 c3 c4 c5 c6 c7 (.slice a7 n7 q7) (.int .i64 0) (.int .i64 0) u HU.out.2;have os7 := (OSE.out.grow HU.out.2 HS.out ho hg hat hd (jxc _)).store (i := u) (.slice a7 n7 q7);rw [HST.out] at os7;have OS8 := Lh os7;have hg8 := heap_setCell_same w7 g u _ _ (.slice a7 n7 q7) HG7.out;rw [he] at hg8;have HG8 := Lh hg8;have HZz := Lh (show (w7.setCell ⟨g, u, none⟩ (.slice a7 n7 q7)).heap[w.heap.size]? = some (.cells #[.slice none 0 0, .slice none 0 0, .slice none 0 0, .slice none 0 0, .slice none 0 0, .slice none 0 0, .slice none 0 0, .slice none 0 0, .int .i64 0, .int .i64 0] 53 (0, 0)) by
    rw [heap_setCell_other _ _ _ _ (show w.heap.size ≠ g by have := NG.out; omega)];exact HZ7.out)
   have S8 := Lh (S7.out.setCell (p := ⟨g, u, none⟩) GB.out (.slice a7 n7 q7));have hc7 := bxk HG7.out HU.out.2 HS.out;have fz7 := frozen_of_row w7 g u _ _ HG7.out;clear os7 hg8 he hd ho hg hat ow HG7 HZ7 OSE HGE HZE SE GE ITE;refine jqk 9 rfl rfl (by kernel_rfl) fun K hK => ?_;go_simp;refine hK _ _ S7.out ?_;clear hK K;refine jqk 10 rfl rfl (by kernel_rfl) fun K hK => ?_;go_simp;refine hK _ _ S8.out ?_;clear hK K hc7 fz7 S7;have B8 := Lh (B2.out.trans S8.out);clear S8;generalize w7.setCell ⟨g, u, none⟩ (.slice a7 n7 q7) = w8 at *;refine wpAnyH_done (by kernel_rfl) ?_ _;unfold jqw;dsimp only;go_wp2_with fail
   go_roundw
   case rel =>
    have h1 := HI.out;exact ⟨i + 1, by omega, by rw [EW.out], HT1, d0, d1, d2, d3, d4, d5, d6, d7, HG8, OS8, HZz, B8⟩
   case measure =>
    have h1 := HI.out;rw [EW.out];simp [intOf];omega
  ·obtain ⟨⟨x0, x1, x2, x3⟩, -⟩ := bx4 HBD.out
   go_simp
   try simp only [x0, x1, x2, x3]
   refine hK _ _ SD.out ?_;clear hK K x0 x1 x2 x3;refine jq6 4 6 rfl rfl rfl rfl (by kernel_rfl) (fun K hK => ?_) (fun K hK => ?_)
   ·have hc := bxk HGD.out HU.out.2 HS.out
    go_simp
    try simp only [hc]
    refine hK _ _ SD.out ?_;clear hK K hc;refine jqk 6 rfl rfl (by kernel_rfl) fun K hK => ?_;go_simp;have hb := jqg wD (.cells #[.int .u64 (x.key : Int), .int .u32 (x.ck : Int), .int .i64 x.off, .int .i64 x.sz] 65);refine hK _ _ (SD.out.trans (hb.mono (Nat.le_trans B2.out.size SD.out.size))) ?_;clear hK K;have SE := Lh (SD.out.trans (hb.mono (Nat.le_trans B2.out.size SD.out.size)));have HGE := Lh ((hb.block _ (jqb HGD.out)).trans HGD.out);have HZE := Lh ((hb.block _ (jqb HZD.out)).trans HZD.out);have OSE := Lh (OSD.out.below hb);have GE := Lh (show g + 1 ≤ (wD.alloc (.cells #[.int .u64 (x.key : Int), .int .u32 (x.ck : Int), .int .i64 x.off, .int .i64 x.sz] 65)).heap.size from Nat.le_trans GD.out hb.size);have ITE := Lh (jx1 HXO.out (heap_alloc_new wD (.cells #[.int .u64 (x.key : Int), .int .u32 (x.ck : Int), .int .i64 x.off, .int .i64 x.sz] 65)));clear hb SD HGD HZD OSD HBD GD;generalize wD.alloc (.cells #[.int .u64 (x.key : Int), .int .u32 (x.ck : Int), .int .i64 x.off, .int .i64 x.sz] 65) = wE at *;generalize wD.heap.size = ge at *;refine jqk 7 rfl rfl (by kernel_rfl) fun K hK => ?_;obtain ⟨v2, hs2, ow⟩ := OSE.out.own u HU.out.2;obtain rfl : vu = v2 := Option.some.inj (HS.out.symm.trans hs2);clear hs2;rw [jwr _ HU.out.2] at ow;refine wp_app_it1 (base := g + 1) (v := vu) (L := fS u (L.take i)) (y := x) rfl rfl ow ITE.out HLN.out GE.out (fun v7 w7 ho hg hat => ?_);obtain ⟨a7, q7, hv7, -, -⟩ := jqs ho;generalize (fS u (L.take i) ++ [x]).length = n7 at hv7;subst hv7;have S7 := Lh (jqq SE.out hg ow (Nat.le_trans GB.out (Nat.le_trans (Nat.le_succ g) GE.out)) (Nat.le_trans GB.out (Nat.le_succ g)));refine hK _ _ S7.out ?_;clear hK K;have HG7 := Lh ((hg.block g GE.out (fun e => by have := owT_lt ow g e.symm; omega)).trans HGE.out);have HZ7 := Lh ((hg.block w.heap.size (jqb HZE.out) (fun e => by have h1 := owT_lt ow _ e.symm; have h2 := GB.out; omega)).trans HZE.out);obtain ⟨d0, d1, d2, d3, d4, d5, d6, d7, he, hd⟩ := set8 c0 c1 c2 c3 c4 c5 c6 c7 (.slice a7 n7 q7) (.int .i64 0) (.int .i64 0) u HU.out.2;have os7 := (OSE.out.grow HU.out.2 HS.out ho hg hat hd (jxc _)).store (i := u) (.slice a7 n7 q7);rw [HST.out] at os7;have OS8 := Lh os7;have hg8 := heap_setCell_same w7 g u _ _ (.slice a7 n7 q7) HG7.out;rw [he] at hg8;have HG8 := Lh hg8;have HZz := Lh (show (w7.setCell ⟨g, u, none⟩ (.slice a7 n7 q7)).heap[w.heap.size]? = some (.cells #[.slice none 0 0, .slice none 0 0, .slice none 0 0, .slice none 0 0, .slice none 0 0, .slice none 0 0, .slice none 0 0, .slice none 0 0, .int .i64 0, .int .i64 0] 53 (0, 0)) by
     rw [heap_setCell_other _ _ _ _ (show w.heap.size ≠ g by have := NG.out; omega)];exact HZ7.out)
    have S8 := Lh (S7.out.setCell (p := ⟨g, u, none⟩) GB.out (.slice a7 n7 q7));have hc7 := bxk HG7.out HU.out.2 HS.out;have fz7 := frozen_of_row w7 g u _ _ HG7.out;clear os7 hg8 he hd ho hg hat ow HG7 HZ7 OSE HGE HZE SE GE ITE;refine jqk 9 rfl rfl (by kernel_rfl) fun K hK => ?_;go_simp;refine hK _ _ S7.out ?_;clear hK K;refine jqk 10 rfl rfl (by kernel_rfl) fun K hK => ?_;go_simp;refine hK _ _ S8.out ?_;clear hK K hc7 fz7 S7;have B8 := Lh (B2.out.trans S8.out);clear S8;generalize w7.setCell ⟨g, u, none⟩ (.slice a7 n7 q7) = w8 at *;refine wpAnyH_done (by kernel_rfl) ?_ _;unfold jqw;dsimp only;go_wp2_with fail
    go_roundw
    case rel =>
     have h1 := HI.out;exact ⟨i + 1, by omega, by rw [EW.out], HT1, d0, d1, d2, d3, d4, d5, d6, d7, HG8, OS8, HZz, B8⟩
    case measure =>
     have h1 := HI.out;rw [EW.out];simp [intOf];omega
   ·go_simp
    have hb := jqg wD (.cells #[.int .u64 (x.key : Int), .int .u32 (x.ck : Int), .int .i64 x.off, .int .i64 x.sz] 65);refine hK _ _ (SD.out.trans (hb.mono (Nat.le_trans B2.out.size SD.out.size))) ?_;clear hK K;have SE := Lh (SD.out.trans (hb.mono (Nat.le_trans B2.out.size SD.out.size)));have HGE := Lh ((hb.block _ (jqb HGD.out)).trans HGD.out);have HZE := Lh ((hb.block _ (jqb HZD.out)).trans HZD.out);have OSE := Lh (OSD.out.below hb);have GE := Lh (show g + 1 ≤ (wD.alloc (.cells #[.int .u64 (x.key : Int), .int .u32 (x.ck : Int), .int .i64 x.off, .int .i64 x.sz] 65)).heap.size from Nat.le_trans GD.out hb.size);have ITE := Lh (jx1 HXO.out (heap_alloc_new wD (.cells #[.int .u64 (x.key : Int), .int .u32 (x.ck : Int), .int .i64 x.off, .int .i64 x.sz] 65)));clear hb SD HGD HZD OSD HBD GD;generalize wD.alloc (.cells #[.int .u64 (x.key : Int), .int .u32 (x.ck : Int), .int .i64 x.off, .int .i64 x.sz] 65) = wE at *;generalize wD.heap.size = ge at *;refine jqk 4 rfl rfl (by kernel_rfl) fun K hK => ?_;have hc := bxk HGE.out HU.out.2 HS.out;go_simp
    try simp only [hc]
    refine hK _ _ SE.out ?_;clear hK K hc;refine jqk 7 rfl rfl (by kernel_rfl) fun K hK => ?_;obtain ⟨v2, hs2, ow⟩ := OSE.out.own u HU.out.2;obtain rfl : vu = v2 := Option.some.inj (HS.out.symm.trans hs2);clear hs2;rw [jwr _ HU.out.2] at ow;refine wp_app_it1 (base := g + 1) (v := vu) (L := fS u (L.take i)) (y := x) rfl rfl ow ITE.out HLN.out GE.out (fun v7 w7 ho hg hat => ?_);obtain ⟨a7, q7, hv7, -, -⟩ := jqs ho;generalize (fS u (L.take i) ++ [x]).length = n7 at hv7;subst hv7;have S7 := Lh (jqq SE.out hg ow (Nat.le_trans GB.out (Nat.le_trans (Nat.le_succ g) GE.out)) (Nat.le_trans GB.out (Nat.le_succ g)));refine hK _ _ S7.out ?_;clear hK K;have HG7 := Lh ((hg.block g GE.out (fun e => by have := owT_lt ow g e.symm; omega)).trans HGE.out);have HZ7 := Lh ((hg.block w.heap.size (jqb HZE.out) (fun e => by have h1 := owT_lt ow _ e.symm; have h2 := GB.out; omega)).trans HZE.out);obtain ⟨d0, d1, d2, d3, d4, d5, d6, d7, he, hd⟩ := set8 c0 c1 c2 c3 c4 c5 c6 c7 (.slice a7 n7 q7) (.int .i64 0) (.int .i64 0) u HU.out.2;have os7 := (OSE.out.grow HU.out.2 HS.out ho hg hat hd (jxc _)).store (i := u) (.slice a7 n7 q7);rw [HST.out] at os7;have OS8 := Lh os7;have hg8 := heap_setCell_same w7 g u _ _ (.slice a7 n7 q7) HG7.out;rw [he] at hg8;have HG8 := Lh hg8;have HZz := Lh (show (w7.setCell ⟨g, u, none⟩ (.slice a7 n7 q7)).heap[w.heap.size]? = some (.cells #[.slice none 0 0, .slice none 0 0, .slice none 0 0, .slice none 0 0, .slice none 0 0, .slice none 0 0, .slice none 0 0, .slice none 0 0, .int .i64 0, .int .i64 0] 53 (0, 0)) by
     rw [heap_setCell_other _ _ _ _ (show w.heap.size ≠ g by have := NG.out; omega)];exact HZ7.out)
    have S8 := Lh (S7.out.setCell (p := ⟨g, u, none⟩) GB.out (.slice a7 n7 q7));have hc7 := bxk HG7.out HU.out.2 HS.out;have fz7 := frozen_of_row w7 g u _ _ HG7.out;clear os7 hg8 he hd ho hg hat ow HG7 HZ7 OSE HGE HZE SE GE ITE;refine jqk 9 rfl rfl (by kernel_rfl) fun K hK => ?_;go_simp;refine hK _ _ S7.out ?_;clear hK K;refine jqk 10 rfl rfl (by kernel_rfl) fun K hK => ?_;go_simp;refine hK _ _ S8.out ?_;clear hK K hc7 fz7 S7;have B8 := Lh (B2.out.trans S8.out);clear S8;generalize w7.setCell ⟨g, u, none⟩ (.slice a7 n7 q7) = w8 at *;refine wpAnyH_done (by kernel_rfl) ?_ _;unfold jqw;dsimp only;go_wp2_with fail
    go_roundw
    case rel =>
     have h1 := HI.out;exact ⟨i + 1, by omega, by rw [EW.out], HT1, d0, d1, d2, d3, d4, d5, d6, d7, HG8, OS8, HZz, B8⟩
    case measure =>
     have h1 := HI.out;rw [EW.out];simp [intOf];omega
end Go.Proofs.YtimoinfjinmamaaGreat.Gf
namespace Go.Proofs.YtimoinfjinmamaaGreat.Gf
open Joins ChangeShapes WideShapes ChangeAt RowKit Deep By Qt
theorem Gd.items {m : Mp} {n : Nat} (h : Gd m n) : jwn m = iL m := by unfold jwn; rw [if_pos h.ok]
theorem gd_from {L : List Itm} {g : Int} (h : ∀ x ∈ L, okI x) (h0 : 0 ≤ g) (h1 : g ≤ 1099511627776) : Gd (jxg L g) L.length ∧ (jxg L g).garb = g := by
 unfold jxg;rw [if_pos ⟨h, h0, h1⟩];exact ⟨⟨fromL_ok h h0 h1, jxc _, by show (jwp (jqx L)).flatten.length ≤ _; rw [(flat_split (jqx L)).1]; exact jqz L⟩, rfl⟩
theorem gd_del {m : Mp} {n : Nat} (h : Gd m n) (k : Nat) : Gd (delM m k) n := by
 have h1 := delM_ok h.ok h.len k;refine ⟨h1.1, h1.2, ?_⟩;unfold delM jxg;split
 ·split
  ·exact h.flat
  ·split
   ·show (jwp (jqx (dropL (iL m) k))).flatten.length ≤ _
    rw [(flat_split _).1];refine Nat.le_trans (jqz _) (Nat.le_trans (List.length_filter_le _ _) ?_);rw [sort_iL, h.lenI];exact h.flat
   ·exact Nat.zero_le _
 ·exact h.flat
theorem Gd.fewN {m : Mp} {n : Nat} (h : Gd m n) : FewN m n := fun k hk => by
 rw [ms_of (by rw [h.len]; exact hk)];exact Nat.le_trans (List.sublist_flatten_of_mem (List.getElem_mem _)).length_le h.flat
end Go.Proofs.YtimoinfjinmamaaGreat.Gf
