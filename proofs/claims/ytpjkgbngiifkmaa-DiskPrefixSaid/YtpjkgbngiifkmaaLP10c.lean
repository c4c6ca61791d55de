/- What is proved here: the law DiskPrefix answers true. No condition. -/
import Derived.Test.YtpjkgbngiifkmaaK10H
import Derived.Test.YtpjkgbngiifkmaaPF10
import Derived.Test.YtpjkgbngiifkmaaGo
import Derived.Test.YtpjkgbngiifkmaaPB10
import Derived.StillTailTactics
namespace Go.Proofs.Ytpjkgbngiifkmaa.Gf
open Go Go.Joins Go.ChangeShapes Go.WideShapes Go.ChangeAt Go.RowKit Go.Deep Go.Proofs.Ytpjkgbngiifkmaa.By Go.Proofs.Ytpjkgbngiifkmaa.Qt

theorem nmP : nameB ⟨#[102]⟩ = true := by decide
theorem dvp {w : World} {a : Option Addr} {n c : Nat} {L : List Fl} (hr : Rd (fun _ => True) w (.sl tyF) [.slice a n c] L) : Dv w (.agg #[.int .i64 0, .int .i64 (-1), .slice a n c]) (0, -1, L) := ⟨_, rfl, ⟨⟨by show _ ≤ (0 : Int); decide, by show (0 : Int) ≤ _; decide⟩, by show _ ≤ (-1 : Int); decide, by show (-1 : Int) ≤ _; decide⟩, hr⟩
set_option maxRecDepth 100000 in
theorem rows8_open {H : Type} {enc : TypeId × Value → H} {W : World} {base : Nat} {v : Value} {d : DataW H} {p : List MemPlace} (hv : Value.okWide Try.prog W .any base 85 v) (h : DataW.Trod enc Try.prog W 0 (fun _ => true) true 85 v d p) : ∃ L, Rd (fun _ => True) W (.sl (.sl .u8)) [v] L := by
  obtain ⟨a, len, cap, rfl⟩ := okWide_slice Try.underlying85 hv
  obtain ⟨fuel, hf⟩ := h
  exact rd_open fuel (.sl Try.underlying85 (by kernel_rfl) (.sl Try.underlying52 (by kernel_rfl) (.u8 Try.underlying5))) hf
theorem rd_slc {B : Nat → Prop} {w : World} {t : Ty} {cs : List Value} {l : List t.T} (h : Rd B w (.sl t) cs l) : ∃ a c, cs = [.slice a l.length c] ∧ l.length ≤ c := by
  obtain ⟨L, a, cap, h1, h2, h3, -⟩ := h
  subst h2
  exact ⟨a, cap, by rw [List.length_map]; exact h1, by rw [List.length_map]; exact h3⟩
theorem rd_sl_exB {B : Nat → Prop} {t : Ty} {w : World} {g : Nat} {v : Value} {l : List t.T} (h : Rd B w (.sl t) [v] l) (hel : ∀ cs x, Rd B w t cs x → Rd (fun b => B b ∧ b ≠ g) w t cs x)
    (hno : ∀ off cs x, Rd B w t cs x → (∀ u z, cs[u]? = some z → w.cell? ⟨g, off + u, none⟩ = some z) → False) : Rd (fun b => B b ∧ b ≠ g) w (.sl t) [v] l := by
  obtain ⟨L, a, cap, h1, h2, h3, h4, h5, h6⟩ := h
  refine ⟨L, a, cap, h1, h2, h3, h4, fun p hp => hel _ _ (h5 p hp), fun hp => ?_⟩
  obtain ⟨b, off, ha, hb, hk⟩ := h6 hp
  refine ⟨b, off, ha, ⟨hb, fun e => ?_⟩, hk⟩
  subst e
  cases L with
  | nil => simp at hp
  | cons p L =>
    refine hno off p.1 p.2 (h5 p (List.mem_cons_self ..)) fun u z hu => hk u z ?_
    rw [List.flatMap_cons, List.getElem?_append_left (List.getElem?_eq_some_iff.1 hu).1]
    exact hu
theorem rd_noboxB {B : Nat → Prop} {w : World} {g : Nat} (hb : IsBox w g) {v : Value} {l : List Fl} (h : Rd B w (.sl tyF) [v] l) : Rd (fun b => B b ∧ b ≠ g) w (.sl tyF) [v] l :=
  rd_sl_exB h (fun cs x h => by
    obtain ⟨bv, pv, rfl, h1, h2, h3⟩ := rd_f h
    exact rd_f_mk h1 (rd_sl_exB h2 (fun _ _ h => h) fun off cs x ⟨_, hc⟩ hk => by
      subst hc
      have := hb _ _ (hk 0 _ rfl)
      simp at this) (rd_sl_exB h3 (fun cs x h => by
      obtain ⟨dv, rfl, h1, h2⟩ := rd_w h
      exact ⟨[.int .i64 x.1], [dv, .bool x.2.2], rfl, ⟨h1, rfl⟩, [dv], [.bool x.2.2], rfl, rd_sl_exB h2 (fun _ _ h => h) fun off cs x ⟨_, hc⟩ hk => by
        subst hc
        have := hb _ _ (hk 0 _ rfl)
        simp at this, rfl⟩) fun off cs x h hk => by
      obtain ⟨dv, rfl, h1, h2⟩ := rd_w h
      have h3 := hb _ _ (hk 2 _ rfl)
      simp at h3)) fun off cs x h hk => by
    obtain ⟨bv, pv, rfl, h1, h2, h3⟩ := rd_f h
    have h3 := hb _ _ (hk 0 _ rfl)
    simp at h3
theorem dv_formB {B : Nat → Prop} {w : World} {v : Value} {d : Dk} (h : DvB B w v d) : ∃ a c, v = .agg #[.int .i64 d.1, .int .i64 d.2.1, .slice a d.2.2.length c] ∧ Rd B w (.sl tyF) [.slice a d.2.2.length c] d.2.2 := by
  obtain ⟨fv, rfl, -, h3⟩ := h
  obtain ⟨a, c, rfl, -, -⟩ := rd_sl h3
  exact ⟨a, c, rfl, h3⟩
theorem dvpB {B : Nat → Prop} {w : World} {a : Option Addr} {n c : Nat} {L : List Fl} (hr : Rd B w (.sl tyF) [.slice a n c] L) : DvB B w (.agg #[.int .i64 0, .int .i64 (-1), .slice a n c]) (0, -1, L) := ⟨_, rfl, ⟨⟨by show _ ≤ (0 : Int); decide, by show (0 : Int) ≤ _; decide⟩, by show _ ≤ (-1 : Int); decide, by show (-1 : Int) ≤ _; decide⟩, hr⟩
theorem ogu {B C : Nat → Prop} {w : World} {base : Nat} {v : Value} {l : List Nat} (h : OwG 5 .u8 B w base v l) : OwG 5 .u8 C w base v l := by
  obtain ⟨L, h1, h2, h3⟩ := h
  exact ⟨L, h1, fun p hp => h2 p hp, h3⟩
theorem p_readE {b : List Nat} {n : Nat} (hf : flB b [] = true) (hn : n ≤ b.length) : readE (oneD (-1) ⟨#[102]⟩ b []) ⟨#[102]⟩ 0 (n : Int) = 0 ∧ readL (oneD (-1) ⟨#[102]⟩ b []) ⟨#[102]⟩ 0 (n : Int) = b.take n := by
  have h1 : readE (oneD (-1) ⟨#[102]⟩ b []) ⟨#[102]⟩ 0 (n : Int) = 0 := by
    unfold readE
    rw [one_at (by decide) nmP hf, show (if (-1 : Int) = 0 then 13 else 0) = 0 from rfl, if_pos rfl, one_file (by decide) nmP hf (by decide), contL_ok hf, if_neg (by simp only [apL_nil]; omega)]
  refine ⟨h1, ?_⟩
  unfold readL
  rw [h1, if_pos rfl, one_file (by decide) nmP hf (by decide), contL_ok hf]
  rfl
theorem w1p_ok {b : List Nat} (hb : b.length ≤ 1048576) : flB [] [(0, b, false)] = true := flB_end (b := []) (p := []) (x := b) (flB_nil (by decide)) (by simp [apL]; omega)
theorem w1p_apL {b : List Nat} : apL [] [(0, b, false)] = b := by
  have h := apL_end [] [] b
  simpa [apL] using h
theorem takes_len (L : List (List Nat)) (k : Nat) : (((L.map (·.take 100)).take k).flatten).length ≤ 100 * k := by
  induction k with
  | zero => simp
  | succ k ih =>
    rcases Nat.lt_or_ge k (L.map (·.take 100)).length with h | h
    · rw [flat_snocN h, List.length_append]
      have : ((L.map (·.take 100)).getD k []).length ≤ 100 := by
        rw [List.getD_eq_getElem?_getD, List.getElem?_map]
        cases L[k]? with
        | none => simp
        | some x => simp; omega
      omega
    · rw [List.take_of_length_le (by omega)] at ih ⊢
      omega
set_option maxRecDepth 100000 in
set_option maxHeartbeats 12800000 in
theorem prefix_any (va : Value) (a : List Nat) (vl : Value) (L0 : List (List Nat)) (wr0 tn : Int) (hwr : -9223372036854775808 ≤ wr0 ∧ wr0 ≤ 9223372036854775807) (htn : -9223372036854775808 ≤ tn ∧ tn ≤ 9223372036854775807) (w : World) (sa : Sl w va a) (sl : Rd (fun _ => True) w (.sl (.sl .u8)) [vl] L0) : Calls Try.prog 9 #[va, vl, .int .i64 wr0, .int .i64 tn] w fun e w' => e = .returned (.bool true) ∧ Below w.heap.size w w' := by
  have hb0 := Lib.hid (Below.refl w.heap.size w)
  have HWT := Lib.hid (And.intro hwr htn)
  obtain ⟨aa, ca, rfl, -, -⟩ := sl_form sa
  obtain ⟨al, cl, rfl, -, -⟩ := rd_sl sl
  obtain ⟨na, hna⟩ : ∃ z, z = a.length := ⟨_, rfl⟩
  obtain ⟨nl, hnl⟩ : ∃ z, z = L0.length := ⟨_, rfl⟩
  rw [← hna] at sa ⊢
  rw [← hnl] at sl ⊢
  have SA := Lib.hid sa
  have SLL := Lib.hid sl
  have HL := Lib.hid (And.intro hna hnl)
  clear sa sl hna hnl hwr htn
  go_enter Try.func9, Try.ntmps9
  by_cases hbig : 300 < na ∨ 8 < nl
  · by_cases h1 : 300 < na
    · have e1 : decide ((300 : Int) < (na : Int)) = true := decide_eq_true (by omega)
      have e2 : decide (300 < na) = true := decide_eq_true h1
      go_wp2_with fail
      refine (awake10_any _).mono ?_
      rintro e w1 ⟨rfl, hb1⟩
      have B1 := Lib.hid hb1
      clear hb1
      go_wp2
      go_ret
      exact ⟨rfl, B1.out⟩
    · have h2 : 8 < nl := by omega
      have e1 : decide ((300 : Int) < (na : Int)) = false := decide_eq_false (by omega)
      have e2 : decide (300 < na) = false := decide_eq_false h1
      have e3 : decide ((8 : Int) < (nl : Int)) = true := decide_eq_true (by omega)
      have e4 : decide (8 < nl) = true := decide_eq_true h2
      go_wp2_with fail
      refine (awake10_any _).mono ?_
      rintro e w1 ⟨rfl, hb1⟩
      have B1 := Lib.hid hb1
      clear hb1
      go_wp2
      go_ret
      exact ⟨rfl, B1.out⟩
  have h1 : ¬ 300 < na := by omega
  have h2 : ¬ 8 < nl := by omega
  have e1 : decide ((300 : Int) < (na : Int)) = false := decide_eq_false (by omega)
  have e2 : decide (300 < na) = false := decide_eq_false h1
  have e3 : decide ((8 : Int) < (nl : Int)) = false := decide_eq_false (by omega)
  have e4 : decide (8 < nl) = false := decide_eq_false h2
  have HA := Lib.hid (show a.length ≤ 300 ∧ nl ≤ 8 by have := HL.out; omega)
  go_upto_region 3 with fail
  clear h1 h2 e1 e2 e3 e4 hbig
  go_wp2_with fail
  refine (pnew_any 0 (by decide) (fun _ => False) _).mono ?_
  rintro e w1 ⟨⟨v1, rfl, hv1⟩, hb1⟩
  have V1 := Lib.hid (dvB_dv hv1)
  have B1 := Lib.hid hb1
  clear hv1 hb1 hb0
  go_wp2_with fail
  refine (pcreate_any v1 (newD 0) ⟨#[102]⟩ (by unfold maxLen; decide) 10 _ V1.out (new_sm 0) (new_pn 0 10) (by decide)).mono ?_
  rw [new_createE nmP, new_create nmP]
  rintro e w5 ⟨⟨v5, rfl, hv5⟩, hb5⟩
  obtain ⟨a5, c5, rfl, r5⟩ := dv_form hv5
  have R5 := Lib.hid (show Rd (fun _ => True) w5 (.sl tyF) [.slice a5 1 c5] [(⟨#[102]⟩, [], [])] from r5)
  have B5 := Lib.hid (btA B1.out hb5)
  clear hv5 hb5 V1 B1 r5
  generalize hvx : (.agg #[.int .i64 (oneD (-1) ⟨#[102]⟩ [] []).1, .int .i64 (oneD (-1) ⟨#[102]⟩ [] []).2.1, .slice a5 (oneD (-1) ⟨#[102]⟩ [] []).2.2.length c5] : Value) = vx
  obtain rfl : vx = .agg #[.int .i64 0, .int .i64 (-1), .slice a5 1 c5] := hvx.symm.trans rfl
  clear hvx
  go_upto_region 4 with fail
  have q6 := bel_al0 w5 (.cells #[.int .i64 0, .int .i64 (-1), .slice a5 1 c5] 33)
  have HX6 := Lib.hid (heap_alloc_new w5 (.cells #[.int .i64 0, .int .i64 (-1), .slice a5 1 c5] 33))
  have R6 := Lib.hid (rd_below R5.out q6)
  have B6 := Lib.hid (btA B5.out q6)
  have HG := Lib.hid (show w.heap.size ≤ w5.heap.size from B5.out.size)
  clear q6 R5 B5
  generalize w5.alloc (.cells #[.int .i64 0, .int .i64 (-1), .slice a5 1 c5] 33) = w6 at *
  generalize w5.heap.size = g at *
  obtain ⟨x0, x1, x2⟩ := box3c HX6.out
  go_wp2_with fail
  refine (pappend_any _ (oneD (-1) ⟨#[102]⟩ [] []) ⟨#[102]⟩ _ a _ (sl_below SA.out B6.out) (by have := HA.out; omega) (by unfold maxLen; decide) 100 (dvp R6.out) (one_sm (by decide) nmP (flB_nil (by decide))) (one_pn (by decide)) (by decide)).mono ?_
  rw [one_appE (by decide) nmP (flB_nil (by decide)) (by decide) (by have := HA.out; simp [apL]; omega), one_app (by decide) nmP (flB_nil (by decide)) (by decide) (by have := HA.out; simp [apL]; omega)]
  rintro e w7 ⟨⟨v7, rfl, hv7⟩, hb7⟩
  obtain ⟨a7, c7, rfl, r7⟩ := dv_form hv7
  have R7 := Lib.hid (show Rd (fun _ => True) w7 (.sl tyF) [.slice a7 1 c7] [(⟨#[102]⟩, [], [(0, a, false)])] from r7)
  have HX7 := Lib.hid ((hb7.block _ (lt_of_some0 HX6.out)).trans HX6.out)
  have B7 := Lib.hid (btA B6.out hb7)
  clear hv7 hb7 r7 HX6 R6 B6 x0 x1 x2
  generalize hvx : (.agg #[.int .i64 (oneD (leftN (-1)) ⟨#[102]⟩ [] ([] ++ [(((apL [] []).length : Int), a, false)])).1, .int .i64 (oneD (leftN (-1)) ⟨#[102]⟩ [] ([] ++ [(((apL [] []).length : Int), a, false)])).2.1, .slice a7 (oneD (leftN (-1)) ⟨#[102]⟩ [] ([] ++ [(((apL [] []).length : Int), a, false)])).2.2.length c7] : Value) = vx
  obtain rfl : vx = .agg #[.int .i64 0, .int .i64 (-1), .slice a7 1 c7] := hvx.symm.trans rfl
  clear hvx
  obtain ⟨x0, x1, x2⟩ := box3c HX7.out
  have u0 := frozen_of_row w7 g 0 _ _ HX7.out
  have u1 := frozen_of_row w7 g 1 _ _ HX7.out
  have u2 := frozen_of_row w7 g 2 _ _ HX7.out
  have HX8 := Lib.hid (set3c (k := .int .i64 0) (l := .int .i64 (-1)) (m := .slice a7 1 c7) HX7.out)
  have R8 := Lib.hid (rd_boxset (x' := 0) (y' := -1) (a' := a7) (n' := 1) (c' := c7) HX7.out R7.out)
  have B8 := Lib.hid (below_set3 (k := .int .i64 0) (l := .int .i64 (-1)) (m := .slice a7 1 c7) B7.out HG.out)
  go_upto_region 5 with fail
  clear x0 x1 x2 u0 u1 u2 HX7 R7 B7
  generalize ((w7.setCell ⟨g, 0, none⟩ (.int .i64 0)).setCell ⟨g, 1, none⟩ (.int .i64 (-1))).setCell ⟨g, 2, none⟩ (.slice a7 1 c7) = w8 at *
  obtain ⟨x0, x1, x2⟩ := box3c HX8.out
  go_wp2_with fail
  refine (psync_any _ (oneD (-1) ⟨#[102]⟩ [] [(0, a, false)]) ⟨#[102]⟩ (by unfold maxLen; decide) 100 _ (dvp R8.out) (one_sm (by decide) nmP (w1p_ok (by have := HA.out; omega))) (one_pn (by simp)) (by decide)).mono ?_
  rw [one_at (by decide) nmP (w1p_ok (by have := HA.out; omega)), if_neg (by decide), one_sync (by decide) nmP (w1p_ok (by have := HA.out; omega)) (by decide), w1p_apL]
  rintro e w9 ⟨⟨v9, rfl, hv9⟩, hb9⟩
  obtain ⟨a9, c9, rfl, r9⟩ := dv_form hv9
  have R9 := Lib.hid (show Rd (fun _ => True) w9 (.sl tyF) [.slice a9 1 c9] [(⟨#[102]⟩, a, [])] from r9)
  have HX9 := Lib.hid ((hb9.block _ (lt_of_some0 HX8.out)).trans HX8.out)
  have B9 := Lib.hid (btA B8.out hb9)
  clear hv9 hb9 r9 HX8 R8 B8 x0 x1 x2
  generalize hvx : (.agg #[.int .i64 (oneD (leftN (-1)) ⟨#[102]⟩ a []).1, .int .i64 (oneD (leftN (-1)) ⟨#[102]⟩ a []).2.1, .slice a9 (oneD (leftN (-1)) ⟨#[102]⟩ a []).2.2.length c9] : Value) = vx
  obtain rfl : vx = .agg #[.int .i64 0, .int .i64 (-1), .slice a9 1 c9] := hvx.symm.trans rfl
  clear hvx
  obtain ⟨x0, x1, x2⟩ := box3c HX9.out
  have u0 := frozen_of_row w9 g 0 _ _ HX9.out
  have u1 := frozen_of_row w9 g 1 _ _ HX9.out
  have u2 := frozen_of_row w9 g 2 _ _ HX9.out
  have HX10 := Lib.hid (set3c (k := .int .i64 0) (l := .int .i64 (-1)) (m := .slice a9 1 c9) HX9.out)
  have R10 := Lib.hid (rd_boxset (x' := 0) (y' := -1) (a' := a9) (n' := 1) (c' := c9) HX9.out R9.out)
  have B10 := Lib.hid (below_set3 (k := .int .i64 0) (l := .int .i64 (-1)) (m := .slice a9 1 c9) B9.out HG.out)
  go_upto_region 6 with fail
  clear x0 x1 x2 u0 u1 u2 HX9 R9 B9
  generalize ((w9.setCell ⟨g, 0, none⟩ (.int .i64 0)).setCell ⟨g, 1, none⟩ (.int .i64 (-1))).setCell ⟨g, 2, none⟩ (.slice a9 1 c9) = w10 at *
  obtain ⟨x0, x1, x2⟩ := box3c HX10.out
  have OE := Lib.hid (og_empty (T := 5) .u8 (fun b => b < w10.heap.size) w10 rfl (Nat.le_refl _))
  have BE := Lib.hid (bel_al0 w10 (.cells #[] 5))
  have SA8 := Lib.hid (rd_mono (C := fun b => b < w10.heap.size ∧ (Value.slice (some ⟨w10.heap.size, 0, none⟩) 0 0).ownBlock ≠ some b) (rd_oldB (rd_mono (C := fun b => b < w10.heap.size) (sl_rd8 (sl_below SA.out B10.out)) fun _ _ h => h) BE.out) fun b hb _ => ⟨hb.1, fun e => by
    simp [Value.ownBlock] at e
    omega⟩)
  have HLE0 : Hid (([] : List Nat).length + a.length ≤ 100000000) := Lib.hid (by have := HA.out; simp; omega)
  have OE2 : Hid (OwG 5 .u8 (fun b => b < w10.heap.size) (w10.alloc (.cells #[] 5)) w10.heap.size (.slice (some ⟨w10.heap.size, 0, none⟩) 0 0) []) := OE
  have SL0 := Lib.hid SLL.out
  clear x0 x1 x2
  go_wp2_with (at_builtin; refine app_g lsP8 (dst := some 49) ?_ ?_ OE2.out SA8.out HLE0.out (Nat.le_of_lt (by simp)) ?_; exact rfl; exact rfl; intro v11 w11 ho11 hg11 hat11; rw [List.nil_append] at ho11; have O11 := Lib.hid ho11; have q11 := below_grownG BE.out hg11 OE2.out (Nat.le_of_lt (by simp)) (Nat.le_refl _); clear ho11 hg11 hat11)
  have HX11 := Lib.hid ((q11.block _ (lt_of_some0 HX10.out)).trans HX10.out)
  have R11 := Lib.hid (rd_below (rd_mono (C := fun b => b < w10.heap.size) R10.out fun _ _ h => h) q11)
  have B11 := Lib.hid (btA B10.out q11)
  have LG := Lib.hid (lt_of_some0 HX10.out)
  have hbs0 := q11.size
  have hbw := B10.out.size
  clear OE OE2 BE SA8 HLE0 HX10 R10 B10 q11
  obtain ⟨bs, hbs⟩ : ∃ z, z = w10.heap.size := ⟨_, rfl⟩
  rw [← hbs] at O11 LG hbs0 hbw R11
  have HBS := Lib.hid (And.intro hbs0 hbw)
  obtain ⟨Ls, hLs⟩ : ∃ z : List (List Nat), z = L0.map (·.take 100) := ⟨_, rfl⟩
  have HLS := Lib.hid (show Ls.length = nl ∧ (∀ k, ((Ls.take k).flatten).length ≤ 100 * k) ∧ (∀ i x, L0[i]? = some x → Ls.getD i [] = x.take 100) from ⟨by rw [hLs, List.length_map, HL.out.2], fun k => by rw [hLs]; exact takes_len _ _, fun i x hx => by rw [hLs, List.getD_eq_getElem?_getD, List.getElem?_map, hx]; rfl⟩)
  have SLO := Lib.hid (rd_mono (C := fun b => b < w.heap.size) SLL.out fun _ _ h => h)
  clear hbs0 hbw hLs hbs SL0 SLL
  have HSZ := Lib.hid (fun k (hk : k ≤ nl) => show (a ++ (Ls.take k).flatten).length ≤ 1100 from by
    have h1 := HLS.out.2.1 k
    have h2 := HA.out
    rw [List.length_append]
    omega)
  go_loopw [12, 52] (fun t12 t52 wr => ∃ i : Nat, i ≤ nl ∧ t52 = .int .i64 (i : Int) ∧ Hid (OwG 5 .u8 (fun b => b < bs) wr bs t12 (a ++ (Ls.take i).flatten)) ∧ Hid (∃ a' c, wr.heap[g]? = some (.cells #[.int .i64 0, .int .i64 (-1), .slice a' 1 c] 33 (0, 0)) ∧ Rd (fun b => t12.ownBlock ≠ some b) wr (.sl tyF) [.slice a' 1 c] [(⟨#[102]⟩, a, apW1 a Ls i)]) ∧ Hid (Below w.heap.size w wr ∧ bs ≤ wr.heap.size)) (fun _ t _ => nl - (intOf t).toNat)
  case atStart => exact ⟨0, by omega, rfl, Lib.hid (by simpa using ogu (C := fun b => b < bs) O11.out), Lib.hid ⟨_, _, HX11.out, rd_mono R11.out fun b hb _ e => by have := (og_lt O11.out b e).1; omega⟩, Lib.hid ⟨B11.out, HBS.out.1⟩⟩
  case round =>
    clear O11 HX11 R11 B11
    obtain ⟨i, hi, rfl, O, HB, BB⟩ := hrel
    obtain ⟨a', c', hx, hr⟩ := HB.out
    have HX := Lib.hid hx
    have R := Lib.hid hr
    clear hx hr HB
    obtain ⟨m5, hm5⟩ : ∃ z, z = (a ++ (Ls.take i).flatten).length := ⟨_, rfl⟩
    obtain ⟨ao, co, rfl, -, -⟩ := og_form O.out
    rw [← hm5] at O R ⊢
    have HM5 := Lib.hid hm5
    clear hm5
    by_cases hlt : i < nl
    · have l1 : decide ((i : Int) < (nl : Int)) = true := decide_eq_true (by omega)
      have p0 : (0 : Int) ≤ (i : Int) := by omega
      have p1 : (i : Int) < (nl : Int) := by omega
      obtain ⟨b1, o1, c1, hv, -, -, -, hc⟩ := rd_cells (rd_below SLO.out BB.out.1) (by have := HL.out; omega)
      obtain ⟨rfl, -, -⟩ : al = some ⟨b1, o1, none⟩ ∧ nl = L0.length ∧ cl = c1 := by simpa using hv
      obtain ⟨x, hx⟩ : ∃ x, L0[i]? = some x := ⟨_, List.getElem?_eq_getElem (by have := HL.out; omega)⟩
      obtain ⟨cs, hrd, hk⟩ := hc i x hx
      obtain ⟨ax, cx, rfl, hcx⟩ := rd_slc hrd
      have k0 := hk 0 (by decide)
      rw [show o1 + (i * (Ty.sl Ty.u8).n + 0) = o1 + i by show o1 + (i * 1 + 0) = _; omega] at k0
      have HGD := Lib.hid (HLS.out.2.2 i x hx)
      have RX := Lib.hid hrd
      clear hv hc hk hx hrd
      obtain ⟨nx, hnx⟩ : ∃ z, z = x.length := ⟨_, rfl⟩
      rw [← hnx] at k0 RX hcx
      have HNX := Lib.hid (And.intro hnx hcx)
      clear hnx hcx
      have k0' : wr.cell? ⟨b1, o1 + i, none⟩ = some (.slice ax nx cx) := k0
      clear k0
      have HFK := Lib.hid (apW1_ok (base := a) (Ls := Ls) (by have := HA.out; omega) i (by have := HLS.out.1; omega) (by have := HSZ.out i hi; omega))
      by_cases h100 : 100 < nx
      · have l2 : decide ((100 : Int) < (nx : Int)) = true := decide_eq_true (by omega)
        have l3 : decide (100 < nx) = true := decide_eq_true h100
        have l4 : 100 ≤ cx := by have := HNX.out; omega
        have l5 : (100 : Int) ≤ (cx : Int) := by omega
        have RV := Lib.hid (show Rd (fun b => b < w.heap.size) wr (.sl .u8) [.slice ax 100 cx] (x.take 100) from rd_take RX.out (by omega))
        have HLV := Lib.hid (show (x.take 100).length = 100 by rw [List.length_take]; have := HNX.out; omega)
        clear RX
        have hE : appendE (oneD (-1) ⟨#[102]⟩ a (apW1 a Ls i)) ⟨#[102]⟩ (x.take 100) = 0 := one_appE (by decide) nmP HFK.out (by decide) (by rw [apW1_apL i (by have := HLS.out.1; omega)]; have := HSZ.out i hi; rw [List.length_take]; omega)
        have hD : appendD (oneD (-1) ⟨#[102]⟩ a (apW1 a Ls i)) ⟨#[102]⟩ (x.take 100) = oneD (-1) ⟨#[102]⟩ a (apW1 a Ls (i + 1)) := by
          rw [one_app (by decide) nmP HFK.out (by decide) (by rw [apW1_apL i (by have := HLS.out.1; omega)]; have := HSZ.out i hi; rw [List.length_take]; omega), apW1_apL i (by have := HLS.out.1; omega), apW1, HGD.out]
          rfl
        have HED := Lib.hid (And.intro hE hD)
        clear hE hD
        obtain ⟨x0, x1, x2⟩ := box3c HX.out
        go_upto_region 12 with fail
        go_wp2_with fail
        refine (pappendB_any _ (oneD (-1) ⟨#[102]⟩ a (apW1 a Ls i)) ⟨#[102]⟩ _ (x.take 100) _ (rd8_sl RV.out) (by rw [List.length_take]; omega) (by unfold maxLen; decide) 100 (dvpB R.out) (one_sm (by decide) nmP HFK.out) (one_pn (by rw [apW1_len]; have := HA.out; omega)) (by decide)).mono ?_
        rw [HED.out.1, HED.out.2]
        rintro e w12 ⟨⟨v12, rfl, hv12⟩, hb12⟩
        obtain ⟨a12, c12, rfl, r12⟩ := dv_formB hv12
        have HOL := Lib.hid (fun q h => og_lt O.out q h)
        have R12 := Lib.hid (show Rd (fun b => (Value.slice ao m5 co).ownBlock ≠ some b) w12 (.sl tyF) [.slice a12 1 c12] [(⟨#[102]⟩, a, apW1 a Ls (i + 1))] from rd_mono r12 fun b hb _ => by
          rcases hb with hb | hb
          · exact hb.1
          · intro e
            have := (HOL.out b e).2
            omega)
        have q13 := btA hb12 (bel_al0 w12 (.cells #[.int .i64 0, .int .i64 (-1), .slice a12 1 c12] 33))
        have HQ13 := Lib.hid (heap_alloc_new w12 (.cells #[.int .i64 0, .int .i64 (-1), .slice a12 1 c12] 33))
        have R13 := Lib.hid (rd_below R12.out (bel_al0 w12 (.cells #[.int .i64 0, .int .i64 (-1), .slice a12 1 c12] 33)))
        have HX13 := Lib.hid ((q13.block _ (lt_of_some0 HX.out)).trans HX.out)
        have O13 := Lib.hid (og_below O.out q13)
        have RV13 := Lib.hid (rd_below RV.out q13)
        have B13 := Lib.hid (btA BB.out.1 q13)
        have HQS := Lib.hid (And.intro hb12.size q13.size)
        clear hv12 hb12 r12 q13 R12 HX R RV O x0 x1 x2
        generalize hvx : (.agg #[.int .i64 (oneD (-1) ⟨#[102]⟩ a (apW1 a Ls (i + 1))).1, .int .i64 (oneD (-1) ⟨#[102]⟩ a (apW1 a Ls (i + 1))).2.1, .slice a12 (oneD (-1) ⟨#[102]⟩ a (apW1 a Ls (i + 1))).2.2.length c12] : Value) = vx
        obtain rfl : vx = .agg #[.int .i64 0, .int .i64 (-1), .slice a12 1 c12] := hvx.symm.trans rfl
        clear hvx
        go_upto_region 13 with fail
        generalize w12.alloc (.cells #[.int .i64 0, .int .i64 (-1), .slice a12 1 c12] 33) = w13 at *
        generalize w12.heap.size = q at *
        go_upto_region 15 with fail
        obtain ⟨y0, y1, y2⟩ := box3c HQ13.out
        have S0 : SBx w [(q, .cells #[.int .i64 0, .int .i64 (-1), .slice a12 1 c12] 33 (0, 0))] w13.drew := ⟨B13.out.drew, fun p hp => by rw [List.mem_singleton.1 hp]; exact HQ13.out⟩
        refine wp_onlyN ?_
        refine wp_region_headsS (SBx w [(q, .cells #[.int .i64 0, .int .i64 (-1), .slice a12 1 c12] 33 (0, 0))]) [0, 1, 2] 3 (by kernel_rfl) (fun _ _ _ _ _ h => h.elim) (by kernel_rfl) (by rfl) (by rfl) S0 ?_
        simp only [pickOps, List.filterMap_cons, List.filterMap_nil, List.getElem?_toArray, List.getElem?_cons_zero, List.getElem?_cons_succ]
        refine wpHeads_step (fun K hK => ?_)
        go_simp
        refine ⟨.agg #[.int .i64 0, .int .i64 (-1), .slice a12 1 c12], fun w' hw' => by
          obtain ⟨u0, u1, u2⟩ := box3c (hw'.box _ (List.mem_singleton.2 rfl))
          simp [u0, u1, u2], hK _ ?_⟩
        clear hK K
        iterate 2
          refine wpHeads_step (fun K hK => ?_)
          go_simp
          first | refine hK _ ?_ | refine ⟨_, fun _ _ => rfl, hK _ ?_⟩
          clear hK K
        refine wpHeads_nil ?_
        have OD := Lib.hid (og_below O13.out (Below.refl _ _).drew)
        have RD1 := Lib.hid (rd_below R13.out (Below.refl _ _).drew)
        have RVD := Lib.hid (rd_below RV13.out (Below.refl _ _).drew)
        have HXD : Hid (w13.drew.heap[g]? = some (.cells #[.int .i64 0, .int .i64 (-1), .slice a' 1 c'] 33 (0, 0))) := Lib.hid HX13.out
        have SD := Lib.hid S0
        have HSD := Lib.hid (show q + 1 ≤ w13.drew.heap.size from lt_of_some0 HQ13.out)
        clear S0 y0 y1 y2 HQ13 O13 R13 RV13 HX13 B13
        generalize w13.drew = w14 at *
        have HY := Lib.hid (rd_mono (C := fun b => b < bs ∧ (Value.slice ao m5 co).ownBlock ≠ some b) RVD.out fun b hb _ => by
          have h2 := HBS.out.2
          exact ⟨Nat.lt_of_lt_of_le hb h2, fun e => by have := (HOL.out b e).1; omega⟩)
        have HLE15 : Hid ((a ++ (Ls.take i).flatten).length + (x.take 100).length ≤ 100000000) := Lib.hid (by have := HSZ.out i hi; rw [List.length_take]; omega)
        have HAL : Hid ((a ++ (Ls.take i).flatten) ++ x.take 100 = a ++ (Ls.take (i + 1)).flatten) := Lib.hid (by rw [flat_snocN (by have := HLS.out.1; omega), HGD.out, List.append_assoc])
        refine held_one 3 rfl rfl (by kernel_rfl) fun K hK => ?_
        refine wp_app_g lsP8 (v := .slice ao m5 co) (y := .slice ax 100 cx) rfl rfl OD.out HY.out HLE15.out (by have := HSD.out; have := HQS.out; have := BB.out.2; omega) ?_
        intro v15 w15 ho15 hg15 hat15
        rw [HAL.out] at ho15
        have S15 : SBx w [(q, .cells #[.int .i64 0, .int .i64 (-1), .slice a12 1 c12] 33 (0, 0))] w15 := ⟨below_grownG SD.out.bel hg15 OD.out (by have := SD.out.bel.size; omega) (by have := HBS.out.2; exact this), fun p hp => by
          have e := List.mem_singleton.1 hp
          subst e
          have h1 := SD.out.box _ (List.mem_singleton.2 rfl)
          exact (hg15.block q (lt_of_some0 h1) (fun e => by have := (HOL.out q e.symm).2; have := HQS.out.1; omega)).trans h1⟩
        refine hK _ _ S15 ?_
        clear hK K
        have O15 := Lib.hid ho15
        have HX15 := Lib.hid ((hg15.block g (lt_of_some0 HXD.out) (fun e => by have := (HOL.out g e.symm).1; have := LG.out; omega)).trans HXD.out)
        have R15 := Lib.hid (rd_mono (C := fun b => v15.ownBlock ≠ some b) (rd_grown (r := (Value.slice ao m5 co).ownBlock) (rd_mono (C := fun b => (Value.slice ao m5 co).ownBlock ≠ some b ∧ b < w14.heap.size) RD1.out fun b hb hl => ⟨hb, hl⟩) hg15 (fun b hb => hb.1)) fun b hb _ => by
          rcases hat15 with h | h
          · rw [h]; exact hb.1
          · rw [h]
            intro e
            have := Option.some.inj e
            omega)
        have SS := Lib.hid S15
        have BS15 := Lib.hid (show bs ≤ w15.heap.size from Nat.le_trans (by have := HSD.out; have := HQS.out; have := BB.out.2; omega : bs ≤ w14.heap.size) hg15.size)
        have GNE := Lib.hid (fun b (h : v15.ownBlock = some b) => show b ≠ g from by have := (og_lt ho15 b h).1; have := LG.out; omega)
        clear HY HLE15 OD RD1 RVD HXD SD S15 hg15 hat15 ho15
        obtain ⟨m15, hm15⟩ : ∃ z, z = (a ++ (Ls.take (i + 1)).flatten).length := ⟨_, rfl⟩
        obtain ⟨a15, c15, rfl, -, -⟩ := og_form O15.out
        rw [← hm15] at O15 R15 GNE ⊢
        clear hm15
        obtain ⟨x0, x1, x2⟩ := box3c HX15.out
        have u0 := frozen_of_row w15 g 0 _ _ HX15.out
        have u1 := frozen_of_row w15 g 1 _ _ HX15.out
        have u2 := frozen_of_row w15 g 2 _ _ HX15.out
        refine held_one 4 rfl rfl (by kernel_rfl) fun K hK => ?_
        go_simp
        refine hK _ _ (SS.out.set3 HG.out (fun p hp => by rw [List.mem_singleton.1 hp]; show q ≠ g; have := lt_of_some0 HX15.out; have := HQS.out; have := LG.out; have := BB.out.2; omega)) ?_
        clear hK K
        refine held_one 5 rfl rfl (by kernel_rfl) fun K hK => ?_
        go_simp
        refine hK _ _ (SS.out.set3 HG.out (fun p hp => by rw [List.mem_singleton.1 hp]; show q ≠ g; have := lt_of_some0 HX15.out; have := HQS.out; have := LG.out; have := BB.out.2; omega)) ?_
        clear hK K
        refine wpAnyH_done (by kernel_rfl) ?_ _
        unfold onlyN
        dsimp only
        clear x0 x1 x2 u0 u1 u2
        have HX16 := Lib.hid (set3c (k := .int .i64 0) (l := .int .i64 (-1)) (m := .slice a12 1 c12) HX15.out)
        have R16 := Lib.hid (rd_move (C := fun b => (Value.slice a15 m15 c15).ownBlock ≠ some b) (w' := ((w15.setCell ⟨g, 0, none⟩ (.int .i64 0)).setCell ⟨g, 1, none⟩ (.int .i64 (-1))).setCell ⟨g, 2, none⟩ (.slice a12 1 c12)) (fun b hb _ => set3_other hb.2) (fun b hb _ => hb.1) (rd_noboxB (isBox_of HX15.out) R15.out))
        have O16 := Lib.hid (ogu (C := fun b => b < bs) (og_move (w' := ((w15.setCell ⟨g, 0, none⟩ (.int .i64 0)).setCell ⟨g, 1, none⟩ (.int .i64 (-1))).setCell ⟨g, 2, none⟩ (.slice a12 1 c12)) (ogu (C := fun _ => False) O15.out) fun b hb _ => set3_other (hb.elim False.elim fun h => GNE.out b h)))
        have B16 := Lib.hid (below_set3 (k := .int .i64 0) (l := .int .i64 (-1)) (m := .slice a12 1 c12) SS.out.bel HG.out)
        have BS16 := Lib.hid (show bs ≤ (((w15.setCell ⟨g, 0, none⟩ (.int .i64 0)).setCell ⟨g, 1, none⟩ (.int .i64 (-1))).setCell ⟨g, 2, none⟩ (.slice a12 1 c12)).heap.size from by simpa using BS15.out)
        clear HX15 R15 O15 SS BS15 GNE
        generalize ((w15.setCell ⟨g, 0, none⟩ (.int .i64 0)).setCell ⟨g, 1, none⟩ (.int .i64 (-1))).setCell ⟨g, 2, none⟩ (.slice a12 1 c12) = w16 at *
        have e3 : IntKind.i64.wrap ((i : Int) + 1) = ((i + 1 : Nat) : Int) := by rw [IntWalk.i64_in _ (by have := HA.out; omega)]; omega
        go_wp2
        go_roundw
        case rel => exact ⟨i + 1, by omega, by go_num, O16, Lib.hid ⟨a12, c12, HX16.out, R16.out⟩, Lib.hid ⟨B16.out, BS16.out⟩⟩
        case measure => simp [intOf]; omega
      · have l2 : decide ((100 : Int) < (nx : Int)) = false := decide_eq_false (by omega)
        have l3 : decide (100 < nx) = false := decide_eq_false h100
        have RV := Lib.hid (show Rd (fun b => b < w.heap.size) wr (.sl .u8) [.slice ax nx cx] (x.take 100) from by rw [List.take_of_length_le (by have := HNX.out; omega)]; exact RX.out)
        have HLV := Lib.hid (show (x.take 100).length = nx by rw [List.length_take]; have := HNX.out; omega)
        clear RX
        have hE : appendE (oneD (-1) ⟨#[102]⟩ a (apW1 a Ls i)) ⟨#[102]⟩ (x.take 100) = 0 := one_appE (by decide) nmP HFK.out (by decide) (by rw [apW1_apL i (by have := HLS.out.1; omega)]; have := HSZ.out i hi; rw [List.length_take]; omega)
        have hD : appendD (oneD (-1) ⟨#[102]⟩ a (apW1 a Ls i)) ⟨#[102]⟩ (x.take 100) = oneD (-1) ⟨#[102]⟩ a (apW1 a Ls (i + 1)) := by
          rw [one_app (by decide) nmP HFK.out (by decide) (by rw [apW1_apL i (by have := HLS.out.1; omega)]; have := HSZ.out i hi; rw [List.length_take]; omega), apW1_apL i (by have := HLS.out.1; omega), apW1, HGD.out]
          rfl
        have HED := Lib.hid (And.intro hE hD)
        clear hE hD
        obtain ⟨x0, x1, x2⟩ := box3c HX.out
        go_upto_region 12 with fail
        go_wp2_with fail
        refine (pappendB_any _ (oneD (-1) ⟨#[102]⟩ a (apW1 a Ls i)) ⟨#[102]⟩ _ (x.take 100) _ (rd8_sl RV.out) (by rw [List.length_take]; omega) (by unfold maxLen; decide) 100 (dvpB R.out) (one_sm (by decide) nmP HFK.out) (one_pn (by rw [apW1_len]; have := HA.out; omega)) (by decide)).mono ?_
        rw [HED.out.1, HED.out.2]
        rintro e w12 ⟨⟨v12, rfl, hv12⟩, hb12⟩
        obtain ⟨a12, c12, rfl, r12⟩ := dv_formB hv12
        have HOL := Lib.hid (fun q h => og_lt O.out q h)
        have R12 := Lib.hid (show Rd (fun b => (Value.slice ao m5 co).ownBlock ≠ some b) w12 (.sl tyF) [.slice a12 1 c12] [(⟨#[102]⟩, a, apW1 a Ls (i + 1))] from rd_mono r12 fun b hb _ => by
          rcases hb with hb | hb
          · exact hb.1
          · intro e
            have := (HOL.out b e).2
            omega)
        have q13 := btA hb12 (bel_al0 w12 (.cells #[.int .i64 0, .int .i64 (-1), .slice a12 1 c12] 33))
        have HQ13 := Lib.hid (heap_alloc_new w12 (.cells #[.int .i64 0, .int .i64 (-1), .slice a12 1 c12] 33))
        have R13 := Lib.hid (rd_below R12.out (bel_al0 w12 (.cells #[.int .i64 0, .int .i64 (-1), .slice a12 1 c12] 33)))
        have HX13 := Lib.hid ((q13.block _ (lt_of_some0 HX.out)).trans HX.out)
        have O13 := Lib.hid (og_below O.out q13)
        have RV13 := Lib.hid (rd_below RV.out q13)
        have B13 := Lib.hid (btA BB.out.1 q13)
        have HQS := Lib.hid (And.intro hb12.size q13.size)
        clear hv12 hb12 r12 q13 R12 HX R RV O x0 x1 x2
        generalize hvx : (.agg #[.int .i64 (oneD (-1) ⟨#[102]⟩ a (apW1 a Ls (i + 1))).1, .int .i64 (oneD (-1) ⟨#[102]⟩ a (apW1 a Ls (i + 1))).2.1, .slice a12 (oneD (-1) ⟨#[102]⟩ a (apW1 a Ls (i + 1))).2.2.length c12] : Value) = vx
        obtain rfl : vx = .agg #[.int .i64 0, .int .i64 (-1), .slice a12 1 c12] := hvx.symm.trans rfl
        clear hvx
        go_upto_region 13 with fail
        generalize w12.alloc (.cells #[.int .i64 0, .int .i64 (-1), .slice a12 1 c12] 33) = w13 at *
        generalize w12.heap.size = q at *
        go_upto_region 15 with fail
        obtain ⟨y0, y1, y2⟩ := box3c HQ13.out
        have S0 : SBx w [(q, .cells #[.int .i64 0, .int .i64 (-1), .slice a12 1 c12] 33 (0, 0))] w13.drew := ⟨B13.out.drew, fun p hp => by rw [List.mem_singleton.1 hp]; exact HQ13.out⟩
        refine wp_onlyN ?_
        refine wp_region_headsS (SBx w [(q, .cells #[.int .i64 0, .int .i64 (-1), .slice a12 1 c12] 33 (0, 0))]) [0, 1, 2] 3 (by kernel_rfl) (fun _ _ _ _ _ h => h.elim) (by kernel_rfl) (by rfl) (by rfl) S0 ?_
        simp only [pickOps, List.filterMap_cons, List.filterMap_nil, List.getElem?_toArray, List.getElem?_cons_zero, List.getElem?_cons_succ]
        refine wpHeads_step (fun K hK => ?_)
        go_simp
        refine ⟨.agg #[.int .i64 0, .int .i64 (-1), .slice a12 1 c12], fun w' hw' => by
          obtain ⟨u0, u1, u2⟩ := box3c (hw'.box _ (List.mem_singleton.2 rfl))
          simp [u0, u1, u2], hK _ ?_⟩
        clear hK K
        iterate 2
          refine wpHeads_step (fun K hK => ?_)
          go_simp
          first | refine hK _ ?_ | refine ⟨_, fun _ _ => rfl, hK _ ?_⟩
          clear hK K
        refine wpHeads_nil ?_
        have OD := Lib.hid (og_below O13.out (Below.refl _ _).drew)
        have RD1 := Lib.hid (rd_below R13.out (Below.refl _ _).drew)
        have RVD := Lib.hid (rd_below RV13.out (Below.refl _ _).drew)
        have HXD : Hid (w13.drew.heap[g]? = some (.cells #[.int .i64 0, .int .i64 (-1), .slice a' 1 c'] 33 (0, 0))) := Lib.hid HX13.out
        have SD := Lib.hid S0
        have HSD := Lib.hid (show q + 1 ≤ w13.drew.heap.size from lt_of_some0 HQ13.out)
        clear S0 y0 y1 y2 HQ13 O13 R13 RV13 HX13 B13
        generalize w13.drew = w14 at *
        have HY := Lib.hid (rd_mono (C := fun b => b < bs ∧ (Value.slice ao m5 co).ownBlock ≠ some b) RVD.out fun b hb _ => by
          have h2 := HBS.out.2
          exact ⟨Nat.lt_of_lt_of_le hb h2, fun e => by have := (HOL.out b e).1; omega⟩)
        have HLE15 : Hid ((a ++ (Ls.take i).flatten).length + (x.take 100).length ≤ 100000000) := Lib.hid (by have := HSZ.out i hi; rw [List.length_take]; omega)
        have HAL : Hid ((a ++ (Ls.take i).flatten) ++ x.take 100 = a ++ (Ls.take (i + 1)).flatten) := Lib.hid (by rw [flat_snocN (by have := HLS.out.1; omega), HGD.out, List.append_assoc])
        refine held_one 3 rfl rfl (by kernel_rfl) fun K hK => ?_
        refine wp_app_g lsP8 (v := .slice ao m5 co) (y := .slice ax nx cx) rfl rfl OD.out HY.out HLE15.out (by have := HSD.out; have := HQS.out; have := BB.out.2; omega) ?_
        intro v15 w15 ho15 hg15 hat15
        rw [HAL.out] at ho15
        have S15 : SBx w [(q, .cells #[.int .i64 0, .int .i64 (-1), .slice a12 1 c12] 33 (0, 0))] w15 := ⟨below_grownG SD.out.bel hg15 OD.out (by have := SD.out.bel.size; omega) (by have := HBS.out.2; exact this), fun p hp => by
          have e := List.mem_singleton.1 hp
          subst e
          have h1 := SD.out.box _ (List.mem_singleton.2 rfl)
          exact (hg15.block q (lt_of_some0 h1) (fun e => by have := (HOL.out q e.symm).2; have := HQS.out.1; omega)).trans h1⟩
        refine hK _ _ S15 ?_
        clear hK K
        have O15 := Lib.hid ho15
        have HX15 := Lib.hid ((hg15.block g (lt_of_some0 HXD.out) (fun e => by have := (HOL.out g e.symm).1; have := LG.out; omega)).trans HXD.out)
        have R15 := Lib.hid (rd_mono (C := fun b => v15.ownBlock ≠ some b) (rd_grown (r := (Value.slice ao m5 co).ownBlock) (rd_mono (C := fun b => (Value.slice ao m5 co).ownBlock ≠ some b ∧ b < w14.heap.size) RD1.out fun b hb hl => ⟨hb, hl⟩) hg15 (fun b hb => hb.1)) fun b hb _ => by
          rcases hat15 with h | h
          · rw [h]; exact hb.1
          · rw [h]
            intro e
            have := Option.some.inj e
            omega)
        have SS := Lib.hid S15
        have BS15 := Lib.hid (show bs ≤ w15.heap.size from Nat.le_trans (by have := HSD.out; have := HQS.out; have := BB.out.2; omega : bs ≤ w14.heap.size) hg15.size)
        have GNE := Lib.hid (fun b (h : v15.ownBlock = some b) => show b ≠ g from by have := (og_lt ho15 b h).1; have := LG.out; omega)
        clear HY HLE15 OD RD1 RVD HXD SD S15 hg15 hat15 ho15
        obtain ⟨m15, hm15⟩ : ∃ z, z = (a ++ (Ls.take (i + 1)).flatten).length := ⟨_, rfl⟩
        obtain ⟨a15, c15, rfl, -, -⟩ := og_form O15.out
        rw [← hm15] at O15 R15 GNE ⊢
        clear hm15
        obtain ⟨x0, x1, x2⟩ := box3c HX15.out
        have u0 := frozen_of_row w15 g 0 _ _ HX15.out
        have u1 := frozen_of_row w15 g 1 _ _ HX15.out
        have u2 := frozen_of_row w15 g 2 _ _ HX15.out
        refine held_one 4 rfl rfl (by kernel_rfl) fun K hK => ?_
        go_simp
        refine hK _ _ (SS.out.set3 HG.out (fun p hp => by rw [List.mem_singleton.1 hp]; show q ≠ g; have := lt_of_some0 HX15.out; have := HQS.out; have := LG.out; have := BB.out.2; omega)) ?_
        clear hK K
        refine held_one 5 rfl rfl (by kernel_rfl) fun K hK => ?_
        go_simp
        refine hK _ _ (SS.out.set3 HG.out (fun p hp => by rw [List.mem_singleton.1 hp]; show q ≠ g; have := lt_of_some0 HX15.out; have := HQS.out; have := LG.out; have := BB.out.2; omega)) ?_
        clear hK K
        refine wpAnyH_done (by kernel_rfl) ?_ _
        unfold onlyN
        dsimp only
        clear x0 x1 x2 u0 u1 u2
        have HX16 := Lib.hid (set3c (k := .int .i64 0) (l := .int .i64 (-1)) (m := .slice a12 1 c12) HX15.out)
        have R16 := Lib.hid (rd_move (C := fun b => (Value.slice a15 m15 c15).ownBlock ≠ some b) (w' := ((w15.setCell ⟨g, 0, none⟩ (.int .i64 0)).setCell ⟨g, 1, none⟩ (.int .i64 (-1))).setCell ⟨g, 2, none⟩ (.slice a12 1 c12)) (fun b hb _ => set3_other hb.2) (fun b hb _ => hb.1) (rd_noboxB (isBox_of HX15.out) R15.out))
        have O16 := Lib.hid (ogu (C := fun b => b < bs) (og_move (w' := ((w15.setCell ⟨g, 0, none⟩ (.int .i64 0)).setCell ⟨g, 1, none⟩ (.int .i64 (-1))).setCell ⟨g, 2, none⟩ (.slice a12 1 c12)) (ogu (C := fun _ => False) O15.out) fun b hb _ => set3_other (hb.elim False.elim fun h => GNE.out b h)))
        have B16 := Lib.hid (below_set3 (k := .int .i64 0) (l := .int .i64 (-1)) (m := .slice a12 1 c12) SS.out.bel HG.out)
        have BS16 := Lib.hid (show bs ≤ (((w15.setCell ⟨g, 0, none⟩ (.int .i64 0)).setCell ⟨g, 1, none⟩ (.int .i64 (-1))).setCell ⟨g, 2, none⟩ (.slice a12 1 c12)).heap.size from by simpa using BS15.out)
        clear HX15 R15 O15 SS BS15 GNE
        generalize ((w15.setCell ⟨g, 0, none⟩ (.int .i64 0)).setCell ⟨g, 1, none⟩ (.int .i64 (-1))).setCell ⟨g, 2, none⟩ (.slice a12 1 c12) = w16 at *
        have e3 : IntKind.i64.wrap ((i : Int) + 1) = ((i + 1 : Nat) : Int) := by rw [IntWalk.i64_in _ (by have := HA.out; omega)]; omega
        go_wp2
        go_roundw
        case rel => exact ⟨i + 1, by omega, by go_num, O16, Lib.hid ⟨a12, c12, HX16.out, R16.out⟩, Lib.hid ⟨B16.out, BS16.out⟩⟩
        case measure => simp [intOf]; omega
    · obtain rfl : i = nl := by omega
      have l1 : decide ((i : Int) < (i : Int)) = false := decide_eq_false (by omega)
      have hTk : Ls.take i = Ls := List.take_of_length_le (by rw [HLS.out.1]; exact Nat.le_refl _)
      have HFK := Lib.hid (apW1_ok (base := a) (Ls := Ls) (by have := HA.out; omega) i (by rw [HLS.out.1]; exact Nat.le_refl _) (by have := HSZ.out i (Nat.le_refl _); omega))
      have hsz := HSZ.out i (Nat.le_refl _)
      rw [hTk] at O HM5 hsz
      obtain ⟨m, hm1, hm2, hm3⟩ := apW1_keep (base := a) (Ls := Ls) wr0 tn
      rw [HLS.out.1] at hm3
      obtain ⟨C, hC⟩ : ∃ C, C = (a ++ Ls.flatten).take m := ⟨_, rfl⟩
      rw [← hC] at hm3
      have HC := Lib.hid (show C.length = m ∧ C = (a ++ Ls.flatten).take m ∧ na ≤ m ∧ m ≤ m5 ∧ m5 ≤ 1100 from ⟨by rw [hC, List.length_take]; omega, hC, by have := HL.out.1; omega, by have := HM5.out; omega, by have := HM5.out; omega⟩)
      have HKW := Lib.hid hm3
      have RT := Lib.hid (rd_mono (C := fun _ => True) R.out fun _ _ _ => trivial)
      have B17 := Lib.hid BB.out.1
      clear hTk hm1 hm2 hm3 hC hsz R HSZ HLS SLO BB
      obtain ⟨x0, x1, x2⟩ := box3c HX.out
      go_upto_region 17 with fail
      go_wp2_with fail
      have q21 := bel_al0 wr (.cells #[.string ⟨#[102]⟩, .int .i64 wr0, .int .i64 tn] 87)
      have hkr : ∀ W : World, Rd (fun _ => True) W tyK [.string ⟨#[102]⟩, .int .i64 wr0, .int .i64 tn] (⟨#[102]⟩, wr0, tn) := fun W => ⟨[_], [.int .i64 wr0, .int .i64 tn], rfl, ⟨by show 1 ≤ maxLen; unfold maxLen; decide, rfl⟩, [_], [_], rfl, ⟨HWT.out.1, rfl⟩, HWT.out.2, rfl⟩
      have HK := heap_alloc_new wr (.cells #[.string ⟨#[102]⟩, .int .i64 wr0, .int .i64 tn] 87)
      refine (pcrash_any _ _ (oneD (-1) ⟨#[102]⟩ a (apW1 a Ls i)) [(⟨#[102]⟩, wr0, tn)] _ (dvp (rd_below RT.out q21)) (one_sm (by decide) nmP HFK.out) (one_pn (by rw [apW1_len]; have := HA.out; omega)) (rd_single (t := tyK) (hkr _) HK trivial) (by simp)).mono ?_
      rw [one_crash (by decide) nmP HFK.out]
      have hfk : fstK ⟨#[102]⟩ [(⟨#[102]⟩, wr0, tn)] = some (⟨#[102]⟩, wr0, tn) := by
        unfold fstK
        rw [List.find?_cons, nmEq_refl]
      rw [hfk, show ((some (⟨#[102]⟩, wr0, tn) : Option Kep).getD kep0).2.1 = wr0 from rfl, show ((some (⟨#[102]⟩, wr0, tn) : Option Kep).getD kep0).2.2 = tn from rfl, HKW.out]
      rintro e w22 ⟨⟨v22, rfl, hv22⟩, hb22⟩
      obtain ⟨a22, c22, rfl, r22⟩ := dv_form hv22
      have R22 := Lib.hid (show Rd (fun _ => True) w22 (.sl tyF) [.slice a22 1 c22] [(⟨#[102]⟩, C, [])] from r22)
      have q22 := btA q21 hb22
      have O22 := Lib.hid (og_below O.out q22)
      have B22 := Lib.hid (btA B17.out q22)
      clear hfk hkr HK q21 q22 hv22 hb22 r22 HX RT O B17 x0 x1 x2 HFK HKW
      generalize hvx : (.agg #[.int .i64 (oneD (-1) ⟨#[102]⟩ C []).1, .int .i64 (oneD (-1) ⟨#[102]⟩ C []).2.1, .slice a22 (oneD (-1) ⟨#[102]⟩ C []).2.2.length c22] : Value) = vx
      obtain rfl : vx = .agg #[.int .i64 0, .int .i64 (-1), .slice a22 1 c22] := hvx.symm.trans rfl
      clear hvx
      go_upto_region 18 with fail
      have q24 := bel_al0 w22 (.cells #[.int .i64 0, .int .i64 (-1), .slice a22 1 c22] 33)
      have HX24 := Lib.hid (heap_alloc_new w22 (.cells #[.int .i64 0, .int .i64 (-1), .slice a22 1 c22] 33))
      have R24 := Lib.hid (rd_below R22.out q24)
      have O24 := Lib.hid (og_below O22.out q24)
      have B24 := Lib.hid (btA B22.out q24)
      clear q24 R22 B22 O22
      generalize w22.alloc (.cells #[.int .i64 0, .int .i64 (-1), .slice a22 1 c22] 33) = w24 at *
      generalize w22.heap.size = h2 at *
      obtain ⟨x0, x1, x2⟩ := box3c HX24.out
      have HFL := Lib.hid (show flB C [] = true from flB_nil (by have := HC.out; omega))
      go_wp2_with fail
      refine (psize_any _ (oneD (-1) ⟨#[102]⟩ C []) ⟨#[102]⟩ (by unfold maxLen; decide) _ (dvp R24.out) (one_sm (by decide) nmP HFL.out)).mono ?_
      rw [one_size (by decide) nmP HFL.out (by decide), one_at (by decide) nmP HFL.out, if_neg (by decide), show (apL C []).length = m from HC.out.1]
      rintro e w25 ⟨rfl, hb25⟩
      have HX25 := Lib.hid ((hb25.block _ (lt_of_some0 HX24.out)).trans HX24.out)
      have R25 := Lib.hid (rd_below R24.out hb25)
      have O25 := Lib.hid (og_below O24.out hb25)
      have B25 := Lib.hid (btA B24.out hb25)
      clear hb25 HX24 R24 B24 O24 x0 x1 x2
      obtain ⟨x0, x1, x2⟩ := box3c HX25.out
      go_upto_region 19 with fail
      go_wp2_with fail
      refine (pread_any _ (oneD (-1) ⟨#[102]⟩ C []) ⟨#[102]⟩ (by unfold maxLen; decide) 100 _ (dvp R25.out) (one_sm (by decide) nmP HFL.out) (one_pn (by simp)) (by decide) 0 (m : Int) (by decide) (by have := HC.out; omega)).mono ?_
      have hre := p_readE (b := C) (n := m) HFL.out (by have := HC.out.1; omega)
      rw [hre.1, hre.2, show C.take m = C by rw [← HC.out.1, List.take_length]]
      clear hre
      rintro e w26 ⟨⟨v26, rfl, s26⟩, hb26⟩
      obtain ⟨a26, c26, rfl, -, -⟩ := sl_form s26
      have S26 := Lib.hid s26
      have O26 := Lib.hid (og_below O25.out hb26)
      have B26 := Lib.hid (btA B25.out hb26)
      clear s26 hb26 HX25 R25 B25 O25 x0 x1 x2 HFL
      rw [HC.out.1] at S26 ⊢
      have AL := Lib.hid (rd8_sl (og_rd (B := fun _ => True) (og_mono O26.out fun _ _ _ => trivial) fun _ _ => trivial))
      have hco : m5 ≤ co := by
        obtain ⟨_, _, hv9, hc9, -⟩ := og_form O26.out
        have e : co = _ := (by simpa using hv9 : _ ∧ _ ∧ co = _).2.2
        rw [e]
        have := HM5.out
        omega
      have S27 := Lib.hid (show Sl w26 (.slice ao m co) C from by
        rw [HC.out.2.1]
        have h := AL.out
        rw [HM5.out] at h
        exact sl_take h (by have := HC.out; have := HM5.out; omega))
      have g1 : m ≤ co := by have := HC.out; omega
      have g2 : (m : Int) ≤ (co : Int) := by omega
      have g3 : na ≤ m := HC.out.2.2.1
      have g4 : m ≤ m5 := HC.out.2.2.2.1
      have d1 : decide ((na : Int) ≤ (m : Int)) = true := decide_eq_true (by omega)
      have d2 : decide ((m : Int) ≤ (m5 : Int)) = true := decide_eq_true (by omega)
      have d3 : decide (na ≤ m) = true := decide_eq_true g3
      have d4 : decide (m ≤ m5) = true := decide_eq_true g4
      have z1 := conv_sl (sl_drew S26.out)
      have z2 := conv_sl (sl_drew S27.out)
      have ht : ((strOf C).toList == (strOf C).toList) = true := by simp
      clear S26 S27 AL O26 HC hco HM5
      generalize strOf C = tz at *
      go_upto_region 20 with fail
      refine wp_region_still_tail 32 (by kernel_rfl) (by kernel_rfl) ?_
      change wpStill _ _ w26.drew (fun a' => wpList _ _ _ _ a' w26.drew) _ _
      simp only [List.take_succ_cons, List.take_zero, List.drop_succ_cons, List.drop_zero]
      repeat still_step
      refine wpStill_nil ?_
      go_wp2_with ((go_at_call 14; refine (awake10_any _).mono ?_; rintro e w5 ⟨rfl, hB5⟩))
      go_ret
      exact ⟨rfl, B26.out.drew.trans (hB5.mono B26.out.size)⟩
end Go.Proofs.Ytpjkgbngiifkmaa.Gf
