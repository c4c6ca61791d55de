/- What is proved here: the contract of the reference's written (disk). Condition: data of at most 2^40 bytes, files of at most 90000 writes, at most 256 files. -/
import Derived.Test.YtpipgbjkkiheaaaK10G
import Derived.Deep.CutRange
namespace Go.Proofs.Ytpipgbjkkiheaaa.Gf
open Go Go.Joins Go.ChangeShapes Go.WideShapes Go.ChangeAt Go.RowKit Go.Deep Go.Proofs.Ytpipgbjkkiheaaa.By Go.Proofs.Ytpipgbjkkiheaaa.Qt

/-- What the reference's written answers: the error. -/
def wRE (d : Dk) (x : Fl) (y : Wr) : Nat :=
  if 1048576 < y.1.toNat + y.2.1.length then 9
  else if 0 < d.1 ∧ (contL x).length < (contL (x.1, x.2.1, x.2.2 ++ [y])).length ∧ d.1 < (totN d.2.2 : Int) + ((contL (x.1, x.2.1, x.2.2 ++ [y])).length : Int) - ((contL x).length : Int) then 9 else 0
/-- The disk that the reference's written answers. -/
def wRD (d : Dk) (i : Nat) (x : Fl) (y : Wr) : Dk := (d.1, leftN d.2.1, d.2.2.set i (x.1, x.2.1, x.2.2 ++ [y]))
theorem ls8R : LsT Try.prog 52 5 .u8 := lsT_of Try.underlying52 (z := .int .u8 0) (n := 1) (b := 1) (by kernel_rfl) rfl (by decide) rfl
theorem held_two10 {P : Program} {ops : Array Oper} {md : Region.Mode} {Q : Exit → Act → World → Prop} {S : World → Prop} {fuel : Nat} {listed : Array Bool} {a : Act} {w : World} (i k : Nat) {oi ok : Oper} (hi : ops[i]? = some oi) (hk : ops[k]? = some ok) (hg : oi.guard = none) (hg2 : ok.guard = none) (hr : Region.ready md ops listed = [i, k])
    (h : ∀ K : Act → World → Prop, (∀ a' w', S w' → wpAnyH P md ops Q S fuel (listed.setIfInBounds i true) a' w' → K a' w') → oi.wp P a w K Q)
    (h2 : ∀ K : Act → World → Prop, (∀ a' w', S w' → wpAnyH P md ops Q S fuel (listed.setIfInBounds k true) a' w' → K a' w') → ok.wp P a w K Q) : wpAnyH P md ops Q S (fuel + 1) listed a w := by
  refine wpAnyH_all hr (by simp) fun j hj => ?_
  have hj2 : j = i ∨ j = k := by simpa using hj
  rcases hj2 with rfl | rfl
  · unfold wpOp
    simp only [hi]
    rw [if_pos (by simp [Region.wanted, hg])]
    exact Or.inl (h _ fun a' w' h1 h2 => ⟨h1, h2⟩)
  · unfold wpOp
    simp only [hk]
    rw [if_pos (by simp [Region.wanted, hg2])]
    exact Or.inl (h2 _ fun a' w' h1 h2 => ⟨h1, h2⟩)
theorem held_three10 {P : Program} {ops : Array Oper} {md : Region.Mode} {Q : Exit → Act → World → Prop} {S : World → Prop} {fuel : Nat} {listed : Array Bool} {a : Act} {w : World} (i k m : Nat) {oi ok om : Oper} (hi : ops[i]? = some oi) (hk : ops[k]? = some ok) (hm : ops[m]? = some om) (hg : oi.guard = none) (hg2 : ok.guard = none) (hg3 : om.guard = none) (hr : Region.ready md ops listed = [i, k, m])
    (h : ∀ K : Act → World → Prop, (∀ a' w', S w' → wpAnyH P md ops Q S fuel (listed.setIfInBounds i true) a' w' → K a' w') → oi.wp P a w K Q)
    (h2 : ∀ K : Act → World → Prop, (∀ a' w', S w' → wpAnyH P md ops Q S fuel (listed.setIfInBounds k true) a' w' → K a' w') → ok.wp P a w K Q)
    (h3 : ∀ K : Act → World → Prop, (∀ a' w', S w' → wpAnyH P md ops Q S fuel (listed.setIfInBounds m true) a' w' → K a' w') → om.wp P a w K Q) : wpAnyH P md ops Q S (fuel + 1) listed a w := by
  refine wpAnyH_all hr (by simp) fun j hj => ?_
  have hj2 : j = i ∨ j = k ∨ j = m := by simpa using hj
  rcases hj2 with rfl | rfl | rfl
  · unfold wpOp
    simp only [hi]
    rw [if_pos (by simp [Region.wanted, hg])]
    exact Or.inl (h _ fun a' w' h1 h2 => ⟨h1, h2⟩)
  · unfold wpOp
    simp only [hk]
    rw [if_pos (by simp [Region.wanted, hg2])]
    exact Or.inl (h2 _ fun a' w' h1 h2 => ⟨h1, h2⟩)
  · unfold wpOp
    simp only [hm]
    rw [if_pos (by simp [Region.wanted, hg3])]
    exact Or.inl (h3 _ fun a' w' h1 h2 => ⟨h1, h2⟩)
theorem SBx.one {w a : World} {L : List (Nat × Obj)} {g o : Nat} {k : Value} (h : SBx w L a) (hg : w.heap.size ≤ g) (hL : ∀ p ∈ L, p.1 ≠ g) : SBx w L (a.setCell ⟨g, o, none⟩ k) := ⟨h.bel.setCell (p := ⟨g, o, none⟩) hg _, fun p hp => (other1 (hL p hp)).trans (h.box p hp)⟩
theorem rd_w_mk {B : Nat → Prop} {w : World} {dv : Value} {off : Nat} {b : List Nat} {c : Bool} (ho : off ≤ 1048576) (h : Rd B w (.sl .u8) [dv] b) : Rd B w tyW [.int .i64 (off : Int), dv, .bool c] ((off : Int), b, c) :=
  ⟨[_], [dv, .bool c], rfl, ⟨⟨by show IntKind.i64.min ≤ (off : Int); have : IntKind.i64.min = -9223372036854775808 := rfl; omega, by have : IntKind.i64.max = 9223372036854775807 := rfl; show (off : Int) ≤ IntKind.i64.max; omega⟩, rfl⟩, [dv], [.bool c], rfl, h, rfl⟩
theorem og8 {T : TypeId} {B C : Nat → Prop} {w : World} {base : Nat} {v : Value} {l : List Nat} (h : OwG T .u8 B w base v l) : OwG T .u8 C w base v l := by
  obtain ⟨L, h1, h0, h2⟩ := h
  exact ⟨L, h1, h0, h2⟩
set_option maxRecDepth 100000 in
set_option maxHeartbeats 12800000 in
theorem rwritten_any {B : Nat → Prop} (v : Value) (d : Dk) (i : Nat) (x : Fl) (dv : Value) (off : Nat) (b : List Nat) (cut : Bool) (w : World) (hv : DvB B w v d) (hi : i < d.2.2.length) (hx : x = d.2.2.getD i fl0) (hlen : d.2.2.length ≤ 256) (hpl : x.2.2.length ≤ 90000) (sd : Sl w dv b) (hoff : off ≤ 1048576) (hb : b.length ≤ 1099511627776) :
    Calls Try.prog 86 #[v, .int .i64 (i : Int), .agg #[.int .i64 (off : Int), dv, .bool cut]] w (DE (fun b => B b ∧ b < w.heap.size) w (if wRE d x ((off : Int), b, cut) = 0 then wRD d i x ((off : Int), b, cut) else dk0) (wRE d x ((off : Int), b, cut))) := by
  obtain ⟨fv, rfl, hr, sf⟩ := hv
  have SDB := Lib.hid (rd_mono (C := fun q => q < w.heap.size) (sl_rd8 sd) fun _ _ h => h)
  have RT := Lib.hid (fun W (h : Below w.heap.size w W) => rtotal_any (.agg #[.int .i64 d.1, .int .i64 d.2.1, fv]) d W ⟨fv, rfl, hr, rd_below (rd_mono sf fun _ _ _ => trivial) h⟩ (by omega))
  have RN := Lib.hid (fun W (h : Below w.heap.size w W) => rnext_any (B := fun q => B q ∧ q < w.heap.size) (.agg #[.int .i64 d.1, .int .i64 d.2.1, fv]) d W ⟨fv, rfl, hr, rd_oldB sf h⟩ (by omega))
  have HTB : Hid (totN d.2.2 ≤ 268435456) := Lib.hid (by have h1 := totN_le d.2.2; omega)
  have HNX : Hid (((-9223372036854775808 ≤ (nextD d).1 ∧ (nextD d).1 ≤ 9223372036854775807) ∧ (-9223372036854775808 ≤ (nextD d).2.1 ∧ (nextD d).2.1 ≤ 9223372036854775807)) ∧ (nextD d).1 = d.1 ∧ (nextD d).2.1 = leftN d.2.1 ∧ (nextD d).2.2 = d.2.2) := Lib.hid (by
    refine ⟨⟨hr.1, ?_⟩, rfl, rfl, rfl⟩
    show -9223372036854775808 ≤ leftN d.2.1 ∧ leftN d.2.1 ≤ 9223372036854775807
    unfold leftN
    split <;> omega)
  have SF := Lib.hid (rd_mono (C := fun q => B q ∧ q < w.heap.size) sf fun _ h h2 => ⟨h, h2⟩)
  have HR := Lib.hid hr
  obtain ⟨af, cf, rfl, -, -⟩ := rd_sl sf
  obtain ⟨ad, cd, rfl, -, -⟩ := sl_form sd
  have HWD : Hid (wRD d i x ((off : Int), b, cut) = (d.1, leftN d.2.1, d.2.2.set i (x.1, x.2.1, x.2.2 ++ [((off : Int), b, cut)]))) := Lib.hid rfl
  have HWE : Hid (wRE d x ((off : Int), b, cut) = if 1048576 < off + b.length then 9 else if 0 < d.1 ∧ (contL x).length < (contL (x.1, x.2.1, x.2.2 ++ [((off : Int), b, cut)])).length ∧ d.1 < (totN d.2.2 : Int) + ((contL (x.1, x.2.1, x.2.2 ++ [((off : Int), b, cut)])).length : Int) - ((contL x).length : Int) then 9 else 0) := Lib.hid (by unfold wRE; dsimp only; rw [Int.toNat_natCast])
  generalize wRE d x ((off : Int), b, cut) = WE at *
  generalize wRD d i x ((off : Int), b, cut) = WD at *
  obtain ⟨DD, hdd⟩ : ∃ z, z = (if WE = 0 then WD else dk0) := ⟨_, rfl⟩
  rw [← hdd]
  have HDD := Lib.hid hdd
  clear hdd
  obtain ⟨tot, htot⟩ : ∃ z, z = totN d.2.2 := ⟨_, rfl⟩
  rw [← htot] at RT HTB HWE
  generalize nextD d = ND at *
  obtain ⟨cap, left, L⟩ := d
  dsimp only at SF HR HWD HWE RT RN HNX hi hx hlen ⊢
  obtain ⟨n, hn⟩ : ∃ z, z = L.length := ⟨_, rfl⟩
  rw [← hn] at SF RT RN hi hlen ⊢
  obtain ⟨nd, hnd⟩ : ∃ z, z = b.length := ⟨_, rfl⟩
  rw [← hnd] at HWE hb SDB ⊢
  have HN := Lib.hid hn
  have HND := Lib.hid hnd
  have HI := Lib.hid hi
  have HXI := Lib.hid hx
  have HLEN := Lib.hid hlen
  have HPL := Lib.hid hpl
  have HOFF := Lib.hid hoff
  have HBL := Lib.hid hb
  have A1 := bel_al0 w (.cells #[.int .i64 cap, .int .i64 left, .slice af n cf] 24)
  have A2 := btA A1 (bel_al0 _ (.cells #[.int .i64 (off : Int), .slice ad nd cd, .bool cut] 94))
  have BX := Lib.hid (btA A2 (bel_al0 _ (.cells #[.int .i64 0, .int .i64 0, .slice none 0 0] 24)))
  have HX := Lib.hid (show (((w.alloc (.cells #[.int .i64 cap, .int .i64 left, .slice af n cf] 24)).alloc (.cells #[.int .i64 (off : Int), .slice ad nd cd, .bool cut] 94)).alloc (.cells #[.int .i64 0, .int .i64 0, .slice none 0 0] 24)).heap[w.heap.size]? = some (.cells #[.int .i64 cap, .int .i64 left, .slice af n cf] 24 (0, 0)) from (al_old (by simp <;> omega)).trans ((al_old (by simp)).trans (heap_alloc_new w _)))
  have HW := Lib.hid (show (((w.alloc (.cells #[.int .i64 cap, .int .i64 left, .slice af n cf] 24)).alloc (.cells #[.int .i64 (off : Int), .slice ad nd cd, .bool cut] 94)).alloc (.cells #[.int .i64 0, .int .i64 0, .slice none 0 0] 24)).heap[w.heap.size + 1]? = some (.cells #[.int .i64 (off : Int), .slice ad nd cd, .bool cut] 94 (0, 0)) from (al_old (by simp)).trans (heap_alloc2_new w _ _))
  have HY := Lib.hid (show (((w.alloc (.cells #[.int .i64 cap, .int .i64 left, .slice af n cf] 24)).alloc (.cells #[.int .i64 (off : Int), .slice ad nd cd, .bool cut] 94)).alloc (.cells #[.int .i64 0, .int .i64 0, .slice none 0 0] 24)).heap[w.heap.size + 2]? = some (.cells #[.int .i64 0, .int .i64 0, .slice none 0 0] 24 (0, 0)) from by
    have h := heap_alloc2_new (w.alloc (.cells #[.int .i64 cap, .int .i64 left, .slice af n cf] 24)) (.cells #[.int .i64 (off : Int), .slice ad nd cd, .bool cut] 94) (.cells #[.int .i64 0, .int .i64 0, .slice none 0 0] 24)
    simpa [Nat.add_assoc] using h)
  have HSZ := Lib.hid (show (((w.alloc (.cells #[.int .i64 cap, .int .i64 left, .slice af n cf] 24)).alloc (.cells #[.int .i64 (off : Int), .slice ad nd cd, .bool cut] 94)).alloc (.cells #[.int .i64 0, .int .i64 0, .slice none 0 0] 24)).heap.size = w.heap.size + 3 by simp)
  clear sf sd hr A1 A2 htot hn hnd hi hx hlen hpl hoff hb
  go_enter Try.func86, Try.ntmps86
  go_upto_region 1 with fail
  generalize (((w.alloc (.cells #[.int .i64 cap, .int .i64 left, .slice af n cf] 24)).alloc (.cells #[.int .i64 (off : Int), .slice ad nd cd, .bool cut] 94)).alloc (.cells #[.int .i64 0, .int .i64 0, .slice none 0 0] 24)) = W1 at *
  have hip : i < L.length := by have := HI.out; have := HN.out; omega
  obtain ⟨b1, o1, bv, pv, rfl, -, k0, k1, k2, hsz, hbb, hpp⟩ := dv_at (rd_below SF.out BX.out) hip
  rw [← HXI.out] at k0 hsz hbb hpp
  obtain ⟨sa, xb, xp⟩ := x
  dsimp only at k0 hsz hbb hpp HWD HWE HPL
  obtain ⟨ab, cb, rfl, -, -⟩ := sl_form (rd8_sl hbb)
  obtain ⟨ap, cp, rfl, -, -⟩ := rd_sl hpp
  have RB1 := Lib.hid hbb
  have RP1 := Lib.hid hpp
  have HSA := Lib.hid hsz
  obtain ⟨nb, hnb⟩ : ∃ z, z = xb.length := ⟨_, rfl⟩
  obtain ⟨np, hnp⟩ : ∃ z, z = xp.length := ⟨_, rfl⟩
  rw [← hnb] at k1 RB1
  rw [← hnp] at k2 RP1 HPL
  have HNP := Lib.hid hnp
  have p0 : (0 : Int) ≤ (i : Int) := by omega
  have p1 : (i : Int) < (n : Int) := by have := HI.out; omega
  obtain ⟨x0, x1, x2⟩ := box3c HX.out
  clear hip hsz hbb hpp hnb hnp
  go_upto_region 2 with fail
  clear k0 k1 k2 x0 x1 x2 p0 p1
  have q2 := bel_al0 W1 (.cells #[.string sa, .slice ab nb cb, .slice ap np cp] 63)
  have HX2 := Lib.hid ((q2.block _ (lt_of_some0 HX.out)).trans HX.out)
  have HW2 := Lib.hid ((q2.block _ (lt_of_some0 HW.out)).trans HW.out)
  have HY2 := Lib.hid ((q2.block _ (lt_of_some0 HY.out)).trans HY.out)
  have HF2 := Lib.hid (heap_alloc_new W1 (.cells #[.string sa, .slice ab nb cb, .slice ap np cp] 63))
  have B2 := Lib.hid (btA BX.out q2)
  have RB2 := Lib.hid (rd_below RB1.out q2)
  have RP2 := Lib.hid (rd_below RP1.out q2)
  clear q2 HX HW HY BX RB1 RP1
  generalize W1.alloc (.cells #[.string sa, .slice ab nb cb, .slice ap np cp] 63) = W2 at *
  rw [HSZ.out] at HF2 ⊢
  clear HSZ
  clear W1
  have SZ2 := Lib.hid (show w.heap.size + 4 ≤ W2.heap.size from lt_of_some0 HF2.out)
  have RC2 := Lib.hid (rcontent_any sa _ _ xb xp W2 (rd8_sl RB2.out) (rd_mono RP2.out fun _ _ _ => trivial))
  obtain ⟨old, hold⟩ : ∃ z, z = (contL (sa, xb, xp)).length := ⟨_, rfl⟩
  have HCO := Lib.hid (show old ≤ 1048576 by rw [hold]; exact contL_le _)
  rw [← hold] at HWE
  have HOLD := Lib.hid hold
  clear hold
  obtain ⟨f0, f1, f2⟩ := box3c HF2.out
  go_wp2_with fail
  refine RC2.out.mono ?_
  rintro e w3 ⟨⟨v3, rfl, ho3⟩, hb3⟩
  obtain ⟨a3, c3, rfl, -, -⟩ := sl_form ho3.sl
  rw [← HOLD.out]
  have B3 := Lib.hid (btA B2.out hb3)
  have HX3 := Lib.hid ((hb3.block _ (lt_of_some0 HX2.out)).trans HX2.out)
  have HW3 := Lib.hid ((hb3.block _ (lt_of_some0 HW2.out)).trans HW2.out)
  have HY3 := Lib.hid ((hb3.block _ (lt_of_some0 HY2.out)).trans HY2.out)
  have HF3 := Lib.hid ((hb3.block _ (lt_of_some0 HF2.out)).trans HF2.out)
  have RB3 := Lib.hid (rd_below RB2.out hb3)
  have RP3 := Lib.hid (rd_below RP2.out hb3)
  have SZ3 := Lib.hid (show w.heap.size + 4 ≤ w3.heap.size from lt_of_some0 HF3.out)
  clear f0 f1 f2 ho3 hb3 RC2 B2 HX2 HW2 HY2 HF2 RB2 RP2 SZ2
  obtain ⟨o0, o1', o2⟩ := box3c HW3.out
  obtain ⟨sm, hsm⟩ : ∃ z, z = off + nd := ⟨_, rfl⟩
  have hw1 : wrap64 ((off : Int) + (nd : Int)) = ((sm : Nat) : Int) := by
    have h1 := HOFF.out
    have h2 := HBL.out
    unfold wrap64
    omega
  rw [← hsm] at HWE
  have HSM := Lib.hid hsm
  clear hsm
  go_upto_region 3 with fail
  by_cases hbig : 1048576 < sm
  · have e1 : decide ((sm : Int) > 1048576) = true := decide_eq_true (by omega)
    have e2 : decide ((1048576 : Int) < (sm : Int)) = true := decide_eq_true (by omega)
    have e3 : decide (1048576 < sm) = true := decide_eq_true hbig
    rw [if_pos hbig] at HWE
    have HWZ := Lib.hid (show ¬ WE = 0 by rw [HWE.out]; decide)
    clear hbig
    obtain ⟨y0, y1, y2⟩ := box3c HY3.out
    have u0 := frozen_of_row w3 (w.heap.size + 2) 0 _ _ HY3.out
    have u1 := frozen_of_row w3 (w.heap.size + 2) 1 _ _ HY3.out
    have u2 := frozen_of_row w3 (w.heap.size + 2) 2 _ _ HY3.out
    go_wp2
    refine rdisk_end rfl (set3c HY3.out) rfl ?_
    rw [show DD = dk0 from by rw [HDD.out, if_neg HWZ.out], HWE.out]
    exact de_zero (below_set3 B3.out (by omega))
  have e1 : decide ((sm : Int) > 1048576) = false := decide_eq_false (by omega)
  have e2 : decide ((1048576 : Int) < (sm : Int)) = false := decide_eq_false (by omega)
  have e3 : decide (1048576 < sm) = false := decide_eq_false hbig
  rw [if_neg hbig] at HWE
  have HNB := Lib.hid hbig
  clear hbig
  go_upto_region 5 with fail
  clear e1 e2 e3 hw1 o0 o1' o2
  have HNDL : Hid (nd ≤ 1048576) := Lib.hid (by have := HNB.out; have := HSM.out; omega)
  have OE := Lib.hid (og_empty (T := 5) .u8 (fun q => q < w.heap.size) w3 rfl (Nat.le_refl _))
  have BE := Lib.hid (bel_al0 w3 (.cells #[] 5))
  have SA := Lib.hid (rd_mono (C := fun q => q < w.heap.size ∧ (Value.slice (some ⟨w3.heap.size, 0, none⟩) 0 0).ownBlock ≠ some q) (rd_below SDB.out (btA B3.out BE.out)) fun q hq _ => ⟨hq, fun e => by
    have h3 := SZ3.out
    simp [Value.ownBlock] at e
    omega⟩)
  have HLE : Hid (([] : List Nat).length + b.length ≤ 100000000) := Lib.hid (by have := HNDL.out; have := HND.out; simp; omega)
  obtain ⟨o0, o1', o2⟩ := box3c ((BE.out.block _ (lt_of_some0 HW3.out)).trans HW3.out)
  go_upto_region 6 with (at_builtin; (refine app_g ls8R (dst := some 30) ?_ ?_ OE.out SA.out HLE.out (Nat.le_of_lt (by simp)) ?_; exact rfl; exact rfl; intro v5 w5 ho5 hg5 hat5; rw [List.nil_append] at ho5; have q5 := Lib.hid (below_grownG BE.out hg5 OE.out (Nat.le_of_lt (by simp)) (Nat.le_refl _)); have HW5 := Lib.hid ((q5.out.block _ (lt_of_some0 HW3.out)).trans HW3.out); obtain ⟨a5, c5, rfl, -, -⟩ := og_form ho5; have O5 := Lib.hid ho5; rw [← HND.out] at O5 ⊢; obtain ⟨g0, g1, g2⟩ := box3c HW5.out; have z2 := frozen_of_row _ (w.heap.size + 1) 1 _ _ HW5.out; clear ho5 hg5 hat5))
  have B5 := Lib.hid (btA B3.out q5.out)
  have HX5 := Lib.hid ((q5.out.block _ (lt_of_some0 HX3.out)).trans HX3.out)
  have HY5 := Lib.hid ((q5.out.block _ (lt_of_some0 HY3.out)).trans HY3.out)
  have HF5 := Lib.hid ((q5.out.block _ (lt_of_some0 HF3.out)).trans HF3.out)
  have RB5 := Lib.hid (rd_below RB3.out q5.out)
  have RP5 := Lib.hid (rd_below RP3.out q5.out)
  have RD5 := Lib.hid (rd_mono (C := fun q => (B q ∧ q < w.heap.size) ∨ w.heap.size + 4 ≤ q) (og_rdw (og8 (C := fun _ => False) O5.out)) fun q hq _ => Or.inr (by have h3 := SZ3.out; have h4 := hq.resolve_left id; omega))
  clear o0 o1' o2 g0 g1 g2 z2 OE BE SA HLE
  have HW6 := Lib.hid (show (w5.setCell ⟨w.heap.size + 1, 1, none⟩ (.slice a5 nd c5)).heap[w.heap.size + 1]? = some (.cells #[.int .i64 (off : Int), .slice a5 nd c5, .bool cut] 94 (0, 0)) from (by simpa using heap_setCell_same w5 (w.heap.size + 1) 1 _ _ (.slice a5 nd c5) HW5.out))
  have HX6 := Lib.hid ((other1 (g := w.heap.size + 1) (o := 1) (v := .slice a5 nd c5) (by omega : w.heap.size ≠ w.heap.size + 1)).trans HX5.out)
  have HY6 := Lib.hid ((other1 (g := w.heap.size + 1) (o := 1) (v := .slice a5 nd c5) (by omega : w.heap.size + 2 ≠ w.heap.size + 1)).trans HY5.out)
  have HF6 := Lib.hid ((other1 (g := w.heap.size + 1) (o := 1) (v := .slice a5 nd c5) (by omega : w.heap.size + 3 ≠ w.heap.size + 1)).trans HF5.out)
  have B6 := Lib.hid (B5.out.setCell (p := ⟨w.heap.size + 1, 1, none⟩) (show w.heap.size ≤ w.heap.size + 1 by omega) (.slice a5 nd c5))
  have RB6 := Lib.hid (rd_move (w' := w5.setCell ⟨w.heap.size + 1, 1, none⟩ (.slice a5 nd c5)) (fun b hb _ => other1 (g := w.heap.size + 1) (by have h := hb.2; omega)) (fun b hb _ => hb) RB5.out)
  have RP6 := Lib.hid (rd_move (w' := w5.setCell ⟨w.heap.size + 1, 1, none⟩ (.slice a5 nd c5)) (fun b hb _ => other1 (g := w.heap.size + 1) (by have h := hb.2; omega)) (fun b hb _ => hb) RP5.out)
  have RD6 := Lib.hid (rd_move (w' := w5.setCell ⟨w.heap.size + 1, 1, none⟩ (.slice a5 nd c5)) (fun b hb _ => other1 (g := w.heap.size + 1) (by rcases hb with hb | hb; have h := hb.2; omega; omega)) (fun b hb _ => hb) RD5.out)
  clear HX5 HY5 HF5 HW5 B5 RB5 RP5 RD5 O5 q5 B3 HX3 HW3 HY3 HF3 RB3 RP3
  generalize w5.setCell ⟨w.heap.size + 1, 1, none⟩ (.slice a5 nd c5) = W6 at *
  have SZ6 := Lib.hid (show w.heap.size + 4 ≤ W6.heap.size from lt_of_some0 HF6.out)
  go_cut [] from 32 to 39 (fun wx => ∃ (a6 : Option Addr) (n6 c6 : Nat), Hid (wx.heap[w.heap.size + 3]? = some (.cells #[.string sa, .slice ab nb cb, .slice a6 n6 c6] 63 (0, 0))) ∧ Hid (wx.heap[w.heap.size]? = some (.cells #[.int .i64 cap, .int .i64 left, .slice (some ⟨b1, o1, none⟩) n cf] 24 (0, 0))) ∧ Hid (wx.heap[w.heap.size + 2]? = some (.cells #[.int .i64 0, .int .i64 0, .slice none 0 0] 24 (0, 0))) ∧ Hid (Below w.heap.size w wx) ∧ Hid (Rd (fun q => B q ∧ q < w.heap.size) wx (.sl .u8) [.slice ab nb cb] xb) ∧ Hid (Rd (fun q => (B q ∧ q < w.heap.size) ∨ w.heap.size + 4 ≤ q) wx (.sl tyW) [.slice a6 n6 c6] (xp ++ [((off : Int), b, cut)])))
  case first =>
    have S0 : SBx w [(w.heap.size, (.cells #[.int .i64 cap, .int .i64 left, .slice (some ⟨b1, o1, none⟩) n cf] 24 (0, 0))), (w.heap.size + 1, (.cells #[.int .i64 (off : Int), .slice a5 nd c5, .bool cut] 94 (0, 0)))] W6.drew := ⟨B6.out.drew, fun p hp => by
      rcases List.mem_cons.1 hp with rfl | hp
      · exact HX6.out
      · rw [List.mem_singleton.1 hp]; exact HW6.out⟩
    refine wp_onlyN ?_
    refine wp_region_headsS (SBx w [(w.heap.size, (.cells #[.int .i64 cap, .int .i64 left, .slice (some ⟨b1, o1, none⟩) n cf] 24 (0, 0))), (w.heap.size + 1, (.cells #[.int .i64 (off : Int), .slice a5 nd c5, .bool cut] 94 (0, 0)))]) [1, 4] 7 (by kernel_rfl) (fun _ _ _ _ _ h => h.elim) (by kernel_rfl) (by rfl) (by rfl) S0 ?_
    simp only [pickOps, List.filterMap_cons, List.filterMap_nil, List.getElem?_toArray, List.getElem?_cons_zero, List.getElem?_cons_succ]
    refine wpHeads_step (fun K hK => ?_)
    go_simp
    refine ⟨_, fun _ _ => rfl, hK _ ?_⟩
    clear hK K
    refine wpHeads_step (fun K hK => ?_)
    go_simp
    refine ⟨.agg #[.int .i64 (off : Int), .slice a5 nd c5, .bool cut], fun w' hw' => by
      obtain ⟨q0, q1, q2⟩ := box3c (hw'.box _ (List.mem_cons_of_mem _ (List.mem_cons_self ..)))
      simp [q0, q1, q2], hK _ ?_⟩
    clear hK K
    refine wpHeads_nil ?_
    have SD := Lib.hid S0
    have HYD : Hid (W6.drew.heap[w.heap.size + 2]? = some (.cells #[.int .i64 0, .int .i64 0, .slice none 0 0] 24 (0, 0))) := Lib.hid HY6.out
    have HFD : Hid (W6.drew.heap[w.heap.size + 3]? = some (.cells #[.string sa, .slice ab nb cb, .slice ap np cp] 63 (0, 0))) := Lib.hid HF6.out
    have BD := Lib.hid (show Below W6.heap.size W6 W6.drew from (Below.refl _ _).drew)
    have RBD := Lib.hid (rd_below RB6.out BD.out)
    have RPD := Lib.hid (rd_below RP6.out BD.out)
    have RDD := Lib.hid (rd_mono (C := fun q => (B q ∧ q < w.heap.size) ∨ (w.heap.size + 4 ≤ q ∧ q < W6.drew.heap.size)) (rd_below RD6.out BD.out) fun q hq hl => hq.imp id fun h => ⟨h, hl⟩)
    have SZD := Lib.hid (show w.heap.size + 4 ≤ W6.drew.heap.size from by have h1 := SZ6.out; have h2 := BD.out.size; omega)
    generalize W6.drew = WZ at *
    clear S0 B6 HX6 HW6 HF6 HY6 RB6 RP6 RD6 BD SZ6
    obtain ⟨bs, hbs⟩ : ∃ z, z = WZ.heap.size := ⟨_, rfl⟩
    rw [← hbs] at RDD SZD
    have LED := Lib.hid (show bs + 0 ≤ WZ.heap.size by omega)
    clear hbs
    refine held_three10 0 2 5 rfl rfl rfl rfl rfl rfl (by kernel_rfl) (fun K hK => ?_) (fun K hK => ?_) (fun K hK => ?_)
    · go_simp
      have q10 := bel_al0 WZ (.cells #[] 94)
      refine hK _ _ (SD.out.below q10) ?_
      clear hK K
      have S10 := Lib.hid (SD.out.below q10)
      have RB10 := Lib.hid (rd_below RBD.out q10)
      have RD10 := Lib.hid (rd_below RDD.out q10)
      have RP10 := Lib.hid (rd_below RPD.out q10)
      have HY10 := Lib.hid ((q10.block _ (lt_of_some0 HYD.out)).trans HYD.out)
      have HF10 := Lib.hid ((q10.block _ (lt_of_some0 HFD.out)).trans HFD.out)
      have OE10 := Lib.hid (og_empty (T := 94) tyW (fun q => (B q ∧ q < w.heap.size) ∨ w.heap.size + 4 ≤ q) WZ rfl (show bs ≤ WZ.heap.size from by have h2 := LED.out; omega))
      have LE10 := Lib.hid (show bs + 0 ≤ (WZ.alloc (.cells #[] 94)).heap.size from by have h2 := LED.out; have h3 := q10.size; omega)
      have HG0 := Lib.hid (show bs ≤ WZ.heap.size from by have h2 := LED.out; omega)
      have G0L := Lib.hid (show WZ.heap.size < (WZ.alloc (.cells #[] 94)).heap.size from by simp)
      clear q10 SD LED HYD HFD RBD RDD RPD
      generalize WZ.alloc (.cells #[] 94) = w10 at *
      generalize WZ.heap.size = g0 at *
      refine held_two10 2 5 rfl rfl rfl rfl (by kernel_rfl) (fun K hK => ?_) (fun K hK => ?_)
      · obtain ⟨f0, f1, f2⟩ := box3c HF10.out
        go_simp
        refine hK _ _ S10.out ?_
        clear hK K f0 f1 f2
        refine held_two10 3 5 rfl rfl rfl rfl (by kernel_rfl) (fun K hK => ?_) (fun K hK => ?_)
        · refine wp_app_g lsW (v := .slice (some ⟨g0, 0, none⟩) 0 0) (y := .slice ap np cp) rfl rfl OE10.out (rd_mono RP10.out fun q hq _ => ⟨Or.inl hq, fun e => by
            have e' : g0 = q := by simpa [Value.ownBlock] using e
            have h1 := hq.2; have h2 := HG0.out; have h3 := SZD.out; omega⟩) (by have h1 := HPL.out; have h2 := HNP.out; simp only [List.length_nil]; omega) (by have h := LE10.out; omega) ?_
          intro v35 w11 ho11 hg11 hat11
          rw [List.nil_append] at ho11
          have q11 := below_grownG (Below.refl bs w10) hg11 OE10.out (by have h := LE10.out; omega) (Nat.le_refl _)
          have S11 : SBx w [(w.heap.size, (.cells #[.int .i64 cap, .int .i64 left, .slice (some ⟨b1, o1, none⟩) n cf] 24 (0, 0))), (w.heap.size + 1, (.cells #[.int .i64 (off : Int), .slice a5 nd c5, .bool cut] 94 (0, 0)))] w11 := ⟨S10.out.bel.trans (q11.mono (by have h := SZD.out; omega)), fun p hp => (q11.block _ (by
            have h := SZD.out
            rcases List.mem_cons.1 hp with rfl | hp
            · show w.heap.size < bs; omega
            · rw [List.mem_singleton.1 hp]; show w.heap.size + 1 < bs; omega)).trans (S10.out.box p hp)⟩
          refine hK _ _ S11 ?_
          clear hK K
          have S11 := Lib.hid S11
          have O11 := Lib.hid ho11
          have RB11 := Lib.hid (rd_move (w' := w11) (fun q hq _ => q11.block q (by have h := SZD.out; have h2 := hq.2; omega)) (fun q hq _ => hq) RB10.out)
          have RD11 := Lib.hid (rd_move (w' := w11) (fun q hq _ => q11.block q (by have h := SZD.out; rcases hq with hq | hq; (have h2 := hq.2; omega); exact hq.2)) (fun q hq _ => hq) RD10.out)
          have HY11 := Lib.hid ((q11.block _ (show w.heap.size + 2 < bs by have h := SZD.out; omega)).trans HY10.out)
          have HF11 := Lib.hid ((q11.block _ (show w.heap.size + 3 < bs by have h := SZD.out; omega)).trans HF10.out)
          have LE11 := Lib.hid (show bs + 0 ≤ w11.heap.size from by have h := q11.size; have h2 := LE10.out; omega)
          clear ho11 hg11 hat11
          clear q11 S10 LE10 HY10 HF10 RB10 RD10 RP10 OE10
          obtain ⟨a35, c35, rfl, -, -⟩ := og_form O11.out
          rw [← HNP.out] at O11 ⊢
          refine held_one 5 rfl rfl (by kernel_rfl) fun K hK => ?_
          go_simp
          have q12 := bel_al0 w11 (.cells #[.int .i64 (off : Int), .slice a5 nd c5, .bool cut] 94)
          refine hK _ _ (S11.out.below q12) ?_
          clear hK K
          have S12 := Lib.hid (S11.out.below q12)
          have RB12 := Lib.hid (rd_below RB11.out q12)
          have RD12 := Lib.hid (rd_below RD11.out q12)
          have HY12 := Lib.hid ((q12.block _ (lt_of_some0 HY11.out)).trans HY11.out)
          have HF12 := Lib.hid ((q12.block _ (lt_of_some0 HF11.out)).trans HF11.out)
          have O12 := Lib.hid (og_below O11.out q12)
          have SG12 := Lib.hid (rd_single (B := fun q => ((B q ∧ q < w.heap.size) ∨ (w.heap.size + 4 ≤ q ∧ q < bs)) ∨ q = w11.heap.size) (rd_w_mk (c := cut) HOFF.out (rd_mono RD12.out fun q hq _ => Or.inl hq)) (heap_alloc_new w11 (.cells #[.int .i64 (off : Int), .slice a5 nd c5, .bool cut] 94)) (Or.inr rfl))
          have LE12 := Lib.hid (show bs + 0 ≤ (w11.alloc (.cells #[.int .i64 (off : Int), .slice a5 nd c5, .bool cut] 94)).heap.size from by have h2 := LE11.out; have h3 := q12.size; omega)
          have G7L := Lib.hid (show w11.heap.size < (w11.alloc (.cells #[.int .i64 (off : Int), .slice a5 nd c5, .bool cut] 94)).heap.size from by simp)
          have HGB := Lib.hid (show bs ≤ w11.heap.size from by have h2 := LE11.out; omega)
          have NE12 := Lib.hid (show ∀ q, (Value.slice a35 np c35).ownBlock = some q → q ≠ w11.heap.size from fun q e => by have := (og_lt O11.out q e).2; omega)
          clear q12 S11 LE11 HY11 HF11 RB11 RD11 O11
          generalize w11.alloc (.cells #[.int .i64 (off : Int), .slice a5 nd c5, .bool cut] 94) = w12 at *
          generalize w11.heap.size = g7 at *
          refine held_one 6 rfl rfl (by kernel_rfl) fun K hK => ?_
          refine wp_app_g lsW (v := .slice a35 np c35) (y := .slice (some ⟨g7, 0, none⟩) 1 1) rfl rfl O12.out (rd_mono SG12.out fun q hq _ => ⟨by
            have h3 := SZD.out
            have h4 := HGB.out
            rcases hq with (hq | hq) | hq
            · exact Or.inl hq
            · exact Or.inr hq.1
            · exact Or.inr (by omega), fun e => by
            have h1 := (og_lt O12.out _ e).1
            have h3 := SZD.out
            rcases hq with (hq | hq) | hq
            · have := hq.2; omega
            · omega
            · exact NE12.out q e hq⟩) (by have h1 := HPL.out; have h2 := HNP.out; simp only [List.length_cons, List.length_nil]; omega) (by have h := LE12.out; omega) ?_
          intro v38 w13 ho13 hg13 _
          have q13 := below_grownG (Below.refl bs w12) hg13 O12.out (by have h := LE12.out; omega) (Nat.le_refl _)
          have S13 : SBx w [(w.heap.size, (.cells #[.int .i64 cap, .int .i64 left, .slice (some ⟨b1, o1, none⟩) n cf] 24 (0, 0))), (w.heap.size + 1, (.cells #[.int .i64 (off : Int), .slice a5 nd c5, .bool cut] 94 (0, 0)))] w13 := ⟨S12.out.bel.trans (q13.mono (by have h := SZD.out; omega)), fun p hp => (q13.block _ (by
            have h := SZD.out
            rcases List.mem_cons.1 hp with rfl | hp
            · show w.heap.size < bs; omega
            · rw [List.mem_singleton.1 hp]; show w.heap.size + 1 < bs; omega)).trans (S12.out.box p hp)⟩
          refine hK _ _ S13 ?_
          clear hK K
          have S13 := Lib.hid S13
          have O13 := Lib.hid ho13
          have RB13 := Lib.hid (rd_move (w' := w13) (fun q hq _ => q13.block q (by have h := SZD.out; have h2 := hq.2; omega)) (fun q hq _ => hq) RB12.out)
          have HY13 := Lib.hid ((q13.block _ (show w.heap.size + 2 < bs by have h := SZD.out; omega)).trans HY12.out)
          have HF13 := Lib.hid ((q13.block _ (show w.heap.size + 3 < bs by have h := SZD.out; omega)).trans HF12.out)
          have LE13 := Lib.hid (show bs + 0 ≤ w13.heap.size from by have h := q13.size; have h2 := LE12.out; omega)
          clear ho13 hg13 NE12
          clear q13 S12 LE12 HY12 HF12 RB12 RD12 SG12 O12
          obtain ⟨a6, c6, rfl, -, -⟩ := og_form O13.out
          obtain ⟨n6, hn6⟩ : ∃ z, z = (xp ++ [((off : Int), b, cut)]).length := ⟨_, rfl⟩
          rw [← hn6] at O13 ⊢
          clear hn6
          refine held_one 7 rfl rfl (by kernel_rfl) fun K hK => ?_
          go_simp
          refine hK _ _ S13.out ?_
          clear hK K
          refine held_one 8 rfl rfl (by kernel_rfl) fun K hK => ?_
          obtain ⟨f0, f1, f2⟩ := box3c HF13.out
          have z2 := frozen_of_row _ (w.heap.size + 3) 2 _ _ HF13.out
          go_simp
          refine hK _ _ (S13.out.one (by omega) (fun p hp => by
            rcases List.mem_cons.1 hp with rfl | hp
            · show w.heap.size ≠ w.heap.size + 3; omega
            · rw [List.mem_singleton.1 hp]; show w.heap.size + 1 ≠ w.heap.size + 3; omega)) ?_
          clear hK K
          refine wpAnyH_done (by kernel_rfl) ?_ _
          unfold onlyN
          dsimp only
          clear f0 f1 f2 z2
          go_wp2_with fail
          go_meet
          exact ⟨a6, n6, c6, Lib.hid (by simpa using heap_setCell_same w13 (w.heap.size + 3) 2 _ _ (.slice a6 n6 c6) HF13.out), Lib.hid ((other1 (by omega : w.heap.size ≠ w.heap.size + 3)).trans (S13.out.box _ (List.mem_cons_self ..))), Lib.hid ((other1 (by omega : w.heap.size + 2 ≠ w.heap.size + 3)).trans HY13.out), Lib.hid (S13.out.bel.setCell (p := ⟨w.heap.size + 3, 2, none⟩) (show w.heap.size ≤ w.heap.size + 3 by omega) (.slice a6 n6 c6)),
            Lib.hid (rd_move (fun q hq _ => other1 (g := w.heap.size + 3) (by have h := hq.2; omega)) (fun q hq _ => hq) RB13.out),
            Lib.hid (rd_mono (og_rdw (og_move O13.out fun q hq _ => other1 (g := w.heap.size + 3) (by
              rcases hq with (hq | hq) | hq
              · have h := hq.2; omega
              · omega
              · have h := (og_lt O13.out _ hq).1; have h3 := SZD.out; omega))) fun q hq _ => by
              have h3 := SZD.out
              rcases hq with hq | hq
              · exact hq
              · exact Or.inr (by omega))⟩
        · go_simp
          have q11 := bel_al0 w10 (.cells #[.int .i64 (off : Int), .slice a5 nd c5, .bool cut] 94)
          refine hK _ _ (S10.out.below q11) ?_
          clear hK K
          have S11 := Lib.hid (S10.out.below q11)
          have RB11 := Lib.hid (rd_below RB10.out q11)
          have RD11 := Lib.hid (rd_below RD10.out q11)
          have RP11 := Lib.hid (rd_below RP10.out q11)
          have HY11 := Lib.hid ((q11.block _ (lt_of_some0 HY10.out)).trans HY10.out)
          have HF11 := Lib.hid ((q11.block _ (lt_of_some0 HF10.out)).trans HF10.out)
          have OE11 := Lib.hid (og_below OE10.out q11)
          have SG11 := Lib.hid (rd_single (B := fun q => ((B q ∧ q < w.heap.size) ∨ (w.heap.size + 4 ≤ q ∧ q < bs)) ∨ q = w10.heap.size) (rd_w_mk (c := cut) HOFF.out (rd_mono RD11.out fun q hq _ => Or.inl hq)) (heap_alloc_new w10 (.cells #[.int .i64 (off : Int), .slice a5 nd c5, .bool cut] 94)) (Or.inr rfl))
          have LE11 := Lib.hid (show bs + 0 ≤ (w10.alloc (.cells #[.int .i64 (off : Int), .slice a5 nd c5, .bool cut] 94)).heap.size from by have h2 := LE10.out; have h3 := q11.size; omega)
          have G7L := Lib.hid (show w10.heap.size < (w10.alloc (.cells #[.int .i64 (off : Int), .slice a5 nd c5, .bool cut] 94)).heap.size from by simp)
          have HGB := Lib.hid (show bs ≤ w10.heap.size from by have h2 := LE10.out; omega)
          have GNE := Lib.hid (show w10.heap.size ≠ g0 from by have h2 := G0L.out; omega)
          replace G0L := Lib.hid (show g0 < (w10.alloc (.cells #[.int .i64 (off : Int), .slice a5 nd c5, .bool cut] 94)).heap.size from by have h2 := G0L.out; have h3 := q11.size; omega)
          clear q11 S10 LE10 HY10 HF10 RB10 RD10 RP10 OE10
          generalize w10.alloc (.cells #[.int .i64 (off : Int), .slice a5 nd c5, .bool cut] 94) = w11 at *
          generalize w10.heap.size = g7 at *
          refine held_one 3 rfl rfl (by kernel_rfl) fun K hK => ?_
          refine wp_app_g lsW (v := .slice (some ⟨g0, 0, none⟩) 0 0) (y := .slice ap np cp) rfl rfl OE11.out (rd_mono RP11.out fun q hq _ => ⟨Or.inl hq, fun e => by
            have e' : g0 = q := by simpa [Value.ownBlock] using e
            have h1 := hq.2; have h2 := HG0.out; have h3 := SZD.out; omega⟩) (by have h1 := HPL.out; have h2 := HNP.out; simp only [List.length_nil]; omega) (by have h := LE11.out; omega) ?_
          intro v35 w12 ho12 hg12 hat12
          rw [List.nil_append] at ho12
          have q12 := below_grownG (Below.refl bs w11) hg12 OE11.out (by have h := LE11.out; omega) (Nat.le_refl _)
          have S12 : SBx w [(w.heap.size, (.cells #[.int .i64 cap, .int .i64 left, .slice (some ⟨b1, o1, none⟩) n cf] 24 (0, 0))), (w.heap.size + 1, (.cells #[.int .i64 (off : Int), .slice a5 nd c5, .bool cut] 94 (0, 0)))] w12 := ⟨S11.out.bel.trans (q12.mono (by have h := SZD.out; omega)), fun p hp => (q12.block _ (by
            have h := SZD.out
            rcases List.mem_cons.1 hp with rfl | hp
            · show w.heap.size < bs; omega
            · rw [List.mem_singleton.1 hp]; show w.heap.size + 1 < bs; omega)).trans (S11.out.box p hp)⟩
          refine hK _ _ S12 ?_
          clear hK K
          have S12 := Lib.hid S12
          have O12 := Lib.hid ho12
          have RB12 := Lib.hid (rd_move (w' := w12) (fun q hq _ => q12.block q (by have h := SZD.out; have h2 := hq.2; omega)) (fun q hq _ => hq) RB11.out)
          have RD12 := Lib.hid (rd_move (w' := w12) (fun q hq _ => q12.block q (by have h := SZD.out; rcases hq with hq | hq; (have h2 := hq.2; omega); exact hq.2)) (fun q hq _ => hq) RD11.out)
          have HY12 := Lib.hid ((q12.block _ (show w.heap.size + 2 < bs by have h := SZD.out; omega)).trans HY11.out)
          have HF12 := Lib.hid ((q12.block _ (show w.heap.size + 3 < bs by have h := SZD.out; omega)).trans HF11.out)
          have LE12 := Lib.hid (show bs + 0 ≤ w12.heap.size from by have h := q12.size; have h2 := LE11.out; omega)
          have SG12 := Lib.hid (rd_grown (r := (Value.slice (some ⟨g0, 0, none⟩) 0 0).ownBlock) SG11.out hg12 fun q hq e => by
            have e' : g0 = q := by simpa [Value.ownBlock] using e
            have h2 := HG0.out
            have h3 := SZD.out
            have h4 := GNE.out
            rcases hq with (hq | hq) | hq
            · have := hq.2; omega
            · omega
            · omega)
          have NE12 := Lib.hid (show ∀ q, v35.ownBlock = some q → q ≠ g7 from fun q e => by
            have h4 := GNE.out
            have h5 : g7 < w11.heap.size := G7L.out
            rcases hat12 with h | h
            · rw [h] at e
              have e' : g0 = q := by simpa [Value.ownBlock] using e
              omega
            · rw [h] at e
              have e' : w11.heap.size = q := by simpa using e
              omega)
          clear ho12 hg12 hat12
          clear q12 S11 LE11 HY11 HF11 RB11 RD11 RP11 SG11 OE11
          obtain ⟨a35, c35, rfl, -, -⟩ := og_form O12.out
          rw [← HNP.out] at O12 NE12 ⊢
          refine held_one 6 rfl rfl (by kernel_rfl) fun K hK => ?_
          refine wp_app_g lsW (v := .slice a35 np c35) (y := .slice (some ⟨g7, 0, none⟩) 1 1) rfl rfl O12.out (rd_mono SG12.out fun q hq _ => ⟨by
            have h3 := SZD.out
            have h4 := HGB.out
            rcases hq with (hq | hq) | hq
            · exact Or.inl hq
            · exact Or.inr hq.1
            · exact Or.inr (by omega), fun e => by
            have h1 := (og_lt O12.out _ e).1
            have h3 := SZD.out
            rcases hq with (hq | hq) | hq
            · have := hq.2; omega
            · omega
            · exact NE12.out q e hq⟩) (by have h1 := HPL.out; have h2 := HNP.out; simp only [List.length_cons, List.length_nil]; omega) (by have h := LE12.out; omega) ?_
          intro v38 w13 ho13 hg13 _
          have q13 := below_grownG (Below.refl bs w12) hg13 O12.out (by have h := LE12.out; omega) (Nat.le_refl _)
          have S13 : SBx w [(w.heap.size, (.cells #[.int .i64 cap, .int .i64 left, .slice (some ⟨b1, o1, none⟩) n cf] 24 (0, 0))), (w.heap.size + 1, (.cells #[.int .i64 (off : Int), .slice a5 nd c5, .bool cut] 94 (0, 0)))] w13 := ⟨S12.out.bel.trans (q13.mono (by have h := SZD.out; omega)), fun p hp => (q13.block _ (by
            have h := SZD.out
            rcases List.mem_cons.1 hp with rfl | hp
            · show w.heap.size < bs; omega
            · rw [List.mem_singleton.1 hp]; show w.heap.size + 1 < bs; omega)).trans (S12.out.box p hp)⟩
          refine hK _ _ S13 ?_
          clear hK K
          have S13 := Lib.hid S13
          have O13 := Lib.hid ho13
          have RB13 := Lib.hid (rd_move (w' := w13) (fun q hq _ => q13.block q (by have h := SZD.out; have h2 := hq.2; omega)) (fun q hq _ => hq) RB12.out)
          have HY13 := Lib.hid ((q13.block _ (show w.heap.size + 2 < bs by have h := SZD.out; omega)).trans HY12.out)
          have HF13 := Lib.hid ((q13.block _ (show w.heap.size + 3 < bs by have h := SZD.out; omega)).trans HF12.out)
          have LE13 := Lib.hid (show bs + 0 ≤ w13.heap.size from by have h := q13.size; have h2 := LE12.out; omega)
          clear ho13 hg13 NE12
          clear q13 S12 LE12 HY12 HF12 RB12 RD12 SG12 O12
          obtain ⟨a6, c6, rfl, -, -⟩ := og_form O13.out
          obtain ⟨n6, hn6⟩ : ∃ z, z = (xp ++ [((off : Int), b, cut)]).length := ⟨_, rfl⟩
          rw [← hn6] at O13 ⊢
          clear hn6
          refine held_one 7 rfl rfl (by kernel_rfl) fun K hK => ?_
          go_simp
          refine hK _ _ S13.out ?_
          clear hK K
          refine held_one 8 rfl rfl (by kernel_rfl) fun K hK => ?_
          obtain ⟨f0, f1, f2⟩ := box3c HF13.out
          have z2 := frozen_of_row _ (w.heap.size + 3) 2 _ _ HF13.out
          go_simp
          refine hK _ _ (S13.out.one (by omega) (fun p hp => by
            rcases List.mem_cons.1 hp with rfl | hp
            · show w.heap.size ≠ w.heap.size + 3; omega
            · rw [List.mem_singleton.1 hp]; show w.heap.size + 1 ≠ w.heap.size + 3; omega)) ?_
          clear hK K
          refine wpAnyH_done (by kernel_rfl) ?_ _
          unfold onlyN
          dsimp only
          clear f0 f1 f2 z2
          go_wp2_with fail
          go_meet
          exact ⟨a6, n6, c6, Lib.hid (by simpa using heap_setCell_same w13 (w.heap.size + 3) 2 _ _ (.slice a6 n6 c6) HF13.out), Lib.hid ((other1 (by omega : w.heap.size ≠ w.heap.size + 3)).trans (S13.out.box _ (List.mem_cons_self ..))), Lib.hid ((other1 (by omega : w.heap.size + 2 ≠ w.heap.size + 3)).trans HY13.out), Lib.hid (S13.out.bel.setCell (p := ⟨w.heap.size + 3, 2, none⟩) (show w.heap.size ≤ w.heap.size + 3 by omega) (.slice a6 n6 c6)),
            Lib.hid (rd_move (fun q hq _ => other1 (g := w.heap.size + 3) (by have h := hq.2; omega)) (fun q hq _ => hq) RB13.out),
            Lib.hid (rd_mono (og_rdw (og_move O13.out fun q hq _ => other1 (g := w.heap.size + 3) (by
              rcases hq with (hq | hq) | hq
              · have h := hq.2; omega
              · omega
              · have h := (og_lt O13.out _ hq).1; have h3 := SZD.out; omega))) fun q hq _ => by
              have h3 := SZD.out
              rcases hq with hq | hq
              · exact hq
              · exact Or.inr (by omega))⟩
      · go_simp
        have q11 := bel_al0 w10 (.cells #[.int .i64 (off : Int), .slice a5 nd c5, .bool cut] 94)
        refine hK _ _ (S10.out.below q11) ?_
        clear hK K
        have S11 := Lib.hid (S10.out.below q11)
        have RB11 := Lib.hid (rd_below RB10.out q11)
        have RD11 := Lib.hid (rd_below RD10.out q11)
        have RP11 := Lib.hid (rd_below RP10.out q11)
        have HY11 := Lib.hid ((q11.block _ (lt_of_some0 HY10.out)).trans HY10.out)
        have HF11 := Lib.hid ((q11.block _ (lt_of_some0 HF10.out)).trans HF10.out)
        have OE11 := Lib.hid (og_below OE10.out q11)
        have SG11 := Lib.hid (rd_single (B := fun q => ((B q ∧ q < w.heap.size) ∨ (w.heap.size + 4 ≤ q ∧ q < bs)) ∨ q = w10.heap.size) (rd_w_mk (c := cut) HOFF.out (rd_mono RD11.out fun q hq _ => Or.inl hq)) (heap_alloc_new w10 (.cells #[.int .i64 (off : Int), .slice a5 nd c5, .bool cut] 94)) (Or.inr rfl))
        have LE11 := Lib.hid (show bs + 0 ≤ (w10.alloc (.cells #[.int .i64 (off : Int), .slice a5 nd c5, .bool cut] 94)).heap.size from by have h2 := LE10.out; have h3 := q11.size; omega)
        have G7L := Lib.hid (show w10.heap.size < (w10.alloc (.cells #[.int .i64 (off : Int), .slice a5 nd c5, .bool cut] 94)).heap.size from by simp)
        have HGB := Lib.hid (show bs ≤ w10.heap.size from by have h2 := LE10.out; omega)
        have GNE := Lib.hid (show w10.heap.size ≠ g0 from by have h2 := G0L.out; omega)
        replace G0L := Lib.hid (show g0 < (w10.alloc (.cells #[.int .i64 (off : Int), .slice a5 nd c5, .bool cut] 94)).heap.size from by have h2 := G0L.out; have h3 := q11.size; omega)
        clear q11 S10 LE10 HY10 HF10 RB10 RD10 RP10 OE10
        generalize w10.alloc (.cells #[.int .i64 (off : Int), .slice a5 nd c5, .bool cut] 94) = w11 at *
        generalize w10.heap.size = g7 at *
        refine held_one 2 rfl rfl (by kernel_rfl) fun K hK => ?_
        obtain ⟨f0, f1, f2⟩ := box3c HF11.out
        go_simp
        refine hK _ _ S11.out ?_
        clear hK K f0 f1 f2
        refine held_one 3 rfl rfl (by kernel_rfl) fun K hK => ?_
        refine wp_app_g lsW (v := .slice (some ⟨g0, 0, none⟩) 0 0) (y := .slice ap np cp) rfl rfl OE11.out (rd_mono RP11.out fun q hq _ => ⟨Or.inl hq, fun e => by
          have e' : g0 = q := by simpa [Value.ownBlock] using e
          have h1 := hq.2; have h2 := HG0.out; have h3 := SZD.out; omega⟩) (by have h1 := HPL.out; have h2 := HNP.out; simp only [List.length_nil]; omega) (by have h := LE11.out; omega) ?_
        intro v35 w12 ho12 hg12 hat12
        rw [List.nil_append] at ho12
        have q12 := below_grownG (Below.refl bs w11) hg12 OE11.out (by have h := LE11.out; omega) (Nat.le_refl _)
        have S12 : SBx w [(w.heap.size, (.cells #[.int .i64 cap, .int .i64 left, .slice (some ⟨b1, o1, none⟩) n cf] 24 (0, 0))), (w.heap.size + 1, (.cells #[.int .i64 (off : Int), .slice a5 nd c5, .bool cut] 94 (0, 0)))] w12 := ⟨S11.out.bel.trans (q12.mono (by have h := SZD.out; omega)), fun p hp => (q12.block _ (by
          have h := SZD.out
          rcases List.mem_cons.1 hp with rfl | hp
          · show w.heap.size < bs; omega
          · rw [List.mem_singleton.1 hp]; show w.heap.size + 1 < bs; omega)).trans (S11.out.box p hp)⟩
        refine hK _ _ S12 ?_
        clear hK K
        have S12 := Lib.hid S12
        have O12 := Lib.hid ho12
        have RB12 := Lib.hid (rd_move (w' := w12) (fun q hq _ => q12.block q (by have h := SZD.out; have h2 := hq.2; omega)) (fun q hq _ => hq) RB11.out)
        have RD12 := Lib.hid (rd_move (w' := w12) (fun q hq _ => q12.block q (by have h := SZD.out; rcases hq with hq | hq; (have h2 := hq.2; omega); exact hq.2)) (fun q hq _ => hq) RD11.out)
        have HY12 := Lib.hid ((q12.block _ (show w.heap.size + 2 < bs by have h := SZD.out; omega)).trans HY11.out)
        have HF12 := Lib.hid ((q12.block _ (show w.heap.size + 3 < bs by have h := SZD.out; omega)).trans HF11.out)
        have LE12 := Lib.hid (show bs + 0 ≤ w12.heap.size from by have h := q12.size; have h2 := LE11.out; omega)
        have SG12 := Lib.hid (rd_grown (r := (Value.slice (some ⟨g0, 0, none⟩) 0 0).ownBlock) SG11.out hg12 fun q hq e => by
          have e' : g0 = q := by simpa [Value.ownBlock] using e
          have h2 := HG0.out
          have h3 := SZD.out
          have h4 := GNE.out
          rcases hq with (hq | hq) | hq
          · have := hq.2; omega
          · omega
          · omega)
        have NE12 := Lib.hid (show ∀ q, v35.ownBlock = some q → q ≠ g7 from fun q e => by
          have h4 := GNE.out
          have h5 : g7 < w11.heap.size := G7L.out
          rcases hat12 with h | h
          · rw [h] at e
            have e' : g0 = q := by simpa [Value.ownBlock] using e
            omega
          · rw [h] at e
            have e' : w11.heap.size = q := by simpa using e
            omega)
        clear ho12 hg12 hat12
        clear q12 S11 LE11 HY11 HF11 RB11 RD11 RP11 SG11 OE11
        obtain ⟨a35, c35, rfl, -, -⟩ := og_form O12.out
        rw [← HNP.out] at O12 NE12 ⊢
        refine held_one 6 rfl rfl (by kernel_rfl) fun K hK => ?_
        refine wp_app_g lsW (v := .slice a35 np c35) (y := .slice (some ⟨g7, 0, none⟩) 1 1) rfl rfl O12.out (rd_mono SG12.out fun q hq _ => ⟨by
          have h3 := SZD.out
          have h4 := HGB.out
          rcases hq with (hq | hq) | hq
          · exact Or.inl hq
          · exact Or.inr hq.1
          · exact Or.inr (by omega), fun e => by
          have h1 := (og_lt O12.out _ e).1
          have h3 := SZD.out
          rcases hq with (hq | hq) | hq
          · have := hq.2; omega
          · omega
          · exact NE12.out q e hq⟩) (by have h1 := HPL.out; have h2 := HNP.out; simp only [List.length_cons, List.length_nil]; omega) (by have h := LE12.out; omega) ?_
        intro v38 w13 ho13 hg13 _
        have q13 := below_grownG (Below.refl bs w12) hg13 O12.out (by have h := LE12.out; omega) (Nat.le_refl _)
        have S13 : SBx w [(w.heap.size, (.cells #[.int .i64 cap, .int .i64 left, .slice (some ⟨b1, o1, none⟩) n cf] 24 (0, 0))), (w.heap.size + 1, (.cells #[.int .i64 (off : Int), .slice a5 nd c5, .bool cut] 94 (0, 0)))] w13 := ⟨S12.out.bel.trans (q13.mono (by have h := SZD.out; omega)), fun p hp => (q13.block _ (by
          have h := SZD.out
          rcases List.mem_cons.1 hp with rfl | hp
          · show w.heap.size < bs; omega
          · rw [List.mem_singleton.1 hp]; show w.heap.size + 1 < bs; omega)).trans (S12.out.box p hp)⟩
        refine hK _ _ S13 ?_
        clear hK K
        have S13 := Lib.hid S13
        have O13 := Lib.hid ho13
        have RB13 := Lib.hid (rd_move (w' := w13) (fun q hq _ => q13.block q (by have h := SZD.out; have h2 := hq.2; omega)) (fun q hq _ => hq) RB12.out)
        have HY13 := Lib.hid ((q13.block _ (show w.heap.size + 2 < bs by have h := SZD.out; omega)).trans HY12.out)
        have HF13 := Lib.hid ((q13.block _ (show w.heap.size + 3 < bs by have h := SZD.out; omega)).trans HF12.out)
        have LE13 := Lib.hid (show bs + 0 ≤ w13.heap.size from by have h := q13.size; have h2 := LE12.out; omega)
        clear ho13 hg13 NE12
        clear q13 S12 LE12 HY12 HF12 RB12 RD12 SG12 O12
        obtain ⟨a6, c6, rfl, -, -⟩ := og_form O13.out
        obtain ⟨n6, hn6⟩ : ∃ z, z = (xp ++ [((off : Int), b, cut)]).length := ⟨_, rfl⟩
        rw [← hn6] at O13 ⊢
        clear hn6
        refine held_one 7 rfl rfl (by kernel_rfl) fun K hK => ?_
        go_simp
        refine hK _ _ S13.out ?_
        clear hK K
        refine held_one 8 rfl rfl (by kernel_rfl) fun K hK => ?_
        obtain ⟨f0, f1, f2⟩ := box3c HF13.out
        have z2 := frozen_of_row _ (w.heap.size + 3) 2 _ _ HF13.out
        go_simp
        refine hK _ _ (S13.out.one (by omega) (fun p hp => by
          rcases List.mem_cons.1 hp with rfl | hp
          · show w.heap.size ≠ w.heap.size + 3; omega
          · rw [List.mem_singleton.1 hp]; show w.heap.size + 1 ≠ w.heap.size + 3; omega)) ?_
        clear hK K
        refine wpAnyH_done (by kernel_rfl) ?_ _
        unfold onlyN
        dsimp only
        clear f0 f1 f2 z2
        go_wp2_with fail
        go_meet
        exact ⟨a6, n6, c6, Lib.hid (by simpa using heap_setCell_same w13 (w.heap.size + 3) 2 _ _ (.slice a6 n6 c6) HF13.out), Lib.hid ((other1 (by omega : w.heap.size ≠ w.heap.size + 3)).trans (S13.out.box _ (List.mem_cons_self ..))), Lib.hid ((other1 (by omega : w.heap.size + 2 ≠ w.heap.size + 3)).trans HY13.out), Lib.hid (S13.out.bel.setCell (p := ⟨w.heap.size + 3, 2, none⟩) (show w.heap.size ≤ w.heap.size + 3 by omega) (.slice a6 n6 c6)),
          Lib.hid (rd_move (fun q hq _ => other1 (g := w.heap.size + 3) (by have h := hq.2; omega)) (fun q hq _ => hq) RB13.out),
          Lib.hid (rd_mono (og_rdw (og_move O13.out fun q hq _ => other1 (g := w.heap.size + 3) (by
            rcases hq with (hq | hq) | hq
            · have h := hq.2; omega
            · omega
            · have h := (og_lt O13.out _ hq).1; have h3 := SZD.out; omega))) fun q hq _ => by
            have h3 := SZD.out
            rcases hq with hq | hq
            · exact hq
            · exact Or.inr (by omega))⟩
    · obtain ⟨f0, f1, f2⟩ := box3c HFD.out
      go_simp
      refine hK _ _ SD.out ?_
      clear hK K f0 f1 f2
      refine held_two10 0 5 rfl rfl rfl rfl (by kernel_rfl) (fun K hK => ?_) (fun K hK => ?_)
      · go_simp
        have q10 := bel_al0 WZ (.cells #[] 94)
        refine hK _ _ (SD.out.below q10) ?_
        clear hK K
        have S10 := Lib.hid (SD.out.below q10)
        have RB10 := Lib.hid (rd_below RBD.out q10)
        have RD10 := Lib.hid (rd_below RDD.out q10)
        have RP10 := Lib.hid (rd_below RPD.out q10)
        have HY10 := Lib.hid ((q10.block _ (lt_of_some0 HYD.out)).trans HYD.out)
        have HF10 := Lib.hid ((q10.block _ (lt_of_some0 HFD.out)).trans HFD.out)
        have OE10 := Lib.hid (og_empty (T := 94) tyW (fun q => (B q ∧ q < w.heap.size) ∨ w.heap.size + 4 ≤ q) WZ rfl (show bs ≤ WZ.heap.size from by have h2 := LED.out; omega))
        have LE10 := Lib.hid (show bs + 0 ≤ (WZ.alloc (.cells #[] 94)).heap.size from by have h2 := LED.out; have h3 := q10.size; omega)
        have HG0 := Lib.hid (show bs ≤ WZ.heap.size from by have h2 := LED.out; omega)
        have G0L := Lib.hid (show WZ.heap.size < (WZ.alloc (.cells #[] 94)).heap.size from by simp)
        clear q10 SD LED HYD HFD RBD RDD RPD
        generalize WZ.alloc (.cells #[] 94) = w10 at *
        generalize WZ.heap.size = g0 at *
        refine held_two10 3 5 rfl rfl rfl rfl (by kernel_rfl) (fun K hK => ?_) (fun K hK => ?_)
        · refine wp_app_g lsW (v := .slice (some ⟨g0, 0, none⟩) 0 0) (y := .slice ap np cp) rfl rfl OE10.out (rd_mono RP10.out fun q hq _ => ⟨Or.inl hq, fun e => by
            have e' : g0 = q := by simpa [Value.ownBlock] using e
            have h1 := hq.2; have h2 := HG0.out; have h3 := SZD.out; omega⟩) (by have h1 := HPL.out; have h2 := HNP.out; simp only [List.length_nil]; omega) (by have h := LE10.out; omega) ?_
          intro v35 w11 ho11 hg11 hat11
          rw [List.nil_append] at ho11
          have q11 := below_grownG (Below.refl bs w10) hg11 OE10.out (by have h := LE10.out; omega) (Nat.le_refl _)
          have S11 : SBx w [(w.heap.size, (.cells #[.int .i64 cap, .int .i64 left, .slice (some ⟨b1, o1, none⟩) n cf] 24 (0, 0))), (w.heap.size + 1, (.cells #[.int .i64 (off : Int), .slice a5 nd c5, .bool cut] 94 (0, 0)))] w11 := ⟨S10.out.bel.trans (q11.mono (by have h := SZD.out; omega)), fun p hp => (q11.block _ (by
            have h := SZD.out
            rcases List.mem_cons.1 hp with rfl | hp
            · show w.heap.size < bs; omega
            · rw [List.mem_singleton.1 hp]; show w.heap.size + 1 < bs; omega)).trans (S10.out.box p hp)⟩
          refine hK _ _ S11 ?_
          clear hK K
          have S11 := Lib.hid S11
          have O11 := Lib.hid ho11
          have RB11 := Lib.hid (rd_move (w' := w11) (fun q hq _ => q11.block q (by have h := SZD.out; have h2 := hq.2; omega)) (fun q hq _ => hq) RB10.out)
          have RD11 := Lib.hid (rd_move (w' := w11) (fun q hq _ => q11.block q (by have h := SZD.out; rcases hq with hq | hq; (have h2 := hq.2; omega); exact hq.2)) (fun q hq _ => hq) RD10.out)
          have HY11 := Lib.hid ((q11.block _ (show w.heap.size + 2 < bs by have h := SZD.out; omega)).trans HY10.out)
          have HF11 := Lib.hid ((q11.block _ (show w.heap.size + 3 < bs by have h := SZD.out; omega)).trans HF10.out)
          have LE11 := Lib.hid (show bs + 0 ≤ w11.heap.size from by have h := q11.size; have h2 := LE10.out; omega)
          clear ho11 hg11 hat11
          clear q11 S10 LE10 HY10 HF10 RB10 RD10 RP10 OE10
          obtain ⟨a35, c35, rfl, -, -⟩ := og_form O11.out
          rw [← HNP.out] at O11 ⊢
          refine held_one 5 rfl rfl (by kernel_rfl) fun K hK => ?_
          go_simp
          have q12 := bel_al0 w11 (.cells #[.int .i64 (off : Int), .slice a5 nd c5, .bool cut] 94)
          refine hK _ _ (S11.out.below q12) ?_
          clear hK K
          have S12 := Lib.hid (S11.out.below q12)
          have RB12 := Lib.hid (rd_below RB11.out q12)
          have RD12 := Lib.hid (rd_below RD11.out q12)
          have HY12 := Lib.hid ((q12.block _ (lt_of_some0 HY11.out)).trans HY11.out)
          have HF12 := Lib.hid ((q12.block _ (lt_of_some0 HF11.out)).trans HF11.out)
          have O12 := Lib.hid (og_below O11.out q12)
          have SG12 := Lib.hid (rd_single (B := fun q => ((B q ∧ q < w.heap.size) ∨ (w.heap.size + 4 ≤ q ∧ q < bs)) ∨ q = w11.heap.size) (rd_w_mk (c := cut) HOFF.out (rd_mono RD12.out fun q hq _ => Or.inl hq)) (heap_alloc_new w11 (.cells #[.int .i64 (off : Int), .slice a5 nd c5, .bool cut] 94)) (Or.inr rfl))
          have LE12 := Lib.hid (show bs + 0 ≤ (w11.alloc (.cells #[.int .i64 (off : Int), .slice a5 nd c5, .bool cut] 94)).heap.size from by have h2 := LE11.out; have h3 := q12.size; omega)
          have G7L := Lib.hid (show w11.heap.size < (w11.alloc (.cells #[.int .i64 (off : Int), .slice a5 nd c5, .bool cut] 94)).heap.size from by simp)
          have HGB := Lib.hid (show bs ≤ w11.heap.size from by have h2 := LE11.out; omega)
          have NE12 := Lib.hid (show ∀ q, (Value.slice a35 np c35).ownBlock = some q → q ≠ w11.heap.size from fun q e => by have := (og_lt O11.out q e).2; omega)
          clear q12 S11 LE11 HY11 HF11 RB11 RD11 O11
          generalize w11.alloc (.cells #[.int .i64 (off : Int), .slice a5 nd c5, .bool cut] 94) = w12 at *
          generalize w11.heap.size = g7 at *
          refine held_one 6 rfl rfl (by kernel_rfl) fun K hK => ?_
          refine wp_app_g lsW (v := .slice a35 np c35) (y := .slice (some ⟨g7, 0, none⟩) 1 1) rfl rfl O12.out (rd_mono SG12.out fun q hq _ => ⟨by
            have h3 := SZD.out
            have h4 := HGB.out
            rcases hq with (hq | hq) | hq
            · exact Or.inl hq
            · exact Or.inr hq.1
            · exact Or.inr (by omega), fun e => by
            have h1 := (og_lt O12.out _ e).1
            have h3 := SZD.out
            rcases hq with (hq | hq) | hq
            · have := hq.2; omega
            · omega
            · exact NE12.out q e hq⟩) (by have h1 := HPL.out; have h2 := HNP.out; simp only [List.length_cons, List.length_nil]; omega) (by have h := LE12.out; omega) ?_
          intro v38 w13 ho13 hg13 _
          have q13 := below_grownG (Below.refl bs w12) hg13 O12.out (by have h := LE12.out; omega) (Nat.le_refl _)
          have S13 : SBx w [(w.heap.size, (.cells #[.int .i64 cap, .int .i64 left, .slice (some ⟨b1, o1, none⟩) n cf] 24 (0, 0))), (w.heap.size + 1, (.cells #[.int .i64 (off : Int), .slice a5 nd c5, .bool cut] 94 (0, 0)))] w13 := ⟨S12.out.bel.trans (q13.mono (by have h := SZD.out; omega)), fun p hp => (q13.block _ (by
            have h := SZD.out
            rcases List.mem_cons.1 hp with rfl | hp
            · show w.heap.size < bs; omega
            · rw [List.mem_singleton.1 hp]; show w.heap.size + 1 < bs; omega)).trans (S12.out.box p hp)⟩
          refine hK _ _ S13 ?_
          clear hK K
          have S13 := Lib.hid S13
          have O13 := Lib.hid ho13
          have RB13 := Lib.hid (rd_move (w' := w13) (fun q hq _ => q13.block q (by have h := SZD.out; have h2 := hq.2; omega)) (fun q hq _ => hq) RB12.out)
          have HY13 := Lib.hid ((q13.block _ (show w.heap.size + 2 < bs by have h := SZD.out; omega)).trans HY12.out)
          have HF13 := Lib.hid ((q13.block _ (show w.heap.size + 3 < bs by have h := SZD.out; omega)).trans HF12.out)
          have LE13 := Lib.hid (show bs + 0 ≤ w13.heap.size from by have h := q13.size; have h2 := LE12.out; omega)
          clear ho13 hg13 NE12
          clear q13 S12 LE12 HY12 HF12 RB12 RD12 SG12 O12
          obtain ⟨a6, c6, rfl, -, -⟩ := og_form O13.out
          obtain ⟨n6, hn6⟩ : ∃ z, z = (xp ++ [((off : Int), b, cut)]).length := ⟨_, rfl⟩
          rw [← hn6] at O13 ⊢
          clear hn6
          refine held_one 7 rfl rfl (by kernel_rfl) fun K hK => ?_
          go_simp
          refine hK _ _ S13.out ?_
          clear hK K
          refine held_one 8 rfl rfl (by kernel_rfl) fun K hK => ?_
          obtain ⟨f0, f1, f2⟩ := box3c HF13.out
          have z2 := frozen_of_row _ (w.heap.size + 3) 2 _ _ HF13.out
          go_simp
          refine hK _ _ (S13.out.one (by omega) (fun p hp => by
            rcases List.mem_cons.1 hp with rfl | hp
            · show w.heap.size ≠ w.heap.size + 3; omega
            · rw [List.mem_singleton.1 hp]; show w.heap.size + 1 ≠ w.heap.size + 3; omega)) ?_
          clear hK K
          refine wpAnyH_done (by kernel_rfl) ?_ _
          unfold onlyN
          dsimp only
          clear f0 f1 f2 z2
          go_wp2_with fail
          go_meet
          exact ⟨a6, n6, c6, Lib.hid (by simpa using heap_setCell_same w13 (w.heap.size + 3) 2 _ _ (.slice a6 n6 c6) HF13.out), Lib.hid ((other1 (by omega : w.heap.size ≠ w.heap.size + 3)).trans (S13.out.box _ (List.mem_cons_self ..))), Lib.hid ((other1 (by omega : w.heap.size + 2 ≠ w.heap.size + 3)).trans HY13.out), Lib.hid (S13.out.bel.setCell (p := ⟨w.heap.size + 3, 2, none⟩) (show w.heap.size ≤ w.heap.size + 3 by omega) (.slice a6 n6 c6)),
            Lib.hid (rd_move (fun q hq _ => other1 (g := w.heap.size + 3) (by have h := hq.2; omega)) (fun q hq _ => hq) RB13.out),
            Lib.hid (rd_mono (og_rdw (og_move O13.out fun q hq _ => other1 (g := w.heap.size + 3) (by
              rcases hq with (hq | hq) | hq
              · have h := hq.2; omega
              · omega
              · have h := (og_lt O13.out _ hq).1; have h3 := SZD.out; omega))) fun q hq _ => by
              have h3 := SZD.out
              rcases hq with hq | hq
              · exact hq
              · exact Or.inr (by omega))⟩
        · go_simp
          have q11 := bel_al0 w10 (.cells #[.int .i64 (off : Int), .slice a5 nd c5, .bool cut] 94)
          refine hK _ _ (S10.out.below q11) ?_
          clear hK K
          have S11 := Lib.hid (S10.out.below q11)
          have RB11 := Lib.hid (rd_below RB10.out q11)
          have RD11 := Lib.hid (rd_below RD10.out q11)
          have RP11 := Lib.hid (rd_below RP10.out q11)
          have HY11 := Lib.hid ((q11.block _ (lt_of_some0 HY10.out)).trans HY10.out)
          have HF11 := Lib.hid ((q11.block _ (lt_of_some0 HF10.out)).trans HF10.out)
          have OE11 := Lib.hid (og_below OE10.out q11)
          have SG11 := Lib.hid (rd_single (B := fun q => ((B q ∧ q < w.heap.size) ∨ (w.heap.size + 4 ≤ q ∧ q < bs)) ∨ q = w10.heap.size) (rd_w_mk (c := cut) HOFF.out (rd_mono RD11.out fun q hq _ => Or.inl hq)) (heap_alloc_new w10 (.cells #[.int .i64 (off : Int), .slice a5 nd c5, .bool cut] 94)) (Or.inr rfl))
          have LE11 := Lib.hid (show bs + 0 ≤ (w10.alloc (.cells #[.int .i64 (off : Int), .slice a5 nd c5, .bool cut] 94)).heap.size from by have h2 := LE10.out; have h3 := q11.size; omega)
          have G7L := Lib.hid (show w10.heap.size < (w10.alloc (.cells #[.int .i64 (off : Int), .slice a5 nd c5, .bool cut] 94)).heap.size from by simp)
          have HGB := Lib.hid (show bs ≤ w10.heap.size from by have h2 := LE10.out; omega)
          have GNE := Lib.hid (show w10.heap.size ≠ g0 from by have h2 := G0L.out; omega)
          replace G0L := Lib.hid (show g0 < (w10.alloc (.cells #[.int .i64 (off : Int), .slice a5 nd c5, .bool cut] 94)).heap.size from by have h2 := G0L.out; have h3 := q11.size; omega)
          clear q11 S10 LE10 HY10 HF10 RB10 RD10 RP10 OE10
          generalize w10.alloc (.cells #[.int .i64 (off : Int), .slice a5 nd c5, .bool cut] 94) = w11 at *
          generalize w10.heap.size = g7 at *
          refine held_one 3 rfl rfl (by kernel_rfl) fun K hK => ?_
          refine wp_app_g lsW (v := .slice (some ⟨g0, 0, none⟩) 0 0) (y := .slice ap np cp) rfl rfl OE11.out (rd_mono RP11.out fun q hq _ => ⟨Or.inl hq, fun e => by
            have e' : g0 = q := by simpa [Value.ownBlock] using e
            have h1 := hq.2; have h2 := HG0.out; have h3 := SZD.out; omega⟩) (by have h1 := HPL.out; have h2 := HNP.out; simp only [List.length_nil]; omega) (by have h := LE11.out; omega) ?_
          intro v35 w12 ho12 hg12 hat12
          rw [List.nil_append] at ho12
          have q12 := below_grownG (Below.refl bs w11) hg12 OE11.out (by have h := LE11.out; omega) (Nat.le_refl _)
          have S12 : SBx w [(w.heap.size, (.cells #[.int .i64 cap, .int .i64 left, .slice (some ⟨b1, o1, none⟩) n cf] 24 (0, 0))), (w.heap.size + 1, (.cells #[.int .i64 (off : Int), .slice a5 nd c5, .bool cut] 94 (0, 0)))] w12 := ⟨S11.out.bel.trans (q12.mono (by have h := SZD.out; omega)), fun p hp => (q12.block _ (by
            have h := SZD.out
            rcases List.mem_cons.1 hp with rfl | hp
            · show w.heap.size < bs; omega
            · rw [List.mem_singleton.1 hp]; show w.heap.size + 1 < bs; omega)).trans (S11.out.box p hp)⟩
          refine hK _ _ S12 ?_
          clear hK K
          have S12 := Lib.hid S12
          have O12 := Lib.hid ho12
          have RB12 := Lib.hid (rd_move (w' := w12) (fun q hq _ => q12.block q (by have h := SZD.out; have h2 := hq.2; omega)) (fun q hq _ => hq) RB11.out)
          have RD12 := Lib.hid (rd_move (w' := w12) (fun q hq _ => q12.block q (by have h := SZD.out; rcases hq with hq | hq; (have h2 := hq.2; omega); exact hq.2)) (fun q hq _ => hq) RD11.out)
          have HY12 := Lib.hid ((q12.block _ (show w.heap.size + 2 < bs by have h := SZD.out; omega)).trans HY11.out)
          have HF12 := Lib.hid ((q12.block _ (show w.heap.size + 3 < bs by have h := SZD.out; omega)).trans HF11.out)
          have LE12 := Lib.hid (show bs + 0 ≤ w12.heap.size from by have h := q12.size; have h2 := LE11.out; omega)
          have SG12 := Lib.hid (rd_grown (r := (Value.slice (some ⟨g0, 0, none⟩) 0 0).ownBlock) SG11.out hg12 fun q hq e => by
            have e' : g0 = q := by simpa [Value.ownBlock] using e
            have h2 := HG0.out
            have h3 := SZD.out
            have h4 := GNE.out
            rcases hq with (hq | hq) | hq
            · have := hq.2; omega
            · omega
            · omega)
          have NE12 := Lib.hid (show ∀ q, v35.ownBlock = some q → q ≠ g7 from fun q e => by
            have h4 := GNE.out
            have h5 : g7 < w11.heap.size := G7L.out
            rcases hat12 with h | h
            · rw [h] at e
              have e' : g0 = q := by simpa [Value.ownBlock] using e
              omega
            · rw [h] at e
              have e' : w11.heap.size = q := by simpa using e
              omega)
          clear ho12 hg12 hat12
          clear q12 S11 LE11 HY11 HF11 RB11 RD11 RP11 SG11 OE11
          obtain ⟨a35, c35, rfl, -, -⟩ := og_form O12.out
          rw [← HNP.out] at O12 NE12 ⊢
          refine held_one 6 rfl rfl (by kernel_rfl) fun K hK => ?_
          refine wp_app_g lsW (v := .slice a35 np c35) (y := .slice (some ⟨g7, 0, none⟩) 1 1) rfl rfl O12.out (rd_mono SG12.out fun q hq _ => ⟨by
            have h3 := SZD.out
            have h4 := HGB.out
            rcases hq with (hq | hq) | hq
            · exact Or.inl hq
            · exact Or.inr hq.1
            · exact Or.inr (by omega), fun e => by
            have h1 := (og_lt O12.out _ e).1
            have h3 := SZD.out
            rcases hq with (hq | hq) | hq
            · have := hq.2; omega
            · omega
            · exact NE12.out q e hq⟩) (by have h1 := HPL.out; have h2 := HNP.out; simp only [List.length_cons, List.length_nil]; omega) (by have h := LE12.out; omega) ?_
          intro v38 w13 ho13 hg13 _
          have q13 := below_grownG (Below.refl bs w12) hg13 O12.out (by have h := LE12.out; omega) (Nat.le_refl _)
          have S13 : SBx w [(w.heap.size, (.cells #[.int .i64 cap, .int .i64 left, .slice (some ⟨b1, o1, none⟩) n cf] 24 (0, 0))), (w.heap.size + 1, (.cells #[.int .i64 (off : Int), .slice a5 nd c5, .bool cut] 94 (0, 0)))] w13 := ⟨S12.out.bel.trans (q13.mono (by have h := SZD.out; omega)), fun p hp => (q13.block _ (by
            have h := SZD.out
            rcases List.mem_cons.1 hp with rfl | hp
            · show w.heap.size < bs; omega
            · rw [List.mem_singleton.1 hp]; show w.heap.size + 1 < bs; omega)).trans (S12.out.box p hp)⟩
          refine hK _ _ S13 ?_
          clear hK K
          have S13 := Lib.hid S13
          have O13 := Lib.hid ho13
          have RB13 := Lib.hid (rd_move (w' := w13) (fun q hq _ => q13.block q (by have h := SZD.out; have h2 := hq.2; omega)) (fun q hq _ => hq) RB12.out)
          have HY13 := Lib.hid ((q13.block _ (show w.heap.size + 2 < bs by have h := SZD.out; omega)).trans HY12.out)
          have HF13 := Lib.hid ((q13.block _ (show w.heap.size + 3 < bs by have h := SZD.out; omega)).trans HF12.out)
          have LE13 := Lib.hid (show bs + 0 ≤ w13.heap.size from by have h := q13.size; have h2 := LE12.out; omega)
          clear ho13 hg13 NE12
          clear q13 S12 LE12 HY12 HF12 RB12 RD12 SG12 O12
          obtain ⟨a6, c6, rfl, -, -⟩ := og_form O13.out
          obtain ⟨n6, hn6⟩ : ∃ z, z = (xp ++ [((off : Int), b, cut)]).length := ⟨_, rfl⟩
          rw [← hn6] at O13 ⊢
          clear hn6
          refine held_one 7 rfl rfl (by kernel_rfl) fun K hK => ?_
          go_simp
          refine hK _ _ S13.out ?_
          clear hK K
          refine held_one 8 rfl rfl (by kernel_rfl) fun K hK => ?_
          obtain ⟨f0, f1, f2⟩ := box3c HF13.out
          have z2 := frozen_of_row _ (w.heap.size + 3) 2 _ _ HF13.out
          go_simp
          refine hK _ _ (S13.out.one (by omega) (fun p hp => by
            rcases List.mem_cons.1 hp with rfl | hp
            · show w.heap.size ≠ w.heap.size + 3; omega
            · rw [List.mem_singleton.1 hp]; show w.heap.size + 1 ≠ w.heap.size + 3; omega)) ?_
          clear hK K
          refine wpAnyH_done (by kernel_rfl) ?_ _
          unfold onlyN
          dsimp only
          clear f0 f1 f2 z2
          go_wp2_with fail
          go_meet
          exact ⟨a6, n6, c6, Lib.hid (by simpa using heap_setCell_same w13 (w.heap.size + 3) 2 _ _ (.slice a6 n6 c6) HF13.out), Lib.hid ((other1 (by omega : w.heap.size ≠ w.heap.size + 3)).trans (S13.out.box _ (List.mem_cons_self ..))), Lib.hid ((other1 (by omega : w.heap.size + 2 ≠ w.heap.size + 3)).trans HY13.out), Lib.hid (S13.out.bel.setCell (p := ⟨w.heap.size + 3, 2, none⟩) (show w.heap.size ≤ w.heap.size + 3 by omega) (.slice a6 n6 c6)),
            Lib.hid (rd_move (fun q hq _ => other1 (g := w.heap.size + 3) (by have h := hq.2; omega)) (fun q hq _ => hq) RB13.out),
            Lib.hid (rd_mono (og_rdw (og_move O13.out fun q hq _ => other1 (g := w.heap.size + 3) (by
              rcases hq with (hq | hq) | hq
              · have h := hq.2; omega
              · omega
              · have h := (og_lt O13.out _ hq).1; have h3 := SZD.out; omega))) fun q hq _ => by
              have h3 := SZD.out
              rcases hq with hq | hq
              · exact hq
              · exact Or.inr (by omega))⟩
      · go_simp
        have q10 := bel_al0 WZ (.cells #[.int .i64 (off : Int), .slice a5 nd c5, .bool cut] 94)
        refine hK _ _ (SD.out.below q10) ?_
        clear hK K
        have S10 := Lib.hid (SD.out.below q10)
        have RB10 := Lib.hid (rd_below RBD.out q10)
        have RD10 := Lib.hid (rd_below RDD.out q10)
        have RP10 := Lib.hid (rd_below RPD.out q10)
        have HY10 := Lib.hid ((q10.block _ (lt_of_some0 HYD.out)).trans HYD.out)
        have HF10 := Lib.hid ((q10.block _ (lt_of_some0 HFD.out)).trans HFD.out)
        have SG10 := Lib.hid (rd_single (B := fun q => ((B q ∧ q < w.heap.size) ∨ (w.heap.size + 4 ≤ q ∧ q < bs)) ∨ q = WZ.heap.size) (rd_w_mk (c := cut) HOFF.out (rd_mono RD10.out fun q hq _ => Or.inl hq)) (heap_alloc_new WZ (.cells #[.int .i64 (off : Int), .slice a5 nd c5, .bool cut] 94)) (Or.inr rfl))
        have LE10 := Lib.hid (show bs + 0 ≤ (WZ.alloc (.cells #[.int .i64 (off : Int), .slice a5 nd c5, .bool cut] 94)).heap.size from by have h2 := LED.out; have h3 := q10.size; omega)
        have G7L := Lib.hid (show WZ.heap.size < (WZ.alloc (.cells #[.int .i64 (off : Int), .slice a5 nd c5, .bool cut] 94)).heap.size from by simp)
        have HGB := Lib.hid (show bs ≤ WZ.heap.size from by have h2 := LED.out; omega)
        clear q10 SD LED HYD HFD RBD RDD RPD
        generalize WZ.alloc (.cells #[.int .i64 (off : Int), .slice a5 nd c5, .bool cut] 94) = w10 at *
        generalize WZ.heap.size = g7 at *
        refine held_one 0 rfl rfl (by kernel_rfl) fun K hK => ?_
        go_simp
        have q11 := bel_al0 w10 (.cells #[] 94)
        refine hK _ _ (S10.out.below q11) ?_
        clear hK K
        have S11 := Lib.hid (S10.out.below q11)
        have RB11 := Lib.hid (rd_below RB10.out q11)
        have RD11 := Lib.hid (rd_below RD10.out q11)
        have RP11 := Lib.hid (rd_below RP10.out q11)
        have SG11 := Lib.hid (rd_below SG10.out q11)
        have HY11 := Lib.hid ((q11.block _ (lt_of_some0 HY10.out)).trans HY10.out)
        have HF11 := Lib.hid ((q11.block _ (lt_of_some0 HF10.out)).trans HF10.out)
        have OE11 := Lib.hid (og_empty (T := 94) tyW (fun q => (B q ∧ q < w.heap.size) ∨ w.heap.size + 4 ≤ q) w10 rfl (show bs ≤ w10.heap.size from by have h2 := LE10.out; omega))
        have LE11 := Lib.hid (show bs + 0 ≤ (w10.alloc (.cells #[] 94)).heap.size from by have h2 := LE10.out; have h3 := q11.size; omega)
        have HG0 := Lib.hid (show bs ≤ w10.heap.size from by have h2 := LE10.out; omega)
        have G0L := Lib.hid (show w10.heap.size < (w10.alloc (.cells #[] 94)).heap.size from by simp)
        have GNE := Lib.hid (show g7 ≠ w10.heap.size from by have h2 := G7L.out; omega)
        replace G7L := Lib.hid (show g7 < (w10.alloc (.cells #[] 94)).heap.size from by have h2 := G7L.out; have h3 := q11.size; omega)
        clear q11 S10 LE10 HY10 HF10 RB10 RD10 RP10 SG10
        generalize w10.alloc (.cells #[] 94) = w11 at *
        generalize w10.heap.size = g0 at *
        refine held_one 3 rfl rfl (by kernel_rfl) fun K hK => ?_
        refine wp_app_g lsW (v := .slice (some ⟨g0, 0, none⟩) 0 0) (y := .slice ap np cp) rfl rfl OE11.out (rd_mono RP11.out fun q hq _ => ⟨Or.inl hq, fun e => by
          have e' : g0 = q := by simpa [Value.ownBlock] using e
          have h1 := hq.2; have h2 := HG0.out; have h3 := SZD.out; omega⟩) (by have h1 := HPL.out; have h2 := HNP.out; simp only [List.length_nil]; omega) (by have h := LE11.out; omega) ?_
        intro v35 w12 ho12 hg12 hat12
        rw [List.nil_append] at ho12
        have q12 := below_grownG (Below.refl bs w11) hg12 OE11.out (by have h := LE11.out; omega) (Nat.le_refl _)
        have S12 : SBx w [(w.heap.size, (.cells #[.int .i64 cap, .int .i64 left, .slice (some ⟨b1, o1, none⟩) n cf] 24 (0, 0))), (w.heap.size + 1, (.cells #[.int .i64 (off : Int), .slice a5 nd c5, .bool cut] 94 (0, 0)))] w12 := ⟨S11.out.bel.trans (q12.mono (by have h := SZD.out; omega)), fun p hp => (q12.block _ (by
          have h := SZD.out
          rcases List.mem_cons.1 hp with rfl | hp
          · show w.heap.size < bs; omega
          · rw [List.mem_singleton.1 hp]; show w.heap.size + 1 < bs; omega)).trans (S11.out.box p hp)⟩
        refine hK _ _ S12 ?_
        clear hK K
        have S12 := Lib.hid S12
        have O12 := Lib.hid ho12
        have RB12 := Lib.hid (rd_move (w' := w12) (fun q hq _ => q12.block q (by have h := SZD.out; have h2 := hq.2; omega)) (fun q hq _ => hq) RB11.out)
        have RD12 := Lib.hid (rd_move (w' := w12) (fun q hq _ => q12.block q (by have h := SZD.out; rcases hq with hq | hq; (have h2 := hq.2; omega); exact hq.2)) (fun q hq _ => hq) RD11.out)
        have HY12 := Lib.hid ((q12.block _ (show w.heap.size + 2 < bs by have h := SZD.out; omega)).trans HY11.out)
        have HF12 := Lib.hid ((q12.block _ (show w.heap.size + 3 < bs by have h := SZD.out; omega)).trans HF11.out)
        have LE12 := Lib.hid (show bs + 0 ≤ w12.heap.size from by have h := q12.size; have h2 := LE11.out; omega)
        have SG12 := Lib.hid (rd_grown (r := (Value.slice (some ⟨g0, 0, none⟩) 0 0).ownBlock) SG11.out hg12 fun q hq e => by
          have e' : g0 = q := by simpa [Value.ownBlock] using e
          have h2 := HG0.out
          have h3 := SZD.out
          have h4 := GNE.out
          rcases hq with (hq | hq) | hq
          · have := hq.2; omega
          · omega
          · omega)
        have NE12 := Lib.hid (show ∀ q, v35.ownBlock = some q → q ≠ g7 from fun q e => by
          have h4 := GNE.out
          have h5 : g7 < w11.heap.size := G7L.out
          rcases hat12 with h | h
          · rw [h] at e
            have e' : g0 = q := by simpa [Value.ownBlock] using e
            omega
          · rw [h] at e
            have e' : w11.heap.size = q := by simpa using e
            omega)
        clear ho12 hg12 hat12
        clear q12 S11 LE11 HY11 HF11 RB11 RD11 RP11 SG11 OE11
        obtain ⟨a35, c35, rfl, -, -⟩ := og_form O12.out
        rw [← HNP.out] at O12 NE12 ⊢
        refine held_one 6 rfl rfl (by kernel_rfl) fun K hK => ?_
        refine wp_app_g lsW (v := .slice a35 np c35) (y := .slice (some ⟨g7, 0, none⟩) 1 1) rfl rfl O12.out (rd_mono SG12.out fun q hq _ => ⟨by
          have h3 := SZD.out
          have h4 := HGB.out
          rcases hq with (hq | hq) | hq
          · exact Or.inl hq
          · exact Or.inr hq.1
          · exact Or.inr (by omega), fun e => by
          have h1 := (og_lt O12.out _ e).1
          have h3 := SZD.out
          rcases hq with (hq | hq) | hq
          · have := hq.2; omega
          · omega
          · exact NE12.out q e hq⟩) (by have h1 := HPL.out; have h2 := HNP.out; simp only [List.length_cons, List.length_nil]; omega) (by have h := LE12.out; omega) ?_
        intro v38 w13 ho13 hg13 _
        have q13 := below_grownG (Below.refl bs w12) hg13 O12.out (by have h := LE12.out; omega) (Nat.le_refl _)
        have S13 : SBx w [(w.heap.size, (.cells #[.int .i64 cap, .int .i64 left, .slice (some ⟨b1, o1, none⟩) n cf] 24 (0, 0))), (w.heap.size + 1, (.cells #[.int .i64 (off : Int), .slice a5 nd c5, .bool cut] 94 (0, 0)))] w13 := ⟨S12.out.bel.trans (q13.mono (by have h := SZD.out; omega)), fun p hp => (q13.block _ (by
          have h := SZD.out
          rcases List.mem_cons.1 hp with rfl | hp
          · show w.heap.size < bs; omega
          · rw [List.mem_singleton.1 hp]; show w.heap.size + 1 < bs; omega)).trans (S12.out.box p hp)⟩
        refine hK _ _ S13 ?_
        clear hK K
        have S13 := Lib.hid S13
        have O13 := Lib.hid ho13
        have RB13 := Lib.hid (rd_move (w' := w13) (fun q hq _ => q13.block q (by have h := SZD.out; have h2 := hq.2; omega)) (fun q hq _ => hq) RB12.out)
        have HY13 := Lib.hid ((q13.block _ (show w.heap.size + 2 < bs by have h := SZD.out; omega)).trans HY12.out)
        have HF13 := Lib.hid ((q13.block _ (show w.heap.size + 3 < bs by have h := SZD.out; omega)).trans HF12.out)
        have LE13 := Lib.hid (show bs + 0 ≤ w13.heap.size from by have h := q13.size; have h2 := LE12.out; omega)
        clear ho13 hg13 NE12
        clear q13 S12 LE12 HY12 HF12 RB12 RD12 SG12 O12
        obtain ⟨a6, c6, rfl, -, -⟩ := og_form O13.out
        obtain ⟨n6, hn6⟩ : ∃ z, z = (xp ++ [((off : Int), b, cut)]).length := ⟨_, rfl⟩
        rw [← hn6] at O13 ⊢
        clear hn6
        refine held_one 7 rfl rfl (by kernel_rfl) fun K hK => ?_
        go_simp
        refine hK _ _ S13.out ?_
        clear hK K
        refine held_one 8 rfl rfl (by kernel_rfl) fun K hK => ?_
        obtain ⟨f0, f1, f2⟩ := box3c HF13.out
        have z2 := frozen_of_row _ (w.heap.size + 3) 2 _ _ HF13.out
        go_simp
        refine hK _ _ (S13.out.one (by omega) (fun p hp => by
          rcases List.mem_cons.1 hp with rfl | hp
          · show w.heap.size ≠ w.heap.size + 3; omega
          · rw [List.mem_singleton.1 hp]; show w.heap.size + 1 ≠ w.heap.size + 3; omega)) ?_
        clear hK K
        refine wpAnyH_done (by kernel_rfl) ?_ _
        unfold onlyN
        dsimp only
        clear f0 f1 f2 z2
        go_wp2_with fail
        go_meet
        exact ⟨a6, n6, c6, Lib.hid (by simpa using heap_setCell_same w13 (w.heap.size + 3) 2 _ _ (.slice a6 n6 c6) HF13.out), Lib.hid ((other1 (by omega : w.heap.size ≠ w.heap.size + 3)).trans (S13.out.box _ (List.mem_cons_self ..))), Lib.hid ((other1 (by omega : w.heap.size + 2 ≠ w.heap.size + 3)).trans HY13.out), Lib.hid (S13.out.bel.setCell (p := ⟨w.heap.size + 3, 2, none⟩) (show w.heap.size ≤ w.heap.size + 3 by omega) (.slice a6 n6 c6)),
          Lib.hid (rd_move (fun q hq _ => other1 (g := w.heap.size + 3) (by have h := hq.2; omega)) (fun q hq _ => hq) RB13.out),
          Lib.hid (rd_mono (og_rdw (og_move O13.out fun q hq _ => other1 (g := w.heap.size + 3) (by
            rcases hq with (hq | hq) | hq
            · have h := hq.2; omega
            · omega
            · have h := (og_lt O13.out _ hq).1; have h3 := SZD.out; omega))) fun q hq _ => by
            have h3 := SZD.out
            rcases hq with hq | hq
            · exact hq
            · exact Or.inr (by omega))⟩
    · go_simp
      have q10 := bel_al0 WZ (.cells #[.int .i64 (off : Int), .slice a5 nd c5, .bool cut] 94)
      refine hK _ _ (SD.out.below q10) ?_
      clear hK K
      have S10 := Lib.hid (SD.out.below q10)
      have RB10 := Lib.hid (rd_below RBD.out q10)
      have RD10 := Lib.hid (rd_below RDD.out q10)
      have RP10 := Lib.hid (rd_below RPD.out q10)
      have HY10 := Lib.hid ((q10.block _ (lt_of_some0 HYD.out)).trans HYD.out)
      have HF10 := Lib.hid ((q10.block _ (lt_of_some0 HFD.out)).trans HFD.out)
      have SG10 := Lib.hid (rd_single (B := fun q => ((B q ∧ q < w.heap.size) ∨ (w.heap.size + 4 ≤ q ∧ q < bs)) ∨ q = WZ.heap.size) (rd_w_mk (c := cut) HOFF.out (rd_mono RD10.out fun q hq _ => Or.inl hq)) (heap_alloc_new WZ (.cells #[.int .i64 (off : Int), .slice a5 nd c5, .bool cut] 94)) (Or.inr rfl))
      have LE10 := Lib.hid (show bs + 0 ≤ (WZ.alloc (.cells #[.int .i64 (off : Int), .slice a5 nd c5, .bool cut] 94)).heap.size from by have h2 := LED.out; have h3 := q10.size; omega)
      have G7L := Lib.hid (show WZ.heap.size < (WZ.alloc (.cells #[.int .i64 (off : Int), .slice a5 nd c5, .bool cut] 94)).heap.size from by simp)
      have HGB := Lib.hid (show bs ≤ WZ.heap.size from by have h2 := LED.out; omega)
      clear q10 SD LED HYD HFD RBD RDD RPD
      generalize WZ.alloc (.cells #[.int .i64 (off : Int), .slice a5 nd c5, .bool cut] 94) = w10 at *
      generalize WZ.heap.size = g7 at *
      refine held_two10 0 2 rfl rfl rfl rfl (by kernel_rfl) (fun K hK => ?_) (fun K hK => ?_)
      · go_simp
        have q11 := bel_al0 w10 (.cells #[] 94)
        refine hK _ _ (S10.out.below q11) ?_
        clear hK K
        have S11 := Lib.hid (S10.out.below q11)
        have RB11 := Lib.hid (rd_below RB10.out q11)
        have RD11 := Lib.hid (rd_below RD10.out q11)
        have RP11 := Lib.hid (rd_below RP10.out q11)
        have SG11 := Lib.hid (rd_below SG10.out q11)
        have HY11 := Lib.hid ((q11.block _ (lt_of_some0 HY10.out)).trans HY10.out)
        have HF11 := Lib.hid ((q11.block _ (lt_of_some0 HF10.out)).trans HF10.out)
        have OE11 := Lib.hid (og_empty (T := 94) tyW (fun q => (B q ∧ q < w.heap.size) ∨ w.heap.size + 4 ≤ q) w10 rfl (show bs ≤ w10.heap.size from by have h2 := LE10.out; omega))
        have LE11 := Lib.hid (show bs + 0 ≤ (w10.alloc (.cells #[] 94)).heap.size from by have h2 := LE10.out; have h3 := q11.size; omega)
        have HG0 := Lib.hid (show bs ≤ w10.heap.size from by have h2 := LE10.out; omega)
        have G0L := Lib.hid (show w10.heap.size < (w10.alloc (.cells #[] 94)).heap.size from by simp)
        have GNE := Lib.hid (show g7 ≠ w10.heap.size from by have h2 := G7L.out; omega)
        replace G7L := Lib.hid (show g7 < (w10.alloc (.cells #[] 94)).heap.size from by have h2 := G7L.out; have h3 := q11.size; omega)
        clear q11 S10 LE10 HY10 HF10 RB10 RD10 RP10 SG10
        generalize w10.alloc (.cells #[] 94) = w11 at *
        generalize w10.heap.size = g0 at *
        refine held_one 2 rfl rfl (by kernel_rfl) fun K hK => ?_
        obtain ⟨f0, f1, f2⟩ := box3c HF11.out
        go_simp
        refine hK _ _ S11.out ?_
        clear hK K f0 f1 f2
        refine held_one 3 rfl rfl (by kernel_rfl) fun K hK => ?_
        refine wp_app_g lsW (v := .slice (some ⟨g0, 0, none⟩) 0 0) (y := .slice ap np cp) rfl rfl OE11.out (rd_mono RP11.out fun q hq _ => ⟨Or.inl hq, fun e => by
          have e' : g0 = q := by simpa [Value.ownBlock] using e
          have h1 := hq.2; have h2 := HG0.out; have h3 := SZD.out; omega⟩) (by have h1 := HPL.out; have h2 := HNP.out; simp only [List.length_nil]; omega) (by have h := LE11.out; omega) ?_
        intro v35 w12 ho12 hg12 hat12
        rw [List.nil_append] at ho12
        have q12 := below_grownG (Below.refl bs w11) hg12 OE11.out (by have h := LE11.out; omega) (Nat.le_refl _)
        have S12 : SBx w [(w.heap.size, (.cells #[.int .i64 cap, .int .i64 left, .slice (some ⟨b1, o1, none⟩) n cf] 24 (0, 0))), (w.heap.size + 1, (.cells #[.int .i64 (off : Int), .slice a5 nd c5, .bool cut] 94 (0, 0)))] w12 := ⟨S11.out.bel.trans (q12.mono (by have h := SZD.out; omega)), fun p hp => (q12.block _ (by
          have h := SZD.out
          rcases List.mem_cons.1 hp with rfl | hp
          · show w.heap.size < bs; omega
          · rw [List.mem_singleton.1 hp]; show w.heap.size + 1 < bs; omega)).trans (S11.out.box p hp)⟩
        refine hK _ _ S12 ?_
        clear hK K
        have S12 := Lib.hid S12
        have O12 := Lib.hid ho12
        have RB12 := Lib.hid (rd_move (w' := w12) (fun q hq _ => q12.block q (by have h := SZD.out; have h2 := hq.2; omega)) (fun q hq _ => hq) RB11.out)
        have RD12 := Lib.hid (rd_move (w' := w12) (fun q hq _ => q12.block q (by have h := SZD.out; rcases hq with hq | hq; (have h2 := hq.2; omega); exact hq.2)) (fun q hq _ => hq) RD11.out)
        have HY12 := Lib.hid ((q12.block _ (show w.heap.size + 2 < bs by have h := SZD.out; omega)).trans HY11.out)
        have HF12 := Lib.hid ((q12.block _ (show w.heap.size + 3 < bs by have h := SZD.out; omega)).trans HF11.out)
        have LE12 := Lib.hid (show bs + 0 ≤ w12.heap.size from by have h := q12.size; have h2 := LE11.out; omega)
        have SG12 := Lib.hid (rd_grown (r := (Value.slice (some ⟨g0, 0, none⟩) 0 0).ownBlock) SG11.out hg12 fun q hq e => by
          have e' : g0 = q := by simpa [Value.ownBlock] using e
          have h2 := HG0.out
          have h3 := SZD.out
          have h4 := GNE.out
          rcases hq with (hq | hq) | hq
          · have := hq.2; omega
          · omega
          · omega)
        have NE12 := Lib.hid (show ∀ q, v35.ownBlock = some q → q ≠ g7 from fun q e => by
          have h4 := GNE.out
          have h5 : g7 < w11.heap.size := G7L.out
          rcases hat12 with h | h
          · rw [h] at e
            have e' : g0 = q := by simpa [Value.ownBlock] using e
            omega
          · rw [h] at e
            have e' : w11.heap.size = q := by simpa using e
            omega)
        clear ho12 hg12 hat12
        clear q12 S11 LE11 HY11 HF11 RB11 RD11 RP11 SG11 OE11
        obtain ⟨a35, c35, rfl, -, -⟩ := og_form O12.out
        rw [← HNP.out] at O12 NE12 ⊢
        refine held_one 6 rfl rfl (by kernel_rfl) fun K hK => ?_
        refine wp_app_g lsW (v := .slice a35 np c35) (y := .slice (some ⟨g7, 0, none⟩) 1 1) rfl rfl O12.out (rd_mono SG12.out fun q hq _ => ⟨by
          have h3 := SZD.out
          have h4 := HGB.out
          rcases hq with (hq | hq) | hq
          · exact Or.inl hq
          · exact Or.inr hq.1
          · exact Or.inr (by omega), fun e => by
          have h1 := (og_lt O12.out _ e).1
          have h3 := SZD.out
          rcases hq with (hq | hq) | hq
          · have := hq.2; omega
          · omega
          · exact NE12.out q e hq⟩) (by have h1 := HPL.out; have h2 := HNP.out; simp only [List.length_cons, List.length_nil]; omega) (by have h := LE12.out; omega) ?_
        intro v38 w13 ho13 hg13 _
        have q13 := below_grownG (Below.refl bs w12) hg13 O12.out (by have h := LE12.out; omega) (Nat.le_refl _)
        have S13 : SBx w [(w.heap.size, (.cells #[.int .i64 cap, .int .i64 left, .slice (some ⟨b1, o1, none⟩) n cf] 24 (0, 0))), (w.heap.size + 1, (.cells #[.int .i64 (off : Int), .slice a5 nd c5, .bool cut] 94 (0, 0)))] w13 := ⟨S12.out.bel.trans (q13.mono (by have h := SZD.out; omega)), fun p hp => (q13.block _ (by
          have h := SZD.out
          rcases List.mem_cons.1 hp with rfl | hp
          · show w.heap.size < bs; omega
          · rw [List.mem_singleton.1 hp]; show w.heap.size + 1 < bs; omega)).trans (S12.out.box p hp)⟩
        refine hK _ _ S13 ?_
        clear hK K
        have S13 := Lib.hid S13
        have O13 := Lib.hid ho13
        have RB13 := Lib.hid (rd_move (w' := w13) (fun q hq _ => q13.block q (by have h := SZD.out; have h2 := hq.2; omega)) (fun q hq _ => hq) RB12.out)
        have HY13 := Lib.hid ((q13.block _ (show w.heap.size + 2 < bs by have h := SZD.out; omega)).trans HY12.out)
        have HF13 := Lib.hid ((q13.block _ (show w.heap.size + 3 < bs by have h := SZD.out; omega)).trans HF12.out)
        have LE13 := Lib.hid (show bs + 0 ≤ w13.heap.size from by have h := q13.size; have h2 := LE12.out; omega)
        clear ho13 hg13 NE12
        clear q13 S12 LE12 HY12 HF12 RB12 RD12 SG12 O12
        obtain ⟨a6, c6, rfl, -, -⟩ := og_form O13.out
        obtain ⟨n6, hn6⟩ : ∃ z, z = (xp ++ [((off : Int), b, cut)]).length := ⟨_, rfl⟩
        rw [← hn6] at O13 ⊢
        clear hn6
        refine held_one 7 rfl rfl (by kernel_rfl) fun K hK => ?_
        go_simp
        refine hK _ _ S13.out ?_
        clear hK K
        refine held_one 8 rfl rfl (by kernel_rfl) fun K hK => ?_
        obtain ⟨f0, f1, f2⟩ := box3c HF13.out
        have z2 := frozen_of_row _ (w.heap.size + 3) 2 _ _ HF13.out
        go_simp
        refine hK _ _ (S13.out.one (by omega) (fun p hp => by
          rcases List.mem_cons.1 hp with rfl | hp
          · show w.heap.size ≠ w.heap.size + 3; omega
          · rw [List.mem_singleton.1 hp]; show w.heap.size + 1 ≠ w.heap.size + 3; omega)) ?_
        clear hK K
        refine wpAnyH_done (by kernel_rfl) ?_ _
        unfold onlyN
        dsimp only
        clear f0 f1 f2 z2
        go_wp2_with fail
        go_meet
        exact ⟨a6, n6, c6, Lib.hid (by simpa using heap_setCell_same w13 (w.heap.size + 3) 2 _ _ (.slice a6 n6 c6) HF13.out), Lib.hid ((other1 (by omega : w.heap.size ≠ w.heap.size + 3)).trans (S13.out.box _ (List.mem_cons_self ..))), Lib.hid ((other1 (by omega : w.heap.size + 2 ≠ w.heap.size + 3)).trans HY13.out), Lib.hid (S13.out.bel.setCell (p := ⟨w.heap.size + 3, 2, none⟩) (show w.heap.size ≤ w.heap.size + 3 by omega) (.slice a6 n6 c6)),
          Lib.hid (rd_move (fun q hq _ => other1 (g := w.heap.size + 3) (by have h := hq.2; omega)) (fun q hq _ => hq) RB13.out),
          Lib.hid (rd_mono (og_rdw (og_move O13.out fun q hq _ => other1 (g := w.heap.size + 3) (by
            rcases hq with (hq | hq) | hq
            · have h := hq.2; omega
            · omega
            · have h := (og_lt O13.out _ hq).1; have h3 := SZD.out; omega))) fun q hq _ => by
            have h3 := SZD.out
            rcases hq with hq | hq
            · exact hq
            · exact Or.inr (by omega))⟩
      · obtain ⟨f0, f1, f2⟩ := box3c HF10.out
        go_simp
        refine hK _ _ S10.out ?_
        clear hK K f0 f1 f2
        refine held_one 0 rfl rfl (by kernel_rfl) fun K hK => ?_
        go_simp
        have q11 := bel_al0 w10 (.cells #[] 94)
        refine hK _ _ (S10.out.below q11) ?_
        clear hK K
        have S11 := Lib.hid (S10.out.below q11)
        have RB11 := Lib.hid (rd_below RB10.out q11)
        have RD11 := Lib.hid (rd_below RD10.out q11)
        have RP11 := Lib.hid (rd_below RP10.out q11)
        have SG11 := Lib.hid (rd_below SG10.out q11)
        have HY11 := Lib.hid ((q11.block _ (lt_of_some0 HY10.out)).trans HY10.out)
        have HF11 := Lib.hid ((q11.block _ (lt_of_some0 HF10.out)).trans HF10.out)
        have OE11 := Lib.hid (og_empty (T := 94) tyW (fun q => (B q ∧ q < w.heap.size) ∨ w.heap.size + 4 ≤ q) w10 rfl (show bs ≤ w10.heap.size from by have h2 := LE10.out; omega))
        have LE11 := Lib.hid (show bs + 0 ≤ (w10.alloc (.cells #[] 94)).heap.size from by have h2 := LE10.out; have h3 := q11.size; omega)
        have HG0 := Lib.hid (show bs ≤ w10.heap.size from by have h2 := LE10.out; omega)
        have G0L := Lib.hid (show w10.heap.size < (w10.alloc (.cells #[] 94)).heap.size from by simp)
        have GNE := Lib.hid (show g7 ≠ w10.heap.size from by have h2 := G7L.out; omega)
        replace G7L := Lib.hid (show g7 < (w10.alloc (.cells #[] 94)).heap.size from by have h2 := G7L.out; have h3 := q11.size; omega)
        clear q11 S10 LE10 HY10 HF10 RB10 RD10 RP10 SG10
        generalize w10.alloc (.cells #[] 94) = w11 at *
        generalize w10.heap.size = g0 at *
        refine held_one 3 rfl rfl (by kernel_rfl) fun K hK => ?_
        refine wp_app_g lsW (v := .slice (some ⟨g0, 0, none⟩) 0 0) (y := .slice ap np cp) rfl rfl OE11.out (rd_mono RP11.out fun q hq _ => ⟨Or.inl hq, fun e => by
          have e' : g0 = q := by simpa [Value.ownBlock] using e
          have h1 := hq.2; have h2 := HG0.out; have h3 := SZD.out; omega⟩) (by have h1 := HPL.out; have h2 := HNP.out; simp only [List.length_nil]; omega) (by have h := LE11.out; omega) ?_
        intro v35 w12 ho12 hg12 hat12
        rw [List.nil_append] at ho12
        have q12 := below_grownG (Below.refl bs w11) hg12 OE11.out (by have h := LE11.out; omega) (Nat.le_refl _)
        have S12 : SBx w [(w.heap.size, (.cells #[.int .i64 cap, .int .i64 left, .slice (some ⟨b1, o1, none⟩) n cf] 24 (0, 0))), (w.heap.size + 1, (.cells #[.int .i64 (off : Int), .slice a5 nd c5, .bool cut] 94 (0, 0)))] w12 := ⟨S11.out.bel.trans (q12.mono (by have h := SZD.out; omega)), fun p hp => (q12.block _ (by
          have h := SZD.out
          rcases List.mem_cons.1 hp with rfl | hp
          · show w.heap.size < bs; omega
          · rw [List.mem_singleton.1 hp]; show w.heap.size + 1 < bs; omega)).trans (S11.out.box p hp)⟩
        refine hK _ _ S12 ?_
        clear hK K
        have S12 := Lib.hid S12
        have O12 := Lib.hid ho12
        have RB12 := Lib.hid (rd_move (w' := w12) (fun q hq _ => q12.block q (by have h := SZD.out; have h2 := hq.2; omega)) (fun q hq _ => hq) RB11.out)
        have RD12 := Lib.hid (rd_move (w' := w12) (fun q hq _ => q12.block q (by have h := SZD.out; rcases hq with hq | hq; (have h2 := hq.2; omega); exact hq.2)) (fun q hq _ => hq) RD11.out)
        have HY12 := Lib.hid ((q12.block _ (show w.heap.size + 2 < bs by have h := SZD.out; omega)).trans HY11.out)
        have HF12 := Lib.hid ((q12.block _ (show w.heap.size + 3 < bs by have h := SZD.out; omega)).trans HF11.out)
        have LE12 := Lib.hid (show bs + 0 ≤ w12.heap.size from by have h := q12.size; have h2 := LE11.out; omega)
        have SG12 := Lib.hid (rd_grown (r := (Value.slice (some ⟨g0, 0, none⟩) 0 0).ownBlock) SG11.out hg12 fun q hq e => by
          have e' : g0 = q := by simpa [Value.ownBlock] using e
          have h2 := HG0.out
          have h3 := SZD.out
          have h4 := GNE.out
          rcases hq with (hq | hq) | hq
          · have := hq.2; omega
          · omega
          · omega)
        have NE12 := Lib.hid (show ∀ q, v35.ownBlock = some q → q ≠ g7 from fun q e => by
          have h4 := GNE.out
          have h5 : g7 < w11.heap.size := G7L.out
          rcases hat12 with h | h
          · rw [h] at e
            have e' : g0 = q := by simpa [Value.ownBlock] using e
            omega
          · rw [h] at e
            have e' : w11.heap.size = q := by simpa using e
            omega)
        clear ho12 hg12 hat12
        clear q12 S11 LE11 HY11 HF11 RB11 RD11 RP11 SG11 OE11
        obtain ⟨a35, c35, rfl, -, -⟩ := og_form O12.out
        rw [← HNP.out] at O12 NE12 ⊢
        refine held_one 6 rfl rfl (by kernel_rfl) fun K hK => ?_
        refine wp_app_g lsW (v := .slice a35 np c35) (y := .slice (some ⟨g7, 0, none⟩) 1 1) rfl rfl O12.out (rd_mono SG12.out fun q hq _ => ⟨by
          have h3 := SZD.out
          have h4 := HGB.out
          rcases hq with (hq | hq) | hq
          · exact Or.inl hq
          · exact Or.inr hq.1
          · exact Or.inr (by omega), fun e => by
          have h1 := (og_lt O12.out _ e).1
          have h3 := SZD.out
          rcases hq with (hq | hq) | hq
          · have := hq.2; omega
          · omega
          · exact NE12.out q e hq⟩) (by have h1 := HPL.out; have h2 := HNP.out; simp only [List.length_cons, List.length_nil]; omega) (by have h := LE12.out; omega) ?_
        intro v38 w13 ho13 hg13 _
        have q13 := below_grownG (Below.refl bs w12) hg13 O12.out (by have h := LE12.out; omega) (Nat.le_refl _)
        have S13 : SBx w [(w.heap.size, (.cells #[.int .i64 cap, .int .i64 left, .slice (some ⟨b1, o1, none⟩) n cf] 24 (0, 0))), (w.heap.size + 1, (.cells #[.int .i64 (off : Int), .slice a5 nd c5, .bool cut] 94 (0, 0)))] w13 := ⟨S12.out.bel.trans (q13.mono (by have h := SZD.out; omega)), fun p hp => (q13.block _ (by
          have h := SZD.out
          rcases List.mem_cons.1 hp with rfl | hp
          · show w.heap.size < bs; omega
          · rw [List.mem_singleton.1 hp]; show w.heap.size + 1 < bs; omega)).trans (S12.out.box p hp)⟩
        refine hK _ _ S13 ?_
        clear hK K
        have S13 := Lib.hid S13
        have O13 := Lib.hid ho13
        have RB13 := Lib.hid (rd_move (w' := w13) (fun q hq _ => q13.block q (by have h := SZD.out; have h2 := hq.2; omega)) (fun q hq _ => hq) RB12.out)
        have HY13 := Lib.hid ((q13.block _ (show w.heap.size + 2 < bs by have h := SZD.out; omega)).trans HY12.out)
        have HF13 := Lib.hid ((q13.block _ (show w.heap.size + 3 < bs by have h := SZD.out; omega)).trans HF12.out)
        have LE13 := Lib.hid (show bs + 0 ≤ w13.heap.size from by have h := q13.size; have h2 := LE12.out; omega)
        clear ho13 hg13 NE12
        clear q13 S12 LE12 HY12 HF12 RB12 RD12 SG12 O12
        obtain ⟨a6, c6, rfl, -, -⟩ := og_form O13.out
        obtain ⟨n6, hn6⟩ : ∃ z, z = (xp ++ [((off : Int), b, cut)]).length := ⟨_, rfl⟩
        rw [← hn6] at O13 ⊢
        clear hn6
        refine held_one 7 rfl rfl (by kernel_rfl) fun K hK => ?_
        go_simp
        refine hK _ _ S13.out ?_
        clear hK K
        refine held_one 8 rfl rfl (by kernel_rfl) fun K hK => ?_
        obtain ⟨f0, f1, f2⟩ := box3c HF13.out
        have z2 := frozen_of_row _ (w.heap.size + 3) 2 _ _ HF13.out
        go_simp
        refine hK _ _ (S13.out.one (by omega) (fun p hp => by
          rcases List.mem_cons.1 hp with rfl | hp
          · show w.heap.size ≠ w.heap.size + 3; omega
          · rw [List.mem_singleton.1 hp]; show w.heap.size + 1 ≠ w.heap.size + 3; omega)) ?_
        clear hK K
        refine wpAnyH_done (by kernel_rfl) ?_ _
        unfold onlyN
        dsimp only
        clear f0 f1 f2 z2
        go_wp2_with fail
        go_meet
        exact ⟨a6, n6, c6, Lib.hid (by simpa using heap_setCell_same w13 (w.heap.size + 3) 2 _ _ (.slice a6 n6 c6) HF13.out), Lib.hid ((other1 (by omega : w.heap.size ≠ w.heap.size + 3)).trans (S13.out.box _ (List.mem_cons_self ..))), Lib.hid ((other1 (by omega : w.heap.size + 2 ≠ w.heap.size + 3)).trans HY13.out), Lib.hid (S13.out.bel.setCell (p := ⟨w.heap.size + 3, 2, none⟩) (show w.heap.size ≤ w.heap.size + 3 by omega) (.slice a6 n6 c6)),
          Lib.hid (rd_move (fun q hq _ => other1 (g := w.heap.size + 3) (by have h := hq.2; omega)) (fun q hq _ => hq) RB13.out),
          Lib.hid (rd_mono (og_rdw (og_move O13.out fun q hq _ => other1 (g := w.heap.size + 3) (by
            rcases hq with (hq | hq) | hq
            · have h := hq.2; omega
            · omega
            · have h := (og_lt O13.out _ hq).1; have h3 := SZD.out; omega))) fun q hq _ => by
            have h3 := SZD.out
            rcases hq with hq | hq
            · exact hq
            · exact Or.inr (by omega))⟩
  case rest =>
    obtain ⟨a6, n6, c6, HF9, HX9, HY9, B9, RB9, RP9⟩ := hcut
    clear HX6 HY6 HF6 HW6 B6 RB6 RP6 RD6 SZ6
    have RC9 := Lib.hid (rcontent_any sa _ _ xb (xp ++ [((off : Int), b, cut)]) wc (rd8_sl RB9.out) (rd_mono RP9.out fun _ _ _ => trivial))
    have SZ9 := Lib.hid (show w.heap.size + 4 ≤ wc.heap.size from lt_of_some0 HF9.out)
    obtain ⟨nw, hnw⟩ : ∃ z, z = (contL (sa, xb, xp ++ [((off : Int), b, cut)])).length := ⟨_, rfl⟩
    have HCN := Lib.hid (show nw ≤ 1048576 by rw [hnw]; exact contL_le _)
    rw [← hnw] at HWE
    have HNWL := Lib.hid hnw
    clear hnw
    obtain ⟨f0, f1, f2⟩ := box3c HF9.out
    obtain ⟨gr, hgr⟩ : ∃ z : Int, z = (nw : Int) - (old : Int) := ⟨_, rfl⟩
    have hw2 : wrap64 ((nw : Int) - (old : Int)) = gr := by
      have h1 := HCN.out
      have h2 := HCO.out
      unfold wrap64
      omega
    have HGR := Lib.hid hgr
    have HW2 := Lib.hid hw2
    clear hgr hw2
    go_wp2_with fail
    refine RC9.out.mono ?_
    rintro e w4 ⟨⟨v4, rfl, ho4⟩, hb4⟩
    obtain ⟨a4, c4, rfl, -, -⟩ := sl_form ho4.sl
    rw [← HNWL.out]
    have B4 := Lib.hid (btA B9.out hb4)
    have HX4 := Lib.hid ((hb4.block _ (lt_of_some0 HX9.out)).trans HX9.out)
    have HY4 := Lib.hid ((hb4.block _ (lt_of_some0 HY9.out)).trans HY9.out)
    have HF4 := Lib.hid ((hb4.block _ (lt_of_some0 HF9.out)).trans HF9.out)
    have RB4 := Lib.hid (rd_below RB9.out hb4)
    have RP4 := Lib.hid (rd_below RP9.out hb4)
    have SZ4 := Lib.hid (show w.heap.size + 4 ≤ w4.heap.size from lt_of_some0 HF4.out)
    clear f0 f1 f2 ho4 hb4 RC9 B9 HX9 HY9 HF9 RB9 RP9 SZ9
    have hw2 := HW2.out
    go_upto_region 8 with fail
    rw [hw2]
    clear hw2
    have PT4 := Lib.hid (regrown_bel0 (w := w4) fun W hW => RT.out W (btA B4.out hW))
    obtain ⟨x0, x1, x2⟩ := box3c HX4.out
    have c0 := cells_regrown x0
    have c1 := cells_regrown x1
    have c2 := cells_regrown x2
    clear x0 x1 x2
    go_cut [60] from 45 to 60 (fun c wx => ∃ q9 : Bool, c = .bool q9 ∧ Hid (q9 = decide (WE = 9)) ∧ Hid (Below w4.heap.size w4 wx))
    case first =>
      have hcond : (cap ≤ 0 ∧ WE = 0) ∨ (0 < cap ∧ gr ≤ 0 ∧ WE = 0) ∨ (0 < cap ∧ 0 < gr ∧ cap < (tot : Int) + gr ∧ WE = 9) ∨ (0 < cap ∧ 0 < gr ∧ (tot : Int) + gr ≤ cap ∧ WE = 0) := by
        have h := HWE.out
        have hg := HGR.out
        by_cases h1 : 0 < cap
        · by_cases h2 : 0 < gr
          · by_cases h3 : cap < (tot : Int) + gr
            · rw [if_pos ⟨h1, by omega, by omega⟩] at h; exact Or.inr (Or.inr (Or.inl ⟨h1, h2, h3, h⟩))
            · rw [if_neg (fun h4 => h3 (by have := h4.2.2; omega))] at h; exact Or.inr (Or.inr (Or.inr ⟨h1, h2, by omega, h⟩))
          · rw [if_neg (fun h4 => h2 (by have := h4.2.1; omega))] at h; exact Or.inr (Or.inl ⟨h1, by omega, h⟩)
        · rw [if_neg (fun h4 => h1 h4.1)] at h; exact Or.inl ⟨by omega, h⟩
      obtain ⟨sm2, hsm2⟩ : ∃ z : Int, z = (tot : Int) + gr := ⟨_, rfl⟩
      rw [← hsm2] at hcond
      have hw3 : IntKind.i64.wrap ((tot : Int) + gr) = sm2 := by
        have h1 := HCN.out
        have h2 := HCO.out
        have h3 := HGR.out
        have h4 := HTB.out
        rw [IntWalk.i64_in _ (by omega)]
        omega
      clear hsm2 HWE
      rcases hcond with ⟨h1, rfl⟩ | ⟨h1, h2, rfl⟩ | ⟨h1, h2, h3, rfl⟩ | ⟨h1, h2, h3, rfl⟩
      · have e1 : decide (cap > 0) = false := decide_eq_false (by omega)
        have e1b : decide (0 < cap) = false := decide_eq_false (by omega)
        clear h1
        refine wp_region_bl (by kernel_rfl) (by kernel_rfl) ?_
        repeat (go_big_quiet_step (fail))
        refine wpQuiet_nil ?_
        intro w5 hb5
        go_wp2_with fail
        go_meet
        exact ⟨_, rfl, Lib.hid rfl, Lib.hid hb5⟩
      · have e1 : decide (cap > 0) = true := decide_eq_true (by omega)
        have e1b : decide (0 < cap) = true := decide_eq_true (by omega)
        have e2 : decide (gr > 0) = false := decide_eq_false (by omega)
        have e2b : decide (0 < gr) = false := decide_eq_false (by omega)
        clear h1 h2
        refine wp_region_bl (by kernel_rfl) (by kernel_rfl) ?_
        repeat (go_big_quiet_step (fail))
        refine wpQuiet_nil ?_
        intro w5 hb5
        go_wp2_with fail
        go_meet
        exact ⟨_, rfl, Lib.hid rfl, Lib.hid hb5⟩
      · have e1 : decide (cap > 0) = true := decide_eq_true (by omega)
        have e1b : decide (0 < cap) = true := decide_eq_true (by omega)
        have e2 : decide (gr > 0) = true := decide_eq_true (by omega)
        have e2b : decide (0 < gr) = true := decide_eq_true (by omega)
        have e3 : decide (sm2 > cap) = true := decide_eq_true (by omega)
        have e3b : decide (cap < sm2) = true := decide_eq_true (by omega)
        clear h1 h2 h3
        refine wp_region_bl (by kernel_rfl) (by kernel_rfl) ?_
        repeat (go_big_quiet_step (fail))
        go_big_quiet_step ((go_at_call 97; with_reducible exact PT4.out _ _))
        repeat (go_big_quiet_step (fail))
        refine wpQuiet_nil ?_
        intro w5 hb5
        go_wp2_with fail
        go_meet
        exact ⟨_, rfl, Lib.hid rfl, Lib.hid hb5⟩
      · have e1 : decide (cap > 0) = true := decide_eq_true (by omega)
        have e1b : decide (0 < cap) = true := decide_eq_true (by omega)
        have e2 : decide (gr > 0) = true := decide_eq_true (by omega)
        have e2b : decide (0 < gr) = true := decide_eq_true (by omega)
        have e3 : decide (sm2 > cap) = false := decide_eq_false (by omega)
        have e3b : decide (cap < sm2) = false := decide_eq_false (by omega)
        clear h1 h2 h3
        refine wp_region_bl (by kernel_rfl) (by kernel_rfl) ?_
        repeat (go_big_quiet_step (fail))
        go_big_quiet_step ((go_at_call 97; with_reducible exact PT4.out _ _))
        repeat (go_big_quiet_step (fail))
        refine wpQuiet_nil ?_
        intro w5 hb5
        go_wp2_with fail
        go_meet
        exact ⟨_, rfl, Lib.hid rfl, Lib.hid hb5⟩
    case rest =>
      obtain ⟨q9, rfl, HQ9, HB5⟩ := hcut
      have B5 := Lib.hid (btA B4.out HB5.out)
      have HX5 := Lib.hid ((HB5.out.block _ (lt_of_some0 HX4.out)).trans HX4.out)
      have HY5 := Lib.hid ((HB5.out.block _ (lt_of_some0 HY4.out)).trans HY4.out)
      have HF5 := Lib.hid ((HB5.out.block _ (lt_of_some0 HF4.out)).trans HF4.out)
      have RB5 := Lib.hid (rd_below RB4.out HB5.out)
      have RP5 := Lib.hid (rd_below RP4.out HB5.out)
      have SZ5 := Lib.hid (show w.heap.size + 4 ≤ wc.heap.size from lt_of_some0 HF5.out)
      clear HB5 B4 HX4 HY4 HF4 RB4 RP4 SZ4 c0 c1 c2 PT4
      have h90 : WE = 9 ∨ WE = 0 := by
        rw [HWE.out]
        split
        · exact Or.inl rfl
        · exact Or.inr rfl
      cases q9
      case true =>
        have h9 : WE = 9 := of_decide_eq_true HQ9.out.symm
        have HDZ : Hid (DD = dk0) := Lib.hid (by rw [HDD.out, if_neg (by omega)])
        have H9 := Lib.hid h9
        clear h9 h90 HDD HWE HQ9
        obtain ⟨y0, y1, y2⟩ := box3c HY5.out
        have u0 := frozen_of_row _ (w.heap.size + 2) 0 _ _ HY5.out
        have u1 := frozen_of_row _ (w.heap.size + 2) 1 _ _ HY5.out
        have u2 := frozen_of_row _ (w.heap.size + 2) 2 _ _ HY5.out
        go_wp2
        refine rdisk_end rfl (set3c HY5.out) rfl ?_
        rw [HDZ.out, H9.out]
        exact de_zero (below_set3 B5.out (by omega))
      have h9 : WE = 0 := h90.resolve_left (of_decide_eq_false HQ9.out.symm)
      have HDW : Hid (DD = WD) := Lib.hid (by rw [HDD.out, if_pos h9])
      have H9 := Lib.hid h9
      clear h9 h90 HDD HWE HQ9
      obtain ⟨x0, x1, x2⟩ := box3c HX5.out
      go_wp2_with fail
      refine (RN.out _ B5.out).mono ?_
      rintro e w6 ⟨⟨fv6, rfl, ho6⟩, hb6⟩
      obtain ⟨ncap, nleft, NL⟩ := ND
      dsimp only at ho6 HNX
      obtain rfl : L = NL := HNX.out.2.2.2.symm
      have hip : i < L.length := by have := HI.out; have := HN.out; omega
      obtain ⟨a7, c7, rfl, hn7, -⟩ := og_form ho6
      obtain ⟨g5, o5, bv, pv, rfl, -, k0, k1, k2, -, -, -⟩ := dv_at (rd_mono (C := fun _ => True) (og_rdw ho6) fun _ _ _ => trivial) hip
      obtain ⟨hg6, rfl, -⟩ := og_ptr ho6 (by omega)
      rw [← HN.out] at ho6 ⊢
      have O6 := Lib.hid (og_mono (C := fun q => (B q ∧ q < w.heap.size) ∨ w.heap.size + 4 ≤ q) ho6 fun q hq _ => Or.inl hq.1)
      have HG6 := Lib.hid hg6
      have HX6 := Lib.hid ((hb6.block _ (lt_of_some0 HX5.out)).trans HX5.out)
      have HY6 := Lib.hid ((hb6.block _ (lt_of_some0 HY5.out)).trans HY5.out)
      have HF6 := Lib.hid ((hb6.block _ (lt_of_some0 HF5.out)).trans HF5.out)
      have RB6 := Lib.hid (rd_mono (C := fun q => (B q ∧ q < w.heap.size) ∧ q < wc.heap.size) (rd_below (rd_mono RB5.out fun q hq hl => ⟨hq, hl⟩) hb6) fun q hq _ => hq)
      have RP6 := Lib.hid (rd_mono (C := fun q => ((B q ∧ q < w.heap.size) ∨ w.heap.size + 4 ≤ q) ∧ q < wc.heap.size) (rd_below (rd_mono RP5.out fun q hq hl => ⟨hq, hl⟩) hb6) fun q hq _ => hq)
      have B6 := Lib.hid (btA B5.out hb6)
      clear x0 x1 x2 k0 k1 k2 ho6 hg6 hb6 hn7 HX5 HY5 HF5 RB5 RP5 B5 RN RT
      obtain ⟨x0, x1, x2⟩ := box3c HX6.out
      have z0 := frozen_of_row _ w.heap.size 0 _ _ HX6.out
      have z1 := frozen_of_row _ w.heap.size 1 _ _ HX6.out
      have z2 := frozen_of_row _ w.heap.size 2 _ _ HX6.out
      go_upto_region 11 with fail
      have HX7 := Lib.hid (set3c (k := .int .i64 ncap) (l := .int .i64 nleft) (m := .slice (some ⟨g5, 0, none⟩) n c7) HX6.out)
      have HY7 := Lib.hid ((set3_other (k := .int .i64 ncap) (l := .int .i64 nleft) (m := .slice (some ⟨g5, 0, none⟩) n c7) (by omega : w.heap.size + 2 ≠ w.heap.size)).trans HY6.out)
      have HF7 := Lib.hid ((set3_other (k := .int .i64 ncap) (l := .int .i64 nleft) (m := .slice (some ⟨g5, 0, none⟩) n c7) (by omega : w.heap.size + 3 ≠ w.heap.size)).trans HF6.out)
      have B7 := Lib.hid (below_set3 (k := .int .i64 ncap) (l := .int .i64 nleft) (m := .slice (some ⟨g5, 0, none⟩) n c7) B6.out (Nat.le_refl _))
      have RB7 := Lib.hid (rd_move (w' := ((w6.setCell ⟨w.heap.size, 0, none⟩ (.int .i64 ncap)).setCell ⟨w.heap.size, 1, none⟩ (.int .i64 nleft)).setCell ⟨w.heap.size, 2, none⟩ (.slice (some ⟨g5, 0, none⟩) n c7)) (fun q hq _ => set3_other (by have h := hq.1.2; omega)) (fun q hq _ => hq) RB6.out)
      have RP7 := Lib.hid (rd_move (w' := ((w6.setCell ⟨w.heap.size, 0, none⟩ (.int .i64 ncap)).setCell ⟨w.heap.size, 1, none⟩ (.int .i64 nleft)).setCell ⟨w.heap.size, 2, none⟩ (.slice (some ⟨g5, 0, none⟩) n c7)) (fun q hq _ => set3_other (by rcases hq.1 with h | h; (have h := h.2; omega); omega)) (fun q hq _ => hq) RP6.out)
      have O7 := Lib.hid (og_move (w' := ((w6.setCell ⟨w.heap.size, 0, none⟩ (.int .i64 ncap)).setCell ⟨w.heap.size, 1, none⟩ (.int .i64 nleft)).setCell ⟨w.heap.size, 2, none⟩ (.slice (some ⟨g5, 0, none⟩) n c7)) O6.out fun q hq _ => set3_other (by
        rcases hq with (hq | hq) | hq
        · have h := hq.2; omega
        · omega
        · have h := (og_lt O6.out _ hq).1; have h2 := SZ5.out; omega))
      clear x0 x1 x2 z0 z1 z2 HX6 HY6 HF6 B6 RB6 RP6 O6
      generalize ((w6.setCell ⟨w.heap.size, 0, none⟩ (.int .i64 ncap)).setCell ⟨w.heap.size, 1, none⟩ (.int .i64 nleft)).setCell ⟨w.heap.size, 2, none⟩ (.slice (some ⟨g5, 0, none⟩) n c7) = W7 at *
      obtain ⟨x0, x1, x2⟩ := box3c HX7.out
      obtain ⟨f0, f1, f2⟩ := box3c HF7.out
      have hip : i < L.length := by have := HI.out; have := HN.out; omega
      obtain ⟨b5, o5, bv, pv, hbo, -, k0, k1, k2, -, -, -⟩ := dv_at (rd_mono (C := fun _ => True) (og_rdw O7.out) fun _ _ _ => trivial) hip
      obtain ⟨rfl, rfl⟩ : g5 = b5 ∧ 0 = o5 := by simpa using hbo
      obtain ⟨cur, hcur, hcs⟩ := (og_ptr O7.out (by omega)).2.2
      have z0 := frozen_of_row W7 g5 (i * 3) _ _ hcur
      have z1 := frozen_of_row W7 g5 (i * 3 + 1) _ _ hcur
      have z2 := frozen_of_row W7 g5 (i * 3 + 2) _ _ hcur
      rw [Nat.zero_add] at k0 k1 k2
      have p0 : (0 : Int) ≤ (i : Int) := by omega
      have p1 : (i : Int) < (n : Int) := by have := HI.out; omega
      clear hip hbo hcur hcs
      go_upto_region 12 with fail
      change Code.wp _ _ _ _ (setCs W7 g5 (i * 3) [.string sa, .slice ab nb cb, .slice a6 n6 c6])
      clear k0 k1 k2 z0 z1 z2 f0 f1 f2 p0 p1 x0 x1 x2
      have HX8 := Lib.hid ((setCs_other (g := g5) (k := w.heap.size) (by have h1 := HG6.out.1; have h2 := SZ5.out; omega) [.string sa, .slice ab nb cb, .slice a6 n6 c6] W7 (i * 3)).trans HX7.out)
      have HY8 := Lib.hid ((setCs_other (g := g5) (k := w.heap.size + 2) (by have h1 := HG6.out.1; have h2 := SZ5.out; omega) [.string sa, .slice ab nb cb, .slice a6 n6 c6] W7 (i * 3)).trans HY7.out)
      have B8 := Lib.hid (below_setCs (B := w.heap.size) (g := g5) (by have h1 := HG6.out.1; have h2 := SZ5.out; omega) [.string sa, .slice ab nb cb, .slice a6 n6 c6] W7 (i * 3) B7.out)
      have O8 := Lib.hid (og_rdw (og_set O7.out (i := i) (by have := HI.out; have := HN.out; omega) (rd_f_mk (x := (sa, xb, xp ++ [((off : Int), b, cut)])) HSA.out (rd_mono RB7.out fun q hq _ => ⟨Or.inl hq.1, by have h1 := HG6.out.1; have h2 := hq.2; omega⟩) (rd_mono RP7.out fun q hq _ => ⟨hq.1, by have h1 := HG6.out.1; have h2 := hq.2; omega⟩))))
      rw [show i * tyF.n = i * 3 from rfl] at O8
      clear HX7 HY7 HF7 B7 RB7 RP7 O7
      generalize setCs W7 g5 (i * 3) [.string sa, .slice ab nb cb, .slice a6 n6 c6] = W8 at *
      obtain ⟨x0, x1, x2⟩ := box3c HX8.out
      obtain ⟨y0, y1, y2⟩ := box3c HY8.out
      have u0 := frozen_of_row W8 (w.heap.size + 2) 0 _ _ HY8.out
      have u1 := frozen_of_row W8 (w.heap.size + 2) 1 _ _ HY8.out
      have u2 := frozen_of_row W8 (w.heap.size + 2) 2 _ _ HY8.out
      go_wp2
      refine rdisk_end rfl (set3c HY8.out) rfl ?_
      rw [HDW.out, HWD.out, H9.out]
      refine ⟨⟨_, rfl, _, by rw [← HNX.out.2.1, ← HNX.out.2.2.1], by rw [← HNX.out.2.1, ← HNX.out.2.2.1]; exact HNX.out.1, rd_move (fun q hq _ => set3_other ?_) (fun q hq _ => ?_) O8.out⟩, below_set3 B8.out (by omega)⟩
      · have h5 := SZ5.out
        rcases hq with (hq | hq) | hq
        · have h := hq.2; omega
        · omega
        · omega
      · have h5 := SZ5.out
        rcases hq with (hq | hq) | hq
        · exact Or.inl hq
        · exact Or.inr (by omega)
        · exact Or.inr (by omega)
end Go.Proofs.Ytpipgbjkkiheaaa.Gf
