/- What is proved here: the walk of the law JournalJoins, over what it asks of the program. No condition. -/
import Derived.Test.YtbkhedfhnmkodaaDoorLP14b
namespace Go.Proofs.YtbkhedfhnmkodaaDoor.Gf
open Go Go.Joins Go.ChangeShapes Go.WideShapes Go.ChangeAt Go.RowKit Go.Deep Go.Proofs.YtbkhedfhnmkodaaDoor.By Go.Proofs.YtbkhedfhnmkodaaDoor.Crc Go.Proofs.YtbkhedfhnmkodaaDoor.Qt

theorem owu_empty (w : World) {base : Nat} (hb : base ≤ w.heap.size) : OwU (w.alloc (.cells #[] 37)) base (.slice (some ⟨w.heap.size, 0, none⟩) 0 0) [] :=
  ⟨[], rfl, by simp, ⟨by simp, Or.inr ⟨w.heap.size, 0, #[], rfl, hb, heap_alloc_new _ _, by simp, by simp, rfl, rfl⟩⟩⟩
theorem ul_apart {w0 W : World} {base : Nat} {v u : Value} {l m : List Nat} (h : UL w0 v l) (hB : Below w0.heap.size w0 W) (ho : OwU W base u m) (hb : w0.heap.size ≤ base) : Rd (fun b => True ∧ u.ownBlock ≠ some b) W (.sl (.i .u64)) [v] (intsU l) :=
  rd_move (fun b _ hl => hB.block b hl) (fun b _ hl => ⟨trivial, fun e => by have := (og_lt ho b e).1; omega⟩) h
/-- append of keys, onto a list of the call's own. -/
theorem app_ul {ops : Array Oper} {rest : List Oper} {dst : Option Tmp} {s x : Operand} {pos : String} {after : Array Edge} {r : TypeId} {a : Act} {W w0 : World} {Q : Exit → Act → World → Prop} {base : Nat} {v y : Value} {l m : List Nat}
    (hs : a.eval s = v) (hx : a.eval x = y) (hv : OwU W base v l) (h0 : UL w0 y m) (hB : Below w0.heap.size w0 W) (hb0 : w0.heap.size ≤ base) (hlm : l.length + m.length ≤ 100000000) (hb : base ≤ W.heap.size)
    (h : ∀ v' w', OwU w' base v' (l ++ m) → W.grownBy w' v.ownBlock → wpList Tryd.prog ops Q rest (a.put dst v') w') : wpList Tryd.prog ops Q (⟨dst, .call { callee := .builtin .append, args := #[s, x], argTypes := #[22, 22] }, r, pos, after, none⟩ :: rest) a W :=
  app_g lsU hs hx hv (ul_apart h0 hB hv hb0) (by rw [intsU_length, intsU_length]; exact hlm) hb fun v' w' h1 h2 _ => h v' w' (by unfold OwU; rw [intsU_app]; exact h1) h2
/-- Keys that lie below n, in a later world. -/
def UB (n : Nat) (w : World) (v : Value) (l : List Nat) : Prop := Rd (fun b => b < n) w (.sl (.i .u64)) [v] (intsU l)
theorem ul_rest {w w' : World} {v : Value} {l : List Nat} (h : UL w v l) (hB : Below w.heap.size w w') : UB w.heap.size w' v l := rd_move (fun b _ hl => hB.block b hl) (fun _ _ hl => hl) h
theorem ub_grown {w w' : World} {n : Nat} {v u : Value} {l m : List Nat} (h : UB n w v l) (ho : OwU w n u m) (hg : w.grownBy w' u.ownBlock) : UB n w' v l := rd_grown h hg fun b hb e => by
  have := (og_lt ho b e).1
  omega
theorem ub_ul {w : World} {n : Nat} {v : Value} {l : List Nat} (h : UB n w v l) : UL w v l := rd_mono h fun _ _ _ => trivial
theorem sum12 {x y n : Nat} (h : n = x + y) (hn : n ≤ 120) : wrap64 ((x : Int) + (y : Int)) = (n : Int) ∧ wrap64 (12 * (n : Int)) = ((12 * n : Nat) : Int) := by
  constructor <;> (unfold wrap64; omega)
theorem cutL_le (l : List Nat) : (cutL l).length ≤ 60 := by unfold cutL; rw [List.length_take]; omega
set_option maxRecDepth 100000 in
set_option maxHeartbeats 12800000 in
theorem joins14_walk {Ok : World → Prop} (P : PC14 Ok) (v u : Value) (l m : List Nat) (w : World) (hw : Ok w) (s : UL w v l) (s2 : UL w u m) : Calls Tryd.prog 5 #[v, u] w fun e w' => e = .returned (.bool true) ∧ Below w.heap.size w w' := by
  have CU := Lib.hid (cut_any v l w s)
  have CV := Lib.hid (cut_any u m w s2)
  have HKL := Lib.hid (And.intro (cutL_le l) (cutL_le m))
  have AW := Lib.hid (fun W (h : Ok W) => awake14_any P W h)
  have ENC := Lib.hid (fun v l W (h : Ok W) (s : UL W v l) (hl : l.length ≤ 1000) => P.enc v l W h s hl)
  have DEC := Lib.hid (fun v l W (h : Ok W) (s : Sl W v l) (hl : l.length ≤ 1000000) => P.dec v l W h s hl)
  have ST := Lib.hid (fun (W W' : World) => P.st (w := W) (w' := W'))
  have BE := Lib.hid (bel_al14 w (.cells #[] 5))
  have OE := Lib.hid (own_empty w (Nat.le_refl _))
  have OKE := Lib.hid (ST.out _ _ hw BE.out)
  have HW := Lib.hid hw
  obtain ⟨a, c, rfl, -, -⟩ := ul_form s
  obtain ⟨b, d, rfl, -, -⟩ := ul_form s2
  generalize l.length = ln at *
  generalize m.length = mn at *
  generalize cutL l = X at *
  generalize cutL m = Y at *
  clear P s s2 hw
  go_enter Tryd.func5, Tryd.ntmps5
  go_wp2_with fail
  refine CU.out.mono ?_
  rintro e w0 ⟨⟨v1, rfl, hv1⟩, rfl⟩
  obtain ⟨ax, cx, rfl, -, -⟩ := ul_form hv1
  have UX := Lib.hid hv1
  have HLX := Lib.hid (ul_lt hv1)
  obtain ⟨xn, hxn⟩ : ∃ n, n = X.length := ⟨_, rfl⟩
  have HXN := Lib.hid hxn
  rw [← hxn] at UX ⊢
  clear hv1 hxn CU
  go_wp2_with fail
  refine CV.out.mono ?_
  rintro e w0 ⟨⟨v1, rfl, hv1⟩, rfl⟩
  obtain ⟨ay, cy, rfl, -, -⟩ := ul_form hv1
  have UY := Lib.hid hv1
  have HLY := Lib.hid (ul_lt hv1)
  obtain ⟨yn, hyn⟩ : ∃ n, n = Y.length := ⟨_, rfl⟩
  have HYN := Lib.hid hyn
  rw [← hyn] at UY ⊢
  clear hv1 hyn CV
  go_wp2_with fail
  generalize w.alloc (.cells #[] 5) = wE at *
  refine (ENC.out _ X wE OKE.out (ul_below UX.out BE.out) (by have := HKL.out; omega)).mono ?_
  rintro e w1 ⟨⟨v1, rfl, ho1⟩, hb1⟩
  have S1 := Lib.hid ho1.sl
  have O1 := Lib.hid (own_below' OE.out hb1)
  have B1 := Lib.hid (bt BE.out hb1)
  have OK1 := Lib.hid (ST.out _ _ OKE.out hb1)
  obtain ⟨a1, n1, c1, rfl, -⟩ := own_form ho1
  have HL1 : Hid (([] : List Nat).length + (encJ X).length ≤ 100000000) := by show _ ≤ _; rw [encJ_length]; have := HKL.out; simp; omega
  clear ho1 hb1 OE BE OKE
  go_wp2_with (at_builtin; refine app_sl (dst := some 17) ?_ ?_ O1.out S1.out HL1.out B1.out.size ?_; exact rfl; exact rfl; intro v2 w2 ho2 hg2; rw [List.nil_append] at ho2; have B2 := Lib.hid (below_grown B1.out hg2 O1.out B1.out.size (Nat.le_refl _)); obtain ⟨a2, n2, c2, hv2, -⟩ := own_form ho2; subst hv2; have O2 := Lib.hid ho2; clear ho2 hg2)
  have OK2 := Lib.hid (ST.out _ _ HW.out B2.out)
  clear O1 S1 B1 OK1 HL1
  refine (ENC.out _ Y w2 OK2.out (ul_below UY.out B2.out) (by have := HKL.out; omega)).mono ?_
  rintro e w3 ⟨⟨v3, rfl, ho3⟩, hb3⟩
  have S3 := Lib.hid ho3.sl
  have O3 := Lib.hid (own_below' O2.out hb3)
  have B3 := Lib.hid (bt B2.out hb3)
  obtain ⟨a3, n3, c3, rfl, -⟩ := own_form ho3
  have HL3 : Hid ((encJ X).length + (encJ Y).length ≤ 100000000) := by show _ ≤ _; rw [encJ_length, encJ_length]; have := HKL.out; omega
  have HD := Lib.hid (decJ_full (ks := X ++ Y) (fun k hk => (List.mem_append.1 hk).elim (HLX.out k) (HLY.out k)))
  have HEL : Hid ((encJ (X ++ Y)).length ≤ 1000000) := by show _ ≤ _; rw [encJ_length, List.length_append]; have := HKL.out; omega
  clear ho3 hb3 B2 OK2 O2
  go_wp2_with (at_builtin; refine app_sl (dst := some 20) ?_ ?_ O3.out S3.out HL3.out B3.out.size ?_; exact rfl; exact rfl; intro v4 w4 ho4 hg4; rw [← encJ_app] at ho4; have B4 := Lib.hid (below_grown B3.out hg4 O3.out B3.out.size (Nat.le_refl _)); have S4 := Lib.hid ho4.sl; obtain ⟨a4, n4, c4, hv4, -⟩ := own_form ho4; subst hv4; clear ho4 hg4)
  have OK4 := Lib.hid (ST.out _ _ HW.out B4.out)
  clear O3 S3 B3 HL3
  refine (DEC.out _ _ w4 OK4.out S4.out HEL.out).mono ?_
  rintro e w5 ⟨⟨n, v5, rfl, hd, ho5⟩, hb5⟩
  obtain rfl := decJ_uniq hd HD.out.1
  rw [HD.out.2] at ho5
  have U5 := Lib.hid (owu_ul ho5)
  obtain ⟨a5, c5, rfl⟩ := owu_form ho5
  have B5 := Lib.hid (bt B4.out hb5)
  have OX := Lib.hid (owu_empty w5 (Nat.le_refl _))
  have HW5 := Lib.hid B5.out.size
  have B6 := Lib.hid (bt B5.out (bel_al14 w5 (.cells #[] 37)))
  have U6 := Lib.hid (ul_rest U5.out (bel_al14 w5 (.cells #[] 37)))
  obtain ⟨nn, hnn⟩ : ∃ n, n = (X ++ Y).length := ⟨_, rfl⟩
  have HNN := Lib.hid (show nn = xn + yn ∧ nn ≤ 120 by have h1 := HKL.out; have h2 := HXN.out; have h3 := HYN.out; rw [hnn, List.length_append]; omega)
  rw [← hnn] at U6 ⊢
  have HLA : Hid (([] : List Nat).length + X.length ≤ 100000000) := by show _ ≤ _; have := HKL.out; simp; omega
  have HLB : Hid (X.length + Y.length ≤ 100000000) := by show _ ≤ _; have := HKL.out; omega
  clear hd ho5 hb5 B4 OK4 S4 HEL HD U5 B5 hnn
  go_wp2_with (first
    | (at_builtin; refine app_ul (dst := some 27) ?_ ?_ OX.out UX.out B6.out HW5.out HLA.out (Nat.le_of_lt (by simp)) ?_; exact rfl; exact rfl; intro v7 w7 ho7 hg7; rw [List.nil_append] at ho7; have B7 := Lib.hid (below_grownG B6.out hg7 OX.out B6.out.size HW5.out); have U7 := Lib.hid (ub_grown U6.out OX.out hg7); have HS7 := Lib.hid (Nat.le_trans (Nat.le_of_lt (show w5.heap.size < (w5.alloc (.cells #[] 37)).heap.size by simp)) hg7.size); obtain ⟨a7, c7, hv7⟩ := owu_form ho7; rw [← HXN.out] at hv7; subst hv7; have O7 := Lib.hid ho7; clear ho7 hg7)
    | (at_builtin; refine app_ul (dst := some 29) ?_ ?_ O7.out UY.out B7.out HW5.out HLB.out HS7.out ?_; exact rfl; exact rfl; intro v8 w8 ho8 hg8; have B8 := Lib.hid (below_grownG B7.out hg8 O7.out B7.out.size HW5.out); have U8 := Lib.hid (ub_grown U7.out O7.out hg8); obtain ⟨a8, c8, hv8⟩ := owu_form ho8; subst hv8; have O8 := Lib.hid ho8; clear ho8 hg8))
  have U9 := owu_ul O8.out
  rw [List.length_append] at U9
  have OK8 := Lib.hid (ST.out _ _ HW.out B8.out)
  refine (rsame14_any _ _ _ _ w8 (ub_ul U8.out) U9).mono ?_
  rintro e w9 ⟨rfl, hb9⟩
  have B9 := Lib.hid (bt B8.out hb9)
  have OK9 := Lib.hid (ST.out _ _ OK8.out hb9)
  rw [decide_eq_true rfl]
  obtain ⟨t1, t2⟩ := sum12 HNN.out.1 HNN.out.2
  clear hb9 U9 O8 U8 B8 OK8 OX B6 U6 U7 B7 HS7 O7 UX UY
  go_wp2_with fail
  refine (AW.out w9 OK9.out).mono ?_
  rintro e w10 ⟨rfl, hb10⟩
  go_wp2_with fail
  go_ret
  exact ⟨rfl, bt B9.out hb10⟩
end Go.Proofs.YtbkhedfhnmkodaaDoor.Gf
