/- What is proved here: the contract of the library's merge of two sorted neighbours (symMergeCmpFunc), at items. -/
import Derived.Test.YtihjfnlimdcmkaaDoorS8g
import Derived.Deep.Cut
namespace Go.Proofs.YtihjfnlimdcmkaaDoor.Gf
open Go Go.Proofs Go.Shelf Go.RowKit Go.Lib Go.Sort

theorem ins_math2 {P Q : List Itm} {x : Itm} (h : Srt (P ++ Q)) (hp : ∀ p ∈ P, p.key < x.key) (hq : ∀ q ∈ Q, x.key ≤ q.key) : Srt (P ++ x :: Q) ∧ Kq (P ++ x :: Q) ([x] ++ (P ++ Q)) := by
  obtain ⟨h1, h2, h3⟩ := srt_app.1 h
  refine ⟨srt_app.2 ⟨h1, srt_cons.2 ⟨hq, h2⟩, fun a ha y hy => ?_⟩, ?_⟩
  · rcases List.mem_cons.1 hy with m | m
    · rw [m]; exact Nat.le_of_lt (hp a ha)
    · exact h3 a ha y m
  · have := (Kq.swap (X := P) (Y := [x]) fun a ha y hy => by rw [List.mem_singleton.1 hy]; have := hp a ha; omega).app (Kq.refl Q)
    simpa using this
theorem take_grow {X : List Itm} (h : Srt X) {h0 : Nat} (hi : h0 < X.length) {n : Nat} (hn : (X.getD h0 z0).key ≤ n) : ∀ x ∈ X.take (h0 + 1), x.key ≤ n := fun x hx => by
  have := (srt_le h hi).1 x hx
  have e : X.getD h0 z0 = X[h0] := by simp [List.getD, hi]
  rw [e] at hn
  omega
theorem drop_grow {X : List Itm} (h : Srt X) {h0 : Nat} (hi : h0 < X.length) {n : Nat} (hn : n ≤ (X.getD h0 z0).key) : ∀ x ∈ X.drop h0, n ≤ x.key := fun x hx => by
  have := (srt_le h hi).2 x hx
  have e : X.getD h0 z0 = X[h0] := by simp [List.getD, hi]
  rw [e] at hn
  omega
/-- An item of a part of the array. -/
theorem at_part {d : Array Itm} {A X R : List Itm} (h : d.toList = A ++ (X ++ R)) {a i : Nat} (ha : A.length = a) (h1 : a ≤ i) (h2 : i < a + X.length) : d[i]! = X.getD (i - a) z0 := by
  obtain rfl : d = (A ++ (X ++ R)).toArray := by rw [← h]
  simp only [getElem!_def, List.getElem?_toArray]
  rw [List.getElem?_append_right (by omega), List.getElem?_append_left (by omega), ha]
  simp [List.getD, show i - a < X.length by omega]
theorem srt_getD {X : List Itm} (h : Srt X) {i j : Nat} (h1 : i ≤ j) (h2 : j < X.length) : (X.getD i z0).key ≤ (X.getD j z0).key := by
  have := (srt_le h h2).1 (X.getD i z0) (by
    rw [show X.getD i z0 = X[i] by simp [List.getD, show i < X.length by omega]]
    exact List.mem_take_iff_getElem.2 ⟨i, by omega, rfl⟩)
  rwa [show X[j] = X.getD j z0 by simp [List.getD, h2]] at this
/-- Where symMerge cuts. -/
structure Cutp (X Y : List Itm) (a m b mid st r0 s : Nat) : Prop where
  f1 : ∀ c, st ≤ c → c < s → (X.getD (c - a) z0).key ≤ (Y.getD (mid + m - 1 - c - m) z0).key
  f2 : ∀ c, s ≤ c → c < r0 → (Y.getD (mid + m - 1 - c - m) z0).key < (X.getD (c - a) z0).key
  hmid : mid = (a + b) / 2
  hst : (mid < m ∧ st = mid + m - b ∧ r0 = mid) ∨ (m ≤ mid ∧ st = a ∧ r0 = m)
  hs : st ≤ s ∧ s ≤ r0
theorem cutp_math {X Y : List Itm} {a m b mid st r0 s : Nat} (h : Cutp X Y a m b mid st r0 s) (hX : Srt X) (hY : Srt Y) (h1 : a + X.length = m) (h2 : m + Y.length = b) (hx0 : 0 < X.length) (hy0 : 0 < Y.length) :
    (∀ x ∈ X.drop (s - a), ∀ y ∈ Y.take (mid - s), y.key < x.key) ∧ (∀ x ∈ X.take (s - a), ∀ y ∈ Y.drop (mid - s), x.key ≤ y.key) ∧ a ≤ s ∧ s ≤ m ∧ s ≤ mid ∧ mid - s ≤ Y.length := by
  obtain ⟨f1, f2, hmid, hst, hs⟩ := h
  have ha : a ≤ s ∧ s ≤ m ∧ s ≤ mid ∧ mid - s ≤ Y.length := by omega
  refine ⟨fun x hx y hy => ?_, fun x hx y hy => ?_, ha⟩
  · obtain ⟨i, hi, rfl⟩ := List.getElem_of_mem hx
    obtain ⟨j, hj, rfl⟩ := List.getElem_of_mem hy
    rw [List.length_drop] at hi
    rw [List.length_take] at hj
    have f := f2 s (Nat.le_refl _) (by omega)
    have u := srt_getD hX (i := s - a) (j := s - a + i) (by omega) (by omega)
    have v := srt_getD hY (i := j) (j := mid + m - 1 - s - m) (by omega) (by omega)
    have eu : X.getD (s - a + i) z0 = (X.drop (s - a))[i]'(by rw [List.length_drop]; omega) := by simp [List.getD, show s - a + i < X.length by omega]
    have ev : Y.getD j z0 = (Y.take (mid - s))[j]'(by rw [List.length_take]; omega) := by simp [List.getD, show j < Y.length by omega]
    rw [eu] at u
    rw [ev] at v
    omega
  · obtain ⟨i, hi, rfl⟩ := List.getElem_of_mem hx
    obtain ⟨j, hj, rfl⟩ := List.getElem_of_mem hy
    rw [List.length_take] at hi
    rw [List.length_drop] at hj
    have f := f1 (s - 1) (by omega) (by omega)
    have u := srt_getD hX (i := i) (j := s - 1 - a) (by omega) (by omega)
    have v := srt_getD hY (i := mid + m - 1 - (s - 1) - m) (j := mid - s + j) (by omega) (by omega)
    have eu : X.getD i z0 = (X.take (s - a))[i]'(by rw [List.length_take]; omega) := by simp [List.getD, show i < X.length by omega]
    have ev : Y.getD (mid - s + j) z0 = (Y.drop (mid - s))[j]'(by rw [List.length_drop]; omega) := by simp [List.getD, show mid - s + j < Y.length by omega]
    rw [eu] at u
    rw [ev] at v
    omega
set_option maxHeartbeats 8000000 in
set_option maxRecDepth 1000000 in
theorem sym_x1 {P : Program} {k : Nat} (L : LG P k) (g : Nat) (cb : Array Value) (blk off cap a m b : Nat) (d0 d : Array Itm) (w0 w : World) (R : RowK itV k w0 blk off d0) (hs : d0.size = d.size) (S : SWK itV k w0 blk off d w)
    (eg : ∀ args w, (callFunc g args).run P w = .ok (.enter g args) w) (hcmp : CmpLays P g cb itV k cfK blk off d0.size w0) (A X Y B : List Itm) (hd : d.toList = A ++ (X ++ (Y ++ B))) (ha : A.length = a) (hX : a + X.length = m) (hY : m + Y.length = b) (hx0 : 0 < X.length) (hy0 : 0 < Y.length) (sX : Srt X) (sY : Srt Y) (x1 : X.length = 1) (hsz : d.size < 4611686018427387904) :
    Calls P 63 #[.slice (some ⟨blk, off, none⟩) d.size cap, .int .i64 a, .int .i64 m, .int .i64 b, .func (.func g) #[] cb] w fun e w' => e = .returned (.tuple #[]) ∧ ∃ (d' : Array Itm) (Z : List Itm), d'.size = d.size ∧ d'.toList = A ++ (Z ++ B) ∧ Srt Z ∧ Kq Z (X ++ Y) ∧ SWK itV k w0 blk off d' w' := by
  have mixed := L.mixed
  have t0 := L.t0; have ag0 := L.a0; have zt0 := L.z0; have vt0 := L.v0
  have t3 := L.t3; have ag3 := L.a3; have zt3 := L.z3; have vt3 := L.v3
  have t4 := L.t4; have ag4 := L.a4; have zt4 := L.z4; have vt4 := L.v4
  have t22 := L.t22; have ag22 := L.a22; have zt22 := L.z22; have vt22 := L.v22
  have t51 := L.t51; have ag51 := L.a51; have zt51 := L.z51; have vt51 := L.v51
  have t72 := L.t72; have ag72 := L.a72; have zt72 := L.z72; have vt72 := L.v72
  have u22 := run_underlying L.t22; have u51 := run_underlying L.t51; have u3 := run_underlying L.t3
  have aE := L.aE; have zE := L.zE
  have hlen : d.size = A.length + (X.length + (Y.length + B.length)) := by rw [size_list hd]; simp
  have HC : Aside _ := hcmp
  have S0 : Aside (SWK itV k w0 blk off d w) := S
  obtain ⟨x, rfl⟩ : ∃ x, X = [x] := List.length_eq_one_iff.1 x1
  have hma : a + 1 ≤ m := by simp at hX; omega
  have hma2 : m ≤ a + 1 := by simp at hX; omega
  have hbs : b ≤ d.size := by simp at hlen; omega
  have hmb : m < b := by omega
  have Gx : Aside (d[a]! = x) := at_list (P := A) (R := Y ++ B) (by rw [hd]; simp) ha.symm
  have GY : Aside (∀ i, m ≤ i → i < b → d[i]! = Y.getD (i - m) z0) := fun i h1 h2 => at_part (A := A ++ [x]) (X := Y) (R := B) (by rw [hd]; simp) (by simp; omega) h1 (by omega)
  have ALL : Aside (d.toList = A ++ (x :: (Y ++ B)) ∧ A.length = a ∧ m + Y.length = b ∧ Srt Y) := ⟨by rw [hd]; simp, ha, hY, sY⟩
  have t1 : ((m : Int) - (a : Int) == 1) = true := by rw [beq_iff_eq]; omega
  have t2 : (m : Int) - (a : Int) = 1 := by omega
  clear hcmp S hd ha hX hY hx0 hy0 sX sY x1 hlen
  go_enter L.fsym, Tryd.ntmps63
  go_wp2_with fail
  go_loopg [10, 11, 12] (b - m) (fun kx s10 s11 s12 wr => ∃ (lo hi : Nat), s10 = .int .i64 lo ∧ s11 = .int .i64 hi ∧ m ≤ lo ∧ lo ≤ hi ∧ hi ≤ b ∧ hi - lo ≤ kx ∧ Aside (SWK itV k w0 blk off d wr) ∧ Aside ((∀ y ∈ Y.take (lo - m), y.key < x.key) ∧ (∀ y ∈ Y.drop (hi - m), x.key ≤ y.key)))
  case atStart => exact ⟨m, b, rfl, rfl, Nat.le_refl _, by omega, Nat.le_refl _, Nat.le_refl _, S0, ⟨by simp, fun y hy => by rw [List.drop_of_length_le (by have := ALL.out.2.2.1; omega)] at hy; cases hy⟩⟩
  case round =>
    clear S0 t1 t2
    obtain ⟨lo, hi, rfl, rfl, hml, hlh, hhb, hkx, S1, I⟩ := hrel
    by_cases hlt : lo < hi
    · have hltz : (lo : Int) < (hi : Int) := by omega
      have G2 := GY.out ((lo + hi) / 2) (by omega) (by omega)
      by_cases hlv : (Y.getD ((lo + hi) / 2 - m) z0).key < x.key
      · have hcv : cfK d[(lo + hi) / 2]! d[a]! < 0 := by rw [G2, Gx.out]; exact cfK_lt.2 hlv
        have I2 : Aside ((∀ y ∈ Y.take ((lo + hi) / 2 + 1 - m), y.key < x.key) ∧ (∀ y ∈ Y.drop (hi - m), x.key ≤ y.key)) := ⟨fun y hy => by
          rw [show (lo + hi) / 2 + 1 - m = (lo + hi) / 2 - m + 1 by omega] at hy
          have := take_grow ALL.out.2.2.2 (by have := ALL.out.2.2.1; omega) (Nat.le_refl _) y hy
          omega, I.out.2⟩
        clear I G2 hlv
        have ea1i : (((((lo : Nat) : Int) + ((hi : Nat) : Int)) / 2)).toNat = (lo + hi) / 2 := by omega
        have pa1i : (0 : Int) ≤ ((((lo : Nat) : Int) + ((hi : Nat) : Int)) / 2) := by omega
        have ba1i : ((((lo : Nat) : Int) + ((hi : Nat) : Int)) / 2) < (d.size : Int) := by omega
        have ra1i : IntKind.i64.wrap (((((lo : Nat) : Int) + ((hi : Nat) : Int)) / 2)) = ((((lo : Nat) : Int) + ((hi : Nat) : Int)) / 2) := by rw [IntKind.wrap_i64]; omega
        have ea1j : ((a : Int)).toNat = a := by omega
        have pa1j : (0 : Int) ≤ (a : Int) := by omega
        have ba1j : (a : Int) < (d.size : Int) := by omega
        have ra1j : IntKind.i64.wrap ((a : Int)) = (a : Int) := by rw [IntKind.wrap_i64]; omega
        obtain ⟨x1, hx1⟩ : ∃ x, x = d[(lo + hi) / 2]! := ⟨_, rfl⟩
        obtain ⟨y1, hy1⟩ : ∃ x, x = d[a]! := ⟨_, rfl⟩
        have l1a := S1.out.ld R (by omega) P ((lo + hi) / 2) (by omega)
        have l1b := S1.out.ld R (by omega) P (a) (by omega)
        rw [← hx1] at l1a hcv
        rw [← hy1] at l1b hcv
        have hc1 := S1.out.cmp HC.out (by omega) x1 y1
        have hd1 : decide (cfK x1 y1 < 0) = true := decide_eq_true hcv
        clear hx1 hy1
        go_wp2_with fail
        go_quiet_grown (first | (go_at_fn g; refine Calls.grown_of (hc1 _ _)))
        have S2 : Aside (SWK itV k w0 blk off d (grow (wr.drewN nq) osq)) := S1.out.grown nq osq
        clear l1a l1b hc1 S1
        generalize grow (wr.drewN nq) osq = w2 at S2 ⊢
        clear nq osq
        go_wp2
        go_roundg (hi - ((lo + hi) / 2 + 1))
        case measure => omega
        case rel => exact ⟨(lo + hi) / 2 + 1, hi, by rw [show ((lo : Int) + (hi : Int)) / 2 + 1 = (((lo + hi) / 2 + 1 : Nat) : Int) by omega], rfl, by omega, by omega, hhb, Nat.le_refl _, S2, I2⟩
      · have hcv : ¬ cfK d[(lo + hi) / 2]! d[a]! < 0 := by rw [G2, Gx.out, cfK_lt]; exact hlv
        have I2 : Aside ((∀ y ∈ Y.take (lo - m), y.key < x.key) ∧ (∀ y ∈ Y.drop ((lo + hi) / 2 - m), x.key ≤ y.key)) := ⟨I.out.1, drop_grow ALL.out.2.2.2 (by have := ALL.out.2.2.1; omega) (by omega)⟩
        clear I G2 hlv
        have ea2i : (((((lo : Nat) : Int) + ((hi : Nat) : Int)) / 2)).toNat = (lo + hi) / 2 := by omega
        have pa2i : (0 : Int) ≤ ((((lo : Nat) : Int) + ((hi : Nat) : Int)) / 2) := by omega
        have ba2i : ((((lo : Nat) : Int) + ((hi : Nat) : Int)) / 2) < (d.size : Int) := by omega
        have ra2i : IntKind.i64.wrap (((((lo : Nat) : Int) + ((hi : Nat) : Int)) / 2)) = ((((lo : Nat) : Int) + ((hi : Nat) : Int)) / 2) := by rw [IntKind.wrap_i64]; omega
        have ea2j : ((a : Int)).toNat = a := by omega
        have pa2j : (0 : Int) ≤ (a : Int) := by omega
        have ba2j : (a : Int) < (d.size : Int) := by omega
        have ra2j : IntKind.i64.wrap ((a : Int)) = (a : Int) := by rw [IntKind.wrap_i64]; omega
        obtain ⟨x2, hx2⟩ : ∃ x, x = d[(lo + hi) / 2]! := ⟨_, rfl⟩
        obtain ⟨y2, hy2⟩ : ∃ x, x = d[a]! := ⟨_, rfl⟩
        have l2a := S1.out.ld R (by omega) P ((lo + hi) / 2) (by omega)
        have l2b := S1.out.ld R (by omega) P (a) (by omega)
        rw [← hx2] at l2a hcv
        rw [← hy2] at l2b hcv
        have hc2 := S1.out.cmp HC.out (by omega) x2 y2
        have hd2 : decide (cfK x2 y2 < 0) = false := decide_eq_false hcv
        clear hx2 hy2
        go_wp2_with fail
        go_quiet_grown (first | (go_at_fn g; refine Calls.grown_of (hc2 _ _)))
        have S2 : Aside (SWK itV k w0 blk off d (grow (wr.drewN nq) osq)) := S1.out.grown nq osq
        clear l2a l2b hc2 S1
        generalize grow (wr.drewN nq) osq = w2 at S2 ⊢
        clear nq osq
        go_wp2
        go_roundg ((lo + hi) / 2 - lo)
        case measure => omega
        case rel => exact ⟨lo, (lo + hi) / 2, rfl, by rw [show ((lo : Int) + (hi : Int)) / 2 = (((lo + hi) / 2 : Nat) : Int) by omega], hml, by omega, by omega, Nat.le_refl _, S2, I2⟩
    · obtain rfl : hi = lo := by omega
      have hltz : ¬ (hi : Int) < (hi : Int) := by omega
      obtain ⟨Y1, Y2, hY12, hl1, i1, i2⟩ : ∃ Y1 Y2, Y = Y1 ++ Y2 ∧ Y1.length = hi - m ∧ (∀ y ∈ Y1, y.key < x.key) ∧ (∀ y ∈ Y2, x.key ≤ y.key) := ⟨_, _, (List.take_append_drop (hi - m) Y).symm, by rw [List.length_take]; have := ALL.out.2.2.1; omega, I.out.1, I.out.2⟩
      have J : Aside (Y = Y1 ++ Y2 ∧ Y1.length = hi - m ∧ (∀ y ∈ Y1, y.key < x.key) ∧ (∀ y ∈ Y2, x.key ≤ y.key)) := ⟨hY12, hl1, i1, i2⟩
      have K0 : Aside (d.toList = A ++ ([] ++ x :: (Y1 ++ (Y2 ++ B))) ∧ A.length = a ∧ [] ++ Y1 = Y1) := ⟨by rw [ALL.out.1, hY12]; simp, ALL.out.2.1, rfl⟩
      have w1 : IntKind.i64.wrap ((hi : Int) - 1) = (hi : Int) - 1 := by rw [IntKind.wrap_i64]; omega
      clear I hY12 hl1 i1 i2
      go_wp2_with fail
      go_loopg [13] (hi - 1 - a) (fun kx s13 wr => ∃ (q : Nat) (dk : Array Itm) (P1 Q : List Itm), s13 = .int .i64 q ∧ a ≤ q ∧ q ≤ hi - 1 ∧ hi - 1 - q ≤ kx ∧ dk.size = d.size ∧ Aside (SWK itV k w0 blk off dk wr) ∧ Aside (dk.toList = A ++ (P1 ++ x :: (Q ++ (Y2 ++ B))) ∧ P1.length = q - a ∧ P1 ++ Q = Y1))
      case atStart => exact ⟨a, d, [], Y1, rfl, Nat.le_refl _, by omega, Nat.le_refl _, rfl, S1, ⟨K0.out.1, by simp, rfl⟩⟩
      case round =>
        clear S1 K0
        obtain ⟨q, dk, P1, Q, rfl, haq, hqh, hkx2, hds, S1, H1⟩ := hrel
        by_cases hlt2 : q < hi - 1
        · have hltz2 : (q : Int) < (hi : Int) - 1 := by omega
          obtain ⟨h1, h2, h3⟩ := H1.out
          have hql : Q.length = hi - m - (q - a) := by have := congrArg List.length h3; rw [List.length_append, J.out.2.1] at this; omega
          obtain ⟨z, Q', rfl⟩ : ∃ z Q', Q = z :: Q' := by cases Q with | nil => simp at hql; omega | cons z r => exact ⟨z, r, rfl⟩
          have HL : Aside ((swp dk q (q + 1)).toList = A ++ ((P1 ++ [z]) ++ x :: (Q' ++ (Y2 ++ B))) ∧ (P1 ++ [z]).length = q + 1 - a ∧ (P1 ++ [z]) ++ Q' = Y1) := by
            have := swp_list (d := dk) (P := A ++ P1) (Q := []) (R := Q' ++ (Y2 ++ B)) (x := x) (y := z) (by rw [h1]; simp) (i := q) (j := q + 1) (by have := ALL.out.2.1; simp; omega) (by have := ALL.out.2.1; simp; omega)
            exact ⟨by rw [this]; simp, by simp; omega, by rw [← h3]; simp⟩
          clear h1 h2 h3 hql H1
          go_wp2_with fail
          have ea3i : ((q : Int)).toNat = q := by omega
          have pa3i : (0 : Int) ≤ (q : Int) := by omega
          have ba3i : (q : Int) < (d.size : Int) := by omega
          have ra3i : IntKind.i64.wrap ((q : Int)) = (q : Int) := by rw [IntKind.wrap_i64]; omega
          have ea3j : (((q : Int) + 1)).toNat = q + 1 := by omega
          have pa3j : (0 : Int) ≤ ((q : Int) + 1) := by omega
          have ba3j : ((q : Int) + 1) < (d.size : Int) := by omega
          have ra3j : IntKind.i64.wrap (((q : Int) + 1)) = ((q : Int) + 1) := by rw [IntKind.wrap_i64]; omega
          have S2 : Aside (SWK itV k w0 blk off (swp dk (q) (q + 1)) ((wr.drew.setCells blk (off + (q) * k) (itV dk[q + 1]!)).setCells blk (off + (q + 1) * k) (itV dk[q]!))) := S1.out.swapped R (q) (q + 1) (by omega) (by omega)
          have l3a := S1.out.ld1 R (by omega) P (q) (by omega)
          have l3b := S1.out.ld1 R (by omega) P (q + 1) (by omega)
          have s3a := S1.out.st1 R (by omega) P (q) (by omega) dk[q + 1]!
          have s3b := S1.out.st2 R (by omega) P (q) (q + 1) (by omega) (by omega) dk[q + 1]! dk[q]!
          have n3a : (itV dk[q]!).length = k := R.hk _
          have n3b : (itV dk[q + 1]!).length = k := R.hk _
          generalize itV dk[q]! = cI3 at S2 l3a s3b n3a
          generalize itV dk[q + 1]! = cJ3 at S2 l3b s3a s3b n3b
          clear S1
          go_wp2_with fail
          go_big_region_o
          clear l3a l3b s3a s3b
          generalize (wr.drew.setCells blk (off + (q) * k) cJ3).setCells blk (off + (q + 1) * k) cI3 = w2 at S2 ⊢
          go_wp2
          go_roundg (hi - 1 - (q + 1))
          case measure => omega
          case rel => exact ⟨q + 1, swp dk q (q + 1), P1 ++ [z], Q', by go_num, by omega, by omega, Nat.le_refl _, by rw [size_swp]; exact hds, S2, HL⟩
        · have hltz2 : ¬ (q : Int) < (hi : Int) - 1 := by omega
          go_wp2
          (try simp only [Exit.inBlock, Exit.then]); refine bodyPost_ret (results_none rfl _ _ _) rfl ?_
          obtain ⟨h1, h2, h3⟩ := H1.out
          obtain ⟨j1, j2, j3, j4⟩ := J.out
          have hql : Q = [] := List.eq_nil_of_length_eq_zero (by have := congrArg List.length h3; rw [List.length_append, j2] at this; omega)
          subst hql
          rw [List.append_nil] at h3
          subst h3
          have hm := ins_math2 (x := x) (by rw [← j1]; exact ALL.out.2.2.2) j3 j4
          exact ⟨rfl, dk, hds, P1 ++ x :: Y2, by rw [h1]; simp, hm.1, by rw [j1]; exact hm.2, S1.out⟩
set_option maxHeartbeats 8000000 in
set_option maxRecDepth 1000000 in
theorem sym_y1 {P : Program} {k : Nat} (L : LG P k) (g : Nat) (cb : Array Value) (blk off cap a m b : Nat) (d0 d : Array Itm) (w0 w : World) (R : RowK itV k w0 blk off d0) (hs : d0.size = d.size) (S : SWK itV k w0 blk off d w)
    (eg : ∀ args w, (callFunc g args).run P w = .ok (.enter g args) w) (hcmp : CmpLays P g cb itV k cfK blk off d0.size w0) (A X Y B : List Itm) (hd : d.toList = A ++ (X ++ (Y ++ B))) (ha : A.length = a) (hX : a + X.length = m) (hY : m + Y.length = b) (hx0 : 0 < X.length) (hy0 : 0 < Y.length) (sX : Srt X) (sY : Srt Y) (x1 : X.length ≠ 1) (y1 : Y.length = 1) (hsz : d.size < 4611686018427387904) :
    Calls P 63 #[.slice (some ⟨blk, off, none⟩) d.size cap, .int .i64 a, .int .i64 m, .int .i64 b, .func (.func g) #[] cb] w fun e w' => e = .returned (.tuple #[]) ∧ ∃ (d' : Array Itm) (Z : List Itm), d'.size = d.size ∧ d'.toList = A ++ (Z ++ B) ∧ Srt Z ∧ Kq Z (X ++ Y) ∧ SWK itV k w0 blk off d' w' := by
  have mixed := L.mixed
  have t0 := L.t0; have ag0 := L.a0; have zt0 := L.z0; have vt0 := L.v0
  have t3 := L.t3; have ag3 := L.a3; have zt3 := L.z3; have vt3 := L.v3
  have t4 := L.t4; have ag4 := L.a4; have zt4 := L.z4; have vt4 := L.v4
  have t22 := L.t22; have ag22 := L.a22; have zt22 := L.z22; have vt22 := L.v22
  have t51 := L.t51; have ag51 := L.a51; have zt51 := L.z51; have vt51 := L.v51
  have t72 := L.t72; have ag72 := L.a72; have zt72 := L.z72; have vt72 := L.v72
  have u22 := run_underlying L.t22; have u51 := run_underlying L.t51; have u3 := run_underlying L.t3
  have aE := L.aE; have zE := L.zE
  have hlen : d.size = A.length + (X.length + (Y.length + B.length)) := by rw [size_list hd]; simp
  have HC : Aside _ := hcmp
  have S0 : Aside (SWK itV k w0 blk off d w) := S
  obtain ⟨y, rfl⟩ : ∃ y, Y = [y] := List.length_eq_one_iff.1 y1
  have hbm : m + 1 ≤ b := by simp at hY; omega
  have hbm2 : b ≤ m + 1 := by simp at hY; omega
  have hbs : b ≤ d.size := by simp at hlen; omega
  have ham : a < m := by omega
  have Gy : Aside (d[m]! = y) := at_list (P := A ++ X) (R := B) (by rw [hd]; simp) (by simp; omega)
  have GX : Aside (∀ i, a ≤ i → i < m → d[i]! = X.getD (i - a) z0) := fun i h1 h2 => at_part (A := A) (X := X) (R := [y] ++ B) (by rw [hd]) ha h1 (by omega)
  have ALL : Aside (d.toList = A ++ (X ++ (y :: B)) ∧ A.length = a ∧ a + X.length = m ∧ Srt X) := ⟨by rw [hd]; simp, ha, hX, sX⟩
  have t1 : ((m : Int) - (a : Int) == 1) = false := by rw [beq_eq_false_iff_ne]; omega
  have t2 : ¬ (m : Int) - (a : Int) = 1 := by omega
  have t3 : ((b : Int) - (m : Int) == 1) = true := by rw [beq_iff_eq]; omega
  have t4 : (b : Int) - (m : Int) = 1 := by omega
  clear hcmp S hd ha hX hY hx0 hy0 sX sY x1 y1 hlen
  go_enter L.fsym, Tryd.ntmps63
  go_wp2_with fail
  go_loopg [14, 15, 16] (m - a) (fun kx s14 s15 s16 wr => ∃ (lo hi : Nat), s14 = .int .i64 lo ∧ s15 = .int .i64 hi ∧ a ≤ lo ∧ lo ≤ hi ∧ hi ≤ m ∧ hi - lo ≤ kx ∧ Aside (SWK itV k w0 blk off d wr) ∧ Aside ((∀ x ∈ X.take (lo - a), x.key ≤ y.key) ∧ (∀ x ∈ X.drop (hi - a), y.key < x.key)))
  case atStart => exact ⟨a, m, rfl, rfl, Nat.le_refl _, by omega, Nat.le_refl _, Nat.le_refl _, S0, ⟨by simp, fun x hx => by rw [List.drop_of_length_le (by have := ALL.out.2.2.1; omega)] at hx; cases hx⟩⟩
  case round =>
    clear S0 t1 t2 t3 t4
    obtain ⟨lo, hi, rfl, rfl, hml, hlh, hhb, hkx, S1, I⟩ := hrel
    by_cases hlt : lo < hi
    · have hltz : (lo : Int) < (hi : Int) := by omega
      have G2 := GX.out ((lo + hi) / 2) (by omega) (by omega)
      by_cases hlv : y.key < (X.getD ((lo + hi) / 2 - a) z0).key
      · have hcv : cfK d[m]! d[(lo + hi) / 2]! < 0 := by rw [G2, Gy.out]; exact cfK_lt.2 hlv
        have I2 : Aside ((∀ x ∈ X.take (lo - a), x.key ≤ y.key) ∧ (∀ x ∈ X.drop ((lo + hi) / 2 - a), y.key < x.key)) := ⟨I.out.1, drop_grow (n := y.key + 1) ALL.out.2.2.2 (by have := ALL.out.2.2.1; omega) (by omega)⟩
        clear I G2 hlv
        have ea1i : ((m : Int)).toNat = m := by omega
        have pa1i : (0 : Int) ≤ (m : Int) := by omega
        have ba1i : (m : Int) < (d.size : Int) := by omega
        have ra1i : IntKind.i64.wrap ((m : Int)) = (m : Int) := by rw [IntKind.wrap_i64]; omega
        have ea1j : (((((lo : Nat) : Int) + ((hi : Nat) : Int)) / 2)).toNat = (lo + hi) / 2 := by omega
        have pa1j : (0 : Int) ≤ ((((lo : Nat) : Int) + ((hi : Nat) : Int)) / 2) := by omega
        have ba1j : ((((lo : Nat) : Int) + ((hi : Nat) : Int)) / 2) < (d.size : Int) := by omega
        have ra1j : IntKind.i64.wrap (((((lo : Nat) : Int) + ((hi : Nat) : Int)) / 2)) = ((((lo : Nat) : Int) + ((hi : Nat) : Int)) / 2) := by rw [IntKind.wrap_i64]; omega
        obtain ⟨x1, hx1⟩ : ∃ x, x = d[m]! := ⟨_, rfl⟩
        obtain ⟨y1, hy1⟩ : ∃ x, x = d[(lo + hi) / 2]! := ⟨_, rfl⟩
        have l1a := S1.out.ld R (by omega) P (m) (by omega)
        have l1b := S1.out.ld R (by omega) P ((lo + hi) / 2) (by omega)
        rw [← hx1] at l1a hcv
        rw [← hy1] at l1b hcv
        have hc1 := S1.out.cmp HC.out (by omega) x1 y1
        have hd1 : decide (cfK x1 y1 < 0) = true := decide_eq_true hcv
        clear hx1 hy1
        go_wp2_with fail
        go_quiet_grown (first | (go_at_fn g; refine Calls.grown_of (hc1 _ _)))
        have S2 : Aside (SWK itV k w0 blk off d (grow (wr.drewN nq) osq)) := S1.out.grown nq osq
        clear l1a l1b hc1 S1
        generalize grow (wr.drewN nq) osq = w2 at S2 ⊢
        clear nq osq
        go_wp2
        go_roundg ((lo + hi) / 2 - lo)
        case measure => omega
        case rel => exact ⟨lo, (lo + hi) / 2, rfl, by rw [show ((lo : Int) + (hi : Int)) / 2 = (((lo + hi) / 2 : Nat) : Int) by omega], hml, by omega, by omega, Nat.le_refl _, S2, I2⟩
      · have hcv : ¬ cfK d[m]! d[(lo + hi) / 2]! < 0 := by rw [G2, Gy.out, cfK_lt]; exact hlv
        have I2 : Aside ((∀ x ∈ X.take ((lo + hi) / 2 + 1 - a), x.key ≤ y.key) ∧ (∀ x ∈ X.drop (hi - a), y.key < x.key)) := ⟨by
          rw [show (lo + hi) / 2 + 1 - a = (lo + hi) / 2 - a + 1 by omega]
          exact take_grow ALL.out.2.2.2 (by have := ALL.out.2.2.1; omega) (by omega), I.out.2⟩
        clear I G2 hlv
        have ea2i : ((m : Int)).toNat = m := by omega
        have pa2i : (0 : Int) ≤ (m : Int) := by omega
        have ba2i : (m : Int) < (d.size : Int) := by omega
        have ra2i : IntKind.i64.wrap ((m : Int)) = (m : Int) := by rw [IntKind.wrap_i64]; omega
        have ea2j : (((((lo : Nat) : Int) + ((hi : Nat) : Int)) / 2)).toNat = (lo + hi) / 2 := by omega
        have pa2j : (0 : Int) ≤ ((((lo : Nat) : Int) + ((hi : Nat) : Int)) / 2) := by omega
        have ba2j : ((((lo : Nat) : Int) + ((hi : Nat) : Int)) / 2) < (d.size : Int) := by omega
        have ra2j : IntKind.i64.wrap (((((lo : Nat) : Int) + ((hi : Nat) : Int)) / 2)) = ((((lo : Nat) : Int) + ((hi : Nat) : Int)) / 2) := by rw [IntKind.wrap_i64]; omega
        obtain ⟨x2, hx2⟩ : ∃ x, x = d[m]! := ⟨_, rfl⟩
        obtain ⟨y2, hy2⟩ : ∃ x, x = d[(lo + hi) / 2]! := ⟨_, rfl⟩
        have l2a := S1.out.ld R (by omega) P (m) (by omega)
        have l2b := S1.out.ld R (by omega) P ((lo + hi) / 2) (by omega)
        rw [← hx2] at l2a hcv
        rw [← hy2] at l2b hcv
        have hc2 := S1.out.cmp HC.out (by omega) x2 y2
        have hd2 : decide (cfK x2 y2 < 0) = false := decide_eq_false hcv
        clear hx2 hy2
        go_wp2_with fail
        go_quiet_grown (first | (go_at_fn g; refine Calls.grown_of (hc2 _ _)))
        have S2 : Aside (SWK itV k w0 blk off d (grow (wr.drewN nq) osq)) := S1.out.grown nq osq
        clear l2a l2b hc2 S1
        generalize grow (wr.drewN nq) osq = w2 at S2 ⊢
        clear nq osq
        go_wp2
        go_roundg (hi - ((lo + hi) / 2 + 1))
        case measure => omega
        case rel => exact ⟨(lo + hi) / 2 + 1, hi, by rw [show ((lo : Int) + (hi : Int)) / 2 + 1 = (((lo + hi) / 2 + 1 : Nat) : Int) by omega], rfl, by omega, by omega, hhb, Nat.le_refl _, S2, I2⟩
    · obtain rfl : hi = lo := by omega
      have hltz : ¬ (hi : Int) < (hi : Int) := by omega
      obtain ⟨X1, X2, hX12, hl1, i1, i2⟩ : ∃ X1 X2, X = X1 ++ X2 ∧ X1.length = hi - a ∧ (∀ x ∈ X1, x.key ≤ y.key) ∧ (∀ x ∈ X2, y.key < x.key) := ⟨_, _, (List.take_append_drop (hi - a) X).symm, by rw [List.length_take]; have := ALL.out.2.2.1; omega, I.out.1, I.out.2⟩
      have J : Aside (X = X1 ++ X2 ∧ X1.length = hi - a ∧ (∀ x ∈ X1, x.key ≤ y.key) ∧ (∀ x ∈ X2, y.key < x.key)) := ⟨hX12, hl1, i1, i2⟩
      have K0 : Aside (d.toList = (A ++ X1) ++ (X2 ++ y :: ([] ++ B)) ∧ (A ++ X1).length = hi ∧ X2.length = m - hi) := ⟨by rw [ALL.out.1, hX12]; simp, by have := ALL.out.2.1; simp; omega, by have := ALL.out.2.2.1; rw [hX12] at this; simp at this; omega⟩
      clear I hX12 hl1 i1 i2
      go_wp2_with fail
      go_loopg [17] (m - hi) (fun kx s17 wr => ∃ (q : Nat) (dk : Array Itm) (P1 Q : List Itm), s17 = .int .i64 q ∧ hi ≤ q ∧ q ≤ m ∧ q - hi ≤ kx ∧ dk.size = d.size ∧ Aside (SWK itV k w0 blk off dk wr) ∧ Aside (dk.toList = (A ++ X1) ++ (P1 ++ y :: (Q ++ B)) ∧ (A ++ X1).length = hi ∧ P1.length = q - hi ∧ P1 ++ Q = X2))
      case atStart => exact ⟨m, d, X2, [], rfl, by omega, Nat.le_refl _, Nat.le_refl _, rfl, S1, ⟨K0.out.1, K0.out.2.1, K0.out.2.2, by simp⟩⟩
      case round =>
        clear S1 K0
        obtain ⟨q, dk, P1, Q, rfl, haq, hqh, hkx2, hds, S1, H1⟩ := hrel
        by_cases hlt2 : hi < q
        · obtain ⟨qp, rfl⟩ : ∃ qp, q = qp + 1 := ⟨q - 1, by omega⟩
          have hltz2 : (hi : Int) < (qp : Int) + 1 := by omega
          obtain ⟨h1, h2, h3, h4⟩ := H1.out
          obtain ⟨P', z, rfl⟩ := snoc_of (L := P1) (by omega)
          rw [List.length_append, List.length_singleton] at h3
          have HL : Aside ((swp dk (qp + 1) qp).toList = (A ++ X1) ++ (P' ++ y :: ((z :: Q) ++ B)) ∧ (A ++ X1).length = hi ∧ P'.length = qp - hi ∧ P' ++ (z :: Q) = X2) := by
            have := swp_list' (d := dk) (P := (A ++ X1) ++ P') (Q := []) (R := Q ++ B) (x := z) (y := y) (by rw [h1]; simp) (i := qp + 1) (j := qp) (by rw [List.length_append, h2]; simp; omega) (by rw [List.length_append, h2]; omega)
            exact ⟨by rw [this]; simp, h2, by omega, by rw [← h4]; simp⟩
          clear h1 h2 h3 h4 H1
          go_wp2_with fail
          have ea3i : (((qp : Int) + 1)).toNat = qp + 1 := by omega
          have pa3i : (0 : Int) ≤ ((qp : Int) + 1) := by omega
          have ba3i : ((qp : Int) + 1) < (d.size : Int) := by omega
          have ra3i : IntKind.i64.wrap (((qp : Int) + 1)) = ((qp : Int) + 1) := by rw [IntKind.wrap_i64]; omega
          have ea3j : ((qp : Int)).toNat = qp := by omega
          have pa3j : (0 : Int) ≤ (qp : Int) := by omega
          have ba3j : (qp : Int) < (d.size : Int) := by omega
          have ra3j : IntKind.i64.wrap ((qp : Int)) = (qp : Int) := by rw [IntKind.wrap_i64]; omega
          have S2 : Aside (SWK itV k w0 blk off (swp dk (qp + 1) (qp)) ((wr.drew.setCells blk (off + (qp + 1) * k) (itV dk[qp]!)).setCells blk (off + (qp) * k) (itV dk[qp + 1]!))) := S1.out.swapped R (qp + 1) (qp) (by omega) (by omega)
          have l3a := S1.out.ld1 R (by omega) P (qp + 1) (by omega)
          have l3b := S1.out.ld1 R (by omega) P (qp) (by omega)
          have s3a := S1.out.st1 R (by omega) P (qp + 1) (by omega) dk[qp]!
          have s3b := S1.out.st2 R (by omega) P (qp + 1) (qp) (by omega) (by omega) dk[qp]! dk[qp + 1]!
          have n3a : (itV dk[qp + 1]!).length = k := R.hk _
          have n3b : (itV dk[qp]!).length = k := R.hk _
          generalize itV dk[qp + 1]! = cI3 at S2 l3a s3b n3a
          generalize itV dk[qp]! = cJ3 at S2 l3b s3a s3b n3b
          clear S1
          go_wp2_with fail
          go_big_region_o
          clear l3a l3b s3a s3b
          generalize (wr.drew.setCells blk (off + (qp + 1) * k) cJ3).setCells blk (off + (qp) * k) cI3 = w2 at S2 ⊢
          go_wp2
          go_roundg (qp - hi)
          case measure => omega
          case rel => exact ⟨qp, swp dk (qp + 1) qp, P', z :: Q, by first | rfl | go_num | (congr 1; omega), by omega, by omega, Nat.le_refl _, by rw [size_swp]; exact hds, S2, HL⟩
        · have hltz2 : ¬ (hi : Int) < (q : Int) := by omega
          go_wp2
          (try simp only [Exit.inBlock, Exit.then]); refine bodyPost_ret (results_none rfl _ _ _) rfl ?_
          obtain ⟨h1, h2, h3, h4⟩ := H1.out
          obtain ⟨j1, j2, j3, j4⟩ := J.out
          have hql : P1 = [] := List.eq_nil_of_length_eq_zero (by omega)
          subst hql
          rw [List.nil_append] at h4
          subst h4
          have hm := ins_math (P := X1) (Q := Q) (x := y) (by rw [← j1]; exact ALL.out.2.2.2) j4 j3
          exact ⟨rfl, dk, hds, X1 ++ y :: Q, by rw [h1]; simp, hm.1, by rw [j1]; exact hm.2, S1.out⟩
end Go.Proofs.YtihjfnlimdcmkaaDoor.Gf
