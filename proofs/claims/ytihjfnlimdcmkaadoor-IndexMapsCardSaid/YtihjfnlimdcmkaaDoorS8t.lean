/- What is proved here: the contract of the library's merge of two sorted neighbours (symMergeCmpFunc), whole, at items. -/
import Derived.Test.YtihjfnlimdcmkaaDoorS8s
namespace Go.Proofs.YtihjfnlimdcmkaaDoor.Gf
open Go Go.Proofs Go.Shelf Go.RowKit Go.Lib Go.Sort

/-- Where symMerge's search stands. -/
structure Cp2 (X Y : List Itm) (a m b mid p st r0 lo hi : Nat) : Prop where
  f1 : ∀ c, st ≤ c → c < lo → (X.getD (c - a) z0).key ≤ (Y.getD (p - c - m) z0).key
  f2 : ∀ c, hi ≤ c → c < r0 → (Y.getD (p - c - m) z0).key < (X.getD (c - a) z0).key
theorem cp2_hi {X Y : List Itm} {a m b mid p st r0 lo hi c : Nat} (h : Cp2 X Y a m b mid p st r0 lo hi) (sX : Srt X) (sY : Srt Y) (h1 : a + X.length = m) (h2 : m + Y.length = b) (h4 : p + 1 = mid + m)
    (hst : (mid < m ∧ st = mid + m - b ∧ r0 = mid) ∨ (m ≤ mid ∧ st = a ∧ r0 = m)) (hmid : mid = (a + b) / 2) (hc : st ≤ c) (hc2 : c < r0) (hl : (Y.getD (p - c - m) z0).key < (X.getD (c - a) z0).key) : Cp2 X Y a m b mid p st r0 lo c := by
  refine ⟨h.f1, fun c' h5 h6 => ?_⟩
  have u := srt_getD sX (i := c - a) (j := c' - a) (by omega) (by omega)
  have v := srt_getD sY (i := p - c' - m) (j := p - c - m) (by omega) (by omega)
  omega
theorem cp2_lo {X Y : List Itm} {a m b mid p st r0 lo hi c : Nat} (h : Cp2 X Y a m b mid p st r0 lo hi) (sX : Srt X) (sY : Srt Y) (h1 : a + X.length = m) (h2 : m + Y.length = b) (h4 : p + 1 = mid + m)
    (hst : (mid < m ∧ st = mid + m - b ∧ r0 = mid) ∨ (m ≤ mid ∧ st = a ∧ r0 = m)) (hmid : mid = (a + b) / 2) (hc : st ≤ c) (hc2 : c < r0) (hl : ¬ (Y.getD (p - c - m) z0).key < (X.getD (c - a) z0).key) : Cp2 X Y a m b mid p st r0 (c + 1) hi := by
  refine ⟨fun c' h5 h6 => ?_, h.f2⟩
  have u := srt_getD sX (i := c' - a) (j := c - a) (by omega) (by omega)
  have v := srt_getD sY (i := p - c - m) (j := p - c' - m) (by omega) (by omega)
  omega
set_option maxHeartbeats 16000000 in
set_option maxRecDepth 1000000 in
theorem sym_any {P : Program} {k : Nat} (L : LG P k) (g : Nat) (cb : Array Value) (blk off cap : Nat) (d0 : Array Itm) (w0 : World) (R : RowK itV k w0 blk off d0) (eg : ∀ args w, (callFunc g args).run P w = .ok (.enter g args) w) (hcmp : CmpLays P g cb itV k cfK blk off d0.size w0) : ∀ (N a m b : Nat) (d : Array Itm) (w : World), b - a < N → d0.size = d.size → SWK itV k w0 blk off d w → ∀ (A X Y B : List Itm), d.toList = A ++ (X ++ (Y ++ B)) → A.length = a → a + X.length = m → m + Y.length = b → 0 < X.length → 0 < Y.length → Srt X → Srt Y → d.size < 4611686018427387904 →
    Calls P 63 #[.slice (some ⟨blk, off, none⟩) d.size cap, .int .i64 a, .int .i64 m, .int .i64 b, .func (.func g) #[] cb] w fun e w' => e = .returned (.tuple #[]) ∧ ∃ (d' : Array Itm) (Z : List Itm), d'.size = d.size ∧ d'.toList = A ++ (Z ++ B) ∧ Srt Z ∧ Kq Z (X ++ Y) ∧ SWK itV k w0 blk off d' w' := by
  have mixed := L.mixed
  have t0 := L.t0; have ag0 := L.a0; have zt0 := L.z0; have vt0 := L.v0
  have t3 := L.t3; have ag3 := L.a3; have zt3 := L.z3; have vt3 := L.v3
  have t4 := L.t4; have ag4 := L.a4; have zt4 := L.z4; have vt4 := L.v4
  have t22 := L.t22; have ag22 := L.a22; have zt22 := L.z22; have vt22 := L.v22
  have t51 := L.t51; have ag51 := L.a51; have zt51 := L.z51; have vt51 := L.v51
  have t72 := L.t72; have ag72 := L.a72; have zt72 := L.z72; have vt72 := L.v72
  have u22 := run_underlying L.t22; have u51 := run_underlying L.t51; have u3 := run_underlying L.t3
  have aE := L.aE; have zE := L.zE
  have erot : ∀ args w, (callFunc 64 args).run P w = .ok (.enter 64 args) w := enters_of L.frot (by kernel_rfl) rfl
  have esym : ∀ args w, (callFunc 63 args).run P w = .ok (.enter 63 args) w := enters_of L.fsym (by kernel_rfl) rfl
  intro N
  induction N with
  | zero => intro _ _ _ _ _ h; exact absurd h (Nat.not_lt_zero _)
  | succ N ih =>
    intro a m b d w hN hs S A X Y B hd ha hX hY hx0 hy0 sX sY hsz
    by_cases x1 : X.length = 1
    · exact sym_x1 L g cb blk off cap a m b d0 d w0 w R hs S eg hcmp A X Y B hd ha hX hY hx0 hy0 sX sY x1 hsz
    by_cases y1 : Y.length = 1
    · exact sym_y1 L g cb blk off cap a m b d0 d w0 w R hs S eg hcmp A X Y B hd ha hX hY hx0 hy0 sX sY x1 y1 hsz
    have hlen : d.size = A.length + (X.length + (Y.length + B.length)) := by rw [size_list hd]; simp
    have IH : Aside _ := ih
    have HC : Aside _ := hcmp
    have S0 : Aside (SWK itV k w0 blk off d w) := S
    have hbs : b ≤ d.size := by omega
    have ham : a + 2 ≤ m := by omega
    have hmb : m + 2 ≤ b := by omega
    have GX : Aside (∀ i, a ≤ i → i < m → d[i]! = X.getD (i - a) z0) := fun i h1 h2 => at_part (A := A) (X := X) (R := Y ++ B) hd ha h1 (by omega)
    have GY : Aside (∀ i, m ≤ i → i < b → d[i]! = Y.getD (i - m) z0) := fun i h1 h2 => at_part (A := A ++ X) (X := Y) (R := B) (by rw [hd]; simp) (by simp; omega) h1 (by omega)
    obtain ⟨mid, hmid⟩ : ∃ q, q = (a + b) / 2 := ⟨_, rfl⟩
    obtain ⟨n, hn⟩ : ∃ q, q = mid + m := ⟨_, rfl⟩
    obtain ⟨p, hp⟩ : ∃ q, q + 1 = mid + m := ⟨mid + m - 1, by omega⟩
    have ALL : Aside (d.toList = A ++ (X ++ (Y ++ B)) ∧ A.length = a ∧ a + X.length = m ∧ m + Y.length = b ∧ Srt X ∧ Srt Y) := ⟨hd, ha, hX, hY, sX, sY⟩
    have NUM : Aside (mid = (a + b) / 2 ∧ n = mid + m ∧ p + 1 = mid + m ∧ b - a < N + 1) := ⟨hmid, hn, hp, hN⟩
    have t1 : ((m : Int) - (a : Int) == 1) = false := by rw [beq_eq_false_iff_ne]; omega
    have t2 : ¬ (m : Int) - (a : Int) = 1 := by omega
    have t3 : ((b : Int) - (m : Int) == 1) = false := by rw [beq_eq_false_iff_ne]; omega
    have t4 : ¬ (b : Int) - (m : Int) = 1 := by omega
    have q1 : ((a : Int) + (b : Int)) / 2 = (mid : Int) := by omega
    have q2 : (mid : Int) + (m : Int) = (n : Int) := by omega
    have q3 : (n : Int) - 1 = (p : Int) := by omega
    have m1 : a < mid := by omega
    have m2 : mid < b := by omega
    have m3 : n ≤ mid + m := by omega
    have m4 : mid + m ≤ n := by omega
    have m5 : p + 1 ≤ n := by omega
    have m6 : n ≤ p + 1 := by omega
    have m7 : 2 * mid ≤ a + b := by omega
    have m8 : a + b ≤ 2 * mid + 1 := by omega
    clear ih hcmp S hd ha hX hY hx0 hy0 sX sY x1 y1 hlen hmid hn hp hN
    go_enter L.fsym, Tryd.ntmps63
    go_upto_if 140 with fail
    go_cut [20, 21] from 25 (fun s20 s21 wc => ∃ st r0 : Nat, s20 = .int .i64 st ∧ s21 = .int .i64 r0 ∧ Aside ((mid < m ∧ st = mid + m - b ∧ r0 = mid) ∨ (m ≤ mid ∧ st = a ∧ r0 = m)) ∧ wc = w)
    case first =>
      by_cases hm : mid < m
      · have hmz : (mid : Int) < (m : Int) := by omega
        go_wp2_with fail
        go_meet
        case rel => exact ⟨n - b, mid, by congr 1; omega, rfl, Or.inl ⟨hm, by omega, rfl⟩, rfl⟩
      · have hmz : ¬ (mid : Int) < (m : Int) := by omega
        go_wp2_with fail
        go_meet
        case rel => exact ⟨a, m, rfl, rfl, Or.inr ⟨by omega, rfl, rfl⟩, rfl⟩
    case rest =>
      as_aux_lemma =>
        obtain ⟨st, r0, rfl, rfl, HST, rfl⟩ := hcut
        have r1 : r0 ≤ mid := by have := HST.out; omega
        have r2 : r0 ≤ m := by have := HST.out; omega
        have r3 : a ≤ st := by have := HST.out; omega
        have r4 : n ≤ b + st := by have := HST.out; omega
        have r5 : st ≤ r0 := by have := HST.out; omega
        clear q1 q2 t1 t2 t3 t4
        go_wp2_with fail
        go_loopg [20, 21, 23] (r0 - st) (fun kx s20 s21 s23 wr => ∃ (lo hi : Nat), s20 = .int .i64 lo ∧ s21 = .int .i64 hi ∧ st ≤ lo ∧ lo ≤ hi ∧ hi ≤ r0 ∧ hi - lo ≤ kx ∧ Aside (SWK itV k w0 blk off d wr) ∧ Aside (Cp2 X Y a m b mid p st r0 lo hi))
        case atStart => exact ⟨st, r0, rfl, rfl, Nat.le_refl _, r5, Nat.le_refl _, Nat.le_refl _, S0, ⟨fun c h1 h2 => by omega, fun c h1 h2 => by omega⟩⟩
        case round =>
          as_aux_lemma =>
            clear S0 q3
            obtain ⟨lo, hi, rfl, rfl, hml, hlh, hhb, hkx, S1, I⟩ := hrel
            by_cases hlt : lo < hi
            · have hltz : (lo : Int) < (hi : Int) := by omega
              have G1 := GX.out ((lo + hi) / 2) (by omega) (by omega)
              have G2 := GY.out (p - (lo + hi) / 2) (by omega) (by omega)
              obtain ⟨pc, hpc⟩ : ∃ q, q = p - (lo + hi) / 2 := ⟨_, rfl⟩
              have q5 : (p : Int) - ((lo : Int) + (hi : Int)) / 2 = (pc : Int) := by omega
              have q6 : pc < b := by omega
              rw [← hpc] at G2
              by_cases hlv : (Y.getD (p - (lo + hi) / 2 - m) z0).key < (X.getD ((lo + hi) / 2 - a) z0).key
              · have hcv : cfK d[pc]! d[(lo + hi) / 2]! < 0 := by rw [G1, G2, hpc]; exact cfK_lt.2 hlv
                have I2 : Aside (Cp2 X Y a m b mid p st r0 lo ((lo + hi) / 2)) := cp2_hi I.out ALL.out.2.2.2.2.1 ALL.out.2.2.2.2.2 ALL.out.2.2.1 ALL.out.2.2.2.1 NUM.out.2.2.1 HST.out NUM.out.1 (by omega) (by omega) hlv
                clear I G1 G2 hlv hpc
                have ea1i : ((pc : Int)).toNat = pc := by omega
                have pa1i : (0 : Int) ≤ (pc : Int) := by omega
                have ba1i : (pc : Int) < (d.size : Int) := by omega
                have ra1i : IntKind.i64.wrap ((pc : Int)) = (pc : Int) := by rw [IntKind.wrap_i64]; omega
                have ea1j : (((((lo : Nat) : Int) + ((hi : Nat) : Int)) / 2)).toNat = (lo + hi) / 2 := by omega
                have pa1j : (0 : Int) ≤ ((((lo : Nat) : Int) + ((hi : Nat) : Int)) / 2) := by omega
                have ba1j : ((((lo : Nat) : Int) + ((hi : Nat) : Int)) / 2) < (d.size : Int) := by omega
                have ra1j : IntKind.i64.wrap (((((lo : Nat) : Int) + ((hi : Nat) : Int)) / 2)) = ((((lo : Nat) : Int) + ((hi : Nat) : Int)) / 2) := by rw [IntKind.wrap_i64]; omega
                obtain ⟨x1, hx1⟩ : ∃ x, x = d[pc]! := ⟨_, rfl⟩
                obtain ⟨y1, hy1⟩ : ∃ x, x = d[(lo + hi) / 2]! := ⟨_, rfl⟩
                have l1a := S1.out.ld R (by omega) P (pc) (by omega)
                have l1b := S1.out.ld R (by omega) P ((lo + hi) / 2) (by omega)
                rw [← hx1] at l1a hcv
                rw [← hy1] at l1b hcv
                have hc1 := S1.out.cmp HC.out (by omega) x1 y1
                have hd1 : decide (cfK x1 y1 < 0) = true := decide_eq_true hcv
                clear hx1 hy1
                go_wp2_with fail
                go_quiet_grown (first | (go_at_fn g; refine Calls.grown_of (hc1 _ _)))
                have S2 : Aside (SWK itV k w0 blk off d (grow (wr.drewN nq) osq)) := S1.out.grown nq osq
                clear l1a l1b hc1 S1
                generalize grow (wr.drewN nq) osq = w2 at S2 ⊢
                clear nq osq
                go_wp2
                go_roundg ((lo + hi) / 2 - lo)
                case measure => omega
                case rel => exact ⟨lo, (lo + hi) / 2, rfl, by rw [show ((lo : Int) + (hi : Int)) / 2 = (((lo + hi) / 2 : Nat) : Int) by omega], hml, by omega, by omega, Nat.le_refl _, S2, I2⟩
              · have hcv : ¬ cfK d[pc]! d[(lo + hi) / 2]! < 0 := by rw [G1, G2, hpc, cfK_lt]; exact hlv
                have I2 : Aside (Cp2 X Y a m b mid p st r0 ((lo + hi) / 2 + 1) hi) := cp2_lo I.out ALL.out.2.2.2.2.1 ALL.out.2.2.2.2.2 ALL.out.2.2.1 ALL.out.2.2.2.1 NUM.out.2.2.1 HST.out NUM.out.1 (by omega) (by omega) hlv
                clear I G1 G2 hlv hpc
                have ea2i : ((pc : Int)).toNat = pc := by omega
                have pa2i : (0 : Int) ≤ (pc : Int) := by omega
                have ba2i : (pc : Int) < (d.size : Int) := by omega
                have ra2i : IntKind.i64.wrap ((pc : Int)) = (pc : Int) := by rw [IntKind.wrap_i64]; omega
                have ea2j : (((((lo : Nat) : Int) + ((hi : Nat) : Int)) / 2)).toNat = (lo + hi) / 2 := by omega
                have pa2j : (0 : Int) ≤ ((((lo : Nat) : Int) + ((hi : Nat) : Int)) / 2) := by omega
                have ba2j : ((((lo : Nat) : Int) + ((hi : Nat) : Int)) / 2) < (d.size : Int) := by omega
                have ra2j : IntKind.i64.wrap (((((lo : Nat) : Int) + ((hi : Nat) : Int)) / 2)) = ((((lo : Nat) : Int) + ((hi : Nat) : Int)) / 2) := by rw [IntKind.wrap_i64]; omega
                obtain ⟨x2, hx2⟩ : ∃ x, x = d[pc]! := ⟨_, rfl⟩
                obtain ⟨y2, hy2⟩ : ∃ x, x = d[(lo + hi) / 2]! := ⟨_, rfl⟩
                have l2a := S1.out.ld R (by omega) P (pc) (by omega)
                have l2b := S1.out.ld R (by omega) P ((lo + hi) / 2) (by omega)
                rw [← hx2] at l2a hcv
                rw [← hy2] at l2b hcv
                have hc2 := S1.out.cmp HC.out (by omega) x2 y2
                have hd2 : decide (cfK x2 y2 < 0) = false := decide_eq_false hcv
                clear hx2 hy2
                go_wp2_with fail
                go_quiet_grown (first | (go_at_fn g; refine Calls.grown_of (hc2 _ _)))
                have S2 : Aside (SWK itV k w0 blk off d (grow (wr.drewN nq) osq)) := S1.out.grown nq osq
                clear l2a l2b hc2 S1
                generalize grow (wr.drewN nq) osq = w2 at S2 ⊢
                clear nq osq
                go_wp2
                go_roundg (hi - ((lo + hi) / 2 + 1))
                case measure => omega
                case rel => exact ⟨(lo + hi) / 2 + 1, hi, by rw [show ((lo : Int) + (hi : Int)) / 2 + 1 = (((lo + hi) / 2 + 1 : Nat) : Int) by omega], rfl, by omega, by omega, hhb, Nat.le_refl _, S2, I2⟩
            · obtain rfl : hi = lo := by omega
              have hltz : ¬ (hi : Int) < (hi : Int) := by omega
              obtain ⟨c1, c2, c3, c4, c5, c6⟩ := cutp_math (s := hi) ⟨fun c h1 h2 => by have := I.out.f1 c h1 h2; rwa [show mid + m - 1 = p by omega], fun c h1 h2 => by have := I.out.f2 c h1 h2; rwa [show mid + m - 1 = p by omega], NUM.out.1, HST.out, ⟨hml, hhb⟩⟩ ALL.out.2.2.2.2.1 ALL.out.2.2.2.2.2 ALL.out.2.2.1 ALL.out.2.2.2.1 (by have := ALL.out.2.2.1; omega) (by have := ALL.out.2.2.2.1; omega)
              have lX1 : (X.take (hi - a)).length = hi - a := by rw [List.length_take]; have := ALL.out.2.2.1; omega
              have lX2 : (X.drop (hi - a)).length = m - hi := by rw [List.length_drop]; have := ALL.out.2.2.1; omega
              have lY1 : (Y.take (mid - hi)).length = mid - hi := by rw [List.length_take]; omega
              have lY2 : (Y.drop (mid - hi)).length = b + hi - n := by rw [List.length_drop]; have := ALL.out.2.2.2.1; omega
              have eX : X = X.take (hi - a) ++ X.drop (hi - a) := (List.take_append_drop _ _).symm
              have eY : Y = Y.take (mid - hi) ++ Y.drop (mid - hi) := (List.take_append_drop _ _).symm
              generalize X.take (hi - a) = X1 at eX lX1 c2
              generalize X.drop (hi - a) = X2 at eX lX2 c1
              generalize Y.take (mid - hi) = Y1 at eY lY1 c1
              generalize Y.drop (mid - hi) = Y2 at eY lY2 c2
              obtain ⟨en, hen⟩ : ∃ q, q = n - hi := ⟨_, rfl⟩
              have q4 : (n : Int) - (hi : Int) = (en : Int) := by omega
              have e1 : en + hi ≤ n := by omega
              have e2 : n ≤ en + hi := by omega
              have J : Aside (X = X1 ++ X2 ∧ Y = Y1 ++ Y2 ∧ (∀ x ∈ X2, ∀ y ∈ Y1, y.key < x.key) ∧ (∀ x ∈ X1, ∀ y ∈ Y2, x.key ≤ y.key) ∧ X1.length = hi - a ∧ X2.length = m - hi ∧ Y1.length = mid - hi ∧ Y2.length = b + hi - n) := ⟨eX, eY, c1, c2, lX1, lX2, lY1, lY2⟩
              have JL : Aside (a + X1.length = hi ∧ hi + X2.length = m ∧ m + Y1.length = en ∧ hi + Y1.length = mid ∧ mid + X2.length = en ∧ en + Y2.length = b) := ⟨by omega, by omega, by omega, by omega, by omega, by omega⟩
              have D0 : Aside (d.toList = (A ++ X1) ++ (X2 ++ (Y1 ++ (Y2 ++ B)))) := by
                show _ = _
                rw [ALL.out.1, eX, eY]; simp
              clear eX eY c1 c2 lX1 lX2 lY1 lY2 hen I GX GY
              go_upto_region 39 with fail
              go_cut [185] from 25 (fun s185 wc => s185 = .bool (decide (hi < m) && decide (m < en)) ∧ wc = wr)
              case first =>
                by_cases h1 : hi < m
                · have h1z : (hi : Int) < (m : Int) := by omega
                  by_cases h2 : m < en
                  · have h2z : (m : Int) < (en : Int) := by omega
                    go_wp2_with fail
                    go_meet
                    exact ⟨by simp [h1, h2], rfl⟩
                  · have h2z : ¬ (m : Int) < (en : Int) := by omega
                    go_wp2_with fail
                    go_meet
                    exact ⟨by simp [h1, h2], rfl⟩
                · have h1z : ¬ (hi : Int) < (m : Int) := by omega
                  go_wp2_with fail
                  go_meet
                  exact ⟨by simp [h1], rfl⟩
              case rest =>
                as_aux_lemma =>
                  obtain ⟨rfl, rfl⟩ := hcut
                  clear q4
                  go_upto_if 185 with fail
                  go_cut [] from 25 (fun wc => ∃ d1 : Array Itm, Aside (d1.size = d.size ∧ d1.toList = (A ++ X1) ++ (Y1 ++ (X2 ++ (Y2 ++ B))) ∧ SWK itV k w0 blk off d1 wc))
                  case first =>
                    by_cases hb : hi < m ∧ m < en
                    · have hbb : (decide (hi < m) && decide (m < en)) = true := by simp [hb]
                      have hc := rot_any L g cb blk off cap hi m en d0 d w0 _ R hs S1.out (A ++ X1) X2 Y1 (Y2 ++ B) D0.out (by have := JL.out; have := ALL.out.2.1; simp; omega) (by have := JL.out; omega) (by have := JL.out; omega) (by have := JL.out; omega) (by have := JL.out; omega) hsz
                      go_wp2_with (go_at_fn 64; refine hc.mono ?_; rintro e w2 ⟨rfl, d1, hs1, hl1, hS1⟩)
                      go_meet
                      case rel => exact ⟨d1, hs1, hl1, hS1⟩
                    · have hbb : (decide (hi < m) && decide (m < en)) = false := by
                        rw [Bool.eq_false_iff]; intro h; simp at h; exact hb h
                      go_wp2_with fail
                      go_meet
                      case rel =>
                        refine ⟨d, rfl, ?_, S1.out⟩
                        rw [D0.out]
                        rcases Nat.lt_or_ge hi m with h | h
                        · have : Y1 = [] := List.eq_nil_of_length_eq_zero (by have := JL.out; omega)
                          subst this; simp
                        · have : X2 = [] := List.eq_nil_of_length_eq_zero (by have := JL.out; omega)
                          subst this; simp
                  case rest =>
                    as_aux_lemma =>
                      clear S1 D0
                      obtain ⟨d1, D1⟩ := hcut
                      go_upto_region 41 with fail
                      go_cut [199] from 25 (fun s199 wx => s199 = .bool (decide (a < hi) && decide (hi < mid)) ∧ wx = wc)
                      case first =>
                        by_cases h1 : a < hi
                        · have h1z : (a : Int) < (hi : Int) := by omega
                          by_cases h2 : hi < mid
                          · have h2z : (hi : Int) < (mid : Int) := by omega
                            go_wp2_with fail
                            go_meet
                            exact ⟨by simp [h1, h2], rfl⟩
                          · have h2z : ¬ (hi : Int) < (mid : Int) := by omega
                            go_wp2_with fail
                            go_meet
                            exact ⟨by simp [h1, h2], rfl⟩
                        · have h1z : ¬ (a : Int) < (hi : Int) := by omega
                          go_wp2_with fail
                          go_meet
                          exact ⟨by simp [h1], rfl⟩
                      case rest =>
                        as_aux_lemma =>
                          obtain ⟨rfl, rfl⟩ := hcut
                          go_upto_if 199 with fail
                          go_cut [] from 25 (fun wc => ∃ (d2 : Array Itm) (Z1 : List Itm), Aside (d2.size = d.size ∧ d2.toList = A ++ (Z1 ++ (X2 ++ (Y2 ++ B))) ∧ Srt Z1 ∧ Kq Z1 (X1 ++ Y1) ∧ SWK itV k w0 blk off d2 wc))
                          case first =>
                            by_cases hb : a < hi ∧ hi < mid
                            · have hbb : (decide (a < hi) && decide (hi < mid)) = true := by simp [hb]
                              have hc := IH.out a hi mid d1 _ (by have := NUM.out.2.2.2; omega) (by have := D1.out.1; omega) D1.out.2.2 A X1 Y1 (X2 ++ (Y2 ++ B)) (by rw [D1.out.2.1]; simp) ALL.out.2.1 JL.out.1 JL.out.2.2.2.1 (by have := JL.out; omega) (by have := JL.out; omega) (srt_app.1 (by rw [← J.out.1]; exact ALL.out.2.2.2.2.1 : Srt (X1 ++ X2))).1 (srt_app.1 (by rw [← J.out.2.1]; exact ALL.out.2.2.2.2.2 : Srt (Y1 ++ Y2))).1 (by have := D1.out.1; omega)
                              rw [D1.out.1] at hc
                              go_wp2_with (go_at_fn 63; refine hc.mono ?_; rintro e w2 ⟨rfl, d2, Z1, hs2, hl2, hz2, hk2, hS2⟩)
                              go_meet
                              case rel => exact ⟨d2, Z1, hs2, hl2, hz2, hk2, hS2⟩
                            · have hbb : (decide (a < hi) && decide (hi < mid)) = false := by
                                rw [Bool.eq_false_iff]; intro h; simp at h; exact hb h
                              go_wp2_with fail
                              go_meet
                              case rel =>
                                refine ⟨d1, X1 ++ Y1, D1.out.1, by rw [D1.out.2.1]; simp, ?_, Kq.refl _, D1.out.2.2⟩
                                have sx := (srt_app.1 (by rw [← J.out.1]; exact ALL.out.2.2.2.2.1 : Srt (X1 ++ X2))).1
                                have sy := (srt_app.1 (by rw [← J.out.2.1]; exact ALL.out.2.2.2.2.2 : Srt (Y1 ++ Y2))).1
                                rcases Nat.lt_or_ge a hi with h | h
                                · have : Y1 = [] := List.eq_nil_of_length_eq_zero (by have := JL.out; omega)
                                  subst this; simpa using sx
                                · have : X1 = [] := List.eq_nil_of_length_eq_zero (by have := JL.out; omega)
                                  subst this; simpa using sy
                          case rest =>
                            as_aux_lemma =>
                              clear D1
                              obtain ⟨d2, Z1, D2⟩ := hcut
                              have hz1 : Z1.length = X1.length + Y1.length := by
                                have e := D2.out.1
                                rw [size_list D2.out.2.1, size_list ALL.out.1, J.out.1, J.out.2.1] at e
                                simp at e; omega
                              have LZ : Aside ((A ++ Z1).length = mid) := by
                                show _ = _
                                rw [List.length_append, hz1, ALL.out.2.1]; have := JL.out; omega
                              have FIN : Aside (∀ Z2, Srt Z2 → Kq Z2 (X2 ++ Y2) → Srt (Z1 ++ Z2) ∧ Kq (Z1 ++ Z2) (X ++ Y)) := fun Z2 h1 h2 => by
                                have := merge_kq D2.out.2.2.2.1 h2 D2.out.2.2.1 h1 J.out.2.2.1 J.out.2.2.2.1 (by rw [← J.out.1]; exact ALL.out.2.2.2.2.1) (by rw [← J.out.2.1]; exact ALL.out.2.2.2.2.2)
                                rwa [← J.out.1, ← J.out.2.1] at this
                              clear hz1
                              by_cases hb : mid < en ∧ en < b
                              · obtain ⟨h1, h2⟩ := hb
                                have h1z : (mid : Int) < (en : Int) := by omega
                                have h2z : (en : Int) < (b : Int) := by omega
                                have hc := IH.out mid en b d2 _ (by have := NUM.out.2.2.2; omega) (by have := D2.out.1; omega) D2.out.2.2.2.2 (A ++ Z1) X2 Y2 B (by rw [D2.out.2.1]; simp) LZ.out JL.out.2.2.2.2.1 JL.out.2.2.2.2.2 (by have := JL.out; omega) (by have := JL.out; omega) (srt_app.1 (by rw [← J.out.1]; exact ALL.out.2.2.2.2.1 : Srt (X1 ++ X2))).2.1 (srt_app.1 (by rw [← J.out.2.1]; exact ALL.out.2.2.2.2.2 : Srt (Y1 ++ Y2))).2.1 (by have := D2.out.1; omega)
                                rw [D2.out.1] at hc
                                go_wp2_with (go_at_fn 63; refine hc.mono ?_; rintro e w2 ⟨rfl, d3, Z2, hs3, hl3, hz3, hk3, hS3⟩)
                                go_end0
                                exact ⟨rfl, d3, Z1 ++ Z2, hs3, by rw [hl3]; simp, (FIN.out Z2 hz3 hk3).1, (FIN.out Z2 hz3 hk3).2, hS3⟩
                              · have sx := (srt_app.1 (by rw [← J.out.1]; exact ALL.out.2.2.2.2.1 : Srt (X1 ++ X2))).2.1
                                have sy := (srt_app.1 (by rw [← J.out.2.1]; exact ALL.out.2.2.2.2.2 : Srt (Y1 ++ Y2))).2.1
                                have sxy : Aside (Srt (X2 ++ Y2)) := by
                                  show Srt _
                                  rcases Nat.lt_or_ge mid en with h | h
                                  · have : Y2 = [] := List.eq_nil_of_length_eq_zero (by have := JL.out; omega)
                                    subst this; simpa using sx
                                  · have : X2 = [] := List.eq_nil_of_length_eq_zero (by have := JL.out; omega)
                                    subst this; simpa using sy
                                clear sx sy
                                by_cases h1 : mid < en
                                · have h1z : (mid : Int) < (en : Int) := by omega
                                  have h2z : ¬ (en : Int) < (b : Int) := by omega
                                  clear hb
                                  go_wp2_with fail
                                  go_end0
                                  exact ⟨rfl, d2, D2.out.1, Z1 ++ (X2 ++ Y2), by rw [D2.out.2.1]; simp, (FIN.out _ sxy.out (Kq.refl _)).1, (FIN.out _ sxy.out (Kq.refl _)).2, D2.out.2.2.2.2⟩
                                · have h1z : ¬ (mid : Int) < (en : Int) := by omega
                                  clear hb
                                  go_wp2_with fail
                                  go_end0
                                  exact ⟨rfl, d2, D2.out.1, Z1 ++ (X2 ++ Y2), by rw [D2.out.2.1]; simp, (FIN.out _ sxy.out (Kq.refl _)).1, (FIN.out _ sxy.out (Kq.refl _)).2, D2.out.2.2.2.2⟩
end Go.Proofs.YtihjfnlimdcmkaaDoor.Gf
