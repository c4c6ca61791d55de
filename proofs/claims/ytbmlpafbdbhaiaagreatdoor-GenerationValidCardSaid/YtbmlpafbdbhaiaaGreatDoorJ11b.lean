/- What is proved here: what layer 11 leans on, out of the older layers. -/
import Derived.Test.YtbmlpafbdbhaiaaGreatDoorJ11a
namespace Go.Proofs.YtbmlpafbdbhaiaaGreatDoor.Gf
open Go Go.Lib Go.Proofs Go.RowKit Go.Shelf Go.Sort
set_option maxRecDepth 100000
set_option maxHeartbeats 204800000
/-- Where symMerge's search stands. -/
structure Cp2 (X Y : List Itm) (a m b mid p st r0 lo hi : Nat) : Prop where
  f1 : ∀ c, st ≤ c → c < lo → (X.getD (c - a) z0).key ≤ (Y.getD (p - c - m) z0).key
  f2 : ∀ c, hi ≤ c → c < r0 → (Y.getD (p - c - m) z0).key < (X.getD (c - a) z0).key
theorem cp2_hi {X Y : List Itm} {a m b mid p st r0 lo hi c : Nat} (h : Cp2 X Y a m b mid p st r0 lo hi) (sX : Srt X) (sY : Srt Y) (h1 : a + X.length = m) (h2 : m + Y.length = b) (h4 : p + 1 = mid + m)
    (hst : (mid < m ∧ st = mid + m - b ∧ r0 = mid) ∨ (m ≤ mid ∧ st = a ∧ r0 = m)) (hmid : mid = (a + b) / 2) (hc : st ≤ c) (hc2 : c < r0) (hl : (Y.getD (p - c - m) z0).key < (X.getD (c - a) z0).key) : Cp2 X Y a m b mid p st r0 lo c := by
  refine ⟨h.f1, fun c' h5 h6 => ?_⟩
  have u := srt_getD sX (i := c - a) (j := c' - a) (by omega) (by omega)
  have v := srt_getD sY (i := p - c' - m) (j := p - c - m) (by omega) (by omega)
  omega
theorem cp2_lo {X Y : List Itm} {a m b mid p st r0 lo hi c : Nat} (h : Cp2 X Y a m b mid p st r0 lo hi) (sX : Srt X) (sY : Srt Y) (h1 : a + X.length = m) (h2 : m + Y.length = b) (h4 : p + 1 = mid + m)
    (hst : (mid < m ∧ st = mid + m - b ∧ r0 = mid) ∨ (m ≤ mid ∧ st = a ∧ r0 = m)) (hmid : mid = (a + b) / 2) (hc : st ≤ c) (hc2 : c < r0) (hl : ¬ (Y.getD (p - c - m) z0).key < (X.getD (c - a) z0).key) : Cp2 X Y a m b mid p st r0 (c + 1) hi := by
  refine ⟨fun c' h5 h6 => ?_, h.f2⟩
  have u := srt_getD sX (i := c' - a) (j := c - a) (by omega) (by omega)
  have v := srt_getD sY (i := p - c - m) (j := p - c' - m) (by omega) (by omega)
  omega
set_option maxRecDepth 1000000 in
theorem sym_any {P : Program} {k : Nat} (L : LG P k) (g : Nat) (cb : Array Value) (blk off cap : Nat) (d0 : Array Itm) (w0 : World) (R : RowK itV k w0 blk off d0) (eg : ∀ args w, (callFunc g args).run P w = .ok (.enter g args) w) (hcmp : CmpLays P g cb itV k cfK blk off d0.size w0) : ∀ (N a m b : Nat) (d : Array Itm) (w : World), b - a < N → d0.size = d.size → SWK itV k w0 blk off d w → ∀ (A X Y B : List Itm), d.toList = A ++ (X ++ (Y ++ B)) → A.length = a → a + X.length = m → m + Y.length = b → 0 < X.length → 0 < Y.length → Srt X → Srt Y → d.size < 4611686018427387904 →
    Calls P 175 #[.slice (some ⟨blk, off, none⟩) d.size cap, .int .i64 a, .int .i64 m, .int .i64 b, .func (.func g) #[] cb] w fun e w' => e = .returned (.tuple #[]) ∧ ∃ (d' : Array Itm) (Z : List Itm), d'.size = d.size ∧ d'.toList = A ++ (Z ++ B) ∧ Srt Z ∧ Kq Z (X ++ Y) ∧ SWK itV k w0 blk off d' w' := by
  have mixed := L.mixed
  have t0 := L.t0; have ag0 := L.a0; have zt0 := L.z0; have vt0 := L.v0
  have t3 := L.t3; have ag3 := L.a3; have zt3 := L.z3; have vt3 := L.v3
  have t4 := L.t4; have ag4 := L.a4; have zt4 := L.z4; have vt4 := L.v4
  have t22 := L.t22; have ag22 := L.a22; have zt22 := L.z22; have vt22 := L.v22
  have t51 := L.t51; have ag51 := L.a51; have zt51 := L.z51; have vt51 := L.v51
  have t72 := L.t72; have ag72 := L.a72; have zt72 := L.z72; have vt72 := L.v72
  have u22 := run_underlying L.t22; have u51 := run_underlying L.t51; have u3 := run_underlying L.t3
  have aE := L.aE; have zE := L.zE
  have erot : ∀ args w, (callFunc 187 args).run P w = .ok (.enter 187 args) w := enters_of L.frot (by kernel_rfl) rfl
  have esym : ∀ args w, (callFunc 175 args).run P w = .ok (.enter 175 args) w := enters_of L.fsym (by kernel_rfl) rfl
  intro N
  induction N with
  | zero => intro _ _ _ _ _ h; exact absurd h (Nat.not_lt_zero _)
  | succ N ih =>
    intro a m b d w hN hs S A X Y B hd ha hX hY hx0 hy0 sX sY hsz
    by_cases x1 : X.length = 1
    · exact sym_x1 L g cb blk off cap a m b d0 d w0 w R hs S eg hcmp A X Y B hd ha hX hY hx0 hy0 sX sY x1 hsz
    by_cases y1 : Y.length = 1
    · exact sym_y1 L g cb blk off cap a m b d0 d w0 w R hs S eg hcmp A X Y B hd ha hX hY hx0 hy0 sX sY x1 y1 hsz
    have hlen : d.size = A.length + (X.length + (Y.length + B.length)) := by rw [size_list hd]; simp
    have IH : Aside _ := ih
    have HC : Aside _ := hcmp
    have S0 : Aside (SWK itV k w0 blk off d w) := S
    have hbs : b ≤ d.size := by omega
    have ham : a + 2 ≤ m := by omega
    have hmb : m + 2 ≤ b := by omega
    have GX : Aside (∀ i, a ≤ i → i < m → d[i]! = X.getD (i - a) z0) := fun i h1 h2 => at_part (A := A) (X := X) (R := Y ++ B) hd ha h1 (by omega)
    have GY : Aside (∀ i, m ≤ i → i < b → d[i]! = Y.getD (i - m) z0) := fun i h1 h2 => at_part (A := A ++ X) (X := Y) (R := B) (by rw [hd]; simp) (by simp; omega) h1 (by omega)
    obtain ⟨mid, hmid⟩ : ∃ q, q = (a + b) / 2 := ⟨_, rfl⟩
    obtain ⟨n, hn⟩ : ∃ q, q = mid + m := ⟨_, rfl⟩
    obtain ⟨p, hp⟩ : ∃ q, q + 1 = mid + m := ⟨mid + m - 1, by omega⟩
    have ALL : Aside (d.toList = A ++ (X ++ (Y ++ B)) ∧ A.length = a ∧ a + X.length = m ∧ m + Y.length = b ∧ Srt X ∧ Srt Y) := ⟨hd, ha, hX, hY, sX, sY⟩
    have NUM : Aside (mid = (a + b) / 2 ∧ n = mid + m ∧ p + 1 = mid + m ∧ b - a < N + 1) := ⟨hmid, hn, hp, hN⟩
    have t1 : ((m : Int) - (a : Int) == 1) = false := by rw [beq_eq_false_iff_ne]; omega
    have t2 : ¬ (m : Int) - (a : Int) = 1 := by omega
    have t3 : ((b : Int) - (m : Int) == 1) = false := by rw [beq_eq_false_iff_ne]; omega
    have t4 : ¬ (b : Int) - (m : Int) = 1 := by omega
    have q1 : ((a : Int) + (b : Int)) / 2 = (mid : Int) := by omega
    have q2 : (mid : Int) + (m : Int) = (n : Int) := by omega
    have q3 : (n : Int) - 1 = (p : Int) := by omega
    have m1 : a < mid := by omega
    have m2 : mid < b := by omega
    have m3 : n ≤ mid + m := by omega
    have m4 : mid + m ≤ n := by omega
    have m5 : p + 1 ≤ n := by omega
    have m6 : n ≤ p + 1 := by omega
    have m7 : 2 * mid ≤ a + b := by omega
    have m8 : a + b ≤ 2 * mid + 1 := by omega
    clear ih hcmp S hd ha hX hY hx0 hy0 sX sY x1 y1 hlen hmid hn hp hN
    go_enter L.fsym, Tryz.ntmps175
    go_upto_if 140 with fail
    go_cut [20, 21] from 25 (fun s20 s21 wc => ∃ st r0 : Nat, s20 = .int .i64 st ∧ s21 = .int .i64 r0 ∧ Aside ((mid < m ∧ st = mid + m - b ∧ r0 = mid) ∨ (m ≤ mid ∧ st = a ∧ r0 = m)) ∧ wc = w)
    case first =>
      by_cases hm : mid < m
      · have hmz : (mid : Int) < (m : Int) := by omega
        go_wp2_with fail
        go_meet
        case rel => exact ⟨n - b, mid, by congr 1; omega, rfl, Or.inl ⟨hm, by omega, rfl⟩, rfl⟩
      · have hmz : ¬ (mid : Int) < (m : Int) := by omega
        go_wp2_with fail
        go_meet
        case rel => exact ⟨a, m, rfl, rfl, Or.inr ⟨by omega, rfl, rfl⟩, rfl⟩
    case rest =>
      as_aux_lemma =>
        obtain ⟨st, r0, rfl, rfl, HST, rfl⟩ := hcut
        have r1 : r0 ≤ mid := by have := HST.out; omega
        have r2 : r0 ≤ m := by have := HST.out; omega
        have r3 : a ≤ st := by have := HST.out; omega
        have r4 : n ≤ b + st := by have := HST.out; omega
        have r5 : st ≤ r0 := by have := HST.out; omega
        clear q1 q2 t1 t2 t3 t4
        go_wp2_with fail
        go_loopg [20, 21, 23] (r0 - st) (fun kx s20 s21 s23 wr => ∃ (lo hi : Nat), s20 = .int .i64 lo ∧ s21 = .int .i64 hi ∧ st ≤ lo ∧ lo ≤ hi ∧ hi ≤ r0 ∧ hi - lo ≤ kx ∧ Aside (SWK itV k w0 blk off d wr) ∧ Aside (Cp2 X Y a m b mid p st r0 lo hi))
        case atStart => exact ⟨st, r0, rfl, rfl, Nat.le_refl _, r5, Nat.le_refl _, Nat.le_refl _, S0, ⟨fun c h1 h2 => by omega, fun c h1 h2 => by omega⟩⟩
        case round =>
          as_aux_lemma =>
            clear S0 q3
            obtain ⟨lo, hi, rfl, rfl, hml, hlh, hhb, hkx, S1, I⟩ := hrel
            by_cases hlt : lo < hi
            · have hltz : (lo : Int) < (hi : Int) := by omega
              have G1 := GX.out ((lo + hi) / 2) (by omega) (by omega)
              have G2 := GY.out (p - (lo + hi) / 2) (by omega) (by omega)
              obtain ⟨pc, hpc⟩ : ∃ q, q = p - (lo + hi) / 2 := ⟨_, rfl⟩
              have q5 : (p : Int) - ((lo : Int) + (hi : Int)) / 2 = (pc : Int) := by omega
              have q6 : pc < b := by omega
              rw [← hpc] at G2
              by_cases hlv : (Y.getD (p - (lo + hi) / 2 - m) z0).key < (X.getD ((lo + hi) / 2 - a) z0).key
              · have hcv : cfK d[pc]! d[(lo + hi) / 2]! < 0 := by rw [G1, G2, hpc]; exact cfK_lt.2 hlv
                have I2 : Aside (Cp2 X Y a m b mid p st r0 lo ((lo + hi) / 2)) := cp2_hi I.out ALL.out.2.2.2.2.1 ALL.out.2.2.2.2.2 ALL.out.2.2.1 ALL.out.2.2.2.1 NUM.out.2.2.1 HST.out NUM.out.1 (by omega) (by omega) hlv
                clear I G1 G2 hlv hpc
                have ea1i : ((pc : Int)).toNat = pc := by omega
                have pa1i : (0 : Int) ≤ (pc : Int) := by omega
                have ba1i : (pc : Int) < (d.size : Int) := by omega
                have ra1i : IntKind.i64.wrap ((pc : Int)) = (pc : Int) := by rw [IntKind.wrap_i64]; omega
                have ea1j : (((((lo : Nat) : Int) + ((hi : Nat) : Int)) / 2)).toNat = (lo + hi) / 2 := by omega
                have pa1j : (0 : Int) ≤ ((((lo : Nat) : Int) + ((hi : Nat) : Int)) / 2) := by omega
                have ba1j : ((((lo : Nat) : Int) + ((hi : Nat) : Int)) / 2) < (d.size : Int) := by omega
                have ra1j : IntKind.i64.wrap (((((lo : Nat) : Int) + ((hi : Nat) : Int)) / 2)) = ((((lo : Nat) : Int) + ((hi : Nat) : Int)) / 2) := by rw [IntKind.wrap_i64]; omega
                obtain ⟨x1, hx1⟩ : ∃ x, x = d[pc]! := ⟨_, rfl⟩
                obtain ⟨y1, hy1⟩ : ∃ x, x = d[(lo + hi) / 2]! := ⟨_, rfl⟩
                have l1a := S1.out.ld R (by omega) P (pc) (by omega)
                have l1b := S1.out.ld R (by omega) P ((lo + hi) / 2) (by omega)
                rw [← hx1] at l1a hcv
                rw [← hy1] at l1b hcv
                have hc1 := S1.out.cmp HC.out (by omega) x1 y1
                have hd1 : decide (cfK x1 y1 < 0) = true := decide_eq_true hcv
                clear hx1 hy1
                go_wp2_with fail
                go_quiet_grown (first | (go_at_fn g; refine Calls.grown_of (hc1 _ _)))
                have S2 : Aside (SWK itV k w0 blk off d (grow (wr.drewN nq) osq)) := S1.out.grown nq osq
                clear l1a l1b hc1 S1
                generalize grow (wr.drewN nq) osq = w2 at S2 ⊢
                clear nq osq
                go_wp2
                go_roundg ((lo + hi) / 2 - lo)
                case measure => omega
                case rel => exact ⟨lo, (lo + hi) / 2, rfl, by rw [show ((lo : Int) + (hi : Int)) / 2 = (((lo + hi) / 2 : Nat) : Int) by omega], hml, by omega, by omega, Nat.le_refl _, S2, I2⟩
              · have hcv : ¬ cfK d[pc]! d[(lo + hi) / 2]! < 0 := by rw [G1, G2, hpc, cfK_lt]; exact hlv
                have I2 : Aside (Cp2 X Y a m b mid p st r0 ((lo + hi) / 2 + 1) hi) := cp2_lo I.out ALL.out.2.2.2.2.1 ALL.out.2.2.2.2.2 ALL.out.2.2.1 ALL.out.2.2.2.1 NUM.out.2.2.1 HST.out NUM.out.1 (by omega) (by omega) hlv
                clear I G1 G2 hlv hpc
                have ea2i : ((pc : Int)).toNat = pc := by omega
                have pa2i : (0 : Int) ≤ (pc : Int) := by omega
                have ba2i : (pc : Int) < (d.size : Int) := by omega
                have ra2i : IntKind.i64.wrap ((pc : Int)) = (pc : Int) := by rw [IntKind.wrap_i64]; omega
                have ea2j : (((((lo : Nat) : Int) + ((hi : Nat) : Int)) / 2)).toNat = (lo + hi) / 2 := by omega
                have pa2j : (0 : Int) ≤ ((((lo : Nat) : Int) + ((hi : Nat) : Int)) / 2) := by omega
                have ba2j : ((((lo : Nat) : Int) + ((hi : Nat) : Int)) / 2) < (d.size : Int) := by omega
                have ra2j : IntKind.i64.wrap (((((lo : Nat) : Int) + ((hi : Nat) : Int)) / 2)) = ((((lo : Nat) : Int) + ((hi : Nat) : Int)) / 2) := by rw [IntKind.wrap_i64]; omega
                obtain ⟨x2, hx2⟩ : ∃ x, x = d[pc]! := ⟨_, rfl⟩
                obtain ⟨y2, hy2⟩ : ∃ x, x = d[(lo + hi) / 2]! := ⟨_, rfl⟩
                have l2a := S1.out.ld R (by omega) P (pc) (by omega)
                have l2b := S1.out.ld R (by omega) P ((lo + hi) / 2) (by omega)
                rw [← hx2] at l2a hcv
                rw [← hy2] at l2b hcv
                have hc2 := S1.out.cmp HC.out (by omega) x2 y2
                have hd2 : decide (cfK x2 y2 < 0) = false := decide_eq_false hcv
                clear hx2 hy2
                go_wp2_with fail
                go_quiet_grown (first | (go_at_fn g; refine Calls.grown_of (hc2 _ _)))
                have S2 : Aside (SWK itV k w0 blk off d (grow (wr.drewN nq) osq)) := S1.out.grown nq osq
                clear l2a l2b hc2 S1
                generalize grow (wr.drewN nq) osq = w2 at S2 ⊢
                clear nq osq
                go_wp2
                go_roundg (hi - ((lo + hi) / 2 + 1))
                case measure => omega
                case rel => exact ⟨(lo + hi) / 2 + 1, hi, by rw [show ((lo : Int) + (hi : Int)) / 2 + 1 = (((lo + hi) / 2 + 1 : Nat) : Int) by omega], rfl, by omega, by omega, hhb, Nat.le_refl _, S2, I2⟩
            · obtain rfl : hi = lo := by omega
              have hltz : ¬ (hi : Int) < (hi : Int) := by omega
              obtain ⟨c1, c2, c3, c4, c5, c6⟩ := cutp_math (s := hi) ⟨fun c h1 h2 => by have := I.out.f1 c h1 h2; rwa [show mid + m - 1 = p by omega], fun c h1 h2 => by have := I.out.f2 c h1 h2; rwa [show mid + m - 1 = p by omega], NUM.out.1, HST.out, ⟨hml, hhb⟩⟩ ALL.out.2.2.2.2.1 ALL.out.2.2.2.2.2 ALL.out.2.2.1 ALL.out.2.2.2.1 (by have := ALL.out.2.2.1; omega) (by have := ALL.out.2.2.2.1; omega)
              have lX1 : (X.take (hi - a)).length = hi - a := by rw [List.length_take]; have := ALL.out.2.2.1; omega
              have lX2 : (X.drop (hi - a)).length = m - hi := by rw [List.length_drop]; have := ALL.out.2.2.1; omega
              have lY1 : (Y.take (mid - hi)).length = mid - hi := by rw [List.length_take]; omega
              have lY2 : (Y.drop (mid - hi)).length = b + hi - n := by rw [List.length_drop]; have := ALL.out.2.2.2.1; omega
              have eX : X = X.take (hi - a) ++ X.drop (hi - a) := (List.take_append_drop _ _).symm
              have eY : Y = Y.take (mid - hi) ++ Y.drop (mid - hi) := (List.take_append_drop _ _).symm
              generalize X.take (hi - a) = X1 at eX lX1 c2
              generalize X.drop (hi - a) = X2 at eX lX2 c1
              generalize Y.take (mid - hi) = Y1 at eY lY1 c1
              generalize Y.drop (mid - hi) = Y2 at eY lY2 c2
              obtain ⟨en, hen⟩ : ∃ q, q = n - hi := ⟨_, rfl⟩
              have q4 : (n : Int) - (hi : Int) = (en : Int) := by omega
              have e1 : en + hi ≤ n := by omega
              have e2 : n ≤ en + hi := by omega
              have J : Aside (X = X1 ++ X2 ∧ Y = Y1 ++ Y2 ∧ (∀ x ∈ X2, ∀ y ∈ Y1, y.key < x.key) ∧ (∀ x ∈ X1, ∀ y ∈ Y2, x.key ≤ y.key) ∧ X1.length = hi - a ∧ X2.length = m - hi ∧ Y1.length = mid - hi ∧ Y2.length = b + hi - n) := ⟨eX, eY, c1, c2, lX1, lX2, lY1, lY2⟩
              have JL : Aside (a + X1.length = hi ∧ hi + X2.length = m ∧ m + Y1.length = en ∧ hi + Y1.length = mid ∧ mid + X2.length = en ∧ en + Y2.length = b) := ⟨by omega, by omega, by omega, by omega, by omega, by omega⟩
              have D0 : Aside (d.toList = (A ++ X1) ++ (X2 ++ (Y1 ++ (Y2 ++ B)))) := by
                show _ = _
                rw [ALL.out.1, eX, eY]; simp
              clear eX eY c1 c2 lX1 lX2 lY1 lY2 hen I GX GY
              go_upto_region 39 with fail
              go_cut [185] from 25 (fun s185 wc => s185 = .bool (decide (hi < m) && decide (m < en)) ∧ wc = wr)
              case first =>
                by_cases h1 : hi < m
                · have h1z : (hi : Int) < (m : Int) := by omega
                  by_cases h2 : m < en
                  · have h2z : (m : Int) < (en : Int) := by omega
                    go_wp2_with fail
                    go_meet
                    exact ⟨by simp [h1, h2], rfl⟩
                  · have h2z : ¬ (m : Int) < (en : Int) := by omega
                    go_wp2_with fail
                    go_meet
                    exact ⟨by simp [h1, h2], rfl⟩
                · have h1z : ¬ (hi : Int) < (m : Int) := by omega
                  go_wp2_with fail
                  go_meet
                  exact ⟨by simp [h1], rfl⟩
              case rest =>
                as_aux_lemma =>
                  obtain ⟨rfl, rfl⟩ := hcut
                  clear q4
                  go_upto_if 185 with fail
                  go_cut [] from 25 (fun wc => ∃ d1 : Array Itm, Aside (d1.size = d.size ∧ d1.toList = (A ++ X1) ++ (Y1 ++ (X2 ++ (Y2 ++ B))) ∧ SWK itV k w0 blk off d1 wc))
                  case first =>
                    by_cases hb : hi < m ∧ m < en
                    · have hbb : (decide (hi < m) && decide (m < en)) = true := by simp [hb]
                      have hc := rot_any L g cb blk off cap hi m en d0 d w0 _ R hs S1.out (A ++ X1) X2 Y1 (Y2 ++ B) D0.out (by have := JL.out; have := ALL.out.2.1; simp; omega) (by have := JL.out; omega) (by have := JL.out; omega) (by have := JL.out; omega) (by have := JL.out; omega) hsz
                      go_wp2_with (go_at_fn 187; refine hc.mono ?_; rintro e w2 ⟨rfl, d1, hs1, hl1, hS1⟩)
                      go_meet
                      case rel => exact ⟨d1, hs1, hl1, hS1⟩
                    · have hbb : (decide (hi < m) && decide (m < en)) = false := by
                        rw [Bool.eq_false_iff]; intro h; simp at h; exact hb h
                      go_wp2_with fail
                      go_meet
                      case rel =>
                        refine ⟨d, rfl, ?_, S1.out⟩
                        rw [D0.out]
                        rcases Nat.lt_or_ge hi m with h | h
                        · have : Y1 = [] := List.eq_nil_of_length_eq_zero (by have := JL.out; omega)
                          subst this; simp
                        · have : X2 = [] := List.eq_nil_of_length_eq_zero (by have := JL.out; omega)
                          subst this; simp
                  case rest =>
                    as_aux_lemma =>
                      clear S1 D0
                      obtain ⟨d1, D1⟩ := hcut
                      go_upto_region 41 with fail
                      go_cut [199] from 25 (fun s199 wx => s199 = .bool (decide (a < hi) && decide (hi < mid)) ∧ wx = wc)
                      case first =>
                        by_cases h1 : a < hi
                        · have h1z : (a : Int) < (hi : Int) := by omega
                          by_cases h2 : hi < mid
                          · have h2z : (hi : Int) < (mid : Int) := by omega
                            go_wp2_with fail
                            go_meet
                            exact ⟨by simp [h1, h2], rfl⟩
                          · have h2z : ¬ (hi : Int) < (mid : Int) := by omega
                            go_wp2_with fail
                            go_meet
                            exact ⟨by simp [h1, h2], rfl⟩
                        · have h1z : ¬ (a : Int) < (hi : Int) := by omega
                          go_wp2_with fail
                          go_meet
                          exact ⟨by simp [h1], rfl⟩
                      case rest =>
                        as_aux_lemma =>
                          obtain ⟨rfl, rfl⟩ := hcut
                          go_upto_if 199 with fail
                          go_cut [] from 25 (fun wc => ∃ (d2 : Array Itm) (Z1 : List Itm), Aside (d2.size = d.size ∧ d2.toList = A ++ (Z1 ++ (X2 ++ (Y2 ++ B))) ∧ Srt Z1 ∧ Kq Z1 (X1 ++ Y1) ∧ SWK itV k w0 blk off d2 wc))
                          case first =>
                            by_cases hb : a < hi ∧ hi < mid
                            · have hbb : (decide (a < hi) && decide (hi < mid)) = true := by simp [hb]
                              have hc := IH.out a hi mid d1 _ (by have := NUM.out.2.2.2; omega) (by have := D1.out.1; omega) D1.out.2.2 A X1 Y1 (X2 ++ (Y2 ++ B)) (by rw [D1.out.2.1]; simp) ALL.out.2.1 JL.out.1 JL.out.2.2.2.1 (by have := JL.out; omega) (by have := JL.out; omega) (srt_app.1 (by rw [← J.out.1]; exact ALL.out.2.2.2.2.1 : Srt (X1 ++ X2))).1 (srt_app.1 (by rw [← J.out.2.1]; exact ALL.out.2.2.2.2.2 : Srt (Y1 ++ Y2))).1 (by have := D1.out.1; omega)
                              rw [D1.out.1] at hc
                              go_wp2_with (go_at_fn 175; refine hc.mono ?_; rintro e w2 ⟨rfl, d2, Z1, hs2, hl2, hz2, hk2, hS2⟩)
                              go_meet
                              case rel => exact ⟨d2, Z1, hs2, hl2, hz2, hk2, hS2⟩
                            · have hbb : (decide (a < hi) && decide (hi < mid)) = false := by
                                rw [Bool.eq_false_iff]; intro h; simp at h; exact hb h
                              go_wp2_with fail
                              go_meet
                              case rel =>
                                refine ⟨d1, X1 ++ Y1, D1.out.1, by rw [D1.out.2.1]; simp, ?_, Kq.refl _, D1.out.2.2⟩
                                have sx := (srt_app.1 (by rw [← J.out.1]; exact ALL.out.2.2.2.2.1 : Srt (X1 ++ X2))).1
                                have sy := (srt_app.1 (by rw [← J.out.2.1]; exact ALL.out.2.2.2.2.2 : Srt (Y1 ++ Y2))).1
                                rcases Nat.lt_or_ge a hi with h | h
                                · have : Y1 = [] := List.eq_nil_of_length_eq_zero (by have := JL.out; omega)
                                  subst this; simpa using sx
                                · have : X1 = [] := List.eq_nil_of_length_eq_zero (by have := JL.out; omega)
                                  subst this; simpa using sy
                          case rest =>
                            as_aux_lemma =>
                              clear D1
                              obtain ⟨d2, Z1, D2⟩ := hcut
                              have hz1 : Z1.length = X1.length + Y1.length := by
                                have e := D2.out.1
                                rw [size_list D2.out.2.1, size_list ALL.out.1, J.out.1, J.out.2.1] at e
                                simp at e; omega
                              have LZ : Aside ((A ++ Z1).length = mid) := by
                                show _ = _
                                rw [List.length_append, hz1, ALL.out.2.1]; have := JL.out; omega
                              have FIN : Aside (∀ Z2, Srt Z2 → Kq Z2 (X2 ++ Y2) → Srt (Z1 ++ Z2) ∧ Kq (Z1 ++ Z2) (X ++ Y)) := fun Z2 h1 h2 => by
                                have := merge_kq D2.out.2.2.2.1 h2 D2.out.2.2.1 h1 J.out.2.2.1 J.out.2.2.2.1 (by rw [← J.out.1]; exact ALL.out.2.2.2.2.1) (by rw [← J.out.2.1]; exact ALL.out.2.2.2.2.2)
                                rwa [← J.out.1, ← J.out.2.1] at this
                              clear hz1
                              by_cases hb : mid < en ∧ en < b
                              · obtain ⟨h1, h2⟩ := hb
                                have h1z : (mid : Int) < (en : Int) := by omega
                                have h2z : (en : Int) < (b : Int) := by omega
                                have hc := IH.out mid en b d2 _ (by have := NUM.out.2.2.2; omega) (by have := D2.out.1; omega) D2.out.2.2.2.2 (A ++ Z1) X2 Y2 B (by rw [D2.out.2.1]; simp) LZ.out JL.out.2.2.2.2.1 JL.out.2.2.2.2.2 (by have := JL.out; omega) (by have := JL.out; omega) (srt_app.1 (by rw [← J.out.1]; exact ALL.out.2.2.2.2.1 : Srt (X1 ++ X2))).2.1 (srt_app.1 (by rw [← J.out.2.1]; exact ALL.out.2.2.2.2.2 : Srt (Y1 ++ Y2))).2.1 (by have := D2.out.1; omega)
                                rw [D2.out.1] at hc
                                go_wp2_with (go_at_fn 175; refine hc.mono ?_; rintro e w2 ⟨rfl, d3, Z2, hs3, hl3, hz3, hk3, hS3⟩)
                                go_end0
                                exact ⟨rfl, d3, Z1 ++ Z2, hs3, by rw [hl3]; simp, (FIN.out Z2 hz3 hk3).1, (FIN.out Z2 hz3 hk3).2, hS3⟩
                              · have sx := (srt_app.1 (by rw [← J.out.1]; exact ALL.out.2.2.2.2.1 : Srt (X1 ++ X2))).2.1
                                have sy := (srt_app.1 (by rw [← J.out.2.1]; exact ALL.out.2.2.2.2.2 : Srt (Y1 ++ Y2))).2.1
                                have sxy : Aside (Srt (X2 ++ Y2)) := by
                                  show Srt _
                                  rcases Nat.lt_or_ge mid en with h | h
                                  · have : Y2 = [] := List.eq_nil_of_length_eq_zero (by have := JL.out; omega)
                                    subst this; simpa using sx
                                  · have : X2 = [] := List.eq_nil_of_length_eq_zero (by have := JL.out; omega)
                                    subst this; simpa using sy
                                clear sx sy
                                by_cases h1 : mid < en
                                · have h1z : (mid : Int) < (en : Int) := by omega
                                  have h2z : ¬ (en : Int) < (b : Int) := by omega
                                  clear hb
                                  go_wp2_with fail
                                  go_end0
                                  exact ⟨rfl, d2, D2.out.1, Z1 ++ (X2 ++ Y2), by rw [D2.out.2.1]; simp, (FIN.out _ sxy.out (Kq.refl _)).1, (FIN.out _ sxy.out (Kq.refl _)).2, D2.out.2.2.2.2⟩
                                · have h1z : ¬ (mid : Int) < (en : Int) := by omega
                                  clear hb
                                  go_wp2_with fail
                                  go_end0
                                  exact ⟨rfl, d2, D2.out.1, Z1 ++ (X2 ++ Y2), by rw [D2.out.2.1]; simp, (FIN.out _ sxy.out (Kq.refl _)).1, (FIN.out _ sxy.out (Kq.refl _)).2, D2.out.2.2.2.2⟩
theorem bl_zero (L : List Itm) : Bl 0 L := fun t => by rw [List.take_zero]; exact srt_nil
set_option maxRecDepth 1000000 in
theorem stable_any {P : Program} {k : Nat} (L : LG P k) (g : Nat) (cb : Array Value) (blk off cap : Nat) (d0 d : Array Itm) (w0 w : World) (R : RowK itV k w0 blk off d0) (eg : ∀ args w, (callFunc g args).run P w = .ok (.enter g args) w) (hcmp : CmpLays P g cb itV k cfK blk off d0.size w0) (hs : d0.size = d.size) (S : SWK itV k w0 blk off d w) (hsz : d.size ≤ 1000000) :
    Calls P 155 #[.slice (some ⟨blk, off, none⟩) d.size cap, .int .i64 d.size, .func (.func g) #[] cb] w fun e w' => e = .returned (.tuple #[]) ∧ ∃ d' : Array Itm, d'.size = d.size ∧ Srt d'.toList ∧ Kq d'.toList d.toList ∧ SWK itV k w0 blk off d' w' := by
  have mixed := L.mixed
  have t0 := L.t0; have ag0 := L.a0; have zt0 := L.z0; have vt0 := L.v0
  have t3 := L.t3; have ag3 := L.a3; have zt3 := L.z3; have vt3 := L.v3
  have t4 := L.t4; have ag4 := L.a4; have zt4 := L.z4; have vt4 := L.v4
  have t22 := L.t22; have ag22 := L.a22; have zt22 := L.z22; have vt22 := L.v22
  have t51 := L.t51; have ag51 := L.a51; have zt51 := L.z51; have vt51 := L.v51
  have t72 := L.t72; have ag72 := L.a72; have zt72 := L.z72; have vt72 := L.v72
  have u22 := run_underlying L.t22; have u51 := run_underlying L.t51; have u3 := run_underlying L.t3
  have aE := L.aE; have zE := L.zE
  have eins : ∀ args w, (callFunc 145 args).run P w = .ok (.enter 145 args) w := enters_of L.fins (by kernel_rfl) rfl
  have esym : ∀ args w, (callFunc 175 args).run P w = .ok (.enter 175 args) w := enters_of L.fsym (by kernel_rfl) rfl
  have INS := fun (a b : Nat) (dd : Array Itm) (W : World) (h1 : d0.size = dd.size) (h2 : SWK itV k w0 blk off dd W) (h3 : dd.size < 4611686018427387904) (A X B : List Itm) h5 h6 h7 => ins_any L g cb blk off cap a b d0 dd w0 W R h1 h2 eg hcmp A X B h5 h6 h7 h3
  have SYM := fun (a m b : Nat) (dd : Array Itm) (W : World) (h1 : d0.size = dd.size) (h2 : SWK itV k w0 blk off dd W) (h3 : dd.size < 4611686018427387904) (A X Y B : List Itm) h5 h6 h7 h8 h9 h10 h11 h12 => sym_any L g cb blk off cap d0 w0 R eg hcmp (b - a + 1) a m b dd W (Nat.lt_succ_self _) h1 h2 A X Y B h5 h6 h7 h8 h9 h10 h11 h12 h3
  have IN : Aside _ := INS
  have SY : Aside _ := SYM
  have S0 : Aside (SWK itV k w0 blk off d w) := S
  obtain ⟨n, hn⟩ : ∃ q, q = d.size := ⟨_, rfl⟩
  have HN : Aside (n = d.size ∧ d.toList.length = n) := ⟨hn, by rw [hn, Array.length_toList]⟩
  rw [← hn] at hs hsz ⊢
  clear INS SYM S hcmp hn
  go_enter L.fstable, Tryz.ntmps155
  go_wp2_with fail
  go_loopg [7, 8] n (fun kx s7 s8 wr => ∃ (a t : Nat) (da : Array Itm), s7 = .int .i64 a ∧ s8 = .int .i64 ((a : Int) + 20) ∧ a ≤ n ∧ n - a ≤ kx ∧ Aside (da.size = n ∧ a = t * 20 ∧ SWK itV k w0 blk off da wr ∧ Kq da.toList d.toList ∧ Two 20 0 t da.toList))
  case atStart => exact ⟨0, 0, d, rfl, rfl, Nat.zero_le _, Nat.le_refl _, ⟨HN.out.1.symm, by simp, S0.out, Kq.refl _, two_start (bl_zero _)⟩⟩
  case round =>
    clear S0
    obtain ⟨a, t, da, rfl, rfl, han, hkx, H1⟩ := hrel
    have hl : da.toList.length = n := by rw [Array.length_toList]; exact H1.out.1
    by_cases hlt : a + 20 ≤ n
    · have hltz : (a : Int) + 20 ≤ (n : Int) := by omega
      obtain ⟨h1, h2, h3, h4, h5⟩ := H1.out
      have lX : ((da.toList.drop a).take 20).length = 20 := by rw [List.length_take, List.length_drop]; omega
      have lA : (da.toList.take a).length = a := by rw [List.length_take]; omega
      have e3 := cut3 da.toList a 20
      have hc := IN.out a (a + 20) da wr (by omega) h3 (by omega) _ _ _ e3 lA (by rw [lX])
      rw [h1, show ((a + 20 : Nat) : Int) = (a : Int) + 20 by omega] at hc
      have NX : Aside (∀ (d' : Array Itm) (Z : List Itm) (w' : World), d'.size = n → d'.toList = da.toList.take a ++ (Z ++ da.toList.drop (a + 20)) → Srt Z → Kq Z ((da.toList.drop a).take 20) → SWK itV k w0 blk off d' w' → d'.size = n ∧ a + 20 = (t + 1) * 20 ∧ SWK itV k w0 blk off d' w' ∧ Kq d'.toList d.toList ∧ Two 20 0 (t + 1) d'.toList) := fun d' Z w' g1 g2 g3 g4 g5 => by
        have lZ : Z.length = 20 := by have := size_list g2; rw [g1] at this; simp at this; omega
        refine ⟨g1, by omega, g5, ?_, ?_⟩
        · rw [g2]
          refine Kq.trans ?_ h4
          rw [e3]
          have := ((Kq.refl (da.toList.take a)).app (g4.app (Kq.refl (da.toList.drop (a + 20)))))
          rwa [← e3] at this ⊢
        · rw [g2]
          rw [e3] at h5
          exact h5.step (by omega) lX lZ g3
      clear h1 h2 h3 h4 h5 lX lA e3 H1 hl
      go_wp2_with (go_at_fn 145; refine hc.mono ?_; rintro e w2 ⟨rfl, d2, Z, hs2, hl2, hz2, hk2, hS2⟩)
      have H2 : Aside _ := NX.out d2 Z w2 hs2 hl2 hz2 hk2 hS2
      clear hs2 hl2 hz2 hk2 hS2 NX hc
      go_wp2
      go_roundg (n - (a + 20))
      case measure => omega
      case rel => exact ⟨a + 20, t + 1, d2, by go_num, by go_num, by omega, Nat.le_refl _, H2⟩
    · have hltz : ¬ (a : Int) + 20 ≤ (n : Int) := by omega
      obtain ⟨h1, h2, h3, h4, h5⟩ := H1.out
      have lX : (da.toList.drop a).length = n - a := by rw [List.length_drop]; omega
      have lA : (da.toList.take a).length = a := by rw [List.length_take]; omega
      have e3 : da.toList = da.toList.take a ++ (da.toList.drop a ++ []) := by simp
      have hc := IN.out a n da wr (by omega) h3 (by omega) _ _ _ e3 lA (by rw [lX]; omega)
      rw [h1] at hc
      have NX : Aside (∀ (d' : Array Itm) (Z : List Itm) (w' : World), d'.size = n → d'.toList = da.toList.take a ++ (Z ++ []) → Srt Z → Kq Z (da.toList.drop a) → SWK itV k w0 blk off d' w' → d'.size = n ∧ SWK itV k w0 blk off d' w' ∧ Kq d'.toList d.toList ∧ Bl 20 d'.toList) := fun d' Z w' g1 g2 g3 g4 g5 => by
        rw [List.append_nil] at g2
        have lZ : Z.length = (da.toList.drop a).length := by have := size_list g2; rw [g1] at this; simp at this ⊢; omega
        refine ⟨g1, g5, ?_, ?_⟩
        · rw [g2]
          refine Kq.trans ?_ h4
          have := (Kq.refl (da.toList.take a)).app g4
          rwa [List.take_append_drop] at this
        · rw [g2]
          rw [← List.take_append_drop a da.toList] at h5
          exact h5.last (by omega) (by omega) lZ g3
      clear h1 h2 h3 h4 h5 lX lA e3 H1 hl
      go_wp2_with (go_at_fn 145; refine hc.mono ?_; rintro e w2 ⟨rfl, d2, Z, hs2, hl2, hz2, hk2, hS2⟩)
      have H2 : Aside _ := NX.out d2 Z w2 hs2 hl2 hz2 hk2 hS2
      clear hs2 hl2 hz2 hk2 hS2 NX hc hltz hlt han hkx
      go_loopg [6] n (fun kx s6 wr => ∃ (s : Nat) (da : Array Itm), s6 = .int .i64 s ∧ 20 ≤ s ∧ s ≤ 4000000 ∧ n - s ≤ kx ∧ Aside (da.size = n ∧ SWK itV k w0 blk off da wr ∧ Kq da.toList d.toList ∧ Bl s da.toList))
      case atStart => exact ⟨20, d2, rfl, Nat.le_refl _, by omega, by omega, H2⟩
      case round =>
        clear H2
        obtain ⟨s, da, rfl, hs20, hsm, hkx, H1⟩ := hrel
        by_cases hlt : s < n
        · have hltz : (s : Int) < (n : Int) := by omega
          have ws : IntKind.i64.wrap (2 * (s : Int)) = 2 * (s : Int) := by rw [IntKind.wrap_i64]; omega
          have ws2 : IntKind.i64.wrap ((s : Int) * 2) = (s : Int) * 2 := by rw [IntKind.wrap_i64]; omega
          have H3 : Aside (da.size = n ∧ (0 : Nat) = 0 * (2 * s) ∧ SWK itV k w0 blk off da wr ∧ Kq da.toList d.toList ∧ Two (2 * s) s 0 da.toList) := ⟨H1.out.1, by simp, H1.out.2.1, H1.out.2.2.1, two_start H1.out.2.2.2⟩
          clear H1
          go_wp2_with fail
          go_loopg [7, 8] n (fun kx s7 s8 wr => ∃ (a t : Nat) (da : Array Itm), s7 = .int .i64 a ∧ s8 = .int .i64 ((a : Int) + 2 * (s : Int)) ∧ a ≤ n ∧ n - a ≤ kx ∧ Aside (da.size = n ∧ a = t * (2 * s) ∧ SWK itV k w0 blk off da wr ∧ Kq da.toList d.toList ∧ Two (2 * s) s t da.toList))
          case atStart => exact ⟨0, 0, da, rfl, by simp, Nat.zero_le _, Nat.le_refl _, H3⟩
          case round =>
            clear H3
            obtain ⟨a, t, db, rfl, rfl, han, hkx2, H4⟩ := hrel
            have hl : db.toList.length = n := by rw [Array.length_toList]; exact H4.out.1
            obtain ⟨h1, h2, h3, h4, h5⟩ := H4.out
            have ev : 2 * t * s = a := by rw [h2, Nat.mul_comm 2 t, Nat.mul_assoc]
            have ew : (2 * t + 1) * s = a + s := by rw [Nat.add_mul, ev, Nat.one_mul]
            have sX := h5.hi (2 * t) (by omega)
            have sY := h5.hi (2 * t + 1) (by omega)
            rw [ev] at sX
            rw [ew] at sY
            have lA : (db.toList.take a).length = a := by rw [List.length_take]; omega
            clear ev ew
            by_cases hlt2 : a + 2 * s ≤ n
            · have hlt2z : (a : Int) + 2 * (s : Int) ≤ (n : Int) := by omega
              have lX : ((db.toList.drop a).take s).length = s := by rw [List.length_take, List.length_drop]; omega
              have lY : ((db.toList.drop (a + s)).take s).length = s := by rw [List.length_take, List.length_drop]; omega
              have e3 : db.toList = db.toList.take a ++ ((db.toList.drop a).take s ++ ((db.toList.drop (a + s)).take s ++ db.toList.drop (a + 2 * s))) := by
                have := cut3 (db.toList.drop a) s s
                rw [List.drop_drop, List.drop_drop] at this
                rw [show a + 2 * s = a + (s + s) by omega]
                conv => lhs; rw [← List.take_append_drop a db.toList]
                rw [← List.append_assoc ((db.toList.drop a).take s)] at this ⊢
                rw [List.append_assoc]
                congr 1
                conv => lhs; rw [← List.take_append_drop s (db.toList.drop a), List.drop_drop]
                congr 1
                conv => lhs; rw [← List.take_append_drop s (db.toList.drop (a + s)), List.drop_drop]
                rw [Nat.add_assoc]
              have hc := SY.out a (a + s) (a + 2 * s) db wr (by omega) h3 (by omega) _ _ _ _ e3 lA (by rw [lX]) (by rw [lY]; omega) (by omega) (by omega) sX sY
              rw [h1, show ((a + 2 * s : Nat) : Int) = (a : Int) + 2 * (s : Int) by omega, show ((a + s : Nat) : Int) = (a : Int) + (s : Int) by omega] at hc
              have NX : Aside (∀ (d' : Array Itm) (Z : List Itm) (w' : World), d'.size = n → d'.toList = db.toList.take a ++ (Z ++ db.toList.drop (a + 2 * s)) → Srt Z → Kq Z ((db.toList.drop a).take s ++ (db.toList.drop (a + s)).take s) → SWK itV k w0 blk off d' w' → d'.size = n ∧ a + 2 * s = (t + 1) * (2 * s) ∧ SWK itV k w0 blk off d' w' ∧ Kq d'.toList d.toList ∧ Two (2 * s) s (t + 1) d'.toList) := fun d' Z w' g1 g2 g3 g4 g5 => by
                have lZ : Z.length = 2 * s := by have := size_list g2; rw [g1] at this; simp at this; omega
                have e4 : db.toList = db.toList.take a ++ (((db.toList.drop a).take s ++ (db.toList.drop (a + s)).take s) ++ db.toList.drop (a + 2 * s)) := by rw [List.append_assoc]; exact e3
                refine ⟨g1, by rw [Nat.add_mul]; omega, g5, ?_, ?_⟩
                · rw [g2]
                  refine Kq.trans ?_ h4
                  have := ((Kq.refl (db.toList.take a)).app (g4.app (Kq.refl (db.toList.drop (a + 2 * s)))))
                  rwa [← e4] at this
                · rw [g2]
                  rw [e4] at h5
                  exact h5.step (by omega) (by rw [List.length_append]; omega) lZ g3
              clear h1 h2 h3 h4 h5 lX lY lA e3 H4 hl sX sY
              have wa : IntKind.i64.wrap ((a : Int) + 2 * (s : Int) + 2 * (s : Int)) = (a : Int) + 2 * (s : Int) + 2 * (s : Int) := by rw [IntKind.wrap_i64]; omega
              have wb : IntKind.i64.wrap ((a : Int) + (s : Int)) = (a : Int) + (s : Int) := by rw [IntKind.wrap_i64]; omega
              go_wp2_with (go_at_fn 175; refine hc.mono ?_; rintro e w2 ⟨rfl, d3, Z3, hs2, hl2, hz2, hk2, hS2⟩)
              have H5 : Aside _ := NX.out d3 Z3 w2 hs2 hl2 hz2 hk2 hS2
              clear hs2 hl2 hz2 hk2 hS2 NX hc
              go_wp2
              go_roundg (n - (a + 2 * s))
              case measure => omega
              case rel => exact ⟨a + 2 * s, t + 1, d3, by congr 1 <;> omega, by congr 1 <;> omega, by omega, Nat.le_refl _, H5⟩
            · have hlt2z : ¬ (a : Int) + 2 * (s : Int) ≤ (n : Int) := by omega
              have wb : IntKind.i64.wrap ((a : Int) + (s : Int)) = (a : Int) + (s : Int) := by rw [IntKind.wrap_i64]; omega
              by_cases hlt3 : a + s < n
              · have hlt3z : (a : Int) + (s : Int) < (n : Int) := by omega
                have lX : ((db.toList.drop a).take s).length = s := by rw [List.length_take, List.length_drop]; omega
                have lY : (db.toList.drop (a + s)).length = n - (a + s) := by rw [List.length_drop]; omega
                rw [List.take_of_length_le (by omega)] at sY
                have e3 : db.toList = db.toList.take a ++ ((db.toList.drop a).take s ++ (db.toList.drop (a + s) ++ [])) := by
                  rw [List.append_nil]
                  exact cut3 db.toList a s
                have hc := SY.out a (a + s) n db wr (by omega) h3 (by omega) _ _ _ _ e3 lA (by rw [lX]) (by rw [lY]; omega) (by omega) (by omega) sX sY
                rw [h1, show ((a + s : Nat) : Int) = (a : Int) + (s : Int) by omega] at hc
                have NX : Aside (∀ (d' : Array Itm) (Z : List Itm) (w' : World), d'.size = n → d'.toList = db.toList.take a ++ (Z ++ []) → Srt Z → Kq Z ((db.toList.drop a).take s ++ db.toList.drop (a + s)) → SWK itV k w0 blk off d' w' → d'.size = n ∧ SWK itV k w0 blk off d' w' ∧ Kq d'.toList d.toList ∧ Bl (s * 2) d'.toList) := fun d' Z w' g1 g2 g3 g4 g5 => by
                  rw [List.append_nil] at g2
                  have e4 : (db.toList.drop a).take s ++ db.toList.drop (a + s) = db.toList.drop a := by rw [← List.drop_drop, List.take_append_drop]
                  rw [e4] at g4
                  have lZ : Z.length = (db.toList.drop a).length := by have := size_list g2; rw [g1] at this; simp at this ⊢; omega
                  refine ⟨g1, g5, ?_, ?_⟩
                  · rw [g2]
                    refine Kq.trans ?_ h4
                    have := (Kq.refl (db.toList.take a)).app g4
                    rwa [List.take_append_drop] at this
                  · rw [g2, Nat.mul_comm s 2]
                    rw [← List.take_append_drop a db.toList] at h5
                    exact h5.last (by omega) (by rw [List.length_drop]; omega) lZ g3
                clear h1 h2 h3 h4 h5 lX lY lA e3 H4 hl sX sY
                go_wp2_with (go_at_fn 175; refine hc.mono ?_; rintro e w2 ⟨rfl, d3, Z3, hs2, hl2, hz2, hk2, hS2⟩)
                have H5 : Aside _ := NX.out d3 Z3 w2 hs2 hl2 hz2 hk2 hS2
                clear hs2 hl2 hz2 hk2 hS2 NX hc
                go_wp2
                go_roundg (n - s * 2)
                case measure => omega
                case rel => exact ⟨s * 2, d3, by congr 1, by omega, by omega, Nat.le_refl _, H5⟩
              · have hlt3z : ¬ (a : Int) + (s : Int) < (n : Int) := by omega
                have H5 : Aside (db.size = n ∧ SWK itV k w0 blk off db wr ∧ Kq db.toList d.toList ∧ Bl (s * 2) db.toList) := by
                  rw [List.take_of_length_le (by rw [List.length_drop]; omega)] at sX
                  have h6 := h5
                  rw [← List.take_append_drop a db.toList] at h6
                  have h7 := h6.last (by omega) (by rw [List.length_drop]; omega) rfl sX
                  rw [List.take_append_drop, Nat.mul_comm 2 s] at h7
                  exact ⟨h1, h3, h4, h7⟩
                clear h1 h2 h3 h4 h5 lA H4 hl sX sY
                go_wp2
                go_roundg (n - s * 2)
                case measure => omega
                case rel => exact ⟨s * 2, db, by congr 1, by omega, by omega, Nat.le_refl _, H5⟩
        · have hltz : ¬ (s : Int) < (n : Int) := by omega
          go_wp2
          go_end0
          exact ⟨rfl, da, H1.out.1, bl_all H1.out.2.2.2 (by rw [Array.length_toList, H1.out.1]; omega), H1.out.2.2.1, H1.out.2.1⟩
theorem setMany_set (k : Nat) (hk : ∀ x, (itV x).length = k) (d : Array Itm) (i : Nat) (hi : i < d.size) (y : Itm) : setMany (flatK itV k d) (i * k) (itV y) = flatK itV k (d.setIfInBounds i y) := by
  refine ext_get! (by simp) fun t ht => ?_
  have ht' : t < d.size * k := by simpa using ht
  have k0 : 0 < k := by rcases Nat.eq_zero_or_pos k with h | h; · subst h; simp at ht'
                        · exact h
  rw [get_setMany _ _ _ t (by simpa using ht'), get_flatK _ _ _ t ht', get_flatK _ _ _ t (by simpa using ht'), hk]
  have hq : t / k < d.size := Nat.div_lt_of_lt_mul (by rwa [Nat.mul_comm])
  have e : (d.setIfInBounds i y)[t / k]! = if t / k = i then y else d[t / k]! := by
    simp only [getElem!_def, Array.getElem?_setIfInBounds]
    by_cases h : i = t / k
    · rw [if_pos h, if_pos h.symm, if_pos (by omega)]
    · rw [if_neg h, if_neg (Ne.symm h)]
  rw [e]
  by_cases a : t / k = i
  · rw [if_pos ((blk_iff k i t k0).2 a), if_pos a]
    congr 1
    subst a
    rw [Nat.mod_eq_sub_div_mul]
  · rw [if_neg (fun h => a ((blk_iff k i t k0).1 h)), if_neg a]
variable {P : Program} {k : Nat} {w0 W : World} {blk off : Nat} {d0 dk : Array Itm}
theorem swk_set (h : SWK itV k w0 blk off dk W) (R : RowK itV k w0 blk off d0) (i : Nat) (hi : i < dk.size) (y : Itm) : SWK itV k w0 blk off (dk.setIfInBounds i y) (W.setCells blk (off + i * k) (itV y)) := by
  obtain ⟨n, os, rfl⟩ := h
  refine ⟨n, os, ?_⟩
  unfold sortWorldK
  rw [← putRowK_grow itV k (Sort.ahead w0 n) os blk off dk R.hblk]
  unfold putRowK
  rw [setCells_putRow _ _ _ _ _ _ (by rw [R.hk, size_flatK]; exact rowK_bnd dk k i hi), setMany_set k R.hk dk i hi y]
  exact putRow_grow _ _ _ _ _ _ R.hblk
theorem swk_store (h : SWK itV k w0 blk off dk W) (R : RowK itV k w0 blk off d0) (hs : dk.size = d0.size) (P : Program) (i : Nat) (hi : i < dk.size) (y : Itm) :
    Sem.run P (storeCells ⟨blk, off + i * k, none⟩ (itV y) 0) W = .ok () (W.setCells blk (off + i * k) (itV y)) :=
  stores_of_holds P (h.holds R.hblk R.hH hs) (i * k) _ (by rw [R.hk, size_flatK]; exact rowK_bnd dk k i hi) (R.h1 _)
theorem cells_z0 : (TV z0).cells = #[.int .u64 0, .int .u32 0, .int .i64 0, .int .i64 0] := rfl
theorem zero_list (n : Nat) : (Builtin.zeroCells (TV z0).cells n).size = n * 4 := by simp [Builtin.zeroCells, cells_z0]
theorem zero_get (n t : Nat) (h : t < n * 4) : (Builtin.zeroCells (TV z0).cells n).toList[t]! = (itV z0)[t % 4]! := by
  have h4 : t % 4 < 4 := Nat.mod_lt _ (by decide)
  simp only [Builtin.zeroCells, cells_z0]
  simp [h, itV, z0]
theorem zero_one (n : Nat) : ∀ v ∈ (Builtin.zeroCells (TV z0).cells n).toList, v.oneCell' = true := fun v hv => by
  obtain ⟨t, ht, rfl⟩ := List.getElem_of_mem hv
  have ht' : t < n * 4 := by rw [← zero_list n]; simpa using ht
  have e := zero_get n t ht'
  rw [getElem!_pos _ t ht] at e
  rw [e]
  have h4 : t % 4 < 4 := Nat.mod_lt _ (by decide)
  have : t % 4 = 0 ∨ t % 4 = 1 ∨ t % 4 = 2 ∨ t % 4 = 3 := by omega
  rcases this with h | h | h | h <;> rw [h] <;> rfl
theorem swk_clear (h : SWK itV k w0 blk off dk W) (R : RowK itV k w0 blk off d0) (hs : dk.size = d0.size) (P : Program) (q : Nat) (hq : q ≤ dk.size) :
    Sem.run P (storeCells ⟨blk, off + q * k, none⟩ (Builtin.zeroCells (TV z0).cells (dk.size - q)).toList 0) W = .ok () (W.setCells blk (off + q * k) (Builtin.zeroCells (TV z0).cells (dk.size - q)).toList) ∧
    ∃ d2 : Array Itm, d2.size = dk.size ∧ d2.toList.take q = dk.toList.take q ∧ SWK itV k w0 blk off d2 (W.setCells blk (off + q * k) (Builtin.zeroCells (TV z0).cells (dk.size - q)).toList) := by
  obtain rfl : 4 = k := R.hk z0
  have hlen : (Builtin.zeroCells (TV z0).cells (dk.size - q)).toList.length = (dk.size - q) * 4 := by rw [Array.length_toList, zero_list]
  have hb : q * 4 + (Builtin.zeroCells (TV z0).cells (dk.size - q)).toList.length ≤ (flatK itV 4 dk).size := by rw [hlen, size_flatK]; omega
  refine ⟨stores_of_holds P (h.holds R.hblk R.hH hs) (q * 4) _ hb (zero_one _), (dk.toList.take q ++ List.replicate (dk.size - q) z0).toArray, by simp; omega, ?_, ?_⟩
  · rw [List.toList_toArray, List.take_left' (by rw [List.length_take, Array.length_toList]; omega)]
  · obtain ⟨n, os, rfl⟩ := h
    refine ⟨n, os, ?_⟩
    unfold sortWorldK
    rw [← putRowK_grow itV 4 (Sort.ahead w0 n) os blk off dk R.hblk]
    unfold putRowK
    rw [setCells_putRow _ _ _ _ _ _ hb]
    have e : setMany (flatK itV 4 dk) (q * 4) (Builtin.zeroCells (TV z0).cells (dk.size - q)).toList = flatK itV 4 (dk.toList.take q ++ List.replicate (dk.size - q) z0).toArray := by
      refine ext_get! (by simp; omega) fun t ht => ?_
      have ht' : t < dk.size * 4 := by simpa using ht
      rw [get_setMany _ _ _ t (by simpa using ht'), get_flatK _ _ _ t ht', get_flatK _ _ _ t (by simp; omega), hlen]
      have hsz : ∀ j, j < dk.size → (dk.toList.take q ++ List.replicate (dk.size - q) z0).toArray[j]! = if j < q then dk[j]! else z0 := fun j hj => by
        simp only [getElem!_def, List.getElem?_toArray]
        by_cases c : j < q
        · rw [if_pos c, List.getElem?_append_left (by rw [List.length_take, Array.length_toList]; omega), List.getElem?_take, if_pos c, Array.getElem?_toList]
        · rw [if_neg c, List.getElem?_append_right (by rw [List.length_take, Array.length_toList]; omega), List.length_take, Array.length_toList, List.getElem?_replicate, if_pos (by omega)]
      rw [hsz (t / 4) (by omega)]
      by_cases c : q * 4 ≤ t
      · rw [if_pos ⟨c, by omega⟩, if_neg (by omega), zero_get _ _ (by omega)]
        congr 1
        omega
      · rw [if_neg (by omega), if_pos (by omega)]
    rw [e]
    exact putRow_grow _ _ _ _ _ _ R.hblk
/-- What is asked of the function that tells equal items. -/
def EqLays (P : Program) (g : Nat) (cb : Array Value) (k blk off size : Nat) (w : World) : Prop :=
  ∀ (m : Nat) (os : Array Obj) (dk : Array Itm), dk.size = size → ∀ x y : Itm,
    Calls P g (#[.agg (itV x).toArray, .agg (itV y).toArray] ++ cb) (sortWorldK itV k w blk off m dk os) fun e w' => e = .returned (.bool (decide (x.key = y.key))) ∧ ∃ q os', w' = grow ((sortWorldK itV k w blk off m dk os).drewN q) os'
theorem swk_eq {g : Nat} {cb : Array Value} {size : Nat} (h : SWK itV k w0 blk off dk W) (hC : EqLays P g cb k blk off size w0) (hs : dk.size = size) (x y : Itm) (n : Nat) (os : Array Obj) :
    Calls P g (#[.agg (itV x).toArray, .agg (itV y).toArray] ++ cb) (grow (W.drewN n) os) fun e w' => e = .returned (.bool (decide (x.key = y.key))) ∧ ∃ q os', w' = grow ((grow (W.drewN n) os).drewN q) os' := by
  obtain ⟨m, os0, hw⟩ := h.grown n os
  rw [hw]
  exact hC m os0 dk hs x y
/-- .. and of Reverse and CompactFunc. -/
structure LG2 (P : Program) (k : Nat) : Prop extends LG P k where
  frev : P.funcs[125]? = some Tryz.f125
  fcomp : P.funcs[129]? = some Tryz.f129
  t74 : P.underlying 174 = some (TypeDesc.func #[56, 56] #[4] false)
  a74 : ∀ w, (isAgg 174).run P w = .ok false w
  z74 : ∀ w, (Go.sizeOf 174).run P w = .ok 1 w
  v74 : ∀ w, (zeroValue 174).run P w = .ok (Value.nilFunc) w
  vE : ∀ w, (zeroValue 56).run P w = .ok (TV Go.Proofs.YtbmlpafbdbhaiaaGreatDoor.Gf.z0) w
theorem lgP2 : LG2 Tryz.prog 4 where
  toLG := lgP
  frev := Tryz.func125
  fcomp := Tryz.func129
  t74 := Tryz.underlying174
  a74 := Tryz.isAgg174
  z74 := Tryz.sizeOf174
  v74 := Tryz.zeroValue174
  vE := Tryz.zeroValue56
set_option maxRecDepth 1000000 in
theorem rev_any (L : LG2 P k) (cap : Nat) (d : Array Itm) (w : World) (R : RowK itV k w0 blk off d0) (hs : d0.size = d.size) (S : SWK itV k w0 blk off d w) (hn1 : 1 ≤ d.size) (hsz : d.size ≤ 1000000) :
    Calls P 125 #[.slice (some ⟨blk, off, none⟩) d.size cap] w fun e w' => e = .returned (.tuple #[]) ∧ ∃ d' : Array Itm, d'.size = d.size ∧ d'.toList = d.toList.reverse ∧ SWK itV k w0 blk off d' w' := by
  have mixed := L.mixed
  have t0 := L.t0; have ag0 := L.a0; have zt0 := L.z0; have vt0 := L.v0
  have t3 := L.t3; have ag3 := L.a3; have zt3 := L.z3; have vt3 := L.v3
  have t4 := L.t4; have ag4 := L.a4; have zt4 := L.z4; have vt4 := L.v4
  have t22 := L.t22; have ag22 := L.a22; have zt22 := L.z22; have vt22 := L.v22
  have t51 := L.t51; have ag51 := L.a51; have zt51 := L.z51; have vt51 := L.v51
  have t72 := L.t72; have ag72 := L.a72; have zt72 := L.z72; have vt72 := L.v72
  have u22 := run_underlying L.t22; have u51 := run_underlying L.t51; have u3 := run_underlying L.t3
  have aE := L.aE; have zE := L.zE
  have t74 := L.t74; have ag74 := L.a74; have zt74 := L.z74; have vt74 := L.v74
  have S0 : Aside (SWK itV k w0 blk off d w) := S
  have HL : Aside (d.toList.length = d.size) := Array.length_toList
  clear S
  go_enter L.frev, Tryz.ntmps125
  go_wp2_with fail
  go_loopg [2, 3] d.size (fun kx s2 s3 wr => ∃ (i j : Nat) (da : Array Itm) (A M B : List Itm), s2 = .int .i64 i ∧ s3 = .int .i64 j ∧ i + j + 1 ≤ d.size ∧ d.size ≤ i + j + 1 ∧ j ≤ kx ∧ da.size = d.size ∧ Aside (SWK itV k w0 blk off da wr) ∧ Aside (da.toList = A ++ (M ++ B) ∧ A.length = i ∧ B.length = i ∧ d.toList = B.reverse ++ (M ++ A.reverse)))
  case atStart => exact ⟨0, d.size - 1, d, [], d.toList, [], rfl, by congr 1; omega, by omega, by omega, by omega, rfl, S0, ⟨by simp, rfl, rfl, by simp⟩⟩
  case round =>
    clear S0
    obtain ⟨i, j, da, A, M, B, rfl, rfl, h1, h2, hkx, hds, S1, H1⟩ := hrel
    by_cases hlt : i < j
    · have hltz : (i : Int) < (j : Int) := by omega
      obtain ⟨q1, q2, q3, q4⟩ := H1.out
      have hml : M.length = d.size - 2 * i := by have := size_list q1; simp at this; omega
      obtain ⟨x, M1, rfl⟩ : ∃ x M', M = x :: M' := by cases M with | nil => simp at hml; omega | cons x r => exact ⟨x, r, rfl⟩
      obtain ⟨M2, y, rfl⟩ := snoc_of (L := M1) (by simp at hml; omega)
      have HS : Aside ((swp da i j).toList = (A ++ [y]) ++ (M2 ++ (x :: B)) ∧ (A ++ [y]).length = i + 1 ∧ (x :: B).length = i + 1 ∧ d.toList = (x :: B).reverse ++ (M2 ++ (A ++ [y]).reverse)) := by
        have := swp_list (d := da) (P := A) (Q := M2) (R := B) (x := x) (y := y) (by rw [q1]; simp) (i := i) (j := j) q2.symm (by simp at hml; omega)
        exact ⟨by rw [this]; simp, by simp [q2], by simp [q3], by rw [q4]; simp⟩
      clear q1 q2 q3 q4 hml H1
      go_wp2_with fail
      have ea4i : ((i : Int)).toNat = i := by omega
      have pa4i : (0 : Int) ≤ (i : Int) := by omega
      have ba4i : (i : Int) < (d.size : Int) := by omega
      have ra4i : IntKind.i64.wrap ((i : Int)) = (i : Int) := by rw [IntKind.wrap_i64]; omega
      have ea4j : ((j : Int)).toNat = j := by omega
      have pa4j : (0 : Int) ≤ (j : Int) := by omega
      have ba4j : (j : Int) < (d.size : Int) := by omega
      have ra4j : IntKind.i64.wrap ((j : Int)) = (j : Int) := by rw [IntKind.wrap_i64]; omega
      have S2 : Aside (SWK itV k w0 blk off (swp da (i) (j)) ((wr.drew.setCells blk (off + (i) * k) (itV da[j]!)).setCells blk (off + (j) * k) (itV da[i]!))) := S1.out.swapped R (i) (j) (by omega) (by omega)
      have l4a := S1.out.ld1 R (by omega) P (i) (by omega)
      have l4b := S1.out.ld1 R (by omega) P (j) (by omega)
      have s4a := S1.out.st1 R (by omega) P (i) (by omega) da[j]!
      have s4b := S1.out.st2 R (by omega) P (i) (j) (by omega) (by omega) da[j]! da[i]!
      have n4a : (itV da[i]!).length = k := R.hk _
      have n4b : (itV da[j]!).length = k := R.hk _
      generalize itV da[i]! = cI4 at S2 l4a s4b n4a
      generalize itV da[j]! = cJ4 at S2 l4b s4a s4b n4b
      clear S1
      go_wp2_with fail
      go_big_region_o
      clear l4a l4b s4a s4b
      generalize (wr.drew.setCells blk (off + (i) * k) cJ4).setCells blk (off + (j) * k) cI4 = w2 at S2 ⊢
      go_wp2
      go_roundg (j - 1)
      case measure => omega
      case rel => exact ⟨i + 1, j - 1, swp da i j, A ++ [y], M2, x :: B, by go_num, by congr 1; omega, by omega, by omega, Nat.le_refl _, by rw [size_swp]; exact hds, S2, HS⟩
    · have hltz : ¬ (i : Int) < (j : Int) := by omega
      go_wp2
      go_end0
      obtain ⟨q1, q2, q3, q4⟩ := H1.out
      refine ⟨rfl, da, hds, ?_, S1.out⟩
      have hml : M.length = d.size - 2 * i := by have := size_list q1; simp at this; omega
      have hM : M.reverse = M := by
        cases M with
        | nil => rfl
        | cons x r =>
          have : r = [] := List.eq_nil_of_length_eq_zero (by simp at hml; omega)
          subst this; rfl
      rw [q1, q4]
      simp [hM]
theorem clear_run {P : Program} {W W' : World} {a : Addr} {nn c : Nat} (ty : TypeId) (h22 : P.underlying 38 = some (TypeDesc.slice 56)) (hv : ∀ w, (zeroValue 56).run P w = .ok (TV z0) w)
    (hst : Sem.run P (storeCells a (Builtin.zeroCells (TV z0).cells (nn + 1)).toList 0) W = .ok () W') : (Builtin.clear_ #[38] ty #[.slice (some a) (nn + 1) c]).run P W = .ok (.tuple #[]) W' := by
  simp [Builtin.clear_, run_underlying h22, hv, hst]
theorem cp_step {L : List Itm} {t : Nat} (ht : t + 1 < L.length) : cp none (L.take (t + 1 + 1)) = if (L.getD t z0).key = (L.getD (t + 1) z0).key then cp none (L.take (t + 1)) else cp none (L.take (t + 1)) ++ [L.getD (t + 1) z0] := by
  have e1 : L.getD t z0 = L[t] := by simp [List.getD, show t < L.length by omega]
  have e2 : L.getD (t + 1) z0 = L[t + 1] := by simp [List.getD, ht]
  rw [e1, e2, List.take_succ_eq_append_getElem ht, cp_snoc]
  have e3 : (L.take (t + 1)).getLast? = some L[t] := by rw [List.take_succ_eq_append_getElem (show t < L.length by omega), List.getLast?_concat]
  rw [e3]
  simp only [Option.some.injEq]
theorem getD_arr {d : Array Itm} {i : Nat} (hi : i < d.size) : d[i]! = d.toList.getD i z0 := by
  rw [getElem!_pos d i hi]
  simp [List.getD, hi]
theorem drop_at {d : Array Itm} {L : List Itm} {s i : Nat} (h : d.toList.drop s = L.drop s) (hsi : s ≤ i) (hi : i < d.size) : d[i]! = L.getD i z0 := by
  rw [getD_arr hi]
  have := congrArg (fun M => M[i - s]?) h
  simp only [List.getElem?_drop, show s + (i - s) = i by omega] at this
  simp [List.getD, this]
theorem take_set {d : Array Itm} {q : Nat} (hq : q < d.size) (x : Itm) : (d.setIfInBounds q x).toList.take (q + 1) = d.toList.take q ++ [x] := by
  rw [Array.toList_setIfInBounds, List.take_succ_eq_append_getElem (by simpa using hq)]
  simp [List.take_set_of_le]
theorem drop_set {d : Array Itm} {q s : Nat} (hq : q < s) (x : Itm) : (d.setIfInBounds q x).toList.drop s = d.toList.drop s := by
  rw [Array.toList_setIfInBounds, List.drop_set_of_lt hq]
/-- What CompactFunc answers. -/
def CompQ (k : Nat) (w0 : World) (blk off cap n : Nat) (T : List Itm) (e : Ending) (w' : World) : Prop := ∃ (q : Nat) (d' : Array Itm), e = .returned (.slice (some ⟨blk, off, none⟩) q cap) ∧ q ≤ n ∧ d'.size = n ∧ d'.toList.take q = cp none T ∧ SWK itV k w0 blk off d' w'
variable {P : Program} {k : Nat} {w0 W : World} {blk off : Nat} {d0 dk : Array Itm}
set_option maxRecDepth 1000000 in
theorem comp_any (L : LG2 P k) (g : Nat) (cb : Array Value) (cap : Nat) (d : Array Itm) (w : World) (R : RowK itV k w0 blk off d0) (eg : ∀ args w, (callFunc g args).run P w = .ok (.enter g args) w) (heq : EqLays P g cb k blk off d0.size w0) (hs : d0.size = d.size) (S : SWK itV k w0 blk off d w) (hn2 : 2 ≤ d.size) (hcap : d.size ≤ cap) (hsz : d.size ≤ 1000000) :
    Calls P 129 #[.slice (some ⟨blk, off, none⟩) d.size cap, .func (.func g) #[] cb] w (CompQ k w0 blk off cap d.size d.toList) := by
  have mixed := L.mixed
  have t0 := L.t0; have ag0 := L.a0; have zt0 := L.z0; have vt0 := L.v0
  have t3 := L.t3; have ag3 := L.a3; have zt3 := L.z3; have vt3 := L.v3
  have t4 := L.t4; have ag4 := L.a4; have zt4 := L.z4; have vt4 := L.v4
  have t22 := L.t22; have ag22 := L.a22; have zt22 := L.z22; have vt22 := L.v22
  have t51 := L.t51; have ag51 := L.a51; have zt51 := L.z51; have vt51 := L.v51
  have t72 := L.t72; have ag72 := L.a72; have zt72 := L.z72; have vt72 := L.v72
  have u22 := run_underlying L.t22; have u51 := run_underlying L.t51; have u3 := run_underlying L.t3
  have aE := L.aE; have zE := L.zE
  have t74 := L.t74; have ag74 := L.a74; have zt74 := L.z74; have vt74 := L.v74
  have HV : Aside _ := L.vE
  have HC : Aside _ := heq
  have S0 : Aside (SWK itV k w0 blk off d w) := S
  obtain ⟨n, hn⟩ : ∃ q, q = d.size := ⟨_, rfl⟩
  obtain ⟨T, hT⟩ : ∃ T, T = d.toList := ⟨_, rfl⟩
  have HN : Aside (n = d.size ∧ T = d.toList ∧ T.length = n) := ⟨hn, hT, by rw [hn, hT, Array.length_toList]⟩
  have hT1 : T.length ≤ n ∧ n ≤ T.length := by rw [HN.out.2.2]; exact ⟨Nat.le_refl _, Nat.le_refl _⟩
  rw [← hn] at hs hn2 hcap hsz ⊢
  rw [← hT]
  have t2 : ¬ (n : Int) < 2 := by omega
  have hsd : d.size ≤ n ∧ n ≤ d.size := by omega
  clear S heq hn hT
  go_enter L.fcomp, Tryz.ntmps129
  go_wp2_with fail
  go_loopg [5] n (fun kx s5 wr => ∃ (j : Nat), s5 = .int .i64 ((j : Int) + 1) ∧ j + 1 ≤ n ∧ n - j ≤ kx ∧ Aside (SWK itV k w0 blk off d wr) ∧ Aside (cp none (T.take (j + 1)) = T.take (j + 1)))
  case atStart => exact ⟨0, rfl, by omega, by omega, S0, by
    show _ = _
    cases hTT : T with
    | nil => rfl
    | cons x r => rfl⟩
  case round =>
    clear S0 t2
    obtain ⟨j, rfl, hjn, hkx, S1, H1⟩ := hrel
    by_cases hlt : j + 1 < n
    · have hltz : (j : Int) + 1 < (n : Int) := by omega
      have gx : d[j + 1]! = T.getD (j + 1) z0 := by rw [HN.out.2.1]; exact getD_arr (by omega)
      have gy : d[j]! = T.getD j z0 := by rw [HN.out.2.1]; exact getD_arr (by omega)
      by_cases hlv : (T.getD (j + 1) z0).key = (T.getD j z0).key
      · have hcv : (d[j + 1]!).key = (d[j]!).key := by rw [gx, gy]; exact hlv
        have HK0 : Aside (cp none (T.take (j + 1 + 1)) = T.take (j + 1)) := by
          show _ = _
          rw [cp_step (by omega), if_pos hlv.symm, H1.out]
        clear gx gy hlv H1
        have ea1i : (((j : Int) + 1)).toNat = j + 1 := by omega
        have pa1i : (0 : Int) ≤ ((j : Int) + 1) := by omega
        have ba1i : ((j : Int) + 1) < (n : Int) := by omega
        have ra1i : IntKind.i64.wrap (((j : Int) + 1)) = ((j : Int) + 1) := by rw [IntKind.wrap_i64]; omega
        have ea1j : ((j : Int)).toNat = j := by omega
        have pa1j : (0 : Int) ≤ (j : Int) := by omega
        have ba1j : (j : Int) < (n : Int) := by omega
        have ra1j : IntKind.i64.wrap ((j : Int)) = (j : Int) := by rw [IntKind.wrap_i64]; omega
        obtain ⟨x1, hx1⟩ : ∃ x, x = d[j + 1]! := ⟨_, rfl⟩
        obtain ⟨y1, hy1⟩ : ∃ x, x = d[j]! := ⟨_, rfl⟩
        have l1a := S1.out.ld R (by omega) P (j + 1) (by omega)
        have l1b := S1.out.ld R (by omega) P (j) (by omega)
        rw [← hx1] at l1a hcv
        rw [← hy1] at l1b hcv
        have hc1 := swk_eq S1.out HC.out (by omega) x1 y1
        rw [decide_eq_true hcv] at hc1
        clear hx1 hy1 hcv
        go_wp2_with fail
        go_quiet_grown (first | (go_at_fn g; refine Calls.grown_of (hc1 _ _)))
        have S2 : Aside (SWK itV k w0 blk off d (grow (wr.drewN nq) osq)) := S1.out.grown nq osq
        clear l1a l1b hc1 S1
        generalize grow (wr.drewN nq) osq = w2 at S2 ⊢
        clear nq osq
        have nc1 : ¬ cap = j + 1 := by omega
        have nc2 : j + 1 ≤ n := by omega
        have nc3 : j + 1 ≤ cap := by omega
        have nc4 : (j : Int) + 1 ≤ (cap : Int) := by omega
        have nc5 : (j : Int) + 1 ≤ (n : Int) := by omega
        go_upto_region 8 with fail
        generalize hn2' : n - (j + 1) = n2
        generalize cap - (j + 1) = c2
        have m1 : n2 + (j + 1) ≤ n := by omega
        have m2 : n ≤ n2 + (j + 1) := by omega
        clear hn2' nc1 nc2 nc3 nc4 nc5 hltz hkx
        go_wp2_with fail
        go_loopg [5, 7] n2 (fun kx s5 s7 wr => ∃ (kk q : Nat) (dk : Array Itm), s5 = .int .i64 kk ∧ s7 = .int .i64 ((q : Int) + 1) ∧ kk ≤ j + 1 + q ∧ q + 1 ≤ n2 ∧ n2 - q ≤ kx ∧ dk.size = n ∧ Aside (SWK itV k w0 blk off dk wr) ∧ Aside (dk.toList.take kk = cp none (T.take (j + 1 + q + 1)) ∧ dk.toList.drop (j + 1 + q) = T.drop (j + 1 + q)))
        case atStart => exact ⟨j + 1, 0, d, by go_num, rfl, by omega, by omega, by omega, by omega, S2, ⟨by rw [← HN.out.2.1]; exact HK0.out.symm, by rw [← HN.out.2.1]⟩⟩
        case round =>
          clear S2 HK0
          obtain ⟨kk, q, dk, rfl, rfl, hkk, hq, hkx, hds, S1, H1⟩ := hrel
          by_cases hlt2 : q + 1 < n2
          · have hltz : (q : Int) + 1 < (n2 : Int) := by omega
            have gx : dk[j + 1 + (q + 1)]! = T.getD (j + 1 + q + 1) z0 := drop_at H1.out.2 (by omega) (by omega)
            have gy : dk[j + 1 + q]! = T.getD (j + 1 + q) z0 := drop_at H1.out.2 (Nat.le_refl _) (by omega)
            have CS := cp_step (L := T) (t := j + 1 + q) (by omega)
            have DR : dk.toList.drop (j + 1 + (q + 1)) = T.drop (j + 1 + (q + 1)) := by
              have := congrArg (fun M => M.drop 1) H1.out.2
              simpa [List.drop_drop, Nat.add_assoc] using this
            by_cases hlv : (T.getD (j + 1 + q + 1) z0).key = (T.getD (j + 1 + q) z0).key
            · have hcv : (dk[j + 1 + (q + 1)]!).key = (dk[j + 1 + q]!).key := by rw [gx, gy]; exact hlv
              have H2 : Aside (dk.toList.take kk = cp none (T.take (j + 1 + (q + 1) + 1)) ∧ dk.toList.drop (j + 1 + (q + 1)) = T.drop (j + 1 + (q + 1))) := ⟨by
                rw [show j + 1 + (q + 1) + 1 = j + 1 + q + 1 + 1 by omega, CS, if_pos hlv.symm]; exact H1.out.1, DR⟩
              clear gx gy hlv H1 CS DR
              have ea2i : (((q : Int) + 1)).toNat = q + 1 := by omega
              have pa2i : (0 : Int) ≤ ((q : Int) + 1) := by omega
              have ba2i : ((q : Int) + 1) < (n2 : Int) := by omega
              have ra2i : IntKind.i64.wrap (((q : Int) + 1)) = ((q : Int) + 1) := by rw [IntKind.wrap_i64]; omega
              have ea2j : ((q : Int)).toNat = q := by omega
              have pa2j : (0 : Int) ≤ (q : Int) := by omega
              have ba2j : (q : Int) < (n2 : Int) := by omega
              have ra2j : IntKind.i64.wrap ((q : Int)) = (q : Int) := by rw [IntKind.wrap_i64]; omega
              obtain ⟨x2, hx2⟩ : ∃ x, x = dk[j + 1 + (q + 1)]! := ⟨_, rfl⟩
              obtain ⟨y2, hy2⟩ : ∃ x, x = dk[j + 1 + q]! := ⟨_, rfl⟩
              have l2a := S1.out.ld R (by omega) P (j + 1 + (q + 1)) (by omega)
              have l2b := S1.out.ld R (by omega) P (j + 1 + q) (by omega)
              rw [← hx2] at l2a hcv
              rw [← hy2] at l2b hcv
              have hc2 := swk_eq S1.out HC.out (by omega) x2 y2
              rw [decide_eq_true hcv] at hc2
              clear hx2 hy2 hcv
              rw [Nat.add_mul, ← Nat.add_assoc] at l2a l2b
              go_wp2_with fail
              go_quiet_grown (first | (go_at_fn g; refine Calls.grown_of (hc2 _ _)))
              have S2 : Aside (SWK itV k w0 blk off dk (grow (wr.drewN nq) osq)) := S1.out.grown nq osq
              clear l2a l2b hc2 S1
              generalize grow (wr.drewN nq) osq = w2 at S2 ⊢
              clear nq osq
              go_wp2
              go_roundg (n2 - (q + 1))
              case measure => omega
              case rel => exact ⟨kk, q + 1, dk, rfl, by go_num, by omega, by omega, by omega, hds, S2, H2⟩
            · have hcv : ¬ (dk[j + 1 + (q + 1)]!).key = (dk[j + 1 + q]!).key := by rw [gx, gy]; exact hlv
              have hkn : kk < n := by omega
              have H2 : Aside ((dk.setIfInBounds kk dk[j + 1 + (q + 1)]!).toList.take (kk + 1) = cp none (T.take (j + 1 + (q + 1) + 1)) ∧ (dk.setIfInBounds kk dk[j + 1 + (q + 1)]!).toList.drop (j + 1 + (q + 1)) = T.drop (j + 1 + (q + 1))) := ⟨by
                rw [take_set (by omega), H1.out.1, show j + 1 + (q + 1) + 1 = j + 1 + q + 1 + 1 by omega, CS, if_neg (fun h => hlv h.symm), gx], by rw [drop_set (by omega)]; exact DR⟩
              clear gx gy hlv H1 CS DR
              have ea3i : (((q : Int) + 1)).toNat = q + 1 := by omega
              have pa3i : (0 : Int) ≤ ((q : Int) + 1) := by omega
              have ba3i : ((q : Int) + 1) < (n2 : Int) := by omega
              have ra3i : IntKind.i64.wrap (((q : Int) + 1)) = ((q : Int) + 1) := by rw [IntKind.wrap_i64]; omega
              have ea3j : ((q : Int)).toNat = q := by omega
              have pa3j : (0 : Int) ≤ (q : Int) := by omega
              have ba3j : (q : Int) < (n2 : Int) := by omega
              have ra3j : IntKind.i64.wrap ((q : Int)) = (q : Int) := by rw [IntKind.wrap_i64]; omega
              obtain ⟨x3, hx3⟩ : ∃ x, x = dk[j + 1 + (q + 1)]! := ⟨_, rfl⟩
              obtain ⟨y3, hy3⟩ : ∃ x, x = dk[j + 1 + q]! := ⟨_, rfl⟩
              have l3a := S1.out.ld R (by omega) P (j + 1 + (q + 1)) (by omega)
              have l3b := S1.out.ld R (by omega) P (j + 1 + q) (by omega)
              rw [← hx3] at l3a hcv
              rw [← hy3] at l3b hcv
              have hc3 := swk_eq S1.out HC.out (by omega) x3 y3
              rw [decide_eq_false hcv] at hc3
              clear hx3 hy3 hcv
              rw [Nat.add_mul, ← Nat.add_assoc] at l3a l3b
              go_wp2_with fail
              go_quiet_grown (first | (go_at_fn g; refine Calls.grown_of (hc3 _ _)))
              have S2 : Aside (SWK itV k w0 blk off dk (grow (wr.drewN nq) osq)) := S1.out.grown nq osq
              clear l3a l3b hc3 S1
              generalize grow (wr.drewN nq) osq = w2 at S2 ⊢
              clear nq osq
              have ea4k : ((kk : Int)).toNat = kk := by omega
              have pa4k : (0 : Int) ≤ (kk : Int) := by omega
              have ba4k : (kk : Int) < (n : Int) := by omega
              have ra4k : IntKind.i64.wrap ((kk : Int)) = (kk : Int) := by rw [IntKind.wrap_i64]; omega
              have l4 := S2.out.load R (by omega) P (j + 1 + (q + 1)) (by omega)
              rw [Nat.add_mul, ← Nat.add_assoc] at l4
              have s4 := swk_store S2.out R (by omega) P kk (by omega) dk[j + 1 + (q + 1)]!
              have S3 : Aside (SWK itV k w0 blk off (dk.setIfInBounds kk dk[j + 1 + (q + 1)]!) (w2.setCells blk (off + kk * k) (itV dk[j + 1 + (q + 1)]!))) := swk_set S2.out R kk (by omega) _
              have n4 : (itV dk[j + 1 + (q + 1)]!).length = k := R.hk _
              have sz4 : (dk.setIfInBounds kk dk[j + 1 + (q + 1)]!).size = n := by rw [Array.size_setIfInBounds]; exact hds
              generalize dk.setIfInBounds kk dk[j + 1 + (q + 1)]! = d3 at S3 H2 sz4
              generalize itV dk[j + 1 + (q + 1)]! = c4 at S3 l4 s4 n4
              clear S2
              go_wp2
              clear l4 s4
              generalize w2.setCells blk (off + kk * k) c4 = w3 at S3 ⊢
              go_roundg (n2 - (q + 1))
              case measure => omega
              case rel => exact ⟨kk + 1, q + 1, d3, by go_num, by go_num, by omega, by omega, by omega, sz4, S3, H2⟩
          · have hltz : ¬ (q : Int) + 1 < (n2 : Int) := by omega
            have HE : Aside (dk.toList.take kk = cp none T) := by
              show _ = _
              rw [H1.out.1, List.take_of_length_le (by omega)]
            obtain ⟨nn, hnn⟩ : ∃ q, n - kk = q + 1 := ⟨n - kk - 1, by omega⟩
            obtain ⟨hst, d3, hs3, ht3, hS3⟩ := swk_clear S1.out R (by omega) P kk (by omega)
            rw [hds, hnn] at hst hS3
            have hcl := fun ty => clear_run (c := cap - kk) ty t22 HV.out hst
            have F3 : Aside (d3.size = n ∧ d3.toList.take kk = cp none T ∧ SWK itV k w0 blk off d3 (wr.setCells blk (off + kk * k) (Builtin.zeroCells (TV z0).cells (nn + 1)).toList)) := ⟨by omega, by rw [ht3, HE.out], hS3⟩
            have nd1 : ¬ cap = kk := by omega
            have nd2 : kk ≤ n := by omega
            have nd3 : kk ≤ cap := by omega
            have nd4 : (kk : Int) ≤ (cap : Int) := by omega
            have nd5 : (kk : Int) ≤ (n : Int) := by omega
            clear hst hs3 ht3 hS3 H1 HE S1
            generalize (Builtin.zeroCells (TV z0).cells (nn + 1)).toList = zz at hcl F3
            go_wp2
            go_ret
            exact ⟨kk, d3, rfl, by omega, F3.out.1, F3.out.2.1, F3.out.2.2⟩
      · have hcv : ¬ (d[j + 1]!).key = (d[j]!).key := by rw [gx, gy]; exact hlv
        have HK0 : Aside (cp none (T.take (j + 1 + 1)) = T.take (j + 1 + 1)) := by
          show _ = _
          rw [cp_step (by omega), if_neg (fun h => hlv h.symm), H1.out, List.take_succ_eq_append_getElem (show j + 1 < T.length by omega)]
          simp [List.getD, show j + 1 < T.length by omega]
        clear gx gy hlv H1
        have ea5i : (((j : Int) + 1)).toNat = j + 1 := by omega
        have pa5i : (0 : Int) ≤ ((j : Int) + 1) := by omega
        have ba5i : ((j : Int) + 1) < (n : Int) := by omega
        have ra5i : IntKind.i64.wrap (((j : Int) + 1)) = ((j : Int) + 1) := by rw [IntKind.wrap_i64]; omega
        have ea5j : ((j : Int)).toNat = j := by omega
        have pa5j : (0 : Int) ≤ (j : Int) := by omega
        have ba5j : (j : Int) < (n : Int) := by omega
        have ra5j : IntKind.i64.wrap ((j : Int)) = (j : Int) := by rw [IntKind.wrap_i64]; omega
        obtain ⟨x5, hx5⟩ : ∃ x, x = d[j + 1]! := ⟨_, rfl⟩
        obtain ⟨y5, hy5⟩ : ∃ x, x = d[j]! := ⟨_, rfl⟩
        have l5a := S1.out.ld R (by omega) P (j + 1) (by omega)
        have l5b := S1.out.ld R (by omega) P (j) (by omega)
        rw [← hx5] at l5a hcv
        rw [← hy5] at l5b hcv
        have hc5 := swk_eq S1.out HC.out (by omega) x5 y5
        rw [decide_eq_false hcv] at hc5
        clear hx5 hy5 hcv
        go_wp2_with fail
        go_quiet_grown (first | (go_at_fn g; refine Calls.grown_of (hc5 _ _)))
        have S2 : Aside (SWK itV k w0 blk off d (grow (wr.drewN nq) osq)) := S1.out.grown nq osq
        clear l5a l5b hc5 S1
        generalize grow (wr.drewN nq) osq = w2 at S2 ⊢
        clear nq osq
        go_wp2
        go_roundg (n - (j + 1))
        case measure => omega
        case rel => exact ⟨j + 1, by go_num, by omega, by omega, S2, HK0⟩
    · have hltz : ¬ (j : Int) + 1 < (n : Int) := by omega
      have e1 : T.take (j + 1) = T := List.take_of_length_le (by omega)
      have e2 : T.take n = T := List.take_of_length_le (by omega)
      have h1 := H1.out
      rw [e1] at h1
      have HE : Aside (d.toList.take n = cp none T) := by
        show _ = _
        rw [← HN.out.2.1, e2, h1]
      clear H1 e1 e2 h1 hT1
      go_wp2
      go_ret
      exact ⟨n, d, rfl, by omega, HN.out.1.symm, HE.out, S1.out⟩
end Go.Proofs.YtbmlpafbdbhaiaaGreatDoor.Gf
