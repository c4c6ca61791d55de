/- What is proved here: the contract of the library's stable sort (stableCmpFunc), at items. Condition: at most a million items. -/
import Derived.Test.YtihjfnlimdcmkaaDoorS8t
namespace Go.Proofs.YtihjfnlimdcmkaaDoor.Gf
open Go Go.Proofs Go.Shelf Go.RowKit Go.Lib Go.Sort

theorem bl_zero (L : List Itm) : Bl 0 L := fun t => by rw [List.take_zero]; exact srt_nil
set_option maxHeartbeats 8000000 in
set_option maxRecDepth 1000000 in
theorem stable_any {P : Program} {k : Nat} (L : LG P k) (g : Nat) (cb : Array Value) (blk off cap : Nat) (d0 d : Array Itm) (w0 w : World) (R : RowK itV k w0 blk off d0) (eg : ∀ args w, (callFunc g args).run P w = .ok (.enter g args) w) (hcmp : CmpLays P g cb itV k cfK blk off d0.size w0) (hs : d0.size = d.size) (S : SWK itV k w0 blk off d w) (hsz : d.size ≤ 1000000) :
    Calls P 59 #[.slice (some ⟨blk, off, none⟩) d.size cap, .int .i64 d.size, .func (.func g) #[] cb] w fun e w' => e = .returned (.tuple #[]) ∧ ∃ d' : Array Itm, d'.size = d.size ∧ Srt d'.toList ∧ Kq d'.toList d.toList ∧ SWK itV k w0 blk off d' w' := by
  have mixed := L.mixed
  have t0 := L.t0; have ag0 := L.a0; have zt0 := L.z0; have vt0 := L.v0
  have t3 := L.t3; have ag3 := L.a3; have zt3 := L.z3; have vt3 := L.v3
  have t4 := L.t4; have ag4 := L.a4; have zt4 := L.z4; have vt4 := L.v4
  have t22 := L.t22; have ag22 := L.a22; have zt22 := L.z22; have vt22 := L.v22
  have t51 := L.t51; have ag51 := L.a51; have zt51 := L.z51; have vt51 := L.v51
  have t72 := L.t72; have ag72 := L.a72; have zt72 := L.z72; have vt72 := L.v72
  have u22 := run_underlying L.t22; have u51 := run_underlying L.t51; have u3 := run_underlying L.t3
  have aE := L.aE; have zE := L.zE
  have eins : ∀ args w, (callFunc 62 args).run P w = .ok (.enter 62 args) w := enters_of L.fins (by kernel_rfl) rfl
  have esym : ∀ args w, (callFunc 63 args).run P w = .ok (.enter 63 args) w := enters_of L.fsym (by kernel_rfl) rfl
  have INS := fun (a b : Nat) (dd : Array Itm) (W : World) (h1 : d0.size = dd.size) (h2 : SWK itV k w0 blk off dd W) (h3 : dd.size < 4611686018427387904) (A X B : List Itm) h5 h6 h7 => ins_any L g cb blk off cap a b d0 dd w0 W R h1 h2 eg hcmp A X B h5 h6 h7 h3
  have SYM := fun (a m b : Nat) (dd : Array Itm) (W : World) (h1 : d0.size = dd.size) (h2 : SWK itV k w0 blk off dd W) (h3 : dd.size < 4611686018427387904) (A X Y B : List Itm) h5 h6 h7 h8 h9 h10 h11 h12 => sym_any L g cb blk off cap d0 w0 R eg hcmp (b - a + 1) a m b dd W (Nat.lt_succ_self _) h1 h2 A X Y B h5 h6 h7 h8 h9 h10 h11 h12 h3
  have IN : Aside _ := INS
  have SY : Aside _ := SYM
  have S0 : Aside (SWK itV k w0 blk off d w) := S
  obtain ⟨n, hn⟩ : ∃ q, q = d.size := ⟨_, rfl⟩
  have HN : Aside (n = d.size ∧ d.toList.length = n) := ⟨hn, by rw [hn, Array.length_toList]⟩
  rw [← hn] at hs hsz ⊢
  clear INS SYM S hcmp hn
  go_enter L.fstable, Tryd.ntmps59
  go_wp2_with fail
  go_loopg [7, 8] n (fun kx s7 s8 wr => ∃ (a t : Nat) (da : Array Itm), s7 = .int .i64 a ∧ s8 = .int .i64 ((a : Int) + 20) ∧ a ≤ n ∧ n - a ≤ kx ∧ Aside (da.size = n ∧ a = t * 20 ∧ SWK itV k w0 blk off da wr ∧ Kq da.toList d.toList ∧ Two 20 0 t da.toList))
  case atStart => exact ⟨0, 0, d, rfl, rfl, Nat.zero_le _, Nat.le_refl _, ⟨HN.out.1.symm, by simp, S0.out, Kq.refl _, two_start (bl_zero _)⟩⟩
  case round =>
    clear S0
    obtain ⟨a, t, da, rfl, rfl, han, hkx, H1⟩ := hrel
    have hl : da.toList.length = n := by rw [Array.length_toList]; exact H1.out.1
    by_cases hlt : a + 20 ≤ n
    · have hltz : (a : Int) + 20 ≤ (n : Int) := by omega
      obtain ⟨h1, h2, h3, h4, h5⟩ := H1.out
      have lX : ((da.toList.drop a).take 20).length = 20 := by rw [List.length_take, List.length_drop]; omega
      have lA : (da.toList.take a).length = a := by rw [List.length_take]; omega
      have e3 := cut3 da.toList a 20
      have hc := IN.out a (a + 20) da wr (by omega) h3 (by omega) _ _ _ e3 lA (by rw [lX])
      rw [h1, show ((a + 20 : Nat) : Int) = (a : Int) + 20 by omega] at hc
      have NX : Aside (∀ (d' : Array Itm) (Z : List Itm) (w' : World), d'.size = n → d'.toList = da.toList.take a ++ (Z ++ da.toList.drop (a + 20)) → Srt Z → Kq Z ((da.toList.drop a).take 20) → SWK itV k w0 blk off d' w' → d'.size = n ∧ a + 20 = (t + 1) * 20 ∧ SWK itV k w0 blk off d' w' ∧ Kq d'.toList d.toList ∧ Two 20 0 (t + 1) d'.toList) := fun d' Z w' g1 g2 g3 g4 g5 => by
        have lZ : Z.length = 20 := by have := size_list g2; rw [g1] at this; simp at this; omega
        refine ⟨g1, by omega, g5, ?_, ?_⟩
        · rw [g2]
          refine Kq.trans ?_ h4
          rw [e3]
          have := ((Kq.refl (da.toList.take a)).app (g4.app (Kq.refl (da.toList.drop (a + 20)))))
          rwa [← e3] at this ⊢
        · rw [g2]
          rw [e3] at h5
          exact h5.step (by omega) lX lZ g3
      clear h1 h2 h3 h4 h5 lX lA e3 H1 hl
      go_wp2_with (go_at_fn 62; refine hc.mono ?_; rintro e w2 ⟨rfl, d2, Z, hs2, hl2, hz2, hk2, hS2⟩)
      have H2 : Aside _ := NX.out d2 Z w2 hs2 hl2 hz2 hk2 hS2
      clear hs2 hl2 hz2 hk2 hS2 NX hc
      go_wp2
      go_roundg (n - (a + 20))
      case measure => omega
      case rel => exact ⟨a + 20, t + 1, d2, by go_num, by go_num, by omega, Nat.le_refl _, H2⟩
    · have hltz : ¬ (a : Int) + 20 ≤ (n : Int) := by omega
      obtain ⟨h1, h2, h3, h4, h5⟩ := H1.out
      have lX : (da.toList.drop a).length = n - a := by rw [List.length_drop]; omega
      have lA : (da.toList.take a).length = a := by rw [List.length_take]; omega
      have e3 : da.toList = da.toList.take a ++ (da.toList.drop a ++ []) := by simp
      have hc := IN.out a n da wr (by omega) h3 (by omega) _ _ _ e3 lA (by rw [lX]; omega)
      rw [h1] at hc
      have NX : Aside (∀ (d' : Array Itm) (Z : List Itm) (w' : World), d'.size = n → d'.toList = da.toList.take a ++ (Z ++ []) → Srt Z → Kq Z (da.toList.drop a) → SWK itV k w0 blk off d' w' → d'.size = n ∧ SWK itV k w0 blk off d' w' ∧ Kq d'.toList d.toList ∧ Bl 20 d'.toList) := fun d' Z w' g1 g2 g3 g4 g5 => by
        rw [List.append_nil] at g2
        have lZ : Z.length = (da.toList.drop a).length := by have := size_list g2; rw [g1] at this; simp at this ⊢; omega
        refine ⟨g1, g5, ?_, ?_⟩
        · rw [g2]
          refine Kq.trans ?_ h4
          have := (Kq.refl (da.toList.take a)).app g4
          rwa [List.take_append_drop] at this
        · rw [g2]
          rw [← List.take_append_drop a da.toList] at h5
          exact h5.last (by omega) (by omega) lZ g3
      clear h1 h2 h3 h4 h5 lX lA e3 H1 hl
      go_wp2_with (go_at_fn 62; refine hc.mono ?_; rintro e w2 ⟨rfl, d2, Z, hs2, hl2, hz2, hk2, hS2⟩)
      have H2 : Aside _ := NX.out d2 Z w2 hs2 hl2 hz2 hk2 hS2
      clear hs2 hl2 hz2 hk2 hS2 NX hc hltz hlt han hkx
      go_loopg [6] n (fun kx s6 wr => ∃ (s : Nat) (da : Array Itm), s6 = .int .i64 s ∧ 20 ≤ s ∧ s ≤ 4000000 ∧ n - s ≤ kx ∧ Aside (da.size = n ∧ SWK itV k w0 blk off da wr ∧ Kq da.toList d.toList ∧ Bl s da.toList))
      case atStart => exact ⟨20, d2, rfl, Nat.le_refl _, by omega, by omega, H2⟩
      case round =>
        clear H2
        obtain ⟨s, da, rfl, hs20, hsm, hkx, H1⟩ := hrel
        by_cases hlt : s < n
        · have hltz : (s : Int) < (n : Int) := by omega
          have ws : IntKind.i64.wrap (2 * (s : Int)) = 2 * (s : Int) := by rw [IntKind.wrap_i64]; omega
          have ws2 : IntKind.i64.wrap ((s : Int) * 2) = (s : Int) * 2 := by rw [IntKind.wrap_i64]; omega
          have H3 : Aside (da.size = n ∧ (0 : Nat) = 0 * (2 * s) ∧ SWK itV k w0 blk off da wr ∧ Kq da.toList d.toList ∧ Two (2 * s) s 0 da.toList) := ⟨H1.out.1, by simp, H1.out.2.1, H1.out.2.2.1, two_start H1.out.2.2.2⟩
          clear H1
          go_wp2_with fail
          go_loopg [7, 8] n (fun kx s7 s8 wr => ∃ (a t : Nat) (da : Array Itm), s7 = .int .i64 a ∧ s8 = .int .i64 ((a : Int) + 2 * (s : Int)) ∧ a ≤ n ∧ n - a ≤ kx ∧ Aside (da.size = n ∧ a = t * (2 * s) ∧ SWK itV k w0 blk off da wr ∧ Kq da.toList d.toList ∧ Two (2 * s) s t da.toList))
          case atStart => exact ⟨0, 0, da, rfl, by simp, Nat.zero_le _, Nat.le_refl _, H3⟩
          case round =>
            clear H3
            obtain ⟨a, t, db, rfl, rfl, han, hkx2, H4⟩ := hrel
            have hl : db.toList.length = n := by rw [Array.length_toList]; exact H4.out.1
            obtain ⟨h1, h2, h3, h4, h5⟩ := H4.out
            have ev : 2 * t * s = a := by rw [h2, Nat.mul_comm 2 t, Nat.mul_assoc]
            have ew : (2 * t + 1) * s = a + s := by rw [Nat.add_mul, ev, Nat.one_mul]
            have sX := h5.hi (2 * t) (by omega)
            have sY := h5.hi (2 * t + 1) (by omega)
            rw [ev] at sX
            rw [ew] at sY
            have lA : (db.toList.take a).length = a := by rw [List.length_take]; omega
            clear ev ew
            by_cases hlt2 : a + 2 * s ≤ n
            · have hlt2z : (a : Int) + 2 * (s : Int) ≤ (n : Int) := by omega
              have lX : ((db.toList.drop a).take s).length = s := by rw [List.length_take, List.length_drop]; omega
              have lY : ((db.toList.drop (a + s)).take s).length = s := by rw [List.length_take, List.length_drop]; omega
              have e3 : db.toList = db.toList.take a ++ ((db.toList.drop a).take s ++ ((db.toList.drop (a + s)).take s ++ db.toList.drop (a + 2 * s))) := by
                have := cut3 (db.toList.drop a) s s
                rw [List.drop_drop, List.drop_drop] at this
                rw [show a + 2 * s = a + (s + s) by omega]
                conv => lhs; rw [← List.take_append_drop a db.toList]
                rw [← List.append_assoc ((db.toList.drop a).take s)] at this ⊢
                rw [List.append_assoc]
                congr 1
                conv => lhs; rw [← List.take_append_drop s (db.toList.drop a), List.drop_drop]
                congr 1
                conv => lhs; rw [← List.take_append_drop s (db.toList.drop (a + s)), List.drop_drop]
                rw [Nat.add_assoc]
              have hc := SY.out a (a + s) (a + 2 * s) db wr (by omega) h3 (by omega) _ _ _ _ e3 lA (by rw [lX]) (by rw [lY]; omega) (by omega) (by omega) sX sY
              rw [h1, show ((a + 2 * s : Nat) : Int) = (a : Int) + 2 * (s : Int) by omega, show ((a + s : Nat) : Int) = (a : Int) + (s : Int) by omega] at hc
              have NX : Aside (∀ (d' : Array Itm) (Z : List Itm) (w' : World), d'.size = n → d'.toList = db.toList.take a ++ (Z ++ db.toList.drop (a + 2 * s)) → Srt Z → Kq Z ((db.toList.drop a).take s ++ (db.toList.drop (a + s)).take s) → SWK itV k w0 blk off d' w' → d'.size = n ∧ a + 2 * s = (t + 1) * (2 * s) ∧ SWK itV k w0 blk off d' w' ∧ Kq d'.toList d.toList ∧ Two (2 * s) s (t + 1) d'.toList) := fun d' Z w' g1 g2 g3 g4 g5 => by
                have lZ : Z.length = 2 * s := by have := size_list g2; rw [g1] at this; simp at this; omega
                have e4 : db.toList = db.toList.take a ++ (((db.toList.drop a).take s ++ (db.toList.drop (a + s)).take s) ++ db.toList.drop (a + 2 * s)) := by rw [List.append_assoc]; exact e3
                refine ⟨g1, by rw [Nat.add_mul]; omega, g5, ?_, ?_⟩
                · rw [g2]
                  refine Kq.trans ?_ h4
                  have := ((Kq.refl (db.toList.take a)).app (g4.app (Kq.refl (db.toList.drop (a + 2 * s)))))
                  rwa [← e4] at this
                · rw [g2]
                  rw [e4] at h5
                  exact h5.step (by omega) (by rw [List.length_append]; omega) lZ g3
              clear h1 h2 h3 h4 h5 lX lY lA e3 H4 hl sX sY
              have wa : IntKind.i64.wrap ((a : Int) + 2 * (s : Int) + 2 * (s : Int)) = (a : Int) + 2 * (s : Int) + 2 * (s : Int) := by rw [IntKind.wrap_i64]; omega
              have wb : IntKind.i64.wrap ((a : Int) + (s : Int)) = (a : Int) + (s : Int) := by rw [IntKind.wrap_i64]; omega
              go_wp2_with (go_at_fn 63; refine hc.mono ?_; rintro e w2 ⟨rfl, d3, Z3, hs2, hl2, hz2, hk2, hS2⟩)
              have H5 : Aside _ := NX.out d3 Z3 w2 hs2 hl2 hz2 hk2 hS2
              clear hs2 hl2 hz2 hk2 hS2 NX hc
              go_wp2
              go_roundg (n - (a + 2 * s))
              case measure => omega
              case rel => exact ⟨a + 2 * s, t + 1, d3, by congr 1 <;> omega, by congr 1 <;> omega, by omega, Nat.le_refl _, H5⟩
            · have hlt2z : ¬ (a : Int) + 2 * (s : Int) ≤ (n : Int) := by omega
              have wb : IntKind.i64.wrap ((a : Int) + (s : Int)) = (a : Int) + (s : Int) := by rw [IntKind.wrap_i64]; omega
              by_cases hlt3 : a + s < n
              · have hlt3z : (a : Int) + (s : Int) < (n : Int) := by omega
                have lX : ((db.toList.drop a).take s).length = s := by rw [List.length_take, List.length_drop]; omega
                have lY : (db.toList.drop (a + s)).length = n - (a + s) := by rw [List.length_drop]; omega
                rw [List.take_of_length_le (by omega)] at sY
                have e3 : db.toList = db.toList.take a ++ ((db.toList.drop a).take s ++ (db.toList.drop (a + s) ++ [])) := by
                  rw [List.append_nil]
                  exact cut3 db.toList a s
                have hc := SY.out a (a + s) n db wr (by omega) h3 (by omega) _ _ _ _ e3 lA (by rw [lX]) (by rw [lY]; omega) (by omega) (by omega) sX sY
                rw [h1, show ((a + s : Nat) : Int) = (a : Int) + (s : Int) by omega] at hc
                have NX : Aside (∀ (d' : Array Itm) (Z : List Itm) (w' : World), d'.size = n → d'.toList = db.toList.take a ++ (Z ++ []) → Srt Z → Kq Z ((db.toList.drop a).take s ++ db.toList.drop (a + s)) → SWK itV k w0 blk off d' w' → d'.size = n ∧ SWK itV k w0 blk off d' w' ∧ Kq d'.toList d.toList ∧ Bl (s * 2) d'.toList) := fun d' Z w' g1 g2 g3 g4 g5 => by
                  rw [List.append_nil] at g2
                  have e4 : (db.toList.drop a).take s ++ db.toList.drop (a + s) = db.toList.drop a := by rw [← List.drop_drop, List.take_append_drop]
                  rw [e4] at g4
                  have lZ : Z.length = (db.toList.drop a).length := by have := size_list g2; rw [g1] at this; simp at this ⊢; omega
                  refine ⟨g1, g5, ?_, ?_⟩
                  · rw [g2]
                    refine Kq.trans ?_ h4
                    have := (Kq.refl (db.toList.take a)).app g4
                    rwa [List.take_append_drop] at this
                  · rw [g2, Nat.mul_comm s 2]
                    rw [← List.take_append_drop a db.toList] at h5
                    exact h5.last (by omega) (by rw [List.length_drop]; omega) lZ g3
                clear h1 h2 h3 h4 h5 lX lY lA e3 H4 hl sX sY
                go_wp2_with (go_at_fn 63; refine hc.mono ?_; rintro e w2 ⟨rfl, d3, Z3, hs2, hl2, hz2, hk2, hS2⟩)
                have H5 : Aside _ := NX.out d3 Z3 w2 hs2 hl2 hz2 hk2 hS2
                clear hs2 hl2 hz2 hk2 hS2 NX hc
                go_wp2
                go_roundg (n - s * 2)
                case measure => omega
                case rel => exact ⟨s * 2, d3, by congr 1, by omega, by omega, Nat.le_refl _, H5⟩
              · have hlt3z : ¬ (a : Int) + (s : Int) < (n : Int) := by omega
                have H5 : Aside (db.size = n ∧ SWK itV k w0 blk off db wr ∧ Kq db.toList d.toList ∧ Bl (s * 2) db.toList) := by
                  rw [List.take_of_length_le (by rw [List.length_drop]; omega)] at sX
                  have h6 := h5
                  rw [← List.take_append_drop a db.toList] at h6
                  have h7 := h6.last (by omega) (by rw [List.length_drop]; omega) rfl sX
                  rw [List.take_append_drop, Nat.mul_comm 2 s] at h7
                  exact ⟨h1, h3, h4, h7⟩
                clear h1 h2 h3 h4 h5 lA H4 hl sX sY
                go_wp2
                go_roundg (n - s * 2)
                case measure => omega
                case rel => exact ⟨s * 2, db, by congr 1, by omega, by omega, Nat.le_refl _, H5⟩
        · have hltz : ¬ (s : Int) < (n : Int) := by omega
          go_wp2
          go_end0
          exact ⟨rfl, da, H1.out.1, bl_all H1.out.2.2.2 (by rw [Array.length_toList, H1.out.1]; omega), H1.out.2.2.1, H1.out.2.1⟩
end Go.Proofs.YtihjfnlimdcmkaaDoor.Gf
