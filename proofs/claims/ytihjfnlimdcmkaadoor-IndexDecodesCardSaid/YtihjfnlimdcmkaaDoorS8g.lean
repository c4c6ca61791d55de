/- What is proved here: contracts of the library's insertion sort, exchange of ranges and rotation, at items. No condition but what each says. -/
import Derived.Test.YtihjfnlimdcmkaaDoorS8m
import Derived.Test.YtihjfnlimdcmkaaDoorI8
import Derived.Shelf.SlSortCmp.KitK
import Derived.Sort.WalkB2
import Derived.Sort.WalkB12
import Derived.Deep.LoopGhost
namespace Go.Proofs.YtihjfnlimdcmkaaDoor.Gf
open Go Go.Proofs Go.Shelf Go.RowKit Go.Lib Go.Sort

/-- Which key is less. -/
def cfK (x y : Itm) : Int := if x.key < y.key then -1 else if y.key < x.key then 1 else 0
theorem cfK_lt {x y : Itm} : cfK x y < 0 ↔ x.key < y.key := by
  unfold cfK
  split
  · simp_all
  · split
    · simp_all
    · simp_all
/-- What a program of this text bears of the sort's family, its items k cells each. -/
structure LG (P : Program) (k : Nat) : Prop where
  mixed : P.follows .mixedOrders = true
  fstable : P.funcs[59]? = some Tryd.f59
  fins : P.funcs[62]? = some Tryd.f62
  fsym : P.funcs[63]? = some Tryd.f63
  frot : P.funcs[64]? = some Tryd.f64
  fswr : P.funcs[65]? = some Tryd.f65
  t0 : P.underlying 0 = some (TypeDesc.tuple #[])
  a0 : ∀ w, (isAgg 0).run P w = .ok false w
  z0 : ∀ w, (Go.sizeOf 0).run P w = .ok 1 w
  v0 : ∀ w, (zeroValue 0).run P w = .ok (Value.tuple #[]) w
  t3 : P.underlying 3 = some (TypeDesc.int IntKind.i64)
  a3 : ∀ w, (isAgg 3).run P w = .ok false w
  z3 : ∀ w, (Go.sizeOf 3).run P w = .ok 1 w
  v3 : ∀ w, (zeroValue 3).run P w = .ok (Value.int IntKind.i64 0) w
  t4 : P.underlying 4 = some (TypeDesc.bool)
  a4 : ∀ w, (isAgg 4).run P w = .ok false w
  z4 : ∀ w, (Go.sizeOf 4).run P w = .ok 1 w
  v4 : ∀ w, (zeroValue 4).run P w = .ok (Value.bool false) w
  t22 : P.underlying 22 = some (TypeDesc.slice 41)
  a22 : ∀ w, (isAgg 22).run P w = .ok false w
  z22 : ∀ w, (Go.sizeOf 22).run P w = .ok 1 w
  v22 : ∀ w, (zeroValue 22).run P w = .ok (Value.slice none 0 0) w
  t51 : P.underlying 51 = some (TypeDesc.int IntKind.u64)
  a51 : ∀ w, (isAgg 51).run P w = .ok false w
  z51 : ∀ w, (Go.sizeOf 51).run P w = .ok 1 w
  v51 : ∀ w, (zeroValue 51).run P w = .ok (Value.int IntKind.u64 0) w
  t72 : P.underlying 72 = some (TypeDesc.func #[41, 41] #[3] false)
  a72 : ∀ w, (isAgg 72).run P w = .ok false w
  z72 : ∀ w, (Go.sizeOf 72).run P w = .ok 1 w
  v72 : ∀ w, (zeroValue 72).run P w = .ok (Value.nilFunc) w
  aE : ∀ w, (isAgg 41).run P w = .ok true w
  zE : ∀ w, (Go.sizeOf 41).run P w = .ok k w
theorem lgP : LG Tryd.prog 4 where
  mixed := by kernel_rfl
  fstable := Tryd.func59
  fins := Tryd.func62
  fsym := Tryd.func63
  frot := Tryd.func64
  fswr := Tryd.func65
  t0 := Tryd.underlying0
  a0 := Tryd.isAgg0
  z0 := Tryd.sizeOf0
  v0 := Tryd.zeroValue0
  t3 := Tryd.underlying3
  a3 := Tryd.isAgg3
  z3 := Tryd.sizeOf3
  v3 := Tryd.zeroValue3
  t4 := Tryd.underlying4
  a4 := Tryd.isAgg4
  z4 := Tryd.sizeOf4
  v4 := Tryd.zeroValue4
  t22 := Tryd.underlying22
  a22 := Tryd.isAgg22
  z22 := Tryd.sizeOf22
  v22 := Tryd.zeroValue22
  t51 := Tryd.underlying51
  a51 := Tryd.isAgg51
  z51 := Tryd.sizeOf51
  v51 := Tryd.zeroValue51
  t72 := Tryd.underlying72
  a72 := Tryd.isAgg72
  z72 := Tryd.sizeOf72
  v72 := Tryd.zeroValue72
  aE := Tryd.isAgg41
  zE := Tryd.sizeOf41
set_option maxHeartbeats 4000000 in
set_option maxRecDepth 1000000 in
theorem swr_any {P : Program} {k : Nat} (L : LG P k) (g : Nat) (cb : Array Value) (blk off cap a b n : Nat) (d0 d : Array Itm) (w0 w : World) (R : RowK itV k w0 blk off d0) (hs : d0.size = d.size) (S : SWK itV k w0 blk off d w) (A X M Y B : List Itm) (hd : d.toList = A ++ (X ++ (M ++ (Y ++ B)))) (ha : a = A.length) (hX : X.length = n) (hY : Y.length = n) (hb : b = a + n + M.length) (hsz : d.size < 4611686018427387904) :
    Calls P 65 #[.slice (some ⟨blk, off, none⟩) d.size cap, .int .i64 a, .int .i64 b, .int .i64 n, .func (.func g) #[] cb] w fun e w' => e = .returned (.tuple #[]) ∧ ∃ d' : Array Itm, d'.size = d.size ∧ d'.toList = A ++ (Y ++ (M ++ (X ++ B))) ∧ SWK itV k w0 blk off d' w' := by
  have mixed := L.mixed
  have t0 := L.t0; have a0 := L.a0; have z0 := L.z0; have v0 := L.v0
  have t3 := L.t3; have a3 := L.a3; have z3 := L.z3; have v3 := L.v3
  have t4 := L.t4; have a4 := L.a4; have z4 := L.z4; have v4 := L.v4
  have t22 := L.t22; have a22 := L.a22; have z22 := L.z22; have v22 := L.v22
  have t51 := L.t51; have a51 := L.a51; have z51 := L.z51; have v51 := L.v51
  have t72 := L.t72; have a72 := L.a72; have z72 := L.z72; have v72 := L.v72
  have u22 := run_underlying L.t22; have u51 := run_underlying L.t51; have u3 := run_underlying L.t3
  have aE := L.aE; have zE := L.zE
  have hlen : d.size = A.length + (n + (M.length + (n + B.length))) := by rw [size_list hd]; simp [hX, hY]
  have S0 : Aside (SWK itV k w0 blk off d w) := S
  have HX : Aside (X.length = n ∧ Y.length = n ∧ a = A.length ∧ b = a + n + M.length) := ⟨hX, hY, ha, hb⟩
  have HD : Aside (d.toList = A ++ (X ++ (M ++ (Y ++ B)))) := hd
  have hbn : b + n ≤ d.size := by omega
  have han : a + n ≤ d.size := by omega
  clear S hd hX hY ha hb hlen
  go_enter L.fswr, Tryd.ntmps65
  go_wp2
  go_loopg [10] n (fun kx s10 wr => ∃ (i : Nat) (dk X1 X2 Y1 Y2 : List Itm) (da : Array Itm), s10 = .int .i64 i ∧ i ≤ n ∧ n - i ≤ kx ∧ da.size = d.size ∧ Aside (SWK itV k w0 blk off da wr) ∧ Aside (da.toList = dk ∧ X = X1 ++ X2 ∧ Y = Y1 ++ Y2 ∧ X1.length = i ∧ Y1.length = i ∧ dk = A ++ (Y1 ++ (X2 ++ (M ++ (X1 ++ (Y2 ++ B)))))))
  case atStart => exact ⟨0, _, [], X, [], Y, d, rfl, Nat.zero_le _, Nat.le_refl _, rfl, S0, ⟨rfl, rfl, rfl, rfl, rfl, HD.out⟩⟩
  case round =>
    clear S0
    obtain ⟨i, dk, X1, X2, Y1, Y2, da, rfl, hin, hkx, hds, S1, H1⟩ := hrel
    by_cases hlt : i < n
    · have hltz : (i : Int) < (n : Int) := by omega
      obtain ⟨h1, h2, h3, h4, h5, h6⟩ := H1.out
      have hX2 : X2.length = n - i := by have := congrArg List.length h2; rw [List.length_append, HX.out.1] at this; omega
      have hY2 : Y2.length = n - i := by have := congrArg List.length h3; rw [List.length_append, HX.out.2.1] at this; omega
      obtain ⟨x, X2', rfl⟩ : ∃ x X', X2 = x :: X' := by cases X2 with | nil => simp at hX2; omega | cons x r => exact ⟨x, r, rfl⟩
      obtain ⟨y, Y2', rfl⟩ : ∃ x X', Y2 = x :: X' := by cases Y2 with | nil => simp at hY2; omega | cons x r => exact ⟨x, r, rfl⟩
      have hda : da.toList = (A ++ Y1) ++ x :: ((X2' ++ (M ++ X1)) ++ y :: (Y2' ++ B)) := by rw [h1, h6]; simp
      have hX2' : X2'.length = n - i - 1 := by simp at hX2; omega
      have HL : Aside ((swp da (a + i) (b + i)).toList = (A ++ Y1) ++ y :: ((X2' ++ (M ++ X1)) ++ x :: (Y2' ++ B))) := swp_list hda (by simp [h5, HX.out.2.2.1]) (by
        simp only [List.length_append, h5, h4, hX2']
        have := HX.out.2.2
        omega)
      have H2 : Aside (X = (X1 ++ [x]) ++ X2' ∧ Y = (Y1 ++ [y]) ++ Y2' ∧ (X1 ++ [x]).length = i + 1 ∧ (Y1 ++ [y]).length = i + 1) := ⟨by rw [h2]; simp, by rw [h3]; simp, by simp [h4], by simp [h5]⟩
      clear h1 h2 h3 h4 h5 h6 hX2 hY2 hda hX2' H1
      go_wp2_with fail
      have ea4i : (((a : Int) + (i : Int))).toNat = a + i := by omega
      have pa4i : (0 : Int) ≤ ((a : Int) + (i : Int)) := by omega
      have ba4i : ((a : Int) + (i : Int)) < (d.size : Int) := by omega
      have ra4i : IntKind.i64.wrap (((a : Int) + (i : Int))) = ((a : Int) + (i : Int)) := by rw [IntKind.wrap_i64]; omega
      have ea4j : (((b : Int) + (i : Int))).toNat = b + i := by omega
      have pa4j : (0 : Int) ≤ ((b : Int) + (i : Int)) := by omega
      have ba4j : ((b : Int) + (i : Int)) < (d.size : Int) := by omega
      have ra4j : IntKind.i64.wrap (((b : Int) + (i : Int))) = ((b : Int) + (i : Int)) := by rw [IntKind.wrap_i64]; omega
      have S2 : Aside (SWK itV k w0 blk off (swp da (a + i) (b + i)) ((wr.drew.setCells blk (off + (a + i) * k) (itV da[b + i]!)).setCells blk (off + (b + i) * k) (itV da[a + i]!))) := S1.out.swapped R (a + i) (b + i) (by omega) (by omega)
      have l4a := S1.out.ld1 R (by omega) P (a + i) (by omega)
      have l4b := S1.out.ld1 R (by omega) P (b + i) (by omega)
      have s4a := S1.out.st1 R (by omega) P (a + i) (by omega) da[b + i]!
      have s4b := S1.out.st2 R (by omega) P (a + i) (b + i) (by omega) (by omega) da[b + i]! da[a + i]!
      have n4a : (itV da[a + i]!).length = k := R.hk _
      have n4b : (itV da[b + i]!).length = k := R.hk _
      generalize itV da[a + i]! = cI4 at S2 l4a s4b n4a
      generalize itV da[b + i]! = cJ4 at S2 l4b s4a s4b n4b
      clear S1
      go_wp2_with fail
      go_big_region_o
      clear l4a l4b s4a s4b
      generalize (wr.drew.setCells blk (off + (a + i) * k) cJ4).setCells blk (off + (b + i) * k) cI4 = w2 at S2 ⊢
      go_wp2
      go_roundg (n - (i + 1))
      case measure => omega
      case rel => exact ⟨i + 1, _, X1 ++ [x], X2', Y1 ++ [y], Y2', swp da (a + i) (b + i), by simp, by omega, Nat.le_refl _, by rw [size_swp]; exact hds, S2, ⟨rfl, H2.out.1, H2.out.2.1, H2.out.2.2.1, H2.out.2.2.2, by rw [HL.out]; simp⟩⟩
    · obtain rfl : i = n := by omega
      have hltz : ¬ (i : Int) < (i : Int) := by omega
      go_wp2
      go_end0
      obtain ⟨h1, h2, h3, h4, h5, h6⟩ := H1.out
      have hX2 : X2 = [] := List.eq_nil_of_length_eq_zero (by have := congrArg List.length h2; rw [List.length_append, HX.out.1] at this; omega)
      have hY2 : Y2 = [] := List.eq_nil_of_length_eq_zero (by have := congrArg List.length h3; rw [List.length_append, HX.out.2.1] at this; omega)
      subst hX2 hY2
      exact ⟨rfl, da, hds, by rw [h1, h6, h2, h3]; simp, S1.out⟩
set_option maxHeartbeats 4000000 in
set_option maxRecDepth 1000000 in
theorem rot_any {P : Program} {k : Nat} (L : LG P k) (g : Nat) (cb : Array Value) (blk off cap a m b : Nat) (d0 d : Array Itm) (w0 w : World) (R : RowK itV k w0 blk off d0) (hs : d0.size = d.size) (S : SWK itV k w0 blk off d w) (A X Y B : List Itm) (hd : d.toList = A ++ (X ++ (Y ++ B))) (ha : A.length = a) (hX : a + X.length = m) (hY : m + Y.length = b) (hx0 : 0 < X.length) (hy0 : 0 < Y.length) (hsz : d.size < 4611686018427387904) :
    Calls P 64 #[.slice (some ⟨blk, off, none⟩) d.size cap, .int .i64 a, .int .i64 m, .int .i64 b, .func (.func g) #[] cb] w fun e w' => e = .returned (.tuple #[]) ∧ ∃ d' : Array Itm, d'.size = d.size ∧ d'.toList = A ++ (Y ++ (X ++ B)) ∧ SWK itV k w0 blk off d' w' := by
  have mixed := L.mixed
  have t0 := L.t0; have a0 := L.a0; have z0 := L.z0; have v0 := L.v0
  have t3 := L.t3; have a3 := L.a3; have z3 := L.z3; have v3 := L.v3
  have t4 := L.t4; have a4 := L.a4; have z4 := L.z4; have v4 := L.v4
  have t22 := L.t22; have a22 := L.a22; have z22 := L.z22; have v22 := L.v22
  have t51 := L.t51; have a51 := L.a51; have z51 := L.z51; have v51 := L.v51
  have t72 := L.t72; have a72 := L.a72; have z72 := L.z72; have v72 := L.v72
  have u22 := run_underlying L.t22; have u51 := run_underlying L.t51; have u3 := run_underlying L.t3
  have aE := L.aE; have zE := L.zE
  have eswr : ∀ args w, (callFunc 65 args).run P w = .ok (.enter 65 args) w := enters_of L.fswr (by kernel_rfl) rfl
  have hlen : d.size = A.length + (X.length + (Y.length + B.length)) := by rw [size_list hd]; simp
  have STEP := fun (a b n : Nat) (dd : Array Itm) (W : World) (h1 : d0.size = dd.size) (h2 : SWK itV k w0 blk off dd W) (A X M Y B : List Itm) h3 h4 h5 h6 h7 h8 => swr_any L g cb blk off cap a b n d0 dd w0 W R h1 h2 A X M Y B h3 h4 h5 h6 h7 h8
  have ST : Aside _ := STEP
  have S0 : Aside (SWK itV k w0 blk off d w ∧ d.toList = A ++ (X ++ (Y ++ B))) := ⟨S, hd⟩
  have e1 : IntKind.i64.wrap ((m : Int) - (a : Int)) = (X.length : Int) := by rw [IntKind.wrap_i64]; omega
  have e2 : IntKind.i64.wrap ((b : Int) - (m : Int)) = (Y.length : Int) := by rw [IntKind.wrap_i64]; omega
  have hLX : Aside (A.length + X.length = m ∧ 0 < X.length ∧ 0 < Y.length) := ⟨by omega, hx0, hy0⟩
  obtain ⟨nx, hnx⟩ : ∃ n, n = X.length := ⟨_, rfl⟩
  obtain ⟨ny, hny⟩ : ∃ n, n = Y.length := ⟨_, rfl⟩
  rw [← hnx] at e1
  rw [← hny] at e2
  have hmb : m + ny ≤ d.size := by omega
  have hmx : nx ≤ m := by omega
  have NN : Aside (nx = X.length ∧ ny = Y.length) := ⟨hnx, hny⟩
  clear STEP hd S ha hX hY hx0 hy0 hnx hny hlen
  go_enter L.frot, Tryd.ntmps64
  go_wp2_with fail
  go_loopg [10, 11] (nx + ny) (fun kx s10 s11 wr => ∃ (i j : Nat) (da : Array Itm) (A' X' Y' B' : List Itm), s10 = .int .i64 i ∧ s11 = .int .i64 j ∧ 0 < i ∧ 0 < j ∧ i ≤ m ∧ m + j ≤ d.size ∧ i + j ≤ kx ∧ da.size = d.size ∧ Aside (SWK itV k w0 blk off da wr) ∧ Aside (da.toList = A' ++ (X' ++ (Y' ++ B')) ∧ A'.length + i = m ∧ X'.length = i ∧ Y'.length = j ∧ A' ++ (Y' ++ (X' ++ B')) = A ++ (Y ++ (X ++ B))))
  case atStart =>
    obtain ⟨q1, q2, q3⟩ := hLX.out
    obtain ⟨q4, q5⟩ := NN.out
    exact ⟨nx, ny, d, A, X, Y, B, rfl, rfl, by omega, by omega, hmx, hmb, Nat.le_refl _, rfl, S0.out.1, ⟨S0.out.2, by omega, by omega, by omega, rfl⟩⟩
  case round =>
    clear S0 e1 e2 hmb hmx hLX NN
    obtain ⟨i, j, da, A', X', Y', B', rfl, rfl, hi0, hj0, him, hmj, hkx, hds, S1, H1⟩ := hrel
    have ra1 : IntKind.i64.wrap ((m : Int) - (i : Int)) = (m : Int) - (i : Int) := by rw [IntKind.wrap_i64]; omega
    rcases Nat.lt_trichotomy i j with hlt | rfl | hgt
    · have t1 : ((i : Int) != (j : Int)) = true := by rw [bne_iff_ne]; omega
      have t2 : ¬ (j : Int) < (i : Int) := by omega
      have t3 : ¬ j < i := by omega
      have t4 : ¬ i = j := by omega
      have ra2 : IntKind.i64.wrap ((m : Int) + (j : Int)) = (m : Int) + (j : Int) := by rw [IntKind.wrap_i64]; omega
      have ra3 : IntKind.i64.wrap ((m : Int) + (j : Int) - (i : Int)) = (m : Int) + (j : Int) - (i : Int) := by rw [IntKind.wrap_i64]; omega
      have ra4 : IntKind.i64.wrap ((j : Int) - (i : Int)) = (j : Int) - (i : Int) := by rw [IntKind.wrap_i64]; omega
      obtain ⟨h1, h2, h3, h4, h5⟩ := H1.out
      have ey : Y' = Y'.take (j - i) ++ Y'.drop (j - i) := (List.take_append_drop _ _).symm
      have l1 : (Y'.take (j - i)).length = j - i := by rw [List.length_take]; omega
      have l2 : (Y'.drop (j - i)).length = i := by rw [List.length_drop]; omega
      generalize Y'.take (j - i) = Y1 at ey l1
      generalize Y'.drop (j - i) = Y2 at ey l2
      subst ey
      have hc := ST.out (m - i) (m + j - i) i da wr (by omega) S1.out A' X' Y1 Y2 B' (by rw [h1]; simp) (by omega) h3 l2 (by omega) (by omega)
      rw [hds, show ((m - i : Nat) : Int) = (m : Int) - (i : Int) by omega, show ((m + j - i : Nat) : Int) = (m : Int) + (j : Int) - (i : Int) by omega] at hc
      have H2 : Aside (A'.length + i = m ∧ Y2.length = i ∧ Y1.length = j - i ∧ A' ++ (Y1 ++ (Y2 ++ (X' ++ B'))) = A ++ (Y ++ (X ++ B))) := ⟨h2, l2, l1, by rw [← h5]; simp⟩
      clear h1 h2 h3 h4 h5 l1 l2 H1 S1
      go_wp2_with (go_at_fn 65; refine hc.mono ?_; rintro e w2 ⟨rfl, d2, hs2, hl2, hS2⟩)
      have S2 : Aside (SWK itV k w0 blk off d2 w2 ∧ d2.toList = A' ++ (Y2 ++ (Y1 ++ (X' ++ B')))) := ⟨hS2, hl2⟩
      clear hS2 hl2 hc
      go_wp2
      go_roundg (i + (j - i))
      case measure => omega
      case rel => exact ⟨i, j - i, d2, A', Y2, Y1, X' ++ B', rfl, by congr 1; omega, hi0, by omega, him, by omega, Nat.le_refl _, by omega, S2.out.1, ⟨S2.out.2, H2.out.1, H2.out.2.1, H2.out.2.2.1, H2.out.2.2.2⟩⟩
    · have t1 : ((i : Int) != (i : Int)) = false := by simp
      obtain ⟨h1, h2, h3, h4, h5⟩ := H1.out
      have hc := ST.out (m - i) m i da wr (by omega) S1.out A' X' [] Y' B' (by rw [h1]; simp) (by omega) h3 h4 (by simp; omega) (by omega)
      rw [hds, show ((m - i : Nat) : Int) = (m : Int) - (i : Int) by omega] at hc
      have H2 : Aside (A' ++ (Y' ++ (X' ++ B')) = A ++ (Y ++ (X ++ B))) := h5
      clear h1 h2 h3 h4 h5 H1 S1
      go_wp2_with (go_at_fn 65; refine hc.mono ?_; rintro e w2 ⟨rfl, d2, hs2, hl2, hS2⟩)
      go_end0
      exact ⟨rfl, d2, by omega, by rw [hl2, ← H2.out]; simp, hS2⟩
    · have t1 : ((i : Int) != (j : Int)) = true := by rw [bne_iff_ne]; omega
      have t2 : (j : Int) < (i : Int) := by omega
      have t4 : ¬ i = j := by omega
      have ra4 : IntKind.i64.wrap ((i : Int) - (j : Int)) = (i : Int) - (j : Int) := by rw [IntKind.wrap_i64]; omega
      obtain ⟨h1, h2, h3, h4, h5⟩ := H1.out
      have ey : X' = X'.take j ++ X'.drop j := (List.take_append_drop _ _).symm
      have l1 : (X'.take j).length = j := by rw [List.length_take]; omega
      have l2 : (X'.drop j).length = i - j := by rw [List.length_drop]; omega
      generalize X'.take j = X1 at ey l1
      generalize X'.drop j = X2 at ey l2
      subst ey
      have hc := ST.out (m - i) m j da wr (by omega) S1.out A' X1 X2 Y' B' (by rw [h1]; simp) (by omega) l1 h4 (by omega) (by omega)
      rw [hds, show ((m - i : Nat) : Int) = (m : Int) - (i : Int) by omega] at hc
      have H2 : Aside ((A' ++ Y').length + (i - j) = m ∧ X2.length = i - j ∧ X1.length = j ∧ (A' ++ Y') ++ (X1 ++ (X2 ++ B')) = A ++ (Y ++ (X ++ B))) := ⟨by rw [List.length_append]; omega, l2, l1, by rw [← h5]; simp⟩
      clear h1 h2 h3 h4 h5 l1 l2 H1 S1
      go_wp2_with (go_at_fn 65; refine hc.mono ?_; rintro e w2 ⟨rfl, d2, hs2, hl2, hS2⟩)
      have S2 : Aside (SWK itV k w0 blk off d2 w2 ∧ d2.toList = A' ++ (Y' ++ (X2 ++ (X1 ++ B')))) := ⟨hS2, hl2⟩
      clear hS2 hl2 hc
      go_wp2
      go_roundg ((i - j) + j)
      case measure => omega
      case rel => exact ⟨i - j, j, d2, A' ++ Y', X2, X1, B', by congr 1; omega, rfl, by omega, hj0, by omega, hmj, Nat.le_refl _, by omega, S2.out.1, ⟨by rw [S2.out.2]; simp, H2.out.1, H2.out.2.1, H2.out.2.2.1, H2.out.2.2.2⟩⟩
theorem ins_math {P Q : List Itm} {x : Itm} (h : Srt (P ++ Q)) (hq : ∀ q ∈ Q, x.key < q.key) (hp : ∀ p ∈ P, p.key ≤ x.key) : Srt (P ++ x :: Q) ∧ Kq (P ++ x :: Q) ((P ++ Q) ++ [x]) := by
  obtain ⟨h1, h2, h3⟩ := srt_app.1 h
  refine ⟨srt_app.2 ⟨h1, srt_cons.2 ⟨fun y hy => Nat.le_of_lt (hq y hy), h2⟩, fun a ha y hy => ?_⟩, ?_⟩
  · rcases List.mem_cons.1 hy with m | m
    · rw [m]; exact hp a ha
    · exact h3 a ha y m
  · have := (Kq.refl P).app (Kq.swap (X := [x]) (Y := Q) fun a ha y hy => by rw [List.mem_singleton.1 ha]; have := hq y hy; omega)
    simpa using this
theorem last_le {P : List Itm} {p : Itm} {n : Nat} (h : Srt (P ++ [p])) (hp : p.key ≤ n) : ∀ x ∈ P ++ [p], x.key ≤ n := fun x hx => by
  rcases List.mem_append.1 hx with m | m
  · have := (srt_app.1 h).2.2 x m p (by simp); omega
  · rw [List.mem_singleton.1 m]; exact hp
theorem snoc_of {L : List Itm} (h : 0 < L.length) : ∃ P p, L = P ++ [p] := ⟨L.dropLast, L.getLast (by intro e; subst e; simp at h), (List.dropLast_concat_getLast _).symm⟩
set_option maxHeartbeats 4000000 in
set_option maxRecDepth 1000000 in
theorem ins_any {P : Program} {k : Nat} (L : LG P k) (g : Nat) (cb : Array Value) (blk off cap a b : Nat) (d0 d : Array Itm) (w0 w : World) (R : RowK itV k w0 blk off d0) (hs : d0.size = d.size) (S : SWK itV k w0 blk off d w) (eg : ∀ args w, (callFunc g args).run P w = .ok (.enter g args) w) (hcmp : CmpLays P g cb itV k cfK blk off d0.size w0) (A X B : List Itm) (hd : d.toList = A ++ (X ++ B)) (ha : A.length = a) (hX : a + X.length = b) (hsz : d.size < 4611686018427387904) :
    Calls P 62 #[.slice (some ⟨blk, off, none⟩) d.size cap, .int .i64 a, .int .i64 b, .func (.func g) #[] cb] w fun e w' => e = .returned (.tuple #[]) ∧ ∃ (d' : Array Itm) (Z : List Itm), d'.size = d.size ∧ d'.toList = A ++ (Z ++ B) ∧ Srt Z ∧ Kq Z X ∧ SWK itV k w0 blk off d' w' := by
  have mixed := L.mixed
  have t0 := L.t0; have a0 := L.a0; have z0 := L.z0; have v0 := L.v0
  have t3 := L.t3; have a3 := L.a3; have z3 := L.z3; have v3 := L.v3
  have t4 := L.t4; have a4 := L.a4; have z4 := L.z4; have v4 := L.v4
  have t22 := L.t22; have a22 := L.a22; have z22 := L.z22; have v22 := L.v22
  have t51 := L.t51; have a51 := L.a51; have z51 := L.z51; have v51 := L.v51
  have t72 := L.t72; have a72 := L.a72; have z72 := L.z72; have v72 := L.v72
  have u22 := run_underlying L.t22; have u51 := run_underlying L.t51; have u3 := run_underlying L.t3
  have aE := L.aE; have zE := L.zE
  have hlen : d.size = A.length + (X.length + B.length) := by rw [size_list hd]; simp
  have HC : Aside _ := hcmp
  have S0 : Aside (SWK itV k w0 blk off d w) := S
  have hab : a ≤ b := by omega
  have hb : b ≤ d.size := by omega
  have AL : Aside (A.length = a ∧ a + X.length = b) := ⟨ha, hX⟩
  have H0 : Aside (∃ Z1 X2, d.toList = A ++ (Z1 ++ (X2 ++ B)) ∧ Srt Z1 ∧ Kq (Z1 ++ X2) X ∧ Z1.length + X2.length = X.length ∧ (a + 1 ≤ b → Z1.length = 1) ∧ (b < a + 1 → X2 = [])) := by
    cases X with
    | nil => exact ⟨[], [], by rw [hd]; simp, srt_nil, Kq.refl _, rfl, fun h => by simp at hX; omega, fun _ => rfl⟩
    | cons x r => exact ⟨[x], r, by rw [hd]; simp, List.pairwise_singleton _ _, Kq.refl _, by simp; omega, fun _ => rfl, fun h => by simp at hX; omega⟩
  clear hcmp S hd ha hX hlen
  go_enter L.fins, Tryd.ntmps62
  go_wp2
  go_loopg [8] (b - a) (fun g1 vi wr => ∃ (i : Nat) (dk : Array Itm), vi = .int .i64 i ∧ a < i ∧ i ≤ b + 1 ∧ b + 1 - i ≤ g1 + 1 ∧ dk.size = d.size ∧ Aside (SWK itV k w0 blk off dk wr) ∧ Aside (∃ Z1 X2, dk.toList = A ++ (Z1 ++ (X2 ++ B)) ∧ Srt Z1 ∧ Kq (Z1 ++ X2) X ∧ Z1.length + X2.length = X.length ∧ (i ≤ b → Z1.length = i - a) ∧ (b < i → X2 = [])))
  case atStart =>
    obtain ⟨Z1, X2, q1, q2, q3, q4, q5, q6⟩ := H0.out
    exact ⟨a + 1, d, by go_num, by omega, by omega, by omega, rfl, S0, ⟨Z1, X2, q1, q2, q3, q4, fun h => by rw [q5 h]; omega, q6⟩⟩
  case round =>
    clear S0 H0
    obtain ⟨i, dk, rfl, hai, hib, hg1, hsk, S1, H1⟩ := hrel
    by_cases hlt : i < b
    · have hltz : (i : Int) < (b : Int) := by omega
      obtain ⟨Z1, X2, q1, q2, q3, q4, q5, q6⟩ := H1.out
      have hZ1 := q5 (by omega)
      have AO := AL.out
      obtain ⟨x, X2', rfl⟩ : ∃ x X', X2 = x :: X' := by cases X2 with | nil => simp at q4; omega | cons x r => exact ⟨x, r, rfl⟩
      have HZ : Aside (Srt Z1 ∧ Kq (Z1 ++ x :: X2') X ∧ Z1.length + (X2'.length + 1) = X.length ∧ Z1.length = i - a) := ⟨q2, q3, by simpa using q4, hZ1⟩
      have HI0 : Aside (dk.toList = A ++ (Z1 ++ x :: ([] ++ (X2' ++ B))) ∧ a + Z1.length = i ∧ A.length = a ∧ Z1 ++ [] = Z1 ∧ ∀ q ∈ ([] : List Itm), x.key < q.key) := ⟨by rw [q1]; simp, by omega, AO.1, by simp, by simp⟩
      clear q1 q2 q3 q4 q5 q6 hZ1 AO H1
      go_wp2
      go_loopg [9] i (fun g2 vj wr2 => ∃ (j : Nat) (dj : Array Itm) (P Q : List Itm), vj = .int .i64 j ∧ a ≤ j ∧ j ≤ i ∧ j ≤ g2 ∧ dj.size = d.size ∧ Aside (SWK itV k w0 blk off dj wr2) ∧ Aside (dj.toList = A ++ (P ++ x :: (Q ++ (X2' ++ B))) ∧ a + P.length = j ∧ A.length = a ∧ P ++ Q = Z1 ∧ ∀ q ∈ Q, x.key < q.key))
      case atStart => exact ⟨i, dk, Z1, [], rfl, by omega, Nat.le_refl _, Nat.le_refl _, hsk, S1, HI0⟩
      case round =>
        clear S1 HI0
        obtain ⟨j, dj, P, Q, rfl, haj, hji, hg2, hsj, S2, HI⟩ := hrel
        by_cases hja : a < j
        · have hjaz : (a : Int) < (j : Int) := by omega
          obtain ⟨jp, rfl⟩ : ∃ jp, j = jp + 1 := ⟨j - 1, by omega⟩
          have hjaz' : (a : Int) < (jp : Int) + 1 := by omega
          obtain ⟨P', p, rfl⟩ := snoc_of (L := P) (by have := HI.out.2.1; omega)
          have hl := HI.out.1
          have hP' : a + P'.length = jp := by have := HI.out.2.1; simp at this; omega
          have g1x : dj[jp + 1]! = x := at_list (P := A ++ (P' ++ [p])) (R := Q ++ (X2' ++ B)) (by rw [hl]; simp) (by have := HI.out.2.2.1; simp; omega)
          have g1p : dj[jp]! = p := at_list (P := A ++ P') (R := x :: (Q ++ (X2' ++ B))) (by rw [hl]; simp) (by have := HI.out.2.2.1; simp; omega)
          by_cases hlv : x.key < p.key
          · have hcv : cfK dj[jp + 1]! dj[jp]! < 0 := by rw [g1x, g1p]; exact cfK_lt.2 hlv
            have HL : Aside ((swp dj (jp + 1) jp).toList = A ++ (P' ++ x :: ((p :: Q) ++ (X2' ++ B)))) := by
              have := swp_list' (d := dj) (P := A ++ P') (Q := []) (R := Q ++ (X2' ++ B)) (x := p) (y := x) (by rw [hl]; simp) (i := jp + 1) (j := jp) (by have := HI.out.2.2.1; simp; omega) (by have := HI.out.2.2.1; simp; omega)
              show _ = _
              rw [this]; simp
            have HJ : Aside (a + P'.length = jp ∧ A.length = a ∧ P' ++ (p :: Q) = Z1 ∧ ∀ q ∈ p :: Q, x.key < q.key) := ⟨hP', HI.out.2.2.1, by rw [← HI.out.2.2.2.1]; simp, fun q hq => by
              rcases List.mem_cons.1 hq with m | m
              · rw [m]; exact hlv
              · exact HI.out.2.2.2.2 q m⟩
            clear HI hl hP' g1x g1p
            have ea5i : (((jp : Int) + 1)).toNat = jp + 1 := by omega
            have pa5i : (0 : Int) ≤ ((jp : Int) + 1) := by omega
            have ba5i : ((jp : Int) + 1) < (d.size : Int) := by omega
            have ra5i : IntKind.i64.wrap (((jp : Int) + 1)) = ((jp : Int) + 1) := by rw [IntKind.wrap_i64]; omega
            have ea5j : ((jp : Int)).toNat = jp := by omega
            have pa5j : (0 : Int) ≤ (jp : Int) := by omega
            have ba5j : (jp : Int) < (d.size : Int) := by omega
            have ra5j : IntKind.i64.wrap ((jp : Int)) = (jp : Int) := by rw [IntKind.wrap_i64]; omega
            obtain ⟨x5, hx5⟩ : ∃ x, x = dj[jp + 1]! := ⟨_, rfl⟩
            obtain ⟨y5, hy5⟩ : ∃ x, x = dj[jp]! := ⟨_, rfl⟩
            have l5a := S2.out.ld R (by omega) P (jp + 1) (by omega)
            have l5b := S2.out.ld R (by omega) P (jp) (by omega)
            rw [← hx5] at l5a hcv
            rw [← hy5] at l5b hcv
            have hc5 := S2.out.cmp HC.out (by omega) x5 y5
            have hd5 : decide (cfK x5 y5 < 0) = true := decide_eq_true hcv
            clear hx5 hy5
            go_wp2_with fail
            go_quiet_grown (first | (go_at_fn g; refine Calls.grown_of (hc5 _ _)))
            have S3 : Aside (SWK itV k w0 blk off dj (grow (wr.drewN nq) osq)) := S2.out.grown nq osq
            clear l5a l5b hc5 S2
            generalize grow (wr.drewN nq) osq = w2 at S3 ⊢
            clear nq osq
            clear ea5i pa5i ba5i ra5i ea5j pa5j ba5j ra5j
            have ea6i : (((jp : Int) + 1)).toNat = jp + 1 := by omega
            have pa6i : (0 : Int) ≤ ((jp : Int) + 1) := by omega
            have ba6i : ((jp : Int) + 1) < (d.size : Int) := by omega
            have ra6i : IntKind.i64.wrap (((jp : Int) + 1)) = ((jp : Int) + 1) := by rw [IntKind.wrap_i64]; omega
            have ea6j : ((jp : Int)).toNat = jp := by omega
            have pa6j : (0 : Int) ≤ (jp : Int) := by omega
            have ba6j : (jp : Int) < (d.size : Int) := by omega
            have ra6j : IntKind.i64.wrap ((jp : Int)) = (jp : Int) := by rw [IntKind.wrap_i64]; omega
            have S4 : Aside (SWK itV k w0 blk off (swp dj (jp + 1) (jp)) ((w2.drew.setCells blk (off + (jp + 1) * k) (itV dj[jp]!)).setCells blk (off + (jp) * k) (itV dj[jp + 1]!))) := S3.out.swapped R (jp + 1) (jp) (by omega) (by omega)
            have l6a := S3.out.ld1 R (by omega) P (jp + 1) (by omega)
            have l6b := S3.out.ld1 R (by omega) P (jp) (by omega)
            have s6a := S3.out.st1 R (by omega) P (jp + 1) (by omega) dj[jp]!
            have s6b := S3.out.st2 R (by omega) P (jp + 1) (jp) (by omega) (by omega) dj[jp]! dj[jp + 1]!
            have n6a : (itV dj[jp + 1]!).length = k := R.hk _
            have n6b : (itV dj[jp]!).length = k := R.hk _
            generalize itV dj[jp + 1]! = cI6 at S4 l6a s6b n6a
            generalize itV dj[jp]! = cJ6 at S4 l6b s6a s6b n6b
            clear S3
            go_wp2_with fail
            go_big_region_o
            clear l6a l6b s6a s6b
            generalize (w2.drew.setCells blk (off + (jp + 1) * k) cJ6).setCells blk (off + (jp) * k) cI6 = w3 at S4 ⊢
            go_wp2
            go_roundg jp
            case measure => omega
            case rel => exact ⟨jp, swp dj (jp + 1) jp, P', p :: Q, by first | rfl | go_num | (congr 1; omega), by omega, by omega, Nat.le_refl _, by rw [size_swp]; exact hsj, S4, ⟨HL.out, HJ.out.1, HJ.out.2.1, HJ.out.2.2.1, HJ.out.2.2.2⟩⟩
          · have hcv : ¬ cfK dj[jp + 1]! dj[jp]! < 0 := by rw [g1x, g1p, cfK_lt]; exact hlv
            have HM : Aside (Srt ((P' ++ [p]) ++ x :: Q) ∧ Kq ((P' ++ [p]) ++ x :: Q) (((P' ++ [p]) ++ Q) ++ [x])) := ins_math (by rw [HI.out.2.2.2.1]; exact HZ.out.1) HI.out.2.2.2.2 (last_le (srt_app.1 (by rw [HI.out.2.2.2.1]; exact HZ.out.1 : Srt ((P' ++ [p]) ++ Q))).1 (by omega))
            have HJ : Aside (dj.toList = A ++ (((P' ++ [p]) ++ x :: Q) ++ (X2' ++ B)) ∧ Kq (((P' ++ [p]) ++ x :: Q) ++ X2') X ∧ ((P' ++ [p]) ++ x :: Q).length = i + 1 - a ∧ ((P' ++ [p]) ++ x :: Q).length + X2'.length = X.length) := by
              have e := HI.out.2.2.2.1
              have e2 := congrArg List.length e
              have z := HZ.out
              refine ⟨by rw [hl]; simp, (HM.out.2.app (Kq.refl X2')).trans (by rw [e]; simpa using z.2.1), ?_, ?_⟩
              · simp at e2 z ⊢; omega
              · simp at e2 z ⊢; omega
            clear HI hl hP' g1x g1p
            have ea7i : (((jp : Int) + 1)).toNat = jp + 1 := by omega
            have pa7i : (0 : Int) ≤ ((jp : Int) + 1) := by omega
            have ba7i : ((jp : Int) + 1) < (d.size : Int) := by omega
            have ra7i : IntKind.i64.wrap (((jp : Int) + 1)) = ((jp : Int) + 1) := by rw [IntKind.wrap_i64]; omega
            have ea7j : ((jp : Int)).toNat = jp := by omega
            have pa7j : (0 : Int) ≤ (jp : Int) := by omega
            have ba7j : (jp : Int) < (d.size : Int) := by omega
            have ra7j : IntKind.i64.wrap ((jp : Int)) = (jp : Int) := by rw [IntKind.wrap_i64]; omega
            obtain ⟨x7, hx7⟩ : ∃ x, x = dj[jp + 1]! := ⟨_, rfl⟩
            obtain ⟨y7, hy7⟩ : ∃ x, x = dj[jp]! := ⟨_, rfl⟩
            have l7a := S2.out.ld R (by omega) P (jp + 1) (by omega)
            have l7b := S2.out.ld R (by omega) P (jp) (by omega)
            rw [← hx7] at l7a hcv
            rw [← hy7] at l7b hcv
            have hc7 := S2.out.cmp HC.out (by omega) x7 y7
            have hd7 : decide (cfK x7 y7 < 0) = false := decide_eq_false hcv
            clear hx7 hy7
            go_wp2_with fail
            go_quiet_grown (first | (go_at_fn g; refine Calls.grown_of (hc7 _ _)))
            have S3 : Aside (SWK itV k w0 blk off dj (grow (wr.drewN nq) osq)) := S2.out.grown nq osq
            clear l7a l7b hc7 S2
            generalize grow (wr.drewN nq) osq = w2 at S3 ⊢
            clear nq osq
            go_wp2
            go_roundg (b - (i + 1))
            case measure => omega
            case rel => exact ⟨i + 1, dj, by go_num, by omega, by omega, by omega, hsj, S3, ⟨_, X2', HJ.out.1, HM.out.1, HJ.out.2.1, HJ.out.2.2.2, fun _ => HJ.out.2.2.1, fun h => absurd h (by omega)⟩⟩
        · have hjaz : decide ((j : Int) > (a : Int)) = false := decide_eq_false (by omega)
          have hjaz' : ¬ (a : Int) < (j : Int) := by omega
          have hP : P = [] := List.eq_nil_of_length_eq_zero (by have := HI.out.2.1; omega)
          subst hP
          have HM : Aside (Srt ([] ++ x :: Q) ∧ Kq ([] ++ x :: Q) (([] ++ Q) ++ [x])) := ins_math (by rw [HI.out.2.2.2.1]; exact HZ.out.1) HI.out.2.2.2.2 (by simp)
          have HJ : Aside (dj.toList = A ++ (([] ++ x :: Q) ++ (X2' ++ B)) ∧ Kq (([] ++ x :: Q) ++ X2') X ∧ ([] ++ x :: Q).length = i + 1 - a ∧ ([] ++ x :: Q).length + X2'.length = X.length) := by
            have e := HI.out.2.2.2.1
            have e2 := congrArg List.length e
            have z := HZ.out
            refine ⟨by rw [HI.out.1]; simp, (HM.out.2.app (Kq.refl X2')).trans (by rw [e]; simpa using z.2.1), ?_, ?_⟩
            · simp at e2 z ⊢; omega
            · simp at e2 z ⊢; omega
          have S3 : Aside (SWK itV k w0 blk off dj wr.drew) := S2.out.drew
          clear HI S2
          go_wp2_with fail
          go_big_region_o
          all_goals go_wp2
          go_roundg (b - (i + 1))
          case measure => omega
          case rel => exact ⟨i + 1, dj, by go_num, by omega, by omega, by omega, hsj, S3, ⟨_, X2', HJ.out.1, HM.out.1, HJ.out.2.1, HJ.out.2.2.2, fun _ => HJ.out.2.2.1, fun h => absurd h (by omega)⟩⟩
    · have hltz : ¬ (i : Int) < (b : Int) := by omega
      go_wp2
      go_end0
      obtain ⟨Z1, X2, q1, q2, q3, q4, q5, q6⟩ := H1.out
      have hX2 : X2 = [] := by
        by_cases c : b < i
        · exact q6 c
        · have := q5 (by omega); exact List.eq_nil_of_length_eq_zero (by have := AL.out; omega)
      subst hX2
      exact ⟨rfl, dk, hsk, Z1, by rw [q1]; simp, q2, by simpa using q3, S1.out⟩
end Go.Proofs.YtihjfnlimdcmkaaDoor.Gf
