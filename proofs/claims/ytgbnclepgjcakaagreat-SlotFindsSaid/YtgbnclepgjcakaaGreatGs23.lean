/- What is proved here: the laws' small answers a list of at most six needles. -/
import Derived.Test.YtgbnclepgjcakaaGreatGs22
namespace Go.Proofs.YtgbnclepgjcakaaGreat.Gf
open Go Go.Joins Go.ChangeShapes Go.WideShapes Go.ChangeAt Go.RowKit Go.Deep Go.Proofs.YtgbnclepgjcakaaGreat.By Go.Proofs.YtgbnclepgjcakaaGreat.Qt
set_option maxRecDepth 100000
set_option maxHeartbeats 204800000

/-- Four cells are a needle whose data are a slice. -/
def NCr (w : World) (b o : Nat) : Prop := ∃ (key ck : Nat) (del : Bool) (a : Option Addr) (n c : Nat), key < 18446744073709551616 ∧ ck < 4294967296 ∧ n ≤ c ∧ c ≤ maxLen ∧ w.cell? ⟨b, o, none⟩ = some (.int .u64 (key : Int)) ∧ w.cell? ⟨b, o + 1, none⟩ = some (.int .u32 (ck : Int)) ∧ w.cell? ⟨b, o + 2, none⟩ = some (.bool del) ∧ w.cell? ⟨b, o + 3, none⟩ = some (.slice a n c)
theorem ncr_below {w w' : World} {b o : Nat} (h : NCr w b o) (hB : Below w.heap.size w w') : NCr w' b o := by
 obtain ⟨key, ck, del, a, n, c, h1, h2, h3, h4, k0, k1, k2, k3⟩ := h
 have k : ∀ (p : Nat) (v : Value), w.cell? ⟨b, p, none⟩ = some v → w'.cell? ⟨b, p, none⟩ = some v := fun p v q => (hB.cell (p := ⟨b, p, none⟩) (block_lt_of_cell q)).trans q
 exact ⟨key, ck, del, a, n, c, h1, h2, h3, h4, k _ _ k0, k _ _ k1, k _ _ k2, k _ _ k3⟩
/-- A list of needles as it comes in. -/
def Nr (w : World) (v : Value) (n : Nat) : Prop := ∃ a c, v = .slice a n c ∧ n ≤ c ∧ c ≤ maxLen ∧ (0 < n → ∃ b off, a = some ⟨b, off, none⟩ ∧ ∀ i, i < n → NCr w b (off + i * 4))
theorem nr_below {w w' : World} {v : Value} {n : Nat} (h : Nr w v n) (hB : Below w.heap.size w w') : Nr w' v n := by
 obtain ⟨a, c, h1, h2, h3, h4⟩ := h
 refine ⟨a, c, h1, h2, h3, fun hp => ?_⟩
 obtain ⟨b, off, ha, hc⟩ := h4 hp
 exact ⟨b, off, ha, fun i hi => ncr_below (hc i hi) hB⟩
theorem nr_at {w : World} {a : Option Addr} {n c i : Nat} (h : Nr w (.slice a n c) n) (hi : i < n) : ∃ b off, a = some ⟨b, off, none⟩ ∧ NCr w b (off + i * 4) := by
 obtain ⟨a2, c2, h1, -, -, h4⟩ := h
 obtain ⟨rfl, rfl⟩ : a = a2 ∧ c = c2 := by simpa using h1
 obtain ⟨b, off, ha, hc⟩ := h4 (by omega)
 exact ⟨b, off, ha, hc i hi⟩
/-- A row is a needle. -/
def RowN (p : List Value) : Prop := ∃ (key ck : Nat) (del : Bool) (a : Option Addr) (n c : Nat), key < 18446744073709551616 ∧ ck < 4294967296 ∧ n ≤ maxLen ∧ p = [.int .u64 (key : Int), .int .u32 (ck : Int), .bool del, .slice a n c]
theorem nl_own {T : TypeId} {w : World} {base : Nat} {v : Value} {R : List (List Value)} (h : OwV T 4 w base v R) (hr : ∀ p ∈ R, RowN p) : Nl w v R.length := by
 obtain ⟨a, c, hv, h1, h2⟩ := ov_form h
 refine ⟨a, c, hv, h1, h2, fun hp => ?_⟩
 obtain ⟨b, c2, hv2, -, hs⟩ := ov_src h hp
 obtain ⟨rfl, -⟩ : a = some ⟨b, 0, none⟩ ∧ c = c2 := by simpa using hv.symm.trans hv2
 refine ⟨b, 0, rfl, fun i hi => ?_⟩
 have hm : R.getD i [] ∈ R := by
  rw [List.getD_eq_getElem?_getD, List.getElem?_eq_getElem hi]
  exact List.getElem_mem hi
 obtain ⟨key, ck, del, da, dn, dc, k1, k2, k3, hp⟩ := hr _ hm
 have hc := fun u (hu : u < 4) => hs i u hi hu
 rw [hp] at hc
 simp only [← Nat.add_assoc] at hc
 exact ⟨key, ck, del, da, dn, dc, k1, k2, k3, hc 0 (by decide), hc 1 (by decide), hc 2 (by decide), hc 3 (by decide)⟩
theorem small_some (v : Value) (n : Nat) (w : World) (hv : Nr w v n) : Calls Tryz.prog 34 #[v] w fun e w' => (∃ v' m, e = .returned v' ∧ Nl w' v' m ∧ m ≤ 6) ∧ Below w.heap.size w w' := by
 have NR := Lh hv
 obtain ⟨a, c, rfl, hnc, hcm, -⟩ := hv
 have HLN := Lh (show n ≤ 9223372036854775807 by unfold maxLen at hcm; omega)
 clear hnc hcm
 obtain ⟨B1, hB1⟩ : ∃ B1, B1 = w.heap.size := ⟨_, rfl⟩
 have HWB := Lh (show w.heap.size ≤ B1 by omega)
 have HB1 := Lh hB1
 clear hB1
 go_enter Tryz.func34, Tryz.ntmps34
 go_wp2_with fail
 go_loopw [3, 4, 5] (fun t3 t4 _ wr => ∃ i : Nat, i ≤ n ∧ i ≤ 6 ∧ t4 = .int .i64 (i : Int) ∧ ∃ R : List (List Value), R.length = i ∧ (∀ p ∈ R, RowN p) ∧ OwV 119 4 wr B1 t3 R ∧ Below w.heap.size w wr ∧ B1 ≤ wr.heap.size) (fun _ t _ _ => n - (intOf t).toNat)
 case atStart => exact ⟨0, Nat.zero_le _, Nat.zero_le _, rfl, [], rfl, fun p hp => absurd hp (by simp), ov_nil _ _ _ _, Below.refl _ _, by rw [HB1.out]; exact Nat.le_refl _⟩
 case round =>
  obtain ⟨i, hi, hi6, rfl, R, hR, hrn, hov, hB, hsz⟩ := hrel
  rename World => wl
  have HR := Lh hR
  have HRN := Lh hrn
  have OV := Lh hov
  have HB := Lh hB
  have SZ := Lh hsz
  clear hrn hov hB hsz hR
  by_cases hlt : i < n ∧ i < 6
  case neg =>
   have HI6 := Lh hi6
   rcases Classical.em (i < n) with h1 | h1
   ·have d1 : decide ((i : Int) < (n : Int)) = true := decide_eq_true (by omega)
    have d2 : decide (i < n) = true := decide_eq_true h1
    have d3 : decide ((i : Int) < 6) = false := decide_eq_false (by omega)
    have d4 : decide (i < 6) = false := decide_eq_false (by omega)
    clear h1 hlt hi hi6
    go_wp2_with fail
    go_ret
    exact ⟨⟨_, i, rfl, by rw [← HR.out]; exact nl_own OV.out HRN.out, HI6.out⟩, HB.out⟩
   ·have d1 : decide ((i : Int) < (n : Int)) = false := decide_eq_false (by omega)
    have d2 : decide (i < n) = false := decide_eq_false h1
    clear h1 hlt hi hi6
    go_wp2_with fail
    go_ret
    exact ⟨⟨_, i, rfl, by rw [← HR.out]; exact nl_own OV.out HRN.out, HI6.out⟩, HB.out⟩
  obtain ⟨h1, h2⟩ := hlt
  have d1 : decide ((i : Int) < (n : Int)) = true := decide_eq_true (by omega)
  have d2 : decide (i < n) = true := decide_eq_true h1
  have d3 : decide ((i : Int) < 6) = true := decide_eq_true (by omega)
  have d4 : decide (i < 6) = true := decide_eq_true h2
  have HIL := Lh (show i + 1 ≤ n by omega)
  have HI6 := Lh (show i + 1 ≤ 6 by omega)
  have p0 : (0 : Int) ≤ (i : Int) := by omega
  have p1 : (i : Int) < (n : Int) := by omega
  obtain ⟨b1, o1, hab, hnc⟩ := nr_at (nr_below NR.out HB.out) h1
  obtain rfl := hab
  obtain ⟨key, ck, del, da, dn, dc, hkey, hck, hdn, hdc, x0, x1, x2, x3⟩ := hnc
  have hz := heap_alloc_new wl (.cells #[.int .u64 0, .int .u32 0, .bool false, .slice none 0 0] 119)
  have HKY := Lh hkey
  have HCK := Lh hck
  have HDC := Lh hdn
  have HDN := Lh (show dn ≤ maxLen by omega)
  obtain ⟨k7, hk7⟩ : ∃ k7, k7 = key % 8 := ⟨_, rfl⟩
  have EK := Lh (show bits .and .u64 (key : Int) 7 = (k7 : Int) from by rw [hk7]; exact and_low64 key hkey 3 (by decide))
  have HK7 := Lh (show k7 < 18446744073709551616 by omega)
  clear hkey hck hdn hdc h1 h2 hi hi6 hk7
  go_upto_region 6 with ((with_reducible refine storeN wl.heap.size _ #[.int .u64 (key : Int), .int .u32 (ck : Int), .bool del, .slice da dn dc] ?_ ?_ hz rfl rfl (nv_one _ _ _ _ _ _) ?_); exact rfl; exact rfl)
  rw [World.setRow_alloc_new]
  clear x0 x1 x2 x3 p0 p1 d1 d2 d3 d4
  have hb := bel_al wl (.cells #[.int .u64 (key : Int), .int .u32 (ck : Int), .bool del, .slice da dn dc] 119)
  have HX1 := Lh (heap_alloc_new wl (.cells #[.int .u64 (key : Int), .int .u32 (ck : Int), .bool del, .slice da dn dc] 119))
  have HNX := Lh (fun k (hk : Value.ownBlock _ = some k) => (ov_lt OV.out k hk).2)
  have OV1 := Lh (ov_below OV.out hb)
  have BW1 := Lh (HB.out.trans (hb.mono HB.out.size))
  have HGW := Lh (HB.out.size)
  have SZ1 := Lh (show wl.heap.size < (wl.alloc (.cells #[.int .u64 (key : Int), .int .u32 (ck : Int), .bool del, .slice da dn dc] 119)).heap.size ∧ B1 ≤ (wl.alloc (.cells #[.int .u64 (key : Int), .int .u32 (ck : Int), .bool del, .slice da dn dc] 119)).heap.size by have := SZ.out; simp; omega)
  clear hb hz OV HB SZ
  generalize wl.alloc (.cells #[.int .u64 (key : Int), .int .u32 (ck : Int), .bool del, .slice da dn dc] 119) = W1 at *
  generalize wl.heap.size = gx at *
  have hw := w64s9 i (by have := HLN.out; have := HIL.out; omega)
  rcases Classical.em (30 < dn) with h1 | h1
  ·have d4 : decide ((30 : Int) < (dn : Int)) = true := decide_eq_true (by omega)
   have d5 : decide (30 < dn) = true := decide_eq_true h1
   have HC := Lh (show (30 : Int) ≤ (dc : Int) by have := HDC.out; omega)
   have hc := HC.out
   clear h1
   obtain ⟨⟨y0, y1, y2, y3⟩, f0, f1, f2, f3⟩ := bx4 HX1.out
   go_upto_region 8 with fail
   clear y0 y1 y2 y3 f0 f1 f2 f3
   clear d4 d5 hc
   rw [setCell_eq_setRow _ _ _ _ _ _ _ HX1.out]
   have hs : (#[.int .u64 (key : Int), .int .u32 (ck : Int), .bool del, .slice da dn dc] : Array Value).setIfInBounds 3 (.slice da 30 dc) = #[.int .u64 (key : Int), .int .u32 (ck : Int), .bool del, .slice da 30 dc] := rfl
   rw [hs]
   have HX2 := Lh (setRow_heap W1 gx _ #[.int .u64 (key : Int), .int .u32 (ck : Int), .bool del, .slice da 30 dc] _ _ HX1.out)
   have OV2 := Lh (ov_move OV1.out fun b hb _ => setRow_other W1 gx b #[.int .u64 (key : Int), .int .u32 (ck : Int), .bool del, .slice da 30 dc] (fun e => by have := HNX.out b hb; omega))
   have BW2 := Lh (below_setRowM BW1.out HGW.out #[.int .u64 (key : Int), .int .u32 (ck : Int), .bool del, .slice da 30 dc])
   have hz2 : (W1.setRow gx #[.int .u64 (key : Int), .int .u32 (ck : Int), .bool del, .slice da 30 dc]).heap.size = W1.heap.size := by simp
   have SZ2 := Lh (show gx < (W1.setRow gx #[.int .u64 (key : Int), .int .u32 (ck : Int), .bool del, .slice da 30 dc]).heap.size ∧ B1 ≤ (W1.setRow gx #[.int .u64 (key : Int), .int .u32 (ck : Int), .bool del, .slice da 30 dc]).heap.size by rw [hz2]; exact SZ1.out)
   clear hs hz2 HX1 OV1 BW1 SZ1
   generalize W1.setRow gx #[.int .u64 (key : Int), .int .u32 (ck : Int), .bool del, .slice da 30 dc] = W2 at *
   rcases Bool.eq_false_or_eq_true del with hd | hd
   ·have d3 : del = true := hd
    clear hd
    obtain ⟨⟨y0, y1, y2, y3⟩, f0, f1, f2, f3⟩ := bx4 HX2.out
    go_upto_region 10 with fail
    clear d3
    clear y0 y1 y2 y3 f0 f1 f2 f3
    rw [setCell_eq_setRow _ _ _ _ _ _ _ HX2.out]
    have hs : (#[.int .u64 (key : Int), .int .u32 (ck : Int), .bool del, .slice da 30 dc] : Array Value).setIfInBounds 3 (.slice none 0 0) = #[.int .u64 (key : Int), .int .u32 (ck : Int), .bool del, .slice none 0 0] := rfl
    rw [hs]
    have HX3 := Lh (setRow_heap W2 gx _ #[.int .u64 (key : Int), .int .u32 (ck : Int), .bool del, .slice none 0 0] _ _ HX2.out)
    have OV3 := Lh (ov_move OV2.out fun b hb _ => setRow_other W2 gx b #[.int .u64 (key : Int), .int .u32 (ck : Int), .bool del, .slice none 0 0] (fun e => by have := HNX.out b hb; omega))
    have BW3 := Lh (below_setRowM BW2.out HGW.out #[.int .u64 (key : Int), .int .u32 (ck : Int), .bool del, .slice none 0 0])
    have hz3 : (W2.setRow gx #[.int .u64 (key : Int), .int .u32 (ck : Int), .bool del, .slice none 0 0]).heap.size = W2.heap.size := by simp
    have SZ3 := Lh (show gx < (W2.setRow gx #[.int .u64 (key : Int), .int .u32 (ck : Int), .bool del, .slice none 0 0]).heap.size ∧ B1 ≤ (W2.setRow gx #[.int .u64 (key : Int), .int .u32 (ck : Int), .bool del, .slice none 0 0]).heap.size by rw [hz3]; exact SZ2.out)
    clear hs hz3 HX2 OV2 BW2 SZ2
    generalize W2.setRow gx #[.int .u64 (key : Int), .int .u32 (ck : Int), .bool del, .slice none 0 0] = W3 at *
    obtain ⟨⟨y0, y1, y2, y3⟩, f0, f1, f2, f3⟩ := bx4 HX3.out
    go_upto_region 11 with fail
    clear y0 y1 y2 y3 f0 f1 f2 f3
    rw [EK.out]
    rw [setCell_eq_setRow _ _ _ _ _ _ _ HX3.out]
    have hs : (#[.int .u64 (key : Int), .int .u32 (ck : Int), .bool del, .slice none 0 0] : Array Value).setIfInBounds 0 (.int .u64 (k7 : Int)) = #[.int .u64 (k7 : Int), .int .u32 (ck : Int), .bool del, .slice none 0 0] := rfl
    rw [hs]
    have HX4 := Lh (setRow_heap W3 gx _ #[.int .u64 (k7 : Int), .int .u32 (ck : Int), .bool del, .slice none 0 0] _ _ HX3.out)
    have OV4 := Lh (ov_move OV3.out fun b hb _ => setRow_other W3 gx b #[.int .u64 (k7 : Int), .int .u32 (ck : Int), .bool del, .slice none 0 0] (fun e => by have := HNX.out b hb; omega))
    have BW4 := Lh (below_setRowM BW3.out HGW.out #[.int .u64 (k7 : Int), .int .u32 (ck : Int), .bool del, .slice none 0 0])
    have hz4 : (W3.setRow gx #[.int .u64 (k7 : Int), .int .u32 (ck : Int), .bool del, .slice none 0 0]).heap.size = W3.heap.size := by simp
    have SZ4 := Lh (show gx < (W3.setRow gx #[.int .u64 (k7 : Int), .int .u32 (ck : Int), .bool del, .slice none 0 0]).heap.size ∧ B1 ≤ (W3.setRow gx #[.int .u64 (k7 : Int), .int .u32 (ck : Int), .bool del, .slice none 0 0]).heap.size by rw [hz4]; exact SZ3.out)
    clear hs hz4 HX3 OV3 BW3 SZ3
    generalize W3.setRow gx #[.int .u64 (k7 : Int), .int .u32 (ck : Int), .bool del, .slice none 0 0] = W4 at *
    obtain ⟨⟨y0, y1, y2, y3⟩, f0, f1, f2, f3⟩ := bx4 HX4.out
    have HRW := Lh (show Rows 4 [[.int .u64 (k7 : Int), .int .u32 (ck : Int), .bool del, .slice none 0 0]] from fun p hp => by
     obtain rfl := List.mem_singleton.1 hp
     exact ⟨rfl, fun u hu => (Array.all_eq_true_iff_forall_mem.1 (nv_one k7 ck del _ _ _)) u (by simpa using hu)⟩)
    have HSZB := Lh (show B1 ≤ (W4.alloc (.cells #[.int .u64 (k7 : Int), .int .u32 (ck : Int), .bool del, .slice none 0 0] 119)).heap.size by have := SZ4.out.2; simp; omega)
    have hb := bel_al W4 (.cells #[.int .u64 (k7 : Int), .int .u32 (ck : Int), .bool del, .slice none 0 0] 119)
    have HBK := Lh (heap_alloc_new W4 (.cells #[.int .u64 (k7 : Int), .int .u32 (ck : Int), .bool del, .slice none 0 0] 119))
    have BW5 := Lh (BW4.out.trans (hb.mono BW4.out.size))
    have OV5 := Lh (ov_below OV4.out hb)
    have HSR := Lh (show SrcV 4 (W4.alloc (.cells #[.int .u64 (k7 : Int), .int .u32 (ck : Int), .bool del, .slice none 0 0] 119)) W4.heap.size 0 [[.int .u64 (k7 : Int), .int .u32 (ck : Int), .bool del, .slice none 0 0]] from fun k q hk hq => by
     obtain rfl : k = 0 := by simp at hk; omega
     rw [show (0 : Nat) + (0 * 4 + q) = q by omega, cell_of_row _ W4.heap.size q _ _ _ HBK.out, List.getElem?_toArray]
     rfl)
    have HLL := Lh (show R.length + ([[.int .u64 (k7 : Int), .int .u32 (ck : Int), .bool del, .slice none 0 0]] : List (List Value)).length ≤ 100000000 by simp; have := HR.out; have := HI6.out; omega)
    clear hb HBK OV4 BW4
    go_wp2_with (at_builtin; refine app_v lsN (dst := some 38) (c := 1) (n := 1) (M := [[.int .u64 (k7 : Int), .int .u32 (ck : Int), .bool del, .slice none 0 0]]) ?_ ?_ rfl OV5.out HRW.out HSR.out HLL.out HSZB.out ?_; exact rfl; exact rfl; intro v9 W6 ho hg hat; have BW6 := Lh (BW5.out.grown hg BW5.out.size (fun k hk => by have := (ov_lt OV5.out k hk).1; have := HWB.out; omega)); have OV6 := Lh ho; have HS6 := Lh (Nat.le_trans HSZB.out hg.size); clear ho hg hat OV5 BW5)
    clear y0 y1 y2 y3 f0 f1 f2 f3
    go_roundw
    case rel => exact ⟨i + 1, HIL.out, HI6.out, by go_num, R ++ [[.int .u64 (k7 : Int), .int .u32 (ck : Int), .bool del, .slice none 0 0]], by simp; exact HR.out, fun p hp => by
     rcases List.mem_append.1 hp with h | h
     ·exact HRN.out p h
     ·obtain rfl := List.mem_singleton.1 h
      exact ⟨k7, ck, del, _, 0, _, HK7.out, HCK.out, by unfold maxLen; omega, rfl⟩, OV6.out, BW6.out, HS6.out⟩
    case measure => exact meas9 n i HIL.out (by have := HLN.out; omega)
   ·have d3 : del = false := hd
    clear hd
    obtain ⟨⟨y0, y1, y2, y3⟩, f0, f1, f2, f3⟩ := bx4 HX2.out
    go_upto_region 10 with fail
    clear d3
    clear y0 y1 y2 y3 f0 f1 f2 f3
    have HX3 := HX2
    have OV3 := OV2
    have BW3 := BW2
    have SZ3 := SZ2
    clear HX2 OV2 BW2 SZ2
    generalize W2 = W3 at *
    obtain ⟨⟨y0, y1, y2, y3⟩, f0, f1, f2, f3⟩ := bx4 HX3.out
    go_upto_region 11 with fail
    clear y0 y1 y2 y3 f0 f1 f2 f3
    rw [EK.out]
    rw [setCell_eq_setRow _ _ _ _ _ _ _ HX3.out]
    have hs : (#[.int .u64 (key : Int), .int .u32 (ck : Int), .bool del, .slice da 30 dc] : Array Value).setIfInBounds 0 (.int .u64 (k7 : Int)) = #[.int .u64 (k7 : Int), .int .u32 (ck : Int), .bool del, .slice da 30 dc] := rfl
    rw [hs]
    have HX4 := Lh (setRow_heap W3 gx _ #[.int .u64 (k7 : Int), .int .u32 (ck : Int), .bool del, .slice da 30 dc] _ _ HX3.out)
    have OV4 := Lh (ov_move OV3.out fun b hb _ => setRow_other W3 gx b #[.int .u64 (k7 : Int), .int .u32 (ck : Int), .bool del, .slice da 30 dc] (fun e => by have := HNX.out b hb; omega))
    have BW4 := Lh (below_setRowM BW3.out HGW.out #[.int .u64 (k7 : Int), .int .u32 (ck : Int), .bool del, .slice da 30 dc])
    have hz4 : (W3.setRow gx #[.int .u64 (k7 : Int), .int .u32 (ck : Int), .bool del, .slice da 30 dc]).heap.size = W3.heap.size := by simp
    have SZ4 := Lh (show gx < (W3.setRow gx #[.int .u64 (k7 : Int), .int .u32 (ck : Int), .bool del, .slice da 30 dc]).heap.size ∧ B1 ≤ (W3.setRow gx #[.int .u64 (k7 : Int), .int .u32 (ck : Int), .bool del, .slice da 30 dc]).heap.size by rw [hz4]; exact SZ3.out)
    clear hs hz4 HX3 OV3 BW3 SZ3
    generalize W3.setRow gx #[.int .u64 (k7 : Int), .int .u32 (ck : Int), .bool del, .slice da 30 dc] = W4 at *
    obtain ⟨⟨y0, y1, y2, y3⟩, f0, f1, f2, f3⟩ := bx4 HX4.out
    have HRW := Lh (show Rows 4 [[.int .u64 (k7 : Int), .int .u32 (ck : Int), .bool del, .slice da 30 dc]] from fun p hp => by
     obtain rfl := List.mem_singleton.1 hp
     exact ⟨rfl, fun u hu => (Array.all_eq_true_iff_forall_mem.1 (nv_one k7 ck del _ _ _)) u (by simpa using hu)⟩)
    have HSZB := Lh (show B1 ≤ (W4.alloc (.cells #[.int .u64 (k7 : Int), .int .u32 (ck : Int), .bool del, .slice da 30 dc] 119)).heap.size by have := SZ4.out.2; simp; omega)
    have hb := bel_al W4 (.cells #[.int .u64 (k7 : Int), .int .u32 (ck : Int), .bool del, .slice da 30 dc] 119)
    have HBK := Lh (heap_alloc_new W4 (.cells #[.int .u64 (k7 : Int), .int .u32 (ck : Int), .bool del, .slice da 30 dc] 119))
    have BW5 := Lh (BW4.out.trans (hb.mono BW4.out.size))
    have OV5 := Lh (ov_below OV4.out hb)
    have HSR := Lh (show SrcV 4 (W4.alloc (.cells #[.int .u64 (k7 : Int), .int .u32 (ck : Int), .bool del, .slice da 30 dc] 119)) W4.heap.size 0 [[.int .u64 (k7 : Int), .int .u32 (ck : Int), .bool del, .slice da 30 dc]] from fun k q hk hq => by
     obtain rfl : k = 0 := by simp at hk; omega
     rw [show (0 : Nat) + (0 * 4 + q) = q by omega, cell_of_row _ W4.heap.size q _ _ _ HBK.out, List.getElem?_toArray]
     rfl)
    have HLL := Lh (show R.length + ([[.int .u64 (k7 : Int), .int .u32 (ck : Int), .bool del, .slice da 30 dc]] : List (List Value)).length ≤ 100000000 by simp; have := HR.out; have := HI6.out; omega)
    clear hb HBK OV4 BW4
    go_wp2_with (at_builtin; refine app_v lsN (dst := some 38) (c := 1) (n := 1) (M := [[.int .u64 (k7 : Int), .int .u32 (ck : Int), .bool del, .slice da 30 dc]]) ?_ ?_ rfl OV5.out HRW.out HSR.out HLL.out HSZB.out ?_; exact rfl; exact rfl; intro v9 W6 ho hg hat; have BW6 := Lh (BW5.out.grown hg BW5.out.size (fun k hk => by have := (ov_lt OV5.out k hk).1; have := HWB.out; omega)); have OV6 := Lh ho; have HS6 := Lh (Nat.le_trans HSZB.out hg.size); clear ho hg hat OV5 BW5)
    clear y0 y1 y2 y3 f0 f1 f2 f3
    go_roundw
    case rel => exact ⟨i + 1, HIL.out, HI6.out, by go_num, R ++ [[.int .u64 (k7 : Int), .int .u32 (ck : Int), .bool del, .slice da 30 dc]], by simp; exact HR.out, fun p hp => by
     rcases List.mem_append.1 hp with h | h
     ·exact HRN.out p h
     ·obtain rfl := List.mem_singleton.1 h
      exact ⟨k7, ck, del, _, 30, _, HK7.out, HCK.out, by unfold maxLen; omega, rfl⟩, OV6.out, BW6.out, HS6.out⟩
    case measure => exact meas9 n i HIL.out (by have := HLN.out; omega)
  ·have d4 : decide ((30 : Int) < (dn : Int)) = false := decide_eq_false (by omega)
   have d5 : decide (30 < dn) = false := decide_eq_false h1
   clear h1
   obtain ⟨⟨y0, y1, y2, y3⟩, f0, f1, f2, f3⟩ := bx4 HX1.out
   go_upto_region 8 with fail
   clear y0 y1 y2 y3 f0 f1 f2 f3
   clear d4 d5
   have HX2 := HX1
   have OV2 := OV1
   have BW2 := BW1
   have SZ2 := SZ1
   clear HX1 OV1 BW1 SZ1
   generalize W1 = W2 at *
   rcases Bool.eq_false_or_eq_true del with hd | hd
   ·have d3 : del = true := hd
    clear hd
    obtain ⟨⟨y0, y1, y2, y3⟩, f0, f1, f2, f3⟩ := bx4 HX2.out
    go_upto_region 10 with fail
    clear d3
    clear y0 y1 y2 y3 f0 f1 f2 f3
    rw [setCell_eq_setRow _ _ _ _ _ _ _ HX2.out]
    have hs : (#[.int .u64 (key : Int), .int .u32 (ck : Int), .bool del, .slice da dn dc] : Array Value).setIfInBounds 3 (.slice none 0 0) = #[.int .u64 (key : Int), .int .u32 (ck : Int), .bool del, .slice none 0 0] := rfl
    rw [hs]
    have HX3 := Lh (setRow_heap W2 gx _ #[.int .u64 (key : Int), .int .u32 (ck : Int), .bool del, .slice none 0 0] _ _ HX2.out)
    have OV3 := Lh (ov_move OV2.out fun b hb _ => setRow_other W2 gx b #[.int .u64 (key : Int), .int .u32 (ck : Int), .bool del, .slice none 0 0] (fun e => by have := HNX.out b hb; omega))
    have BW3 := Lh (below_setRowM BW2.out HGW.out #[.int .u64 (key : Int), .int .u32 (ck : Int), .bool del, .slice none 0 0])
    have hz3 : (W2.setRow gx #[.int .u64 (key : Int), .int .u32 (ck : Int), .bool del, .slice none 0 0]).heap.size = W2.heap.size := by simp
    have SZ3 := Lh (show gx < (W2.setRow gx #[.int .u64 (key : Int), .int .u32 (ck : Int), .bool del, .slice none 0 0]).heap.size ∧ B1 ≤ (W2.setRow gx #[.int .u64 (key : Int), .int .u32 (ck : Int), .bool del, .slice none 0 0]).heap.size by rw [hz3]; exact SZ2.out)
    clear hs hz3 HX2 OV2 BW2 SZ2
    generalize W2.setRow gx #[.int .u64 (key : Int), .int .u32 (ck : Int), .bool del, .slice none 0 0] = W3 at *
    obtain ⟨⟨y0, y1, y2, y3⟩, f0, f1, f2, f3⟩ := bx4 HX3.out
    go_upto_region 11 with fail
    clear y0 y1 y2 y3 f0 f1 f2 f3
    rw [EK.out]
    rw [setCell_eq_setRow _ _ _ _ _ _ _ HX3.out]
    have hs : (#[.int .u64 (key : Int), .int .u32 (ck : Int), .bool del, .slice none 0 0] : Array Value).setIfInBounds 0 (.int .u64 (k7 : Int)) = #[.int .u64 (k7 : Int), .int .u32 (ck : Int), .bool del, .slice none 0 0] := rfl
    rw [hs]
    have HX4 := Lh (setRow_heap W3 gx _ #[.int .u64 (k7 : Int), .int .u32 (ck : Int), .bool del, .slice none 0 0] _ _ HX3.out)
    have OV4 := Lh (ov_move OV3.out fun b hb _ => setRow_other W3 gx b #[.int .u64 (k7 : Int), .int .u32 (ck : Int), .bool del, .slice none 0 0] (fun e => by have := HNX.out b hb; omega))
    have BW4 := Lh (below_setRowM BW3.out HGW.out #[.int .u64 (k7 : Int), .int .u32 (ck : Int), .bool del, .slice none 0 0])
    have hz4 : (W3.setRow gx #[.int .u64 (k7 : Int), .int .u32 (ck : Int), .bool del, .slice none 0 0]).heap.size = W3.heap.size := by simp
    have SZ4 := Lh (show gx < (W3.setRow gx #[.int .u64 (k7 : Int), .int .u32 (ck : Int), .bool del, .slice none 0 0]).heap.size ∧ B1 ≤ (W3.setRow gx #[.int .u64 (k7 : Int), .int .u32 (ck : Int), .bool del, .slice none 0 0]).heap.size by rw [hz4]; exact SZ3.out)
    clear hs hz4 HX3 OV3 BW3 SZ3
    generalize W3.setRow gx #[.int .u64 (k7 : Int), .int .u32 (ck : Int), .bool del, .slice none 0 0] = W4 at *
    obtain ⟨⟨y0, y1, y2, y3⟩, f0, f1, f2, f3⟩ := bx4 HX4.out
    have HRW := Lh (show Rows 4 [[.int .u64 (k7 : Int), .int .u32 (ck : Int), .bool del, .slice none 0 0]] from fun p hp => by
     obtain rfl := List.mem_singleton.1 hp
     exact ⟨rfl, fun u hu => (Array.all_eq_true_iff_forall_mem.1 (nv_one k7 ck del _ _ _)) u (by simpa using hu)⟩)
    have HSZB := Lh (show B1 ≤ (W4.alloc (.cells #[.int .u64 (k7 : Int), .int .u32 (ck : Int), .bool del, .slice none 0 0] 119)).heap.size by have := SZ4.out.2; simp; omega)
    have hb := bel_al W4 (.cells #[.int .u64 (k7 : Int), .int .u32 (ck : Int), .bool del, .slice none 0 0] 119)
    have HBK := Lh (heap_alloc_new W4 (.cells #[.int .u64 (k7 : Int), .int .u32 (ck : Int), .bool del, .slice none 0 0] 119))
    have BW5 := Lh (BW4.out.trans (hb.mono BW4.out.size))
    have OV5 := Lh (ov_below OV4.out hb)
    have HSR := Lh (show SrcV 4 (W4.alloc (.cells #[.int .u64 (k7 : Int), .int .u32 (ck : Int), .bool del, .slice none 0 0] 119)) W4.heap.size 0 [[.int .u64 (k7 : Int), .int .u32 (ck : Int), .bool del, .slice none 0 0]] from fun k q hk hq => by
     obtain rfl : k = 0 := by simp at hk; omega
     rw [show (0 : Nat) + (0 * 4 + q) = q by omega, cell_of_row _ W4.heap.size q _ _ _ HBK.out, List.getElem?_toArray]
     rfl)
    have HLL := Lh (show R.length + ([[.int .u64 (k7 : Int), .int .u32 (ck : Int), .bool del, .slice none 0 0]] : List (List Value)).length ≤ 100000000 by simp; have := HR.out; have := HI6.out; omega)
    clear hb HBK OV4 BW4
    go_wp2_with (at_builtin; refine app_v lsN (dst := some 38) (c := 1) (n := 1) (M := [[.int .u64 (k7 : Int), .int .u32 (ck : Int), .bool del, .slice none 0 0]]) ?_ ?_ rfl OV5.out HRW.out HSR.out HLL.out HSZB.out ?_; exact rfl; exact rfl; intro v9 W6 ho hg hat; have BW6 := Lh (BW5.out.grown hg BW5.out.size (fun k hk => by have := (ov_lt OV5.out k hk).1; have := HWB.out; omega)); have OV6 := Lh ho; have HS6 := Lh (Nat.le_trans HSZB.out hg.size); clear ho hg hat OV5 BW5)
    clear y0 y1 y2 y3 f0 f1 f2 f3
    go_roundw
    case rel => exact ⟨i + 1, HIL.out, HI6.out, by go_num, R ++ [[.int .u64 (k7 : Int), .int .u32 (ck : Int), .bool del, .slice none 0 0]], by simp; exact HR.out, fun p hp => by
     rcases List.mem_append.1 hp with h | h
     ·exact HRN.out p h
     ·obtain rfl := List.mem_singleton.1 h
      exact ⟨k7, ck, del, _, 0, _, HK7.out, HCK.out, by unfold maxLen; omega, rfl⟩, OV6.out, BW6.out, HS6.out⟩
    case measure => exact meas9 n i HIL.out (by have := HLN.out; omega)
   ·have d3 : del = false := hd
    clear hd
    obtain ⟨⟨y0, y1, y2, y3⟩, f0, f1, f2, f3⟩ := bx4 HX2.out
    go_upto_region 10 with fail
    clear d3
    clear y0 y1 y2 y3 f0 f1 f2 f3
    have HX3 := HX2
    have OV3 := OV2
    have BW3 := BW2
    have SZ3 := SZ2
    clear HX2 OV2 BW2 SZ2
    generalize W2 = W3 at *
    obtain ⟨⟨y0, y1, y2, y3⟩, f0, f1, f2, f3⟩ := bx4 HX3.out
    go_upto_region 11 with fail
    clear y0 y1 y2 y3 f0 f1 f2 f3
    rw [EK.out]
    rw [setCell_eq_setRow _ _ _ _ _ _ _ HX3.out]
    have hs : (#[.int .u64 (key : Int), .int .u32 (ck : Int), .bool del, .slice da dn dc] : Array Value).setIfInBounds 0 (.int .u64 (k7 : Int)) = #[.int .u64 (k7 : Int), .int .u32 (ck : Int), .bool del, .slice da dn dc] := rfl
    rw [hs]
    have HX4 := Lh (setRow_heap W3 gx _ #[.int .u64 (k7 : Int), .int .u32 (ck : Int), .bool del, .slice da dn dc] _ _ HX3.out)
    have OV4 := Lh (ov_move OV3.out fun b hb _ => setRow_other W3 gx b #[.int .u64 (k7 : Int), .int .u32 (ck : Int), .bool del, .slice da dn dc] (fun e => by have := HNX.out b hb; omega))
    have BW4 := Lh (below_setRowM BW3.out HGW.out #[.int .u64 (k7 : Int), .int .u32 (ck : Int), .bool del, .slice da dn dc])
    have hz4 : (W3.setRow gx #[.int .u64 (k7 : Int), .int .u32 (ck : Int), .bool del, .slice da dn dc]).heap.size = W3.heap.size := by simp
    have SZ4 := Lh (show gx < (W3.setRow gx #[.int .u64 (k7 : Int), .int .u32 (ck : Int), .bool del, .slice da dn dc]).heap.size ∧ B1 ≤ (W3.setRow gx #[.int .u64 (k7 : Int), .int .u32 (ck : Int), .bool del, .slice da dn dc]).heap.size by rw [hz4]; exact SZ3.out)
    clear hs hz4 HX3 OV3 BW3 SZ3
    generalize W3.setRow gx #[.int .u64 (k7 : Int), .int .u32 (ck : Int), .bool del, .slice da dn dc] = W4 at *
    obtain ⟨⟨y0, y1, y2, y3⟩, f0, f1, f2, f3⟩ := bx4 HX4.out
    have HRW := Lh (show Rows 4 [[.int .u64 (k7 : Int), .int .u32 (ck : Int), .bool del, .slice da dn dc]] from fun p hp => by
     obtain rfl := List.mem_singleton.1 hp
     exact ⟨rfl, fun u hu => (Array.all_eq_true_iff_forall_mem.1 (nv_one k7 ck del _ _ _)) u (by simpa using hu)⟩)
    have HSZB := Lh (show B1 ≤ (W4.alloc (.cells #[.int .u64 (k7 : Int), .int .u32 (ck : Int), .bool del, .slice da dn dc] 119)).heap.size by have := SZ4.out.2; simp; omega)
    have hb := bel_al W4 (.cells #[.int .u64 (k7 : Int), .int .u32 (ck : Int), .bool del, .slice da dn dc] 119)
    have HBK := Lh (heap_alloc_new W4 (.cells #[.int .u64 (k7 : Int), .int .u32 (ck : Int), .bool del, .slice da dn dc] 119))
    have BW5 := Lh (BW4.out.trans (hb.mono BW4.out.size))
    have OV5 := Lh (ov_below OV4.out hb)
    have HSR := Lh (show SrcV 4 (W4.alloc (.cells #[.int .u64 (k7 : Int), .int .u32 (ck : Int), .bool del, .slice da dn dc] 119)) W4.heap.size 0 [[.int .u64 (k7 : Int), .int .u32 (ck : Int), .bool del, .slice da dn dc]] from fun k q hk hq => by
     obtain rfl : k = 0 := by simp at hk; omega
     rw [show (0 : Nat) + (0 * 4 + q) = q by omega, cell_of_row _ W4.heap.size q _ _ _ HBK.out, List.getElem?_toArray]
     rfl)
    have HLL := Lh (show R.length + ([[.int .u64 (k7 : Int), .int .u32 (ck : Int), .bool del, .slice da dn dc]] : List (List Value)).length ≤ 100000000 by simp; have := HR.out; have := HI6.out; omega)
    clear hb HBK OV4 BW4
    go_wp2_with (at_builtin; refine app_v lsN (dst := some 38) (c := 1) (n := 1) (M := [[.int .u64 (k7 : Int), .int .u32 (ck : Int), .bool del, .slice da dn dc]]) ?_ ?_ rfl OV5.out HRW.out HSR.out HLL.out HSZB.out ?_; exact rfl; exact rfl; intro v9 W6 ho hg hat; have BW6 := Lh (BW5.out.grown hg BW5.out.size (fun k hk => by have := (ov_lt OV5.out k hk).1; have := HWB.out; omega)); have OV6 := Lh ho; have HS6 := Lh (Nat.le_trans HSZB.out hg.size); clear ho hg hat OV5 BW5)
    clear y0 y1 y2 y3 f0 f1 f2 f3
    go_roundw
    case rel => exact ⟨i + 1, HIL.out, HI6.out, by go_num, R ++ [[.int .u64 (k7 : Int), .int .u32 (ck : Int), .bool del, .slice da dn dc]], by simp; exact HR.out, fun p hp => by
     rcases List.mem_append.1 hp with h | h
     ·exact HRN.out p h
     ·obtain rfl := List.mem_singleton.1 h
      exact ⟨k7, ck, del, _, dn, _, HK7.out, HCK.out, HDN.out, rfl⟩, OV6.out, BW6.out, HS6.out⟩
    case measure => exact meas9 n i HIL.out (by have := HLN.out; omega)
end Go.Proofs.YtgbnclepgjcakaaGreat.Gf
