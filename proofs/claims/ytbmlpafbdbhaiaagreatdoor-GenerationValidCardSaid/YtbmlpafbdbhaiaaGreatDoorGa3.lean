/- What is proved here: the laws' small answers the first ten needles, cut. -/
import Derived.Test.YtbmlpafbdbhaiaaGreatDoorGm7
import Derived.Test.YtbmlpafbdbhaiaaGreatDoorGt2
namespace Go.Proofs.YtbmlpafbdbhaiaaGreatDoor.Gf
open Go Go.Joins Go.ChangeShapes Go.WideShapes Go.ChangeAt Go.RowKit Go.Deep Go.Proofs.YtbmlpafbdbhaiaaGreatDoor.By Go.Proofs.YtbmlpafbdbhaiaaGreatDoor.Qt
set_option maxRecDepth 100000
set_option maxHeartbeats 204800000
/-- Four cells are a needle as it comes in. -/
def NI (w : World) (b o : Nat) (x : Rcd) : Prop := ∃ (da : Option Addr) (dn dc : Nat), x.sz = (dn : Int) ∧ dn ≤ dc ∧ dc ≤ maxLen ∧ x.key < 18446744073709551616 ∧ x.ck < 4294967296 ∧ w.cell? ⟨b, o, none⟩ = some (.int .u64 (x.key : Int)) ∧ w.cell? ⟨b, o + 1, none⟩ = some (.int .u32 (x.ck : Int)) ∧ w.cell? ⟨b, o + 2, none⟩ = some (.bool x.del) ∧ w.cell? ⟨b, o + 3, none⟩ = some (.slice da dn dc)
theorem ni_below {w w' : World} {b o : Nat} {x : Rcd} (h : NI w b o x) (hB : Below w.heap.size w w') : NI w' b o x := by
  obtain ⟨da, dn, dc, h1, h2, h3, h4, h5, k0, k1, k2, k3⟩ := h
  have k : ∀ (p : Nat) (v : Value), w.cell? ⟨b, p, none⟩ = some v → w'.cell? ⟨b, p, none⟩ = some v := fun p v q => (hB.cell (p := ⟨b, p, none⟩) (block_lt_of_cell q)).trans q
  exact ⟨da, dn, dc, h1, h2, h3, h4, h5, k _ _ k0, k _ _ k1, k _ _ k2, k _ _ k3⟩
/-- A list of needles as it comes in. -/
def Ni (w : World) (v : Value) (L : List Rcd) : Prop := ∃ a c, v = .slice a L.length c ∧ L.length ≤ c ∧ c ≤ maxLen ∧ (0 < L.length → ∃ b off, a = some ⟨b, off, none⟩ ∧ ∀ i, i < L.length → NI w b (off + i * 4) (L.getD i r0))
theorem ni_belowL {w w' : World} {v : Value} {L : List Rcd} (h : Ni w v L) (hB : Below w.heap.size w w') : Ni w' v L := by
  obtain ⟨a, c, h1, h2, h3, h4⟩ := h
  refine ⟨a, c, h1, h2, h3, fun hp => ?_⟩
  obtain ⟨b, off, ha, hc⟩ := h4 hp
  exact ⟨b, off, ha, fun i hi => ni_below (hc i hi) hB⟩
theorem ni_at {w : World} {a : Option Addr} {n c i : Nat} {L : List Rcd} (h : Ni w (.slice a n c) L) (hi : i < n) : ∃ b off, a = some ⟨b, off, none⟩ ∧ NI w b (off + i * 4) (L.getD i r0) := by
  obtain ⟨a2, c2, h1, -, -, h4⟩ := h
  obtain ⟨rfl, rfl, rfl⟩ : a = a2 ∧ n = L.length ∧ c = c2 := by simpa using h1
  obtain ⟨b, off, ha, hc⟩ := h4 (by omega)
  exact ⟨b, off, ha, hc i hi⟩
/-- A list that comes in is a list of needles. -/
theorem ni_nx {w : World} {v : Value} {L : List Rcd} (h : Ni w v L) : Nx w v L := by
  obtain ⟨a, c, h1, -, -, h4⟩ := h
  refine ⟨a, c, h1, fun hp => ?_⟩
  obtain ⟨b, off, ha, hc⟩ := h4 hp
  refine ⟨b, off, ha, fun i hi => ?_⟩
  obtain ⟨da, dn, dc, e1, e2, e3, e4, e5, k0, k1, k2, k3⟩ := hc i hi
  exact ⟨da, dn, dc, e1, Nat.le_trans e2 e3, e4, e5, k0, k1, k2, k3⟩
def smR (x : Rcd) : Rcd := ⟨x.key % 8, x.ck, x.del, if x.del = true then 0 else if 40 < x.sz then 40 else x.sz⟩
def smL (L : List Rcd) : List Rcd := (L.take 10).map smR
theorem smL_len (L : List Rcd) : (smL L).length = min 10 L.length := by simp [smL]
theorem smL_le (L : List Rcd) : (smL L).length ≤ 10 := by rw [smL_len]; exact Nat.min_le_left _ _
theorem smL_at {L : List Rcd} {i : Nat} (h : i < L.length) (h2 : i < 10) : (smL L).getD i r0 = smR (L.getD i r0) := by
  unfold smL
  rw [List.getD_eq_getElem?_getD, List.getElem?_map, List.getElem?_take_of_lt h2, List.getElem?_eq_getElem h, List.getD_eq_getElem?_getD, List.getElem?_eq_getElem h]
  rfl
/-- A row is a needle. -/
def RowX (p : List Value) (x : Rcd) : Prop := ∃ (da : Option Addr) (dn dc : Nat), x.sz = (dn : Int) ∧ dn ≤ maxLen ∧ x.key < 18446744073709551616 ∧ x.ck < 4294967296 ∧ p = [.int .u64 (x.key : Int), .int .u32 (x.ck : Int), .bool x.del, .slice da dn dc]
def RowsX (R : List (List Value)) (M : List Rcd) : Prop := ∀ k, k < R.length → RowX (R.getD k []) (M.getD k r0)
theorem rowsX_snoc {R : List (List Value)} {M : List Rcd} {p : List Value} (h : RowsX R M) (hp : RowX p (M.getD R.length r0)) : RowsX (R ++ [p]) M := fun k hk => by
  simp only [List.length_append, List.length_singleton] at hk
  by_cases e : k < R.length
  · have h1 : (R ++ [p]).getD k [] = R.getD k [] := by rw [List.getD_eq_getElem?_getD, List.getElem?_append_left e, ← List.getD_eq_getElem?_getD]
    rw [h1]
    exact h k e
  · obtain rfl : k = R.length := by omega
    have h1 : (R ++ [p]).getD R.length [] = p := by rw [List.getD_eq_getElem?_getD, List.getElem?_append_right (Nat.le_refl _)]; simp
    rw [h1]
    exact hp
theorem nx_own {T : TypeId} {w : World} {base : Nat} {v : Value} {R : List (List Value)} {M : List Rcd} (h : OwV T 4 w base v R) (hr : RowsX R M) (hl : R.length = M.length) : Nx w v M := by
  obtain ⟨a, c, hv, h1, h2⟩ := ov_form h
  refine ⟨a, c, by rw [hv, hl], fun hp => ?_⟩
  obtain ⟨b, c2, hv2, -, hs⟩ := ov_src h (by omega)
  obtain ⟨rfl, -⟩ : a = some ⟨b, 0, none⟩ ∧ c = c2 := by simpa using hv.symm.trans hv2
  refine ⟨b, 0, rfl, fun i hi => ?_⟩
  obtain ⟨da, dn, dc, k1, k2, k3, k4, hp⟩ := hr i (by omega)
  have hc := fun u (hu : u < 4) => hs i u (by omega) hu
  rw [hp] at hc
  simp only [← Nat.add_assoc] at hc
  exact ⟨da, dn, dc, k1, k2, k3, k4, hc 0 (by decide), hc 1 (by decide), hc 2 (by decide), hc 3 (by decide)⟩
theorem small_x (v : Value) (L : List Rcd) (w : World) (hv : Ni w v L) : Calls Tryz.prog 26 #[v] w fun e w' => (∃ v', e = .returned v' ∧ Nx w' v' (smL L)) ∧ Below w.heap.size w w' := by
  have NR := Lib.hid hv
  obtain ⟨a, c, rfl, hnc, hcm, -⟩ := hv
  obtain ⟨n, hn⟩ : ∃ q, q = L.length := ⟨_, rfl⟩
  rw [← hn] at NR hnc ⊢
  have HN := Lib.hid hn
  have HLN := Lib.hid (show n ≤ 9223372036854775807 by unfold maxLen at hcm; omega)
  have HSL := Lib.hid (show (smL L).length = min 10 n by rw [smL_len, hn])
  clear hnc hcm hn
  obtain ⟨B1, hB1⟩ : ∃ B1, B1 = w.heap.size := ⟨_, rfl⟩
  have HWB := Lib.hid (show w.heap.size ≤ B1 by omega)
  have HB1 := Lib.hid hB1
  clear hB1
  go_enter Tryz.func26, Tryz.ntmps26
  go_wp2_with fail
  go_loopw [3, 4, 5] (fun t3 t4 _ wr => ∃ i : Nat, i ≤ n ∧ i ≤ 10 ∧ t4 = .int .i64 (i : Int) ∧ ∃ R : List (List Value), R.length = i ∧ RowsX R (smL L) ∧ OwV 67 4 wr B1 t3 R ∧ Below w.heap.size w wr ∧ B1 ≤ wr.heap.size) (fun _ t _ _ => n - (intOf t).toNat)
  case atStart => exact ⟨0, Nat.zero_le _, Nat.zero_le _, rfl, [], rfl, (fun k hk => absurd hk (Nat.not_lt_zero k)), ov_nil _ _ _ _, Below.refl _ _, by rw [HB1.out]; exact Nat.le_refl _⟩
  case round =>
    obtain ⟨i, hi, hi6, rfl, R, hR, hrn, hov, hB, hsz⟩ := hrel
    rename World => wl
    have HR := Lib.hid hR
    have HRN := Lib.hid hrn
    have OV := Lib.hid hov
    have HB := Lib.hid hB
    have SZ := Lib.hid hsz
    clear hrn hov hB hsz hR
    by_cases hlt : i < n ∧ i < 10
    case neg =>
      have HI6 := Lib.hid hi6
      rcases Classical.em (i < n) with h1 | h1
      · have d1 : decide ((i : Int) < (n : Int)) = true := decide_eq_true (by omega)
        have d2 : decide (i < n) = true := decide_eq_true h1
        have d3 : decide ((i : Int) < 10) = false := decide_eq_false (by omega)
        have d4 : decide (i < 10) = false := decide_eq_false (by omega)
        have HEX := Lib.hid (show R.length = (smL L).length by rw [HR.out, HSL.out]; omega)
        clear h1 hlt hi hi6
        go_wp2_with fail
        go_ret
        exact ⟨⟨_, rfl, nx_own OV.out HRN.out HEX.out⟩, HB.out⟩
      · have d1 : decide ((i : Int) < (n : Int)) = false := decide_eq_false (by omega)
        have d2 : decide (i < n) = false := decide_eq_false h1
        have HEX := Lib.hid (show R.length = (smL L).length by rw [HR.out, HSL.out]; omega)
        clear h1 hlt hi hi6
        go_wp2_with fail
        go_ret
        exact ⟨⟨_, rfl, nx_own OV.out HRN.out HEX.out⟩, HB.out⟩
    obtain ⟨h1, h2⟩ := hlt
    have d1 : decide ((i : Int) < (n : Int)) = true := decide_eq_true (by omega)
    have d2 : decide (i < n) = true := decide_eq_true h1
    have d3 : decide ((i : Int) < 10) = true := decide_eq_true (by omega)
    have d4 : decide (i < 10) = true := decide_eq_true h2
    have HIL := Lib.hid (show i + 1 ≤ n by omega)
    have HI6 := Lib.hid (show i + 1 ≤ 10 by omega)
    have p0 : (0 : Int) ≤ (i : Int) := by omega
    have p1 : (i : Int) < (n : Int) := by omega
    obtain ⟨b1, o1, hab, hnc⟩ := ni_at (ni_belowL NR.out HB.out) h1
    obtain rfl := hab
    have hat := smL_at (L := L) (show i < L.length by rw [← HN.out]; exact h1) h2
    obtain ⟨xx, hxx⟩ : ∃ q, q = L.getD i r0 := ⟨_, rfl⟩
    rw [← hxx] at hnc hat
    obtain ⟨key, ck, del, z9⟩ := xx
    obtain ⟨da, dn, dc, hsz, hdn, hdc, hkey, hck, x0, x1, x2, x3⟩ := hnc
    simp only at hsz hkey hck x0 x1 x2 x3
    subst hsz
    have HAT := Lib.hid hat
    clear hxx hat
    have hz := heap_alloc_new wl (.cells #[.int .u64 0, .int .u32 0, .bool false, .slice none 0 0] 67)
    have HKY := Lib.hid hkey
    have HCK := Lib.hid hck
    have HDC := Lib.hid hdn
    have HDN := Lib.hid (show dn ≤ maxLen by omega)
    obtain ⟨k7, hk7⟩ : ∃ k7, k7 = key % 8 := ⟨_, rfl⟩
    have EK := Lib.hid (show bits .and .u64 (key : Int) 7 = (k7 : Int) from by rw [hk7]; exact and_low64 key hkey 3 (by decide))
    have HK7D := Lib.hid hk7
    have HK7 := Lib.hid (show k7 < 18446744073709551616 by omega)
    clear hkey hck hdn hdc h1 h2 hi hi6 hk7
    go_upto_region 6 with ((with_reducible refine storeN wl.heap.size _ #[.int .u64 (key : Int), .int .u32 (ck : Int), .bool del, .slice da dn dc] ?_ ?_ hz rfl rfl (nv_one _ _ _ _ _ _) ?_); exact rfl; exact rfl)
    rw [World.setRow_alloc_new]
    clear x0 x1 x2 x3 p0 p1 d1 d2 d3 d4
    have hb := bel_al wl (.cells #[.int .u64 (key : Int), .int .u32 (ck : Int), .bool del, .slice da dn dc] 67)
    have HX1 := Lib.hid (heap_alloc_new wl (.cells #[.int .u64 (key : Int), .int .u32 (ck : Int), .bool del, .slice da dn dc] 67))
    have HNX := Lib.hid (fun k (hk : Value.ownBlock _ = some k) => (ov_lt OV.out k hk).2)
    have OV1 := Lib.hid (ov_below OV.out hb)
    have BW1 := Lib.hid (HB.out.trans (hb.mono HB.out.size))
    have HGW := Lib.hid (HB.out.size)
    have SZ1 := Lib.hid (show wl.heap.size < (wl.alloc (.cells #[.int .u64 (key : Int), .int .u32 (ck : Int), .bool del, .slice da dn dc] 67)).heap.size ∧ B1 ≤ (wl.alloc (.cells #[.int .u64 (key : Int), .int .u32 (ck : Int), .bool del, .slice da dn dc] 67)).heap.size by have := SZ.out; simp; omega)
    clear hb hz OV HB SZ
    generalize wl.alloc (.cells #[.int .u64 (key : Int), .int .u32 (ck : Int), .bool del, .slice da dn dc] 67) = W1 at *
    generalize wl.heap.size = gx at *
    have hw := w64s9 i (by have := HLN.out; have := HIL.out; omega)
    rcases Classical.em (40 < dn) with h1 | h1
    · have d4 : decide ((40 : Int) < (dn : Int)) = true := decide_eq_true (by omega)
      have d5 : decide (40 < dn) = true := decide_eq_true h1
      have HC := Lib.hid (show (40 : Int) ≤ (dc : Int) by have := HDC.out; omega)
      have hc := HC.out
      have HCUT := Lib.hid h1
      clear h1
      obtain ⟨⟨y0, y1, y2, y3⟩, f0, f1, f2, f3⟩ := bx4 HX1.out
      go_upto_region 8 with fail
      clear y0 y1 y2 y3 f0 f1 f2 f3
      clear d4 d5 hc
      rw [setCell_eq_setRow _ _ _ _ _ _ _ HX1.out]
      have hs : (#[.int .u64 (key : Int), .int .u32 (ck : Int), .bool del, .slice da dn dc] : Array Value).setIfInBounds 3 (.slice da 40 dc) = #[.int .u64 (key : Int), .int .u32 (ck : Int), .bool del, .slice da 40 dc] := rfl
      rw [hs]
      have HX2 := Lib.hid (setRow_heap W1 gx _ #[.int .u64 (key : Int), .int .u32 (ck : Int), .bool del, .slice da 40 dc] _ _ HX1.out)
      have OV2 := Lib.hid (ov_move OV1.out fun b hb _ => setRow_other W1 gx b #[.int .u64 (key : Int), .int .u32 (ck : Int), .bool del, .slice da 40 dc] (fun e => by have := HNX.out b hb; omega))
      have BW2 := Lib.hid (below_setRowM BW1.out HGW.out #[.int .u64 (key : Int), .int .u32 (ck : Int), .bool del, .slice da 40 dc])
      have hz2 : (W1.setRow gx #[.int .u64 (key : Int), .int .u32 (ck : Int), .bool del, .slice da 40 dc]).heap.size = W1.heap.size := by simp
      have SZ2 := Lib.hid (show gx < (W1.setRow gx #[.int .u64 (key : Int), .int .u32 (ck : Int), .bool del, .slice da 40 dc]).heap.size ∧ B1 ≤ (W1.setRow gx #[.int .u64 (key : Int), .int .u32 (ck : Int), .bool del, .slice da 40 dc]).heap.size by rw [hz2]; exact SZ1.out)
      clear hs hz2 HX1 OV1 BW1 SZ1
      generalize W1.setRow gx #[.int .u64 (key : Int), .int .u32 (ck : Int), .bool del, .slice da 40 dc] = W2 at *
      rcases Bool.eq_false_or_eq_true del with hd | hd
      · have d3 : del = true := hd
        have HDL := Lib.hid hd
        clear hd
        obtain ⟨⟨y0, y1, y2, y3⟩, f0, f1, f2, f3⟩ := bx4 HX2.out
        go_upto_region 10 with fail
        clear d3
        clear y0 y1 y2 y3 f0 f1 f2 f3
        rw [setCell_eq_setRow _ _ _ _ _ _ _ HX2.out]
        have hs : (#[.int .u64 (key : Int), .int .u32 (ck : Int), .bool del, .slice da 40 dc] : Array Value).setIfInBounds 3 (.slice none 0 0) = #[.int .u64 (key : Int), .int .u32 (ck : Int), .bool del, .slice none 0 0] := rfl
        rw [hs]
        have HX3 := Lib.hid (setRow_heap W2 gx _ #[.int .u64 (key : Int), .int .u32 (ck : Int), .bool del, .slice none 0 0] _ _ HX2.out)
        have OV3 := Lib.hid (ov_move OV2.out fun b hb _ => setRow_other W2 gx b #[.int .u64 (key : Int), .int .u32 (ck : Int), .bool del, .slice none 0 0] (fun e => by have := HNX.out b hb; omega))
        have BW3 := Lib.hid (below_setRowM BW2.out HGW.out #[.int .u64 (key : Int), .int .u32 (ck : Int), .bool del, .slice none 0 0])
        have hz3 : (W2.setRow gx #[.int .u64 (key : Int), .int .u32 (ck : Int), .bool del, .slice none 0 0]).heap.size = W2.heap.size := by simp
        have SZ3 := Lib.hid (show gx < (W2.setRow gx #[.int .u64 (key : Int), .int .u32 (ck : Int), .bool del, .slice none 0 0]).heap.size ∧ B1 ≤ (W2.setRow gx #[.int .u64 (key : Int), .int .u32 (ck : Int), .bool del, .slice none 0 0]).heap.size by rw [hz3]; exact SZ2.out)
        clear hs hz3 HX2 OV2 BW2 SZ2
        generalize W2.setRow gx #[.int .u64 (key : Int), .int .u32 (ck : Int), .bool del, .slice none 0 0] = W3 at *
        obtain ⟨⟨y0, y1, y2, y3⟩, f0, f1, f2, f3⟩ := bx4 HX3.out
        go_upto_region 11 with fail
        clear y0 y1 y2 y3 f0 f1 f2 f3
        rw [EK.out]
        rw [setCell_eq_setRow _ _ _ _ _ _ _ HX3.out]
        have hs : (#[.int .u64 (key : Int), .int .u32 (ck : Int), .bool del, .slice none 0 0] : Array Value).setIfInBounds 0 (.int .u64 (k7 : Int)) = #[.int .u64 (k7 : Int), .int .u32 (ck : Int), .bool del, .slice none 0 0] := rfl
        rw [hs]
        have HX4 := Lib.hid (setRow_heap W3 gx _ #[.int .u64 (k7 : Int), .int .u32 (ck : Int), .bool del, .slice none 0 0] _ _ HX3.out)
        have OV4 := Lib.hid (ov_move OV3.out fun b hb _ => setRow_other W3 gx b #[.int .u64 (k7 : Int), .int .u32 (ck : Int), .bool del, .slice none 0 0] (fun e => by have := HNX.out b hb; omega))
        have BW4 := Lib.hid (below_setRowM BW3.out HGW.out #[.int .u64 (k7 : Int), .int .u32 (ck : Int), .bool del, .slice none 0 0])
        have hz4 : (W3.setRow gx #[.int .u64 (k7 : Int), .int .u32 (ck : Int), .bool del, .slice none 0 0]).heap.size = W3.heap.size := by simp
        have SZ4 := Lib.hid (show gx < (W3.setRow gx #[.int .u64 (k7 : Int), .int .u32 (ck : Int), .bool del, .slice none 0 0]).heap.size ∧ B1 ≤ (W3.setRow gx #[.int .u64 (k7 : Int), .int .u32 (ck : Int), .bool del, .slice none 0 0]).heap.size by rw [hz4]; exact SZ3.out)
        clear hs hz4 HX3 OV3 BW3 SZ3
        generalize W3.setRow gx #[.int .u64 (k7 : Int), .int .u32 (ck : Int), .bool del, .slice none 0 0] = W4 at *
        obtain ⟨⟨y0, y1, y2, y3⟩, f0, f1, f2, f3⟩ := bx4 HX4.out
        have HRW := Lib.hid (show Rows 4 [[.int .u64 (k7 : Int), .int .u32 (ck : Int), .bool del, .slice none 0 0]] from fun p hp => by
          obtain rfl := List.mem_singleton.1 hp
          exact ⟨rfl, fun u hu => (Array.all_eq_true_iff_forall_mem.1 (nv_one k7 ck del _ _ _)) u (by simpa using hu)⟩)
        have HSZB := Lib.hid (show B1 ≤ (W4.alloc (.cells #[.int .u64 (k7 : Int), .int .u32 (ck : Int), .bool del, .slice none 0 0] 67)).heap.size by have := SZ4.out.2; simp; omega)
        have hb := bel_al W4 (.cells #[.int .u64 (k7 : Int), .int .u32 (ck : Int), .bool del, .slice none 0 0] 67)
        have HBK := Lib.hid (heap_alloc_new W4 (.cells #[.int .u64 (k7 : Int), .int .u32 (ck : Int), .bool del, .slice none 0 0] 67))
        have BW5 := Lib.hid (BW4.out.trans (hb.mono BW4.out.size))
        have OV5 := Lib.hid (ov_below OV4.out hb)
        have HSR := Lib.hid (show SrcV 4 (W4.alloc (.cells #[.int .u64 (k7 : Int), .int .u32 (ck : Int), .bool del, .slice none 0 0] 67)) W4.heap.size 0 [[.int .u64 (k7 : Int), .int .u32 (ck : Int), .bool del, .slice none 0 0]] from fun k q hk hq => by
          obtain rfl : k = 0 := by simp at hk; omega
          rw [show (0 : Nat) + (0 * 4 + q) = q by omega, cell_of_row _ W4.heap.size q _ _ _ HBK.out, List.getElem?_toArray]
          rfl)
        have HLL := Lib.hid (show R.length + ([[.int .u64 (k7 : Int), .int .u32 (ck : Int), .bool del, .slice none 0 0]] : List (List Value)).length ≤ 100000000 by simp; have := HR.out; have := HI6.out; omega)
        clear hb HBK OV4 BW4
        go_wp2_with (at_builtin; refine app_v lsN (dst := some 38) (c := 1) (n := 1) (M := [[.int .u64 (k7 : Int), .int .u32 (ck : Int), .bool del, .slice none 0 0]]) ?_ ?_ rfl OV5.out HRW.out HSR.out HLL.out HSZB.out ?_; exact rfl; exact rfl; intro v9 W6 ho hg hat; have BW6 := Lib.hid (BW5.out.grown hg BW5.out.size (fun k hk => by have := (ov_lt OV5.out k hk).1; have := HWB.out; omega)); have OV6 := Lib.hid ho; have HS6 := Lib.hid (Nat.le_trans HSZB.out hg.size); clear ho hg hat OV5 BW5)
        clear y0 y1 y2 y3 f0 f1 f2 f3
        go_roundw
        case rel => exact ⟨i + 1, HIL.out, HI6.out, by go_num, R ++ [[.int .u64 (k7 : Int), .int .u32 (ck : Int), .bool del, .slice none 0 0]], by simp; exact HR.out, rowsX_snoc HRN.out (by
          rw [HR.out, HAT.out]
          exact ⟨_, 0, _, by show (if del = true then (0 : Int) else _) = _; rw [if_pos HDL.out]; rfl, by unfold maxLen; omega, (by show key % 8 < 18446744073709551616; omega), HCK.out, by rw [HK7D.out]; rfl⟩), OV6.out, BW6.out, HS6.out⟩
        case measure => exact meas9 n i HIL.out (by have := HLN.out; omega)
      · have d3 : del = false := hd
        have HDL := Lib.hid hd
        clear hd
        obtain ⟨⟨y0, y1, y2, y3⟩, f0, f1, f2, f3⟩ := bx4 HX2.out
        go_upto_region 10 with fail
        clear d3
        clear y0 y1 y2 y3 f0 f1 f2 f3
        have HX3 := HX2
        have OV3 := OV2
        have BW3 := BW2
        have SZ3 := SZ2
        clear HX2 OV2 BW2 SZ2
        generalize W2 = W3 at *
        obtain ⟨⟨y0, y1, y2, y3⟩, f0, f1, f2, f3⟩ := bx4 HX3.out
        go_upto_region 11 with fail
        clear y0 y1 y2 y3 f0 f1 f2 f3
        rw [EK.out]
        rw [setCell_eq_setRow _ _ _ _ _ _ _ HX3.out]
        have hs : (#[.int .u64 (key : Int), .int .u32 (ck : Int), .bool del, .slice da 40 dc] : Array Value).setIfInBounds 0 (.int .u64 (k7 : Int)) = #[.int .u64 (k7 : Int), .int .u32 (ck : Int), .bool del, .slice da 40 dc] := rfl
        rw [hs]
        have HX4 := Lib.hid (setRow_heap W3 gx _ #[.int .u64 (k7 : Int), .int .u32 (ck : Int), .bool del, .slice da 40 dc] _ _ HX3.out)
        have OV4 := Lib.hid (ov_move OV3.out fun b hb _ => setRow_other W3 gx b #[.int .u64 (k7 : Int), .int .u32 (ck : Int), .bool del, .slice da 40 dc] (fun e => by have := HNX.out b hb; omega))
        have BW4 := Lib.hid (below_setRowM BW3.out HGW.out #[.int .u64 (k7 : Int), .int .u32 (ck : Int), .bool del, .slice da 40 dc])
        have hz4 : (W3.setRow gx #[.int .u64 (k7 : Int), .int .u32 (ck : Int), .bool del, .slice da 40 dc]).heap.size = W3.heap.size := by simp
        have SZ4 := Lib.hid (show gx < (W3.setRow gx #[.int .u64 (k7 : Int), .int .u32 (ck : Int), .bool del, .slice da 40 dc]).heap.size ∧ B1 ≤ (W3.setRow gx #[.int .u64 (k7 : Int), .int .u32 (ck : Int), .bool del, .slice da 40 dc]).heap.size by rw [hz4]; exact SZ3.out)
        clear hs hz4 HX3 OV3 BW3 SZ3
        generalize W3.setRow gx #[.int .u64 (k7 : Int), .int .u32 (ck : Int), .bool del, .slice da 40 dc] = W4 at *
        obtain ⟨⟨y0, y1, y2, y3⟩, f0, f1, f2, f3⟩ := bx4 HX4.out
        have HRW := Lib.hid (show Rows 4 [[.int .u64 (k7 : Int), .int .u32 (ck : Int), .bool del, .slice da 40 dc]] from fun p hp => by
          obtain rfl := List.mem_singleton.1 hp
          exact ⟨rfl, fun u hu => (Array.all_eq_true_iff_forall_mem.1 (nv_one k7 ck del _ _ _)) u (by simpa using hu)⟩)
        have HSZB := Lib.hid (show B1 ≤ (W4.alloc (.cells #[.int .u64 (k7 : Int), .int .u32 (ck : Int), .bool del, .slice da 40 dc] 67)).heap.size by have := SZ4.out.2; simp; omega)
        have hb := bel_al W4 (.cells #[.int .u64 (k7 : Int), .int .u32 (ck : Int), .bool del, .slice da 40 dc] 67)
        have HBK := Lib.hid (heap_alloc_new W4 (.cells #[.int .u64 (k7 : Int), .int .u32 (ck : Int), .bool del, .slice da 40 dc] 67))
        have BW5 := Lib.hid (BW4.out.trans (hb.mono BW4.out.size))
        have OV5 := Lib.hid (ov_below OV4.out hb)
        have HSR := Lib.hid (show SrcV 4 (W4.alloc (.cells #[.int .u64 (k7 : Int), .int .u32 (ck : Int), .bool del, .slice da 40 dc] 67)) W4.heap.size 0 [[.int .u64 (k7 : Int), .int .u32 (ck : Int), .bool del, .slice da 40 dc]] from fun k q hk hq => by
          obtain rfl : k = 0 := by simp at hk; omega
          rw [show (0 : Nat) + (0 * 4 + q) = q by omega, cell_of_row _ W4.heap.size q _ _ _ HBK.out, List.getElem?_toArray]
          rfl)
        have HLL := Lib.hid (show R.length + ([[.int .u64 (k7 : Int), .int .u32 (ck : Int), .bool del, .slice da 40 dc]] : List (List Value)).length ≤ 100000000 by simp; have := HR.out; have := HI6.out; omega)
        clear hb HBK OV4 BW4
        go_wp2_with (at_builtin; refine app_v lsN (dst := some 38) (c := 1) (n := 1) (M := [[.int .u64 (k7 : Int), .int .u32 (ck : Int), .bool del, .slice da 40 dc]]) ?_ ?_ rfl OV5.out HRW.out HSR.out HLL.out HSZB.out ?_; exact rfl; exact rfl; intro v9 W6 ho hg hat; have BW6 := Lib.hid (BW5.out.grown hg BW5.out.size (fun k hk => by have := (ov_lt OV5.out k hk).1; have := HWB.out; omega)); have OV6 := Lib.hid ho; have HS6 := Lib.hid (Nat.le_trans HSZB.out hg.size); clear ho hg hat OV5 BW5)
        clear y0 y1 y2 y3 f0 f1 f2 f3
        go_roundw
        case rel => exact ⟨i + 1, HIL.out, HI6.out, by go_num, R ++ [[.int .u64 (k7 : Int), .int .u32 (ck : Int), .bool del, .slice da 40 dc]], by simp; exact HR.out, rowsX_snoc HRN.out (by
          rw [HR.out, HAT.out]
          exact ⟨_, 40, _, by show (if del = true then (0 : Int) else if 40 < (dn : Int) then 40 else (dn : Int)) = _; rw [if_neg (by rw [HDL.out]; decide), if_pos (by have := HCUT.out; omega)]; rfl, by unfold maxLen; omega, (by show key % 8 < 18446744073709551616; omega), HCK.out, by rw [HK7D.out]; rfl⟩), OV6.out, BW6.out, HS6.out⟩
        case measure => exact meas9 n i HIL.out (by have := HLN.out; omega)
    · have d4 : decide ((40 : Int) < (dn : Int)) = false := decide_eq_false (by omega)
      have d5 : decide (40 < dn) = false := decide_eq_false h1
      have HCUT := Lib.hid h1
      clear h1
      obtain ⟨⟨y0, y1, y2, y3⟩, f0, f1, f2, f3⟩ := bx4 HX1.out
      go_upto_region 8 with fail
      clear y0 y1 y2 y3 f0 f1 f2 f3
      clear d4 d5
      have HX2 := HX1
      have OV2 := OV1
      have BW2 := BW1
      have SZ2 := SZ1
      clear HX1 OV1 BW1 SZ1
      generalize W1 = W2 at *
      rcases Bool.eq_false_or_eq_true del with hd | hd
      · have d3 : del = true := hd
        have HDL := Lib.hid hd
        clear hd
        obtain ⟨⟨y0, y1, y2, y3⟩, f0, f1, f2, f3⟩ := bx4 HX2.out
        go_upto_region 10 with fail
        clear d3
        clear y0 y1 y2 y3 f0 f1 f2 f3
        rw [setCell_eq_setRow _ _ _ _ _ _ _ HX2.out]
        have hs : (#[.int .u64 (key : Int), .int .u32 (ck : Int), .bool del, .slice da dn dc] : Array Value).setIfInBounds 3 (.slice none 0 0) = #[.int .u64 (key : Int), .int .u32 (ck : Int), .bool del, .slice none 0 0] := rfl
        rw [hs]
        have HX3 := Lib.hid (setRow_heap W2 gx _ #[.int .u64 (key : Int), .int .u32 (ck : Int), .bool del, .slice none 0 0] _ _ HX2.out)
        have OV3 := Lib.hid (ov_move OV2.out fun b hb _ => setRow_other W2 gx b #[.int .u64 (key : Int), .int .u32 (ck : Int), .bool del, .slice none 0 0] (fun e => by have := HNX.out b hb; omega))
        have BW3 := Lib.hid (below_setRowM BW2.out HGW.out #[.int .u64 (key : Int), .int .u32 (ck : Int), .bool del, .slice none 0 0])
        have hz3 : (W2.setRow gx #[.int .u64 (key : Int), .int .u32 (ck : Int), .bool del, .slice none 0 0]).heap.size = W2.heap.size := by simp
        have SZ3 := Lib.hid (show gx < (W2.setRow gx #[.int .u64 (key : Int), .int .u32 (ck : Int), .bool del, .slice none 0 0]).heap.size ∧ B1 ≤ (W2.setRow gx #[.int .u64 (key : Int), .int .u32 (ck : Int), .bool del, .slice none 0 0]).heap.size by rw [hz3]; exact SZ2.out)
        clear hs hz3 HX2 OV2 BW2 SZ2
        generalize W2.setRow gx #[.int .u64 (key : Int), .int .u32 (ck : Int), .bool del, .slice none 0 0] = W3 at *
        obtain ⟨⟨y0, y1, y2, y3⟩, f0, f1, f2, f3⟩ := bx4 HX3.out
        go_upto_region 11 with fail
        clear y0 y1 y2 y3 f0 f1 f2 f3
        rw [EK.out]
        rw [setCell_eq_setRow _ _ _ _ _ _ _ HX3.out]
        have hs : (#[.int .u64 (key : Int), .int .u32 (ck : Int), .bool del, .slice none 0 0] : Array Value).setIfInBounds 0 (.int .u64 (k7 : Int)) = #[.int .u64 (k7 : Int), .int .u32 (ck : Int), .bool del, .slice none 0 0] := rfl
        rw [hs]
        have HX4 := Lib.hid (setRow_heap W3 gx _ #[.int .u64 (k7 : Int), .int .u32 (ck : Int), .bool del, .slice none 0 0] _ _ HX3.out)
        have OV4 := Lib.hid (ov_move OV3.out fun b hb _ => setRow_other W3 gx b #[.int .u64 (k7 : Int), .int .u32 (ck : Int), .bool del, .slice none 0 0] (fun e => by have := HNX.out b hb; omega))
        have BW4 := Lib.hid (below_setRowM BW3.out HGW.out #[.int .u64 (k7 : Int), .int .u32 (ck : Int), .bool del, .slice none 0 0])
        have hz4 : (W3.setRow gx #[.int .u64 (k7 : Int), .int .u32 (ck : Int), .bool del, .slice none 0 0]).heap.size = W3.heap.size := by simp
        have SZ4 := Lib.hid (show gx < (W3.setRow gx #[.int .u64 (k7 : Int), .int .u32 (ck : Int), .bool del, .slice none 0 0]).heap.size ∧ B1 ≤ (W3.setRow gx #[.int .u64 (k7 : Int), .int .u32 (ck : Int), .bool del, .slice none 0 0]).heap.size by rw [hz4]; exact SZ3.out)
        clear hs hz4 HX3 OV3 BW3 SZ3
        generalize W3.setRow gx #[.int .u64 (k7 : Int), .int .u32 (ck : Int), .bool del, .slice none 0 0] = W4 at *
        obtain ⟨⟨y0, y1, y2, y3⟩, f0, f1, f2, f3⟩ := bx4 HX4.out
        have HRW := Lib.hid (show Rows 4 [[.int .u64 (k7 : Int), .int .u32 (ck : Int), .bool del, .slice none 0 0]] from fun p hp => by
          obtain rfl := List.mem_singleton.1 hp
          exact ⟨rfl, fun u hu => (Array.all_eq_true_iff_forall_mem.1 (nv_one k7 ck del _ _ _)) u (by simpa using hu)⟩)
        have HSZB := Lib.hid (show B1 ≤ (W4.alloc (.cells #[.int .u64 (k7 : Int), .int .u32 (ck : Int), .bool del, .slice none 0 0] 67)).heap.size by have := SZ4.out.2; simp; omega)
        have hb := bel_al W4 (.cells #[.int .u64 (k7 : Int), .int .u32 (ck : Int), .bool del, .slice none 0 0] 67)
        have HBK := Lib.hid (heap_alloc_new W4 (.cells #[.int .u64 (k7 : Int), .int .u32 (ck : Int), .bool del, .slice none 0 0] 67))
        have BW5 := Lib.hid (BW4.out.trans (hb.mono BW4.out.size))
        have OV5 := Lib.hid (ov_below OV4.out hb)
        have HSR := Lib.hid (show SrcV 4 (W4.alloc (.cells #[.int .u64 (k7 : Int), .int .u32 (ck : Int), .bool del, .slice none 0 0] 67)) W4.heap.size 0 [[.int .u64 (k7 : Int), .int .u32 (ck : Int), .bool del, .slice none 0 0]] from fun k q hk hq => by
          obtain rfl : k = 0 := by simp at hk; omega
          rw [show (0 : Nat) + (0 * 4 + q) = q by omega, cell_of_row _ W4.heap.size q _ _ _ HBK.out, List.getElem?_toArray]
          rfl)
        have HLL := Lib.hid (show R.length + ([[.int .u64 (k7 : Int), .int .u32 (ck : Int), .bool del, .slice none 0 0]] : List (List Value)).length ≤ 100000000 by simp; have := HR.out; have := HI6.out; omega)
        clear hb HBK OV4 BW4
        go_wp2_with (at_builtin; refine app_v lsN (dst := some 38) (c := 1) (n := 1) (M := [[.int .u64 (k7 : Int), .int .u32 (ck : Int), .bool del, .slice none 0 0]]) ?_ ?_ rfl OV5.out HRW.out HSR.out HLL.out HSZB.out ?_; exact rfl; exact rfl; intro v9 W6 ho hg hat; have BW6 := Lib.hid (BW5.out.grown hg BW5.out.size (fun k hk => by have := (ov_lt OV5.out k hk).1; have := HWB.out; omega)); have OV6 := Lib.hid ho; have HS6 := Lib.hid (Nat.le_trans HSZB.out hg.size); clear ho hg hat OV5 BW5)
        clear y0 y1 y2 y3 f0 f1 f2 f3
        go_roundw
        case rel => exact ⟨i + 1, HIL.out, HI6.out, by go_num, R ++ [[.int .u64 (k7 : Int), .int .u32 (ck : Int), .bool del, .slice none 0 0]], by simp; exact HR.out, rowsX_snoc HRN.out (by
          rw [HR.out, HAT.out]
          exact ⟨_, 0, _, by show (if del = true then (0 : Int) else _) = _; rw [if_pos HDL.out]; rfl, by unfold maxLen; omega, (by show key % 8 < 18446744073709551616; omega), HCK.out, by rw [HK7D.out]; rfl⟩), OV6.out, BW6.out, HS6.out⟩
        case measure => exact meas9 n i HIL.out (by have := HLN.out; omega)
      · have d3 : del = false := hd
        have HDL := Lib.hid hd
        clear hd
        obtain ⟨⟨y0, y1, y2, y3⟩, f0, f1, f2, f3⟩ := bx4 HX2.out
        go_upto_region 10 with fail
        clear d3
        clear y0 y1 y2 y3 f0 f1 f2 f3
        have HX3 := HX2
        have OV3 := OV2
        have BW3 := BW2
        have SZ3 := SZ2
        clear HX2 OV2 BW2 SZ2
        generalize W2 = W3 at *
        obtain ⟨⟨y0, y1, y2, y3⟩, f0, f1, f2, f3⟩ := bx4 HX3.out
        go_upto_region 11 with fail
        clear y0 y1 y2 y3 f0 f1 f2 f3
        rw [EK.out]
        rw [setCell_eq_setRow _ _ _ _ _ _ _ HX3.out]
        have hs : (#[.int .u64 (key : Int), .int .u32 (ck : Int), .bool del, .slice da dn dc] : Array Value).setIfInBounds 0 (.int .u64 (k7 : Int)) = #[.int .u64 (k7 : Int), .int .u32 (ck : Int), .bool del, .slice da dn dc] := rfl
        rw [hs]
        have HX4 := Lib.hid (setRow_heap W3 gx _ #[.int .u64 (k7 : Int), .int .u32 (ck : Int), .bool del, .slice da dn dc] _ _ HX3.out)
        have OV4 := Lib.hid (ov_move OV3.out fun b hb _ => setRow_other W3 gx b #[.int .u64 (k7 : Int), .int .u32 (ck : Int), .bool del, .slice da dn dc] (fun e => by have := HNX.out b hb; omega))
        have BW4 := Lib.hid (below_setRowM BW3.out HGW.out #[.int .u64 (k7 : Int), .int .u32 (ck : Int), .bool del, .slice da dn dc])
        have hz4 : (W3.setRow gx #[.int .u64 (k7 : Int), .int .u32 (ck : Int), .bool del, .slice da dn dc]).heap.size = W3.heap.size := by simp
        have SZ4 := Lib.hid (show gx < (W3.setRow gx #[.int .u64 (k7 : Int), .int .u32 (ck : Int), .bool del, .slice da dn dc]).heap.size ∧ B1 ≤ (W3.setRow gx #[.int .u64 (k7 : Int), .int .u32 (ck : Int), .bool del, .slice da dn dc]).heap.size by rw [hz4]; exact SZ3.out)
        clear hs hz4 HX3 OV3 BW3 SZ3
        generalize W3.setRow gx #[.int .u64 (k7 : Int), .int .u32 (ck : Int), .bool del, .slice da dn dc] = W4 at *
        obtain ⟨⟨y0, y1, y2, y3⟩, f0, f1, f2, f3⟩ := bx4 HX4.out
        have HRW := Lib.hid (show Rows 4 [[.int .u64 (k7 : Int), .int .u32 (ck : Int), .bool del, .slice da dn dc]] from fun p hp => by
          obtain rfl := List.mem_singleton.1 hp
          exact ⟨rfl, fun u hu => (Array.all_eq_true_iff_forall_mem.1 (nv_one k7 ck del _ _ _)) u (by simpa using hu)⟩)
        have HSZB := Lib.hid (show B1 ≤ (W4.alloc (.cells #[.int .u64 (k7 : Int), .int .u32 (ck : Int), .bool del, .slice da dn dc] 67)).heap.size by have := SZ4.out.2; simp; omega)
        have hb := bel_al W4 (.cells #[.int .u64 (k7 : Int), .int .u32 (ck : Int), .bool del, .slice da dn dc] 67)
        have HBK := Lib.hid (heap_alloc_new W4 (.cells #[.int .u64 (k7 : Int), .int .u32 (ck : Int), .bool del, .slice da dn dc] 67))
        have BW5 := Lib.hid (BW4.out.trans (hb.mono BW4.out.size))
        have OV5 := Lib.hid (ov_below OV4.out hb)
        have HSR := Lib.hid (show SrcV 4 (W4.alloc (.cells #[.int .u64 (k7 : Int), .int .u32 (ck : Int), .bool del, .slice da dn dc] 67)) W4.heap.size 0 [[.int .u64 (k7 : Int), .int .u32 (ck : Int), .bool del, .slice da dn dc]] from fun k q hk hq => by
          obtain rfl : k = 0 := by simp at hk; omega
          rw [show (0 : Nat) + (0 * 4 + q) = q by omega, cell_of_row _ W4.heap.size q _ _ _ HBK.out, List.getElem?_toArray]
          rfl)
        have HLL := Lib.hid (show R.length + ([[.int .u64 (k7 : Int), .int .u32 (ck : Int), .bool del, .slice da dn dc]] : List (List Value)).length ≤ 100000000 by simp; have := HR.out; have := HI6.out; omega)
        clear hb HBK OV4 BW4
        go_wp2_with (at_builtin; refine app_v lsN (dst := some 38) (c := 1) (n := 1) (M := [[.int .u64 (k7 : Int), .int .u32 (ck : Int), .bool del, .slice da dn dc]]) ?_ ?_ rfl OV5.out HRW.out HSR.out HLL.out HSZB.out ?_; exact rfl; exact rfl; intro v9 W6 ho hg hat; have BW6 := Lib.hid (BW5.out.grown hg BW5.out.size (fun k hk => by have := (ov_lt OV5.out k hk).1; have := HWB.out; omega)); have OV6 := Lib.hid ho; have HS6 := Lib.hid (Nat.le_trans HSZB.out hg.size); clear ho hg hat OV5 BW5)
        clear y0 y1 y2 y3 f0 f1 f2 f3
        go_roundw
        case rel => exact ⟨i + 1, HIL.out, HI6.out, by go_num, R ++ [[.int .u64 (k7 : Int), .int .u32 (ck : Int), .bool del, .slice da dn dc]], by simp; exact HR.out, rowsX_snoc HRN.out (by
          rw [HR.out, HAT.out]
          exact ⟨_, dn, _, by show (if del = true then (0 : Int) else if 40 < (dn : Int) then 40 else (dn : Int)) = _; rw [if_neg (by rw [HDL.out]; decide), if_neg (by have := HCUT.out; omega)], HDN.out, (by show key % 8 < 18446744073709551616; omega), HCK.out, by rw [HK7D.out]; rfl⟩), OV6.out, BW6.out, HS6.out⟩
        case measure => exact meas9 n i HIL.out (by have := HLN.out; omega)
end Go.Proofs.YtbmlpafbdbhaiaaGreatDoor.Gf
