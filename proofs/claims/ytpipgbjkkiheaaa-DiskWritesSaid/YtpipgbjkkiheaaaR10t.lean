/- What is proved here: the contract of the reference's Flip (disk). No condition. -/
import Derived.Test.YtpipgbjkkiheaaaMW10
namespace Go.Proofs.Ytpipgbjkkiheaaa.Gf
open Go Go.Joins Go.ChangeShapes Go.WideShapes Go.ChangeAt Go.RowKit Go.Deep Go.Proofs.Ytpipgbjkkiheaaa.By Go.Proofs.Ytpipgbjkkiheaaa.Qt

def flipB (b : List Nat) (bit : Int) : List Nat := b.set (bit / 8).toNat (b.getD (bit / 8).toNat 0 ^^^ 2 ^ (bit % 8).toNat)
def flipF (d : Dk) (s : ByteArray) : Fl := d.2.2.getD (fndL d.2.2 s).toNat fl0
def flipE (d : Dk) (s : ByteArray) (bit : Int) : Nat := if validB d = true ∧ nameB s = true then (if fndL d.2.2 s < 0 then 6 else if 0 < (flipF d s).2.2.length then 12 else if bit < 0 ∨ ((flipF d s).2.1.length : Int) ≤ bit / 8 then 2 else 0) else 1
def flipD (d : Dk) (s : ByteArray) (bit : Int) : Dk := if flipE d s bit = 0 then (d.1, d.2.1, d.2.2.set (fndL d.2.2 s).toNat ((flipF d s).1, flipB (flipF d s).2.1 bit, (flipF d s).2.2)) else dk0
theorem set_mid {w : World} {g o : Nat} {a b c : Value} {cur : Array Value} {T : TypeId} (hg : w.heap[g]? = some (.cells cur T (0, 0))) (ha : w.cell? ⟨g, o, none⟩ = some a) (hc : w.cell? ⟨g, o + 2, none⟩ = some c) (k : Nat) : (w.setCell ⟨g, o + 1, none⟩ b).heap[k]? = (setCs w g o [a, b, c]).heap[k]? := by
  by_cases hk : k = g
  · subst hk
    rw [cell_of_row w k o _ _ _ hg] at ha
    rw [cell_of_row w k (o + 2) _ _ _ hg] at hc
    have h1 := heap_setCell_same w k (o + 1) _ _ b hg
    have h2 := heap_setCell_same w k o _ _ a hg
    have h3 := heap_setCell_same _ k (o + 1) _ _ b h2
    have h4 := heap_setCell_same _ k (o + 1 + 1) _ _ c h3
    rw [h1]
    show _ = (((w.setCell ⟨k, o, none⟩ a).setCell ⟨k, o + 1, none⟩ b).setCell ⟨k, o + 1 + 1, none⟩ c).heap[k]?
    rw [h4]
    congr 2
    apply Array.ext_getElem?
    intro j
    obtain ⟨ho, ha⟩ := Array.getElem?_eq_some_iff.1 ha
    obtain ⟨ho2, hc⟩ := Array.getElem?_eq_some_iff.1 hc
    simp only [Array.getElem?_setIfInBounds, Array.size_setIfInBounds]
    by_cases j0 : o + 1 + 1 = j
    · subst j0
      simp [hc, ho2]
    · by_cases j1 : o + 1 = j
      · subst j1
        simp
      · by_cases j2 : o = j
        · subst j2
          simp [ha, ho]
          intro h
          omega
        · simp [j0, j1, j2]
  · rw [other1 hk]
    exact (setCs_other hk [a, b, c] w o).symm
theorem own_of_og {B : Nat → Prop} {w : World} {base : Nat} {v : Value} {l : List Nat} (h : OwG 5 .u8 B w base v l) : Own w base v l := by
  obtain ⟨L, rfl, h0, h2⟩ := h
  have e : ∀ L : List (List Value × Nat), (∀ p ∈ L, p.2 < 256 ∧ p.1 = [.int .u8 ((p.2 : Nat) : Int)]) → L.flatMap Prod.fst = cellsOf (L.map Prod.snd) := fun L => by
    induction L with
    | nil => intro _; rfl
    | cons p L ih =>
      intro h
      rw [List.flatMap_cons, ih fun q hq => h q (List.mem_cons_of_mem _ hq), (h p (List.mem_cons_self ..)).2]
      rfl
  refine ⟨fun b hb => ?_, by rw [← e L h0, List.length_map]; exact h2⟩
  obtain ⟨p, hp, rfl⟩ := List.mem_map.1 hb
  exact (h0 p hp).1
theorem xor_lt10 {y z : Nat} (hy : y < 256) (hz : z < 256) : y ^^^ z < 256 := Nat.xor_lt_two_pow (n := 8) hy hz
theorem pow_lt10 (r : Nat) (h : r < 8) : 2 ^ r < 256 := Nat.lt_of_le_of_lt (Nat.pow_le_pow_right (by decide) (show r ≤ 7 by omega)) (by decide)
theorem flip_val {y r : Nat} (hy : y < 256) (hr : r < 8) : bits .xor .u8 ((y : Nat) : Int) (2 ^ min (IntKind.u64.wrap ((r : Nat) : Int)).toNat 8 % 256) = ((y ^^^ 2 ^ r : Nat) : Int) := by
  have h1 : IntKind.u64.wrap ((r : Nat) : Int) = (r : Int) := by
    rw [IntKind.wrap_u64]
    omega
  rw [h1, Int.toNat_natCast, Nat.min_eq_left (by omega)]
  have h2 := pow_lt10 r hr
  have h3 : (2 : Int) ^ r % 256 = ((2 ^ r : Nat) : Int) := by
    have : (2 : Int) ^ r = ((2 ^ r : Nat) : Int) := by simp
    rw [this]
    generalize 2 ^ r = z at h2
    omega
  rw [h3, u8_xor_nat _ _ hy h2]
/-- The list of writes of the i-th file, by its cells. -/
theorem dv_pend {T : TypeId} {B : Nat → Prop} {w : World} {base g n c : Nat} {L : List Fl} (h : OwG T tyF B w base (.slice (some ⟨g, 0, none⟩) n c) L) {i : Nat} (hi : i < L.length) {pv : Value} (k2 : w.cell? ⟨g, i * 3 + 2, none⟩ = some pv) : Rd (fun q => B q ∧ g ≠ q) w (.sl tyW) [pv] (L.getD i fl0).2.2 := by
  obtain ⟨LL, rfl, h0, -, h2 | ⟨q, cap, cur, e, hq, hb, hn, hm, hsz, ht⟩⟩ := h
  · cases h2.1
  · have e' := Value.slice.inj e
    have hg : g = q := by have := e'.1; simpa using this
    subst hg
    rw [List.length_map] at hi
    have hp : LL[i]? = some LL[i] := List.getElem?_eq_getElem hi
    have hr := h0 LL[i] (List.getElem_mem hi)
    have hf := flat_at (t := tyF) (fun p hp => h0 p hp) i 2 hp (by decide)
    obtain ⟨bv', pv', hc, -, -, h3⟩ := rd_f hr
    rw [hc] at hf
    rw [cell_of_row w g _ _ _ _ hb] at k2
    have hx : (LL.flatMap Prod.fst)[i * 3 + 2]? = some pv' := hf
    rw [← ht, List.getElem?_take] at hx
    split at hx
    · have hx2 : cur[i * 3 + 2]? = some pv' := by simpa using hx
      rw [hx2] at k2
      obtain rfl := Option.some.inj k2
      have hge : (LL.map Prod.snd).getD i fl0 = LL[i].2 := by
        rw [List.getD_eq_getElem?_getD, List.getElem?_map, hp]
        rfl
      rw [hge]
      exact rd_mono h3 fun q hq _ => ⟨hq.1, fun e => hq.2 (by rw [e]; rfl)⟩
    · cases hx
set_option maxRecDepth 100000 in
set_option maxHeartbeats 12800000 in
theorem rflip_any (v : Value) (d : Dk) (s : ByteArray) (bit : Int) (hbit : -9223372036854775808 ≤ bit ∧ bit ≤ 9223372036854775807) (hs : s.size ≤ maxLen) (w : World) (hv : Dv w v d) : Calls Try.prog 64 #[v, .string s, .int .i64 bit] w (DE (fun b => b < w.heap.size) w (flipD d s bit) (flipE d s bit)) := by
  have RV := Lib.hid (fun W (h : Below w.heap.size w W) => rvalid10_any v d W (dv_below hv h))
  have RF := Lib.hid (fun W (h : Below w.heap.size w W) => rfind10_any v d s W (dv_below hv h))
  obtain ⟨fv, rfl, hr, sf⟩ := hv
  obtain ⟨af, cf, rfl, -, -⟩ := rd_sl sf
  have SF := Lib.hid (rd_mono (C := fun q => q < w.heap.size) sf fun _ _ h => h)
  have HR := Lib.hid hr
  have HBT := Lib.hid hbit
  have HSZ := Lib.hid hs
  have HFL := Lib.hid (fnd_lt d.2.2 s)
  have HVL := Lib.hid (fun (h : validB d = true) => And.intro (valid_parts h).2.2.1 (ok_mem (valid_parts h).2.2.2))
  have HFE := Lib.hid (show flipE d s bit = if validB d = true ∧ nameB s = true then (if fndL d.2.2 s < 0 then 6 else if 0 < (flipF d s).2.2.length then 12 else if bit < 0 ∨ ((flipF d s).2.1.length : Int) ≤ bit / 8 then 2 else 0) else 1 from rfl)
  have HFD := Lib.hid (show flipD d s bit = if flipE d s bit = 0 then (d.1, d.2.1, d.2.2.set (fndL d.2.2 s).toNat ((flipF d s).1, flipB (flipF d s).2.1 bit, (flipF d s).2.2)) else dk0 from rfl)
  have HFF := Lib.hid (show flipF d s = d.2.2.getD (fndL d.2.2 s).toNat fl0 from rfl)
  generalize flipD d s bit = DD at *
  generalize flipE d s bit = EE at *
  generalize flipF d s = x at *
  generalize fndL d.2.2 s = fi at *
  generalize validB d = VB at *
  have RNM := Lib.hid (fun W => rname_any s hs W)
  generalize nameB s = NB at *
  obtain ⟨cap, left, L⟩ := d
  dsimp only at SF HR HFL HVL HFE HFD HFF RV RF ⊢
  obtain ⟨n, hn⟩ : ∃ z, z = L.length := ⟨_, rfl⟩
  rw [← hn] at SF HFL HVL RV RF ⊢
  have HN := Lib.hid hn
  have A1 := bel_al0 w (.cells #[.int .i64 cap, .int .i64 left, .slice af n cf] 24)
  have BX := Lib.hid (btA A1 (bel_al0 _ (.cells #[.int .i64 0, .int .i64 0, .slice none 0 0] 24)))
  have HX := Lib.hid (show ((w.alloc (.cells #[.int .i64 cap, .int .i64 left, .slice af n cf] 24)).alloc (.cells #[.int .i64 0, .int .i64 0, .slice none 0 0] 24)).heap[w.heap.size]? = some (.cells #[.int .i64 cap, .int .i64 left, .slice af n cf] 24 (0, 0)) from (al_old (by simp)).trans (heap_alloc_new w _))
  have HY := Lib.hid (heap_alloc2_new w (.cells #[.int .i64 cap, .int .i64 left, .slice af n cf] 24) (.cells #[.int .i64 0, .int .i64 0, .slice none 0 0] 24))
  clear sf hr A1 hn hbit hs
  go_enter Try.func64, Try.ntmps64
  go_upto_region 1 with fail
  generalize ((w.alloc (.cells #[.int .i64 cap, .int .i64 left, .slice af n cf] 24)).alloc (.cells #[.int .i64 0, .int .i64 0, .slice none 0 0] 24)) = W1 at *
  obtain ⟨x0, x1, x2⟩ := box3c HX.out
  go_wp2_with fail
  refine (RV.out _ BX.out).mono ?_
  rintro e w2 ⟨rfl, hb2⟩
  have B2 := Lib.hid (btA BX.out hb2)
  have HX2 := Lib.hid ((hb2.block _ (lt_of_some0 HX.out)).trans HX.out)
  have HY2 := Lib.hid ((hb2.block _ (lt_of_some0 HY.out)).trans HY.out)
  clear hb2 x0 x1 x2 HX HY BX RV
  cases VB
  case false =>
    rw [if_neg (by simp)] at HFE
    have HD0 : Hid (DD = dk0) := Lib.hid (by rw [HFD.out, if_neg (by rw [HFE.out]; decide)])
    clear HFD HVL RF RNM
    obtain ⟨y0, y1, y2⟩ := box3c HY2.out
    have u0 := frozen_of_row w2 (w.heap.size + 1) 0 _ _ HY2.out
    have u1 := frozen_of_row w2 (w.heap.size + 1) 1 _ _ HY2.out
    have u2 := frozen_of_row w2 (w.heap.size + 1) 2 _ _ HY2.out
    go_wp2
    refine rdisk_end rfl (set3c HY2.out) rfl ?_
    rw [HD0.out, HFE.out]
    exact de_zero (below_set3 B2.out (by omega))
  go_wp2_with fail
  refine (RNM.out _).mono ?_
  rintro e w3 ⟨rfl, rfl⟩
  cases NB
  case false =>
    rw [if_neg (by simp)] at HFE
    have HD0 : Hid (DD = dk0) := Lib.hid (by rw [HFD.out, if_neg (by rw [HFE.out]; decide)])
    clear HFD HVL RF RNM
    obtain ⟨y0, y1, y2⟩ := box3c HY2.out
    have u0 := frozen_of_row w2 (w.heap.size + 1) 0 _ _ HY2.out
    have u1 := frozen_of_row w2 (w.heap.size + 1) 1 _ _ HY2.out
    have u2 := frozen_of_row w2 (w.heap.size + 1) 2 _ _ HY2.out
    go_wp2
    refine rdisk_end rfl (set3c HY2.out) rfl ?_
    rw [HD0.out, HFE.out]
    exact de_zero (below_set3 B2.out (by omega))
  rw [if_pos (by first | exact ⟨rfl, rfl⟩ | exact ⟨trivial, trivial⟩ | exact ⟨trivial, rfl⟩ | exact ⟨rfl, trivial⟩)] at HFE
  have HLE := Lib.hid (HVL.out (by first | rfl | trivial)).1
  have HOF := Lib.hid (HVL.out (by first | rfl | trivial)).2
  clear HVL RNM
  obtain ⟨x0, x1, x2⟩ := box3c HX2.out
  go_wp2_with fail
  refine (RF.out _ B2.out).mono ?_
  rintro e w3 ⟨rfl, hb3⟩
  have B3 := Lib.hid (btA B2.out hb3)
  have HX3 := Lib.hid ((hb3.block _ (lt_of_some0 HX2.out)).trans HX2.out)
  have HY3 := Lib.hid ((hb3.block _ (lt_of_some0 HY2.out)).trans HY2.out)
  clear hb3 x0 x1 x2 HX2 HY2 B2 RF
  by_cases hfi : fi < 0
  · have e1 : decide (fi < 0) = true := decide_eq_true hfi
    rw [if_pos hfi] at HFE
    have HD0 : Hid (DD = dk0) := Lib.hid (by rw [HFD.out, if_neg (by rw [HFE.out]; decide)])
    clear hfi HFD
    obtain ⟨y0, y1, y2⟩ := box3c HY3.out
    have u0 := frozen_of_row w3 (w.heap.size + 1) 0 _ _ HY3.out
    have u1 := frozen_of_row w3 (w.heap.size + 1) 1 _ _ HY3.out
    have u2 := frozen_of_row w3 (w.heap.size + 1) 2 _ _ HY3.out
    go_wp2
    refine rdisk_end rfl (set3c HY3.out) rfl ?_
    rw [HD0.out, HFE.out]
    exact de_zero (below_set3 B3.out (by omega))
  rw [if_neg hfi] at HFE
  have e1 : decide (fi < 0) = false := decide_eq_false hfi
  obtain ⟨i, rfl⟩ : ∃ i : Nat, fi = (i : Int) := ⟨fi.toNat, by omega⟩
  rw [Int.toNat_natCast] at HFD HFF
  have hin : i < n := by have := HFL.out; omega
  have HI := Lib.hid hin
  clear hfi
  obtain ⟨b1, o1, bv, pv, rfl, -, k0, k1, k2, hsz, hbb, hpp⟩ := dv_at SF.out (by have := HN.out; omega : i < L.length)
  rw [← HFF.out] at k0 hsz hbb hpp
  have HXL := Lib.hid (show x.2.1.length ≤ 1048576 by
    have hip : i < L.length := by have := HN.out; omega
    have h := HOF.out x (by rw [HFF.out, getD_F hip]; exact List.getElem_mem hip)
    unfold fileB at h
    rw [Bool.and_eq_true] at h
    have h2 := h.2
    unfold flB at h2
    rw [Bool.and_eq_true] at h2
    simpa using h2.1)
  obtain ⟨sa, xb, xp⟩ := x
  dsimp only at k0 k1 k2 hsz hbb hpp HFE HFD HXL
  obtain ⟨ab, cb, rfl, -, -⟩ := sl_form (rd8_sl hbb)
  obtain ⟨ap, cp, rfl, -, -⟩ := rd_sl hpp
  have HSA := Lib.hid hsz
  have RB := Lib.hid hbb
  have RP := Lib.hid hpp
  have KK := Lib.hid (fun W (h : Below w.heap.size w W) => And.intro ((h.cell (block_lt_of_cell k0)).trans k0) (And.intro ((h.cell (block_lt_of_cell k1)).trans k1) ((h.cell (block_lt_of_cell k2)).trans k2)))
  obtain ⟨nb, hnb⟩ : ∃ z, z = xb.length := ⟨_, rfl⟩
  obtain ⟨np, hnp⟩ : ∃ z, z = xp.length := ⟨_, rfl⟩
  rw [← hnb] at RB KK HFE
  rw [← hnp] at RP KK HFE
  have HNB := Lib.hid hnb
  clear k0 k1 k2 hsz hbb hpp hnb hnp hin
  have p0 : (0 : Int) ≤ (i : Int) := by omega
  have p1 : (i : Int) < (n : Int) := by have := HI.out; omega
  obtain ⟨k0, k1, k2⟩ := KK.out _ B3.out
  obtain ⟨x0, x1, x2⟩ := box3c HX3.out
  by_cases hp0 : 0 < np
  · have e2 : decide ((np : Int) > 0) = true := decide_eq_true (by omega)
    have e3 : decide ((0 : Int) < (np : Int)) = true := decide_eq_true (by omega)
    have e4 : decide (0 < np) = true := decide_eq_true hp0
    rw [if_pos hp0] at HFE
    have HD0 : Hid (DD = dk0) := Lib.hid (by rw [HFD.out, if_neg (by rw [HFE.out]; decide)])
    clear hp0 HFD
    obtain ⟨y0, y1, y2⟩ := box3c HY3.out
    have u0 := frozen_of_row w3 (w.heap.size + 1) 0 _ _ HY3.out
    have u1 := frozen_of_row w3 (w.heap.size + 1) 1 _ _ HY3.out
    have u2 := frozen_of_row w3 (w.heap.size + 1) 2 _ _ HY3.out
    go_wp2
    refine rdisk_end rfl (set3c HY3.out) rfl ?_
    rw [HD0.out, HFE.out]
    exact de_zero (below_set3 B3.out (by omega))
  have e2 : decide ((np : Int) > 0) = false := decide_eq_false (by omega)
  have e3 : decide ((0 : Int) < (np : Int)) = false := decide_eq_false (by omega)
  have e4 : decide (0 < np) = false := decide_eq_false hp0
  rw [if_neg hp0] at HFE
  clear hp0
  go_upto_region 8 with fail
  clear e1 e2 e3 e4
  by_cases hneg : bit < 0
  · have e1 : decide (bit < 0) = true := decide_eq_true hneg
    rw [if_pos (Or.inl hneg)] at HFE
    have HD0 : Hid (DD = dk0) := Lib.hid (by rw [HFD.out, if_neg (by rw [HFE.out]; decide)])
    clear hneg HFD
    obtain ⟨y0, y1, y2⟩ := box3c HY3.out
    have u0 := frozen_of_row w3 (w.heap.size + 1) 0 _ _ HY3.out
    have u1 := frozen_of_row w3 (w.heap.size + 1) 1 _ _ HY3.out
    have u2 := frozen_of_row w3 (w.heap.size + 1) 2 _ _ HY3.out
    go_wp2
    refine rdisk_end rfl (set3c HY3.out) rfl ?_
    rw [HD0.out, HFE.out]
    exact de_zero (below_set3 B3.out (by omega))
  have e1 : decide (bit < 0) = false := decide_eq_false hneg
  obtain ⟨bt, rfl⟩ : ∃ z : Nat, bit = (z : Int) := ⟨bit.toNat, by omega⟩
  obtain ⟨j, hj⟩ : ∃ z, z = bt / 8 := ⟨_, rfl⟩
  obtain ⟨r, hr⟩ : ∃ z, z = bt % 8 := ⟨_, rfl⟩
  have q1 : Int.tdiv (bt : Int) 8 = (j : Int) := by rw [Int.tdiv_eq_ediv_of_nonneg (by omega)]; omega
  have q2 : Int.tmod (bt : Int) 8 = (r : Int) := by rw [Int.tmod_eq_emod_of_nonneg (by omega)]; omega
  have qw : wrap64 (j : Int) = (j : Int) := by have := HBT.out; unfold wrap64; omega
  have HQW := Lib.hid qw
  have HJ := Lib.hid (show (bt : Int) / 8 = (j : Int) ∧ (bt : Int) % 8 = (r : Int) ∧ r < 8 by omega)
  have HQ := Lib.hid (And.intro q1 q2)
  clear hneg hj hr q2
  by_cases hge : nb ≤ j
  · have e2 : decide ((j : Int) ≥ (nb : Int)) = true := decide_eq_true (by omega)
    have e3 : decide ((nb : Int) ≤ (j : Int)) = true := decide_eq_true (by omega)
    have e4 : decide (nb ≤ j) = true := decide_eq_true hge
    rw [if_pos (Or.inr (by rw [HJ.out.1]; omega))] at HFE
    have HD0 : Hid (DD = dk0) := Lib.hid (by rw [HFD.out, if_neg (by rw [HFE.out]; decide)])
    clear hge HFD
    obtain ⟨y0, y1, y2⟩ := box3c HY3.out
    have u0 := frozen_of_row w3 (w.heap.size + 1) 0 _ _ HY3.out
    have u1 := frozen_of_row w3 (w.heap.size + 1) 1 _ _ HY3.out
    have u2 := frozen_of_row w3 (w.heap.size + 1) 2 _ _ HY3.out
    go_wp2
    refine rdisk_end rfl (set3c HY3.out) rfl ?_
    rw [HD0.out, HFE.out]
    exact de_zero (below_set3 B3.out (by omega))
  have e2 : decide ((j : Int) ≥ (nb : Int)) = false := decide_eq_false (by omega)
  have e3 : decide ((nb : Int) ≤ (j : Int)) = false := decide_eq_false (by omega)
  have e4 : decide (nb ≤ j) = false := decide_eq_false hge
  have HJL := Lib.hid (show j < nb by omega)
  rw [if_neg (by rw [HJ.out.1]; omega)] at HFE
  rw [if_pos HFE.out] at HFD
  clear hge
  go_upto_region 10 with fail
  clear e1 e2 e3 e4 q1 qw p0 p1
  have OE := Lib.hid (og_empty (T := 5) .u8 (fun q => q < w.heap.size) w3 rfl (Nat.le_refl _))
  have BE := Lib.hid (bel_al0 w3 (.cells #[] 5))
  have SZ3 := Lib.hid (show w.heap.size + 2 ≤ w3.heap.size from lt_of_some0 HY3.out)
  have SA := Lib.hid (rd_mono (C := fun q => q < w.heap.size ∧ (Value.slice (some ⟨w3.heap.size, 0, none⟩) 0 0).ownBlock ≠ some q) (rd_below RB.out (btA B3.out BE.out)) fun q hq _ => ⟨hq, fun e => by
    have h3 := SZ3.out
    simp [Value.ownBlock] at e
    omega⟩)
  have HBL : Hid (xb.length ≤ 1048576) := Lib.hid HXL.out
  have HLE2 : Hid (([] : List Nat).length + xb.length ≤ 100000000) := Lib.hid (by have := HBL.out; simp; omega)
  clear k0 k1 k2 x0 x1 x2
  obtain ⟨k0, k1, k2⟩ := KK.out _ (btA B3.out BE.out)
  obtain ⟨x0, x1, x2⟩ := box3c ((BE.out.block _ (lt_of_some0 HX3.out)).trans HX3.out)
  have p0 : (0 : Int) ≤ (i : Int) := by omega
  have p1 : (i : Int) < (n : Int) := by have := HI.out; omega
  go_upto_region 11 with (at_builtin; (refine app_g ls8R (dst := some 56) ?_ ?_ OE.out SA.out HLE2.out (Nat.le_of_lt (by simp)) ?_; exact rfl; exact rfl; intro v5 w5 ho5 hg5 hat5; rw [List.nil_append] at ho5; have q5 := Lib.hid (below_grownG BE.out hg5 OE.out (Nat.le_of_lt (by simp)) (Nat.le_refl _)); obtain ⟨a5, c5, rfl, -, -⟩ := og_form ho5; have O5 := Lib.hid (own_of_og ho5); rw [← HNB.out] at O5 ⊢; clear ho5 hg5 hat5))
  have B5 := Lib.hid (btA B3.out q5.out)
  have HX5 := Lib.hid ((q5.out.block _ (lt_of_some0 HX3.out)).trans HX3.out)
  have HY5 := Lib.hid ((q5.out.block _ (lt_of_some0 HY3.out)).trans HY3.out)
  have SZ5 := Lib.hid (show w.heap.size + 2 ≤ w3.heap.size from SZ3.out)
  obtain ⟨g5, rfl⟩ : ∃ g, a5 = some ⟨g, 0, none⟩ := by
    obtain ⟨_, _, ⟨h1, h2⟩ | ⟨g, cap, cur, h1, -⟩⟩ := O5.out
    · exact absurd h2 (by have := HNB.out; have := HJL.out; omega)
    · have := Value.slice.inj h1
      exact ⟨g, this.1⟩
  clear k0 k1 k2 x0 x1 x2 p0 p1 OE BE SA HLE2 q5 HX3 HY3 B3 SZ3
  obtain ⟨hc, hfz, hbg⟩ := own_cell O5.out HNB.out.symm HJL.out
  have hy := getD_lt O5.out.1 j
  obtain ⟨y, hye⟩ : ∃ y, y = xb.getD j 0 := ⟨_, rfl⟩
  rw [← hye] at hc hy
  have HYE := Lib.hid hye
  have HY256 := Lib.hid hy
  have HG5 := Lib.hid hbg
  have q1 := HQ.out.1
  have q2 := HQ.out.2
  have qw := HQW.out
  have p0 : (0 : Int) ≤ (j : Int) := by omega
  have p1 : (j : Int) < (nb : Int) := by have := HJL.out; omega
  clear hye hy hbg
  go_upto_region 12 with fail
  have hval : bits .xor .u8 ((y : Nat) : Int) (2 ^ min (IntKind.u64.wrap ((r : Nat) : Int)).toNat 8 % 256) = ((y ^^^ 2 ^ r : Nat) : Int) := flip_val HY256.out HJ.out.2.2
  rw [hval]
  have HYX := Lib.hid (xor_lt10 HY256.out (pow_lt10 r HJ.out.2.2))
  have HXS := Lib.hid (show xb.set j (y ^^^ 2 ^ r) = flipB xb (bt : Int) by unfold flipB; rw [HJ.out.1, HJ.out.2.1, Int.toNat_natCast, Int.toNat_natCast, HYE.out])
  generalize y ^^^ 2 ^ r = yx at *
  have O6 := Lib.hid (own_set O5.out HNB.out.symm HJL.out HYX.out)
  have HX6 := Lib.hid ((other1 (g := g5) (o := j) (v := .int .u8 (yx : Int)) (by have := SZ5.out; have := HG5.out; omega : w.heap.size ≠ g5)).trans HX5.out)
  have HY6 := Lib.hid ((other1 (g := g5) (o := j) (v := .int .u8 (yx : Int)) (by have := SZ5.out; have := HG5.out; omega : w.heap.size + 1 ≠ g5)).trans HY5.out)
  have B6 := Lib.hid (B5.out.setCell (p := ⟨g5, j, none⟩) (show w.heap.size ≤ g5 by have := SZ5.out; have := HG5.out; omega) (.int .u8 (yx : Int)))
  clear hval hc hfz q1 q2 qw p0 p1 O5 HX5 HY5 B5
  generalize w5.setCell ⟨g5, j, none⟩ (.int .u8 (yx : Int)) = W6 at *
  rw [HXS.out] at O6
  have RO6 := Lib.hid (rd_mono (C := fun q => (q < w.heap.size ∨ w.heap.size + 2 ≤ q) ∧ q < W6.heap.size) (own_rd8 O6.out) fun q hq hl => ⟨Or.inr (by have := SZ5.out; omega), hl⟩)
  have OE := Lib.hid (og_empty (T := 63) tyF (fun q => q < w.heap.size ∨ w.heap.size + 2 ≤ q) W6 rfl (Nat.le_refl _))
  have BE := Lib.hid (bel_al0 W6 (.cells #[] 63))
  have SZ6 := Lib.hid (show w.heap.size + 2 ≤ W6.heap.size from lt_of_some0 HY6.out)
  have SA := Lib.hid (rd_mono (C := fun q => (q < w.heap.size ∨ w.heap.size + 2 ≤ q) ∧ (Value.slice (some ⟨W6.heap.size, 0, none⟩) 0 0).ownBlock ≠ some q) (rd_below SF.out (btA B6.out BE.out)) fun q hq _ => ⟨Or.inl hq, fun e => by
    have h3 := SZ6.out
    simp [Value.ownBlock] at e
    omega⟩)
  have HLE2 : Hid (([] : List Fl).length + L.length ≤ 100000000) := Lib.hid (by have := HLE.out; have := HN.out; simp; omega)
  have HX7 := Lib.hid ((BE.out.block _ (lt_of_some0 HX6.out)).trans HX6.out)
  obtain ⟨x0, x1, x2⟩ := box3c HX7.out
  go_upto_region 13 with (at_builtin; (refine app_g lsF (dst := some 71) ?_ ?_ OE.out SA.out HLE2.out (Nat.le_of_lt (by simp)) ?_; exact rfl; exact rfl; intro v7 w7 ho7 hg7 hat7; rw [List.nil_append] at ho7; have q7 := Lib.hid (below_grownG BE.out hg7 OE.out (Nat.le_of_lt (by simp)) (Nat.le_refl _)); obtain ⟨a7, c7, rfl, -, -⟩ := og_form ho7; have O7 := Lib.hid ho7; rw [← HN.out] at O7 ⊢; have HX8 := Lib.hid ((q7.out.block _ (lt_of_some0 HX6.out)).trans HX6.out); obtain ⟨g0, g1, g2⟩ := box3c HX8.out; have z2 := frozen_of_row _ w.heap.size 2 _ _ HX8.out; clear ho7 hg7 hat7))
  have HY8 := Lib.hid ((q7.out.block _ (lt_of_some0 HY6.out)).trans HY6.out)
  have B8 := Lib.hid (btA B6.out q7.out)
  have RO8 := Lib.hid (rd_below RO6.out q7.out)
  have HL7 := Lib.hid (show ∀ k, (Value.slice a7 n c7).ownBlock = some k → W6.heap.size ≤ k from fun k hk => (og_lt O7.out k hk).1)
  clear x0 x1 x2 g0 g1 g2 z2 HX7 OE BE SA HLE2 q7 HX6 HY6 B6 RO6
  have HX9 := Lib.hid (show (w7.setCell ⟨w.heap.size, 2, none⟩ (.slice a7 n c7)).heap[w.heap.size]? = some (.cells #[.int .i64 cap, .int .i64 left, .slice a7 n c7] 24 (0, 0)) from (by simpa using heap_setCell_same w7 w.heap.size 2 _ _ (.slice a7 n c7) HX8.out))
  have HY9 := Lib.hid ((other1 (g := w.heap.size) (o := 2) (v := .slice a7 n c7) (by omega : w.heap.size + 1 ≠ w.heap.size)).trans HY8.out)
  have B9 := Lib.hid (B8.out.setCell (p := ⟨w.heap.size, 2, none⟩) (Nat.le_refl _) (.slice a7 n c7))
  have O9 := Lib.hid (og_move (w' := w7.setCell ⟨w.heap.size, 2, none⟩ (.slice a7 n c7)) O7.out fun q hq _ => other1 (by
    rcases hq with (hq | hq) | hq
    · omega
    · omega
    · have := HL7.out q hq; have := SZ6.out; omega))
  have RO9 := Lib.hid (rd_move (w' := w7.setCell ⟨w.heap.size, 2, none⟩ (.slice a7 n c7)) (fun q hq _ => other1 (g := w.heap.size) (by rcases hq.1 with h | h <;> omega)) (fun q hq _ => hq) RO8.out)
  clear HX8 HY8 B8 O7 RO8
  generalize w7.setCell ⟨w.heap.size, 2, none⟩ (.slice a7 n c7) = W9 at *
  have hip : i < L.length := by have := HI.out; have := HN.out; omega
  obtain ⟨b5, o5, bv, pv, rfl, -, k0, k1, k2, -, -, -⟩ := dv_at (rd_mono (C := fun _ => True) (og_rdw O9.out) fun _ _ _ => trivial) hip
  obtain ⟨hg9, rfl, cur, hcur, -⟩ := og_ptr O9.out (by omega)
  have HG9 := Lib.hid hg9
  rw [Nat.zero_add] at k0 k1 k2
  have HSM := Lib.hid (fun b k => set_mid (b := b) hcur k0 k2 k)
  have RPX := Lib.hid (dv_pend O9.out hip k2)
  have z1 := frozen_of_row W9 b5 (i * 3 + 1) _ _ hcur
  have p0 : (0 : Int) ≤ (i : Int) := by omega
  have p1 : (i : Int) < (n : Int) := by have := HI.out; omega
  obtain ⟨x0, x1, x2⟩ := box3c HX9.out
  clear hip hg9 hcur
  go_upto_region 14 with fail
  have HXF := Lib.hid (show (L.getD i fl0).1 = sa ∧ (L.getD i fl0).2.2 = xp by rw [← HFF.out]; exact ⟨rfl, rfl⟩)
  rw [HXF.out.1] at HSM
  rw [HXF.out.2] at RPX
  have O10 := Lib.hid (og_move (w' := W9.setCell ⟨b5, i * 3 + 1, none⟩ (.slice (some ⟨g5, 0, none⟩) nb c5)) (og_set O9.out (i := i) (by have := HI.out; have := HN.out; omega) (rd_f_mk (x := (sa, flipB xb (bt : Int), xp)) HSA.out (rd_mono RO9.out fun q hq _ => ⟨hq.1, by have h1 := HG9.out.1; have h2 := hq.2; omega⟩) (rd_mono RPX.out fun q hq _ => ⟨hq.1, fun e => hq.2 e.symm⟩))) fun q _ _ => HSM.out _ q)
  have HX10 := Lib.hid ((other1 (g := b5) (o := i * 3 + 1) (v := .slice (some ⟨g5, 0, none⟩) nb c5) (by have := SZ6.out; have := HG9.out.1; omega : w.heap.size ≠ b5)).trans HX9.out)
  have HY10 := Lib.hid ((other1 (g := b5) (o := i * 3 + 1) (v := .slice (some ⟨g5, 0, none⟩) nb c5) (by have := SZ6.out; have := HG9.out.1; omega : w.heap.size + 1 ≠ b5)).trans HY9.out)
  have B10 := Lib.hid (B9.out.setCell (p := ⟨b5, i * 3 + 1, none⟩) (show w.heap.size ≤ b5 by have := SZ6.out; have := HG9.out.1; omega) (.slice (some ⟨g5, 0, none⟩) nb c5))
  clear k0 k1 k2 z1 p0 p1 x0 x1 x2 HX9 HY9 B9 O9 RO9 RPX HSM
  generalize W9.setCell ⟨b5, i * 3 + 1, none⟩ (.slice (some ⟨g5, 0, none⟩) nb c5) = W10 at *
  obtain ⟨x0, x1, x2⟩ := box3c HX10.out
  obtain ⟨y0, y1, y2⟩ := box3c HY10.out
  have u0 := frozen_of_row W10 (w.heap.size + 1) 0 _ _ HY10.out
  have u1 := frozen_of_row W10 (w.heap.size + 1) 1 _ _ HY10.out
  have u2 := frozen_of_row W10 (w.heap.size + 1) 2 _ _ HY10.out
  go_wp2
  refine rdisk_end rfl (set3c HY10.out) rfl ?_
  rw [HFD.out, HFE.out]
  refine ⟨⟨_, rfl, _, rfl, HR.out, rd_move (B := fun q => (q < w.heap.size ∨ w.heap.size + 2 ≤ q) ∨ W6.heap.size ≤ q) (fun q hq _ => set3_other ?_) (fun q hq _ => ?_) (og_rdw O10.out)⟩, below_set3 B10.out (by omega)⟩
  · have := SZ6.out
    rcases hq with (hq | hq) | hq <;> omega
  · have := SZ6.out
    rcases hq with (hq | hq) | hq
    · exact Or.inl hq
    · exact Or.inr (by omega)
    · exact Or.inr (by omega)
end Go.Proofs.Ytpipgbjkkiheaaa.Gf
