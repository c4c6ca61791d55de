/- What is proved here: the contracts of the laws' keeps and light (disk). Condition: at most 1000 keeps. -/
import Derived.Test.YtpipgbjkkiheaaaH10c
namespace Go.Proofs.Ytpipgbjkkiheaaa.Gf
open Go Go.Joins Go.ChangeShapes Go.WideShapes Go.ChangeAt Go.RowKit Go.Deep Go.Proofs.Ytpipgbjkkiheaaa.By Go.Proofs.Ytpipgbjkkiheaaa.Qt

theorem rd_kn {B : Nat → Prop} {w : World} {v : Value} {p : List Kep} (h : Rd B w (.sl tyK) [v] p) {i : Nat} {x : Kep} (hi : p[i]? = some x) : x.1.size ≤ maxLen := by
  obtain ⟨L, a, cap, -, rfl, -, -, h5, -⟩ := h
  rw [List.getElem?_map, Option.map_eq_some_iff] at hi
  obtain ⟨p, hp, rfl⟩ := hi
  exact (rd_k (h5 p (List.mem_of_getElem? hp))).2.1
theorem sg_other {w : World} {c : Value} {g n cap : Nat} {l : List Kep} (h : Rd (fun _ => True) w (.sl tyK) [.slice (some ⟨g, 0, none⟩) n cap] l) (hg : c.ownBlock ≠ some g) : Rd (fun q => True ∧ c.ownBlock ≠ some q) w (.sl tyK) [.slice (some ⟨g, 0, none⟩) n cap] l := by
  obtain ⟨L, a, cc, e, h2, h3, h4, h5, h6⟩ := h
  refine ⟨L, a, cc, e, h2, h3, h4, fun p hp => rd_kk (h5 p hp), fun hp => ?_⟩
  obtain ⟨b, off, rfl, -, hk⟩ := h6 hp
  have e' := Value.slice.inj (List.cons.inj e).1
  have hb : g = b := by have := e'.1; simp at this; exact this.1
  subst hb
  exact ⟨g, off, rfl, ⟨trivial, hg⟩, hk⟩
/-- A call that answers a list. -/
def LsO (t : Ty) (w : World) (l : List t.T) (e : Ending) (w' : World) : Prop := (∃ v, e = .returned v ∧ Rd (fun _ => True) w' (.sl t) [v] l) ∧ Below w.heap.size w w'
set_option maxRecDepth 100000 in
set_option maxHeartbeats 12800000 in
theorem keeps10_any (kv : Value) (l : List Kep) (w : World) (sl : Rd (fun _ => True) w (.sl tyK) [kv] l) (hlen : l.length ≤ 1000) : Calls Try.prog 43 #[kv] w (LsO tyK w l) := by
  have SL := Lib.hid sl
  obtain ⟨ak, ck, rfl, -, -⟩ := rd_sl sl
  obtain ⟨n, hn⟩ : ∃ z, z = l.length := ⟨_, rfl⟩
  rw [← hn] at SL hlen ⊢
  have HN := Lib.hid hn
  have HLEN := Lib.hid hlen
  clear sl hlen hn
  go_enter Try.func43, Try.ntmps43
  go_wp2_with fail
  go_loopw [3, 8] (fun out t wr => ∃ i : Nat, i ≤ n ∧ t = .int .i64 (i : Int) ∧ Hid (OwG 87 tyK (fun _ => True) wr w.heap.size out (l.take i)) ∧ Hid (Below w.heap.size w wr)) (fun _ t _ => n - (intOf t).toNat)
  case atStart => exact ⟨0, by omega, rfl, Lib.hid (og_nil _ _ _ _ _), Lib.hid (Below.refl _ _)⟩
  case round =>
    obtain ⟨i, hi, rfl, OO, BB⟩ := hrel
    by_cases hlt : i < n
    case neg =>
      obtain rfl : i = n := by omega
      have l1 : decide ((i : Int) < (i : Int)) = false := decide_eq_false (by omega)
      have HT := Lib.hid (show l.take i = l by rw [List.take_of_length_le (by have := HN.out; omega)])
      rw [HT.out] at OO
      obtain ⟨ao, co, rfl, -, -⟩ := og_form OO.out
      clear hlt hi
      go_wp2
      go_ret
      exact ⟨⟨_, rfl, og_rd OO.out fun _ _ => trivial⟩, BB.out⟩
    have l1 : decide ((i : Int) < (n : Int)) = true := decide_eq_true (by omega)
    obtain ⟨x, hx⟩ : ∃ z, l[i]? = some z := ⟨_, List.getElem?_eq_getElem (by have := HN.out; omega)⟩
    obtain ⟨b1, o1, c1, hv, k0, k1, k2⟩ := rd_kat (rd_below SL.out BB.out) hx
    obtain ⟨rfl, -, -⟩ : ak = some ⟨b1, o1, none⟩ ∧ n = l.length ∧ ck = c1 := by simpa using hv
    have HTK := Lib.hid (show l.take (i + 1) = l.take i ++ [x] by rw [List.take_add_one, hx]; rfl)
    have HKR := Lib.hid (rd_kr SL.out hx)
    have HKN := Lib.hid (rd_kn SL.out hx)
    obtain ⟨kn, ka, kt⟩ := x
    dsimp only at k0 k1 k2 HKR HKN
    obtain ⟨ao, co, rfl, -, -⟩ := og_form OO.out
    obtain ⟨m, hm⟩ : ∃ z, z = (l.take i).length := ⟨_, rfl⟩
    rw [← hm] at OO ⊢
    have HM := Lib.hid hm
    have EW := Lib.hid (show wrap64 ((i : Int) + 1) = ((i + 1 : Nat) : Int) by have := HLEN.out; unfold wrap64; omega)
    have HI := Lib.hid hlt
    have p0 : (0 : Int) ≤ (i : Int) := by omega
    have p1 : (i : Int) < (n : Int) := by omega
    clear hv hx hm hlt hi
    go_upto_region 5 with fail
    have q8 := bel_al0 wr (.cells #[.string kn, .int .i64 ka, .int .i64 kt] 124)
    have HK8 := Lib.hid (heap_alloc_new wr (.cells #[.string kn, .int .i64 ka, .int .i64 kt] 124))
    have OO8 := Lib.hid (og_below OO.out q8)
    have B8 := Lib.hid (btA BB.out q8)
    clear k0 k1 k2 p0 p1 q8 OO BB
    generalize wr.alloc (.cells #[.string kn, .int .i64 ka, .int .i64 kt] 124) = W8 at *
    obtain ⟨h0, h1, h2⟩ := box3c HK8.out
    have q9 := Lib.hid (bel_al0 W8 (.cells #[.string kn, .int .i64 ka, .int .i64 kt] 87))
    have SG9 := Lib.hid (rd_single (B := fun _ => True) (show Rd (fun _ => True) (W8.alloc (.cells #[.string kn, .int .i64 ka, .int .i64 kt] 87)) tyK [.string kn, .int .i64 ka, .int .i64 kt] (kn, ka, kt) from ⟨[_], [.int .i64 ka, .int .i64 kt], rfl, ⟨HKN.out, rfl⟩, [.int .i64 ka], [.int .i64 kt], rfl, ⟨HKR.out.1, rfl⟩, HKR.out.2, rfl⟩) (heap_alloc_new W8 (.cells #[.string kn, .int .i64 ka, .int .i64 kt] 87)) trivial)
    have OO9 := Lib.hid (og_below OO8.out q9.out)
    have OL := Lib.hid (show ∀ q, (Value.slice ao m co).ownBlock = some q → q < W8.heap.size from fun q hq => (og_lt OO8.out q hq).2)
    have SY9 := Lib.hid (sg_other (c := (Value.slice ao m co)) SG9.out fun e => by have := OL.out _ e; omega)
    have BS9 := Lib.hid (show w.heap.size ≤ (W8.alloc (.cells #[.string kn, .int .i64 ka, .int .i64 kt] 87)).heap.size from by have h1 := q9.out.size; have h2 := B8.out.size; omega)
    have HLE9 : Hid ((l.take i).length + [(kn, ka, kt)].length ≤ 100000000) := Lib.hid (by have h1 := HLEN.out; have h2 := HI.out; rw [List.length_take]; simp only [List.length_cons, List.length_nil]; omega)
    go_upto_region 6 with (at_builtin; (refine app_g lsPK (dst := some 21) ?_ ?_ OO9.out SY9.out HLE9.out BS9.out ?_; exact rfl; exact rfl; intro v9 w9 ho9 hg9 hat9; rw [← HTK.out] at ho9; have qq := Lib.hid (below_grownG (btA B8.out q9.out) hg9 OO9.out BS9.out (Nat.le_refl _)); obtain ⟨a9, c9, rfl, -, -⟩ := og_form ho9; obtain ⟨m9, hm9⟩ : ∃ z, z = (l.take (i + 1)).length := ⟨_, rfl⟩; rw [← hm9] at ho9 ⊢; have OOA := Lib.hid ho9; clear ho9 hg9 hat9 hm9))
    clear h0 h1 h2 q9 SG9 OO9 OL SY9 BS9 HLE9 HK8 OO8 B8
    go_wp2
    go_roundw
    case rel =>
      have h1 := HI.out
      exact ⟨i + 1, by omega, by rw [EW.out], OOA, qq⟩
    case measure =>
      have h1 := HI.out
      rw [EW.out]
      simp [intOf]; omega
/-- What a small disk is. -/
def LtP (d : Dk) : Prop := d.2.2.length ≤ 12 ∧ ∀ f ∈ d.2.2, f.2.2.length ≤ 8 ∧ ∀ x ∈ f.2.2, x.2.1.length ≤ 200
theorem lt_pn {d : Dk} (h : LtP d) : PnD d 8 := fun f hf => (h.2 f hf).1
theorem lt_sm {d : Dk} (h : LtP d) : SmD d := fun f hf x hx => Nat.le_trans ((h.2 f hf).2 x hx) (by decide)
/-- A call that answers whether a disk is small. -/
def LgO (d : Dk) (w : World) (e : Ending) (w' : World) : Prop := (∃ q, e = .returned (.bool q) ∧ (q = true → LtP d)) ∧ Below w.heap.size w w'
set_option maxRecDepth 100000 in
set_option maxHeartbeats 12800000 in
theorem light10_any (v : Value) (d : Dk) (w : World) (hv : Dv w v d) : Calls Try.prog 13 #[v] w (LgO d w) := by
  obtain ⟨fv, rfl, -, sf⟩ := hv
  have SF := Lib.hid sf
  obtain ⟨af, cf, rfl, -, -⟩ := rd_sl sf
  have HLT := Lib.hid (show LtP d ↔ (d.2.2.length ≤ 12 ∧ ∀ f ∈ d.2.2, f.2.2.length ≤ 8 ∧ ∀ x ∈ f.2.2, x.2.1.length ≤ 200) from Iff.rfl)
  unfold LgO
  obtain ⟨PL, hPL⟩ : ∃ z : Prop, z = LtP d := ⟨_, rfl⟩
  rw [← hPL] at HLT ⊢
  clear hPL
  obtain ⟨cap, left, L⟩ := d
  dsimp only at SF HLT ⊢
  obtain ⟨n, hn⟩ : ∃ z, z = L.length := ⟨_, rfl⟩
  rw [← hn] at SF HLT ⊢
  have HN := Lib.hid hn
  have BX := Lib.hid (bel_al0 w (.cells #[.int .i64 cap, .int .i64 left, .slice af n cf] 24))
  have HX := Lib.hid (heap_alloc_new w (.cells #[.int .i64 cap, .int .i64 left, .slice af n cf] 24))
  clear sf hn
  go_enter Try.func13, Try.ntmps13
  go_upto_region 1 with fail
  generalize w.alloc (.cells #[.int .i64 cap, .int .i64 left, .slice af n cf] 24) = W1 at *
  obtain ⟨x0, x1, x2⟩ := box3c HX.out
  by_cases h12 : 12 < n
  case pos =>
    have e1 : decide ((n : Int) > 12) = true := decide_eq_true (by omega)
    have e2 : decide ((12 : Int) < (n : Int)) = true := decide_eq_true (by omega)
    have e3 : decide (12 < n) = true := decide_eq_true h12
    clear h12
    go_wp2
    go_ret
    exact ⟨⟨false, rfl, fun h => by cases h⟩, BX.out⟩
  have e1 : decide ((n : Int) > 12) = false := decide_eq_false (by omega)
  have e2 : decide ((12 : Int) < (n : Int)) = false := decide_eq_false (by omega)
  have e3 : decide (12 < n) = false := decide_eq_false h12
  have H12 := Lib.hid (show n ≤ 12 by omega)
  clear h12
  go_wp2_with fail
  clear x0 x1 x2 e1 e2 e3
  go_loopw [14] (fun t wr => ∃ i : Nat, i ≤ n ∧ t = .int .i64 (i : Int) ∧ Hid (∀ j, j < i → (L.getD j fl0).2.2.length ≤ 8 ∧ ∀ x ∈ (L.getD j fl0).2.2, x.2.1.length ≤ 200) ∧ Hid (Below w.heap.size w wr)) (fun t _ => n - (intOf t).toNat)
  case atStart => exact ⟨0, by omega, rfl, Lib.hid (fun j hj => by omega), BX⟩
  case round =>
    clear HX BX
    obtain ⟨i, hi, rfl, HP, BB⟩ := hrel
    by_cases hlt : i < n
    case neg =>
      obtain rfl : i = n := by omega
      have l1 : decide ((i : Int) < (i : Int)) = false := decide_eq_false (by omega)
      clear hlt hi
      go_wp2
      go_ret
      refine ⟨⟨true, rfl, fun _ => HLT.out.2 ⟨H12.out, fun f hf => ?_⟩⟩, BB.out⟩
      obtain ⟨j, hj, rfl⟩ := List.getElem_of_mem hf
      have h := HP.out j (by have := HN.out; omega)
      rw [getD_F hj] at h
      exact h
    have l1 : decide ((i : Int) < (n : Int)) = true := decide_eq_true (by omega)
    have hip : i < L.length := by have := HN.out; omega
    obtain ⟨b1, o1, bv, pv, rfl, -, k0, k1, k2, hsz, hbb, hpp⟩ := dv_at (rd_below SF.out BB.out) hip
    obtain ⟨x, hx⟩ : ∃ z, z = L.getD i fl0 := ⟨_, rfl⟩
    rw [← hx] at k0 hsz hbb hpp
    have HXE := Lib.hid hx
    obtain ⟨sa, xb, xp⟩ := x
    dsimp only at k0 k1 k2 hsz hbb hpp
    obtain ⟨ab, cb, rfl, -, -⟩ := rd_sl hbb
    obtain ⟨ap, cp, rfl, -, -⟩ := rd_sl hpp
    have RP := Lib.hid hpp
    generalize xb.length = nb at *
    obtain ⟨np, hnp⟩ : ∃ z, z = xp.length := ⟨_, rfl⟩
    rw [← hnp] at k2 RP
    have HNP := Lib.hid hnp
    have EW := Lib.hid (show wrap64 ((i : Int) + 1) = ((i + 1 : Nat) : Int) by have := H12.out; unfold wrap64; omega)
    have HI := Lib.hid hlt
    have p0 : (0 : Int) ≤ (i : Int) := by omega
    have p1 : (i : Int) < (n : Int) := by omega
    clear hip hbb hpp hnp hlt hi hx hsz
    go_upto_region 6 with fail
    have q4 := bel_al0 wr (.cells #[.string sa, .slice ab nb cb, .slice ap np cp] 63)
    have HF4 := Lib.hid (heap_alloc_new wr (.cells #[.string sa, .slice ab nb cb, .slice ap np cp] 63))
    have B4 := Lib.hid (btA BB.out q4)
    have RP4 := Lib.hid (rd_below RP.out q4)
    clear k0 k1 k2 p0 p1 q4 BB RP
    generalize wr.alloc (.cells #[.string sa, .slice ab nb cb, .slice ap np cp] 63) = W4 at *
    obtain ⟨f0, f1, f2⟩ := box3c HF4.out
    by_cases hb5 : 500 < nb
    case pos =>
      have e1 : decide ((nb : Int) > 500) = true := decide_eq_true (by omega)
      have e2 : decide ((500 : Int) < (nb : Int)) = true := decide_eq_true (by omega)
      have e3 : decide (500 < nb) = true := decide_eq_true hb5
      clear hb5
      go_wp2
      go_ret
      exact ⟨⟨false, rfl, fun h => by cases h⟩, B4.out⟩
    have e1 : decide ((nb : Int) > 500) = false := decide_eq_false (by omega)
    have e2 : decide ((500 : Int) < (nb : Int)) = false := decide_eq_false (by omega)
    have e3 : decide (500 < nb) = false := decide_eq_false hb5
    clear hb5
    by_cases hp8 : 8 < np
    case pos =>
      have d1 : decide ((np : Int) > 8) = true := decide_eq_true (by omega)
      have d2 : decide ((8 : Int) < (np : Int)) = true := decide_eq_true (by omega)
      have d3 : decide (8 < np) = true := decide_eq_true hp8
      clear hp8
      go_wp2
      go_ret
      exact ⟨⟨false, rfl, fun h => by cases h⟩, B4.out⟩
    have d1 : decide ((np : Int) > 8) = false := decide_eq_false (by omega)
    have d2 : decide ((8 : Int) < (np : Int)) = false := decide_eq_false (by omega)
    have d3 : decide (8 < np) = false := decide_eq_false hp8
    have HP8 := Lib.hid (show np ≤ 8 by omega)
    clear hp8
    by_cases hn1 : 100 < sa.size
    case pos =>
      have c1 : decide ((sa.size : Int) > 100) = true := decide_eq_true (by omega)
      have c2 : decide ((100 : Int) < (sa.size : Int)) = true := decide_eq_true (by omega)
      have c3 : decide (100 < sa.size) = true := decide_eq_true hn1
      clear hn1
      go_wp2
      go_ret
      exact ⟨⟨false, rfl, fun h => by cases h⟩, B4.out⟩
    have c1 : decide ((sa.size : Int) > 100) = false := decide_eq_false (by omega)
    have c2 : decide ((100 : Int) < (sa.size : Int)) = false := decide_eq_false (by omega)
    have c3 : decide (100 < sa.size) = false := decide_eq_false hn1
    clear hn1
    go_wp2_with fail
    clear f0 f1 f2 e1 e2 e3 d1 d2 d3 c1 c2 c3
    go_loopw [37] (fun t wl => ∃ k : Nat, k ≤ np ∧ t = .int .i64 (k : Int) ∧ Hid (∀ j, j < k → (xp.getD j wr0).2.1.length ≤ 200) ∧ Hid (Below W4.heap.size W4 wl)) (fun t _ => np - (intOf t).toNat)
    case atStart => exact ⟨0, by omega, rfl, Lib.hid (fun j hj => by omega), Lib.hid (Below.refl _ _)⟩
    case round =>
      obtain ⟨k, hk, rfl, HQ, BL⟩ := hrel
      by_cases hkn : k < np
      case neg =>
        obtain rfl : k = np := by omega
        have l1 : decide ((k : Int) < (k : Int)) = false := decide_eq_false (by omega)
        have B5 := Lib.hid (btA B4.out BL.out)
        clear hk hkn
        go_wp2
        go_roundw
        case rel =>
          have h1 := HI.out
          refine ⟨i + 1, by omega, by rw [EW.out], Lib.hid (fun j hj => ?_), B5⟩
          by_cases hji : j < i
          · exact HP.out j hji
          · obtain rfl : j = i := by omega
            rw [← HXE.out]
            refine ⟨by show xp.length ≤ 8; rw [← HNP.out]; exact HP8.out, fun x hx => ?_⟩
            obtain ⟨m, hm, rfl⟩ := List.getElem_of_mem hx
            have hm' : m < xp.length := hm
            have h := HQ.out m (by have := HNP.out; omega)
            rw [List.getD_eq_getElem?_getD, List.getElem?_eq_getElem hm] at h
            exact h
        case measure =>
          have h1 := HI.out
          rw [EW.out]
          simp [intOf]; omega
      have l1 : decide ((k : Int) < (np : Int)) = true := decide_eq_true (by omega)
      have hkp : k < xp.length := by have := HNP.out; omega
      obtain ⟨b2, o2, c2, dv, hv2, k0, k1, k2, hyo, hd⟩ := rd_wat (rd_below RP4.out BL.out) hkp
      obtain ⟨rfl, -, -⟩ : ap = some ⟨b2, o2, none⟩ ∧ np = xp.length ∧ cp = c2 := by simpa using hv2
      obtain ⟨y, hy⟩ : ∃ z, z = xp.getD k wr0 := ⟨_, rfl⟩
      rw [← hy] at k0 k2 hd hyo
      have HYE := Lib.hid hy
      obtain ⟨yo, yd, yc⟩ := y
      dsimp only at k0 k2 hd hyo
      obtain ⟨ad, cd, rfl, -, -⟩ := rd_sl hd
      obtain ⟨nd, hnd⟩ : ∃ z, z = yd.length := ⟨_, rfl⟩
      rw [← hnd] at k1
      have HND := Lib.hid hnd
      have EK := Lib.hid (show wrap64 ((k : Int) + 1) = ((k + 1 : Nat) : Int) by have := HP8.out; unfold wrap64; omega)
      have HK := Lib.hid hkn
      have p0 : (0 : Int) ≤ (k : Int) := by omega
      have p1 : (k : Int) < (np : Int) := by omega
      clear hv2 hd hyo hkp hkn hk hy hnd
      go_upto_region 11 with fail
      have q8 := bel_al0 wr (.cells #[.int .i64 yo, .slice ad nd cd, .bool yc] 94)
      have HH8 := Lib.hid (heap_alloc_new wr (.cells #[.int .i64 yo, .slice ad nd cd, .bool yc] 94))
      have B8 := Lib.hid (btA BL.out q8)
      clear k0 k1 k2 p0 p1 q8 BL
      generalize wr.alloc (.cells #[.int .i64 yo, .slice ad nd cd, .bool yc] 94) = W8 at *
      obtain ⟨h0, h1, h2⟩ := box3c HH8.out
      by_cases hd2 : 200 < nd
      case pos =>
        have e1 : decide ((nd : Int) > 200) = true := decide_eq_true (by omega)
        have e2 : decide ((200 : Int) < (nd : Int)) = true := decide_eq_true (by omega)
        have e3 : decide (200 < nd) = true := decide_eq_true hd2
        have B9 := Lib.hid (btA B4.out B8.out)
        clear hd2
        go_wp2
        go_ret
        exact ⟨⟨false, rfl, fun h => by cases h⟩, B9.out⟩
      have e1 : decide ((nd : Int) > 200) = false := decide_eq_false (by omega)
      have e2 : decide ((200 : Int) < (nd : Int)) = false := decide_eq_false (by omega)
      have e3 : decide (200 < nd) = false := decide_eq_false hd2
      have HD2 := Lib.hid (show nd ≤ 200 by omega)
      clear hd2
      have HNX := Lib.hid (show ∀ j, j < k + 1 → (xp.getD j wr0).2.1.length ≤ 200 from fun j hj => by
        by_cases hjk : j < k
        · exact HQ.out j hjk
        · obtain rfl : j = k := by omega
          rw [← HYE.out]
          show yd.length ≤ 200
          rw [← HND.out]
          exact HD2.out)
      by_cases hof : 2000 < yo
      case neg =>
        have d1 : decide (yo > 2000) = false := decide_eq_false (by omega)
        have d2 : decide (2000 < yo) = false := decide_eq_false hof
        clear hof
        go_wp2
        go_roundw
        case rel =>
          have h1 := HK.out
          exact ⟨k + 1, by omega, by rw [EK.out], HNX, B8⟩
        case measure =>
          have h1 := HK.out
          rw [EK.out]
          simp [intOf]; omega
      have d1 : decide (yo > 2000) = true := decide_eq_true (by omega)
      have d2 : decide (2000 < yo) = true := decide_eq_true hof
      clear hof
      by_cases hmx : yo ≤ 1048576
      case pos =>
        have c1 : decide (yo ≤ 1048576) = true := decide_eq_true hmx
        have B9 := Lib.hid (btA B4.out B8.out)
        clear hmx
        go_wp2
        go_ret
        exact ⟨⟨false, rfl, fun h => by cases h⟩, B9.out⟩
      have c1 : decide (yo ≤ 1048576) = false := decide_eq_false hmx
      clear hmx
      go_wp2
      go_roundw
      case rel =>
        have h1 := HK.out
        exact ⟨k + 1, by omega, by rw [EK.out], HNX, B8⟩
      case measure =>
        have h1 := HK.out
        rw [EK.out]
        simp [intOf]; omega
end Go.Proofs.Ytpipgbjkkiheaaa.Gf
