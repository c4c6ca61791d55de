/- What is proved here: contracts of the program (disk): place, find, open, Grow, Concat, drop, put, New, Arm, next, with. Conditions: see each. -/
import Derived.Test.YtpipgbjkkiheaaaK10D
import Derived.Test.YtpipgbjkkiheaaaK10B
import Derived.Test.YtpipgbjkkiheaaaK10C
namespace Go.Proofs.Ytpipgbjkkiheaaa.Gf
open Go Go.Joins Go.ChangeShapes Go.WideShapes Go.ChangeAt Go.RowKit Go.Deep Go.Lib Go.Proofs.Ytpipgbjkkiheaaa.By Go.Proofs.Ytpipgbjkkiheaaa.Qt

/-- What is less than a name stands ahead of what is not. -/
def MonL {α : Type} (nm : α → ByteArray) (L : List α) (s : ByteArray) : Prop := ∀ (a b : Nat) (x y : α), L[a]? = some x → L[b]? = some y → a ≤ b → ltS (nm y) s = true → ltS (nm x) s = true
theorem monL_of {α : Type} {nm : α → ByteArray} {L : List α} {s : ByteArray} (h : SrtN nm L) : MonL nm L s := fun a b x y hx hy hab hl => by
  rcases Nat.eq_or_lt_of_le hab with e | e
  · subst e
    rw [hx] at hy
    cases hy
    exact hl
  · obtain ⟨ha, rfl⟩ := List.getElem?_eq_some_iff.1 hx
    obtain ⟨hb, rfl⟩ := List.getElem?_eq_some_iff.1 hy
    exact ltS_trans (List.pairwise_iff_getElem.1 h a b ha hb e) hl
theorem hasG_some {α : Type} {nm : α → ByteArray} {L : List α} {s : ByteArray} {x : α} (h : L[lbG nm L s]? = some x) : hasG nm L s = nmEq (nm x) s := by
  unfold hasG
  rw [h]
theorem hasG_none {α : Type} {nm : α → ByteArray} {L : List α} {s : ByteArray} (h : L[lbG nm L s]? = none) : hasG nm L s = false := by
  unfold hasG
  rw [h]
/-- The cells of a keep. -/
theorem rd_k {B : Nat → Prop} {w : World} {cs : List Value} {x : Kep} (h : Rd B w tyK cs x) : cs = [.string x.1, .int .i64 x.2.1, .int .i64 x.2.2] ∧ x.1.size ≤ maxLen ∧ (-9223372036854775808 ≤ x.2.1 ∧ x.2.1 ≤ 9223372036854775807) ∧ (-9223372036854775808 ≤ x.2.2 ∧ x.2.2 ≤ 9223372036854775807) := by
  obtain ⟨c, d, rfl, ⟨h1, rfl⟩, c2, d2, rfl, ⟨h2, rfl⟩, h3, rfl⟩ := h
  exact ⟨rfl, h1, h2, h3⟩
set_option maxRecDepth 100000 in
set_option maxHeartbeats 6400000 in
theorem pkname_any (s : ByteArray) (x y : Value) (w : World) : Calls Try.prog 122 #[.agg #[.string s, x, y]] w fun e w' => e = .returned (.string s) ∧ Below w.heap.size w w' := by
  have BX := Lib.hid (bel_al0 w (.cells #[.string s, x, y] 87))
  have HX := Lib.hid (heap_alloc_new w (.cells #[.string s, x, y] 87))
  obtain ⟨x0, -, -⟩ := box3c HX.out
  go_enter Try.func122, Try.ntmps122
  go_wp2
  go_ret
  exact ⟨rfl, BX.out⟩
set_option maxRecDepth 100000 in
set_option maxHeartbeats 6400000 in
theorem pkcmp_any (s t : ByteArray) (x y : Value) (w : World) : Calls Try.prog 94 #[.agg #[.string s, x, y], .string t] w fun e w' => e = .returned (.int .i64 (cmpS s t)) ∧ Below w.heap.size w w' := by
  have BX := Lib.hid (bel_al0 w (.cells #[.string s, x, y] 87))
  have HX := Lib.hid (heap_alloc_new w (.cells #[.string s, x, y] 87))
  obtain ⟨x0, x1, x2⟩ := box3c HX.out
  have NM := Lib.hid (pkname_any s x y)
  have CM := Lib.hid (pcmps_any s t)
  generalize cmpS s t = r at *
  go_enter Try.func94, Try.ntmps94
  have hm : ∀ (v : Value) (W : World), (method 274 87 v "needlestore/disk.name").run Try.prog W = .ok (122, v) W := fun _ _ => by kernel_rfl
  go_wp2_with fail
  refine (NM.out _).mono ?_
  rintro e w2 ⟨rfl, hb2⟩
  have B2 := Lib.hid (btA BX.out hb2)
  clear x0 x1 x2 hb2
  go_wp2_with fail
  refine (CM.out _).mono ?_
  rintro e w3 ⟨rfl, rfl⟩
  go_wp2
  go_ret
  exact ⟨rfl, B2.out⟩
theorem rd_kat {B : Nat → Prop} {w : World} {v : Value} {p : List Kep} (h : Rd B w (.sl tyK) [v] p) {i : Nat} {x : Kep} (hi : p[i]? = some x) : ∃ b off cap, v = .slice (some ⟨b, off, none⟩) p.length cap ∧ w.cell? ⟨b, off + i * 3, none⟩ = some (.string x.1) ∧ w.cell? ⟨b, off + i * 3 + 1, none⟩ = some (.int .i64 x.2.1) ∧ w.cell? ⟨b, off + i * 3 + 2, none⟩ = some (.int .i64 x.2.2) := by
  have hlt := (List.getElem?_eq_some_iff.1 hi).1
  obtain ⟨b, off, cap, e, _, _, _, hc⟩ := rd_cells h (by omega)
  obtain ⟨c, hr, hk⟩ := hc i _ hi
  obtain ⟨rfl, -⟩ := rd_k hr
  have k0 := hk 0 (by decide)
  have k1 := hk 1 (by decide)
  have k2 := hk 2 (by decide)
  rw [show off + (i * tyK.n + 0) = off + i * 3 by show off + (i * 3 + 0) = _; omega] at k0
  rw [show off + (i * tyK.n + 1) = off + i * 3 + 1 by show off + (i * 3 + 1) = _; omega] at k1
  rw [show off + (i * tyK.n + 2) = off + i * 3 + 2 by show off + (i * 3 + 2) = _; omega] at k2
  exact ⟨b, off, cap, e, k0, k1, k2⟩
theorem rd_fat2 {B : Nat → Prop} {w : World} {v : Value} {p : List Fl} (h : Rd B w (.sl tyF) [v] p) {i : Nat} {x : Fl} (hi : p[i]? = some x) : ∃ b off cap bv pv, v = .slice (some ⟨b, off, none⟩) p.length cap ∧ w.cell? ⟨b, off + i * 3, none⟩ = some (.string x.1) ∧ w.cell? ⟨b, off + i * 3 + 1, none⟩ = some bv ∧ w.cell? ⟨b, off + i * 3 + 2, none⟩ = some pv := by
  have hlt := (List.getElem?_eq_some_iff.1 hi).1
  obtain ⟨b, off, cap, bv, pv, e, k0, k1, k2, -⟩ := rd_fat h hlt
  have ex : p.getD i fl0 = x := by rw [List.getD_eq_getElem?_getD, hi]; rfl
  rw [ex] at k0
  exact ⟨b, off, cap, bv, pv, e, k0, k1, k2⟩
set_option maxRecDepth 100000 in
set_option maxHeartbeats 6400000 in
theorem pbsf_any (v : Value) (L : List Fl) (s : ByteArray) (w : World) (sv : Rd (fun _ => True) w (.sl tyF) [v] L) (hmono : MonL (fun f : Fl => f.1) L s) (hlen : L.length ≤ 1000000) :
    Calls Try.prog 98 #[v, .string s, .func (.func 99) #[] #[]] w fun e w' => e = .returned (.tuple #[.int .i64 ((lbG (fun f : Fl => f.1) L s : Nat) : Int), .bool (hasG (fun f : Fl => f.1) L s)]) ∧ Below w.heap.size w w' := by
  obtain ⟨a, c, rfl, -, -⟩ := rd_sl sv
  have LB := Lib.hid (fun (j : Nat) h1 h2 h3 => lbG_of (nm := (fun f : Fl => f.1)) (s := s) (L := L) (j := j) h1 h2 h3)
  have HG := Lib.hid (fun x h => hasG_some (nm := (fun f : Fl => f.1)) (s := s) (L := L) (x := x) h)
  have HGn := Lib.hid (fun h => hasG_none (nm := (fun f : Fl => f.1)) (s := s) (L := L) h)
  obtain ⟨n, hn⟩ : ∃ z, z = L.length := ⟨_, rfl⟩
  rw [← hn] at sv hlen LB ⊢
  have HN := Lib.hid hn
  have SV := Lib.hid sv
  have M := Lib.hid hmono
  generalize lbG (fun f : Fl => f.1) L s = LBv at *
  generalize hasG (fun f : Fl => f.1) L s = HGv at *
  clear sv hn hmono
  go_enter Try.func98, Try.ntmps98
  go_wp2_with fail
  go_loopg [9, 10] n (fun kx s5 s6 wr => ∃ (lo hi : Nat), s5 = .int .i64 lo ∧ s6 = .int .i64 hi ∧ lo ≤ hi ∧ hi ≤ n ∧ hi - lo ≤ kx ∧ Hid (Below w.heap.size w wr) ∧ Hid ((∀ i x, L[i]? = some x → i < lo → ltS ((fun f : Fl => f.1) x) s = true) ∧ (∀ i x, L[i]? = some x → hi ≤ i → ltS ((fun f : Fl => f.1) x) s = false)))
  case atStart => exact ⟨0, n, rfl, rfl, Nat.zero_le _, Nat.le_refl _, by omega, Lib.hid (Below.refl _ _), Lib.hid ⟨fun t x _ ht => absurd ht (Nat.not_lt_zero _), fun i x hx h1 => by have := (List.getElem?_eq_some_iff.1 hx).1; have := HN.out; omega⟩⟩
  case round =>
    obtain ⟨lo, hi, rfl, rfl, hlh, hin, hg, B, I⟩ := hrel
    by_cases hlt : lo < hi
    · have hltz : (lo : Int) < (hi : Int) := by omega
      obtain ⟨m, hm⟩ : ∃ m, m = (lo + hi) / 2 := ⟨_, rfl⟩
      have hmz : ((lo : Int) + (hi : Int)) / 2 = (m : Int) := by omega
      have hm1 : m < n := by omega
      have hmL : m < L.length := by rw [← HN.out]; exact hm1
      obtain ⟨x, hx⟩ : ∃ x, L[m]? = some x := ⟨_, List.getElem?_eq_getElem hmL⟩
      obtain ⟨b1, o1, c1, bv, pv, hv, k0, k1, k2⟩ := rd_fat2 (rd_below SV.out B.out) hx
      obtain ⟨rfl, -, -⟩ : a = some ⟨b1, o1, none⟩ ∧ n = L.length ∧ c = c1 := by simpa using hv
      have HM : Hid (lo ≤ m ∧ m < hi) := Lib.hid (by omega)
      have CMP := Lib.hid (pfcmp_any x.1 s bv pv)
      have hlt2 : (cmpS x.1 s < 0) = (ltS x.1 s = true) := propext cmpS_lt
      have p0 : (0 : Int) ≤ (m : Int) := by omega
      have p1 : (m : Int) < (n : Int) := by omega
      have q0 : 0 ≤ ((lo : Int) + (hi : Int)) / 2 := by omega
      clear hm hmL hv
      cases hp : ltS x.1 s
      · have e1 : decide (cmpS x.1 s < 0) = false := decide_eq_false (by rw [hlt2, hp]; decide)
        have e2 : ¬ cmpS x.1 s < 0 := of_decide_eq_false e1
        have I2 : Hid ((∀ i x, L[i]? = some x → i < lo → ltS ((fun f : Fl => f.1) x) s = true) ∧ (∀ i x, L[i]? = some x → m ≤ i → ltS ((fun f : Fl => f.1) x) s = false)) := Lib.hid ⟨I.out.1, fun i y hy hi2 => by
          cases h : ltS ((fun f : Fl => f.1) y) s with
          | false => rfl
          | true => have h2 := M.out m i x y hx hy hi2 h; rw [hp] at h2; cases h2⟩
        clear hp I hlt2 hx
        generalize cmpS x.1 s = r at *
        go_wp2_with fail
        clear hmz q0
        refine (CMP.out _).mono ?_
        rintro e w2 ⟨rfl, hb2⟩
        have B2 := Lib.hid (btA B.out hb2)
        clear hb2 CMP B k0 k1 k2
        go_wp2
        have hm2 := HM.out
        go_roundg (m - lo)
        case measure => omega
        case rel => exact ⟨lo, m, rfl, rfl, by omega, by omega, Nat.le_refl _, B2, I2⟩
      · have e1 : decide (cmpS x.1 s < 0) = true := decide_eq_true (by rw [hlt2]; exact hp)
        have e2 : cmpS x.1 s < 0 := of_decide_eq_true e1
        have I2 : Hid ((∀ i x, L[i]? = some x → i < m + 1 → ltS ((fun f : Fl => f.1) x) s = true) ∧ (∀ i x, L[i]? = some x → hi ≤ i → ltS ((fun f : Fl => f.1) x) s = false)) := Lib.hid ⟨fun i y hy hi2 => M.out i m y x hy hx (by omega) hp, I.out.2⟩
        clear hp I hlt2 hx
        generalize cmpS x.1 s = r at *
        go_wp2_with fail
        clear hmz q0
        refine (CMP.out _).mono ?_
        rintro e w2 ⟨rfl, hb2⟩
        have B2 := Lib.hid (btA B.out hb2)
        clear hb2 CMP B k0 k1 k2
        go_wp2
        have hm2 := HM.out
        go_roundg (hi - (m + 1))
        case measure => omega
        case rel => exact ⟨m + 1, hi, by go_num, rfl, by omega, hin, Nat.le_refl _, B2, I2⟩
    · obtain rfl : hi = lo := by omega
      have hltz : ¬ (hi : Int) < (hi : Int) := by omega
      have e0 : decide ((hi : Int) < (hi : Int)) = false := decide_eq_false hltz
      have hLB : LBv = hi := LB.out hi hin I.out.1 (fun x hx => I.out.2 hi x hx (Nat.le_refl _))
      subst hLB
      clear LB I
      by_cases hlt : LBv < n
      · have hmL : LBv < L.length := by rw [← HN.out]; exact hlt
        obtain ⟨x, hx⟩ : ∃ x, L[LBv]? = some x := ⟨_, List.getElem?_eq_getElem hmL⟩
        have HG2 : Hid (HGv = nmEq x.1 s) := Lib.hid (HG.out x hx)
        obtain ⟨b1, o1, c1, bv, pv, hv, k0, k1, k2⟩ := rd_fat2 (rd_below SV.out B.out) hx
        obtain ⟨rfl, -, -⟩ : a = some ⟨b1, o1, none⟩ ∧ n = L.length ∧ c = c1 := by simpa using hv
        have CMP := Lib.hid (pfcmp_any x.1 s bv pv)
        have p0 : (0 : Int) ≤ (LBv : Int) := by omega
        have p1 : (LBv : Int) < (n : Int) := by omega
        have e3 : decide ((LBv : Int) < (n : Int)) = true := decide_eq_true p1
        have he : (cmpS x.1 s == 0) = HGv := by
          rw [HG2.out, Bool.eq_iff_iff, beq_iff_eq]
          exact cmpS_eq
        clear hmL hv hx HG HGn HG2
        generalize cmpS x.1 s = r at *
        go_wp2_with fail
        refine (CMP.out _).mono ?_
        rintro e w2 ⟨rfl, hb2⟩
        have B2 := Lib.hid (btA B.out hb2)
        clear hb2 CMP B k0 k1 k2
        go_wp2
        go_ret2
        exact ⟨rfl, B2.out⟩
      · have hx : L[LBv]? = none := List.getElem?_eq_none (by rw [← HN.out]; omega)
        have HG2 : Hid (HGv = false) := Lib.hid (HGn.out hx)
        have e3 : decide ((LBv : Int) < (n : Int)) = false := decide_eq_false (by omega)
        have hgv := HG2.out
        subst hgv
        clear HG HGn hx HG2
        go_wp2
        go_ret2
        exact ⟨rfl, B.out⟩
set_option maxRecDepth 100000 in
set_option maxHeartbeats 6400000 in
theorem pplacef_any (v : Value) (L : List Fl) (s : ByteArray) (w : World) (sv : Rd (fun _ => True) w (.sl tyF) [v] L) (hmono : MonL (fun f : Fl => f.1) L s) (hlen : L.length ≤ 1000000) :
    Calls Try.prog 89 #[v, .string s] w fun e w' => e = .returned (.tuple #[.int .i64 ((lbG (fun f : Fl => f.1) L s : Nat) : Int), .bool (hasG (fun f : Fl => f.1) L s)]) ∧ Below w.heap.size w w' := by
  have BS := Lib.hid (pbsf_any v L s w sv hmono hlen)
  generalize lbG (fun f : Fl => f.1) L s = LBv at *
  generalize hasG (fun f : Fl => f.1) L s = HGv at *
  obtain ⟨a, c, rfl, -, -⟩ := rd_sl sv
  generalize L.length = n at *
  clear sv
  go_enter Try.func89, Try.ntmps89
  go_wp2_with fail
  refine BS.out.mono ?_
  rintro e w2 ⟨rfl, hb2⟩
  have B2 := Lib.hid hb2
  clear hb2
  go_wp2
  go_ret2
  exact ⟨rfl, B2.out⟩
set_option maxRecDepth 100000 in
set_option maxHeartbeats 6400000 in
theorem pbsk_any (v : Value) (L : List Kep) (s : ByteArray) (w : World) (sv : Rd (fun _ => True) w (.sl tyK) [v] L) (hmono : MonL (fun f : Kep => f.1) L s) (hlen : L.length ≤ 1000000) :
    Calls Try.prog 93 #[v, .string s, .func (.func 94) #[] #[]] w fun e w' => e = .returned (.tuple #[.int .i64 ((lbG (fun f : Kep => f.1) L s : Nat) : Int), .bool (hasG (fun f : Kep => f.1) L s)]) ∧ Below w.heap.size w w' := by
  obtain ⟨a, c, rfl, -, -⟩ := rd_sl sv
  have LB := Lib.hid (fun (j : Nat) h1 h2 h3 => lbG_of (nm := (fun f : Kep => f.1)) (s := s) (L := L) (j := j) h1 h2 h3)
  have HG := Lib.hid (fun x h => hasG_some (nm := (fun f : Kep => f.1)) (s := s) (L := L) (x := x) h)
  have HGn := Lib.hid (fun h => hasG_none (nm := (fun f : Kep => f.1)) (s := s) (L := L) h)
  obtain ⟨n, hn⟩ : ∃ z, z = L.length := ⟨_, rfl⟩
  rw [← hn] at sv hlen LB ⊢
  have HN := Lib.hid hn
  have SV := Lib.hid sv
  have M := Lib.hid hmono
  generalize lbG (fun f : Kep => f.1) L s = LBv at *
  generalize hasG (fun f : Kep => f.1) L s = HGv at *
  clear sv hn hmono
  go_enter Try.func93, Try.ntmps93
  go_wp2_with fail
  go_loopg [9, 10] n (fun kx s5 s6 wr => ∃ (lo hi : Nat), s5 = .int .i64 lo ∧ s6 = .int .i64 hi ∧ lo ≤ hi ∧ hi ≤ n ∧ hi - lo ≤ kx ∧ Hid (Below w.heap.size w wr) ∧ Hid ((∀ i x, L[i]? = some x → i < lo → ltS ((fun f : Kep => f.1) x) s = true) ∧ (∀ i x, L[i]? = some x → hi ≤ i → ltS ((fun f : Kep => f.1) x) s = false)))
  case atStart => exact ⟨0, n, rfl, rfl, Nat.zero_le _, Nat.le_refl _, by omega, Lib.hid (Below.refl _ _), Lib.hid ⟨fun t x _ ht => absurd ht (Nat.not_lt_zero _), fun i x hx h1 => by have := (List.getElem?_eq_some_iff.1 hx).1; have := HN.out; omega⟩⟩
  case round =>
    obtain ⟨lo, hi, rfl, rfl, hlh, hin, hg, B, I⟩ := hrel
    by_cases hlt : lo < hi
    · have hltz : (lo : Int) < (hi : Int) := by omega
      obtain ⟨m, hm⟩ : ∃ m, m = (lo + hi) / 2 := ⟨_, rfl⟩
      have hmz : ((lo : Int) + (hi : Int)) / 2 = (m : Int) := by omega
      have hm1 : m < n := by omega
      have hmL : m < L.length := by rw [← HN.out]; exact hm1
      obtain ⟨x, hx⟩ : ∃ x, L[m]? = some x := ⟨_, List.getElem?_eq_getElem hmL⟩
      obtain ⟨b1, o1, c1, hv, k0, k1, k2⟩ := rd_kat (rd_below SV.out B.out) hx
      obtain ⟨rfl, -, -⟩ : a = some ⟨b1, o1, none⟩ ∧ n = L.length ∧ c = c1 := by simpa using hv
      have HM : Hid (lo ≤ m ∧ m < hi) := Lib.hid (by omega)
      have CMP := Lib.hid (pkcmp_any x.1 s (.int .i64 x.2.1) (.int .i64 x.2.2))
      have hlt2 : (cmpS x.1 s < 0) = (ltS x.1 s = true) := propext cmpS_lt
      have p0 : (0 : Int) ≤ (m : Int) := by omega
      have p1 : (m : Int) < (n : Int) := by omega
      have q0 : 0 ≤ ((lo : Int) + (hi : Int)) / 2 := by omega
      clear hm hmL hv
      cases hp : ltS x.1 s
      · have e1 : decide (cmpS x.1 s < 0) = false := decide_eq_false (by rw [hlt2, hp]; decide)
        have e2 : ¬ cmpS x.1 s < 0 := of_decide_eq_false e1
        have I2 : Hid ((∀ i x, L[i]? = some x → i < lo → ltS ((fun f : Kep => f.1) x) s = true) ∧ (∀ i x, L[i]? = some x → m ≤ i → ltS ((fun f : Kep => f.1) x) s = false)) := Lib.hid ⟨I.out.1, fun i y hy hi2 => by
          cases h : ltS ((fun f : Kep => f.1) y) s with
          | false => rfl
          | true => have h2 := M.out m i x y hx hy hi2 h; rw [hp] at h2; cases h2⟩
        clear hp I hlt2 hx
        generalize cmpS x.1 s = r at *
        go_wp2_with fail
        clear hmz q0
        refine (CMP.out _).mono ?_
        rintro e w2 ⟨rfl, hb2⟩
        have B2 := Lib.hid (btA B.out hb2)
        clear hb2 CMP B k0 k1 k2
        go_wp2
        have hm2 := HM.out
        go_roundg (m - lo)
        case measure => omega
        case rel => exact ⟨lo, m, rfl, rfl, by omega, by omega, Nat.le_refl _, B2, I2⟩
      · have e1 : decide (cmpS x.1 s < 0) = true := decide_eq_true (by rw [hlt2]; exact hp)
        have e2 : cmpS x.1 s < 0 := of_decide_eq_true e1
        have I2 : Hid ((∀ i x, L[i]? = some x → i < m + 1 → ltS ((fun f : Kep => f.1) x) s = true) ∧ (∀ i x, L[i]? = some x → hi ≤ i → ltS ((fun f : Kep => f.1) x) s = false)) := Lib.hid ⟨fun i y hy hi2 => M.out i m y x hy hx (by omega) hp, I.out.2⟩
        clear hp I hlt2 hx
        generalize cmpS x.1 s = r at *
        go_wp2_with fail
        clear hmz q0
        refine (CMP.out _).mono ?_
        rintro e w2 ⟨rfl, hb2⟩
        have B2 := Lib.hid (btA B.out hb2)
        clear hb2 CMP B k0 k1 k2
        go_wp2
        have hm2 := HM.out
        go_roundg (hi - (m + 1))
        case measure => omega
        case rel => exact ⟨m + 1, hi, by go_num, rfl, by omega, hin, Nat.le_refl _, B2, I2⟩
    · obtain rfl : hi = lo := by omega
      have hltz : ¬ (hi : Int) < (hi : Int) := by omega
      have e0 : decide ((hi : Int) < (hi : Int)) = false := decide_eq_false hltz
      have hLB : LBv = hi := LB.out hi hin I.out.1 (fun x hx => I.out.2 hi x hx (Nat.le_refl _))
      subst hLB
      clear LB I
      by_cases hlt : LBv < n
      · have hmL : LBv < L.length := by rw [← HN.out]; exact hlt
        obtain ⟨x, hx⟩ : ∃ x, L[LBv]? = some x := ⟨_, List.getElem?_eq_getElem hmL⟩
        have HG2 : Hid (HGv = nmEq x.1 s) := Lib.hid (HG.out x hx)
        obtain ⟨b1, o1, c1, hv, k0, k1, k2⟩ := rd_kat (rd_below SV.out B.out) hx
        obtain ⟨rfl, -, -⟩ : a = some ⟨b1, o1, none⟩ ∧ n = L.length ∧ c = c1 := by simpa using hv
        have CMP := Lib.hid (pkcmp_any x.1 s (.int .i64 x.2.1) (.int .i64 x.2.2))
        have p0 : (0 : Int) ≤ (LBv : Int) := by omega
        have p1 : (LBv : Int) < (n : Int) := by omega
        have e3 : decide ((LBv : Int) < (n : Int)) = true := decide_eq_true p1
        have he : (cmpS x.1 s == 0) = HGv := by
          rw [HG2.out, Bool.eq_iff_iff, beq_iff_eq]
          exact cmpS_eq
        clear hmL hv hx HG HGn HG2
        generalize cmpS x.1 s = r at *
        go_wp2_with fail
        refine (CMP.out _).mono ?_
        rintro e w2 ⟨rfl, hb2⟩
        have B2 := Lib.hid (btA B.out hb2)
        clear hb2 CMP B k0 k1 k2
        go_wp2
        go_ret2
        exact ⟨rfl, B2.out⟩
      · have hx : L[LBv]? = none := List.getElem?_eq_none (by rw [← HN.out]; omega)
        have HG2 : Hid (HGv = false) := Lib.hid (HGn.out hx)
        have e3 : decide ((LBv : Int) < (n : Int)) = false := decide_eq_false (by omega)
        have hgv := HG2.out
        subst hgv
        clear HG HGn hx HG2
        go_wp2
        go_ret2
        exact ⟨rfl, B.out⟩
set_option maxRecDepth 100000 in
set_option maxHeartbeats 6400000 in
theorem pplacek_any (v : Value) (L : List Kep) (s : ByteArray) (w : World) (sv : Rd (fun _ => True) w (.sl tyK) [v] L) (hmono : MonL (fun f : Kep => f.1) L s) (hlen : L.length ≤ 1000000) :
    Calls Try.prog 74 #[v, .string s] w fun e w' => e = .returned (.tuple #[.int .i64 ((lbG (fun f : Kep => f.1) L s : Nat) : Int), .bool (hasG (fun f : Kep => f.1) L s)]) ∧ Below w.heap.size w w' := by
  have BS := Lib.hid (pbsk_any v L s w sv hmono hlen)
  generalize lbG (fun f : Kep => f.1) L s = LBv at *
  generalize hasG (fun f : Kep => f.1) L s = HGv at *
  obtain ⟨a, c, rfl, -, -⟩ := rd_sl sv
  generalize L.length = n at *
  clear sv
  go_enter Try.func74, Try.ntmps74
  go_wp2_with fail
  refine BS.out.mono ?_
  rintro e w2 ⟨rfl, hb2⟩
  have B2 := Lib.hid hb2
  clear hb2
  go_wp2
  go_ret2
  exact ⟨rfl, B2.out⟩
end Go.Proofs.Ytpipgbjkkiheaaa.Gf
namespace Go.Proofs.Ytpipgbjkkiheaaa.Gf
open Go Go.Joins Go.ChangeShapes Go.WideShapes Go.ChangeAt Go.RowKit Go.Deep Go.Proofs.Ytpipgbjkkiheaaa.By Go.Proofs.Ytpipgbjkkiheaaa.Qt

abbrev nmF : Fl → ByteArray := fun f : Fl => f.1
/-- What find answers: the error and the file. -/
def findE (d : Dk) (s : ByteArray) : Nat := if (validB d && nameB s) = true then (if hasG nmF d.2.2 s = true then 0 else 6) else 1
def findF (d : Dk) (s : ByteArray) : Fl := if findE d s = 0 then d.2.2.getD (lbG nmF d.2.2 s) fl0 else fl0
def openF (d : Dk) (s : ByteArray) : Fl := if atE d s = 0 then fileAt d s else fl0
theorem valid_parts {d : Dk} (h : validB d = true) : 0 ≤ d.1 ∧ -1 ≤ d.2.1 ∧ d.2.2.length ≤ 256 ∧ FilesOk d.2.2 d.2.2.length := by
  unfold validB at h
  simp only [Bool.and_eq_true, decide_eq_true_eq] at h
  exact ⟨h.1.1.1, h.1.1.2, h.1.2, h.2⟩
theorem valid_srt {d : Dk} (h : validB d = true) : SrtF d.2.2 := srt_of (valid_parts h).2.2.2
theorem valid_sm {d : Dk} (h : validB d = true) : SmD d := fun f hf x hx => by
  have h1 := ok_mem (valid_parts h).2.2.2 f hf
  unfold fileB flB at h1
  simp only [Bool.and_eq_true, decide_eq_true_eq] at h1
  obtain ⟨i, hi, rfl⟩ := List.getElem_of_mem hx
  have h2 := wOk_off (wOk_at h1.2.2 hi)
  rw [show f.2.2.getD i wr0 = f.2.2[i] by simp [List.getD, hi]] at h2
  omega
theorem hasG_lt {α : Type} {nm : α → ByteArray} {L : List α} {s : ByteArray} (h : hasG nm L s = true) : lbG nm L s < L.length := by
  rcases Nat.lt_or_ge (lbG nm L s) L.length with c | c
  · exact c
  · rw [hasG_none (List.getElem?_eq_none c)] at h
    cases h
theorem open_eq (d : Dk) (s : ByteArray) : atE d s = (if findE d s = 1 then 1 else if d.2.1 = 0 then 13 else findE d s) ∧ openF d s = (if atE d s = 0 then findF d s else fl0) := by
  have hn : nmF = fun f : Fl => f.1 := rfl
  unfold openF fileAt atE atI findF findE readyE
  rw [hn]
  by_cases h : (validB d && nameB s) = true
  · have hs := valid_srt (by rw [Bool.and_eq_true] at h; exact h.1)
    rw [if_pos h, h, fnd_lb hs]
    generalize hasG (fun f : Fl => f.1) d.2.2 s = g
    generalize lbG (fun f : Fl => f.1) d.2.2 s = l
    have hl : ¬ (l : Int) < 0 := by omega
    by_cases h0 : d.2.1 = 0
    · cases g <;> simp [h0]
    · cases g
      · simp [h0]
      · simp [h0, hl]
  · have h' : (validB d && nameB s) = false := by simpa using h
    rw [if_neg h, h']
    simp
theorem infoFi : (Try.prog.info? 59).map (·.size) = some 3 := by kernel_rfl
theorem infoDi : (Try.prog.info? 33).map (·.size) = some 3 := by kernel_rfl
/-- A call that answers a file and an error. -/
def FO (B : Nat → Prop) (w : World) (x : Fl) (E : Nat) (e : Ending) (w' : World) : Prop := (∃ bv pv, e = .returned (.tuple #[.agg #[.string x.1, bv, pv], .int .i64 (E : Int)]) ∧ Rd B w' tyF [.string x.1, bv, pv] x) ∧ Below w.heap.size w w'
theorem pfile_end {fn : Func} {p q : Tmp} (h : fn.results = #[.cell p 59, .tmp q]) {R : Ending → World → Prop} {W : World} {g : Nat} {tmps : Array Value} {k c d : Value} (hg : W.heap[g]? = some (.cells #[k, c, d] 59 (0, 0))) (hp : tmps.getD p undef = .pointer (some ⟨g, 0, none⟩))
    (hR : R (.returned (.tuple #[.agg #[k, c, d], tmps.getD q undef])) W) : bodyPost Try.prog fn R .ret { tmps := tmps, defers := [] } W :=
  bodyPost_ret (results_rt h _ _ g #[k, c, d] hp hg Try.underlying59 rfl infoFi) rfl hR
theorem rd_fl0 (B : Nat → Prop) (w : World) : Rd B w tyF [.string fl0.1, .slice none 0 0, .slice none 0 0] fl0 := rd_f_mk (by show 0 ≤ maxLen; unfold maxLen; decide) (rd_nil _ _ _) (rd_nil _ _ _)
theorem fo_zero {B : Nat → Prop} {w W : World} {E : Nat} (h : Below w.heap.size w W) : FO B w fl0 E (.returned (.tuple #[.agg #[.string ⟨#[]⟩, .slice none 0 0, .slice none 0 0], .int .i64 (E : Int)])) W := ⟨⟨_, _, rfl, rd_fl0 B W⟩, h⟩
set_option maxRecDepth 100000 in
set_option maxHeartbeats 6400000 in
theorem pfind10_any {B : Nat → Prop} (v : Value) (d : Dk) (s : ByteArray) (hs : s.size ≤ maxLen) (w : World) (hv : DvB B w v d) (hsm : SmD d) : Calls Try.prog 78 #[v, .string s] w (FO (fun b => B b ∧ b < w.heap.size) w (findF d s) (findE d s)) := by
  have HV := Lib.hid hv
  obtain ⟨fv, rfl, hr, sf⟩ := hv
  obtain ⟨af, cf, rfl, -, -⟩ := rd_sl sf
  have SF := Lib.hid sf
  have A1 := bel_al0 w (.cells #[.int .i64 d.1, .int .i64 d.2.1, .slice af d.2.2.length cf] 33)
  have BX := Lib.hid (btA A1 (bel_al0 _ (.cells #[.string ⟨#[]⟩, .slice none 0 0, .slice none 0 0] 59)))
  have HX := Lib.hid (show ((w.alloc (.cells #[.int .i64 d.1, .int .i64 d.2.1, .slice af d.2.2.length cf] 33)).alloc (.cells #[.string ⟨#[]⟩, .slice none 0 0, .slice none 0 0] 59)).heap[w.heap.size]? = some (.cells #[.int .i64 d.1, .int .i64 d.2.1, .slice af d.2.2.length cf] 33 (0, 0)) from (heap_alloc_old _ _ (by simp)).trans (heap_alloc_new w _))
  have HY := Lib.hid (heap_alloc2_new w (.cells #[.int .i64 d.1, .int .i64 d.2.1, .slice af d.2.2.length cf] 33) (.cells #[.string ⟨#[]⟩, .slice none 0 0, .slice none 0 0] 59))
  have RV := Lib.hid (fun W (h : Below w.heap.size w W) => pvalid10_any _ d W (dv_below (dvB_dv HV.out) h) hsm)
  have RN := Lib.hid (fun W => pname_any s hs W)
  have HVP := Lib.hid (fun h => valid_parts (d := d) h)
  have HVS := Lib.hid (fun h => monL_of (s := s) (valid_srt (d := d) h))
  have hE : findE d s = if (validB d && nameB s) = true then (if hasG nmF d.2.2 s = true then 0 else 6) else 1 := rfl
  have hF : findF d s = if findE d s = 0 then d.2.2.getD (lbG nmF d.2.2 s) fl0 else fl0 := rfl
  have HLT := Lib.hid (fun h => hasG_lt (nm := nmF) (L := d.2.2) (s := s) h)
  generalize findF d s = FF at *
  generalize findE d s = E at *
  generalize nameB s = NB at *
  generalize validB d = VB at *
  obtain ⟨cap, left, L⟩ := d
  dsimp only at SF HX HY BX RV HVP HVS hE hF HLT ⊢
  have RP := Lib.hid (fun W (h : Below w.heap.size w W) hm hl => pplacef_any _ L s W (rd_mono (rd_below SF.out h) fun _ _ _ => trivial) hm hl)
  generalize lbG nmF L s = J at *
  generalize hasG nmF L s = HS at *
  obtain ⟨n, hn⟩ : ∃ z, z = L.length := ⟨_, rfl⟩
  rw [← hn] at SF HX HY BX RV RP HVP HLT ⊢
  have HN := Lib.hid hn
  have HE := Lib.hid hE
  have HF := Lib.hid hF
  clear sf hE hF hn hr A1 HV hsm hs
  go_enter Try.func78, Try.ntmps78
  go_upto_region 1 with fail
  have hsz : ((w.alloc (.cells #[.int .i64 cap, .int .i64 left, .slice af n cf] 33)).alloc (.cells #[.string ⟨#[]⟩, .slice none 0 0, .slice none 0 0] 59)).heap.size = w.heap.size + 2 := by simp
  generalize ((w.alloc (.cells #[.int .i64 cap, .int .i64 left, .slice af n cf] 33)).alloc (.cells #[.string ⟨#[]⟩, .slice none 0 0, .slice none 0 0] 59)) = W1 at *
  have SZ1 := Lib.hid hsz
  clear hsz
  obtain ⟨x0, x1, x2⟩ := box3c HX.out
  go_wp2_with fail
  refine (RV.out _ BX.out).mono ?_
  rintro e w2 ⟨rfl, hb2⟩
  have HX2 := Lib.hid ((hb2.block _ (lt_of_some0 HX.out)).trans HX.out)
  have HY2 := Lib.hid ((hb2.block _ (lt_of_some0 HY.out)).trans HY.out)
  have B2 := Lib.hid (btA BX.out hb2)
  clear x0 x1 x2 hb2 HX HY RV BX
  obtain ⟨x0, x1, x2⟩ := box3c HX2.out
  obtain ⟨y0, y1, y2⟩ := box3c HY2.out
  have u0 := frozen_of_row w2 (w.heap.size + 1) 0 _ _ HY2.out
  have u1 := frozen_of_row w2 (w.heap.size + 1) 1 _ _ HY2.out
  have u2 := frozen_of_row w2 (w.heap.size + 1) 2 _ _ HY2.out
  cases VB
  · have hE : E = 1 := HE.out
    have HF2 : FF = fl0 := by rw [HF.out, hE]; rfl
    subst hE HF2
    go_wp2
    refine pfile_end rfl (set3c HY2.out) rfl ?_
    exact fo_zero (below_set3 B2.out (by omega))
  cases NB
  · have hE : E = 1 := HE.out
    have HF2 : FF = fl0 := by rw [HF.out, hE]; rfl
    subst hE HF2
    go_wp2_with fail
    refine (RN.out _).mono ?_
    rintro e w3 ⟨rfl, rfl⟩
    go_wp2
    refine pfile_end rfl (set3c HY2.out) rfl ?_
    exact fo_zero (below_set3 B2.out (by omega))
  go_wp2_with fail
  refine (RN.out _).mono ?_
  rintro e w3 ⟨rfl, rfl⟩
  clear u0 u1 u2
  go_wp2_with fail
  refine (RP.out _ B2.out (HVS.out (by first | rfl | trivial)) (by have := (HVP.out (by first | rfl | trivial)).2.2.1; have := HN.out; omega)).mono ?_
  rintro e w4 ⟨rfl, hb4⟩
  have HX4 := Lib.hid ((hb4.block _ (lt_of_some0 HX2.out)).trans HX2.out)
  have HY4 := Lib.hid ((hb4.block _ (lt_of_some0 HY2.out)).trans HY2.out)
  have B4 := Lib.hid (btA B2.out hb4)
  clear x0 x1 x2 y0 y1 y2 hb4 HX2 HY2 RP B2
  obtain ⟨x0, x1, x2⟩ := box3c HX4.out
  obtain ⟨y0, y1, y2⟩ := box3c HY4.out
  have u0 := frozen_of_row w4 (w.heap.size + 1) 0 _ _ HY4.out
  have u1 := frozen_of_row w4 (w.heap.size + 1) 1 _ _ HY4.out
  have u2 := frozen_of_row w4 (w.heap.size + 1) 2 _ _ HY4.out
  cases HS
  · have hE : E = 6 := HE.out
    have HF2 : FF = fl0 := by rw [HF.out, hE]; rfl
    subst hE HF2
    go_wp2
    refine pfile_end rfl (set3c HY4.out) rfl ?_
    exact fo_zero (below_set3 B4.out (by omega))
  · have hE : E = 0 := HE.out
    have HF2 : FF = L.getD J fl0 := by rw [HF.out, hE]; rfl
    have hj := HLT.out (by first | rfl | trivial)
    obtain ⟨b1, o1, c1, bv, pv, hv, k0, k1, k2, hsz, hb, hp⟩ := rd_fat (rd_oldB SF.out B4.out) (i := J) (by rw [← HN.out]; exact hj)
    obtain ⟨rfl, -, -⟩ : af = some ⟨b1, o1, none⟩ ∧ n = L.length ∧ cf = c1 := by simpa using hv
    rw [← HF2] at k0 hsz hb hp
    have p0 : (0 : Int) ≤ (J : Int) := by omega
    have p1 : (J : Int) < (n : Int) := by omega
    obtain ⟨ab, cb, rfl, -, -⟩ := sl_form (rd8_sl hb)
    obtain ⟨ap, cp, rfl, -, -⟩ := rd_sl hp
    have RB := Lib.hid hb
    have RPn := Lib.hid hp
    have HSZ := Lib.hid hsz
    generalize FF.2.1.length = nb at *
    generalize FF.2.2.length = np at *
    subst hE
    clear hb hp hsz hv hj HF2
    go_wp2
    refine pfile_end rfl (set3c HY4.out) rfl ?_
    have hlt := lt_of_some0 HY4.out
    refine ⟨⟨_, _, rfl, rd_move (fun b hb _ => set3_other (by omega)) (fun b hb _ => hb) (rd_f_mk HSZ.out RB.out RPn.out)⟩, below_set3 B4.out (by omega)⟩
end Go.Proofs.Ytpipgbjkkiheaaa.Gf
namespace Go.Proofs.Ytpipgbjkkiheaaa.Gf
open Go Go.Joins Go.ChangeShapes Go.WideShapes Go.ChangeAt Go.RowKit Go.Deep Go.Proofs.Ytpipgbjkkiheaaa.By Go.Proofs.Ytpipgbjkkiheaaa.Qt

set_option maxRecDepth 100000 in
set_option maxHeartbeats 6400000 in
theorem popen_any {B : Nat → Prop} (v : Value) (d : Dk) (s : ByteArray) (hs : s.size ≤ maxLen) (w : World) (hv : DvB B w v d) (hsm : SmD d) : Calls Try.prog 49 #[v, .string s] w (FO (fun b => B b ∧ b < w.heap.size) w (openF d s) (atE d s)) := by
  have HV := Lib.hid hv
  have HSM := Lib.hid hsm
  obtain ⟨fv, rfl, hr, sf⟩ := hv
  obtain ⟨af, cf, rfl, -, -⟩ := rd_sl sf
  have A1 := bel_al0 w (.cells #[.int .i64 d.1, .int .i64 d.2.1, .slice af d.2.2.length cf] 33)
  have BX := Lib.hid (btA A1 (bel_al0 _ (.cells #[.string ⟨#[]⟩, .slice none 0 0, .slice none 0 0] 59)))
  have HX := Lib.hid (show ((w.alloc (.cells #[.int .i64 d.1, .int .i64 d.2.1, .slice af d.2.2.length cf] 33)).alloc (.cells #[.string ⟨#[]⟩, .slice none 0 0, .slice none 0 0] 59)).heap[w.heap.size]? = some (.cells #[.int .i64 d.1, .int .i64 d.2.1, .slice af d.2.2.length cf] 33 (0, 0)) from (heap_alloc_old _ _ (by simp)).trans (heap_alloc_new w _))
  have HY := Lib.hid (heap_alloc2_new w (.cells #[.int .i64 d.1, .int .i64 d.2.1, .slice af d.2.2.length cf] 33) (.cells #[.string ⟨#[]⟩, .slice none 0 0, .slice none 0 0] 59))
  have RF := Lib.hid (fun W (h : Below w.heap.size w W) => pfind10_any (B := fun b => B b ∧ b < w.heap.size) (.agg #[.int .i64 d.1, .int .i64 d.2.1, .slice af d.2.2.length cf]) d s hs W ⟨_, rfl, hr, rd_oldB sf h⟩ hsm)
  have hE := (open_eq d s).1
  have hF := (open_eq d s).2
  have hFF : findF d s = if findE d s = 0 then d.2.2.getD (lbG nmF d.2.2 s) fl0 else fl0 := rfl
  have hFE : findE d s = 0 ∨ findE d s = 1 ∨ findE d s = 6 := by
    unfold findE
    split
    · split
      · exact Or.inl rfl
      · exact Or.inr (Or.inr rfl)
    · exact Or.inr (Or.inl rfl)
  generalize openF d s = OF at *
  generalize atE d s = OE at *
  generalize findF d s = FF at *
  generalize findE d s = FE at *
  obtain ⟨cap, left, L⟩ := d
  dsimp only at HX HY BX RF hE hF hFF ⊢
  have HZ : Hid (FE ≠ 0 → FF = fl0) := Lib.hid (fun h => by rw [hFF, if_neg h])
  clear hFF
  generalize L.length = n at *
  have HE := Lib.hid hE
  have HF := Lib.hid hF
  have HFE := Lib.hid hFE
  clear sf hE hF hr A1 HV hsm hs hFE HSM
  go_enter Try.func49, Try.ntmps49
  go_upto_region 1 with fail
  generalize ((w.alloc (.cells #[.int .i64 cap, .int .i64 left, .slice af n cf] 33)).alloc (.cells #[.string ⟨#[]⟩, .slice none 0 0, .slice none 0 0] 59)) = W1 at *
  obtain ⟨x0, x1, x2⟩ := box3c HX.out
  go_wp2_with fail
  refine (RF.out _ BX.out).mono ?_
  rintro e w2 ⟨⟨bv, pv, rfl, hrd⟩, hb2⟩
  have HX2 := Lib.hid ((hb2.block _ (lt_of_some0 HX.out)).trans HX.out)
  have HY2 := Lib.hid ((hb2.block _ (lt_of_some0 HY.out)).trans HY.out)
  have B2 := Lib.hid (btA BX.out hb2)
  obtain ⟨bv', pv', he, hsz, hb, hp⟩ := rd_f hrd
  obtain ⟨rfl, rfl⟩ : bv = bv' ∧ pv = pv' := by simpa using he
  obtain ⟨ab, cb, rfl, -, -⟩ := rd_sl hb
  obtain ⟨ap, cp, rfl, -, -⟩ := rd_sl hp
  have RD := Lib.hid hrd
  generalize FF.2.1.length = nb at *
  generalize FF.2.2.length = np at *
  have B3 := Lib.hid (btA B2.out (bel_al0 w2 (.cells #[.string FF.1, .slice ab nb cb, .slice ap np cp] 59)))
  have BA := Lib.hid (bel_al0 w2 (.cells #[.string FF.1, .slice ab nb cb, .slice ap np cp] 59))
  have HZ2 := Lib.hid (heap_alloc_new w2 (.cells #[.string FF.1, .slice ab nb cb, .slice ap np cp] 59))
  have HX3 := Lib.hid ((BA.out.block _ (lt_of_some0 HX2.out)).trans HX2.out)
  have HY3 := Lib.hid ((BA.out.block _ (lt_of_some0 HY2.out)).trans HY2.out)
  have RD3 := Lib.hid (rd_below RD.out BA.out)
  clear x0 x1 x2 hb2 HX HY RF BX hrd he hsz hb hp
  go_upto_region 2 with fail
  generalize w2.alloc (.cells #[.string FF.1, .slice ab nb cb, .slice ap np cp] 59) = W3 at *
  obtain ⟨x0, x1, x2⟩ := box3c HX3.out
  obtain ⟨y0, y1, y2⟩ := box3c HY3.out
  obtain ⟨z0, z1, z2⟩ := box3c HZ2.out
  have u0 := frozen_of_row W3 (w.heap.size + 1) 0 _ _ HY3.out
  have u1 := frozen_of_row W3 (w.heap.size + 1) 1 _ _ HY3.out
  have u2 := frozen_of_row W3 (w.heap.size + 1) 2 _ _ HY3.out
  have hcase : (FE = 1 ∨ left ≠ 0) ∨ (FE ≠ 1 ∧ left = 0) := by omega
  rcases hcase with hc | ⟨hc1, hc2⟩
  · have hOE : OE = FE := by rw [HE.out]; split; · omega
                             · split <;> omega
    have hOF : OF = FF := by
      rw [HF.out]
      split
      · rfl
      · rename_i h
        exact (HZ.out (by omega)).symm
    subst hOE hOF
    by_cases hf1 : OE = 1
    · subst hf1
      clear hc
      go_wp2
      refine pfile_end rfl (set3c HY3.out) rfl ?_
      exact ⟨⟨_, _, rfl, rd_move (fun b hb _ => set3_other (by omega)) (fun b hb _ => ⟨hb.1.1, hb.1.2⟩) RD3.out⟩, below_set3 B3.out (by omega)⟩
    · have e1 : ((OE : Int) != 1) = true := by rw [bne_iff_ne]; omega
      have e2 : (left == 0) = false := beq_false_of_ne (by omega)
      have e3 : decide (left = 0) = false := decide_eq_false (by omega)
      clear hc hf1
      go_wp2
      refine pfile_end rfl (set3c HY3.out) rfl ?_
      exact ⟨⟨_, _, rfl, rd_move (fun b hb _ => set3_other (by omega)) (fun b hb _ => ⟨hb.1.1, hb.1.2⟩) RD3.out⟩, below_set3 B3.out (by omega)⟩
  · have hOE : OE = 13 := by rw [HE.out, if_neg hc1, if_pos hc2]
    have hOF : OF = fl0 := by rw [HF.out, hOE]; rfl
    subst hOE hOF hc2
    have e1 : ((FE : Int) != 1) = true := by rw [bne_iff_ne]; omega
    clear hc1
    go_wp2
    refine pfile_end rfl (set3c HY3.out) rfl ?_
    exact fo_zero (below_set3 B3.out (by omega))
end Go.Proofs.Ytpipgbjkkiheaaa.Gf
namespace Go.Proofs.Ytpipgbjkkiheaaa.Gf
open Go Go.Joins Go.ChangeShapes Go.WideShapes Go.ChangeAt Go.RowKit Go.Deep Go.Lib Go.Proofs.Ytpipgbjkkiheaaa.By Go.Proofs.Ytpipgbjkkiheaaa.Qt

theorem og_cap {T : TypeId} (t : Ty) (B : Nat → Prop) (W : World) {base k cap : Nat} {cs : Array Value} (hk : W.heap.size = k) (hb : base ≤ k) (h1 : cap ≤ maxLen) (h2 : cs.size = cap * t.n) : OwG T t B (W.alloc (.cells cs T)) base (.slice (some ⟨k, 0, none⟩) 0 cap) [] := by
  subst hk
  exact ⟨[], rfl, by simp, by simp, Or.inr ⟨W.heap.size, cap, cs, rfl, hb, heap_alloc_new _ _, Nat.zero_le _, h1, h2, by simp⟩⟩
/-- A call that answers a list of its own. -/
def LO (T : TypeId) (t : Ty) (B : Nat → Prop) (w : World) (l : List t.T) (e : Ending) (w' : World) : Prop := (∃ v, e = .returned v ∧ OwG T t (fun b => B b ∧ b < w.heap.size) w' w.heap.size v l) ∧ Below w.heap.size w w'
theorem flatT_snoc {α : Type} {Ls : List (List α)} {i : Nat} (h : i < Ls.length) : (Ls.take (i + 1)).flatten = (Ls.take i).flatten ++ Ls.getD i [] := by
  rw [List.take_succ_eq_append_getElem h, List.flatten_append, List.flatten_cons, List.flatten_nil, List.append_nil, show Ls.getD i [] = Ls[i] by simp [List.getD, h]]
theorem flatT_le {α : Type} (Ls : List (List α)) (i : Nat) : (Ls.take i).flatten.length ≤ Ls.flatten.length := by
  conv => rhs; rw [← List.take_append_drop i Ls]
  rw [List.flatten_append, List.length_append]
  omega
theorem infoPF : (Try.prog.info? 59).map (fun i => (i.zero, i.size, i.bytes)) = some (some (Value.agg #[Value.string ⟨#[]⟩, .slice none 0 0, .slice none 0 0]), 3, 64) := by kernel_rfl
theorem lsPF : LsT Try.prog 31 59 tyF := lsT_of Try.underlying31 infoPF rfl (by decide) rfl
/-- append(nil, make([]File, m)...). -/
theorem run_appzF (W : World) (m : Nat) (ty : TypeId) (h1 : 1 ≤ m) (hm : m ≤ 1000000) : ∃ (cap : Nat) (cs : Array Value), m ≤ cap ∧ cap ≤ maxLen ∧ cs.size = cap * 3 ∧
    (Builtin.append_ #[31, 3] ty #[.slice none 0 0, .int .i64 (m : Int)]).run Try.prog W = .ok (.slice (some ⟨W.heap.size, 0, none⟩) m cap) (W.drew.alloc (.cells cs 59)) := by
  obtain ⟨i, hi, hz, hz1, hz2⟩ := info_parts infoPF
  have hge := grownCap_ge W m 0 59
  have hcm : grownCap W m 0 59 ≤ maxLen := grownCap_le_maxLen W m 0 59 (by unfold maxLen; omega)
  have hw : IntKind.i64.wrap (m : Int) = (m : Int) := IntWalk.i64_in _ (by omega)
  have hneg : ¬ ((m : Int) < 0) := by omega
  have hbig : ¬ ((281474976710656 : Int) < (m : Int) * (i.bytes : Int)) := by rw [hz2]; omega
  have hm0 : m ≠ 0 := by omega
  have c1 : ¬ ((9223372036854775807 : Int) < (m : Int)) := by omega
  have c2 : ¬ (281474976710656 < Builtin.nextslicecap m 0 * i.bytes) := by rw [nextslicecap_zero (by omega), hz2]; omega
  have hcell : (Value.agg #[Value.string ⟨#[]⟩, .slice none 0 0, .slice none 0 0]).cells = #[Value.string ⟨#[]⟩, .slice none 0 0, .slice none 0 0] := rfl
  refine ⟨grownCap W m 0 59, Builtin.zeroCells #[Value.string ⟨#[]⟩, .slice none 0 0, .slice none 0 0] m ++ Builtin.zeroCells #[Value.string ⟨#[]⟩, .slice none 0 0, .slice none 0 0] (grownCap W m 0 59 - m), hge, hcm, ?_, ?_⟩
  · simp [Builtin.zeroCells]
    omega
  · simp [Builtin.append_, run_underlying Try.underlying31, run_underlying Try.underlying3, sizeOf, typeInfo, zeroValue, hi, hz, hz1, asInt, asIntOf, hw, hneg, hbig, Question.forced, newRow, grownCap, hm0, hcell, run_firstCells_none, c1, c2]
    intro h
    omega
theorem appzF {ops : Array Oper} {rest : List Oper} {dst : Option Tmp} {s x : Operand} {pos : String} {after : Array Edge} {ty : TypeId} {a : Act} {W : World} {Q : Exit → Act → World → Prop} {m : Nat}
    (hs : a.eval s = .slice none 0 0) (hx : a.eval x = .int .i64 (m : Int)) (h1 : 1 ≤ m) (hm : m ≤ 1000000)
    (h : ∀ (cap : Nat) (cs : Array Value), m ≤ cap → cap ≤ maxLen → cs.size = cap * 3 → wpList Try.prog ops Q rest (a.put dst (.slice (some ⟨W.heap.size, 0, none⟩) m cap)) (W.drew.alloc (.cells cs 59))) : wpList Try.prog ops Q (⟨dst, .call { callee := .builtin .append, args := #[s, x], argTypes := #[31, 3] }, ty, pos, after, none⟩ :: rest) a W := by
  refine wpList_plain rfl fun K hK => ?_
  obtain ⟨cap, cs, q1, q2, q3, hr⟩ := run_appzF W m ty h1 hm
  unfold Oper.wp execOp
  simp only [resolve, invoke, builtin, Sem.run_bind, Sem.run_pure, Result.andThen_ok, List.map_toArray, List.map_cons, List.map_nil, hs, hx, hr]
  exact hK _ _ (h cap cs q1 q2 q3)
set_option maxRecDepth 100000 in
theorem pgrowF_any (B : Nat → Prop) (m : Nat) (w : World) (hm : m ≤ 1000000) : Calls Try.prog 100 #[.slice none 0 0, .int .i64 (m : Int)] w (LO 59 tyF B w []) := by
  by_cases h0 : m = 0
  · subst h0
    go_enter Try.func100, Try.ntmps100
    go_wp2
    go_ret
    exact ⟨⟨_, rfl, og_nil _ _ _ _ _⟩, Below.refl _ _⟩
  · have hz : (0 : Int) < (m : Int) := by omega
    have hn : ¬ (m : Int) < 0 := by omega
    have hp : 0 < m := by omega
    have h1 : 1 ≤ m := by omega
    clear h0
    go_enter Try.func100, Try.ntmps100
    go_wp2_with (at_builtin; refine appzF (dst := some 22) (m := m) ?_ ?_ h1 hm ?_; exact rfl; exact rfl; intro cap cs q1 q2 q3; have OW : Hid (OwG 59 tyF (fun b => B b ∧ b < w.heap.size) (w.drew.alloc (.cells cs 59)) w.heap.size (.slice (some ⟨w.heap.size, 0, none⟩) 0 cap) []) := Lib.hid (og_cap tyF _ w.drew rfl (Nat.le_refl _) q2 q3); clear q1 q2 q3)
    go_ret
    exact ⟨⟨_, rfl, OW.out⟩, (below_drewN w 1).alloc (Nat.le_refl _) _⟩
set_option maxRecDepth 100000 in
set_option maxHeartbeats 6400000 in
theorem pconcatF_any {B : Nat → Prop} (g n : Nat) (vs : List Value) (Ls : List (List Fl)) (fr : Nat × Nat) (w : World) (hg : w.heap[g]? = some (.cells vs.toArray 31 fr)) (hv : vs.length = n) (hl : Ls.length = n) (hI : ∀ i, i < n → Rd B w (.sl tyF) [vs.getD i undef] (Ls.getD i [])) (hn : n ≤ 10) (ht : Ls.flatten.length ≤ 100000) :
    Calls Try.prog 90 #[.slice (some ⟨g, 0, none⟩) n n] w (LO 59 tyF B w Ls.flatten) := by
  have CEL : Hid (∀ i, i < n → ∀ W, Below w.heap.size w W → W.cell? ⟨g, i, none⟩ = some (vs.getD i undef) ∧ Rd (fun b => B b ∧ b < w.heap.size) W (.sl tyF) [vs.getD i undef] (Ls.getD i [])) := Lib.hid fun i hi W hW =>
    ⟨by rw [cell_of_row W g i _ _ _ ((hW.block g (lt_of_some0 hg)).trans hg)]; simp [List.getD, show i < vs.length by omega], rd_oldB (hI i hi) hW⟩
  have HL := Lib.hid hl
  have HT := Lib.hid ht
  have GROW := Lib.hid (pgrowF_any B)
  unfold LO at GROW ⊢
  clear hg hv hl hI ht
  go_enter Try.func90, Try.ntmps90
  go_wp2_with fail
  go_loopw [3, 11] (fun sz t wr => ∃ i q : Nat, i ≤ n ∧ t = .int .i64 (i : Int) ∧ sz = .int .i64 (q : Int) ∧ q ≤ 100000 ∧ Hid (q = (Ls.take i).flatten.length) ∧ wr = w) (fun _ t _ => n - (Lib.intOf t).toNat)
  case atStart => exact ⟨0, 0, by omega, rfl, rfl, by omega, Lib.hid rfl, rfl⟩
  case round =>
    obtain ⟨i, q, hi, rfl, rfl, hq, HQ, rfl⟩ := hrel
    by_cases hin : i < n
    · have hl4 : decide ((i : Int) < (n : Int)) = true := decide_eq_true (by omega)
      have p0 : (0 : Int) ≤ (i : Int) := by omega
      have p1 : (i : Int) < (n : Int) := by omega
      obtain ⟨c0, hit⟩ := CEL.out i hin wr (Below.refl _ _)
      obtain ⟨a1, c1, hv1, -, -⟩ := rd_sl hit
      rw [hv1] at c0
      obtain ⟨m1, hm1⟩ : ∃ m, m = (Ls.getD i []).length := ⟨_, rfl⟩
      rw [← hm1] at c0
      have hle := flatT_le Ls (i + 1)
      rw [flatT_snoc (by have := HL.out; omega), List.length_append, ← HQ.out, ← hm1] at hle
      have HQ2 : Hid (q + m1 = (Ls.take (i + 1)).flatten.length) := Lib.hid (by rw [flatT_snoc (by have := HL.out; omega), List.length_append, ← HQ.out, ← hm1])
      have hq2 : q + m1 ≤ 100000 := by have := HT.out; omega
      have hng : ¬ (q : Int) + (m1 : Int) < 0 := by omega
      clear hit hv1 hm1 hle HQ
      go_wp2
      go_roundw
      case rel => exact ⟨i + 1, q + m1, by omega, by go_num, by go_num, hq2, HQ2, by first | rfl | trivial⟩
      case measure => simp [Lib.intOf]; omega
    · obtain rfl : i = n := by omega
      have hl4 : decide ((i : Int) < (i : Int)) = false := decide_eq_false (by omega)
      clear HQ
      go_wp2_with fail
      refine (GROW.out q wr (by omega)).mono ?_
      rintro e w2 ⟨⟨v2, rfl, ho2⟩, hb2⟩
      have O2 := Lib.hid ho2
      have B2 := Lib.hid hb2
      clear ho2 hb2 hl4 GROW
      go_wp2_with fail
      go_loopw [6, 27] (fun out t wl => ∃ j : Nat, j ≤ i ∧ t = .int .i64 (j : Int) ∧ Hid (OwG 59 tyF (fun b => B b ∧ b < wr.heap.size) wl wr.heap.size out (Ls.take j).flatten) ∧ Hid (Below wr.heap.size wr wl)) (fun _ t _ => i - (Lib.intOf t).toNat)
      case atStart => exact ⟨0, by omega, rfl, O2, B2⟩
      case round =>
        clear O2 B2
        obtain ⟨j, hj, rfl, O, BB⟩ := hrel
        by_cases hji : j < i
        · have hl4 : decide ((j : Int) < (i : Int)) = true := decide_eq_true (by omega)
          have p0 : (0 : Int) ≤ (j : Int) := by omega
          have p1 : (j : Int) < (i : Int) := by omega
          obtain ⟨c0, hit⟩ := CEL.out j hji _ BB.out
          have HIT := Lib.hid hit
          obtain ⟨a1, c1, hv1, -, -⟩ := rd_sl hit
          rw [hv1] at c0 HIT
          have HLE : Hid ((Ls.take j).flatten.length + (Ls.getD j []).length ≤ 100000000) := Lib.hid (by
            have hle := flatT_le Ls (j + 1)
            rw [flatT_snoc (by have := HL.out; omega), List.length_append] at hle
            have := HT.out
            omega)
          have HFS := Lib.hid (flatT_snoc (Ls := Ls) (i := j) (by have := HL.out; omega))
          obtain ⟨m1, hm1⟩ : ∃ m, m = (Ls.getD j []).length := ⟨_, rfl⟩
          rw [← hm1] at c0 HIT
          obtain ⟨ao, co, rfl, -, -⟩ := og_form O.out
          obtain ⟨q1, hq1⟩ : ∃ m, m = (Ls.take j).flatten.length := ⟨_, rfl⟩
          rw [← hq1] at O ⊢
          have OL := Lib.hid (fun q (h : (Value.slice ao q1 co).ownBlock = some q) => og_lt O.out q h)
          clear hit hv1 hm1 hq1
          go_wp2_with (at_builtin; refine app_g lsPF (dst := some 33) ?_ ?_ O.out (rd_mono HIT.out fun b hb _ => ⟨hb, fun e => by have h1 := (OL.out _ e).1; omega⟩) HLE.out BB.out.size ?_; exact rfl; exact rfl; intro v5 w5 ho5 hg5 hat5; rw [← HFS.out] at ho5; have O5 := Lib.hid ho5; have B5 := Lib.hid (below_grownG BB.out hg5 O.out BB.out.size (Nat.le_refl _)); clear ho5 hg5 hat5)
          go_roundw
          case rel => exact ⟨j + 1, by omega, by go_num, O5, B5⟩
          case measure => simp [Lib.intOf]; omega
        · obtain rfl : j = i := by omega
          have hl4 : decide ((j : Int) < (j : Int)) = false := decide_eq_false (by omega)
          have ht : (Ls.take j).flatten = Ls.flatten := by rw [List.take_of_length_le (by have := HL.out; omega)]
          rw [ht] at O
          clear ht
          go_wp2
          go_ret
          exact ⟨⟨_, rfl, O.out⟩, BB.out⟩
theorem infoPW : (Try.prog.info? 96).map (fun i => (i.zero, i.size, i.bytes)) = some (some (Value.agg #[Value.int .i64 0, .slice none 0 0, .bool false]), 3, 40) := by kernel_rfl
theorem lsPW : LsT Try.prog 57 96 tyW := lsT_of Try.underlying57 infoPW rfl (by decide) rfl
/-- append(nil, make([]Write, m)...). -/
theorem run_appzW (W : World) (m : Nat) (ty : TypeId) (h1 : 1 ≤ m) (hm : m ≤ 1000000) : ∃ (cap : Nat) (cs : Array Value), m ≤ cap ∧ cap ≤ maxLen ∧ cs.size = cap * 3 ∧
    (Builtin.append_ #[57, 3] ty #[.slice none 0 0, .int .i64 (m : Int)]).run Try.prog W = .ok (.slice (some ⟨W.heap.size, 0, none⟩) m cap) (W.drew.alloc (.cells cs 96)) := by
  obtain ⟨i, hi, hz, hz1, hz2⟩ := info_parts infoPW
  have hge := grownCap_ge W m 0 96
  have hcm : grownCap W m 0 96 ≤ maxLen := grownCap_le_maxLen W m 0 96 (by unfold maxLen; omega)
  have hw : IntKind.i64.wrap (m : Int) = (m : Int) := IntWalk.i64_in _ (by omega)
  have hneg : ¬ ((m : Int) < 0) := by omega
  have hbig : ¬ ((281474976710656 : Int) < (m : Int) * (i.bytes : Int)) := by rw [hz2]; omega
  have hm0 : m ≠ 0 := by omega
  have c1 : ¬ ((9223372036854775807 : Int) < (m : Int)) := by omega
  have c2 : ¬ (281474976710656 < Builtin.nextslicecap m 0 * i.bytes) := by rw [nextslicecap_zero (by omega), hz2]; omega
  have hcell : (Value.agg #[Value.int .i64 0, .slice none 0 0, .bool false]).cells = #[Value.int .i64 0, .slice none 0 0, .bool false] := rfl
  refine ⟨grownCap W m 0 96, Builtin.zeroCells #[Value.int .i64 0, .slice none 0 0, .bool false] m ++ Builtin.zeroCells #[Value.int .i64 0, .slice none 0 0, .bool false] (grownCap W m 0 96 - m), hge, hcm, ?_, ?_⟩
  · simp [Builtin.zeroCells]
    omega
  · simp [Builtin.append_, run_underlying Try.underlying57, run_underlying Try.underlying3, sizeOf, typeInfo, zeroValue, hi, hz, hz1, asInt, asIntOf, hw, hneg, hbig, Question.forced, newRow, grownCap, hm0, hcell, run_firstCells_none, c1, c2]
    intro h
    omega
theorem appzW {ops : Array Oper} {rest : List Oper} {dst : Option Tmp} {s x : Operand} {pos : String} {after : Array Edge} {ty : TypeId} {a : Act} {W : World} {Q : Exit → Act → World → Prop} {m : Nat}
    (hs : a.eval s = .slice none 0 0) (hx : a.eval x = .int .i64 (m : Int)) (h1 : 1 ≤ m) (hm : m ≤ 1000000)
    (h : ∀ (cap : Nat) (cs : Array Value), m ≤ cap → cap ≤ maxLen → cs.size = cap * 3 → wpList Try.prog ops Q rest (a.put dst (.slice (some ⟨W.heap.size, 0, none⟩) m cap)) (W.drew.alloc (.cells cs 96))) : wpList Try.prog ops Q (⟨dst, .call { callee := .builtin .append, args := #[s, x], argTypes := #[57, 3] }, ty, pos, after, none⟩ :: rest) a W := by
  refine wpList_plain rfl fun K hK => ?_
  obtain ⟨cap, cs, q1, q2, q3, hr⟩ := run_appzW W m ty h1 hm
  unfold Oper.wp execOp
  simp only [resolve, invoke, builtin, Sem.run_bind, Sem.run_pure, Result.andThen_ok, List.map_toArray, List.map_cons, List.map_nil, hs, hx, hr]
  exact hK _ _ (h cap cs q1 q2 q3)
set_option maxRecDepth 100000 in
theorem pgrowW_any (B : Nat → Prop) (m : Nat) (w : World) (hm : m ≤ 1000000) : Calls Try.prog 95 #[.slice none 0 0, .int .i64 (m : Int)] w (LO 96 tyW B w []) := by
  by_cases h0 : m = 0
  · subst h0
    go_enter Try.func95, Try.ntmps95
    go_wp2
    go_ret
    exact ⟨⟨_, rfl, og_nil _ _ _ _ _⟩, Below.refl _ _⟩
  · have hz : (0 : Int) < (m : Int) := by omega
    have hn : ¬ (m : Int) < 0 := by omega
    have hp : 0 < m := by omega
    have h1 : 1 ≤ m := by omega
    clear h0
    go_enter Try.func95, Try.ntmps95
    go_wp2_with (at_builtin; refine appzW (dst := some 22) (m := m) ?_ ?_ h1 hm ?_; exact rfl; exact rfl; intro cap cs q1 q2 q3; have OW : Hid (OwG 96 tyW (fun b => B b ∧ b < w.heap.size) (w.drew.alloc (.cells cs 96)) w.heap.size (.slice (some ⟨w.heap.size, 0, none⟩) 0 cap) []) := Lib.hid (og_cap tyW _ w.drew rfl (Nat.le_refl _) q2 q3); clear q1 q2 q3)
    go_ret
    exact ⟨⟨_, rfl, OW.out⟩, (below_drewN w 1).alloc (Nat.le_refl _) _⟩
set_option maxRecDepth 100000 in
set_option maxHeartbeats 6400000 in
theorem pconcatW_any {B : Nat → Prop} (g n : Nat) (vs : List Value) (Ls : List (List Wr)) (fr : Nat × Nat) (w : World) (hg : w.heap[g]? = some (.cells vs.toArray 57 fr)) (hv : vs.length = n) (hl : Ls.length = n) (hI : ∀ i, i < n → Rd B w (.sl tyW) [vs.getD i undef] (Ls.getD i [])) (hn : n ≤ 10) (ht : Ls.flatten.length ≤ 100000) :
    Calls Try.prog 81 #[.slice (some ⟨g, 0, none⟩) n n] w (LO 96 tyW B w Ls.flatten) := by
  have CEL : Hid (∀ i, i < n → ∀ W, Below w.heap.size w W → W.cell? ⟨g, i, none⟩ = some (vs.getD i undef) ∧ Rd (fun b => B b ∧ b < w.heap.size) W (.sl tyW) [vs.getD i undef] (Ls.getD i [])) := Lib.hid fun i hi W hW =>
    ⟨by rw [cell_of_row W g i _ _ _ ((hW.block g (lt_of_some0 hg)).trans hg)]; simp [List.getD, show i < vs.length by omega], rd_oldB (hI i hi) hW⟩
  have HL := Lib.hid hl
  have HT := Lib.hid ht
  have GROW := Lib.hid (pgrowW_any B)
  unfold LO at GROW ⊢
  clear hg hv hl hI ht
  go_enter Try.func81, Try.ntmps81
  go_wp2_with fail
  go_loopw [3, 11] (fun sz t wr => ∃ i q : Nat, i ≤ n ∧ t = .int .i64 (i : Int) ∧ sz = .int .i64 (q : Int) ∧ q ≤ 100000 ∧ Hid (q = (Ls.take i).flatten.length) ∧ wr = w) (fun _ t _ => n - (Lib.intOf t).toNat)
  case atStart => exact ⟨0, 0, by omega, rfl, rfl, by omega, Lib.hid rfl, rfl⟩
  case round =>
    obtain ⟨i, q, hi, rfl, rfl, hq, HQ, rfl⟩ := hrel
    by_cases hin : i < n
    · have hl4 : decide ((i : Int) < (n : Int)) = true := decide_eq_true (by omega)
      have p0 : (0 : Int) ≤ (i : Int) := by omega
      have p1 : (i : Int) < (n : Int) := by omega
      obtain ⟨c0, hit⟩ := CEL.out i hin wr (Below.refl _ _)
      obtain ⟨a1, c1, hv1, -, -⟩ := rd_sl hit
      rw [hv1] at c0
      obtain ⟨m1, hm1⟩ : ∃ m, m = (Ls.getD i []).length := ⟨_, rfl⟩
      rw [← hm1] at c0
      have hle := flatT_le Ls (i + 1)
      rw [flatT_snoc (by have := HL.out; omega), List.length_append, ← HQ.out, ← hm1] at hle
      have HQ2 : Hid (q + m1 = (Ls.take (i + 1)).flatten.length) := Lib.hid (by rw [flatT_snoc (by have := HL.out; omega), List.length_append, ← HQ.out, ← hm1])
      have hq2 : q + m1 ≤ 100000 := by have := HT.out; omega
      have hng : ¬ (q : Int) + (m1 : Int) < 0 := by omega
      clear hit hv1 hm1 hle HQ
      go_wp2
      go_roundw
      case rel => exact ⟨i + 1, q + m1, by omega, by go_num, by go_num, hq2, HQ2, by first | rfl | trivial⟩
      case measure => simp [Lib.intOf]; omega
    · obtain rfl : i = n := by omega
      have hl4 : decide ((i : Int) < (i : Int)) = false := decide_eq_false (by omega)
      clear HQ
      go_wp2_with fail
      refine (GROW.out q wr (by omega)).mono ?_
      rintro e w2 ⟨⟨v2, rfl, ho2⟩, hb2⟩
      have O2 := Lib.hid ho2
      have B2 := Lib.hid hb2
      clear ho2 hb2 hl4 GROW
      go_wp2_with fail
      go_loopw [6, 27] (fun out t wl => ∃ j : Nat, j ≤ i ∧ t = .int .i64 (j : Int) ∧ Hid (OwG 96 tyW (fun b => B b ∧ b < wr.heap.size) wl wr.heap.size out (Ls.take j).flatten) ∧ Hid (Below wr.heap.size wr wl)) (fun _ t _ => i - (Lib.intOf t).toNat)
      case atStart => exact ⟨0, by omega, rfl, O2, B2⟩
      case round =>
        clear O2 B2
        obtain ⟨j, hj, rfl, O, BB⟩ := hrel
        by_cases hji : j < i
        · have hl4 : decide ((j : Int) < (i : Int)) = true := decide_eq_true (by omega)
          have p0 : (0 : Int) ≤ (j : Int) := by omega
          have p1 : (j : Int) < (i : Int) := by omega
          obtain ⟨c0, hit⟩ := CEL.out j hji _ BB.out
          have HIT := Lib.hid hit
          obtain ⟨a1, c1, hv1, -, -⟩ := rd_sl hit
          rw [hv1] at c0 HIT
          have HLE : Hid ((Ls.take j).flatten.length + (Ls.getD j []).length ≤ 100000000) := Lib.hid (by
            have hle := flatT_le Ls (j + 1)
            rw [flatT_snoc (by have := HL.out; omega), List.length_append] at hle
            have := HT.out
            omega)
          have HFS := Lib.hid (flatT_snoc (Ls := Ls) (i := j) (by have := HL.out; omega))
          obtain ⟨m1, hm1⟩ : ∃ m, m = (Ls.getD j []).length := ⟨_, rfl⟩
          rw [← hm1] at c0 HIT
          obtain ⟨ao, co, rfl, -, -⟩ := og_form O.out
          obtain ⟨q1, hq1⟩ : ∃ m, m = (Ls.take j).flatten.length := ⟨_, rfl⟩
          rw [← hq1] at O ⊢
          have OL := Lib.hid (fun q (h : (Value.slice ao q1 co).ownBlock = some q) => og_lt O.out q h)
          clear hit hv1 hm1 hq1
          go_wp2_with (at_builtin; refine app_g lsPW (dst := some 33) ?_ ?_ O.out (rd_mono HIT.out fun b hb _ => ⟨hb, fun e => by have h1 := (OL.out _ e).1; omega⟩) HLE.out BB.out.size ?_; exact rfl; exact rfl; intro v5 w5 ho5 hg5 hat5; rw [← HFS.out] at ho5; have O5 := Lib.hid ho5; have B5 := Lib.hid (below_grownG BB.out hg5 O.out BB.out.size (Nat.le_refl _)); clear ho5 hg5 hat5)
          go_roundw
          case rel => exact ⟨j + 1, by omega, by go_num, O5, B5⟩
          case measure => simp [Lib.intOf]; omega
        · obtain rfl : j = i := by omega
          have hl4 : decide ((j : Int) < (j : Int)) = false := decide_eq_false (by omega)
          have ht : (Ls.take j).flatten = Ls.flatten := by rw [List.take_of_length_le (by have := HL.out; omega)]
          rw [ht] at O
          clear ht
          go_wp2
          go_ret
          exact ⟨⟨_, rfl, O.out⟩, BB.out⟩
end Go.Proofs.Ytpipgbjkkiheaaa.Gf
namespace Go.Proofs.Ytpipgbjkkiheaaa.Gf
open Go Go.Joins Go.ChangeShapes Go.WideShapes Go.ChangeAt Go.RowKit Go.Deep Go.Lib Go.Proofs.Ytpipgbjkkiheaaa.By Go.Proofs.Ytpipgbjkkiheaaa.Qt

def onlyN (Q : Exit → Act → World → Prop) : Exit → Act → World → Prop
  | .normal, a, w => Q .normal a w
  | _, _, _ => False
theorem wp_onlyN {P : Program} {c : Code} {Q : Exit → Act → World → Prop} {a : Act} {w : World} (h : c.wp P (onlyN Q) a w) : c.wp P Q a w :=
  Code.wp_mono (fun e a w h => by cases e <;> first | exact h | exact h.elim) h
theorem wp_region_headsS {P : Program} {id : Nat} {Q : Exit → Act → World → Prop} {a : Act} {w : World} {l : List Oper} (S : World → Prop) (hd : List Nat) (fuel : Nat) (hm : P.follows .mixedOrders = true) (hQ : ∀ c (a : Act) d v w, Q (.panic c) (a.put d v) w → Q (.panic c) a w)
    (hB : (Region.noSelect l.toArray && headsB .any l.toArray hd (Array.replicate l.toArray.size false)) = true) (hf : l.toArray.size = hd.length + fuel) (h1 : (pickOps l.toArray hd).map some = hd.map (fun t => l.toArray[t]?)) (hS : S w.drew)
    (h : wpHeads P l.toArray S (fun a' => wpAnyH P .any l.toArray Q S fuel (listAll hd (Array.replicate l.toArray.size false)) a' w.drew) (pickOps l.toArray hd) a) : (Code.region id l.toArray true).wp P Q a w := by
  simp only [Bool.and_eq_true] at hB
  refine wp_region_held (S := S) hm ?_
  have := held_heads (P := P) (md := .any) (Q := Q) hB.1 hQ hS hd _ _ a hB.2 h1 h
  rw [hf] at *
  exact this
/-- A call that answers a list. -/
def SlO (t : Ty) (B : Nat → Prop) (w : World) (l : List t.T) (e : Ending) (w' : World) : Prop := (∃ v, e = .returned v ∧ Rd (fun b => B b ∨ w.heap.size ≤ b) w' (.sl t) [v] l) ∧ Below w.heap.size w w'
theorem lo_slo {T : TypeId} {t : Ty} {B : Nat → Prop} {w w' : World} {l : List t.T} {e : Ending} (h : LO T t B w l e w') : SlO t (fun b => B b ∧ b < w.heap.size) w l e w' := by
  obtain ⟨⟨v, h1, h2⟩, h3⟩ := h
  exact ⟨⟨v, h1, og_rdw h2⟩, h3⟩
theorem slo_base {t : Ty} {B : Nat → Prop} {w0 w w' : World} {l : List t.T} {e : Ending} (h : SlO t B w l e w') (hb : Below w0.heap.size w0 w) : SlO t B w0 l e w' := by
  obtain ⟨⟨v, h1, h2⟩, h3⟩ := h
  have hs := hb.size
  exact ⟨⟨v, h1, rd_mono h2 fun b h _ => h.elim Or.inl fun h => Or.inr (by omega)⟩, btA hb h3⟩
set_option maxRecDepth 100000 in
set_option maxHeartbeats 6400000 in
theorem pdrop_any {B : Nat → Prop} (v : Value) (L : List Fl) (s : ByteArray) (w : World) (sv : Rd B w (.sl tyF) [v] L) (hsrt : SrtF L) (hlen : L.length ≤ 1000) : Calls Try.prog 76 #[v, .string s] w (SlO tyF (fun b => B b ∧ b < w.heap.size) w (dropG nmF L s)) := by
  have PL := Lib.hid (pplacef_any v L s w (rd_mono sv fun _ _ _ => trivial) (monL_of hsrt) (by omega))
  have HD : Hid (dropG nmF L s = if hasG nmF L s = true then L.take (lbG nmF L s) ++ L.drop (lbG nmF L s + 1) else L) := Lib.hid rfl
  have HLT := Lib.hid (fun h => hasG_lt (nm := nmF) (L := L) (s := s) h)
  have SV := Lib.hid sv
  obtain ⟨a, c, rfl, hc1, hc2⟩ := rd_sl sv
  generalize dropG nmF L s = D at *
  generalize lbG nmF L s = J at *
  generalize hasG nmF L s = HS at *
  obtain ⟨n, hn⟩ : ∃ z, z = L.length := ⟨_, rfl⟩
  rw [← hn] at SV HLT PL hc1 hlen ⊢
  have HN := Lib.hid hn
  have HC := Lib.hid hc1
  have HLEN := Lib.hid hlen
  clear sv hsrt hlen hn hc1 hc2
  go_enter Try.func76, Try.ntmps76
  go_wp2_with fail
  refine PL.out.mono ?_
  rintro e w2 ⟨rfl, hb2⟩
  have B2 := Lib.hid hb2
  clear hb2 PL
  cases HS
  · have hD : D = L := HD.out
    subst hD
    go_wp2
    go_ret
    exact ⟨⟨_, rfl, rd_mono (rd_oldB SV.out B2.out) fun b hb _ => Or.inl hb⟩, B2.out⟩
  · have hj := HLT.out (by first | rfl | trivial)
    have HDD : Hid (D = L.take J ++ L.drop (J + 1)) := Lib.hid HD.out
    have R1 := Lib.hid (rd_take (rd_oldB SV.out B2.out) (k := J) (by omega))
    have R2 := Lib.hid (rd_drop (rd_oldB SV.out B2.out) (k := J + 1) (by omega))
    obtain ⟨a2, ha2⟩ : ∃ z, z = (if c = J + 1 then a else a.map (·.add ((J + 1) * tyF.n))) := ⟨_, rfl⟩
    obtain ⟨n2, hn2⟩ : ∃ z, z = n - (J + 1) := ⟨_, rfl⟩
    obtain ⟨c2, hc2⟩ : ∃ z, z = c - (J + 1) := ⟨_, rfl⟩
    rw [← ha2, ← hn2, ← hc2] at R2
    have HV : Hid (Value.slice a2 n2 c2 = .slice (if c = J + 1 then a else a.map (·.add ((J + 1) * tyF.n))) (n - (J + 1)) (c - (J + 1))) := Lib.hid (by rw [← ha2, ← hn2, ← hc2])
    have hw1 : IntKind.i64.wrap ((J : Int) + 1) = ((J + 1 : Nat) : Int) := IntWalk.i64_in _ (by have := HLEN.out; omega)
    have HJ := Lib.hid hj
    clear ha2 hn2 hc2 hj
    go_upto_region 4 with fail
    refine wp_onlyN ?_
    refine wp_region_headsS (fun w' => Below w2.heap.size w2 w') [0, 1, 2, 3, 4, 5, 6] 3 (by kernel_rfl) (fun _ _ _ _ _ h => h.elim) (by kernel_rfl) (by rfl) (by rfl) (Below.refl _ _).drew ?_
    simp only [pickOps, List.filterMap_cons, List.filterMap_nil, List.getElem?_toArray, List.getElem?_cons_zero, List.getElem?_cons_succ]
    iterate 2
      refine wpHeads_step (fun K hK => ?_)
      go_simp
      refine ⟨_, fun _ _ => rfl, hK _ ?_⟩
      clear hK K
    refine wpHeads_step (fun K hK => ?_)
    rw [if_pos (by rfl)]
    refine ⟨.slice a J c, fun wx _ => exec_head lsPF rfl rfl HC.out (by have := HJ.out; omega), hK _ ?_⟩
    clear hK K
    iterate 2
      refine wpHeads_step (fun K hK => ?_)
      go_simp
      refine ⟨_, fun _ _ => rfl, hK _ ?_⟩
      clear hK K
    refine wpHeads_step (fun K hK => ?_)
    go_simp
    refine ⟨.int .i64 ((J + 1 : Nat) : Int), fun _ _ => by first | rfl | rw [hw1], hK _ ?_⟩
    clear hK K
    refine wpHeads_step (fun K hK => ?_)
    rw [if_pos (by rfl)]
    refine ⟨.slice a2 n2 c2, fun wx _ => by rw [HV.out]; exact exec_tail lsPF rfl rfl (by have := HJ.out; omega), hK _ ?_⟩
    clear hK K
    refine wpHeads_nil ?_
    refine held_one 7 rfl rfl (by kernel_rfl) fun K hK => ?_
    go_simp
    have hal : Below w2.heap.size w2 (w2.alloc (.cells #[.slice a J c, .slice a2 n2 c2] 31)).drew := ((Below.refl _ _).alloc (Nat.le_refl _) _).drew
    have hbox : (w2.alloc (.cells #[.slice a J c, .slice a2 n2 c2] 31)).drew.heap[w2.heap.size]? = some (.cells #[.slice a J c, .slice a2 n2 c2] 31 (0, 0)) := heap_alloc_new w2 _
    refine hK _ _ hal ?_
    clear hK K
    have CC := Lib.hid (pconcatF_any w2.heap.size 2 [.slice a J c, .slice a2 n2 c2] [L.take J, L.drop (J + 1)] (0, 0) _ hbox rfl rfl (fun i hi => by
      match i, hi with
      | 0, _ => exact rd_below R1.out hal
      | 1, _ => exact rd_below R2.out hal) (by decide) (by
        have h1 := HLEN.out
        have h2 := HN.out
        simp only [List.flatten_cons, List.flatten_nil, List.append_nil, List.length_append, List.length_take, List.length_drop]
        omega))
    have HAL := Lib.hid hal
    clear hal hbox R1 R2
    generalize (w2.alloc (.cells #[.slice a J c, .slice a2 n2 c2] 31)).drew = W3 at *
    refine held_one 8 rfl rfl (by kernel_rfl) fun K hK => ?_
    go_simp
    go_at_call 90
    refine CC.out.mono ?_
    rintro e w4 h4
    obtain ⟨⟨v4, rfl, hr4⟩, hb4⟩ := lo_slo h4
    refine hK _ _ (btA HAL.out hb4) ?_
    clear hK K h4
    obtain ⟨a4, c4, rfl, -, -⟩ := rd_sl hr4
    have RR := Lib.hid (rd_mono (C := fun b => (B b ∧ b < w.heap.size) ∨ w.heap.size ≤ b) hr4 fun b hb _ => by
      rcases hb with hb | hb
      · exact Or.inl hb.1
      · exact Or.inr (by have h1 := B2.out.size; have h2 := HAL.out.size; omega))
    have B4 := Lib.hid (btA B2.out (btA HAL.out hb4))
    have hfl : [L.take J, L.drop (J + 1)].flatten = D := by rw [HDD.out]; simp
    obtain ⟨n4, hn4⟩ : ∃ z, z = ([L.take J, L.drop (J + 1)] : List (List Fl)).flatten.length := ⟨_, rfl⟩
    rw [← hn4] at RR ⊢
    rw [hfl] at RR
    have HB4 := Lib.hid hb4
    clear hr4 hb4 CC hfl hn4
    refine held_one 9 rfl rfl (by kernel_rfl) fun K hK => ?_
    go_simp
    refine hK _ _ (btA HAL.out HB4.out) ?_
    clear hK K
    refine wpAnyH_done (by kernel_rfl) ?_ _
    unfold onlyN
    dsimp only
    go_wp2
    go_ret
    exact ⟨⟨_, rfl, RR.out⟩, B4.out⟩
theorem dropG_le {α : Type} (nm : α → ByteArray) (L : List α) (s : ByteArray) : (dropG nm L s).length ≤ L.length := by
  unfold dropG
  split
  · rw [List.length_append, List.length_take, List.length_drop]; omega
  · exact Nat.le_refl _
set_option maxRecDepth 100000 in
set_option maxHeartbeats 6400000 in
theorem pput_any {B : Nat → Prop} (v : Value) (L : List Fl) (x : Fl) (bv pv : Value) (w : World) (sv : Rd B w (.sl tyF) [v] L) (sx : Rd B w tyF [.string x.1, bv, pv] x) (hsrt : SrtF L) (hlen : L.length ≤ 1000) : Calls Try.prog 67 #[v, .agg #[.string x.1, bv, pv]] w (SlO tyF (fun b => B b ∧ b < w.heap.size) w (putG nmF L x)) := by
  have BX := Lib.hid (bel_al0 w (.cells #[.string x.1, bv, pv] 59))
  have HX := Lib.hid (heap_alloc_new w (.cells #[.string x.1, bv, pv] 59))
  have PD := Lib.hid (fun W (h : Below w.heap.size w W) => pdrop_any (B := fun b => B b ∧ b < w.heap.size) v L x.1 W (rd_oldB sv h) hsrt hlen)
  have PL := Lib.hid (fun v2 W h => pplacef_any v2 (dropG nmF L x.1) x.1 W h (monL_of (dropG_srt hsrt)) (by have := dropG_le nmF L x.1; omega))
  have HD : Hid (putG nmF L x = (dropG nmF L x.1).take (lbG nmF (dropG nmF L x.1) x.1) ++ ([x] ++ (dropG nmF L x.1).drop (lbG nmF (dropG nmF L x.1) x.1))) := Lib.hid rfl
  have HJ := Lib.hid (lbG_le nmF (dropG nmF L x.1) x.1)
  have HLEN : Hid ((dropG nmF L x.1).length ≤ 1000) := Lib.hid (by have := dropG_le nmF L x.1; omega)
  have SX := Lib.hid sx
  obtain ⟨a, c, rfl, -, -⟩ := rd_sl sv
  obtain ⟨bv', pv', he, hsz, hb, hp⟩ := rd_f sx
  obtain ⟨rfl, rfl⟩ : bv = bv' ∧ pv = pv' := by simpa using he
  obtain ⟨ab, cb, rfl, -, -⟩ := rd_sl hb
  obtain ⟨ap, cp, rfl, -, -⟩ := rd_sl hp
  generalize putG nmF L x = PG at *
  generalize dropG nmF L x.1 = D at *
  generalize lbG nmF D x.1 = J at *
  generalize hasG nmF D x.1 = HS at *
  generalize L.length = n at *
  generalize x.2.1.length = nb at *
  generalize x.2.2.length = np at *
  clear sv sx hsrt hlen he hsz hb hp
  obtain ⟨x0, x1, x2⟩ := box3c HX.out
  go_enter Try.func67, Try.ntmps67
  go_wp2_with fail
  refine (PD.out _ BX.out).mono ?_
  rintro e w2 ⟨⟨v2, rfl, hr2⟩, hb2⟩
  have B2 := Lib.hid (btA BX.out hb2)
  have HX2 := Lib.hid ((hb2.block _ (lt_of_some0 HX.out)).trans HX.out)
  have R2 := Lib.hid (rd_mono (C := fun b => (B b ∧ b < w.heap.size) ∨ w.heap.size + 1 ≤ b) hr2 fun b hb _ => by
    rcases hb with hb | hb
    · exact Or.inl hb.1
    · exact Or.inr (by simpa using hb))
  have PL2 := Lib.hid (PL.out v2 w2 (rd_mono hr2 fun _ _ _ => trivial))
  obtain ⟨a2, c2, rfl, hc2, -⟩ := rd_sl hr2
  obtain ⟨n2, hn2⟩ : ∃ z, z = D.length := ⟨_, rfl⟩
  rw [← hn2] at hc2 R2 PL2 HJ HLEN ⊢
  have HC2 := Lib.hid hc2
  have HN2 := Lib.hid hn2
  clear x0 x1 x2 hr2 hb2 PD PL BX HX hc2 hn2
  obtain ⟨x0, x1, x2⟩ := box3c HX2.out
  go_wp2_with fail
  refine PL2.out.mono ?_
  rintro e w3 ⟨rfl, hb3⟩
  have HX3 := Lib.hid ((hb3.block _ (lt_of_some0 HX2.out)).trans HX2.out)
  have R3 := Lib.hid (rd_below R2.out hb3)
  have B3 := Lib.hid (btA B2.out hb3)
  clear x0 x1 x2 hb3 PL2 HX2 R2 B2
  have R4 := Lib.hid (rd_take R3.out (k := J) HJ.out)
  have R5 := Lib.hid (rd_drop R3.out (k := J) HJ.out)
  have SX3 := Lib.hid (rd_oldB SX.out B3.out)
  obtain ⟨a5, ha5⟩ : ∃ z, z = (if c2 = J then a2 else a2.map (·.add (J * tyF.n))) := ⟨_, rfl⟩
  obtain ⟨n5, hn5⟩ : ∃ z, z = n2 - J := ⟨_, rfl⟩
  obtain ⟨c5, hc5⟩ : ∃ z, z = c2 - J := ⟨_, rfl⟩
  rw [← ha5, ← hn5, ← hc5] at R5
  have HV : Hid (Value.slice a5 n5 c5 = .slice (if c2 = J then a2 else a2.map (·.add (J * tyF.n))) (n2 - J) (c2 - J)) := Lib.hid (by rw [← ha5, ← hn5, ← hc5])
  clear ha5 hn5 hc5
  go_upto_region 3 with fail
  refine wp_onlyN ?_
  refine wp_region_headsS (fun w' => Below w3.heap.size w3 w') [0, 1, 2, 3, 5, 6, 7] 4 (by kernel_rfl) (fun _ _ _ _ _ h => h.elim) (by kernel_rfl) (by rfl) (by rfl) (Below.refl _ _).drew ?_
  simp only [pickOps, List.filterMap_cons, List.filterMap_nil, List.getElem?_toArray, List.getElem?_cons_zero, List.getElem?_cons_succ]
  iterate 2
    refine wpHeads_step (fun K hK => ?_)
    go_simp
    refine ⟨_, fun _ _ => rfl, hK _ ?_⟩
    clear hK K
  refine wpHeads_step (fun K hK => ?_)
  rw [if_pos (by rfl)]
  refine ⟨.slice a2 J c2, fun wx _ => exec_head lsPF rfl rfl HC2.out HJ.out, hK _ ?_⟩
  clear hK K
  refine wpHeads_step (fun K hK => ?_)
  go_simp
  refine ⟨.agg #[.string x.1, .slice ab nb cb, .slice ap np cp], fun w' hw' => by
    obtain ⟨u0, u1, u2⟩ := box3c ((hw'.block _ (lt_of_some0 HX3.out)).trans HX3.out)
    simp [u0, u1, u2], hK _ ?_⟩
  clear hK K
  iterate 2
    refine wpHeads_step (fun K hK => ?_)
    go_simp
    refine ⟨_, fun _ _ => rfl, hK _ ?_⟩
    clear hK K
  refine wpHeads_step (fun K hK => ?_)
  rw [if_pos (by rfl)]
  refine ⟨.slice a5 n5 c5, fun wx _ => by rw [HV.out]; exact exec_tail lsPF rfl rfl HJ.out, hK _ ?_⟩
  clear hK K
  refine wpHeads_nil ?_
  refine held_one 4 rfl rfl (by kernel_rfl) fun K hK => ?_
  go_simp
  have hal : Below w3.heap.size w3 (w3.alloc (.cells #[.string x.1, .slice ab nb cb, .slice ap np cp] 59)).drew := ((Below.refl _ _).alloc (Nat.le_refl _) _).drew
  have hbox : (w3.alloc (.cells #[.string x.1, .slice ab nb cb, .slice ap np cp] 59)).drew.heap[w3.heap.size]? = some (.cells #[.string x.1, .slice ab nb cb, .slice ap np cp] 59 (0, 0)) := heap_alloc_new w3 _
  refine hK _ _ hal ?_
  clear hK K
  have HAL := Lib.hid hal
  have R6 := Lib.hid (rd_single (t := tyF) (B := fun b => (B b ∧ b < w.heap.size) ∨ w.heap.size + 1 ≤ b) (rd_mono (rd_below SX3.out hal) fun b hb _ => Or.inl hb) hbox (Or.inr (by have := lt_of_some0 HX3.out; omega)))
  have HSZ := Lib.hid (show (w3.alloc (.cells #[.string x.1, .slice ab nb cb, .slice ap np cp] 59)).drew.heap.size = w3.heap.size + 1 from by simp)
  clear hal hbox
  generalize (w3.alloc (.cells #[.string x.1, .slice ab nb cb, .slice ap np cp] 59)).drew = W4 at *
  refine held_one 8 rfl rfl (by kernel_rfl) fun K hK => ?_
  go_simp
  have hal := bel_al0 W4 (.cells #[.slice a2 J c2, .slice (some ⟨w3.heap.size, 0, none⟩) 1 1, .slice a5 n5 c5] 31)
  have hbox := heap_alloc_new W4 (.cells #[.slice a2 J c2, .slice (some ⟨w3.heap.size, 0, none⟩) 1 1, .slice a5 n5 c5] 31)
  refine hK _ _ (btA HAL.out hal) ?_
  clear hK K
  have CC := Lib.hid (pconcatF_any W4.heap.size 3 [.slice a2 J c2, .slice (some ⟨w3.heap.size, 0, none⟩) 1 1, .slice a5 n5 c5] [D.take J, [x], D.drop J] (0, 0) _ hbox rfl rfl (fun i hi => by
    match i, hi with
    | 0, _ => exact rd_below R4.out (btA HAL.out hal)
    | 1, _ => exact rd_below R6.out hal
    | 2, _ => exact rd_below R5.out (btA HAL.out hal)) (by decide) (by
      have h1 := HLEN.out
      have h2 := HN2.out
      simp only [List.flatten_cons, List.flatten_nil, List.append_nil, List.length_append, List.length_take, List.length_drop, List.length_singleton]
      omega))
  have HAL2 := Lib.hid (btA HAL.out hal)
  clear hal hbox R4 R5 R6
  generalize W4.alloc (.cells #[.slice a2 J c2, .slice (some ⟨w3.heap.size, 0, none⟩) 1 1, .slice a5 n5 c5] 31) = W5 at *
  refine held_one 9 rfl rfl (by kernel_rfl) fun K hK => ?_
  go_simp
  go_at_call 90
  refine CC.out.mono ?_
  rintro e w6 h6
  obtain ⟨⟨v6, rfl, hr6⟩, hb6⟩ := lo_slo h6
  refine hK _ _ (btA HAL2.out hb6) ?_
  clear hK K h6
  obtain ⟨a6, c6, rfl, -, -⟩ := rd_sl hr6
  have RR := Lib.hid (rd_mono (C := fun b => (B b ∧ b < w.heap.size) ∨ w.heap.size ≤ b) hr6 fun b hb _ => by
    rcases hb with hb | hb
    · rcases hb.1 with hb | hb
      · exact Or.inl hb
      · exact Or.inr (by omega)
    · exact Or.inr (by have h1 := B3.out.size; have h2 := HAL2.out.size; omega))
  have B6 := Lib.hid (btA B3.out (btA HAL2.out hb6))
  have HB6 := Lib.hid hb6
  have hfl : [D.take J, [x], D.drop J].flatten = PG := by rw [HD.out]; simp
  obtain ⟨n6, hn6⟩ : ∃ z, z = ([D.take J, [x], D.drop J] : List (List Fl)).flatten.length := ⟨_, rfl⟩
  rw [← hn6] at RR ⊢
  rw [hfl] at RR
  clear hr6 hb6 CC hfl hn6
  refine held_one 10 rfl rfl (by kernel_rfl) fun K hK => ?_
  go_simp
  refine hK _ _ (btA HAL2.out HB6.out) ?_
  clear hK K
  refine wpAnyH_done (by kernel_rfl) ?_ _
  unfold onlyN
  dsimp only
  go_wp2
  go_ret
  exact ⟨⟨_, rfl, RR.out⟩, B6.out⟩
end Go.Proofs.Ytpipgbjkkiheaaa.Gf
namespace Go.Proofs.Ytpipgbjkkiheaaa.Gf
open Go Go.Joins Go.ChangeShapes Go.WideShapes Go.ChangeAt Go.RowKit Go.Deep Go.Lib Go.Proofs.Ytpipgbjkkiheaaa.By Go.Proofs.Ytpipgbjkkiheaaa.Qt

set_option maxRecDepth 100000 in
theorem pnew_any (limit : Int) (hl : -9223372036854775808 ≤ limit ∧ limit ≤ 9223372036854775807) (B : Nat → Prop) (w : World) : Calls Try.prog 25 #[.int .i64 limit] w (DvO B w (newD limit)) := by
  have HL := Lib.hid hl
  have HM : Hid (max limit 0 = max 0 limit) := Lib.hid (by omega)
  clear hl
  go_enter Try.func25, Try.ntmps25
  go_wp2
  refine bodyPost_ret (results_cell_row Try.results25 _ _ w.heap.size 33 _ (0, 0) _ rfl (heap_alloc_new w _) Try.underlying33 rfl infoDi) rfl ?_
  have h := HL.out
  rw [HM.out]
  exact ⟨⟨_, rfl, .slice none 0 0, rfl, ⟨⟨by show _ ≤ max 0 limit; omega, by show max 0 limit ≤ _; omega⟩, by show _ ≤ (-1 : Int); omega, by show (-1 : Int) ≤ _; omega⟩, rd_nil _ _ _⟩, bel_al0 w _⟩
set_option maxRecDepth 100000 in
theorem parm_any {B : Nat → Prop} (v : Value) (d : Dk) (n : Int) (hn : -9223372036854775808 ≤ n ∧ n ≤ 9223372036854775807) (w : World) (hv : DvB B w v d) : Calls Try.prog 21 #[v, .int .i64 n] w (DvO B w (armD d n)) := by
  obtain ⟨fv, rfl, hr, sf⟩ := hv
  have SF := Lib.hid sf
  have HR := Lib.hid (And.intro hr hn)
  have HM : Hid (max n (-1) = max (-1) n) := Lib.hid (by omega)
  obtain ⟨af, cf, rfl, -, -⟩ := rd_sl sf
  obtain ⟨cap, left, L⟩ := d
  dsimp only at SF HR ⊢
  generalize L.length = k at *
  clear sf hr hn
  go_enter Try.func21, Try.ntmps21
  go_wp2
  refine bodyPost_ret (results_cell_row Try.results21 _ _ (w.heap.size + 1) 33 _ (0, 0) _ rfl (heap_alloc2_new w _ _) Try.underlying33 rfl infoDi) rfl ?_
  have h := HR.out
  rw [HM.out]
  have hb := btA (bel_al0 w (.cells #[.int .i64 cap, .int .i64 (max (-1) n), .slice af k cf] 33)) (bel_al0 _ (.cells #[.int .i64 cap, .int .i64 (max (-1) n), .slice af k cf] 33))
  exact ⟨⟨_, rfl, .slice af k cf, rfl, ⟨h.1.1, by show _ ≤ max (-1) n; omega, by show max (-1) n ≤ _; omega⟩, rd_mono (rd_below SF.out hb) fun _ h _ => Or.inl h⟩, hb⟩
set_option maxRecDepth 100000 in
set_option maxHeartbeats 6400000 in
theorem pnext_any {B : Nat → Prop} (v fv : Value) (d : Dk) (L : List Fl) (w : World) (hv : ∃ gv, v = .agg #[.int .i64 d.1, .int .i64 d.2.1, gv] ∧ ∃ a n c, gv = .slice a n c) (hr : (-9223372036854775808 ≤ d.1 ∧ d.1 ≤ 9223372036854775807) ∧ (-9223372036854775808 ≤ d.2.1 ∧ d.2.1 ≤ 9223372036854775807)) (sf : Rd B w (.sl tyF) [fv] L) : Calls Try.prog 66 #[v, fv] w (DvO (fun b => B b ∧ b < w.heap.size) w (d.1, leftN d.2.1, L)) := by
  obtain ⟨gv, rfl, a, n, c, rfl⟩ := hv
  obtain ⟨af, cf, rfl, -, -⟩ := rd_sl sf
  obtain ⟨cap, left, L0⟩ := d
  dsimp only at hr ⊢
  have SF := Lib.hid sf
  have HR := Lib.hid hr
  generalize L.length = k at *
  have A1 := bel_al0 w (.cells #[.int .i64 cap, .int .i64 left, .slice a n c] 33)
  have BX := Lib.hid (btA A1 (bel_al0 _ (.cells #[.int .i64 0, .int .i64 0, .slice none 0 0] 33)))
  have HX := Lib.hid (show ((w.alloc (.cells #[.int .i64 cap, .int .i64 left, .slice a n c] 33)).alloc (.cells #[.int .i64 0, .int .i64 0, .slice none 0 0] 33)).heap[w.heap.size]? = some (.cells #[.int .i64 cap, .int .i64 left, .slice a n c] 33 (0, 0)) from (heap_alloc_old _ _ (by simp)).trans (heap_alloc_new w _))
  have HY := Lib.hid (heap_alloc2_new w (.cells #[.int .i64 cap, .int .i64 left, .slice a n c] 33) (.cells #[.int .i64 0, .int .i64 0, .slice none 0 0] 33))
  clear sf hr A1
  go_enter Try.func66, Try.ntmps66
  go_upto_region 1 with fail
  generalize ((w.alloc (.cells #[.int .i64 cap, .int .i64 left, .slice a n c] 33)).alloc (.cells #[.int .i64 0, .int .i64 0, .slice none 0 0] 33)) = W1 at *
  obtain ⟨x0, x1, x2⟩ := box3c HX.out
  have z2 := frozen_of_row W1 w.heap.size 2 _ _ HX.out
  have HX2 := Lib.hid (show (W1.setCell ⟨w.heap.size, 2, none⟩ (.slice af k cf)).heap[w.heap.size]? = some (.cells #[.int .i64 cap, .int .i64 left, .slice af k cf] 33 (0, 0)) from (by simpa using heap_setCell_same W1 w.heap.size 2 _ _ (.slice af k cf) HX.out))
  have HY2 := Lib.hid ((other1 (g := w.heap.size) (o := 2) (v := .slice af k cf) (by omega : w.heap.size + 1 ≠ w.heap.size)).trans HY.out)
  have B2 := Lib.hid (BX.out.setCell (p := ⟨w.heap.size, 2, none⟩) (Nat.le_refl _) (.slice af k cf))
  go_upto_region 2 with fail
  generalize W1.setCell ⟨w.heap.size, 2, none⟩ (.slice af k cf) = W2 at *
  clear x0 x1 x2 z2 HX HY BX
  obtain ⟨x0, x1, x2⟩ := box3c HX2.out
  by_cases hl : 0 < left
  · have e1 : decide (left > 0) = true := decide_eq_true hl
    have e2 : decide (0 < left) = true := decide_eq_true hl
    have HLV : Hid (leftN left = left - 1) := Lib.hid (by unfold leftN; rw [if_pos hl])
    have z1 := frozen_of_row W2 w.heap.size 1 _ _ HX2.out
    have hr := HR.out.2
    have hw : wrap64 (left - 1) = left - 1 := by unfold wrap64; omega
    have B7 := Lib.hid (B2.out.setCell (p := ⟨w.heap.size, 1, none⟩) (Nat.le_refl _) (.int .i64 (left - 1)))
    have HX7 := Lib.hid (show (W2.setCell ⟨w.heap.size, 1, none⟩ (.int .i64 (left - 1))).heap[w.heap.size]? = some (.cells #[.int .i64 cap, .int .i64 (left - 1), .slice af k cf] 33 (0, 0)) from (by simpa using heap_setCell_same W2 w.heap.size 1 _ _ (.int .i64 (left - 1)) HX2.out))
    have HY7 := Lib.hid ((other1 (g := w.heap.size) (o := 1) (v := .int .i64 (left - 1)) (Nat.succ_ne_self _ : w.heap.size + 1 ≠ w.heap.size)).trans HY2.out)
    have HRL : Hid (-9223372036854775808 ≤ left - 1 ∧ left - 1 ≤ 9223372036854775807) := Lib.hid (by clear hw; omega)
    clear hl hr
    go_upto_region 4 with fail
    clear hw e1 e2 z1 x0 x1 x2 HX2 HY2
    generalize W2.setCell ⟨w.heap.size, 1, none⟩ (.int .i64 (left - 1)) = W7 at *
    obtain ⟨x0, x1, x2⟩ := box3c HX7.out
    obtain ⟨v0, v1, v2⟩ := box3c HY7.out
    have y0 := frozen_of_row W7 (w.heap.size + 1) 0 _ _ HY7.out
    have y1 := frozen_of_row W7 (w.heap.size + 1) 1 _ _ HY7.out
    have y2 := frozen_of_row W7 (w.heap.size + 1) 2 _ _ HY7.out
    go_wp2
    refine bodyPost_ret (results_cell_row Try.results66 _ _ (w.heap.size + 1) 33 _ (0, 0) _ rfl (set3c HY7.out) Try.underlying33 rfl infoDi) rfl ?_
    refine ⟨⟨_, rfl, .slice af k cf, by rw [HLV.out], ⟨HR.out.1, by rw [HLV.out]; exact HRL.out⟩, rd_mono (rd_oldB SF.out (below_set3 B7.out (by omega))) fun b hb _ => Or.inl hb⟩, below_set3 B7.out (by omega)⟩
  · have e1 : decide (left > 0) = false := decide_eq_false hl
    have e2 : decide (0 < left) = false := decide_eq_false hl
    have HLV : Hid (leftN left = left) := Lib.hid (by unfold leftN; rw [if_neg hl])
    obtain ⟨v0, v1, v2⟩ := box3c HY2.out
    have y0 := frozen_of_row W2 (w.heap.size + 1) 0 _ _ HY2.out
    have y1 := frozen_of_row W2 (w.heap.size + 1) 1 _ _ HY2.out
    have y2 := frozen_of_row W2 (w.heap.size + 1) 2 _ _ HY2.out
    clear hl
    go_wp2
    refine bodyPost_ret (results_cell_row Try.results66 _ _ (w.heap.size + 1) 33 _ (0, 0) _ rfl (set3c HY2.out) Try.underlying33 rfl infoDi) rfl ?_
    refine ⟨⟨_, rfl, .slice af k cf, by rw [HLV.out], ⟨HR.out.1, by rw [HLV.out]; exact HR.out.2⟩, rd_mono (rd_oldB SF.out (below_set3 B2.out (by omega))) fun b hb _ => Or.inl hb⟩, below_set3 B2.out (by omega)⟩
/-- A call that answers a file. -/
def FlO (B : Nat → Prop) (w : World) (x : Fl) (e : Ending) (w' : World) : Prop := (∃ bv pv, e = .returned (.agg #[.string x.1, bv, pv]) ∧ Rd (fun b => B b ∨ w.heap.size ≤ b) w' tyF [.string x.1, bv, pv] x) ∧ Below w.heap.size w w'
theorem pfile_end1 {fn : Func} {p : Tmp} (h : fn.results = #[.cell p 59]) {R : Ending → World → Prop} {W : World} {g : Nat} {tmps : Array Value} {k c d : Value} (hg : W.heap[g]? = some (.cells #[k, c, d] 59 (0, 0))) (hp : tmps.getD p undef = .pointer (some ⟨g, 0, none⟩))
    (hR : R (.returned (.agg #[k, c, d])) W) : bodyPost Try.prog fn R .ret { tmps := tmps, defers := [] } W :=
  bodyPost_ret (results_cell_row h _ _ g 59 _ (0, 0) _ hp hg Try.underlying59 rfl infoFi) rfl hR
theorem set3_otherF {W : World} {g b o : Nat} {v : Value} (hb : b ≠ g) : (W.setCell ⟨g, o, none⟩ v).heap[b]? = W.heap[b]? := heap_setCell_other _ _ _ _ hb
set_option maxRecDepth 100000 in
set_option maxHeartbeats 6400000 in
theorem pwith_any {B : Nat → Prop} (x : Fl) (y : Wr) (bv pv dv : Value) (w : World) (sx : Rd B w tyF [.string x.1, bv, pv] x) (sy : Rd B w tyW [.int .i64 y.1, dv, .bool y.2.2] y) (hlen : x.2.2.length ≤ 90000) : Calls Try.prog 68 #[.agg #[.string x.1, bv, pv], .agg #[.int .i64 y.1, dv, .bool y.2.2]] w (FlO (fun b => B b ∧ b < w.heap.size) w (x.1, x.2.1, x.2.2 ++ [y])) := by
  obtain ⟨bv', pv', he, hsz, hb, hp⟩ := rd_f sx
  obtain ⟨rfl, rfl⟩ : bv = bv' ∧ pv = pv' := by simpa using he
  obtain ⟨dv', he2, hoff, hd⟩ := rd_w sy
  obtain rfl : dv = dv' := by simpa using he2
  obtain ⟨ab, cb, rfl, -, -⟩ := rd_sl hb
  obtain ⟨ap, cp, rfl, -, -⟩ := rd_sl hp
  obtain ⟨ad, cd, rfl, -, -⟩ := rd_sl hd
  have SB := Lib.hid hb
  have SP := Lib.hid hp
  have SY := Lib.hid sy
  have HSZ := Lib.hid hsz
  have HLEN := Lib.hid hlen
  obtain ⟨nm, base, pend⟩ := x
  dsimp only at SB SP HSZ HLEN ⊢
  obtain ⟨np, hnp⟩ : ∃ z, z = pend.length := ⟨_, rfl⟩
  rw [← hnp] at SP HLEN ⊢
  have HNP := Lib.hid hnp
  generalize base.length = nb at *
  obtain ⟨off, data, cut⟩ := y
  dsimp only at SY ⊢
  generalize data.length = nd at *
  clear sx sy hlen he hsz hb hp he2 hoff hd hnp
  have A1 := bel_al0 w (.cells #[.string nm, .slice ab nb cb, .slice ap np cp] 59)
  have A2 := btA A1 (bel_al0 _ (.cells #[.int .i64 off, .slice ad nd cd, .bool cut] 96))
  have BX := Lib.hid (btA A2 (bel_al0 _ (.cells #[.string ⟨#[]⟩, .slice none 0 0, .slice none 0 0] 59)))
  have HX := Lib.hid (show (((w.alloc (.cells #[.string nm, .slice ab nb cb, .slice ap np cp] 59)).alloc (.cells #[.int .i64 off, .slice ad nd cd, .bool cut] 96)).alloc (.cells #[.string ⟨#[]⟩, .slice none 0 0, .slice none 0 0] 59)).heap[w.heap.size]? = some (.cells #[.string nm, .slice ab nb cb, .slice ap np cp] 59 (0, 0)) from (heap_alloc_old _ _ (by simp; omega)).trans ((heap_alloc_old _ _ (by simp)).trans (heap_alloc_new w _)))
  have HY := Lib.hid (show (((w.alloc (.cells #[.string nm, .slice ab nb cb, .slice ap np cp] 59)).alloc (.cells #[.int .i64 off, .slice ad nd cd, .bool cut] 96)).alloc (.cells #[.string ⟨#[]⟩, .slice none 0 0, .slice none 0 0] 59)).heap[w.heap.size + 1]? = some (.cells #[.int .i64 off, .slice ad nd cd, .bool cut] 96 (0, 0)) from (heap_alloc_old _ _ (by simp)).trans (heap_alloc2_new w _ _))
  have HZ := Lib.hid (show (((w.alloc (.cells #[.string nm, .slice ab nb cb, .slice ap np cp] 59)).alloc (.cells #[.int .i64 off, .slice ad nd cd, .bool cut] 96)).alloc (.cells #[.string ⟨#[]⟩, .slice none 0 0, .slice none 0 0] 59)).heap[w.heap.size + 2]? = some (.cells #[.string ⟨#[]⟩, .slice none 0 0, .slice none 0 0] 59 (0, 0)) from by
    have h := heap_alloc2_new (w.alloc (.cells #[.string nm, .slice ab nb cb, .slice ap np cp] 59)) (.cells #[.int .i64 off, .slice ad nd cd, .bool cut] 96) (.cells #[.string ⟨#[]⟩, .slice none 0 0, .slice none 0 0] 59)
    simpa [Nat.add_assoc] using h)
  clear A1 A2
  go_enter Try.func68, Try.ntmps68
  go_upto_region 1 with fail
  generalize (((w.alloc (.cells #[.string nm, .slice ab nb cb, .slice ap np cp] 59)).alloc (.cells #[.int .i64 off, .slice ad nd cd, .bool cut] 96)).alloc (.cells #[.string ⟨#[]⟩, .slice none 0 0, .slice none 0 0] 59)) = W1 at *
  obtain ⟨x0, x1, x2⟩ := box3c HX.out
  obtain ⟨y0, y1, y2⟩ := box3c HY.out
  have D1 := bel_al0 W1 (.cells #[.int .i64 off, .slice ad nd cd, .bool cut] 96)
  have D2 := btA D1 (bel_al0 _ (.cells #[.slice ap np cp, .slice (some ⟨W1.heap.size, 0, none⟩) 1 1] 57))
  have hbox := heap_alloc2_new W1 (.cells #[.int .i64 off, .slice ad nd cd, .bool cut] 96) (.cells #[.slice ap np cp, .slice (some ⟨W1.heap.size, 0, none⟩) 1 1] 57)
  have hsng : Rd (fun b => (B b ∧ b < w.heap.size) ∨ w.heap.size + 3 ≤ b) (W1.alloc (.cells #[.int .i64 off, .slice ad nd cd, .bool cut] 96)) (.sl tyW) [.slice (some ⟨W1.heap.size, 0, none⟩) 1 1] [(off, data, cut)] := rd_single (t := tyW) (rd_mono (rd_oldB SY.out (btA BX.out D1)) fun b hb _ => Or.inl hb) (heap_alloc_new W1 _) (Or.inr (by have := lt_of_some0 HZ.out; omega))
  have CC := Lib.hid (pconcatW_any (W1.heap.size + 1) 2 [.slice ap np cp, .slice (some ⟨W1.heap.size, 0, none⟩) 1 1] [pend, [(off, data, cut)]] (0, 0) _ hbox rfl rfl (fun i hi => by
    match i, hi with
    | 0, _ => exact rd_mono (C := fun b => (B b ∧ b < w.heap.size) ∨ w.heap.size + 3 ≤ b) (rd_oldB SP.out (btA BX.out D2)) fun b hb _ => Or.inl hb
    | 1, _ => exact rd_below hsng (bel_al0 _ _)) (by decide) (by
      have h1 := HLEN.out
      have h2 := HNP.out
      simp
      omega))
  have BD := Lib.hid D2
  have hfl : [pend, [(off, data, cut)]].flatten = pend ++ [(off, data, cut)] := by simp
  rw [hfl] at CC
  have HX2 := Lib.hid ((D2.block _ (lt_of_some0 HX.out)).trans HX.out)
  have HZ2 := Lib.hid ((D2.block _ (lt_of_some0 HZ.out)).trans HZ.out)
  have B2 := Lib.hid (btA BX.out D2)
  have SZ1 := Lib.hid (lt_of_some0 HZ.out)
  clear D1 D2 hbox hsng hfl
  go_wp2_with fail
  refine CC.out.mono ?_
  rintro e w4 h4
  obtain ⟨⟨v4, rfl, hr4⟩, hb4⟩ := lo_slo h4
  have B4 := Lib.hid (btA B2.out hb4)
  have HX4 := Lib.hid ((hb4.block _ (lt_of_some0 HX2.out)).trans HX2.out)
  have HZ4 := Lib.hid ((hb4.block _ (lt_of_some0 HZ2.out)).trans HZ2.out)
  have RR := Lib.hid (rd_mono (C := fun b => (B b ∧ b < w.heap.size) ∨ w.heap.size + 3 ≤ b) hr4 fun b hb _ => by
    rcases hb with hb | hb
    · exact hb.1
    · exact Or.inr (by have h1 := SZ1.out; have h2 := BD.out.size; omega))
  obtain ⟨a4, c4, rfl, -, -⟩ := rd_sl hr4
  obtain ⟨n4, hn4⟩ : ∃ z, z = (pend ++ [(off, data, cut)]).length := ⟨_, rfl⟩
  rw [← hn4] at RR ⊢
  clear hr4 hb4 h4 CC x0 x1 x2 y0 y1 y2 HX HY HZ HX2 HZ2 B2 hn4
  obtain ⟨x0, x1, x2⟩ := box3c HX4.out
  have z2 := frozen_of_row w4 w.heap.size 2 _ _ HX4.out
  have HX5 := Lib.hid (show (w4.setCell ⟨w.heap.size, 2, none⟩ (.slice a4 n4 c4)).heap[w.heap.size]? = some (.cells #[.string nm, .slice ab nb cb, .slice a4 n4 c4] 59 (0, 0)) from (by simpa using heap_setCell_same w4 w.heap.size 2 _ _ (.slice a4 n4 c4) HX4.out))
  have HZ5 := Lib.hid ((other1 (g := w.heap.size) (o := 2) (v := .slice a4 n4 c4) (by omega : w.heap.size + 2 ≠ w.heap.size)).trans HZ4.out)
  have B5 := Lib.hid (B4.out.setCell (p := ⟨w.heap.size, 2, none⟩) (Nat.le_refl _) (.slice a4 n4 c4))
  have R5 := Lib.hid (rd_move (w' := w4.setCell ⟨w.heap.size, 2, none⟩ (.slice a4 n4 c4)) (fun b hb _ => set3_otherF (by omega)) (fun b hb _ => hb) RR.out)
  go_upto_region 2 with fail
  clear x0 x1 x2 z2 HX4 HZ4 RR
  generalize w4.setCell ⟨w.heap.size, 2, none⟩ (.slice a4 n4 c4) = W5 at *
  obtain ⟨x0, x1, x2⟩ := box3c HX5.out
  obtain ⟨v0, v1, v2⟩ := box3c HZ5.out
  have y0 := frozen_of_row W5 (w.heap.size + 2) 0 _ _ HZ5.out
  have y1 := frozen_of_row W5 (w.heap.size + 2) 1 _ _ HZ5.out
  have y2 := frozen_of_row W5 (w.heap.size + 2) 2 _ _ HZ5.out
  go_wp2
  refine pfile_end1 rfl (set3c HZ5.out) rfl ?_
  refine ⟨⟨_, _, rfl, rd_f_mk HSZ.out ?_ ?_⟩, below_set3 B5.out (by omega)⟩
  · exact rd_move (fun b hb _ => set3_other (by omega)) (fun b hb _ => Or.inl hb) (rd_oldB SB.out B5.out)
  · exact rd_move (fun b hb hl => set3_other (by
      intro e
      rcases hb with hb | hb
      · omega
      · omega)) (fun b hb _ => hb.elim Or.inl fun h => Or.inr (by omega)) R5.out
theorem run_some_nil8 (w : World) (a : Addr) (n c : Nat) : (binOp .eql 52 (.slice (some a) n c) (.slice none 0 0)).run Try.prog w = .ok (.bool false) w := by
  have h : ∀ d : Nat, (Op.equalIn (d + 1) 52 (.slice (some a) n c) (.slice none 0 0)).run Try.prog w = .ok false w := fun d => by
    simp [Op.equalIn, run_underlying Try.underlying52]
  simp only [binOp]
  simp [Op.equal, Op.maxDepth, h 9999]
theorem run_none_nil8 (w : World) (n c : Nat) : (binOp .eql 52 (.slice none n c) (.slice none 0 0)).run Try.prog w = .ok (.bool true) w := by
  have h : ∀ d : Nat, (Op.equalIn (d + 1) 52 (.slice none n c) (.slice none 0 0)).run Try.prog w = .ok true w := fun d => by
    simp [Op.equalIn, run_underlying Try.underlying52]
  simp only [binOp]
  simp [Op.equal, Op.maxDepth, h 9999]
set_option maxRecDepth 100000 in
set_option maxHeartbeats 6400000 in
theorem pclone8_any (v : Value) (l : List Nat) (w : World) (s : Sl w v l) (hl : l.length ≤ 90000000) : Calls Try.prog 83 #[v] w (BA w l) := by
  obtain ⟨a, c, rfl, -, -⟩ := sl_form s
  cases a with
  | none =>
    have h0 : l = [] := by
      rcases Nat.eq_zero_or_pos l.length with h | h
      · exact List.eq_nil_of_length_eq_zero h
      · obtain ⟨b, o, c', e, -⟩ := sl_cells s h
        simp at e
    subst h0
    have hq := run_none_nil8 w 0 c
    rw [List.length_nil]
    clear s hl
    go_enter Try.func83, Try.ntmps83
    go_wp2
    go_ret
    exact ⟨⟨_, rfl, own_nil _ _⟩, Below.refl _ _⟩
  | some a =>
    obtain ⟨n, hn⟩ : ∃ z, z = l.length := ⟨_, rfl⟩
    rw [← hn] at s ⊢
    have S := Lib.hid s
    have HL : Hid (([] : List Nat).length + l.length ≤ 100000000) := Lib.hid (by simp; omega)
    have hq := run_some_nil8 w a n c
    have OE := Lib.hid (own_empty w (Nat.le_refl _))
    have BE := Lib.hid (bel_al0 w (.cells #[] 5))
    clear s hl hn
    go_enter Try.func83, Try.ntmps83
    go_wp2_with (at_builtin; refine app_sl (dst := some 7) ?_ ?_ OE.out (sl_below S.out BE.out) HL.out (by simp) ?_; exact rfl; exact rfl; intro v5 w5 ho5 hg5; rw [List.nil_append] at ho5; have B5 := Lib.hid (BE.out.grown hg5 BE.out.size fun q hq => OE.out.lt q hq); have O5 := Lib.hid ho5; clear ho5 hg5)
    go_ret
    exact ⟨⟨_, rfl, O5.out⟩, B5.out⟩
end Go.Proofs.Ytpipgbjkkiheaaa.Gf
