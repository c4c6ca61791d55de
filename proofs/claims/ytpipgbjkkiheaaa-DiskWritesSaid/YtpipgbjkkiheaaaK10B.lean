/- What is proved here: contracts of the reference (disk): New, Arm, next, added, total, Names, Create. Conditions: see each. -/
import Derived.Test.YtpipgbjkkiheaaaGn
import Derived.Test.YtpipgbjkkiheaaaK10A
import Derived.Deep.Cut
namespace Go.Proofs.Ytpipgbjkkiheaaa.Gf
open Go Go.ChangeShapes Go.WideShapes Go.ChangeAt Go.RowKit

/-- Stores of values one behind the other. -/
def setCs (w : World) (g : Nat) : Nat → List Value → World
  | _, [] => w
  | o, v :: r => setCs (w.setCell ⟨g, o, none⟩ v) g (o + 1) r
theorem setCs_other {g k : Nat} (hk : k ≠ g) : ∀ (cs : List Value) (w : World) (o : Nat), (setCs w g o cs).heap[k]? = w.heap[k]?
  | [], _, _ => rfl
  | v :: r, w, o => by
    rw [setCs, setCs_other hk r]
    exact heap_setCell_other _ _ _ _ hk
theorem setCs_size {g : Nat} : ∀ (cs : List Value) (w : World) (o : Nat), (setCs w g o cs).heap.size = w.heap.size
  | [], _, _ => rfl
  | v :: r, w, o => by
    rw [setCs, setCs_size r]
    simp
theorem setCs_row {g : Nat} {T : TypeId} : ∀ (cs : List Value) (w : World) (o : Nat) (cur : Array Value), w.heap[g]? = some (.cells cur T (0, 0)) → o + cs.length ≤ cur.size → ∃ cur', (setCs w g o cs).heap[g]? = some (.cells cur' T (0, 0)) ∧ cur'.size = cur.size ∧ ∀ j, cur'[j]? = if o ≤ j ∧ j < o + cs.length then cs[j - o]? else cur[j]?
  | [], w, o, cur, h, _ => ⟨cur, h, rfl, fun j => by rw [if_neg (by simp)]⟩
  | v :: r, w, o, cur, h, hl => by
    have h1 := heap_setCell_same w g o cur T v h
    obtain ⟨cur', e1, e2, e3⟩ := setCs_row r _ (o + 1) (cur.setIfInBounds o v) h1 (by simp at hl ⊢; omega)
    refine ⟨cur', e1, by simpa using e2, fun j => ?_⟩
    rw [e3 j]
    simp only [List.length_cons] at hl ⊢
    by_cases c : o + 1 ≤ j ∧ j < o + 1 + r.length
    · rw [if_pos c, if_pos (by omega), show j - o = (j - (o + 1)) + 1 by omega, List.getElem?_cons_succ]
    · rw [if_neg c]
      by_cases c2 : j = o
      · subst c2
        rw [if_pos (by omega), Nat.sub_self, List.getElem?_cons_zero, Array.getElem?_setIfInBounds_self_of_lt (by omega)]
      · rw [if_neg (by omega), Array.getElem?_setIfInBounds_ne (Ne.symm c2)]
theorem below_setCs {B g : Nat} {a : World} (hg : B ≤ g) : ∀ (cs : List Value) (w : World) (o : Nat), Below B a w → Below B a (setCs w g o cs)
  | [], _, _, h => h
  | v :: r, _, o, h => below_setCs hg r _ _ (h.setCell (p := ⟨g, o, none⟩) hg v)
theorem flat_set {t : Ty} {B : Nat → Prop} {w : World} {L : List (List Value × t.T)} (hL : ∀ p ∈ L, Rd B w t p.1 p.2) {i : Nat} {q : List Value × t.T} (hq : q.1.length = t.n) (hi : i < L.length) (j : Nat) : ((L.set i q).flatMap Prod.fst)[j]? = if i * t.n ≤ j ∧ j < i * t.n + t.n then q.1[j - i * t.n]? else (L.flatMap Prod.fst)[j]? := by
  induction L generalizing i j with
  | nil => simp at hi
  | cons p L ih =>
    have hp := rd_len (hL p (List.mem_cons_self ..))
    have hn := t.n_pos
    cases i with
    | zero =>
      rw [List.set_cons_zero, List.flatMap_cons, List.flatMap_cons, Nat.zero_mul]
      by_cases c : j < t.n
      · rw [List.getElem?_append_left (by omega), if_pos (by omega), Nat.sub_zero]
      · rw [List.getElem?_append_right (by omega), if_neg (by omega), List.getElem?_append_right (by omega), hq, hp]
    | succ i =>
      have e : (i + 1) * t.n = i * t.n + t.n := Nat.succ_mul i t.n
      rw [List.set_cons_succ, List.flatMap_cons, List.flatMap_cons]
      by_cases c : j < t.n
      · rw [List.getElem?_append_left (by omega), if_neg (by omega), List.getElem?_append_left (by omega)]
      · rw [List.getElem?_append_right (by omega), List.getElem?_append_right (by omega), ih (fun r hr => hL r (List.mem_cons_of_mem _ hr)) (by simpa using hi), hp]
        by_cases c2 : i * t.n ≤ j - t.n ∧ j - t.n < i * t.n + t.n
        · rw [if_pos c2, if_pos (by omega), show j - t.n - i * t.n = j - (i + 1) * t.n by omega]
        · rw [if_neg c2, if_neg (by omega)]
/-- A store into an element of a list of the call's own. -/
theorem og_set {T : TypeId} {t : Ty} {B : Nat → Prop} {w : World} {base g n cap : Nat} {l : List t.T} (h : OwG T t B w base (.slice (some ⟨g, 0, none⟩) n cap) l) {i : Nat} (hi : i < l.length) {cs : List Value} {x : t.T} (hx : Rd (fun b => B b ∧ b ≠ g) w t cs x) : OwG T t B (setCs w g (i * t.n) cs) base (.slice (some ⟨g, 0, none⟩) n cap) (l.set i x) := by
  obtain ⟨L, rfl, h0, e1, e2 | ⟨q, c, cur, e3, hq, hb, hn, hm, hsz, ht⟩⟩ := h
  · cases e2.1
  · obtain ⟨⟨rfl⟩, rfl, rfl⟩ : (g = q ∧ True) ∧ n = L.length ∧ cap = c := by simpa using e3
    rw [List.length_map] at hi
    have hlen := rd_len hx
    have hfl := flat_len h0
    have hle : i * t.n + t.n ≤ L.length * t.n := by rw [← Nat.succ_mul]; exact Nat.mul_le_mul_right _ hi
    have hcur : L.length * t.n ≤ cur.size := by rw [hsz]; exact Nat.mul_le_mul_right _ hn
    obtain ⟨cur', k1, k2, k3⟩ := setCs_row cs w (i * t.n) cur hb (by omega)
    have hmv : ∀ {cs' : List Value} {y : t.T}, Rd (fun b => B b ∧ b ≠ g) w t cs' y → Rd (fun b => B b ∧ (Value.slice (some ⟨g, 0, none⟩) L.length cap).ownBlock ≠ some b) (setCs w g (i * t.n) cs) t cs' y := fun hr => rd_move (fun b hb2 _ => setCs_other hb2.2 cs w _) (fun b hb2 _ => ⟨hb2.1, fun e => hb2.2 (by simpa [Value.ownBlock] using e.symm)⟩) hr
    refine ⟨L.set i (cs, x), by rw [List.map_set], fun p hp => ?_, ?_⟩
    · rcases List.mem_or_eq_of_mem_set hp with hp | rfl
      · exact hmv (rd_mono (h0 p hp) fun b hb2 _ => ⟨hb2.1, fun e => hb2.2 (by rw [e]; rfl)⟩)
      · exact hmv hx
    · rw [List.length_set]
      have hfs : ∀ p ∈ L.set i (cs, x), p.1.length = t.n := fun p hp => by
        rcases List.mem_or_eq_of_mem_set hp with hp | rfl
        · exact rd_len (h0 p hp)
        · exact hlen
      have hfl2 : ((L.set i (cs, x)).flatMap Prod.fst).length = L.length * t.n := by
        have : ∀ (M : List (List Value × t.T)), (∀ p ∈ M, p.1.length = t.n) → (M.flatMap Prod.fst).length = M.length * t.n := fun M => by
          induction M with
          | nil => intro _; simp
          | cons p M ih =>
            intro hM
            rw [List.flatMap_cons, List.length_append, hM p (List.mem_cons_self ..), ih fun r hr => hM r (List.mem_cons_of_mem _ hr), List.length_cons, Nat.succ_mul]
            omega
        rw [this _ hfs, List.length_set]
      refine ⟨hfl2, Or.inr ⟨g, cap, cur', rfl, hq, k1, hn, hm, by rw [k2, hsz], ?_⟩⟩
      apply List.ext_getElem?
      intro j
      rw [flat_set h0 hlen hi j, List.getElem?_take]
      by_cases c : j < L.length * t.n
      · rw [if_pos c]
        have hj := k3 j
        rw [Array.getElem?_toList, hj, hlen]
        by_cases c2 : i * t.n ≤ j ∧ j < i * t.n + t.n
        · rw [if_pos c2, if_pos c2]
        · rw [if_neg c2, if_neg c2, ← ht, List.getElem?_take, if_pos c, Array.getElem?_toList]
      · rw [if_neg c, if_neg (by omega), List.getElem?_eq_none (by omega)]
end Go.Proofs.Ytpipgbjkkiheaaa.Gf
namespace Go.Proofs.Ytpipgbjkkiheaaa.Gf
open Go Go.Joins Go.ChangeShapes Go.WideShapes Go.ChangeAt Go.RowKit Go.Deep Go.Proofs.Ytpipgbjkkiheaaa.By Go.Proofs.Ytpipgbjkkiheaaa.Qt

theorem infoD : (Try.prog.info? 24).map (·.size) = some 3 := by kernel_rfl
theorem lsF : LsT Try.prog 22 63 tyF := lsT_of Try.underlying22 (z := .agg #[.string ⟨#[]⟩, .slice none 0 0, .slice none 0 0]) (n := 3) (b := 64) (by kernel_rfl) rfl (by decide) rfl
theorem lsW : LsT Try.prog 61 94 tyW := lsT_of Try.underlying61 (z := .agg #[.int .i64 0, .slice none 0 0, .bool false]) (n := 3) (b := 40) (by kernel_rfl) rfl (by decide) rfl
/-- A disk as a value, whose blocks are among those of B. -/
def DvB (B : Nat → Prop) (w : World) (v : Value) (d : Dk) : Prop := ∃ fv, v = .agg #[.int .i64 d.1, .int .i64 d.2.1, fv] ∧ ((-9223372036854775808 ≤ d.1 ∧ d.1 ≤ 9223372036854775807) ∧ (-9223372036854775808 ≤ d.2.1 ∧ d.2.1 ≤ 9223372036854775807)) ∧ Rd B w (.sl tyF) [fv] d.2.2
theorem dvB_dv {B : Nat → Prop} {w : World} {v : Value} {d : Dk} (h : DvB B w v d) : Dv w v d := by
  obtain ⟨fv, h1, h2, h3⟩ := h
  exact ⟨fv, h1, h2, rd_mono h3 fun _ _ _ => trivial⟩
/-- What was read in an older world lies in older blocks. -/
theorem rd_oldB {w w' : World} {t : Ty} {cs : List Value} {x : t.T} {B : Nat → Prop} (h : Rd B w t cs x) (hB : Below w.heap.size w w') : Rd (fun b => B b ∧ b < w.heap.size) w' t cs x := rd_below (rd_mono h fun _ hb hl => ⟨hb, hl⟩) hB
theorem dv_dvB {w w' : World} {v : Value} {d : Dk} (h : Dv w v d) (hB : Below w.heap.size w w') : DvB (fun b => b < w.heap.size) w' v d := by
  obtain ⟨fv, h1, h2, h3⟩ := h
  exact ⟨fv, h1, h2, rd_mono (rd_oldB h3 hB) fun _ hb _ => hb.2⟩
/-- A call that answers a disk. -/
def DvO (B : Nat → Prop) (w : World) (d : Dk) (e : Ending) (w' : World) : Prop := (∃ v, e = .returned v ∧ DvB (fun b => B b ∨ w.heap.size ≤ b) w' v d) ∧ Below w.heap.size w w'
def newD (limit : Int) : Dk := (max 0 limit, -1, [])
def armD (d : Dk) (n : Int) : Dk := (d.1, max (-1) n, d.2.2)
def nextD (d : Dk) : Dk := (d.1, leftN d.2.1, d.2.2)
set_option maxRecDepth 100000 in
theorem rnew_any (limit : Int) (hl : -9223372036854775808 ≤ limit ∧ limit ≤ 9223372036854775807) (B : Nat → Prop) (w : World) : Calls Try.prog 26 #[.int .i64 limit] w (DvO B w (newD limit)) := by
  have HL := Lib.hid hl
  clear hl
  go_enter Try.func26, Try.ntmps26
  go_wp2
  refine bodyPost_ret (results_cell_row Try.results26 _ _ w.heap.size 24 _ (0, 0) _ rfl (heap_alloc_new w _) Try.underlying24 rfl infoD) rfl ?_
  have h := HL.out
  exact ⟨⟨_, rfl, .slice none 0 0, rfl, ⟨⟨by show _ ≤ max 0 limit; omega, by show max 0 limit ≤ _; omega⟩, by show _ ≤ (-1 : Int); omega, by show (-1 : Int) ≤ _; omega⟩, rd_nil _ _ _⟩, bel_al0 w _⟩
set_option maxRecDepth 100000 in
theorem rarm_any {B : Nat → Prop} (v : Value) (d : Dk) (n : Int) (hn : -9223372036854775808 ≤ n ∧ n ≤ 9223372036854775807) (w : World) (hv : DvB B w v d) : Calls Try.prog 22 #[v, .int .i64 n] w (DvO B w (armD d n)) := by
  obtain ⟨fv, rfl, hr, sf⟩ := hv
  have SF := Lib.hid sf
  have HR := Lib.hid (And.intro hr hn)
  obtain ⟨af, cf, rfl, -, -⟩ := rd_sl sf
  obtain ⟨cap, left, L⟩ := d
  dsimp only at SF HR ⊢
  generalize L.length = k at *
  clear sf hr hn
  go_enter Try.func22, Try.ntmps22
  go_wp2
  refine bodyPost_ret (results_cell_row Try.results22 _ _ (w.heap.size + 1) 24 _ (0, 0) _ rfl (heap_alloc2_new w _ _) Try.underlying24 rfl infoD) rfl ?_
  have h := HR.out
  have hb := btA (bel_al0 w (.cells #[.int .i64 cap, .int .i64 (max (-1) n), .slice af k cf] 24)) (bel_al0 _ (.cells #[.int .i64 cap, .int .i64 (max (-1) n), .slice af k cf] 24))
  exact ⟨⟨_, rfl, .slice af k cf, rfl, ⟨h.1.1, by show _ ≤ max (-1) n; omega, by show max (-1) n ≤ _; omega⟩, rd_mono (rd_below SF.out hb) fun _ h _ => Or.inl h⟩, hb⟩
theorem og_empty {T : TypeId} (t : Ty) (B : Nat → Prop) (W : World) {base k : Nat} (hk : W.heap.size = k) (hb : base ≤ k) : OwG T t B (W.alloc (.cells #[] T)) base (.slice (some ⟨k, 0, none⟩) 0 0) [] := by
  subst hk
  exact ⟨[], rfl, by simp, by simp, Or.inr ⟨W.heap.size, 0, #[], rfl, hb, heap_alloc_new _ _, Nat.le_refl _, by simp, by simp, by simp⟩⟩
theorem set3c {W : World} {g : Nat} {a b c k l m : Value} {T : TypeId} (h : W.heap[g]? = some (.cells #[a, b, c] T (0, 0))) : (((W.setCell ⟨g, 0, none⟩ k).setCell ⟨g, 1, none⟩ l).setCell ⟨g, 2, none⟩ m).heap[g]? = some (.cells #[k, l, m] T (0, 0)) := by
  have h1 := heap_setCell_same W g 0 _ _ k h
  have h2 := heap_setCell_same _ g 1 _ _ l h1
  have h3 := heap_setCell_same _ g 2 _ _ m h2
  simpa using h3
theorem other1 {W : World} {g o b : Nat} {v : Value} (hb : b ≠ g) : (W.setCell ⟨g, o, none⟩ v).heap[b]? = W.heap[b]? := heap_setCell_other _ _ _ _ hb
theorem set3_other {W : World} {g b : Nat} {k l m : Value} (hb : b ≠ g) : (((W.setCell ⟨g, 0, none⟩ k).setCell ⟨g, 1, none⟩ l).setCell ⟨g, 2, none⟩ m).heap[b]? = W.heap[b]? :=
  (heap_setCell_other _ _ _ _ hb).trans ((heap_setCell_other _ _ _ _ hb).trans (heap_setCell_other _ _ _ _ hb))
theorem below_set3 {B : Nat} {w W : World} {g : Nat} {k l m : Value} (h : Below B w W) (hg : B ≤ g) : Below B w (((W.setCell ⟨g, 0, none⟩ k).setCell ⟨g, 1, none⟩ l).setCell ⟨g, 2, none⟩ m) :=
  ((h.setCell (p := ⟨g, 0, none⟩) hg _).setCell (p := ⟨g, 1, none⟩) hg _).setCell (p := ⟨g, 2, none⟩) hg _
/-- What was read in an older world lies in older blocks. -/
theorem rd_old {w w' : World} {t : Ty} {cs : List Value} {x : t.T} {B : Nat → Prop} (h : Rd B w t cs x) (hB : Below w.heap.size w w') : Rd (fun b => b < w.heap.size) w' t cs x := rd_below (rd_mono h fun _ _ hl => hl) hB
/-- A call that answers a disk whose list of files is the call's own. -/
def NxO (B : Nat → Prop) (w : World) (d : Dk) (e : Ending) (w' : World) : Prop := (∃ fv, e = .returned (.agg #[.int .i64 d.1, .int .i64 d.2.1, fv]) ∧ OwG 63 tyF (fun b => B b ∧ b < w.heap.size) w' w.heap.size fv d.2.2) ∧ Below w.heap.size w w'
set_option maxRecDepth 100000 in
set_option maxHeartbeats 6400000 in
theorem rnext_any {B : Nat → Prop} (v : Value) (d : Dk) (w : World) (hv : DvB B w v d) (hlen : d.2.2.length ≤ 1000000) : Calls Try.prog 85 #[v] w (NxO B w (nextD d)) := by
  obtain ⟨fv, rfl, hr, sf⟩ := hv
  have SF := Lib.hid sf
  have HR := Lib.hid hr
  obtain ⟨af, cf, rfl, -, -⟩ := rd_sl sf
  obtain ⟨cap, left, L⟩ := d
  dsimp only at SF HR hlen ⊢
  have HLEN := Lib.hid hlen
  obtain ⟨k, hk⟩ : ∃ z, z = L.length := ⟨_, rfl⟩
  rw [← hk] at SF HLEN ⊢
  have HK := Lib.hid hk
  clear hk
  have A1 := bel_al0 w (.cells #[.int .i64 cap, .int .i64 left, .slice af k cf] 24)
  have A2 := btA A1 (bel_al0 _ (.cells #[.int .i64 0, .int .i64 0, .slice none 0 0] 24))
  have A3 := bel_al0 ((w.alloc (.cells #[.int .i64 cap, .int .i64 left, .slice af k cf] 24)).alloc (.cells #[.int .i64 0, .int .i64 0, .slice none 0 0] 24)) (.cells #[] 63)
  have hsz : ((w.alloc (.cells #[.int .i64 cap, .int .i64 left, .slice af k cf] 24)).alloc (.cells #[.int .i64 0, .int .i64 0, .slice none 0 0] 24)).heap.size = w.heap.size + 2 := by simp
  have OE := Lib.hid (og_empty (T := 63) tyF (fun b => B b ∧ b < w.heap.size) ((w.alloc (.cells #[.int .i64 cap, .int .i64 left, .slice af k cf] 24)).alloc (.cells #[.int .i64 0, .int .i64 0, .slice none 0 0] 24)) (base := w.heap.size + 2) hsz (Nat.le_refl _))
  have BA := Lib.hid (btA A2 A3)
  have B3 := Lib.hid A3
  have SZ := Lib.hid hsz
  have H1 := Lib.hid (A3.block _ (by rw [hsz]; omega : w.heap.size < _) |>.trans ((heap_alloc_old _ _ (by simp)).trans (heap_alloc_new w (.cells #[.int .i64 cap, .int .i64 left, .slice af k cf] 24))))
  have H2 := Lib.hid (A3.block _ (by rw [hsz]; omega : w.heap.size + 1 < _) |>.trans (heap_alloc2_new w (.cells #[.int .i64 cap, .int .i64 left, .slice af k cf] 24) (.cells #[.int .i64 0, .int .i64 0, .slice none 0 0] 24)))
  clear sf hr hlen A1 A2 A3 hsz
  go_enter Try.func85, Try.ntmps85
  go_upto_region 2 with (at_builtin; (refine app_g lsF (dst := some 6) ?_ ?_ OE.out (rd_mono (rd_oldB SF.out BA.out) fun b hb _ => ⟨hb, fun e => by have h1 := (og_lt OE.out _ e).1; omega⟩) (by have h1 := HLEN.out; have h2 := HK.out; simp only [List.length_nil]; omega) (by have h1 := B3.out.size; have h2 := SZ.out; omega) ?_; exact rfl; exact rfl; intro v5 w5 ho5 hg5 hat5; rw [List.nil_append] at ho5; have B5 := Lib.hid (below_grownG B3.out hg5 OE.out (by have h1 := B3.out.size; omega) (by have h1 := SZ.out; omega)); have HX5 := Lib.hid ((hg5.block _ (lt_of_some0 H1.out) fun e => by have h1 := (og_lt OE.out _ e.symm).1; omega).trans H1.out); have HY5 := Lib.hid ((hg5.block _ (lt_of_some0 H2.out) fun e => by have h1 := (og_lt OE.out _ e.symm).1; omega).trans H2.out); obtain ⟨a5, c5, rfl, -, -⟩ := og_form ho5; have O5 := Lib.hid ho5; rw [← HK.out] at O5 ⊢; obtain ⟨g0, g1, g2⟩ := box3c HX5.out; have z2 := frozen_of_row _ w.heap.size 2 _ _ HX5.out; have HX6 := Lib.hid (show (w5.setCell ⟨w.heap.size, 2, none⟩ (.slice a5 k c5)).heap[w.heap.size]? = some (.cells #[.int .i64 cap, .int .i64 left, .slice a5 k c5] 24 (0, 0)) from (by simpa using heap_setCell_same w5 w.heap.size 2 _ _ (.slice a5 k c5) HX5.out)); obtain ⟨x0, x1, x2⟩ := box3c HX6.out; clear ho5 hg5 hat5))
  have BW := Lib.hid (show Below w.heap.size w w5 from by
    have h1 := BA.out
    exact (btA (bel_al0 w (.cells #[.int .i64 cap, .int .i64 left, .slice af k cf] 24)) (bel_al0 _ (.cells #[.int .i64 0, .int .i64 0, .slice none 0 0] 24))).trans (B5.out.mono (by have := SZ.out; omega)))
  have B6 := Lib.hid (BW.out.setCell (p := ⟨w.heap.size, 2, none⟩) (Nat.le_refl _) (.slice a5 k c5))
  have O6 := Lib.hid (og_move (w' := w5.setCell ⟨w.heap.size, 2, none⟩ (.slice a5 k c5)) O5.out fun b hb _ => heap_setCell_other _ _ _ _ (by
    show b ≠ w.heap.size
    rcases hb with hb | hb
    · omega
    · have := (og_lt O5.out _ hb).1
      omega))
  have HY6 := Lib.hid ((other1 (g := w.heap.size) (o := 2) (v := .slice a5 k c5) (by omega : w.heap.size + 1 ≠ w.heap.size)).trans HY5.out)
  clear z2 g0 g1 g2 x0 x1 x2 O5 B5 HX5 HY5 BW OE BA B3 SZ H1 H2
  generalize w5.setCell ⟨w.heap.size, 2, none⟩ (.slice a5 k c5) = W6 at *
  obtain ⟨x0, x1, x2⟩ := box3c HX6.out
  by_cases hl : 0 < left
  · have e1 : decide (left > 0) = true := decide_eq_true hl
    have e2 : decide (0 < left) = true := decide_eq_true hl
    have HLV : Hid (leftN left = left - 1) := Lib.hid (by unfold leftN; rw [if_pos hl])
    have z1 := frozen_of_row W6 w.heap.size 1 _ _ HX6.out
    have hr := HR.out.2
    have hw : wrap64 (left - 1) = left - 1 := by unfold wrap64; omega
    have B7 := Lib.hid (B6.out.setCell (p := ⟨w.heap.size, 1, none⟩) (Nat.le_refl _) (.int .i64 (left - 1)))
    have O7 := Lib.hid (og_move (w' := W6.setCell ⟨w.heap.size, 1, none⟩ (.int .i64 (left - 1))) O6.out fun b hb _ => heap_setCell_other _ _ _ _ (by
      show b ≠ w.heap.size
      rcases hb with hb | hb
      · clear hw; omega
      · have := (og_lt O6.out _ hb).1
        clear hw; omega))
    have HX7 := Lib.hid (show (W6.setCell ⟨w.heap.size, 1, none⟩ (.int .i64 (left - 1))).heap[w.heap.size]? = some (.cells #[.int .i64 cap, .int .i64 (left - 1), .slice a5 k c5] 24 (0, 0)) from (by simpa using heap_setCell_same W6 w.heap.size 1 _ _ (.int .i64 (left - 1)) HX6.out))
    have HY7 := Lib.hid ((other1 (g := w.heap.size) (o := 1) (v := .int .i64 (left - 1)) (Nat.succ_ne_self _ : w.heap.size + 1 ≠ w.heap.size)).trans HY6.out)
    clear hl hr
    go_upto_region 4 with fail
    clear hw e1 e2 z1 x0 x1 x2 O6 B6 HX6 HY6
    generalize W6.setCell ⟨w.heap.size, 1, none⟩ (.int .i64 (left - 1)) = W7 at *
    obtain ⟨x0, x1, x2⟩ := box3c HX7.out
    obtain ⟨v0, v1, v2⟩ := box3c HY7.out
    have y0 := frozen_of_row W7 (w.heap.size + 1) 0 _ _ HY7.out
    have y1 := frozen_of_row W7 (w.heap.size + 1) 1 _ _ HY7.out
    have y2 := frozen_of_row W7 (w.heap.size + 1) 2 _ _ HY7.out
    · go_wp2
      refine bodyPost_ret (results_cell_row Try.results85 _ _ (w.heap.size + 1) 24 _ (0, 0) _ rfl (set3c HY7.out) Try.underlying24 rfl infoD) rfl ?_
      refine ⟨⟨.slice a5 k c5, by rw [show (nextD (cap, left, L)).2.1 = left - 1 from HLV.out]; rfl, og_base (og_move O7.out fun b hb _ => ?_) (by omega)⟩, below_set3 B7.out (by omega)⟩
      have hne : b ≠ w.heap.size + 1 := by
        rcases hb with hb | hb
        · omega
        · have := (og_lt O7.out _ hb).1
          omega
      exact set3_other hne
  · have e1 : decide (left > 0) = false := decide_eq_false hl
    have e2 : decide (0 < left) = false := decide_eq_false hl
    have HLV : Hid (leftN left = left) := Lib.hid (by unfold leftN; rw [if_neg hl])
    have B7 := B6
    have O7 := O6
    have HY7 := HY6
    obtain ⟨v0, v1, v2⟩ := box3c HY7.out
    have y0 := frozen_of_row W6 (w.heap.size + 1) 0 _ _ HY7.out
    have y1 := frozen_of_row W6 (w.heap.size + 1) 1 _ _ HY7.out
    have y2 := frozen_of_row W6 (w.heap.size + 1) 2 _ _ HY7.out
    clear hl
    · go_wp2
      refine bodyPost_ret (results_cell_row Try.results85 _ _ (w.heap.size + 1) 24 _ (0, 0) _ rfl (set3c HY7.out) Try.underlying24 rfl infoD) rfl ?_
      refine ⟨⟨.slice a5 k c5, by rw [show (nextD (cap, left, L)).2.1 = left from HLV.out]; rfl, og_base (og_move O7.out fun b hb _ => ?_) (by omega)⟩, below_set3 B7.out (by omega)⟩
      have hne : b ≠ w.heap.size + 1 := by
        rcases hb with hb | hb
        · omega
        · have := (og_lt O7.out _ hb).1
          omega
      exact set3_other hne
end Go.Proofs.Ytpipgbjkkiheaaa.Gf
namespace Go.Proofs.Ytpipgbjkkiheaaa.Gf
open Go Go.Joins Go.ChangeShapes Go.WideShapes Go.ChangeAt Go.RowKit Go.Deep Go.Proofs.Ytpipgbjkkiheaaa.By Go.Proofs.Ytpipgbjkkiheaaa.Qt

def nmGe (a b : ByteArray) : Bool := !(Op.bytesLess a.toList b.toList)
/-- What added does with a file of the list. -/
def addS1 (f : Fl) (st : List Fl × Bool) (g : Fl) : List Fl × Bool := if (!st.2 && nmGe g.1 f.1) = true then (st.1 ++ [f], true) else st
def addS (f : Fl) (st : List Fl × Bool) (g : Fl) : List Fl × Bool := if nmEq g.1 f.1 = true then addS1 f st g else ((addS1 f st g).1 ++ [g], (addS1 f st g).2)
def addF (L : List Fl) (f : Fl) : List Fl × Bool := L.foldl (addS f) ([], false)
def addedL (L : List Fl) (f : Fl) : List Fl := if (addF L f).2 then (addF L f).1 else (addF L f).1 ++ [f]
theorem addF_take {L : List Fl} {f : Fl} {i : Nat} (h : i < L.length) : addF (L.take (i + 1)) f = addS f (addF (L.take i) f) (L.getD i fl0) := by
  unfold addF
  rw [List.take_succ_eq_append_getElem h, List.foldl_append, getD_F h]
  rfl
theorem addF_len (f : Fl) (L : List Fl) : (addF L f).1.length ≤ 2 * L.length := by
  have h : ∀ (L : List Fl) (st : List Fl × Bool), (L.foldl (addS f) st).1.length ≤ st.1.length + 2 * L.length := fun L => by
    induction L with
    | nil => intro st; simp
    | cons g L ih =>
      intro st
      rw [List.foldl_cons, List.length_cons]
      have h1 : (addS1 f st g).1.length ≤ st.1.length + 1 := by
        unfold addS1
        split
        · simp
        · omega
      have h2 : (addS f st g).1.length ≤ st.1.length + 2 := by
        unfold addS
        split
        · omega
        · simp; omega
      have := ih (addS f st g)
      omega
  have := h L ([], false)
  unfold addF
  simpa using this
theorem rd_f_mk {B : Nat → Prop} {w : World} {bv pv : Value} {x : Fl} (h1 : x.1.size ≤ maxLen) (h2 : Rd B w (.sl .u8) [bv] x.2.1) (h3 : Rd B w (.sl tyW) [pv] x.2.2) : Rd B w tyF [.string x.1, bv, pv] x := ⟨[_], [bv, pv], rfl, ⟨h1, rfl⟩, [bv], [pv], rfl, h2, h3⟩
/-- The blocks that a call's list of files leads to: older ones, and new ones behind its boxes. -/
def Bx (B : Nat → Prop) (w : World) : Nat → Prop := fun b => (B b ∧ b < w.heap.size) ∨ w.heap.size + 3 ≤ b
theorem rd_bx {w w' : World} {t : Ty} {cs : List Value} {x : t.T} {B : Nat → Prop} (h : Rd B w t cs x) (hB : Below w.heap.size w w') {r : Option Nat} (hr : ∀ k, r = some k → w.heap.size + 3 ≤ k) : Rd (fun b => Bx B w b ∧ r ≠ some b) w' t cs x := rd_mono (rd_oldB h hB) fun b hb _ => ⟨Or.inl hb, fun e => by have := hr b e; omega⟩
set_option maxRecDepth 100000 in
set_option maxHeartbeats 12800000 in
theorem radded_any {B : Nat → Prop} (v : Value) (d : Dk) (f : Fl) (bv pv : Value) (w : World) (hv : DvB B w v d) (hf : Rd B w tyF [.string f.1, bv, pv] f) (hlen : d.2.2.length ≤ 1000000) : Calls Try.prog 84 #[v, .agg #[.string f.1, bv, pv]] w (DvO B w (d.1, d.2.1, addedL d.2.2 f)) := by
  obtain ⟨fv, rfl, hr, sf⟩ := hv
  have SF := Lib.hid sf
  have HR := Lib.hid hr
  have RF := Lib.hid hf
  obtain ⟨bv', pv', he, hfs, hfb, hfp⟩ := rd_f hf
  obtain ⟨rfl, rfl⟩ : bv = bv' ∧ pv = pv' := by simpa using he
  obtain ⟨ab, cb, rfl, -, -⟩ := rd_sl hfb
  obtain ⟨ap, cp, rfl, -, -⟩ := rd_sl hfp
  generalize f.2.1.length = nb at *
  generalize f.2.2.length = np at *
  obtain ⟨af, cf, rfl, -, -⟩ := rd_sl sf
  obtain ⟨cap, left, L⟩ := d
  dsimp only at SF HR hlen ⊢
  obtain ⟨n, hn⟩ : ∃ z, z = L.length := ⟨_, rfl⟩
  rw [← hn] at SF hlen ⊢
  have HN := Lib.hid hn
  have HLEN := Lib.hid hlen
  have ADF := Lib.hid (addF_len f)
  obtain ⟨sf', hsf⟩ : ∃ z, z = f.1 := ⟨_, rfl⟩
  rw [← hsf] at RF ⊢
  have HSF := Lib.hid hsf
  have A1 := bel_al0 w (.cells #[.int .i64 cap, .int .i64 left, .slice af n cf] 24)
  have A2 := btA A1 (bel_al0 _ (.cells #[.string sf', .slice ab nb cb, .slice ap np cp] 63))
  have A3 := btA A2 (bel_al0 _ (.cells #[.int .i64 0, .int .i64 0, .slice none 0 0] 24))
  have B3 := Lib.hid A3
  have H1 := Lib.hid (show (((w.alloc (.cells #[.int .i64 cap, .int .i64 left, .slice af n cf] 24)).alloc (.cells #[.string sf', .slice ab nb cb, .slice ap np cp] 63)).alloc (.cells #[.int .i64 0, .int .i64 0, .slice none 0 0] 24)).heap[w.heap.size]? = some (.cells #[.int .i64 cap, .int .i64 left, .slice af n cf] 24 (0, 0)) from (heap_alloc_old _ _ (by simp; omega)).trans ((heap_alloc_old _ _ (by simp)).trans (heap_alloc_new w _)))
  have H2 := Lib.hid (show (((w.alloc (.cells #[.int .i64 cap, .int .i64 left, .slice af n cf] 24)).alloc (.cells #[.string sf', .slice ab nb cb, .slice ap np cp] 63)).alloc (.cells #[.int .i64 0, .int .i64 0, .slice none 0 0] 24)).heap[w.heap.size + 1]? = some (.cells #[.string sf', .slice ab nb cb, .slice ap np cp] 63 (0, 0)) from (heap_alloc_old _ _ (by simp)).trans (heap_alloc2_new w _ _))
  have H3 := Lib.hid (show (((w.alloc (.cells #[.int .i64 cap, .int .i64 left, .slice af n cf] 24)).alloc (.cells #[.string sf', .slice ab nb cb, .slice ap np cp] 63)).alloc (.cells #[.int .i64 0, .int .i64 0, .slice none 0 0] 24)).heap[w.heap.size + 2]? = some (.cells #[.int .i64 0, .int .i64 0, .slice none 0 0] 24 (0, 0)) from by have h := heap_alloc_new ((w.alloc (.cells #[.int .i64 cap, .int .i64 left, .slice af n cf] 24)).alloc (.cells #[.string sf', .slice ab nb cb, .slice ap np cp] 63)) (.cells #[.int .i64 0, .int .i64 0, .slice none 0 0] 24); simpa using h)
  clear sf hr hf hlen hn hsf A1 A2 A3 he hfs hfb hfp
  go_enter Try.func84, Try.ntmps84
  go_wp2_with fail
  go_loopw [5, 6, 7] (fun out dn t wr => ∃ i : Nat, i ≤ n ∧ t = .int .i64 (i : Int) ∧ dn = .bool (addF (L.take i) f).2 ∧ Hid (OwG 63 tyF (Bx B w) wr (w.heap.size + 3) out (addF (L.take i) f).1) ∧ Hid (wr.heap[w.heap.size]? = some (.cells #[.int .i64 cap, .int .i64 left, .slice af n cf] 24 (0, 0))) ∧ Hid (wr.heap[w.heap.size + 1]? = some (.cells #[.string sf', .slice ab nb cb, .slice ap np cp] 63 (0, 0))) ∧ Hid (wr.heap[w.heap.size + 2]? = some (.cells #[.int .i64 0, .int .i64 0, .slice none 0 0] 24 (0, 0))) ∧ Hid (Below w.heap.size w wr)) (fun _ _ t _ => n - (intOf t).toNat)
  case atStart => exact ⟨0, by omega, rfl, rfl, Lib.hid (og_nil _ _ _ _ _), H1, H2, H3, B3⟩
  case round =>
    obtain ⟨i, hi, rfl, rfl, HO, HG, HF, HR3, HBB⟩ := hrel
    by_cases hin : i < n
    · have l1 : decide ((i : Int) < (n : Int)) = true := decide_eq_true (by omega)
      have p0 : (0 : Int) ≤ (i : Int) := by omega
      have p1 : (i : Int) < (n : Int) := by omega
      have hip : i < L.length := by rw [← HN.out]; exact hin
      obtain ⟨b1, o1, bi, pi, rfl, -, k0, k1, k2, hsz, hb, hp⟩ := dv_at SF.out hip
      have RG := Lib.hid (rd_f_mk hsz hb hp)
      have HB1 := Lib.hid (block_lt_of_cell k0)
      obtain ⟨abi, cbi, rfl, -, -⟩ := rd_sl hb
      obtain ⟨api, cpi, rfl, -, -⟩ := rd_sl hp
      generalize (L.getD i fl0).2.1.length = nbi at *
      generalize (L.getD i fl0).2.2.length = npi at *
      have HT := Lib.hid (addF_take (f := f) hip)
      have HLN := Lib.hid (ADF.out (L.take i))
      generalize L.getD i fl0 = g at *
      obtain ⟨st, hst⟩ : ∃ z, z = addF (L.take i) f := ⟨_, rfl⟩
      rw [← hst] at HO HT HLN ⊢
      have HST := Lib.hid hst
      obtain ⟨sl, D0⟩ := st
      dsimp only at HO HLN ⊢
      unfold addS addS1 at HT
      obtain ⟨sa, hsa⟩ : ∃ z, z = g.1 := ⟨_, rfl⟩
      rw [← hsa] at HT k0 RG
      have hsl : sl.length ≤ 2000000 := by have h1 := HLN.out; have h2 := HLEN.out; rw [List.length_take] at h1; have h3 := HN.out; omega
      have HSL := Lib.hid hsl
      rw [← HSF.out] at HT
      obtain ⟨GE, hGE⟩ : ∃ z, z = nmGe sa sf' := ⟨_, rfl⟩
      obtain ⟨EQ, hEQ⟩ : ∃ z, z = nmEq sa sf' := ⟨_, rfl⟩
      rw [← hGE, ← hEQ] at HT
      have hge : Op.bytesLess sa.toList sf'.toList = !GE := by rw [hGE]; unfold nmGe; simp
      have heq : (sa.toList == sf'.toList) = EQ := hEQ.symm
      have HI := Lib.hid hin
      replace k0 := (HBB.out.cell (block_lt_of_cell k0)).trans k0
      replace k1 := (HBB.out.cell (block_lt_of_cell k1)).trans k1
      replace k2 := (HBB.out.cell (block_lt_of_cell k2)).trans k2
      obtain ⟨x0, x1, x2⟩ := box3c HG.out
      obtain ⟨y0, y1, y2⟩ := box3c HF.out
      obtain ⟨ao, co, rfl, -, -⟩ := og_form HO.out
      obtain ⟨no, hno⟩ : ∃ z, z = sl.length := ⟨_, rfl⟩
      rw [← hno] at HO ⊢
      have HNO := Lib.hid hno
      clear hip hst hsa hGE hEQ hsl hno hsz hb hp hin
      cases D0
      · cases GE
        · go_wp2_with fail
          go_quiet (fail)
          have hd := below_drewN wr nq
          replace HO := Lib.hid (og_below HO.out hd)
          replace HG := Lib.hid ((hd.block _ (lt_of_some0 HG.out)).trans HG.out)
          replace HF := Lib.hid ((hd.block _ (lt_of_some0 HF.out)).trans HF.out)
          replace HR3 := Lib.hid ((hd.block _ (lt_of_some0 HR3.out)).trans HR3.out)
          replace HBB := Lib.hid (btA HBB.out hd)
          replace k0 := (hd.cell (block_lt_of_cell k0)).trans k0
          replace k1 := (hd.cell (block_lt_of_cell k1)).trans k1
          replace k2 := (hd.cell (block_lt_of_cell k2)).trans k2
          clear x0 x1 x2 y0 y1 y2
          obtain ⟨x0, x1, x2⟩ := box3c HG.out
          obtain ⟨y0, y1, y2⟩ := box3c HF.out
          clear hd
          generalize wr.drewN nq = W1 at *
          cases EQ
          · have hne : (sa.toList != sf'.toList) = true := by unfold bne; rw [heq]; rfl
            go_wp2_with fail
            go_quiet (fail)
            have hd := below_drewN W1 nq
            replace HO := Lib.hid (og_below HO.out hd)
            replace HG := Lib.hid ((hd.block _ (lt_of_some0 HG.out)).trans HG.out)
            replace HF := Lib.hid ((hd.block _ (lt_of_some0 HF.out)).trans HF.out)
            replace HR3 := Lib.hid ((hd.block _ (lt_of_some0 HR3.out)).trans HR3.out)
            replace HBB := Lib.hid (btA HBB.out hd)
            replace k0 := (hd.cell (block_lt_of_cell k0)).trans k0
            replace k1 := (hd.cell (block_lt_of_cell k1)).trans k1
            replace k2 := (hd.cell (block_lt_of_cell k2)).trans k2
            clear x0 x1 x2 y0 y1 y2
            obtain ⟨x0, x1, x2⟩ := box3c HG.out
            obtain ⟨y0, y1, y2⟩ := box3c HF.out
            clear hd
            generalize W1.drewN nq = W2 at *
            have HA := Lib.hid (bel_al0 W2 (.cells #[.string sa, .slice abi nbi cbi, .slice api npi cpi] 63))
            have HNW := Lib.hid (heap_alloc_new W2 (.cells #[.string sa, .slice abi nbi cbi, .slice api npi cpi] 63))
            have HOA := Lib.hid (og_below HO.out HA.out)
            have HWZ := Lib.hid (show w.heap.size + 3 ≤ W2.heap.size from (by have h1 := lt_of_some0 HR3.out; omega))
            have HSG := Lib.hid (rd_single (B := fun b => Bx B w b ∧ (Value.slice ao no co).ownBlock ≠ some b) (rd_bx RG.out (btA HBB.out HA.out) fun k hk => (og_lt HOA.out k hk).1) HNW.out ⟨Or.inr HWZ.out, fun e => (by have h1 := (og_lt HO.out _ e).2; omega)⟩)
            have KEEP := Lib.hid (show ∀ (w5 : World), (W2.alloc (.cells #[.string sa, .slice abi nbi cbi, .slice api npi cpi] 63)).grownBy w5 (Value.slice ao no co).ownBlock → ∀ q, q < w.heap.size + 3 → w5.heap[q]? = W2.heap[q]? from fun w5 hg5 q h1 => (hg5.block q (by have h2 := HWZ.out; have h3 := HA.out.size; omega) fun e => (by have h4 := (og_lt HOA.out _ e.symm).1; omega)).trans (HA.out.block q (by have h2 := HWZ.out; omega)))
            have hw1 : wrap64 ((i : Int) + 1) = ((i + 1 : Nat) : Int) := by have := HI.out; have h2 := HLEN.out; unfold wrap64; omega
            have HW1 := Lib.hid hw1
            clear hw1 hne
            go_wp2_with (at_builtin; refine app_g lsF (dst := some 48) ?_ ?_ HOA.out HSG.out (by have h1 := HNO.out; have h2 := HSL.out; simp only [List.length_singleton]; omega) (by have h1 := HWZ.out; have h2 := HA.out.size; omega) ?_; exact rfl; exact rfl; intro v5 w5 ho5 hg5 hat5; have HGn := Lib.hid ((KEEP.out w5 hg5 w.heap.size (by omega)).trans HG.out); have HFn := Lib.hid ((KEEP.out w5 hg5 (w.heap.size + 1) (by omega)).trans HF.out); have HRn := Lib.hid ((KEEP.out w5 hg5 (w.heap.size + 2) (by omega)).trans HR3.out); have HBn := Lib.hid (below_grownG (btA HBB.out HA.out) hg5 HOA.out (by have h1 := HWZ.out; have h2 := HA.out.size; omega) (by omega)); obtain ⟨a5, c5, rfl, -, -⟩ := og_form ho5; have HOn := Lib.hid ho5; clear ho5 hg5 hat5)
            have hI := HI.out
            exact ⟨⟨i + 1, by omega, by rw [HW1.out], by rw [HT.out]; simp, Lib.hid (by rw [HT.out]; simpa using HOn.out), HGn, HFn, HRn, HBn⟩, by rw [HW1.out]; simp [intOf]; omega⟩
          · have hne : (sa.toList != sf'.toList) = false := by unfold bne; rw [heq]; rfl
            go_wp2_with fail
            go_quiet (fail)
            have hd := below_drewN W1 nq
            replace HO := Lib.hid (og_below HO.out hd)
            replace HG := Lib.hid ((hd.block _ (lt_of_some0 HG.out)).trans HG.out)
            replace HF := Lib.hid ((hd.block _ (lt_of_some0 HF.out)).trans HF.out)
            replace HR3 := Lib.hid ((hd.block _ (lt_of_some0 HR3.out)).trans HR3.out)
            replace HBB := Lib.hid (btA HBB.out hd)
            replace k0 := (hd.cell (block_lt_of_cell k0)).trans k0
            replace k1 := (hd.cell (block_lt_of_cell k1)).trans k1
            replace k2 := (hd.cell (block_lt_of_cell k2)).trans k2
            clear x0 x1 x2 y0 y1 y2
            obtain ⟨x0, x1, x2⟩ := box3c HG.out
            obtain ⟨y0, y1, y2⟩ := box3c HF.out
            clear hd
            generalize W1.drewN nq = W2 at *
            clear k0 k1 k2 x0 x1 x2 y0 y1 y2 hne
            have hI := HI.out
            have hL := HLEN.out
            go_wp2
            go_roundw
            case rel => exact ⟨i + 1, by omega, by go_num, by rw [HT.out]; simp, Lib.hid (by rw [HT.out]; simpa using HO.out), HG, HF, HR3, HBB⟩
            case measure => simp [intOf]; omega
        · go_wp2_with fail
          go_quiet (fail)
          have hd := below_drewN wr nq
          replace HO := Lib.hid (og_below HO.out hd)
          replace HG := Lib.hid ((hd.block _ (lt_of_some0 HG.out)).trans HG.out)
          replace HF := Lib.hid ((hd.block _ (lt_of_some0 HF.out)).trans HF.out)
          replace HR3 := Lib.hid ((hd.block _ (lt_of_some0 HR3.out)).trans HR3.out)
          replace HBB := Lib.hid (btA HBB.out hd)
          replace k0 := (hd.cell (block_lt_of_cell k0)).trans k0
          replace k1 := (hd.cell (block_lt_of_cell k1)).trans k1
          replace k2 := (hd.cell (block_lt_of_cell k2)).trans k2
          clear x0 x1 x2 y0 y1 y2
          obtain ⟨x0, x1, x2⟩ := box3c HG.out
          obtain ⟨y0, y1, y2⟩ := box3c HF.out
          clear hd
          generalize wr.drewN nq = W1 at *
          have HA := Lib.hid (bel_al0 W1 (.cells #[.string sf', .slice ab nb cb, .slice ap np cp] 63))
          have HNW := Lib.hid (heap_alloc_new W1 (.cells #[.string sf', .slice ab nb cb, .slice ap np cp] 63))
          have HOA := Lib.hid (og_below HO.out HA.out)
          have HWZ := Lib.hid (show w.heap.size + 3 ≤ W1.heap.size from (by have h1 := lt_of_some0 HR3.out; omega))
          have HSG := Lib.hid (rd_single (B := fun b => Bx B w b ∧ (Value.slice ao no co).ownBlock ≠ some b) (rd_bx RF.out (btA HBB.out HA.out) fun k hk => (og_lt HOA.out k hk).1) HNW.out ⟨Or.inr HWZ.out, fun e => (by have h1 := (og_lt HO.out _ e).2; omega)⟩)
          have KEEP := Lib.hid (show ∀ (w5 : World), (W1.alloc (.cells #[.string sf', .slice ab nb cb, .slice ap np cp] 63)).grownBy w5 (Value.slice ao no co).ownBlock → ∀ q, q < w.heap.size + 3 → w5.heap[q]? = W1.heap[q]? from fun w5 hg5 q h1 => (hg5.block q (by have h2 := HWZ.out; have h3 := HA.out.size; omega) fun e => (by have h4 := (og_lt HOA.out _ e.symm).1; omega)).trans (HA.out.block q (by have h2 := HWZ.out; omega)))
          go_wp2_with (at_builtin; refine app_g lsF (dst := some 31) ?_ ?_ HOA.out HSG.out (by have h1 := HNO.out; have h2 := HSL.out; simp only [List.length_singleton]; omega) (by have h1 := HWZ.out; have h2 := HA.out.size; omega) ?_; exact rfl; exact rfl; intro v5 w5 ho5 hg5 hat5; have HGn := Lib.hid ((KEEP.out w5 hg5 w.heap.size (by omega)).trans HG.out); have HFn := Lib.hid ((KEEP.out w5 hg5 (w.heap.size + 1) (by omega)).trans HF.out); have HRn := Lib.hid ((KEEP.out w5 hg5 (w.heap.size + 2) (by omega)).trans HR3.out); have HBn := Lib.hid (below_grownG (btA HBB.out HA.out) hg5 HOA.out (by have h1 := HWZ.out; have h2 := HA.out.size; omega) (by omega)); obtain ⟨a5, c5, rfl, -, -⟩ := og_form ho5; have HOn := Lib.hid ho5; have hkk := KEEP.out w5 hg5 b1 (by have h1 := HB1.out; omega); replace k0 := (cell_heap hkk).trans k0; replace k1 := (cell_heap hkk).trans k1; replace k2 := (cell_heap hkk).trans k2; obtain ⟨n5, hn5⟩ : ∃ z, z = (sl ++ [f]).length := ⟨_, rfl⟩; rw [← hn5] at HOn ⊢; have HN5 := Lib.hid hn5; clear x0 x1 x2 y0 y1 y2 hkk hn5; obtain ⟨x0, x1, x2⟩ := box3c HGn.out; obtain ⟨y0, y1, y2⟩ := box3c HFn.out; clear ho5 hg5 hat5)
          have HS5 : Hid ((sl ++ [f]).length ≤ 2000001) := Lib.hid (by have := HSL.out; simp; omega)
          clear HO HG HF HR3 HBB HA HNW HOA HWZ HSG KEEP
          have HO := HOn
          have HG := HGn
          have HF := HFn
          have HR3 := HRn
          have HBB := HBn
          clear HOn HGn HFn HRn HBn
          cases EQ
          · have hne : (sa.toList != sf'.toList) = true := by unfold bne; rw [heq]; rfl
            go_wp2_with fail
            go_quiet (fail)
            have hd := below_drewN w5 nq
            replace HO := Lib.hid (og_below HO.out hd)
            replace HG := Lib.hid ((hd.block _ (lt_of_some0 HG.out)).trans HG.out)
            replace HF := Lib.hid ((hd.block _ (lt_of_some0 HF.out)).trans HF.out)
            replace HR3 := Lib.hid ((hd.block _ (lt_of_some0 HR3.out)).trans HR3.out)
            replace HBB := Lib.hid (btA HBB.out hd)
            replace k0 := (hd.cell (block_lt_of_cell k0)).trans k0
            replace k1 := (hd.cell (block_lt_of_cell k1)).trans k1
            replace k2 := (hd.cell (block_lt_of_cell k2)).trans k2
            clear x0 x1 x2 y0 y1 y2
            obtain ⟨x0, x1, x2⟩ := box3c HG.out
            obtain ⟨y0, y1, y2⟩ := box3c HF.out
            clear hd
            generalize w5.drewN nq = W2 at *
            have HA := Lib.hid (bel_al0 W2 (.cells #[.string sa, .slice abi nbi cbi, .slice api npi cpi] 63))
            have HNW := Lib.hid (heap_alloc_new W2 (.cells #[.string sa, .slice abi nbi cbi, .slice api npi cpi] 63))
            have HOA := Lib.hid (og_below HO.out HA.out)
            have HWZ := Lib.hid (show w.heap.size + 3 ≤ W2.heap.size from (by have h1 := lt_of_some0 HR3.out; omega))
            have HSG := Lib.hid (rd_single (B := fun b => Bx B w b ∧ (Value.slice a5 n5 c5).ownBlock ≠ some b) (rd_bx RG.out (btA HBB.out HA.out) fun k hk => (og_lt HOA.out k hk).1) HNW.out ⟨Or.inr HWZ.out, fun e => (by have h1 := (og_lt HO.out _ e).2; omega)⟩)
            have KEEP := Lib.hid (show ∀ (w5 : World), (W2.alloc (.cells #[.string sa, .slice abi nbi cbi, .slice api npi cpi] 63)).grownBy w5 (Value.slice a5 n5 c5).ownBlock → ∀ q, q < w.heap.size + 3 → w5.heap[q]? = W2.heap[q]? from fun w5 hg5 q h1 => (hg5.block q (by have h2 := HWZ.out; have h3 := HA.out.size; omega) fun e => (by have h4 := (og_lt HOA.out _ e.symm).1; omega)).trans (HA.out.block q (by have h2 := HWZ.out; omega)))
            have hw1 : wrap64 ((i : Int) + 1) = ((i + 1 : Nat) : Int) := by have := HI.out; have h2 := HLEN.out; unfold wrap64; omega
            have HW1 := Lib.hid hw1
            clear hw1 hne
            go_wp2_with (at_builtin; refine app_g lsF (dst := some 48) ?_ ?_ HOA.out HSG.out (by have h1 := HN5.out; have h2 := HS5.out; simp only [List.length_singleton]; omega) (by have h1 := HWZ.out; have h2 := HA.out.size; omega) ?_; exact rfl; exact rfl; intro v5 w5 ho5 hg5 hat5; have HGn := Lib.hid ((KEEP.out w5 hg5 w.heap.size (by omega)).trans HG.out); have HFn := Lib.hid ((KEEP.out w5 hg5 (w.heap.size + 1) (by omega)).trans HF.out); have HRn := Lib.hid ((KEEP.out w5 hg5 (w.heap.size + 2) (by omega)).trans HR3.out); have HBn := Lib.hid (below_grownG (btA HBB.out HA.out) hg5 HOA.out (by have h1 := HWZ.out; have h2 := HA.out.size; omega) (by omega)); obtain ⟨a5, c5, rfl, -, -⟩ := og_form ho5; have HOn := Lib.hid ho5; clear ho5 hg5 hat5)
            have hI := HI.out
            exact ⟨⟨i + 1, by omega, by rw [HW1.out], by rw [HT.out]; simp, Lib.hid (by rw [HT.out]; simpa using HOn.out), HGn, HFn, HRn, HBn⟩, by rw [HW1.out]; simp [intOf]; omega⟩
          · have hne : (sa.toList != sf'.toList) = false := by unfold bne; rw [heq]; rfl
            go_wp2_with fail
            go_quiet (fail)
            have hd := below_drewN w5 nq
            replace HO := Lib.hid (og_below HO.out hd)
            replace HG := Lib.hid ((hd.block _ (lt_of_some0 HG.out)).trans HG.out)
            replace HF := Lib.hid ((hd.block _ (lt_of_some0 HF.out)).trans HF.out)
            replace HR3 := Lib.hid ((hd.block _ (lt_of_some0 HR3.out)).trans HR3.out)
            replace HBB := Lib.hid (btA HBB.out hd)
            replace k0 := (hd.cell (block_lt_of_cell k0)).trans k0
            replace k1 := (hd.cell (block_lt_of_cell k1)).trans k1
            replace k2 := (hd.cell (block_lt_of_cell k2)).trans k2
            clear x0 x1 x2 y0 y1 y2
            obtain ⟨x0, x1, x2⟩ := box3c HG.out
            obtain ⟨y0, y1, y2⟩ := box3c HF.out
            clear hd
            generalize w5.drewN nq = W2 at *
            clear k0 k1 k2 x0 x1 x2 y0 y1 y2 hne
            have hI := HI.out
            have hL := HLEN.out
            go_wp2
            go_roundw
            case rel => exact ⟨i + 1, by omega, by go_num, by rw [HT.out]; simp, Lib.hid (by rw [HT.out]; simpa using HO.out), HG, HF, HR3, HBB⟩
            case measure => simp [intOf]; omega
      · have hge2 := hge
        go_wp2_with fail
        go_quiet (fail)
        have hd := below_drewN wr nq
        replace HO := Lib.hid (og_below HO.out hd)
        replace HG := Lib.hid ((hd.block _ (lt_of_some0 HG.out)).trans HG.out)
        replace HF := Lib.hid ((hd.block _ (lt_of_some0 HF.out)).trans HF.out)
        replace HR3 := Lib.hid ((hd.block _ (lt_of_some0 HR3.out)).trans HR3.out)
        replace HBB := Lib.hid (btA HBB.out hd)
        replace k0 := (hd.cell (block_lt_of_cell k0)).trans k0
        replace k1 := (hd.cell (block_lt_of_cell k1)).trans k1
        replace k2 := (hd.cell (block_lt_of_cell k2)).trans k2
        clear x0 x1 x2 y0 y1 y2
        obtain ⟨x0, x1, x2⟩ := box3c HG.out
        obtain ⟨y0, y1, y2⟩ := box3c HF.out
        clear hd
        generalize wr.drewN nq = W1 at *
        cases EQ
        · have hne : (sa.toList != sf'.toList) = true := by unfold bne; rw [heq]; rfl
          go_wp2_with fail
          go_quiet (fail)
          have hd := below_drewN W1 nq
          replace HO := Lib.hid (og_below HO.out hd)
          replace HG := Lib.hid ((hd.block _ (lt_of_some0 HG.out)).trans HG.out)
          replace HF := Lib.hid ((hd.block _ (lt_of_some0 HF.out)).trans HF.out)
          replace HR3 := Lib.hid ((hd.block _ (lt_of_some0 HR3.out)).trans HR3.out)
          replace HBB := Lib.hid (btA HBB.out hd)
          replace k0 := (hd.cell (block_lt_of_cell k0)).trans k0
          replace k1 := (hd.cell (block_lt_of_cell k1)).trans k1
          replace k2 := (hd.cell (block_lt_of_cell k2)).trans k2
          clear x0 x1 x2 y0 y1 y2
          obtain ⟨x0, x1, x2⟩ := box3c HG.out
          obtain ⟨y0, y1, y2⟩ := box3c HF.out
          clear hd
          generalize W1.drewN nq = W2 at *
          have HA := Lib.hid (bel_al0 W2 (.cells #[.string sa, .slice abi nbi cbi, .slice api npi cpi] 63))
          have HNW := Lib.hid (heap_alloc_new W2 (.cells #[.string sa, .slice abi nbi cbi, .slice api npi cpi] 63))
          have HOA := Lib.hid (og_below HO.out HA.out)
          have HWZ := Lib.hid (show w.heap.size + 3 ≤ W2.heap.size from (by have h1 := lt_of_some0 HR3.out; omega))
          have HSG := Lib.hid (rd_single (B := fun b => Bx B w b ∧ (Value.slice ao no co).ownBlock ≠ some b) (rd_bx RG.out (btA HBB.out HA.out) fun k hk => (og_lt HOA.out k hk).1) HNW.out ⟨Or.inr HWZ.out, fun e => (by have h1 := (og_lt HO.out _ e).2; omega)⟩)
          have KEEP := Lib.hid (show ∀ (w5 : World), (W2.alloc (.cells #[.string sa, .slice abi nbi cbi, .slice api npi cpi] 63)).grownBy w5 (Value.slice ao no co).ownBlock → ∀ q, q < w.heap.size + 3 → w5.heap[q]? = W2.heap[q]? from fun w5 hg5 q h1 => (hg5.block q (by have h2 := HWZ.out; have h3 := HA.out.size; omega) fun e => (by have h4 := (og_lt HOA.out _ e.symm).1; omega)).trans (HA.out.block q (by have h2 := HWZ.out; omega)))
          have hw1 : wrap64 ((i : Int) + 1) = ((i + 1 : Nat) : Int) := by have := HI.out; have h2 := HLEN.out; unfold wrap64; omega
          have HW1 := Lib.hid hw1
          clear hw1 hne
          go_wp2_with (at_builtin; refine app_g lsF (dst := some 48) ?_ ?_ HOA.out HSG.out (by have h1 := HNO.out; have h2 := HSL.out; simp only [List.length_singleton]; omega) (by have h1 := HWZ.out; have h2 := HA.out.size; omega) ?_; exact rfl; exact rfl; intro v5 w5 ho5 hg5 hat5; have HGn := Lib.hid ((KEEP.out w5 hg5 w.heap.size (by omega)).trans HG.out); have HFn := Lib.hid ((KEEP.out w5 hg5 (w.heap.size + 1) (by omega)).trans HF.out); have HRn := Lib.hid ((KEEP.out w5 hg5 (w.heap.size + 2) (by omega)).trans HR3.out); have HBn := Lib.hid (below_grownG (btA HBB.out HA.out) hg5 HOA.out (by have h1 := HWZ.out; have h2 := HA.out.size; omega) (by omega)); obtain ⟨a5, c5, rfl, -, -⟩ := og_form ho5; have HOn := Lib.hid ho5; clear ho5 hg5 hat5)
          have hI := HI.out
          exact ⟨⟨i + 1, by omega, by rw [HW1.out], by rw [HT.out]; simp, Lib.hid (by rw [HT.out]; simpa using HOn.out), HGn, HFn, HRn, HBn⟩, by rw [HW1.out]; simp [intOf]; omega⟩
        · have hne : (sa.toList != sf'.toList) = false := by unfold bne; rw [heq]; rfl
          go_wp2_with fail
          go_quiet (fail)
          have hd := below_drewN W1 nq
          replace HO := Lib.hid (og_below HO.out hd)
          replace HG := Lib.hid ((hd.block _ (lt_of_some0 HG.out)).trans HG.out)
          replace HF := Lib.hid ((hd.block _ (lt_of_some0 HF.out)).trans HF.out)
          replace HR3 := Lib.hid ((hd.block _ (lt_of_some0 HR3.out)).trans HR3.out)
          replace HBB := Lib.hid (btA HBB.out hd)
          replace k0 := (hd.cell (block_lt_of_cell k0)).trans k0
          replace k1 := (hd.cell (block_lt_of_cell k1)).trans k1
          replace k2 := (hd.cell (block_lt_of_cell k2)).trans k2
          clear x0 x1 x2 y0 y1 y2
          obtain ⟨x0, x1, x2⟩ := box3c HG.out
          obtain ⟨y0, y1, y2⟩ := box3c HF.out
          clear hd
          generalize W1.drewN nq = W2 at *
          clear k0 k1 k2 x0 x1 x2 y0 y1 y2 hne
          have hI := HI.out
          have hL := HLEN.out
          go_wp2
          go_roundw
          case rel => exact ⟨i + 1, by omega, by go_num, by rw [HT.out]; simp, Lib.hid (by rw [HT.out]; simpa using HO.out), HG, HF, HR3, HBB⟩
          case measure => simp [intOf]; omega
    · obtain rfl : i = n := by omega
      have l1 : decide ((i : Int) < (i : Int)) = false := decide_eq_false (by omega)
      have htk : L.take i = L := by rw [HN.out]; exact List.take_length
      rw [htk] at HO ⊢
      have HLN := Lib.hid (ADF.out L)
      obtain ⟨st, hst⟩ : ∃ z, z = addF L f := ⟨_, rfl⟩
      have HAD : Hid (addedL L f = if st.2 then st.1 else st.1 ++ [f]) := Lib.hid (by rw [hst]; rfl)
      rw [← hst] at HO HLN ⊢
      obtain ⟨sl, D0⟩ := st
      dsimp only at HO HLN HAD ⊢
      have hsl : sl.length ≤ 2000000 := by have h1 := HLN.out; have h2 := HLEN.out; have h3 := HN.out; omega
      have HSL := Lib.hid hsl
      obtain ⟨ao, co, rfl, -, -⟩ := og_form HO.out
      obtain ⟨no, hno⟩ : ∃ z, z = sl.length := ⟨_, rfl⟩
      rw [← hno] at HO ⊢
      have HNO := Lib.hid hno
      clear hst hsl hno htk hi hin
      cases D0
      · obtain ⟨x0, x1, x2⟩ := box3c HG.out
        obtain ⟨y0, y1, y2⟩ := box3c HF.out
        replace HAD : Hid (addedL L f = sl ++ [f]) := HAD
        have HA := Lib.hid (bel_al0 wr (.cells #[.string sf', .slice ab nb cb, .slice ap np cp] 63))
        have HNW := Lib.hid (heap_alloc_new wr (.cells #[.string sf', .slice ab nb cb, .slice ap np cp] 63))
        have HOA := Lib.hid (og_below HO.out HA.out)
        have HWZ := Lib.hid (show w.heap.size + 3 ≤ wr.heap.size from (by have h1 := lt_of_some0 HR3.out; omega))
        have HSG := Lib.hid (rd_single (B := fun b => Bx B w b ∧ (Value.slice ao no co).ownBlock ≠ some b) (rd_bx RF.out (btA HBB.out HA.out) fun k hk => (og_lt HOA.out k hk).1) HNW.out ⟨Or.inr HWZ.out, fun e => (by have h1 := (og_lt HO.out _ e).2; omega)⟩)
        have KEEP := Lib.hid (show ∀ (w5 : World), (wr.alloc (.cells #[.string sf', .slice ab nb cb, .slice ap np cp] 63)).grownBy w5 (Value.slice ao no co).ownBlock → ∀ q, q < w.heap.size + 3 → w5.heap[q]? = wr.heap[q]? from fun w5 hg5 q h1 => (hg5.block q (by have h2 := HWZ.out; have h3 := HA.out.size; omega) fun e => (by have h4 := (og_lt HOA.out _ e.symm).1; omega)).trans (HA.out.block q (by have h2 := HWZ.out; omega)))
        go_upto_region 13 with (at_builtin; refine app_g lsF (dst := some 54) ?_ ?_ HOA.out HSG.out (by have h1 := HNO.out; have h2 := HSL.out; simp only [List.length_singleton]; omega) (by have h1 := HWZ.out; have h2 := HA.out.size; omega) ?_; exact rfl; exact rfl; intro v5 w5 ho5 hg5 hat5; have HGn := Lib.hid ((KEEP.out w5 hg5 w.heap.size (by omega)).trans HG.out); have HFn := Lib.hid ((KEEP.out w5 hg5 (w.heap.size + 1) (by omega)).trans HF.out); have HRn := Lib.hid ((KEEP.out w5 hg5 (w.heap.size + 2) (by omega)).trans HR3.out); have HBn := Lib.hid (below_grownG (btA HBB.out HA.out) hg5 HOA.out (by have h1 := HWZ.out; have h2 := HA.out.size; omega) (by omega)); obtain ⟨a5, c5, rfl, -, -⟩ := og_form ho5; have HOn := Lib.hid ho5; obtain ⟨n5, hn5⟩ : ∃ z, z = (sl ++ [f]).length := ⟨_, rfl⟩; rw [← hn5] at HOn ⊢; clear x0 x1 x2 y0 y1 y2 hn5 HO HG HF HR3 HBB HA HNW HOA HWZ HSG KEEP; have HO := HOn; have HG := HGn; have HF := HFn; have HR3 := HRn; have HBB := HBn; clear HOn HGn HFn HRn HBn; obtain ⟨g0, g1, g2⟩ := box3c HG.out; have z2 := frozen_of_row _ w.heap.size 2 _ _ HG.out; have HX6 := Lib.hid (show (w5.setCell ⟨w.heap.size, 2, none⟩ (.slice a5 n5 c5)).heap[w.heap.size]? = some (.cells #[.int .i64 cap, .int .i64 left, .slice a5 n5 c5] 24 (0, 0)) from (by simpa using heap_setCell_same w5 w.heap.size 2 _ _ (.slice a5 n5 c5) HG.out)); have HR6 := Lib.hid ((other1 (g := w.heap.size) (o := 2) (v := .slice a5 n5 c5) (by omega : w.heap.size + 2 ≠ w.heap.size)).trans HR3.out); have HB6 := Lib.hid (HBB.out.setCell (p := ⟨w.heap.size, 2, none⟩) (Nat.le_refl _) (.slice a5 n5 c5)); obtain ⟨x0, x1, x2⟩ := box3c HX6.out; clear ho5 hg5 hat5)
        have O6 := Lib.hid (og_move (w' := w5.setCell ⟨w.heap.size, 2, none⟩ (.slice a5 n5 c5)) HO.out fun b hb _ => heap_setCell_other _ _ _ _ (by
          show b ≠ w.heap.size
          rcases hb with hb | hb
          · rcases hb with hb | hb <;> omega
          · have := (og_lt HO.out _ hb).1
            omega))
        clear z2 g0 g1 g2 x0 x1 x2 HO HG HF HR3 HBB
        generalize w5.setCell ⟨w.heap.size, 2, none⟩ (.slice a5 n5 c5) = W6 at *
        obtain ⟨x0, x1, x2⟩ := box3c HX6.out
        obtain ⟨v0, v1, v2⟩ := box3c HR6.out
        have u0 := frozen_of_row W6 (w.heap.size + 2) 0 _ _ HR6.out
        have u1 := frozen_of_row W6 (w.heap.size + 2) 1 _ _ HR6.out
        have u2 := frozen_of_row W6 (w.heap.size + 2) 2 _ _ HR6.out
        · go_wp2
          refine bodyPost_ret (results_cell_row Try.results84 _ _ (w.heap.size + 2) 24 _ (0, 0) _ rfl (set3c HR6.out) Try.underlying24 rfl infoD) rfl ?_
          refine ⟨⟨_, rfl, .slice a5 n5 c5, rfl, HR.out, ?_⟩, below_set3 HB6.out (by omega)⟩
          show Rd _ _ (.sl tyF) _ (addedL L f)
          rw [HAD.out]
          refine rd_mono (og_rd (B := Bx B w) (og_move O6.out fun b hb _ => set3_other ?_) fun b hb => Or.inr hb) fun b hb _ => hb.elim (fun h => Or.inl h.1) fun h => Or.inr (by omega)
          rcases hb with hb | hb
          · rcases hb with hb | hb <;> omega
          · have := (og_lt O6.out _ hb).1
            omega
      · replace HAD : Hid (addedL L f = sl) := HAD
        obtain ⟨g0, g1, g2⟩ := box3c HG.out; have z2 := frozen_of_row _ w.heap.size 2 _ _ HG.out; have HX6 := Lib.hid (show (wr.setCell ⟨w.heap.size, 2, none⟩ (.slice ao no co)).heap[w.heap.size]? = some (.cells #[.int .i64 cap, .int .i64 left, .slice ao no co] 24 (0, 0)) from (by simpa using heap_setCell_same wr w.heap.size 2 _ _ (.slice ao no co) HG.out)); have HR6 := Lib.hid ((other1 (g := w.heap.size) (o := 2) (v := .slice ao no co) (by omega : w.heap.size + 2 ≠ w.heap.size)).trans HR3.out); have HB6 := Lib.hid (HBB.out.setCell (p := ⟨w.heap.size, 2, none⟩) (Nat.le_refl _) (.slice ao no co)); obtain ⟨x0, x1, x2⟩ := box3c HX6.out
        go_upto_region 13 with fail
        have O6 := Lib.hid (og_move (w' := wr.setCell ⟨w.heap.size, 2, none⟩ (.slice ao no co)) HO.out fun b hb _ => heap_setCell_other _ _ _ _ (by
          show b ≠ w.heap.size
          rcases hb with hb | hb
          · rcases hb with hb | hb <;> omega
          · have := (og_lt HO.out _ hb).1
            omega))
        clear z2 g0 g1 g2 x0 x1 x2 HO HG HF HR3 HBB
        generalize wr.setCell ⟨w.heap.size, 2, none⟩ (.slice ao no co) = W6 at *
        obtain ⟨x0, x1, x2⟩ := box3c HX6.out
        obtain ⟨v0, v1, v2⟩ := box3c HR6.out
        have u0 := frozen_of_row W6 (w.heap.size + 2) 0 _ _ HR6.out
        have u1 := frozen_of_row W6 (w.heap.size + 2) 1 _ _ HR6.out
        have u2 := frozen_of_row W6 (w.heap.size + 2) 2 _ _ HR6.out
        · go_wp2
          refine bodyPost_ret (results_cell_row Try.results84 _ _ (w.heap.size + 2) 24 _ (0, 0) _ rfl (set3c HR6.out) Try.underlying24 rfl infoD) rfl ?_
          refine ⟨⟨_, rfl, .slice ao no co, rfl, HR.out, ?_⟩, below_set3 HB6.out (by omega)⟩
          show Rd _ _ (.sl tyF) _ (addedL L f)
          rw [HAD.out]
          refine rd_mono (og_rd (B := Bx B w) (og_move O6.out fun b hb _ => set3_other ?_) fun b hb => Or.inr hb) fun b hb _ => hb.elim (fun h => Or.inl h.1) fun h => Or.inr (by omega)
          rcases hb with hb | hb
          · rcases hb with hb | hb <;> omega
          · have := (og_lt O6.out _ hb).1
            omega
end Go.Proofs.Ytpipgbjkkiheaaa.Gf
namespace Go.Proofs.Ytpipgbjkkiheaaa.Gf
open Go Go.Joins Go.ChangeShapes Go.WideShapes Go.ChangeAt Go.RowKit Go.Deep Go.Proofs.Ytpipgbjkkiheaaa.By Go.Proofs.Ytpipgbjkkiheaaa.Qt

/-- The sum of the lengths of the contents. -/
def totN (L : List Fl) : Nat := (L.map fun f => (contL f).length).sum
theorem totN_append (a b : List Fl) : totN (a ++ b) = totN a + totN b := by simp [totN]
theorem totN_take {L : List Fl} {i : Nat} (h : i < L.length) : totN (L.take (i + 1)) = totN (L.take i) + (contL (L.getD i fl0)).length := by
  rw [List.take_succ_eq_append_getElem h, totN_append, getD_F h]
  simp [totN]
theorem totN_le : ∀ L : List Fl, totN L ≤ 1048576 * L.length
  | [] => by simp [totN]
  | f :: r => by
    have h1 := totN_le r
    have h2 := contL_le f
    simp only [totN, List.map_cons, List.sum_cons, List.length_cons] at h1 ⊢
    omega
set_option maxRecDepth 100000 in
set_option maxHeartbeats 6400000 in
theorem rtotal_any (v : Value) (d : Dk) (w : World) (hv : Dv w v d) (hlen : d.2.2.length ≤ 1000000) : Calls Try.prog 97 #[v] w fun e w' => e = .returned (.int .i64 ((totN d.2.2 : Nat) : Int)) ∧ Below w.heap.size w w' := by
  obtain ⟨fv, rfl, -, sf⟩ := hv
  have SF := Lib.hid sf
  obtain ⟨af, cf, rfl, -, -⟩ := rd_sl sf
  obtain ⟨cap, left, L⟩ := d
  dsimp only at SF hlen ⊢
  obtain ⟨n, hn⟩ : ∃ z, z = L.length := ⟨_, rfl⟩
  rw [← hn] at SF hlen ⊢
  have HN := Lib.hid hn
  have HLEN := Lib.hid hlen
  have BX := Lib.hid (bel_al0 w (.cells #[.int .i64 cap, .int .i64 left, .slice af n cf] 24))
  have HX := Lib.hid (heap_alloc_new w (.cells #[.int .i64 cap, .int .i64 left, .slice af n cf] 24))
  have BND := Lib.hid (fun i => totN_le (L.take i))
  clear sf hn hlen
  go_enter Try.func97, Try.ntmps97
  go_wp2_with fail
  go_loopw [3, 4] (fun tt t wr => ∃ i : Nat, i ≤ n ∧ t = .int .i64 (i : Int) ∧ tt = .int .i64 ((totN (L.take i) : Nat) : Int) ∧ Hid (wr.heap[w.heap.size]? = some (.cells #[.int .i64 cap, .int .i64 left, .slice af n cf] 24 (0, 0))) ∧ Hid (Below w.heap.size w wr)) (fun _ t _ => n - (intOf t).toNat)
  case atStart => exact ⟨0, by omega, rfl, rfl, HX, BX⟩
  case round =>
    obtain ⟨i, hi, rfl, rfl, HG, HBB⟩ := hrel
    obtain ⟨x0, x1, x2⟩ := box3c HG.out
    have hlen := HLEN.out
    by_cases hin : i < n
    · have l1 : decide ((i : Int) < (n : Int)) = true := decide_eq_true (by omega)
      have p0 : (0 : Int) ≤ (i : Int) := by omega
      have p1 : (i : Int) < (n : Int) := by omega
      have hip : i < L.length := by rw [← HN.out]; exact hin
      obtain ⟨b1, o1, bv, pv, rfl, -, k0, k1, k2, hsz, hb, hp⟩ := dv_at (rd_below SF.out HBB.out) hip
      obtain ⟨ab, cb, rfl, -, -⟩ := sl_form (rd8_sl hb)
      obtain ⟨ap, cp, rfl, -, -⟩ := rd_sl hp
      have RC := Lib.hid (rcontent_any (L.getD i fl0).1 _ _ _ _ wr (rd8_sl hb) hp)
      rw [show ((L.getD i fl0).1, (L.getD i fl0).2.1, (L.getD i fl0).2.2) = L.getD i fl0 from rfl] at RC
      have HT := Lib.hid (totN_take hip)
      have hbd := BND.out (i + 1)
      have HCL := Lib.hid (contL_le (L.getD i fl0))
      rw [HT.out, List.length_take] at hbd
      generalize (L.getD i fl0).2.1.length = nb at *
      generalize (L.getD i fl0).2.2.length = np at *
      generalize (L.getD i fl0).1 = sa at *
      generalize contL (L.getD i fl0) = C at *
      generalize totN (L.take i) = t0 at *
      obtain ⟨nc, hnc⟩ : ∃ z, z = C.length := ⟨_, rfl⟩
      have hw : wrap64 ((t0 : Int) + (nc : Int)) = ((t0 + nc : Nat) : Int) := by unfold wrap64; omega
      have hw1 : wrap64 ((i : Int) + 1) = ((i + 1 : Nat) : Int) := by unfold wrap64; omega
      rw [← hnc] at HT
      have HW1 := Lib.hid hw1
      have HW := Lib.hid hw
      have HI := Lib.hid hin
      have HNC := Lib.hid hnc
      clear hb hp hsz hip hbd hw hw1 hnc hin
      go_wp2_with fail
      refine RC.out.mono ?_
      rintro e w3 ⟨⟨v3, rfl, ho3⟩, hb3⟩
      obtain ⟨a3, c3, rfl, -, -⟩ := sl_form ho3.sl
      have B3 := Lib.hid (btA HBB.out hb3)
      have HG3 := Lib.hid ((hb3.block _ (lt_of_some0 HG.out)).trans HG.out)
      rw [← HNC.out]
      have hw := HW.out
      have hw1 := HW1.out
      clear ho3 hb3 RC x0 x1 x2 k0 k1 k2
      go_wp2
      go_roundw
      case rel =>
        have hi2 := HI.out
        exact ⟨i + 1, by omega, by go_num, by rw [HT.out]; go_num, HG3, B3⟩
      case measure =>
        have hi2 := HI.out
        simp [intOf]
        omega
    · obtain rfl : i = n := by omega
      have l1 : decide ((i : Int) < (i : Int)) = false := decide_eq_false (by omega)
      have htk : L.take i = L := by rw [HN.out]; exact List.take_length
      rw [htk]
      go_wp2
      go_ret
      exact ⟨rfl, HBB.out⟩
end Go.Proofs.Ytpipgbjkkiheaaa.Gf
namespace Go.Proofs.Ytpipgbjkkiheaaa.Gf
open Go Go.Joins Go.ChangeShapes Go.WideShapes Go.ChangeAt Go.RowKit Go.Deep Go.Proofs.Ytpipgbjkkiheaaa.By Go.Proofs.Ytpipgbjkkiheaaa.Qt

theorem lsS : LsT Try.prog 43 9 .s := lsT_of Try.underlying43 (z := .string ⟨#[]⟩) (n := 1) (b := 16) (by kernel_rfl) rfl (by decide) rfl
def namesL (d : Dk) : List ByteArray := if validB d then d.2.2.map (·.1) else []
/-- A call that answers names. -/
def NmO (w : World) (l : List ByteArray) (e : Ending) (w' : World) : Prop := (∃ v, e = .returned v ∧ OwG 9 .s (fun _ => True) w' w.heap.size v l) ∧ Below w.heap.size w w'
theorem names_take {L : List Fl} {i : Nat} (h : i < L.length) : (L.take (i + 1)).map (·.1) = (L.take i).map (·.1) ++ [(L.getD i fl0).1] := by
  rw [List.take_succ_eq_append_getElem h, List.map_append, getD_F h]
  rfl
set_option maxRecDepth 100000 in
set_option maxHeartbeats 6400000 in
theorem rnames_any (v : Value) (d : Dk) (w : World) (hv : Dv w v d) (hlen : d.2.2.length ≤ 1000000) : Calls Try.prog 28 #[v] w (NmO w (namesL d)) := by
  have RV := Lib.hid (fun W (h : Below w.heap.size w W) => rvalid10_any v d W (dv_below hv h))
  have hNM : namesL d = if validB d then d.2.2.map (·.1) else [] := rfl
  have HNM := Lib.hid hNM
  clear hNM
  generalize namesL d = NM at *
  generalize validB d = VB at *
  obtain ⟨fv, rfl, -, sf⟩ := hv
  have SF := Lib.hid sf
  obtain ⟨af, cf, rfl, -, -⟩ := rd_sl sf
  obtain ⟨cap, left, L⟩ := d
  dsimp only at SF hlen HNM RV ⊢
  obtain ⟨n, hn⟩ : ∃ z, z = L.length := ⟨_, rfl⟩
  rw [← hn] at SF hlen RV ⊢
  have HN := Lib.hid hn
  have HLEN := Lib.hid hlen
  have BX := Lib.hid (bel_al0 w (.cells #[.int .i64 cap, .int .i64 left, .slice af n cf] 24))
  have HX := Lib.hid (heap_alloc_new w (.cells #[.int .i64 cap, .int .i64 left, .slice af n cf] 24))
  clear sf hn hlen
  go_enter Try.func28, Try.ntmps28
  go_wp2_with fail
  go_loopw [3, 4] (fun out t wr => ∃ i : Nat, i ≤ n ∧ t = .int .i64 (i : Int) ∧ (0 < i → VB = true) ∧ Hid (OwG 9 .s (fun _ => True) wr (w.heap.size + 1) out ((L.take i).map (·.1))) ∧ Hid (wr.heap[w.heap.size]? = some (.cells #[.int .i64 cap, .int .i64 left, .slice af n cf] 24 (0, 0))) ∧ Hid (Below w.heap.size w wr)) (fun _ t _ => n - (intOf t).toNat)
  case atStart => exact ⟨0, by omega, rfl, fun h => absurd h (by omega), Lib.hid (og_nil _ _ _ _ _), HX, BX⟩
  case round =>
    obtain ⟨i, hi, rfl, hvb, HO, HG, HBB⟩ := hrel
    obtain ⟨x0, x1, x2⟩ := box3c HG.out
    obtain ⟨ao, co, rfl, -, -⟩ := og_form HO.out
    obtain ⟨no, hno⟩ : ∃ z, z = ((L.take i).map (·.1)).length := ⟨_, rfl⟩
    rw [← hno] at HO ⊢
    have HNO := Lib.hid hno
    clear hno
    have hlen := HLEN.out
    by_cases hin : i < n
    · have l1 : decide ((i : Int) < (n : Int)) = true := decide_eq_true (by omega)
      have p0 : (0 : Int) ≤ (i : Int) := by omega
      have p1 : (i : Int) < (n : Int) := by omega
      have hip : i < L.length := by rw [← HN.out]; exact hin
      have HI := Lib.hid hin
      have HIP := Lib.hid hip
      have RVW := Lib.hid (RV.out wr HBB.out)
      clear hin hip
      go_wp2_with fail
      refine RVW.out.mono ?_
      rintro e w2 ⟨rfl, hb2⟩
      have HO2 := Lib.hid (og_below HO.out hb2)
      have HG2 := Lib.hid ((hb2.block _ (lt_of_some0 HG.out)).trans HG.out)
      have B2 := Lib.hid (btA HBB.out hb2)
      clear x0 x1 x2 hb2 RVW
      obtain ⟨x0, x1, x2⟩ := box3c HG2.out
      cases VB
      · have h0 : ¬ 0 < i := fun h => by cases hvb h
        obtain rfl : i = 0 := by omega
        have HO3 : Hid (OwG 9 .s (fun _ => True) w2 (w.heap.size + 1) (.slice ao no co) []) := HO2
        clear hvb
        go_wp2
        go_ret
        rw [HNM.out]
        exact ⟨⟨_, rfl, og_base HO3.out (by omega)⟩, B2.out⟩
      · obtain ⟨b1, o1, bv, pv, rfl, -, k0, -, -, hsz, -, -⟩ := dv_at (rd_below SF.out B2.out) HIP.out
        have HT := Lib.hid (names_take HIP.out)
        generalize (L.getD i fl0).1 = sa at *
        have HA := Lib.hid (bel_al0 w2 (.cells #[.string sa] 9))
        have HNW := Lib.hid (heap_alloc_new w2 (.cells #[.string sa] 9))
        have HOA := Lib.hid (og_below HO2.out HA.out)
        have HWZ := Lib.hid (show w.heap.size + 1 ≤ w2.heap.size from (by have h1 := lt_of_some0 HG2.out; omega))
        have HSG := Lib.hid (rd_single (t := .s) (cs := [.string sa]) (B := fun b => True ∧ (Value.slice ao no co).ownBlock ≠ some b) (x := sa) ⟨hsz, rfl⟩ HNW.out ⟨trivial, fun e => (by have h1 := (og_lt HO2.out _ e).2; omega)⟩)
        clear hvb hsz
        go_wp2_with (at_builtin; refine app_g lsS (dst := some 24) ?_ ?_ HOA.out HSG.out (by have h1 := HNO.out; have h2 := HLEN.out; have h3 := HI.out; simp only [List.length_map, List.length_take] at h1; simp only [List.length_map, List.length_take, List.length_singleton]; omega) (by have h1 := HWZ.out; have h2 := HA.out.size; omega) ?_; exact rfl; exact rfl; intro v5 w5 ho5 hg5 hat5; have HG5 := Lib.hid ((hg5.block _ (by have h1 := HWZ.out; have h2 := HA.out.size; omega) fun e => (by have h4 := (og_lt HOA.out _ e.symm).1; omega)).trans ((HA.out.block _ (by have h1 := HWZ.out; omega)).trans HG2.out)); have B5 := Lib.hid (below_grownG (btA B2.out HA.out) hg5 HOA.out (by have h1 := HWZ.out; have h2 := HA.out.size; omega) (by omega)); obtain ⟨a5, c5, rfl, -, -⟩ := og_form ho5; have HO5 := Lib.hid ho5; clear ho5 hg5 hat5)
        have hlen := HLEN.out
        have hi2 := HI.out
        go_roundw
        case rel => exact ⟨i + 1, by omega, by go_num, fun _ => trivial, Lib.hid (by rw [HT.out]; simpa using HO5.out), HG5, B5⟩
        case measure => simp [intOf]; omega
    · obtain rfl : i = n := by omega
      have l1 : decide ((i : Int) < (i : Int)) = false := decide_eq_false (by omega)
      have htk : L.take i = L := by rw [HN.out]; exact List.take_length
      rw [htk] at HO
      go_wp2
      go_ret
      refine ⟨⟨_, rfl, ?_⟩, HBB.out⟩
      rw [HNM.out]
      cases VB
      · have h0 : ¬ 0 < i := fun h => by cases hvb h
        have hL : L = [] := List.eq_nil_of_length_eq_zero (by have := HN.out; omega)
        subst hL
        exact og_base HO.out (by omega)
      · exact og_base HO.out (by omega)
end Go.Proofs.Ytpipgbjkkiheaaa.Gf
namespace Go.Proofs.Ytpipgbjkkiheaaa.Gf
open Go Go.Joins Go.ChangeShapes Go.WideShapes Go.ChangeAt Go.RowKit Go.Deep Go.Proofs.Ytpipgbjkkiheaaa.By Go.Proofs.Ytpipgbjkkiheaaa.Qt

theorem results_rt {P : Program} {fn : Func} {p q : Tmp} {S : TypeId} (h : fn.results = #[.cell p S, .tmp q]) (tmps : Array Value) (w : World) (g : Nat) (cs : Array Value) {d : TypeDesc}
    (hp : tmps.getD p undef = .pointer (some ⟨g, 0, none⟩)) (hg : w.heap[g]? = some (.cells cs S (0, 0)))
    (hu : P.underlying S = some d) (hd : (match d with | .struct _ | .array _ _ => true | _ => false) = true) (hi : (P.info? S).map (·.size) = some cs.size) :
    (results fn tmps).run P w = .ok (.tuple #[.agg cs, tmps.getD q undef]) w := by
  have hp' : tmps[p]?.getD undef = .pointer (some ⟨g, 0, none⟩) := by simpa using hp
  simp [results, h, hp', asAddr, run_loadVar_row w g S S cs (0, 0) d hg hu hd hi]
/-- The end of a call that answers a disk and an error. -/
theorem rdisk_end {fn : Func} {p q : Tmp} (h : fn.results = #[.cell p 24, .tmp q]) {R : Ending → World → Prop} {W : World} {g : Nat} {tmps : Array Value} {k c d : Value} (hg : W.heap[g]? = some (.cells #[k, c, d] 24 (0, 0))) (hp : tmps.getD p undef = .pointer (some ⟨g, 0, none⟩))
    (hR : R (.returned (.tuple #[.agg #[k, c, d], tmps.getD q undef])) W) : bodyPost Try.prog fn R .ret { tmps := tmps, defers := [] } W :=
  bodyPost_ret (results_rt h _ _ g #[k, c, d] hp hg Try.underlying24 rfl infoD) rfl hR
def dk0 : Dk := (0, 0, [])
/-- A call that answers a disk and an error. -/
def DE (B : Nat → Prop) (w : World) (d : Dk) (E : Nat) (e : Ending) (w' : World) : Prop := (∃ v, e = .returned (.tuple #[v, .int .i64 (E : Int)]) ∧ DvB (fun b => B b ∨ w.heap.size ≤ b) w' v d) ∧ Below w.heap.size w w'
/-- Its error's end: the box of the result holds what it held. -/
theorem de_zero {B : Nat → Prop} {w W : World} {E : Nat} (h : Below w.heap.size w W) : DE B w dk0 E (.returned (.tuple #[.agg #[.int .i64 0, .int .i64 0, .slice none 0 0], .int .i64 (E : Int)])) W := ⟨⟨_, rfl, .slice none 0 0, rfl, ⟨⟨by show _ ≤ (0 : Int); omega, by show (0 : Int) ≤ _; omega⟩, by show _ ≤ (0 : Int); omega, by show (0 : Int) ≤ _; omega⟩, rd_nil _ _ _⟩, h⟩
theorem ready_len {d : Dk} {s : ByteArray} (h : readyE d s = 0) : d.2.2.length ≤ 256 ∧ validB d = true := by
  unfold readyE at h
  cases hv : validB d
  · rw [hv] at h; cases h
  · refine ⟨?_, rfl⟩
    unfold validB at hv
    simp only [Bool.and_eq_true, decide_eq_true_eq] at hv
    exact hv.1.2
def addD (d : Dk) (f : Fl) : Dk := (d.1, d.2.1, addedL d.2.2 f)
def createE (d : Dk) (s : ByteArray) : Nat := if readyE d s = 0 then (if 0 ≤ fndL d.2.2 s then 7 else if d.2.2.length = 256 then 9 else 0) else readyE d s
def createD (d : Dk) (s : ByteArray) : Dk := if createE d s = 0 then addD (nextD d) (s, [], []) else dk0
theorem og_rdw {T : TypeId} {t : Ty} {B : Nat → Prop} {w : World} {base : Nat} {v : Value} {l : List t.T} (h : OwG T t B w base v l) : Rd (fun b => B b ∨ base ≤ b) w (.sl t) [v] l := by
  obtain ⟨L, h1, h0, h2⟩ := h
  exact og_rd ⟨L, h1, fun p hp => rd_mono (h0 p hp) fun b hb _ => ⟨Or.inl hb.1, hb.2⟩, h2⟩ fun b hb => Or.inr hb
theorem nxo_dv {B : Nat → Prop} {w w' : World} {d : Dk} {e : Ending} (h : NxO B w d e w') (hr : (-9223372036854775808 ≤ d.1 ∧ d.1 ≤ 9223372036854775807) ∧ (-9223372036854775808 ≤ d.2.1 ∧ d.2.1 ≤ 9223372036854775807)) : DvO (fun b => B b ∧ b < w.heap.size) w d e w' := by
  obtain ⟨⟨fv, h1, h2⟩, h3⟩ := h
  exact ⟨⟨_, h1, fv, rfl, hr, og_rdw h2⟩, h3⟩
set_option maxRecDepth 100000 in
set_option maxHeartbeats 6400000 in
theorem rcreate_any (v : Value) (d : Dk) (s : ByteArray) (hs : s.size ≤ maxLen) (w : World) (hv : Dv w v d) : Calls Try.prog 56 #[v, .string s] w (DE (fun b => b < w.heap.size) w (createD d s) (createE d s)) := by
  have HV := Lib.hid hv
  obtain ⟨fv, rfl, hr, sf⟩ := hv
  have HR := Lib.hid hr
  obtain ⟨af, cf, rfl, -, -⟩ := rd_sl sf
  have BX1 := bel_al0 w (.cells #[.int .i64 d.1, .int .i64 d.2.1, .slice af d.2.2.length cf] 24)
  have BX2 := Lib.hid (btA BX1 (bel_al0 _ (.cells #[.int .i64 0, .int .i64 0, .slice none 0 0] 24)))
  have HX := Lib.hid (show ((w.alloc (.cells #[.int .i64 d.1, .int .i64 d.2.1, .slice af d.2.2.length cf] 24)).alloc (.cells #[.int .i64 0, .int .i64 0, .slice none 0 0] 24)).heap[w.heap.size]? = some (.cells #[.int .i64 d.1, .int .i64 d.2.1, .slice af d.2.2.length cf] 24 (0, 0)) from (heap_alloc_old _ _ (by simp)).trans (heap_alloc_new w _))
  have HY := Lib.hid (heap_alloc2_new w (.cells #[.int .i64 d.1, .int .i64 d.2.1, .slice af d.2.2.length cf] 24) (.cells #[.int .i64 0, .int .i64 0, .slice none 0 0] 24))
  have RR := Lib.hid (rready_any _ d s hs _ (dv_below HV.out BX2.out))
  have RF := Lib.hid (fun W (h : Below w.heap.size w W) => rfind10_any _ d s W (dv_below HV.out h))
  have RN := Lib.hid (fun W (h : Below w.heap.size w W) (hl : d.2.2.length ≤ 1000000) => rnext_any _ d W (dv_dvB HV.out h) hl)
  have RL := Lib.hid (ready_len (d := d) (s := s))
  have hE : createE d s = if readyE d s = 0 then (if 0 ≤ fndL d.2.2 s then 7 else if d.2.2.length = 256 then 9 else 0) else readyE d s := rfl
  have hD : createD d s = if createE d s = 0 then addD (nextD d) (s, [], []) else dk0 := rfl
  have HNX : Hid (((-9223372036854775808 ≤ (nextD d).1 ∧ (nextD d).1 ≤ 9223372036854775807) ∧ (-9223372036854775808 ≤ (nextD d).2.1 ∧ (nextD d).2.1 ≤ 9223372036854775807)) ∧ (nextD d).2.2 = d.2.2) := Lib.hid (by
    refine ⟨⟨hr.1, ?_⟩, rfl⟩
    show -9223372036854775808 ≤ leftN d.2.1 ∧ leftN d.2.1 ≤ 9223372036854775807
    unfold leftN
    split <;> omega)
  generalize nextD d = ND at *
  generalize createD d s = CD at *
  generalize createE d s = CE at *
  generalize readyE d s = R at *
  generalize fndL d.2.2 s = F at *
  obtain ⟨cap, left, L⟩ := d
  dsimp only at RR RF RN HX HY BX2 hE RL HNX ⊢
  obtain ⟨n, hn⟩ : ∃ z, z = L.length := ⟨_, rfl⟩
  rw [← hn] at RR RF RN HX HY BX2 hE RL ⊢
  have HN := Lib.hid hn
  have HE := Lib.hid hE
  have HD := Lib.hid hD
  obtain ⟨x0, x1, x2⟩ := box3c HX.out
  clear sf hE hD HV hn hr BX1
  go_enter Try.func56, Try.ntmps56
  go_wp2_with fail
  refine RR.out.mono ?_
  rintro e w2 ⟨rfl, hb2⟩
  have SZ2 := Lib.hid (show w.heap.size + 2 ≤ w2.heap.size from by have h := hb2.size; simp at h; omega)
  have HX2 := Lib.hid ((hb2.block _ (lt_of_some0 HX.out)).trans HX.out)
  have HY2 := Lib.hid ((hb2.block _ (lt_of_some0 HY.out)).trans HY.out)
  have B2 := Lib.hid (btA BX2.out hb2)
  clear x0 x1 x2 hb2 RR HX HY
  obtain ⟨x0, x1, x2⟩ := box3c HX2.out
  obtain ⟨y0, y1, y2⟩ := box3c HY2.out
  have u0 := frozen_of_row w2 (w.heap.size + 1) 0 _ _ HY2.out
  have u1 := frozen_of_row w2 (w.heap.size + 1) 1 _ _ HY2.out
  have u2 := frozen_of_row w2 (w.heap.size + 1) 2 _ _ HY2.out
  by_cases hR0 : R = 0
  · subst hR0
    rw [if_pos rfl] at HE
    have hl := (RL.out rfl).1
    clear u0 u1 u2
    go_wp2_with fail
    refine (RF.out _ B2.out).mono ?_
    rintro e w3 ⟨rfl, hb3⟩
    have SZ3 := Lib.hid (show w.heap.size + 2 ≤ w3.heap.size from by have h := hb3.size; have h2 := SZ2.out; omega)
    have HX3 := Lib.hid ((hb3.block _ (lt_of_some0 HX2.out)).trans HX2.out)
    have HY3 := Lib.hid ((hb3.block _ (lt_of_some0 HY2.out)).trans HY2.out)
    have B3 := Lib.hid (btA B2.out hb3)
    clear x0 x1 x2 y0 y1 y2 hb3 RF HX2 HY2 SZ2
    obtain ⟨x0, x1, x2⟩ := box3c HX3.out
    obtain ⟨y0, y1, y2⟩ := box3c HY3.out
    have u0 := frozen_of_row w3 (w.heap.size + 1) 0 _ _ HY3.out
    have u1 := frozen_of_row w3 (w.heap.size + 1) 1 _ _ HY3.out
    have u2 := frozen_of_row w3 (w.heap.size + 1) 2 _ _ HY3.out
    by_cases hF : 0 ≤ F
    · have e1 : decide (F ≥ 0) = true := decide_eq_true hF
      have e2 : decide (0 ≤ F) = true := decide_eq_true hF
      rw [if_pos hF] at HE
      rw [HE.out, if_neg (by omega)] at HD
      clear hF hl
      go_wp2
      refine rdisk_end rfl (set3c HY3.out) rfl ?_
      rw [HD.out, HE.out]
      exact de_zero (below_set3 B3.out (by omega))
    have e1 : decide (F ≥ 0) = false := decide_eq_false hF
    have e2 : decide (0 ≤ F) = false := decide_eq_false hF
    rw [if_neg hF] at HE
    clear hF
    by_cases hn2 : n = 256
    · rw [if_pos hn2] at HE
      rw [HE.out, if_neg (by omega)] at HD
      have e3 : ((n : Int) == 256) = true := by rw [beq_iff_eq]; omega
      clear hn2 hl
      go_wp2
      refine rdisk_end rfl (set3c HY3.out) rfl ?_
      rw [HD.out, HE.out]
      exact de_zero (below_set3 B3.out (by omega))
    rw [if_neg hn2] at HE
    rw [HE.out, if_pos rfl] at HD
    have e3 : ((n : Int) == 256) = false := by rw [beq_eq_false_iff_ne]; omega
    have RN3 := Lib.hid (RN.out w3 B3.out (by omega))
    have HL := Lib.hid hl
    clear hn2 hl u0 u1 u2
    go_wp2_with fail
    refine RN3.out.mono ?_
    rintro e w4 h4
    obtain ⟨⟨v4, rfl, hv4⟩, hb4⟩ := nxo_dv h4 HNX.out.1
    have RA := Lib.hid (fun bv pv hf => radded_any v4 ND (s, [], []) bv pv w4 hv4 hf (by rw [HNX.out.2]; have := HL.out; have := HN.out; omega))
    obtain ⟨f4, rfl, -, -⟩ := hv4
    have HY4 := Lib.hid ((hb4.block _ (lt_of_some0 HY3.out)).trans HY3.out)
    have B4 := Lib.hid (btA B3.out hb4)
    have SZ4 := Lib.hid (show w3.heap.size ≤ w4.heap.size from hb4.size)
    clear x0 x1 x2 y0 y1 y2 hb4 h4 RN3 HX3 HY3
    go_wp2_with fail
    refine (RA.out _ _ (rd_f_mk (x := (s, [], [])) hs (rd_nil _ _ _) (rd_nil _ _ _))).mono ?_
    rintro e w5 ⟨⟨v5, rfl, hv5⟩, hb5⟩
    obtain ⟨f5, rfl, hr5, hl5⟩ := hv5
    dsimp only at hr5 hl5 ⊢
    obtain ⟨a5, c5, rfl, -, -⟩ := rd_sl hl5
    obtain ⟨n5, hn5⟩ : ∃ z, z = (addedL ND.2.2 (s, [], [])).length := ⟨_, rfl⟩
    rw [← hn5] at hl5 ⊢
    have RD5 := Lib.hid hl5
    have HR5 := Lib.hid hr5
    have HY5 := Lib.hid ((hb5.block _ (lt_of_some0 HY4.out)).trans HY4.out)
    have B5 := Lib.hid (btA B4.out hb5)
    have SZ5 := Lib.hid (show w4.heap.size ≤ w5.heap.size from hb5.size)
    clear hl5 hb5 hr5 hn5
    obtain ⟨y0, y1, y2⟩ := box3c HY5.out
    have u0 := frozen_of_row w5 (w.heap.size + 1) 0 _ _ HY5.out
    have u1 := frozen_of_row w5 (w.heap.size + 1) 1 _ _ HY5.out
    have u2 := frozen_of_row w5 (w.heap.size + 1) 2 _ _ HY5.out
    go_wp2
    refine rdisk_end rfl (set3c HY5.out) rfl ?_
    rw [HD.out, HE.out]
    refine ⟨⟨_, rfl, _, rfl, HR5.out, rd_move (fun b hb _ => set3_other ?_) (fun b hb _ => ?_) RD5.out⟩, below_set3 B5.out (by omega)⟩
    · have h3 := SZ3.out; have h4 := SZ4.out; omega
    · have h3 := SZ3.out; have h4 := SZ4.out; omega
  · rw [if_neg hR0] at HE
    rw [HE.out, if_neg hR0] at HD
    have e1 : ((R : Int) != 0) = true := by rw [bne_iff_ne]; omega
    clear hR0
    go_wp2
    refine rdisk_end rfl (set3c HY2.out) rfl ?_
    rw [HD.out, HE.out]
    exact de_zero (below_set3 B2.out (by omega))
end Go.Proofs.Ytpipgbjkkiheaaa.Gf
