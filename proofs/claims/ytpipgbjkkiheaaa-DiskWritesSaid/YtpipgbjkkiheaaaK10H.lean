/- What is proved here: contracts of the program (disk): the sort, remains, Crash; disks with one file; awake. Conditions: see each. -/
import Derived.Test.YtpipgbjkkiheaaaK10D
import Derived.Test.YtpipgbjkkiheaaaK10E
import Derived.Test.YtpipgbjkkiheaaaK10C
import Derived.BigQuiet
import Derived.Test.YtpipgbjkkiheaaaK10G
namespace Go.Proofs.Ytpipgbjkkiheaaa.Gf
open Go
def nKp (a : Int) (n : Nat) : Nat := (min (max a 0) (n : Int)).toNat
theorem nKp_cast (a : Int) (n : Nat) : min (max a 0) (n : Int) = ((nKp a n : Nat) : Int) := by unfold nKp; omega
theorem nKp_le (a : Int) (n : Nat) : nKp a n ≤ n := by unfold nKp; omega
/-- What a power failure leaves of the writes of a file. -/
def keepW (p : List Wr) (a t : Int) : List Wr := p.take (nKp a p.length) ++ (if nKp a p.length < p.length ∧ 0 < nKp t (p.getD (nKp a p.length) wr0).2.1.length then [((p.getD (nKp a p.length) wr0).1, (p.getD (nKp a p.length) wr0).2.1.take (nKp t (p.getD (nKp a p.length) wr0).2.1.length), (p.getD (nKp a p.length) wr0).2.2)] else [])
/-- What a power failure leaves of a file. -/
def remF (f : Fl) (k : Kep) : Fl := (f.1, contL (f.1, f.2.1, keepW f.2.2 k.2.1 k.2.2), [])
theorem flB_keepW {b : List Nat} {p : List Wr} (a t : Int) (h : flB b p = true) : flB b (keepW p a t) = true := by
  unfold flB at h ⊢
  rw [Bool.and_eq_true] at h ⊢
  refine ⟨h.1, ?_⟩
  unfold keepW
  have hn := nKp_le a p.length
  generalize nKp a p.length = n at *
  rw [okP_append, Bool.and_eq_true]
  refine ⟨okP_take h.2, ?_⟩
  split
  · rename_i hc
    obtain ⟨h1, h2⟩ := hc
    have e : p.take (n + 1) = p.take n ++ [p.getD n wr0] := by
      rw [List.take_add_one, List.getD_eq_getElem?_getD, List.getElem?_eq_getElem h1]
      rfl
    have h3 := okP_take (i := n + 1) h.2
    rw [e, okP_append, Bool.and_eq_true, okP, Bool.and_eq_true, Bool.and_eq_true] at h3
    have hcut := okP_cut p b h.2 (p.getD n wr0) (by
      rw [List.getD_eq_getElem?_getD, List.getElem?_eq_getElem h1]
      exact List.getElem_mem h1)
    have hl := nKp_le t (p.getD n wr0).2.1.length
    generalize nKp t (p.getD n wr0).2.1.length = m at *
    generalize p.getD n wr0 = y at *
    obtain ⟨o, d, c⟩ := y
    dsimp only at *
    have hcf : c = false := by
      cases c with
      | false => rfl
      | true =>
        have := hcut rfl
        subst this
        simp at hl
        omega
    subst hcf
    have hw := h3.2.1.1
    have hq := h3.2.1.2
    rw [okP, Bool.and_eq_true, Bool.and_eq_true]
    refine ⟨⟨?_, ?_⟩, rfl⟩
    · simp [wOk] at hw ⊢
      omega
    · rw [decide_eq_true_iff, apW_length] at hq ⊢
      simp at hq ⊢
      omega
  · rfl
theorem keepW_len (p : List Wr) (a t : Int) : (keepW p a t).length ≤ p.length := by
  unfold keepW
  have hn := nKp_le a p.length
  generalize nKp a p.length = n at *
  split
  · rename_i hc
    simp
    omega
  · rw [List.append_nil, List.length_take]; omega
end Go.Proofs.Ytpipgbjkkiheaaa.Gf
namespace Go.Proofs.Ytpipgbjkkiheaaa.Gf
open Go Go.Joins Go.ChangeShapes Go.WideShapes Go.ChangeAt Go.RowKit Go.Deep Go.Sort Go.Proofs.Ytpipgbjkkiheaaa.By Go.Proofs.Ytpipgbjkkiheaaa.Qt

theorem held_two {P : Program} {ops : Array Oper} {md : Region.Mode} {Q : Exit → Act → World → Prop} {S : World → Prop} {fuel : Nat} {listed : Array Bool} {a : Act} {w : World} (i k : Nat) {oi ok : Oper} (hi : ops[i]? = some oi) (hk : ops[k]? = some ok) (hg : oi.guard = none) (hg2 : ok.guard = none) (hr : Region.ready md ops listed = [i, k])
    (h : ∀ K : Act → World → Prop, (∀ a' w', S w' → wpAnyH P md ops Q S fuel (listed.setIfInBounds i true) a' w' → K a' w') → oi.wp P a w K Q)
    (h2 : ∀ K : Act → World → Prop, (∀ a' w', S w' → wpAnyH P md ops Q S fuel (listed.setIfInBounds k true) a' w' → K a' w') → ok.wp P a w K Q) : wpAnyH P md ops Q S (fuel + 1) listed a w := by
  refine wpAnyH_all hr (by simp) fun j hj => ?_
  have hj2 : j = i ∨ j = k := by simpa using hj
  rcases hj2 with rfl | rfl
  · unfold wpOp
    simp only [hi]
    rw [if_pos (by simp [Region.wanted, hg])]
    exact Or.inl (h _ fun a' w' h1 h2 => ⟨h1, h2⟩)
  · unfold wpOp
    simp only [hk]
    rw [if_pos (by simp [Region.wanted, hg2])]
    exact Or.inl (h2 _ fun a' w' h1 h2 => ⟨h1, h2⟩)
abbrev nmK : Kep → ByteArray := fun f : Kep => f.1
/-- Sorted by names, each name as often as it likes. -/
def SrtK (L : List Kep) : Prop := L.Pairwise fun x y => ltS y.1 x.1 = false
/-- The first keep of a name. -/
def fstK (s : ByteArray) (L : List Kep) : Option Kep := L.find? fun x => nmEq x.1 s
theorem le_trans_S {a b c : ByteArray} (h1 : ltS b a = false) (h2 : ltS c b = false) : ltS c a = false := by
  cases h : ltS c a with
  | false => rfl
  | true =>
    cases h3 : ltS a b with
    | true => have := ltS_trans h h3; rw [this] at h2; cases h2
    | false => have := ltS_eqS h3 h1; subst this; rw [h] at h2; cases h2
theorem srtK_ins {P Q : List Kep} {x : Kep} (h : SrtK (P ++ Q)) (hQ : ∀ q ∈ Q, ltS x.1 q.1 = true) (hP : ∀ p ∈ P, ltS x.1 p.1 = false) : SrtK (P ++ x :: Q) := by
  unfold SrtK at *
  rw [List.pairwise_append] at h ⊢
  obtain ⟨h1, h2, h3⟩ := h
  refine ⟨h1, List.pairwise_cons.2 ⟨fun q hq => ltS_asymm (hQ q hq), h2⟩, fun p hp q hq => ?_⟩
  rcases List.mem_cons.1 hq with rfl | hq
  · exact hP p hp
  · exact h3 p hp q hq
theorem fstK_ins {P Q R : List Kep} {x : Kep} (hQ : ∀ q ∈ Q, ltS x.1 q.1 = true) (s : ByteArray) : fstK s (P ++ (x :: Q) ++ R) = fstK s (P ++ Q ++ x :: R) := by
  unfold fstK
  simp only [List.append_assoc, List.find?_append, List.cons_append, List.find?_cons]
  by_cases c : nmEq x.1 s = true
  · have hn : Q.find? (fun x => nmEq x.1 s) = none := List.find?_eq_none.2 fun q hq => by
      rw [← nmEq_iff.1 c, nmEq_gt (hQ q hq)]
      decide
    rw [c, hn]
    simp
  · have c' : nmEq x.1 s = false := by simpa using c
    rw [c']
/-- What the sort answers. -/
def ISQ (B : Nat → Prop) (base : Nat) (v : Value) (w : World) (L : List Kep) (e : Ending) (w' : World) : Prop := e = .returned (.tuple #[]) ∧ ∃ Z : List Kep, OwG 87 tyK B w' base v Z ∧ Z.length = L.length ∧ SrtK Z ∧ (∀ s, fstK s Z = fstK s L) ∧ Below base w w'
set_option maxRecDepth 100000 in
set_option maxHeartbeats 6400000 in
theorem pccmp_any (a b : Kep) (w : World) : Calls Try.prog 72 #[.agg #[.string a.1, .int .i64 a.2.1, .int .i64 a.2.2], .agg #[.string b.1, .int .i64 b.2.1, .int .i64 b.2.2]] w fun e w' => e = .returned (.int .i64 (cmpS a.1 b.1)) ∧ Below w.heap.size w w' := by
  have A1 := bel_al0 w (.cells #[.string a.1, .int .i64 a.2.1, .int .i64 a.2.2] 87)
  have BX := Lib.hid (btA A1 (bel_al0 _ (.cells #[.string b.1, .int .i64 b.2.1, .int .i64 b.2.2] 87)))
  have HX := (A1.trans ((bel_al0 _ (.cells #[.string b.1, .int .i64 b.2.1, .int .i64 b.2.2] 87)).mono A1.size)).size
  have H1 := Lib.hid (((bel_al0 (w.alloc (.cells #[.string a.1, .int .i64 a.2.1, .int .i64 a.2.2] 87)) (.cells #[.string b.1, .int .i64 b.2.1, .int .i64 b.2.2] 87)).block w.heap.size (by simp)).trans (heap_alloc_new w _))
  have H2 := Lib.hid (heap_alloc2_new w (.cells #[.string a.1, .int .i64 a.2.1, .int .i64 a.2.2] 87) (.cells #[.string b.1, .int .i64 b.2.1, .int .i64 b.2.2] 87))
  have CM := Lib.hid (pcmps_any a.1 b.1)
  clear A1 HX
  generalize cmpS a.1 b.1 = r at *
  go_enter Try.func72, Try.ntmps72
  go_upto_region 1 with fail
  generalize ((w.alloc (.cells #[.string a.1, .int .i64 a.2.1, .int .i64 a.2.2] 87)).alloc (.cells #[.string b.1, .int .i64 b.2.1, .int .i64 b.2.2] 87)) = W1 at *
  obtain ⟨x0, -, -⟩ := box3c H1.out
  obtain ⟨y0, -, -⟩ := box3c H2.out
  go_wp2_with fail
  refine (CM.out _).mono ?_
  rintro e w3 ⟨rfl, rfl⟩
  go_wp2
  go_ret
  exact ⟨rfl, BX.out⟩
theorem og_elem {B : Nat → Prop} {w : World} {base g n c : Nat} {D : List Kep} (h : OwG 87 tyK B w base (.slice (some ⟨g, 0, none⟩) n c) D) {j : Nat} {x : Kep} (hj : D[j]? = some x) : w.cell? ⟨g, j * 3, none⟩ = some (.string x.1) ∧ w.cell? ⟨g, j * 3 + 1, none⟩ = some (.int .i64 x.2.1) ∧ w.cell? ⟨g, j * 3 + 2, none⟩ = some (.int .i64 x.2.2) ∧ Rd (fun _ => False) w tyK [.string x.1, .int .i64 x.2.1, .int .i64 x.2.2] x := by
  have hr := og_rd (og_mono h fun _ _ _ => trivial) (B := fun _ => True) fun _ _ => trivial
  obtain ⟨b, off, cap, e, _, _, _, hc⟩ := rd_cells hr (by have := (List.getElem?_eq_some_iff.1 hj).1; omega)
  obtain ⟨⟨rfl, rfl⟩, -, -⟩ : (g = b ∧ 0 = off) ∧ n = D.length ∧ c = cap := by simpa using e
  obtain ⟨cs, hrd, hk⟩ := hc j _ hj
  obtain ⟨rfl, h1, h2, h3⟩ := rd_k hrd
  have k0 := hk 0 (by decide)
  have k1 := hk 1 (by decide)
  have k2 := hk 2 (by decide)
  rw [show 0 + (j * tyK.n + 0) = j * 3 by show 0 + (j * 3 + 0) = _; omega] at k0
  rw [show 0 + (j * tyK.n + 1) = j * 3 + 1 by show 0 + (j * 3 + 1) = _; omega] at k1
  rw [show 0 + (j * tyK.n + 2) = j * 3 + 2 by show 0 + (j * 3 + 2) = _; omega] at k2
  exact ⟨k0, k1, k2, [_], [.int .i64 x.2.1, .int .i64 x.2.2], rfl, ⟨h1, rfl⟩, [_], [_], rfl, ⟨h2, rfl⟩, h3, rfl⟩
theorem og_frozen {T : TypeId} {t : Ty} {B : Nat → Prop} {w : World} {base g n c : Nat} {l : List t.T} (h : OwG T t B w base (.slice (some ⟨g, 0, none⟩) n c) l) (hp : 0 < l.length) (o : Nat) : w.frozen? ⟨g, o, none⟩ = false := by
  obtain ⟨-, -, cur, hg, -⟩ := og_ptr h hp
  exact frozen_of_row w g o _ _ hg
set_option maxRecDepth 100000 in
set_option maxHeartbeats 12800000 in
theorem pins_any {B : Nat → Prop} (v : Value) (n : Nat) (L : List Kep) (base : Nat) (w : World) (ho : OwG 87 tyK B w base v L) (hn : n = L.length) (hle : n ≤ 1000) (hbase : base ≤ w.heap.size) : Calls Try.prog 101 #[v, .int .i64 0, .int .i64 (n : Int), .func (.func 72) #[] #[]] w (ISQ B base v w L) := by
  have HO := Lib.hid ho
  have HN := Lib.hid hn
  have HLE := Lib.hid hle
  have HBS := Lib.hid hbase
  obtain ⟨a, c, rfl, -, -⟩ := og_form ho
  rw [← hn] at HO ⊢
  have HP : Hid (2 ≤ n → ∃ g, a = some ⟨g, 0, none⟩) := Lib.hid (fun h => by
    obtain ⟨b, off, cap, e, -⟩ := rd_cells (og_rd (og_mono HO.out fun _ _ _ => trivial) (B := fun _ => True) fun _ _ => trivial) (by omega)
    obtain ⟨rfl, -, -⟩ : a = some ⟨b, off, none⟩ ∧ n = L.length ∧ c = cap := by simpa using e
    obtain ⟨-, rfl, -⟩ := og_ptr HO.out (by omega)
    exact ⟨b, rfl⟩)
  clear ho hn hle hbase
  go_enter Try.func101, Try.ntmps101
  go_wp2_with fail
  go_loopw [8] (fun t wr => ∃ i : Nat, 1 ≤ i ∧ (i ≤ n ∨ i = 1) ∧ t = .int .i64 (i : Int) ∧ Hid (∃ Z1 X2, OwG 87 tyK B wr base (.slice a n c) (Z1 ++ X2) ∧ Z1.length + X2.length = n ∧ (i ≤ n → Z1.length = i) ∧ SrtK Z1 ∧ (∀ s, fstK s (Z1 ++ X2) = fstK s L)) ∧ Hid (Below base w wr)) (fun t _ => n - (intOf t).toNat)
  case atStart =>
    refine ⟨1, by omega, by omega, rfl, Lib.hid ?_, Lib.hid (Below.refl _ _)⟩
    have h := HO.out
    have hl := HN.out
    match L, h, hl with
    | [], h, hl => exact ⟨[], [], h, by simp at hl ⊢; omega, fun h2 => by simp at hl; omega, List.Pairwise.nil, fun _ => rfl⟩
    | x :: r, h, hl => exact ⟨[x], r, h, by simp at hl ⊢; omega, fun _ => rfl, List.pairwise_singleton _ _, fun _ => rfl⟩
  case round =>
    obtain ⟨i, hi1, hin, rfl, HD, HBB⟩ := hrel
    have hle := HLE.out
    by_cases hlt : i < n
    · have l1 : decide ((i : Int) < (n : Int)) = true := decide_eq_true (by omega)
      obtain ⟨g, rfl⟩ := HP.out (by omega)
      obtain ⟨Z1, X2, h1, h2, h3, h4, h5⟩ := HD.out
      have hz := h3 (by omega)
      obtain ⟨x, X2', rfl⟩ : ∃ x X', X2 = x :: X' := by
        cases X2 with
        | nil => simp at h2; omega
        | cons x r => exact ⟨x, r, rfl⟩
      have H1 := Lib.hid (And.intro h4 (And.intro hz (show Z1.length + (X2'.length + 1) = n from by simpa using h2)))
      have H5 := Lib.hid h5
      have H0 : Hid (OwG 87 tyK B wr base (.slice (some ⟨g, 0, none⟩) n c) (Z1 ++ x :: ([] ++ X2')) ∧ Z1 ++ [] = Z1 ∧ ∀ q ∈ ([] : List Kep), ltS x.1 q.1 = true) := Lib.hid ⟨h1, by simp, by simp⟩
      have HI := Lib.hid hlt
      clear HD h1 h2 h3 h4 h5 hz hlt
      go_wp2_with fail
      go_loopw [9] (fun t wr2 => ∃ (j : Nat) (P Q : List Kep), j ≤ i ∧ t = .int .i64 (j : Int) ∧ Hid (P.length = j) ∧ Hid (OwG 87 tyK B wr2 base (.slice (some ⟨g, 0, none⟩) n c) (P ++ x :: (Q ++ X2')) ∧ P ++ Q = Z1 ∧ ∀ q ∈ Q, ltS x.1 q.1 = true) ∧ Hid (Below base w wr2)) (fun t _ => (intOf t).toNat)
      case atStart => exact ⟨i, Z1, [], Nat.le_refl _, rfl, Lib.hid H1.out.2.1, H0, HBB⟩
      case round =>
        clear H0 HBB
        obtain ⟨j, P, Q, hji, rfl, HPL, HD, HBB⟩ := hrel
        rename World => wj
        by_cases hj0 : 0 < j
        · obtain ⟨P', p, rfl⟩ : ∃ P' p, P = P' ++ [p] := by
            have hpl := HPL.out
            exact ⟨P.dropLast, P.getLast (by intro e; rw [e] at hpl; simp at hpl; omega), (List.dropLast_concat_getLast _).symm⟩
          obtain ⟨jp, hjp⟩ : ∃ jp, j = jp + 1 := ⟨j - 1, by omega⟩
          have hpl : P'.length = jp := by have := HPL.out; simp at this; omega
          have e1 : ((P' ++ [p]) ++ x :: (Q ++ X2'))[j]? = some x := by
            rw [hjp, List.getElem?_append_right (by simp; omega)]
            simp [hpl]
          have e2 : ((P' ++ [p]) ++ x :: (Q ++ X2'))[jp]? = some p := by
            rw [List.append_assoc, List.getElem?_append_right (by omega)]
            simp [hpl]
          have e3 : ((((P' ++ [p]) ++ x :: (Q ++ X2')).set j p).set jp x) = P' ++ x :: ((p :: Q) ++ X2') := by
            rw [hjp, ← hpl]
            simp
          have E := Lib.hid (And.intro e1 (And.intro e2 e3))
          have HLN : Hid (((P' ++ [p]) ++ x :: (Q ++ X2')).length = n ∧ j < n ∧ jp < n) := Lib.hid (by
            have h1 := H1.out
            have h2 := HD.out.2.1
            have h3 := congrArg List.length h2
            simp at h3 ⊢
            have := HI.out
            omega)
          have HPP := Lib.hid (And.intro hpl hjp)
          have CMP := Lib.hid (regrown_bel0 (w := wj) fun W _ => pccmp_any x p W)
          obtain ⟨a0, a1, a2, -⟩ := og_elem HD.out.1 e1
          obtain ⟨b0, b1, b2, -⟩ := og_elem HD.out.1 e2
          have a0 := cells_regrown a0
          have a1 := cells_regrown a1
          have a2 := cells_regrown a2
          have b0 := cells_regrown b0
          have b1 := cells_regrown b1
          have b2 := cells_regrown b2
          have l2 : decide ((j : Int) > 0) = true := decide_eq_true (by omega)
          have l3 : decide (0 < (j : Int)) = true := decide_eq_true (by omega)
          have l4 : 0 < j := hj0
          have t1 : IntKind.i64.wrap ((j : Int) - 1) = (jp : Int) := by rw [IntWalk.i64_in _ (by omega)]; omega
          have p0 : (0 : Int) ≤ (j : Int) := by omega
          have p1 : (j : Int) < (n : Int) := by have := HLN.out; omega
          have p2 : (0 : Int) ≤ (jp : Int) := by omega
          have p3 : (jp : Int) < (n : Int) := by have := HLN.out; omega
          have T1 := Lib.hid (And.intro t1 (And.intro p0 (And.intro p1 (And.intro p2 p3))))
          clear e1 e2 e3 hpl hjp hj0
          cases hlt : ltS x.1 p.1
          · have hc : cmpS x.1 p.1 = 0 ∨ cmpS x.1 p.1 = 1 := by
              unfold cmpS
              rw [hlt]
              by_cases h : ltS p.1 x.1 = true
              · rw [h]; exact Or.inr rfl
              · rw [show ltS p.1 x.1 = false by simpa using h]; exact Or.inl rfl
            have e4 : decide (cmpS x.1 p.1 < 0) = false := decide_eq_false (by omega)
            have HLT := Lib.hid hlt
            generalize cmpS x.1 p.1 = r at *
            clear hlt hc
            go_wp2_with fail
            refine wp_region_bl (by kernel_rfl) (by kernel_rfl) ?_
            repeat (go_big_quiet_step (fail))
            go_big_quiet_step ((go_at_call 72; with_reducible exact CMP.out _ _))
            repeat (go_big_quiet_step (fail))
            refine wpQuiet_nil ?_
            intro w8 hb8
            have O8 := Lib.hid (og_below HD.out.1 hb8)
            have B8 := Lib.hid (HBB.out.trans (hb8.mono (Nat.le_trans HBS.out HBB.out.size)))
            clear a0 a1 a2 b0 b1 b2 l2 l3 l4 t1 p0 p1 p2 p3 e4 hb8
            go_wp2
            go_roundw
            case rel =>
              have hi2 := HI.out
              have h1 := H1.out
              have h2 := HD.out.2
              have hq := congrArg List.length h2.1
              refine ⟨i + 1, by omega, by omega, by go_num, Lib.hid ⟨(P' ++ [p]) ++ x :: Q, X2', by simpa using O8.out, ?_, fun _ => ?_, srtK_ins (by rw [h2.1]; exact h1.1) h2.2 (fun y hy => ?_), fun s => ?_⟩, B8⟩
              · simp at hq ⊢; omega
              · simp at hq ⊢; omega
              · rcases List.mem_append.1 hy with hy | hy
                · have hsrt : SrtK (P' ++ ([p] ++ Q)) := by rw [← List.append_assoc, h2.1]; exact h1.1
                  have hyp := (List.pairwise_append.1 hsrt).2.2 y hy p (by simp)
                  exact le_trans_S hyp HLT.out
                · rw [List.mem_singleton.1 hy]; exact HLT.out
              · have := fstK_ins (P := P' ++ [p]) (Q := Q) (R := X2') h2.2 s
                rw [this, h2.1]
                exact H5.out s
            case measure => simp [intOf]; omega
          · have hc : cmpS x.1 p.1 = -1 := by unfold cmpS; rw [hlt]; rfl
            have e4 : decide (cmpS x.1 p.1 < 0) = true := decide_eq_true (by omega)
            have HLT := Lib.hid hlt
            generalize cmpS x.1 p.1 = r at *
            clear hlt hc
            go_wp2_with fail
            refine wp_region_bl (by kernel_rfl) (by kernel_rfl) ?_
            repeat (go_big_quiet_step (fail))
            go_big_quiet_step ((go_at_call 72; with_reducible exact CMP.out _ _))
            repeat (go_big_quiet_step (fail))
            refine wpQuiet_nil ?_
            intro w8 hb8
            have O8 := Lib.hid (og_below HD.out.1 hb8)
            have B8 := Lib.hid (HBB.out.trans (hb8.mono (Nat.le_trans HBS.out HBB.out.size)))
            clear a0 a1 a2 b0 b1 b2 l2 l3 l4 t1 p0 p1 p2 p3 e4 hb8
            go_upto_region 6 with fail
            obtain ⟨t1, p0, p1, p2, p3⟩ := T1.out
            refine wp_onlyN ?_
            refine wp_region_headsS (fun _ => True) [0, 1, 2, 3, 4, 5, 6, 7, 8, 10, 11, 12] 6 (by kernel_rfl) (fun _ _ _ _ _ h => h.elim) (by kernel_rfl) (by rfl) (by rfl) trivial ?_
            simp only [pickOps, List.filterMap_cons, List.filterMap_nil, List.getElem?_toArray, List.getElem?_cons_zero, List.getElem?_cons_succ]
            refine wpHeads_step (fun K hK => ?_)
            go_simp
            first | refine hK _ ?_ | refine ⟨_, fun _ _ => rfl, hK _ ?_⟩
            clear hK K
            refine wpHeads_step (fun K hK => ?_)
            go_simp
            first | refine hK _ ?_ | refine ⟨_, fun _ _ => rfl, hK _ ?_⟩
            clear hK K
            refine wpHeads_step (fun K hK => ?_)
            go_simp
            first | refine hK _ ?_ | refine ⟨_, fun _ _ => rfl, hK _ ?_⟩
            clear hK K
            refine wpHeads_step (fun K hK => ?_)
            go_simp
            first | refine hK _ ?_ | refine ⟨_, fun _ _ => rfl, hK _ ?_⟩
            clear hK K
            refine wpHeads_step (fun K hK => ?_)
            go_simp
            first | refine hK _ ?_ | refine ⟨.int .i64 (jp : Int), fun _ _ => by first | rfl | rw [t1], hK _ ?_⟩
            clear hK K
            refine wpHeads_step (fun K hK => ?_)
            go_simp
            first | refine hK _ ?_ | refine ⟨_, fun _ _ => rfl, hK _ ?_⟩
            clear hK K
            refine wpHeads_step (fun K hK => ?_)
            go_simp
            first | refine hK _ ?_ | refine ⟨_, fun _ _ => rfl, hK _ ?_⟩
            clear hK K
            refine wpHeads_step (fun K hK => ?_)
            go_simp
            first | refine hK _ ?_ | refine ⟨.int .i64 (jp : Int), fun _ _ => by first | rfl | rw [t1], hK _ ?_⟩
            clear hK K
            refine wpHeads_step (fun K hK => ?_)
            go_simp
            first | refine hK _ ?_ | refine ⟨_, fun _ _ => rfl, hK _ ?_⟩
            clear hK K
            refine wpHeads_step (fun K hK => ?_)
            go_simp
            first | refine hK _ ?_ | refine ⟨_, fun _ _ => rfl, hK _ ?_⟩
            clear hK K
            refine wpHeads_step (fun K hK => ?_)
            go_simp
            first | refine hK _ ?_ | refine ⟨_, fun _ _ => rfl, hK _ ?_⟩
            clear hK K
            refine wpHeads_step (fun K hK => ?_)
            go_simp
            first | refine hK _ ?_ | refine ⟨_, fun _ _ => rfl, hK _ ?_⟩
            clear hK K
            refine wpHeads_nil ?_
            have O9 : Hid (OwG 87 tyK B w8.drew base (.slice (some ⟨g, 0, none⟩) n c) ((P' ++ [p]) ++ x :: (Q ++ X2'))) := Lib.hid (og_below O8.out ((Below.refl _ _).drew))
            have B9 : Hid (Below base w w8.drew) := Lib.hid B8.out.drew
            clear O8 B8 t1
            generalize w8.drew = w9 at *
            obtain ⟨a0, a1, a2, ar⟩ := og_elem O9.out E.out.1
            obtain ⟨b0, b1, b2, br⟩ := og_elem O9.out E.out.2.1
            have fz := og_frozen O9.out (by have := HLN.out; omega)
            have f0 := fz (j * 3)
            have f1 := fz (j * 3 + 1)
            have f2 := fz (j * 3 + 2)
            have OA := Lib.hid (og_set (i := j) O9.out (by have := HLN.out; omega) (rd_mono (C := fun b => B b ∧ b ≠ g) br fun _ h _ => h.elim))
            have hpt := og_ptr O9.out (by have := HLN.out; omega)
            have BA1 := Lib.hid (below_setCs (B := base) (g := g) hpt.1.1 [.string p.1, .int .i64 p.2.1, .int .i64 p.2.2] w9 (j * 3) B9.out)
            have EL : Hid ((((P' ++ [p]) ++ x :: (Q ++ X2')).set j p)[jp]? = some p) := Lib.hid (by
              rw [List.getElem?_set, if_neg (by have := HPP.out; omega)]
              exact E.out.2.1)
            obtain ⟨c0, c1, c2, -⟩ := og_elem OA.out EL.out
            have gz := og_frozen OA.out (by have := HLN.out; rw [List.length_set]; omega)
            have g0 := gz (jp * 3)
            have g1 := gz (jp * 3 + 1)
            have g2 := gz (jp * 3 + 2)
            have OB := Lib.hid (og_set (i := jp) OA.out (by have := HLN.out; rw [List.length_set]; omega) (rd_move (w' := setCs w9 g (j * 3) [.string p.1, .int .i64 p.2.1, .int .i64 p.2.2]) (C := fun b => B b ∧ b ≠ g) (fun b hb _ => hb.elim) (fun _ h _ => h.elim) ar))
            have BB1 := Lib.hid (below_setCs (B := base) (g := g) hpt.1.1 [.string x.1, .int .i64 x.2.1, .int .i64 x.2.2] _ (jp * 3) BA1.out)
            change (((w9.setCell ⟨g, j * 3, none⟩ (.string p.1)).setCell ⟨g, j * 3 + 1, none⟩ (.int .i64 p.2.1)).setCell ⟨g, j * 3 + 2, none⟩ (.int .i64 p.2.2)).cell? ⟨g, jp * 3, none⟩ = _ at c0
            change (((w9.setCell ⟨g, j * 3, none⟩ (.string p.1)).setCell ⟨g, j * 3 + 1, none⟩ (.int .i64 p.2.1)).setCell ⟨g, j * 3 + 2, none⟩ (.int .i64 p.2.2)).cell? ⟨g, jp * 3 + 1, none⟩ = _ at c1
            change (((w9.setCell ⟨g, j * 3, none⟩ (.string p.1)).setCell ⟨g, j * 3 + 1, none⟩ (.int .i64 p.2.1)).setCell ⟨g, j * 3 + 2, none⟩ (.int .i64 p.2.2)).cell? ⟨g, jp * 3 + 2, none⟩ = _ at c2
            change (((w9.setCell ⟨g, j * 3, none⟩ (.string p.1)).setCell ⟨g, j * 3 + 1, none⟩ (.int .i64 p.2.1)).setCell ⟨g, j * 3 + 2, none⟩ (.int .i64 p.2.2)).frozen? ⟨g, jp * 3, none⟩ = _ at g0
            change (((w9.setCell ⟨g, j * 3, none⟩ (.string p.1)).setCell ⟨g, j * 3 + 1, none⟩ (.int .i64 p.2.1)).setCell ⟨g, j * 3 + 2, none⟩ (.int .i64 p.2.2)).frozen? ⟨g, jp * 3 + 1, none⟩ = _ at g1
            change (((w9.setCell ⟨g, j * 3, none⟩ (.string p.1)).setCell ⟨g, j * 3 + 1, none⟩ (.int .i64 p.2.1)).setCell ⟨g, j * 3 + 2, none⟩ (.int .i64 p.2.2)).frozen? ⟨g, jp * 3 + 2, none⟩ = _ at g2
            clear fz gz ar br hpt
            refine held_two 9 13 rfl rfl rfl rfl (by kernel_rfl) (fun K hK => ?_) (fun K hK => ?_)
            · go_simp
              refine hK _ _ trivial ?_
              clear hK K
              refine held_one 13 rfl rfl (by kernel_rfl) fun K hK => ?_
              go_simp
              refine hK _ _ trivial ?_
              clear hK K
              refine held_one 14 rfl rfl (by kernel_rfl) fun K hK => ?_
              go_simp
              refine hK _ _ trivial ?_
              clear hK K
              refine held_one 15 rfl rfl (by kernel_rfl) fun K hK => ?_
              go_simp
              refine hK _ _ trivial ?_
              clear hK K
              refine held_one 16 rfl rfl (by kernel_rfl) fun K hK => ?_
              go_simp
              refine hK _ _ trivial ?_
              clear hK K
              refine held_one 17 rfl rfl (by kernel_rfl) fun K hK => ?_
              go_simp
              refine hK _ _ trivial ?_
              clear hK K
              refine wpAnyH_done (by kernel_rfl) ?_ _
              unfold onlyN
              dsimp only
              clear a0 a1 a2 b0 b1 b2 c0 c1 c2 f0 f1 f2 g0 g1 g2 p0 p1 p2 p3
              change Exit.inBlock _ _ _ _ (setCs (setCs w9 g (j * 3) [.string p.1, .int .i64 p.2.1, .int .i64 p.2.2]) g (jp * 3) [.string x.1, .int .i64 x.2.1, .int .i64 x.2.2])
              have OB2 : Hid (OwG 87 tyK B (setCs (setCs w9 g (j * 3) [.string p.1, .int .i64 p.2.1, .int .i64 p.2.2]) g (jp * 3) [.string x.1, .int .i64 x.2.1, .int .i64 x.2.2]) base (.slice (some ⟨g, 0, none⟩) n c) (P' ++ x :: ((p :: Q) ++ X2'))) := Lib.hid (by rw [← E.out.2.2]; exact OB.out)
              have BB2 : Hid (Below base w (setCs (setCs w9 g (j * 3) [.string p.1, .int .i64 p.2.1, .int .i64 p.2.2]) g (jp * 3) [.string x.1, .int .i64 x.2.1, .int .i64 x.2.2])) := Lib.hid BB1.out
              clear OA OB BB1 BA1 O9 B9
              generalize setCs (setCs w9 g (j * 3) [.string p.1, .int .i64 p.2.1, .int .i64 p.2.2]) g (jp * 3) [.string x.1, .int .i64 x.2.1, .int .i64 x.2.2] = W9 at *
              have hjp := HPP.out.2
              go_wp2
              go_roundw
              case rel =>
                have h2 := HD.out.2
                rw [show decide (i < n) = true from decide_eq_true ‹i < n›]
                refine ⟨_, _, _, _, _, _, _, _, _, _, _, _, _, _, _, _, _, _, _, _, _, _, _, _, _, _, _, _, _, _, _, _, _, _, _, _, ⟨jp, P', p :: Q, by omega, rfl, Lib.hid HPP.out.1, Lib.hid ⟨OB2.out, by rw [← h2.1]; simp, fun q hq => ?_⟩, BB2⟩, rfl⟩
                rcases List.mem_cons.1 hq with rfl | hq
                · exact HLT.out
                · exact h2.2 q hq
              case measure =>
                simp [intOf]
                omega
            · go_simp
              refine hK _ _ trivial ?_
              clear hK K
              refine held_one 9 rfl rfl (by kernel_rfl) fun K hK => ?_
              go_simp
              refine hK _ _ trivial ?_
              clear hK K
              refine held_one 14 rfl rfl (by kernel_rfl) fun K hK => ?_
              go_simp
              refine hK _ _ trivial ?_
              clear hK K
              refine held_one 15 rfl rfl (by kernel_rfl) fun K hK => ?_
              go_simp
              refine hK _ _ trivial ?_
              clear hK K
              refine held_one 16 rfl rfl (by kernel_rfl) fun K hK => ?_
              go_simp
              refine hK _ _ trivial ?_
              clear hK K
              refine held_one 17 rfl rfl (by kernel_rfl) fun K hK => ?_
              go_simp
              refine hK _ _ trivial ?_
              clear hK K
              refine wpAnyH_done (by kernel_rfl) ?_ _
              unfold onlyN
              dsimp only
              clear a0 a1 a2 b0 b1 b2 c0 c1 c2 f0 f1 f2 g0 g1 g2 p0 p1 p2 p3
              change Exit.inBlock _ _ _ _ (setCs (setCs w9 g (j * 3) [.string p.1, .int .i64 p.2.1, .int .i64 p.2.2]) g (jp * 3) [.string x.1, .int .i64 x.2.1, .int .i64 x.2.2])
              have OB2 : Hid (OwG 87 tyK B (setCs (setCs w9 g (j * 3) [.string p.1, .int .i64 p.2.1, .int .i64 p.2.2]) g (jp * 3) [.string x.1, .int .i64 x.2.1, .int .i64 x.2.2]) base (.slice (some ⟨g, 0, none⟩) n c) (P' ++ x :: ((p :: Q) ++ X2'))) := Lib.hid (by rw [← E.out.2.2]; exact OB.out)
              have BB2 : Hid (Below base w (setCs (setCs w9 g (j * 3) [.string p.1, .int .i64 p.2.1, .int .i64 p.2.2]) g (jp * 3) [.string x.1, .int .i64 x.2.1, .int .i64 x.2.2])) := Lib.hid BB1.out
              clear OA OB BB1 BA1 O9 B9
              generalize setCs (setCs w9 g (j * 3) [.string p.1, .int .i64 p.2.1, .int .i64 p.2.2]) g (jp * 3) [.string x.1, .int .i64 x.2.1, .int .i64 x.2.2] = W9 at *
              have hjp := HPP.out.2
              go_wp2
              go_roundw
              case rel =>
                have h2 := HD.out.2
                rw [show decide (i < n) = true from decide_eq_true ‹i < n›]
                refine ⟨_, _, _, _, _, _, _, _, _, _, _, _, _, _, _, _, _, _, _, _, _, _, _, _, _, _, _, _, _, _, _, _, _, _, _, _, ⟨jp, P', p :: Q, by omega, rfl, Lib.hid HPP.out.1, Lib.hid ⟨OB2.out, by rw [← h2.1]; simp, fun q hq => ?_⟩, BB2⟩, rfl⟩
                rcases List.mem_cons.1 hq with rfl | hq
                · exact HLT.out
                · exact h2.2 q hq
              case measure =>
                simp [intOf]
                omega
        · have hj : j = 0 := by omega
          subst hj
          have hP : P = [] := List.eq_nil_of_length_eq_zero HPL.out
          subst hP
          clear hj0
          go_wp2_with fail
          refine wp_region_bl (by kernel_rfl) (by kernel_rfl) ?_
          repeat (go_big_quiet_step (fail))
          refine wpQuiet_nil ?_
          intro w8 hb8
          have O8 := Lib.hid (og_below HD.out.1 hb8)
          have B8 := Lib.hid (HBB.out.trans (hb8.mono (Nat.le_trans HBS.out HBB.out.size)))
          clear hb8
          go_wp2
          go_roundw
          case rel =>
            have hi2 := HI.out
            have h1 := H1.out
            have h2 := HD.out.2
            have hq := congrArg List.length h2.1
            refine ⟨i + 1, by omega, by omega, by go_num, Lib.hid ⟨[] ++ x :: Q, X2', by simpa using O8.out, ?_, fun _ => ?_, srtK_ins (by rw [h2.1]; exact h1.1) h2.2 (by simp), fun s => ?_⟩, B8⟩
            · simp at hq ⊢; omega
            · simp at hq ⊢; omega
            · have := fstK_ins (P := []) (Q := Q) (R := X2') h2.2 s
              rw [this, h2.1]
              exact H5.out s
          case measure => simp [intOf]; omega
    · have l1 : decide ((i : Int) < (n : Int)) = false := decide_eq_false (by omega)
      have HX : Hid (∃ Z, OwG 87 tyK B wr base (.slice a n c) Z ∧ Z.length = L.length ∧ SrtK Z ∧ (∀ s, fstK s Z = fstK s L)) := Lib.hid (by
        obtain ⟨Z1, X2, h1, h2, h3, h4, h5⟩ := HD.out
        have hX : X2 = [] := by
          rcases hin with h | h
          · have := h3 h; exact List.eq_nil_of_length_eq_zero (by omega)
          · by_cases hn0 : n = 0
            · exact List.eq_nil_of_length_eq_zero (by omega)
            · have := h3 (by omega); exact List.eq_nil_of_length_eq_zero (by omega)
        subst hX
        rw [List.append_nil] at h1 h5
        exact ⟨Z1, h1, by rw [← HN.out]; simpa using h2, h4, h5⟩)
      clear hin HD
      go_wp2
      go_end0
      obtain ⟨Z, h1, h2, h3, h4⟩ := HX.out
      exact ⟨rfl, Z, h1, h2, h3, h4, HBB.out⟩
set_option maxRecDepth 100000 in
set_option maxHeartbeats 6400000 in
theorem pstable_any {B : Nat → Prop} (v : Value) (n : Nat) (L : List Kep) (base : Nat) (w : World) (ho : OwG 87 tyK B w base v L) (hn : n = L.length) (hle : n ≤ 19) (hbase : base ≤ w.heap.size) : Calls Try.prog 91 #[v, .int .i64 (n : Int), .func (.func 72) #[] #[]] w (ISQ B base v w L) := by
  have PI := Lib.hid (pins_any v n L base w ho hn (by omega) hbase)
  have e1 : decide ((20 : Int) ≤ (n : Int)) = false := decide_eq_false (by omega)
  have e1b : ¬ 20 ≤ n := by omega
  have e2 : decide ((20 : Int) < (n : Int)) = false := decide_eq_false (by omega)
  have e2b : ¬ 20 < n := by omega
  obtain ⟨a, c, rfl, -, -⟩ := og_form ho
  rw [← hn] at PI ⊢
  clear ho hn hle hbase
  go_enter Try.func91, Try.ntmps91
  go_wp2_with fail
  go_loopw [7, 8] (fun t8 t9 wr => t8 = .int .i64 0 ∧ t9 = .int .i64 20 ∧ wr = w) (fun _ _ _ => 0)
  case atStart => exact ⟨rfl, rfl, rfl⟩
  case round =>
    obtain ⟨rfl, rfl, hW⟩ := hrel
    subst hW
    go_wp2_with fail
    refine PI.out.mono ?_
    rintro e w2 ⟨rfl, hq⟩
    have HQ := Lib.hid hq
    clear hq PI
    go_wp2_with fail
    go_loopw [6] (fun t wl => t = .int .i64 20 ∧ wl = w2) (fun _ _ => 0)
    case atStart => exact ⟨rfl, rfl⟩
    case round =>
      obtain ⟨rfl, hW⟩ := hrel
      subst hW
      go_wp2
      go_end0
      exact ⟨rfl, HQ.out⟩
set_option maxRecDepth 100000 in
set_option maxHeartbeats 6400000 in
theorem psort_any {B : Nat → Prop} (v : Value) (L : List Kep) (base : Nat) (w : World) (ho : OwG 87 tyK B w base v L) (hle : L.length ≤ 19) (hbase : base ≤ w.heap.size) : Calls Try.prog 71 #[v, .func (.func 72) #[] #[]] w (ISQ B base v w L) := by
  have PI := Lib.hid (pstable_any v L.length L base w ho rfl hle hbase)
  obtain ⟨a, c, rfl, -, -⟩ := og_form ho
  generalize L.length = n at *
  clear ho hle hbase
  go_enter Try.func71, Try.ntmps71
  go_wp2_with fail
  refine PI.out.mono ?_
  rintro e w2 ⟨rfl, hq⟩
  have HQ := Lib.hid hq
  clear hq
  go_wp2
  go_end0
  exact ⟨rfl, HQ.out⟩
end Go.Proofs.Ytpipgbjkkiheaaa.Gf
namespace Go.Proofs.Ytpipgbjkkiheaaa.Gf
open Go Go.Joins Go.ChangeShapes Go.WideShapes Go.ChangeAt Go.RowKit Go.Deep Go.Proofs.Ytpipgbjkkiheaaa.By Go.Proofs.Ytpipgbjkkiheaaa.Qt

theorem lsPK : LsT Try.prog 82 87 tyK := lsT_of Try.underlying82 (z := .agg #[.string ⟨#[]⟩, .int .i64 0, .int .i64 0]) (n := 3) (b := 32) (by kernel_rfl) rfl (by decide) rfl
theorem run_some_nilK (w : World) (a : Addr) (n c : Nat) : (binOp .eql 82 (.slice (some a) n c) (.slice none 0 0)).run Try.prog w = .ok (.bool false) w := by
  have h : ∀ d : Nat, (Op.equalIn (d + 1) 82 (.slice (some a) n c) (.slice none 0 0)).run Try.prog w = .ok false w := fun d => by
    simp [Op.equalIn, run_underlying Try.underlying82]
  simp only [binOp]
  simp [Op.equal, Op.maxDepth, h 9999]
theorem run_none_nilK (w : World) (n c : Nat) : (binOp .eql 82 (.slice none n c) (.slice none 0 0)).run Try.prog w = .ok (.bool true) w := by
  have h : ∀ d : Nat, (Op.equalIn (d + 1) 82 (.slice none n c) (.slice none 0 0)).run Try.prog w = .ok true w := fun d => by
    simp [Op.equalIn, run_underlying Try.underlying82]
  simp only [binOp]
  simp [Op.equal, Op.maxDepth, h 9999]
theorem rd_kk {B C : Nat → Prop} {w : World} {cs : List Value} {x : Kep} (h : Rd B w tyK cs x) : Rd C w tyK cs x := by
  obtain ⟨rfl, h1, h2, h3⟩ := rd_k h
  exact ⟨[_], [.int .i64 x.2.1, .int .i64 x.2.2], rfl, ⟨h1, rfl⟩, [_], [_], rfl, ⟨h2, rfl⟩, h3, rfl⟩
theorem ogk_false {B C : Nat → Prop} {w : World} {base : Nat} {v : Value} {L : List Kep} (h : OwG 87 tyK B w base v L) : OwG 87 tyK C w base v L := by
  obtain ⟨M, h1, h2, h3⟩ := h
  exact ⟨M, h1, fun p hp => rd_kk (h2 p hp), h3⟩
/-- A call that answers a list of keeps of its own. -/
def KlO (w : World) (L : List Kep) (e : Ending) (w' : World) : Prop := (∃ v, e = .returned v ∧ OwG 87 tyK (fun _ => False) w' w.heap.size v L) ∧ Below w.heap.size w w'
set_option maxRecDepth 100000 in
set_option maxHeartbeats 6400000 in
theorem pclonek_any (v : Value) (L : List Kep) (w : World) (s : Rd (fun _ => True) w (.sl tyK) [v] L) (hl : L.length ≤ 90000000) : Calls Try.prog 70 #[v] w (KlO w L) := by
  have hs := rd_sl s
  obtain ⟨a, c, rfl, -, -⟩ := hs
  cases a with
  | none =>
    have h0 : L = [] := by
      rcases Nat.eq_zero_or_pos L.length with h | h
      · exact List.eq_nil_of_length_eq_zero h
      · obtain ⟨x, hx⟩ : ∃ x, L[0]? = some x := ⟨_, List.getElem?_eq_getElem h⟩
        obtain ⟨b, off, cap, e, -⟩ := rd_kat s hx
        simp at e
    subst h0
    have hq := run_none_nilK w 0 c
    rw [List.length_nil]
    clear s hl
    go_enter Try.func70, Try.ntmps70
    go_wp2
    go_ret
    exact ⟨⟨_, rfl, og_nil _ _ _ _ _⟩, Below.refl _ _⟩
  | some a =>
    have HLL : Hid (([] : List Kep).length + L.length ≤ 100000000) := Lib.hid (by simp; omega)
    obtain ⟨n, hn⟩ : ∃ z, z = L.length := ⟨_, rfl⟩
    rw [← hn] at s ⊢
    have S := Lib.hid s
    have hq := run_some_nilK w a n c
    have OE := Lib.hid (og_empty (T := 87) tyK (fun _ => False) w rfl (Nat.le_refl _))
    have BE := Lib.hid (bel_al0 w (.cells #[] 87))
    have SK := Lib.hid (rd_mono (C := fun b => b < w.heap.size) S.out fun _ _ h => h)
    clear s hl hn
    go_enter Try.func70, Try.ntmps70
    have OE2 : Hid (OwG 87 tyK (fun b => b < w.heap.size) (w.alloc (.cells #[] 87)) w.heap.size (.slice (some ⟨w.heap.size, 0, none⟩) 0 0) []) := Lib.hid (og_mono OE.out fun b hb _ => hb.elim)
    have SK2 : Hid (Rd (fun b => b < w.heap.size ∧ (Value.slice (some ⟨w.heap.size, 0, none⟩) 0 0).ownBlock ≠ some b) (w.alloc (.cells #[] 87)) (.sl tyK) [.slice (some a) n c] L) := Lib.hid (rd_mono (rd_oldB SK.out BE.out) fun b hb _ => ⟨hb.1, fun e => by
      simp [Value.ownBlock] at e
      omega⟩)
    go_wp2_with (at_builtin; refine app_g lsPK (dst := some 7) ?_ ?_ OE2.out SK2.out HLL.out (by simp) ?_; exact rfl; exact rfl; intro v5 w5 ho5 hg5 hx5; rw [List.nil_append] at ho5; have B5 := Lib.hid (below_grownG BE.out hg5 OE2.out (Nat.le_of_lt (by simp)) (Nat.le_refl _)); have O5 := Lib.hid ho5; clear ho5 hg5 hx5)
    go_ret
    exact ⟨⟨_, rfl, ogk_false O5.out⟩, B5.out⟩
end Go.Proofs.Ytpipgbjkkiheaaa.Gf
namespace Go.Proofs.Ytpipgbjkkiheaaa.Gf
open Go Go.Joins Go.ChangeShapes Go.WideShapes Go.ChangeAt Go.RowKit Go.Deep Go.Proofs.Ytpipgbjkkiheaaa.By Go.Proofs.Ytpipgbjkkiheaaa.Qt

theorem lsP8 : LsT Try.prog 52 5 .u8 := lsT_of Try.underlying52 (z := .int .u8 0) (n := 1) (b := 1) (by kernel_rfl) rfl (by decide) rfl
theorem head_step {P : Program} {S T : TypeId} {t : Ty} (ty : LsT P S T t) {ops : Array Oper} {rest : List Oper} {dst : Option Tmp} {x y : Operand} {pos : String} {after : Array Edge} {r : TypeId} {ac : Act} {W : World} {Q : Exit → Act → World → Prop}
    {a : Option Addr} {n cap k : Nat} (hx : ac.eval x = .slice a n cap) (hy : ac.eval y = .int .i64 (k : Int)) (hc : n ≤ cap) (hk : k ≤ n) (h : wpList P ops Q rest (ac.put dst (.slice a k cap)) W) : wpList P ops Q (⟨dst, .slice S x none (some y) none, r, pos, after, none⟩ :: rest) ac W := by
  refine wpList_plain rfl fun _ hK => ?_
  unfold Oper.wp
  rw [exec_head ty hx hy hc hk]
  exact hK _ _ h
theorem rd_old2 {w W W' : World} {t : Ty} {cs : List Value} {x : t.T} (hB : Below w.heap.size w W) (hB' : Below w.heap.size w W') (h : Rd (fun b => b < w.heap.size) W t cs x) : Rd (fun b => b < w.heap.size) W' t cs x := rd_move (fun b hb _ => (hB'.block b hb).trans (hB.block b hb).symm) (fun _ hb _ => hb) h
set_option maxRecDepth 100000 in
set_option maxHeartbeats 6400000 in
theorem premains_any (x : Fl) (k : Kep) (bv pv : Value) (w : World) (sx : Rd (fun _ => True) w tyF [.string x.1, bv, pv] x) (hk : (-9223372036854775808 ≤ k.2.1 ∧ k.2.1 ≤ 9223372036854775807) ∧ (-9223372036854775808 ≤ k.2.2 ∧ k.2.2 ≤ 9223372036854775807)) (hf : flB x.2.1 x.2.2 = true) (hlen : x.2.2.length ≤ 80000) : Calls Try.prog 75 #[.agg #[.string x.1, bv, pv], .agg #[.string k.1, .int .i64 k.2.1, .int .i64 k.2.2]] w (FlO (fun _ => False) w (remF x k)) := by
  obtain ⟨bv', pv', he, hsz, hb, hp⟩ := rd_f sx
  obtain ⟨rfl, rfl⟩ : bv = bv' ∧ pv = pv' := by simpa using he
  obtain ⟨nm, b, p⟩ := x
  obtain ⟨kn, ka, kt⟩ := k
  dsimp only at hsz hb hp hf hlen hk ⊢
  have HSZ := Lib.hid hsz
  have HB := Lib.hid hb
  have HP := Lib.hid hp
  have HK := Lib.hid hk
  have HFK := Lib.hid (flB_keepW ka kt hf)
  have HKL := Lib.hid (Nat.le_trans (keepW_len p ka kt) hlen)
  have HLE := Lib.hid hlen
  obtain ⟨ab, cb, rfl, -, -⟩ := rd_sl hb
  obtain ⟨ap, cp, rfl, hcp, -⟩ := rd_sl hp
  have HCP := Lib.hid hcp
  obtain ⟨np, hnp⟩ : ∃ z, z = p.length := ⟨_, rfl⟩
  rw [← hnp] at HP HCP HLE ⊢
  have HNP := Lib.hid hnp
  generalize b.length = nb at *
  have HM := Lib.hid (nKp_cast ka np)
  obtain ⟨n, hn⟩ : ∃ z, z = nKp ka np := ⟨_, rfl⟩
  rw [← hn] at HM
  have HN := Lib.hid hn
  have HNL := Lib.hid (show n ≤ np by rw [hn]; exact nKp_le ka np)
  have HBO := Lib.hid (rd_mono (C := fun b => b < w.heap.size) HB.out fun _ _ h => h)
  have HPO := Lib.hid (rd_mono (C := fun b => b < w.heap.size) HP.out fun _ _ h => h)
  clear sx he hsz hb hp hk hf hlen hcp hnp hn HB HP
  go_enter Try.func75, Try.ntmps75
  go_upto_region 1 with fail
  have A1 := bel_al0 w (.cells #[.string nm, .slice ab nb cb, .slice ap np cp] 59)
  have A2 := btA A1 (bel_al0 _ (.cells #[.string kn, .int .i64 ka, .int .i64 kt] 87))
  have BX := Lib.hid (btA A2 (bel_al0 _ (.cells #[.string ⟨#[]⟩, .slice none 0 0, .slice none 0 0] 59)))
  have HX := Lib.hid (show (((w.alloc (.cells #[.string nm, .slice ab nb cb, .slice ap np cp] 59)).alloc (.cells #[.string kn, .int .i64 ka, .int .i64 kt] 87)).alloc (.cells #[.string ⟨#[]⟩, .slice none 0 0, .slice none 0 0] 59)).heap[w.heap.size]? = some (.cells #[.string nm, .slice ab nb cb, .slice ap np cp] 59 (0, 0)) from (al_old (by simp; omega)).trans ((al_old (by simp)).trans (heap_alloc_new w _)))
  have HY := Lib.hid (show (((w.alloc (.cells #[.string nm, .slice ab nb cb, .slice ap np cp] 59)).alloc (.cells #[.string kn, .int .i64 ka, .int .i64 kt] 87)).alloc (.cells #[.string ⟨#[]⟩, .slice none 0 0, .slice none 0 0] 59)).heap[w.heap.size + 1]? = some (.cells #[.string kn, .int .i64 ka, .int .i64 kt] 87 (0, 0)) from (al_old (by simp)).trans (heap_alloc2_new w _ _))
  have HZ := Lib.hid (show (((w.alloc (.cells #[.string nm, .slice ab nb cb, .slice ap np cp] 59)).alloc (.cells #[.string kn, .int .i64 ka, .int .i64 kt] 87)).alloc (.cells #[.string ⟨#[]⟩, .slice none 0 0, .slice none 0 0] 59)).heap[w.heap.size + 2]? = some (.cells #[.string ⟨#[]⟩, .slice none 0 0, .slice none 0 0] 59 (0, 0)) from by
    have h := heap_alloc2_new (w.alloc (.cells #[.string nm, .slice ab nb cb, .slice ap np cp] 59)) (.cells #[.string kn, .int .i64 ka, .int .i64 kt] 87) (.cells #[.string ⟨#[]⟩, .slice none 0 0, .slice none 0 0] 59)
    simpa [Nat.add_assoc] using h)
  clear A1 A2
  generalize (((w.alloc (.cells #[.string nm, .slice ab nb cb, .slice ap np cp] 59)).alloc (.cells #[.string kn, .int .i64 ka, .int .i64 kt] 87)).alloc (.cells #[.string ⟨#[]⟩, .slice none 0 0, .slice none 0 0] 59)) = W1 at *
  obtain ⟨x0, x1, x2⟩ := box3c HX.out
  obtain ⟨y0, y1, y2⟩ := box3c HY.out
  go_upto_region 2 with fail
  rw [HM.out]
  go_upto_region 3 with fail
  have BA2 := Lib.hid (bel_al0 W1 (.cells #[.string nm, .slice ab nb cb, .slice ap np cp] 59))
  have HQ := Lib.hid (heap_alloc_new W1 (.cells #[.string nm, .slice ab nb cb, .slice ap np cp] 59))
  have HX2 := Lib.hid ((BA2.out.block _ (lt_of_some0 HX.out)).trans HX.out)
  have HY2 := Lib.hid ((BA2.out.block _ (lt_of_some0 HY.out)).trans HY.out)
  have HZ2 := Lib.hid ((BA2.out.block _ (lt_of_some0 HZ.out)).trans HZ.out)
  have B2 := Lib.hid (btA BX.out BA2.out)
  have SQ := Lib.hid (lt_of_some0 HZ.out)
  generalize hq : W1.heap.size = q at *
  clear hq x0 x1 x2 y0 y1 y2 HX HY HZ BX BA2
  generalize W1.alloc (.cells #[.string nm, .slice ab nb cb, .slice ap np cp] 59) = W2 at *
  obtain ⟨x0, x1, x2⟩ := box3c HX2.out
  obtain ⟨q0, q1, q2⟩ := box3c HQ.out
  have f2 := frozen_of_row W2 q 2 _ _ HQ.out
  have HQ3 := Lib.hid (show (W2.setCell ⟨q, 2, none⟩ (.slice ap n cp)).heap[q]? = some (.cells #[.string nm, .slice ab nb cb, .slice ap n cp] 59 (0, 0)) from (by simpa using heap_setCell_same W2 q 2 _ _ (.slice ap n cp) HQ.out))
  have HX3 := Lib.hid ((other1 (g := q) (o := 2) (v := .slice ap n cp) (by have := SQ.out; omega : w.heap.size ≠ q)).trans HX2.out)
  have HY3 := Lib.hid ((other1 (g := q) (o := 2) (v := .slice ap n cp) (by have := SQ.out; omega : w.heap.size + 1 ≠ q)).trans HY2.out)
  have HZ3 := Lib.hid ((other1 (g := q) (o := 2) (v := .slice ap n cp) (by have := SQ.out; omega : w.heap.size + 2 ≠ q)).trans HZ2.out)
  have B3 := Lib.hid (B2.out.setCell (p := ⟨q, 2, none⟩) (by show w.heap.size ≤ q; have := SQ.out; omega) (.slice ap n cp))
  have l1 : n ≤ cp := Nat.le_trans HNL.out HCP.out
  have l2 : (n : Int) ≤ (cp : Int) := by omega
  go_upto_region 4 with fail
  clear x0 x1 x2 q0 q1 q2 f2 HX2 HY2 HZ2 HQ B2 l1 l2
  generalize W2.setCell ⟨q, 2, none⟩ (.slice ap n cp) = W3 at *
  obtain ⟨x0, x1, x2⟩ := box3c HX3.out
  have RT := Lib.hid (rd_take (rd_below HPO.out B3.out) HNL.out)
  by_cases hlt : n < np
  · have e1 : decide ((n : Int) < (np : Int)) = true := decide_eq_true (by omega)
    have e2 : decide (n < np) = true := decide_eq_true hlt
    obtain ⟨g, off, cc, dv, he, c0, c1, c2, hdv⟩ := rd_wat (rd_below HPO.out B3.out) (i := n) (by rw [← HNP.out]; exact hlt)
    obtain ⟨rfl, hcc⟩ : ap = some ⟨g, off, none⟩ ∧ cp = cc := by
      have := Value.slice.inj he
      exact ⟨this.1, this.2.2⟩
    clear he hcc
    have HDV := Lib.hid hdv
    have HY0 := Lib.hid (show p.getD n wr0 = ((p.getD n wr0).1, (p.getD n wr0).2.1, (p.getD n wr0).2.2) from rfl)
    have HPW := Lib.hid (show keepW p ka kt = p.take n ++ (if 0 < nKp kt (p.getD n wr0).2.1.length then [((p.getD n wr0).1, (p.getD n wr0).2.1.take (nKp kt (p.getD n wr0).2.1.length), (p.getD n wr0).2.2)] else []) by
      unfold keepW
      rw [← HNP.out, ← HN.out]
      simp [hlt])
    generalize p.getD n wr0 = y at *
    obtain ⟨yo, yd, yc⟩ := y
    clear HY0
    dsimp only at *
    obtain ⟨ad, cd, rfl, hcd, -⟩ := rd_sl hdv.2
    obtain ⟨nd, hnd⟩ : ∃ z, z = yd.length := ⟨_, rfl⟩
    rw [← hnd] at HDV HPW hcd c1
    have HMT := Lib.hid (nKp_cast kt nd)
    obtain ⟨m, hm⟩ : ∃ z, z = nKp kt nd := ⟨_, rfl⟩
    rw [← hm] at HMT HPW
    have HML := Lib.hid (show m ≤ nd by rw [hm]; exact nKp_le kt nd)
    have HND := Lib.hid (And.intro hnd hcd)
    clear hdv hnd hm hcd RT
    have l0 : n < np := hlt
    have l3 : (0 : Int) ≤ (n : Int) := by omega
    have l4 : (n : Int) < (np : Int) := by omega
    go_upto_region 6 with fail
    have BA4 := Lib.hid (bel_al0 W3 (.cells #[.int .i64 yo, .slice ad nd cd, .bool yc] 96))
    have HJ := Lib.hid (heap_alloc_new W3 (.cells #[.int .i64 yo, .slice ad nd cd, .bool yc] 96))
    have HQ4 := Lib.hid ((BA4.out.block _ (lt_of_some0 HQ3.out)).trans HQ3.out)
    have HY4 := Lib.hid ((BA4.out.block _ (lt_of_some0 HY3.out)).trans HY3.out)
    have HZ4 := Lib.hid ((BA4.out.block _ (lt_of_some0 HZ3.out)).trans HZ3.out)
    have B4 := Lib.hid (btA B3.out BA4.out)
    have SJ := Lib.hid (lt_of_some0 HQ3.out)
    generalize hj : W3.heap.size = j at *
    clear hj x0 x1 x2 c0 c1 c2 HX3 HQ3 HY3 HZ3 BA4
    generalize W3.alloc (.cells #[.int .i64 yo, .slice ad nd cd, .bool yc] 96) = W4 at *
    obtain ⟨y0, y1, y2⟩ := box3c HY4.out
    obtain ⟨j0, j1, j2⟩ := box3c HJ.out
    have f1 := frozen_of_row W4 j 1 _ _ HJ.out
    have hmt := HMT.out
    have l5 : m ≤ cd := Nat.le_trans HML.out HND.out.2
    have l6 : (m : Int) ≤ (cd : Int) := by omega
    have HJ5 := Lib.hid (show (W4.setCell ⟨j, 1, none⟩ (.slice ad m cd)).heap[j]? = some (.cells #[.int .i64 yo, .slice ad m cd, .bool yc] 96 (0, 0)) from (by simpa using heap_setCell_same W4 j 1 _ _ (.slice ad m cd) HJ.out))
    have HQ5 := Lib.hid ((other1 (g := j) (o := 1) (v := .slice ad m cd) (by have := SJ.out; omega : q ≠ j)).trans HQ4.out)
    have HZ5 := Lib.hid ((other1 (g := j) (o := 1) (v := .slice ad m cd) (by have := SJ.out; have := SQ.out; omega : w.heap.size + 2 ≠ j)).trans HZ4.out)
    have B5 := Lib.hid (B4.out.setCell (p := ⟨j, 1, none⟩) (by show w.heap.size ≤ j; have := SJ.out; have := SQ.out; omega) (.slice ad m cd))
    go_upto_region 7 with fail
    clear y0 y1 y2 j0 j1 j2 f1 hmt l5 l6 HJ HQ4 HY4 HZ4 B4
    generalize W4.setCell ⟨j, 1, none⟩ (.slice ad m cd) = W5 at *
    obtain ⟨j0, j1, j2⟩ := box3c HJ5.out
    have RD5 := Lib.hid (rd_take (rd_old2 B3.out B5.out HDV.out.2) HML.out)
    have RT5 := Lib.hid (rd_take (rd_below HPO.out B5.out) HNL.out)
    have RB5 := Lib.hid (rd_below HBO.out B5.out)
    by_cases hm0 : 0 < m
    · have e3 : decide ((0 : Int) < (m : Int)) = true := decide_eq_true (by omega)
      have HKW : Hid (keepW p ka kt = p.take n ++ [(yo, yd.take m, yc)]) := Lib.hid (by rw [HPW.out, if_pos hm0])
      have PW := Lib.hid (pwith_any (B := fun b => b < w.heap.size) (nm, b, p.take n) (yo, yd.take m, yc) _ _ _ W5 (rd_f_mk (x := (nm, b, p.take n)) HSZ.out RB5.out RT5.out) ⟨[.int .i64 yo], [.slice ad m cd, .bool yc], rfl, ⟨HDV.out.1, rfl⟩, [.slice ad m cd], [.bool yc], rfl, RD5.out, rfl⟩ (by
        have h1 := HLE.out
        show (p.take n).length ≤ 90000
        rw [List.length_take, ← HNP.out]
        omega))
      have SJ5 := Lib.hid (lt_of_some0 HQ5.out)
      dsimp only at PW
      rw [← HKW.out] at PW
      obtain ⟨q0, q1, q2⟩ := box3c HQ5.out
      clear HKW RD5 RT5 RB5 HPW
      go_upto_region 8 with fail
      go_wp2_with fail
      refine PW.out.mono ?_
      rintro e w6 ⟨⟨bv6, pv6, rfl, hr6⟩, hb6⟩
      obtain ⟨bv6', pv6', he6, -, hs6, ht6⟩ := rd_f hr6
      obtain ⟨rfl, rfl⟩ : bv6 = bv6' ∧ pv6 = pv6' := by simpa using he6
      obtain ⟨a6, c6, rfl, -, -⟩ := rd_sl hs6
      obtain ⟨a7, c7, rfl, -, -⟩ := rd_sl ht6
      have R6 := Lib.hid (rd_mono (C := fun b => b < w.heap.size ∨ q < b) hr6 fun b hb _ => by
        have h5 := SJ5.out
        rcases hb with hb | hb
        · exact Or.inl hb.1
        · exact Or.inr (by omega))
      have HQ6 := Lib.hid ((hb6.block _ SJ5.out).trans HQ5.out)
      have HZ6 := Lib.hid ((hb6.block _ (lt_of_some0 HZ5.out)).trans HZ5.out)
      have B6 := Lib.hid (btA B5.out hb6)
      dsimp only at R6
      generalize (keepW p ka kt).length = nk at R6 ⊢
      generalize b.length = nb2 at R6 ⊢
      clear hr6 hb6 he6 hs6 ht6 q0 q1 q2 j0 j1 j2 HQ5 HZ5 HJ5 PW
      obtain ⟨q0, q1, q2⟩ := box3c HQ6.out
      have u0 := frozen_of_row w6 q 0 _ _ HQ6.out
      have u1 := frozen_of_row w6 q 1 _ _ HQ6.out
      have u2 := frozen_of_row w6 q 2 _ _ HQ6.out
      have HQ7 := Lib.hid (set3c (k := .string nm) (l := .slice a6 nb2 c6) (m := .slice a7 nk c7) HQ6.out)
      have HZ7 := Lib.hid ((set3_other (W := w6) (g := q) (b := w.heap.size + 2) (k := .string nm) (l := .slice a6 nb2 c6) (m := .slice a7 nk c7) (by have := SQ.out; omega)).trans HZ6.out)
      have B7 := Lib.hid (below_set3 (k := .string nm) (l := .slice a6 nb2 c6) (m := .slice a7 nk c7) B6.out (show w.heap.size ≤ q by have := SQ.out; omega))
      have RP := Lib.hid (rd_move (C := fun _ => True) (w' := ((w6.setCell ⟨q, 0, none⟩ (.string nm)).setCell ⟨q, 1, none⟩ (.slice a6 nb2 c6)).setCell ⟨q, 2, none⟩ (.slice a7 nk c7)) (fun b hb _ => set3_other (by have := SQ.out; omega)) (fun _ _ _ => trivial) R6.out)
      go_upto_region 9 with fail
      clear q0 q1 q2 u0 u1 u2 HQ6 HZ6 B6 R6
      generalize ((w6.setCell ⟨q, 0, none⟩ (.string nm)).setCell ⟨q, 1, none⟩ (.slice a6 nb2 c6)).setCell ⟨q, 2, none⟩ (.slice a7 nk c7) = W7 at *
      have PS := Lib.hid (psynced_any (nm, b, keepW p ka kt) _ _ _ RP.out HFK.out (Nat.le_trans HKL.out (by decide)))
      have HZT := Lib.hid (HZ7.out)
      have SZT := Lib.hid (lt_of_some0 HZ7.out)
      obtain ⟨g0, g1, g2⟩ := box3c HQ7.out
      clear HQ7 HZ7 RP
      go_wp2_with fail
      refine PS.out.mono ?_
      rintro e w9 ⟨⟨bv9, pv9, rfl, hr9⟩, hb9⟩
      have HZ9 := Lib.hid ((hb9.block _ SZT.out).trans HZT.out)
      have B9 := Lib.hid (btA B7.out hb9)
      have R9 := Lib.hid hr9
      obtain ⟨bv9', pv9', he9, -, hs9, ht9⟩ := rd_f hr9
      obtain ⟨rfl, rfl⟩ : bv9 = bv9' ∧ pv9 = pv9' := by simpa using he9
      obtain ⟨a9, c9, rfl, -, -⟩ := rd_sl hs9
      obtain ⟨a8, c8, rfl, -, -⟩ := rd_sl ht9
      dsimp only at R9
      generalize (contL (nm, b, keepW p ka kt)).length = n9 at *
      clear hr9 hb9 PS HZT g0 g1 g2 he9 hs9 ht9
      obtain ⟨z0, z1, z2⟩ := box3c HZ9.out
      have u0 := frozen_of_row w9 (w.heap.size + 2) 0 _ _ HZ9.out
      have u1 := frozen_of_row w9 (w.heap.size + 2) 1 _ _ HZ9.out
      have u2 := frozen_of_row w9 (w.heap.size + 2) 2 _ _ HZ9.out
      go_wp2
      refine pfile_end1 rfl (set3c HZ9.out) rfl ?_
      have hz := SZT.out
      exact ⟨⟨_, _, rfl, rd_move (fun b hb _ => set3_other (by rcases hb with h | h; exact h.elim; omega)) (fun b hb _ => Or.inr (by rcases hb with h | h; exact h.elim; have := B7.out.size; omega)) R9.out⟩, below_set3 B9.out (by omega)⟩
    · have e3 : decide ((0 : Int) < (m : Int)) = false := decide_eq_false (by omega)
      have RP := Lib.hid (show Rd (fun _ => True) W5 tyF [.string nm, .slice ab nb cb, .slice (some ⟨g, off, none⟩) n cp] (nm, b, keepW p ka kt) by
        rw [HPW.out, if_neg hm0, List.append_nil]
        exact rd_f_mk (x := (nm, b, p.take n)) HSZ.out (rd_mono RB5.out fun _ _ _ => trivial) (rd_mono RT5.out fun _ _ _ => trivial))
      clear HPW RD5 RT5 RB5
      have PS := Lib.hid (psynced_any (nm, b, keepW p ka kt) _ _ _ RP.out HFK.out (Nat.le_trans HKL.out (by decide)))
      have HZT := Lib.hid (HZ5.out)
      have SZT := Lib.hid (lt_of_some0 HZ5.out)
      obtain ⟨g0, g1, g2⟩ := box3c HQ5.out
      clear HQ5 HZ5 RP
      go_upto_region 9 with fail
      go_wp2_with fail
      refine PS.out.mono ?_
      rintro e w9 ⟨⟨bv9, pv9, rfl, hr9⟩, hb9⟩
      have HZ9 := Lib.hid ((hb9.block _ SZT.out).trans HZT.out)
      have B9 := Lib.hid (btA B5.out hb9)
      have R9 := Lib.hid hr9
      obtain ⟨bv9', pv9', he9, -, hs9, ht9⟩ := rd_f hr9
      obtain ⟨rfl, rfl⟩ : bv9 = bv9' ∧ pv9 = pv9' := by simpa using he9
      obtain ⟨a9, c9, rfl, -, -⟩ := rd_sl hs9
      obtain ⟨a8, c8, rfl, -, -⟩ := rd_sl ht9
      dsimp only at R9
      generalize (contL (nm, b, keepW p ka kt)).length = n9 at *
      clear hr9 hb9 PS HZT g0 g1 g2 he9 hs9 ht9
      obtain ⟨z0, z1, z2⟩ := box3c HZ9.out
      have u0 := frozen_of_row w9 (w.heap.size + 2) 0 _ _ HZ9.out
      have u1 := frozen_of_row w9 (w.heap.size + 2) 1 _ _ HZ9.out
      have u2 := frozen_of_row w9 (w.heap.size + 2) 2 _ _ HZ9.out
      go_wp2
      refine pfile_end1 rfl (set3c HZ9.out) rfl ?_
      have hz := SZT.out
      exact ⟨⟨_, _, rfl, rd_move (fun b hb _ => set3_other (by rcases hb with h | h; exact h.elim; omega)) (fun b hb _ => Or.inr (by rcases hb with h | h; exact h.elim; have := B5.out.size; omega)) R9.out⟩, below_set3 B9.out (by omega)⟩
  · have e1 : decide ((n : Int) < (np : Int)) = false := decide_eq_false (by omega)
    have HKW : Hid (keepW p ka kt = p.take n) := Lib.hid (by
      unfold keepW
      rw [← HNP.out, ← HN.out, if_neg (by omega), List.append_nil])
    have RP := Lib.hid (show Rd (fun _ => True) W3 tyF [.string nm, .slice ab nb cb, .slice ap n cp] (nm, b, keepW p ka kt) by rw [HKW.out]; exact rd_f_mk (x := (nm, b, p.take n)) HSZ.out (rd_mono (rd_below HBO.out B3.out) fun _ _ _ => trivial) (rd_mono RT.out fun _ _ _ => trivial))
    have e2 : decide (n < np) = false := decide_eq_false hlt
    clear HKW RT
    have PS := Lib.hid (psynced_any (nm, b, keepW p ka kt) _ _ _ RP.out HFK.out (Nat.le_trans HKL.out (by decide)))
    have HZT := Lib.hid (HZ3.out)
    have SZT := Lib.hid (lt_of_some0 HZ3.out)
    obtain ⟨g0, g1, g2⟩ := box3c HQ3.out
    clear HQ3 HZ3 RP
    go_upto_region 9 with fail
    go_wp2_with fail
    refine PS.out.mono ?_
    rintro e w9 ⟨⟨bv9, pv9, rfl, hr9⟩, hb9⟩
    have HZ9 := Lib.hid ((hb9.block _ SZT.out).trans HZT.out)
    have B9 := Lib.hid (btA B3.out hb9)
    have R9 := Lib.hid hr9
    obtain ⟨bv9', pv9', he9, -, hs9, ht9⟩ := rd_f hr9
    obtain ⟨rfl, rfl⟩ : bv9 = bv9' ∧ pv9 = pv9' := by simpa using he9
    obtain ⟨a9, c9, rfl, -, -⟩ := rd_sl hs9
    obtain ⟨a8, c8, rfl, -, -⟩ := rd_sl ht9
    dsimp only at R9
    generalize (contL (nm, b, keepW p ka kt)).length = n9 at *
    clear hr9 hb9 PS HZT g0 g1 g2 he9 hs9 ht9
    obtain ⟨z0, z1, z2⟩ := box3c HZ9.out
    have u0 := frozen_of_row w9 (w.heap.size + 2) 0 _ _ HZ9.out
    have u1 := frozen_of_row w9 (w.heap.size + 2) 1 _ _ HZ9.out
    have u2 := frozen_of_row w9 (w.heap.size + 2) 2 _ _ HZ9.out
    go_wp2
    refine pfile_end1 rfl (set3c HZ9.out) rfl ?_
    have hz := SZT.out
    exact ⟨⟨_, _, rfl, rd_move (fun b hb _ => set3_other (by rcases hb with h | h; exact h.elim; omega)) (fun b hb _ => Or.inr (by rcases hb with h | h; exact h.elim; have := B3.out.size; omega)) R9.out⟩, below_set3 B9.out (by omega)⟩
end Go.Proofs.Ytpipgbjkkiheaaa.Gf
namespace Go.Proofs.Ytpipgbjkkiheaaa.Gf
open Go
def kep0 : Kep := (ByteArray.empty, 0, 0)
/-- The keep that place finds. -/
def kepOf (Z : List Kep) (s : ByteArray) : Kep := if hasG nmK Z s = true then Z.getD (lbG nmK Z s) kep0 else kep0
/-- What a power failure leaves of a disk. -/
def crashD (d : Dk) (l : List Kep) : Dk := if validB d = true then (d.1, -1, d.2.2.map fun f => remF f ((fstK f.1 l).getD kep0)) else dk0
theorem kepOf_fst : ∀ {Z : List Kep} {s : ByteArray}, SrtK Z → kepOf Z s = (fstK s Z).getD kep0
  | [], _, _ => rfl
  | x :: Z, s, h => by
    have h1 : SrtK Z := (List.pairwise_cons.1 h).2
    have h2 := (List.pairwise_cons.1 h).1
    have ih := kepOf_fst (s := s) h1
    unfold kepOf at ih ⊢
    rw [lbG_cons, hasG_cons]
    unfold fstK at ih ⊢
    by_cases hl : ltS x.1 s = true
    · have hn : nmEq x.1 s = false := nmEq_lt hl
      rw [if_pos hl, if_pos hl, List.find?_cons, hn]
      simpa using ih
    · rw [if_neg hl, if_neg hl, List.find?_cons]
      by_cases hn : nmEq x.1 s = true
      · rw [if_pos hn, hn]
        rfl
      · have hn2 : nmEq x.1 s = false := by simpa using hn
        rw [hn2]
        have hnone : Z.find? (fun x => nmEq x.1 s) = none := by
          rw [List.find?_eq_none]
          intro y hy hc
          have he := nmEq_iff.1 hc
          have hyx := h2 y hy
          rw [he] at hyx
          have := ltS_eqS (by simpa using hl) hyx
          exact hn (nmEq_iff.2 this)
        rw [if_neg (by simp)]
        show kep0 = (Z.find? (fun x => nmEq x.1 s)).getD kep0
        rw [hnone]
        rfl
theorem monK_of {L : List Kep} {s : ByteArray} (h : SrtK L) : MonL nmK L s := fun a b x y hx hy hab hl => by
  rcases Nat.lt_or_ge a b with hlt | hge
  · have hp := List.pairwise_iff_getElem.1 h
    obtain ⟨ha, ea⟩ := List.getElem?_eq_some_iff.1 hx
    obtain ⟨hb, eb⟩ := List.getElem?_eq_some_iff.1 hy
    have h1 := hp a b ha hb hlt
    rw [ea, eb] at h1
    show ltS x.1 s = true
    cases hc : ltS x.1 s with
    | true => rfl
    | false =>
      have h2 := le_trans_S hc h1
      rw [h2] at hl
      cases hl
  · have : a = b := by omega
    subst this
    rw [hx] at hy
    cases hy
    exact hl
theorem hasK_lt {L : List Kep} {s : ByteArray} (h : hasG nmK L s = true) : lbG nmK L s < L.length := by
  have h1 := lbG_le nmK L s
  rcases Nat.lt_or_ge (lbG nmK L s) L.length with h2 | h2
  · exact h2
  · unfold hasG at h
    rw [List.getElem?_eq_none h2] at h
    cases h
end Go.Proofs.Ytpipgbjkkiheaaa.Gf
namespace Go.Proofs.Ytpipgbjkkiheaaa.Gf
open Go Go.Joins Go.ChangeShapes Go.WideShapes Go.ChangeAt Go.RowKit Go.Deep Go.Proofs.Ytpipgbjkkiheaaa.By Go.Proofs.Ytpipgbjkkiheaaa.Qt

set_option maxRecDepth 100000 in
/-- make([]File, 0, n). -/
theorem makeF0 {ops : Array Oper} {rest : List Oper} {dst : Option Tmp} {x y : Operand} {pos : String} {after : Array Edge} {ty : TypeId} {a : Act} {W : World} {Q : Exit → Act → World → Prop} {n : Nat}
    (hx : a.eval x = .int .i64 0) (hy : a.eval y = .int .i64 (n : Int)) (hn : n ≤ 100000)
    (h : ∀ cs : Array Value, cs.size = n * 3 → wpList Try.prog ops Q rest (a.put dst (.slice (some ⟨W.heap.size, 0, none⟩) 0 n)) (W.alloc (.cells cs 59))) : wpList Try.prog ops Q (⟨dst, .makeSlice 31 x y, ty, pos, after, none⟩ :: rest) a W := by
  refine wpList_plain rfl fun K hK => ?_
  obtain ⟨i, hi, hz0, hz1, hz2⟩ := info_parts infoPF
  have hr := run_make (P := Try.prog) W 31 59 i (.agg #[.string ⟨#[]⟩, .slice none 0 0, .slice none 0 0]) Try.underlying31 hi hz0 .i64 .i64 (0 : Int) (n : Int) (by omega) (by omega) (by rw [hz2]; omega) (by omega)
  simp only [Int.toNat_natCast, Int.toNat_zero, hz1] at hr
  unfold Oper.wp execOp
  simp only [hx, hy, Sem.run_bind, Sem.run_pure, hr, Result.andThen_ok]
  exact hK _ _ (h _ (by simp [madeCells, Value.cells]))
theorem rd_kr {B : Nat → Prop} {w : World} {v : Value} {p : List Kep} (h : Rd B w (.sl tyK) [v] p) {i : Nat} {x : Kep} (hi : p[i]? = some x) : (-9223372036854775808 ≤ x.2.1 ∧ x.2.1 ≤ 9223372036854775807) ∧ (-9223372036854775808 ≤ x.2.2 ∧ x.2.2 ≤ 9223372036854775807) := by
  obtain ⟨b, off, cap, e, _, _, _, hc⟩ := rd_cells h (by have := (List.getElem?_eq_some_iff.1 hi).1; omega)
  obtain ⟨cs, hrd, -⟩ := hc i _ hi
  exact (rd_k hrd).2.2
set_option maxRecDepth 100000 in
set_option maxHeartbeats 6400000 in
theorem pcrash_any (v lv : Value) (d : Dk) (l : List Kep) (w : World) (hv : Dv w v d) (hsm : SmD d) (hpn : PnD d 80000) (sl : Rd (fun _ => True) w (.sl tyK) [lv] l) (hll : l.length ≤ 19) : Calls Try.prog 42 #[v, lv] w (DvO (fun _ => False) w (crashD d l)) := by
  obtain ⟨fv, rfl, hr, sf⟩ := hv
  obtain ⟨af, cf, rfl, -, -⟩ := rd_sl sf
  obtain ⟨al, cl, rfl, -, -⟩ := rd_sl sl
  have SF := Lib.hid sf
  have A1 := bel_al0 w (.cells #[.int .i64 d.1, .int .i64 d.2.1, .slice af d.2.2.length cf] 33)
  have BX := Lib.hid (btA A1 (bel_al0 _ (.cells #[.int .i64 0, .int .i64 0, .slice none 0 0] 33)))
  have HX := Lib.hid (show ((w.alloc (.cells #[.int .i64 d.1, .int .i64 d.2.1, .slice af d.2.2.length cf] 33)).alloc (.cells #[.int .i64 0, .int .i64 0, .slice none 0 0] 33)).heap[w.heap.size]? = some (.cells #[.int .i64 d.1, .int .i64 d.2.1, .slice af d.2.2.length cf] 33 (0, 0)) from (al_old (by simp)).trans (heap_alloc_new w _))
  have HY := Lib.hid (heap_alloc2_new w (.cells #[.int .i64 d.1, .int .i64 d.2.1, .slice af d.2.2.length cf] 33) (.cells #[.int .i64 0, .int .i64 0, .slice none 0 0] 33))
  have RV := Lib.hid (fun W (h : Below w.heap.size w W) => pvalid10_any _ d W (dv_below ⟨_, rfl, hr, sf⟩ h) hsm)
  have HVP := Lib.hid (fun h => valid_parts (d := d) h)
  have HCR : Hid (crashD d l = if validB d = true then (d.1, -1, d.2.2.map fun f => remF f ((fstK f.1 l).getD kep0)) else dk0) := Lib.hid rfl
  have HFL := Lib.hid (fun h (f : Fl) (hf : f ∈ d.2.2) => show flB f.2.1 f.2.2 = true from by
    have h1 := ok_mem (valid_parts (d := d) h).2.2.2 f hf
    unfold fileB at h1
    rw [Bool.and_eq_true] at h1
    exact h1.2)
  have HPN := Lib.hid hpn
  have CLN := Lib.hid (fun W (h : Below w.heap.size w W) => pclonek_any _ l W (rd_below sl h) (by omega))
  have HLL := Lib.hid hll
  have HR := Lib.hid hr
  generalize crashD d l = CD at *
  generalize validB d = VB at *
  obtain ⟨cap, left, L⟩ := d
  dsimp only at SF HX HY BX RV HVP HCR HFL HR ⊢
  unfold PnD at HPN
  dsimp only at HPN
  obtain ⟨n, hn⟩ : ∃ z, z = L.length := ⟨_, rfl⟩
  rw [← hn] at SF HX HY BX RV HVP ⊢
  have HN := Lib.hid hn
  obtain ⟨nl, hnl⟩ : ∃ z, z = l.length := ⟨_, rfl⟩
  rw [← hnl] at CLN HLL ⊢
  have HNL := Lib.hid hnl
  clear sf sl hn hr A1 hsm hpn hll hnl
  go_enter Try.func42, Try.ntmps42
  go_upto_region 1 with fail
  generalize ((w.alloc (.cells #[.int .i64 cap, .int .i64 left, .slice af n cf] 33)).alloc (.cells #[.int .i64 0, .int .i64 0, .slice none 0 0] 33)) = W1 at *
  obtain ⟨x0, x1, x2⟩ := box3c HX.out
  go_wp2_with fail
  refine (RV.out _ BX.out).mono ?_
  rintro e w2 ⟨rfl, hb2⟩
  have HX2 := Lib.hid ((hb2.block _ (lt_of_some0 HX.out)).trans HX.out)
  have HY2 := Lib.hid ((hb2.block _ (lt_of_some0 HY.out)).trans HY.out)
  have B2 := Lib.hid (btA BX.out hb2)
  clear x0 x1 x2 hb2 HX HY RV BX
  cases VB
  · have hc := HCR.out
    rw [if_neg (by simp)] at hc
    subst hc
    obtain ⟨y0, y1, y2⟩ := box3c HY2.out
    have u0 := frozen_of_row w2 (w.heap.size + 1) 0 _ _ HY2.out
    have u1 := frozen_of_row w2 (w.heap.size + 1) 1 _ _ HY2.out
    have u2 := frozen_of_row w2 (w.heap.size + 1) 2 _ _ HY2.out
    clear CLN HFL HVP
    go_wp2
    refine bodyPost_ret (results_cell_row Try.results42 _ _ (w.heap.size + 1) 33 _ (0, 0) _ rfl (set3c HY2.out) Try.underlying33 rfl infoDi) rfl ?_
    exact ⟨⟨_, rfl, .slice none 0 0, rfl, ⟨by decide, by decide⟩, rd_nil _ _ _⟩, below_set3 B2.out (by omega)⟩
  · have hc := HCR.out
    rw [if_pos rfl] at hc
    have HC := Lib.hid hc
    have HV := Lib.hid (HVP.out (by first | rfl | trivial))
    have HF := Lib.hid (HFL.out (by first | rfl | trivial))
    clear hc HCR HVP HFL
    go_wp2_with fail
    refine (CLN.out _ B2.out).mono ?_
    rintro e w3 ⟨⟨v3, rfl, ho3⟩, hb3⟩
    have PS := Lib.hid (psort_any (B := fun _ => False) v3 l w2.heap.size w3 ho3 (by have h1 := HLL.out; have h2 := HNL.out; omega) hb3.size)
    have HX3 := Lib.hid ((hb3.block _ (lt_of_some0 HX2.out)).trans HX2.out)
    have HY3 := Lib.hid ((hb3.block _ (lt_of_some0 HY2.out)).trans HY2.out)
    have B3 := Lib.hid (btA B2.out hb3)
    have SZ2 := Lib.hid (lt_of_some0 HY2.out)
    obtain ⟨a3, c3, rfl, -, -⟩ := og_form ho3
    rw [← HNL.out] at PS ⊢
    clear ho3 hb3 CLN HX2 HY2
    go_upto_region 4 with fail
    go_wp2_with fail
    refine PS.out.mono ?_
    rintro e w4 ⟨rfl, Z, ho4, hz4, hs4, hf4, hb4⟩
    have HX4 := Lib.hid ((hb4.block _ (by have := lt_of_some0 HX3.out; have := SZ2.out; omega)).trans HX3.out)
    have HY4 := Lib.hid ((hb4.block _ (by have := SZ2.out; omega)).trans HY3.out)
    have B4 := Lib.hid (B3.out.trans (hb4.mono (B2.out.size)))
    have SRT := Lib.hid hs4
    have HZ := Lib.hid (show Z.length = nl ∧ ∀ s, kepOf Z s = (fstK s l).getD kep0 from ⟨by rw [hz4, HNL.out], fun s => by rw [kepOf_fst hs4, hf4 s]⟩)
    have RZ := Lib.hid (og_rd (og_mono ho4 fun _ _ _ => trivial) (B := fun _ => True) fun _ _ => trivial)
    have SZ4 := Lib.hid (lt_of_some0 HY4.out)
    clear PS HX3 HY3 B3 B2 ho4 hz4 hs4 hf4 hb4 SZ2
    obtain ⟨x0, x1, x2⟩ := box3c HX4.out
    go_upto_region 5 with fail
    have hn5 : n ≤ 100000 := by have := HV.out.2.2.1; omega
    go_wp2_with ((with_reducible refine makeF0 (n := n) ?_ ?_ hn5 ?_); exact rfl; exact rfl; intro cs hcs; have OC := Lib.hid (og_cap (T := 59) tyF (fun b => w4.heap.size ≤ b) w4 rfl (Nat.le_refl _) (by unfold maxLen; omega) hcs); have BC := Lib.hid (bel_al0 w4 (.cells cs 59)); have HXC := Lib.hid ((BC.out.block _ (lt_of_some0 HX4.out)).trans HX4.out); clear x0 x1 x2 hcs; generalize w4.alloc (.cells cs 59) = w5 at *; obtain ⟨x0, x1, x2⟩ := box3c HXC.out)
    have FNX : ∃ F : Fl → Fl, (∀ (x : Fl), F x = remF x (kepOf Z x.1)) ∧ CD = (cap, -1, L.map F) := ⟨fun f => remF f ((fstK f.1 l).getD kep0), fun x => by rw [HZ.out.2], HC.out⟩
    obtain ⟨FN, hfn, hcd⟩ := FNX
    have HFN := Lib.hid hfn
    have HCD := Lib.hid hcd
    clear hfn hcd HC
    go_loopw [5, 26] (fun t5 t26 wr => ∃ i : Nat, i ≤ n ∧ t26 = .int .i64 (i : Int) ∧ Hid (OwG 59 tyF (fun b => w4.heap.size ≤ b) wr w4.heap.size t5 ((L.take i).map FN)) ∧ Hid (Below w4.heap.size w4 wr)) (fun _ t _ => n - (intOf t).toNat)
    case atStart => exact ⟨0, by omega, rfl, OC, BC⟩
    case round =>
      clear OC BC x0 x1 x2 HXC
      obtain ⟨i, hi, rfl, O, BB⟩ := hrel
      obtain ⟨m5, hm5⟩ : ∃ z, z = ((L.take i).map FN).length := ⟨_, rfl⟩
      obtain ⟨ao, co, rfl, -, -⟩ := og_form O.out
      rw [← hm5] at O ⊢
      clear hm5
      by_cases hlt : i < n
      · have l1 : decide ((i : Int) < (n : Int)) = true := decide_eq_true (by omega)
        have p0 : (0 : Int) ≤ (i : Int) := by omega
        have p1 : (i : Int) < (n : Int) := by omega
        have BW := Lib.hid (btA B4.out BB.out)
        obtain ⟨b1, o1, c1, bv, pv, hv, k0, k1, k2, hsz, hb, hp⟩ := rd_fat (rd_oldB SF.out BW.out) (i := i) (by rw [← HN.out]; exact hlt)
        obtain ⟨rfl, -, -⟩ : af = some ⟨b1, o1, none⟩ ∧ n = L.length ∧ cf = c1 := by simpa using hv
        obtain ⟨x, hx⟩ : ∃ x, x = L.getD i fl0 := ⟨_, rfl⟩
        have hmem : x ∈ L := by
          rw [hx, List.getD_eq_getElem?_getD, List.getElem?_eq_getElem (by have := HN.out; omega)]
          exact List.getElem_mem _
        have HFB := Lib.hid (HF.out x hmem)
        have HNP := Lib.hid (HPN.out x hmem)
        have HSN := Lib.hid (show L.take (i + 1) = L.take i ++ [x] by
          rw [hx, List.take_add_one, List.getD_eq_getElem?_getD, List.getElem?_eq_getElem (by have := HN.out; omega)]
          rfl)
        rw [← hx] at k0 hsz hb hp
        clear hv hx hmem
        obtain ⟨nm, b, p⟩ := x
        dsimp only at k0 hsz hb hp HFB HNP
        have HSZ := Lib.hid hsz
        have HB := Lib.hid (rd_mono (C := fun b => b < w.heap.size) hb fun _ h _ => h.2)
        have HP := Lib.hid (rd_mono (C := fun b => b < w.heap.size) hp fun _ h _ => h.2)
        obtain ⟨ab, cb, rfl, -, -⟩ := rd_sl hb
        obtain ⟨ap, cp, rfl, -, -⟩ := rd_sl hp
        generalize b.length = nb at *
        obtain ⟨np, hnp⟩ : ∃ z, z = p.length := ⟨_, rfl⟩
        rw [← hnp] at HP k2
        clear hb hp hsz hnp
        have q1 := bel_al0 wr (.cells #[.string nm, .slice ab nb cb, .slice ap np cp] 59)
        have BR6 := Lib.hid (btA q1 (bel_al0 _ (.cells #[.string ⟨#[]⟩, .int .i64 0, .int .i64 0] 87)))
        have HB6 := Lib.hid (show ((wr.alloc (.cells #[.string nm, .slice ab nb cb, .slice ap np cp] 59)).alloc (.cells #[.string ⟨#[]⟩, .int .i64 0, .int .i64 0] 87)).heap[wr.heap.size]? = some (.cells #[.string nm, .slice ab nb cb, .slice ap np cp] 59 (0, 0)) from (al_old (by simp)).trans (heap_alloc_new wr _))
        have HK6 := Lib.hid (heap_alloc2_new wr (.cells #[.string nm, .slice ab nb cb, .slice ap np cp] 59) (.cells #[.string ⟨#[]⟩, .int .i64 0, .int .i64 0] 87))
        have PL := Lib.hid (fun W (h : Below wr.heap.size wr W) => pplacek_any _ Z nm W (rd_below RZ.out (BB.out.trans (h.mono BB.out.size))) (monK_of SRT.out) (by have h1 := HZ.out.1; have h2 := HLL.out; omega))
        have HKO := Lib.hid (show kepOf Z nm = if hasG nmK Z nm = true then Z.getD (lbG nmK Z nm) kep0 else kep0 from rfl)
        have HLB := Lib.hid (fun h => hasK_lt (L := Z) (s := nm) h)
        generalize lbG nmK Z nm = J at *
        generalize hasG nmK Z nm = HG at *
        go_upto_region 10 with fail
        go_wp2_with fail
        clear k0 k1 k2 q1
        generalize ((wr.alloc (.cells #[.string nm, .slice ab nb cb, .slice ap np cp] 59)).alloc (.cells #[.string ⟨#[]⟩, .int .i64 0, .int .i64 0] 87)) = w6 at *
        refine (PL.out _ BR6.out).mono ?_
        rintro e w7 ⟨rfl, hb7⟩
        have BR7 := Lib.hid (btA BR6.out hb7)
        have HB7 := Lib.hid ((hb7.block _ (lt_of_some0 HB6.out)).trans HB6.out)
        have HK7 := Lib.hid ((hb7.block _ (lt_of_some0 HK6.out)).trans HK6.out)
        clear hb7 HB6 HK6 BR6 PL
        cases HG
        · have HKE := Lib.hid (show kepOf Z nm = kep0 by rw [HKO.out, if_neg (by simp)])
          have HREM := Lib.hid (show FN (nm, b, p) = remF (nm, b, p) kep0 by rw [HFN.out]; show remF _ (kepOf Z nm) = _; rw [HKE.out])
          have BW7 := Lib.hid (btA BW.out BR7.out)
          clear HKO HLB HKE
          have PR := Lib.hid (premains_any (nm, b, p) (kep0) _ _ w7 (rd_f_mk (x := (nm, b, p)) HSZ.out (rd_mono (rd_old2 BW.out BW7.out HB.out) fun _ _ _ => trivial) (rd_mono (rd_old2 BW.out BW7.out HP.out) fun _ _ _ => trivial)) (by decide) HFB.out (by have := HNP.out; simpa using this))
          obtain ⟨X, hX⟩ : ∃ X, X = remF (nm, b, p) (kep0) := ⟨_, rfl⟩
          rw [← hX] at PR HREM
          clear hX
          obtain ⟨xn, xb, xp⟩ := X
          dsimp only at PR
          obtain ⟨z0, z1, z2⟩ := box3c HB7.out
          obtain ⟨v0, v1, v2⟩ := box3c HK7.out
          go_upto_region 13 with fail
          go_wp2_with fail
          refine PR.out.mono ?_
          rintro e w9 ⟨⟨bv9, pv9, rfl, hr9⟩, hb9⟩
          obtain ⟨bv9', pv9', he9, -, hs9, ht9⟩ := rd_f hr9
          obtain ⟨rfl, rfl⟩ : bv9 = bv9' ∧ pv9 = pv9' := by simpa using he9
          obtain ⟨a9, c9, rfl, -, -⟩ := rd_sl hs9
          obtain ⟨a8, c8, rfl, -, -⟩ := rd_sl ht9
          have BR9 := Lib.hid (btA BR7.out hb9)
          have SZ8 := Lib.hid (Nat.le_trans BR7.out.size hb9.size)
          have R9 := Lib.hid (rd_mono (C := fun b => wr.heap.size ≤ b) hr9 fun b hb _ => by
            have h1 := BR7.out.size
            rcases hb with h | h
            · exact h.elim
            · omega)
          dsimp only at R9
          generalize xb.length = n9 at R9 ⊢
          generalize xp.length = n8 at R9 ⊢
          have BR10 := Lib.hid (btA BR9.out (bel_al0 w9 (.cells #[.string xn, .slice a9 n9 c9, .slice a8 n8 c8] 59)))
          have HS10 : Hid (Rd (fun b => w4.heap.size ≤ b ∧ (Value.slice ao m5 co).ownBlock ≠ some b) (w9.alloc (.cells #[.string xn, .slice a9 n9 c9, .slice a8 n8 c8] 59)) (.sl tyF) [.slice (some ⟨w9.heap.size, 0, none⟩) 1 1] [(xn, xb, xp)]) := Lib.hid (by
            have h4 := BB.out.size
            have h8 := SZ8.out
            exact rd_single (t := tyF) (rd_mono (rd_below R9.out (bel_al0 w9 _)) fun b hb _ => ⟨by omega, fun e => by have := (og_lt O.out b e).2; omega⟩) (heap_alloc_new w9 _) ⟨by omega, fun e => by have := (og_lt O.out _ e).2; omega⟩)
          have O10 := Lib.hid (og_below O.out BR10.out)
          have BB10 := Lib.hid (btA BB.out BR10.out)
          have HLE10 : Hid (((L.take i).map FN).length + [(xn, xb, xp)].length ≤ 100000000) := Lib.hid (by
            have h1 := HV.out.2.2.1
            rw [List.length_map, List.length_take]
            simp
            omega)
          have HFS10 := Lib.hid (show (L.take (i + 1)).map FN = (L.take i).map FN ++ [(xn, xb, xp)] by rw [HSN.out, List.map_append, List.map_singleton, HREM.out])
          clear HB7 HK7 BR7 BW7 z0 z1 z2 v0 v1 v2 PR hr9 hb9 he9 hs9 ht9
          clear O R9 BR9 BR10 BB
          go_wp2_with (at_builtin; refine app_g lsPF (dst := some 47) ?_ ?_ O10.out HS10.out HLE10.out BB10.out.size ?_; exact rfl; exact rfl; intro v11 w11 ho11 hg11 hat11; rw [← HFS10.out] at ho11; have O11 := Lib.hid ho11; have B11 := Lib.hid (below_grownG BB10.out hg11 O10.out BB10.out.size (Nat.le_refl _)); clear ho11 hg11 hat11 O10 HS10 BB10)
          go_roundw
          case rel => exact ⟨i + 1, by omega, by go_num, O11, B11⟩
          case measure => simp [intOf]; omega
        · have HKE := Lib.hid (show kepOf Z nm = Z.getD J kep0 by rw [HKO.out, if_pos rfl])
          have hj := HLB.out (by first | rfl | trivial)
          have hjl : J < nl := by have := HZ.out.1; omega
          obtain ⟨k, hk⟩ : ∃ k, k = Z.getD J kep0 := ⟨_, rfl⟩
          have hzj : Z[J]? = some k := by rw [hk, List.getD_eq_getElem?_getD, List.getElem?_eq_getElem hj]; rfl
          rw [← hk] at HKE
          obtain ⟨b2, o2, c2, hv2, m0, m1, m2⟩ := rd_kat (rd_below RZ.out (BB.out.trans (BR7.out.mono BB.out.size))) hzj
          obtain ⟨rfl, -⟩ : a3 = some ⟨b2, o2, none⟩ ∧ (nl = Z.length ∧ c3 = c2) := by simpa using hv2
          have KR := Lib.hid (rd_kr RZ.out hzj)
          have l2 : (0 : Int) ≤ (J : Int) := by omega
          have l3 : (J : Int) < (nl : Int) := by omega
          have HREM := Lib.hid (show FN (nm, b, p) = remF (nm, b, p) k by rw [HFN.out]; show remF _ (kepOf Z nm) = _; rw [HKE.out])
          clear hv2 hk hzj HKE HKO HLB hj
          obtain ⟨kn, ka, kt⟩ := k
          dsimp only at m0 m1 m2 KR
          have u0 := frozen_of_row w7 (wr.heap.size + 1) 0 _ _ HK7.out
          have u1 := frozen_of_row w7 (wr.heap.size + 1) 1 _ _ HK7.out
          have u2 := frozen_of_row w7 (wr.heap.size + 1) 2 _ _ HK7.out
          have HK8 := Lib.hid (set3c (k := .string kn) (l := .int .i64 ka) (m := .int .i64 kt) HK7.out)
          have HB8 := Lib.hid ((set3_other (W := w7) (g := wr.heap.size + 1) (b := wr.heap.size) (k := .string kn) (l := .int .i64 ka) (m := .int .i64 kt) (by omega)).trans HB7.out)
          have BR8 := Lib.hid (below_set3 (k := .string kn) (l := .int .i64 ka) (m := .int .i64 kt) BR7.out (show wr.heap.size ≤ wr.heap.size + 1 by omega))
          obtain ⟨z0, z1, z2⟩ := box3c HB7.out
          obtain ⟨v0, v1, v2⟩ := box3c HK7.out
          go_upto_region 13 with fail
          clear z0 z1 z2 v0 v1 v2 m0 m1 m2 u0 u1 u2 HK7 HB7 BR7 l2 l3
          generalize ((w7.setCell ⟨wr.heap.size + 1, 0, none⟩ (.string kn)).setCell ⟨wr.heap.size + 1, 1, none⟩ (.int .i64 ka)).setCell ⟨wr.heap.size + 1, 2, none⟩ (.int .i64 kt) = w8 at *
          have BW8 := Lib.hid (btA BW.out BR8.out)
          have PR := Lib.hid (premains_any (nm, b, p) ((kn, ka, kt)) _ _ w8 (rd_f_mk (x := (nm, b, p)) HSZ.out (rd_mono (rd_old2 BW.out BW8.out HB.out) fun _ _ _ => trivial) (rd_mono (rd_old2 BW.out BW8.out HP.out) fun _ _ _ => trivial)) KR.out HFB.out (by have := HNP.out; simpa using this))
          obtain ⟨X, hX⟩ : ∃ X, X = remF (nm, b, p) ((kn, ka, kt)) := ⟨_, rfl⟩
          rw [← hX] at PR HREM
          clear hX
          obtain ⟨xn, xb, xp⟩ := X
          dsimp only at PR
          obtain ⟨z0, z1, z2⟩ := box3c HB8.out
          obtain ⟨v0, v1, v2⟩ := box3c HK8.out
          go_wp2_with fail
          refine PR.out.mono ?_
          rintro e w9 ⟨⟨bv9, pv9, rfl, hr9⟩, hb9⟩
          obtain ⟨bv9', pv9', he9, -, hs9, ht9⟩ := rd_f hr9
          obtain ⟨rfl, rfl⟩ : bv9 = bv9' ∧ pv9 = pv9' := by simpa using he9
          obtain ⟨a9, c9, rfl, -, -⟩ := rd_sl hs9
          obtain ⟨a8, c8, rfl, -, -⟩ := rd_sl ht9
          have BR9 := Lib.hid (btA BR8.out hb9)
          have SZ8 := Lib.hid (Nat.le_trans BR8.out.size hb9.size)
          have R9 := Lib.hid (rd_mono (C := fun b => wr.heap.size ≤ b) hr9 fun b hb _ => by
            have h1 := BR8.out.size
            rcases hb with h | h
            · exact h.elim
            · omega)
          dsimp only at R9
          generalize xb.length = n9 at R9 ⊢
          generalize xp.length = n8 at R9 ⊢
          have BR10 := Lib.hid (btA BR9.out (bel_al0 w9 (.cells #[.string xn, .slice a9 n9 c9, .slice a8 n8 c8] 59)))
          have HS10 : Hid (Rd (fun b => w4.heap.size ≤ b ∧ (Value.slice ao m5 co).ownBlock ≠ some b) (w9.alloc (.cells #[.string xn, .slice a9 n9 c9, .slice a8 n8 c8] 59)) (.sl tyF) [.slice (some ⟨w9.heap.size, 0, none⟩) 1 1] [(xn, xb, xp)]) := Lib.hid (by
            have h4 := BB.out.size
            have h8 := SZ8.out
            exact rd_single (t := tyF) (rd_mono (rd_below R9.out (bel_al0 w9 _)) fun b hb _ => ⟨by omega, fun e => by have := (og_lt O.out b e).2; omega⟩) (heap_alloc_new w9 _) ⟨by omega, fun e => by have := (og_lt O.out _ e).2; omega⟩)
          have O10 := Lib.hid (og_below O.out BR10.out)
          have BB10 := Lib.hid (btA BB.out BR10.out)
          have HLE10 : Hid (((L.take i).map FN).length + [(xn, xb, xp)].length ≤ 100000000) := Lib.hid (by
            have h1 := HV.out.2.2.1
            rw [List.length_map, List.length_take]
            simp
            omega)
          have HFS10 := Lib.hid (show (L.take (i + 1)).map FN = (L.take i).map FN ++ [(xn, xb, xp)] by rw [HSN.out, List.map_append, List.map_singleton, HREM.out])
          clear HB8 HK8 BR8 BW8 z0 z1 z2 v0 v1 v2 PR hr9 hb9 he9 hs9 ht9
          clear O R9 BR9 BR10 BB
          go_wp2_with (at_builtin; refine app_g lsPF (dst := some 47) ?_ ?_ O10.out HS10.out HLE10.out BB10.out.size ?_; exact rfl; exact rfl; intro v11 w11 ho11 hg11 hat11; rw [← HFS10.out] at ho11; have O11 := Lib.hid ho11; have B11 := Lib.hid (below_grownG BB10.out hg11 O10.out BB10.out.size (Nat.le_refl _)); clear ho11 hg11 hat11 O10 HS10 BB10)
          go_roundw
          case rel => exact ⟨i + 1, by omega, by go_num, O11, B11⟩
          case measure => simp [intOf]; omega
      · have l1 : decide ((i : Int) < (n : Int)) = false := decide_eq_false (by omega)
        have hin : i = n := by omega
        subst hin
        have HT := Lib.hid (show (L.take i).map FN = L.map FN by rw [List.take_of_length_le (by have := HN.out; omega)])
        rw [HT.out] at O
        have HXR := Lib.hid ((BB.out.block _ (lt_of_some0 HX4.out)).trans HX4.out)
        have HYR := Lib.hid ((BB.out.block _ SZ4.out).trans HY4.out)
        have BWR := Lib.hid (btA B4.out BB.out)
        have RO := Lib.hid (og_rd (B := fun b => w4.heap.size ≤ b) O fun _ h => h)
        have SBB := Lib.hid BB.out.size
        clear O BB hlt
        obtain ⟨x0, x1, x2⟩ := box3c HXR.out
        obtain ⟨y0, y1, y2⟩ := box3c HYR.out
        have u0 := frozen_of_row wr (w.heap.size + 1) 0 _ _ HYR.out
        have u1 := frozen_of_row wr (w.heap.size + 1) 1 _ _ HYR.out
        have u2 := frozen_of_row wr (w.heap.size + 1) 2 _ _ HYR.out
        go_wp2
        refine bodyPost_ret (results_cell_row Try.results42 _ _ (w.heap.size + 1) 33 _ (0, 0) _ rfl (set3c HYR.out) Try.underlying33 rfl infoDi) rfl ?_
        have h4 := SZ4.out
        have hcd := HCD.out
        refine ⟨⟨_, rfl, .slice ao m5 co, by rw [hcd], ⟨by rw [hcd]; exact HR.out.1, by rw [hcd]; exact ⟨by show (_ : Int) ≤ -1; decide, by show (-1 : Int) ≤ _; decide⟩⟩, ?_⟩, below_set3 BWR.out (by omega)⟩
        rw [hcd]
        exact rd_move (fun b hb _ => set3_other (by omega)) (fun b hb _ => Or.inr (by have := B4.out.size; omega)) RO.out
end Go.Proofs.Ytpipgbjkkiheaaa.Gf
namespace Go.Proofs.Ytpipgbjkkiheaaa.Gf
open Go

section
variable {left : Int} {s : ByteArray} {b : List Nat} {p : List Wr}
/-- A disk with one file. -/
abbrev oneD (left : Int) (s : ByteArray) (b : List Nat) (p : List Wr) : Dk := (0, left, [(s, b, p)])
theorem one_valid (hl : -1 ≤ left) (hs : nameB s = true) (hf : flB b p = true) : validB (oneD left s b p) = true := by
  unfold validB
  simp only [Bool.and_eq_true, decide_eq_true_eq]
  refine ⟨⟨⟨by decide, hl⟩, by show 1 ≤ 256; decide⟩, fun i hi => ?_⟩
  obtain rfl : i = 0 := by simp at hi; omega
  refine ⟨?_, fun h => by omega⟩
  show fileB (s, b, p) = true
  unfold fileB
  rw [Bool.and_eq_true]
  exact ⟨hs, hf⟩
theorem one_fnd (left : Int) (s : ByteArray) (b : List Nat) (p : List Wr) : fndL (oneD left s b p).2.2 s = 0 := by
  unfold fndL
  simp [List.findIdx?_cons, nmEq_refl]
theorem one_ready (hl : -1 ≤ left) (hs : nameB s = true) (hf : flB b p = true) : readyE (oneD left s b p) s = if left = 0 then 13 else 0 := by
  unfold readyE
  rw [one_valid hl hs hf, hs]
  rfl
theorem one_at (hl : -1 ≤ left) (hs : nameB s = true) (hf : flB b p = true) : atE (oneD left s b p) s = if left = 0 then 13 else 0 := by
  unfold atE
  rw [one_ready hl hs hf, one_fnd]
  split <;> rfl
theorem one_file (hl : -1 ≤ left) (hs : nameB s = true) (hf : flB b p = true) (h0 : left ≠ 0) : fileAt (oneD left s b p) s = (s, b, p) := by
  unfold fileAt atI
  rw [one_ready hl hs hf, if_neg h0, if_pos rfl, one_fnd]
  rfl
theorem one_size (hl : -1 ≤ left) (hs : nameB s = true) (hf : flB b p = true) (h0 : left ≠ 0) : sizeD (oneD left s b p) s = ((apL b p).length : Int) := by
  unfold sizeD
  rw [one_at hl hs hf, if_neg h0, if_pos rfl, one_file hl hs hf h0, contL_ok hf]
theorem one_put (L : Fl) : putG nmF [(s, b, p)] (s, L.2.1, L.2.2) = [(s, L.2.1, L.2.2)] := by
  rw [putG_insR nmF _ (List.pairwise_singleton _ _)]
  simp [insR, nmF, ltS_irr, nmEq_refl]
theorem one_appE (hl : -1 ≤ left) (hs : nameB s = true) (hf : flB b p = true) (h0 : left ≠ 0) {x : List Nat} (hx : (apL b p).length + x.length ≤ 1048576) : appendE (oneD left s b p) s x = 0 := by
  unfold appendE
  rw [one_at hl hs hf, if_neg h0, if_pos rfl, one_file hl hs hf h0]
  unfold wEx
  rw [contL_ok hf, if_neg (by omega), if_neg (by intro h; exact h.1 rfl)]
theorem one_appE0 (hs : nameB s = true) (hf : flB b p = true) (x : List Nat) : appendE (oneD 0 s b p) s x = 13 := by
  unfold appendE
  rw [one_at (by omega) hs hf]
  rfl
theorem one_app (hl : -1 ≤ left) (hs : nameB s = true) (hf : flB b p = true) (h0 : left ≠ 0) {x : List Nat} (hx : (apL b p).length + x.length ≤ 1048576) : appendD (oneD left s b p) s x = oneD (leftN left) s b (p ++ [(((apL b p).length : Int), x, false)]) := by
  unfold appendD
  rw [one_appE hl hs hf h0 hx, if_pos rfl, one_file hl hs hf h0, contL_ok hf]
  unfold wDx
  show (0, leftN left, _) = _
  rw [one_put (s := s) (b := b) (p := p) (s, b, p ++ [(((apL b p).length : Int), x, false)])]
theorem apW_end (b x : List Nat) : apW b (((b.length : Nat) : Int), x, false) = b ++ x := by
  rw [apW_long (by rw [padL_length]; omega)]
  unfold padL
  simp
theorem apL_end (b : List Nat) (p : List Wr) (x : List Nat) : apL b (p ++ [(((apL b p).length : Int), x, false)]) = apL b p ++ x := by
  rw [apL_append]
  exact apW_end _ _
theorem flB_end (hf : flB b p = true) {x : List Nat} (hx : (apL b p).length + x.length ≤ 1048576) : flB b (p ++ [(((apL b p).length : Int), x, false)]) = true := by
  unfold flB at hf ⊢
  rw [Bool.and_eq_true] at hf ⊢
  refine ⟨hf.1, ?_⟩
  rw [okP_append, hf.2, Bool.true_and, okP, Bool.and_eq_true, Bool.and_eq_true]
  refine ⟨⟨?_, ?_⟩, rfl⟩
  · simp [wOk]
    omega
  · rw [decide_eq_true_iff, apW_end, List.length_append]
    exact hx
theorem one_sync (hl : -1 ≤ left) (hs : nameB s = true) (hf : flB b p = true) (h0 : left ≠ 0) : syncD (oneD left s b p) s = oneD (leftN left) s (apL b p) [] := by
  have ha : atE (oneD left s b p) s = 0 := by rw [one_at hl hs hf, if_neg h0]
  rw [sync_eq ha, one_file hl hs hf h0, contL_ok hf]
  show (0, leftN left, _) = _
  rw [one_put (s := s) (b := b) (p := p) (s, apL b p, [])]
theorem one_crash (hl : -1 ≤ left) (hs : nameB s = true) (hf : flB b p = true) (K : List Kep) : crashD (oneD left s b p) K = oneD (-1) s (apL b (keepW p ((fstK s K).getD kep0).2.1 ((fstK s K).getD kep0).2.2)) [] := by
  unfold crashD
  rw [if_pos (one_valid hl hs hf)]
  show (0, -1, [remF (s, b, p) _]) = _
  unfold remF
  rw [contL_ok (flB_keepW _ _ hf)]
theorem one_sm (hl : -1 ≤ left) (hs : nameB s = true) (hf : flB b p = true) : SmD (oneD left s b p) := valid_sm (one_valid hl hs hf)
theorem one_pn {k : Nat} (h : p.length ≤ k) : PnD (oneD left s b p) k := fun f hf => by
  obtain rfl := List.mem_singleton.1 hf
  exact h
theorem flB_nil (h : b.length ≤ 1048576) : flB b [] = true := by
  unfold flB
  simp [h, okP]
end
theorem new_ready {s : ByteArray} (hs : nameB s = true) : readyE (newD 0) s = 0 := by
  unfold readyE
  rw [hs, show validB (newD 0) = true by decide]
  rfl
theorem new_createE {s : ByteArray} (hs : nameB s = true) : createE (newD 0) s = 0 := by
  unfold createE
  rw [new_ready hs]
  rfl
theorem new_create {s : ByteArray} (hs : nameB s = true) : createD (newD 0) s = oneD (-1) s [] [] := by
  rw [create_eq (new_createE hs)]
  rfl
theorem new_app {s : ByteArray} (hs : nameB s = true) (x : List Nat) : appendE (newD 0) s x = 6 := by
  unfold appendE atE
  rw [new_ready hs]
  rfl
theorem new_sm (n : Int) : SmD (newD n) := fun f hf => by cases hf
theorem new_pn (n : Int) (k : Nat) : PnD (newD n) k := fun f hf => by cases hf
end Go.Proofs.Ytpipgbjkkiheaaa.Gf
namespace Go.Proofs.Ytpipgbjkkiheaaa.Gf
open Go Go.Joins Go.ChangeShapes Go.WideShapes Go.ChangeAt Go.RowKit Go.Deep Go.Proofs.Ytpipgbjkkiheaaa.By Go.Proofs.Ytpipgbjkkiheaaa.Qt

theorem rd_sl_ex {t : Ty} {w : World} {g : Nat} {v : Value} {l : List t.T} (h : Rd (fun _ => True) w (.sl t) [v] l) (hel : ∀ cs x, Rd (fun _ => True) w t cs x → Rd (fun b => b ≠ g) w t cs x)
    (hno : ∀ off cs x, Rd (fun _ => True) w t cs x → (∀ u z, cs[u]? = some z → w.cell? ⟨g, off + u, none⟩ = some z) → False) : Rd (fun b => b ≠ g) w (.sl t) [v] l := by
  obtain ⟨L, a, cap, h1, h2, h3, h4, h5, h6⟩ := h
  refine ⟨L, a, cap, h1, h2, h3, h4, fun p hp => hel _ _ (h5 p hp), fun hp => ?_⟩
  obtain ⟨b, off, ha, -, hk⟩ := h6 hp
  refine ⟨b, off, ha, fun e => ?_, hk⟩
  subst e
  cases L with
  | nil => simp at hp
  | cons p L =>
    refine hno off p.1 p.2 (h5 p (List.mem_cons_self ..)) fun u z hu => hk u z ?_
    rw [List.flatMap_cons, List.getElem?_append_left (List.getElem?_eq_some_iff.1 hu).1]
    exact hu
/-- A box that holds a disk. -/
def IsBox (w : World) (g : Nat) : Prop := ∀ o z, w.cell? ⟨g, o, none⟩ = some z → (o ≤ 1 ∧ ∃ x, z = .int .i64 x) ∨ (o = 2 ∧ ∃ a n c, z = .slice a n c)
theorem isBox_of {w : World} {g : Nat} {x y : Int} {a : Option Addr} {n c : Nat} {T : TypeId} {fz : Nat × Nat} (h : w.heap[g]? = some (.cells #[.int .i64 x, .int .i64 y, .slice a n c] T fz)) : IsBox w g := fun o z hz => by
  have hk : o < 3 := by
    rcases Nat.lt_or_ge o 3 with h1 | h1
    · exact h1
    · unfold World.cell? at hz
      simp only [h] at hz
      simp [h1] at hz
  obtain ⟨h0, h1, h2⟩ := box3c h
  match o, hk with
  | 0, _ => exact Or.inl ⟨by decide, x, by rw [h0] at hz; exact (Option.some.inj hz).symm⟩
  | 1, _ => exact Or.inl ⟨by decide, y, by rw [h1] at hz; exact (Option.some.inj hz).symm⟩
  | 2, _ => exact Or.inr ⟨rfl, a, n, c, by rw [h2] at hz; exact (Option.some.inj hz).symm⟩
theorem rd_nobox8 {w : World} {g : Nat} (hb : IsBox w g) {v : Value} {l : List Nat} (h : Rd (fun _ => True) w (.sl .u8) [v] l) : Rd (fun b => b ≠ g) w (.sl .u8) [v] l :=
  rd_sl_ex h (fun _ _ h => h) fun off cs x ⟨_, hc⟩ hk => by
    subst hc
    have := hb _ _ (hk 0 _ rfl)
    simp at this
theorem rd_noboxW {w : World} {g : Nat} (hb : IsBox w g) {v : Value} {l : List Wr} (h : Rd (fun _ => True) w (.sl tyW) [v] l) : Rd (fun b => b ≠ g) w (.sl tyW) [v] l :=
  rd_sl_ex h (fun cs x h => by
    obtain ⟨dv, rfl, h1, h2⟩ := rd_w h
    exact ⟨[.int .i64 x.1], [dv, .bool x.2.2], rfl, ⟨h1, rfl⟩, [dv], [.bool x.2.2], rfl, rd_nobox8 hb h2, rfl⟩) fun off cs x h hk => by
    obtain ⟨dv, rfl, h1, h2⟩ := rd_w h
    have h3 := hb _ _ (hk 2 _ rfl)
    simp at h3
theorem rd_nobox {w : World} {g : Nat} (hb : IsBox w g) {v : Value} {l : List Fl} (h : Rd (fun _ => True) w (.sl tyF) [v] l) : Rd (fun b => b ≠ g) w (.sl tyF) [v] l :=
  rd_sl_ex h (fun cs x h => by
    obtain ⟨bv, pv, rfl, h1, h2, h3⟩ := rd_f h
    exact rd_f_mk h1 (rd_nobox8 hb h2) (rd_noboxW hb h3)) fun off cs x h hk => by
    obtain ⟨bv, pv, rfl, h1, h2, h3⟩ := rd_f h
    have h3 := hb _ _ (hk 0 _ rfl)
    simp at h3
/-- A disk as a value, its list spelled out. -/
theorem dv_form {B : Nat → Prop} {w : World} {v : Value} {d : Dk} (h : DvB B w v d) : ∃ a c, v = .agg #[.int .i64 d.1, .int .i64 d.2.1, .slice a d.2.2.length c] ∧ Rd (fun _ => True) w (.sl tyF) [.slice a d.2.2.length c] d.2.2 := by
  obtain ⟨fv, rfl, -, h3⟩ := h
  obtain ⟨a, c, rfl, -, -⟩ := rd_sl h3
  exact ⟨a, c, rfl, rd_mono h3 fun _ _ _ => trivial⟩
/-- A store into the box of a disk. -/
theorem rd_boxset {w : World} {g : Nat} {x y x' y' : Int} {a a' : Option Addr} {n n' c c' : Nat} {T : TypeId} {fz : Nat × Nat} (h : w.heap[g]? = some (.cells #[.int .i64 x, .int .i64 y, .slice a n c] T fz)) {v : Value} {l : List Fl} (hr : Rd (fun _ => True) w (.sl tyF) [v] l) :
    Rd (fun _ => True) (((w.setCell ⟨g, 0, none⟩ (.int .i64 x')).setCell ⟨g, 1, none⟩ (.int .i64 y')).setCell ⟨g, 2, none⟩ (.slice a' n' c')) (.sl tyF) [v] l :=
  rd_move (fun _ hb _ => set3_other hb) (fun _ _ _ => trivial) (rd_nobox (isBox_of h) hr)
end Go.Proofs.Ytpipgbjkkiheaaa.Gf
namespace Go.Proofs.Ytpipgbjkkiheaaa.Gf
open Go Go.Joins Go.ChangeShapes Go.WideShapes Go.ChangeAt Go.RowKit Go.Deep Go.Proofs.Ytpipgbjkkiheaaa.By Go.Proofs.Ytpipgbjkkiheaaa.Qt

theorem nmA : nameB ⟨#[97]⟩ = true := by decide
theorem slz {w : World} : Sl w (.slice none 0 0) [] := sl_nil w
theorem d10 (left : Int) (h : -9223372036854775808 ≤ left ∧ left ≤ 9223372036854775807) {w : World} {s : ByteArray} {b : List Nat} {p : List Wr} {a : Option Addr} {c : Nat} (hr : Rd (fun _ => True) w (.sl tyF) [.slice a 1 c] [(s, b, p)]) : Dv w (.agg #[.int .i64 0, .int .i64 left, .slice a 1 c]) (oneD left s b p) := ⟨_, rfl, ⟨⟨by show _ ≤ (0 : Int); decide, by show (0 : Int) ≤ _; decide⟩, h⟩, hr⟩
set_option maxRecDepth 100000 in
set_option maxHeartbeats 6400000 in
theorem awake10_any (w : World) : Calls Try.prog 14 #[] w fun e w' => e = .returned (.bool true) ∧ Below w.heap.size w w' := by
  have hb0 := Lib.hid (Below.refl w.heap.size w)
  go_enter Try.func14, Try.ntmps14
  go_wp2_with fail
  refine (pnew_any 0 (by decide) (fun _ => False) _).mono ?_
  rintro e w1 ⟨⟨v1, rfl, hv1⟩, hb1⟩
  have V1 := Lib.hid (dvB_dv hv1)
  have B1 := Lib.hid hb1
  clear hv1 hb1 hb0
  go_wp2_with fail
  refine (pappend_any v1 (newD 0) ⟨#[97]⟩ (.slice none 0 0) [] _ slz (by decide) (by unfold maxLen; decide) 10 V1.out (new_sm 0) (new_pn 0 10) (by decide)).mono ?_
  rw [new_app nmA]
  rintro e w2 ⟨⟨v2, rfl, hv2⟩, hb2⟩
  obtain ⟨a2, c2, rfl, -⟩ := dv_form hv2
  have B2 := Lib.hid (btA B1.out hb2)
  generalize appendD (newD 0) ⟨#[97]⟩ [] = D2 at *
  obtain ⟨p2, q2, L2⟩ := D2
  generalize (p2, q2, L2).2.2.length = n2 at *
  dsimp only at *
  clear hv2 hb2 V1 B1
  go_upto_region 2 with fail
  have B3 := Lib.hid (btA B2.out (bel_al0 w2 (.cells #[.int .i64 p2, .int .i64 q2, .slice a2 n2 c2] 33)))
  generalize w2.alloc (.cells #[.int .i64 p2, .int .i64 q2, .slice a2 n2 c2] 33) = w3 at *
  clear B2
  go_wp2_with fail
  refine (pnew_any 0 (by decide) (fun _ => False) _).mono ?_
  rintro e w4 ⟨⟨v4, rfl, hv4⟩, hb4⟩
  have V4 := Lib.hid (dvB_dv hv4)
  have B4 := Lib.hid (btA B3.out hb4)
  clear hv4 hb4 B3
  go_wp2_with fail
  refine (pcreate_any v4 (newD 0) ⟨#[97]⟩ (by unfold maxLen; decide) 10 _ V4.out (new_sm 0) (new_pn 0 10) (by decide)).mono ?_
  rw [new_createE nmA, new_create nmA]
  rintro e w5 ⟨⟨v5, rfl, hv5⟩, hb5⟩
  obtain ⟨a5, c5, rfl, r5⟩ := dv_form hv5
  have R5 := Lib.hid (show Rd (fun _ => True) w5 (.sl tyF) [.slice a5 1 c5] [(⟨#[97]⟩, [], [])] from r5)
  have B5 := Lib.hid (btA B4.out hb5)
  clear hv5 hb5 V4 B4 r5
  have hx5 : (.agg #[.int .i64 (oneD (-1) ⟨#[97]⟩ [] []).1, .int .i64 (oneD (-1) ⟨#[97]⟩ [] []).2.1, .slice a5 (oneD (-1) ⟨#[97]⟩ [] []).2.2.length c5] : Value) = .agg #[.int .i64 0, .int .i64 (-1), .slice a5 1 c5] := rfl
  rw [hx5]
  clear hx5
  go_upto_region 3 with fail
  have q6 := bel_al0 w5 (.cells #[.int .i64 0, .int .i64 (-1), .slice a5 1 c5] 33)
  have HX6 := Lib.hid (heap_alloc_new w5 (.cells #[.int .i64 0, .int .i64 (-1), .slice a5 1 c5] 33))
  have R6 := Lib.hid (rd_below R5.out q6)
  have B6 := Lib.hid (btA B5.out q6)
  have HG := Lib.hid (show w.heap.size ≤ w5.heap.size from B5.out.size)
  clear q6 R5 B5
  generalize w5.alloc (.cells #[.int .i64 0, .int .i64 (-1), .slice a5 1 c5] 33) = w6 at *
  generalize w5.heap.size = g at *
  obtain ⟨x0, x1, x2⟩ := box3c HX6.out
  go_wp2_with fail
  have q7 := bel_al0 w6 (.cells #[.int .u8 1, .int .u8 2, .int .u8 3] 5)
  refine (pappend_any _ (oneD (-1) ⟨#[97]⟩ [] []) ⟨#[97]⟩ _ [1, 2, 3] _ (sl_block (l := [1, 2, 3]) (by decide) rfl (by unfold maxLen; decide) rfl (heap_alloc_new w6 (.cells #[.int .u8 1, .int .u8 2, .int .u8 3] 5))) (by decide) (by unfold maxLen; decide) 10 (d10 (-1) (by decide) (rd_below R6.out q7)) (one_sm (by decide) nmA (flB_nil (by decide))) (one_pn (by decide)) (by decide)).mono ?_
  rw [one_appE (by decide) nmA (flB_nil (by decide)) (by decide) (by decide), one_app (by decide) nmA (flB_nil (by decide)) (by decide) (by decide)]
  rintro e w8 ⟨⟨v8, rfl, hv8⟩, hb8⟩
  obtain ⟨a8, c8, rfl, r8⟩ := dv_form hv8
  have R8 := Lib.hid (show Rd (fun _ => True) w8 (.sl tyF) [.slice a8 1 c8] [(⟨#[97]⟩, [], [(0, [1, 2, 3], false)])] from r8)
  have q8 := btA q7 hb8
  have HX8 := Lib.hid ((q8.block _ (lt_of_some0 HX6.out)).trans HX6.out)
  have B8 := Lib.hid (btA B6.out q8)
  clear hv8 hb8 R6 HX6 B6 r8 q7 q8 x0 x1 x2
  generalize hx8 : (.agg #[.int .i64 (oneD (leftN (-1)) ⟨#[97]⟩ [] ([] ++ [(((apL [] []).length : Int), [1, 2, 3], false)])).1, .int .i64 (oneD (leftN (-1)) ⟨#[97]⟩ [] ([] ++ [(((apL [] []).length : Int), [1, 2, 3], false)])).2.1, .slice a8 (oneD (leftN (-1)) ⟨#[97]⟩ [] ([] ++ [(((apL [] []).length : Int), [1, 2, 3], false)])).2.2.length c8] : Value) = vx
  obtain rfl : vx = .agg #[.int .i64 0, .int .i64 (-1), .slice a8 1 c8] := hx8.symm.trans rfl
  clear hx8
  obtain ⟨x0, x1, x2⟩ := box3c HX8.out
  have u0 := frozen_of_row w8 g 0 _ _ HX8.out
  have u1 := frozen_of_row w8 g 1 _ _ HX8.out
  have u2 := frozen_of_row w8 g 2 _ _ HX8.out
  have HX9 := Lib.hid (set3c (k := .int .i64 0) (l := .int .i64 (-1)) (m := .slice a8 1 c8) HX8.out)
  have R9 := Lib.hid (rd_boxset (x' := 0) (y' := -1) (a' := a8) (n' := 1) (c' := c8) HX8.out R8.out)
  have B9 := Lib.hid (below_set3 (k := .int .i64 0) (l := .int .i64 (-1)) (m := .slice a8 1 c8) B8.out HG.out)
  go_upto_region 4 with fail
  clear x0 x1 x2 u0 u1 u2 HX8 R8 B8
  generalize ((w8.setCell ⟨g, 0, none⟩ (.int .i64 0)).setCell ⟨g, 1, none⟩ (.int .i64 (-1))).setCell ⟨g, 2, none⟩ (.slice a8 1 c8) = w9 at *
  obtain ⟨x0, x1, x2⟩ := box3c HX9.out
  have hf1 : flB [] [(0, [1, 2, 3], false)] = true := by decide
  have HF1 := Lib.hid hf1
  clear hf1
  go_wp2_with fail
  refine (pcrash_any _ (.slice none 0 0) (oneD (-1) ⟨#[97]⟩ [] [(0, [1, 2, 3], false)]) [] _ (d10 (-1) (by decide) R9.out) (one_sm (by decide) nmA HF1.out) (one_pn (by decide)) (rd_nil _ _ _) (by decide)).mono ?_
  rw [one_crash (by decide) nmA HF1.out]
  rintro e w10 ⟨⟨v10, rfl, hv10⟩, hb10⟩
  have V10 := Lib.hid (dvB_dv hv10)
  have HX10 := Lib.hid ((hb10.block _ (lt_of_some0 HX9.out)).trans HX9.out)
  have R10 := Lib.hid (rd_below R9.out hb10)
  have B10 := Lib.hid (btA B9.out hb10)
  clear hv10 hb10 HX9 R9 B9 x0 x1 x2
  go_wp2_with fail
  refine (psize_any v10 _ ⟨#[97]⟩ (by unfold maxLen; decide) _ V10.out (one_sm (by decide) nmA (flB_nil (by decide)))).mono ?_
  rw [one_size (by decide) nmA (flB_nil (by decide)) (by decide), one_at (by decide) nmA (flB_nil (by decide)), if_neg (by decide), show (apL (apL [] (keepW [(0, [1, 2, 3], false)] ((fstK ⟨#[97]⟩ []).getD kep0).2.1 ((fstK ⟨#[97]⟩ []).getD kep0).2.2)) []).length = 0 by decide]
  rintro e w11 ⟨rfl, hb11⟩
  have HX11 := Lib.hid ((hb11.block _ (lt_of_some0 HX10.out)).trans HX10.out)
  have R11 := Lib.hid (rd_below R10.out hb11)
  have B11 := Lib.hid (btA B10.out hb11)
  clear V10 hb11 HX10 R10 B10
  obtain ⟨x0, x1, x2⟩ := box3c HX11.out
  go_upto_region 5 with fail
  go_wp2_with fail
  have q12 := bel_al0 w11 (.cells #[.string ⟨#[97]⟩, .int .i64 0, .int .i64 2] 87)
  have HK := heap_alloc_new w11 (.cells #[.string ⟨#[97]⟩, .int .i64 0, .int .i64 2] 87)
  refine (pcrash_any _ _ (oneD (-1) ⟨#[97]⟩ [] [(0, [1, 2, 3], false)]) [(⟨#[97]⟩, 0, 2)] _ (d10 (-1) (by decide) (rd_below R11.out q12)) (one_sm (by decide) nmA HF1.out) (one_pn (by decide)) (rd_single (t := tyK) ⟨[.string ⟨#[97]⟩], [.int .i64 0, .int .i64 2], rfl, ⟨by unfold maxLen; decide, rfl⟩, [.int .i64 0], [.int .i64 2], rfl, ⟨by decide, rfl⟩, ⟨by decide, rfl⟩⟩ HK trivial) (by decide)).mono ?_
  rw [one_crash (by decide) nmA HF1.out]
  have HX12 := Lib.hid ((q12.block _ (lt_of_some0 HX11.out)).trans HX11.out)
  have R12 := Lib.hid (rd_below R11.out q12)
  have B12 := Lib.hid (btA B11.out q12)
  clear HX11 R11 B11 q12 HK
  have hfk : fstK ⟨#[97]⟩ [(⟨#[97]⟩, 0, 2)] = some (⟨#[97]⟩, 0, 2) := by
    unfold fstK
    rw [List.find?_cons, nmEq_refl]
  rw [hfk]
  clear hfk
  rintro e w13 ⟨⟨v13, rfl, hv13⟩, hb13⟩
  have V13 := Lib.hid (dvB_dv hv13)
  have HX13 := Lib.hid ((hb13.block _ (lt_of_some0 HX12.out)).trans HX12.out)
  have R13 := Lib.hid (rd_below R12.out hb13)
  have B13 := Lib.hid (btA B12.out hb13)
  clear hv13 hb13 HX12 R12 B12 x0 x1 x2
  go_wp2_with fail
  refine (psize_any v13 _ ⟨#[97]⟩ (by unfold maxLen; decide) _ V13.out (one_sm (by decide) nmA (flB_nil (by decide)))).mono ?_
  rw [one_size (by decide) nmA (flB_nil (by decide)) (by decide), one_at (by decide) nmA (flB_nil (by decide)), if_neg (by decide), show (apL (apL [] (keepW [(0, [1, 2, 3], false)] ((some (⟨#[97]⟩, 0, 2) : Option Kep).getD kep0).2.1 ((some (⟨#[97]⟩, 0, 2) : Option Kep).getD kep0).2.2)) []).length = 2 by decide]
  rintro e w14 ⟨rfl, hb14⟩
  have HX14 := Lib.hid ((hb14.block _ (lt_of_some0 HX13.out)).trans HX13.out)
  have R14 := Lib.hid (rd_below R13.out hb14)
  have B14 := Lib.hid (btA B13.out hb14)
  clear V13 hb14 HX13 R13 B13
  clear HX14 R14 HF1
  go_wp2
  go_ret
  exact ⟨rfl, B14.out⟩
end Go.Proofs.Ytpipgbjkkiheaaa.Gf
