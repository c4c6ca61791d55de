/- What is proved here: the contracts of the library's Search over a closure and of the program's split (index). Condition: lists of at most 1000 items with ascending keys. -/
import Derived.Test.YtihjfnlimdcmkaaDoorS8x
import Derived.Test.YtihjfnlimdcmkaaDoorU8
namespace Go.Proofs.YtihjfnlimdcmkaaDoor.Gf
open Go Go.Joins Go.ChangeShapes Go.WideShapes Go.ChangeAt Go.RowKit Go.Deep Go.Lib Go.Sort Go.Proofs Go.Proofs.YtihjfnlimdcmkaaDoor.By Go.Proofs.YtihjfnlimdcmkaaDoor.Qt

/-- What a search answers. -/
def SRQ (w : World) (n : Nat) (p : Nat → Bool) (e : Ending) (w' : World) : Prop := ∃ j : Nat, e = .returned (.int .i64 (j : Int)) ∧ j ≤ n ∧ (∀ i, i < j → p i = false) ∧ (∀ i, j ≤ i → i < n → p i = true) ∧ Below w.heap.size w w'
set_option maxRecDepth 100000 in
set_option maxHeartbeats 4000000 in
theorem psearch_any (g : Nat) (cb : Array Value) (n : Nat) (p : Nat → Bool) (w : World) (eg : ∀ args w, (callFunc g args).run Tryd.prog w = .ok (.enter g args) w) (hn : n ≤ 1000000)
    (hf : ∀ (i : Nat) (W : World), i < n → Below w.heap.size w W → Calls Tryd.prog g (#[.int .i64 (i : Int)] ++ cb) W fun e w' => e = .returned (.bool (p i)) ∧ Below W.heap.size W w')
    (hmono : ∀ a b, a ≤ b → b < n → p a = true → p b = true) :
    Calls Tryd.prog 47 #[.int .i64 (n : Int), .func (.func g) #[] cb] w (SRQ w n p) := by
  have HF := Lib.hid hf
  have M := Lib.hid hmono
  clear hf hmono
  go_enter Tryd.func47, Tryd.ntmps47
  go_wp2
  go_loopg [5, 6] n (fun kx s5 s6 wr => ∃ (lo hi : Nat), s5 = .int .i64 lo ∧ s6 = .int .i64 hi ∧ lo ≤ hi ∧ hi ≤ n ∧ hi - lo ≤ kx ∧ Hid (Below w.heap.size w wr) ∧ Hid ((∀ t, t < lo → p t = false) ∧ (∀ t, hi ≤ t → t < n → p t = true)))
  case atStart => exact ⟨0, n, rfl, rfl, Nat.zero_le _, Nat.le_refl _, by omega, Below.refl _ _, ⟨fun t ht => absurd ht (Nat.not_lt_zero _), fun t h1 h2 => by omega⟩⟩
  case round =>
    obtain ⟨lo, hi, rfl, rfl, hlh, hin, hg, B, I⟩ := hrel
    by_cases hlt : lo < hi
    · have hltz : (lo : Int) < (hi : Int) := by omega
      have hc := HF.out ((lo + hi) / 2) wr (by omega) B.out
      rw [show (((lo + hi) / 2 : Nat) : Int) = ((lo : Int) + (hi : Int)) / 2 by omega] at hc
      cases hp : p ((lo + hi) / 2) <;> rw [hp] at hc
      · have HC := Lib.hid hc
        have I2 : Hid ((∀ t, t < (lo + hi) / 2 + 1 → p t = false) ∧ (∀ t, hi ≤ t → t < n → p t = true)) := ⟨fun t ht => (by
          cases h : p t with
          | false => rfl
          | true => have := M.out t ((lo + hi) / 2) (by omega) (by omega) h; rw [hp] at this; cases this), I.out.2⟩
        clear hp I hc
        go_wp2_with (go_at_fn g; refine HC.out.mono ?_; rintro e w2 ⟨rfl, hb2⟩)
        have B2 : Hid (Below w.heap.size w w2) := bt B.out hb2
        clear hb2 HC B
        go_wp2
        go_roundg (hi - ((lo + hi) / 2 + 1))
        case measure => omega
        case rel => exact ⟨(lo + hi) / 2 + 1, hi, by rw [show ((lo : Int) + (hi : Int)) / 2 + 1 = (((lo + hi) / 2 + 1 : Nat) : Int) by omega], rfl, by omega, hin, Nat.le_refl _, B2, I2⟩
      · have HC := Lib.hid hc
        have I2 : Hid ((∀ t, t < lo → p t = false) ∧ (∀ t, (lo + hi) / 2 ≤ t → t < n → p t = true)) := ⟨I.out.1, fun t ht htn => M.out ((lo + hi) / 2) t ht htn hp⟩
        clear hp I hc
        go_wp2_with (go_at_fn g; refine HC.out.mono ?_; rintro e w2 ⟨rfl, hb2⟩)
        have B2 : Hid (Below w.heap.size w w2) := bt B.out hb2
        clear hb2 HC B
        go_wp2
        go_roundg ((lo + hi) / 2 - lo)
        case measure => omega
        case rel => exact ⟨lo, (lo + hi) / 2, rfl, by rw [show ((lo : Int) + (hi : Int)) / 2 = (((lo + hi) / 2 : Nat) : Int) by omega], by omega, by omega, Nat.le_refl _, B2, I2⟩
    · obtain rfl : hi = lo := by omega
      have hltz : ¬ (hi : Int) < (hi : Int) := by omega
      go_wp2
      go_ret
      exact ⟨hi, rfl, hin, I.out.1, I.out.2, B.out⟩
set_option maxRecDepth 100000 in
theorem geq_any (i : Nat) (x : Itm) (b off n c q0 q1 k : Nat) (w : World) (h0 : w.cell? ⟨q0, 0, none⟩ = some (.slice (some ⟨b, off, none⟩) n c)) (h1 : w.cell? ⟨q1, 0, none⟩ = some (.int .u64 (k : Int))) (hi : i < n) (hc : C4 w b (off + i * 4) x) :
    Calls Tryd.prog 48 #[.int .i64 (i : Int), .pointer (some ⟨q0, 0, none⟩), .pointer (some ⟨q1, 0, none⟩)] w fun e w' => e = .returned (.bool (decide (k ≤ x.key))) ∧ Below w.heap.size w w' := by
  obtain ⟨e0, -, -, -⟩ := hc
  have p0 : (0 : Int) ≤ (i : Int) := by omega
  have p1 : (i : Int) < (n : Int) := by omega
  generalize x.key = y at *
  go_enter Tryd.func48, Tryd.ntmps48
  go_wp2_with fail
  go_quiet (fail)
  go_wp2
  go_ret
  exact ⟨by simp, below_drewN w _⟩
theorem run_midT (W : World) (a : Option Addr) {n cap l h : Nat} (h1 : l ≤ h) (h2 : h ≤ cap) : (Instr.sliceAt 22 (.slice a n cap) (some (.int .i64 (l : Int))) (some (.int .i64 (h : Int))) none).run Tryd.prog W = .ok (.slice (if cap = l then a else a.map (·.add (l * 4))) (h - l) (cap - l)) W := by
  rw [run_sliceAt_slice (h := elemT)]
  simp [Instr.slice, Instr.sliceBounds, Instr.sliceBound, run_underlying Tryd.underlying22, asIntOf, h1, h2]
theorem it_to {W : World} {a : Option Addr} {n cap l : Nat} {L : List Itm} (h : It W (.slice a n cap) L) (hl : l ≤ n) : It W (.slice a l cap) (L.take l) := by
  obtain ⟨a', cap', hv, h2, h3⟩ := it_form h
  obtain ⟨rfl, rfl, rfl⟩ : a = a' ∧ n = L.length ∧ cap = cap' := by simpa using hv
  by_cases e : l = 0
  · subst e
    rw [List.take_zero]
    exact it_empty _ _ h3
  · obtain ⟨b, o, c, hv', -, -, -⟩ := it_cells h (by omega)
    obtain ⟨rfl, -⟩ : a = some ⟨b, o, none⟩ ∧ cap = c := by simpa using hv'
    have hc := it_cut h 0 l (by omega)
    simpa using hc
/-- How a key divides a list. -/
structure Spl (L : List Itm) (k j m : Nat) : Prop where
  le : j + m ≤ L.length
  lo : ∀ x ∈ L.take j, x.key < k
  mid : (m = 0 ∧ (L.drop j).take m = []) ∨ (m = 1 ∧ ∃ y, (L.drop j).take m = [y] ∧ y.key = k)
  hi : ∀ x ∈ L.drop (j + m), k < x.key
/-- What split answers. -/
def SPQ (w : World) (L : List Itm) (k : Nat) (e : Ending) (w' : World) : Prop := ∃ (va vb vc : Value) (j m : Nat), e = .returned (.tuple #[va, vb, vc]) ∧ It w' va (L.take j) ∧ It w' vb ((L.drop j).take m) ∧ It w' vc (L.drop (j + m)) ∧ Spl L k j m ∧ Below w.heap.size w w'
theorem spl_of {L : List Itm} {k j : Nat} (hA : Asc L) (hj : j ≤ L.length) (h1 : ∀ i, i < j → (L.getD i z0).key < k) (h2 : ∀ i, j ≤ i → i < L.length → k ≤ (L.getD i z0).key) : Spl L k j (if j < L.length ∧ (L.getD j z0).key = k then 1 else 0) := by
  have lo : ∀ x ∈ L.take j, x.key < k := fun x hx => by
    obtain ⟨i, hi, rfl⟩ := List.getElem_of_mem hx
    rw [List.length_take] at hi
    have := h1 i (by omega)
    simpa [List.getD, show i < L.length by omega] using this
  by_cases c : j < L.length ∧ (L.getD j z0).key = k
  · rw [if_pos c]
    refine ⟨by omega, lo, Or.inr ⟨rfl, L.getD j z0, ?_, c.2⟩, fun x hx => ?_⟩
    · rw [List.drop_eq_getElem_cons c.1, List.take_succ_cons, List.take_zero]
      simp [List.getD, c.1]
    · obtain ⟨i, hi, rfl⟩ := List.getElem_of_mem hx
      rw [List.length_drop] at hi
      have := List.pairwise_iff_getElem.1 hA j (j + 1 + i) c.1 (by omega) (by omega)
      have e : (L.getD j z0).key = L[j].key := by simp [List.getD, c.1]
      rw [List.getElem_drop]
      omega
  · rw [if_neg c]
    refine ⟨by omega, lo, Or.inl ⟨rfl, List.take_zero⟩, fun x hx => ?_⟩
    obtain ⟨i, hi, rfl⟩ := List.getElem_of_mem hx
    rw [List.length_drop] at hi
    rw [List.getElem_drop]
    have h3 := h2 (j + 0 + i) (by omega) (by omega)
    have e : L.getD (j + 0 + i) z0 = L[j + 0 + i] := by simp [List.getD, show j + i < L.length by omega]
    rw [e] at h3
    by_cases i0 : i = 0
    · subst i0
      have : ¬ (L.getD j z0).key = k := fun h => c ⟨by omega, h⟩
      have e2 : L.getD j z0 = L[j + 0 + 0] := by simp [List.getD, show j < L.length by omega]
      rw [e2] at this
      omega
    · have h4 := List.pairwise_iff_getElem.1 hA j (j + 0 + i) (by omega) (by omega) (by omega)
      have h5 := h2 j (Nat.le_refl _) (by omega)
      have e2 : (L.getD j z0).key = L[j].key := by simp [List.getD, show j < L.length by omega]
      omega
set_option maxRecDepth 100000 in
set_option maxHeartbeats 6400000 in
theorem psplit_any (v : Value) (L : List Itm) (k : Nat) (w : World) (s : It w v L) (hA : Asc L) (hlen : L.length ≤ 1000) : Calls Tryd.prog 40 #[v, .int .u64 (k : Int)] w (SPQ w L k) := by
  obtain ⟨a, c, rfl, hc1, hc2⟩ := it_form s
  obtain ⟨n, hn⟩ : ∃ n, n = L.length := ⟨_, rfl⟩
  have X0 : Hid (((w.alloc (.cells #[.slice a L.length c] 22)).alloc (.cells #[.int .u64 (k : Int)] 38)).heap[w.heap.size]? = some (.cells #[.slice a L.length c] 22 (0, 0))) := (heap_alloc_old _ _ (by simp)).trans (heap_alloc_new w _)
  have X1 := Lib.hid (heap_alloc_new (w.alloc (.cells #[.slice a L.length c] 22)) (.cells #[.int .u64 (k : Int)] 38))
  have HB := Lib.hid (((Below.refl w.heap.size w).alloc (Nat.le_refl _) (.cells #[.slice a L.length c] 22)).alloc (by simp) (.cells #[.int .u64 (k : Int)] 38))
  have S := Lib.hid s
  rw [← hn] at S X0 X1 HB hlen hc1 ⊢
  have N := Lib.hid hn
  have AS := Lib.hid hA
  have hmf : ∀ (fn : Fn) (first cap : Array Value) (w : World), (Instr.makeFunc fn first cap).run Tryd.prog w = .ok (.func fn first cap) w := fun _ _ _ _ => rfl
  clear s hn hA
  go_enter Tryd.func40, Tryd.ntmps40
  go_wp2_with fail
  have X1' := X1.out
  rw [show (w.alloc (.cells #[.slice a n c] 22)).heap.size = w.heap.size + 1 by simp] at X1'
  generalize ((w.alloc (.cells #[.slice a n c] 22)).alloc (.cells #[.int .u64 (k : Int)] 38)) = W0 at *
  have KC : Hid (∀ W, Below W0.heap.size W0 W → W.cell? ⟨w.heap.size, 0, none⟩ = some (.slice a n c) ∧ W.cell? ⟨w.heap.size + 1, 0, none⟩ = some (.int .u64 (k : Int))) := fun W hW =>
    ⟨cell_of_row W _ 0 _ _ _ ((hW.block _ (lt_of_some X0.out)).trans X0.out), cell_of_row W _ 0 _ _ _ ((hW.block _ (lt_of_some X1')).trans X1')⟩
  have SR := Lib.hid (psearch_any 48 #[.pointer (some ⟨w.heap.size, 0, none⟩), .pointer (some ⟨w.heap.size + 1, 0, none⟩)] n (fun i => decide (k ≤ (L.getD i z0).key)) W0 (enters_of Tryd.func48 (by kernel_rfl) rfl) (by omega) (fun i W hi hW => by
    have N' := N.out
    obtain ⟨b, off, c', hv, -, -, hk⟩ := it_cells S.out (by omega)
    obtain ⟨rfl, -, rfl⟩ : a = some ⟨b, off, none⟩ ∧ n = L.length ∧ c = c' := by simpa using hv
    exact geq_any i (L.getD i z0) b off n c _ _ k W (KC.out W hW).1 (KC.out W hW).2 hi ((hk i (by omega)).below (bt HB.out hW))) (fun x y hxy hy hx => by
    have N' := N.out
    have hx' : k ≤ (L.getD x z0).key := of_decide_eq_true hx
    refine decide_eq_true ?_
    rcases Nat.eq_or_lt_of_le hxy with h | h
    · rw [← h]; exact hx'
    · have := List.pairwise_iff_getElem.1 AS.out x y (by omega) (by omega) h
      have e1 : L.getD x z0 = L[x] := by simp [List.getD, show x < L.length by omega]
      have e2 : L.getD y z0 = L[y] := by simp [List.getD, show y < L.length by omega]
      rw [e1] at hx'
      rw [e2]
      omega))
  refine SR.out.mono ?_
  rintro e w2 ⟨j, rfl, hj, hlo, hhi, hb2⟩
  have B2 := Lib.hid (bt HB.out hb2)
  have K2 := Lib.hid (KC.out w2 hb2)
  have SP0 := spl_of AS.out (j := j) (k := k) (by have := N.out; omega) (fun i hi => Nat.lt_of_not_le (of_decide_eq_false (hlo i hi))) (fun i hi hi2 => of_decide_eq_true (hhi i hi (by have := N.out; omega)))
  rw [← N.out] at SP0
  clear hlo hhi hb2 SR KC X0 X1 X1' HB hmf
  obtain ⟨k0', ky'⟩ := K2.out
  have k0 := cells_regrown k0'
  have ky := cells_regrown ky'
  clear k0' ky'
  by_cases hjn : j < n
  · have hjz : (j : Int) < (n : Int) := by omega
    have p0 : (0 : Int) ≤ (j : Int) := by omega
    have N' := N.out
    obtain ⟨b, off, c', hv, -, -, hk⟩ := it_cells S.out (by omega)
    obtain ⟨rfl, -, rfl⟩ : a = some ⟨b, off, none⟩ ∧ n = L.length ∧ c = c' := by simpa using hv
    have kc := cells_regrown ((hk j (by omega)).below B2.out).c0
    clear hk hv N'
    by_cases hkk : (L.getD j z0).key = k
    · rw [if_pos ⟨hjn, hkk⟩] at SP0
      have SPL := Lib.hid SP0
      have hkb : (((L.getD j z0).key : Int) == (k : Int)) = true := by rw [hkk]; simp
      clear hkk SP0
      generalize (L.getD j z0).key = y at *
      go_wp2_with fail
      refine wp_region_bl (by kernel_rfl) (by kernel_rfl) ?_
      repeat (go_big_quiet_step (fail))
      refine wpQuiet_nil ?_
      intro w9 hb9
      have B9 := Lib.hid (bt B2.out hb9)
      have K9 := Lib.hid (And.intro (fun d os => cells_regrown ((hb9.cell (block_lt_of_cell K2.out.1)).trans K2.out.1) d os) (fun d os => cells_regrown ((hb9.cell (block_lt_of_cell K2.out.2)).trans K2.out.2) d os))
      clear hb9 B2 K2
      have r1 : ∀ W, (Instr.sliceAt 22 (.slice (some ⟨b, off, none⟩ : Option Addr) n c) none (some (.int .i64 (j : Int))) none).run Tryd.prog W = .ok (.slice (some ⟨b, off, none⟩ : Option Addr) j c) W := fun W => run_toT W (some ⟨b, off, none⟩ : Option Addr) (by omega)
      have r2 : ∀ W, (Instr.sliceAt 22 (.slice (some ⟨b, off, none⟩ : Option Addr) n c) (some (.int .i64 (j : Int))) (some (.int .i64 ((j : Int) + 1))) none).run Tryd.prog W = .ok (.slice (if c = j then (some ⟨b, off, none⟩ : Option Addr) else (some ⟨b, off, none⟩ : Option Addr).map (·.add (j * 4))) (j + 1 - j) (c - j)) W := fun W => run_midT W (some ⟨b, off, none⟩ : Option Addr) (l := j) (h := j + 1) (by omega) (by omega)
      have r3 : ∀ W, (Instr.sliceAt 22 (.slice (some ⟨b, off, none⟩ : Option Addr) n c) (some (.int .i64 ((j : Int) + 1))) none none).run Tryd.prog W = .ok (.slice (if c = (j + 1) then (some ⟨b, off, none⟩ : Option Addr) else (some ⟨b, off, none⟩ : Option Addr).map (·.add ((j + 1) * 4))) (n - (j + 1)) (c - (j + 1))) W := fun W => run_fromT W (some ⟨b, off, none⟩ : Option Addr) (l := j + 1) (by omega)
      rw [show j + 1 - j = 1 by omega] at r2
      have i1 := it_to S.out (l := j) (by omega)
      have i2 := it_to (it_from S.out (l := j) (by omega)) (l := 1) (by omega)
      have i3 := it_from S.out (l := (j + 1)) (by omega)
      generalize (if c = j then (some ⟨b, off, none⟩ : Option Addr) else (some ⟨b, off, none⟩ : Option Addr).map (·.add (j * 4))) = a2 at r2 i2 
      generalize (if c = (j + 1) then (some ⟨b, off, none⟩ : Option Addr) else (some ⟨b, off, none⟩ : Option Addr).map (·.add ((j + 1) * 4))) = a3 at r3 i3
      generalize n - (j + 1) = n3 at r3 i3
      generalize c - j = c2 at r2 i2 
      generalize c - (j + 1) = c3 at r3 i3
      have I := Lib.hid (And.intro i1 (And.intro i2 i3))
      clear i1 i2 i3 hj k0 ky kc
      go_wp2_with fail
      refine wp_region_bl (by kernel_rfl) (by kernel_rfl) ?_
      obtain ⟨ka, kb⟩ := K9.out
      repeat (quiet_step (fail))
      refine wpQuiet_nil ?_
      intro w10 hb10
      have B10 := Lib.hid (bt B9.out hb10)
      clear hb10 r1 r2 r3
      go_wp2_with fail
      go_ret3
      exact ⟨_, _, _, j, 1, rfl, it_below I.out.1 B10.out, it_below I.out.2.1 B10.out, it_below I.out.2.2 B10.out, SPL.out, B10.out⟩
    · rw [if_neg (fun h => hkk h.2)] at SP0
      have SPL := Lib.hid SP0
      have hkb : (((L.getD j z0).key : Int) == (k : Int)) = false := by rw [beq_eq_false_iff_ne]; omega
      clear hkk SP0
      generalize (L.getD j z0).key = y at *
      go_wp2_with fail
      refine wp_region_bl (by kernel_rfl) (by kernel_rfl) ?_
      repeat (go_big_quiet_step (fail))
      refine wpQuiet_nil ?_
      intro w9 hb9
      have B9 := Lib.hid (bt B2.out hb9)
      have K9 := Lib.hid (And.intro (fun d os => cells_regrown ((hb9.cell (block_lt_of_cell K2.out.1)).trans K2.out.1) d os) (fun d os => cells_regrown ((hb9.cell (block_lt_of_cell K2.out.2)).trans K2.out.2) d os))
      clear hb9 B2 K2
      have r1 : ∀ W, (Instr.sliceAt 22 (.slice (some ⟨b, off, none⟩ : Option Addr) n c) none (some (.int .i64 (j : Int))) none).run Tryd.prog W = .ok (.slice (some ⟨b, off, none⟩ : Option Addr) j c) W := fun W => run_toT W (some ⟨b, off, none⟩ : Option Addr) (by omega)
      have r2 : ∀ W, (Instr.sliceAt 22 (.slice (some ⟨b, off, none⟩ : Option Addr) n c) (some (.int .i64 (j : Int))) (some (.int .i64 (j : Int))) none).run Tryd.prog W = .ok (.slice (if c = j then (some ⟨b, off, none⟩ : Option Addr) else (some ⟨b, off, none⟩ : Option Addr).map (·.add (j * 4))) (j - j) (c - j)) W := fun W => run_midT W (some ⟨b, off, none⟩ : Option Addr) (by omega) (by omega)
      have r3 : ∀ W, (Instr.sliceAt 22 (.slice (some ⟨b, off, none⟩ : Option Addr) n c) (some (.int .i64 (j : Int))) none none).run Tryd.prog W = .ok (.slice (if c = j then (some ⟨b, off, none⟩ : Option Addr) else (some ⟨b, off, none⟩ : Option Addr).map (·.add (j * 4))) (n - j) (c - j)) W := fun W => run_fromT W (some ⟨b, off, none⟩ : Option Addr) (by omega)
      rw [show j - j = 0 by omega] at r2
      have i1 := it_to S.out (l := j) (by omega)
      have i2 := it_to (it_from S.out (l := j) (by omega)) (l := 0) (by omega)
      have i3 := it_from S.out (l := j) (by omega)
      generalize (if c = j then (some ⟨b, off, none⟩ : Option Addr) else (some ⟨b, off, none⟩ : Option Addr).map (·.add (j * 4))) = a2 at r2 i2 r3 i3
      generalize n - j = n3 at r3 i3
      generalize c - j = c2 at r2 i2 r3 i3
      have I := Lib.hid (And.intro i1 (And.intro i2 i3))
      clear i1 i2 i3 hj k0 ky kc
      go_wp2_with fail
      refine wp_region_bl (by kernel_rfl) (by kernel_rfl) ?_
      obtain ⟨ka, kb⟩ := K9.out
      repeat (quiet_step (fail))
      refine wpQuiet_nil ?_
      intro w10 hb10
      have B10 := Lib.hid (bt B9.out hb10)
      clear hb10 r1 r2 r3
      go_wp2_with fail
      go_ret3
      exact ⟨_, _, _, j, 0, rfl, it_below I.out.1 B10.out, it_below I.out.2.1 B10.out, it_below I.out.2.2 B10.out, SPL.out, B10.out⟩
  · rw [if_neg (fun h => hjn h.1)] at SP0
    have SPL := Lib.hid SP0
    have hjz : ¬ (j : Int) < (n : Int) := by omega
    have hjb : decide ((j : Int) < (n : Int)) = false := decide_eq_false hjz
    have kc : True := trivial
    clear SP0
    go_wp2_with fail
    refine wp_region_bl (by kernel_rfl) (by kernel_rfl) ?_
    repeat (go_big_quiet_step (fail))
    refine wpQuiet_nil ?_
    intro w9 hb9
    have B9 := Lib.hid (bt B2.out hb9)
    have K9 := Lib.hid (And.intro (fun d os => cells_regrown ((hb9.cell (block_lt_of_cell K2.out.1)).trans K2.out.1) d os) (fun d os => cells_regrown ((hb9.cell (block_lt_of_cell K2.out.2)).trans K2.out.2) d os))
    clear hb9 B2 K2
    have r1 : ∀ W, (Instr.sliceAt 22 (.slice a n c) none (some (.int .i64 (j : Int))) none).run Tryd.prog W = .ok (.slice a j c) W := fun W => run_toT W a (by omega)
    have r2 : ∀ W, (Instr.sliceAt 22 (.slice a n c) (some (.int .i64 (j : Int))) (some (.int .i64 (j : Int))) none).run Tryd.prog W = .ok (.slice (if c = j then a else a.map (·.add (j * 4))) (j - j) (c - j)) W := fun W => run_midT W a (by omega) (by omega)
    have r3 : ∀ W, (Instr.sliceAt 22 (.slice a n c) (some (.int .i64 (j : Int))) none none).run Tryd.prog W = .ok (.slice (if c = j then a else a.map (·.add (j * 4))) (n - j) (c - j)) W := fun W => run_fromT W a (by omega)
    rw [show j - j = 0 by omega] at r2
    have i1 := it_to S.out (l := j) (by omega)
    have i2 := it_to (it_from S.out (l := j) (by omega)) (l := 0) (by omega)
    have i3 := it_from S.out (l := j) (by omega)
    generalize (if c = j then a else a.map (·.add (j * 4))) = a2 at r2 i2 r3 i3
    generalize n - j = n3 at r3 i3
    generalize c - j = c2 at r2 i2 r3 i3
    have I := Lib.hid (And.intro i1 (And.intro i2 i3))
    clear i1 i2 i3 hj k0 ky kc
    go_wp2_with fail
    refine wp_region_bl (by kernel_rfl) (by kernel_rfl) ?_
    obtain ⟨ka, kb⟩ := K9.out
    repeat (quiet_step (fail))
    refine wpQuiet_nil ?_
    intro w10 hb10
    have B10 := Lib.hid (bt B9.out hb10)
    clear hb10 r1 r2 r3
    go_wp2_with fail
    go_ret3
    exact ⟨_, _, _, j, 0, rfl, it_below I.out.1 B10.out, it_below I.out.2.1 B10.out, it_below I.out.2.2 B10.out, SPL.out, B10.out⟩
end Go.Proofs.YtihjfnlimdcmkaaDoor.Gf
