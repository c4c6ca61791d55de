/- What is proved here: the contract of the program's MulAdd. -/
import Derived.Test.YtppfdaiehdbafaaMt
import Derived.Test.YtppfdaiehdbafaaQ2b
namespace Go.Proofs.Ytppfdaiehdbafaa.Gf
open Go Go.ChangeShapes Go.WideShapes Go.ChangeAt Go.RowKit Go.Proofs.Ytppfdaiehdbafaa.By

/-- The first k bytes of l, and zeros behind them. -/
def Part (l : List Nat) (n k : Nat) : List Nat := l.take k ++ List.replicate (n - k) 0
theorem part_length {l : List Nat} {n k : Nat} (h : l.length = n) (hk : k ≤ n) : (Part l n k).length = n := by
  simp [Part]; omega
theorem part_full {l : List Nat} {n : Nat} (h : l.length = n) : Part l n n = l := by
  subst h
  simp [Part]
theorem part_set {l : List Nat} {n k : Nat} (h : l.length = n) (hk : k < n) : (Part l n k).set k (l.getD k 0) = Part l n (k + 1) := by
  apply List.ext_getElem?
  intro i
  have hl : (Part l n k).length = n := part_length h (by omega)
  by_cases e : i = k
  · subst e
    rw [List.getElem?_set_self (by omega)]
    simp [Part, List.getElem?_append, h, hk, List.getD_eq_getElem?_getD]
    intro _; omega
  · rw [List.getElem?_set_ne (by omega)]
    simp only [Part, List.getElem?_append, List.length_take, List.getElem?_take, List.getElem?_replicate]
    split <;> split <;> (try split) <;> (try split) <;> (try omega) <;> simp_all <;> omega
/-- The world behind 'products := multiples(c)'. -/
def Wm (w : World) (c : Nat) : World := (w.alloc (.cells (AV .u8 256 fun _ => 0) 97)).setRow w.heap.size (AV .u8 256 (gm c))
theorem wm_bel {w0 w : World} (c : Nat) (h : Below w0.heap.size w0 w) : Below w0.heap.size w0 (Wm w c) := below_setRow (h.alloc h.size _) h.size _
theorem wm_row (w : World) (c : Nat) : (Wm w c).heap[w.heap.size]? = some (.cells (AV .u8 256 (gm c)) 97 (0, 0)) := setRow_heap _ _ _ _ _ _ (heap_alloc_new _ _)
theorem wm_size (w : World) (c : Nat) : (Wm w c).heap.size = w.heap.size + 1 := by simp [Wm]


set_option maxRecDepth 100000 in
set_option maxHeartbeats 1600000 in
theorem ma_pos (b1 o1 c1 b2 o2 c2 n c : Nat) (d s : List Nat) (w : World) (hd : d.length = n) (hs : s.length = n) (hn : n ≤ 1000000) (hc : c < 256) (d1 : ∀ b ∈ d, b < 256) (s1 : ∀ b ∈ s, b < 256)
    (k1 : ∀ k, k < n → w.cell? ⟨b1, o1 + k, none⟩ = some (.int .u8 ((d.getD k 0 : Nat) : Int))) (k2 : ∀ k, k < n → w.cell? ⟨b2, o2 + k, none⟩ = some (.int .u8 ((s.getD k 0 : Nat) : Int))) :
    Calls Try.prog 67 #[.slice (some ⟨b1, o1, none⟩) n c1, .slice (some ⟨b2, o2, none⟩) n c2, .int .u8 (c : Int)] w fun e w' => (∃ v, e = .returned (.tuple #[v, .int .i64 0]) ∧ Own w' w.heap.size v (ma c d s)) ∧ Below w.heap.size w w' := by
  have z43 := zero43
  have HMu := Lib.hid (fun w => mult_any c w hc)
  have K1 := Lib.hid k1
  have K2 := Lib.hid k2
  have D1 := Lib.hid d1
  have S1 := Lib.hid s1
  have HD := Lib.hid hd
  have HS := Lib.hid hs
  have LM := Lib.hid (show (ma c d s).length = n by rw [ma_length c (hd.trans hs.symm), hd])
  clear k1 k2 d1 s1 hd hs
  go_enter Try.func67, Try.ntmps67
  go_wp2_with (first | (go_at_call 71; refine (HMu.out _).mono ?_; rintro e w1 ⟨rfl, hB1⟩; have E1 := Lib.hid (heap_alloc_new w1 (.cells (AV .u8 256 fun _ => 0) 97))) | ((with_reducible refine storeA w1.heap.size (AV .u8 256 fun _ => 0) .u8 256 (gm c) size43 ?_ ?_ E1.out (AV_size _ _ _) ?_); exact rfl; exact rfl; change wpList _ _ _ _ _ (Wm w1 c)) | ((with_reducible refine make_step (n := n) ?_ (by omega) ?_); exact rfl))
  clear z43 E1
  have hbm := wm_bel c hB1
  have hbs := hbm.size
  have hrow := wm_row w1 c
  have hws := wm_size w1 c
  have ROW := Lib.hid hrow
  have HBM := Lib.hid hbm
  clear hrow hbm hB1
  generalize Wm w1 c = W at *
  have hq : w1.heap.size < W.heap.size := by omega
  clear hws
  go_loopw [24] (fun i wr => ∃ k : Nat, k ≤ n ∧ i = .int .i64 (k : Int) ∧ Own wr w.heap.size (.slice (some ⟨W.heap.size, 0, none⟩) n n) (Part (ma c d s) n k) ∧ wr.heap[w1.heap.size]? = some (.cells (AV .u8 256 (gm c)) 97 (0, 0)) ∧ Below w.heap.size w wr) (fun i _ => n - (intOf i).toNat)
  case atStart => exact ⟨0, by omega, rfl, by simpa [Part] using own_made W hbs (show n ≤ maxLen by unfold maxLen; omega), (heap_alloc_old _ _ hq).trans ROW.out, HBM.out.alloc hbs _⟩
  case round =>
    obtain ⟨k, hk, rfl, hO, hR, hB⟩ := hrel
    have HO := Lib.hid hO
    have HR := Lib.hid hR
    have hBs := hB.size
    clear hO hR
    by_cases hlt : k < n
    · have e1 := K1.out k hlt
      have e2 := K2.out k hlt
      have f1 := (hB.cell (p := ⟨b1, o1 + k, none⟩) (block_lt_of_cell e1)).trans e1
      have f2 := (hB.cell (p := ⟨b2, o2 + k, none⟩) (block_lt_of_cell e2)).trans e2
      have u1 := getD_lt D1.out k
      have u2 := getD_lt S1.out k
      have f3 : wr.cell? ⟨w1.heap.size, s.getD k 0, none⟩ = some (.int .u8 ((gm c (s.getD k 0) : Nat) : Int)) := (cell_of_row _ _ (s.getD k 0) _ 97 (0, 0) HR.out).trans (AV_get .u8 256 (gm c) _ u2)
      have hg := ma_getD c k (d := d) (s := s) (by rw [HD.out]; exact hlt) (by rw [HD.out, HS.out])
      have ht := part_set LM.out hlt
      rw [hg] at ht
      clear e1 e2 hg
      have y1 := u8_xor_nat _ _ u1 (gm_lt (b := s.getD k 0) hc)
      have z1 : d.getD k 0 ^^^ gm c (s.getD k 0) < 256 := xor_lt u1 (gm_lt hc)
      have LP := Lib.hid (part_length LM.out hk)
      generalize Part (ma c d s) n k = L at HO ht LP
      generalize d.getD k 0 ^^^ gm c (s.getD k 0) = z at ht y1 z1
      generalize gm c (s.getD k 0) = g at f3 y1
      generalize s.getD k 0 = x2 at f2 f3 u2
      generalize d.getD k 0 = x1 at f1 y1 u1
      have HT := Lib.hid ht
      clear ht
      obtain ⟨q1, q2, _⟩ := own_cell HO.out LP.out hlt
      have p0 : (0 : Int) ≤ (k : Int) := by omega
      have p1 : (k : Int) < (n : Int) := by omega
      have p2 : (0 : Int) ≤ (x2 : Int) := by omega
      have p3 : (x2 : Int) < 256 := by omega
      go_wp2
      go_still_tail 10, (by kernel_rfl)
      go_wp2
      go_roundw
      case rel => exact ⟨k + 1, by omega, by go_num, by rw [← HT.out]; exact own_set HO.out.drew LP.out hlt z1, (heap_setCell_other _ _ _ _ (by simp; omega)).trans HR.out, hB.drew.setCell (by simpa using hbs) _⟩
      case measure => simp [intOf]; omega
    · obtain rfl : k = n := by omega
      rw [part_full LM.out] at HO
      go_wp2
      go_ret2
      exact ⟨⟨_, rfl, HO.out⟩, hB⟩
set_option maxRecDepth 100000 in
set_option maxHeartbeats 800000 in
theorem ma_zero (a1 a2 : Option Addr) (c1 c2 : Nat) (c : Nat) (w : World) (hc : c < 256) :
    Calls Try.prog 67 #[.slice a1 0 c1, .slice a2 0 c2, .int .u8 (c : Int)] w fun e w' => (∃ v, e = .returned (.tuple #[v, .int .i64 0]) ∧ Own w' w.heap.size v []) ∧ Below w.heap.size w w' := by
  have z43 := zero43
  have HMu := Lib.hid (fun w => mult_any c w hc)
  go_enter Try.func67, Try.ntmps67
  go_wp2_with (first | (go_at_call 71; refine (HMu.out _).mono ?_; rintro e w1 ⟨rfl, hB1⟩; have E1 := Lib.hid (heap_alloc_new w1 (.cells (AV .u8 256 fun _ => 0) 97))) | ((with_reducible refine storeA w1.heap.size (AV .u8 256 fun _ => 0) .u8 256 (gm c) size43 ?_ ?_ E1.out (AV_size _ _ _) ?_); exact rfl; exact rfl; change wpList _ _ _ _ _ (Wm w1 c)) | ((with_reducible refine make_step (n := 0) ?_ (by omega) ?_); exact rfl))
  clear z43 E1
  have hbm := wm_bel c hB1
  have hbs := hbm.size
  have HBM := Lib.hid hbm
  clear hbm hB1
  generalize Wm w1 c = W at *
  go_loopw [24] (fun i wr => i = .int .i64 0 ∧ Own wr w.heap.size (.slice (some ⟨W.heap.size, 0, none⟩) 0 0) [] ∧ Below w.heap.size w wr) (fun i _ => (intOf i).toNat)
  case atStart => exact ⟨rfl, own_made W hbs (show 0 ≤ maxLen by unfold maxLen; omega), HBM.out.alloc hbs _⟩
  case round =>
    obtain ⟨rfl, hO, hB⟩ := hrel
    have HO := Lib.hid hO
    clear hO
    go_wp2
    go_ret2
    exact ⟨⟨_, rfl, HO.out⟩, hB⟩
set_option maxRecDepth 100000 in
theorem ma_diff (a1 a2 : Option Addr) (n1 n2 c1 c2 : Nat) (c : Int) (w : World) (hn : n1 ≠ n2) :
    Calls Try.prog 67 #[.slice a1 n1 c1, .slice a2 n2 c2, .int .u8 c] w fun e w' => e = .returned (.tuple #[.slice none 0 0, .int .i64 1]) ∧ w = w' := by
  have hb : ((n1 : Int) != (n2 : Int)) = true := by
    rw [bne_iff_ne]
    omega
  clear hn
  go_enter Try.func67, Try.ntmps67
  go_wp2
  go_ret2
  exact ⟨rfl, rfl⟩
theorem ma_any (v1 v2 : Value) (d s : List Nat) (c : Nat) (w : World) (hd : Sl w v1 d) (hs : Sl w v2 s) (h1 : d.length ≤ 1000000) (hc : c < 256) :
    Calls Try.prog 67 #[v1, v2, .int .u8 (c : Int)] w (MaPost c d s w) := by
  by_cases hn : d.length = s.length
  · by_cases h0 : d.length = 0
    · obtain ⟨a1, c1, rfl, _, _⟩ := sl_form hd
      obtain ⟨a2, c2, rfl, _, _⟩ := sl_form hs
      rw [← hn, h0]
      refine (ma_zero a1 a2 c1 c2 c w hc).mono fun e w' ⟨he, hw⟩ => ?_
      obtain rfl := List.eq_nil_of_length_eq_zero h0
      exact ⟨fun _ => he, fun h => absurd hn h, hw⟩
    · obtain ⟨b1, o1, c1, rfl, _, _, k1⟩ := sl_cells hd (by omega)
      obtain ⟨b2, o2, c2, rfl, _, _, k2⟩ := sl_cells hs (by omega)
      rw [← hn]
      refine (ma_pos b1 o1 c1 b2 o2 c2 d.length c d s w rfl hn.symm h1 hc hd.1 hs.1 k1 (fun k hk => k2 k (by omega))).mono fun e w' ⟨he, hw⟩ => ?_
      exact ⟨fun _ => he, fun h => absurd hn h, hw⟩
  · obtain ⟨a1, c1, rfl, _, _⟩ := sl_form hd
    obtain ⟨a2, c2, rfl, _, _⟩ := sl_form hs
    refine (ma_diff a1 a2 _ _ c1 c2 c w hn).mono fun e w' ⟨he, hw⟩ => ?_
    subst hw
    exact ⟨fun h => absurd h hn, fun _ => he, Below.refl _ _⟩
end Go.Proofs.Ytppfdaiehdbafaa.Gf
