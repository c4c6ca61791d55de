/- What is proved here: the contracts of the program's equalLengths, combine and Apply. No condition. -/
import Derived.Test.YtppfdaiehdbafaaG4c
namespace Go.Proofs.Ytppfdaiehdbafaa.Gf
open Go Go.ChangeShapes Go.WideShapes Go.ChangeAt Go.RowKit Go.Sort Go.Proofs.Ytppfdaiehdbafaa.By Go.Proofs.Ytppfdaiehdbafaa.Qt

def EqL (L : List (List Nat)) : Prop := ∀ k, k < L.length → (L.getD k []).length = (L.getD 0 []).length
instance (L : List (List Nat)) : Decidable (EqL L) := by unfold EqL; infer_instance
set_option maxRecDepth 100000 in
set_option maxHeartbeats 1600000 in
theorem eql_pos (b o cap n j : Nat) (L : List (List Nat)) (w : World) (_hL : L.length = n) (hn1 : 1 ≤ n) (hn : n ≤ 16) (k1 : ∀ k, k < n → ∃ x, w.cell? ⟨b, o + k, none⟩ = some x ∧ Sl w x (L.getD k []))
    (hj : j ≤ n) (hin : ∀ i, i < j → (L.getD i []).length = (L.getD 0 []).length) (hout : j < n → ¬ (L.getD j []).length = (L.getD 0 []).length) :
    Calls Try.prog 59 #[.slice (some ⟨b, o, none⟩) n cap] w fun e w' => e = .returned (.bool (decide (j = n))) ∧ w = w' := by
  obtain ⟨x0, hx0, hs0⟩ := k1 0 (by omega)
  obtain ⟨a0, cap0, rfl, -, -⟩ := sl_form hs0
  rw [Nat.add_zero] at hx0
  have K1 := Lib.hid k1
  have IN := Lib.hid hin
  have OUT := Lib.hid hout
  have i1 : (0 : Int) < (n : Int) := by omega
  generalize (L.getD 0 []).length = m at *
  clear k1 hin hout hs0 _hL
  go_enter Try.func59, Try.ntmps59
  go_wp2
  go_loop [7] (fun t => ∃ k : Nat, k ≤ j ∧ t = .int .i64 (k : Int)) (fun t => n - (intOf t).toNat)
  case atStart => exact ⟨0, by omega, rfl⟩
  case round =>
    obtain ⟨k, hk, rfl⟩ := hrel
    by_cases hkn : k < n
    · obtain ⟨x, hx, hs⟩ := K1.out k hkn
      obtain ⟨ax, capx, rfl, -, -⟩ := sl_form hs
      have p0 : (0 : Int) ≤ (k : Int) := by omega
      have p1 : (k : Int) < (n : Int) := by omega
      clear hs
      by_cases hlt : k < j
      · have h1 := IN.out k hlt
        rw [h1] at hx
        clear h1
        go_wp2
        go_round
        case rel => exact ⟨k + 1, by omega, by go_num⟩
        case measure => simp [intOf]; omega
      · obtain rfl : k = j := by omega
        have h1 := OUT.out hkn
        generalize (L.getD k []).length = q at hx h1
        have h2 : ((q : Int) != (m : Int)) = true := by rw [bne_iff_ne]; omega
        have HD := Lib.hid (show decide (k = n) = false from decide_eq_false (by omega))
        clear h1
        go_wp2
        go_ret
        exact ⟨by rw [HD.out]; rfl, rfl⟩
    · obtain rfl : k = n := by omega
      have HD := Lib.hid (show decide (j = k) = true from decide_eq_true (by omega))
      go_wp2
      go_ret
      exact ⟨by rw [HD.out]; rfl, rfl⟩
theorem eql_any (v : Value) (L : List (List Nat)) (w : World) (s : Sr w v L) (h1 : 1 ≤ L.length) (h2 : L.length ≤ 16) : Calls Try.prog 59 #[v] w fun e w' => e = .returned (.bool (decide (EqL L))) ∧ w = w' := by
  obtain ⟨b, o, cap, rfl, _, _, k1⟩ := sr_cells s h1
  obtain ⟨j, h3, h4, h5⟩ := first_bad (fun i => (L.getD i []).length = (L.getD 0 []).length) L.length
  refine (eql_pos b o cap L.length j L w rfl h1 h2 k1 h3 h4 h5).mono fun e w' ⟨he, hw⟩ => ⟨?_, hw⟩
  rw [he]
  congr 2
  rw [decide_eq_decide]
  exact ⟨fun e k hk => h4 k (by omega), fun h => by
    by_cases e : j < L.length
    · exact absurd (h j e) (h5 e)
    · omega⟩
/-- The sum of rows, times a factor each. -/
def combR (f : Nat → Nat) (L : List (List Nat)) (m : Nat) : Nat → List Nat
  | 0 => List.replicate m 0
  | k + 1 => ma (f k) (combR f L m k) (L.getD k [])
theorem combR_rowAt (l : List Nat) (c i : Nat) (L : List (List Nat)) (m : Nat) : ∀ k, rowAt' l c i L m k = combR (ent l c i) L m k
  | 0 => rfl
  | k + 1 => by rw [rowAt', combR, combR_rowAt l c i L m k]
theorem combR_length {f : Nat → Nat} {L : List (List Nat)} {m : Nat} : ∀ k, (∀ i, i < k → (L.getD i []).length = m) → (combR f L m k).length = m
  | 0, _ => by simp [combR]
  | k + 1, h => by
    have h1 := combR_length (f := f) (L := L) k fun i hi => h i (by omega)
    rw [combR, ma_length _ (h1.trans (h k (by omega)).symm), h1]
set_option maxRecDepth 100000 in
set_option maxHeartbeats 1600000 in
theorem comb_pos (b1 o1 c1 b2 o2 c2 n m : Nat) (fs : List Nat) (L : List (List Nat)) (w : World) (_hf : fs.length = n) (hL : L.length = n) (hn1 : 1 ≤ n) (hn : n ≤ 16) (hm : m ≤ 1000000) (hlen : ∀ i, i < n → (L.getD i []).length = m) (f1 : ∀ x ∈ fs, x < 256)
    (k1 : ∀ k, k < n → w.cell? ⟨b1, o1 + k, none⟩ = some (.int .u8 ((fs.getD k 0 : Nat) : Int))) (k2 : ∀ k, k < n → ∃ x, w.cell? ⟨b2, o2 + k, none⟩ = some x ∧ Sl w x (L.getD k [])) :
    Calls Try.prog 60 #[.slice (some ⟨b1, o1, none⟩) n c1, .slice (some ⟨b2, o2, none⟩) n c2] w fun e w' => (∃ v, e = .returned v ∧ Own w' w.heap.size v (combR (fun k => fs.getD k 0) L m n)) ∧ Below w.heap.size w w' := by
  obtain ⟨x0, hx0, hs0⟩ := k2 0 (by omega)
  obtain ⟨a0, cap0, rfl, -, -⟩ := sl_form hs0
  rw [Nat.add_zero, hlen 0 (by omega)] at hx0
  have K1 := Lib.hid k1
  have K2 := Lib.hid k2
  have F1 := Lib.hid f1
  have HL := Lib.hid hlen
  have i1 : (0 : Int) < (n : Int) := by omega
  clear k1 k2 f1 hlen hs0 hL _hf
  go_enter Try.func60, Try.ntmps60
  go_wp2_with ((with_reducible refine make_step (n := m) ?_ (by omega) ?_); exact rfl)
  go_loopw [5, 15] (fun s t wr => ∃ k : Nat, k ≤ n ∧ t = .int .i64 (k : Int) ∧ Own wr w.heap.size s (combR (fun k => fs.getD k 0) L m k) ∧ Below w.heap.size w wr) (fun _ t _ => n - (intOf t).toNat)
  case atStart => exact ⟨0, by omega, rfl, own_made w (Nat.le_refl _) (by unfold maxLen; omega), (Below.refl _ _).alloc (Nat.le_refl _) _⟩
  case round =>
    obtain ⟨k, hk, rfl, hO, hB⟩ := hrel
    have HO := Lib.hid hO
    have HB := Lib.hid hB
    clear hO hB
    by_cases hlt : k < n
    · obtain ⟨x, hx, hsx⟩ := K2.out k hlt
      have hlk := HL.out k hlt
      obtain ⟨ax, capx, rfl, -, -⟩ := sl_form hsx
      rw [hlk] at hx hsx
      have e1 := K1.out k hlt
      have g1 := (HB.out.cell (p := ⟨b1, o1 + k, none⟩) (block_lt_of_cell e1)).trans e1
      have g2 := (HB.out.cell (p := ⟨b2, o2 + k, none⟩) (block_lt_of_cell hx)).trans hx
      have u1 := getD_lt F1.out k
      have hcl := combR_length (f := fun k => fs.getD k 0) (L := L) (m := m) k fun i hi => HL.out i (by omega)
      have hma := ma_any u5 (.slice ax m capx) _ _ (fs.getD k 0) wr HO.out.sl (sl_below hsx HB.out) (by omega) u1
      have hnx : combR (fun k => fs.getD k 0) L m (k + 1) = ma (fs.getD k 0) (combR (fun k => fs.getD k 0) L m k) (L.getD k []) := rfl
      have HNX := Lib.hid hnx
      have HMA := Lib.hid hma
      have HCL := Lib.hid (hcl.trans hlk.symm)
      generalize fs.getD k 0 = f at *
      have p0 : (0 : Int) ≤ (k : Int) := by omega
      have p1 : (k : Int) < (n : Int) := by omega
      clear hx hsx e1 hcl hma hnx hlk
      go_wp2_with fail
      refine HMA.out.mono ?_
      rintro e w5 ⟨h5, -, hB5⟩
      obtain ⟨s5, rfl, ho5⟩ := h5 HCL.out
      have HO5 := Lib.hid (own_base HB.out.size ho5)
      have HB5 := Lib.hid (bt HB.out hB5)
      clear h5 ho5 hB5 HMA
      go_wp2_with fail
      go_roundw
      case rel => exact ⟨k + 1, by omega, by go_num, by rw [HNX.out]; exact HO5.out, HB5.out⟩
      case measure => simp [intOf]; omega
    · obtain rfl : k = n := by omega
      go_wp2
      go_ret
      exact ⟨⟨_, rfl, HO.out⟩, HB.out⟩
/-- What Apply answers. -/
def applyBad (w : World) (e : Ending) (w' : World) : Prop := e = .returned (.tuple #[.slice none 0 0, .int .i64 1]) ∧ Below w.heap.size w w'
set_option maxRecDepth 100000 in
set_option maxHeartbeats 1600000 in
theorem apply_bad1 (r c : Int) (a1 a2 : Option Addr) (n1 n2 c1 c2 : Nat) (w : World) (h : ¬ Vd r c n1) : Calls Try.prog 39 #[mv r c (.slice a1 n1 c1), .slice a2 n2 c2] w (applyBad w) := by
  have hv := fun w => valid_any r c a1 n1 c1 w
  rw [decide_eq_false h] at hv
  have HV := Lib.hid hv
  have hb : ∀ cs, Below w.heap.size w (w.alloc (.cells cs 24)) := fun cs => (Below.refl _ _).alloc (Nat.le_refl _) _
  clear hv h
  unfold applyBad mv at *
  go_enter Try.func39, Try.ntmps39
  go_wp2_with fail
  refine (HV.out _).mono ?_
  rintro e w1 ⟨rfl, hb1⟩
  have hb2 := bt (hb _) hb1
  clear hb1
  go_wp2_with fail
  go_ret2
  exact ⟨rfl, hb2⟩
theorem one_later {w w1 : World} {A : Obj} (hb : Below (w.alloc A).heap.size (w.alloc A) w1) : w1.heap[w.heap.size]? = some A ∧ w.heap.size + 1 ≤ w1.heap.size ∧ Below w.heap.size w w1 := by
  have hs := hb.size
  have hz : (w.alloc A).heap.size = w.heap.size + 1 := by simp
  exact ⟨(hb.block _ (by omega)).trans (heap_alloc_new _ _), by omega, bt ((Below.refl _ _).alloc (Nat.le_refl _) _) hb⟩
set_option maxRecDepth 100000 in
set_option maxHeartbeats 1600000 in
theorem apply_bad2 (r c : Int) (a1 a2 : Option Addr) (n1 n2 c1 c2 : Nat) (w : World) (hv : Vd r c n1) (h : ¬ (n2 : Int) = c) : Calls Try.prog 39 #[mv r c (.slice a1 n1 c1), .slice a2 n2 c2] w (applyBad w) := by
  have hva := fun w => valid_any r c a1 n1 c1 w
  rw [decide_eq_true hv] at hva
  have HV := Lib.hid hva
  have hne : ((n2 : Int) != c) = true := bne_iff_ne.2 h
  clear hva hv h
  unfold applyBad mv at *
  go_enter Try.func39, Try.ntmps39
  go_wp2_with fail
  refine (HV.out _).mono ?_
  rintro e w1 ⟨rfl, hb1⟩
  obtain ⟨r1, hs, hb⟩ := one_later hb1
  obtain ⟨x0, x1, x2⟩ := row_cells r1
  clear hb1 r1
  go_wp2_with fail
  go_ret2
  exact ⟨rfl, hb⟩
set_option maxRecDepth 100000 in
set_option maxHeartbeats 1600000 in
theorem apply_bad3 (r c : Int) (a1 a2 : Option Addr) (n1 n2 c1 c2 : Nat) (L : List (List Nat)) (w : World) (hv : Vd r c n1) (hn2 : (n2 : Int) = c) (hL : L.length = n2) (s2 : Sr w (.slice a2 n2 c2) L) (h : ¬ EqL L) : Calls Try.prog 39 #[mv r c (.slice a1 n1 c1), .slice a2 n2 c2] w (applyBad w) := by
  have hva := fun w => valid_any r c a1 n1 c1 w
  rw [decide_eq_true hv] at hva
  have HV := Lib.hid hva
  have hc : 1 ≤ n2 ∧ n2 ≤ 16 := by have := hv.1; unfold Sized at this; omega
  have hq := fun w' (hb : Below w.heap.size w w') => eql_any (.slice a2 n2 c2) L w' (sr_below s2 hb) (by omega) (by omega)
  rw [decide_eq_false h] at hq
  have HQ := Lib.hid hq
  subst hn2
  clear hva hv h hq s2
  unfold applyBad mv at *
  go_enter Try.func39, Try.ntmps39
  go_wp2_with fail
  refine (HV.out _).mono ?_
  rintro e w1 ⟨rfl, hb1⟩
  obtain ⟨r1, hs, hb⟩ := one_later hb1
  obtain ⟨x0, x1, x2⟩ := row_cells r1
  clear hb1 r1
  go_wp2_with fail
  refine (HQ.out w1 hb).mono ?_
  rintro e w2 ⟨rfl, rfl⟩
  go_wp2_with fail
  go_ret2
  exact ⟨rfl, hb⟩
set_option maxRecDepth 100000 in
set_option maxHeartbeats 3200000 in
theorem apply_pos (r c m : Nat) (b1 o1 c1 b2 o2 c2 n : Nat) (l : List Nat) (L : List (List Nat)) (w : World) (hv : Vd r c n) (hln : l.length = n) (l1 : ∀ b ∈ l, b < 256) (hc1 : n ≤ c1) (hcm : c1 ≤ maxLen) (hc2 : c ≤ c2) (hc2m : c2 ≤ maxLen)
    (hLc : L.length = c) (hm : (L.getD 0 []).length = m) (hm1 : m ≤ 1000000) (hq : EqL L)
    (k1 : ∀ k, k < n → w.cell? ⟨b1, o1 + k, none⟩ = some (.int .u8 ((l.getD k 0 : Nat) : Int))) (k2 : ∀ k, k < c → ∃ x, w.cell? ⟨b2, o2 + k, none⟩ = some x ∧ Sl w x (L.getD k [])) :
    Calls Try.prog 39 #[mv r c (.slice (some ⟨b1, o1, none⟩) n c1), .slice (some ⟨b2, o2, none⟩) c c2] w fun e w' => (∃ v, e = .returned (.tuple #[v, .int .i64 0]) ∧ Sr w' v (applyL' l r c L)) ∧ Below w.heap.size w w' := by
  have hn : 1 ≤ r ∧ r ≤ 16 ∧ 1 ≤ c ∧ c ≤ 16 := by have := hv.1; unfold Sized at this; omega
  have e1 : n = r * c := by have := hv.2; exact_mod_cast this
  have hva := fun w => valid_any r c (some ⟨b1, o1, none⟩) n c1 w
  rw [decide_eq_true hv] at hva
  have k2b : ∀ w', Below w.heap.size w w' → ∀ k, k < c → ∃ x, w'.cell? ⟨b2, o2 + k, none⟩ = some x ∧ Sl w' x (L.getD k []) := fun w' hb k hk => by
    obtain ⟨x, hx, hs⟩ := k2 k hk
    exact ⟨x, (hb.cell (p := ⟨b2, o2 + k, none⟩) (block_lt_of_cell hx)).trans hx, sl_below hs hb⟩
  have hqe := fun w' (hb : Below w.heap.size w w') => eql_any (.slice (some ⟨b2, o2, none⟩) c c2) L w' ⟨by rw [hLc]; omega, Or.inr ⟨b2, o2, c2, by rw [hLc], by rw [hLc]; exact hc2, hc2m, fun k hk => k2b w' hb k (by omega)⟩⟩ (by omega) (by omega)
  rw [decide_eq_true hq] at hqe
  have hrow := fun (i p : Nat) (w : World) (hi : i < r) (hp : p = i * c) => row_any r c b1 o1 n c1 i p w hv.1 e1 hc1 hcm hi hp
  have hcut : ∀ (i p : Nat) (w' : World), i < r → p = i * c → Below w.heap.size w w' → Calls Try.prog 60 #[.slice (some ⟨b1, o1 + p, none⟩) c (c1 - p), .slice (some ⟨b2, o2, none⟩) c c2] w' fun e w'' => (∃ v, e = .returned v ∧ Own w'' w'.heap.size v (rowAt' l c i L m c)) ∧ Below w'.heap.size w' w'' := fun i p w' hi hp hb => by
    have hpn : p + c ≤ n := by rw [hp, e1, ← Nat.succ_mul]; exact Nat.mul_le_mul_right c hi
    have hr : (l.drop p).take c = (List.range c).map (ent l c i) := by rw [hp]; exact ent_row (by rw [hln, e1]; exact Nat.mul_le_mul_right c hi)
    have hsl := sl_cut (p := p) (c := c) l1 hln hcm hc1 (fun x hx => (hb.cell (p := ⟨b1, o1 + x, none⟩) (block_lt_of_cell (k1 x hx))).trans (k1 x hx)) hpn
    rw [hr] at hsl
    obtain ⟨b, o, cap, hv', _, _, hk⟩ := sl_cells hsl (by simp; omega)
    rw [show ((List.range c).map (ent l c i)).length = c by simp] at hv' hk
    have hv2 : b = b1 ∧ o = o1 + p := by simp at hv'; exact ⟨hv'.1.1.symm, hv'.1.2.symm⟩
    obtain ⟨rfl, rfl⟩ := hv2
    have h := comb_pos b (o1 + p) (c1 - p) b2 o2 c2 c m ((List.range c).map (ent l c i)) L w' (by simp) hLc hn.2.2.1 hn.2.2.2 hm1 (fun i hi => (hq i (by omega)).trans hm) hsl.1 hk (k2b w' hb)
    have hcomb : ∀ k, k ≤ c → combR (fun k => ((List.range c).map (ent l c i)).getD k 0) L m k = combR (ent l c i) L m k := by
      intro k
      induction k with
      | zero => intro _; rfl
      | succ k ih => intro hk; rw [combR, combR, ih (by omega), range_getD _ (by omega)]
    rw [hcomb c (Nat.le_refl c)] at h
    rw [combR_rowAt]
    exact h
  have HV := Lib.hid hva
  have HQ := Lib.hid hqe
  have HRW := Lib.hid hrow
  have HCB := Lib.hid hcut
  have HM := Lib.hid hm
  clear hva hqe hrow hcut k2b k1 k2 hv e1 hln l1 hc1 hcm hc2 hc2m hLc hq hm
  unfold mv at *
  go_enter Try.func39, Try.ntmps39
  go_wp2_with fail
  refine (HV.out _).mono ?_
  rintro e w1 ⟨rfl, hb1⟩
  obtain ⟨r1, hs, hb⟩ := one_later hb1
  obtain ⟨x0, x1, x2⟩ := row_cells r1
  have R1 := Lib.hid r1
  have B1 := Lib.hid hb
  clear hb1 r1 hb HV
  go_wp2_with fail
  refine (HQ.out w1 B1.out).mono ?_
  rintro e w2 ⟨rfl, rfl⟩
  have hr0 := rw_made w1 (base := w.heap.size) (n := r) B1.out.size
  have hb7 := B1.out.alloc B1.out.size (.cells (Array.replicate r (.slice none 0 0)) 22)
  have hl7 := (heap_alloc_old w1 (.cells (Array.replicate r (.slice none 0 0)) 22) (lt_of_some R1.out)).trans R1.out
  have HR0 := Lib.hid hr0
  have HB7 := Lib.hid hb7
  have HL7 := Lib.hid hl7
  clear hr0 hb7 hl7 HQ
  go_wp2_with ((with_reducible refine make_rows (n := r) ?_ (by omega) ?_); exact rfl)
  generalize hgG : w1.heap.size = G at *
  generalize w1.alloc (.cells (Array.replicate r (.slice none 0 0)) 22) = W7 at *
  clear x0 x1 x2 R1 B1
  go_loopw [28] (fun t wr => ∃ (i : Nat) (us : List Value) (K : List (List Nat)), i ≤ r ∧ t = .int .i64 (i : Int) ∧ Rw wr w.heap.size G r us K ∧ (∀ j, j < r → K.getD j [] = if j < i then rowAt' l c j L m c else []) ∧ wr.heap[w.heap.size]? = some (.cells #[.int .i64 r, .int .i64 c, .slice (some ⟨b1, o1, none⟩) n c1] 24 (0, 0)) ∧ Below w.heap.size w wr) (fun t _ => r - (intOf t).toNat)
  case atStart => exact ⟨0, _, _, by omega, rfl, HR0.out, fun j hj => by simp [List.getD, hj], HL7.out, HB7.out⟩
  case round =>
    clear HR0 HB7 HL7
    obtain ⟨i, us, K, hi, rfl, hU, hK, hr1, hW⟩ := hrel
    have HU := Lib.hid hU
    have HK := Lib.hid hK
    have R1 := Lib.hid hr1
    have HW := Lib.hid hW
    clear hU hK hr1 hW
    by_cases hlt : i < r
    · obtain ⟨p, hp⟩ : ∃ p, p = i * c := ⟨_, rfl⟩
      have HR1 := Lib.hid (fun w => HRW.out i p w hlt hp)
      have HC1 := Lib.hid (fun w' hb => HCB.out i p w' hlt hp hb)
      obtain ⟨x0, x1, x2⟩ := row_cells R1.out
      have j1 : (0 : Int) ≤ (i : Int) := by omega
      have j2 : (i : Int) < (r : Int) := by omega
      clear hp
      go_wp2_with fail
      refine (HR1.out _).mono ?_
      rintro e w3 ⟨rfl, hb3⟩
      have HU3 := Lib.hid (HU.out.later hb3)
      have R13 := Lib.hid ((hb3.block _ (lt_of_some R1.out)).trans R1.out)
      have HW3 := Lib.hid (bt HW.out hb3)
      clear hb3 HU R1 HW HR1 x0 x1 x2
      go_wp2_with fail
      refine (HC1.out _ HW3.out).mono ?_
      rintro e w4 ⟨⟨v4, rfl, ho4⟩, hb4⟩
      obtain ⟨av, nv, cv, hv4, -⟩ := own_form ho4
      subst hv4
      have hu4 := HU3.out.later hb4
      obtain ⟨q1, q2⟩ := hu4.cell hlt
      have ho4 := own_base HW3.out.size ho4
      have HU5 := Lib.hid (hu4.set hlt ho4)
      have hlo := hu4.lo
      have HW5 := Lib.hid ((bt HW3.out hb4).setCell (p := ⟨G, i, none⟩) hlo (.slice av nv cv))
      have hG0 : w.heap.size ≠ G := by rw [← hgG]; omega
      have R15 := Lib.hid ((heap_setCell_other w4 ⟨G, i, none⟩ _ (.slice av nv cv) hG0).trans ((hb4.block _ (lt_of_some R13.out)).trans R13.out))
      have hul := HU3.out.llen
      clear hu4 ho4 hb4 HU3 HW3 R13 HC1
      go_wp2_with fail
      go_roundw
      case rel =>
        refine ⟨i + 1, _, _, by omega, by go_num, HU5.out, fun j hj => ?_, R15.out, HW5.out⟩
        by_cases e : j = i
        · subst e
          rw [getD_set_eq (by omega), if_pos (by omega)]
        · rw [getD_set_other e, HK.out j hj]
          by_cases h : j < i
          · rw [if_pos h, if_pos (by omega)]
          · rw [if_neg h, if_neg (by omega)]
      case measure => simp [intOf]; omega
    · obtain rfl : i = r := by omega
      have hul := HU.out.llen
      have hKe : K = applyL' l i c L := by
        apply List.ext_getElem (by rw [hul, applyL']; simp)
        intro j h1 h2
        have hj : j < i := by omega
        have h3 := HK.out j hj
        rw [if_pos hj] at h3
        simp only [List.getD] at h3
        rw [List.getElem?_eq_getElem h1] at h3
        simp only [Option.getD_some] at h3
        rw [h3]
        simp only [applyL', List.getElem_map, List.getElem_range]
        rw [HM.out]
      rw [hKe] at HU
      have HSR := Lib.hid (HU.out.sr (by unfold maxLen; omega))
      clear hKe HK hul
      go_wp2
      go_ret2
      exact ⟨⟨_, rfl, HSR.out⟩, HW.out⟩
theorem applyP_any (r c : Int) (v1 v2 : Value) (l : List Nat) (L : List (List Nat)) (w : World) (s1 : Sl w v1 l) (s2 : Sr w v2 L) (hm : ∀ k, k < L.length → (L.getD k []).length ≤ 1000000) : Calls Try.prog 39 #[mv r c v1, v2] w (applyPostS r c l L w) := by
  by_cases ha : Vd r c l.length
  · by_cases hc : (L.length : Int) = c
    · by_cases hq : EqL L
      · obtain ⟨R, C, rfl, e, p1, _, p3, _, p5⟩ := vd_prod ha
        obtain rfl : L.length = C := by rw [e] at hc; exact_mod_cast hc
        subst e
        obtain ⟨b1, o1, c1, rfl, d1, d2, k1⟩ := sl_cells s1 (by rw [p5]; exact Nat.mul_pos p1 p3)
        obtain ⟨b2, o2, c2, rfl, d3, d4, k2⟩ := sr_cells s2 (by omega)
        refine (apply_pos R L.length _ b1 o1 c1 b2 o2 c2 l.length l L w ha rfl s1.1 d1 d2 d3 d4 rfl rfl (hm 0 (by omega)) hq k1 k2).mono fun e w' h => ?_
        unfold applyPostS
        rw [if_pos ⟨ha, rfl, hq⟩]
        exact h
      · obtain ⟨a1, c1, rfl, -, -⟩ := sl_form s1
        obtain ⟨a2, c2, rfl, -, -⟩ := sr_form s2
        refine (apply_bad3 r c a1 a2 _ _ c1 c2 L w ha hc rfl s2 hq).mono fun e w' h => ?_
        unfold applyPostS
        rw [if_neg fun x => hq x.2.2]
        exact h
    · obtain ⟨a1, c1, rfl, -, -⟩ := sl_form s1
      obtain ⟨a2, c2, rfl, -, -⟩ := sr_form s2
      refine (apply_bad2 r c a1 a2 _ _ c1 c2 w ha hc).mono fun e w' h => ?_
      unfold applyPostS
      rw [if_neg fun x => hc x.2.1]
      exact h
  · obtain ⟨a1, c1, rfl, -, -⟩ := sl_form s1
    obtain ⟨a2, c2, rfl, -, -⟩ := sr_form s2
    refine (apply_bad1 r c a1 a2 _ _ c1 c2 w ha).mono fun e w' h => ?_
    unfold applyPostS
    rw [if_neg fun x => ha x.1]
    exact h
end Go.Proofs.Ytppfdaiehdbafaa.Gf
