/- What is proved here: the contracts of the laws' functions made and equal; matrices in blocks. No condition. -/
import Derived.Test.YtcckhgadgiaofaaL3b
import Derived.Test.YtcckhgadgiaofaaG3f
import Derived.StillTailTactics
namespace Go.Proofs.Ytcckhgadgiaofaa.Gf
open Go Go.ChangeShapes Go.WideShapes Go.ChangeAt Go.RowKit Go.Sort Go.Proofs.Ytcckhgadgiaofaa.By Go.Proofs.Ytcckhgadgiaofaa.Qt

theorem nat_and15 (x : Nat) : x &&& 15 = x % 16 := Nat.and_two_pow_sub_one_eq_mod x 4
theorem i64_and15 (r : Int) : bits .and .i64 r 15 = r % 16 := by
  have e1 : (BitVec.ofInt 64 r).toNat = (r % 18446744073709551616).toNat := by rw [BitVec.toNat_ofInt]; rfl
  have e2 : (BitVec.ofInt 64 (15 : Int)).toNat = 15 := rfl
  have e3 : (BitVec.ofInt 64 r &&& BitVec.ofInt 64 15).toNat = (r % 18446744073709551616).toNat % 16 := by rw [BitVec.toNat_and, e1, e2, nat_and15]
  show IntKind.i64.wrap ((BitVec.ofInt 64 r &&& BitVec.ofInt 64 15).toNat : Int) = _
  rw [e3, IntKind.wrap_i64]
  omega
/-- A matrix in a block of its own. -/
structure MB (w : World) (T : TypeId) (g : Nat) (r c : Int) (a : Option Addr) (n cap : Nat) (l : List Nat) : Prop where
  blk : w.heap[g]? = some (.cells #[.int .i64 r, .int .i64 c, .slice a n cap] T (0, 0))
  sl : Sl w (.slice a n cap) l
section
variable {w w' : World} {T : TypeId} {g : Nat} {r c : Int} {a : Option Addr} {n cap : Nat} {l : List Nat}
theorem MB.later (h : MB w T g r c a n cap l) (hb : Below w.heap.size w w') : MB w' T g r c a n cap l := ⟨(hb.block _ (lt_of_some h.blk)).trans h.blk, sl_below h.sl hb⟩
theorem MB.cells (h : MB w T g r c a n cap l) : w.cell? ⟨g, 0, none⟩ = some (.int .i64 r) ∧ w.cell? ⟨g, 1, none⟩ = some (.int .i64 c) ∧ w.cell? ⟨g, 2, none⟩ = some (.slice a n cap) := row_cells h.blk
theorem MB.mk' (hs : Sl w (.slice a n cap) l) : MB (w.alloc (.cells #[.int .i64 r, .int .i64 c, .slice a n cap] T)) T w.heap.size r c a n cap l :=
  ⟨heap_alloc_new _ _, sl_below hs ((Below.refl _ _).alloc (Nat.le_refl _) _)⟩
theorem MB.lt (h : MB w T g r c a n cap l) : g < w.heap.size := lt_of_some h.blk
end
/-- The size that the law's made takes. -/
def sz5 (r : Int) : Nat := 1 + (r % 16).toNat % 5
theorem sz5_bd (r : Int) : 1 ≤ sz5 r ∧ sz5 r ≤ 5 := by unfold sz5; omega
def mdm (C : Nat) (l : List Nat) (i k : Nat) : Nat := l.getD (i * C + k) 0
theorem mdm_bd {R C : Nat} {l : List Nat} (h : ∀ b ∈ l, b < 256) : Bd R C (mdm C l) := fun _ _ _ _ => getD_lt h _
theorem take_range (m k : Nat) (f : Nat → Nat) (h : k < m) : ((List.range m).map f).take (k + 1) = ((List.range m).map f).take k ++ [f k] := by
  rw [By.take_snoc _ _ (by simpa using h), range_getD' f h]
where range_getD' {m k : Nat} (f : Nat → Nat) (h : k < m) : ((List.range m).map f).getD k 0 = f k := by simp [List.getD, h]
theorem made_flat (R C : Nat) (l : List Nat) : (List.range (R * C)).map (fun x => l.getD x 0) = flat R C (mdm C l) := by
  unfold flat mdm
  refine List.map_congr_left fun x hx => ?_
  rw [Nat.mul_comm (x / C) C, Nat.div_add_mod]
set_option maxRecDepth 100000 in
set_option maxHeartbeats 3200000 in
theorem made_any (r c : Int) (v : Value) (l : List Nat) (w : World) (s : Sl w v l) (_hr : I64 r) (_hc : I64 c) :
    Calls Try.prog 28 #[.int .i64 r, .int .i64 c, v] w fun e w' => (∃ s', e = .returned (mv (sz5 r) (sz5 c) s') ∧ Own w' w.heap.size s' (flat (sz5 r) (sz5 c) (mdm (sz5 c) l))) ∧ Below w.heap.size w w' := by
  have h1 := i64_and15 r
  have h2 := i64_and15 c
  have t1 : (r % 16).tmod 5 = (((r % 16).toNat % 5 : Nat) : Int) := by rw [Int.tmod_eq_emod_of_nonneg (by omega)]; omega
  have t2 : (c % 16).tmod 5 = (((c % 16).toNat % 5 : Nat) : Int) := by rw [Int.tmod_eq_emod_of_nonneg (by omega)]; omega
  have b1 := sz5_bd r
  have b2 := sz5_bd c
  have e1 : (1 : Int) + (((r % 16).toNat % 5 : Nat) : Int) = ((sz5 r : Nat) : Int) := by unfold sz5; omega
  have e2 : (1 : Int) + (((c % 16).toNat % 5 : Nat) : Int) = ((sz5 c : Nat) : Int) := by unfold sz5; omega
  rw [← made_flat]
  generalize hR : sz5 r = R at *
  generalize hC : sz5 c = C at *
  obtain ⟨q, hq⟩ : ∃ q : Nat, q = R * C := ⟨_, rfl⟩
  have hq1 : q ≤ 25 := by rw [hq]; exact Nat.mul_le_mul b1.2 b2.2
  rw [← hq]
  have hqi : (R : Int) * (C : Int) = (q : Int) := by rw [hq]; simp
  have S := Lib.hid s
  have HQ := Lib.hid hq
  have x1 : (r % 16).toNat % 5 < 5 := by omega
  have x2 : (c % 16).toNat % 5 < 5 := by omega
  generalize hrm : r % 16 = rm at *
  generalize hcm : c % 16 = cm at *
  have m1 : 0 ≤ rm ∧ rm < 16 := by omega
  have m2 : 0 ≤ cm ∧ cm < 16 := by omega
  generalize (rm.toNat % 5) = ra at *
  generalize (cm.toNat % 5) = ca at *
  clear _hr _hc s hq hR hC hrm hcm
  obtain ⟨av, capv, rfl, -, -⟩ := sl_form S.out
  have hz : (w.alloc (.cells #[.int .i64 0, .int .i64 0, .slice none 0 0] 27)).heap.size = w.heap.size + 1 := by simp
  have st := P2.start (w := w.alloc (.cells #[.int .i64 0, .int .i64 0, .slice none 0 0] 27)) R C
  rw [hz] at st
  have e0 := heap_alloc2_old w (.cells #[.int .i64 0, .int .i64 0, .slice none 0 0] 27) (.cells #[.int .i64 R, .int .i64 C, .slice none 0 0] 27)
  have hw : Below w.heap.size w ((w.alloc (.cells #[.int .i64 0, .int .i64 0, .slice none 0 0] 27)).alloc (.cells #[.int .i64 R, .int .i64 C, .slice none 0 0] 27)) := ((Below.refl _ _).alloc (Nat.le_refl _) _).alloc (by simp) _
  have hws : ((w.alloc (.cells #[.int .i64 0, .int .i64 0, .slice none 0 0] 27)).alloc (.cells #[.int .i64 R, .int .i64 C, .slice none 0 0] 27)).heap.size = w.heap.size + 2 := by simp
  have ST := Lib.hid st
  have E0 := Lib.hid e0
  have HW := Lib.hid hw
  have HWS := Lib.hid hws
  clear st e0 hw hws hz
  unfold mv
  go_enter Try.func28, Try.ntmps28
  go_wp2
  generalize ((w.alloc (.cells #[.int .i64 0, .int .i64 0, .slice none 0 0] 27)).alloc (.cells #[.int .i64 R, .int .i64 C, .slice none 0 0] 27)) = W at *
  clear h1 h2 t1 t2 e1 e2 x1 x2 m1 m2
  go_loopw [8] (fun t wr => ∃ (k : Nat) (sv : Value), k ≤ q ∧ t = .int .i64 (k : Int) ∧ P2 W wr (w.heap.size + 1) R C (((List.range q).map fun x => l.getD x 0).take k) sv) (fun t _ => q - (intOf t).toNat)
  case atStart => exact ⟨0, .slice none 0 0, by omega, rfl, by rw [List.take_zero]; exact ST.out⟩
  case round =>
    clear ST
    obtain ⟨k, sv, hk, rfl, hb⟩ := hrel
    have HB := Lib.hid hb
    clear hb
    obtain ⟨y0, y1, y2⟩ := row_cells HB.out.row
    by_cases hlt : k < q
    · have htk := take_range q k (fun x => l.getD x 0) hlt
      have hz := getD_lt S.out.1 k
      have hln : (((List.range q).map fun x => l.getD x 0).take k).length ≤ 25 := by rw [List.length_take]; omega
      have hbl := HB.out.below HW.out (by omega)
      have hsz := HB.out.size
      have hlw := HB.out.lt
      by_cases hkl : k < l.length
      · obtain ⟨b, o, cap2, hv2, _, _, hk1⟩ := sl_cells S.out (by omega)
        have ha : av = some ⟨b, o, none⟩ := by simp at hv2; exact hv2.1
        subst ha
        have f2 := (hbl.cell (p := ⟨b, o + k, none⟩) (block_lt_of_cell (hk1 k hkl))).trans (hk1 k hkl)
        have p0 : (0 : Int) ≤ (k : Int) := by omega
        have p1 : (k : Int) < (l.length : Int) := by omega
        generalize ((List.range q).map fun x => l.getD x 0).take k = L at HB htk hln
        generalize l.getD k 0 = z at htk hz f2
        have HT := Lib.hid htk
        clear htk hv2 hk1 hbl
        generalize l.length = m at *
        go_wp2_with (at_builtin; refine app_sl (dst := some 40) ?_ ?_ (HB.out.own.alloc _) (sl_one hz (heap_alloc_new _ _)) (by simp; omega) (by simp; omega) ?_; exact rfl; exact rfl; intro v1 w1 ho1 hg1; obtain ⟨av1, nv, cv, hv1, -⟩ := own_form ho1; subst hv1; have HP1 := Lib.hid (HB.out.push hg1 ho1); obtain ⟨hd1, hd2⟩ := HB.out.app hg1; clear ho1 hg1)
        go_roundw
        case rel => exact ⟨k + 1, _, by omega, by go_num, by rw [HT.out]; exact HP1.out⟩
        case measure => simp [intOf]; omega
      · have hz0 : l.getD k 0 = 0 := by simp [List.getD, hkl]
        generalize ((List.range q).map fun x => l.getD x 0).take k = L at HB htk hln
        have htk' := htk
        simp only [hz0] at htk'
        have HT := Lib.hid htk'
        have hz1 : (0 : Nat) < 256 := by decide
        clear htk htk' hz hz0 hbl
        generalize l.length = m at *
        go_wp2_with (at_builtin; refine app_sl (dst := some 40) ?_ ?_ (HB.out.own.alloc _) (sl_one hz1 (heap_alloc_new _ _)) (by simp; omega) (by simp; omega) ?_; exact rfl; exact rfl; intro v1 w1 ho1 hg1; obtain ⟨av1, nv, cv, hv1, -⟩ := own_form ho1; subst hv1; have HP1 := Lib.hid (HB.out.push hg1 ho1); obtain ⟨hd1, hd2⟩ := HB.out.app hg1; clear ho1 hg1)
        go_roundw
        case rel => exact ⟨k + 1, _, by omega, by go_num, by rw [HT.out]; exact HP1.out⟩
        case measure => simp [intOf]; omega
    · obtain rfl : k = q := by omega
      have hl : ((List.range k).map fun x => l.getD x 0).take k = (List.range k).map fun x => l.getD x 0 := List.take_of_length_le (by simp)
      rw [hl] at HB
      have zz := (HB.out.keep (by have := HWS.out; omega) (show w.heap.size ≠ w.heap.size + 1 by omega)).trans E0.out
      have ZZ := Lib.hid zz
      clear zz
      go_wp2_with (first | ((with_reducible refine loadP (w.heap.size + 1) ?_ HB.out.row ?_); exact rfl) | ((with_reducible refine storeP w.heap.size (.int .i64 R) (.int .i64 C) sv ?_ ?_ ZZ.out ?_ ?_ ?_ ?_); exact rfl; exact rfl; exact rfl; exact rfl; exact own_one HB.out.own))
      have h8 := HB.out.done HW.out (by omega) (Nat.le_refl _) (by have := HWS.out; omega) (.int .i64 R) (.int .i64 C)
      exact bodyPost_ret (results_cell_row Try.results28 _ _ w.heap.size 27 _ (0, 0) _ rfl (setRow_heap _ _ _ _ _ _ ZZ.out) Try.underlying27 rfl size27) rfl ⟨⟨_, rfl, h8.1⟩, h8.2⟩
set_option maxRecDepth 100000 in
set_option maxHeartbeats 1600000 in
theorem equal_any (r c r' c' : Int) (v v' : Value) (l l' : List Nat) (w : World) (s : Sl w v l) (s' : Sl w v' l') : Calls Try.prog 29 #[mv r c v, mv r' c' v'] w fun e w' => e = .returned (.bool (decide (r = r' ∧ c = c' ∧ l = l'))) ∧ Below w.heap.size w w' := by
  have hb : ∀ A B, Below w.heap.size w ((w.alloc A).alloc B) := fun A B => ((Below.refl _ _).alloc (Nat.le_refl _) _).alloc (by simp) _
  have k1 := fun A B => conv_sl (sl_below s (hb A B))
  have k2 := fun A B => conv_sl (sl_below s' (hb A B))
  have hse := str_eq s.1 s'.1
  obtain ⟨a, cap, rfl, -, -⟩ := sl_form s
  obtain ⟨a', cap', rfl, -, -⟩ := sl_form s'
  generalize l.length = n at k1
  generalize l'.length = n' at k2
  generalize strOf l = t at k1 hse
  generalize strOf l' = t' at k2 hse
  clear s s'
  unfold mv
  by_cases h1 : r = r'
  · by_cases h2 : c = c'
    · subst h1
      subst h2
      have hd : decide (r = r ∧ c = c ∧ l = l') = decide (l = l') := by simp
      rw [hd, ← hse]
      clear hse hd
      go_enter Try.func29, Try.ntmps29
      go_wp2
      go_ret
      exact ⟨rfl, hb _ _⟩
    · have hd : decide (r = r' ∧ c = c' ∧ l = l') = false := decide_eq_false fun x => h2 x.2.1
      have hc : (c == c') = false := beq_false_of_ne h2
      rw [hd]
      subst h1
      go_enter Try.func29, Try.ntmps29
      go_wp2
      go_ret
      exact ⟨rfl, hb _ _⟩
  · have hd : decide (r = r' ∧ c = c' ∧ l = l') = false := decide_eq_false fun x => h1 x.1
    have hc : (r == r') = false := beq_false_of_ne h1
    rw [hd]
    go_enter Try.func29, Try.ntmps29
    go_wp2
    go_ret
    exact ⟨rfl, hb _ _⟩
end Go.Proofs.Ytcckhgadgiaofaa.Gf
