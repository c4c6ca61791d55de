/- What is proved here: the contract of the reference's MulAdd. No condition on the program. -/
import Derived.Test.YtppfdaiehdbafaaQ2
import Derived.Test.YtppfdaiehdbafaaBy
import Derived.StillTailTactics
namespace Go.Proofs.Ytppfdaiehdbafaa.Gf
open Go Go.ChangeShapes Go.WideShapes Go.ChangeAt Go.RowKit Go.Proofs.Ytppfdaiehdbafaa.By

/-- The bytes d + c * s. -/
def ma (c : Nat) : List Nat → List Nat → List Nat
  | x :: d, y :: s => (x ^^^ gm c y) :: ma c d s
  | _, _ => []
theorem ma_length (c : Nat) : ∀ {d s : List Nat}, d.length = s.length → (ma c d s).length = d.length
  | [], [], _ => rfl
  | x :: d, y :: s, h => by simp [ma, ma_length c (show d.length = s.length by simpa using h)]
  | [], _ :: _, h => by simp at h
  | _ :: _, [], h => by simp at h
theorem ma_getD (c : Nat) : ∀ {d s : List Nat} (k : Nat), k < d.length → d.length = s.length → (ma c d s).getD k 0 = d.getD k 0 ^^^ gm c (s.getD k 0)
  | x :: d, y :: s, 0, _, _ => by simp [ma]
  | x :: d, y :: s, k + 1, h, hl => by
    have := ma_getD c (d := d) (s := s) k (by simpa using h) (by simpa using hl)
    simpa [ma] using this
  | [], _, _, h, _ => by simp at h
  | _ :: _, [], _, _, h => by simp at h
theorem ma_lt {c : Nat} (hc : c < 256) : ∀ {d s : List Nat}, (∀ b ∈ d, b < 256) → (∀ b ∈ s, b < 256) → ∀ b ∈ ma c d s, b < 256
  | x :: d, y :: s, h1, h2, b, hb => by
    simp only [ma, List.mem_cons] at hb
    rcases hb with rfl | hb
    · exact xor_lt (h1 x (by simp)) (gm_lt hc)
    · exact ma_lt hc (fun z hz => h1 z (by simp [hz])) (fun z hz => h2 z (by simp [hz])) b hb
  | [], _, _, _, _, hb => by simp [ma] at hb
  | _ :: _, [], _, _, _, hb => by simp [ma] at hb
set_option maxRecDepth 100000 in
set_option maxHeartbeats 1600000 in
theorem rma_pos (b1 o1 c1 b2 o2 c2 n c : Nat) (d s : List Nat) (w : World) (hd : d.length = n) (hs : s.length = n) (hn : n ≤ 1000000) (hc : c < 256) (d1 : ∀ b ∈ d, b < 256) (s1 : ∀ b ∈ s, b < 256)
    (k1 : ∀ k, k < n → w.cell? ⟨b1, o1 + k, none⟩ = some (.int .u8 ((d.getD k 0 : Nat) : Int))) (k2 : ∀ k, k < n → w.cell? ⟨b2, o2 + k, none⟩ = some (.int .u8 ((s.getD k 0 : Nat) : Int))) :
    Calls Try.prog 61 #[.slice (some ⟨b1, o1, none⟩) n c1, .slice (some ⟨b2, o2, none⟩) n c2, .int .u8 (c : Int)] w fun e w' => (∃ v, e = .returned (.tuple #[v, .int .i64 0]) ∧ Own w' w.heap.size v (ma c d s)) ∧ Below w.heap.size w w' := by
  have K1 := Lib.hid k1
  have K2 := Lib.hid k2
  have D1 := Lib.hid d1
  have S1 := Lib.hid s1
  have HD := Lib.hid hd
  have HS := Lib.hid hs
  clear k1 k2 d1 s1 hd hs
  go_enter Try.func61, Try.ntmps61
  go_wp2
  go_loopw [8, 9] (fun v i wr => ∃ k : Nat, k ≤ n ∧ i = .int .i64 (k : Int) ∧ Own wr w.heap.size v ((ma c d s).take k) ∧ Below w.heap.size w wr) (fun _ i _ => n - (intOf i).toNat)
  case atStart => exact ⟨0, by omega, rfl, own_nil _ _, Below.refl _ _⟩
  case round =>
    obtain ⟨k, hk, rfl, hO, hB⟩ := hrel
    have HO := Lib.hid hO
    have hBs := hB.size
    clear hO
    by_cases hlt : k < n
    · have e1 := K1.out k hlt
      have e2 := K2.out k hlt
      have f1 := (hB.cell (p := ⟨b1, o1 + k, none⟩) (block_lt_of_cell e1)).trans e1
      have f2 := (hB.cell (p := ⟨b2, o2 + k, none⟩) (block_lt_of_cell e2)).trans e2
      have u1 := getD_lt D1.out k
      have u2 := getD_lt S1.out k
      have hg := ma_getD c k (d := d) (s := s) (by rw [HD.out]; exact hlt) (by rw [HD.out, HS.out])
      have ht := take_snoc (ma c d s) k (by rw [ma_length c (by rw [HD.out, HS.out]), HD.out]; exact hlt)
      have hln : ((ma c d s).take k).length ≤ n := by rw [List.length_take, ma_length c (by rw [HD.out, HS.out]), HD.out]; omega
      rw [hg] at ht
      clear e1 e2 hg
      have hm := fun w => rmul_any c (s.getD k 0) w hc u2
      have y1 := u8_xor_nat _ _ u1 (gm_lt (b := s.getD k 0) hc)
      have z1 : d.getD k 0 ^^^ gm c (s.getD k 0) < 256 := xor_lt u1 (gm_lt hc)
      generalize (ma c d s).take k = L at HO ht hln
      generalize d.getD k 0 ^^^ gm c (s.getD k 0) = z at ht y1 z1
      generalize gm c (s.getD k 0) = g at hm y1
      generalize s.getD k 0 = x2 at f2 hm u2
      generalize d.getD k 0 = x1 at f1 y1 u1
      have HM := Lib.hid hm
      have HT := Lib.hid ht
      clear hm ht
      have p0 : (0 : Int) ≤ (k : Int) := by omega
      have p1 : (k : Int) < (n : Int) := by omega
      go_wp2
      refine wp_region_any (by kernel_rfl) ?_
      refine wpAny_take (i := 0) (v := u8) rfl (by kernel_rfl) (by kernel_rfl) (by kernel_rfl) (fun _ _ _ h => h) (Or.inl ⟨by rfl, fun w => by rfl⟩) ?_
      refine wpAny_take (i := 1) (v := .slice (some ⟨b1, o1, none⟩) n c1) rfl (by kernel_rfl) (by kernel_rfl) (by kernel_rfl) (fun _ _ _ h => h) (Or.inl ⟨by rfl, fun w => by rfl⟩) ?_
      refine wpAny_take (i := 2) (v := .int .i64 (k : Int)) rfl (by kernel_rfl) (by kernel_rfl) (by kernel_rfl) (fun _ _ _ h => h) (Or.inl ⟨by rfl, fun w => by rfl⟩) ?_
      refine wpAny_take (i := 3) (v := .pointer (some ⟨b1, o1 + k, none⟩)) rfl (by kernel_rfl) (by kernel_rfl) (by kernel_rfl) (fun _ _ _ h => h) (Or.inl ⟨by rfl, fun w => by go_simp⟩) ?_
      refine wpAny_take (i := 5) (v := .int .u8 (c : Int)) rfl (by kernel_rfl) (by kernel_rfl) (by kernel_rfl) (fun _ _ _ h => h) (Or.inl ⟨by rfl, fun w => by rfl⟩) ?_
      refine wpAny_take (i := 6) (v := .slice (some ⟨b2, o2, none⟩) n c2) rfl (by kernel_rfl) (by kernel_rfl) (by kernel_rfl) (fun _ _ _ h => h) (Or.inl ⟨by rfl, fun w => by rfl⟩) ?_
      refine wpAny_take (i := 7) (v := .int .i64 (k : Int)) rfl (by kernel_rfl) (by kernel_rfl) (by kernel_rfl) (fun _ _ _ h => h) (Or.inl ⟨by rfl, fun w => by rfl⟩) ?_
      refine wpAny_take (i := 8) (v := .pointer (some ⟨b2, o2 + k, none⟩)) rfl (by kernel_rfl) (by kernel_rfl) (by kernel_rfl) (fun _ _ _ h => h) (Or.inl ⟨by rfl, fun w => by go_simp⟩) ?_
      refine wpAny_ready (rs := [4, 9]) (by kernel_rfl) (by simp) ?_
      refine AllReady.cons rfl (fun K hK => ?_) (AllReady.cons rfl (fun K hK => ?_) AllReady.nil)
      · go_simp
        refine hK _ _ ?_
        clear hK K
        refine any_tail 9 (by kernel_rfl) ?_
        simp only [List.drop_succ_cons, List.drop_zero]
        change wpList _ _ _ _ _ wr.drew
        go_wp2_with (first | (go_at_call 52; refine (HM.out _).mono ?_; rintro e w' ⟨rfl, rfl⟩) | (at_builtin; refine app_sl (dst := some 34) ?_ ?_ (HO.out.alloc _).drew (sl_drew (sl_one z1 (heap_alloc_new _ _))) (by simp; omega) (by simp; omega) ?_; exact rfl; exact rfl; intro v1 w1 ho1 hg1; have HO1 := Lib.hid ho1; have hB1 := below_grown (hB.alloc hBs _).drew hg1 (HO.out.alloc _).drew (by simp; omega) (Nat.le_refl _); clear ho1 hg1))
        go_roundw
        case rel => exact ⟨k + 1, by omega, by go_num, by rw [HT.out]; exact HO1.out, hB1⟩
        case measure => simp [intOf]; omega
      · go_simp
        refine hK _ _ ?_
        clear hK K
        refine wpAny_ready (rs := [4, 10]) (by kernel_rfl) (by simp) ?_
        refine AllReady.cons rfl (fun K hK => ?_) (AllReady.cons rfl (fun K hK => ?_) AllReady.nil)
        · go_simp
          refine hK _ _ ?_
          clear hK K
          refine any_tail 10 (by kernel_rfl) ?_
          simp only [List.drop_succ_cons, List.drop_zero]
          change wpList _ _ _ _ _ wr.drew
          go_wp2_with (first | (go_at_call 52; refine (HM.out _).mono ?_; rintro e w' ⟨rfl, rfl⟩) | (at_builtin; refine app_sl (dst := some 34) ?_ ?_ (HO.out.alloc _).drew (sl_drew (sl_one z1 (heap_alloc_new _ _))) (by simp; omega) (by simp; omega) ?_; exact rfl; exact rfl; intro v1 w1 ho1 hg1; have HO1 := Lib.hid ho1; have hB1 := below_grown (hB.alloc hBs _).drew hg1 (HO.out.alloc _).drew (by simp; omega) (Nat.le_refl _); clear ho1 hg1))
          go_roundw
          case rel => exact ⟨k + 1, by omega, by go_num, by rw [HT.out]; exact HO1.out, hB1⟩
          case measure => simp [intOf]; omega
        · go_simp
          go_at_call 52
          refine (HM.out _).mono ?_
          rintro e w' ⟨rfl, rfl⟩
          refine hK _ _ ?_
          clear hK K
          refine wpAny_ready (rs := [4]) (by kernel_rfl) (by simp) ?_
          refine AllReady.cons rfl (fun K hK => ?_) AllReady.nil
          go_simp
          refine hK _ _ ?_
          clear hK K
          refine any_tail 11 (by kernel_rfl) ?_
          simp only [List.drop_succ_cons, List.drop_zero]
          change wpList _ _ _ _ _ wr.drew
          go_wp2_with (first | (go_at_call 52; refine (HM.out _).mono ?_; rintro e w' ⟨rfl, rfl⟩) | (at_builtin; refine app_sl (dst := some 34) ?_ ?_ (HO.out.alloc _).drew (sl_drew (sl_one z1 (heap_alloc_new _ _))) (by simp; omega) (by simp; omega) ?_; exact rfl; exact rfl; intro v1 w1 ho1 hg1; have HO1 := Lib.hid ho1; have hB1 := below_grown (hB.alloc hBs _).drew hg1 (HO.out.alloc _).drew (by simp; omega) (Nat.le_refl _); clear ho1 hg1))
          go_roundw
          case rel => exact ⟨k + 1, by omega, by go_num, by rw [HT.out]; exact HO1.out, hB1⟩
          case measure => simp [intOf]; omega
    · have hkn : k = n := by omega
      have hl : ((ma c d s).take k) = ma c d s := List.take_of_length_le (by rw [ma_length c (by rw [HD.out, HS.out]), HD.out]; omega)
      rw [hl] at HO
      clear hl
      go_wp2
      go_ret2
      exact ⟨⟨_, rfl, HO.out⟩, hB⟩
/-- Slices without bytes. -/
theorem rma_zero (a1 a2 : Option Addr) (c1 c2 : Nat) (c : Int) (w : World) :
    Calls Try.prog 61 #[.slice a1 0 c1, .slice a2 0 c2, .int .u8 c] w fun e w' => e = .returned (.tuple #[.slice none 0 0, .int .i64 0]) ∧ w = w' := by
  go_enter Try.func61, Try.ntmps61
  go_wp2
  go_loop [8, 9] (fun v i => v = .slice none 0 0 ∧ i = .int .i64 0) (fun _ i => (intOf i).toNat)
  case atStart => exact ⟨rfl, rfl⟩
  case round =>
    obtain ⟨rfl, rfl⟩ := hrel
    go_wp2
    go_ret2
    exact ⟨rfl, rfl⟩
theorem rma_diff (a1 a2 : Option Addr) (n1 n2 c1 c2 : Nat) (c : Int) (w : World) (hn : n1 ≠ n2) :
    Calls Try.prog 61 #[.slice a1 n1 c1, .slice a2 n2 c2, .int .u8 c] w fun e w' => e = .returned (.tuple #[.slice none 0 0, .int .i64 1]) ∧ w = w' := by
  have hb : ((n1 : Int) != (n2 : Int)) = true := by
    rw [bne_iff_ne]
    omega
  clear hn
  go_enter Try.func61, Try.ntmps61
  go_wp2
  go_ret2
  exact ⟨rfl, rfl⟩
/-- What MulAdd answers. -/
def MaPost (c : Nat) (d s : List Nat) (w : World) (e : Ending) (w' : World) : Prop :=
  (d.length = s.length → ∃ v, e = .returned (.tuple #[v, .int .i64 0]) ∧ Own w' w.heap.size v (ma c d s)) ∧ (d.length ≠ s.length → e = .returned (.tuple #[.slice none 0 0, .int .i64 1])) ∧ Below w.heap.size w w'
theorem rma_any (v1 v2 : Value) (d s : List Nat) (c : Nat) (w : World) (hd : Sl w v1 d) (hs : Sl w v2 s) (h1 : d.length ≤ 1000000) (hc : c < 256) :
    Calls Try.prog 61 #[v1, v2, .int .u8 (c : Int)] w (MaPost c d s w) := by
  by_cases hn : d.length = s.length
  · by_cases h0 : d.length = 0
    · obtain ⟨a1, c1, rfl, _, _⟩ := sl_form hd
      obtain ⟨a2, c2, rfl, _, _⟩ := sl_form hs
      rw [← hn, h0]
      refine (rma_zero a1 a2 c1 c2 c w).mono fun e w' ⟨he, hw⟩ => ?_
      subst hw
      obtain rfl := List.eq_nil_of_length_eq_zero h0
      exact ⟨fun _ => ⟨_, he, own_nil _ _⟩, fun h => absurd hn h, Below.refl _ _⟩
    · obtain ⟨b1, o1, c1, rfl, _, _, k1⟩ := sl_cells hd (by omega)
      obtain ⟨b2, o2, c2, rfl, _, _, k2⟩ := sl_cells hs (by omega)
      rw [← hn]
      refine (rma_pos b1 o1 c1 b2 o2 c2 d.length c d s w rfl hn.symm h1 hc hd.1 hs.1 k1 (fun k hk => k2 k (by omega))).mono fun e w' ⟨he, hw⟩ => ?_
      exact ⟨fun _ => he, fun h => absurd hn h, hw⟩
  · obtain ⟨a1, c1, rfl, _, _⟩ := sl_form hd
    obtain ⟨a2, c2, rfl, _, _⟩ := sl_form hs
    refine (rma_diff a1 a2 _ _ c1 c2 c w hn).mono fun e w' ⟨he, hw⟩ => ?_
    subst hw
    exact ⟨fun h => absurd h hn, fun _ => he, Below.refl _ _⟩
end Go.Proofs.Ytppfdaiehdbafaa.Gf
