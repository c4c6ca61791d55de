/- What is proved here: the contract of the program's tables: the powers of 2 and the logarithms, as two arrays. No condition. -/
import Derived.Test.YtppfdaiehdbafaaTb
namespace Go.Proofs.Ytppfdaiehdbafaa.Gf
open Go Go.ChangeShapes Go.WideShapes Go.ChangeAt Go.RowKit Go.Proofs.Ytppfdaiehdbafaa.By

theorem tab_step {k X : Nat} {p l : Nat → Nat} (hk : k < 255) (hX : X = ex k) (hp : ∀ j, j < k → p j = ex j) (hl : ∀ j, j < 256 → l j = if j ≠ 0 ∧ lg j < k then lg j else 0) :
    (∀ j, j < k + 1 → (if j = k then X else p j) = ex j) ∧ ∀ j, j < 256 → (if j = X then k else l j) = if j ≠ 0 ∧ lg j < k + 1 then lg j else 0 := by
  refine ⟨fun j hj => ?_, fun j hj => ?_⟩
  · split
    · rename_i e; rw [hX, e]
    · exact hp j (by omega)
  · have hn : X ≠ 0 := by rw [hX]; exact ex_ne k
    have hx : lg X = k := by rw [hX]; exact lg_ex hk
    by_cases e : j = X
    · rw [if_pos e, e, if_pos ⟨hn, by omega⟩, hx]
    · rw [if_neg e, hl j hj]
      by_cases e0 : j = 0
      · rw [if_neg (by simp [e0]), if_neg (by simp [e0])]
      · have : lg j ≠ k := fun h => e (by rw [hX, ← h]; exact (ex_lg hj e0).symm)
        by_cases h : lg j < k
        · rw [if_pos ⟨e0, h⟩, if_pos ⟨e0, by omega⟩]
        · rw [if_neg (fun x => h x.2), if_neg (fun x => by have := x.2; omega)]
theorem zero42 (w : World) : Sem.run Try.prog (zeroValue 96) w = .ok (.agg (AV .u8 255 fun _ => 0)) w := by kernel_rfl
theorem zero43 (w : World) : Sem.run Try.prog (zeroValue 97) w = .ok (.agg (AV .u8 256 fun _ => 0)) w := by kernel_rfl
section
variable {w wr : World} {k X : Nat} {p l : Nat → Nat}
theorem rel0 (h : wr.heap[w.heap.size]? = some (.cells (AV .u8 255 p) 96 (0, 0))) : ((wr.setCell ⟨w.heap.size, k, none⟩ (.int .u8 (X : Int))).setCell ⟨w.heap.size + 1, X, none⟩ (.int .u8 (k : Int))).heap[w.heap.size]? = some (.cells (AV .u8 255 fun i => if i = k then X else p i) 96 (0, 0)) := by
  rw [heap_setCell_other _ _ _ _ (by simp), ← AV_set]
  exact heap_setCell_same wr w.heap.size k _ 96 _ h
theorem rel1 (h : (wr.setCell ⟨w.heap.size, k, none⟩ (.int .u8 (X : Int))).heap[w.heap.size + 1]? = some (.cells (AV .u8 256 l) 97 (0, 0))) : ((wr.setCell ⟨w.heap.size, k, none⟩ (.int .u8 (X : Int))).setCell ⟨w.heap.size + 1, X, none⟩ (.int .u8 (k : Int))).heap[w.heap.size + 1]? = some (.cells (AV .u8 256 fun i => if i = X then k else l i) 97 (0, 0)) := by
  rw [← AV_set]
  exact heap_setCell_same _ (w.heap.size + 1) X _ 97 _ h
end
theorem PA_of {p : Nat → Nat} (h : ∀ j, j < 255 → p j = ex j) : AV .u8 255 p = PA := AV_ext h
theorem LA_of {l : Nat → Nat} (h : ∀ j, j < 256 → l j = if j ≠ 0 ∧ lg j < 255 then lg j else 0) : AV .u8 256 l = LA := AV_ext fun j hj => by
  rw [h j hj]
  unfold lgz
  by_cases e : j = 0
  · simp [e]
  · rw [if_pos ⟨e, lg_lt hj e⟩, if_neg e]
theorem tab_res {w wr : World} {c d : Array Value} (h0 : wr.heap[w.heap.size]? = some (.cells c 96 (0, 0))) (h1 : wr.heap[w.heap.size + 1]? = some (.cells d 97 (0, 0))) (tmps : Array Value)
    (hp : tmps.getD 0 undef = .pointer (some ⟨w.heap.size, 0, none⟩)) (hq : tmps.getD 1 undef = .pointer (some ⟨w.heap.size + 1, 0, none⟩)) :
    (results Try.f69 tmps).run Try.prog ((wr.drew.setRow w.heap.size PA).setRow (w.heap.size + 1) LA) = .ok (.tuple #[.agg PA, .agg LA]) ((wr.drew.setRow w.heap.size PA).setRow (w.heap.size + 1) LA) := by
  have g0 : (wr.drew.setRow w.heap.size PA).heap[w.heap.size]? = some (.cells PA 96 (0, 0)) := setRow_heap _ _ _ _ _ _ h0
  have g1 : (wr.drew.setRow w.heap.size PA).heap[w.heap.size + 1]? = some (.cells d 97 (0, 0)) := (setRow_other _ _ _ _ (by omega)).trans h1
  exact results_rows2 Try.results69 tmps _ w.heap.size (w.heap.size + 1) PA LA hp hq ((setRow_other _ _ _ _ (by omega)).trans g0) (setRow_heap _ _ _ _ _ _ g1) Try.underlying96 rfl (size42.trans (congrArg some (AV_size _ _ _).symm)) Try.underlying97 rfl (size43.trans (congrArg some (AV_size _ _ _).symm))
theorem tab_bel {w wr : World} (hB : Below w.heap.size w wr) : Below w.heap.size w ((wr.drew.setRow w.heap.size PA).setRow (w.heap.size + 1) LA) :=
  below_setRow (below_setRow hB.drew (Nat.le_refl _) _) (by omega) _

set_option maxRecDepth 100000 in
set_option maxHeartbeats 800000 in
theorem tables_any (w : World) :
    Calls Try.prog 69 #[] w fun e w' => e = .returned (.tuple #[.agg PA, .agg LA]) ∧ Below w.heap.size w w' := by
  have z42 := zero42
  have z43 := zero43
  go_enter Try.func69, Try.ntmps69
  go_wp2
  clear z42 z43
  go_loopw [2, 4] (fun x i wr => ∃ (k X : Nat) (p l : Nat → Nat), k ≤ 255 ∧ X = ex k ∧ X < 256 ∧ i = .int .i64 k ∧ x = .int .u8 X ∧ (∀ j, j < k → p j = ex j) ∧ (∀ j, j < 256 → l j = if j ≠ 0 ∧ lg j < k then lg j else 0) ∧ wr.heap[w.heap.size]? = some (.cells (AV .u8 255 p) 96 (0, 0)) ∧ wr.heap[w.heap.size + 1]? = some (.cells (AV .u8 256 l) 97 (0, 0)) ∧ Below w.heap.size w wr) (fun _ i _ => 255 - (intOf i).toNat)
  case atStart =>
    exact ⟨0, 1, fun _ => 0, fun _ => 0, by omega, rfl, by omega, rfl, rfl, fun j hj => by omega, fun j hj => by simp, heap_alloc2_old _ _ _, heap_alloc2_new _ _ _, ((Below.refl _ _).alloc (Nat.le_refl _) _).alloc (by simp) _⟩
  case round =>
    obtain ⟨k, X, p, l, hk, hX, hX8, rfl, rfl, hp, hl, h0, h1, hB⟩ := hrel
    have HX := Lib.hid hX
    have HP := Lib.hid hp
    have HL := Lib.hid hl
    have H0 := Lib.hid h0
    have H1 := Lib.hid h1
    have hBs := hB.size
    clear hX hp hl h0 h1
    by_cases hlt : k < 255
    · have hc2 : wr.cell? ⟨w.heap.size, k, none⟩ = some (.int .u8 (p k : Nat)) := (cell_of_row wr w.heap.size k _ 96 (0, 0) H0.out).trans (AV_get .u8 255 p k hlt)
      have hf2 : wr.frozen? ⟨w.heap.size, k, none⟩ = false := frozen_of_row wr w.heap.size k _ 96 H0.out
      have g3 : (wr.setCell ⟨w.heap.size, k, none⟩ (.int .u8 (X : Int))).heap[w.heap.size + 1]? = some (.cells (AV .u8 256 l) 97 (0, 0)) := (heap_setCell_other _ _ _ _ (by simp)).trans H1.out
      have hc3 : (wr.setCell ⟨w.heap.size, k, none⟩ (.int .u8 (X : Int))).cell? ⟨w.heap.size + 1, X, none⟩ = some (.int .u8 (l X : Nat)) := (cell_of_row _ (w.heap.size + 1) X _ 97 (0, 0) g3).trans (AV_get .u8 256 l X hX8)
      have hf3 : (wr.setCell ⟨w.heap.size, k, none⟩ (.int .u8 (X : Int))).frozen? ⟨w.heap.size + 1, X, none⟩ = false := frozen_of_row _ (w.heap.size + 1) X _ 97 g3
      have G3 := Lib.hid g3
      clear g3
      have ht := fun w => twice_any X w hX8
      have hn : ex (k + 1) = xt X := by rw [HX.out]; rfl
      have hxl := xt_lt hX8
      have hw := u8_wrap k (by omega)
      generalize xt X = Y at ht hn hxl
      have HT := Lib.hid ht
      have HN := Lib.hid hn
      clear ht hn
      go_wp2_with (go_at_call 68; refine (HT.out _).mono ?_; rintro e w' ⟨rfl, rfl⟩)
      go_roundw
      case rel =>
        obtain ⟨t1, t2⟩ := tab_step hlt HX.out HP.out HL.out
        exact ⟨k + 1, Y, _, _, by omega, HN.out.symm, hxl, by go_num, rfl, t1, t2, rel0 H0.out, rel1 G3.out, (hB.setCell (by simp) _).setCell (by simp) _⟩
      case measure => simp [intOf]; omega
    · obtain rfl : k = 255 := by omega
      have e2 := PA_of HP.out
      have e3 := LA_of HL.out
      have h0 := H0.out
      have h1 := H1.out
      rw [e2] at h0
      rw [e3] at h1
      have F0 := Lib.hid h0
      have F1 := Lib.hid h1
      clear h0 h1 e2 e3
      go_wp2
      refine wp_region_any (by kernel_rfl) ?_
      refine wpAny_ready (rs := [0, 1]) (by kernel_rfl) (by simp) ?_
      refine AllReady.cons rfl (fun K hK => ?_) (AllReady.cons rfl (fun K hK => ?_) AllReady.nil)
      · refine stepLoadA w.heap.size .u8 255 ex Try.underlying96 size42 rfl F0.out ?_
        refine hK _ _ ?_
        clear hK K
        refine wpAny_ready (rs := [1, 2]) (by kernel_rfl) (by simp) ?_
        refine AllReady.cons rfl (fun K hK => ?_) (AllReady.cons rfl (fun K hK => ?_) AllReady.nil)
        · refine stepLoadA (w.heap.size + 1) .u8 256 lgz Try.underlying97 size43 rfl F1.out ?_
          refine hK _ _ ?_
          clear hK K
          refine any_tail 2 (by kernel_rfl) ?_
          simp only [List.drop_succ_cons, List.drop_zero]
          refine storeA w.heap.size _ .u8 255 ex size42 rfl rfl F0.out (AV_size _ _ _) ?_
          refine storeA (w.heap.size + 1) _ .u8 256 lgz size43 rfl rfl (w := wr.drew.setRow w.heap.size PA) ((setRow_other _ _ _ _ (by omega)).trans F1.out) (AV_size _ _ _) ?_
          go_wp2
          exact bodyPost_ret (tab_res F0.out F1.out _ rfl rfl) rfl ⟨rfl, tab_bel hB⟩
        · refine stepStoreA w.heap.size _ .u8 255 ex size42 rfl rfl F0.out (AV_size _ _ _) ?_
          refine hK _ _ ?_
          clear hK K
          refine wpAny_ready (rs := [1]) (by kernel_rfl) (by simp) ?_
          refine AllReady.cons rfl (fun K hK => ?_) AllReady.nil
          refine stepLoadA (w.heap.size + 1) .u8 256 lgz Try.underlying97 size43 rfl (w := wr.drew.setRow w.heap.size PA) ((setRow_other _ _ _ _ (by omega)).trans F1.out) ?_
          refine hK _ _ ?_
          clear hK K
          refine any_tail 3 (by kernel_rfl) ?_
          simp only [List.drop_succ_cons, List.drop_zero]
          refine storeA (w.heap.size + 1) _ .u8 256 lgz size43 rfl rfl (w := wr.drew.setRow w.heap.size PA) ((setRow_other _ _ _ _ (by omega)).trans F1.out) (AV_size _ _ _) ?_
          go_wp2
          exact bodyPost_ret (tab_res F0.out F1.out _ rfl rfl) rfl ⟨rfl, tab_bel hB⟩
      · refine stepLoadA (w.heap.size + 1) .u8 256 lgz Try.underlying97 size43 rfl F1.out ?_
        refine hK _ _ ?_
        clear hK K
        refine wpAny_ready (rs := [0]) (by kernel_rfl) (by simp) ?_
        refine AllReady.cons rfl (fun K hK => ?_) AllReady.nil
        refine stepLoadA w.heap.size .u8 255 ex Try.underlying96 size42 rfl F0.out ?_
        refine hK _ _ ?_
        clear hK K
        refine any_tail 2 (by kernel_rfl) ?_
        simp only [List.drop_succ_cons, List.drop_zero]
        refine storeA w.heap.size _ .u8 255 ex size42 rfl rfl F0.out (AV_size _ _ _) ?_
        refine storeA (w.heap.size + 1) _ .u8 256 lgz size43 rfl rfl (w := wr.drew.setRow w.heap.size PA) ((setRow_other _ _ _ _ (by omega)).trans F1.out) (AV_size _ _ _) ?_
        go_wp2
        exact bodyPost_ret (tab_res F0.out F1.out _ rfl rfl) rfl ⟨rfl, tab_bel hB⟩
end Go.Proofs.Ytppfdaiehdbafaa.Gf
