/- What is proved here: the contracts of the writer's other methods, and of the program's checksum. Condition: the table of crc32c as laid. -/
import Derived.Test.YtljdbaibhpgfnaaDoorAz
import Derived.BigQuiet
import Derived.StillTailTactics
namespace Go.Proofs.YtljdbaibhpgfnaaDoor.Gf
open Go Go.ChangeShapes Go.WideShapes Go.ChangeAt Go.RowKit Go.Proofs.YtljdbaibhpgfnaaDoor.By Go.Proofs.YtljdbaibhpgfnaaDoor.Crc Go.Proofs.YtljdbaibhpgfnaaDoor.Qt

set_option maxRecDepth 100000 in
theorem wcookie_any {w W : World} {g q : Nat} {F : Array Value} {x : Ndl} {s r : Value} {L : List Nat} (h : Wb w g q F x s L W r) (hl : L.length ≤ 90000) (hx : x.cookie < 4294967296) : Calls Tryd.prog 23 #[.pointer (some ⟨g, 0, none⟩)] W (WC w g q F x s (L ++ beL 4 x.cookie)) := by
  obtain ⟨-, c1, -, -, -, -⟩ := h.cells
  have HC := Lib.hid (wnumber_any x.cookie 4 h hl (by omega))
  have b1 : (x.cookie : Int) < 4294967296 := by omega
  clear h hl hx
  go_enter Tryd.func23, Tryd.ntmps23
  go_wp2_with (go_at_call 36; refine HC.out.mono ?_; rintro e w2 ⟨rfl, r2, h2⟩)
  go_end0
  exact ⟨rfl, _, by assumption⟩
set_option maxRecDepth 100000 in
theorem wkey_any {w W : World} {g q : Nat} {F : Array Value} {x : Ndl} {s r : Value} {L : List Nat} (h : Wb w g q F x s L W r) (hl : L.length ≤ 90000) : Calls Tryd.prog 24 #[.pointer (some ⟨g, 0, none⟩)] W (WC w g q F x s (L ++ beL 8 x.key)) := by
  obtain ⟨c0, -, -, -, -, -⟩ := h.cells
  have HC := Lib.hid (wnumber_any x.key 8 h hl (by omega))
  clear h hl
  go_enter Tryd.func24, Tryd.ntmps24
  go_wp2_with (go_at_call 36; refine HC.out.mono ?_; rintro e w2 ⟨rfl, r2, h2⟩)
  go_end0
  exact ⟨rfl, _, by assumption⟩
set_option maxRecDepth 100000 in
theorem wlength_any {w W : World} {g q : Nat} {F : Array Value} {x : Ndl} {r : Value} {L : List Nat} {a : Option Addr} {n c : Nat} (h : Wb w g q F x (.slice a n c) L W r) (hl : L.length ≤ 90000) (hn : n ≤ 4096) : Calls Tryd.prog 25 #[.pointer (some ⟨g, 0, none⟩)] W (WC w g q F x (.slice a n c) (L ++ beL 4 n)) := by
  obtain ⟨-, -, -, c3, -, -⟩ := h.cells
  have HC := Lib.hid (wnumber_any n 4 h hl (by omega))
  have b1 : (n : Int) ≤ 4096 := by omega
  clear h hl hn
  go_enter Tryd.func25, Tryd.ntmps25
  go_wp2_with (go_at_call 36; refine HC.out.mono ?_; rintro e w2 ⟨rfl, r2, h2⟩)
  go_end0
  exact ⟨rfl, _, by assumption⟩
set_option maxRecDepth 100000 in
theorem wdata_any {w W : World} {g q : Nat} {F : Array Value} {x : Ndl} {s r : Value} {L : List Nat} (h : Wb w g q F x s L W r) (hs : Sl w s x.data) (hl : L.length ≤ 90000) (hx : x.data.length ≤ 4096) : Calls Tryd.prog 26 #[.pointer (some ⟨g, 0, none⟩)] W (WC w g q F x s (L ++ x.data)) := by
  obtain ⟨ra, rn, rc, rfl, -⟩ := own_form h.own
  obtain ⟨sa, sc, rfl, -, -⟩ := sl_form hs
  obtain ⟨n, hn⟩ : ∃ n, n = x.data.length := ⟨_, rfl⟩
  rw [← hn] at h hs
  have HL : Hid (L.length + x.data.length ≤ 100000000) := by show _ ≤ _; omega
  have hd := h.later (W' := W.drew) ⟨rfl, rfl, rfl, Nat.le_refl _, fun _ _ => rfl⟩
  have H := Lib.hid hd
  have HS := Lib.hid (sl_below hs hd.below)
  rw [← hn]
  clear h hl hx hn hs hd
  go_enter Tryd.func26, Tryd.ntmps26
  go_wp2_with fail
  refine wp_region_any (by kernel_rfl) ?_
  change wpAny _ _ _ _ _ _ _ W.drew
  generalize W.drew = W1 at *
  obtain ⟨-, -, -, c3, c4, -⟩ := H.out.cells
  refine wpAny_take (i := 0) (v := Value.pointer (some ⟨g, 0, none⟩)) rfl (by kernel_rfl) (by kernel_rfl) (by kernel_rfl) (fun _ _ _ h => h) (Or.inl ⟨by rfl, fun w => by go_simp⟩) ?_
  refine wpAny_take (i := 1) (v := Value.pointer (some ⟨g, 0, none⟩)) rfl (by kernel_rfl) (by kernel_rfl) (by kernel_rfl) (fun _ _ _ h => h) (Or.inl ⟨by rfl, fun w => by go_simp⟩) ?_
  refine wpAny_take (i := 2) (v := Value.pointer (some ⟨g, 0, none⟩)) rfl (by kernel_rfl) (by kernel_rfl) (by kernel_rfl) (fun _ _ _ h => h) (Or.inl ⟨by rfl, fun w => by go_simp⟩) ?_
  refine wpAny_take (i := 3) (v := Value.pointer (some ⟨g, 4, none⟩)) rfl (by kernel_rfl) (by kernel_rfl) (by kernel_rfl) (fun _ _ _ h => h) (Or.inl ⟨by rfl, fun w => by go_simp⟩) ?_
  refine wpAny_take (i := 5) (v := Value.pointer (some ⟨g, 0, none⟩)) rfl (by kernel_rfl) (by kernel_rfl) (by kernel_rfl) (fun _ _ _ h => h) (Or.inl ⟨by rfl, fun w => by go_simp⟩) ?_
  refine wpAny_take (i := 6) (v := Value.pointer (some ⟨g, 0, none⟩)) rfl (by kernel_rfl) (by kernel_rfl) (by kernel_rfl) (fun _ _ _ h => h) (Or.inl ⟨by rfl, fun w => by go_simp⟩) ?_
  refine wpAny_take (i := 7) (v := Value.pointer (some ⟨g, 0, none⟩)) rfl (by kernel_rfl) (by kernel_rfl) (by kernel_rfl) (fun _ _ _ h => h) (Or.inl ⟨by rfl, fun w => by go_simp⟩) ?_
  refine wpAny_take (i := 8) (v := Value.pointer (some ⟨g, 3, none⟩)) rfl (by kernel_rfl) (by kernel_rfl) (by kernel_rfl) (fun _ _ _ h => h) (Or.inl ⟨by rfl, fun w => by go_simp⟩) ?_
  refine wpAny_ready (rs := [4, 9]) (by kernel_rfl) (by simp) ?_
  refine AllReady.cons rfl (fun K hK => ?_) (AllReady.cons rfl (fun K hK => ?_) AllReady.nil)
  · go_simp
    refine hK _ _ ?_
    clear hK K
    refine wpAny_ready (rs := [9]) (by kernel_rfl) (by simp) ?_
    refine AllReady.cons rfl (fun K hK => ?_) AllReady.nil
    go_simp
    refine hK _ _ ?_
    clear hK K
    refine any_tail 10 (by kernel_rfl) ?_
    simp only [List.drop_succ_cons, List.drop_zero]
    go_wp2_with (at_builtin; refine app_sl (dst := some 12) ?_ ?_ H.out.own HS.out HL.out H.out.size ?_; exact rfl; exact rfl; intro v5 w5 ho5 hg5; obtain ⟨sa5, sn5, sc5, rfl, -⟩ := own_form ho5; have c5 := cell_of_row w5 g 4 _ _ _ (H.out.grown hg5); have f5 := frozen_of_row w5 g 4 _ _ (H.out.grown hg5); have HO5 := Lib.hid ho5; have HG5 := Lib.hid hg5; clear ho5 hg5)
    go_end0
    exact wc_end H.out HG5.out HO5.out
  · go_simp
    refine hK _ _ ?_
    clear hK K
    refine wpAny_ready (rs := [4]) (by kernel_rfl) (by simp) ?_
    refine AllReady.cons rfl (fun K hK => ?_) AllReady.nil
    go_simp
    refine hK _ _ ?_
    clear hK K
    refine any_tail 10 (by kernel_rfl) ?_
    simp only [List.drop_succ_cons, List.drop_zero]
    go_wp2_with (at_builtin; refine app_sl (dst := some 12) ?_ ?_ H.out.own HS.out HL.out H.out.size ?_; exact rfl; exact rfl; intro v5 w5 ho5 hg5; obtain ⟨sa5, sn5, sc5, rfl, -⟩ := own_form ho5; have c5 := cell_of_row w5 g 4 _ _ _ (H.out.grown hg5); have f5 := frozen_of_row w5 g 4 _ _ (H.out.grown hg5); have HO5 := Lib.hid ho5; have HG5 := Lib.hid hg5; clear ho5 hg5)
    go_end0
    exact wc_end H.out HG5.out HO5.out
theorem tab_below {w w' : World} (h : Tab w) (hb : Below w.heap.size w w') : Tab w' := fun i hi => (hb.cell (block_lt_of_cell (h i hi))).trans (h i hi)
theorem info4 : (Tryd.prog.info? 53).map (·.size) = some 4 := by kernel_rfl
set_option maxRecDepth 100000 in
theorem pchecksum_any (v : Value) (l : List Nat) (w : World) (s : Sl w v l) (ht : Tab w) : Calls Tryd.prog 32 #[v] w fun e w' => e = .returned (.agg (cellsOf (leL (ext 0 l))).toArray) ∧ Below w.heap.size w w' := by
  have RS := Lib.hid (fun W (hW : Below w.heap.size w W) (ht : Tab W) => sum_any v l W (sl_below s hW) ht)
  have hlt : ext 0 l < 4294967296 := ext_lt (by decide) s.1
  generalize ext 0 l = S at *
  have HB := Lib.hid ((Below.refl w.heap.size w).alloc (Nat.le_refl _) (.cells #[.int .u8 0, .int .u8 0, .int .u8 0, .int .u8 0] 53))
  rw [leL_cells hlt]
  clear s
  have HT := Lib.hid (tab_below ht HB.out)
  go_enter Tryd.func32, Tryd.ntmps32
  go_wp2_with (go_at_call 38; refine (RS.out _ HB.out HT.out).mono ?_; rintro e w2 ⟨rfl, rfl⟩)
  exact bodyPost_ret (results_cell_row Tryd.results32 _ _ w.heap.size 53 _ (0, 0) _ rfl (heap_alloc_new _ _) Tryd.underlying53 rfl info4) rfl ⟨rfl, (Below.refl w.heap.size w).alloc (Nat.le_refl _) _⟩
/-- An array of bytes in a block of its own, as a slice. -/
theorem sl_array {w : World} {g n : Nat} {T : TypeId} {fr : Nat × Nat} {l : List Nat} {cs : Array Value} (hl : ∀ b ∈ l, b < 256) (hn : l.length = n) (hm : n ≤ maxLen) (hcs : cs = (cellsOf l).toArray) (hg : w.heap[g]? = some (.cells cs T fr)) :
    Sl w (.slice (some ⟨g, 0, none⟩) n n) l := by
  subst hn
  refine ⟨hl, hm, Or.inr ⟨g, 0, l.length, rfl, Nat.le_refl _, hm, fun k hk => ?_⟩⟩
  rw [Nat.zero_add, cell_of_row w g k cs T fr hg, hcs]
  simp [List.getD, hk, cellsOf]
set_option maxRecDepth 100000 in
theorem wsum_any {w W : World} {g q : Nat} {F : Array Value} {x : Ndl} {s r : Value} {L : List Nat} (h : Wb w g q F x s L W r) (hl : L.length ≤ 90000) (ht : Tab W) : Calls Tryd.prog 27 #[.pointer (some ⟨g, 0, none⟩)] W (WC w g q F x s (L ++ leL (ext 0 L))) := by
  obtain ⟨ra, rn, rc, rfl, -⟩ := own_form h.own
  obtain ⟨-, -, -, -, c4, -⟩ := h.cells
  have CK := Lib.hid (pchecksum_any _ L W h.own.sl ht)
  have hlt : ext 0 L < 4294967296 := ext_lt (by decide) h.own.1
  generalize ext 0 L = S at *
  have HL : Hid (L.length + (leL S).length ≤ 100000000) := by show _ ≤ _; rw [leL_length]; omega
  have HH := Lib.hid h
  have HC := Lib.hid (leL_cells hlt)
  rw [leL_cells hlt] at CK
  clear h hl ht
  go_enter Tryd.func27, Tryd.ntmps27
  go_wp2_with (go_at_call 32; refine CK.out.mono ?_; rintro e w2 ⟨rfl, hb2⟩; have HB2 := Lib.hid hb2; clear hb2)
  obtain ⟨A, hA⟩ : ∃ A, A = Obj.cells #[.int .u8 ((S : Int) % 256), .int .u8 ((S : Int) / 256 % 256), .int .u8 ((S : Int) / 65536 % 256), .int .u8 ((S : Int) / 16777216)] 53 := ⟨_, rfl⟩
  rw [← hA]
  refine wp_region_any (by kernel_rfl) ?_
  change wpAny _ _ _ _ _ _ _ (w2.alloc A).drew
  have hb : Below W.heap.size W (w2.alloc A).drew := ((HB2.out.alloc HB2.out.size A).trans ⟨rfl, rfl, rfl, by simp, fun _ _ => rfl⟩)
  have hh := HH.out.later hb
  have hS := sl_array (w := (w2.alloc A).drew) (g := w2.heap.size) (n := 4) (leL_lt S) rfl (by unfold maxLen; omega) HC.out.symm (by rw [← hA]; exact heap_alloc_new w2 A)
  obtain ⟨-, -, -, -, c4, -⟩ := hh.cells
  have H := Lib.hid hh
  have HS := Lib.hid hS
  clear hh hS hb hA
  generalize (w2.alloc A).drew = W1 at *
  generalize w2.heap.size = gb at *
  refine wpAny_take (i := 0) (v := Value.pointer (some ⟨g, 0, none⟩)) rfl (by kernel_rfl) (by kernel_rfl) (by kernel_rfl) (fun _ _ _ h => h) (Or.inl ⟨by rfl, fun w => by go_simp⟩) ?_
  refine wpAny_take (i := 1) (v := Value.pointer (some ⟨g, 0, none⟩)) rfl (by kernel_rfl) (by kernel_rfl) (by kernel_rfl) (fun _ _ _ h => h) (Or.inl ⟨by rfl, fun w => by go_simp⟩) ?_
  refine wpAny_take (i := 2) (v := Value.pointer (some ⟨g, 0, none⟩)) rfl (by kernel_rfl) (by kernel_rfl) (by kernel_rfl) (fun _ _ _ h => h) (Or.inl ⟨by rfl, fun w => by go_simp⟩) ?_
  refine wpAny_take (i := 3) (v := Value.pointer (some ⟨g, 4, none⟩)) rfl (by kernel_rfl) (by kernel_rfl) (by kernel_rfl) (fun _ _ _ h => h) (Or.inl ⟨by rfl, fun w => by go_simp⟩) ?_
  refine wpAny_take (i := 5) (v := Value.slice (some ⟨gb, 0, none⟩) 4 4) rfl (by kernel_rfl) (by kernel_rfl) (by kernel_rfl) (fun _ _ _ h => h) (Or.inl ⟨by rfl, fun w => by go_simp⟩) ?_
  refine wpAny_ready (rs := [4]) (by kernel_rfl) (by simp) ?_
  refine AllReady.cons rfl (fun K hK => ?_) AllReady.nil
  go_simp
  refine hK _ _ ?_
  clear hK K
  refine any_tail 6 (by kernel_rfl) ?_
  simp only [List.drop_succ_cons, List.drop_zero]
  go_wp2_with (at_builtin; refine app_sl (dst := some 14) ?_ ?_ H.out.own HS.out HL.out H.out.size ?_; exact rfl; exact rfl; intro v5 w5 ho5 hg5; obtain ⟨sa5, sn5, sc5, rfl, -⟩ := own_form ho5; have c5 := cell_of_row w5 g 4 _ _ _ (H.out.grown hg5); have f5 := frozen_of_row w5 g 4 _ _ (H.out.grown hg5); have HO5 := Lib.hid ho5; have HG5 := Lib.hid hg5; clear ho5 hg5)
  go_end0
  exact wc_end H.out HG5.out HO5.out
set_option maxRecDepth 100000 in
theorem wfill_any {w W : World} {g q : Nat} {F : Array Value} {x : Ndl} {r : Value} {L : List Nat} {a : Option Addr} {n c : Nat} (h : Wb w g q F x (.slice a n c) L W r) (hn : n ≤ 4096) (hl : L.length = 24 + n) : Calls Tryd.prog 28 #[.pointer (some ⟨g, 0, none⟩)] W (WC w g q F x (.slice a n c) (L ++ List.replicate (szR n - (24 + n)) 0)) := by
  obtain ⟨ra, rc, hr, -⟩ := sl_form h.own.sl
  rw [hl] at hr
  obtain ⟨m, hm⟩ : ∃ m, m = szR n - (24 + n) := ⟨_, rfl⟩
  have e1 : szI6 (n : Int) = ((24 + n : Nat) : Int) + (m : Int) := by rw [szI6_nat hn]; have := szR_ge n; omega
  obtain ⟨k, hk⟩ : ∃ k, k = 24 + n := ⟨_, rfl⟩
  have PS := Lib.hid (fun W => psize_any (n : Int) W (by unfold I64b; omega))
  rw [e1, ← hk] at PS
  have hm8 : m ≤ 8 := by have := szR_lt n; omega
  have hkn : k ≤ 5000 := by omega
  rw [← hm]
  rw [← hk] at hl hr
  subst hr
  obtain ⟨-, -, -, c3, c4, -⟩ := h.cells
  have HK : Hid (1 ≤ L.length) := by show 1 ≤ _; omega
  have HLM : Hid (L.length + m ≤ 1000000) := by show _ ≤ _; omega
  have H := Lib.hid h
  clear h hl hn hm hk e1
  go_enter Tryd.func28, Tryd.ntmps28
  go_wp2_with fail
  go_quiet ((go_at_call 10; exact Calls.quiet_of_same ((PS.out _).mono fun _ _ h => ⟨h.1, h.2.symm⟩)))
  rw [show (k : Int) + (m : Int) - (k : Int) = (m : Int) by omega]
  have hh := H.out.later (below_drewN W nq)
  clear H c3 c4
  generalize W.drewN nq = W1 at *
  obtain ⟨-, -, -, c3, c4, -⟩ := hh.cells
  have H := Lib.hid hh
  clear hh
  go_wp2_with (at_builtin; refine appz_sl (dst := some 22) ?_ ?_ H.out.own HK.out HLM.out H.out.size ?_; exact rfl; exact rfl; intro v5 w5 ho5 hg5; obtain ⟨sa5, sn5, sc5, rfl, -⟩ := own_form ho5; have c5 := cell_of_row w5 g 4 _ _ _ (H.out.grown hg5); have f5 := frozen_of_row w5 g 4 _ _ (H.out.grown hg5); have HO5 := Lib.hid ho5; have HG5 := Lib.hid hg5; clear ho5 hg5)
  go_end0
  exact wc_end H.out HG5.out HO5.out
end Go.Proofs.YtljdbaibhpgfnaaDoor.Gf
