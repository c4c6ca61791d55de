/- What is proved here: the chapter's examples over what the laws ask of the program. No condition. -/
import Derived.Test.YtljdbaibhpgfnaaDoorQ6e
namespace Go.Proofs.YtljdbaibhpgfnaaDoor.Gf
open Go Go.Joins Go.ChangeShapes Go.WideShapes Go.ChangeAt Go.RowKit Go.Deep Go.Proofs.YtljdbaibhpgfnaaDoor.By Go.Proofs.YtljdbaibhpgfnaaDoor.Crc Go.Proofs.YtljdbaibhpgfnaaDoor.Qt

theorem dec20 : decE (List.replicate 20 0) = 3 := by decide
theorem enc_tomb : encE ⟨0, 0, true, []⟩ = 0 ∧ (encL ⟨0, 0, true, []⟩).length = 24 ∧ (encL ⟨0, 0, true, []⟩).take 4 = [78, 165, 1, 0] := by
  refine ⟨by decide, ?_, ?_⟩
  · unfold encL
    rw [if_pos (by decide)]
    simp [recL, bodyL, hdL, beL_length, leL_length, szR]
  · unfold encL
    rw [if_pos (by decide)]
    simp [recL, bodyL, hdL]
theorem held_g {P : Program} {ops : Array Oper} {md : Region.Mode} {Q : Exit → Act → World → Prop} {S : World → Prop} {fuel : Nat} {listed : Array Bool} {a : Act} {w : World} (i : Nat) {oi : Oper} (hi : ops[i]? = some oi) (hg : Region.wanted oi (yielded ops a.tmps) = true) (hr : Region.ready md ops listed = [i])
    (h : ∀ K : Act → World → Prop, (∀ a' w', S w' → wpAnyH P md ops Q S fuel (listed.setIfInBounds i true) a' w' → K a' w') → oi.wp P a w K Q) : wpAnyH P md ops Q S (fuel + 1) listed a w := by
  refine wpAnyH_all hr (by simp) fun j hj => ?_
  obtain rfl : j = i := by simpa using hj
  unfold wpOp
  simp only [hi]
  rw [if_pos hg]
  exact Or.inl (h _ fun a' w' h1 h2 => ⟨h1, h2⟩)
set_option maxRecDepth 100000 in
set_option maxHeartbeats 6400000 in
theorem awake6_any {Ok : World → Prop} (P : PC6 Ok) (w : World) (hw : Ok w) : Calls Tryd.prog 14 #[] w fun e w' => e = .returned (.bool true) ∧ Below w.heap.size w w' := by
  have PS := Lib.hid P.size
  have PD := Lib.hid P.dec
  have PE := Lib.hid P.enc
  have ST := Lib.hid (fun (W W' : World) => P.st (w := W) (w' := W'))
  clear P
  go_enter Tryd.func14, Tryd.ntmps14
  go_wp2_with ((with_reducible refine make_step (n := 20) ?_ (by decide) ?_); exact rfl)
  have b0 := (Below.refl w.heap.size w).alloc (Nat.le_refl _) (.cells (cellsOf [0, 0, 0, 0, 0, 0, 0, 0, 0, 0, 0, 0, 0, 0, 0, 0, 0, 0, 0, 0]).toArray 5)
  refine (PD.out _ (List.replicate 20 0) _ (ST.out _ _ hw b0) (own_of_cells (b0 := w.heap.size) (n := 20) (heap_alloc_new w _) (M := List.replicate 20 0) (fun b hb => by have := List.eq_of_mem_replicate hb; omega) (Nat.le_refl _) rfl (by unfold maxLen; omega)).sl).mono ?_
  rw [dec20]
  generalize w.alloc (.cells (cellsOf [0, 0, 0, 0, 0, 0, 0, 0, 0, 0, 0, 0, 0, 0, 0, 0, 0, 0, 0, 0]).toArray 5) = w0 at *
  generalize decN (List.replicate 20 0) = N0
  generalize decX (List.replicate 20 0) = X0
  unfold ED
  rintro e w1 ⟨⟨v, rfl, s1, rfl, -, -, hs1⟩, hb1⟩
  obtain ⟨a1, c1, rfl, -, -⟩ := sl_form hs1
  clear hs1
  generalize X0.data.length = n1
  have B1 := Lib.hid (bt (bt b0 hb1) ((Below.refl w1.heap.size w1).alloc (Nat.le_refl _) (.cells #[.int .u64 (X0.key : Int), .int .u32 (X0.cookie : Int), .bool X0.del, .slice a1 n1 c1] 26)))
  clear hb1 b0 PD
  go_wp2_with fail
  refine (PE.out (.agg #[.int .u64 0, .int .u32 0, .bool true, .slice none 0 0]) ⟨0, 0, true, []⟩ _ (ST.out _ _ hw B1.out) ⟨.slice none 0 0, rfl, by decide, by decide, sl_nil _⟩).mono ?_
  rw [enc_tomb.1]
  generalize w1.alloc (.cells #[.int .u64 (X0.key : Int), .int .u32 (X0.cookie : Int), .bool X0.del, .slice a1 n1 c1] 26) = w2 at *
  rintro e w3 ⟨⟨s, rfl, hs⟩, hb3⟩
  have B3 := Lib.hid (bt B1.out hb3)
  clear hb3 B1 PE
  obtain ⟨b, o, c, rfl, hc, -, -⟩ := sl_cells hs (by rw [enc_tomb.2.1]; decide)
  have ht := sl_take (n := 4) hs (by rw [enc_tomb.2.1]; decide)
  rw [enc_tomb.2.2] at ht
  rw [enc_tomb.2.1] at hc ⊢
  have HT := Lib.hid ht
  clear ht hs
  go_wp2_with fail
  refine wp_onlyN ?_
  have hw3 := ST.out _ _ hw B3.out
  have B4 := Lib.hid (Below.refl w3.heap.size w3).drew
  refine wp_region_headsS (fun w' => Below w3.heap.size w3 w') [] 36 (by kernel_rfl) (fun _ _ _ _ _ h => h.elim) (by kernel_rfl) (by rfl) (by rfl) B4.out ?_
  simp only [pickOps, List.filterMap_nil]
  refine wpHeads_nil ?_
  generalize w3.drew = w4 at *
  refine held_g 0 rfl (by rfl) (by kernel_rfl) fun K hK => ?_
  go_simp
  go_at_call 10
  refine (PS.out 0 w4 (ST.out _ _ hw3 B4.out) (by unfold I64b; decide)).mono ?_
  rw [show szI6 0 = 24 from rfl]
  rintro e w5 ⟨rfl, hb⟩
  have B5 := Lib.hid (bt B4.out hb)
  refine hK _ _ B5.out ?_
  clear hK K hb
  refine held_g 1 rfl (by rfl) (by kernel_rfl) fun K hK => ?_
  go_simp
  refine hK _ _ B5.out ?_
  clear hK K
  refine held_g 2 rfl (by rfl) (by kernel_rfl) fun K hK => ?_
  go_simp
  refine hK _ _ B5.out ?_
  clear hK K
  refine held_g 3 rfl (by rfl) (by kernel_rfl) fun K hK => ?_
  go_simp
  go_at_call 10
  refine (PS.out 1 w5 (ST.out _ _ hw3 B5.out) (by unfold I64b; decide)).mono ?_
  rw [show szI6 1 = 32 from rfl]
  rintro e w6 ⟨rfl, hb⟩
  have B6 := Lib.hid (bt B5.out hb)
  refine hK _ _ B6.out ?_
  clear hK K hb
  refine held_g 4 rfl (by rfl) (by kernel_rfl) fun K hK => ?_
  go_simp
  refine hK _ _ B6.out ?_
  clear hK K
  refine held_g 5 rfl (by rfl) (by kernel_rfl) fun K hK => ?_
  go_simp
  refine hK _ _ B6.out ?_
  clear hK K
  refine held_g 6 rfl (by rfl) (by kernel_rfl) fun K hK => ?_
  go_simp
  refine hK _ _ B6.out ?_
  clear hK K
  refine held_g 7 rfl (by rfl) (by kernel_rfl) fun K hK => ?_
  go_simp
  go_at_call 10
  refine (PS.out 8 w6 (ST.out _ _ hw3 B6.out) (by unfold I64b; decide)).mono ?_
  rw [show szI6 8 = 32 from rfl]
  rintro e w7 ⟨rfl, hb⟩
  have B7 := Lib.hid (bt B6.out hb)
  refine hK _ _ B7.out ?_
  clear hK K hb
  refine held_g 8 rfl (by rfl) (by kernel_rfl) fun K hK => ?_
  go_simp
  refine hK _ _ B7.out ?_
  clear hK K
  refine held_g 9 rfl (by rfl) (by kernel_rfl) fun K hK => ?_
  go_simp
  refine hK _ _ B7.out ?_
  clear hK K
  refine held_g 10 rfl (by rfl) (by kernel_rfl) fun K hK => ?_
  go_simp
  refine hK _ _ B7.out ?_
  clear hK K
  refine held_g 11 rfl (by rfl) (by kernel_rfl) fun K hK => ?_
  go_simp
  go_at_call 10
  refine (PS.out 9 w7 (ST.out _ _ hw3 B7.out) (by unfold I64b; decide)).mono ?_
  rw [show szI6 9 = 40 from rfl]
  rintro e w8 ⟨rfl, hb⟩
  have B8 := Lib.hid (bt B7.out hb)
  refine hK _ _ B8.out ?_
  clear hK K hb
  refine held_g 12 rfl (by rfl) (by kernel_rfl) fun K hK => ?_
  go_simp
  refine hK _ _ B8.out ?_
  clear hK K
  refine held_g 13 rfl (by rfl) (by kernel_rfl) fun K hK => ?_
  go_simp
  refine hK _ _ B8.out ?_
  clear hK K
  refine held_g 14 rfl (by rfl) (by kernel_rfl) fun K hK => ?_
  go_simp
  refine hK _ _ B8.out ?_
  clear hK K
  refine held_g 15 rfl (by rfl) (by kernel_rfl) fun K hK => ?_
  go_simp
  refine hK _ _ B8.out ?_
  clear hK K
  refine held_g 16 rfl (by rfl) (by kernel_rfl) fun K hK => ?_
  go_simp
  refine hK _ _ B8.out ?_
  clear hK K
  refine held_g 17 rfl (by rfl) (by kernel_rfl) fun K hK => ?_
  go_simp
  refine hK _ _ B8.out ?_
  clear hK K
  refine held_g 18 rfl (by rfl) (by kernel_rfl) fun K hK => ?_
  go_simp
  refine hK _ _ B8.out ?_
  clear hK K
  refine held_g 19 rfl (by rfl) (by kernel_rfl) fun K hK => ?_
  go_simp
  refine hK _ _ B8.out ?_
  clear hK K
  refine held_g 20 rfl (by rfl) (by kernel_rfl) fun K hK => ?_
  go_simp
  refine hK _ _ B8.out ?_
  clear hK K
  refine held_g 21 rfl (by rfl) (by kernel_rfl) fun K hK => ?_
  go_simp
  refine hK _ _ B8.out ?_
  clear hK K
  refine held_g 22 rfl (by rfl) (by kernel_rfl) fun K hK => ?_
  go_simp
  refine hK _ _ B8.out ?_
  clear hK K
  refine held_g 23 rfl (by rfl) (by kernel_rfl) fun K hK => ?_
  go_simp
  refine hK _ _ B8.out ?_
  clear hK K
  refine held_g 24 rfl (by rfl) (by kernel_rfl) fun K hK => ?_
  go_simp
  refine hK _ _ B8.out ?_
  clear hK K
  refine held_g 25 rfl (by rfl) (by kernel_rfl) fun K hK => ?_
  go_simp
  refine hK _ _ B8.out ?_
  clear hK K
  refine held_g 26 rfl (by rfl) (by kernel_rfl) fun K hK => ?_
  go_simp
  refine hK _ _ B8.out ?_
  clear hK K
  refine held_g 27 rfl (by rfl) (by kernel_rfl) fun K hK => ?_
  go_simp
  refine hK _ _ B8.out ?_
  clear hK K
  refine wpAnyH_take (i := 28) (v := .slice (some ⟨b, o, none⟩) 24 c) rfl (by kernel_rfl) (by kernel_rfl) (by kernel_rfl) (fun _ _ _ h => h) (Or.inl ⟨by rfl, fun w _ => by rfl⟩) B8.out ?_
  have p4 : (4 : Int) ≤ (c : Int) := by omega
  refine wpAnyH_take (i := 29) (v := .slice (some ⟨b, o, none⟩) 4 c) rfl (by kernel_rfl) (by kernel_rfl) (by kernel_rfl) (fun _ _ _ h => h) (Or.inl ⟨by rfl, fun w _ => by go_simp⟩) B8.out ?_
  refine wpAnyH_take (i := 30) (v := .string (strOf [78, 165, 1, 0])) rfl (by kernel_rfl) (by kernel_rfl) (by kernel_rfl) (fun _ _ _ h => h) (Or.inl ⟨by rfl, fun w' hw' => by go_simp; rw [conv_sl (sl_below HT.out hw')]; rfl⟩) B8.out ?_
  refine held_g 31 rfl (by rfl) (by kernel_rfl) fun K hK => ?_
  go_simp
  have B9 := Lib.hid (B8.out.alloc B8.out.size (.cells #[.int .u8 78, .int .u8 165, .int .u8 1, .int .u8 0] 5))
  refine hK _ _ B9.out ?_
  clear hK K
  have v2 := conv_sl (own_of_cells (b0 := w8.heap.size) (n := 4) (M := [78, 165, 1, 0]) (heap_alloc_new w8 (.cells #[.int .u8 78, .int .u8 165, .int .u8 1, .int .u8 0] 5)) (fun b hb => by simp only [List.mem_cons, List.not_mem_nil, or_false] at hb; omega) (Nat.le_refl _) rfl (by unfold maxLen; omega)).sl
  generalize w8.alloc (.cells #[.int .u8 78, .int .u8 165, .int .u8 1, .int .u8 0] 5) = w9 at *
  generalize strOf [78, 165, 1, 0] = t at *
  refine held_g 32 rfl (by rfl) (by kernel_rfl) fun K hK => ?_
  go_simp
  refine hK _ _ B9.out ?_
  clear hK K
  refine held_g 33 rfl (by rfl) (by kernel_rfl) fun K hK => ?_
  go_simp
  refine hK _ _ B9.out ?_
  clear hK K
  refine held_g 34 rfl (by rfl) (by kernel_rfl) fun K hK => ?_
  go_simp
  refine hK _ _ B9.out ?_
  clear hK K
  refine held_g 35 rfl (by rfl) (by kernel_rfl) fun K hK => ?_
  go_simp
  refine hK _ _ B9.out ?_
  clear hK K
  refine wpAnyH_done (by kernel_rfl) ?_ _
  unfold onlyN
  dsimp only
  go_wp2_with fail
  go_ret
  exact ⟨rfl, bt B3.out B9.out⟩
end Go.Proofs.YtljdbaibhpgfnaaDoor.Gf
