/- What is proved here: the contract of the reference's Encode. No condition. -/
import Derived.Test.YtljdbaibhpgfnaaDoorQ6b
namespace Go.Proofs.YtljdbaibhpgfnaaDoor.Gf
open Go Go.ChangeShapes Go.WideShapes Go.ChangeAt Go.RowKit Go.Proofs.YtljdbaibhpgfnaaDoor.By Go.Proofs.YtljdbaibhpgfnaaDoor.Crc

/-- A call that answers bytes of its own and an error. -/
def EO (w : World) (l : List Nat) (err : Int) (e : Ending) (w' : World) : Prop := (∃ v, e = .returned (.tuple #[v, .int .i64 err]) ∧ Own w' w.heap.size v l) ∧ Below w.heap.size w w'
theorem flag_cells (d : Bool) : cellsOf [78, 165, if d then 1 else 0, 0] = [.int .u8 78, .int .u8 165, .int .u8 (if d then 1 else 0), .int .u8 0] := by
  cases d <;> rfl
/-- What a function that boxes its parameter and collects bytes has between two steps. -/
structure St (w W : World) (bx : Array Value) (v : Value) (L : List Nat) : Prop where
  below : Below w.heap.size w W
  box : W.heap[w.heap.size]? = some (.cells bx 26 (0, 0))
  own : Own W (w.heap.size + 1) v L
theorem St.later {w W W' : World} {bx : Array Value} {v : Value} {L : List Nat} (h : St w W bx v L) (hb : Below W.heap.size W W') : St w W' bx v L :=
  ⟨bt h.below hb, (hb.block _ (lt_of_some h.box)).trans h.box, own_below' h.own hb⟩
theorem St.app {w W W' : World} {bx : Array Value} {v v' : Value} {L L' : List Nat} (h : St w W bx v L) (hg : W.grownBy W' v.ownBlock) (ho : Own W' (w.heap.size + 1) v' L') : St w W' bx v' L' :=
  ⟨h.below.grown hg h.below.size fun q hq => by have := h.own.lt q hq; omega, (hg.block _ (lt_of_some h.box) fun e => by have := h.own.lt _ e.symm; omega).trans h.box, ho⟩
theorem St.size {w W : World} {bx : Array Value} {v : Value} {L : List Nat} (h : St w W bx v L) : w.heap.size + 1 ≤ W.heap.size := lt_of_some h.box
theorem bx_cell {W : World} {g : Nat} {k c d s : Value} {T : TypeId} {fr : Nat × Nat} (h : W.heap[g]? = some (.cells #[k, c, d, s] T fr)) : W.cell? ⟨g, 0, none⟩ = some k ∧ W.cell? ⟨g, 1, none⟩ = some c ∧ W.cell? ⟨g, 2, none⟩ = some d ∧ W.cell? ⟨g, 3, none⟩ = some s :=
  ⟨cell_of_row W g 0 _ _ _ h, cell_of_row W g 1 _ _ _ h, cell_of_row W g 2 _ _ _ h, cell_of_row W g 3 _ _ _ h⟩
set_option maxRecDepth 100000 in
set_option maxHeartbeats 6400000 in
theorem rencode_any (v : Value) (x : Ndl) (w : World) (h : Nd w v x) : Calls Tryd.prog 17 #[v] w (EO w (encL x) (encE x : Nat)) := by
  have VA := Lib.hid (fun W (hW : Below w.heap.size w W) => rvalid6_any v x W (nd_below h hW))
  obtain ⟨s, hv, h1, h2, h3⟩ := h
  obtain ⟨a, c, hs, -, hcm⟩ := sl_form h3
  obtain ⟨n, hn⟩ : ∃ n, n = x.data.length := ⟨_, rfl⟩
  rw [← hn] at hs
  subst hs
  subst hv
  have S := Lib.hid h3
  have HN := Lib.hid hn
  unfold EO
  have HB0 := Lib.hid ((Below.refl w.heap.size w).alloc (Nat.le_refl _) (.cells #[.int .u64 (x.key : Int), .int .u32 (x.cookie : Int), .bool x.del, .slice a n c] 26))
  by_cases hbig : 4096 < n
  · have he : encE x = 8 := by unfold encE; rw [if_pos (by omega)]
    have hl : encL x = [] := by unfold encL; rw [he]; rfl
    rw [he, hl]
    have g1 : decide ((4096 : Int) < (n : Int)) = true := decide_eq_true (by omega)
    clear hn he hl h3
    go_enter Tryd.func17, Tryd.ntmps17
    go_wp2_with fail
    go_ret2
    exact ⟨⟨_, rfl, own_nil _ _⟩, HB0.out⟩
  have g1 : decide ((4096 : Int) < (n : Int)) = false := decide_eq_false (by omega)
  by_cases he : encE x = 0
  · have hl : encL x = recL x := by unfold encL; rw [he]; rfl
    have hok : okB x = true := by rw [okB_enc, he]; rfl
    rw [he, hl]
    rw [hok] at VA
    have hfl : cellsOf [78, 165, 0, 0] = [.int .u8 78, .int .u8 165, .int .u8 0, .int .u8 0] := rfl
    clear hn hl he h3
    go_enter Tryd.func17, Tryd.ntmps17
    go_wp2_with fail
    refine (VA.out _ HB0.out).mono ?_
    rintro e w2 ⟨rfl, hb2⟩
    have HB2 := Lib.hid hb2
    clear hb2
    have hbx : w2.heap[w.heap.size]? = some (.cells #[.int .u64 (x.key : Int), .int .u32 (x.cookie : Int), .bool x.del, .slice a n c] 26 (0, 0)) := (HB2.out.block _ (by simp)).trans (heap_alloc_new w _)
    have hw2 : Below w.heap.size w w2 := bt HB0.out HB2.out
    have hsz : w.heap.size + 1 ≤ w2.heap.size := lt_of_some hbx
    obtain ⟨M, hMM⟩ : ∃ M, M = szR n := ⟨_, rfl⟩
    have RZ : Hid (∀ W, Calls Tryd.prog 11 #[.int .i64 (n : Int)] W fun e w' => e = .returned (.int .i64 (M : Int)) ∧ W = w') := fun W => by
      have h := rsize6_any (n : Int) W (by unfold I64b; omega)
      rwa [szI6_nat (by omega), ← hMM] at h
    have HMB : Hid (24 + n ≤ M ∧ M ≤ 5000) := by
      show _ ∧ _
      rw [hMM]
      have := szR_ge n
      have := szR_lt n
      omega
    have HMM := Lib.hid hMM
    clear hMM
    have S3 : ∀ f, f < 256 → St w (w2.alloc (.cells (cellsOf [78, 165, f, 0]).toArray 5)) #[.int .u64 (x.key : Int), .int .u32 (x.cookie : Int), .bool x.del, .slice a n c] (.slice (some ⟨w2.heap.size, 0, none⟩) 4 4) [78, 165, f, 0] := fun f hf =>
      ⟨hw2.alloc hw2.size _, (Below.heap_alloc _ _ _ (by omega)).trans hbx, own_of_cells (heap_alloc_new w2 _) (fun b hb => by simp only [List.mem_cons, List.not_mem_nil, or_false] at hb; omega) hsz rfl (by unfold maxLen; omega)⟩
    have s0 := S3 0 (by decide)
    have s1 := S3 1 (by decide)
    rw [show cellsOf [78, 165, 0, 0] = [.int .u8 78, .int .u8 165, .int .u8 0, .int .u8 0] from rfl] at s0
    rw [show cellsOf [78, 165, 1, 0] = [.int .u8 78, .int .u8 165, .int .u8 1, .int .u8 0] from rfl] at s1
    obtain ⟨b0, b1, b2, b3⟩ := bx_cell s0.box
    obtain ⟨f0, f1, f2, f3⟩ := bx_cell s1.box
    obtain ⟨e21, e22, -⟩ := own_cell (q := 2) s0.own rfl (by decide)
    have T0 := Lib.hid s0
    have T1 := Lib.hid s1
    clear hbx hw2 HB2 hfl S3 s0 s1
    rcases hd : x.del with _ | _
    · rw [hd] at b2 f2
      go_wp2_with fail
      have S4 := Lib.hid T0.out
      clear T0 T1 f0 f1 f2 f3 b0 b1 b2 b3 e21 e22
      generalize w2.alloc _ = W4 at *
      refine (number_any x.cookie 4 _ (by omega)).mono ?_
      rintro e Wa ⟨⟨sa, rfl, hoa⟩, hba⟩
      obtain ⟨aa, na, ca, rfl, -⟩ := own_form hoa
      have SA := Lib.hid (S4.out.later hba)
      have OA := Lib.hid hoa
      obtain ⟨c0, c1, c2, c3⟩ := bx_cell SA.out.box
      clear hoa hba
      go_wp2_with (at_builtin; refine app_sl (dst := some 22) ?_ ?_ SA.out.own OA.out.sl (by simp [beL_length] <;> omega) SA.out.size ?_; exact rfl; exact rfl; intro v5 w5 ho5 hg5; have S5 := Lib.hid (SA.out.app hg5 ho5); clear ho5 hg5; obtain ⟨sa5, sn5, sc5, hv5, -⟩ := own_form S5.out.own; subst hv5; obtain ⟨d0, d1, d2, d3⟩ := bx_cell S5.out.box)
      clear c0 c1 c2 c3
      refine (number_any x.key 8 _ (by omega)).mono ?_
      rintro e Wa ⟨⟨sa, rfl, hoa⟩, hba⟩
      obtain ⟨aa, na, ca, rfl, -⟩ := own_form hoa
      have SA := Lib.hid (S5.out.later hba)
      have OA := Lib.hid hoa
      obtain ⟨c0, c1, c2, c3⟩ := bx_cell SA.out.box
      clear hoa hba d0 d1 d2 d3
      go_wp2_with (at_builtin; refine app_sl (dst := some 27) ?_ ?_ SA.out.own OA.out.sl (by simp [beL_length] <;> omega) SA.out.size ?_; exact rfl; exact rfl; intro v5 w5 ho5 hg5; have S6 := Lib.hid (SA.out.app hg5 ho5); clear ho5 hg5; obtain ⟨sa5, sn5, sc5, hv5, -⟩ := own_form S6.out.own; subst hv5; obtain ⟨d0, d1, d2, d3⟩ := bx_cell S6.out.box)
      clear c0 c1 c2 c3
      refine (number_any n 4 _ (by omega)).mono ?_
      rintro e Wa ⟨⟨sa, rfl, hoa⟩, hba⟩
      obtain ⟨aa, na, ca, rfl, -⟩ := own_form hoa
      have SA := Lib.hid (S6.out.later hba)
      have OA := Lib.hid hoa
      obtain ⟨c0, c1, c2, c3⟩ := bx_cell SA.out.box
      clear hoa hba d0 d1 d2 d3
      go_wp2_with (first
        | (at_builtin; refine app_sl (dst := some 34) ?_ ?_ SA.out.own OA.out.sl (by simp [beL_length] <;> omega) SA.out.size ?_; exact rfl; exact rfl; intro v5 w5 ho5 hg5; have S7 := Lib.hid (SA.out.app hg5 ho5); clear ho5 hg5; obtain ⟨sa5, sn5, sc5, hv5, -⟩ := own_form S7.out.own; subst hv5; obtain ⟨d0, d1, d2, d3⟩ := bx_cell S7.out.box)
        | (at_builtin; refine app_sl (dst := some 38) ?_ ?_ S7.out.own (sl_below S.out S7.out.below) (by have := HN.out; simp [beL_length] <;> omega) S7.out.size ?_; exact rfl; exact rfl; intro v5 w5 ho5 hg5; have S8 := Lib.hid (S7.out.app hg5 ho5); clear ho5 hg5; obtain ⟨sa5, sn5, sc5, hv5, -⟩ := own_form S8.out.own; subst hv5; obtain ⟨d0, d1, d2, d3⟩ := bx_cell S8.out.box))
      clear c0 c1 c2 c3
      refine (check_any _ _ _ S8.out.own.sl).mono ?_
      rintro e Wa ⟨⟨sa, rfl, hoa⟩, hba⟩
      obtain ⟨aa, na, ca, rfl, -⟩ := own_form hoa
      have SA := Lib.hid (S8.out.later hba)
      have OA := Lib.hid hoa
      obtain ⟨c0, c1, c2, c3⟩ := bx_cell SA.out.box
      clear hoa hba d0 d1 d2 d3
      go_wp2_with (at_builtin; refine app_sl (dst := some 42) ?_ ?_ SA.out.own OA.out.sl (by have := HN.out; simp [beL_length, leL_length] <;> omega) SA.out.size ?_; exact rfl; exact rfl; intro v5 w5 ho5 hg5; have S9 := Lib.hid (SA.out.app hg5 ho5); clear ho5 hg5; obtain ⟨sa5, sn5, sc5, hv5, -⟩ := own_form S9.out.own; subst hv5; obtain ⟨d0, d1, d2, d3⟩ := bx_cell S9.out.box)
      have hR : [78, 165, 0, 0] ++ beL 4 x.cookie ++ beL 8 x.key ++ beL 4 n ++ x.data = bodyL x := by
        unfold bodyL hdL
        rw [hd, HN.out]
        rfl
      rw [hR] at S9
      have hlR : (bodyL x ++ leL (ext 0 (bodyL x))).length = 24 + n := by rw [List.length_append, bodyL_length, leL_length, HN.out]; omega
      obtain ⟨R, hRR⟩ : ∃ R, R = bodyL x ++ leL (ext 0 (bodyL x)) := ⟨_, rfl⟩
      rw [← hRR] at S9 hlR
      have HRR := Lib.hid hRR
      have HLR := Lib.hid hlR
      clear hR hRR hlR S4 S5 S6 S7 S8 SA OA d0 d1 d2 d3 VA HB0 hok
      go_loopw [4] (fun out wr => ∃ j : Nat, j ≤ M - (24 + n) ∧ St w wr #[.int .u64 (x.key : Int), .int .u32 (x.cookie : Int), .bool x.del, .slice a n c] out (R ++ List.replicate j 0)) (fun out _ => match out with | .slice _ k _ => M - k | _ => 0)
      case atStart => exact ⟨0, by omega, by simpa using S9.out⟩
      case round =>
        clear S9
        obtain ⟨j, hj, hS⟩ := hrel
        obtain ⟨oa, on, oc, rfl, hon0⟩ := own_form hS.own
        have hon : on = 24 + n + j := by rw [hon0, List.length_append, HLR.out, List.length_replicate]
        obtain ⟨c0, c1, c2, c3⟩ := bx_cell hS.box
        have SJ := Lib.hid hS
        have HJ := Lib.hid hj
        have HON := Lib.hid hon
        clear hS hon0
        by_cases hjm : on < M
        · have hl4 : decide ((on : Int) < (M : Int)) = true := decide_eq_true (by omega)
          have HJM := Lib.hid hjm
          have HO1 := Lib.hid (SJ.out.later ((Below.refl wr.heap.size wr).alloc (Nat.le_refl _) (.cells #[.int .u8 0] 5)))
          have s1 := sl_one (z := 0) (by decide) (heap_alloc_new wr (.cells #[.int .u8 ((0 : Nat) : Int)] 5))
          have HS1 := Lib.hid s1
          clear hj hon hjm s1
          go_wp2_with (first
            | (go_at_call 11; refine (RZ.out _).mono ?_; rintro e w' ⟨rfl, rfl⟩)
            | (at_builtin; refine app_sl (dst := some 52) ?_ ?_ HO1.out.own HS1.out (by have := HON.out; have := HLR.out; have := HMB.out; have := HJM.out; simp; omega) HO1.out.size ?_; exact rfl; exact rfl; intro v5 w5 ho5 hg5; have S5 := Lib.hid (HO1.out.app hg5 ho5); clear ho5 hg5; obtain ⟨sa5, sn5, sc5, hv5, hn5⟩ := own_form S5.out.own; subst hv5; have HN5 := Lib.hid hn5; clear hn5))
          go_roundw
          case rel => exact ⟨j + 1, by have := HON.out; have := HJM.out; omega, by have := S5.out; rwa [List.append_assoc, ← List.replicate_succ'] at this⟩
          case measure =>
            have h1 := HN5.out
            rw [List.length_append, List.length_append, HLR.out, List.length_replicate] at h1
            have h2 := HON.out
            have h3 := HJM.out
            simp at h1 ⊢
            omega
        · have hl4 : decide ((on : Int) < (M : Int)) = false := decide_eq_false (by omega)
          have hjM : j = M - (24 + n) := by omega
          have hfin : R ++ List.replicate j 0 = recL x := by unfold recL; rw [HRR.out, hjM, HMM.out, HN.out]
          have HFIN := Lib.hid hfin
          clear hj hon hjM hfin
          go_wp2_with (go_at_call 11; refine (RZ.out _).mono ?_; rintro e w' ⟨rfl, rfl⟩)
          go_ret2
          exact ⟨⟨_, rfl, by rw [← HFIN.out]; exact own_base (by omega) SJ.out.own⟩, SJ.out.below⟩
    · rw [hd] at b2 f2
      go_wp2_with fail
      have S4 := Lib.hid T1.out
      clear T0 T1 f0 f1 f2 f3 b0 b1 b2 b3 e21 e22
      generalize w2.alloc _ = W4 at *
      refine (number_any x.cookie 4 _ (by omega)).mono ?_
      rintro e Wa ⟨⟨sa, rfl, hoa⟩, hba⟩
      obtain ⟨aa, na, ca, rfl, -⟩ := own_form hoa
      have SA := Lib.hid (S4.out.later hba)
      have OA := Lib.hid hoa
      obtain ⟨c0, c1, c2, c3⟩ := bx_cell SA.out.box
      clear hoa hba
      go_wp2_with (at_builtin; refine app_sl (dst := some 22) ?_ ?_ SA.out.own OA.out.sl (by simp [beL_length] <;> omega) SA.out.size ?_; exact rfl; exact rfl; intro v5 w5 ho5 hg5; have S5 := Lib.hid (SA.out.app hg5 ho5); clear ho5 hg5; obtain ⟨sa5, sn5, sc5, hv5, -⟩ := own_form S5.out.own; subst hv5; obtain ⟨d0, d1, d2, d3⟩ := bx_cell S5.out.box)
      clear c0 c1 c2 c3
      refine (number_any x.key 8 _ (by omega)).mono ?_
      rintro e Wa ⟨⟨sa, rfl, hoa⟩, hba⟩
      obtain ⟨aa, na, ca, rfl, -⟩ := own_form hoa
      have SA := Lib.hid (S5.out.later hba)
      have OA := Lib.hid hoa
      obtain ⟨c0, c1, c2, c3⟩ := bx_cell SA.out.box
      clear hoa hba d0 d1 d2 d3
      go_wp2_with (at_builtin; refine app_sl (dst := some 27) ?_ ?_ SA.out.own OA.out.sl (by simp [beL_length] <;> omega) SA.out.size ?_; exact rfl; exact rfl; intro v5 w5 ho5 hg5; have S6 := Lib.hid (SA.out.app hg5 ho5); clear ho5 hg5; obtain ⟨sa5, sn5, sc5, hv5, -⟩ := own_form S6.out.own; subst hv5; obtain ⟨d0, d1, d2, d3⟩ := bx_cell S6.out.box)
      clear c0 c1 c2 c3
      refine (number_any n 4 _ (by omega)).mono ?_
      rintro e Wa ⟨⟨sa, rfl, hoa⟩, hba⟩
      obtain ⟨aa, na, ca, rfl, -⟩ := own_form hoa
      have SA := Lib.hid (S6.out.later hba)
      have OA := Lib.hid hoa
      obtain ⟨c0, c1, c2, c3⟩ := bx_cell SA.out.box
      clear hoa hba d0 d1 d2 d3
      go_wp2_with (first
        | (at_builtin; refine app_sl (dst := some 34) ?_ ?_ SA.out.own OA.out.sl (by simp [beL_length] <;> omega) SA.out.size ?_; exact rfl; exact rfl; intro v5 w5 ho5 hg5; have S7 := Lib.hid (SA.out.app hg5 ho5); clear ho5 hg5; obtain ⟨sa5, sn5, sc5, hv5, -⟩ := own_form S7.out.own; subst hv5; obtain ⟨d0, d1, d2, d3⟩ := bx_cell S7.out.box)
        | (at_builtin; refine app_sl (dst := some 38) ?_ ?_ S7.out.own (sl_below S.out S7.out.below) (by have := HN.out; simp [beL_length] <;> omega) S7.out.size ?_; exact rfl; exact rfl; intro v5 w5 ho5 hg5; have S8 := Lib.hid (S7.out.app hg5 ho5); clear ho5 hg5; obtain ⟨sa5, sn5, sc5, hv5, -⟩ := own_form S8.out.own; subst hv5; obtain ⟨d0, d1, d2, d3⟩ := bx_cell S8.out.box))
      clear c0 c1 c2 c3
      refine (check_any _ _ _ S8.out.own.sl).mono ?_
      rintro e Wa ⟨⟨sa, rfl, hoa⟩, hba⟩
      obtain ⟨aa, na, ca, rfl, -⟩ := own_form hoa
      have SA := Lib.hid (S8.out.later hba)
      have OA := Lib.hid hoa
      obtain ⟨c0, c1, c2, c3⟩ := bx_cell SA.out.box
      clear hoa hba d0 d1 d2 d3
      go_wp2_with (at_builtin; refine app_sl (dst := some 42) ?_ ?_ SA.out.own OA.out.sl (by have := HN.out; simp [beL_length, leL_length] <;> omega) SA.out.size ?_; exact rfl; exact rfl; intro v5 w5 ho5 hg5; have S9 := Lib.hid (SA.out.app hg5 ho5); clear ho5 hg5; obtain ⟨sa5, sn5, sc5, hv5, -⟩ := own_form S9.out.own; subst hv5; obtain ⟨d0, d1, d2, d3⟩ := bx_cell S9.out.box)
      have hR : [78, 165, 1, 0] ++ beL 4 x.cookie ++ beL 8 x.key ++ beL 4 n ++ x.data = bodyL x := by
        unfold bodyL hdL
        rw [hd, HN.out]
        rfl
      rw [hR] at S9
      have hlR : (bodyL x ++ leL (ext 0 (bodyL x))).length = 24 + n := by rw [List.length_append, bodyL_length, leL_length, HN.out]; omega
      obtain ⟨R, hRR⟩ : ∃ R, R = bodyL x ++ leL (ext 0 (bodyL x)) := ⟨_, rfl⟩
      rw [← hRR] at S9 hlR
      have HRR := Lib.hid hRR
      have HLR := Lib.hid hlR
      clear hR hRR hlR S4 S5 S6 S7 S8 SA OA d0 d1 d2 d3 VA HB0 hok
      go_loopw [4] (fun out wr => ∃ j : Nat, j ≤ M - (24 + n) ∧ St w wr #[.int .u64 (x.key : Int), .int .u32 (x.cookie : Int), .bool x.del, .slice a n c] out (R ++ List.replicate j 0)) (fun out _ => match out with | .slice _ k _ => M - k | _ => 0)
      case atStart => exact ⟨0, by omega, by simpa using S9.out⟩
      case round =>
        clear S9
        obtain ⟨j, hj, hS⟩ := hrel
        obtain ⟨oa, on, oc, rfl, hon0⟩ := own_form hS.own
        have hon : on = 24 + n + j := by rw [hon0, List.length_append, HLR.out, List.length_replicate]
        obtain ⟨c0, c1, c2, c3⟩ := bx_cell hS.box
        have SJ := Lib.hid hS
        have HJ := Lib.hid hj
        have HON := Lib.hid hon
        clear hS hon0
        by_cases hjm : on < M
        · have hl4 : decide ((on : Int) < (M : Int)) = true := decide_eq_true (by omega)
          have HJM := Lib.hid hjm
          have HO1 := Lib.hid (SJ.out.later ((Below.refl wr.heap.size wr).alloc (Nat.le_refl _) (.cells #[.int .u8 0] 5)))
          have s1 := sl_one (z := 0) (by decide) (heap_alloc_new wr (.cells #[.int .u8 ((0 : Nat) : Int)] 5))
          have HS1 := Lib.hid s1
          clear hj hon hjm s1
          go_wp2_with (first
            | (go_at_call 11; refine (RZ.out _).mono ?_; rintro e w' ⟨rfl, rfl⟩)
            | (at_builtin; refine app_sl (dst := some 52) ?_ ?_ HO1.out.own HS1.out (by have := HON.out; have := HLR.out; have := HMB.out; have := HJM.out; simp; omega) HO1.out.size ?_; exact rfl; exact rfl; intro v5 w5 ho5 hg5; have S5 := Lib.hid (HO1.out.app hg5 ho5); clear ho5 hg5; obtain ⟨sa5, sn5, sc5, hv5, hn5⟩ := own_form S5.out.own; subst hv5; have HN5 := Lib.hid hn5; clear hn5))
          go_roundw
          case rel => exact ⟨j + 1, by have := HON.out; have := HJM.out; omega, by have := S5.out; rwa [List.append_assoc, ← List.replicate_succ'] at this⟩
          case measure =>
            have h1 := HN5.out
            rw [List.length_append, List.length_append, HLR.out, List.length_replicate] at h1
            have h2 := HON.out
            have h3 := HJM.out
            simp at h1 ⊢
            omega
        · have hl4 : decide ((on : Int) < (M : Int)) = false := decide_eq_false (by omega)
          have hjM : j = M - (24 + n) := by omega
          have hfin : R ++ List.replicate j 0 = recL x := by unfold recL; rw [HRR.out, hjM, HMM.out, HN.out]
          have HFIN := Lib.hid hfin
          clear hj hon hjM hfin
          go_wp2_with (go_at_call 11; refine (RZ.out _).mono ?_; rintro e w' ⟨rfl, rfl⟩)
          go_ret2
          exact ⟨⟨_, rfl, by rw [← HFIN.out]; exact own_base (by omega) SJ.out.own⟩, SJ.out.below⟩
  · have he1 : encE x = 1 := by
      unfold encE at he ⊢
      rw [if_neg (by omega)] at he ⊢
      by_cases h5 : x.del = true ∧ 0 < x.data.length
      · rw [if_pos h5]
      · rw [if_neg h5] at he
        exact absurd rfl he
    have hok : okB x = false := by rw [okB_enc, he1]; rfl
    have hl : encL x = [] := by unfold encL; rw [he1]; rfl
    rw [hl, he1]
    rw [hok] at VA
    clear hn hl he1 he h3 hok
    go_enter Tryd.func17, Tryd.ntmps17
    go_wp2_with fail
    refine (VA.out _ HB0.out).mono ?_
    rintro e w2 ⟨rfl, hb2⟩
    have HB2 := Lib.hid (bt HB0.out hb2)
    clear hb2 VA HB0
    go_wp2_with fail
    go_ret2
    exact ⟨⟨_, rfl, own_nil _ _⟩, HB2.out⟩
end Go.Proofs.YtljdbaibhpgfnaaDoor.Gf
