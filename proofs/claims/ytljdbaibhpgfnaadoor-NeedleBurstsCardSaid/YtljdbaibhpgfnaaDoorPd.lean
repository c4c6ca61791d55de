/- What is proved here: the contract of the program's dataLength. No condition. -/
import Derived.Test.YtljdbaibhpgfnaaDoorPv
namespace Go.Proofs.YtljdbaibhpgfnaaDoor.Gf
open Go Go.ChangeShapes Go.WideShapes Go.ChangeAt Go.RowKit Go.Proofs.YtljdbaibhpgfnaaDoor.By Go.Proofs.YtljdbaibhpgfnaaDoor.Crc

open Classical in
noncomputable def dlE (l : List Nat) : Nat := if l.length < 20 then 4 else if hdOk l then 0 else 3
open Classical in
noncomputable def dlN (l : List Nat) : Nat := if l.length < 20 then 0 else if hdOk l then lenR l else 0
/-- A call that answers a number and an error. -/
def DO (w : World) (n err : Nat) (e : Ending) (w' : World) : Prop := e = .returned (.tuple #[.int .i64 (n : Int), .int .i64 (err : Int)]) ∧ Below w.heap.size w w'
set_option maxRecDepth 100000 in
theorem pdl_any (v : Value) (l : List Nat) (w : World) (s : Sl w v l) : Calls Tryd.prog 31 #[v] w (DO w (dlN l) (dlE l)) := by
  by_cases hsh : l.length < 20
  · have e1 : dlN l = 0 := by unfold dlN; rw [if_pos hsh]
    have e2 : dlE l = 4 := by unfold dlE; rw [if_pos hsh]
    obtain ⟨a, c, rfl, -, -⟩ := sl_form s
    rw [e1, e2]
    obtain ⟨n, hn⟩ : ∃ n, n = l.length := ⟨_, rfl⟩
    rw [← hn] at hsh ⊢
    have g1 : decide ((n : Int) < 20) = true := decide_eq_true (by omega)
    clear s e1 e2 hn
    go_enter Tryd.func31, Tryd.ntmps31
    go_wp2
    go_ret2
    exact ⟨rfl, Below.refl _ _⟩
  obtain ⟨b, o, c, hv, hc1, hc2, hk⟩ := sl_cells s (by omega)
  obtain ⟨n, hn⟩ : ∃ n, n = l.length := ⟨_, rfl⟩
  rw [← hn] at hv hsh hc1
  subst hv
  have HBAD := Lib.hid fun (h : ¬ hdOk l) => (show dlE l = 3 ∧ dlN l = 0 by unfold dlE dlN; rw [if_neg (by omega), if_neg h, if_neg (by omega), if_neg h]; exact ⟨rfl, rfl⟩)
  have HGOOD := Lib.hid fun (h : hdOk l) => (show dlE l = 0 ∧ dlN l = lenR l by unfold dlE dlN; rw [if_neg (by omega), if_pos h, if_neg (by omega), if_pos h]; exact ⟨rfl, rfl⟩)
  have g1 : decide ((n : Int) < 20) = false := decide_eq_false (by omega)
  have hcut := sl_cut (w := w) (p := 16) (c := 4) s.1 hn.symm hc2 hc1 (by rw [hn]; exact hk) (by omega)
  have hval := fun W (hW : Below w.heap.size w W) => pnumber_any _ _ W (sl_below hcut hW) (by simp; omega)
  rw [show valL ((l.drop 16).take 4) = lenR l from rfl] at hval
  have HCELL : Hid (∀ W, Below w.heap.size w W → W.cell? ⟨b, o, none⟩ = some (.int .u8 ((l.getD 0 0 : Nat) : Int)) ∧ W.cell? ⟨b, o + 1, none⟩ = some (.int .u8 ((l.getD 1 0 : Nat) : Int)) ∧ W.cell? ⟨b, o + 2, none⟩ = some (.int .u8 ((l.getD 2 0 : Nat) : Int)) ∧ W.cell? ⟨b, o + 3, none⟩ = some (.int .u8 ((l.getD 3 0 : Nat) : Int))) := fun W hW =>
    ⟨(hW.cell (block_lt_of_cell (hk 0 (by omega)))).trans (hk 0 (by omega)), (hW.cell (block_lt_of_cell (hk 1 (by omega)))).trans (hk 1 (by omega)), (hW.cell (block_lt_of_cell (hk 2 (by omega)))).trans (hk 2 (by omega)), (hW.cell (block_lt_of_cell (hk 3 (by omega)))).trans (hk 3 (by omega))⟩
  have HLT : Hid (lenR l < 4294967296) := by
    have h2 : ((l.drop 16).take 4).length ≤ 4 := by rw [List.length_take]; omega
    exact Nat.lt_of_lt_of_le (valL_lt _ (mem_seg s.1 16 4)) (by have := Nat.pow_le_pow_right (n := 256) (by decide) h2; simpa using this)
  unfold hdOk at HBAD HGOOD
  obtain ⟨m, hm⟩ : ∃ m, m = lenR l := ⟨_, rfl⟩
  rw [← hm] at hval HBAD HGOOD HLT
  have HVAL := Lib.hid hval
  have p16 : (20 : Int) ≤ (c : Int) := by omega
  have p17 : (20 : Int) ≤ (n : Int) := by omega
  clear hval hcut s hk hn hc1 hc2 hm
  generalize hy0 : l.getD 0 0 = y0 at HCELL HBAD HGOOD
  generalize hy1 : l.getD 1 0 = y1 at HCELL HBAD HGOOD
  generalize hy2 : l.getD 2 0 = y2 at HCELL HBAD HGOOD
  generalize hy3 : l.getD 3 0 = y3 at HCELL HBAD HGOOD
  clear hy0 hy1 hy2 hy3
  have hm64 : IntKind.i64.wrap (m : Int) = (m : Int) := IntWalk.i64_in _ (by have := HLT.out; omega)
  by_cases p0 : y0 = 78
  case neg =>
    have hc0 : ((y0 : Int) != 78) = true := by rw [bne_iff_ne]; omega
    have he := HBAD.out (fun h => p0 h.1)
    rw [he.1, he.2]
    clear p0
    clear he
    obtain ⟨q0, q1, q2, q3⟩ := HCELL.out w (Below.refl _ _)
    go_enter Tryd.func31, Tryd.ntmps31
    go_wp2_with fail
    go_quiet ((go_at_call 33; exact Calls.quiet_of_same ((HVAL.out _ (below_drewN w _)).mono fun _ _ h => ⟨h.1, h.2.symm⟩)))
    have hb := below_drewN w nq
    clear q0 q1 q2 q3
    obtain ⟨q0, q1, q2, q3⟩ := HCELL.out _ hb
    have HB := Lib.hid hb
    clear hb
    generalize w.drewN nq = W9 at *
    go_wp2
    go_ret2
    exact ⟨rfl, HB.out⟩
  have hc0 : ((y0 : Int) != 78) = false := by rw [p0]; rfl
  by_cases p1 : y1 = 165
  case neg =>
    have hc1 : ((y1 : Int) != 165) = true := by rw [bne_iff_ne]; omega
    have he := HBAD.out (fun h => p1 h.2.1)
    rw [he.1, he.2]
    clear p0 p1
    clear he
    obtain ⟨q0, q1, q2, q3⟩ := HCELL.out w (Below.refl _ _)
    go_enter Tryd.func31, Tryd.ntmps31
    go_wp2_with fail
    go_quiet ((go_at_call 33; exact Calls.quiet_of_same ((HVAL.out _ (below_drewN w _)).mono fun _ _ h => ⟨h.1, h.2.symm⟩)))
    have hb := below_drewN w nq
    clear q0 q1 q2 q3
    obtain ⟨q0, q1, q2, q3⟩ := HCELL.out _ hb
    have HB := Lib.hid hb
    clear hb
    generalize w.drewN nq = W9 at *
    go_wp2
    go_ret2
    exact ⟨rfl, HB.out⟩
  have hc1 : ((y1 : Int) != 165) = false := by rw [p1]; rfl
  by_cases p2 : y2 ≤ 1
  case neg =>
    have hc2 : decide ((1 : Int) < (y2 : Int)) = true := decide_eq_true (by omega)
    have he := HBAD.out (fun h => p2 h.2.2.1)
    rw [he.1, he.2]
    clear p0 p1 p2
    clear he
    obtain ⟨q0, q1, q2, q3⟩ := HCELL.out w (Below.refl _ _)
    go_enter Tryd.func31, Tryd.ntmps31
    go_wp2_with fail
    go_quiet ((go_at_call 33; exact Calls.quiet_of_same ((HVAL.out _ (below_drewN w _)).mono fun _ _ h => ⟨h.1, h.2.symm⟩)))
    have hb := below_drewN w nq
    clear q0 q1 q2 q3
    obtain ⟨q0, q1, q2, q3⟩ := HCELL.out _ hb
    have HB := Lib.hid hb
    clear hb
    generalize w.drewN nq = W9 at *
    go_wp2
    go_ret2
    exact ⟨rfl, HB.out⟩
  have hc2 : decide ((1 : Int) < (y2 : Int)) = false := decide_eq_false (by omega)
  by_cases p3 : y3 = 0
  case neg =>
    have hc3 : ((y3 : Int) != 0) = true := by rw [bne_iff_ne]; omega
    have he := HBAD.out (fun h => p3 h.2.2.2.1)
    rw [he.1, he.2]
    clear p0 p1 p2 p3
    clear he
    obtain ⟨q0, q1, q2, q3⟩ := HCELL.out w (Below.refl _ _)
    go_enter Tryd.func31, Tryd.ntmps31
    go_wp2_with fail
    go_quiet ((go_at_call 33; exact Calls.quiet_of_same ((HVAL.out _ (below_drewN w _)).mono fun _ _ h => ⟨h.1, h.2.symm⟩)))
    have hb := below_drewN w nq
    clear q0 q1 q2 q3
    obtain ⟨q0, q1, q2, q3⟩ := HCELL.out _ hb
    have HB := Lib.hid hb
    clear hb
    generalize w.drewN nq = W9 at *
    go_wp2
    go_ret2
    exact ⟨rfl, HB.out⟩
  have hc3 : ((y3 : Int) != 0) = false := by rw [p3]; rfl
  by_cases p4 : m ≤ 4096
  case neg =>
    have hc4 : decide ((4096 : Int) < (m : Int)) = true := decide_eq_true (by omega)
    have he := HBAD.out (fun h => p4 h.2.2.2.2.1)
    rw [he.1, he.2]
    clear p0 p1 p2 p3 p4
    clear he
    obtain ⟨q0, q1, q2, q3⟩ := HCELL.out w (Below.refl _ _)
    go_enter Tryd.func31, Tryd.ntmps31
    go_wp2_with fail
    go_quiet ((go_at_call 33; exact Calls.quiet_of_same ((HVAL.out _ (below_drewN w _)).mono fun _ _ h => ⟨h.1, h.2.symm⟩)))
    have hb := below_drewN w nq
    clear q0 q1 q2 q3
    obtain ⟨q0, q1, q2, q3⟩ := HCELL.out _ hb
    have HB := Lib.hid hb
    clear hb
    generalize w.drewN nq = W9 at *
    go_wp2
    go_ret2
    exact ⟨rfl, HB.out⟩
  have hc4 : decide ((4096 : Int) < (m : Int)) = false := decide_eq_false (by omega)
  by_cases p5 : y2 = 1 ∧ 0 < m
  case pos =>
    have he := HBAD.out (fun h => h.2.2.2.2.2 p5)
    rw [he.1, he.2]
    obtain ⟨p51, p52⟩ := p5
    have hc5 : decide ((0 : Int) < (m : Int)) = true := decide_eq_true (by omega)
    have P51 := Lib.hid p51
    clear p0 p1 p2 p3 p51
    clear he
    obtain ⟨q0, q1, q2, q3⟩ := HCELL.out w (Below.refl _ _)
    rw [P51.out] at q2
    go_enter Tryd.func31, Tryd.ntmps31
    go_wp2_with fail
    go_quiet ((go_at_call 33; exact Calls.quiet_of_same ((HVAL.out _ (below_drewN w _)).mono fun _ _ h => ⟨h.1, h.2.symm⟩)))
    have hb := below_drewN w nq
    clear q0 q1 q2 q3
    obtain ⟨q0, q1, q2, q3⟩ := HCELL.out _ hb
    rw [P51.out] at q2
    have HB := Lib.hid hb
    clear hb
    generalize w.drewN nq = W9 at *
    go_wp2
    go_ret2
    exact ⟨rfl, HB.out⟩
  have he := HGOOD.out ⟨p0, p1, p2, p3, p4, p5⟩
  rw [he.1, he.2]
  rcases (show y2 = 0 ∨ (y2 = 1 ∧ m = 0) by omega) with p7 | ⟨p7, p8⟩
  · have P7 := Lib.hid p7
    clear p0 p1 p2 p3 p5 p7
    clear he
    obtain ⟨q0, q1, q2, q3⟩ := HCELL.out w (Below.refl _ _)
    rw [P7.out] at q2
    go_enter Tryd.func31, Tryd.ntmps31
    go_wp2_with fail
    go_quiet ((go_at_call 33; exact Calls.quiet_of_same ((HVAL.out _ (below_drewN w _)).mono fun _ _ h => ⟨h.1, h.2.symm⟩)))
    have hb := below_drewN w nq
    clear q0 q1 q2 q3
    obtain ⟨q0, q1, q2, q3⟩ := HCELL.out _ hb
    rw [P7.out] at q2
    have HB := Lib.hid hb
    clear hb
    generalize w.drewN nq = W9 at *
    go_wp2
    go_ret2
    exact ⟨rfl, HB.out⟩
  · have P7 := Lib.hid p7
    have hc5 : ¬ 0 < m := by omega
    clear p0 p1 p2 p3 p5 p7 p8
    clear he
    obtain ⟨q0, q1, q2, q3⟩ := HCELL.out w (Below.refl _ _)
    rw [P7.out] at q2
    go_enter Tryd.func31, Tryd.ntmps31
    go_wp2_with fail
    go_quiet ((go_at_call 33; exact Calls.quiet_of_same ((HVAL.out _ (below_drewN w _)).mono fun _ _ h => ⟨h.1, h.2.symm⟩)))
    have hb := below_drewN w nq
    clear q0 q1 q2 q3
    obtain ⟨q0, q1, q2, q3⟩ := HCELL.out _ hb
    rw [P7.out] at q2
    have HB := Lib.hid hb
    clear hb
    generalize w.drewN nq = W9 at *
    go_wp2
    go_ret2
    exact ⟨rfl, HB.out⟩
end Go.Proofs.YtljdbaibhpgfnaaDoor.Gf
