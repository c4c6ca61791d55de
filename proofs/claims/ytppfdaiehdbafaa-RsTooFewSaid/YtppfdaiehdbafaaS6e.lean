/- What is proved here: the walk of the law RsTooFew. No condition. -/
import Derived.Test.YtppfdaiehdbafaaS6a
namespace Go.Proofs.Ytppfdaiehdbafaa.Gf
open Go Go.ChangeShapes Go.WideShapes Go.ChangeAt Go.RowKit Go.Sort Go.Proofs.Ytppfdaiehdbafaa.By Go.Proofs.Ytppfdaiehdbafaa.Qt

theorem infoBo : (Try.prog.info? 4).map (fun i => (i.zero, i.size, i.bytes)) = some (some (.bool false), 1, 1) := by kernel_rfl
set_option maxRecDepth 100000 in
/-- make([]bool, 6). -/
theorem make_six {ops : Array Oper} {rest : List Oper} {dst : Option Tmp} {x : Operand} {pos : String} {after : Array Edge} {ty : TypeId} {a : Act} {W : World} {Q : Exit → Act → World → Prop}
    (hx : a.eval x = .int .i64 6)
    (h : wpList Try.prog ops Q rest (a.put dst (.slice (some ⟨W.heap.size, 0, none⟩) 6 6)) (W.alloc (.cells (BV fun _ => false) 4))) : wpList Try.prog ops Q (⟨dst, .makeSlice 43 x x, ty, pos, after, none⟩ :: rest) a W := by
  refine wpList_plain rfl fun K hK => ?_
  obtain ⟨i, hi, hz0, hz1, hz2⟩ := info_parts infoBo
  have hr := run_make (P := Try.prog) W 43 4 i (.bool false) Try.underlying43 hi hz0 .i64 .i64 6 6 (by omega) (Int.le_refl _) (by rw [hz2]; decide) (by decide)
  simp only [hz1, Nat.mul_one] at hr
  have hc : madeCells (Value.bool false).cells (Int.toNat 6) = BV fun _ => false := by
    apply Array.ext'
    rw [show (Value.bool false).cells = #[Value.bool false] from rfl, toList_madeCells_one]
    rfl
  rw [hc] at hr
  unfold Oper.wp execOp
  simp only [hx, Sem.run_bind, Sem.run_pure, hr, Result.andThen_ok]
  exact hK _ _ h
/-- The bits of the law's mask. -/
def mb (n : Int) (k : Nat) : Bool := bits .and .i64 (n / 2 ^ k) 1 == 1
def mask (n : Int) : List Bool := (List.range 6).map (mb n)
theorem mask_getD {n : Int} {k : Nat} (hk : k < 6) : (mask n).getD k false = mb n k := by simp [mask, List.getD, hk]
theorem sb_mask {w : World} {g : Nat} {n : Int} {T : TypeId} (hg : w.heap[g]? = some (.cells (BV fun j => if j < 6 then mb n j else false) T (0, 0))) : Sb w (.slice (some ⟨g, 0, none⟩) 6 6) (mask n) := by
  have hl : (mask n).length = 6 := by simp [mask]
  refine ⟨by rw [hl]; unfold maxLen; decide, Or.inr ⟨g, 0, 6, by rw [hl], by rw [hl]; exact Nat.le_refl _, by unfold maxLen; decide, fun k hk => ?_⟩⟩
  rw [hl] at hk
  rw [Nat.zero_add, cell_of_row _ _ _ _ _ _ hg, BV_get _ hk, mask_getD hk, if_pos hk]
set_option maxRecDepth 100000 in
set_option maxHeartbeats 6400000 in
theorem toofew_walk (v0 : Value) (l0 : List Nat) (n1 n2 : Int) (w : World) (s0 : Sl w v0 l0) (_hn2 : I64 n2) : Calls Try.prog 7 #[v0, .int .i64 n1, .int .i64 n2] w fun e w' => e = .returned (.bool true) ∧ Below w.heap.size w w' := by
  have FU := Lib.hid (full_any v0 l0 n1 w s0)
  unfold I64 at _hn2
  clear s0
  go_enter Try.func7, Try.ntmps7
  go_wp2_with fail
  refine FU.out.mono ?_
  rintro e w1 ⟨⟨v1, vs, S, rfl, hO, hC⟩, hb1⟩
  obtain ⟨gS, cS, rfl, -, -, -, -⟩ := ownk_form hO (code_lv hC).len (by decide)
  have B1 := Lib.hid hb1
  have SO := Lib.hid hO.sr
  have HC := Lib.hid hC
  clear hO hC hb1 FU
  go_wp2_with ((with_reducible refine make_six ?_ ?_); exact rfl)
  have hz := heap_alloc_new w1 (.cells (BV fun _ => false) 4)
  have hal := (Below.refl w1.heap.size w1).alloc (Nat.le_refl _) (.cells (BV fun _ => false) 4)
  generalize w1.alloc (.cells (BV fun _ => false) 4) = W1 at *
  generalize hgg : w1.heap.size = g at *
  have hb0 := B1.out
  have hge : w.heap.size ≤ g := hgg ▸ B1.out.size
  have HZ := Lib.hid (show W1.heap[g]? = some (.cells (BV fun j => if j < 0 then mb n2 j else false) 4 (0, 0)) from hz.trans (congrArg (fun c => some (Obj.cells c 4 (0, 0))) (BV_ext fun j _ => by simp)))
  have HS := Lib.hid (show Sr w1 (.slice (some ⟨gS, 0, none⟩) 6 cS) S from SO.out)
  have HBW := Lib.hid (show Below w1.heap.size w1 W1 from hgg ▸ hal)
  have HG1 := Lib.hid hgg
  clear B1 SO hz hal hgg
  have B1 : Hid (Below w.heap.size w w1) := Lib.hid hb0
  go_loopw [10, 23] (fun m t wr => ∃ k : Nat, k ≤ 6 ∧ t = .int .i64 (k : Int) ∧ m = .int .i64 ((presK (mask n2) k).length : Int) ∧ wr.heap[g]? = some (.cells (BV fun j => if j < k then mb n2 j else false) 4 (0, 0)) ∧ Below w1.heap.size w1 wr) (fun _ t _ => 6 - (intOf t).toNat)
  case atStart => exact ⟨0, by omega, rfl, rfl, HZ.out, HBW.out⟩
  case round =>
    obtain ⟨k, hk, rfl, rfl, hz, hB⟩ := hrel
    have hlen := presK_len (mask n2) k
    have hsu := presK_succ (mask n2) k
    by_cases hkn : k < 6
    · rw [mask_getD hkn] at hsu
      have p0 : (0 : Int) ≤ (k : Int) := by omega
      have p1 : (k : Int) < 6 := by omega
      have q1 := (cell_of_row _ _ k _ _ _ hz).trans (BV_get _ hkn)
      have q2 := frozen_of_row wr g k _ _ hz
      rw [if_neg (by omega)] at q1
      have hz2 := heap_setCell_same wr g k _ _ (.bool (mb n2 k)) hz
      rw [BV_set _ _ hkn] at hz2
      have hz3 : (BV fun i => if i = k then mb n2 k else if i < k then mb n2 i else false) = BV fun j => if j < k + 1 then mb n2 j else false := BV_ext fun i _ => by
        by_cases e : i = k
        · rw [if_pos e, if_pos (by omega), e]
        · rw [if_neg e]
          by_cases e2 : i < k
          · rw [if_pos e2, if_pos (by omega)]
          · rw [if_neg e2, if_neg (by omega)]
      rw [hz3] at hz2
      have hb2 : ∀ z : Bool, Below w1.heap.size w1 (wr.setCell ⟨g, k, none⟩ (.bool z)) := fun z => hB.setCell (by rw [HG1.out]; exact Nat.le_refl _) _
      have HZ2 := Lib.hid hz2
      have HB2 := Lib.hid hb2
      have hbit : (bits .and .i64 (n2 / 2 ^ k) 1 == 1) = mb n2 k := rfl
      generalize presK (mask n2) k = zs at *
      have HSU := Lib.hid hsu
      generalize mb n2 k = z at hbit HZ2 HSU
      clear hz hB hz2 hz3 hb2 hsu
      cases z with
      | false =>
        have q3 : (wr.setCell ⟨g, k, none⟩ (.bool false)).cell? ⟨g, k, none⟩ = some (.bool false) := by
          rw [cell_of_row _ _ _ _ _ _ HZ2.out, BV_get _ hkn, if_pos (by omega)]
          exact congrArg (fun b => some (Value.bool b)) hbit
        go_wp2
        go_roundw
        case rel => exact ⟨k + 1, by omega, by go_num, by rw [HSU.out]; rfl, HZ2.out, HB2.out _⟩
        case measure => simp [intOf]; omega
      | true =>
        have q3 : (wr.setCell ⟨g, k, none⟩ (.bool true)).cell? ⟨g, k, none⟩ = some (.bool true) := by
          rw [cell_of_row _ _ _ _ _ _ HZ2.out, BV_get _ hkn, if_pos (by omega)]
          exact congrArg (fun b => some (Value.bool b)) hbit
        go_wp2
        go_roundw
        case rel => exact ⟨k + 1, by omega, by go_num, by rw [HSU.out]; simp, HZ2.out, HB2.out _⟩
        case measure => simp [intOf]; omega
    · obtain rfl : k = 6 := by omega
      have hsb := sb_mask hz
      have hlv := code_lv HC.out
      have hfit : Fit S (mask n2) := ⟨hlv.len, by simp [mask], pick_eql (lv_lev hlv) (presK_lt _ 6)⟩
      have hre := restore_any _ _ S (mask n2) wr (sr_below HS.out hB) hsb (lv_small hlv (by have := kk_lt n1; omega))
      have he : presK (mask n2) 6 = pres (mask n2) := rfl
      rw [he] at hlen ⊢
      clear hsu
      by_cases h4 : 4 ≤ (pres (mask n2)).length
      · rw [show resE S (mask n2) = 0 from by unfold resE; rw [if_pos hfit, if_pos h4]] at hre
        generalize (pres (mask n2)).length = m at *
        have HRE := Lib.hid hre
        have HB := Lib.hid (bt B1.out hB)
        have hge4 : decide ((4 : Int) ≤ (m : Int)) = true := decide_eq_true (by omega)
        clear hre hsb hlv hfit he hz hB
        go_wp2_with fail
        refine HRE.out.mono ?_
        unfold EP
        rintro e w8 ⟨⟨v8, rfl, -⟩, hb8⟩
        have B8 := Lib.hid (bt HB.out hb8)
        clear hb8
        go_wp2_with fail
        refine (awake4_any w8).mono ?_
        rintro e w9 ⟨rfl, hb9⟩
        go_wp2_with fail
        go_ret
        exact ⟨rfl, bt B8.out hb9⟩
      · rw [show resE S (mask n2) = 11 from by unfold resE; rw [if_pos hfit, if_neg h4], show resL S (mask n2) = [] from by unfold resL; rw [if_pos hfit, if_neg h4]] at hre
        generalize (pres (mask n2)).length = m at *
        have HRE := Lib.hid hre
        have HB := Lib.hid (bt B1.out hB)
        have hge4 : decide ((4 : Int) ≤ (m : Int)) = false := decide_eq_false (by omega)
        clear hre hsb hlv hfit he hz hB
        go_wp2_with fail
        refine HRE.out.mono ?_
        unfold EP
        rintro e w8 ⟨⟨v8, rfl, hs8⟩, hb8⟩
        obtain ⟨a8, c8, rfl, -, -⟩ := sr_form hs8
        rw [show ([] : List (List Nat)).length = 0 from rfl]
        have B8 := Lib.hid (bt HB.out hb8)
        clear hb8 hs8
        go_wp2_with fail
        refine (awake4_any w8).mono ?_
        rintro e w9 ⟨rfl, hb9⟩
        go_wp2_with fail
        go_ret
        exact ⟨rfl, bt B8.out hb9⟩
end Go.Proofs.Ytppfdaiehdbafaa.Gf
