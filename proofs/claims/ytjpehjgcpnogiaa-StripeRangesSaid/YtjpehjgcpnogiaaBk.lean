/- What is proved here: the contracts of the program's Size, Place and blocks; the iterator that blocks answers yields the blocks of a range, one after the other. No condition but that the range ends below 2^63. -/
import Derived.Test.YtjpehjgcpnogiaaV5e
import Derived.Test.YtjpehjgcpnogiaaRd
namespace Go.Proofs.Ytjpehjgcpnogiaa.Gf
open Go Go.Joins Go.ChangeShapes Go.WideShapes Go.ChangeAt Go.RowKit Go.Deep Go.Proofs.Ytjpehjgcpnogiaa.By

attribute [local go_sem] Oper.semAt_some

theorem psize_any (n : Int) (w : World) (h : I64b n) : Calls Try.prog 12 #[.int .i64 n] w fun e w' => e = .returned (.int .i64 (szI n)) ∧ w = w' := by
  unfold I64b at h
  by_cases h0 : n ≤ 0
  · have e : szI n = 0 := by unfold szI; split <;> omega
    rw [e]
    have hd : decide (n ≤ 0) = true := decide_eq_true h0
    clear e
    go_enter Try.func12, Try.ntmps12
    go_wp2
    go_ret
    exact ⟨rfl, rfl⟩
  · have hd : decide (n ≤ 0) = false := decide_eq_false h0
    have e1 : (n - 1).tdiv 256 = (n - 1) / 256 := Int.tdiv_eq_ediv_of_nonneg (by omega)
    have e : szI n = ((n - 1) / 256 + 1) * 64 := by unfold szI; rw [if_neg (by omega)]; omega
    rw [e]
    obtain ⟨q, hq⟩ : ∃ q, (n - 1) / 256 = q := ⟨_, rfl⟩
    have b1 : 0 ≤ q ∧ q ≤ 36028797018963967 := by omega
    rw [hq] at e1 ⊢
    clear hq e
    go_enter Try.func12, Try.ntmps12
    go_wp2
    go_ret
    exact ⟨rfl, rfl⟩
set_option maxRecDepth 100000 in
theorem pplace_any (n : Int) (w : World) (h : I64b n) : Calls Try.prog 10 #[.int .i64 n] w fun e w' => e = .returned (.tuple #[.int .i64 (plS n), .int .i64 (plA n), .int .i64 (plE n)]) ∧ w = w' := by
  unfold I64b at h
  by_cases h0 : n < 0
  · unfold plS plA plE
    rw [if_pos h0, if_pos h0, if_pos h0]
    go_enter Try.func10, Try.ntmps10
    go_wp2
    go_ret3
    exact ⟨rfl, rfl⟩
  · have e1 : n.tdiv 64 = n / 64 := Int.tdiv_eq_ediv_of_nonneg (by omega)
    have e2 : n.tmod 64 = n % 64 := Int.tmod_eq_emod_of_nonneg (by omega)
    have e3 : (n / 64).tmod 4 = n / 64 % 4 := Int.tmod_eq_emod_of_nonneg (by omega)
    have e4 : n.tdiv 256 = n / 256 := Int.tdiv_eq_ediv_of_nonneg (by omega)
    unfold plS plA plE
    rw [if_neg h0, if_neg h0, if_neg h0]
    obtain ⟨q, hq⟩ : ∃ q, n / 64 = q := ⟨_, rfl⟩
    obtain ⟨q4, hq4⟩ : ∃ q, n / 256 = q := ⟨_, rfl⟩
    obtain ⟨r, hr⟩ : ∃ r, n % 64 = r := ⟨_, rfl⟩
    obtain ⟨s, hs⟩ : ∃ s, n / 64 % 4 = s := ⟨_, rfl⟩
    have b1 : 0 ≤ q ∧ q ≤ 144115188075855872 := by omega
    have b2 : 0 ≤ r ∧ r < 64 := by omega
    have b3 : 0 ≤ q4 ∧ q4 ≤ 36028797018963967 := by omega
    have b4 : 0 ≤ s ∧ s < 4 := by omega
    rw [hs] at e3
    rw [hq] at e1 e3
    rw [hq4] at e4
    rw [hr] at e2
    rw [hs, hq4, hr]
    clear hq hq4 hr hs
    go_enter Try.func10, Try.ntmps10
    go_wp2
    go_ret3
    exact ⟨rfl, rfl⟩

/-- The blocks of a range: where each begins, how many bytes of it. -/
def blkL (off n : Nat) : List (Nat × Nat) :=
  if _h : n = 0 then [] else (off, min (64 - off % 64) n) :: blkL (off + min (64 - off % 64) n) (n - min (64 - off % 64) n)
termination_by n
decreasing_by omega
theorem blk_zero (off : Nat) : blkL off 0 = [] := by rw [blkL]; simp
theorem blk_step {off n : Nat} (h : n ≠ 0) : blkL off n = (off, min (64 - off % 64) n) :: blkL (off + min (64 - off % 64) n) (n - min (64 - off % 64) n) := by
  rw [blkL]; simp [h]
def prt (p : Nat × Nat) : Nat × Nat × Nat := (shOf p.1, atOf p.1, p.2)
theorem blk_pieces : ∀ n off, (blkL off n).map prt = piecesL off n := by
  intro n
  induction n using Nat.strongRecOn with
  | ind n ih =>
    intro off
    by_cases h : n = 0
    · subst h; rw [blk_zero, pieces_zero]; rfl
    · rw [blk_step h, pieces_step h, List.map_cons, ih _ (by omega)]
      rfl
/-- A block of the range of m bytes from o on. -/
abbrev Pz (o m : Nat) := { p : Nat × Nat // o ≤ p.1 ∧ p.1 % 64 + p.2 ≤ 64 ∧ 1 ≤ p.2 ∧ p.1 + p.2 ≤ o + m }
def encP {o m : Nat} (x : Pz o m) : Array Value := #[.int .i64 (x.1.1 : Int), .agg #[.int .i64 ((shOf x.1.1 : Nat) : Int), .int .i64 ((atOf x.1.1 : Nat) : Int), .int .i64 (x.1.2 : Int)]]
def valsP {o m : Nat} (xs : List (Pz o m)) : List (Nat × Nat) := xs.map (·.1)
theorem minIn_step {F : Fence} {n : Nat} {ops : Array Oper} {rest : List Oper} {dst : Option Tmp} {x1 x2 : Operand} {pos : String} {after : Array Edge} {ty : TypeId} {ts : Array TypeId} {a : Act} {W : World} {Q : Exit → Act → World → Prop} {n1 n2 n3 : Nat} (hr : F.round = none)
    (h1 : a.eval x1 = .int .i64 (n1 : Int)) (h2 : a.eval x2 = .int .i64 (n2 : Int)) (hn : n3 = min n1 n2)
    (h : wpListIn F n Try.prog ops Q rest (a.put dst (.int .i64 (n3 : Int))) W) : wpListIn F n Try.prog ops Q (⟨dst, .call { callee := .builtin .min, args := #[x1, x2], argTypes := ts }, ty, pos, after, none⟩ :: rest) a W := by
  refine wpListIn_plain rfl fun K hK => ?_
  have m2 : Builtin.min2 (.int .i64 (n1 : Int)) (.int .i64 (n2 : Int)) = pure (.int .i64 (n3 : Int)) := by
    show (pure (Value.int .i64 (if (n2 : Int) < (n1 : Int) then (n2 : Int) else (n1 : Int))) : Sem Value) = _
    by_cases hxy : n2 < n1
    · rw [if_pos (by omega), hn, Nat.min_eq_right (by omega)]
    · rw [if_neg (by omega), hn, Nat.min_eq_left (by omega)]
  have hr2 : (Builtin.min_ ts ty #[.int .i64 (n1 : Int), .int .i64 (n2 : Int)]).run Try.prog W = .ok (.int .i64 (n3 : Int)) W := by
    unfold Builtin.min_
    simp only [List.foldlM_cons, List.foldlM_nil, m2, pure_bind]
    rfl
  unfold Oper.wpIn
  rw [hr, Oper.semAt_none]
  unfold execOp
  refine ⟨fun f hf => by simp [Oper.about, Target.leads, resolve] at hf, ?_⟩
  simp only [resolve, invoke, builtin, Sem.run_bind, Sem.run_pure, Result.andThen_ok, List.map_toArray, List.map_cons, List.map_nil, h1, h2, hr2]
  exact hK _ _ h
/-- **blocks(off, n)**: both numbers are boxed, the function answered captures the boxes. -/
theorem blocks_any (o m : Int) (w : World) : Calls Try.prog 23 #[.int .i64 o, .int .i64 m] w fun e w' => e = .returned (.func (.func 24) #[] #[.pointer (some ⟨w.heap.size, 0, none⟩), .pointer (some ⟨w.heap.size + 1, 0, none⟩)]) ∧ w' = (w.alloc (.cells #[.int .i64 o] 2)).alloc (.cells #[.int .i64 m] 2) := by
  go_enter Try.func23, Try.ntmps23
  go_wp2
  go_ret
  exact ⟨rfl, rfl⟩
set_option maxRecDepth 100000 in
set_option maxHeartbeats 6400000 in
/-- The iterator: for every body. -/
theorem blocks1_any (l B1 B2 o m n : Nat) (hn1 : 1 ≤ n) (hb : o + m ≤ 9223372036854775807) (J Jx : List (Pz o m) → World → Prop)
    (hY : ∀ pre x W, J pre W → pre.length < m → YieldAt Fence.wide (n - 1) Try.prog l (encP x) W fun e W' => (e = .returned (.bool true) ∧ J (pre ++ [x]) W' ∧ True) ∨ (e = .returned (.bool false) ∧ Jx (pre ++ [x]) W'))
    (W : World) (h1 : W.cell? ⟨B1, 0, none⟩ = some (.int .i64 (o : Int))) (h2 : W.cell? ⟨B2, 0, none⟩ = some (.int .i64 (m : Int))) (h0 : J [] W) :
    CallsIn Fence.wide n Try.prog 24 #[.func (.yield l) #[] #[], .pointer (some ⟨B1, 0, none⟩), .pointer (some ⟨B2, 0, none⟩)] W fun e W' => (∃ v, e = .returned v) ∧ ((∃ ys, valsP ys = blkL o m ∧ J ys W') ∨ (∃ pre, True ∧ Jx pre W')) := by
  have RP := Lib.hid (fun (k : Nat) (h : I64b (k : Int)) W => pplace_any (k : Int) W h)
  have HB := Lib.hid hb
  have HY := Lib.hid hY
  have H0 := Lib.hid h0
  have hw : wrap64 ((o : Int) + (m : Int)) = ((o + m : Nat) : Int) := by unfold wrap64; omega
  obtain ⟨E, hE⟩ : ∃ E, E = o + m := ⟨_, rfl⟩
  rw [← hE] at hw
  have HE := Lib.hid hE
  have HM := Lib.hid (show o ≤ E by omega)
  clear hE hY h0 hb
  refine callsIn_of_wp Try.func24 rfl trivial ?_ rfl
  simp only [Try.ntmps24, List.size_toArray, List.length_cons, List.length_nil, Nat.reduceAdd, Nat.reduceSub, Array.replicate_succ, Array.replicate_zero, List.push_toArray, List.append_toArray, List.nil_append, List.cons_append]
  gi_wp2
  rw [hw]
  clear hw
  gi_loopw [5] (fun v wr => ∃ (f : Nat) (pre : List (Pz o m)), o ≤ f ∧ f ≤ E ∧ v = .int .i64 (f : Int) ∧ valsP pre ++ blkL f (E - f) = blkL o m ∧ o + pre.length ≤ f ∧ J pre wr) (fun v _ => E - (intOf v).toNat)
  case atStart =>
    exact ⟨o, [], Nat.le_refl _, HM.out, rfl, by rw [HE.out, Nat.add_sub_cancel_left]; rfl, by simp, H0.out⟩
  case round =>
    obtain ⟨f, pre, hof, hfE, rfl, hbl, hpl, hJ⟩ := hrel
    by_cases hlt : f < E
    · have hl4 : decide ((f : Int) < (E : Int)) = true := decide_eq_true (by omega)
      have hE2 : E ≤ 9223372036854775807 := by have := HE.out; have := HB.out; omega
      have hp := RP.out f (by unfold I64b; omega) wr
      rw [plS_nat, plA_nat, plE_nat] at hp
      obtain ⟨r, hr⟩ : ∃ r, r = f % 64 := ⟨_, rfl⟩
      have hr64 : r < 64 := by omega
      have e1 : (f : Int).tmod 64 = (r : Int) := by rw [Int.tmod_eq_emod_of_nonneg (by omega)]; omega
      rw [blk_step (by omega), ← hr] at hbl
      obtain ⟨k, hk⟩ : ∃ k, k = min (64 - r) (E - f) := ⟨_, rfl⟩
      rw [← hk] at hbl
      have hk1 : 1 ≤ k ∧ k ≤ E - f ∧ r + k ≤ 64 := by omega
      have hx : o ≤ f ∧ f % 64 + k ≤ 64 ∧ 1 ≤ k ∧ f + k ≤ o + m := by have := HE.out; omega
      obtain ⟨x, hxv⟩ : ∃ x : Pz o m, x.1 = (f, k) := ⟨⟨(f, k), hx⟩, rfl⟩
      obtain ⟨fn, tmps, assign, body, hy, hR⟩ := HY.out pre x wr hJ (by have := HE.out; omega)
      unfold encP at hy
      rw [hxv] at hy
      dsimp only at hy
      have HXV := Lib.hid hxv
      have HP := Lib.hid hp
      have HK := Lib.hid hk
      have HBL := Lib.hid hbl
      have HH := Lib.hid (And.intro hof hpl)
      have hE3 : E - f + f = E := by omega
      clear hp hk hbl hr hof hpl hx hxv
      generalize shOf f = sh at *
      generalize atOf f = at' at *
      gi_wp2_with (first
        | (refine ⟨trivial, ?_⟩; gi_at_call 10; refine (callsIn_wide.2 HP.out).mono ?_; rintro e w' ⟨rfl, rfl⟩)
        | ((with_reducible refine minIn_step (dst := some 29) (n1 := 64 - r) (n2 := E - f) (n3 := k) rfl ?_ ?_ HK.out ?_); exact congrArg (Value.int .i64) (by omega); exact congrArg (Value.int .i64) (by omega)))
      refine hR.mono ?_
      have q1 : (f : Int) + (k : Int) ≤ 9223372036854775807 := by omega
      clear e1 hE3 hr64 hl4 hy hR
      rintro e W3 (⟨rfl, hJ3, -⟩ | ⟨rfl, hJx3⟩)
      · gi_wp2
        go_roundw
        case rel => exact ⟨f + k, pre ++ [x], by have := HH.out; omega, by omega, by go_num, by unfold valsP; rw [List.map_append, List.map_cons, List.map_nil, HXV.out, List.append_assoc, ← Nat.sub_sub]; exact HBL.out, by have := HH.out; rw [List.length_append]; simp; omega, hJ3⟩
        case measure => simp [intOf]; omega
      · gi_wp2
        refine bodyPost_ret (results_none rfl _ _ _) rfl ?_
        exact ⟨⟨_, rfl⟩, .inr ⟨_, trivial, hJx3⟩⟩
    · obtain rfl : f = E := by omega
      have hl4 : decide ((f : Int) < (f : Int)) = false := decide_eq_false (by omega)
      rw [Nat.sub_self, blk_zero, List.append_nil] at hbl
      gi_wp2
      go_end0
      exact ⟨⟨_, rfl⟩, .inl ⟨pre, hbl, hJ⟩⟩
/-- What blocks answers keeps the contract of an iterator. -/
theorem blocks_stops (B1 B2 o m n : Nat) (hn1 : 1 ≤ n) (hb : o + m ≤ 9223372036854775807) (w : World) (hB1 : B1 < w.heap.size) (hB2 : B2 < w.heap.size) (h1 : w.cell? ⟨B1, 0, none⟩ = some (.int .i64 (o : Int))) (h2 : w.cell? ⟨B2, 0, none⟩ = some (.int .i64 (m : Int))) :
    SeqStopsK Fence.wide n Try.prog 24 #[.pointer (some ⟨B1, 0, none⟩), .pointer (some ⟨B2, 0, none⟩)] (encP (o := o) (m := m)) (fun _ _ => True) (fun ys => valsP ys = blkL o m) (fun _ => True) m w := fun l J Jx W hW _ _ hY h0 =>
  blocks1_any l B1 B2 o m n hn1 hb J Jx hY W ((hW.cell (p := ⟨B1, 0, none⟩) hB1).trans h1) ((hW.cell (p := ⟨B2, 0, none⟩) hB2).trans h2) h0
end Go.Proofs.Ytjpehjgcpnogiaa.Gf
