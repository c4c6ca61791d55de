/- What is proved here: append of a slice of rows that came in, empty or not. No condition. -/
import Derived.Test.YtjpehjgcpnogiaaRo
namespace Go.Proofs.Ytjpehjgcpnogiaa.Gf
open Go Go.Joins Go.ChangeShapes Go.WideShapes Go.ChangeAt Go.RowKit Go.Deep Go.Proofs.Ytjpehjgcpnogiaa.By

theorem run_app_rows0 {W : World} {b0 : Nat} {v : Value} {vs : List Value} {L : List (List Nat)} (ty : TypeId) (hv : OwnK W b0 v vs L) (a : Option Addr) (cap : Nat) (hlm : L.length ≤ 1000) (hb : b0 ≤ W.heap.size) :
    ∃ v' w', (Builtin.append_ #[31, 31] ty #[v, .slice a 0 cap]).run Try.prog W = .ok v' w' ∧ OwnK w' b0 v' vs L ∧ W.grownBy w' v.ownBlock := by
  obtain ⟨i, hi, hz0, hz1, hz2⟩ := info_parts infoS
  have hl := hv.len
  cases a with
  | some a =>
    obtain ⟨v', w', hr, ho, hg, _⟩ := run_append_own (P := Try.prog) W b0 31 ty 28 i (.slice none 0 0) 1 24 Try.underlying31 hi hz0 hz1 hz2 rfl (by decide) _ _ _ hv.row a 0 cap [] rfl (fun j u hu => by simp at hu) (fun u hu => by simp at hu) (by unfold maxLen; omega) (by omega) hb
    exact ⟨v', w', hr, ⟨by simpa using ho, hl, fun k hk => (hv.kp k hk).grow hv.row hg⟩, hg⟩
  | none =>
    have hsame : W.grownBy W v.ownBlock := ⟨rfl, rfl, rfl, Nat.le_refl _, fun _ _ _ => rfl⟩
    rcases hv.row.2 with ⟨rfl, h0⟩ | ⟨g', cp, cur, rfl, hg, hbk, hn, hcm, hsz, ht⟩
    · refine ⟨.slice none 0 0, W, ?_, hv, hsame⟩
      simp [Builtin.append_, run_underlying Try.underlying31, sizeOf, typeInfo, hi, Builtin.lenOf, Builtin.firstCells]
    · refine ⟨_, W, ?_, hv, hsame⟩
      simp [Builtin.append_, run_underlying Try.underlying31, sizeOf, typeInfo, hi, Builtin.lenOf, Builtin.firstCells, loadCells, storeCells, hn]
theorem app_rows_sr {ops : Array Oper} {rest : List Oper} {dst : Option Tmp} {s x : Operand} {pos : String} {after : Array Edge} {ty : TypeId} {a : Act} {W w0 : World} {Q : Exit → Act → World → Prop}
    {b0 n : Nat} {v y : Value} {vs : List Value} {L P : List (List Nat)} (hs : a.eval s = v) (hy : a.eval x = y) (hv : OwnK W b0 v vs L) (hn : L.length = n) (hx : Sr w0 y P) (hw : w0.heap.size ≤ b0) (hB : Below w0.heap.size w0 W) (hlm : n + P.length ≤ 1000) (hb : b0 ≤ W.heap.size)
    (h : ∀ v' w' ys, OwnK w' b0 v' ys (L ++ P) → W.grownBy w' v.ownBlock → wpList Try.prog ops Q rest (a.put dst v') w') : wpList Try.prog ops Q (⟨dst, .call { callee := .builtin .append, args := #[s, x], argTypes := #[31, 31] }, ty, pos, after, none⟩ :: rest) a W := by
  by_cases hp : 0 < P.length
  · exact app_rows hs hy hv hn (hx.src hp hw hB) hlm hb fun v' w' ys h1 h2 => h v' w' _ h1 h2
  · obtain rfl : P = [] := List.eq_nil_of_length_eq_zero (by omega)
    obtain ⟨xa, xc, rfl, -, -⟩ := sr_form hx
    refine wpList_plain rfl fun _ hK => ?_
    obtain ⟨v', w', hr, h2, h3⟩ := run_app_rows0 ty hv xa xc (by omega) hb
    unfold Oper.wp execOp
    simp only [resolve, invoke, builtin, Sem.run_bind, Sem.run_pure, Result.andThen_ok, List.map_toArray, List.map_cons, List.map_nil, hs, hy]
    rw [show (Value.slice xa ([] : List (List Nat)).length xc) = .slice xa 0 xc from rfl, hr]
    exact hK _ _ (h v' w' vs (by rw [List.append_nil]; exact h2) h3)
end Go.Proofs.Ytjpehjgcpnogiaa.Gf
