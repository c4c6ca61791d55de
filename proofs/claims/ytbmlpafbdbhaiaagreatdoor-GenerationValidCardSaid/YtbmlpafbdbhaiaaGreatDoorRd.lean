/- What is proved here: in a round of a loop over an iterator, under the wide fence, a region without defer statements is walked as elsewhere. No program text. -/
import Derived.Test.YtbmlpafbdbhaiaaGreatDoorSq
import Derived.RangeFuncNested
import Derived.RangeFuncLeaves
import Derived.StillTailTactics
import Derived.WalkKit
import Derived.OwnWalkIn
import Derived.TacticsInMore
import Derived.LoopNIn
import Derived.LoopIn
import Derived.OrdersIn
namespace Go.Proofs.YtbmlpafbdbhaiaaGreatDoor.Rd
open Go Go.RowKit

theorem rowsIn_of {n : Nat} {P : Program} {row : String} {args : Array Value} {w : World} {l : Nat} {R : Value → World → Prop} (h : Rows P row args w R) : RowsIn (Fence.wide.inRound l) n P row args w R :=
 fun c cs _ => let ⟨v, w', r, s⟩ := h c cs; ⟨v, w', r, stepsIn_wide.2 s⟩
theorem callsIn_of {n : Nat} {P : Program} {f : FuncId} {args : Array Value} {w : World} {l : Nat} {R : Ending → World → Prop} (h : Calls P f args w R) : CallsIn (Fence.wide.inRound l) n P f args w R :=
 CallsIn.inRound l (callsIn_wide.2 h)
theorem uponIn_of {n : Nat} {P : Program} {o : Oper} {a : Act} {l : Nat} {next next' : Act → World → Prop} {Q : Exit → Act → World → Prop} (hn : ∀ a w, next a w → next' a w) (r : Result Next) (h : o.upon P a next Q r) :
 o.uponIn (Fence.wide.inRound l) n P a next' Q r := by
 unfold Oper.upon at h
 split at h
 ·exact hn _ _ h
 ·exact hn _ _ h
 ·exact hn _ _ h
 ·refine ⟨fun h0 => ?_, callsIn_of (h.mono fun e w' he => ?_)⟩
  ·cases h0
  ·cases e with
   | returned v => exact hn _ _ he
   | panicked c => exact he
   | outgrown => exact he
 ·exact ⟨fun h0 => (by cases h0), rowsIn_of (h.mono fun v w' he => hn _ _ he)⟩
 ·exact h
 ·exact h.elim
/-- No operation is a defer statement. -/
def noDefB (ops : Array Oper) : Bool := ops.all fun o => match o.op with
 | .defer _ => false
 | _ => true
theorem noDef_spec {ops : Array Oper} (h : noDefB ops = true) {i : Nat} {o : Oper} (ho : ops[i]? = some o) (c : Call) : o.op ≠ .defer c := fun e => by
 obtain ⟨hi, rfl⟩ := Array.getElem?_eq_some_iff.1 ho
 have h1 := Array.all_eq_true.1 h i hi
 rw [e] at h1
 cases h1
theorem opsIn_of {n : Nat} {P : Program} {ops : Array Oper} {l : Nat} {Q : Exit → Act → World → Prop} (hd : noDefB ops = true) (hQ : ¬ LetsOut Q) :
 ∀ (is : List Nat) (a : Act) (w : World), wpOps P ops Q is a w → wpOpsIn (Fence.wide.inRound l) n P ops Q is a w
 | [], _, _, h => h
 | i :: is, a, w, h => by
  unfold wpOps at h
  unfold wpOpsIn
  cases ho : ops[i]? with
  | none =>
   simp only [ho] at h ⊢
   exact opsIn_of hd hQ is a w h
  | some o =>
   simp only [ho] at h ⊢
   by_cases hw : Region.wanted o (yielded ops a.tmps) = true
   ·rw [if_pos hw] at h ⊢
    rcases h with h | ⟨_, h⟩
    ·refine ⟨fun _ _ => trivial, ?_⟩
     unfold Oper.wp at h
     rw [show (Fence.wide.inRound l).round = some l from rfl, Oper.semAt_some l a.eval o (noDef_spec hd ho)]
     exact uponIn_of (fun a w => opsIn_of hd hQ is a w) _ h
    ·exact absurd h hQ
   ·rw [if_neg hw] at h ⊢
    exact ⟨fun _ _ => trivial, opsIn_of hd hQ is _ w h⟩
theorem wpIn_any {n : Nat} {P : Program} {id : Nat} {ops : Array Oper} {l : Nat} {Q : Exit → Act → World → Prop} {a : Act} {w : World} (hm : P.follows .mixedOrders = true) (hd : noDefB ops = true) (hQ : ¬ LetsOut Q)
 (h : wpAny P .any ops Q ops.size (Array.replicate ops.size false) a { w with drawn := w.drawn + 1 }) : (Code.region id ops true).wpIn (Fence.wide.inRound l) n P Q a w :=
 wpIn_region_draw fun t => by
  simp only [Region.schedule, hm, Bool.true_or, if_true]
  exact opsIn_of hd hQ _ _ _ (wpAny_sound ops.size t _ a _ h)
end Go.Proofs.YtbmlpafbdbhaiaaGreatDoor.Rd
