/- What is proved here: small facts that the walks of layer 9 share: the ends of a file's records in memory, contracts within regions. No condition. -/
import Derived.Test.YtlnccofanicihaaDoorQ9a
import Derived.Test.YtlnccofanicihaaDoorR9i
import Derived.Test.YtlnccofanicihaaDoorR9j
import Derived.Test.YtlnccofanicihaaDoorM9e
namespace Go.Proofs.YtlnccofanicihaaDoor.Gf
open Go Go.Joins Go.ChangeShapes Go.WideShapes Go.ChangeAt Go.RowKit Go.Deep Go.Proofs.YtlnccofanicihaaDoor.By Go.Proofs.YtlnccofanicihaaDoor.Crc Go.Proofs.YtlnccofanicihaaDoor.Qt

/-- What small makes can be written. -/
theorem good_small {w : World} {v : Value} {L : List Ndl} (h : Ns w v L) : GoodN (smL L) := by
  obtain ⟨M, rfl, ⟨h0, -⟩, h1⟩ := h
  intro x hx
  unfold smL at hx
  obtain ⟨y, hy, rfl⟩ := List.mem_map.1 hx
  obtain ⟨r, hr, rfl⟩ := List.mem_map.1 (List.mem_of_mem_take hy)
  have ok := h0 r hr
  have sl := h1 r hr
  have hk := ok.key
  have hc := ok.ck
  have hb := sl.1
  constructor
  · refine ⟨?_, hc, ?_⟩
    · unfold smN
      dsimp only
      split <;> omega
    · unfold smN
      dsimp only
      split
      · intro b hb2
        cases hb2
      · exact fun b hb2 => hb b (List.mem_of_mem_take hb2)
  · unfold encE smN
    dsimp only
    cases r.x.del <;> simp <;> omega
/-- The slice value v reads as the numbers l. -/
def Ei (w : World) (v : Value) (l : List Nat) : Prop := ∃ a cap, v = .slice a l.length cap ∧ l.length ≤ cap ∧ cap ≤ maxLen ∧ (0 < l.length → ∃ b off, a = some ⟨b, off, none⟩ ∧ ∀ j, j < l.length → w.cell? ⟨b, off + j, none⟩ = some (.int .i64 ((l.getD j 0 : Nat) : Int)))
theorem ei_below {w w' : World} {v : Value} {l : List Nat} (h : Ei w v l) (hB : Below w.heap.size w w') : Ei w' v l := by
  obtain ⟨a, cap, h1, h2, h3, h4⟩ := h
  refine ⟨a, cap, h1, h2, h3, fun hp => ?_⟩
  obtain ⟨b, off, e, hc⟩ := h4 hp
  exact ⟨b, off, e, fun j hj => (hB.cell (block_lt_of_cell (hc j hj))).trans (hc j hj)⟩
theorem ei_row {w : World} {base : Nat} {v : Value} {l : List Nat} (h : w.ownsRow base 2 1 v l.length (endsV l)) : Ei w v l := by
  obtain ⟨_, ⟨rfl, h2⟩ | ⟨g, cap, cur, rfl, hg, hb, hn, hm, hsz, ht⟩⟩ := h
  · exact ⟨none, 0, by rw [h2], by omega, by simp, fun h => by omega⟩
  · refine ⟨_, _, rfl, hn, hm, fun _ => ⟨g, 0, rfl, fun j hj => ?_⟩⟩
    rw [Nat.zero_add, cell_of_row w g j cur _ (0, 0) hb]
    have h6 := endsV_get l hj
    rw [← ht, List.getElem?_take] at h6
    split at h6
    · simpa using h6
    · cases h6
theorem ei_form {w : World} {v : Value} {l : List Nat} (h : Ei w v l) : ∃ a cap, v = .slice a l.length cap ∧ l.length ≤ cap ∧ cap ≤ maxLen := by
  obtain ⟨a, cap, h1, h2, h3, -⟩ := h
  exact ⟨a, cap, h1, h2, h3⟩
theorem ei_cells {w : World} {v : Value} {l : List Nat} (h : Ei w v l) (hp : 0 < l.length) : ∃ b off cap, v = .slice (some ⟨b, off, none⟩) l.length cap ∧ ∀ j, j < l.length → w.cell? ⟨b, off + j, none⟩ = some (.int .i64 ((l.getD j 0 : Nat) : Int)) := by
  obtain ⟨a, cap, h1, h2, h3, h4⟩ := h
  obtain ⟨b, off, rfl, hc⟩ := h4 hp
  exact ⟨b, off, cap, h1, hc⟩
/-- The place at which the law tears a file of n2 bytes. -/
theorem torn_at (n0 : Int) {n2 : Nat} (h : 16 ≤ n2) (h2 : n2 ≤ 60000) : ∃ (M c : Nat) (t sv rv : Int), n0.tmod (M : Int) = t ∧ rv.tmod (M : Int) = (c : Int) ∧ 1 ≤ M ∧ 16 + c ≤ n2 ∧ wrap64 ((n2 : Int) - 15) = (M : Int) ∧ wrap64 (t + (n2 : Int)) = sv ∧ wrap64 (sv - 15) = rv ∧ wrap64 (16 + (c : Int)) = ((16 + c : Nat) : Int) := by
  obtain ⟨M, hM⟩ : ∃ M, M = n2 - 15 := ⟨_, rfl⟩
  have h1 := Int.tmod_lt_of_pos n0 (b := (M : Int)) (by omega)
  have h2' := Int.lt_tmod_of_pos n0 (b := (M : Int)) (by omega)
  have h3 := Int.emod_lt_of_pos (n0.tmod (M : Int) + (M : Int)) (show (0 : Int) < (M : Int) by omega)
  have h4 := Int.emod_nonneg (n0.tmod (M : Int) + (M : Int)) (show (M : Int) ≠ 0 by omega)
  obtain ⟨t, ht⟩ : ∃ t, t = n0.tmod (M : Int) := ⟨_, rfl⟩
  rw [← ht] at h1 h2' h3 h4
  obtain ⟨c, hc⟩ : ∃ c : Nat, (c : Int) = (t + (M : Int)) % (M : Int) := ⟨((t + (M : Int)) % (M : Int)).toNat, Int.toNat_of_nonneg h4⟩
  rw [← hc] at h3 h4
  refine ⟨M, c, t, t + (n2 : Int), t + (M : Int), ht.symm, ?_, by omega, by omega, ?_, ?_, ?_, ?_⟩
  · rw [Int.tmod_eq_emod_of_nonneg (by omega), ← hc]
  · clear ht hc
    unfold wrap64; omega
  · clear ht hc
    unfold wrap64; omega
  · clear ht hc
    unfold wrap64; omega
  · clear ht hc
    unfold wrap64; omega
theorem wrap_two {p r q : Nat} (h : p + r = q) (hq : q < 1000000000) : wrap64 ((p : Int) + (r : Int)) = (q : Int) ∧ IntKind.i64.wrap ((p : Int) + (r : Int)) = (q : Int) :=
  ⟨by unfold wrap64; omega, (IntWalk.i64_in _ (by omega)).trans (by omega)⟩
/-- A call that only reads, in a region. -/
theorem below_of_same {P : Program} {f : FuncId} {args : Array Value} {w : World} {v : Value} (h : Calls P f args w fun e w' => e = .returned v ∧ w = w') : Calls P f args w fun e w' => e = .returned v ∧ Below w.heap.size w w' := h.mono fun _ _ ⟨h1, h2⟩ => ⟨h1, h2 ▸ Below.refl _ _⟩
end Go.Proofs.YtlnccofanicihaaDoor.Gf
