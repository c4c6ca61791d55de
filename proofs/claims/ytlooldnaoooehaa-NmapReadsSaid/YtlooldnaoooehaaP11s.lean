/- What is proved here: the laws' light; appending one item to a slice of a call's own, and where the answer lies. -/
import Derived.Test.YtlooldnaoooehaaP11r
import Derived.Maps.AppendAt
namespace Go.Proofs.Ytlooldnaoooehaa.Gf
open Go Go.Joins Go.ChangeShapes Go.WideShapes Go.ChangeAt Go.RowKit Go.Deep Go.Proofs.Ytlooldnaoooehaa.By Go.Proofs.Ytlooldnaoooehaa.Qt

/-- What light answers. -/
def LgO (m : Mp) (e : Ending) : Prop := ∃ q : Bool, e = .returned (.bool q) ∧ (q = true → FewN m 10)
set_option maxRecDepth 100000 in
set_option maxHeartbeats 6400000 in
theorem light11_any (v : Value) (m : Mp) (w : World) (hv : Mv w v m) : Calls Try.prog 9 #[v] w fun e w' => LgO m e ∧ Below w.heap.size w w' := by
  obtain ⟨s0, s1, s2, s3, s4, s5, s6, s7, rfl, hms⟩ := hv
  have BX := Lib.hid (bel_al w (.cells #[s0, s1, s2, s3, s4, s5, s6, s7, .int .i64 m.live, .int .i64 m.garb] 25))
  have HX := Lib.hid (heap_alloc_new w (.cells #[s0, s1, s2, s3, s4, s5, s6, s7, .int .i64 m.live, .int .i64 m.garb] 25))
  have MS := Lib.hid (ms_below hms BX.out)
  clear hms
  go_enter Try.func9, Try.ntmps9
  go_upto_region 1 with fail
  generalize w.alloc (.cells #[s0, s1, s2, s3, s4, s5, s6, s7, .int .i64 m.live, .int .i64 m.garb] 25) = W1 at *
  go_wp2_with fail
  go_loop [4] (fun t4 => ∃ k : Nat, k ≤ 8 ∧ t4 = .int .i64 (k : Int) ∧ Hid (∀ s, s < k → (ms m s).length ≤ 10)) (fun t => 8 - (intOf t).toNat)
  case atStart => exact ⟨0, by omega, rfl, Lib.hid (fun s h => by omega)⟩
  case round =>
    obtain ⟨k, hk, rfl, HO⟩ := hrel
    by_cases hlt : k < 8
    case neg =>
      have l1 : decide ((k : Int) < 8) = false := decide_eq_false (by omega)
      have l2 : decide (k < 8) = false := decide_eq_false hlt
      have HF := Lib.hid (show FewN m 10 from fun s hs => HO.out s (by omega))
      clear hlt hk HO
      go_wp2_with fail
      go_ret
      exact ⟨⟨true, rfl, fun _ => HF.out⟩, BX.out⟩
    have l1 : decide ((k : Int) < 8) = true := decide_eq_true (by omega)
    have l2 : decide (k < 8) = true := decide_eq_true hlt
    have HK := Lib.hid hlt
    have EK := Lib.hid (show wrap64 ((k : Int) + 1) = ((k + 1 : Nat) : Int) by unfold wrap64; omega)
    obtain ⟨a, c, hsel, -⟩ := MS.out.2.2.2 k hlt
    have hcell := bxk HX.out hlt hsel
    obtain ⟨n, hn⟩ : ∃ z, z = (ms m k).length := ⟨_, rfl⟩
    rw [← hn] at hcell
    have HN := Lib.hid hn
    have p0 : (0 : Int) ≤ (k : Int) := by omega
    have p1 : (k : Int) < 8 := by omega
    clear hsel hn hlt hk
    by_cases hc : 10 < n
    case pos =>
      have l3 : decide ((10 : Int) < (n : Int)) = true := decide_eq_true (by omega)
      have l4 : decide (10 < n) = true := decide_eq_true hc
      clear hc HO
      go_wp2_with fail
      go_ret
      exact ⟨⟨false, rfl, fun h => by cases h⟩, BX.out⟩
    have l3 : decide ((10 : Int) < (n : Int)) = false := decide_eq_false (by omega)
    have l4 : decide (10 < n) = false := decide_eq_false hc
    have HO1 := Lib.hid (show ∀ s, s < k + 1 → (ms m s).length ≤ 10 from fun s hs => by
      rcases Nat.lt_or_ge s k with h | h
      · exact HO.out s h
      · obtain rfl : s = k := by omega
        rw [← HN.out]; omega)
    clear hc HO
    go_wp2_with fail
    go_round
    case rel =>
      have h1 := HK.out
      exact ⟨k + 1, by omega, by first | rw [EK.out] | rfl, HO1⟩
    case measure =>
      have h1 := HK.out
      first | rw [EK.out] | skip
      simp [intOf]; omega
/-- append of one item: the answer lies where the slice lay, or in new memory. -/
theorem run_app_it1 {W : World} {base g c : Nat} {v : Value} {L : List Itm} {x : Itm} (ty : TypeId) (hv : OwT W base v L) (hx : It W (.slice (some ⟨g, 0, none⟩) 1 c) [x]) (hlm : L.length + 1 ≤ 100000000) (hb : base ≤ W.heap.size) :
    ∃ v' w', (Builtin.append_ #[22, 22] ty #[v, .slice (some ⟨g, 0, none⟩) 1 c]).run Try.prog W = .ok v' w' ∧ OwT w' base v' (L ++ [x]) ∧ W.grownBy w' v.ownBlock ∧ (v'.ownBlock = v.ownBlock ∨ v'.ownBlock = some W.heap.size) := by
  obtain ⟨i, hi, hz0, hz1, hz2⟩ := info_parts infoT
  obtain ⟨hl, hown⟩ := hv
  obtain ⟨hm, a, cp, he, hcp, hcm, hcell⟩ := hx
  obtain ⟨b, off, hab, hc⟩ := hcell (by simp)
  obtain ⟨rfl, -, rfl⟩ : a = some ⟨g, 0, none⟩ ∧ 1 = [x].length ∧ cp = c := by
    simp only [Value.slice.injEq] at he
    exact ⟨he.1.symm, he.2.1, he.2.2.symm⟩
  obtain ⟨rfl, rfl⟩ : g = b ∧ 0 = off := by simpa using hab
  have hall : ∀ y ∈ L ++ [x], ItOk y := fun y hy => (List.mem_append.1 hy).elim (hl y) (hm y)
  obtain ⟨v', w', hr, ho, hg, -, hat⟩ := run_append_own_at (P := Try.prog) W base 22 ty 37 i _ 4 32 Try.underlying22 hi hz0 hz1 hz2 rfl (by decide) _ _ _ hown ⟨g, 0, none⟩ 1 cp (cellsT [x]) (cellsT_length [x]) (fun j u hu => by rw [add_none]; exact hc j u hu) (cellsT_one [x]) (by unfold maxLen; omega) (by omega) hb
  exact ⟨v', w', hr, ⟨hall, by rw [List.length_append, cellsT_append]; exact ho⟩, hg, hat⟩
theorem wp_app_it1 {dst : Option Tmp} {s x : Operand} {pos : String} {after : Array Edge} {ty : TypeId} {gd : Option (Nat × Bool)} {a : Act} {W : World} {K : Act → World → Prop} {Q : Exit → Act → World → Prop}
    {base g c : Nat} {v : Value} {L : List Itm} {y : Itm} (hs : a.eval s = v) (hy : a.eval x = .slice (some ⟨g, 0, none⟩) 1 c) (hv : OwT W base v L) (hx : It W (.slice (some ⟨g, 0, none⟩) 1 c) [y]) (hlm : L.length + 1 ≤ 100000000) (hb : base ≤ W.heap.size)
    (h : ∀ v' w', OwT w' base v' (L ++ [y]) → W.grownBy w' v.ownBlock → (v'.ownBlock = v.ownBlock ∨ v'.ownBlock = some W.heap.size) → K (a.put dst v') w') : Oper.wp Try.prog ⟨dst, .call { callee := .builtin .append, args := #[s, x], argTypes := #[22, 22] }, ty, pos, after, gd⟩ a W K Q := by
  obtain ⟨v', w', hr, h2, h3, h4⟩ := run_app_it1 ty hv hx hlm hb
  unfold Oper.wp execOp
  simp only [resolve, invoke, builtin, Sem.run_bind, Sem.run_pure, Result.andThen_ok, List.map_toArray, List.map_cons, List.map_nil, hs, hy, hr]
  exact h v' w' h2 h3 h4
/-- Eight stripes of a call's own, in memory apart. -/
structure OwS (w : World) (base : Nat) (vs : List Value) (Ls : List (List Itm)) : Prop where
  own : ∀ k, k < 8 → ∃ v, vs[k]? = some v ∧ OwT w base v (Ls.getD k [])
  apart : ∀ j k, j < 8 → k < 8 → j ≠ k → ∀ u v b, vs[j]? = some u → vs[k]? = some v → u.ownBlock = some b → v.ownBlock ≠ some b
theorem OwS.below {w w' : World} {base : Nat} {vs : List Value} {Ls : List (List Itm)} (h : OwS w base vs Ls) (hb : Below w.heap.size w w') : OwS w' base vs Ls := ⟨fun k hk => by
  obtain ⟨v, h1, h2⟩ := h.own k hk
  exact ⟨v, h1, owT_below h2 hb⟩, h.apart⟩
/-- One of them has grown. -/
theorem OwS.grow {w w' : World} {base u : Nat} {vs vs' : List Value} {Ls : List (List Itm)} {v v' : Value} {L : List Itm} (h : OwS w base vs Ls) (hu : u < 8) (hv : vs[u]? = some v) (ho : OwT w' base v' L) (hg : w.grownBy w' v.ownBlock) (hat : v'.ownBlock = v.ownBlock ∨ v'.ownBlock = some w.heap.size)
    (hd : ∀ k, k < 8 → vs'[k]? = if k = u then some v' else vs[k]?) (hl : Ls.length = 8) : OwS w' base vs' (Ls.set u L) := by
  have hlt : ∀ k x b, k < 8 → vs[k]? = some x → x.ownBlock = some b → b < w.heap.size := fun k x b hk hx hb => by
    obtain ⟨x', h1, h2⟩ := h.own k hk
    rw [hx] at h1
    cases h1
    exact (owT_lt h2 b hb).2
  refine ⟨fun k hk => ?_, fun j k hj hk hjk x y b hx hy hxb hyb => ?_⟩
  · rw [hd k hk]
    by_cases e : k = u
    · subst e
      refine ⟨v', by rw [if_pos rfl], ?_⟩
      rw [List.getD_eq_getElem?_getD, List.getElem?_set_self (by omega)]
      exact ho
    · obtain ⟨x, h1, h2⟩ := h.own k hk
      refine ⟨x, by rw [if_neg e]; exact h1, ?_⟩
      rw [List.getD_eq_getElem?_getD, List.getElem?_set_ne (fun h => e h.symm), ← List.getD_eq_getElem?_getD]
      refine owT_keep h2 fun b hb => ?_
      exact hg.block b (hlt k x b hk h1 hb) (fun e2 => h.apart k u hk hu e x v b h1 hv hb e2.symm)
  · rw [hd j hj] at hx
    rw [hd k hk] at hy
    by_cases e1 : j = u
    · subst e1
      rw [if_pos rfl] at hx
      rw [if_neg (fun h => hjk h.symm)] at hy
      cases hx
      have hb := hlt k y b hk hy hyb
      rcases hat with h1 | h1
      · rw [h1] at hxb
        exact h.apart j k hj hk hjk v y b hv hy hxb hyb
      · rw [h1] at hxb
        cases hxb
        omega
    · rw [if_neg e1] at hx
      by_cases e2 : k = u
      · subst e2
        rw [if_pos rfl] at hy
        cases hy
        have hb := hlt j x b hj hx hxb
        rcases hat with h1 | h1
        · rw [h1] at hyb
          exact h.apart j k hj hk hjk x v b hx hv hxb hyb
        · rw [h1] at hyb
          cases hyb
          omega
      · rw [if_neg e2] at hy
        exact h.apart j k hj hk hjk x y b hx hy hxb hyb
end Go.Proofs.Ytlooldnaoooehaa.Gf
