/- What is proved here: a map from keys to items, as the walk reads it: put, delete, and what a range over it gives. No program text. -/
import Derived.Test.YtbmlpafbdbhaiaaGreatDoorVm
import Derived.Maps.OwnSet
import Derived.Maps.RangeWalk
import Derived.Sort.MapsRangeIn
namespace Go.Proofs.YtbmlpafbdbhaiaaGreatDoor.Gf
open Go Go.Joins Go.ChangeShapes Go.WideShapes Go.ChangeAt Go.RowKit Go.Deep Go.Proofs.YtbmlpafbdbhaiaaGreatDoor.By Go.Proofs.YtbmlpafbdbhaiaaGreatDoor.Qt
set_option maxRecDepth 100000
set_option maxHeartbeats 204800000
/-- An item as it stands in a map. -/
def encD (x : Itm) : DataW Unit := .agg [.lit (.int .u64 (x.key : Int)), .lit (.int .u32 (x.ck : Int)), .lit (.int .i64 x.off), .lit (.int .i64 x.sz)]
theorem encD_inj {x y : Itm} (h : encD x = encD y) : x = y := by
 obtain ⟨a, b, c, d⟩ := x
 obtain ⟨a2, b2, c2, d2⟩ := y
 simp [encD] at h
 obtain ⟨h1, h2, rfl, rfl⟩ := h
 obtain rfl : a = a2 := by omega
 obtain rfl : b = b2 := by omega
 rfl
theorem TV_inj {x y : Itm} (h : TV x = TV y) : x = y := by
 obtain ⟨a, b, c, d⟩ := x
 obtain ⟨a2, b2, c2, d2⟩ := y
 simp [TV] at h
 obtain ⟨h1, h2, rfl, rfl⟩ := h
 obtain rfl : a = a2 := by omega
 obtain rfl : b = b2 := by omega
 rfl
open Classical in
/-- How an element reads. -/
noncomputable def itE (v : Value) : Option (DataW Unit × List MemPlace) := if h : ∃ x, ItOk x ∧ v = TV x then some (encD h.choose, []) else none
theorem itE_mk {x : Itm} (h : ItOk x) : itE (TV x) = some (encD x, []) := by
 have he : ∃ y, ItOk y ∧ TV x = TV y := ⟨x, h, rfl⟩
 unfold itE
 rw [dif_pos he]
 have := TV_inj he.choose_spec.2
 rw [← this]
theorem itE_inv {v : Value} {z : DataW Unit × List MemPlace} (h : itE v = some z) : ∃ x, ItOk x ∧ v = TV x ∧ z = (encD x, []) := by
 unfold itE at h
 split at h
 case isTrue he => exact ⟨he.choose, he.choose_spec.1, he.choose_spec.2, (Option.some.inj h).symm⟩
 case isFalse => cases h
abbrev kL (k : Nat) : Lit := .int .u64 (k : Int)
theorem kL_inj {a b : Nat} (h : kL a = kL b) : a = b := by
 have : (a : Int) = (b : Int) := by simpa [kL] using h
 omega
theorem kL_wf {k : Nat} (h : k < 18446744073709551616) : (kL k).wf = true := by
 have h2 : (k : Int) ≤ 18446744073709551615 := by omega
 show (decide ((0 : Int) ≤ (k : Int)) && decide ((k : Int) ≤ 18446744073709551615)) = true
 rw [decide_eq_true (by omega), decide_eq_true h2]
 rfl
/-- A datum is the map f. -/
structure MapF (D : DataW Unit) (f : Nat → Option Itm) : Prop where
 at' : ∀ (k : Nat) (x : Itm), f k = some x → ∀ zd, D.atKey (kL k) zd = encD x
 no : ∀ k : Nat, f k = none → Maps.has D (kL k) = false
 ok : ∀ (k : Nat) (x : Itm), f k = some x → x.key = k ∧ ItOk x
theorem mapF_nil : MapF (.map []) (fun _ => none) := ⟨(fun k x h => by cases h), (fun k _ => rfl), (fun k x h => by cases h)⟩
/-- A Go map in memory that is the map f. -/
def MI (P : Program) (k : TypeId) (w : World) (b n : Nat) (f : Nat → Option Itm) : Prop := ∃ D, w.ownsMap P k itE b n D ∧ MapF D f
variable {P : Program} {k e t : TypeId}
theorem mi_made (w : World) : MI P k (w.alloc (.map #[] 0)) w.heap.size 0 (fun _ => none) := ⟨_, World.ownsMap_made w P k itE, mapF_nil⟩
theorem mi_below {w w' : World} {b n : Nat} {f : Nat → Option Itm} (h : MI P k w b n f) (hB : Below w.heap.size w w') : MI P k w' b n f := by
 obtain ⟨D, h1, h2⟩ := h
 have hl := h1.lt
 obtain ⟨es, cl, hb, F, hs, hd⟩ := h1
 exact ⟨D, ⟨es, cl, (hB.block b hl).trans hb, F, hs, hd⟩, h2⟩
theorem mapF_put {D : DataW Unit} {f : Nat → Option Itm} (h : MapF D f) (hm : Maps.IsMap D) {y : Itm} (hy : ItOk y) : MapF (D.put (kL y.key) (encD y)) (fun q => if y.key = q then some y else f q) := by
 have hk : WideAt.IsKeyLit (kL y.key) := trivial
 refine ⟨fun q x hq zd => ?_, fun q hq => ?_, fun q x hq => ?_⟩
 · by_cases e : y.key = q
   · rw [if_pos e] at hq
     cases hq
     rw [← e, Maps.atKey_put_same hm hk]
   · rw [if_neg e] at hq
     rw [Maps.atKey_put_other (fun h => e (kL_inj h).symm), h.at' q x hq]
 · by_cases e : y.key = q
   · rw [if_pos e] at hq; cases hq
   · rw [if_neg e] at hq
     rw [Maps.has_put_other (fun h => e (kL_inj h).symm), h.no q hq]
 · by_cases e : y.key = q
   · rw [if_pos e] at hq; cases hq; exact ⟨e, hy⟩
   · rw [if_neg e] at hq; exact h.ok q x hq
theorem mapF_del {D : DataW Unit} {f : Nat → Option Itm} (h : MapF D f) (r : Nat) : MapF (D.del (kL r)) (fun q => if r = q then none else f q) := by
 refine ⟨fun q x hq zd => ?_, fun q hq => ?_, fun q x hq => ?_⟩
 · by_cases e : r = q
   · rw [if_pos e] at hq; cases hq
   · rw [if_neg e] at hq
     rw [Maps.atKey_del_other (fun h => e (kL_inj h).symm), h.at' q x hq]
 · by_cases e : r = q
   · rw [← e, Maps.has_del_same]
   · rw [if_neg e] at hq
     rw [Maps.has_del_other (fun h => e (kL_inj h).symm), h.no q hq]
 · by_cases e : r = q
   · rw [if_pos e] at hq; cases hq
   · rw [if_neg e] at hq; exact h.ok q x hq
/-- 'm[x.Key] = x' at the operation. -/
theorem mi_put (hk : P.underlying k = some (.int .u64)) (ht : P.underlying t = some (.map k e)) {w : World} {ops : Array Oper} {rest : List Oper} {o : Oper} {a : Act} {Q : Exit → Act → World → Prop} (hg : o.guard = none) {m x v : Operand} (hop : o.op = Op.mapUpdate t m x v)
 {b n : Nat} {f : Nat → Option Itm} {y : Itm} (h : MI P k w b n f) (hn : n < maxLen) (hy : ItOk y) (hm : a.eval m = .map (some b)) (hx : a.eval x = .int .u64 (y.key : Int)) (hv : a.eval v = TV y)
 (hK : ∀ w', MI P k w' b (n + 1) (fun q => if y.key = q then some y else f q) → w.grownBy w' (some b) → wpList P ops Q rest (a.put o.dst undef) w') : wpList P ops Q (o :: rest) a w := by
 obtain ⟨D, hD, hF⟩ := h
 exact wpList_mapUpdate_own w hg m x v t hop k e (Maps.int_keyed hk) ht itE b n D hm hD hn _ _ (kL y.key) hx hv (Maps.keyOf_int_mk hk (kL_wf hy.key)) (encD y) [] (itE_mk hy) fun w' h1 h2 => hK w' ⟨_, h1, mapF_put hF hD.isMap hy⟩ h2
/-- 'delete(m, r)' at the operation. -/
theorem mi_del (hk : P.underlying k = some (.int .u64)) (ht : P.underlying t = some (.map k e)) {w : World} {ops : Array Oper} {rest : List Oper} {o : Oper} {a : Act} {Q : Exit → Act → World → Prop} (hg : o.guard = none) {m x : Operand} (hop : o.op = Op.call { callee := Callee.builtin Builtin.delete, args := #[m, x], argTypes := #[t, k] })
 {b n r : Nat} {f : Nat → Option Itm} (h : MI P k w b n f) (hr : r < 18446744073709551616) (hm : a.eval m = .map (some b)) (hx : a.eval x = .int .u64 (r : Int))
 (hK : ∀ w', MI P k w' b n (fun q => if r = q then none else f q) → w.grownBy w' (some b) → wpList P ops Q rest (a.put o.dst (.tuple #[])) w') : wpList P ops Q (o :: rest) a w := by
 obtain ⟨D, hD, hF⟩ := h
 exact wpList_delete_own w hg m x t k hop e (Maps.int_keyed hk) ht itE b n D hm hD _ (kL r) hx (Maps.keyOf_int_mk hk (kL_wf hr)) fun w' h1 h2 => hK w' ⟨_, h1, mapF_del hF r⟩ h2.grown
/-- What a range over the map has given. -/
def CollI (f : Nat → Option Itm) (left : Lit → Bool) (xs : List { x : Itm // ItOk x }) : Prop := (xs.map fun x => x.1.key).Nodup ∧ ∀ x : { x : Itm // ItOk x }, x ∈ xs ↔ f x.1.key = some x.1 ∧ left (kL x.1.key) = false
theorem coll_start {D : DataW Unit} {f : Nat → Option Itm} (h : MapF D f) : CollI f (Maps.has D) [] := ⟨List.nodup_nil, fun x => by
 constructor
 · intro hx; cases hx
 · rintro ⟨h1, h2⟩
   rw [Maps.has_true_of_atKey (h.at' _ _ h1)] at h2
   cases h2⟩
theorem coll_step {D : DataW Unit} {f : Nat → Option Itm} (h : MapF D f) {left : Lit → Bool} {xs : List { x : Itm // ItOk x }} (hc : CollI f left xs) {key : Nat} {c : Itm} (hl : left (kL key) = true) (hc0 : ItOk c) (hat : ∀ zd, D.atKey (kL key) zd = encD c) :
 f c.key = some c ∧ c.key = key ∧ CollI f (fun z => left z && !z.sameKey (kL key)) (xs ++ [⟨c, hc0⟩]) := by
 have hf : f key = some c := by
  cases hq : f key with
  | none =>
   have h1 := h.no key hq
   rw [Maps.has_true_of_atKey hat] at h1
   cases h1
  | some x =>
   have h1 := h.at' key x hq (.lit (kL 0))
   rw [hat] at h1
   rw [encD_inj h1]
 have hk : c.key = key := (h.ok key c hf).1
 refine ⟨by rw [hk]; exact hf, hk, ?_, fun x => ?_⟩
 · rw [List.map_append, List.nodup_append]
   refine ⟨hc.1, by simp, fun a ha b hb e => ?_⟩
   simp at hb
   rw [List.mem_map] at ha
   obtain ⟨y, hy, rfl⟩ := ha
   have := ((hc.2 y).1 hy).2
   rw [show y.1.key = key by rw [e, hb, hk], hl] at this
   cases this
 · rw [List.mem_append, List.mem_singleton, hc.2 x]
   constructor
   · rintro (⟨h1, h2⟩ | rfl)
     · exact ⟨h1, by show (left (kL x.1.key) && !(kL x.1.key).sameKey (kL key)) = false; rw [h2]; rfl⟩
     · refine ⟨by rw [hk]; exact hf, ?_⟩
       show (left (kL c.key) && !(kL c.key).sameKey (kL key)) = false
       rw [hk, show (kL key).sameKey (kL key) = true by simp [Lit.sameKey]]
       simp
   · rintro ⟨h1, h2⟩
     by_cases e : x.1.key = key
     · right
       rw [e, hf] at h1
       exact Subtype.ext (Option.some.inj h1).symm
     · left
       refine ⟨h1, ?_⟩
       have h3 : (left (kL x.1.key) && !(kL x.1.key).sameKey (kL key)) = false := h2
       rw [Maps.sameKey_ne (fun h => e (kL_inj h))] at h3
       simpa using h3
/-- All have come. -/
def AllI (f : Nat → Option Itm) (xs : List { x : Itm // ItOk x }) : Prop := (xs.map fun x => x.1.key).Nodup ∧ ∀ x : { x : Itm // ItOk x }, x ∈ xs ↔ f x.1.key = some x.1
/-- A part has come. -/
def PartI (f : Nat → Option Itm) (xs : List { x : Itm // ItOk x }) : Prop := (xs.map fun x => x.1.key).Nodup ∧ ∀ x ∈ xs, f x.1.key = some x.1
theorem coll_all {f : Nat → Option Itm} {left : Lit → Bool} {xs : List { x : Itm // ItOk x }} (h : CollI f left xs) (hl : ∀ kl, left kl = false) : AllI f xs := ⟨h.1, fun x => by rw [h.2 x, hl]; simp⟩
theorem coll_part {f : Nat → Option Itm} {left : Lit → Bool} {xs : List { x : Itm // ItOk x }} (h : CollI f left xs) : PartI f xs := ⟨h.1, fun x hx => ((h.2 x).1 hx).1⟩
end Go.Proofs.YtbmlpafbdbhaiaaGreatDoor.Gf
