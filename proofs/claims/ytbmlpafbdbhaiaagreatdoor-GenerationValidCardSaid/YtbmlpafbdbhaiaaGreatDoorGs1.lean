/- What is proved here: the library's sort of items by their places, as package generation calls it: a permutation that ascends. No condition but on lengths. -/
import Derived.Test.YtbmlpafbdbhaiaaGreatDoorJ11a
import Derived.Test.YtbmlpafbdbhaiaaGreatDoorChecked
import Derived.Test.YtbmlpafbdbhaiaaGreatDoorVm
import Derived.Test.YtbmlpafbdbhaiaaGreatDoorSrt
import Derived.Shelf.SlSortCmp.WholeK
namespace Go.Proofs.YtbmlpafbdbhaiaaGreatDoor.Gf
open Go Go.RowKit Go.ChangeAt Go.Shelf Go.Sort Go.Proofs
set_option maxRecDepth 100000
set_option maxHeartbeats 204800000

/-- An item's four cells. -/
def encI (x : Itm) : List Value := [.int .u64 (x.key : Int), .int .u32 (x.ck : Int), .int .i64 x.off, .int .i64 x.sz]
/-- The comparison of two places. -/
def cmpO (x y : Int) : Int := if x < y then -1 else if y < x then 1 else 0
theorem pcmp64_any (x y : Int) (w : World) : Calls Tryz.prog 87 #[.int .i64 x, .int .i64 y] w fun e w' => e = .returned (.int .i64 (cmpO x y)) ∧ w' = w := by
 unfold cmpO
 by_cases h1 : x < y
 ·rw [if_pos h1]
  have h2 : ¬ y < x := by omega
  have e1 : decide (x < y) = true := decide_eq_true h1
  go_enter Tryz.func87, Tryz.ntmps87
  go_wp2
  go_ret
  exact ⟨rfl, rfl⟩
 ·rw [if_neg h1]
  by_cases h2 : y < x
  ·rw [if_pos h2]
   have e1 : decide (x < y) = false := decide_eq_false h1
   have e2 : decide (y < x) = true := decide_eq_true h2
   go_enter Tryz.func87, Tryz.ntmps87
   go_wp2
   go_ret
   exact ⟨rfl, rfl⟩
  ·rw [if_neg h2]
   have e1 : decide (x < y) = false := decide_eq_false h1
   have e2 : decide (y < x) = false := decide_eq_false h2
   go_enter Tryz.func87, Tryz.ntmps87
   go_wp2
   go_ret
   exact ⟨rfl, rfl⟩
theorem pcmpItem_any (x y : Itm) (W : World) : Calls Tryz.prog 86 #[.agg (encI x).toArray, .agg (encI y).toArray] W fun e w' => e = .returned (.int .i64 (cmpO x.off y.off)) ∧ ∃ q os', w' = grow (W.drewN q) os' := by
 have hcon := fun W' => pcmp64_any x.off y.off W'
 generalize cmpO x.off y.off = r at hcon ⊢
 unfold encI
 go_enter Tryz.func86, Tryz.ntmps86
 go_wp2_with (go_at_call 87; refine (hcon _).mono ?_; rintro e w' ⟨rfl, rfl⟩)
 go_ret
 exact ⟨rfl, 0, _, by rw [alloc_eq_grow, alloc_eq_grow, grow_grow]; rfl⟩
theorem ltO (x y : Itm) : ltOf (fun x y : Itm => cmpO x.off y.off) x y = decide (x.off < y.off) := by
 unfold ltOf cmpO
 by_cases h1 : x.off < y.off
 ·simp [h1]
 ·by_cases h2 : y.off < x.off <;> simp [h1, h2]
theorem swoO : SWO (ltOf fun x y : Itm => cmpO x.off y.off) where
 irrefl x := by rw [ltO]; simp
 trans x y z h1 h2 := by rw [ltO] at *; simp at *; omega
 ntrans x y z h1 h2 := by rw [ltO] at *; simp at *; omega
theorem isAggI (w : World) : (isAgg 56).run Tryz.prog w = .ok true w := by kernel_rfl
theorem sizeOfI (w : World) : (Go.sizeOf 56).run Tryz.prog w = .ok 4 w := by kernel_rfl
theorem encI_one (x : Itm) : ∀ v ∈ encI x, v.oneCell' = true := fun v hv => by
 simp only [encI, List.mem_cons, List.not_mem_nil, or_false] at hv
 rcases hv with rfl | rfl | rfl | rfl <;> rfl
theorem cmpLaysI (blk off size : Nat) (w : World) : CmpLays Tryz.prog 86 #[] encI 4 (fun x y => cmpO x.off y.off) blk off size w :=
 fun _ _ _ _ x y => pcmpItem_any x y _
theorem below_sortWorld {w : World} {base g n : Nat} {d : Array Itm} {os : Array Obj} (hb : base ≤ g) (hbw : base ≤ w.heap.size) : Go.RowKit.Below base w (sortWorldK encI 4 w g 0 n d os) := by
 have h1 : Go.RowKit.Below base w (putRowK encI 4 (Go.Sort.ahead w n) g 0 d) := ⟨rfl, rfl, rfl, by show w.heap.size ≤ (w.heap.modify g _).size; simp, fun k hk => by
  show (w.heap.modify g _)[k]? = _
  rw [Array.getElem?_modify, if_neg (by omega)]⟩
 refine h1.trans ⟨rfl, rfl, rfl, by unfold sortWorldK; rw [size_grow]; omega, fun k hk => ?_⟩
 unfold sortWorldK
 exact heap_grow_old _ _ (Nat.lt_of_lt_of_le (Nat.lt_of_lt_of_le hk hbw) h1.size)
theorem toArr_get (L : List Itm) {i : Nat} (h : i < L.length) : L.toArray[i]! = L.getD i z0 := by
 simp [List.getD, h]
theorem arr_get (d : Array Itm) {i : Nat} (h : i < d.size) : d[i]! = d.toList.getD i z0 := by
 simp [List.getD, h]
/-- A list of the call's own, as the sort sees it. -/
theorem holds_own {w : World} {base g n cap : Nat} {L : List Itm} (hn : n = L.length) (h : OwT w base (.slice (some ⟨g, 0, none⟩) n cap) L) : HoldsK encI 4 w g 0 L.toArray ∧ base ≤ g ∧ g < w.heap.size := by
 subst hn
 obtain ⟨-, -, ⟨h1, -⟩ | ⟨g2, cap2, cur, h1, hg, hb, -, -, hs, ht⟩⟩ := h
 ·cases h1
 ·obtain ⟨rfl, rfl⟩ : g = g2 ∧ cap = cap2 := by simpa using h1
  refine ⟨fun j hj => ?_, hg, (Array.getElem?_eq_some_iff.1 hb).1⟩
  rw [size_flatK] at hj
  have hj' : j < L.length * 4 := by simpa using hj
  refine ⟨?_, by rw [Nat.zero_add]; simp [World.frozen?, hb]⟩
  rw [get_flatK _ _ _ _ hj, Nat.zero_add, cell_of_row w g j cur _ (0, 0) hb]
  have e := congrArg (·[j]?) ht
  simp only [List.getElem?_take, hj', if_true] at e
  rw [← Array.getElem?_toList, e]
  have e2 := cellsT_at L (j / 4) (j % 4) (by omega) (by omega)
  rw [show j / 4 * 4 + j % 4 = j by omega] at e2
  rw [e2, toArr_get L (by omega)]
  have hr : j % 4 = 0 ∨ j % 4 = 1 ∨ j % 4 = 2 ∨ j % 4 = 3 := by omega
  rcases hr with hr | hr | hr | hr <;> rw [hr] <;> rfl
theorem psortI_any (g n cap : Nat) (L : List Itm) (w : World) {base : Nat} (hn : n = L.length) (hO : OwT w base (.slice (some ⟨g, 0, none⟩) n cap) L) (hlen : L.length ≤ 100000) (hbw : base ≤ w.heap.size) :
 Calls Tryz.prog 85 #[.slice (some ⟨g, 0, none⟩) n cap, .func (.func 86) #[] #[]] w fun e w' => e = .returned (.tuple #[]) ∧ ∃ M : List Itm, M.Perm L ∧ (∀ i j, i < j → j < M.length → (M.getD i z0).off ≤ (M.getD j z0).off) ∧ (∀ j, j < n → C4 w' g (j * 4) (M.getD j z0)) ∧ Go.RowKit.Below base w w' := by
 obtain ⟨hH, hg, hgw⟩ := holds_own hn hO
 have eg : ∀ args w, (callFunc 86 args).run Tryz.prog w = .ok (.enter 86 args) w := enters_of Tryz.func86 (by kernel_rfl) rfl
 have hcon := AnyQ.slices_SortFunc srtI 4 isAggI sizeOfI encI (fun _ => rfl) encI_one (fun x y => cmpO x.off y.off) swoO 86 #[] g 0 cap L.toArray w eg (cmpLaysI g 0 L.toArray.size w) hH hgw (by simp; omega)
 have hsz : L.toArray.size = n := by simp [hn]
 rw [hsz] at hcon
 refine Calls.mono hcon ?_
 rintro e w' ⟨rfl, d, m, os, ⟨hp1, -, hp3⟩, hs, rfl⟩
 have hdn : d.size = n := by rw [hp1, hsz]
 have hp : d.toList.Perm L := by
  rw [← hsz, show L.toArray.extract 0 L.toArray.size = L.toArray by simp, show d.extract 0 L.toArray.size = d by rw [hsz, ← hdn]; simp] at hp3
  exact hp3
 refine ⟨rfl, d.toList, hp, fun i j hij hj => ?_, fun j hj => ?_, below_sortWorld hg hbw⟩
 ·have hj' : j < d.size := by simpa using hj
  have h := hs i j (Nat.zero_le _) hij (by omega)
  rw [ltO] at h
  have h2 := of_decide_eq_false h
  rw [arr_get d hj', arr_get d (by omega)] at h2
  omega
 ·have hHd : HoldsK encI 4 (sortWorldK encI 4 w g 0 m d os) g 0 d := SWK.holds ⟨m, os, rfl⟩ hgw hH (by rw [hp1])
  have c0 := (hHd.cell (i := j) (c := 0) (by omega) (by decide)).1
  have c1 := (hHd.cell (i := j) (c := 1) (by omega) (by decide)).1
  have c2 := (hHd.cell (i := j) (c := 2) (by omega) (by decide)).1
  have c3 := (hHd.cell (i := j) (c := 3) (by omega) (by decide)).1
  rw [Nat.zero_add, arr_get d (by omega)] at c0 c1 c2 c3
  exact ⟨c0, c1, c2, c3⟩
end Go.Proofs.YtbmlpafbdbhaiaaGreatDoor.Gf
