/- What is proved here: the contracts of the library's Reverse and CompactFunc, at items. -/
import Derived.Test.YtihjfnlimdcmkaaDoorS8u
namespace Go.Proofs.YtihjfnlimdcmkaaDoor.Gf
open Go Go.Proofs Go.Shelf Go.RowKit Go.Lib Go.Sort

theorem setMany_set (k : Nat) (hk : ∀ x, (itV x).length = k) (d : Array Itm) (i : Nat) (hi : i < d.size) (y : Itm) : setMany (flatK itV k d) (i * k) (itV y) = flatK itV k (d.setIfInBounds i y) := by
  refine ext_get! (by simp) fun t ht => ?_
  have ht' : t < d.size * k := by simpa using ht
  have k0 : 0 < k := by rcases Nat.eq_zero_or_pos k with h | h; · subst h; simp at ht'
                        · exact h
  rw [get_setMany _ _ _ t (by simpa using ht'), get_flatK _ _ _ t ht', get_flatK _ _ _ t (by simpa using ht'), hk]
  have hq : t / k < d.size := Nat.div_lt_of_lt_mul (by rwa [Nat.mul_comm])
  have e : (d.setIfInBounds i y)[t / k]! = if t / k = i then y else d[t / k]! := by
    simp only [getElem!_def, Array.getElem?_setIfInBounds]
    by_cases h : i = t / k
    · rw [if_pos h, if_pos h.symm, if_pos (by omega)]
    · rw [if_neg h, if_neg (Ne.symm h)]
  rw [e]
  by_cases a : t / k = i
  · rw [if_pos ((blk_iff k i t k0).2 a), if_pos a]
    congr 1
    subst a
    rw [Nat.mod_eq_sub_div_mul]
  · rw [if_neg (fun h => a ((blk_iff k i t k0).1 h)), if_neg a]
variable {P : Program} {k : Nat} {w0 W : World} {blk off : Nat} {d0 dk : Array Itm}
theorem swk_set (h : SWK itV k w0 blk off dk W) (R : RowK itV k w0 blk off d0) (i : Nat) (hi : i < dk.size) (y : Itm) : SWK itV k w0 blk off (dk.setIfInBounds i y) (W.setCells blk (off + i * k) (itV y)) := by
  obtain ⟨n, os, rfl⟩ := h
  refine ⟨n, os, ?_⟩
  unfold sortWorldK
  rw [← putRowK_grow itV k (Sort.ahead w0 n) os blk off dk R.hblk]
  unfold putRowK
  rw [setCells_putRow _ _ _ _ _ _ (by rw [R.hk, size_flatK]; exact rowK_bnd dk k i hi), setMany_set k R.hk dk i hi y]
  exact putRow_grow _ _ _ _ _ _ R.hblk
theorem swk_store (h : SWK itV k w0 blk off dk W) (R : RowK itV k w0 blk off d0) (hs : dk.size = d0.size) (P : Program) (i : Nat) (hi : i < dk.size) (y : Itm) :
    Sem.run P (storeCells ⟨blk, off + i * k, none⟩ (itV y) 0) W = .ok () (W.setCells blk (off + i * k) (itV y)) :=
  stores_of_holds P (h.holds R.hblk R.hH hs) (i * k) _ (by rw [R.hk, size_flatK]; exact rowK_bnd dk k i hi) (R.h1 _)
theorem cells_z0 : (TV z0).cells = #[.int .u64 0, .int .u32 0, .int .i64 0, .int .i64 0] := rfl
theorem zero_list (n : Nat) : (Builtin.zeroCells (TV z0).cells n).size = n * 4 := by simp [Builtin.zeroCells, cells_z0]
theorem zero_get (n t : Nat) (h : t < n * 4) : (Builtin.zeroCells (TV z0).cells n).toList[t]! = (itV z0)[t % 4]! := by
  have h4 : t % 4 < 4 := Nat.mod_lt _ (by decide)
  simp only [Builtin.zeroCells, cells_z0]
  simp [h, itV, z0]
theorem zero_one (n : Nat) : ∀ v ∈ (Builtin.zeroCells (TV z0).cells n).toList, v.oneCell' = true := fun v hv => by
  obtain ⟨t, ht, rfl⟩ := List.getElem_of_mem hv
  have ht' : t < n * 4 := by rw [← zero_list n]; simpa using ht
  have e := zero_get n t ht'
  rw [getElem!_pos _ t ht] at e
  rw [e]
  have h4 : t % 4 < 4 := Nat.mod_lt _ (by decide)
  have : t % 4 = 0 ∨ t % 4 = 1 ∨ t % 4 = 2 ∨ t % 4 = 3 := by omega
  rcases this with h | h | h | h <;> rw [h] <;> rfl
theorem swk_clear (h : SWK itV k w0 blk off dk W) (R : RowK itV k w0 blk off d0) (hs : dk.size = d0.size) (P : Program) (q : Nat) (hq : q ≤ dk.size) :
    Sem.run P (storeCells ⟨blk, off + q * k, none⟩ (Builtin.zeroCells (TV z0).cells (dk.size - q)).toList 0) W = .ok () (W.setCells blk (off + q * k) (Builtin.zeroCells (TV z0).cells (dk.size - q)).toList) ∧
    ∃ d2 : Array Itm, d2.size = dk.size ∧ d2.toList.take q = dk.toList.take q ∧ SWK itV k w0 blk off d2 (W.setCells blk (off + q * k) (Builtin.zeroCells (TV z0).cells (dk.size - q)).toList) := by
  obtain rfl : 4 = k := R.hk z0
  have hlen : (Builtin.zeroCells (TV z0).cells (dk.size - q)).toList.length = (dk.size - q) * 4 := by rw [Array.length_toList, zero_list]
  have hb : q * 4 + (Builtin.zeroCells (TV z0).cells (dk.size - q)).toList.length ≤ (flatK itV 4 dk).size := by rw [hlen, size_flatK]; omega
  refine ⟨stores_of_holds P (h.holds R.hblk R.hH hs) (q * 4) _ hb (zero_one _), (dk.toList.take q ++ List.replicate (dk.size - q) z0).toArray, by simp; omega, ?_, ?_⟩
  · rw [List.toList_toArray, List.take_left' (by rw [List.length_take, Array.length_toList]; omega)]
  · obtain ⟨n, os, rfl⟩ := h
    refine ⟨n, os, ?_⟩
    unfold sortWorldK
    rw [← putRowK_grow itV 4 (Sort.ahead w0 n) os blk off dk R.hblk]
    unfold putRowK
    rw [setCells_putRow _ _ _ _ _ _ hb]
    have e : setMany (flatK itV 4 dk) (q * 4) (Builtin.zeroCells (TV z0).cells (dk.size - q)).toList = flatK itV 4 (dk.toList.take q ++ List.replicate (dk.size - q) z0).toArray := by
      refine ext_get! (by simp; omega) fun t ht => ?_
      have ht' : t < dk.size * 4 := by simpa using ht
      rw [get_setMany _ _ _ t (by simpa using ht'), get_flatK _ _ _ t ht', get_flatK _ _ _ t (by simp; omega), hlen]
      have hsz : ∀ j, j < dk.size → (dk.toList.take q ++ List.replicate (dk.size - q) z0).toArray[j]! = if j < q then dk[j]! else z0 := fun j hj => by
        simp only [getElem!_def, List.getElem?_toArray]
        by_cases c : j < q
        · rw [if_pos c, List.getElem?_append_left (by rw [List.length_take, Array.length_toList]; omega), List.getElem?_take, if_pos c, Array.getElem?_toList]
        · rw [if_neg c, List.getElem?_append_right (by rw [List.length_take, Array.length_toList]; omega), List.length_take, Array.length_toList, List.getElem?_replicate, if_pos (by omega)]
      rw [hsz (t / 4) (by omega)]
      by_cases c : q * 4 ≤ t
      · rw [if_pos ⟨c, by omega⟩, if_neg (by omega), zero_get _ _ (by omega)]
        congr 1
        omega
      · rw [if_neg (by omega), if_pos (by omega)]
    rw [e]
    exact putRow_grow _ _ _ _ _ _ R.hblk
/-- What is asked of the function that tells equal items. -/
def EqLays (P : Program) (g : Nat) (cb : Array Value) (k blk off size : Nat) (w : World) : Prop :=
  ∀ (m : Nat) (os : Array Obj) (dk : Array Itm), dk.size = size → ∀ x y : Itm,
    Calls P g (#[.agg (itV x).toArray, .agg (itV y).toArray] ++ cb) (sortWorldK itV k w blk off m dk os) fun e w' => e = .returned (.bool (decide (x.key = y.key))) ∧ ∃ q os', w' = grow ((sortWorldK itV k w blk off m dk os).drewN q) os'
theorem swk_eq {g : Nat} {cb : Array Value} {size : Nat} (h : SWK itV k w0 blk off dk W) (hC : EqLays P g cb k blk off size w0) (hs : dk.size = size) (x y : Itm) (n : Nat) (os : Array Obj) :
    Calls P g (#[.agg (itV x).toArray, .agg (itV y).toArray] ++ cb) (grow (W.drewN n) os) fun e w' => e = .returned (.bool (decide (x.key = y.key))) ∧ ∃ q os', w' = grow ((grow (W.drewN n) os).drewN q) os' := by
  obtain ⟨m, os0, hw⟩ := h.grown n os
  rw [hw]
  exact hC m os0 dk hs x y
/-- .. and of Reverse and CompactFunc. -/
structure LG2 (P : Program) (k : Nat) : Prop extends LG P k where
  frev : P.funcs[50]? = some Tryd.f50
  fcomp : P.funcs[54]? = some Tryd.f54
  t74 : P.underlying 74 = some (TypeDesc.func #[41, 41] #[4] false)
  a74 : ∀ w, (isAgg 74).run P w = .ok false w
  z74 : ∀ w, (Go.sizeOf 74).run P w = .ok 1 w
  v74 : ∀ w, (zeroValue 74).run P w = .ok (Value.nilFunc) w
  vE : ∀ w, (zeroValue 41).run P w = .ok (TV Go.Proofs.YtihjfnlimdcmkaaDoor.Gf.z0) w
theorem lgP2 : LG2 Tryd.prog 4 where
  toLG := lgP
  frev := Tryd.func50
  fcomp := Tryd.func54
  t74 := Tryd.underlying74
  a74 := Tryd.isAgg74
  z74 := Tryd.sizeOf74
  v74 := Tryd.zeroValue74
  vE := Tryd.zeroValue41
set_option maxHeartbeats 8000000 in
set_option maxRecDepth 1000000 in
theorem rev_any (L : LG2 P k) (cap : Nat) (d : Array Itm) (w : World) (R : RowK itV k w0 blk off d0) (hs : d0.size = d.size) (S : SWK itV k w0 blk off d w) (hn1 : 1 ≤ d.size) (hsz : d.size ≤ 1000000) :
    Calls P 50 #[.slice (some ⟨blk, off, none⟩) d.size cap] w fun e w' => e = .returned (.tuple #[]) ∧ ∃ d' : Array Itm, d'.size = d.size ∧ d'.toList = d.toList.reverse ∧ SWK itV k w0 blk off d' w' := by
  have mixed := L.mixed
  have t0 := L.t0; have ag0 := L.a0; have zt0 := L.z0; have vt0 := L.v0
  have t3 := L.t3; have ag3 := L.a3; have zt3 := L.z3; have vt3 := L.v3
  have t4 := L.t4; have ag4 := L.a4; have zt4 := L.z4; have vt4 := L.v4
  have t22 := L.t22; have ag22 := L.a22; have zt22 := L.z22; have vt22 := L.v22
  have t51 := L.t51; have ag51 := L.a51; have zt51 := L.z51; have vt51 := L.v51
  have t72 := L.t72; have ag72 := L.a72; have zt72 := L.z72; have vt72 := L.v72
  have u22 := run_underlying L.t22; have u51 := run_underlying L.t51; have u3 := run_underlying L.t3
  have aE := L.aE; have zE := L.zE
  have t74 := L.t74; have ag74 := L.a74; have zt74 := L.z74; have vt74 := L.v74
  have S0 : Aside (SWK itV k w0 blk off d w) := S
  have HL : Aside (d.toList.length = d.size) := Array.length_toList
  clear S
  go_enter L.frev, Tryd.ntmps50
  go_wp2_with fail
  go_loopg [2, 3] d.size (fun kx s2 s3 wr => ∃ (i j : Nat) (da : Array Itm) (A M B : List Itm), s2 = .int .i64 i ∧ s3 = .int .i64 j ∧ i + j + 1 ≤ d.size ∧ d.size ≤ i + j + 1 ∧ j ≤ kx ∧ da.size = d.size ∧ Aside (SWK itV k w0 blk off da wr) ∧ Aside (da.toList = A ++ (M ++ B) ∧ A.length = i ∧ B.length = i ∧ d.toList = B.reverse ++ (M ++ A.reverse)))
  case atStart => exact ⟨0, d.size - 1, d, [], d.toList, [], rfl, by congr 1; omega, by omega, by omega, by omega, rfl, S0, ⟨by simp, rfl, rfl, by simp⟩⟩
  case round =>
    clear S0
    obtain ⟨i, j, da, A, M, B, rfl, rfl, h1, h2, hkx, hds, S1, H1⟩ := hrel
    by_cases hlt : i < j
    · have hltz : (i : Int) < (j : Int) := by omega
      obtain ⟨q1, q2, q3, q4⟩ := H1.out
      have hml : M.length = d.size - 2 * i := by have := size_list q1; simp at this; omega
      obtain ⟨x, M1, rfl⟩ : ∃ x M', M = x :: M' := by cases M with | nil => simp at hml; omega | cons x r => exact ⟨x, r, rfl⟩
      obtain ⟨M2, y, rfl⟩ := snoc_of (L := M1) (by simp at hml; omega)
      have HS : Aside ((swp da i j).toList = (A ++ [y]) ++ (M2 ++ (x :: B)) ∧ (A ++ [y]).length = i + 1 ∧ (x :: B).length = i + 1 ∧ d.toList = (x :: B).reverse ++ (M2 ++ (A ++ [y]).reverse)) := by
        have := swp_list (d := da) (P := A) (Q := M2) (R := B) (x := x) (y := y) (by rw [q1]; simp) (i := i) (j := j) q2.symm (by simp at hml; omega)
        exact ⟨by rw [this]; simp, by simp [q2], by simp [q3], by rw [q4]; simp⟩
      clear q1 q2 q3 q4 hml H1
      go_wp2_with fail
      have ea4i : ((i : Int)).toNat = i := by omega
      have pa4i : (0 : Int) ≤ (i : Int) := by omega
      have ba4i : (i : Int) < (d.size : Int) := by omega
      have ra4i : IntKind.i64.wrap ((i : Int)) = (i : Int) := by rw [IntKind.wrap_i64]; omega
      have ea4j : ((j : Int)).toNat = j := by omega
      have pa4j : (0 : Int) ≤ (j : Int) := by omega
      have ba4j : (j : Int) < (d.size : Int) := by omega
      have ra4j : IntKind.i64.wrap ((j : Int)) = (j : Int) := by rw [IntKind.wrap_i64]; omega
      have S2 : Aside (SWK itV k w0 blk off (swp da (i) (j)) ((wr.drew.setCells blk (off + (i) * k) (itV da[j]!)).setCells blk (off + (j) * k) (itV da[i]!))) := S1.out.swapped R (i) (j) (by omega) (by omega)
      have l4a := S1.out.ld1 R (by omega) P (i) (by omega)
      have l4b := S1.out.ld1 R (by omega) P (j) (by omega)
      have s4a := S1.out.st1 R (by omega) P (i) (by omega) da[j]!
      have s4b := S1.out.st2 R (by omega) P (i) (j) (by omega) (by omega) da[j]! da[i]!
      have n4a : (itV da[i]!).length = k := R.hk _
      have n4b : (itV da[j]!).length = k := R.hk _
      generalize itV da[i]! = cI4 at S2 l4a s4b n4a
      generalize itV da[j]! = cJ4 at S2 l4b s4a s4b n4b
      clear S1
      go_wp2_with fail
      go_big_region_o
      clear l4a l4b s4a s4b
      generalize (wr.drew.setCells blk (off + (i) * k) cJ4).setCells blk (off + (j) * k) cI4 = w2 at S2 ⊢
      go_wp2
      go_roundg (j - 1)
      case measure => omega
      case rel => exact ⟨i + 1, j - 1, swp da i j, A ++ [y], M2, x :: B, by go_num, by congr 1; omega, by omega, by omega, Nat.le_refl _, by rw [size_swp]; exact hds, S2, HS⟩
    · have hltz : ¬ (i : Int) < (j : Int) := by omega
      go_wp2
      go_end0
      obtain ⟨q1, q2, q3, q4⟩ := H1.out
      refine ⟨rfl, da, hds, ?_, S1.out⟩
      have hml : M.length = d.size - 2 * i := by have := size_list q1; simp at this; omega
      have hM : M.reverse = M := by
        cases M with
        | nil => rfl
        | cons x r =>
          have : r = [] := List.eq_nil_of_length_eq_zero (by simp at hml; omega)
          subst this; rfl
      rw [q1, q4]
      simp [hM]
end Go.Proofs.YtihjfnlimdcmkaaDoor.Gf
