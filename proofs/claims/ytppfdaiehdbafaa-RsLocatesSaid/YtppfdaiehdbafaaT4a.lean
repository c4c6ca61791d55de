/- What is proved here: the plain mathematics of the code RS(4,2): rows of bytes under matrices, the inverses of four rows, code words, restoring. No program text. the contracts of gfmatrix and of its reference for the matrices of the code. the contracts of allFrom and Code, and of the reference's Code. the contracts of Code and of the reference's Code. the contracts of equalLengths, of the reference's Level, of bytes.Equal and slices.EqualFunc at bytes.Equal. No condition. -/
import Derived.Test.YtppfdaiehdbafaaG5
import Derived.Test.YtppfdaiehdbafaaP3
import Derived.Test.YtppfdaiehdbafaaR3i
import Derived.Test.YtppfdaiehdbafaaR3j
import Derived.Test.YtppfdaiehdbafaaR3c
import Derived.Test.YtppfdaiehdbafaaR3d
import Derived.BigQuiet
namespace Go.Proofs.Ytppfdaiehdbafaa.Gf
open Go Go.Proofs.Ytppfdaiehdbafaa.By

/-- c rows of m bytes each. -/
structure Lv (c m : Nat) (L : List (List Nat)) : Prop where
  len : L.length = c
  row : ∀ j, j < c → (L.getD j []).length = m
  byt : ∀ k q, (L.getD k []).getD q 0 < 256
def appR (a b : Nat) (A : Nat → Nat → Nat) (L : List (List Nat)) (m : Nat) : List (List Nat) := (List.range a).map fun i => combR (A i) L m b
theorem appR_length (a b : Nat) (A : Nat → Nat → Nat) (L : List (List Nat)) (m : Nat) : (appR a b A L m).length = a := by simp [appR]
theorem appR_getD {a b m i : Nat} {A : Nat → Nat → Nat} {L : List (List Nat)} (hi : i < a) : (appR a b A L m).getD i [] = combR (A i) L m b := by simp [appR, List.getD, hi]
theorem appR_row {a b m i : Nat} {A : Nat → Nat → Nat} {L : List (List Nat)} (hi : i < a) (hL : ∀ j, j < b → (L.getD j []).length = m) : ((appR a b A L m).getD i []).length = m := by
  rw [appR_getD hi]
  exact combR_length b hL
theorem combR_congr {f g : Nat → Nat} {L : List (List Nat)} {m : Nat} : ∀ n, (∀ k, k < n → f k = g k) → combR f L m n = combR g L m n
  | 0, _ => rfl
  | n + 1, h => by rw [combR, combR, combR_congr n fun k hk => h k (by omega), h n (by omega)]
theorem combR_at {f : Nat → Nat} {L : List (List Nat)} {m q : Nat} (hq : q < m) : ∀ n, (∀ j, j < n → (L.getD j []).length = m) → (combR f L m n).getD q 0 = sx n fun k => gm (f k) ((L.getD k []).getD q 0)
  | 0, _ => by simp [combR, sx, List.getD, hq]
  | n + 1, h => by
    have hl := combR_length (f := f) n fun j hj => h j (by omega)
    rw [combR, ma_getD _ _ (by rw [hl]; exact hq) (by rw [hl, h n (by omega)]), combR_at hq n fun j hj => h j (by omega), sx]
theorem getD_out {l : List Nat} {q : Nat} (h : l.length ≤ q) : l.getD q 0 = 0 := by simp [List.getD, List.getElem?_eq_none h]
theorem getD_outL {L : List (List Nat)} {k : Nat} (h : L.length ≤ k) : L.getD k [] = [] := by simp [List.getD, List.getElem?_eq_none h]
theorem appR_lv {a b m : Nat} {A : Nat → Nat → Nat} {L : List (List Nat)} (hA : Bd a b A) (hL : Lv b m L) : Lv a m (appR a b A L m) where
  len := appR_length ..
  row := fun _ hj => appR_row hj hL.row
  byt := fun k q => by
    by_cases hk : k < a
    · by_cases hq : q < m
      · rw [appR_getD hk, combR_at hq b hL.row]
        exact sx_lt fun j hj => gm_lt (hA k hk j hj)
      · rw [getD_out (by rw [appR_row hk hL.row]; omega)]
        decide
    · rw [getD_outL (by rw [appR_length]; omega)]
      simp
/-- Lists of rows are equal where their elements are. -/
theorem lv_ext {c m : Nat} {L M : List (List Nat)} (h1 : Lv c m L) (h2 : Lv c m M) (h : ∀ k, k < c → ∀ q, q < m → (L.getD k []).getD q 0 = (M.getD k []).getD q 0) : L = M := by
  apply List.ext_getElem (by rw [h1.len, h2.len])
  intro k e1 e2
  have hk : k < c := by rw [h1.len] at e1; exact e1
  have r1 := h1.row k hk
  have r2 := h2.row k hk
  have hh := h k hk
  simp only [List.getD, List.getElem?_eq_getElem e1, List.getElem?_eq_getElem e2, Option.getD_some] at r1 r2 hh
  apply List.ext_getElem (by rw [r1, r2])
  intro q f1 f2
  have := hh q (by rw [r1] at f1; exact f1)
  rw [List.getElem?_eq_getElem f1, List.getElem?_eq_getElem f2] at this
  simpa using this
theorem appR_at {a b m k q : Nat} {A : Nat → Nat → Nat} {L : List (List Nat)} (hL : Lv b m L) (hk : k < a) (hq : q < m) : ((appR a b A L m).getD k []).getD q 0 = mm b A (fun j q => (L.getD j []).getD q 0) k q := by
  rw [appR_getD hk, combR_at hq b hL.row]
  rfl
theorem appR_congr {a b m : Nat} {A B : Nat → Nat → Nat} {L : List (List Nat)} (h : Eqm a b A B) : appR a b A L m = appR a b B L m := by
  unfold appR
  refine List.map_congr_left fun i hi => ?_
  exact combR_congr b fun k hk => h i (by simpa using hi) k hk
theorem appR_comp {a b c m : Nat} {X Y : Nat → Nat → Nat} {L : List (List Nat)} (hX : Bd a b X) (hY : Bd b c Y) (hL : Lv c m L) : appR a c (mm b X Y) L m = appR a b X (appR b c Y L m) m := by
  have h2 := appR_lv hY hL
  refine lv_ext (appR_lv (bd_mm hX) hL) (appR_lv hX h2) fun i hi q hq => ?_
  rw [appR_at hL hi hq, appR_at h2 hi hq]
  refine (mm_assoc (r := a) (p := b) (q := c) (c := m) (A := X) (B := Y) (C := fun k q => (L.getD k []).getD q 0) hX hY (fun k _ q _ => hL.byt k q) i hi q hq).trans ?_
  refine sx_congr fun j hj => ?_
  show _ = gm (X i j) (((appR b c Y L m).getD j []).getD q 0)
  rw [appR_at hL hj hq]
theorem appR_id {a m : Nat} {L : List (List Nat)} (hL : Lv a m L) : appR a a idm L m = L :=
  lv_ext (appR_lv (bd_idm a a) hL) hL fun i hi q hq => by
    rw [appR_at hL hi hq]
    exact mm_id_left (n := a) (c := m) (A := fun j q => (L.getD j []).getD q 0) (fun j _ q _ => hL.byt j q) i hi q hq
/-- Any four of the numbers 0 to 5, in their order, and the inverse of these rows of V. -/
def xtab : List (List Nat × List Nat) := [
  ([0, 1, 2, 3], [1, 0, 0, 0, 123, 1, 142, 244, 0, 122, 244, 142, 122, 122, 122, 122]),
  ([0, 1, 2, 4], [1, 0, 0, 0, 200, 196, 167, 171, 100, 83, 71, 112, 173, 150, 224, 219]),
  ([0, 1, 2, 5], [1, 0, 0, 0, 40, 143, 231, 64, 244, 179, 39, 96, 221, 61, 192, 32]),
  ([0, 1, 3, 4], [1, 0, 0, 0, 178, 245, 39, 96, 142, 41, 231, 64, 61, 221, 192, 32]),
  ([0, 1, 3, 5], [1, 0, 0, 0, 82, 101, 71, 112, 197, 201, 167, 171, 150, 173, 224, 219]),
  ([0, 1, 4, 5], [1, 0, 0, 0, 225, 1, 71, 167, 0, 224, 167, 71, 224, 224, 224, 224]),
  ([0, 2, 3, 4], [1, 0, 0, 0, 61, 1, 156, 160, 234, 179, 105, 48, 144, 61, 157, 48]),
  ([0, 2, 3, 5], [1, 0, 0, 0, 221, 92, 1, 128, 49, 211, 41, 203, 75, 93, 221, 203]),
  ([0, 2, 4, 5], [1, 0, 0, 0, 110, 211, 201, 116, 144, 96, 215, 39, 112, 96, 144, 128]),
  ([0, 3, 4, 5], [1, 0, 0, 0, 20, 105, 46, 83, 75, 64, 231, 236, 171, 64, 160, 75]),
  ([1, 2, 3, 4], [166, 245, 210, 128, 150, 220, 1, 75, 122, 244, 142, 0, 75, 221, 93, 203]),
  ([1, 2, 3, 5], [70, 104, 143, 160, 173, 1, 60, 144, 122, 244, 142, 0, 144, 157, 61, 48]),
  ([1, 2, 4, 5], [245, 105, 244, 105, 191, 41, 24, 142, 224, 0, 167, 71, 171, 64, 75, 160]),
  ([1, 3, 4, 5], [143, 211, 211, 142, 30, 179, 244, 89, 224, 0, 167, 71, 112, 96, 128, 144]),
  ([2, 3, 4, 5], [208, 107, 104, 210, 230, 38, 93, 157, 157, 93, 39, 231, 192, 192, 192, 192])]
def Vr (rs : List Nat) (i k : Nat) : Nat := pn (rs.getD i 0) k
def Xr (rs : List Nat) : Nat → Nat → Nat := ent ((xtab.lookup rs).getD []) 4
def Good (rs : List Nat) : Prop := rs ∈ xtab.map Prod.fst
instance (rs : List Nat) : Decidable (Good rs) := by unfold Good; infer_instance
def invB (rs : List Nat) : Bool := (List.range 4).all fun i => (List.range 4).all fun k => decide (Xr rs i k < 256 ∧ mm 4 (Xr rs) (Vr rs) i k = idm i k ∧ mm 4 (Vr rs) (Xr rs) i k = idm i k)
set_option maxRecDepth 100000 in
theorem inv_all : (xtab.map Prod.fst).all invB = true := by decide +kernel
theorem xr_inv {rs : List Nat} (h : Good rs) : Inv2 4 (Vr rs) (Xr rs) := by
  have h1 : invB rs = true := List.all_eq_true.1 inv_all rs h
  unfold invB at h1
  have h2 : ∀ i, i < 4 → ∀ k, k < 4 → Xr rs i k < 256 ∧ mm 4 (Xr rs) (Vr rs) i k = idm i k ∧ mm 4 (Vr rs) (Xr rs) i k = idm i k := fun i hi k hk => by
    have h3 := List.all_eq_true.1 h1 i (by simpa using hi)
    have h4 := List.all_eq_true.1 h3 k (by simpa using hk)
    simpa using h4
  exact ⟨fun i hi k hk => (h2 i hi k hk).1, fun i hi k hk => (h2 i hi k hk).2.1, fun i hi k hk => (h2 i hi k hk).2.2⟩
theorem good_length {rs : List Nat} (h : Good rs) : rs.length = 4 := by
  have h1 : (xtab.map Prod.fst).all (fun rs => rs.length == 4) = true := by decide
  simpa using List.all_eq_true.1 h1 rs h
theorem good_lt {rs : List Nat} (h : Good rs) : ∀ x ∈ rs, x < 6 := by
  have h1 : (xtab.map Prod.fst).all (fun rs => rs.all fun x => decide (x < 6)) = true := by decide
  intro x hx
  simpa using List.all_eq_true.1 (List.all_eq_true.1 h1 rs h) x hx
theorem good_at {rs : List Nat} (h : Good rs) {i : Nat} (hi : i < 4) : rs.getD i 0 < 6 := by
  have hl := good_length h
  simp only [List.getD, List.getElem?_eq_getElem (show i < rs.length by omega), Option.getD_some]
  exact good_lt h _ (List.getElem_mem _)
theorem good_first : Good [0, 1, 2, 3] := by decide
theorem bd_pn (r c : Nat) : Bd r c pn := fun _ _ k _ => pn_lt k
theorem bd_vr (rs : List Nat) (r c : Nat) : Bd r c (Vr rs) := fun _ _ k _ => pn_lt k
/-- The matrix that makes all shards from those with the numbers rs. -/
def vX (rs : List Nat) : Nat → Nat → Nat := mm 4 pn (Xr rs)
theorem bd_vx (rs : List Nat) : Bd 6 4 (vX rs) := bd_mm (bd_pn 6 4)
/-- The matrix of the code. -/
def Cd : Nat → Nat → Nat := vX [0, 1, 2, 3]
/-- All shards from four. -/
def restW (rs : List Nat) (G : List (List Nat)) (m : Nat) : List (List Nat) := appR 6 4 (vX rs) G m
theorem rest_length (rs : List Nat) (G : List (List Nat)) (m : Nat) : (restW rs G m).length = 6 := appR_length ..
def pickL (rs : List Nat) (S : List (List Nat)) : List (List Nat) := rs.map fun i => S.getD i []
/-- The shards of a code word. -/
def Code6 (m : Nat) (S : List (List Nat)) : Prop := ∃ T, Lv 4 m T ∧ S = appR 6 4 pn T m
theorem pickL_length (rs : List Nat) (S : List (List Nat)) : (pickL rs S).length = rs.length := by simp [pickL]
theorem pickL_getD {rs : List Nat} {S : List (List Nat)} {i : Nat} (hi : i < rs.length) : (pickL rs S).getD i [] = S.getD (rs.getD i 0) [] := by
  simp [pickL, List.getD, hi]
theorem pickL_lv {rs : List Nat} {S : List (List Nat)} {m : Nat} (h : Good rs) (hS : Lv 6 m S) : Lv 4 m (pickL rs S) where
  len := by rw [pickL_length, good_length h]
  row := fun j hj => by
    rw [pickL_getD (by rw [good_length h]; exact hj)]
    exact hS.row _ (good_at h hj)
  byt := fun k q => by
    by_cases hk : k < rs.length
    · rw [pickL_getD hk]
      exact hS.byt _ _
    · rw [getD_outL (by rw [pickL_length]; omega)]
      simp
theorem pick_app {rs : List Nat} {m : Nat} {T : List (List Nat)} (h : Good rs) (hT : Lv 4 m T) : pickL rs (appR 6 4 pn T m) = appR 4 4 (Vr rs) T m :=
  lv_ext (pickL_lv h (appR_lv (bd_pn 6 4) hT)) (appR_lv (bd_vr rs 4 4) hT) fun i hi q hq => by
    rw [pickL_getD (by rw [good_length h]; exact hi), appR_at hT (good_at h hi) hq, appR_at hT hi hq]
    rfl
theorem code_lv {m : Nat} {S : List (List Nat)} (h : Code6 m S) : Lv 6 m S := by
  obtain ⟨T, hT, rfl⟩ := h
  exact appR_lv (bd_pn 6 4) hT
theorem rest_eq {rs : List Nat} {m : Nat} {G : List (List Nat)} (h : Good rs) (hG : Lv 4 m G) : restW rs G m = appR 6 4 pn (appR 4 4 (Xr rs) G m) m := appR_comp (bd_pn 6 4) (xr_inv h).1 hG
theorem rest_code {rs : List Nat} {m : Nat} {G : List (List Nat)} (h : Good rs) (hG : Lv 4 m G) : Code6 m (restW rs G m) := ⟨_, appR_lv (xr_inv h).1 hG, rest_eq h hG⟩
theorem rest_pick {rs : List Nat} {m : Nat} {G : List (List Nat)} (h : Good rs) (hG : Lv 4 m G) : pickL rs (restW rs G m) = G := by
  rw [rest_eq h hG, pick_app h (appR_lv (xr_inv h).1 hG), ← appR_comp (bd_vr rs 4 4) (xr_inv h).1 hG, appR_congr (xr_inv h).2.2, appR_id hG]
theorem code_rest {rs : List Nat} {m : Nat} {S : List (List Nat)} (h : Good rs) (hS : Code6 m S) : restW rs (pickL rs S) m = S := by
  obtain ⟨T, hT, rfl⟩ := hS
  rw [pick_app h hT, rest_eq h (appR_lv (bd_vr rs 4 4) hT), ← appR_comp (xr_inv h).1 (bd_vr rs 4 4) hT, appR_congr (xr_inv h).2.1, appR_id hT]
/-- Code words that agree in four places are equal. -/
theorem code_same {rs : List Nat} {m : Nat} {S S' : List (List Nat)} (h : Good rs) (hS : Code6 m S) (hS' : Code6 m S') (he : pickL rs S = pickL rs S') : S = S' := by
  rw [← code_rest h hS, he, code_rest h hS']
/-- The parity rows of four data rows. -/
def encW (L : List (List Nat)) (m : Nat) : List (List Nat) := appR 2 4 (fun i k => Cd (i + 4) k) L m
theorem enc_drop (L : List (List Nat)) (m : Nat) : (restW [0, 1, 2, 3] L m).drop 4 = encW L m := rfl
theorem first4 {S : List (List Nat)} (h : S.length = 6) : pickL [0, 1, 2, 3] S = S.take 4 := by
  match S, h with
  | [a, b, c, d, e, f], _ => rfl
theorem code_iff {m : Nat} {S : List (List Nat)} (hS : Lv 6 m S) : Code6 m S ↔ encW (S.take 4) m = S.drop 4 := by
  have h4 := first4 hS.len
  have hp := pickL_lv good_first hS
  constructor
  · intro h
    have h1 := code_rest good_first h
    rw [h4] at h1
    rw [← enc_drop, h1]
  · intro h
    have h1 := rest_pick good_first hp
    rw [first4 (rest_length ..)] at h1
    have h2 : restW [0, 1, 2, 3] (pickL [0, 1, 2, 3] S) m = S := by
      have h3 := List.take_append_drop 4 (restW [0, 1, 2, 3] (pickL [0, 1, 2, 3] S) m)
      rw [h1, enc_drop, h4, h, List.take_append_drop] at h3
      rw [h4]
      exact h3.symm
    rw [← h2]
    exact rest_code good_first hp
theorem lv_take {m : Nat} {S : List (List Nat)} (hS : Lv 6 m S) : Lv 4 m (S.take 4) := first4 hS.len ▸ pickL_lv good_first hS
theorem full_code {m : Nat} {L : List (List Nat)} (hL : Lv 4 m L) : Code6 m (L ++ encW L m) := by
  have h1 := rest_pick good_first hL
  rw [first4 (rest_length ..)] at h1
  have h3 := List.take_append_drop 4 (restW [0, 1, 2, 3] L m)
  rw [h1, enc_drop] at h3
  rw [h3]
  exact rest_code good_first hL
/-- The numbers of the shards that are there. -/
def pres (h : List Bool) : List Nat := (List.range 6).filter fun i => h.getD i false
theorem pres_good {h : List Bool} (h4 : 4 ≤ (pres h).length) : Good ((pres h).take 4) := by
  have key : ∀ a b c d e f : Bool, 4 ≤ ((List.range 6).filter fun i => ([a, b, c, d, e, f].getD i false)).length → Good (((List.range 6).filter fun i => ([a, b, c, d, e, f].getD i false)).take 4) := by decide +kernel
  have he : pres h = (List.range 6).filter fun i => ([h.getD 0 false, h.getD 1 false, h.getD 2 false, h.getD 3 false, h.getD 4 false, h.getD 5 false].getD i false) := rfl
  rw [he] at h4 ⊢
  exact key _ _ _ _ _ _ h4
theorem pres_getD {h : List Bool} {i : Nat} (hi : i < (pres h).length) : (pres h).getD i 0 < 6 ∧ h.getD ((pres h).getD i 0) false = true := by
  have h1 : (pres h).getD i 0 ∈ pres h := by
    simp only [List.getD, List.getElem?_eq_getElem hi, Option.getD_some]
    exact List.getElem_mem hi
  generalize (pres h).getD i 0 = x at h1
  unfold pres at h1
  simpa using h1
end Go.Proofs.Ytppfdaiehdbafaa.Gf
namespace Go.Proofs.Ytppfdaiehdbafaa.Gf
open Go Go.ChangeShapes Go.WideShapes Go.ChangeAt Go.RowKit Go.Sort Go.Proofs.Ytppfdaiehdbafaa.By Go.Proofs.Ytppfdaiehdbafaa.Qt

/-- A matrix in a block of its own. -/
structure MB (w : World) (T : TypeId) (g : Nat) (r c : Int) (a : Option Addr) (n cap : Nat) (l : List Nat) : Prop where
  blk : w.heap[g]? = some (.cells #[.int .i64 r, .int .i64 c, .slice a n cap] T (0, 0))
  sl : Sl w (.slice a n cap) l
section
variable {w w' : World} {T : TypeId} {g : Nat} {r c : Int} {a : Option Addr} {n cap : Nat} {l : List Nat}
theorem MB.later (h : MB w T g r c a n cap l) (hb : Below w.heap.size w w') : MB w' T g r c a n cap l := ⟨(hb.block _ (lt_of_some h.blk)).trans h.blk, sl_below h.sl hb⟩
theorem MB.cells (h : MB w T g r c a n cap l) : w.cell? ⟨g, 0, none⟩ = some (.int .i64 r) ∧ w.cell? ⟨g, 1, none⟩ = some (.int .i64 c) ∧ w.cell? ⟨g, 2, none⟩ = some (.slice a n cap) := row_cells h.blk
theorem MB.mk' (hs : Sl w (.slice a n cap) l) : MB (w.alloc (.cells #[.int .i64 r, .int .i64 c, .slice a n cap] T)) T w.heap.size r c a n cap l :=
  ⟨heap_alloc_new _ _, sl_below hs ((Below.refl _ _).alloc (Nat.le_refl _) _)⟩
theorem MB.lt (h : MB w T g r c a n cap l) : g < w.heap.size := lt_of_some h.blk
end
def zi (rs : List Nat) : List Int := rs.map fun x : Nat => (x : Int)
theorem zi_length (rs : List Nat) : (zi rs).length = rs.length := by simp [zi]
theorem zi_getD (rs : List Nat) (i : Nat) : (zi rs).getD i 0 = ((rs.getD i 0 : Nat) : Int) := by
  unfold zi List.getD
  rw [List.getElem?_map]
  cases rs[i]? <;> rfl
theorem zi_snoc (rs : List Nat) (x : Nat) : zi (rs ++ [x]) = zi rs ++ [(x : Int)] := by simp [zi]
theorem zi_take (rs : List Nat) (n : Nat) : (zi rs).take n = zi (rs.take n) := by simp [zi, List.map_take]
theorem rvander_any (r c : Int) (w : World) : Calls Try.prog 29 #[.int .i64 r, .int .i64 c] w (vanderPostS r c w) := by
  unfold vanderPostS
  by_cases h : Sized r c
  · obtain ⟨m, rfl⟩ := Int.eq_ofNat_of_zero_le (show 0 ≤ r by unfold Sized at h; omega)
    obtain ⟨n, rfl⟩ := Int.eq_ofNat_of_zero_le (show 0 ≤ c by unfold Sized at h; omega)
    rw [if_pos h]
    exact (rvander_good m n w h).mono fun _ _ h => h.ms
  · rw [if_neg h]
    exact (rvander_bad r c w h).mono fun _ _ h => h.ms
theorem vander_use {e : Ending} {w w' : World} (h : vanderPostS 6 4 w e w') : MS w 6 4 (flat 6 4 pn) 0 e w' := by
  unfold vanderPostS at h
  rw [if_pos (by decide)] at h
  exact h
theorem vd64 (A : Nat → Nat → Nat) : Vd 6 4 (flat 6 4 A).length := by rw [flat_length]; decide
theorem vd44 (A : Nat → Nat → Nat) : Vd 4 4 (flat 4 4 A).length := by rw [flat_length]; decide
theorem pick_math (A : Nat → Nat → Nat) {n : Nat} {rs : List Nat} (hlt : ∀ i, i < n → rs.getD i 0 < 6) : Eqm n 4 (pickm (flat 6 4 A) 4 (zi rs)) fun i k => A (rs.getD i 0) k := fun i hi k hk => by
  unfold pickm
  rw [zi_getD, Int.toNat_natCast]
  exact ent_flat A _ (hlt i hi) k hk
theorem pick_use (A : Nat → Nat → Nat) {n : Nat} {rs : List Nat} (hlen : rs.length = n) (hn : 1 ≤ n ∧ n ≤ 16) (hlt : ∀ i, i < n → rs.getD i 0 < 6) {e : Ending} {w w' : World} (h : pickPostS 6 4 (flat 6 4 A) (zi rs) w e w') : MS w n 4 (flat n 4 fun i k => A (rs.getD i 0) k) 0 e w' := by
  have hz : (zi rs).length = n := (zi_length rs).trans hlen
  unfold pickPostS at h
  rw [if_pos ⟨vd64 A, by omega, fun i hi => by
    rw [zi_getD]
    have := hlt i (by omega)
    omega⟩, hz] at h
  rw [← flat_ext (pick_math A hlt)]
  exact h
theorem inv_use {rs : List Nat} (hg : Good rs) {e : Ending} {w w' : World} (h : invPostS 4 4 (flat 4 4 (Vr rs)) w e w') : MS w 4 4 (flat 4 4 (Xr rs)) 0 e w' := by
  have hX := xr_inv hg
  have hf : Eqm 4 4 (ent (flat 4 4 (Vr rs)) 4) (Vr rs) := ent_flat _
  unfold invPostS at h
  rw [if_pos ⟨vd44 _, rfl⟩] at h
  rcases h with ⟨X, hX', hm⟩ | ⟨hs, _⟩
  · have e1 : Eqm 4 4 X (Xr rs) := inv_unique (bd_vr rs 4 4) (inv_congr hf Eqm.rfl' hX') hX
    rw [← flat_ext e1]
    exact hm
  · exact absurd (sing_congr hf hs) (inv_not_sing (bd_vr rs 4 4) hX)
theorem mul_use (A B : Nat → Nat → Nat) {e : Ending} {w w' : World} (h : mulPostS 6 4 (flat 6 4 A) 4 4 (flat 4 4 B) w e w') : MS w 6 4 (flat 6 4 (mm 4 A B)) 0 e w' := by
  unfold mulPostS at h
  rw [if_pos ⟨vd64 A, vd44 B, rfl⟩] at h
  have e1 : flat 6 4 (mm 4 (ent (flat 6 4 A) 4) (ent (flat 4 4 B) 4)) = flat 6 4 (mm 4 A B) := flat_ext (mm_congr (ent_flat A) (ent_flat B))
  rw [← e1]
  exact h
theorem c_vander (W : World) : Calls Try.prog 49 #[.int .i64 6, .int .i64 4] W (MS W 6 4 (flat 6 4 pn) 0) := (vander_any 6 4 W).mono fun _ _ => vander_use
theorem c_pick (A : Nat → Nat → Nat) {n : Nat} {rs : List Nat} (hlen : rs.length = n) (hn : 1 ≤ n ∧ n ≤ 16) (hlt : ∀ i, i < n → rs.getD i 0 < 6) (W : World) (v1 v2 : Value) (s1 : Sl W v1 (flat 6 4 A)) (s2 : Si W v2 (zi rs)) :
    Calls Try.prog 13 #[mv 6 4 v1, v2] W (MS W n 4 (flat n 4 fun i k => A (rs.getD i 0) k) 0) := (pick_any 6 4 v1 v2 _ _ W s1 s2).mono fun _ _ => pick_use A hlen hn hlt
theorem c_inv {rs : List Nat} (hg : Good rs) (W : World) (v : Value) (s : Sl W v (flat 4 4 (Vr rs))) : Calls Try.prog 14 #[mv 4 4 v] W (MS W 4 4 (flat 4 4 (Xr rs)) 0) := (invert_any 4 4 v _ W s).mono fun _ _ => inv_use hg
theorem c_mul (A B : Nat → Nat → Nat) (W : World) (v1 v2 : Value) (s1 : Sl W v1 (flat 6 4 A)) (s2 : Sl W v2 (flat 4 4 B)) : Calls Try.prog 50 #[mv 6 4 v1, mv 4 4 v2] W (MS W 6 4 (flat 6 4 (mm 4 A B)) 0) := (mul3_any 6 4 4 4 v1 v2 _ _ W s1 s2).mono fun _ _ => mul_use A B
theorem r_vander (W : World) : Calls Try.prog 29 #[.int .i64 6, .int .i64 4] W (MS W 6 4 (flat 6 4 pn) 0) := (rvander_any 6 4 W).mono fun _ _ => vander_use
theorem pickS_of {r c : Int} {l : List Nat} {zs : List Int} {e : Ending} {w w' : World} (h : pickPost r c l zs w e w') : pickPostS r c l zs w e w' := by
  unfold pickPost at h
  unfold pickPostS
  split at h
  · rw [if_pos (by assumption)]
    exact h.ms
  · rw [if_neg (by assumption)]
    exact h.ms
theorem mulS_of {ra ca rb cb : Int} {la lb : List Nat} {e : Ending} {w w' : World} (h : mulPost ra ca la rb cb lb w e w') : mulPostS ra ca la rb cb lb w e w' := by
  unfold mulPost at h
  unfold mulPostS
  split at h
  · rw [if_pos (by assumption)]
    exact h.ms
  · rw [if_neg (by assumption)]
    exact h.ms
theorem r_pick (A : Nat → Nat → Nat) {n : Nat} {rs : List Nat} (hlen : rs.length = n) (hn : 1 ≤ n ∧ n ≤ 16) (hlt : ∀ i, i < n → rs.getD i 0 < 6) (W : World) (v1 v2 : Value) (s1 : Sl W v1 (flat 6 4 A)) (s2 : Si W v2 (zi rs)) :
    Calls Try.prog 30 #[mv 6 4 v1, v2] W (MS W n 4 (flat n 4 fun i k => A (rs.getD i 0) k) 0) := (rpick_any 6 4 v1 v2 _ _ W s1 s2).mono fun _ _ h => pick_use A hlen hn hlt (pickS_of h)
theorem r_inv {rs : List Nat} (hg : Good rs) (W : World) (v : Value) (s : Sl W v (flat 4 4 (Vr rs))) : Calls Try.prog 31 #[mv 4 4 v] W (MS W 4 4 (flat 4 4 (Xr rs)) 0) := (rinvert_any 4 4 v _ W s).mono fun _ _ => inv_use hg
theorem r_mul (A B : Nat → Nat → Nat) (W : World) (v1 v2 : Value) (s1 : Sl W v1 (flat 6 4 A)) (s2 : Sl W v2 (flat 4 4 B)) : Calls Try.prog 32 #[mv 6 4 v1, mv 4 4 v2] W (MS W 6 4 (flat 6 4 (mm 4 A B)) 0) := (rmul3_any 6 4 4 4 v1 v2 _ _ W s1 s2).mono fun _ _ h => mul_use A B (mulS_of h)
/-- What a matrix makes of rows. -/
def AS (w : World) (L : List (List Nat)) (e : Ending) (w' : World) : Prop := (∃ v, e = .returned (.tuple #[v, .int .i64 0]) ∧ Sr w' v L) ∧ Below w.heap.size w w'
theorem apply_use {a b m : Nat} (A : Nat → Nat → Nat) (ha : 1 ≤ a ∧ a ≤ 16) (hb : 1 ≤ b ∧ b ≤ 16) {L : List (List Nat)} (hL : Lv b m L) {e : Ending} {w w' : World} (h : applyPostS a b (flat a b A) L w e w') : AS w (appR a b A L m) e w' := by
  unfold applyPostS at h
  rw [if_pos ⟨⟨by unfold Sized; omega, by rw [flat_length]; simp⟩, by rw [hL.len], fun k hk => by rw [hL.len] at hk; rw [hL.row k hk, hL.row 0 (by omega)]⟩] at h
  simp only [Int.toNat_natCast] at h
  have e1 : applyL' (flat a b A) a b L = appR a b A L m := by
    unfold applyL' appR
    refine List.map_congr_left fun i hi => ?_
    have hi : i < a := by simpa using hi
    rw [combR_rowAt, hL.row 0 (by omega)]
    exact combR_congr b fun k hk => ent_flat A i hi k hk
  rw [e1] at h
  exact h
theorem apply_bad {a b : Nat} {l : List Nat} {L : List (List Nat)} (h1 : ¬ ∃ m, L.length = b ∧ ∀ k, k < b → (L.getD k []).length = m) {e : Ending} {w w' : World} (h : applyPostS a b l L w e w') : e = .returned (.tuple #[.slice none 0 0, .int .i64 1]) ∧ Below w.heap.size w w' := by
  unfold applyPostS at h
  rw [if_neg fun x => h1 ⟨(L.getD 0 []).length, by have := x.2.1; omega, fun k hk => x.2.2 k (by have := x.2.1; omega)⟩] at h
  exact h
theorem rows_small {b m : Nat} {L : List (List Nat)} (hL : Lv b m L) (hm : m ≤ 1000000) : ∀ k, k < L.length → (L.getD k []).length ≤ 1000000 := fun k hk => by
  rw [hL.row k (by rw [hL.len] at hk; exact hk)]
  exact hm
theorem c_apply {a b m : Nat} (A : Nat → Nat → Nat) (ha : 1 ≤ a ∧ a ≤ 16) (hb : 1 ≤ b ∧ b ≤ 16) (W : World) (v1 v2 : Value) (L : List (List Nat)) (s1 : Sl W v1 (flat a b A)) (s2 : Sr W v2 L) (hL : Lv b m L) (hm : m ≤ 1000000) :
    Calls Try.prog 39 #[mv a b v1, v2] W (AS W (appR a b A L m)) := (applyP_any a b v1 v2 _ L W s1 s2 (rows_small hL hm)).mono fun _ _ => apply_use A ha hb hL
theorem r_apply {a b m : Nat} (A : Nat → Nat → Nat) (ha : 1 ≤ a ∧ a ≤ 16) (hb : 1 ≤ b ∧ b ≤ 16) (W : World) (v1 v2 : Value) (L : List (List Nat)) (s1 : Sl W v1 (flat a b A)) (s2 : Sr W v2 L) (hL : Lv b m L) (hm : m ≤ 1000000) :
    Calls Try.prog 46 #[mv a b v1, v2] W (AS W (appR a b A L m)) := (rapply_any a b v1 v2 _ L W s1 s2 (rows_small hL hm)).mono fun _ _ => apply_use A ha hb hL
theorem c_pick4 {rs : List Nat} (hg : Good rs) (W : World) (v1 v2 : Value) (s1 : Sl W v1 (flat 6 4 pn)) (s2 : Si W v2 (zi rs)) : Calls Try.prog 13 #[mv 6 4 v1, v2] W (MS W 4 4 (flat 4 4 (Vr rs)) 0) := c_pick pn (good_length hg) (by decide) (fun _ hi => good_at hg hi) W v1 v2 s1 s2
theorem r_pick4 {rs : List Nat} (hg : Good rs) (W : World) (v1 v2 : Value) (s1 : Sl W v1 (flat 6 4 pn)) (s2 : Si W v2 (zi rs)) : Calls Try.prog 30 #[mv 6 4 v1, v2] W (MS W 4 4 (flat 4 4 (Vr rs)) 0) := r_pick pn (good_length hg) (by decide) (fun _ hi => good_at hg hi) W v1 v2 s1 s2
end Go.Proofs.Ytppfdaiehdbafaa.Gf
namespace Go.Proofs.Ytppfdaiehdbafaa.Gf
open Go Go.ChangeShapes Go.WideShapes Go.ChangeAt Go.RowKit Go.Sort Go.Proofs.Ytppfdaiehdbafaa.By Go.Proofs.Ytppfdaiehdbafaa.Qt

/-- What a call answers: a matrix of six rows and four columns. -/
def CM (w : World) (rs : List Nat) (e : Ending) (w' : World) : Prop := (∃ s, e = .returned (mv 6 4 s) ∧ Sl w' s (flat 6 4 (vX rs))) ∧ Below w.heap.size w w'
theorem si_block {w : World} {g n : Nat} {fr : Nat × Nat} {l : List Nat} {cs : Array Value} (hl : ∀ b ∈ l, b < 256) (hn : l.length = n) (hm : n ≤ maxLen) (hcs : cs = (l.map fun (b : Nat) => Value.int .i64 (b : Int)).toArray) (hg : w.heap[g]? = some (.cells cs 3 fr)) :
    Si w (.slice (some ⟨g, 0, none⟩) n n) (zi l) := by
  subst hn
  subst hcs
  refine ⟨fun z hz => ?_, by rw [zi_length]; exact hm, ?_⟩
  · obtain ⟨b, hb, rfl⟩ := List.mem_map.1 hz
    have := hl b hb
    omega
  · refine Or.inr ⟨g, 0, l.length, by rw [zi_length], by rw [zi_length]; exact Nat.le_refl _, hm, fun k hk => ?_⟩
    rw [zi_length] at hk
    rw [zi_getD, Nat.zero_add]
    refine cell_of_row _ _ _ _ _ _ hg |>.trans ?_
    simp [List.getD, hk]
theorem sl_setRow {Y : World} {p : Nat} {T : TypeId} {v : Value} {L : List Nat} {cs : Array Value} (s : Sl Y v L) (hz : Y.heap[p]? = some (.cells #[.int .i64 0, .int .i64 0, .slice none 0 0] T (0, 0))) : Sl (Y.setRow p cs) v L := by
  obtain ⟨h1, h2, h3⟩ := s
  refine ⟨h1, h2, ?_⟩
  rcases h3 with h3 | ⟨b, off, cap, hv, hc1, hc2, hcell⟩
  · exact Or.inl h3
  · refine Or.inr ⟨b, off, cap, hv, hc1, hc2, fun k hk => ?_⟩
    have hb : b ≠ p := fun e => by
      subst e
      have h := hcell k hk
      rw [cell_of_row _ _ _ _ _ _ hz] at h
      generalize off + k = j at h
      match j, h with
      | 0, h => simp at h
      | 1, h => simp at h
      | 2, h => simp at h
      | j + 3, h => simp at h
    exact (cell_setRow_other _ _ _ _ hb).trans (hcell k hk)
set_option maxRecDepth 100000 in
set_option maxHeartbeats 6400000 in
theorem allfrom_any {rs : List Nat} (hg : Good rs) (v : Value) (w : World) (s : Si w v (zi rs)) : Calls Try.prog 28 #[v] w (CM w rs) := by
  have hb0 := (Below.refl w.heap.size w).alloc (Nat.le_refl _) (.cells #[.int .i64 0, .int .i64 0, .slice none 0 0] 24)
  have hz0 := heap_alloc_new w (.cells #[.int .i64 0, .int .i64 0, .slice none 0 0] 24)
  obtain ⟨sa, sn, hv, -, -⟩ := si_form s
  obtain ⟨sl, hsl⟩ : ∃ n, n = (zi rs).length := ⟨_, rfl⟩
  rw [← hsl] at hv
  subst hv
  clear hsl
  have HG := Lib.hid hg
  have S := Lib.hid (si_below s ((Below.refl w.heap.size w).alloc (Nat.le_refl _) (.cells #[.int .i64 0, .int .i64 0, .slice none 0 0] 24)))
  have Z := Lib.hid hz0
  have B := Lib.hid hb0
  clear hg s hz0 hb0
  unfold CM mv
  go_enter Try.func28, Try.ntmps28
  go_wp2_with fail
  generalize w.alloc (.cells #[.int .i64 0, .int .i64 0, .slice none 0 0] 24) = W0 at *
  refine (c_vander W0).mono ?_
  unfold MS mv
  rintro e w1 ⟨⟨s1, rfl, hs1⟩, hb1⟩
  obtain ⟨a1, c1, hv1, -, -⟩ := sl_form hs1
  obtain ⟨n1, hn1⟩ : ∃ n, n = (flat 6 4 pn).length := ⟨_, rfl⟩
  rw [← hn1] at hv1
  subst hv1
  clear hn1
  have tnew : MB (w1.alloc (.cells #[.int .i64 6, .int .i64 4, .slice a1 n1 c1] 24)) 24 w1.heap.size 6 4 a1 n1 c1 (flat 6 4 pn) := MB.mk' hs1
  clear hs1
  have tS := si_below S.out hb1
  clear S
  have S := Lib.hid tS
  clear tS
  have tZ := (hb1.block _ (lt_of_some Z.out)).trans Z.out
  clear Z
  have Z := Lib.hid tZ
  clear tZ
  have tB := bt B.out hb1
  clear B
  have B := Lib.hid tB
  clear tB
  clear hb1
  have al1 := (Below.refl w1.heap.size w1).alloc (Nat.le_refl _) (.cells #[.int .i64 6, .int .i64 4, .slice a1 n1 c1] 24)
  have tS := si_below S.out al1
  clear S
  have S := Lib.hid tS
  clear tS
  have tZ := (al1.block _ (lt_of_some Z.out)).trans Z.out
  clear Z
  have Z := Lib.hid tZ
  clear tZ
  have tB := bt B.out al1
  clear B
  have B := Lib.hid tB
  clear tB
  clear al1
  have Vm := Lib.hid tnew
  clear tnew
  obtain ⟨Vmc0, Vmc1, Vmc2⟩ := Vm.out.cells
  go_wp2_with fail
  have hz1 : (w1.alloc (.cells #[.int .i64 6, .int .i64 4, .slice a1 n1 c1] 24)).heap.size = w1.heap.size + 1 := by simp
  have HZ1 := Lib.hid hz1
  clear hz1
  generalize w1.alloc (.cells #[.int .i64 6, .int .i64 4, .slice a1 n1 c1] 24) = W1 at *
  clear Vmc0 Vmc1 Vmc2
  refine (c_pick4 HG.out W1 _ _ Vm.out.sl S.out).mono ?_
  unfold MS mv
  rintro e w2 ⟨⟨s2, rfl, hs2⟩, hb2⟩
  obtain ⟨a2, c2, hv2, -, -⟩ := sl_form hs2
  obtain ⟨n2, hn2⟩ : ∃ n, n = (flat 4 4 (Vr rs)).length := ⟨_, rfl⟩
  rw [← hn2] at hv2
  subst hv2
  clear hn2
  have tnew : MB (w2.alloc (.cells #[.int .i64 4, .int .i64 4, .slice a2 n2 c2] 24)) 24 w2.heap.size 4 4 a2 n2 c2 (flat 4 4 (Vr rs)) := MB.mk' hs2
  clear hs2
  have tS := si_below S.out hb2
  clear S
  have S := Lib.hid tS
  clear tS
  have tZ := (hb2.block _ (lt_of_some Z.out)).trans Z.out
  clear Z
  have Z := Lib.hid tZ
  clear tZ
  have tVm := Vm.out.later hb2
  clear Vm
  have Vm := Lib.hid tVm
  clear tVm
  have tB := bt B.out hb2
  clear B
  have B := Lib.hid tB
  clear tB
  clear hb2
  have al2 := (Below.refl w2.heap.size w2).alloc (Nat.le_refl _) (.cells #[.int .i64 4, .int .i64 4, .slice a2 n2 c2] 24)
  have tS := si_below S.out al2
  clear S
  have S := Lib.hid tS
  clear tS
  have tZ := (al2.block _ (lt_of_some Z.out)).trans Z.out
  clear Z
  have Z := Lib.hid tZ
  clear tZ
  have tVm := Vm.out.later al2
  clear Vm
  have Vm := Lib.hid tVm
  clear tVm
  have tB := bt B.out al2
  clear B
  have B := Lib.hid tB
  clear tB
  clear al2
  have Pm := Lib.hid tnew
  clear tnew
  obtain ⟨Vmc0, Vmc1, Vmc2⟩ := Vm.out.cells
  obtain ⟨Pmc0, Pmc1, Pmc2⟩ := Pm.out.cells
  go_wp2_with fail
  have hz2 : (w2.alloc (.cells #[.int .i64 4, .int .i64 4, .slice a2 n2 c2] 24)).heap.size = w2.heap.size + 1 := by simp
  have HZ2 := Lib.hid hz2
  clear hz2
  generalize w2.alloc (.cells #[.int .i64 4, .int .i64 4, .slice a2 n2 c2] 24) = W2 at *
  clear Vmc0 Vmc1 Vmc2 Pmc0 Pmc1 Pmc2
  refine (c_inv HG.out W2 _ Pm.out.sl).mono ?_
  unfold MS mv
  rintro e w3 ⟨⟨s3, rfl, hs3⟩, hb3⟩
  obtain ⟨a3, c3, hv3, -, -⟩ := sl_form hs3
  obtain ⟨n3, hn3⟩ : ∃ n, n = (flat 4 4 (Xr rs)).length := ⟨_, rfl⟩
  rw [← hn3] at hv3
  subst hv3
  clear hn3
  have tnew : MB (w3.alloc (.cells #[.int .i64 4, .int .i64 4, .slice a3 n3 c3] 24)) 24 w3.heap.size 4 4 a3 n3 c3 (flat 4 4 (Xr rs)) := MB.mk' hs3
  clear hs3
  have tS := si_below S.out hb3
  clear S
  have S := Lib.hid tS
  clear tS
  have tZ := (hb3.block _ (lt_of_some Z.out)).trans Z.out
  clear Z
  have Z := Lib.hid tZ
  clear tZ
  have tVm := Vm.out.later hb3
  clear Vm
  have Vm := Lib.hid tVm
  clear tVm
  have tPm := Pm.out.later hb3
  clear Pm
  have Pm := Lib.hid tPm
  clear tPm
  have tB := bt B.out hb3
  clear B
  have B := Lib.hid tB
  clear tB
  clear hb3
  have al3 := (Below.refl w3.heap.size w3).alloc (Nat.le_refl _) (.cells #[.int .i64 4, .int .i64 4, .slice a3 n3 c3] 24)
  have tS := si_below S.out al3
  clear S
  have S := Lib.hid tS
  clear tS
  have tZ := (al3.block _ (lt_of_some Z.out)).trans Z.out
  clear Z
  have Z := Lib.hid tZ
  clear tZ
  have tVm := Vm.out.later al3
  clear Vm
  have Vm := Lib.hid tVm
  clear tVm
  have tPm := Pm.out.later al3
  clear Pm
  have Pm := Lib.hid tPm
  clear tPm
  have tB := bt B.out al3
  clear B
  have B := Lib.hid tB
  clear tB
  clear al3
  have Im := Lib.hid tnew
  clear tnew
  obtain ⟨Vmc0, Vmc1, Vmc2⟩ := Vm.out.cells
  obtain ⟨Imc0, Imc1, Imc2⟩ := Im.out.cells
  go_wp2_with fail
  have hz3 : (w3.alloc (.cells #[.int .i64 4, .int .i64 4, .slice a3 n3 c3] 24)).heap.size = w3.heap.size + 1 := by simp
  have HZ3 := Lib.hid hz3
  clear hz3
  generalize w3.alloc (.cells #[.int .i64 4, .int .i64 4, .slice a3 n3 c3] 24) = W3 at *
  clear Vmc0 Vmc1 Vmc2 Imc0 Imc1 Imc2
  refine (c_mul pn (Xr rs) W3 _ _ Vm.out.sl Im.out.sl).mono ?_
  unfold MS mv
  rintro e w4 ⟨⟨s4, rfl, hs4⟩, hb4⟩
  obtain ⟨a4, c4, hv4, -, -⟩ := sl_form hs4
  obtain ⟨n4, hn4⟩ : ∃ n, n = (flat 6 4 (mm 4 pn (Xr rs))).length := ⟨_, rfl⟩
  rw [← hn4] at hv4
  subst hv4
  clear hn4
  have tnew : MB (w4.alloc (.cells #[.int .i64 6, .int .i64 4, .slice a4 n4 c4] 24)) 24 w4.heap.size 6 4 a4 n4 c4 (flat 6 4 (mm 4 pn (Xr rs))) := MB.mk' hs4
  clear hs4
  have tS := si_below S.out hb4
  clear S
  have S := Lib.hid tS
  clear tS
  have tZ := (hb4.block _ (lt_of_some Z.out)).trans Z.out
  clear Z
  have Z := Lib.hid tZ
  clear tZ
  have tVm := Vm.out.later hb4
  clear Vm
  have Vm := Lib.hid tVm
  clear tVm
  have tPm := Pm.out.later hb4
  clear Pm
  have Pm := Lib.hid tPm
  clear tPm
  have tIm := Im.out.later hb4
  clear Im
  have Im := Lib.hid tIm
  clear tIm
  have tB := bt B.out hb4
  clear B
  have B := Lib.hid tB
  clear tB
  clear hb4
  have al4 := (Below.refl w4.heap.size w4).alloc (Nat.le_refl _) (.cells #[.int .i64 6, .int .i64 4, .slice a4 n4 c4] 24)
  have tS := si_below S.out al4
  clear S
  have S := Lib.hid tS
  clear tS
  have tZ := (al4.block _ (lt_of_some Z.out)).trans Z.out
  clear Z
  have Z := Lib.hid tZ
  clear tZ
  have tVm := Vm.out.later al4
  clear Vm
  have Vm := Lib.hid tVm
  clear tVm
  have tPm := Pm.out.later al4
  clear Pm
  have Pm := Lib.hid tPm
  clear tPm
  have tIm := Im.out.later al4
  clear Im
  have Im := Lib.hid tIm
  clear tIm
  have tB := bt B.out al4
  clear B
  have B := Lib.hid tB
  clear tB
  clear al4
  have Mm := Lib.hid tnew
  clear tnew
  obtain ⟨Mmc0, Mmc1, Mmc2⟩ := Mm.out.cells
  go_wp2_with (first | ((with_reducible refine loadP w4.heap.size ?_ Mm.out.blk ?_); exact rfl) | ((with_reducible refine storeP w.heap.size (.int .i64 6) (.int .i64 4) (.slice a4 n4 c4) ?_ ?_ Z.out ?_ ?_ ?_ ?_); exact rfl; exact rfl; exact rfl; exact rfl; exact rfl))
  have hz4 : (w4.alloc (.cells #[.int .i64 6, .int .i64 4, .slice a4 n4 c4] 24)).heap.size = w4.heap.size + 1 := by simp
  have HZ4 := Lib.hid hz4
  clear hz4
  generalize w4.alloc (.cells #[.int .i64 6, .int .i64 4, .slice a4 n4 c4] 24) = W4 at *
  clear Mmc0 Mmc1 Mmc2
  have hd := below_setRow B.out (Nat.le_refl _) #[.int .i64 6, .int .i64 4, .slice a4 n4 c4]
  exact bodyPost_ret (results_cell_row Try.results28 _ _ w.heap.size 24 (#[.int .i64 6, .int .i64 4, .slice a4 n4 c4]) (0, 0) _ rfl (setRow_heap _ _ _ _ _ _ Z.out) Try.underlying24 rfl size27) rfl ⟨⟨_, rfl, sl_setRow Mm.out.sl Z.out⟩, hd⟩
end Go.Proofs.Ytppfdaiehdbafaa.Gf
namespace Go.Proofs.Ytppfdaiehdbafaa.Gf
open Go Go.ChangeShapes Go.WideShapes Go.ChangeAt Go.RowKit Go.Sort Go.Proofs.Ytppfdaiehdbafaa.By Go.Proofs.Ytppfdaiehdbafaa.Qt

set_option maxRecDepth 100000 in
set_option maxHeartbeats 6400000 in
theorem code_any (w : World) : Calls Try.prog 11 #[] w (CM w [0, 1, 2, 3]) := by
  obtain ⟨hz0, hz1, hsz, hb0⟩ := two w (.cells #[.int .i64 0, .int .i64 0, .slice none 0 0] 24) (.cells #[.int .i64 0, .int .i64 1, .int .i64 2, .int .i64 3] 3)
  have hsi : Si ((w.alloc (.cells #[.int .i64 0, .int .i64 0, .slice none 0 0] 24)).alloc (.cells #[.int .i64 0, .int .i64 1, .int .i64 2, .int .i64 3] 3)) (.slice (some ⟨w.heap.size + 1, 0, none⟩) 4 4) (zi [0, 1, 2, 3]) := si_block (by decide) rfl (by unfold maxLen; decide) rfl hz1
  have S := Lib.hid hsi
  have Z := Lib.hid hz0
  have B := Lib.hid hb0
  clear hz1 hsi hz0 hb0 hsz
  unfold CM mv
  go_enter Try.func11, Try.ntmps11
  go_wp2_with fail
  generalize (w.alloc (.cells #[.int .i64 0, .int .i64 0, .slice none 0 0] 24)).alloc (.cells #[.int .i64 0, .int .i64 1, .int .i64 2, .int .i64 3] 3) = W0 at *
  refine (allfrom_any good_first _ W0 S.out).mono ?_
  unfold CM mv
  rintro e w1 ⟨⟨s1, rfl, hs1⟩, hb1⟩
  obtain ⟨a1, c1, hv1, -, -⟩ := sl_form hs1
  obtain ⟨n1, hn1⟩ : ∃ n, n = (flat 6 4 (vX [0, 1, 2, 3])).length := ⟨_, rfl⟩
  rw [← hn1] at hv1
  subst hv1
  have S1 := Lib.hid hs1
  clear hs1 hn1
  have tZ := (hb1.block _ (lt_of_some Z.out)).trans Z.out
  clear Z
  have Z := Lib.hid tZ
  clear tZ
  have tB := bt B.out hb1
  clear B
  have B := Lib.hid tB
  clear tB
  clear hb1
  go_wp2_with ((with_reducible refine storeP w.heap.size (.int .i64 6) (.int .i64 4) (.slice a1 n1 c1) ?_ ?_ Z.out ?_ ?_ ?_ ?_); exact rfl; exact rfl; exact rfl; exact rfl; exact rfl)
  have hd := below_setRow B.out (Nat.le_refl _) #[.int .i64 6, .int .i64 4, .slice a1 n1 c1]
  exact bodyPost_ret (results_cell_row Try.results11 _ _ w.heap.size 24 (#[.int .i64 6, .int .i64 4, .slice a1 n1 c1]) (0, 0) _ rfl (setRow_heap _ _ _ _ _ _ Z.out) Try.underlying24 rfl size27) rfl ⟨⟨_, rfl, sl_setRow S1.out Z.out⟩, hd⟩
set_option maxRecDepth 100000 in
set_option maxHeartbeats 6400000 in
theorem rcode_gen {rs : List Nat} (hrs : rs = [0, 1, 2, 3]) (w : World) : Calls Try.prog 12 #[] w (CM w rs) := by
  have HG : Hid (Good rs) := hrs ▸ good_first
  have RS := Lib.hid hrs
  clear hrs
  have B := Lib.hid ((Below.refl w.heap.size w).alloc (Nat.le_refl _) (.cells #[.int .i64 0, .int .i64 0, .slice none 0 0] 26))
  have Z := Lib.hid (heap_alloc_new w (.cells #[.int .i64 0, .int .i64 0, .slice none 0 0] 26))
  unfold CM mv
  go_enter Try.func12, Try.ntmps12
  go_wp2_with fail
  generalize w.alloc (.cells #[.int .i64 0, .int .i64 0, .slice none 0 0] 26) = W0 at *
  refine (r_vander W0).mono ?_
  unfold MS mv
  rintro e w1 ⟨⟨s1, rfl, hs1⟩, hb1⟩
  obtain ⟨a1, c1, hv1, -, -⟩ := sl_form hs1
  obtain ⟨n1, hn1⟩ : ∃ n, n = (flat 6 4 pn).length := ⟨_, rfl⟩
  rw [← hn1] at hv1
  subst hv1
  clear hn1
  have tnew : MB (w1.alloc (.cells #[.int .i64 6, .int .i64 4, .slice a1 n1 c1] 26)) 26 w1.heap.size 6 4 a1 n1 c1 (flat 6 4 pn) := MB.mk' hs1
  clear hs1
  have tZ := (hb1.block _ (lt_of_some Z.out)).trans Z.out
  clear Z
  have Z := Lib.hid tZ
  clear tZ
  have tB := bt B.out hb1
  clear B
  have B := Lib.hid tB
  clear tB
  clear hb1
  have al1 := (Below.refl w1.heap.size w1).alloc (Nat.le_refl _) (.cells #[.int .i64 6, .int .i64 4, .slice a1 n1 c1] 26)
  have tZ := (al1.block _ (lt_of_some Z.out)).trans Z.out
  clear Z
  have Z := Lib.hid tZ
  clear tZ
  have tB := bt B.out al1
  clear B
  have B := Lib.hid tB
  clear tB
  clear al1
  have Vm := Lib.hid tnew
  clear tnew
  obtain ⟨Vmc0, Vmc1, Vmc2⟩ := Vm.out.cells
  go_wp2_with fail
  have hz1 : (w1.alloc (.cells #[.int .i64 6, .int .i64 4, .slice a1 n1 c1] 26)).heap.size = w1.heap.size + 1 := by simp
  have HZ1 := Lib.hid hz1
  clear hz1
  generalize w1.alloc (.cells #[.int .i64 6, .int .i64 4, .slice a1 n1 c1] 26) = W1 at *
  clear Vmc0 Vmc1 Vmc2
  have S : Hid (Si (W1.alloc (.cells #[.int .i64 0, .int .i64 1, .int .i64 2, .int .i64 3] 3)) (.slice (some ⟨w1.heap.size + 1, 0, none⟩) 4 4) (zi rs)) := by rw [RS.out, ← HZ1.out]; exact si_block (by decide) rfl (by unfold maxLen; decide) rfl (heap_alloc_new W1 _)
  have al2 := (Below.refl (W1).heap.size (W1)).alloc (Nat.le_refl _) (.cells #[.int .i64 0, .int .i64 1, .int .i64 2, .int .i64 3] 3)
  have tZ := (al2.block _ (lt_of_some Z.out)).trans Z.out
  clear Z
  have Z := Lib.hid tZ
  clear tZ
  have tVm := Vm.out.later al2
  clear Vm
  have Vm := Lib.hid tVm
  clear tVm
  have tB := bt B.out al2
  clear B
  have B := Lib.hid tB
  clear tB
  clear al2
  generalize W1.alloc (.cells #[.int .i64 0, .int .i64 1, .int .i64 2, .int .i64 3] 3) = Y1 at *
  refine (r_pick4 HG.out Y1 _ _ Vm.out.sl S.out).mono ?_
  unfold MS mv
  rintro e w3 ⟨⟨s3, rfl, hs3⟩, hb3⟩
  obtain ⟨a3, c3, hv3, -, -⟩ := sl_form hs3
  obtain ⟨n3, hn3⟩ : ∃ n, n = (flat 4 4 (Vr rs)).length := ⟨_, rfl⟩
  rw [← hn3] at hv3
  subst hv3
  clear hn3
  have tnew : MB (w3.alloc (.cells #[.int .i64 4, .int .i64 4, .slice a3 n3 c3] 26)) 26 w3.heap.size 4 4 a3 n3 c3 (flat 4 4 (Vr rs)) := MB.mk' hs3
  clear hs3
  have tZ := (hb3.block _ (lt_of_some Z.out)).trans Z.out
  clear Z
  have Z := Lib.hid tZ
  clear tZ
  have tVm := Vm.out.later hb3
  clear Vm
  have Vm := Lib.hid tVm
  clear tVm
  have tS := si_below S.out hb3
  clear S
  have S := Lib.hid tS
  clear tS
  have tB := bt B.out hb3
  clear B
  have B := Lib.hid tB
  clear tB
  clear hb3
  have al3 := (Below.refl w3.heap.size w3).alloc (Nat.le_refl _) (.cells #[.int .i64 4, .int .i64 4, .slice a3 n3 c3] 26)
  have tZ := (al3.block _ (lt_of_some Z.out)).trans Z.out
  clear Z
  have Z := Lib.hid tZ
  clear tZ
  have tVm := Vm.out.later al3
  clear Vm
  have Vm := Lib.hid tVm
  clear tVm
  have tS := si_below S.out al3
  clear S
  have S := Lib.hid tS
  clear tS
  have tB := bt B.out al3
  clear B
  have B := Lib.hid tB
  clear tB
  clear al3
  have Pm := Lib.hid tnew
  clear tnew
  obtain ⟨Pmc0, Pmc1, Pmc2⟩ := Pm.out.cells
  go_wp2_with fail
  have hz3 : (w3.alloc (.cells #[.int .i64 4, .int .i64 4, .slice a3 n3 c3] 26)).heap.size = w3.heap.size + 1 := by simp
  have HZ3 := Lib.hid hz3
  clear hz3
  generalize w3.alloc (.cells #[.int .i64 4, .int .i64 4, .slice a3 n3 c3] 26) = W3 at *
  clear Pmc0 Pmc1 Pmc2
  refine (r_inv HG.out W3 _ Pm.out.sl).mono ?_
  unfold MS mv
  rintro e w4 ⟨⟨s4, rfl, hs4⟩, hb4⟩
  obtain ⟨a4, c4, hv4, -, -⟩ := sl_form hs4
  obtain ⟨n4, hn4⟩ : ∃ n, n = (flat 4 4 (Xr rs)).length := ⟨_, rfl⟩
  rw [← hn4] at hv4
  subst hv4
  clear hn4
  have tnew : MB (w4.alloc (.cells #[.int .i64 4, .int .i64 4, .slice a4 n4 c4] 26)) 26 w4.heap.size 4 4 a4 n4 c4 (flat 4 4 (Xr rs)) := MB.mk' hs4
  clear hs4
  have tZ := (hb4.block _ (lt_of_some Z.out)).trans Z.out
  clear Z
  have Z := Lib.hid tZ
  clear tZ
  have tVm := Vm.out.later hb4
  clear Vm
  have Vm := Lib.hid tVm
  clear tVm
  have tS := si_below S.out hb4
  clear S
  have S := Lib.hid tS
  clear tS
  have tPm := Pm.out.later hb4
  clear Pm
  have Pm := Lib.hid tPm
  clear tPm
  have tB := bt B.out hb4
  clear B
  have B := Lib.hid tB
  clear tB
  clear hb4
  have al4 := (Below.refl w4.heap.size w4).alloc (Nat.le_refl _) (.cells #[.int .i64 4, .int .i64 4, .slice a4 n4 c4] 26)
  have tZ := (al4.block _ (lt_of_some Z.out)).trans Z.out
  clear Z
  have Z := Lib.hid tZ
  clear tZ
  have tVm := Vm.out.later al4
  clear Vm
  have Vm := Lib.hid tVm
  clear tVm
  have tS := si_below S.out al4
  clear S
  have S := Lib.hid tS
  clear tS
  have tPm := Pm.out.later al4
  clear Pm
  have Pm := Lib.hid tPm
  clear tPm
  have tB := bt B.out al4
  clear B
  have B := Lib.hid tB
  clear tB
  clear al4
  have Im := Lib.hid tnew
  clear tnew
  obtain ⟨Vmc0, Vmc1, Vmc2⟩ := Vm.out.cells
  obtain ⟨Imc0, Imc1, Imc2⟩ := Im.out.cells
  go_wp2_with fail
  have hz4 : (w4.alloc (.cells #[.int .i64 4, .int .i64 4, .slice a4 n4 c4] 26)).heap.size = w4.heap.size + 1 := by simp
  have HZ4 := Lib.hid hz4
  clear hz4
  generalize w4.alloc (.cells #[.int .i64 4, .int .i64 4, .slice a4 n4 c4] 26) = W4 at *
  clear Vmc0 Vmc1 Vmc2 Imc0 Imc1 Imc2
  refine (r_mul pn (Xr rs) W4 _ _ Vm.out.sl Im.out.sl).mono ?_
  unfold MS mv
  rintro e w5 ⟨⟨s5, rfl, hs5⟩, hb5⟩
  obtain ⟨a5, c5, hv5, -, -⟩ := sl_form hs5
  obtain ⟨n5, hn5⟩ : ∃ n, n = (flat 6 4 (mm 4 pn (Xr rs))).length := ⟨_, rfl⟩
  rw [← hn5] at hv5
  subst hv5
  clear hn5
  have tnew : MB (w5.alloc (.cells #[.int .i64 6, .int .i64 4, .slice a5 n5 c5] 26)) 26 w5.heap.size 6 4 a5 n5 c5 (flat 6 4 (mm 4 pn (Xr rs))) := MB.mk' hs5
  clear hs5
  have tZ := (hb5.block _ (lt_of_some Z.out)).trans Z.out
  clear Z
  have Z := Lib.hid tZ
  clear tZ
  have tVm := Vm.out.later hb5
  clear Vm
  have Vm := Lib.hid tVm
  clear tVm
  have tS := si_below S.out hb5
  clear S
  have S := Lib.hid tS
  clear tS
  have tPm := Pm.out.later hb5
  clear Pm
  have Pm := Lib.hid tPm
  clear tPm
  have tIm := Im.out.later hb5
  clear Im
  have Im := Lib.hid tIm
  clear tIm
  have tB := bt B.out hb5
  clear B
  have B := Lib.hid tB
  clear tB
  clear hb5
  have al5 := (Below.refl w5.heap.size w5).alloc (Nat.le_refl _) (.cells #[.int .i64 6, .int .i64 4, .slice a5 n5 c5] 26)
  have tZ := (al5.block _ (lt_of_some Z.out)).trans Z.out
  clear Z
  have Z := Lib.hid tZ
  clear tZ
  have tVm := Vm.out.later al5
  clear Vm
  have Vm := Lib.hid tVm
  clear tVm
  have tS := si_below S.out al5
  clear S
  have S := Lib.hid tS
  clear tS
  have tPm := Pm.out.later al5
  clear Pm
  have Pm := Lib.hid tPm
  clear tPm
  have tIm := Im.out.later al5
  clear Im
  have Im := Lib.hid tIm
  clear tIm
  have tB := bt B.out al5
  clear B
  have B := Lib.hid tB
  clear tB
  clear al5
  have Mm := Lib.hid tnew
  clear tnew
  obtain ⟨Mmc0, Mmc1, Mmc2⟩ := Mm.out.cells
  go_wp2_with (first | ((with_reducible refine loadM w5.heap.size ?_ Mm.out.blk ?_); exact rfl) | ((with_reducible refine storeM w.heap.size (.int .i64 6) (.int .i64 4) (.slice a5 n5 c5) ?_ ?_ Z.out ?_ ?_ ?_ ?_); exact rfl; exact rfl; exact rfl; exact rfl; exact rfl))
  have hz5 : (w5.alloc (.cells #[.int .i64 6, .int .i64 4, .slice a5 n5 c5] 26)).heap.size = w5.heap.size + 1 := by simp
  have HZ5 := Lib.hid hz5
  clear hz5
  generalize w5.alloc (.cells #[.int .i64 6, .int .i64 4, .slice a5 n5 c5] 26) = W5 at *
  clear Mmc0 Mmc1 Mmc2
  have hd := below_setRow B.out (Nat.le_refl _) #[.int .i64 6, .int .i64 4, .slice a5 n5 c5]
  exact bodyPost_ret (results_cell_row Try.results12 _ _ w.heap.size 26 (#[.int .i64 6, .int .i64 4, .slice a5 n5 c5]) (0, 0) _ rfl (setRow_heap _ _ _ _ _ _ Z.out) Try.underlying26 rfl size24) rfl ⟨⟨_, rfl, sl_setRow Mm.out.sl Z.out⟩, hd⟩
theorem rcode_any (w : World) : Calls Try.prog 12 #[] w (CM w [0, 1, 2, 3]) := rcode_gen rfl w
end Go.Proofs.Ytppfdaiehdbafaa.Gf
namespace Go.Proofs.Ytppfdaiehdbafaa.Gf
open Go Go.ChangeShapes Go.WideShapes Go.ChangeAt Go.RowKit Go.Sort Go.Proofs.Ytppfdaiehdbafaa.By Go.Proofs.Ytppfdaiehdbafaa.Qt

set_option maxRecDepth 100000 in
set_option maxHeartbeats 1600000 in
theorem eqlen_pos (b o cap n j : Nat) (L : List (List Nat)) (w : World) (hn1 : 1 ≤ n) (hn : n ≤ maxLen) (k1 : ∀ k, k < n → ∃ x, w.cell? ⟨b, o + k, none⟩ = some x ∧ Sl w x (L.getD k []))
    (hj : j ≤ n) (hin : ∀ i, i < j → (L.getD i []).length = (L.getD 0 []).length) (hout : j < n → ¬ (L.getD j []).length = (L.getD 0 []).length) :
    Calls Try.prog 45 #[.slice (some ⟨b, o, none⟩) n cap] w fun e w' => e = .returned (.bool (decide (j = n))) ∧ w = w' := by
  obtain ⟨x0, hx0, hs0⟩ := k1 0 (by omega)
  obtain ⟨a0, cap0, rfl, -, -⟩ := sl_form hs0
  rw [Nat.add_zero] at hx0
  have K1 := Lib.hid k1
  have IN := Lib.hid hin
  have OUT := Lib.hid hout
  unfold maxLen at hn
  have i1 : (0 : Int) < (n : Int) := by omega
  generalize (L.getD 0 []).length = m at *
  clear k1 hin hout hs0
  go_enter Try.func45, Try.ntmps45
  go_wp2
  go_loop [7] (fun t => ∃ k : Nat, k ≤ j ∧ t = .int .i64 (k : Int)) (fun t => n - (intOf t).toNat)
  case atStart => exact ⟨0, by omega, rfl⟩
  case round =>
    obtain ⟨k, hk, rfl⟩ := hrel
    by_cases hkn : k < n
    · obtain ⟨x, hx, hs⟩ := K1.out k hkn
      obtain ⟨ax, capx, rfl, -, -⟩ := sl_form hs
      have p0 : (0 : Int) ≤ (k : Int) := by omega
      have p1 : (k : Int) < (n : Int) := by omega
      clear hs
      by_cases hlt : k < j
      · have h1 := IN.out k hlt
        rw [h1] at hx
        clear h1
        go_wp2
        go_round
        case rel => exact ⟨k + 1, by omega, by go_num⟩
        case measure => simp [intOf]; omega
      · obtain rfl : k = j := by omega
        have h1 := OUT.out hkn
        generalize (L.getD k []).length = q at hx h1
        have h2 : ((q : Int) != (m : Int)) = true := by rw [bne_iff_ne]; omega
        have HD := Lib.hid (show decide (k = n) = false from decide_eq_false (by omega))
        clear h1
        go_wp2
        go_ret
        exact ⟨by rw [HD.out]; rfl, rfl⟩
    · obtain rfl : k = n := by omega
      have HD := Lib.hid (show decide (j = k) = true from decide_eq_true (by omega))
      go_wp2
      go_ret
      exact ⟨by rw [HD.out]; rfl, rfl⟩
set_option maxRecDepth 100000 in
theorem eqlen_zero (a : Option Addr) (cap : Nat) (w : World) : Calls Try.prog 45 #[.slice a 0 cap] w fun e w' => e = .returned (.bool true) ∧ w = w' := by
  go_enter Try.func45, Try.ntmps45
  go_wp2
  go_loop [7] (fun t => t = .int .i64 0) (fun t => (intOf t).toNat)
  case atStart => exact rfl
  case round =>
    obtain rfl := hrel
    go_wp2
    go_ret
    exact ⟨rfl, rfl⟩
theorem eql_of {n j : Nat} {L : List (List Nat)} (hn : L.length = n) (h3 : j ≤ n) (h4 : ∀ i, i < j → (L.getD i []).length = (L.getD 0 []).length) (h5 : j < n → ¬ (L.getD j []).length = (L.getD 0 []).length) : decide (j = n) = decide (EqL L) := by
  rw [decide_eq_decide]
  exact ⟨fun e k hk => h4 k (by omega), fun h => by
    by_cases e : j < n
    · exact absurd (h j (by omega)) (h5 e)
    · omega⟩
theorem eqlen_any (v : Value) (L : List (List Nat)) (w : World) (s : Sr w v L) : Calls Try.prog 45 #[v] w fun e w' => e = .returned (.bool (decide (EqL L))) ∧ w = w' := by
  by_cases h0 : L.length = 0
  · obtain ⟨a, cap, rfl, -, -⟩ := sr_form s
    rw [h0, decide_eq_true (show EqL L from fun k hk => by omega)]
    exact eqlen_zero a cap w
  · obtain ⟨b, o, cap, rfl, _, _, k1⟩ := sr_cells s (by omega)
    obtain ⟨j, h3, h4, h5⟩ := first_bad (fun i => (L.getD i []).length = (L.getD 0 []).length) L.length
    rw [← eql_of rfl h3 h4 h5]
    exact eqlen_pos b o cap L.length j L w (by omega) s.1 k1 h3 h4 h5
/-- n rows of one length. -/
def Lev (L : List (List Nat)) (n : Nat) : Prop := L.length = n ∧ EqL L
instance (L : List (List Nat)) (n : Nat) : Decidable (Lev L n) := by unfold Lev; infer_instance
set_option maxRecDepth 100000 in
set_option maxHeartbeats 1600000 in
theorem level_pos (b o cap n j : Nat) (L : List (List Nat)) (w : World) (hn1 : 1 ≤ n) (hn : n ≤ 16) (k1 : ∀ k, k < n → ∃ x, w.cell? ⟨b, o + k, none⟩ = some x ∧ Sl w x (L.getD k []))
    (hj : j ≤ n) (hin : ∀ i, i < j → (L.getD i []).length = (L.getD 0 []).length) (hout : j < n → ¬ (L.getD j []).length = (L.getD 0 []).length) :
    Calls Try.prog 40 #[.slice (some ⟨b, o, none⟩) n cap, .int .i64 (n : Int)] w fun e w' => e = .returned (.bool (decide (j = n))) ∧ Below w.heap.size w w' := by
  obtain ⟨x0, hx0, hs0⟩ := k1 0 (by omega)
  obtain ⟨a0, cap0, rfl, -, -⟩ := sl_form hs0
  rw [Nat.add_zero] at hx0
  have K1 := Lib.hid k1
  have IN := Lib.hid hin
  have OUT := Lib.hid hout
  have i1 : (0 : Int) < (n : Int) := by omega
  have hne : ((n : Int) != (n : Int)) = false := by simp
  generalize (L.getD 0 []).length = m at *
  clear k1 hin hout hs0
  go_enter Try.func40, Try.ntmps40
  go_wp2
  go_loopw [5] (fun t wr => ∃ k : Nat, k ≤ j ∧ t = .int .i64 (k : Int) ∧ Below w.heap.size w wr) (fun t _ => n - (intOf t).toNat)
  case atStart => exact ⟨0, by omega, rfl, Below.refl _ _⟩
  case round =>
    obtain ⟨k, hk, rfl, hB⟩ := hrel
    by_cases hkn : k < n
    · obtain ⟨x, hx, hs⟩ := K1.out k hkn
      obtain ⟨ax, capx, rfl, -, -⟩ := sl_form hs
      have g0 := (hB.cell (p := ⟨b, o, none⟩) (block_lt_of_cell hx0)).trans hx0
      have g1 := (hB.cell (p := ⟨b, o + k, none⟩) (block_lt_of_cell hx)).trans hx
      have p0 : (0 : Int) ≤ (k : Int) := by omega
      have p1 : (k : Int) < (n : Int) := by omega
      clear hs hx
      by_cases hlt : k < j
      · have h1 := IN.out k hlt
        rw [h1] at g1
        have h2 : ((m : Int) != (m : Int)) = false := by simp
        clear h1
        go_wp2
        go_quiet (fail)
        go_wp2
        go_roundw
        case rel => exact ⟨k + 1, by omega, by go_num, hB.trans ((below_drewN wr _).mono hB.size)⟩
        case measure => simp [intOf]; omega
      · obtain rfl : k = j := by omega
        have h1 := OUT.out hkn
        generalize (L.getD k []).length = q at g1 h1
        have h2 : ((q : Int) != (m : Int)) = true := by rw [bne_iff_ne]; omega
        have HD := Lib.hid (show decide (k = n) = false from decide_eq_false (by omega))
        clear h1
        go_wp2
        go_quiet (fail)
        go_wp2
        go_ret
        exact ⟨by rw [HD.out]; rfl, hB.trans ((below_drewN wr _).mono hB.size)⟩
    · obtain rfl : k = n := by omega
      have HD := Lib.hid (show decide (j = k) = true from decide_eq_true (by omega))
      go_wp2
      go_ret
      exact ⟨by rw [HD.out]; rfl, hB⟩
set_option maxRecDepth 100000 in
theorem level_bad (a : Option Addr) (m n cap : Nat) (w : World) (h : m ≠ n) : Calls Try.prog 40 #[.slice a m cap, .int .i64 (n : Int)] w fun e w' => e = .returned (.bool false) ∧ Below w.heap.size w w' := by
  have h2 : ((m : Int) != (n : Int)) = true := by rw [bne_iff_ne]; omega
  clear h
  go_enter Try.func40, Try.ntmps40
  go_wp2
  go_ret
  exact ⟨rfl, Below.refl _ _⟩
theorem level_any (v : Value) (L : List (List Nat)) (n : Nat) (hn : 1 ≤ n ∧ n ≤ 16) (w : World) (s : Sr w v L) : Calls Try.prog 40 #[v, .int .i64 (n : Int)] w fun e w' => e = .returned (.bool (decide (Lev L n))) ∧ Below w.heap.size w w' := by
  by_cases h0 : L.length = n
  · obtain ⟨b, o, cap, rfl, _, _, k1⟩ := sr_cells s (by omega)
    obtain ⟨j, h3, h4, h5⟩ := first_bad (fun i => (L.getD i []).length = (L.getD 0 []).length) L.length
    have e1 : decide (j = L.length) = decide (Lev L n) := by
      rw [eql_of rfl h3 h4 h5, decide_eq_decide]
      exact ⟨fun h => ⟨h0, h⟩, fun h => h.2⟩
    subst h0
    rw [← e1]
    exact level_pos b o cap L.length j L w hn.1 hn.2 k1 h3 h4 h5
  · obtain ⟨a, cap, rfl, -, -⟩ := sr_form s
    rw [decide_eq_false (show ¬ Lev L n from fun h => h0 h.1)]
    exact level_bad a _ n cap w h0
set_option maxRecDepth 100000 in
theorem beq_any (v1 v2 : Value) (l1 l2 : List Nat) (w : World) (s1 : Sl w v1 l1) (s2 : Sl w v2 l2) : Calls Try.prog 43 #[v1, v2] w fun e w' => e = .returned (.bool (decide (l1 = l2))) ∧ w = w' := by
  have c1 := conv_sl s1
  have c2 := conv_sl s2
  have hse := str_eq s1.1 s2.1
  generalize decide (l1 = l2) = d at *
  generalize strOf l1 = t1 at *
  generalize strOf l2 = t2 at *
  clear s1 s2
  go_enter Try.func43, Try.ntmps43
  go_wp2
  go_ret
  exact ⟨by first | rfl | simp [hse], rfl⟩
set_option maxRecDepth 100000 in
set_option maxHeartbeats 1600000 in
theorem eqf_pos (b1 o1 c1 b2 o2 c2 n j : Nat) (A B : List (List Nat)) (w : World) (hn : n ≤ maxLen)
    (k1 : ∀ k, k < n → ∃ x, w.cell? ⟨b1, o1 + k, none⟩ = some x ∧ Sl w x (A.getD k [])) (k2 : ∀ k, k < n → ∃ x, w.cell? ⟨b2, o2 + k, none⟩ = some x ∧ Sl w x (B.getD k []))
    (hj : j ≤ n) (hin : ∀ i, i < j → A.getD i [] = B.getD i []) (hout : j < n → ¬ A.getD j [] = B.getD j []) :
    Calls Try.prog 42 #[.slice (some ⟨b1, o1, none⟩) n c1, .slice (some ⟨b2, o2, none⟩) n c2, .func (.func 43) #[] #[]] w fun e w' => e = .returned (.bool (decide (j = n))) ∧ w = w' := by
  obtain ⟨t, ht⟩ : ∃ t, t = decide (j = n) := ⟨_, rfl⟩
  rw [← ht]
  have HT := Lib.hid ht
  have K1 := Lib.hid k1
  have K2 := Lib.hid k2
  have IN := Lib.hid hin
  have OUT := Lib.hid hout
  unfold maxLen at hn
  have hne : ((n : Int) != (n : Int)) = false := by simp
  clear ht k1 k2 hin hout
  go_enter Try.func42, Try.ntmps42
  go_wp2
  go_loop [17] (fun i => ∃ k : Nat, k ≤ j ∧ i = .int .i64 (k : Int)) (fun i => n - (intOf i).toNat)
  case atStart => exact ⟨0, by omega, rfl⟩
  case round =>
    obtain ⟨k, hk, rfl⟩ := hrel
    by_cases hkn : k < n
    · obtain ⟨x, e1, s1⟩ := K1.out k hkn
      obtain ⟨y, e2, s2⟩ := K2.out k hkn
      have p0 : (0 : Int) ≤ (k : Int) := by omega
      have p1 : (k : Int) < (n : Int) := by omega
      have hbq := beq_any x y _ _ w s1 s2
      by_cases hlt : k < j
      · rw [decide_eq_true (IN.out k hlt)] at hbq
        have HB := Lib.hid hbq
        clear hbq s1 s2
        go_wp2_with (go_at_call 43; refine HB.out.mono ?_; rintro e w' ⟨rfl, rfl⟩)
        go_round
        case rel => exact ⟨k + 1, by omega, by go_num⟩
        case measure => simp [intOf]; omega
      · obtain rfl : k = j := by omega
        rw [decide_eq_false (OUT.out hkn)] at hbq
        have HB := Lib.hid hbq
        clear hbq s1 s2
        go_wp2_with (go_at_call 43; refine HB.out.mono ?_; rintro e w' ⟨rfl, rfl⟩)
        go_ret
        exact ⟨congrArg (fun b => Ending.returned (Value.bool b)) (HT.out.trans (decide_eq_false (by omega))).symm, rfl⟩
    · obtain rfl : k = n := by omega
      obtain rfl : j = k := by omega
      go_wp2
      go_ret
      exact ⟨congrArg (fun b => Ending.returned (Value.bool b)) (HT.out.trans (by simp)).symm, rfl⟩
/-- Two lists of two rows each are compared. -/
theorem eqf_two (v1 v2 : Value) (A B : List (List Nat)) (w : World) (hA : A.length = 2) (hB : B.length = 2) (s1 : Sr w v1 A) (s2 : Sr w v2 B) :
    Calls Try.prog 42 #[v1, v2, .func (.func 43) #[] #[]] w fun e w' => e = .returned (.bool (decide (A = B))) ∧ w = w' := by
  obtain ⟨b1, o1, c1, rfl, _, _, k1⟩ := sr_cells s1 (by omega)
  obtain ⟨b2, o2, c2, rfl, _, _, k2⟩ := sr_cells s2 (by omega)
  rw [hA] at k1 ⊢
  rw [hB] at k2 ⊢
  obtain ⟨j, h1, h2, h3⟩ := first_bad (fun i => A.getD i [] = B.getD i []) 2
  refine (eqf_pos b1 o1 c1 b2 o2 c2 2 j A B w (by unfold maxLen; decide) k1 k2 h1 h2 h3).mono fun e w' ⟨he, hw⟩ => ⟨?_, hw⟩
  rw [he]
  congr 2
  rw [decide_eq_decide]
  constructor
  · intro hj
    apply List.ext_getElem (by rw [hA, hB])
    intro i g1 g2
    have := h2 i (by omega)
    simpa [List.getD, g1, g2] using this
  · intro hab
    refine Nat.le_antisymm h1 (Nat.le_of_not_lt fun hlt => h3 hlt (by rw [hab]))
end Go.Proofs.Ytppfdaiehdbafaa.Gf
