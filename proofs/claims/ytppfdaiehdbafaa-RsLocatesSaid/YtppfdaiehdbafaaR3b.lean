/- What is proved here: the contract of the reference's matrix product. -/
import Derived.Test.YtppfdaiehdbafaaR3
namespace Go.Proofs.Ytppfdaiehdbafaa.Gf
open Go Go.ChangeShapes Go.WideShapes Go.ChangeAt Go.RowKit Go.Proofs.Ytppfdaiehdbafaa.By

/-- A matrix that is being built in the block g of the world W; its bytes lie in a block made since. -/
structure B2 (W wr : World) (g : Nat) (r c : Int) (l : List Nat) (sv : Value) : Prop where
  bel : Below W.heap.size (W.setRow g #[.int .i64 r, .int .i64 c, sv]) wr
  own : Own wr W.heap.size sv l
  blk : ∃ cs, W.heap[g]? = some (.cells cs 26 (0, 0))
section
variable {W wr : World} {g : Nat} {r c : Int} {l : List Nat} {sv : Value}
theorem B2.lt (h : B2 W wr g r c l sv) : g < W.heap.size := by
  obtain ⟨cs, hc⟩ := h.blk
  exact (Array.getElem?_eq_some_iff.1 hc).1
theorem B2.size (h : B2 W wr g r c l sv) : W.heap.size ≤ wr.heap.size := by simpa using h.bel.size
theorem B2.row (h : B2 W wr g r c l sv) : wr.heap[g]? = some (.cells #[.int .i64 r, .int .i64 c, sv] 26 (0, 0)) := by
  obtain ⟨cs, hc⟩ := h.blk
  exact (h.bel.block g h.lt).trans (setRow_heap _ _ _ _ _ _ hc)
theorem B2.cell (h : B2 W wr g r c l sv) : wr.cell? ⟨g, 2, none⟩ = some sv := cell_of_row _ _ _ _ _ _ h.row
theorem B2.keep (h : B2 W wr g r c l sv) {k : Nat} (hk : k < W.heap.size) (hne : k ≠ g) : wr.heap[k]? = W.heap[k]? := (h.bel.block k hk).trans (setRow_other _ _ _ _ hne)
theorem B2.below (h : B2 W wr g r c l sv) {w : World} (hw : Below w.heap.size w W) (hg : w.heap.size ≤ g) : Below w.heap.size w wr := (below_setRow hw hg _).trans (h.bel.mono hw.size)
theorem B2.drew (h : B2 W wr g r c l sv) : B2 W wr.drew g r c l sv := ⟨h.bel.drew, h.own.drew, h.blk⟩
theorem B2.later (h : B2 W wr g r c l sv) {w1 : World} (hb : Below wr.heap.size wr w1) : B2 W w1 g r c l sv := by
  refine ⟨h.bel.trans (hb.mono h.size), own_keep h.own fun k hk => hb.block k ?_, h.blk⟩
  obtain ⟨_, _, ⟨rfl, _⟩ | ⟨q, _, _, rfl, _, hq, _⟩⟩ := h.own
  · cases hk
  · cases hk
    exact (Array.getElem?_eq_some_iff.1 hq).1
/-- Behind an append of what lies in a new block. -/
theorem B2.app (h : B2 W wr g r c l sv) {w1 : World} {o : Obj} (hg : (wr.alloc o).grownBy w1 sv.ownBlock) : w1.cell? ⟨g, 2, none⟩ = some sv ∧ w1.frozen? ⟨g, 2, none⟩ = false := by
  have h1 := h.lt
  have h2 := h.size
  have e : w1.heap[g]? = some (.cells #[.int .i64 r, .int .i64 c, sv] 26 (0, 0)) := (hg.block g (by simp; omega) (fun x => by have := h.own.lt g x.symm; omega)).trans ((heap_alloc_old _ _ (by omega)).trans h.row)
  exact ⟨cell_of_row _ _ _ _ _ _ e, frozen_of_row _ _ _ _ _ e⟩
theorem setRow_setCell {w : World} {g : Nat} {x y s v : Value} {cs : Array Value} {T : TypeId} (hg : w.heap[g]? = some (.cells cs T (0, 0))) : ((w.setRow g #[x, y, s]).setCell ⟨g, 2, none⟩ v).heap[g]? = (w.setRow g #[x, y, v]).heap[g]? := by
  rw [setRow_heap _ _ _ _ _ _ hg, heap_setCell_same _ g 2 _ T _ (setRow_heap _ _ _ _ _ _ hg)]
  rfl
theorem B2.push (h : B2 W wr g r c l sv) {w1 : World} {o : Obj} {v1 : Value} {m : List Nat} (hg : (wr.alloc o).grownBy w1 sv.ownBlock) (ho : Own w1 W.heap.size v1 m) : B2 W (w1.setCell ⟨g, 2, none⟩ v1) g r c m v1 := by
  have h1 := h.lt
  have h2 := h.size
  have hs := hg.size
  simp at hs
  obtain ⟨cs, hc⟩ := h.blk
  have old : ∀ k, k < W.heap.size → w1.heap[k]? = wr.heap[k]? := fun k hk => (hg.block k (by simp; omega) (fun x => by have := h.own.lt k x.symm; omega)).trans (heap_alloc_old _ _ (by omega))
  have hb := (h.bel.alloc h.size o).grown hg (by simp; omega) (fun k hk => by have := h.own.lt k hk; omega)
  refine ⟨⟨hb.os, hb.tape, hb.output, by simp; omega, fun k hk => ?_⟩, own_keep ho fun k hk => heap_setCell_other _ _ _ _ (by have := ho.lt k hk; show k ≠ g; omega), h.blk⟩
  by_cases e : k = g
  · subst e
    rw [setRow_heap _ _ _ _ _ _ hc, heap_setCell_same w1 k 2 _ 26 _ ((old k h1).trans h.row)]
    rfl
  · rw [heap_setCell_other _ _ _ _ e, old k hk, h.keep hk e, setRow_other _ _ _ _ e]
/-- The matrix as a result in the block gr. -/
theorem B2.done (h : B2 W wr g r c l sv) {w : World} (hw : Below w.heap.size w W) (hg : w.heap.size ≤ g) {gr : Nat} (h1 : w.heap.size ≤ gr) (h2 : gr < W.heap.size) (x : Value) (y : Value) : Own (wr.setRow gr #[x, y, sv]) w.heap.size sv l ∧ Below w.heap.size w (wr.setRow gr #[x, y, sv]) := by
  refine ⟨?_, below_setRow (h.below hw hg) h1 _⟩
  have h7 := own_keep (w' := wr.setRow gr #[x, y, sv]) h.own fun k hk => setRow_other _ _ _ _ (by have := h.own.lt k hk; omega)
  obtain ⟨a, b, d⟩ := h7
  refine ⟨a, b, ?_⟩
  rcases d with d | ⟨q, cap, cur, d1, d2, d3⟩
  · exact Or.inl d
  · exact Or.inr ⟨q, cap, cur, d1, by have := hw.size; omega, d3⟩
end
theorem row_cells {w : World} {g : Nat} {x y z : Value} {T : TypeId} {fr : Nat × Nat} (hg : w.heap[g]? = some (.cells #[x, y, z] T fr)) : w.cell? ⟨g, 0, none⟩ = some x ∧ w.cell? ⟨g, 1, none⟩ = some y ∧ w.cell? ⟨g, 2, none⟩ = some z :=
  ⟨cell_of_row _ _ _ _ _ _ hg, cell_of_row _ _ _ _ _ _ hg, cell_of_row _ _ _ _ _ _ hg⟩
/-- A matrix's start: a new block, nothing in it yet. -/
theorem B2.start {w : World} (r c : Int) : B2 (w.alloc (.cells #[.int .i64 r, .int .i64 c, .slice none 0 0] 26)) (w.alloc (.cells #[.int .i64 r, .int .i64 c, .slice none 0 0] 26)) w.heap.size r c [] (.slice none 0 0) := by
  refine ⟨⟨rfl, rfl, rfl, by simp, fun k hk => ?_⟩, own_nil _ _, _, heap_alloc_new _ _⟩
  by_cases e : k = w.heap.size
  · subst e
    rw [setRow_heap _ _ _ _ _ _ (heap_alloc_new _ _), heap_alloc_new]
  · rw [setRow_other _ _ _ _ e]
theorem vd_prod {r c : Int} {n : Nat} (h : Vd r c n) : ∃ R C : Nat, r = R ∧ c = C ∧ 1 ≤ R ∧ R ≤ 16 ∧ 1 ≤ C ∧ C ≤ 16 ∧ n = R * C := by
  obtain ⟨⟨h1, h2, h3, h4⟩, h5⟩ := h
  obtain ⟨R, rfl⟩ := Int.eq_ofNat_of_zero_le (show 0 ≤ r by omega)
  obtain ⟨C, rfl⟩ := Int.eq_ofNat_of_zero_le (show 0 ≤ c by omega)
  exact ⟨R, C, rfl, rfl, by omega, by omega, by omega, by omega, by exact_mod_cast h5⟩
theorem below_drewN (w : World) (n : Nat) : Below w.heap.size w (w.drewN n) := ⟨rfl, rfl, rfl, Nat.le_refl _, fun _ _ => rfl⟩
theorem three (w : World) (A B C : Obj) : (((w.alloc A).alloc B).alloc C).heap[w.heap.size]? = some A ∧ (((w.alloc A).alloc B).alloc C).heap[w.heap.size + 1]? = some B ∧ (((w.alloc A).alloc B).alloc C).heap[w.heap.size + 2]? = some C ∧ (((w.alloc A).alloc B).alloc C).heap.size = w.heap.size + 3 ∧ Below w.heap.size w (((w.alloc A).alloc B).alloc C) := by
  have z : ∀ (v : World) (o : Obj), (v.alloc o).heap.size = v.heap.size + 1 := fun v o => by simp
  refine ⟨?_, ?_, ?_, by simp, (((Below.refl _ _).alloc (Nat.le_refl _) _).alloc (by simp) _).alloc (by simp; omega) _⟩
  · rw [heap_alloc_old _ _ (by simp; omega), heap_alloc_old _ _ (by simp), heap_alloc_new]
  · rw [heap_alloc_old _ _ (by simp)]
    exact heap_alloc2_new w A B
  · have := heap_alloc2_new (w.alloc A) B C
    rwa [z] at this
set_option maxRecDepth 100000 in
set_option maxHeartbeats 1600000 in
theorem rmul3_pos (ra ca cb : Nat) (b1 o1 b2 o2 n1 n2 c1 c2 : Nat) (la lb : List Nat) (w : World) (ha : Vd ra ca n1) (hb : Vd ca cb n2) (l1 : ∀ b ∈ la, b < 256) (l2 : ∀ b ∈ lb, b < 256)
    (k1 : ∀ k, k < n1 → w.cell? ⟨b1, o1 + k, none⟩ = some (.int .u8 ((la.getD k 0 : Nat) : Int))) (k2 : ∀ k, k < n2 → w.cell? ⟨b2, o2 + k, none⟩ = some (.int .u8 ((lb.getD k 0 : Nat) : Int))) :
    Calls Try.prog 32 #[mv ra ca (.slice (some ⟨b1, o1, none⟩) n1 c1), mv ca cb (.slice (some ⟨b2, o2, none⟩) n2 c2)] w (MO w ra cb (flat ra cb (mm ca (ent la ca) (ent lb cb))) 0) := by
  obtain ⟨a1, ha1⟩ : ∃ a : Option Addr, a = some ⟨b1, o1, none⟩ := ⟨_, rfl⟩
  obtain ⟨a2, ha2⟩ : ∃ a : Option Addr, a = some ⟨b2, o2, none⟩ := ⟨_, rfl⟩
  rw [← ha1, ← ha2]
  have e1 : n1 = ra * ca := by have := ha.2; exact_mod_cast this
  have e2 : n2 = ca * cb := by have := hb.2; exact_mod_cast this
  have A1 := Lib.hid ha1
  have A2 := Lib.hid ha2
  have E1 := Lib.hid e1
  have E2 := Lib.hid e2
  have K1 := Lib.hid k1
  have K2 := Lib.hid k2
  have L1 := Lib.hid l1
  have L2 := Lib.hid l2
  clear ha1 ha2 e1 e2 k1 k2 l1 l2
  have hv1 := fun w => rvalid_any ra ca a1 n1 c1 w
  have hv2 := fun w => rvalid_any ca cb a2 n2 c2 w
  rw [decide_eq_true ha] at hv1
  rw [decide_eq_true hb] at hv2
  have HV1 := Lib.hid hv1
  have HV2 := Lib.hid hv2
  have hn : 1 ≤ ra ∧ ra ≤ 16 ∧ 1 ≤ ca ∧ ca ≤ 16 ∧ 1 ≤ cb ∧ cb ≤ 16 := by
    have h1 := ha.1
    have h2 := hb.1
    unfold Sized at h1 h2
    omega
  obtain ⟨t1, t2, t3, ts, tb⟩ := three w (.cells #[.int .i64 ra, .int .i64 ca, .slice a1 n1 c1] 26) (.cells #[.int .i64 ca, .int .i64 cb, .slice a2 n2 c2] 26) (.cells #[.int .i64 0, .int .i64 0, .slice none 0 0] 26)
  have T1 := Lib.hid t1
  have T2 := Lib.hid t2
  have T3 := Lib.hid t3
  have TS := Lib.hid ts
  have TB := Lib.hid tb
  clear hv1 hv2 t1 t2 t3 ts tb ha hb
  unfold mv at *
  unfold MO mv
  go_enter Try.func32, Try.ntmps32
  go_wp2_with fail
  refine (HV1.out _).mono ?_
  generalize (((w.alloc (.cells #[.int .i64 ra, .int .i64 ca, .slice a1 n1 c1] 26)).alloc (.cells #[.int .i64 ca, .int .i64 cb, .slice a2 n2 c2] 26)).alloc (.cells #[.int .i64 0, .int .i64 0, .slice none 0 0] 26)) = W0 at *
  rintro e w1 ⟨rfl, hB1⟩
  obtain ⟨x0, x1, x2⟩ := row_cells ((hB1.block (w.heap.size + 1) (by rw [TS.out]; omega)).trans T2.out)
  go_wp2_with fail
  refine (HV2.out _).mono ?_
  rintro e w2 ⟨rfl, hB2⟩
  have hs2 : w.heap.size + 3 ≤ w2.heap.size := by have := hB1.size; have := hB2.size; have := TS.out; omega
  have r1 := (hB2.block w.heap.size (by have := hB1.size; have := TS.out; omega)).trans ((hB1.block w.heap.size (by rw [TS.out]; omega)).trans T1.out)
  have r2 := (hB2.block (w.heap.size + 1) (by have := hB1.size; have := TS.out; omega)).trans ((hB1.block (w.heap.size + 1) (by rw [TS.out]; omega)).trans T2.out)
  have r3 := (hB2.block (w.heap.size + 2) (by have := hB1.size; have := TS.out; omega)).trans ((hB1.block (w.heap.size + 2) (by rw [TS.out]; omega)).trans T3.out)
  obtain ⟨z0, z1, z2⟩ := row_cells r1
  obtain ⟨y0, y1, y2⟩ := row_cells r2
  have hw2 : Below w.heap.size w w2 := (TB.out.trans (hB1.mono TB.out.size)).trans (hB2.mono (Nat.le_trans TB.out.size hB1.size))
  have R1 := Lib.hid r1
  have R2 := Lib.hid r2
  have R3 := Lib.hid r3
  have HW2 := Lib.hid hw2
  clear r1 r2 r3 hw2 hB1 hB2 x0 x1 x2 T1 T2 T3 TS TB HV1 HV2
  go_wp2_with fail
  have st := B2.start (w := w2) ra cb
  have r1 := (heap_alloc_old w2 (.cells #[.int .i64 ra, .int .i64 cb, .slice none 0 0] 26) (show w.heap.size < w2.heap.size by omega)).trans R1.out
  have r2 := (heap_alloc_old w2 (.cells #[.int .i64 ra, .int .i64 cb, .slice none 0 0] 26) (show w.heap.size + 1 < w2.heap.size by omega)).trans R2.out
  have r3 := (heap_alloc_old w2 (.cells #[.int .i64 ra, .int .i64 cb, .slice none 0 0] 26) (show w.heap.size + 2 < w2.heap.size by omega)).trans R3.out
  have hw := HW2.out.alloc HW2.out.size (.cells #[.int .i64 ra, .int .i64 cb, .slice none 0 0] 26)
  have hws : (w2.alloc (.cells #[.int .i64 ra, .int .i64 cb, .slice none 0 0] 26)).heap.size = w2.heap.size + 1 := by simp
  generalize w2.alloc (.cells #[.int .i64 ra, .int .i64 cb, .slice none 0 0] 26) = W at *
  have ST := Lib.hid st
  have Q1 := Lib.hid r1
  have Q2 := Lib.hid r2
  have Q3 := Lib.hid r3
  have HW := Lib.hid hw
  have HWS := Lib.hid hws
  clear st r1 r2 r3 hw hws R1 R2 R3 HW2 y0 y1 y2 z0 z1 z2
  go_loopw [7] (fun i wr => ∃ (k : Nat) (sv : Value), k ≤ ra ∧ i = .int .i64 (k : Int) ∧ B2 W wr w2.heap.size ra cb ((flat ra cb (mm ca (ent la ca) (ent lb cb))).take (k * cb)) sv) (fun i _ => ra - (intOf i).toNat)
  case atStart => exact ⟨0, .slice none 0 0, by omega, rfl, by rw [Nat.zero_mul, List.take_zero]; exact ST.out⟩
  case round =>
    clear ST
    obtain ⟨k, sv, hk, rfl, hb⟩ := hrel
    have HB := Lib.hid hb
    clear hb
    obtain ⟨z0, z1, z2⟩ := row_cells ((HB.out.keep (by have := HWS.out; omega) (show w.heap.size ≠ w2.heap.size by omega)).trans Q1.out)
    by_cases hlt : k < ra
    · go_wp2
      rename World => wo
      clear z0 z1 z2
      go_loopw [8] (fun i wr => ∃ (j : Nat) (sv : Value), j ≤ cb ∧ i = .int .i64 (j : Int) ∧ B2 W wr w2.heap.size ra cb ((flat ra cb (mm ca (ent la ca) (ent lb cb))).take (k * cb + j)) sv) (fun i _ => cb - (intOf i).toNat)
      case atStart => exact ⟨0, sv, by omega, rfl, HB.out⟩
      case round =>
        clear HB sv
        obtain ⟨j, sv, hj, rfl, hb⟩ := hrel
        have HB := Lib.hid hb
        clear hb
        obtain ⟨y0, y1, y2⟩ := row_cells ((HB.out.keep (by have := HWS.out; omega) (show w.heap.size + 1 ≠ w2.heap.size by omega)).trans Q2.out)
        by_cases hjt : j < cb
        · go_wp2
          clear y0 y1 y2
          rename World => wi
          obtain ⟨L, hL⟩ : ∃ L, L = (flat ra cb (mm ca (ent la ca) (ent lb cb))).take (k * cb + j) := ⟨_, rfl⟩
          rw [← hL] at HB
          have HL := Lib.hid hL
          clear hL
          go_loopw [9, 10] (fun s i wr => ∃ x : Nat, x ≤ ca ∧ i = .int .i64 (x : Int) ∧ s = .int .u8 ((sx x (fun q => gm (ent la ca k q) (ent lb cb q j)) : Nat) : Int) ∧ B2 W wr w2.heap.size ra cb L sv) (fun _ i _ => ca - (intOf i).toNat)
          case atStart => exact ⟨0, by omega, rfl, rfl, HB.out⟩
          case round =>
            clear HB
            obtain ⟨x, hx, rfl, rfl, hb⟩ := hrel
            have HB := Lib.hid hb
            clear hb
            obtain ⟨z0, z1, z2⟩ := row_cells ((HB.out.keep (by have := HWS.out; omega) (show w.heap.size ≠ w2.heap.size by omega)).trans Q1.out)
            obtain ⟨y0, y1, y2⟩ := row_cells ((HB.out.keep (by have := HWS.out; omega) (show w.heap.size + 1 ≠ w2.heap.size by omega)).trans Q2.out)
            by_cases hxt : x < ca
            · have hbl := HB.out.below HW.out (by omega)
              obtain ⟨p1, hp1⟩ : ∃ p : Nat, p = k * ca := ⟨_, rfl⟩
              obtain ⟨p2, hp2⟩ : ∃ p : Nat, p = x * cb := ⟨_, rfl⟩
              have q1 : p1 + x < n1 := by rw [hp1, E1.out]; exact at_lt hlt hxt
              have q2 : p2 + j < n2 := by rw [hp2, E2.out]; exact at_lt hxt hjt
              have m1 : n1 ≤ 256 := by rw [E1.out]; exact Nat.mul_le_mul hn.2.1 hn.2.2.2.1
              have m2 : n2 ≤ 256 := by rw [E2.out]; exact Nat.mul_le_mul hn.2.2.2.1 hn.2.2.2.2.2
              have g1 := K1.out _ q1
              have g2 := K2.out _ q2
              have f1 := (hbl.cell (p := ⟨b1, o1 + (p1 + x), none⟩) (block_lt_of_cell g1)).trans g1
              have f2 := (hbl.cell (p := ⟨b2, o2 + (p2 + j), none⟩) (block_lt_of_cell g2)).trans g2
              have v1 : la.getD (p1 + x) 0 = ent la ca k x := by rw [hp1]; rfl
              have v2 : lb.getD (p2 + j) 0 = ent lb cb x j := by rw [hp2]; rfl
              have u1 := getD_lt L1.out (p1 + x)
              have u2 := getD_lt L2.out (p2 + j)
              rw [v1] at f1 u1
              rw [v2] at f2 u2
              have i1 : (k : Int) * (ca : Int) = (p1 : Int) := by rw [hp1]; simp
              have i2 : (x : Int) * (cb : Int) = (p2 : Int) := by rw [hp2]; simp
              have hs1 : sx (x + 1) (fun q => gm (ent la ca k q) (ent lb cb q j)) = sx x (fun q => gm (ent la ca k q) (ent lb cb q j)) ^^^ gm (ent la ca k x) (ent lb cb x j) := rfl
              have hsl : sx x (fun q => gm (ent la ca k q) (ent lb cb q j)) < 256 := sx_lt fun q hq => gm_lt (ent_bd L1.out k (Nat.lt_succ_self k) q (show q < ca by omega))
              have hmul := fun w => rmul_any (ent la ca k x) (ent lb cb x j) w u1 u2
              have y := u8_xor_nat _ _ hsl (gm_lt (b := ent lb cb x j) u1)
              obtain ⟨s', hs'⟩ : ∃ s', s' = sx (x + 1) (fun q => gm (ent la ca k q) (ent lb cb q j)) := ⟨_, rfl⟩
              rw [← hs1, ← hs'] at y
              have HS' := Lib.hid hs'
              clear hs' hs1 v1 v2 hp1 hp2 g1 g2 hbl
              generalize sx x (fun q => gm (ent la ca k q) (ent lb cb q j)) = s at y hsl
              generalize gm (ent la ca k x) (ent lb cb x j) = g at y hmul
              generalize ent la ca k x = e1 at f1 u1 hmul
              generalize ent lb cb x j = e2 at f2 u2 hmul
              have HM := Lib.hid hmul
              clear hmul
              rw [A1.out] at z2
              rw [A2.out] at y2
              have w1' : IntKind.i64.wrap (p1 : Int) = (p1 : Int) := IntWalk.i64_in _ (by omega)
              have w2' : IntKind.i64.wrap (p2 : Int) = (p2 : Int) := IntWalk.i64_in _ (by omega)
              have w3' : IntKind.i64.wrap ((p1 : Int) + (x : Int)) = (p1 : Int) + (x : Int) := IntWalk.i64_in _ (by omega)
              have w4' : IntKind.i64.wrap ((p2 : Int) + (j : Int)) = (p2 : Int) + (j : Int) := IntWalk.i64_in _ (by omega)
              have j1 : (0 : Int) ≤ (p1 : Int) + (x : Int) := by omega
              have j2 : (p1 : Int) + (x : Int) < (n1 : Int) := by omega
              have j3 : (0 : Int) ≤ (p2 : Int) + (j : Int) := by omega
              have j4 : (p2 : Int) + (j : Int) < (n2 : Int) := by omega
              have t1 : ((p1 : Int) + (x : Int)).toNat = p1 + x := by omega
              have t2 : ((p2 : Int) + (j : Int)).toNat = p2 + j := by omega
              go_wp2
              go_quiet ((go_at_call 52; exact Calls.quiet_of_same ((HM.out _).mono fun _ _ h => ⟨h.1, h.2.symm⟩)))
              go_wp2
              go_roundw
              case rel => exact ⟨x + 1, by omega, by go_num, by rw [HS'.out], HB.out.later (below_drewN _ _)⟩
              case measure => simp [intOf]; omega
            · obtain rfl : x = ca := by omega
              have htk := flat_snoc (mm x (ent la x) (ent lb cb)) hlt hjt
              rw [← HL.out] at htk
              have hln : L.length ≤ 256 := by
                rw [HL.out, List.length_take, flat_length]
                have := Nat.mul_le_mul hn.2.1 hn.2.2.2.2.2
                omega
              have hmm : mm x (ent la x) (ent lb cb) k j < 256 := sx_lt fun q hq => gm_lt (ent_bd L1.out k (Nat.lt_succ_self k) q (show q < x by omega))
              obtain ⟨z, hz⟩ : ∃ z, z = mm x (ent la x) (ent lb cb) k j := ⟨_, rfl⟩
              have hz2 : (sx x fun q => gm (ent la x k q) (ent lb cb q j)) = z := hz.symm
              rw [hz2]
              rw [← hz] at htk hmm
              have HT := Lib.hid htk
              have hc2 := HB.out.cell
              have hsz := HB.out.size
              have hlw := HB.out.lt
              clear htk hz hz2
              go_wp2_with (first | (at_builtin; refine app_sl (dst := some 77) ?_ ?_ (HB.out.own.alloc _) (sl_one hmm (heap_alloc_new _ _)) (by simp; omega) (by simp; omega) ?_; exact rfl; exact rfl; intro v1 w1 ho1 hg1; obtain ⟨av, nv, cv, hv1, -⟩ := own_form ho1; subst hv1; have HP1 := Lib.hid (HB.out.push hg1 ho1); obtain ⟨hd1, hd2⟩ := HB.out.app hg1; clear ho1 hg1))
              go_roundw
              case rel => exact ⟨j + 1, _, by omega, by go_num, by rw [HT.out]; exact HP1.out⟩
              case measure => simp [intOf]; omega
        · obtain rfl : j = cb := by omega
          go_wp2
          go_roundw
          case rel => exact ⟨k + 1, sv, by omega, by go_num, by rw [Nat.succ_mul]; exact HB.out⟩
          case measure => simp [intOf]; omega
    · obtain rfl : k = ra := by omega
      have hl : (flat k cb (mm ca (ent la ca) (ent lb cb))).take (k * cb) = flat k cb (mm ca (ent la ca) (ent lb cb)) := by
        have := flat_length k cb (mm ca (ent la ca) (ent lb cb))
        rw [← this]
        exact List.take_length
      rw [hl] at HB
      have zz := (HB.out.keep (by have := HWS.out; omega) (show w.heap.size + 2 ≠ w2.heap.size by omega)).trans Q3.out
      have ZZ := Lib.hid zz
      clear zz
      go_wp2_with (first | ((with_reducible refine loadM w2.heap.size ?_ HB.out.row ?_); exact rfl) | ((with_reducible refine storeM (w.heap.size + 2) (.int .i64 k) (.int .i64 cb) sv ?_ ?_ ZZ.out ?_ ?_ ?_ ?_); exact rfl; exact rfl; exact rfl; exact rfl; exact own_one HB.out.own))
      have h8 := HB.out.done HW.out (by omega) (show w.heap.size ≤ w.heap.size + 2 by omega) (by have := HWS.out; omega) (.int .i64 k) (.int .i64 cb)
      exact bodyPost_ret (results_mx rfl _ _ (w.heap.size + 2) _ _ _ (0, 0) rfl (setRow_heap _ _ _ _ _ _ ZZ.out)) rfl ⟨⟨_, rfl, h8.1⟩, h8.2⟩
end Go.Proofs.Ytppfdaiehdbafaa.Gf
