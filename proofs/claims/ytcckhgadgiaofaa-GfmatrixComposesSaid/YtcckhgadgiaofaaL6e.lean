/- What is proved here: the walk of the law GfmatrixComposes. Condition: PC3. -/
import Derived.Test.YtcckhgadgiaofaaL6b
import Derived.Laws.CopyOwn
import Derived.Test.YtcckhgadgiaofaaG5
namespace Go.Proofs.Ytcckhgadgiaofaa.Gf
open Go Go.ChangeShapes Go.WideShapes Go.ChangeAt Go.RowKit Go.Sort Go.Proofs.Ytcckhgadgiaofaa.By Go.Proofs.Ytcckhgadgiaofaa.Qt

theorem cell_regrow {wr : World} {o : Obj} {p : Addr} {v : Value} (h : wr.cell? p = some v) : (wr.alloc o).cell? p = some v := (((Below.refl wr.heap.size wr).alloc (Nat.le_refl _) o).cell (block_lt_of_cell h)).trans h
theorem sl_src {w : World} {ax : Option Addr} {m cx k : Nat} {R : List Nat} (s : Sl w (.slice ax m cx) R) (h : 0 < (cellsOf (R.take k)).length) : ∃ ad, ax = some ad ∧ ∀ j v, (cellsOf (R.take k))[j]? = some v → w.cell? (ad.add j) = some v := by
  have hR : 0 < R.length := by
    rw [cellsOf_length, List.length_take] at h
    omega
  obtain ⟨b, o, cap, hv, _, _, hk⟩ := sl_cells s hR
  have ha : ax = some ⟨b, o, none⟩ := by simp at hv; exact hv.1
  refine ⟨_, ha, fun j v hj => ?_⟩
  rw [add_none]
  have hj2 : j < R.length := by
    have := (List.getElem?_eq_some_iff.1 hj).1
    rw [cellsOf_length, List.length_take] at this
    omega
  rw [hk j hj2]
  simp only [cellsOf, List.getElem?_map] at hj
  have hjt : j < k := by
    by_cases e : j < k
    · exact e
    · rw [List.getElem?_eq_none (by simp; omega)] at hj
      simp at hj
  rw [List.getElem?_take, if_pos hjt, List.getElem?_eq_getElem hj2] at hj
  simp at hj
  simp [List.getD, hj2, hj]
theorem own_of_cells {w : World} {base g n : Nat} {M : List Nat} (hg : w.heap[g]? = some (.cells (cellsOf M).toArray 5 (0, 0))) (hl : ∀ b ∈ M, b < 256) (hb : base ≤ g) (hM : M.length = n) (hn : n ≤ maxLen) : Own w base (.slice (some ⟨g, 0, none⟩) n n) M := by
  subst hM
  exact ⟨hl, by rw [cellsOf_length, Nat.mul_one], Or.inr ⟨g, _, _, rfl, hb, hg, Nat.le_refl _, hn, by simp [cellsOf], by rw [Nat.mul_one]; exact List.take_of_length_le (by simp [cellsOf])⟩⟩
theorem sizeB1 : (Try.prog.info? 5).map (·.size) = some 1 := by kernel_rfl
/-- copy(row, x), where row are nine bytes of the call's own. -/
theorem copy9 {ops : Array Oper} {rest : List Oper} {dst : Option Tmp} {d s : Operand} {pos : String} {after : Array Edge} {ty : TypeId} {a : Act} {W wr : World} {Q : Exit → Act → World → Prop} {ax : Option Addr} {m cx : Nat} {R : List Nat}
    (hd : a.eval d = .slice (some ⟨wr.heap.size, 0, none⟩) 9 9) (hs : a.eval s = .slice ax m cx) (hg : W.heap[wr.heap.size]? = some (.cells (cellsOf (List.replicate 9 0)).toArray 5 (0, 0))) (hS : Sl W (.slice ax m cx) R) (hm : m = R.length) (hb : Below wr.heap.size wr W)
    (h : ∀ z M w', M.length = 9 → Own w' wr.heap.size (.slice (some ⟨wr.heap.size, 0, none⟩) 9 9) M → Below wr.heap.size wr w' → wpList Try.prog ops Q rest (a.put dst z) w') : wpList Try.prog ops Q (⟨dst, .call { callee := .builtin .copy, args := #[d, s], argTypes := #[22, 22] }, ty, pos, after, none⟩ :: rest) a W := by
  have hmn : (R.take (min m 9)).length = min m 9 := by rw [List.length_take, ← hm]; omega
  refine wpList_copy_splice rfl d s 22 22 rfl 5 Try.underlying22 sizeB1 (some ⟨wr.heap.size, 0, none⟩) ax 9 9 m cx hd hs wr.heap.size 0 (cellsOf (List.replicate 9 0)) 5 hg (cellsOf (R.take (min m 9))) (by rw [cellsOf_length, hmn]) (fun hp => ⟨rfl, sl_src hS hp⟩) (by have h1 := cellsOf_length (R.take (min m 9)); have h2 := cellsOf_length (List.replicate 9 0); rw [hmn] at h1; rw [List.length_replicate] at h2; omega) (cellsOf_one _) wr.heap.size wr hb (Nat.le_refl _) ?_
  intro w' hh hbw
  refine h _ (R.take (min m 9) ++ List.replicate (9 - min m 9) 0) w' (by rw [List.length_append, hmn, List.length_replicate]; omega) (own_of_cells ?_ ?_ (Nat.le_refl _) (by rw [List.length_append, hmn, List.length_replicate]; omega) (by unfold maxLen; decide)) hbw
  · have e : splice (cellsOf (List.replicate 9 0)) 0 (cellsOf (R.take (min m 9))) = cellsOf (R.take (min m 9) ++ List.replicate (9 - min m 9) 0) := by
      simp only [splice, List.take_zero, List.nil_append, Nat.zero_add, cellsOf_length, hmn, cellsOf_append]
      congr 1
      simp only [cellsOf, List.map_replicate, List.drop_replicate]
    rw [← e]
    exact hh.out
  · intro x hx
    rcases List.mem_append.1 hx with hx | hx
    · exact mem_take hS.1 _ x hx
    · rw [List.eq_of_mem_replicate hx]; decide
/-- A matrix times rows. -/
def appR (a b : Nat) (A : Nat → Nat → Nat) (L : List (List Nat)) (m : Nat) : List (List Nat) := (List.range a).map fun i => combR (A i) L m b
theorem appR_length (a b : Nat) (A : Nat → Nat → Nat) (L : List (List Nat)) (m : Nat) : (appR a b A L m).length = a := by simp [appR]
theorem appR_getD {a b m i : Nat} {A : Nat → Nat → Nat} {L : List (List Nat)} (hi : i < a) : (appR a b A L m).getD i [] = combR (A i) L m b := by simp [appR, List.getD, hi]
theorem appR_row {a b m i : Nat} {A : Nat → Nat → Nat} {L : List (List Nat)} (_hb : 0 ≤ b) (hi : i < a) (hL : ∀ j, j < b → (L.getD j []).length = m) : ((appR a b A L m).getD i []).length = m := by
  rw [appR_getD hi]
  exact combR_length b hL
theorem combR_congr {f g : Nat → Nat} {L : List (List Nat)} {m : Nat} : ∀ n, (∀ k, k < n → f k = g k) → combR f L m n = combR g L m n
  | 0, _ => rfl
  | n + 1, h => by rw [combR, combR, combR_congr n fun k hk => h k (by omega), h n (by omega)]
theorem combR_at {f : Nat → Nat} {L : List (List Nat)} {m q : Nat} (hq : q < m) : ∀ n, (∀ j, j < n → (L.getD j []).length = m) → (combR f L m n).getD q 0 = sx n fun k => gm (f k) ((L.getD k []).getD q 0)
  | 0, _ => by simp [combR, sx, List.getD, hq]
  | n + 1, h => by
    have hl := combR_length (f := f) n fun j hj => h j (by omega)
    rw [combR, ma_getD _ _ (by rw [hl]; exact hq) (by rw [hl, h n (by omega)]), combR_at hq n fun j hj => h j (by omega), sx]
theorem appR_comp {a b c m : Nat} {X Y : Nat → Nat → Nat} {L : List (List Nat)} (hX : Bd a b X) (hY : Bd b c Y) (_hc : 1 ≤ c) (_hL : L.length = c) (hL9 : ∀ j, j < c → (L.getD j []).length = m) (hb : ∀ k q, (L.getD k []).getD q 0 < 256) : appR a c (mm b X Y) L m = appR a b X (appR b c Y L m) m := by
  apply List.ext_getElem (by simp [appR])
  intro i h1 h2
  have hi : i < a := by simpa [appR] using h1
  have e1 := appR_getD (b := c) (m := m) (A := mm b X Y) (L := L) hi
  have e2 := appR_getD (b := b) (m := m) (A := X) (L := appR b c Y L m) hi
  simp only [List.getD] at e1 e2
  rw [List.getElem?_eq_getElem h1] at e1
  rw [List.getElem?_eq_getElem h2] at e2
  simp only [Option.getD_some] at e1 e2
  rw [e1, e2]
  have hr : ∀ j, j < b → ((appR b c Y L m).getD j []).length = m := fun j hj => appR_row (Nat.zero_le _) hj hL9
  have l1 := combR_length (f := mm b X Y i) c hL9
  have l2 := combR_length (f := X i) b hr
  apply List.ext_getElem (by rw [l1, l2])
  intro q h3 h4
  have hq : q < m := by rw [l1] at h3; exact h3
  have g1 := combR_at (f := mm b X Y i) hq c hL9
  have g2 := combR_at (f := X i) hq b hr
  rw [List.getD_eq_getElem?_getD, List.getElem?_eq_getElem h3] at g1
  rw [List.getD_eq_getElem?_getD, List.getElem?_eq_getElem h4] at g2
  simp only [Option.getD_some] at g1 g2
  rw [g1, g2]
  have has := mm_assoc (r := a) (p := b) (q := c) (c := m) (A := X) (B := Y) (C := fun k q => (L.getD k []).getD q 0) hX hY (fun k _ q _ => hb k q) i hi q hq
  refine has.trans ?_
  refine sx_congr fun j hj => ?_
  rw [appR_getD hj, combR_at hq c hL9]
  rfl
theorem q_apply {Ok : World → Prop} (P : PC3 Ok) {a b m : Nat} (A : Nat → Nat → Nat) (ha : 1 ≤ a ∧ a ≤ 16) (hb : 1 ≤ b ∧ b ≤ 16) (W : World) (v1 v2 : Value) (L : List (List Nat)) (s1 : Sl W v1 (flat a b A)) (s2 : Sr W v2 L) (hL : L.length = b) (hr : ∀ j, j < b → (L.getD j []).length = m) (hm : m ≤ 1000000) (ok : Ok W) :
    Calls Try.prog 31 #[mv a b v1, v2] W fun e w' => (∃ v, e = .returned (.tuple #[v, .int .i64 0]) ∧ Sr w' v (appR a b A L m)) ∧ Below W.heap.size W w' :=
  (P.apply a b v1 v2 _ L W (i64_nat ha.2) (i64_nat hb.2) s1 s2 (fun k hk => by rw [hr k (by omega)]; exact hm) ok).mono fun e w' h => by
    unfold applyPostS at h
    rw [if_pos ⟨vd_flat A ha hb, by rw [hL], fun k hk => by rw [hr k (by omega), hr 0 (by omega)]⟩] at h
    simp only [Int.toNat_natCast] at h
    have e : applyL' (flat a b A) a b L = appR a b A L m := by
      unfold applyL' appR
      refine List.map_congr_left fun i hi => ?_
      have hi : i < a := by simpa using hi
      rw [combR_rowAt, hr 0 (by omega)]
      exact combR_congr b fun k hk => ent_flat A i hi k hk
    rw [e] at h
    exact h
set_option maxRecDepth 100000 in
set_option maxHeartbeats 6400000 in
theorem comp_walk {Ok : World → Prop} (P : PC3 Ok) (p q r : Int) (v1 v2 v5 : Value) (l1 l2 : List Nat) (l5 : List (List Nat)) (w : World) (hp : I64 p) (hq : I64 q) (hr : I64 r) (s1 : Sl w v1 l1) (s2 : Sl w v2 l2) (s5 : Sr w v5 l5) (ok : Ok w) : Calls Try.prog 11 #[.int .i64 p, .int .i64 q, .int .i64 r, v1, v2, v5] w fun e w' => e = .returned (.bool true) ∧ Below w.heap.size w w' := by
  have ha5 := sz5_bd p
  have hb5 := sz5_bd q
  have hc5 := sz5_bd r
  have hb1 : I64 (((sz5 q : Nat) : Int) - 1) := by unfold I64; omega
  have m1 := fun w s => made_any p q v1 l1 w s hp hq
  have m2 := fun w s => made_any (((sz5 q : Nat) : Int) - 1) r v2 l2 w s hb1 hr
  rw [sz5_pred hb5] at m2
  have ha : 1 ≤ sz5 p ∧ sz5 p ≤ 16 := by omega
  have hb : 1 ≤ sz5 q ∧ sz5 q ≤ 16 := by omega
  have hc : 1 ≤ sz5 r ∧ sz5 r ≤ 16 := by omega
  have HX : Hid (Bd (sz5 p) (sz5 q) (mdm (sz5 q) l1)) := mdm_bd s1.1
  have HY : Hid (Bd (sz5 q) (sz5 r) (mdm (sz5 r) l2)) := mdm_bd s2.1
  have MD1 := Lib.hid m1
  have MD2 := Lib.hid m2
  have S1 := Lib.hid s1
  have S2 := Lib.hid s2
  have S5 := Lib.hid s5
  have AW := Lib.hid (fun w ok => awake_any P w ok)
  have ST := Lib.hid P.st
  have OK := Lib.hid ok
  obtain ⟨a5, c5, hv5, -, -⟩ := sr_form s5
  obtain ⟨n5, hn5⟩ : ∃ n, n = l5.length := ⟨_, rfl⟩
  rw [← hn5] at hv5
  subst hv5
  have N5 := Lib.hid hn5
  clear s1 s2 s5 ok m1 m2 hp hq hr hb1 ha5 hb5 hc5 hn5
  generalize mdm (sz5 q) l1 = X at *
  generalize mdm (sz5 r) l2 = Y at *
  generalize sz5 p = a at *
  generalize sz5 q = b at *
  generalize sz5 r = c at *
  unfold mv at MD1 MD2
  go_enter Try.func11, Try.ntmps11
  go_wp2_with fail
  have B := Lib.hid (Below.refl w.heap.size w)
  refine (MD1.out w S1.out).mono ?_
  try unfold mv
  rintro e w1 ⟨⟨s1, rfl, ho1⟩, hb1⟩
  have hs1 := ho1.sl
  clear ho1
  obtain ⟨a1, c1, hv1, -, -⟩ := sl_form hs1
  obtain ⟨n1, hn1⟩ : ∃ n, n = (flat a b X).length := ⟨_, rfl⟩
  rw [← hn1] at hv1
  subst hv1
  clear hn1
  have al1 := (Below.refl w1.heap.size w1).alloc (Nat.le_refl _) (.cells #[.int .i64 (a : Int), .int .i64 (b : Int), .slice a1 n1 c1] 27)
  have tnew : MB (w1.alloc (.cells #[.int .i64 (a : Int), .int .i64 (b : Int), .slice a1 n1 c1] 27)) 27 w1.heap.size (a : Int) (b : Int) a1 n1 c1 (flat a b X) := MB.mk' hs1
  have tB := bt (bt B.out hb1) al1
  clear B 
  have B := Lib.hid tB
  clear tB 
  have Xm := Lib.hid tnew
  clear tnew al1 hb1 hs1
  obtain ⟨Xmc0, Xmc1, Xmc2⟩ := Xm.out.cells
  go_wp2_with fail
  generalize w1.alloc (.cells #[.int .i64 (a : Int), .int .i64 (b : Int), .slice a1 n1 c1] 27) = W1 at *
  clear Xmc0 Xmc1 Xmc2
  refine (MD2.out W1 (sl_below S2.out B.out)).mono ?_
  try unfold mv
  rintro e w2 ⟨⟨s2, rfl, ho2⟩, hb2⟩
  have hs2 := ho2.sl
  clear ho2
  obtain ⟨a2, c2, hv2, -, -⟩ := sl_form hs2
  obtain ⟨n2, hn2⟩ : ∃ n, n = (flat b c Y).length := ⟨_, rfl⟩
  rw [← hn2] at hv2
  subst hv2
  clear hn2
  have al2 := (Below.refl w2.heap.size w2).alloc (Nat.le_refl _) (.cells #[.int .i64 (b : Int), .int .i64 (c : Int), .slice a2 n2 c2] 27)
  have tnew : MB (w2.alloc (.cells #[.int .i64 (b : Int), .int .i64 (c : Int), .slice a2 n2 c2] 27)) 27 w2.heap.size (b : Int) (c : Int) a2 n2 c2 (flat b c Y) := MB.mk' hs2
  have tXm := (Xm.out.later hb2).later al2
  have tB := bt (bt B.out hb2) al2
  clear B Xm
  have Xm := Lib.hid tXm
  have B := Lib.hid tB
  clear tB tXm
  have Ym := Lib.hid tnew
  clear tnew al2 hb2 hs2
  go_wp2_with fail
  generalize w2.alloc (.cells #[.int .i64 (b : Int), .int .i64 (c : Int), .slice a2 n2 c2] 27) = W2 at *
  go_loopw [15, 16] (fun t15 t16 wr => ∃ (k : Nat) (vs : List Value) (L : List (List Nat)), k ≤ c ∧ t16 = .int .i64 (k : Int) ∧ OwnR wr W2.heap.size t15 vs L ∧ L.length = k ∧ (∀ j, j < k → (L.getD j []).length = 9) ∧ Below W2.heap.size W2 wr) (fun _ t16 _ => c - (intOf t16).toNat)
  case atStart => exact ⟨0, [], [], by omega, rfl, ownr_nil _ _, rfl, fun j hj => by omega, Below.refl _ _⟩
  case round =>
    obtain ⟨k, vs, L, hk, rfl, hO, hLl, hL9, hBw⟩ := hrel
    have HO := Lib.hid hO
    have HL9 := Lib.hid hL9
    have HBw := Lib.hid hBw
    clear hO hL9 hBw
    have tY := Ym.out.later HBw.out
    obtain ⟨y0, y1, y2⟩ := tY.cells
    have TY := Lib.hid tY
    have BB := Lib.hid (bt B.out HBw.out)
    have HVL : Hid (vs.length = k) := HO.out.2.1.trans hLl
    obtain ⟨al, cpl, hvl⟩ := ownsRow_form HO.out.1
    rw [HVL.out] at hvl
    subst hvl
    clear tY
    by_cases hlt : k < c
    · have hm9 := own_made wr (base := W2.heap.size) (n := 9) HBw.out.size (by unfold maxLen; decide)
      have hw9 := (Below.refl wr.heap.size wr).alloc (Nat.le_refl _) (.cells (cellsOf (List.replicate 9 0)).toArray 5)
      have q9 := heap_alloc_new wr (.cells (cellsOf (List.replicate 9 0)).toArray 5)
      by_cases hkl : k < n5
      · obtain ⟨b5, o5, c5', hv5, hcc, hcm, hk5⟩ := sr_cells S5.out (by rw [← N5.out]; omega)
        obtain ⟨x5, hx5, hs5⟩ := hk5 k (by rw [← N5.out]; exact hkl)
        obtain ⟨ax, cx, hvx, _, _⟩ := sl_form hs5
        have ha5 : a5 = some ⟨b5, o5, none⟩ := by simp at hv5; exact hv5.1
        subst ha5
        subst hvx
        have hB9 := bt BB.out hw9
        have f5 := (hB9.cell (p := ⟨b5, o5 + k, none⟩) (block_lt_of_cell hx5)).trans hx5
        have S55 := Lib.hid (sl_below hs5 hB9)
        have p0 : (0 : Int) ≤ (k : Int) := by omega
        have p1 : (k : Int) < (n5 : Int) := by omega
        obtain ⟨R, hR⟩ : ∃ R, R = l5.getD k [] := ⟨_, rfl⟩
        rw [← hR] at S55 f5
        obtain ⟨m5, hm5⟩ : ∃ m, m = R.length := ⟨_, rfl⟩
        rw [← hm5] at S55 f5
        have M5 := Lib.hid hm5
        have W9 := Lib.hid hw9
        have Q9 := Lib.hid q9
        clear hv5 hk5 hx5 hs5 hB9 hR hm5 hw9 q9 hm9
        go_wp2_with (first | ((with_reducible refine make_step (n := 9) ?_ (by omega) ?_); exact rfl; generalize wr.alloc (.cells (cellsOf (List.replicate 9 0)).toArray 5) = w9 at *) | (refine copy9 (W := w9) (wr := wr) (R := R) (m := m5) (cx := cx) ?_ ?_ Q9.out S55.out M5.out W9.out ?_; exact rfl; exact rfl; intro z M9 wc hMl hMo hBc; have HMl := Lib.hid hMl; have HM9 := Lib.hid (own_base HBw.out.size hMo); have HBc := Lib.hid hBc; have HO2 := Lib.hid (ownr_below HO.out hBc); clear hMl hMo hBc f5) | (at_builtin; refine app1 (dst := some 56) Try.underlying54 infoS rfl (by decide) ?_ ?_ (ownsRow_mono HO2.out.1 ((Below.refl wc.heap.size wc).alloc (Nat.le_refl _) _)) (heap_alloc_new _ _) (own_one HM9.out) (by have := HVL.out; omega) (by have := HBc.out.size; have := HBw.out.size; simp; omega) ?_; exact rfl; exact rfl; intro v3 w3 ho3 hg3; have HO3 := Lib.hid ho3; have HG3 := Lib.hid hg3; obtain ⟨av, cv, hv3⟩ := ownsRow_form ho3; subst hv3; clear ho3 hg3))
        go_roundw
        case rel =>
          have hal := (Below.refl wc.heap.size wc).alloc (Nat.le_refl _) (.cells #[.slice (some ⟨wr.heap.size, 0, none⟩) 9 9] 22)
          refine ⟨k + 1, vs ++ [.slice (some ⟨wr.heap.size, 0, none⟩) 9 9], L ++ [M9], by omega, by go_num, ?_, ?_, ?_, ?_⟩
          · exact ownr_push (ownr_below HO2.out hal) (own_below' HM9.out hal) HG3.out HO3.out
          · simp [hLl]
          · intro j hj
            by_cases e : j < k
            · have h := HL9.out j e
              simp only [List.getD, List.getElem?_append_left (show j < L.length by omega)] at h ⊢
              exact h
            · have e2 : j = L.length := by omega
              subst e2
              simp [List.getD, HMl.out]
          · exact ((bt HBw.out HBc.out).alloc (bt HBw.out HBc.out).size _).grown HG3.out (by have := (bt HBw.out HBc.out).size; simp; omega) (fun q hq => (HO2.out.1.lt q hq).1)
        case measure => simp [intOf]; omega
      · obtain ⟨M9, hM9⟩ : ∃ M, M = List.replicate 9 0 := ⟨_, rfl⟩
        rw [← hM9] at hm9
        have HMl : Hid (M9.length = 9) := by rw [hM9]; rfl
        have HM9 := Lib.hid hm9
        have HBc := Lib.hid hw9
        have HO2 := Lib.hid (ownr_below HO.out hw9)
        rw [← hM9] at HBc HO2
        clear hm9 hw9 q9
        go_wp2_with (first | ((with_reducible refine make_step (n := 9) ?_ (by omega) ?_); exact rfl; rw [← hM9]; clear hM9; generalize wr.alloc (.cells (cellsOf M9).toArray 5) = wc at *) | (at_builtin; refine app1 (dst := some 56) Try.underlying54 infoS rfl (by decide) ?_ ?_ (ownsRow_mono HO2.out.1 ((Below.refl wc.heap.size wc).alloc (Nat.le_refl _) _)) (heap_alloc_new _ _) (own_one HM9.out) (by have := HVL.out; omega) (by have := HBc.out.size; have := HBw.out.size; simp; omega) ?_; exact rfl; exact rfl; intro v3 w3 ho3 hg3; have HO3 := Lib.hid ho3; have HG3 := Lib.hid hg3; obtain ⟨av, cv, hv3⟩ := ownsRow_form ho3; subst hv3; clear ho3 hg3))
        go_roundw
        case rel =>
          have hal := (Below.refl wc.heap.size wc).alloc (Nat.le_refl _) (.cells #[.slice (some ⟨wr.heap.size, 0, none⟩) 9 9] 22)
          refine ⟨k + 1, vs ++ [.slice (some ⟨wr.heap.size, 0, none⟩) 9 9], L ++ [M9], by omega, by go_num, ?_, ?_, ?_, ?_⟩
          · exact ownr_push (ownr_below HO2.out hal) (own_below' HM9.out hal) HG3.out HO3.out
          · simp [hLl]
          · intro j hj
            by_cases e : j < k
            · have h := HL9.out j e
              simp only [List.getD, List.getElem?_append_left (show j < L.length by omega)] at h ⊢
              exact h
            · have e2 : j = L.length := by omega
              subst e2
              simp [List.getD, HMl.out]
          · exact ((bt HBw.out HBc.out).alloc (bt HBw.out HBc.out).size _).grown HG3.out (by have := (bt HBw.out HBc.out).size; simp; omega) (fun q hq => (HO2.out.1.lt q hq).1)
        case measure => simp [intOf]; omega
    · obtain rfl : c = k := by omega
      have SB : Hid (∀ k q, (L.getD k []).getD q 0 < 256) := fun k q => by
        by_cases h : k < L.length
        · exact getD_lt (HO.out.2.2 k h).1 q
        · simp [List.getD, h]
      have SR := Lib.hid HO.out.sr
      have tX := Xm.out.later HBw.out
      clear Xm Ym B
      have Xm := Lib.hid tX
      have Ym := TY
      have B := BB
      clear TY BB tX HO
      clear y0 y1 y2
      obtain ⟨Xmc0, Xmc1, Xmc2⟩ := Xm.out.cells
      obtain ⟨Ymc0, Ymc1, Ymc2⟩ := Ym.out.cells
      go_wp2_with fail
      clear Xmc0 Xmc1 Xmc2 Ymc0 Ymc1 Ymc2
      refine (q_mul P X Y ha hb hc wr _ _ Xm.out.sl Ym.out.sl (ST.out _ _ OK.out B.out)).mono ?_
      unfold MS mv
      rintro e w3 ⟨⟨s3, rfl, hs3⟩, hb3⟩
      obtain ⟨a3, c3, hv3, -, -⟩ := sl_form hs3
      obtain ⟨n3, hn3⟩ : ∃ n, n = (flat a c (mm b X Y)).length := ⟨_, rfl⟩
      rw [← hn3] at hv3
      subst hv3
      clear hn3
      have al3 := (Below.refl w3.heap.size w3).alloc (Nat.le_refl _) (.cells #[.int .i64 (a : Int), .int .i64 (c : Int), .slice a3 n3 c3] 27)
      have tnew : MB (w3.alloc (.cells #[.int .i64 (a : Int), .int .i64 (c : Int), .slice a3 n3 c3] 27)) 27 w3.heap.size (a : Int) (c : Int) a3 n3 c3 (flat a c (mm b X Y)) := MB.mk' hs3
      have tXm := (Xm.out.later hb3).later al3
      have tYm := (Ym.out.later hb3).later al3
      have tS := sr_below (sr_below SR.out hb3) al3
      clear SR
      have SR := Lib.hid tS
      clear tS
      have tB := bt (bt B.out hb3) al3
      clear B Xm Ym
      have Xm := Lib.hid tXm
      have Ym := Lib.hid tYm
      have B := Lib.hid tB
      clear tB tXm tYm
      have XY := Lib.hid tnew
      clear tnew al3 hb3 hs3
      obtain ⟨XYc0, XYc1, XYc2⟩ := XY.out.cells
      go_wp2_with fail
      generalize w3.alloc (.cells #[.int .i64 (a : Int), .int .i64 (c : Int), .slice a3 n3 c3] 27) = W3 at *
      clear XYc0 XYc1 XYc2
      refine (q_apply P (mm b X Y) ha hc W3 _ _ L XY.out.sl SR.out hLl HL9.out (by decide) (ST.out _ _ OK.out B.out)).mono ?_
      try unfold mv
      rintro e W4 ⟨⟨v4, rfl, hs4⟩, hb4⟩
      obtain ⟨d4, e4, hv4, -, -⟩ := sr_form hs4
      obtain ⟨n4, hn4⟩ : ∃ n, n = (appR a c (mm b X Y) L 9).length := ⟨_, rfl⟩
      rw [← hn4] at hv4
      subst hv4
      clear hn4
      have tXm := Xm.out.later hb4
      have tYm := Ym.out.later hb4
      have tXY := XY.out.later hb4
      have tS := sr_below SR.out hb4
      clear SR
      have SR := Lib.hid tS
      clear tS
      have tB := bt B.out hb4
      clear B Xm Ym XY
      have Xm := Lib.hid tXm
      have Ym := Lib.hid tYm
      have XY := Lib.hid tXY
      have B := Lib.hid tB
      clear tB tXm tYm tXY
      have O1 := Lib.hid hs4
      clear hs4 hb4
      obtain ⟨Ymc0, Ymc1, Ymc2⟩ := Ym.out.cells
      go_wp2_with fail
      clear Ymc0 Ymc1 Ymc2
      refine (q_apply P Y hb hc W4 _ _ L Ym.out.sl SR.out hLl HL9.out (by decide) (ST.out _ _ OK.out B.out)).mono ?_
      try unfold mv
      rintro e W5 ⟨⟨v5, rfl, hs5⟩, hb5⟩
      obtain ⟨d5, e5, hv5, -, -⟩ := sr_form hs5
      obtain ⟨n5, hn5⟩ : ∃ n, n = (appR b c Y L 9).length := ⟨_, rfl⟩
      rw [← hn5] at hv5
      subst hv5
      clear hn5
      have tXm := Xm.out.later hb5
      have tYm := Ym.out.later hb5
      have tXY := XY.out.later hb5
      have tS := sr_below SR.out hb5
      clear SR
      have SR := Lib.hid tS
      clear tS
      have tS := sr_below O1.out hb5
      clear O1
      have O1 := Lib.hid tS
      clear tS
      have tB := bt B.out hb5
      clear B Xm Ym XY
      have Xm := Lib.hid tXm
      have Ym := Lib.hid tYm
      have XY := Lib.hid tXY
      have B := Lib.hid tB
      clear tB tXm tYm tXY
      have O2 := Lib.hid hs5
      clear hs5 hb5
      obtain ⟨Xmc0, Xmc1, Xmc2⟩ := Xm.out.cells
      go_wp2_with fail
      clear Xmc0 Xmc1 Xmc2
      have q1 := q_apply P X ha hb W5 _ _ (appR b c Y L 9) Xm.out.sl O2.out (appR_length _ _ _ _ _) (fun j hj => appR_row (by omega) hj HL9.out) (by decide) (ST.out _ _ OK.out B.out)
      rw [← appR_comp HX.out HY.out hc.1 hLl HL9.out (SB.out)] at q1
      refine (q1).mono ?_
      try unfold mv
      rintro e W6 ⟨⟨v6, rfl, hs6⟩, hb6⟩
      obtain ⟨d6, e6, hv6, -, -⟩ := sr_form hs6
      obtain ⟨n6, hn6⟩ : ∃ n, n = (appR a c (mm b X Y) L 9).length := ⟨_, rfl⟩
      rw [← hn6] at hv6
      subst hv6
      clear hn6
      have tXm := Xm.out.later hb6
      have tYm := Ym.out.later hb6
      have tXY := XY.out.later hb6
      have tS := sr_below SR.out hb6
      clear SR
      have SR := Lib.hid tS
      clear tS
      have tS := sr_below O1.out hb6
      clear O1
      have O1 := Lib.hid tS
      clear tS
      have tS := sr_below O2.out hb6
      clear O2
      have O2 := Lib.hid tS
      clear tS
      have tB := bt B.out hb6
      clear B Xm Ym XY
      have Xm := Lib.hid tXm
      have Ym := Lib.hid tYm
      have XY := Lib.hid tXY
      have B := Lib.hid tB
      clear tB tXm tYm tXY
      have O3 := Lib.hid hs6
      clear hs6 hb6
      go_wp2_with fail
      refine (rsame_any _ _ _ _ W6 O1.out O3.out).mono ?_
      rw [decide_eq_true rfl]
      rintro e W7 ⟨rfl, hb7⟩
      have tXm := Xm.out.later hb7
      have tYm := Ym.out.later hb7
      have tXY := XY.out.later hb7
      have tS := sr_below SR.out hb7
      clear SR
      have SR := Lib.hid tS
      clear tS
      have tS := sr_below O1.out hb7
      clear O1
      have O1 := Lib.hid tS
      clear tS
      have tS := sr_below O2.out hb7
      clear O2
      have O2 := Lib.hid tS
      clear tS
      have tS := sr_below O3.out hb7
      clear O3
      have O3 := Lib.hid tS
      clear tS
      have tB := bt B.out hb7
      clear B Xm Ym XY
      have Xm := Lib.hid tXm
      have Ym := Lib.hid tYm
      have XY := Lib.hid tXY
      have B := Lib.hid tB
      clear tB tXm tYm tXY
      clear hb7
      go_wp2_with fail
      refine (AW.out W7 (ST.out _ _ OK.out B.out)).mono ?_
      rintro e w8 ⟨rfl, hb8⟩
      go_wp2_with fail
      go_ret
      exact ⟨rfl, bt B.out hb8⟩
end Go.Proofs.Ytcckhgadgiaofaa.Gf
