/- What is proved here: contracts of the reference (disk): Remove, Sync, Rename. Conditions: see each. -/
import Derived.Test.YtpipgbjkkiheaaaK10B
namespace Go.Proofs.Ytpipgbjkkiheaaa.Gf
open Go Go.ChangeShapes Go.WideShapes Go.ChangeAt Go.RowKit

/-- The first elements of a list. -/
theorem rd_take {B : Nat → Prop} {w : World} {t : Ty} {a : Option Addr} {n cap k : Nat} {l : List t.T} (h : Rd B w (.sl t) [.slice a n cap] l) (hk : k ≤ n) : Rd B w (.sl t) [.slice a k cap] (l.take k) := by
  obtain ⟨L, a', cap', h1, rfl, h3, h4, h5, h6⟩ := h
  obtain ⟨rfl, rfl, rfl⟩ : a = a' ∧ n = L.length ∧ cap = cap' := by simpa using h1
  refine ⟨L.take k, a, cap, by rw [List.length_take, Nat.min_eq_left hk], List.map_take, by rw [List.length_take]; omega, h4, fun p hp => h5 p (List.mem_of_mem_take hp), fun hp => ?_⟩
  rw [List.length_take] at hp
  obtain ⟨b, off, e, hb, hc⟩ := h6 (by omega)
  refine ⟨b, off, e, hb, fun j u hu => hc j u ?_⟩
  have e2 : L.flatMap Prod.fst = (L.take k).flatMap Prod.fst ++ (L.drop k).flatMap Prod.fst := by rw [← List.flatMap_append, List.take_append_drop]
  rw [e2, List.getElem?_append_left]
  · exact hu
  · rcases Nat.lt_or_ge j ((L.take k).flatMap Prod.fst).length with c | c
    · exact c
    · rw [List.getElem?_eq_none c] at hu
      cases hu
/-- The elements of a list from the k-th on. -/
theorem rd_drop {B : Nat → Prop} {w : World} {t : Ty} {a : Option Addr} {n cap k : Nat} {l : List t.T} (h : Rd B w (.sl t) [.slice a n cap] l) (hk : k ≤ n) : Rd B w (.sl t) [.slice (if cap = k then a else a.map (·.add (k * t.n))) (n - k) (cap - k)] (l.drop k) := by
  obtain ⟨L, a', cap', h1, rfl, h3, h4, h5, h6⟩ := h
  obtain ⟨rfl, rfl, rfl⟩ : a = a' ∧ n = L.length ∧ cap = cap' := by simpa using h1
  refine ⟨L.drop k, _, _, by rw [List.length_drop], List.map_drop, by rw [List.length_drop]; omega, by omega, fun p hp => h5 p (List.mem_of_mem_drop hp), fun hp => ?_⟩
  rw [List.length_drop] at hp
  obtain ⟨b, off, rfl, hb, hc⟩ := h6 (by omega)
  rw [if_neg (by omega)]
  refine ⟨b, off + k * t.n, by simp [Addr.add], hb, fun j u hu => ?_⟩
  have e2 : L.flatMap Prod.fst = (L.take k).flatMap Prod.fst ++ (L.drop k).flatMap Prod.fst := by rw [← List.flatMap_append, List.take_append_drop]
  have e3 : ((L.take k).flatMap Prod.fst).length = k * t.n := by
    rw [flat_len (t := t) (B := B) (w := w) fun p hp => h5 p (List.mem_of_mem_take hp), List.length_take, Nat.min_eq_left hk]
  rw [Nat.add_assoc]
  refine hc (k * t.n + j) u ?_
  rw [e2, List.getElem?_append_right (by omega), e3, Nat.add_sub_cancel_left]
  exact hu
/-- x[:k] of a list. -/
theorem run_head {P : Program} {S T : TypeId} {t : Ty} (ty : LsT P S T t) {W : World} {a : Option Addr} {n cap k : Nat} (hc : n ≤ cap) (hk : k ≤ n) : (Instr.slice S (.slice a n cap) none (some (.int .i64 (k : Int))) none).run P W = .ok (.slice a k cap) W := by
  obtain ⟨i, z, hi, -⟩ := ty.info
  have h1 : (k : Int) ≤ (cap : Int) := by omega
  have e : (if cap = 0 then a else a.map (·.add 0)) = a := by
    split
    · rfl
    · cases a <;> simp [Addr.add]
  have h : (Instr.slice S (.slice a n cap) none (some (.int .i64 (k : Int))) none).run P W = .ok (.slice (if cap = 0 then a else a.map (·.add 0)) k cap) W := by
    simp [Instr.slice, run_underlying ty.und, Instr.sliceBounds, run_sliceBound _ _ _ _ _ (Int.natCast_nonneg k) h1, sizeOf, run_typeInfo _ hi]
  rw [h, e]
/-- x[k:] of a list. -/
theorem run_tail {P : Program} {S T : TypeId} {t : Ty} (ty : LsT P S T t) {W : World} {a : Option Addr} {n cap k : Nat} (hk : k ≤ n) : (Instr.slice S (.slice a n cap) (some (.int .i64 (k : Int))) none none).run P W = .ok (.slice (if cap = k then a else a.map (·.add (k * t.n))) (n - k) (cap - k)) W := by
  obtain ⟨i, z, hi, -, hs, -⟩ := ty.info
  have h1 : (k : Int) ≤ (n : Int) := by omega
  simp [Instr.slice, run_underlying ty.und, Instr.sliceBounds, run_sliceBound _ _ _ _ _ (Int.natCast_nonneg k) h1, sizeOf, run_typeInfo _ hi, hs]
/-- append of a slice, onto a list of the call's own, where the order is drawn. -/
theorem wp_app_g {P : Program} {S T : TypeId} {t : Ty} (ty : LsT P S T t) {dst : Option Tmp} {s x : Operand} {pos : String} {after : Array Edge} {r : TypeId} {a : Act} {W : World} {K : Act → World → Prop} {Q : Exit → Act → World → Prop}
    {B : Nat → Prop} {base : Nat} {v y : Value} {l m : List t.T} (hs : a.eval s = v) (hx : a.eval x = y) (hv : OwG T t B W base v l) (hy : Rd (fun b => B b ∧ v.ownBlock ≠ some b) W (.sl t) [y] m) (hlm : l.length + m.length ≤ 100000000) (hb : base ≤ W.heap.size)
    (h : ∀ v' w', OwG T t B w' base v' (l ++ m) → W.grownBy w' v.ownBlock → (v'.ownBlock = v.ownBlock ∨ v'.ownBlock = some W.heap.size) → K (a.put dst v') w') : Oper.wp P ⟨dst, .call { callee := .builtin .append, args := #[s, x], argTypes := #[S, S] }, r, pos, after, none⟩ a W K Q := by
  obtain ⟨v', w', hr, h2, h3, h4⟩ := run_app_g ty r hv hy hlm hb
  unfold Oper.wp execOp
  simp only [resolve, invoke, builtin, Sem.run_bind, Sem.run_pure, Result.andThen_ok, List.map_toArray, List.map_cons, List.map_nil, hs, hx, hr]
  exact h v' w' h2 h3 h4
theorem exec_head {P : Program} {S T : TypeId} {t : Ty} (ty : LsT P S T t) {ρ : Operand → Value} {dst : Option Tmp} {x y : Operand} {r : TypeId} {pos : String} {after : Array Edge} {W : World} {a : Option Addr} {n cap k : Nat} (hx : ρ x = .slice a n cap) (hy : ρ y = .int .i64 (k : Int)) (hc : n ≤ cap) (hk : k ≤ n) : (execOp ρ ⟨dst, .slice S x none (some y) none, r, pos, after, none⟩).run P W = .ok (.value (.slice a k cap)) W := by
  have h := run_head ty (W := W) (a := a) hc hk
  unfold execOp
  simp [hx, hy, Instr.sliceAt, run_underlying ty.und, h]
theorem exec_tail {P : Program} {S T : TypeId} {t : Ty} (ty : LsT P S T t) {ρ : Operand → Value} {dst : Option Tmp} {x y : Operand} {r : TypeId} {pos : String} {after : Array Edge} {W : World} {a : Option Addr} {n cap k : Nat} (hx : ρ x = .slice a n cap) (hy : ρ y = .int .i64 (k : Int)) (hk : k ≤ n) : (execOp ρ ⟨dst, .slice S x (some y) none none, r, pos, after, none⟩).run P W = .ok (.value (.slice (if cap = k then a else a.map (·.add (k * t.n))) (n - k) (cap - k))) W := by
  have h := run_tail ty (W := W) (a := a) (cap := cap) hk
  unfold execOp
  simp [hx, hy, Instr.sliceAt, run_underlying ty.und, h]
end Go.Proofs.Ytpipgbjkkiheaaa.Gf
namespace Go.Proofs.Ytpipgbjkkiheaaa.Gf
open Go Go.Joins Go.ChangeShapes Go.WideShapes Go.ChangeAt Go.RowKit Go.Deep Go.Proofs.Ytpipgbjkkiheaaa.By Go.Proofs.Ytpipgbjkkiheaaa.Qt

def removeD (d : Dk) (s : ByteArray) : Dk := if atE d s = 0 then ((nextD d).1, (nextD d).2.1, d.2.2.take (atI d s).toNat ++ d.2.2.drop ((atI d s).toNat + 1)) else dk0
theorem at_len {d : Dk} {s : ByteArray} (h : atE d s = 0) : d.2.2.length ≤ 256 := by
  by_cases c : readyE d s = 0
  · exact (ready_len c).1
  · unfold atE at h
    rw [if_neg c] at h
    exact absurd h c
set_option maxRecDepth 100000 in
set_option maxHeartbeats 6400000 in
theorem rremove_any (v : Value) (d : Dk) (s : ByteArray) (hs : s.size ≤ maxLen) (w : World) (hv : Dv w v d) : Calls Try.prog 62 #[v, .string s] w (DE (fun b => b < w.heap.size) w (removeD d s) (atE d s)) := by
  have HV := Lib.hid hv
  obtain ⟨fv, rfl, hr, sf⟩ := hv
  obtain ⟨af, cf, rfl, -, -⟩ := rd_sl sf
  have BX2 := Lib.hid (btA (bel_al0 w (.cells #[.int .i64 d.1, .int .i64 d.2.1, .slice af d.2.2.length cf] 24)) (bel_al0 _ (.cells #[.int .i64 0, .int .i64 0, .slice none 0 0] 24)))
  have HX := Lib.hid (show ((w.alloc (.cells #[.int .i64 d.1, .int .i64 d.2.1, .slice af d.2.2.length cf] 24)).alloc (.cells #[.int .i64 0, .int .i64 0, .slice none 0 0] 24)).heap[w.heap.size]? = some (.cells #[.int .i64 d.1, .int .i64 d.2.1, .slice af d.2.2.length cf] 24 (0, 0)) from (heap_alloc_old _ _ (by simp)).trans (heap_alloc_new w _))
  have HY := Lib.hid (heap_alloc2_new w (.cells #[.int .i64 d.1, .int .i64 d.2.1, .slice af d.2.2.length cf] 24) (.cells #[.int .i64 0, .int .i64 0, .slice none 0 0] 24))
  have RA := Lib.hid (rat_any _ d s hs _ (dv_below HV.out BX2.out))
  have RN := Lib.hid (fun W (h : Below w.heap.size w W) (hl : d.2.2.length ≤ 1000000) => rnext_any _ d W (dv_dvB HV.out h) hl)
  have OK := Lib.hid (fun h => And.intro (at_ok (d := d) (s := s) h) (at_len h))
  have hD : removeD d s = if atE d s = 0 then ((nextD d).1, (nextD d).2.1, d.2.2.take (atI d s).toNat ++ d.2.2.drop ((atI d s).toNat + 1)) else dk0 := rfl
  have HNX : Hid (((-9223372036854775808 ≤ (nextD d).1 ∧ (nextD d).1 ≤ 9223372036854775807) ∧ (-9223372036854775808 ≤ (nextD d).2.1 ∧ (nextD d).2.1 ≤ 9223372036854775807)) ∧ (nextD d).2.2 = d.2.2) := Lib.hid (by
    refine ⟨⟨hr.1, ?_⟩, rfl⟩
    show -9223372036854775808 ≤ leftN d.2.1 ∧ leftN d.2.1 ≤ 9223372036854775807
    unfold leftN
    split <;> omega)
  generalize nextD d = ND at *
  generalize removeD d s = CD at *
  generalize atE d s = E at *
  generalize atI d s = I at *
  obtain ⟨cap, left, L⟩ := d
  dsimp only at RA RN HX HY BX2 hD OK HNX ⊢
  obtain ⟨n, hn⟩ : ∃ z, z = L.length := ⟨_, rfl⟩
  rw [← hn] at RA RN HX HY BX2 OK ⊢
  have HN := Lib.hid hn
  have HD := Lib.hid hD
  obtain ⟨x0, x1, x2⟩ := box3c HX.out
  clear sf hD HV hn hr
  go_enter Try.func62, Try.ntmps62
  go_wp2_with fail
  refine RA.out.mono ?_
  rintro e w2 ⟨rfl, hb2⟩
  have SZ2 := Lib.hid (show w.heap.size + 2 ≤ w2.heap.size from by have h := hb2.size; simp at h; omega)
  have HX2 := Lib.hid ((hb2.block _ (lt_of_some0 HX.out)).trans HX.out)
  have HY2 := Lib.hid ((hb2.block _ (lt_of_some0 HY.out)).trans HY.out)
  have B2 := Lib.hid (btA BX2.out hb2)
  clear x0 x1 x2 hb2 RA HX HY
  obtain ⟨x0, x1, x2⟩ := box3c HX2.out
  by_cases hE0 : E = 0
  · subst hE0
    rw [if_pos rfl] at HD
    obtain ⟨⟨hI0, hI1⟩, hl⟩ := OK.out rfl
    obtain ⟨i, rfl⟩ : ∃ i : Nat, I = (i : Int) := ⟨I.toNat, by omega⟩
    rw [Int.toNat_natCast] at HD
    have HI1 := Lib.hid (show i < n by omega)
    have HL := Lib.hid hl
    have RN3 := Lib.hid (RN.out w2 B2.out (by omega))
    clear hI0 hI1 hl OK
    go_wp2_with fail
    refine RN3.out.mono ?_
    rintro e w4 ⟨⟨f4, rfl, ho4⟩, hb4⟩
    obtain ⟨ncap, nleft, NL⟩ := ND
    dsimp only at ho4 HNX HD
    obtain rfl : L = NL := HNX.out.2.symm
    obtain ⟨a5, c5, rfl, hn5, -⟩ := og_form ho4
    have HC5 := Lib.hid hn5
    rw [← HN.out] at ho4 HC5 ⊢
    have HO4 := Lib.hid ho4
    have HX4 := Lib.hid ((hb4.block _ (lt_of_some0 HX2.out)).trans HX2.out)
    have HY4 := Lib.hid ((hb4.block _ (lt_of_some0 HY2.out)).trans HY2.out)
    have B4 := Lib.hid (btA B2.out hb4)
    have SZ4 := Lib.hid (show w2.heap.size ≤ w4.heap.size from hb4.size)
    clear x0 x1 x2 hb4 ho4 RN3 HX2 HY2 hn5
    have z0 := frozen_of_row _ w.heap.size 0 _ _ HX4.out
    have z1 := frozen_of_row _ w.heap.size 1 _ _ HX4.out
    have z2 := frozen_of_row _ w.heap.size 2 _ _ HX4.out
    obtain ⟨x0, x1, x2⟩ := box3c HX4.out
    go_upto_region 5 with fail
    have HX5 := Lib.hid (set3c (k := .int .i64 ncap) (l := .int .i64 nleft) (m := .slice a5 n c5) HX4.out)
    have HY5 := Lib.hid ((set3_other (k := .int .i64 ncap) (l := .int .i64 nleft) (m := .slice a5 n c5) (by omega : w.heap.size + 1 ≠ w.heap.size)).trans HY4.out)
    have B5 := Lib.hid (below_set3 (k := .int .i64 ncap) (l := .int .i64 nleft) (m := .slice a5 n c5) B4.out (Nat.le_refl _))
    have RD5 := Lib.hid (og_rdw (og_move (w' := ((w4.setCell ⟨w.heap.size, 0, none⟩ (.int .i64 ncap)).setCell ⟨w.heap.size, 1, none⟩ (.int .i64 nleft)).setCell ⟨w.heap.size, 2, none⟩ (.slice a5 n c5)) HO4.out fun b hb _ => set3_other (by
      rcases hb with hb | hb
      · have := hb.1; omega
      · have := (og_lt HO4.out _ hb).1
        have := SZ2.out
        omega)))
    have SZ5 := Lib.hid (show w4.heap.size ≤ (((w4.setCell ⟨w.heap.size, 0, none⟩ (.int .i64 ncap)).setCell ⟨w.heap.size, 1, none⟩ (.int .i64 nleft)).setCell ⟨w.heap.size, 2, none⟩ (.slice a5 n c5)).heap.size by simp)
    clear x0 x1 x2 z0 z1 z2 HX4 HY4 B4 HO4
    generalize ((w4.setCell ⟨w.heap.size, 0, none⟩ (.int .i64 ncap)).setCell ⟨w.heap.size, 1, none⟩ (.int .i64 nleft)).setCell ⟨w.heap.size, 2, none⟩ (.slice a5 n c5) = W5 at *
    obtain ⟨x0, x1, x2⟩ := box3c HX5.out
    refine wp_region_any (by kernel_rfl) ?_
    change wpAny _ _ _ _ _ _ _ (W5.drewN 1)
    have hd := below_drewN W5 1
    have HX6 := Lib.hid ((hd.block _ (lt_of_some0 HX5.out)).trans HX5.out)
    have HY6 := Lib.hid ((hd.block _ (lt_of_some0 HY5.out)).trans HY5.out)
    have B6 := Lib.hid (btA B5.out hd)
    have RD6 := Lib.hid (rd_oldB (rd_below RD5.out hd) (Below.refl _ _))
    have SZ6 := Lib.hid (show w2.heap.size ≤ (W5.drewN 1).heap.size from by have h1 := hd.size; have h2 := SZ5.out; have h3 := SZ4.out; omega)
    clear x0 x1 x2 hd HX5 HY5 B5 RD5 SZ5
    generalize W5.drewN 1 = W6 at *
    obtain ⟨k0, k1, k2⟩ := box3c HX6.out
    have x0 := k0
    have x1 := k1
    have x2 := k2
    have BLA := Lib.hid (bel_al0 W6 (.cells #[] 63))
    have OEX := Lib.hid (og_empty (T := 63) tyF (fun b => ((b < w.heap.size ∧ b < w2.heap.size) ∨ w2.heap.size ≤ b) ∧ b < W6.heap.size) W6 rfl (Nat.le_refl _))
    have RH := Lib.hid (fun W (hW : Below W6.heap.size W6 W) => rd_take (k := i) (rd_mono (C := fun b => (((b < w.heap.size ∧ b < w2.heap.size) ∨ w2.heap.size ≤ b) ∧ b < W6.heap.size) ∧ (Value.slice (some ⟨W6.heap.size, 0, none⟩) 0 0).ownBlock ≠ some b) (rd_below RD6.out hW) fun b hb _ => ⟨hb, fun e => by have h1 := (og_lt OEX.out _ e).1; omega⟩) (by have := HI1.out; omega))
    have RT := Lib.hid (fun W (v : Value) (l : List Fl) (hW : Below W6.heap.size W6 W) (ho : OwG 63 tyF (fun b => ((b < w.heap.size ∧ b < w2.heap.size) ∨ w2.heap.size ≤ b) ∧ b < W6.heap.size) W W6.heap.size v l) => rd_drop (k := i + 1) (rd_mono (C := fun b => (((b < w.heap.size ∧ b < w2.heap.size) ∨ w2.heap.size ≤ b) ∧ b < W6.heap.size) ∧ v.ownBlock ≠ some b) (rd_below RD6.out hW) fun b hb _ => ⟨hb, fun e => by have h1 := (og_lt ho _ e).1; omega⟩) (by have := HI1.out; omega))
    have HLEN : Hid (L.length = n ∧ n ≤ 256) := Lib.hid ⟨HN.out.symm, HL.out⟩
    have hw1 : wrap64 ((i : Int) + 1) = ((i + 1 : Nat) : Int) := by have h1 := HI1.out; have h2 := HL.out; unfold wrap64; omega
    have p5 : IntKind.i64.wrap ((i : Int) + 1) = (i : Int) + 1 := IntWalk.i64_in _ (by have h1 := HI1.out; have h2 := HL.out; clear hw1; omega)
    obtain ⟨VT, hVT⟩ : ∃ z, z = Value.slice (if c5 = i + 1 then a5 else a5.map (·.add ((i + 1) * tyF.n))) (n - (i + 1)) (c5 - (i + 1)) := ⟨_, rfl⟩
    rw [← hVT] at RT
    have HVT := Lib.hid hVT
    clear hVT
    refine wpAny_take (i := 1) (v := .pointer (some ⟨w.heap.size, 2, none⟩)) rfl (by kernel_rfl) (by kernel_rfl) (by kernel_rfl) (fun _ _ _ h => h) (Or.inl ⟨by rfl, fun wx => by go_simp⟩) ?_
    refine wpAny_take (i := 3) (v := .int .i64 (i : Int)) rfl (by kernel_rfl) (by kernel_rfl) (by kernel_rfl) (fun _ _ _ h => h) (Or.inl ⟨by rfl, fun wx => by go_simp⟩) ?_
    refine wpAny_take (i := 6) (v := .pointer (some ⟨w.heap.size, 2, none⟩)) rfl (by kernel_rfl) (by kernel_rfl) (by kernel_rfl) (fun _ _ _ h => h) (Or.inl ⟨by rfl, fun wx => by go_simp⟩) ?_
    refine wpAny_take (i := 8) (v := .int .i64 (i : Int)) rfl (by kernel_rfl) (by kernel_rfl) (by kernel_rfl) (fun _ _ _ h => h) (Or.inl ⟨by rfl, fun wx => by go_simp⟩) ?_
    refine wpAny_take (i := 9) (v := .int .i64 ((i + 1 : Nat) : Int)) rfl (by kernel_rfl) (by kernel_rfl) (by kernel_rfl) (fun _ _ _ h => h) (Or.inl ⟨by rfl, fun wx => by go_simp <;> exact p5⟩) ?_
    refine wpAny_ready (rs := [0, 2, 7]) (by kernel_rfl) (by simp) ?_
    refine AllReady.cons rfl (fun K hK => ?_) (AllReady.cons rfl (fun K hK => ?_) (AllReady.cons rfl (fun K hK => ?_) (AllReady.nil)))
    · go_simp
      refine hK _ _ ?_
      clear hK K
      replace x0 := (BLA.out.cell (block_lt_of_cell k0)).trans k0
      replace x1 := (BLA.out.cell (block_lt_of_cell k1)).trans k1
      replace x2 := (BLA.out.cell (block_lt_of_cell k2)).trans k2
      refine wpAny_ready (rs := [2, 7]) (by kernel_rfl) (by simp) ?_
      refine AllReady.cons rfl (fun K hK => ?_) (AllReady.cons rfl (fun K hK => ?_) (AllReady.nil))
      · go_simp
        refine hK _ _ ?_
        clear hK K
        refine wpAny_take (i := 4) (v := .slice a5 i c5) rfl (by kernel_rfl) (by kernel_rfl) (by kernel_rfl) (fun _ _ _ h => h) (Or.inl ⟨by rfl, fun wx => exec_head lsF rfl rfl HC5.out (by have := HI1.out; omega)⟩) ?_
        refine wpAny_ready (rs := [5, 7]) (by kernel_rfl) (by simp) ?_
        refine AllReady.cons rfl (fun K hK => ?_) (AllReady.cons rfl (fun K hK => ?_) (AllReady.nil))
        · refine wp_app_g lsF ?_ ?_ OEX.out (RH.out _ BLA.out) (by have h1 := HLEN.out; have h2 := HI1.out; simp only [List.length_nil, List.length_take]; omega) (by have h1 := BLA.out.size; omega) ?_
          exact rfl
          exact rfl
          intro v6 w6 ho6 hg6 hat6
          rw [List.nil_append] at ho6
          have BL6 := Lib.hid (below_grownG BLA.out hg6 OEX.out BLA.out.size (Nat.le_refl _))
          obtain ⟨a6, c6, rfl, -, -⟩ := og_form ho6
          obtain ⟨n6, hn6⟩ : ∃ z, z = (L.take i).length := ⟨_, rfl⟩
          rw [← hn6] at ho6 ⊢
          have HN6 := Lib.hid hn6
          have HO6 := Lib.hid ho6
          clear ho6 hg6 hat6 hn6
          replace x0 := (BL6.out.cell (block_lt_of_cell k0)).trans k0
          replace x1 := (BL6.out.cell (block_lt_of_cell k1)).trans k1
          replace x2 := (BL6.out.cell (block_lt_of_cell k2)).trans k2
          refine hK _ _ ?_
          clear hK K
          refine wpAny_ready (rs := [7]) (by kernel_rfl) (by simp) ?_
          refine AllReady.cons rfl (fun K hK => ?_) (AllReady.nil)
          go_simp
          refine hK _ _ ?_
          clear hK K
          refine wpAny_take (i := 10) (v := VT) rfl (by kernel_rfl) (by kernel_rfl) (by kernel_rfl) (fun _ _ _ h => h) (Or.inl ⟨by rfl, fun wx => by rw [HVT.out]; exact exec_tail lsF rfl rfl (by have := HI1.out; omega)⟩) ?_
          refine wpAny_ready (rs := [11]) (by kernel_rfl) (by simp) ?_
          refine AllReady.cons rfl (fun K hK => ?_) (AllReady.nil)
          refine wp_app_g lsF ?_ ?_ HO6.out (RT.out _ _ _ BL6.out HO6.out) (by have h1 := HLEN.out; have h2 := HI1.out; simp only [List.length_take, List.length_drop]; omega) (by have h1 := BL6.out.size; omega) ?_
          exact rfl
          exact rfl
          intro v7 w7 ho7 hg7 hat7
          have BL7 := Lib.hid (below_grownG BL6.out hg7 HO6.out BL6.out.size (Nat.le_refl _))
          obtain ⟨a7, c7, rfl, -, -⟩ := og_form ho7
          obtain ⟨n7, hn7⟩ : ∃ z, z = (L.take i ++ L.drop (i + 1)).length := ⟨_, rfl⟩
          rw [← hn7] at ho7 ⊢
          have HN7 := Lib.hid hn7
          have HO7 := Lib.hid ho7
          clear ho7 hg7 hat7 hn7
          refine hK _ _ ?_
          clear hK K
          refine wpAny_ready (rs := [12]) (by kernel_rfl) (by simp) ?_
          refine AllReady.cons rfl (fun K hK => ?_) AllReady.nil
          go_simp
          refine hK _ _ ?_
          clear hK K
          refine wpAny_ready (rs := [13]) (by kernel_rfl) (by simp) ?_
          refine AllReady.cons rfl (fun K hK => ?_) AllReady.nil
          have HX7 := Lib.hid ((BL7.out.block _ (lt_of_some0 HX6.out)).trans HX6.out)
          have HY7 := Lib.hid ((BL7.out.block _ (lt_of_some0 HY6.out)).trans HY6.out)
          have z2 := frozen_of_row _ w.heap.size 2 _ _ HX7.out
          clear x0 x1 x2
          obtain ⟨x0, x1, x2⟩ := box3c HX7.out
          have HX8 := Lib.hid (show (w7.setCell ⟨w.heap.size, 2, none⟩ (.slice a7 n7 c7)).heap[w.heap.size]? = some (.cells #[.int .i64 ncap, .int .i64 nleft, .slice a7 n7 c7] 24 (0, 0)) from (by simpa using heap_setCell_same w7 w.heap.size 2 _ _ (.slice a7 n7 c7) HX7.out))
          have HY8 := Lib.hid ((other1 (W := w7) (g := w.heap.size) (o := 2) (v := .slice a7 n7 c7) (by omega : w.heap.size + 1 ≠ w.heap.size)).trans HY7.out)
          have B8 := Lib.hid ((B6.out.trans (BL7.out.mono B6.out.size)).setCell (p := ⟨w.heap.size, 2, none⟩) (Nat.le_refl _) (.slice a7 n7 c7))
          have O8 := Lib.hid (og_rdw (og_move (w' := w7.setCell ⟨w.heap.size, 2, none⟩ (.slice a7 n7 c7)) HO7.out fun b hb _ => heap_setCell_other _ _ _ _ (by
            show b ≠ w.heap.size
            have h1 := SZ2.out
            have h2 := SZ6.out
            rcases hb with hb | hb
            · omega
            · have := (og_lt HO7.out _ hb).1
              omega)))
          go_simp
          refine hK _ _ ?_
          clear hK K z2 x0 x1 x2
          refine wpAny_done (by kernel_rfl) ?_ _
          generalize w7.setCell ⟨w.heap.size, 2, none⟩ (.slice a7 n7 c7) = W8 at *
          obtain ⟨x0, x1, x2⟩ := box3c HX8.out
          obtain ⟨y0, y1, y2⟩ := box3c HY8.out
          have u0 := frozen_of_row W8 (w.heap.size + 1) 0 _ _ HY8.out
          have u1 := frozen_of_row W8 (w.heap.size + 1) 1 _ _ HY8.out
          have u2 := frozen_of_row W8 (w.heap.size + 1) 2 _ _ HY8.out
          clear hw1
          go_wp2
          refine rdisk_end rfl (set3c HY8.out) rfl ?_
          rw [HD.out]
          refine ⟨⟨_, rfl, _, rfl, HNX.out.1, rd_move (fun b hb _ => set3_other ?_) (fun b hb _ => ?_) O8.out⟩, below_set3 B8.out (by omega)⟩
          · have h1 := SZ2.out; have h2 := SZ6.out; omega
          · have h1 := SZ2.out; have h2 := SZ6.out; omega

        · go_simp
          refine hK _ _ ?_
          clear hK K
          refine wpAny_take (i := 10) (v := VT) rfl (by kernel_rfl) (by kernel_rfl) (by kernel_rfl) (fun _ _ _ h => h) (Or.inl ⟨by rfl, fun wx => by rw [HVT.out]; exact exec_tail lsF rfl rfl (by have := HI1.out; omega)⟩) ?_
          refine wpAny_ready (rs := [5]) (by kernel_rfl) (by simp) ?_
          refine AllReady.cons rfl (fun K hK => ?_) (AllReady.nil)
          refine wp_app_g lsF ?_ ?_ OEX.out (RH.out _ BLA.out) (by have h1 := HLEN.out; have h2 := HI1.out; simp only [List.length_nil, List.length_take]; omega) (by have h1 := BLA.out.size; omega) ?_
          exact rfl
          exact rfl
          intro v6 w6 ho6 hg6 hat6
          rw [List.nil_append] at ho6
          have BL6 := Lib.hid (below_grownG BLA.out hg6 OEX.out BLA.out.size (Nat.le_refl _))
          obtain ⟨a6, c6, rfl, -, -⟩ := og_form ho6
          obtain ⟨n6, hn6⟩ : ∃ z, z = (L.take i).length := ⟨_, rfl⟩
          rw [← hn6] at ho6 ⊢
          have HN6 := Lib.hid hn6
          have HO6 := Lib.hid ho6
          clear ho6 hg6 hat6 hn6
          replace x0 := (BL6.out.cell (block_lt_of_cell k0)).trans k0
          replace x1 := (BL6.out.cell (block_lt_of_cell k1)).trans k1
          replace x2 := (BL6.out.cell (block_lt_of_cell k2)).trans k2
          refine hK _ _ ?_
          clear hK K
          refine wpAny_ready (rs := [11]) (by kernel_rfl) (by simp) ?_
          refine AllReady.cons rfl (fun K hK => ?_) (AllReady.nil)
          refine wp_app_g lsF ?_ ?_ HO6.out (RT.out _ _ _ BL6.out HO6.out) (by have h1 := HLEN.out; have h2 := HI1.out; simp only [List.length_take, List.length_drop]; omega) (by have h1 := BL6.out.size; omega) ?_
          exact rfl
          exact rfl
          intro v7 w7 ho7 hg7 hat7
          have BL7 := Lib.hid (below_grownG BL6.out hg7 HO6.out BL6.out.size (Nat.le_refl _))
          obtain ⟨a7, c7, rfl, -, -⟩ := og_form ho7
          obtain ⟨n7, hn7⟩ : ∃ z, z = (L.take i ++ L.drop (i + 1)).length := ⟨_, rfl⟩
          rw [← hn7] at ho7 ⊢
          have HN7 := Lib.hid hn7
          have HO7 := Lib.hid ho7
          clear ho7 hg7 hat7 hn7
          refine hK _ _ ?_
          clear hK K
          refine wpAny_ready (rs := [12]) (by kernel_rfl) (by simp) ?_
          refine AllReady.cons rfl (fun K hK => ?_) AllReady.nil
          go_simp
          refine hK _ _ ?_
          clear hK K
          refine wpAny_ready (rs := [13]) (by kernel_rfl) (by simp) ?_
          refine AllReady.cons rfl (fun K hK => ?_) AllReady.nil
          have HX7 := Lib.hid ((BL7.out.block _ (lt_of_some0 HX6.out)).trans HX6.out)
          have HY7 := Lib.hid ((BL7.out.block _ (lt_of_some0 HY6.out)).trans HY6.out)
          have z2 := frozen_of_row _ w.heap.size 2 _ _ HX7.out
          clear x0 x1 x2
          obtain ⟨x0, x1, x2⟩ := box3c HX7.out
          have HX8 := Lib.hid (show (w7.setCell ⟨w.heap.size, 2, none⟩ (.slice a7 n7 c7)).heap[w.heap.size]? = some (.cells #[.int .i64 ncap, .int .i64 nleft, .slice a7 n7 c7] 24 (0, 0)) from (by simpa using heap_setCell_same w7 w.heap.size 2 _ _ (.slice a7 n7 c7) HX7.out))
          have HY8 := Lib.hid ((other1 (W := w7) (g := w.heap.size) (o := 2) (v := .slice a7 n7 c7) (by omega : w.heap.size + 1 ≠ w.heap.size)).trans HY7.out)
          have B8 := Lib.hid ((B6.out.trans (BL7.out.mono B6.out.size)).setCell (p := ⟨w.heap.size, 2, none⟩) (Nat.le_refl _) (.slice a7 n7 c7))
          have O8 := Lib.hid (og_rdw (og_move (w' := w7.setCell ⟨w.heap.size, 2, none⟩ (.slice a7 n7 c7)) HO7.out fun b hb _ => heap_setCell_other _ _ _ _ (by
            show b ≠ w.heap.size
            have h1 := SZ2.out
            have h2 := SZ6.out
            rcases hb with hb | hb
            · omega
            · have := (og_lt HO7.out _ hb).1
              omega)))
          go_simp
          refine hK _ _ ?_
          clear hK K z2 x0 x1 x2
          refine wpAny_done (by kernel_rfl) ?_ _
          generalize w7.setCell ⟨w.heap.size, 2, none⟩ (.slice a7 n7 c7) = W8 at *
          obtain ⟨x0, x1, x2⟩ := box3c HX8.out
          obtain ⟨y0, y1, y2⟩ := box3c HY8.out
          have u0 := frozen_of_row W8 (w.heap.size + 1) 0 _ _ HY8.out
          have u1 := frozen_of_row W8 (w.heap.size + 1) 1 _ _ HY8.out
          have u2 := frozen_of_row W8 (w.heap.size + 1) 2 _ _ HY8.out
          clear hw1
          go_wp2
          refine rdisk_end rfl (set3c HY8.out) rfl ?_
          rw [HD.out]
          refine ⟨⟨_, rfl, _, rfl, HNX.out.1, rd_move (fun b hb _ => set3_other ?_) (fun b hb _ => ?_) O8.out⟩, below_set3 B8.out (by omega)⟩
          · have h1 := SZ2.out; have h2 := SZ6.out; omega
          · have h1 := SZ2.out; have h2 := SZ6.out; omega


      · go_simp
        refine hK _ _ ?_
        clear hK K
        refine wpAny_take (i := 10) (v := VT) rfl (by kernel_rfl) (by kernel_rfl) (by kernel_rfl) (fun _ _ _ h => h) (Or.inl ⟨by rfl, fun wx => by rw [HVT.out]; exact exec_tail lsF rfl rfl (by have := HI1.out; omega)⟩) ?_
        refine wpAny_ready (rs := [2]) (by kernel_rfl) (by simp) ?_
        refine AllReady.cons rfl (fun K hK => ?_) (AllReady.nil)
        go_simp
        refine hK _ _ ?_
        clear hK K
        refine wpAny_take (i := 4) (v := .slice a5 i c5) rfl (by kernel_rfl) (by kernel_rfl) (by kernel_rfl) (fun _ _ _ h => h) (Or.inl ⟨by rfl, fun wx => exec_head lsF rfl rfl HC5.out (by have := HI1.out; omega)⟩) ?_
        refine wpAny_ready (rs := [5]) (by kernel_rfl) (by simp) ?_
        refine AllReady.cons rfl (fun K hK => ?_) (AllReady.nil)
        refine wp_app_g lsF ?_ ?_ OEX.out (RH.out _ BLA.out) (by have h1 := HLEN.out; have h2 := HI1.out; simp only [List.length_nil, List.length_take]; omega) (by have h1 := BLA.out.size; omega) ?_
        exact rfl
        exact rfl
        intro v6 w6 ho6 hg6 hat6
        rw [List.nil_append] at ho6
        have BL6 := Lib.hid (below_grownG BLA.out hg6 OEX.out BLA.out.size (Nat.le_refl _))
        obtain ⟨a6, c6, rfl, -, -⟩ := og_form ho6
        obtain ⟨n6, hn6⟩ : ∃ z, z = (L.take i).length := ⟨_, rfl⟩
        rw [← hn6] at ho6 ⊢
        have HN6 := Lib.hid hn6
        have HO6 := Lib.hid ho6
        clear ho6 hg6 hat6 hn6
        replace x0 := (BL6.out.cell (block_lt_of_cell k0)).trans k0
        replace x1 := (BL6.out.cell (block_lt_of_cell k1)).trans k1
        replace x2 := (BL6.out.cell (block_lt_of_cell k2)).trans k2
        refine hK _ _ ?_
        clear hK K
        refine wpAny_ready (rs := [11]) (by kernel_rfl) (by simp) ?_
        refine AllReady.cons rfl (fun K hK => ?_) (AllReady.nil)
        refine wp_app_g lsF ?_ ?_ HO6.out (RT.out _ _ _ BL6.out HO6.out) (by have h1 := HLEN.out; have h2 := HI1.out; simp only [List.length_take, List.length_drop]; omega) (by have h1 := BL6.out.size; omega) ?_
        exact rfl
        exact rfl
        intro v7 w7 ho7 hg7 hat7
        have BL7 := Lib.hid (below_grownG BL6.out hg7 HO6.out BL6.out.size (Nat.le_refl _))
        obtain ⟨a7, c7, rfl, -, -⟩ := og_form ho7
        obtain ⟨n7, hn7⟩ : ∃ z, z = (L.take i ++ L.drop (i + 1)).length := ⟨_, rfl⟩
        rw [← hn7] at ho7 ⊢
        have HN7 := Lib.hid hn7
        have HO7 := Lib.hid ho7
        clear ho7 hg7 hat7 hn7
        refine hK _ _ ?_
        clear hK K
        refine wpAny_ready (rs := [12]) (by kernel_rfl) (by simp) ?_
        refine AllReady.cons rfl (fun K hK => ?_) AllReady.nil
        go_simp
        refine hK _ _ ?_
        clear hK K
        refine wpAny_ready (rs := [13]) (by kernel_rfl) (by simp) ?_
        refine AllReady.cons rfl (fun K hK => ?_) AllReady.nil
        have HX7 := Lib.hid ((BL7.out.block _ (lt_of_some0 HX6.out)).trans HX6.out)
        have HY7 := Lib.hid ((BL7.out.block _ (lt_of_some0 HY6.out)).trans HY6.out)
        have z2 := frozen_of_row _ w.heap.size 2 _ _ HX7.out
        clear x0 x1 x2
        obtain ⟨x0, x1, x2⟩ := box3c HX7.out
        have HX8 := Lib.hid (show (w7.setCell ⟨w.heap.size, 2, none⟩ (.slice a7 n7 c7)).heap[w.heap.size]? = some (.cells #[.int .i64 ncap, .int .i64 nleft, .slice a7 n7 c7] 24 (0, 0)) from (by simpa using heap_setCell_same w7 w.heap.size 2 _ _ (.slice a7 n7 c7) HX7.out))
        have HY8 := Lib.hid ((other1 (W := w7) (g := w.heap.size) (o := 2) (v := .slice a7 n7 c7) (by omega : w.heap.size + 1 ≠ w.heap.size)).trans HY7.out)
        have B8 := Lib.hid ((B6.out.trans (BL7.out.mono B6.out.size)).setCell (p := ⟨w.heap.size, 2, none⟩) (Nat.le_refl _) (.slice a7 n7 c7))
        have O8 := Lib.hid (og_rdw (og_move (w' := w7.setCell ⟨w.heap.size, 2, none⟩ (.slice a7 n7 c7)) HO7.out fun b hb _ => heap_setCell_other _ _ _ _ (by
          show b ≠ w.heap.size
          have h1 := SZ2.out
          have h2 := SZ6.out
          rcases hb with hb | hb
          · omega
          · have := (og_lt HO7.out _ hb).1
            omega)))
        go_simp
        refine hK _ _ ?_
        clear hK K z2 x0 x1 x2
        refine wpAny_done (by kernel_rfl) ?_ _
        generalize w7.setCell ⟨w.heap.size, 2, none⟩ (.slice a7 n7 c7) = W8 at *
        obtain ⟨x0, x1, x2⟩ := box3c HX8.out
        obtain ⟨y0, y1, y2⟩ := box3c HY8.out
        have u0 := frozen_of_row W8 (w.heap.size + 1) 0 _ _ HY8.out
        have u1 := frozen_of_row W8 (w.heap.size + 1) 1 _ _ HY8.out
        have u2 := frozen_of_row W8 (w.heap.size + 1) 2 _ _ HY8.out
        clear hw1
        go_wp2
        refine rdisk_end rfl (set3c HY8.out) rfl ?_
        rw [HD.out]
        refine ⟨⟨_, rfl, _, rfl, HNX.out.1, rd_move (fun b hb _ => set3_other ?_) (fun b hb _ => ?_) O8.out⟩, below_set3 B8.out (by omega)⟩
        · have h1 := SZ2.out; have h2 := SZ6.out; omega
        · have h1 := SZ2.out; have h2 := SZ6.out; omega


    · go_simp
      refine hK _ _ ?_
      clear hK K
      refine wpAny_take (i := 4) (v := .slice a5 i c5) rfl (by kernel_rfl) (by kernel_rfl) (by kernel_rfl) (fun _ _ _ h => h) (Or.inl ⟨by rfl, fun wx => exec_head lsF rfl rfl HC5.out (by have := HI1.out; omega)⟩) ?_
      refine wpAny_ready (rs := [0, 7]) (by kernel_rfl) (by simp) ?_
      refine AllReady.cons rfl (fun K hK => ?_) (AllReady.cons rfl (fun K hK => ?_) (AllReady.nil))
      · go_simp
        refine hK _ _ ?_
        clear hK K
        replace x0 := (BLA.out.cell (block_lt_of_cell k0)).trans k0
        replace x1 := (BLA.out.cell (block_lt_of_cell k1)).trans k1
        replace x2 := (BLA.out.cell (block_lt_of_cell k2)).trans k2
        refine wpAny_ready (rs := [5, 7]) (by kernel_rfl) (by simp) ?_
        refine AllReady.cons rfl (fun K hK => ?_) (AllReady.cons rfl (fun K hK => ?_) (AllReady.nil))
        · refine wp_app_g lsF ?_ ?_ OEX.out (RH.out _ BLA.out) (by have h1 := HLEN.out; have h2 := HI1.out; simp only [List.length_nil, List.length_take]; omega) (by have h1 := BLA.out.size; omega) ?_
          exact rfl
          exact rfl
          intro v6 w6 ho6 hg6 hat6
          rw [List.nil_append] at ho6
          have BL6 := Lib.hid (below_grownG BLA.out hg6 OEX.out BLA.out.size (Nat.le_refl _))
          obtain ⟨a6, c6, rfl, -, -⟩ := og_form ho6
          obtain ⟨n6, hn6⟩ : ∃ z, z = (L.take i).length := ⟨_, rfl⟩
          rw [← hn6] at ho6 ⊢
          have HN6 := Lib.hid hn6
          have HO6 := Lib.hid ho6
          clear ho6 hg6 hat6 hn6
          replace x0 := (BL6.out.cell (block_lt_of_cell k0)).trans k0
          replace x1 := (BL6.out.cell (block_lt_of_cell k1)).trans k1
          replace x2 := (BL6.out.cell (block_lt_of_cell k2)).trans k2
          refine hK _ _ ?_
          clear hK K
          refine wpAny_ready (rs := [7]) (by kernel_rfl) (by simp) ?_
          refine AllReady.cons rfl (fun K hK => ?_) (AllReady.nil)
          go_simp
          refine hK _ _ ?_
          clear hK K
          refine wpAny_take (i := 10) (v := VT) rfl (by kernel_rfl) (by kernel_rfl) (by kernel_rfl) (fun _ _ _ h => h) (Or.inl ⟨by rfl, fun wx => by rw [HVT.out]; exact exec_tail lsF rfl rfl (by have := HI1.out; omega)⟩) ?_
          refine wpAny_ready (rs := [11]) (by kernel_rfl) (by simp) ?_
          refine AllReady.cons rfl (fun K hK => ?_) (AllReady.nil)
          refine wp_app_g lsF ?_ ?_ HO6.out (RT.out _ _ _ BL6.out HO6.out) (by have h1 := HLEN.out; have h2 := HI1.out; simp only [List.length_take, List.length_drop]; omega) (by have h1 := BL6.out.size; omega) ?_
          exact rfl
          exact rfl
          intro v7 w7 ho7 hg7 hat7
          have BL7 := Lib.hid (below_grownG BL6.out hg7 HO6.out BL6.out.size (Nat.le_refl _))
          obtain ⟨a7, c7, rfl, -, -⟩ := og_form ho7
          obtain ⟨n7, hn7⟩ : ∃ z, z = (L.take i ++ L.drop (i + 1)).length := ⟨_, rfl⟩
          rw [← hn7] at ho7 ⊢
          have HN7 := Lib.hid hn7
          have HO7 := Lib.hid ho7
          clear ho7 hg7 hat7 hn7
          refine hK _ _ ?_
          clear hK K
          refine wpAny_ready (rs := [12]) (by kernel_rfl) (by simp) ?_
          refine AllReady.cons rfl (fun K hK => ?_) AllReady.nil
          go_simp
          refine hK _ _ ?_
          clear hK K
          refine wpAny_ready (rs := [13]) (by kernel_rfl) (by simp) ?_
          refine AllReady.cons rfl (fun K hK => ?_) AllReady.nil
          have HX7 := Lib.hid ((BL7.out.block _ (lt_of_some0 HX6.out)).trans HX6.out)
          have HY7 := Lib.hid ((BL7.out.block _ (lt_of_some0 HY6.out)).trans HY6.out)
          have z2 := frozen_of_row _ w.heap.size 2 _ _ HX7.out
          clear x0 x1 x2
          obtain ⟨x0, x1, x2⟩ := box3c HX7.out
          have HX8 := Lib.hid (show (w7.setCell ⟨w.heap.size, 2, none⟩ (.slice a7 n7 c7)).heap[w.heap.size]? = some (.cells #[.int .i64 ncap, .int .i64 nleft, .slice a7 n7 c7] 24 (0, 0)) from (by simpa using heap_setCell_same w7 w.heap.size 2 _ _ (.slice a7 n7 c7) HX7.out))
          have HY8 := Lib.hid ((other1 (W := w7) (g := w.heap.size) (o := 2) (v := .slice a7 n7 c7) (by omega : w.heap.size + 1 ≠ w.heap.size)).trans HY7.out)
          have B8 := Lib.hid ((B6.out.trans (BL7.out.mono B6.out.size)).setCell (p := ⟨w.heap.size, 2, none⟩) (Nat.le_refl _) (.slice a7 n7 c7))
          have O8 := Lib.hid (og_rdw (og_move (w' := w7.setCell ⟨w.heap.size, 2, none⟩ (.slice a7 n7 c7)) HO7.out fun b hb _ => heap_setCell_other _ _ _ _ (by
            show b ≠ w.heap.size
            have h1 := SZ2.out
            have h2 := SZ6.out
            rcases hb with hb | hb
            · omega
            · have := (og_lt HO7.out _ hb).1
              omega)))
          go_simp
          refine hK _ _ ?_
          clear hK K z2 x0 x1 x2
          refine wpAny_done (by kernel_rfl) ?_ _
          generalize w7.setCell ⟨w.heap.size, 2, none⟩ (.slice a7 n7 c7) = W8 at *
          obtain ⟨x0, x1, x2⟩ := box3c HX8.out
          obtain ⟨y0, y1, y2⟩ := box3c HY8.out
          have u0 := frozen_of_row W8 (w.heap.size + 1) 0 _ _ HY8.out
          have u1 := frozen_of_row W8 (w.heap.size + 1) 1 _ _ HY8.out
          have u2 := frozen_of_row W8 (w.heap.size + 1) 2 _ _ HY8.out
          clear hw1
          go_wp2
          refine rdisk_end rfl (set3c HY8.out) rfl ?_
          rw [HD.out]
          refine ⟨⟨_, rfl, _, rfl, HNX.out.1, rd_move (fun b hb _ => set3_other ?_) (fun b hb _ => ?_) O8.out⟩, below_set3 B8.out (by omega)⟩
          · have h1 := SZ2.out; have h2 := SZ6.out; omega
          · have h1 := SZ2.out; have h2 := SZ6.out; omega

        · go_simp
          refine hK _ _ ?_
          clear hK K
          refine wpAny_take (i := 10) (v := VT) rfl (by kernel_rfl) (by kernel_rfl) (by kernel_rfl) (fun _ _ _ h => h) (Or.inl ⟨by rfl, fun wx => by rw [HVT.out]; exact exec_tail lsF rfl rfl (by have := HI1.out; omega)⟩) ?_
          refine wpAny_ready (rs := [5]) (by kernel_rfl) (by simp) ?_
          refine AllReady.cons rfl (fun K hK => ?_) (AllReady.nil)
          refine wp_app_g lsF ?_ ?_ OEX.out (RH.out _ BLA.out) (by have h1 := HLEN.out; have h2 := HI1.out; simp only [List.length_nil, List.length_take]; omega) (by have h1 := BLA.out.size; omega) ?_
          exact rfl
          exact rfl
          intro v6 w6 ho6 hg6 hat6
          rw [List.nil_append] at ho6
          have BL6 := Lib.hid (below_grownG BLA.out hg6 OEX.out BLA.out.size (Nat.le_refl _))
          obtain ⟨a6, c6, rfl, -, -⟩ := og_form ho6
          obtain ⟨n6, hn6⟩ : ∃ z, z = (L.take i).length := ⟨_, rfl⟩
          rw [← hn6] at ho6 ⊢
          have HN6 := Lib.hid hn6
          have HO6 := Lib.hid ho6
          clear ho6 hg6 hat6 hn6
          replace x0 := (BL6.out.cell (block_lt_of_cell k0)).trans k0
          replace x1 := (BL6.out.cell (block_lt_of_cell k1)).trans k1
          replace x2 := (BL6.out.cell (block_lt_of_cell k2)).trans k2
          refine hK _ _ ?_
          clear hK K
          refine wpAny_ready (rs := [11]) (by kernel_rfl) (by simp) ?_
          refine AllReady.cons rfl (fun K hK => ?_) (AllReady.nil)
          refine wp_app_g lsF ?_ ?_ HO6.out (RT.out _ _ _ BL6.out HO6.out) (by have h1 := HLEN.out; have h2 := HI1.out; simp only [List.length_take, List.length_drop]; omega) (by have h1 := BL6.out.size; omega) ?_
          exact rfl
          exact rfl
          intro v7 w7 ho7 hg7 hat7
          have BL7 := Lib.hid (below_grownG BL6.out hg7 HO6.out BL6.out.size (Nat.le_refl _))
          obtain ⟨a7, c7, rfl, -, -⟩ := og_form ho7
          obtain ⟨n7, hn7⟩ : ∃ z, z = (L.take i ++ L.drop (i + 1)).length := ⟨_, rfl⟩
          rw [← hn7] at ho7 ⊢
          have HN7 := Lib.hid hn7
          have HO7 := Lib.hid ho7
          clear ho7 hg7 hat7 hn7
          refine hK _ _ ?_
          clear hK K
          refine wpAny_ready (rs := [12]) (by kernel_rfl) (by simp) ?_
          refine AllReady.cons rfl (fun K hK => ?_) AllReady.nil
          go_simp
          refine hK _ _ ?_
          clear hK K
          refine wpAny_ready (rs := [13]) (by kernel_rfl) (by simp) ?_
          refine AllReady.cons rfl (fun K hK => ?_) AllReady.nil
          have HX7 := Lib.hid ((BL7.out.block _ (lt_of_some0 HX6.out)).trans HX6.out)
          have HY7 := Lib.hid ((BL7.out.block _ (lt_of_some0 HY6.out)).trans HY6.out)
          have z2 := frozen_of_row _ w.heap.size 2 _ _ HX7.out
          clear x0 x1 x2
          obtain ⟨x0, x1, x2⟩ := box3c HX7.out
          have HX8 := Lib.hid (show (w7.setCell ⟨w.heap.size, 2, none⟩ (.slice a7 n7 c7)).heap[w.heap.size]? = some (.cells #[.int .i64 ncap, .int .i64 nleft, .slice a7 n7 c7] 24 (0, 0)) from (by simpa using heap_setCell_same w7 w.heap.size 2 _ _ (.slice a7 n7 c7) HX7.out))
          have HY8 := Lib.hid ((other1 (W := w7) (g := w.heap.size) (o := 2) (v := .slice a7 n7 c7) (by omega : w.heap.size + 1 ≠ w.heap.size)).trans HY7.out)
          have B8 := Lib.hid ((B6.out.trans (BL7.out.mono B6.out.size)).setCell (p := ⟨w.heap.size, 2, none⟩) (Nat.le_refl _) (.slice a7 n7 c7))
          have O8 := Lib.hid (og_rdw (og_move (w' := w7.setCell ⟨w.heap.size, 2, none⟩ (.slice a7 n7 c7)) HO7.out fun b hb _ => heap_setCell_other _ _ _ _ (by
            show b ≠ w.heap.size
            have h1 := SZ2.out
            have h2 := SZ6.out
            rcases hb with hb | hb
            · omega
            · have := (og_lt HO7.out _ hb).1
              omega)))
          go_simp
          refine hK _ _ ?_
          clear hK K z2 x0 x1 x2
          refine wpAny_done (by kernel_rfl) ?_ _
          generalize w7.setCell ⟨w.heap.size, 2, none⟩ (.slice a7 n7 c7) = W8 at *
          obtain ⟨x0, x1, x2⟩ := box3c HX8.out
          obtain ⟨y0, y1, y2⟩ := box3c HY8.out
          have u0 := frozen_of_row W8 (w.heap.size + 1) 0 _ _ HY8.out
          have u1 := frozen_of_row W8 (w.heap.size + 1) 1 _ _ HY8.out
          have u2 := frozen_of_row W8 (w.heap.size + 1) 2 _ _ HY8.out
          clear hw1
          go_wp2
          refine rdisk_end rfl (set3c HY8.out) rfl ?_
          rw [HD.out]
          refine ⟨⟨_, rfl, _, rfl, HNX.out.1, rd_move (fun b hb _ => set3_other ?_) (fun b hb _ => ?_) O8.out⟩, below_set3 B8.out (by omega)⟩
          · have h1 := SZ2.out; have h2 := SZ6.out; omega
          · have h1 := SZ2.out; have h2 := SZ6.out; omega


      · go_simp
        refine hK _ _ ?_
        clear hK K
        refine wpAny_take (i := 10) (v := VT) rfl (by kernel_rfl) (by kernel_rfl) (by kernel_rfl) (fun _ _ _ h => h) (Or.inl ⟨by rfl, fun wx => by rw [HVT.out]; exact exec_tail lsF rfl rfl (by have := HI1.out; omega)⟩) ?_
        refine wpAny_ready (rs := [0]) (by kernel_rfl) (by simp) ?_
        refine AllReady.cons rfl (fun K hK => ?_) (AllReady.nil)
        go_simp
        refine hK _ _ ?_
        clear hK K
        replace x0 := (BLA.out.cell (block_lt_of_cell k0)).trans k0
        replace x1 := (BLA.out.cell (block_lt_of_cell k1)).trans k1
        replace x2 := (BLA.out.cell (block_lt_of_cell k2)).trans k2
        refine wpAny_ready (rs := [5]) (by kernel_rfl) (by simp) ?_
        refine AllReady.cons rfl (fun K hK => ?_) (AllReady.nil)
        refine wp_app_g lsF ?_ ?_ OEX.out (RH.out _ BLA.out) (by have h1 := HLEN.out; have h2 := HI1.out; simp only [List.length_nil, List.length_take]; omega) (by have h1 := BLA.out.size; omega) ?_
        exact rfl
        exact rfl
        intro v6 w6 ho6 hg6 hat6
        rw [List.nil_append] at ho6
        have BL6 := Lib.hid (below_grownG BLA.out hg6 OEX.out BLA.out.size (Nat.le_refl _))
        obtain ⟨a6, c6, rfl, -, -⟩ := og_form ho6
        obtain ⟨n6, hn6⟩ : ∃ z, z = (L.take i).length := ⟨_, rfl⟩
        rw [← hn6] at ho6 ⊢
        have HN6 := Lib.hid hn6
        have HO6 := Lib.hid ho6
        clear ho6 hg6 hat6 hn6
        replace x0 := (BL6.out.cell (block_lt_of_cell k0)).trans k0
        replace x1 := (BL6.out.cell (block_lt_of_cell k1)).trans k1
        replace x2 := (BL6.out.cell (block_lt_of_cell k2)).trans k2
        refine hK _ _ ?_
        clear hK K
        refine wpAny_ready (rs := [11]) (by kernel_rfl) (by simp) ?_
        refine AllReady.cons rfl (fun K hK => ?_) (AllReady.nil)
        refine wp_app_g lsF ?_ ?_ HO6.out (RT.out _ _ _ BL6.out HO6.out) (by have h1 := HLEN.out; have h2 := HI1.out; simp only [List.length_take, List.length_drop]; omega) (by have h1 := BL6.out.size; omega) ?_
        exact rfl
        exact rfl
        intro v7 w7 ho7 hg7 hat7
        have BL7 := Lib.hid (below_grownG BL6.out hg7 HO6.out BL6.out.size (Nat.le_refl _))
        obtain ⟨a7, c7, rfl, -, -⟩ := og_form ho7
        obtain ⟨n7, hn7⟩ : ∃ z, z = (L.take i ++ L.drop (i + 1)).length := ⟨_, rfl⟩
        rw [← hn7] at ho7 ⊢
        have HN7 := Lib.hid hn7
        have HO7 := Lib.hid ho7
        clear ho7 hg7 hat7 hn7
        refine hK _ _ ?_
        clear hK K
        refine wpAny_ready (rs := [12]) (by kernel_rfl) (by simp) ?_
        refine AllReady.cons rfl (fun K hK => ?_) AllReady.nil
        go_simp
        refine hK _ _ ?_
        clear hK K
        refine wpAny_ready (rs := [13]) (by kernel_rfl) (by simp) ?_
        refine AllReady.cons rfl (fun K hK => ?_) AllReady.nil
        have HX7 := Lib.hid ((BL7.out.block _ (lt_of_some0 HX6.out)).trans HX6.out)
        have HY7 := Lib.hid ((BL7.out.block _ (lt_of_some0 HY6.out)).trans HY6.out)
        have z2 := frozen_of_row _ w.heap.size 2 _ _ HX7.out
        clear x0 x1 x2
        obtain ⟨x0, x1, x2⟩ := box3c HX7.out
        have HX8 := Lib.hid (show (w7.setCell ⟨w.heap.size, 2, none⟩ (.slice a7 n7 c7)).heap[w.heap.size]? = some (.cells #[.int .i64 ncap, .int .i64 nleft, .slice a7 n7 c7] 24 (0, 0)) from (by simpa using heap_setCell_same w7 w.heap.size 2 _ _ (.slice a7 n7 c7) HX7.out))
        have HY8 := Lib.hid ((other1 (W := w7) (g := w.heap.size) (o := 2) (v := .slice a7 n7 c7) (by omega : w.heap.size + 1 ≠ w.heap.size)).trans HY7.out)
        have B8 := Lib.hid ((B6.out.trans (BL7.out.mono B6.out.size)).setCell (p := ⟨w.heap.size, 2, none⟩) (Nat.le_refl _) (.slice a7 n7 c7))
        have O8 := Lib.hid (og_rdw (og_move (w' := w7.setCell ⟨w.heap.size, 2, none⟩ (.slice a7 n7 c7)) HO7.out fun b hb _ => heap_setCell_other _ _ _ _ (by
          show b ≠ w.heap.size
          have h1 := SZ2.out
          have h2 := SZ6.out
          rcases hb with hb | hb
          · omega
          · have := (og_lt HO7.out _ hb).1
            omega)))
        go_simp
        refine hK _ _ ?_
        clear hK K z2 x0 x1 x2
        refine wpAny_done (by kernel_rfl) ?_ _
        generalize w7.setCell ⟨w.heap.size, 2, none⟩ (.slice a7 n7 c7) = W8 at *
        obtain ⟨x0, x1, x2⟩ := box3c HX8.out
        obtain ⟨y0, y1, y2⟩ := box3c HY8.out
        have u0 := frozen_of_row W8 (w.heap.size + 1) 0 _ _ HY8.out
        have u1 := frozen_of_row W8 (w.heap.size + 1) 1 _ _ HY8.out
        have u2 := frozen_of_row W8 (w.heap.size + 1) 2 _ _ HY8.out
        clear hw1
        go_wp2
        refine rdisk_end rfl (set3c HY8.out) rfl ?_
        rw [HD.out]
        refine ⟨⟨_, rfl, _, rfl, HNX.out.1, rd_move (fun b hb _ => set3_other ?_) (fun b hb _ => ?_) O8.out⟩, below_set3 B8.out (by omega)⟩
        · have h1 := SZ2.out; have h2 := SZ6.out; omega
        · have h1 := SZ2.out; have h2 := SZ6.out; omega


    · go_simp
      refine hK _ _ ?_
      clear hK K
      refine wpAny_take (i := 10) (v := VT) rfl (by kernel_rfl) (by kernel_rfl) (by kernel_rfl) (fun _ _ _ h => h) (Or.inl ⟨by rfl, fun wx => by rw [HVT.out]; exact exec_tail lsF rfl rfl (by have := HI1.out; omega)⟩) ?_
      refine wpAny_ready (rs := [0, 2]) (by kernel_rfl) (by simp) ?_
      refine AllReady.cons rfl (fun K hK => ?_) (AllReady.cons rfl (fun K hK => ?_) (AllReady.nil))
      · go_simp
        refine hK _ _ ?_
        clear hK K
        replace x0 := (BLA.out.cell (block_lt_of_cell k0)).trans k0
        replace x1 := (BLA.out.cell (block_lt_of_cell k1)).trans k1
        replace x2 := (BLA.out.cell (block_lt_of_cell k2)).trans k2
        refine wpAny_ready (rs := [2]) (by kernel_rfl) (by simp) ?_
        refine AllReady.cons rfl (fun K hK => ?_) (AllReady.nil)
        go_simp
        refine hK _ _ ?_
        clear hK K
        refine wpAny_take (i := 4) (v := .slice a5 i c5) rfl (by kernel_rfl) (by kernel_rfl) (by kernel_rfl) (fun _ _ _ h => h) (Or.inl ⟨by rfl, fun wx => exec_head lsF rfl rfl HC5.out (by have := HI1.out; omega)⟩) ?_
        refine wpAny_ready (rs := [5]) (by kernel_rfl) (by simp) ?_
        refine AllReady.cons rfl (fun K hK => ?_) (AllReady.nil)
        refine wp_app_g lsF ?_ ?_ OEX.out (RH.out _ BLA.out) (by have h1 := HLEN.out; have h2 := HI1.out; simp only [List.length_nil, List.length_take]; omega) (by have h1 := BLA.out.size; omega) ?_
        exact rfl
        exact rfl
        intro v6 w6 ho6 hg6 hat6
        rw [List.nil_append] at ho6
        have BL6 := Lib.hid (below_grownG BLA.out hg6 OEX.out BLA.out.size (Nat.le_refl _))
        obtain ⟨a6, c6, rfl, -, -⟩ := og_form ho6
        obtain ⟨n6, hn6⟩ : ∃ z, z = (L.take i).length := ⟨_, rfl⟩
        rw [← hn6] at ho6 ⊢
        have HN6 := Lib.hid hn6
        have HO6 := Lib.hid ho6
        clear ho6 hg6 hat6 hn6
        replace x0 := (BL6.out.cell (block_lt_of_cell k0)).trans k0
        replace x1 := (BL6.out.cell (block_lt_of_cell k1)).trans k1
        replace x2 := (BL6.out.cell (block_lt_of_cell k2)).trans k2
        refine hK _ _ ?_
        clear hK K
        refine wpAny_ready (rs := [11]) (by kernel_rfl) (by simp) ?_
        refine AllReady.cons rfl (fun K hK => ?_) (AllReady.nil)
        refine wp_app_g lsF ?_ ?_ HO6.out (RT.out _ _ _ BL6.out HO6.out) (by have h1 := HLEN.out; have h2 := HI1.out; simp only [List.length_take, List.length_drop]; omega) (by have h1 := BL6.out.size; omega) ?_
        exact rfl
        exact rfl
        intro v7 w7 ho7 hg7 hat7
        have BL7 := Lib.hid (below_grownG BL6.out hg7 HO6.out BL6.out.size (Nat.le_refl _))
        obtain ⟨a7, c7, rfl, -, -⟩ := og_form ho7
        obtain ⟨n7, hn7⟩ : ∃ z, z = (L.take i ++ L.drop (i + 1)).length := ⟨_, rfl⟩
        rw [← hn7] at ho7 ⊢
        have HN7 := Lib.hid hn7
        have HO7 := Lib.hid ho7
        clear ho7 hg7 hat7 hn7
        refine hK _ _ ?_
        clear hK K
        refine wpAny_ready (rs := [12]) (by kernel_rfl) (by simp) ?_
        refine AllReady.cons rfl (fun K hK => ?_) AllReady.nil
        go_simp
        refine hK _ _ ?_
        clear hK K
        refine wpAny_ready (rs := [13]) (by kernel_rfl) (by simp) ?_
        refine AllReady.cons rfl (fun K hK => ?_) AllReady.nil
        have HX7 := Lib.hid ((BL7.out.block _ (lt_of_some0 HX6.out)).trans HX6.out)
        have HY7 := Lib.hid ((BL7.out.block _ (lt_of_some0 HY6.out)).trans HY6.out)
        have z2 := frozen_of_row _ w.heap.size 2 _ _ HX7.out
        clear x0 x1 x2
        obtain ⟨x0, x1, x2⟩ := box3c HX7.out
        have HX8 := Lib.hid (show (w7.setCell ⟨w.heap.size, 2, none⟩ (.slice a7 n7 c7)).heap[w.heap.size]? = some (.cells #[.int .i64 ncap, .int .i64 nleft, .slice a7 n7 c7] 24 (0, 0)) from (by simpa using heap_setCell_same w7 w.heap.size 2 _ _ (.slice a7 n7 c7) HX7.out))
        have HY8 := Lib.hid ((other1 (W := w7) (g := w.heap.size) (o := 2) (v := .slice a7 n7 c7) (by omega : w.heap.size + 1 ≠ w.heap.size)).trans HY7.out)
        have B8 := Lib.hid ((B6.out.trans (BL7.out.mono B6.out.size)).setCell (p := ⟨w.heap.size, 2, none⟩) (Nat.le_refl _) (.slice a7 n7 c7))
        have O8 := Lib.hid (og_rdw (og_move (w' := w7.setCell ⟨w.heap.size, 2, none⟩ (.slice a7 n7 c7)) HO7.out fun b hb _ => heap_setCell_other _ _ _ _ (by
          show b ≠ w.heap.size
          have h1 := SZ2.out
          have h2 := SZ6.out
          rcases hb with hb | hb
          · omega
          · have := (og_lt HO7.out _ hb).1
            omega)))
        go_simp
        refine hK _ _ ?_
        clear hK K z2 x0 x1 x2
        refine wpAny_done (by kernel_rfl) ?_ _
        generalize w7.setCell ⟨w.heap.size, 2, none⟩ (.slice a7 n7 c7) = W8 at *
        obtain ⟨x0, x1, x2⟩ := box3c HX8.out
        obtain ⟨y0, y1, y2⟩ := box3c HY8.out
        have u0 := frozen_of_row W8 (w.heap.size + 1) 0 _ _ HY8.out
        have u1 := frozen_of_row W8 (w.heap.size + 1) 1 _ _ HY8.out
        have u2 := frozen_of_row W8 (w.heap.size + 1) 2 _ _ HY8.out
        clear hw1
        go_wp2
        refine rdisk_end rfl (set3c HY8.out) rfl ?_
        rw [HD.out]
        refine ⟨⟨_, rfl, _, rfl, HNX.out.1, rd_move (fun b hb _ => set3_other ?_) (fun b hb _ => ?_) O8.out⟩, below_set3 B8.out (by omega)⟩
        · have h1 := SZ2.out; have h2 := SZ6.out; omega
        · have h1 := SZ2.out; have h2 := SZ6.out; omega

      · go_simp
        refine hK _ _ ?_
        clear hK K
        refine wpAny_take (i := 4) (v := .slice a5 i c5) rfl (by kernel_rfl) (by kernel_rfl) (by kernel_rfl) (fun _ _ _ h => h) (Or.inl ⟨by rfl, fun wx => exec_head lsF rfl rfl HC5.out (by have := HI1.out; omega)⟩) ?_
        refine wpAny_ready (rs := [0]) (by kernel_rfl) (by simp) ?_
        refine AllReady.cons rfl (fun K hK => ?_) (AllReady.nil)
        go_simp
        refine hK _ _ ?_
        clear hK K
        replace x0 := (BLA.out.cell (block_lt_of_cell k0)).trans k0
        replace x1 := (BLA.out.cell (block_lt_of_cell k1)).trans k1
        replace x2 := (BLA.out.cell (block_lt_of_cell k2)).trans k2
        refine wpAny_ready (rs := [5]) (by kernel_rfl) (by simp) ?_
        refine AllReady.cons rfl (fun K hK => ?_) (AllReady.nil)
        refine wp_app_g lsF ?_ ?_ OEX.out (RH.out _ BLA.out) (by have h1 := HLEN.out; have h2 := HI1.out; simp only [List.length_nil, List.length_take]; omega) (by have h1 := BLA.out.size; omega) ?_
        exact rfl
        exact rfl
        intro v6 w6 ho6 hg6 hat6
        rw [List.nil_append] at ho6
        have BL6 := Lib.hid (below_grownG BLA.out hg6 OEX.out BLA.out.size (Nat.le_refl _))
        obtain ⟨a6, c6, rfl, -, -⟩ := og_form ho6
        obtain ⟨n6, hn6⟩ : ∃ z, z = (L.take i).length := ⟨_, rfl⟩
        rw [← hn6] at ho6 ⊢
        have HN6 := Lib.hid hn6
        have HO6 := Lib.hid ho6
        clear ho6 hg6 hat6 hn6
        replace x0 := (BL6.out.cell (block_lt_of_cell k0)).trans k0
        replace x1 := (BL6.out.cell (block_lt_of_cell k1)).trans k1
        replace x2 := (BL6.out.cell (block_lt_of_cell k2)).trans k2
        refine hK _ _ ?_
        clear hK K
        refine wpAny_ready (rs := [11]) (by kernel_rfl) (by simp) ?_
        refine AllReady.cons rfl (fun K hK => ?_) (AllReady.nil)
        refine wp_app_g lsF ?_ ?_ HO6.out (RT.out _ _ _ BL6.out HO6.out) (by have h1 := HLEN.out; have h2 := HI1.out; simp only [List.length_take, List.length_drop]; omega) (by have h1 := BL6.out.size; omega) ?_
        exact rfl
        exact rfl
        intro v7 w7 ho7 hg7 hat7
        have BL7 := Lib.hid (below_grownG BL6.out hg7 HO6.out BL6.out.size (Nat.le_refl _))
        obtain ⟨a7, c7, rfl, -, -⟩ := og_form ho7
        obtain ⟨n7, hn7⟩ : ∃ z, z = (L.take i ++ L.drop (i + 1)).length := ⟨_, rfl⟩
        rw [← hn7] at ho7 ⊢
        have HN7 := Lib.hid hn7
        have HO7 := Lib.hid ho7
        clear ho7 hg7 hat7 hn7
        refine hK _ _ ?_
        clear hK K
        refine wpAny_ready (rs := [12]) (by kernel_rfl) (by simp) ?_
        refine AllReady.cons rfl (fun K hK => ?_) AllReady.nil
        go_simp
        refine hK _ _ ?_
        clear hK K
        refine wpAny_ready (rs := [13]) (by kernel_rfl) (by simp) ?_
        refine AllReady.cons rfl (fun K hK => ?_) AllReady.nil
        have HX7 := Lib.hid ((BL7.out.block _ (lt_of_some0 HX6.out)).trans HX6.out)
        have HY7 := Lib.hid ((BL7.out.block _ (lt_of_some0 HY6.out)).trans HY6.out)
        have z2 := frozen_of_row _ w.heap.size 2 _ _ HX7.out
        clear x0 x1 x2
        obtain ⟨x0, x1, x2⟩ := box3c HX7.out
        have HX8 := Lib.hid (show (w7.setCell ⟨w.heap.size, 2, none⟩ (.slice a7 n7 c7)).heap[w.heap.size]? = some (.cells #[.int .i64 ncap, .int .i64 nleft, .slice a7 n7 c7] 24 (0, 0)) from (by simpa using heap_setCell_same w7 w.heap.size 2 _ _ (.slice a7 n7 c7) HX7.out))
        have HY8 := Lib.hid ((other1 (W := w7) (g := w.heap.size) (o := 2) (v := .slice a7 n7 c7) (by omega : w.heap.size + 1 ≠ w.heap.size)).trans HY7.out)
        have B8 := Lib.hid ((B6.out.trans (BL7.out.mono B6.out.size)).setCell (p := ⟨w.heap.size, 2, none⟩) (Nat.le_refl _) (.slice a7 n7 c7))
        have O8 := Lib.hid (og_rdw (og_move (w' := w7.setCell ⟨w.heap.size, 2, none⟩ (.slice a7 n7 c7)) HO7.out fun b hb _ => heap_setCell_other _ _ _ _ (by
          show b ≠ w.heap.size
          have h1 := SZ2.out
          have h2 := SZ6.out
          rcases hb with hb | hb
          · omega
          · have := (og_lt HO7.out _ hb).1
            omega)))
        go_simp
        refine hK _ _ ?_
        clear hK K z2 x0 x1 x2
        refine wpAny_done (by kernel_rfl) ?_ _
        generalize w7.setCell ⟨w.heap.size, 2, none⟩ (.slice a7 n7 c7) = W8 at *
        obtain ⟨x0, x1, x2⟩ := box3c HX8.out
        obtain ⟨y0, y1, y2⟩ := box3c HY8.out
        have u0 := frozen_of_row W8 (w.heap.size + 1) 0 _ _ HY8.out
        have u1 := frozen_of_row W8 (w.heap.size + 1) 1 _ _ HY8.out
        have u2 := frozen_of_row W8 (w.heap.size + 1) 2 _ _ HY8.out
        clear hw1
        go_wp2
        refine rdisk_end rfl (set3c HY8.out) rfl ?_
        rw [HD.out]
        refine ⟨⟨_, rfl, _, rfl, HNX.out.1, rd_move (fun b hb _ => set3_other ?_) (fun b hb _ => ?_) O8.out⟩, below_set3 B8.out (by omega)⟩
        · have h1 := SZ2.out; have h2 := SZ6.out; omega
        · have h1 := SZ2.out; have h2 := SZ6.out; omega


  · rw [if_neg hE0] at HD
    have e1 : ((E : Int) != 0) = true := by rw [bne_iff_ne]; omega
    obtain ⟨y0, y1, y2⟩ := box3c HY2.out
    have u0 := frozen_of_row w2 (w.heap.size + 1) 0 _ _ HY2.out
    have u1 := frozen_of_row w2 (w.heap.size + 1) 1 _ _ HY2.out
    have u2 := frozen_of_row w2 (w.heap.size + 1) 2 _ _ HY2.out
    clear hE0 OK
    go_wp2
    refine rdisk_end rfl (set3c HY2.out) rfl ?_
    rw [HD.out]
    exact de_zero (below_set3 B2.out (by omega))
end Go.Proofs.Ytpipgbjkkiheaaa.Gf
namespace Go.Proofs.Ytpipgbjkkiheaaa.Gf
open Go Go.Joins Go.ChangeShapes Go.WideShapes Go.ChangeAt Go.RowKit Go.Deep Go.Proofs.Ytpipgbjkkiheaaa.By Go.Proofs.Ytpipgbjkkiheaaa.Qt

def syncD (d : Dk) (s : ByteArray) : Dk := if atE d s = 0 then ((nextD d).1, (nextD d).2.1, d.2.2.set (atI d s).toNat (s, contL (d.2.2.getD (atI d s).toNat fl0), [])) else dk0
/-- The block of an own list that is not empty. -/
theorem og_ptr {T : TypeId} {t : Ty} {B : Nat → Prop} {w : World} {base g o n cap : Nat} {l : List t.T} (h : OwG T t B w base (.slice (some ⟨g, o, none⟩) n cap) l) (hp : 0 < l.length) : (base ≤ g ∧ g < w.heap.size) ∧ o = 0 ∧ ∃ cur, w.heap[g]? = some (.cells cur T (0, 0)) ∧ l.length * t.n ≤ cur.size := by
  have hg := og_lt h g rfl
  obtain ⟨L, rfl, h0, e1, e2 | ⟨q, c, cur, e3, hq, hb, hn, hm, hsz, ht⟩⟩ := h
  · cases e2.1
  · obtain ⟨⟨rfl, rfl⟩, rfl, rfl⟩ : (g = q ∧ o = 0) ∧ n = L.length ∧ cap = c := by simpa using e3
    refine ⟨hg, rfl, cur, hb, ?_⟩
    rw [hsz, List.length_map]
    exact Nat.mul_le_mul_right _ hn
set_option maxRecDepth 100000 in
set_option maxHeartbeats 6400000 in
theorem rsync_any (v : Value) (d : Dk) (s : ByteArray) (hs : s.size ≤ maxLen) (w : World) (hv : Dv w v d) : Calls Try.prog 60 #[v, .string s] w (DE (fun b => b < w.heap.size) w (syncD d s) (atE d s)) := by
  have HV := Lib.hid hv
  obtain ⟨fv, rfl, hr, sf⟩ := hv
  obtain ⟨af, cf, rfl, -, -⟩ := rd_sl sf
  have BX2 := Lib.hid (btA (bel_al0 w (.cells #[.int .i64 d.1, .int .i64 d.2.1, .slice af d.2.2.length cf] 24)) (bel_al0 _ (.cells #[.int .i64 0, .int .i64 0, .slice none 0 0] 24)))
  have HX := Lib.hid (show ((w.alloc (.cells #[.int .i64 d.1, .int .i64 d.2.1, .slice af d.2.2.length cf] 24)).alloc (.cells #[.int .i64 0, .int .i64 0, .slice none 0 0] 24)).heap[w.heap.size]? = some (.cells #[.int .i64 d.1, .int .i64 d.2.1, .slice af d.2.2.length cf] 24 (0, 0)) from (heap_alloc_old _ _ (by simp)).trans (heap_alloc_new w _))
  have HY := Lib.hid (heap_alloc2_new w (.cells #[.int .i64 d.1, .int .i64 d.2.1, .slice af d.2.2.length cf] 24) (.cells #[.int .i64 0, .int .i64 0, .slice none 0 0] 24))
  have RA := Lib.hid (rat_any _ d s hs _ (dv_below HV.out BX2.out))
  have RN := Lib.hid (fun W (h : Below w.heap.size w W) (hl : d.2.2.length ≤ 1000000) => rnext_any _ d W (dv_dvB HV.out h) hl)
  have OK := Lib.hid (fun h => And.intro (at_ok (d := d) (s := s) h) (at_len h))
  have hD : syncD d s = if atE d s = 0 then ((nextD d).1, (nextD d).2.1, d.2.2.set (atI d s).toNat (s, contL (d.2.2.getD (atI d s).toNat fl0), [])) else dk0 := rfl
  have HNX : Hid (((-9223372036854775808 ≤ (nextD d).1 ∧ (nextD d).1 ≤ 9223372036854775807) ∧ (-9223372036854775808 ≤ (nextD d).2.1 ∧ (nextD d).2.1 ≤ 9223372036854775807)) ∧ (nextD d).2.2 = d.2.2) := Lib.hid (by
    refine ⟨⟨hr.1, ?_⟩, rfl⟩
    show -9223372036854775808 ≤ leftN d.2.1 ∧ leftN d.2.1 ≤ 9223372036854775807
    unfold leftN
    split <;> omega)
  generalize nextD d = ND at *
  generalize syncD d s = CD at *
  generalize atE d s = E at *
  generalize atI d s = I at *
  obtain ⟨cap, left, L⟩ := d
  dsimp only at RA RN HX HY BX2 hD OK HNX ⊢
  obtain ⟨n, hn⟩ : ∃ z, z = L.length := ⟨_, rfl⟩
  rw [← hn] at RA RN HX HY BX2 OK ⊢
  have HN := Lib.hid hn
  have HD := Lib.hid hD
  obtain ⟨x0, x1, x2⟩ := box3c HX.out
  clear sf hD HV hn hr
  go_enter Try.func60, Try.ntmps60
  go_wp2_with fail
  refine RA.out.mono ?_
  rintro e w2 ⟨rfl, hb2⟩
  have SZ2 := Lib.hid (show w.heap.size + 2 ≤ w2.heap.size from by have h := hb2.size; simp at h; omega)
  have HX2 := Lib.hid ((hb2.block _ (lt_of_some0 HX.out)).trans HX.out)
  have HY2 := Lib.hid ((hb2.block _ (lt_of_some0 HY.out)).trans HY.out)
  have B2 := Lib.hid (btA BX2.out hb2)
  clear x0 x1 x2 hb2 RA HX HY
  obtain ⟨x0, x1, x2⟩ := box3c HX2.out
  by_cases hE0 : E = 0
  · subst hE0
    rw [if_pos rfl] at HD
    obtain ⟨⟨hI0, hI1⟩, hl⟩ := OK.out rfl
    obtain ⟨i, rfl⟩ : ∃ i : Nat, I = (i : Int) := ⟨I.toNat, by omega⟩
    rw [Int.toNat_natCast] at HD
    have HI1 := Lib.hid (show i < n by omega)
    have HL := Lib.hid hl
    have RN3 := Lib.hid (RN.out w2 B2.out (by omega))
    clear hI0 hI1 hl OK
    go_wp2_with fail
    refine RN3.out.mono ?_
    rintro e w4 ⟨⟨f4, rfl, ho4⟩, hb4⟩
    obtain ⟨ncap, nleft, NL⟩ := ND
    dsimp only at ho4 HNX HD
    obtain rfl : L = NL := HNX.out.2.symm
    obtain ⟨a5, c5, rfl, hn5, -⟩ := og_form ho4
    have HC5 := Lib.hid hn5
    rw [← HN.out] at ho4 HC5 ⊢
    have HO4 := Lib.hid ho4
    have HX4 := Lib.hid ((hb4.block _ (lt_of_some0 HX2.out)).trans HX2.out)
    have HY4 := Lib.hid ((hb4.block _ (lt_of_some0 HY2.out)).trans HY2.out)
    have B4 := Lib.hid (btA B2.out hb4)
    have SZ4 := Lib.hid (show w2.heap.size ≤ w4.heap.size from hb4.size)
    clear x0 x1 x2 hb4 ho4 RN3 HX2 HY2 hn5
    have z0 := frozen_of_row _ w.heap.size 0 _ _ HX4.out
    have z1 := frozen_of_row _ w.heap.size 1 _ _ HX4.out
    have z2 := frozen_of_row _ w.heap.size 2 _ _ HX4.out
    obtain ⟨x0, x1, x2⟩ := box3c HX4.out
    go_upto_region 5 with fail
    have HX5 := Lib.hid (set3c (k := .int .i64 ncap) (l := .int .i64 nleft) (m := .slice a5 n c5) HX4.out)
    have HY5 := Lib.hid ((set3_other (k := .int .i64 ncap) (l := .int .i64 nleft) (m := .slice a5 n c5) (by omega : w.heap.size + 1 ≠ w.heap.size)).trans HY4.out)
    have B5 := Lib.hid (below_set3 (k := .int .i64 ncap) (l := .int .i64 nleft) (m := .slice a5 n c5) B4.out (Nat.le_refl _))
    have O5 := Lib.hid ((og_move (w' := ((w4.setCell ⟨w.heap.size, 0, none⟩ (.int .i64 ncap)).setCell ⟨w.heap.size, 1, none⟩ (.int .i64 nleft)).setCell ⟨w.heap.size, 2, none⟩ (.slice a5 n c5)) HO4.out fun b hb _ => set3_other (by
      rcases hb with hb | hb
      · have := hb.1; omega
      · have := (og_lt HO4.out _ hb).1
        have := SZ2.out
        omega)))
    have SZ5 := Lib.hid (show w4.heap.size ≤ (((w4.setCell ⟨w.heap.size, 0, none⟩ (.int .i64 ncap)).setCell ⟨w.heap.size, 1, none⟩ (.int .i64 nleft)).setCell ⟨w.heap.size, 2, none⟩ (.slice a5 n c5)).heap.size by simp)
    clear x0 x1 x2 z0 z1 z2 HX4 HY4 B4 HO4
    generalize ((w4.setCell ⟨w.heap.size, 0, none⟩ (.int .i64 ncap)).setCell ⟨w.heap.size, 1, none⟩ (.int .i64 nleft)).setCell ⟨w.heap.size, 2, none⟩ (.slice a5 n c5) = W5 at *
    obtain ⟨x0, x1, x2⟩ := box3c HX5.out
    refine wp_region_any (by kernel_rfl) ?_
    change wpAny _ _ _ _ _ _ _ (W5.drewN 1)
    have hd := below_drewN W5 1
    have HX6 := Lib.hid ((hd.block _ (lt_of_some0 HX5.out)).trans HX5.out)
    have HY6 := Lib.hid ((hd.block _ (lt_of_some0 HY5.out)).trans HY5.out)
    have B6 := Lib.hid (btA B5.out hd)
    have O6 := Lib.hid (og_below O5.out hd)
    have SZ6 := Lib.hid (show w2.heap.size ≤ (W5.drewN 1).heap.size from by have h1 := hd.size; have h2 := SZ5.out; have h3 := SZ4.out; omega)
    clear x0 x1 x2 hd HX5 HY5 B5 O5 SZ5
    generalize W5.drewN 1 = W6 at *
    obtain ⟨x0, x1, x2⟩ := box3c HX6.out
    have hip : i < L.length := by have := HI1.out; have := HN.out; omega
    obtain ⟨g5, o5, bv, pv, rfl, -, k0, k1, k2, hsz, hb, hp⟩ := dv_at (rd_mono (C := fun _ => True) (og_rdw O6.out) fun _ _ _ => trivial) hip
    obtain ⟨hg6, rfl, -⟩ := og_ptr O6.out (by omega)
    have HG6 := Lib.hid hg6
    rw [Nat.zero_add] at k0 k1 k2
    obtain ⟨ab, cb, rfl, -, -⟩ := sl_form (rd8_sl hb)
    obtain ⟨ap, cp, rfl, -, -⟩ := rd_sl hp
    have RC := Lib.hid (rcontent_any (L.getD i fl0).1 _ _ _ _ W6 (rd8_sl hb) hp)
    rw [show ((L.getD i fl0).1, (L.getD i fl0).2.1, (L.getD i fl0).2.2) = L.getD i fl0 from rfl] at RC
    generalize (L.getD i fl0).2.1.length = nb at *
    generalize (L.getD i fl0).2.2.length = np at *
    generalize (L.getD i fl0).1 = sa at *
    generalize L.getD i fl0 = f0 at *
    have p0 : (0 : Int) ≤ (i : Int) := by omega
    have p1 : (i : Int) < (n : Int) := by have := HI1.out; omega
    clear hb hp hsz hip hg6
    refine wpAny_take (i := 0) (v := .pointer (some ⟨w.heap.size, 2, none⟩)) rfl (by kernel_rfl) (by kernel_rfl) (by kernel_rfl) (fun _ _ _ h => h) (Or.inl ⟨by rfl, fun wx => by go_simp⟩) ?_
    refine wpAny_take (i := 2) (v := .int .i64 (i : Int)) rfl (by kernel_rfl) (by kernel_rfl) (by kernel_rfl) (fun _ _ _ h => h) (Or.inl ⟨by rfl, fun wx => by go_simp⟩) ?_
    refine wpAny_take (i := 3) (v := .string s) rfl (by kernel_rfl) (by kernel_rfl) (by kernel_rfl) (fun _ _ _ h => h) (Or.inl ⟨by rfl, fun wx => by go_simp⟩) ?_
    refine wpAny_take (i := 4) (v := .pointer (some ⟨w.heap.size, 2, none⟩)) rfl (by kernel_rfl) (by kernel_rfl) (by kernel_rfl) (fun _ _ _ h => h) (Or.inl ⟨by rfl, fun wx => by go_simp⟩) ?_
    refine wpAny_take (i := 6) (v := .int .i64 (i : Int)) rfl (by kernel_rfl) (by kernel_rfl) (by kernel_rfl) (fun _ _ _ h => h) (Or.inl ⟨by rfl, fun wx => by go_simp⟩) ?_
    refine wpAny_ready (rs := [1, 5]) (by kernel_rfl) (by simp) ?_
    refine AllReady.cons rfl (fun K hK => ?_) (AllReady.cons rfl (fun K hK => ?_) (AllReady.nil))
    · go_simp
      refine hK _ _ ?_
      clear hK K
      refine wpAny_ready (rs := [5]) (by kernel_rfl) (by simp) ?_
      refine AllReady.cons rfl (fun K hK => ?_) (AllReady.nil)
      go_simp
      refine hK _ _ ?_
      clear hK K
      refine wpAny_take (i := 7) (v := .pointer (some ⟨g5, i * 3, none⟩)) rfl (by kernel_rfl) (by kernel_rfl) (by kernel_rfl) (fun _ _ _ h => h) (Or.inl ⟨by rfl, fun wx => by go_simp⟩) ?_
      refine wpAny_ready (rs := [8]) (by kernel_rfl) (by simp) ?_
      refine AllReady.cons rfl (fun K hK => ?_) (AllReady.nil)
      go_simp
      refine hK _ _ ?_
      clear hK K
      refine wpAny_ready (rs := [9]) (by kernel_rfl) (by simp) ?_
      refine AllReady.cons rfl (fun K hK => ?_) (AllReady.nil)
      go_simp
      go_at_call 34
      refine (RC.out).mono ?_
      rintro e w7 ⟨⟨v7, rfl, ho7⟩, hb7⟩
      obtain ⟨a7, c7, rfl, -, -⟩ := sl_form ho7.sl
      obtain ⟨n7, hn7⟩ : ∃ z, z = (contL f0).length := ⟨_, rfl⟩
      rw [← hn7] at ho7 ⊢
      have HO7 := Lib.hid ho7
      have BL7 := Lib.hid hb7
      replace x2 := (hb7.cell (block_lt_of_cell x2)).trans x2
      clear ho7 hb7 hn7
      refine hK _ _ ?_
      clear hK K
      refine wpAny_take (i := 10) (v := .agg #[.string s, .slice a7 n7 c7, .slice none 0 0]) rfl (by kernel_rfl) (by kernel_rfl) (by kernel_rfl) (fun _ _ _ h => h) (Or.inl ⟨by rfl, fun wx => by go_simp⟩) ?_
      refine wpAny_ready (rs := [11]) (by kernel_rfl) (by simp) ?_
      refine AllReady.cons rfl (fun K hK => ?_) (AllReady.nil)
      go_simp
      refine hK _ _ ?_
      clear hK K
      refine wpAny_ready (rs := [12]) (by kernel_rfl) (by simp) ?_
      refine AllReady.cons rfl (fun K hK => ?_) (AllReady.nil)
      have HX7 := Lib.hid ((BL7.out.block _ (lt_of_some0 HX6.out)).trans HX6.out)
      have HY7 := Lib.hid ((BL7.out.block _ (lt_of_some0 HY6.out)).trans HY6.out)
      have OG7 := Lib.hid (og_below O6.out BL7.out)
      obtain ⟨cur, hcur, hcs⟩ := (og_ptr OG7.out (by have := HI1.out; have := HN.out; omega)).2.2
      have z0 := frozen_of_row w7 g5 (i * 3) _ _ hcur
      have z1 := frozen_of_row w7 g5 (i * 3 + 1) _ _ hcur
      have z2 := frozen_of_row w7 g5 (i * 3 + 2) _ _ hcur
      replace k0 := (BL7.out.cell (block_lt_of_cell k0)).trans k0
      replace k1 := (BL7.out.cell (block_lt_of_cell k1)).trans k1
      replace k2 := (BL7.out.cell (block_lt_of_cell k2)).trans k2
      have HG5 := Lib.hid (og_ptr OG7.out (by have := HI1.out; have := HN.out; omega)).1
      have HX8 := Lib.hid ((setCs_other (g := g5) (k := w.heap.size) (by have h1 := HG5.out; have h2 := SZ2.out; omega) [.string s, .slice a7 n7 c7, .slice none 0 0] w7 (i * 3)).trans HX7.out)
      have HY8 := Lib.hid ((setCs_other (g := g5) (k := w.heap.size + 1) (by have h1 := HG5.out; have h2 := SZ2.out; omega) [.string s, .slice a7 n7 c7, .slice none 0 0] w7 (i * 3)).trans HY7.out)
      have B8 := Lib.hid (below_setCs (B := w.heap.size) (g := g5) (by have h1 := HG5.out; have h2 := SZ2.out; omega) [.string s, .slice a7 n7 c7, .slice none 0 0] w7 (i * 3) (btA B6.out BL7.out))
      have O8 := Lib.hid (og_rdw (og_set (og_mono (C := fun b => b < w.heap.size ∨ w2.heap.size ≤ b) OG7.out fun b hb _ => Or.inl hb.1) (i := i) (by have := HI1.out; have := HN.out; omega) (rd_f_mk (x := (s, contL f0, [])) hs (rd_mono (own_rd8 HO7.out) fun b hb _ => ⟨Or.inr (by have h1 := SZ6.out; omega), by have h1 := HG6.out; omega⟩) (rd_nil _ _ _))))
      go_simp
      refine hK _ _ ?_
      clear hK K z0 z1 z2 x0 x1 x2 hcur hcs
      refine wpAny_done (by kernel_rfl) ?_ _
      change Exit.then _ _ _ _ (setCs w7 g5 (i * 3) [.string s, .slice a7 n7 c7, .slice none 0 0])
      rw [show i * tyF.n = i * 3 from rfl] at O8
      generalize setCs w7 g5 (i * 3) [.string s, .slice a7 n7 c7, .slice none 0 0] = W8 at *
      obtain ⟨x0, x1, x2⟩ := box3c HX8.out
      obtain ⟨y0, y1, y2⟩ := box3c HY8.out
      have u0 := frozen_of_row W8 (w.heap.size + 1) 0 _ _ HY8.out
      have u1 := frozen_of_row W8 (w.heap.size + 1) 1 _ _ HY8.out
      have u2 := frozen_of_row W8 (w.heap.size + 1) 2 _ _ HY8.out
      clear k0 k1 k2
      go_wp2
      refine rdisk_end rfl (set3c HY8.out) rfl ?_
      rw [HD.out]
      refine ⟨⟨_, rfl, _, rfl, HNX.out.1, rd_move (fun b hb _ => set3_other ?_) (fun b hb _ => ?_) O8.out⟩, below_set3 B8.out (by omega)⟩
      · have h1 := SZ2.out; omega
      · omega

    · go_simp
      refine hK _ _ ?_
      clear hK K
      refine wpAny_take (i := 7) (v := .pointer (some ⟨g5, i * 3, none⟩)) rfl (by kernel_rfl) (by kernel_rfl) (by kernel_rfl) (fun _ _ _ h => h) (Or.inl ⟨by rfl, fun wx => by go_simp⟩) ?_
      refine wpAny_ready (rs := [1, 8]) (by kernel_rfl) (by simp) ?_
      refine AllReady.cons rfl (fun K hK => ?_) (AllReady.cons rfl (fun K hK => ?_) (AllReady.nil))
      · go_simp
        refine hK _ _ ?_
        clear hK K
        refine wpAny_ready (rs := [8]) (by kernel_rfl) (by simp) ?_
        refine AllReady.cons rfl (fun K hK => ?_) (AllReady.nil)
        go_simp
        refine hK _ _ ?_
        clear hK K
        refine wpAny_ready (rs := [9]) (by kernel_rfl) (by simp) ?_
        refine AllReady.cons rfl (fun K hK => ?_) (AllReady.nil)
        go_simp
        go_at_call 34
        refine (RC.out).mono ?_
        rintro e w7 ⟨⟨v7, rfl, ho7⟩, hb7⟩
        obtain ⟨a7, c7, rfl, -, -⟩ := sl_form ho7.sl
        obtain ⟨n7, hn7⟩ : ∃ z, z = (contL f0).length := ⟨_, rfl⟩
        rw [← hn7] at ho7 ⊢
        have HO7 := Lib.hid ho7
        have BL7 := Lib.hid hb7
        replace x2 := (hb7.cell (block_lt_of_cell x2)).trans x2
        clear ho7 hb7 hn7
        refine hK _ _ ?_
        clear hK K
        refine wpAny_take (i := 10) (v := .agg #[.string s, .slice a7 n7 c7, .slice none 0 0]) rfl (by kernel_rfl) (by kernel_rfl) (by kernel_rfl) (fun _ _ _ h => h) (Or.inl ⟨by rfl, fun wx => by go_simp⟩) ?_
        refine wpAny_ready (rs := [11]) (by kernel_rfl) (by simp) ?_
        refine AllReady.cons rfl (fun K hK => ?_) (AllReady.nil)
        go_simp
        refine hK _ _ ?_
        clear hK K
        refine wpAny_ready (rs := [12]) (by kernel_rfl) (by simp) ?_
        refine AllReady.cons rfl (fun K hK => ?_) (AllReady.nil)
        have HX7 := Lib.hid ((BL7.out.block _ (lt_of_some0 HX6.out)).trans HX6.out)
        have HY7 := Lib.hid ((BL7.out.block _ (lt_of_some0 HY6.out)).trans HY6.out)
        have OG7 := Lib.hid (og_below O6.out BL7.out)
        obtain ⟨cur, hcur, hcs⟩ := (og_ptr OG7.out (by have := HI1.out; have := HN.out; omega)).2.2
        have z0 := frozen_of_row w7 g5 (i * 3) _ _ hcur
        have z1 := frozen_of_row w7 g5 (i * 3 + 1) _ _ hcur
        have z2 := frozen_of_row w7 g5 (i * 3 + 2) _ _ hcur
        replace k0 := (BL7.out.cell (block_lt_of_cell k0)).trans k0
        replace k1 := (BL7.out.cell (block_lt_of_cell k1)).trans k1
        replace k2 := (BL7.out.cell (block_lt_of_cell k2)).trans k2
        have HG5 := Lib.hid (og_ptr OG7.out (by have := HI1.out; have := HN.out; omega)).1
        have HX8 := Lib.hid ((setCs_other (g := g5) (k := w.heap.size) (by have h1 := HG5.out; have h2 := SZ2.out; omega) [.string s, .slice a7 n7 c7, .slice none 0 0] w7 (i * 3)).trans HX7.out)
        have HY8 := Lib.hid ((setCs_other (g := g5) (k := w.heap.size + 1) (by have h1 := HG5.out; have h2 := SZ2.out; omega) [.string s, .slice a7 n7 c7, .slice none 0 0] w7 (i * 3)).trans HY7.out)
        have B8 := Lib.hid (below_setCs (B := w.heap.size) (g := g5) (by have h1 := HG5.out; have h2 := SZ2.out; omega) [.string s, .slice a7 n7 c7, .slice none 0 0] w7 (i * 3) (btA B6.out BL7.out))
        have O8 := Lib.hid (og_rdw (og_set (og_mono (C := fun b => b < w.heap.size ∨ w2.heap.size ≤ b) OG7.out fun b hb _ => Or.inl hb.1) (i := i) (by have := HI1.out; have := HN.out; omega) (rd_f_mk (x := (s, contL f0, [])) hs (rd_mono (own_rd8 HO7.out) fun b hb _ => ⟨Or.inr (by have h1 := SZ6.out; omega), by have h1 := HG6.out; omega⟩) (rd_nil _ _ _))))
        go_simp
        refine hK _ _ ?_
        clear hK K z0 z1 z2 x0 x1 x2 hcur hcs
        refine wpAny_done (by kernel_rfl) ?_ _
        change Exit.then _ _ _ _ (setCs w7 g5 (i * 3) [.string s, .slice a7 n7 c7, .slice none 0 0])
        rw [show i * tyF.n = i * 3 from rfl] at O8
        generalize setCs w7 g5 (i * 3) [.string s, .slice a7 n7 c7, .slice none 0 0] = W8 at *
        obtain ⟨x0, x1, x2⟩ := box3c HX8.out
        obtain ⟨y0, y1, y2⟩ := box3c HY8.out
        have u0 := frozen_of_row W8 (w.heap.size + 1) 0 _ _ HY8.out
        have u1 := frozen_of_row W8 (w.heap.size + 1) 1 _ _ HY8.out
        have u2 := frozen_of_row W8 (w.heap.size + 1) 2 _ _ HY8.out
        clear k0 k1 k2
        go_wp2
        refine rdisk_end rfl (set3c HY8.out) rfl ?_
        rw [HD.out]
        refine ⟨⟨_, rfl, _, rfl, HNX.out.1, rd_move (fun b hb _ => set3_other ?_) (fun b hb _ => ?_) O8.out⟩, below_set3 B8.out (by omega)⟩
        · have h1 := SZ2.out; omega
        · omega

      · go_simp
        refine hK _ _ ?_
        clear hK K
        refine wpAny_ready (rs := [1, 9]) (by kernel_rfl) (by simp) ?_
        refine AllReady.cons rfl (fun K hK => ?_) (AllReady.cons rfl (fun K hK => ?_) (AllReady.nil))
        · go_simp
          refine hK _ _ ?_
          clear hK K
          refine wpAny_ready (rs := [9]) (by kernel_rfl) (by simp) ?_
          refine AllReady.cons rfl (fun K hK => ?_) (AllReady.nil)
          go_simp
          go_at_call 34
          refine (RC.out).mono ?_
          rintro e w7 ⟨⟨v7, rfl, ho7⟩, hb7⟩
          obtain ⟨a7, c7, rfl, -, -⟩ := sl_form ho7.sl
          obtain ⟨n7, hn7⟩ : ∃ z, z = (contL f0).length := ⟨_, rfl⟩
          rw [← hn7] at ho7 ⊢
          have HO7 := Lib.hid ho7
          have BL7 := Lib.hid hb7
          replace x2 := (hb7.cell (block_lt_of_cell x2)).trans x2
          clear ho7 hb7 hn7
          refine hK _ _ ?_
          clear hK K
          refine wpAny_take (i := 10) (v := .agg #[.string s, .slice a7 n7 c7, .slice none 0 0]) rfl (by kernel_rfl) (by kernel_rfl) (by kernel_rfl) (fun _ _ _ h => h) (Or.inl ⟨by rfl, fun wx => by go_simp⟩) ?_
          refine wpAny_ready (rs := [11]) (by kernel_rfl) (by simp) ?_
          refine AllReady.cons rfl (fun K hK => ?_) (AllReady.nil)
          go_simp
          refine hK _ _ ?_
          clear hK K
          refine wpAny_ready (rs := [12]) (by kernel_rfl) (by simp) ?_
          refine AllReady.cons rfl (fun K hK => ?_) (AllReady.nil)
          have HX7 := Lib.hid ((BL7.out.block _ (lt_of_some0 HX6.out)).trans HX6.out)
          have HY7 := Lib.hid ((BL7.out.block _ (lt_of_some0 HY6.out)).trans HY6.out)
          have OG7 := Lib.hid (og_below O6.out BL7.out)
          obtain ⟨cur, hcur, hcs⟩ := (og_ptr OG7.out (by have := HI1.out; have := HN.out; omega)).2.2
          have z0 := frozen_of_row w7 g5 (i * 3) _ _ hcur
          have z1 := frozen_of_row w7 g5 (i * 3 + 1) _ _ hcur
          have z2 := frozen_of_row w7 g5 (i * 3 + 2) _ _ hcur
          replace k0 := (BL7.out.cell (block_lt_of_cell k0)).trans k0
          replace k1 := (BL7.out.cell (block_lt_of_cell k1)).trans k1
          replace k2 := (BL7.out.cell (block_lt_of_cell k2)).trans k2
          have HG5 := Lib.hid (og_ptr OG7.out (by have := HI1.out; have := HN.out; omega)).1
          have HX8 := Lib.hid ((setCs_other (g := g5) (k := w.heap.size) (by have h1 := HG5.out; have h2 := SZ2.out; omega) [.string s, .slice a7 n7 c7, .slice none 0 0] w7 (i * 3)).trans HX7.out)
          have HY8 := Lib.hid ((setCs_other (g := g5) (k := w.heap.size + 1) (by have h1 := HG5.out; have h2 := SZ2.out; omega) [.string s, .slice a7 n7 c7, .slice none 0 0] w7 (i * 3)).trans HY7.out)
          have B8 := Lib.hid (below_setCs (B := w.heap.size) (g := g5) (by have h1 := HG5.out; have h2 := SZ2.out; omega) [.string s, .slice a7 n7 c7, .slice none 0 0] w7 (i * 3) (btA B6.out BL7.out))
          have O8 := Lib.hid (og_rdw (og_set (og_mono (C := fun b => b < w.heap.size ∨ w2.heap.size ≤ b) OG7.out fun b hb _ => Or.inl hb.1) (i := i) (by have := HI1.out; have := HN.out; omega) (rd_f_mk (x := (s, contL f0, [])) hs (rd_mono (own_rd8 HO7.out) fun b hb _ => ⟨Or.inr (by have h1 := SZ6.out; omega), by have h1 := HG6.out; omega⟩) (rd_nil _ _ _))))
          go_simp
          refine hK _ _ ?_
          clear hK K z0 z1 z2 x0 x1 x2 hcur hcs
          refine wpAny_done (by kernel_rfl) ?_ _
          change Exit.then _ _ _ _ (setCs w7 g5 (i * 3) [.string s, .slice a7 n7 c7, .slice none 0 0])
          rw [show i * tyF.n = i * 3 from rfl] at O8
          generalize setCs w7 g5 (i * 3) [.string s, .slice a7 n7 c7, .slice none 0 0] = W8 at *
          obtain ⟨x0, x1, x2⟩ := box3c HX8.out
          obtain ⟨y0, y1, y2⟩ := box3c HY8.out
          have u0 := frozen_of_row W8 (w.heap.size + 1) 0 _ _ HY8.out
          have u1 := frozen_of_row W8 (w.heap.size + 1) 1 _ _ HY8.out
          have u2 := frozen_of_row W8 (w.heap.size + 1) 2 _ _ HY8.out
          clear k0 k1 k2
          go_wp2
          refine rdisk_end rfl (set3c HY8.out) rfl ?_
          rw [HD.out]
          refine ⟨⟨_, rfl, _, rfl, HNX.out.1, rd_move (fun b hb _ => set3_other ?_) (fun b hb _ => ?_) O8.out⟩, below_set3 B8.out (by omega)⟩
          · have h1 := SZ2.out; omega
          · omega

        · go_simp
          go_at_call 34
          refine (RC.out).mono ?_
          rintro e w7 ⟨⟨v7, rfl, ho7⟩, hb7⟩
          obtain ⟨a7, c7, rfl, -, -⟩ := sl_form ho7.sl
          obtain ⟨n7, hn7⟩ : ∃ z, z = (contL f0).length := ⟨_, rfl⟩
          rw [← hn7] at ho7 ⊢
          have HO7 := Lib.hid ho7
          have BL7 := Lib.hid hb7
          replace x2 := (hb7.cell (block_lt_of_cell x2)).trans x2
          clear ho7 hb7 hn7
          refine hK _ _ ?_
          clear hK K
          refine wpAny_take (i := 10) (v := .agg #[.string s, .slice a7 n7 c7, .slice none 0 0]) rfl (by kernel_rfl) (by kernel_rfl) (by kernel_rfl) (fun _ _ _ h => h) (Or.inl ⟨by rfl, fun wx => by go_simp⟩) ?_
          refine wpAny_ready (rs := [1]) (by kernel_rfl) (by simp) ?_
          refine AllReady.cons rfl (fun K hK => ?_) (AllReady.nil)
          go_simp
          refine hK _ _ ?_
          clear hK K
          refine wpAny_ready (rs := [11]) (by kernel_rfl) (by simp) ?_
          refine AllReady.cons rfl (fun K hK => ?_) (AllReady.nil)
          go_simp
          refine hK _ _ ?_
          clear hK K
          refine wpAny_ready (rs := [12]) (by kernel_rfl) (by simp) ?_
          refine AllReady.cons rfl (fun K hK => ?_) (AllReady.nil)
          have HX7 := Lib.hid ((BL7.out.block _ (lt_of_some0 HX6.out)).trans HX6.out)
          have HY7 := Lib.hid ((BL7.out.block _ (lt_of_some0 HY6.out)).trans HY6.out)
          have OG7 := Lib.hid (og_below O6.out BL7.out)
          obtain ⟨cur, hcur, hcs⟩ := (og_ptr OG7.out (by have := HI1.out; have := HN.out; omega)).2.2
          have z0 := frozen_of_row w7 g5 (i * 3) _ _ hcur
          have z1 := frozen_of_row w7 g5 (i * 3 + 1) _ _ hcur
          have z2 := frozen_of_row w7 g5 (i * 3 + 2) _ _ hcur
          replace k0 := (BL7.out.cell (block_lt_of_cell k0)).trans k0
          replace k1 := (BL7.out.cell (block_lt_of_cell k1)).trans k1
          replace k2 := (BL7.out.cell (block_lt_of_cell k2)).trans k2
          have HG5 := Lib.hid (og_ptr OG7.out (by have := HI1.out; have := HN.out; omega)).1
          have HX8 := Lib.hid ((setCs_other (g := g5) (k := w.heap.size) (by have h1 := HG5.out; have h2 := SZ2.out; omega) [.string s, .slice a7 n7 c7, .slice none 0 0] w7 (i * 3)).trans HX7.out)
          have HY8 := Lib.hid ((setCs_other (g := g5) (k := w.heap.size + 1) (by have h1 := HG5.out; have h2 := SZ2.out; omega) [.string s, .slice a7 n7 c7, .slice none 0 0] w7 (i * 3)).trans HY7.out)
          have B8 := Lib.hid (below_setCs (B := w.heap.size) (g := g5) (by have h1 := HG5.out; have h2 := SZ2.out; omega) [.string s, .slice a7 n7 c7, .slice none 0 0] w7 (i * 3) (btA B6.out BL7.out))
          have O8 := Lib.hid (og_rdw (og_set (og_mono (C := fun b => b < w.heap.size ∨ w2.heap.size ≤ b) OG7.out fun b hb _ => Or.inl hb.1) (i := i) (by have := HI1.out; have := HN.out; omega) (rd_f_mk (x := (s, contL f0, [])) hs (rd_mono (own_rd8 HO7.out) fun b hb _ => ⟨Or.inr (by have h1 := SZ6.out; omega), by have h1 := HG6.out; omega⟩) (rd_nil _ _ _))))
          go_simp
          refine hK _ _ ?_
          clear hK K z0 z1 z2 x0 x1 x2 hcur hcs
          refine wpAny_done (by kernel_rfl) ?_ _
          change Exit.then _ _ _ _ (setCs w7 g5 (i * 3) [.string s, .slice a7 n7 c7, .slice none 0 0])
          rw [show i * tyF.n = i * 3 from rfl] at O8
          generalize setCs w7 g5 (i * 3) [.string s, .slice a7 n7 c7, .slice none 0 0] = W8 at *
          obtain ⟨x0, x1, x2⟩ := box3c HX8.out
          obtain ⟨y0, y1, y2⟩ := box3c HY8.out
          have u0 := frozen_of_row W8 (w.heap.size + 1) 0 _ _ HY8.out
          have u1 := frozen_of_row W8 (w.heap.size + 1) 1 _ _ HY8.out
          have u2 := frozen_of_row W8 (w.heap.size + 1) 2 _ _ HY8.out
          clear k0 k1 k2
          go_wp2
          refine rdisk_end rfl (set3c HY8.out) rfl ?_
          rw [HD.out]
          refine ⟨⟨_, rfl, _, rfl, HNX.out.1, rd_move (fun b hb _ => set3_other ?_) (fun b hb _ => ?_) O8.out⟩, below_set3 B8.out (by omega)⟩
          · have h1 := SZ2.out; omega
          · omega
  · rw [if_neg hE0] at HD
    have e1 : ((E : Int) != 0) = true := by rw [bne_iff_ne]; omega
    obtain ⟨y0, y1, y2⟩ := box3c HY2.out
    have u0 := frozen_of_row w2 (w.heap.size + 1) 0 _ _ HY2.out
    have u1 := frozen_of_row w2 (w.heap.size + 1) 1 _ _ HY2.out
    have u2 := frozen_of_row w2 (w.heap.size + 1) 2 _ _ HY2.out
    clear hE0 OK
    go_wp2
    refine rdisk_end rfl (set3c HY2.out) rfl ?_
    rw [HD.out]
    exact de_zero (below_set3 B2.out (by omega))
end Go.Proofs.Ytpipgbjkkiheaaa.Gf
namespace Go.Proofs.Ytpipgbjkkiheaaa.Gf
open Go Go.Joins Go.ChangeShapes Go.WideShapes Go.ChangeAt Go.RowKit Go.Deep Go.Proofs.Ytpipgbjkkiheaaa.By Go.Proofs.Ytpipgbjkkiheaaa.Qt

def renameE (d : Dk) (s t : ByteArray) : Nat := if nameB t then atE d s else 1
def renameD (d : Dk) (s t : ByteArray) : Dk := if renameE d s t = 0 then addD ((nextD d).1, (nextD d).2.1, d.2.2.take (atI d s).toNat ++ d.2.2.drop ((atI d s).toNat + 1)) (t, (d.2.2.getD (atI d s).toNat fl0).2.1, (d.2.2.getD (atI d s).toNat fl0).2.2) else dk0
set_option maxRecDepth 100000 in
set_option maxHeartbeats 6400000 in
theorem rrename_any (v : Value) (d : Dk) (s t : ByteArray) (hs : s.size ≤ maxLen) (ht : t.size ≤ maxLen) (w : World) (hv : Dv w v d) : Calls Try.prog 61 #[v, .string s, .string t] w (DE (fun b => b < w.heap.size) w (renameD d s t) (renameE d s t)) := by
  have HV := Lib.hid hv
  obtain ⟨fv, rfl, hr, sf⟩ := hv
  obtain ⟨af, cf, rfl, -, -⟩ := rd_sl sf
  have BX2 := Lib.hid (btA (bel_al0 w (.cells #[.int .i64 d.1, .int .i64 d.2.1, .slice af d.2.2.length cf] 24)) (bel_al0 _ (.cells #[.int .i64 0, .int .i64 0, .slice none 0 0] 24)))
  have HX := Lib.hid (show ((w.alloc (.cells #[.int .i64 d.1, .int .i64 d.2.1, .slice af d.2.2.length cf] 24)).alloc (.cells #[.int .i64 0, .int .i64 0, .slice none 0 0] 24)).heap[w.heap.size]? = some (.cells #[.int .i64 d.1, .int .i64 d.2.1, .slice af d.2.2.length cf] 24 (0, 0)) from (heap_alloc_old _ _ (by simp)).trans (heap_alloc_new w _))
  have HY := Lib.hid (heap_alloc2_new w (.cells #[.int .i64 d.1, .int .i64 d.2.1, .slice af d.2.2.length cf] 24) (.cells #[.int .i64 0, .int .i64 0, .slice none 0 0] 24))
  have RA := Lib.hid (rat_any _ d s hs _ (dv_below HV.out BX2.out))
  have RN := Lib.hid (fun W (h : Below w.heap.size w W) (hl : d.2.2.length ≤ 1000000) => rnext_any _ d W (dv_dvB HV.out h) hl)
  have OK := Lib.hid (fun h => And.intro (at_ok (d := d) (s := s) h) (at_len h))
  have hD : renameD d s t = if renameE d s t = 0 then addD ((nextD d).1, (nextD d).2.1, d.2.2.take (atI d s).toNat ++ d.2.2.drop ((atI d s).toNat + 1)) (t, (d.2.2.getD (atI d s).toNat fl0).2.1, (d.2.2.getD (atI d s).toNat fl0).2.2) else dk0 := rfl
  have hE : renameE d s t = if nameB t then atE d s else 1 := rfl
  have RNM := Lib.hid (rname_any t ht)
  have SF := Lib.hid (rd_oldB sf (Below.refl _ _))
  have HNX : Hid (((-9223372036854775808 ≤ (nextD d).1 ∧ (nextD d).1 ≤ 9223372036854775807) ∧ (-9223372036854775808 ≤ (nextD d).2.1 ∧ (nextD d).2.1 ≤ 9223372036854775807)) ∧ (nextD d).2.2 = d.2.2) := Lib.hid (by
    refine ⟨⟨hr.1, ?_⟩, rfl⟩
    show -9223372036854775808 ≤ leftN d.2.1 ∧ leftN d.2.1 ≤ 9223372036854775807
    unfold leftN
    split <;> omega)
  generalize nextD d = ND at *
  generalize renameD d s t = CD at *
  generalize renameE d s t = RE at *
  generalize nameB t = NB at *
  generalize atE d s = E at *
  generalize atI d s = I at *
  obtain ⟨cap, left, L⟩ := d
  dsimp only at RA RN HX HY BX2 hD OK HNX SF ⊢
  obtain ⟨n, hn⟩ : ∃ z, z = L.length := ⟨_, rfl⟩
  rw [← hn] at RA RN HX HY BX2 OK SF ⊢
  have HN := Lib.hid hn
  have HD := Lib.hid hD
  have HE := Lib.hid hE
  obtain ⟨x0, x1, x2⟩ := box3c HX.out
  clear sf hD hE HV hn hr
  go_enter Try.func61, Try.ntmps61
  go_wp2_with fail
  refine (RNM.out _).mono ?_
  rintro e w1 ⟨rfl, rfl⟩
  generalize ((w.alloc (.cells #[.int .i64 cap, .int .i64 left, .slice af n cf] 24)).alloc (.cells #[.int .i64 0, .int .i64 0, .slice none 0 0] 24)) = W0 at *
  cases NB
  · obtain rfl : RE = 1 := HE.out
    rw [if_neg (by omega)] at HD
    obtain ⟨y0, y1, y2⟩ := box3c HY.out
    have u0 := frozen_of_row _ (w.heap.size + 1) 0 _ _ HY.out
    have u1 := frozen_of_row _ (w.heap.size + 1) 1 _ _ HY.out
    have u2 := frozen_of_row _ (w.heap.size + 1) 2 _ _ HY.out
    clear OK
    go_wp2
    refine rdisk_end rfl (set3c HY.out) rfl ?_
    rw [HD.out]
    exact de_zero (below_set3 BX2.out (by omega))
  obtain rfl : RE = E := HE.out
  go_wp2_with fail
  refine RA.out.mono ?_
  rintro e w2 ⟨rfl, hb2⟩
  have SZ2 := Lib.hid (show w.heap.size + 2 ≤ w2.heap.size from by have h := hb2.size; have h3 := lt_of_some0 HY.out; omega)
  have HX2 := Lib.hid ((hb2.block _ (lt_of_some0 HX.out)).trans HX.out)
  have HY2 := Lib.hid ((hb2.block _ (lt_of_some0 HY.out)).trans HY.out)
  have B2 := Lib.hid (btA BX2.out hb2)
  clear x0 x1 x2 hb2 RA HX HY
  obtain ⟨x0, x1, x2⟩ := box3c HX2.out
  by_cases hE0 : RE = 0
  · subst hE0
    rw [if_pos rfl] at HD
    obtain ⟨⟨hI0, hI1⟩, hl⟩ := OK.out rfl
    obtain ⟨i, rfl⟩ : ∃ i : Nat, I = (i : Int) := ⟨I.toNat, by omega⟩
    rw [Int.toNat_natCast] at HD
    have HI1 := Lib.hid (show i < n by omega)
    have HL := Lib.hid hl
    have hip : i < L.length := by have := HN.out; omega
    obtain ⟨b1, o1, bv, pv, rfl, -, k0, k1, k2, hsz, hb, hp⟩ := dv_at SF.out hip
    replace k0 := (B2.out.cell (block_lt_of_cell k0)).trans k0
    replace k1 := (B2.out.cell (block_lt_of_cell k1)).trans k1
    replace k2 := (B2.out.cell (block_lt_of_cell k2)).trans k2
    have HBV := Lib.hid hb
    have HPV := Lib.hid hp
    obtain ⟨ab, cb, rfl, -, -⟩ := sl_form (rd8_sl hb)
    obtain ⟨ap, cp, rfl, -, -⟩ := rd_sl hp
    generalize (L.getD i fl0).2.1.length = nb at *
    generalize (L.getD i fl0).2.2.length = np at *
    generalize (L.getD i fl0).1 = sa at *
    generalize L.getD i fl0 = f0 at *
    have p0 : (0 : Int) ≤ (i : Int) := by omega
    have p1 : (i : Int) < (n : Int) := by have := HI1.out; omega
    clear hI0 hI1 hl OK hb hp hsz hip
    go_upto_region 6 with fail
    have SZ20 := Lib.hid SZ2.out
    go_upto_region 8 with fail
    have HZ2 := Lib.hid (heap_alloc_new w2 (.cells #[.string t, .slice ab nb cb, .slice ap np cp] 63))
    have BZ2 := Lib.hid (bel_al0 w2 (.cells #[.string t, .slice ab nb cb, .slice ap np cp] 63))
    clear x0 x1 x2 k0 k1 k2
    generalize w2.alloc (.cells #[.string t, .slice ab nb cb, .slice ap np cp] 63) = w3 at *
    have HX3 := Lib.hid ((BZ2.out.block _ (lt_of_some0 HX2.out)).trans HX2.out)
    have HY3 := Lib.hid ((BZ2.out.block _ (lt_of_some0 HY2.out)).trans HY2.out)
    have B3 := Lib.hid (btA B2.out BZ2.out)
    have SZ3 := Lib.hid (show w.heap.size + 2 ≤ w3.heap.size from by have h1 := SZ20.out; have h2 := lt_of_some0 HZ2.out; omega)
    clear HX2 HY2 B2 SZ2 BZ2
    obtain ⟨x0, x1, x2⟩ := box3c HX3.out
    have RN3 := Lib.hid (RN.out w3 B3.out (by have := HL.out; omega))
    go_wp2_with fail
    refine RN3.out.mono ?_
    rintro e w4 ⟨⟨f4, rfl, ho4⟩, hb4⟩
    obtain ⟨ncap, nleft, NL⟩ := ND
    dsimp only at ho4 HNX HD
    obtain rfl : L = NL := HNX.out.2.symm
    obtain ⟨a5, c5, rfl, hn5, -⟩ := og_form ho4
    have HC5 := Lib.hid hn5
    rw [← HN.out] at ho4 HC5 ⊢
    have HO4 := Lib.hid ho4
    have HZ4 := Lib.hid ((hb4.block _ (lt_of_some0 HZ2.out)).trans HZ2.out)
    have HX4 := Lib.hid ((hb4.block _ (lt_of_some0 HX3.out)).trans HX3.out)
    have HY4 := Lib.hid ((hb4.block _ (lt_of_some0 HY3.out)).trans HY3.out)
    have B4 := Lib.hid (btA B3.out hb4)
    have SZ4 := Lib.hid (show w3.heap.size ≤ w4.heap.size from hb4.size)
    clear x0 x1 x2 hb4 ho4 RN3 HX3 HY3 hn5
    have z0 := frozen_of_row _ w.heap.size 0 _ _ HX4.out
    have z1 := frozen_of_row _ w.heap.size 1 _ _ HX4.out
    have z2 := frozen_of_row _ w.heap.size 2 _ _ HX4.out
    obtain ⟨x0, x1, x2⟩ := box3c HX4.out
    go_upto_region 9 with fail
    have HZ5 := Lib.hid ((set3_other (k := .int .i64 ncap) (l := .int .i64 nleft) (m := .slice a5 n c5) (by have := SZ20.out; omega : w2.heap.size ≠ w.heap.size)).trans HZ4.out)
    have HX5 := Lib.hid (set3c (k := .int .i64 ncap) (l := .int .i64 nleft) (m := .slice a5 n c5) HX4.out)
    have HY5 := Lib.hid ((set3_other (k := .int .i64 ncap) (l := .int .i64 nleft) (m := .slice a5 n c5) (by omega : w.heap.size + 1 ≠ w.heap.size)).trans HY4.out)
    have B5 := Lib.hid (below_set3 (k := .int .i64 ncap) (l := .int .i64 nleft) (m := .slice a5 n c5) B4.out (Nat.le_refl _))
    have RD5 := Lib.hid (og_rdw (og_move (w' := ((w4.setCell ⟨w.heap.size, 0, none⟩ (.int .i64 ncap)).setCell ⟨w.heap.size, 1, none⟩ (.int .i64 nleft)).setCell ⟨w.heap.size, 2, none⟩ (.slice a5 n c5)) HO4.out fun b hb _ => set3_other (by
      rcases hb with hb | hb
      · have := hb.1; omega
      · have := (og_lt HO4.out _ hb).1
        have := SZ3.out
        omega)))
    have SZ5 := Lib.hid (show w4.heap.size ≤ (((w4.setCell ⟨w.heap.size, 0, none⟩ (.int .i64 ncap)).setCell ⟨w.heap.size, 1, none⟩ (.int .i64 nleft)).setCell ⟨w.heap.size, 2, none⟩ (.slice a5 n c5)).heap.size by simp)
    clear x0 x1 x2 z0 z1 z2 HX4 HY4 B4 HO4
    generalize ((w4.setCell ⟨w.heap.size, 0, none⟩ (.int .i64 ncap)).setCell ⟨w.heap.size, 1, none⟩ (.int .i64 nleft)).setCell ⟨w.heap.size, 2, none⟩ (.slice a5 n c5) = W5 at *
    obtain ⟨x0, x1, x2⟩ := box3c HX5.out
    refine wp_region_any (by kernel_rfl) ?_
    change wpAny _ _ _ _ _ _ _ (W5.drewN 1)
    have hd := below_drewN W5 1
    have HZ6 := Lib.hid ((hd.block _ (lt_of_some0 HZ5.out)).trans HZ5.out)
    have HX6 := Lib.hid ((hd.block _ (lt_of_some0 HX5.out)).trans HX5.out)
    have HY6 := Lib.hid ((hd.block _ (lt_of_some0 HY5.out)).trans HY5.out)
    have B6 := Lib.hid (btA B5.out hd)
    have RD6 := Lib.hid (rd_oldB (rd_below RD5.out hd) (Below.refl _ _))
    have SZ6 := Lib.hid (show w3.heap.size ≤ (W5.drewN 1).heap.size from by have h1 := hd.size; have h2 := SZ5.out; have h3 := SZ4.out; omega)
    clear x0 x1 x2 hd HX5 HY5 B5 RD5 SZ5
    generalize W5.drewN 1 = W6 at *
    obtain ⟨k0, k1, k2⟩ := box3c HX6.out
    have x0 := k0
    have x1 := k1
    have x2 := k2
    have BLA := Lib.hid (bel_al0 W6 (.cells #[] 63))
    have OEX := Lib.hid (og_empty (T := 63) tyF (fun b => ((b < w.heap.size ∧ b < w3.heap.size) ∨ w3.heap.size ≤ b) ∧ b < W6.heap.size) W6 rfl (Nat.le_refl _))
    have RH := Lib.hid (fun W (hW : Below W6.heap.size W6 W) => rd_take (k := i) (rd_mono (C := fun b => (((b < w.heap.size ∧ b < w3.heap.size) ∨ w3.heap.size ≤ b) ∧ b < W6.heap.size) ∧ (Value.slice (some ⟨W6.heap.size, 0, none⟩) 0 0).ownBlock ≠ some b) (rd_below RD6.out hW) fun b hb _ => ⟨hb, fun e => by have h1 := (og_lt OEX.out _ e).1; omega⟩) (by have := HI1.out; omega))
    have RT := Lib.hid (fun W (v : Value) (l : List Fl) (hW : Below W6.heap.size W6 W) (ho : OwG 63 tyF (fun b => ((b < w.heap.size ∧ b < w3.heap.size) ∨ w3.heap.size ≤ b) ∧ b < W6.heap.size) W W6.heap.size v l) => rd_drop (k := i + 1) (rd_mono (C := fun b => (((b < w.heap.size ∧ b < w3.heap.size) ∨ w3.heap.size ≤ b) ∧ b < W6.heap.size) ∧ v.ownBlock ≠ some b) (rd_below RD6.out hW) fun b hb _ => ⟨hb, fun e => by have h1 := (og_lt ho _ e).1; omega⟩) (by have := HI1.out; omega))
    have HLEN : Hid (L.length = n ∧ n ≤ 256) := Lib.hid ⟨HN.out.symm, HL.out⟩
    have hw1 : wrap64 ((i : Int) + 1) = ((i + 1 : Nat) : Int) := by have h1 := HI1.out; have h2 := HL.out; unfold wrap64; omega
    have p5 : IntKind.i64.wrap ((i : Int) + 1) = (i : Int) + 1 := IntWalk.i64_in _ (by have h1 := HI1.out; have h2 := HL.out; clear hw1; omega)
    obtain ⟨VT, hVT⟩ : ∃ z, z = Value.slice (if c5 = i + 1 then a5 else a5.map (·.add ((i + 1) * tyF.n))) (n - (i + 1)) (c5 - (i + 1)) := ⟨_, rfl⟩
    rw [← hVT] at RT
    have HVT := Lib.hid hVT
    clear hVT
    refine wpAny_take (i := 1) (v := .pointer (some ⟨w.heap.size, 2, none⟩)) rfl (by kernel_rfl) (by kernel_rfl) (by kernel_rfl) (fun _ _ _ h => h) (Or.inl ⟨by rfl, fun wx => by go_simp⟩) ?_
    refine wpAny_take (i := 3) (v := .int .i64 (i : Int)) rfl (by kernel_rfl) (by kernel_rfl) (by kernel_rfl) (fun _ _ _ h => h) (Or.inl ⟨by rfl, fun wx => by go_simp⟩) ?_
    refine wpAny_take (i := 6) (v := .pointer (some ⟨w.heap.size, 2, none⟩)) rfl (by kernel_rfl) (by kernel_rfl) (by kernel_rfl) (fun _ _ _ h => h) (Or.inl ⟨by rfl, fun wx => by go_simp⟩) ?_
    refine wpAny_take (i := 8) (v := .int .i64 (i : Int)) rfl (by kernel_rfl) (by kernel_rfl) (by kernel_rfl) (fun _ _ _ h => h) (Or.inl ⟨by rfl, fun wx => by go_simp⟩) ?_
    refine wpAny_take (i := 9) (v := .int .i64 ((i + 1 : Nat) : Int)) rfl (by kernel_rfl) (by kernel_rfl) (by kernel_rfl) (fun _ _ _ h => h) (Or.inl ⟨by rfl, fun wx => by go_simp <;> exact p5⟩) ?_
    refine wpAny_ready (rs := [0, 2, 7]) (by kernel_rfl) (by simp) ?_
    refine AllReady.cons rfl (fun K hK => ?_) (AllReady.cons rfl (fun K hK => ?_) (AllReady.cons rfl (fun K hK => ?_) (AllReady.nil)))
    · go_simp
      refine hK _ _ ?_
      clear hK K
      replace x0 := (BLA.out.cell (block_lt_of_cell k0)).trans k0
      replace x1 := (BLA.out.cell (block_lt_of_cell k1)).trans k1
      replace x2 := (BLA.out.cell (block_lt_of_cell k2)).trans k2
      refine wpAny_ready (rs := [2, 7]) (by kernel_rfl) (by simp) ?_
      refine AllReady.cons rfl (fun K hK => ?_) (AllReady.cons rfl (fun K hK => ?_) (AllReady.nil))
      · go_simp
        refine hK _ _ ?_
        clear hK K
        refine wpAny_take (i := 4) (v := .slice a5 i c5) rfl (by kernel_rfl) (by kernel_rfl) (by kernel_rfl) (fun _ _ _ h => h) (Or.inl ⟨by rfl, fun wx => exec_head lsF rfl rfl HC5.out (by have := HI1.out; omega)⟩) ?_
        refine wpAny_ready (rs := [5, 7]) (by kernel_rfl) (by simp) ?_
        refine AllReady.cons rfl (fun K hK => ?_) (AllReady.cons rfl (fun K hK => ?_) (AllReady.nil))
        · refine wp_app_g lsF ?_ ?_ OEX.out (RH.out _ BLA.out) (by have h1 := HLEN.out; have h2 := HI1.out; simp only [List.length_nil, List.length_take]; omega) (by have h1 := BLA.out.size; omega) ?_
          exact rfl
          exact rfl
          intro v6 w6 ho6 hg6 hat6
          rw [List.nil_append] at ho6
          have BL6 := Lib.hid (below_grownG BLA.out hg6 OEX.out BLA.out.size (Nat.le_refl _))
          obtain ⟨a6, c6, rfl, -, -⟩ := og_form ho6
          obtain ⟨n6, hn6⟩ : ∃ z, z = (L.take i).length := ⟨_, rfl⟩
          rw [← hn6] at ho6 ⊢
          have HN6 := Lib.hid hn6
          have HO6 := Lib.hid ho6
          clear ho6 hg6 hat6 hn6
          replace x0 := (BL6.out.cell (block_lt_of_cell k0)).trans k0
          replace x1 := (BL6.out.cell (block_lt_of_cell k1)).trans k1
          replace x2 := (BL6.out.cell (block_lt_of_cell k2)).trans k2
          refine hK _ _ ?_
          clear hK K
          refine wpAny_ready (rs := [7]) (by kernel_rfl) (by simp) ?_
          refine AllReady.cons rfl (fun K hK => ?_) (AllReady.nil)
          go_simp
          refine hK _ _ ?_
          clear hK K
          refine wpAny_take (i := 10) (v := VT) rfl (by kernel_rfl) (by kernel_rfl) (by kernel_rfl) (fun _ _ _ h => h) (Or.inl ⟨by rfl, fun wx => by rw [HVT.out]; exact exec_tail lsF rfl rfl (by have := HI1.out; omega)⟩) ?_
          refine wpAny_ready (rs := [11]) (by kernel_rfl) (by simp) ?_
          refine AllReady.cons rfl (fun K hK => ?_) (AllReady.nil)
          refine wp_app_g lsF ?_ ?_ HO6.out (RT.out _ _ _ BL6.out HO6.out) (by have h1 := HLEN.out; have h2 := HI1.out; simp only [List.length_take, List.length_drop]; omega) (by have h1 := BL6.out.size; omega) ?_
          exact rfl
          exact rfl
          intro v7 w7 ho7 hg7 hat7
          have BL7 := Lib.hid (below_grownG BL6.out hg7 HO6.out BL6.out.size (Nat.le_refl _))
          obtain ⟨a7, c7, rfl, -, -⟩ := og_form ho7
          obtain ⟨n7, hn7⟩ : ∃ z, z = (L.take i ++ L.drop (i + 1)).length := ⟨_, rfl⟩
          rw [← hn7] at ho7 ⊢
          have HN7 := Lib.hid hn7
          have HO7 := Lib.hid ho7
          clear ho7 hg7 hat7 hn7
          refine hK _ _ ?_
          clear hK K
          refine wpAny_ready (rs := [12]) (by kernel_rfl) (by simp) ?_
          refine AllReady.cons rfl (fun K hK => ?_) AllReady.nil
          go_simp
          refine hK _ _ ?_
          clear hK K
          refine wpAny_ready (rs := [13]) (by kernel_rfl) (by simp) ?_
          refine AllReady.cons rfl (fun K hK => ?_) AllReady.nil
          have HX7 := Lib.hid ((BL7.out.block _ (lt_of_some0 HX6.out)).trans HX6.out)
          have HY7 := Lib.hid ((BL7.out.block _ (lt_of_some0 HY6.out)).trans HY6.out)
          have z2 := frozen_of_row _ w.heap.size 2 _ _ HX7.out
          clear x0 x1 x2
          obtain ⟨x0, x1, x2⟩ := box3c HX7.out
          have HX8 := Lib.hid (show (w7.setCell ⟨w.heap.size, 2, none⟩ (.slice a7 n7 c7)).heap[w.heap.size]? = some (.cells #[.int .i64 ncap, .int .i64 nleft, .slice a7 n7 c7] 24 (0, 0)) from (by simpa using heap_setCell_same w7 w.heap.size 2 _ _ (.slice a7 n7 c7) HX7.out))
          have HY8 := Lib.hid ((other1 (W := w7) (g := w.heap.size) (o := 2) (v := .slice a7 n7 c7) (by omega : w.heap.size + 1 ≠ w.heap.size)).trans HY7.out)
          have B8 := Lib.hid ((B6.out.trans (BL7.out.mono B6.out.size)).setCell (p := ⟨w.heap.size, 2, none⟩) (Nat.le_refl _) (.slice a7 n7 c7))
          have O8 := Lib.hid (og_rdw (og_move (w' := w7.setCell ⟨w.heap.size, 2, none⟩ (.slice a7 n7 c7)) HO7.out fun b hb _ => heap_setCell_other _ _ _ _ (by
            show b ≠ w.heap.size
            have h1 := SZ3.out
            have h2 := SZ6.out
            rcases hb with hb | hb
            · omega
            · have := (og_lt HO7.out _ hb).1
              omega)))
          go_simp
          refine hK _ _ ?_
          clear hK K z2 x0 x1 x2
          refine wpAny_done (by kernel_rfl) ?_ _
          generalize HEQ8 : w7.setCell ⟨w.heap.size, 2, none⟩ (.slice a7 n7 c7) = W8 at *
          obtain ⟨x0, x1, x2⟩ := box3c HX8.out
          obtain ⟨y0, y1, y2⟩ := box3c HY8.out
          have u0 := frozen_of_row W8 (w.heap.size + 1) 0 _ _ HY8.out
          have u1 := frozen_of_row W8 (w.heap.size + 1) 1 _ _ HY8.out
          have u2 := frozen_of_row W8 (w.heap.size + 1) 2 _ _ HY8.out
          clear hw1
          have HV8 := Lib.hid (show DvB (fun b => b < w.heap.size ∨ w3.heap.size ≤ b) W8 (.agg #[.int .i64 ncap, .int .i64 nleft, .slice a7 n7 c7]) (ncap, nleft, L.take i ++ L.drop (i + 1)) from ⟨_, rfl, HNX.out.1, rd_mono O8.out fun b hb _ => (by
            have h1 := SZ6.out
            rcases hb with hb | hb
            · rcases hb.1 with hb | hb
              · exact Or.inl hb.1
              · exact Or.inr (by omega)
            · exact Or.inr (by omega))⟩)
          have HF8 := Lib.hid (show Rd (fun b => b < w.heap.size ∨ w3.heap.size ≤ b) W8 tyF [.string t, .slice ab nb cb, .slice ap np cp] (t, f0.2.1, f0.2.2) from rd_f_mk (x := (t, f0.2.1, f0.2.2)) ht (rd_mono (rd_below HBV.out B8.out) fun b hb _ => Or.inl hb.2) (rd_mono (rd_below HPV.out B8.out) fun b hb _ => Or.inl hb.2))
          have RAD := Lib.hid (radded_any _ _ (t, f0.2.1, f0.2.2) _ _ W8 HV8.out HF8.out (by have h1 := HLEN.out; have h2 := HI1.out; simp only [List.length_append, List.length_take, List.length_drop]; omega))
          have HZ8 := Lib.hid ((other1 (W := w7) (g := w.heap.size) (o := 2) (v := .slice a7 n7 c7) (by have := SZ20.out; omega : w2.heap.size ≠ w.heap.size)).trans ((BL7.out.block _ (lt_of_some0 HZ6.out)).trans HZ6.out))
          rw [HEQ8] at HZ8
          clear y0 y1 y2 u0 u1 u2 k0 k1 k2
          obtain ⟨y0, y1, y2⟩ := box3c HZ8.out
          go_wp2_with fail
          refine RAD.out.mono ?_
          rintro e w9 ⟨⟨v9, rfl, hv9⟩, hb9⟩
          obtain ⟨f9, rfl, hr9, hl9⟩ := hv9
          dsimp only at hr9 hl9 ⊢
          obtain ⟨a9, c9, rfl, -, -⟩ := rd_sl hl9
          obtain ⟨n9, hn9⟩ : ∃ z, z = (addedL (L.take i ++ L.drop (i + 1)) (t, f0.2.1, f0.2.2)).length := ⟨_, rfl⟩
          rw [← hn9] at hl9 ⊢
          have RD9 := Lib.hid hl9
          have HR9 := Lib.hid hr9
          have HY9 := Lib.hid ((hb9.block _ (lt_of_some0 HY8.out)).trans HY8.out)
          have B9 := Lib.hid (btA B8.out hb9)
          have SZ8 := Lib.hid (show w3.heap.size ≤ W8.heap.size from by have h1 := BL7.out.size; have h2 := SZ6.out; rw [← HEQ8]; simp; omega)
          clear hl9 hb9 hr9 hn9 x0 x1 x2 y0 y1 y2
          obtain ⟨y0, y1, y2⟩ := box3c HY9.out
          have u0 := frozen_of_row w9 (w.heap.size + 1) 0 _ _ HY9.out
          have u1 := frozen_of_row w9 (w.heap.size + 1) 1 _ _ HY9.out
          have u2 := frozen_of_row w9 (w.heap.size + 1) 2 _ _ HY9.out
          go_wp2
          refine rdisk_end rfl (set3c HY9.out) rfl ?_
          rw [HD.out]
          refine ⟨⟨_, rfl, _, rfl, HR9.out, rd_move (fun b hb _ => set3_other ?_) (fun b hb _ => ?_) RD9.out⟩, below_set3 B9.out (by omega)⟩
          · have h1 := SZ3.out; have h2 := SZ8.out; omega
          · have h1 := SZ3.out; have h2 := SZ8.out; omega

        · go_simp
          refine hK _ _ ?_
          clear hK K
          refine wpAny_take (i := 10) (v := VT) rfl (by kernel_rfl) (by kernel_rfl) (by kernel_rfl) (fun _ _ _ h => h) (Or.inl ⟨by rfl, fun wx => by rw [HVT.out]; exact exec_tail lsF rfl rfl (by have := HI1.out; omega)⟩) ?_
          refine wpAny_ready (rs := [5]) (by kernel_rfl) (by simp) ?_
          refine AllReady.cons rfl (fun K hK => ?_) (AllReady.nil)
          refine wp_app_g lsF ?_ ?_ OEX.out (RH.out _ BLA.out) (by have h1 := HLEN.out; have h2 := HI1.out; simp only [List.length_nil, List.length_take]; omega) (by have h1 := BLA.out.size; omega) ?_
          exact rfl
          exact rfl
          intro v6 w6 ho6 hg6 hat6
          rw [List.nil_append] at ho6
          have BL6 := Lib.hid (below_grownG BLA.out hg6 OEX.out BLA.out.size (Nat.le_refl _))
          obtain ⟨a6, c6, rfl, -, -⟩ := og_form ho6
          obtain ⟨n6, hn6⟩ : ∃ z, z = (L.take i).length := ⟨_, rfl⟩
          rw [← hn6] at ho6 ⊢
          have HN6 := Lib.hid hn6
          have HO6 := Lib.hid ho6
          clear ho6 hg6 hat6 hn6
          replace x0 := (BL6.out.cell (block_lt_of_cell k0)).trans k0
          replace x1 := (BL6.out.cell (block_lt_of_cell k1)).trans k1
          replace x2 := (BL6.out.cell (block_lt_of_cell k2)).trans k2
          refine hK _ _ ?_
          clear hK K
          refine wpAny_ready (rs := [11]) (by kernel_rfl) (by simp) ?_
          refine AllReady.cons rfl (fun K hK => ?_) (AllReady.nil)
          refine wp_app_g lsF ?_ ?_ HO6.out (RT.out _ _ _ BL6.out HO6.out) (by have h1 := HLEN.out; have h2 := HI1.out; simp only [List.length_take, List.length_drop]; omega) (by have h1 := BL6.out.size; omega) ?_
          exact rfl
          exact rfl
          intro v7 w7 ho7 hg7 hat7
          have BL7 := Lib.hid (below_grownG BL6.out hg7 HO6.out BL6.out.size (Nat.le_refl _))
          obtain ⟨a7, c7, rfl, -, -⟩ := og_form ho7
          obtain ⟨n7, hn7⟩ : ∃ z, z = (L.take i ++ L.drop (i + 1)).length := ⟨_, rfl⟩
          rw [← hn7] at ho7 ⊢
          have HN7 := Lib.hid hn7
          have HO7 := Lib.hid ho7
          clear ho7 hg7 hat7 hn7
          refine hK _ _ ?_
          clear hK K
          refine wpAny_ready (rs := [12]) (by kernel_rfl) (by simp) ?_
          refine AllReady.cons rfl (fun K hK => ?_) AllReady.nil
          go_simp
          refine hK _ _ ?_
          clear hK K
          refine wpAny_ready (rs := [13]) (by kernel_rfl) (by simp) ?_
          refine AllReady.cons rfl (fun K hK => ?_) AllReady.nil
          have HX7 := Lib.hid ((BL7.out.block _ (lt_of_some0 HX6.out)).trans HX6.out)
          have HY7 := Lib.hid ((BL7.out.block _ (lt_of_some0 HY6.out)).trans HY6.out)
          have z2 := frozen_of_row _ w.heap.size 2 _ _ HX7.out
          clear x0 x1 x2
          obtain ⟨x0, x1, x2⟩ := box3c HX7.out
          have HX8 := Lib.hid (show (w7.setCell ⟨w.heap.size, 2, none⟩ (.slice a7 n7 c7)).heap[w.heap.size]? = some (.cells #[.int .i64 ncap, .int .i64 nleft, .slice a7 n7 c7] 24 (0, 0)) from (by simpa using heap_setCell_same w7 w.heap.size 2 _ _ (.slice a7 n7 c7) HX7.out))
          have HY8 := Lib.hid ((other1 (W := w7) (g := w.heap.size) (o := 2) (v := .slice a7 n7 c7) (by omega : w.heap.size + 1 ≠ w.heap.size)).trans HY7.out)
          have B8 := Lib.hid ((B6.out.trans (BL7.out.mono B6.out.size)).setCell (p := ⟨w.heap.size, 2, none⟩) (Nat.le_refl _) (.slice a7 n7 c7))
          have O8 := Lib.hid (og_rdw (og_move (w' := w7.setCell ⟨w.heap.size, 2, none⟩ (.slice a7 n7 c7)) HO7.out fun b hb _ => heap_setCell_other _ _ _ _ (by
            show b ≠ w.heap.size
            have h1 := SZ3.out
            have h2 := SZ6.out
            rcases hb with hb | hb
            · omega
            · have := (og_lt HO7.out _ hb).1
              omega)))
          go_simp
          refine hK _ _ ?_
          clear hK K z2 x0 x1 x2
          refine wpAny_done (by kernel_rfl) ?_ _
          generalize HEQ8 : w7.setCell ⟨w.heap.size, 2, none⟩ (.slice a7 n7 c7) = W8 at *
          obtain ⟨x0, x1, x2⟩ := box3c HX8.out
          obtain ⟨y0, y1, y2⟩ := box3c HY8.out
          have u0 := frozen_of_row W8 (w.heap.size + 1) 0 _ _ HY8.out
          have u1 := frozen_of_row W8 (w.heap.size + 1) 1 _ _ HY8.out
          have u2 := frozen_of_row W8 (w.heap.size + 1) 2 _ _ HY8.out
          clear hw1
          have HV8 := Lib.hid (show DvB (fun b => b < w.heap.size ∨ w3.heap.size ≤ b) W8 (.agg #[.int .i64 ncap, .int .i64 nleft, .slice a7 n7 c7]) (ncap, nleft, L.take i ++ L.drop (i + 1)) from ⟨_, rfl, HNX.out.1, rd_mono O8.out fun b hb _ => (by
            have h1 := SZ6.out
            rcases hb with hb | hb
            · rcases hb.1 with hb | hb
              · exact Or.inl hb.1
              · exact Or.inr (by omega)
            · exact Or.inr (by omega))⟩)
          have HF8 := Lib.hid (show Rd (fun b => b < w.heap.size ∨ w3.heap.size ≤ b) W8 tyF [.string t, .slice ab nb cb, .slice ap np cp] (t, f0.2.1, f0.2.2) from rd_f_mk (x := (t, f0.2.1, f0.2.2)) ht (rd_mono (rd_below HBV.out B8.out) fun b hb _ => Or.inl hb.2) (rd_mono (rd_below HPV.out B8.out) fun b hb _ => Or.inl hb.2))
          have RAD := Lib.hid (radded_any _ _ (t, f0.2.1, f0.2.2) _ _ W8 HV8.out HF8.out (by have h1 := HLEN.out; have h2 := HI1.out; simp only [List.length_append, List.length_take, List.length_drop]; omega))
          have HZ8 := Lib.hid ((other1 (W := w7) (g := w.heap.size) (o := 2) (v := .slice a7 n7 c7) (by have := SZ20.out; omega : w2.heap.size ≠ w.heap.size)).trans ((BL7.out.block _ (lt_of_some0 HZ6.out)).trans HZ6.out))
          rw [HEQ8] at HZ8
          clear y0 y1 y2 u0 u1 u2 k0 k1 k2
          obtain ⟨y0, y1, y2⟩ := box3c HZ8.out
          go_wp2_with fail
          refine RAD.out.mono ?_
          rintro e w9 ⟨⟨v9, rfl, hv9⟩, hb9⟩
          obtain ⟨f9, rfl, hr9, hl9⟩ := hv9
          dsimp only at hr9 hl9 ⊢
          obtain ⟨a9, c9, rfl, -, -⟩ := rd_sl hl9
          obtain ⟨n9, hn9⟩ : ∃ z, z = (addedL (L.take i ++ L.drop (i + 1)) (t, f0.2.1, f0.2.2)).length := ⟨_, rfl⟩
          rw [← hn9] at hl9 ⊢
          have RD9 := Lib.hid hl9
          have HR9 := Lib.hid hr9
          have HY9 := Lib.hid ((hb9.block _ (lt_of_some0 HY8.out)).trans HY8.out)
          have B9 := Lib.hid (btA B8.out hb9)
          have SZ8 := Lib.hid (show w3.heap.size ≤ W8.heap.size from by have h1 := BL7.out.size; have h2 := SZ6.out; rw [← HEQ8]; simp; omega)
          clear hl9 hb9 hr9 hn9 x0 x1 x2 y0 y1 y2
          obtain ⟨y0, y1, y2⟩ := box3c HY9.out
          have u0 := frozen_of_row w9 (w.heap.size + 1) 0 _ _ HY9.out
          have u1 := frozen_of_row w9 (w.heap.size + 1) 1 _ _ HY9.out
          have u2 := frozen_of_row w9 (w.heap.size + 1) 2 _ _ HY9.out
          go_wp2
          refine rdisk_end rfl (set3c HY9.out) rfl ?_
          rw [HD.out]
          refine ⟨⟨_, rfl, _, rfl, HR9.out, rd_move (fun b hb _ => set3_other ?_) (fun b hb _ => ?_) RD9.out⟩, below_set3 B9.out (by omega)⟩
          · have h1 := SZ3.out; have h2 := SZ8.out; omega
          · have h1 := SZ3.out; have h2 := SZ8.out; omega


      · go_simp
        refine hK _ _ ?_
        clear hK K
        refine wpAny_take (i := 10) (v := VT) rfl (by kernel_rfl) (by kernel_rfl) (by kernel_rfl) (fun _ _ _ h => h) (Or.inl ⟨by rfl, fun wx => by rw [HVT.out]; exact exec_tail lsF rfl rfl (by have := HI1.out; omega)⟩) ?_
        refine wpAny_ready (rs := [2]) (by kernel_rfl) (by simp) ?_
        refine AllReady.cons rfl (fun K hK => ?_) (AllReady.nil)
        go_simp
        refine hK _ _ ?_
        clear hK K
        refine wpAny_take (i := 4) (v := .slice a5 i c5) rfl (by kernel_rfl) (by kernel_rfl) (by kernel_rfl) (fun _ _ _ h => h) (Or.inl ⟨by rfl, fun wx => exec_head lsF rfl rfl HC5.out (by have := HI1.out; omega)⟩) ?_
        refine wpAny_ready (rs := [5]) (by kernel_rfl) (by simp) ?_
        refine AllReady.cons rfl (fun K hK => ?_) (AllReady.nil)
        refine wp_app_g lsF ?_ ?_ OEX.out (RH.out _ BLA.out) (by have h1 := HLEN.out; have h2 := HI1.out; simp only [List.length_nil, List.length_take]; omega) (by have h1 := BLA.out.size; omega) ?_
        exact rfl
        exact rfl
        intro v6 w6 ho6 hg6 hat6
        rw [List.nil_append] at ho6
        have BL6 := Lib.hid (below_grownG BLA.out hg6 OEX.out BLA.out.size (Nat.le_refl _))
        obtain ⟨a6, c6, rfl, -, -⟩ := og_form ho6
        obtain ⟨n6, hn6⟩ : ∃ z, z = (L.take i).length := ⟨_, rfl⟩
        rw [← hn6] at ho6 ⊢
        have HN6 := Lib.hid hn6
        have HO6 := Lib.hid ho6
        clear ho6 hg6 hat6 hn6
        replace x0 := (BL6.out.cell (block_lt_of_cell k0)).trans k0
        replace x1 := (BL6.out.cell (block_lt_of_cell k1)).trans k1
        replace x2 := (BL6.out.cell (block_lt_of_cell k2)).trans k2
        refine hK _ _ ?_
        clear hK K
        refine wpAny_ready (rs := [11]) (by kernel_rfl) (by simp) ?_
        refine AllReady.cons rfl (fun K hK => ?_) (AllReady.nil)
        refine wp_app_g lsF ?_ ?_ HO6.out (RT.out _ _ _ BL6.out HO6.out) (by have h1 := HLEN.out; have h2 := HI1.out; simp only [List.length_take, List.length_drop]; omega) (by have h1 := BL6.out.size; omega) ?_
        exact rfl
        exact rfl
        intro v7 w7 ho7 hg7 hat7
        have BL7 := Lib.hid (below_grownG BL6.out hg7 HO6.out BL6.out.size (Nat.le_refl _))
        obtain ⟨a7, c7, rfl, -, -⟩ := og_form ho7
        obtain ⟨n7, hn7⟩ : ∃ z, z = (L.take i ++ L.drop (i + 1)).length := ⟨_, rfl⟩
        rw [← hn7] at ho7 ⊢
        have HN7 := Lib.hid hn7
        have HO7 := Lib.hid ho7
        clear ho7 hg7 hat7 hn7
        refine hK _ _ ?_
        clear hK K
        refine wpAny_ready (rs := [12]) (by kernel_rfl) (by simp) ?_
        refine AllReady.cons rfl (fun K hK => ?_) AllReady.nil
        go_simp
        refine hK _ _ ?_
        clear hK K
        refine wpAny_ready (rs := [13]) (by kernel_rfl) (by simp) ?_
        refine AllReady.cons rfl (fun K hK => ?_) AllReady.nil
        have HX7 := Lib.hid ((BL7.out.block _ (lt_of_some0 HX6.out)).trans HX6.out)
        have HY7 := Lib.hid ((BL7.out.block _ (lt_of_some0 HY6.out)).trans HY6.out)
        have z2 := frozen_of_row _ w.heap.size 2 _ _ HX7.out
        clear x0 x1 x2
        obtain ⟨x0, x1, x2⟩ := box3c HX7.out
        have HX8 := Lib.hid (show (w7.setCell ⟨w.heap.size, 2, none⟩ (.slice a7 n7 c7)).heap[w.heap.size]? = some (.cells #[.int .i64 ncap, .int .i64 nleft, .slice a7 n7 c7] 24 (0, 0)) from (by simpa using heap_setCell_same w7 w.heap.size 2 _ _ (.slice a7 n7 c7) HX7.out))
        have HY8 := Lib.hid ((other1 (W := w7) (g := w.heap.size) (o := 2) (v := .slice a7 n7 c7) (by omega : w.heap.size + 1 ≠ w.heap.size)).trans HY7.out)
        have B8 := Lib.hid ((B6.out.trans (BL7.out.mono B6.out.size)).setCell (p := ⟨w.heap.size, 2, none⟩) (Nat.le_refl _) (.slice a7 n7 c7))
        have O8 := Lib.hid (og_rdw (og_move (w' := w7.setCell ⟨w.heap.size, 2, none⟩ (.slice a7 n7 c7)) HO7.out fun b hb _ => heap_setCell_other _ _ _ _ (by
          show b ≠ w.heap.size
          have h1 := SZ3.out
          have h2 := SZ6.out
          rcases hb with hb | hb
          · omega
          · have := (og_lt HO7.out _ hb).1
            omega)))
        go_simp
        refine hK _ _ ?_
        clear hK K z2 x0 x1 x2
        refine wpAny_done (by kernel_rfl) ?_ _
        generalize HEQ8 : w7.setCell ⟨w.heap.size, 2, none⟩ (.slice a7 n7 c7) = W8 at *
        obtain ⟨x0, x1, x2⟩ := box3c HX8.out
        obtain ⟨y0, y1, y2⟩ := box3c HY8.out
        have u0 := frozen_of_row W8 (w.heap.size + 1) 0 _ _ HY8.out
        have u1 := frozen_of_row W8 (w.heap.size + 1) 1 _ _ HY8.out
        have u2 := frozen_of_row W8 (w.heap.size + 1) 2 _ _ HY8.out
        clear hw1
        have HV8 := Lib.hid (show DvB (fun b => b < w.heap.size ∨ w3.heap.size ≤ b) W8 (.agg #[.int .i64 ncap, .int .i64 nleft, .slice a7 n7 c7]) (ncap, nleft, L.take i ++ L.drop (i + 1)) from ⟨_, rfl, HNX.out.1, rd_mono O8.out fun b hb _ => (by
          have h1 := SZ6.out
          rcases hb with hb | hb
          · rcases hb.1 with hb | hb
            · exact Or.inl hb.1
            · exact Or.inr (by omega)
          · exact Or.inr (by omega))⟩)
        have HF8 := Lib.hid (show Rd (fun b => b < w.heap.size ∨ w3.heap.size ≤ b) W8 tyF [.string t, .slice ab nb cb, .slice ap np cp] (t, f0.2.1, f0.2.2) from rd_f_mk (x := (t, f0.2.1, f0.2.2)) ht (rd_mono (rd_below HBV.out B8.out) fun b hb _ => Or.inl hb.2) (rd_mono (rd_below HPV.out B8.out) fun b hb _ => Or.inl hb.2))
        have RAD := Lib.hid (radded_any _ _ (t, f0.2.1, f0.2.2) _ _ W8 HV8.out HF8.out (by have h1 := HLEN.out; have h2 := HI1.out; simp only [List.length_append, List.length_take, List.length_drop]; omega))
        have HZ8 := Lib.hid ((other1 (W := w7) (g := w.heap.size) (o := 2) (v := .slice a7 n7 c7) (by have := SZ20.out; omega : w2.heap.size ≠ w.heap.size)).trans ((BL7.out.block _ (lt_of_some0 HZ6.out)).trans HZ6.out))
        rw [HEQ8] at HZ8
        clear y0 y1 y2 u0 u1 u2 k0 k1 k2
        obtain ⟨y0, y1, y2⟩ := box3c HZ8.out
        go_wp2_with fail
        refine RAD.out.mono ?_
        rintro e w9 ⟨⟨v9, rfl, hv9⟩, hb9⟩
        obtain ⟨f9, rfl, hr9, hl9⟩ := hv9
        dsimp only at hr9 hl9 ⊢
        obtain ⟨a9, c9, rfl, -, -⟩ := rd_sl hl9
        obtain ⟨n9, hn9⟩ : ∃ z, z = (addedL (L.take i ++ L.drop (i + 1)) (t, f0.2.1, f0.2.2)).length := ⟨_, rfl⟩
        rw [← hn9] at hl9 ⊢
        have RD9 := Lib.hid hl9
        have HR9 := Lib.hid hr9
        have HY9 := Lib.hid ((hb9.block _ (lt_of_some0 HY8.out)).trans HY8.out)
        have B9 := Lib.hid (btA B8.out hb9)
        have SZ8 := Lib.hid (show w3.heap.size ≤ W8.heap.size from by have h1 := BL7.out.size; have h2 := SZ6.out; rw [← HEQ8]; simp; omega)
        clear hl9 hb9 hr9 hn9 x0 x1 x2 y0 y1 y2
        obtain ⟨y0, y1, y2⟩ := box3c HY9.out
        have u0 := frozen_of_row w9 (w.heap.size + 1) 0 _ _ HY9.out
        have u1 := frozen_of_row w9 (w.heap.size + 1) 1 _ _ HY9.out
        have u2 := frozen_of_row w9 (w.heap.size + 1) 2 _ _ HY9.out
        go_wp2
        refine rdisk_end rfl (set3c HY9.out) rfl ?_
        rw [HD.out]
        refine ⟨⟨_, rfl, _, rfl, HR9.out, rd_move (fun b hb _ => set3_other ?_) (fun b hb _ => ?_) RD9.out⟩, below_set3 B9.out (by omega)⟩
        · have h1 := SZ3.out; have h2 := SZ8.out; omega
        · have h1 := SZ3.out; have h2 := SZ8.out; omega


    · go_simp
      refine hK _ _ ?_
      clear hK K
      refine wpAny_take (i := 4) (v := .slice a5 i c5) rfl (by kernel_rfl) (by kernel_rfl) (by kernel_rfl) (fun _ _ _ h => h) (Or.inl ⟨by rfl, fun wx => exec_head lsF rfl rfl HC5.out (by have := HI1.out; omega)⟩) ?_
      refine wpAny_ready (rs := [0, 7]) (by kernel_rfl) (by simp) ?_
      refine AllReady.cons rfl (fun K hK => ?_) (AllReady.cons rfl (fun K hK => ?_) (AllReady.nil))
      · go_simp
        refine hK _ _ ?_
        clear hK K
        replace x0 := (BLA.out.cell (block_lt_of_cell k0)).trans k0
        replace x1 := (BLA.out.cell (block_lt_of_cell k1)).trans k1
        replace x2 := (BLA.out.cell (block_lt_of_cell k2)).trans k2
        refine wpAny_ready (rs := [5, 7]) (by kernel_rfl) (by simp) ?_
        refine AllReady.cons rfl (fun K hK => ?_) (AllReady.cons rfl (fun K hK => ?_) (AllReady.nil))
        · refine wp_app_g lsF ?_ ?_ OEX.out (RH.out _ BLA.out) (by have h1 := HLEN.out; have h2 := HI1.out; simp only [List.length_nil, List.length_take]; omega) (by have h1 := BLA.out.size; omega) ?_
          exact rfl
          exact rfl
          intro v6 w6 ho6 hg6 hat6
          rw [List.nil_append] at ho6
          have BL6 := Lib.hid (below_grownG BLA.out hg6 OEX.out BLA.out.size (Nat.le_refl _))
          obtain ⟨a6, c6, rfl, -, -⟩ := og_form ho6
          obtain ⟨n6, hn6⟩ : ∃ z, z = (L.take i).length := ⟨_, rfl⟩
          rw [← hn6] at ho6 ⊢
          have HN6 := Lib.hid hn6
          have HO6 := Lib.hid ho6
          clear ho6 hg6 hat6 hn6
          replace x0 := (BL6.out.cell (block_lt_of_cell k0)).trans k0
          replace x1 := (BL6.out.cell (block_lt_of_cell k1)).trans k1
          replace x2 := (BL6.out.cell (block_lt_of_cell k2)).trans k2
          refine hK _ _ ?_
          clear hK K
          refine wpAny_ready (rs := [7]) (by kernel_rfl) (by simp) ?_
          refine AllReady.cons rfl (fun K hK => ?_) (AllReady.nil)
          go_simp
          refine hK _ _ ?_
          clear hK K
          refine wpAny_take (i := 10) (v := VT) rfl (by kernel_rfl) (by kernel_rfl) (by kernel_rfl) (fun _ _ _ h => h) (Or.inl ⟨by rfl, fun wx => by rw [HVT.out]; exact exec_tail lsF rfl rfl (by have := HI1.out; omega)⟩) ?_
          refine wpAny_ready (rs := [11]) (by kernel_rfl) (by simp) ?_
          refine AllReady.cons rfl (fun K hK => ?_) (AllReady.nil)
          refine wp_app_g lsF ?_ ?_ HO6.out (RT.out _ _ _ BL6.out HO6.out) (by have h1 := HLEN.out; have h2 := HI1.out; simp only [List.length_take, List.length_drop]; omega) (by have h1 := BL6.out.size; omega) ?_
          exact rfl
          exact rfl
          intro v7 w7 ho7 hg7 hat7
          have BL7 := Lib.hid (below_grownG BL6.out hg7 HO6.out BL6.out.size (Nat.le_refl _))
          obtain ⟨a7, c7, rfl, -, -⟩ := og_form ho7
          obtain ⟨n7, hn7⟩ : ∃ z, z = (L.take i ++ L.drop (i + 1)).length := ⟨_, rfl⟩
          rw [← hn7] at ho7 ⊢
          have HN7 := Lib.hid hn7
          have HO7 := Lib.hid ho7
          clear ho7 hg7 hat7 hn7
          refine hK _ _ ?_
          clear hK K
          refine wpAny_ready (rs := [12]) (by kernel_rfl) (by simp) ?_
          refine AllReady.cons rfl (fun K hK => ?_) AllReady.nil
          go_simp
          refine hK _ _ ?_
          clear hK K
          refine wpAny_ready (rs := [13]) (by kernel_rfl) (by simp) ?_
          refine AllReady.cons rfl (fun K hK => ?_) AllReady.nil
          have HX7 := Lib.hid ((BL7.out.block _ (lt_of_some0 HX6.out)).trans HX6.out)
          have HY7 := Lib.hid ((BL7.out.block _ (lt_of_some0 HY6.out)).trans HY6.out)
          have z2 := frozen_of_row _ w.heap.size 2 _ _ HX7.out
          clear x0 x1 x2
          obtain ⟨x0, x1, x2⟩ := box3c HX7.out
          have HX8 := Lib.hid (show (w7.setCell ⟨w.heap.size, 2, none⟩ (.slice a7 n7 c7)).heap[w.heap.size]? = some (.cells #[.int .i64 ncap, .int .i64 nleft, .slice a7 n7 c7] 24 (0, 0)) from (by simpa using heap_setCell_same w7 w.heap.size 2 _ _ (.slice a7 n7 c7) HX7.out))
          have HY8 := Lib.hid ((other1 (W := w7) (g := w.heap.size) (o := 2) (v := .slice a7 n7 c7) (by omega : w.heap.size + 1 ≠ w.heap.size)).trans HY7.out)
          have B8 := Lib.hid ((B6.out.trans (BL7.out.mono B6.out.size)).setCell (p := ⟨w.heap.size, 2, none⟩) (Nat.le_refl _) (.slice a7 n7 c7))
          have O8 := Lib.hid (og_rdw (og_move (w' := w7.setCell ⟨w.heap.size, 2, none⟩ (.slice a7 n7 c7)) HO7.out fun b hb _ => heap_setCell_other _ _ _ _ (by
            show b ≠ w.heap.size
            have h1 := SZ3.out
            have h2 := SZ6.out
            rcases hb with hb | hb
            · omega
            · have := (og_lt HO7.out _ hb).1
              omega)))
          go_simp
          refine hK _ _ ?_
          clear hK K z2 x0 x1 x2
          refine wpAny_done (by kernel_rfl) ?_ _
          generalize HEQ8 : w7.setCell ⟨w.heap.size, 2, none⟩ (.slice a7 n7 c7) = W8 at *
          obtain ⟨x0, x1, x2⟩ := box3c HX8.out
          obtain ⟨y0, y1, y2⟩ := box3c HY8.out
          have u0 := frozen_of_row W8 (w.heap.size + 1) 0 _ _ HY8.out
          have u1 := frozen_of_row W8 (w.heap.size + 1) 1 _ _ HY8.out
          have u2 := frozen_of_row W8 (w.heap.size + 1) 2 _ _ HY8.out
          clear hw1
          have HV8 := Lib.hid (show DvB (fun b => b < w.heap.size ∨ w3.heap.size ≤ b) W8 (.agg #[.int .i64 ncap, .int .i64 nleft, .slice a7 n7 c7]) (ncap, nleft, L.take i ++ L.drop (i + 1)) from ⟨_, rfl, HNX.out.1, rd_mono O8.out fun b hb _ => (by
            have h1 := SZ6.out
            rcases hb with hb | hb
            · rcases hb.1 with hb | hb
              · exact Or.inl hb.1
              · exact Or.inr (by omega)
            · exact Or.inr (by omega))⟩)
          have HF8 := Lib.hid (show Rd (fun b => b < w.heap.size ∨ w3.heap.size ≤ b) W8 tyF [.string t, .slice ab nb cb, .slice ap np cp] (t, f0.2.1, f0.2.2) from rd_f_mk (x := (t, f0.2.1, f0.2.2)) ht (rd_mono (rd_below HBV.out B8.out) fun b hb _ => Or.inl hb.2) (rd_mono (rd_below HPV.out B8.out) fun b hb _ => Or.inl hb.2))
          have RAD := Lib.hid (radded_any _ _ (t, f0.2.1, f0.2.2) _ _ W8 HV8.out HF8.out (by have h1 := HLEN.out; have h2 := HI1.out; simp only [List.length_append, List.length_take, List.length_drop]; omega))
          have HZ8 := Lib.hid ((other1 (W := w7) (g := w.heap.size) (o := 2) (v := .slice a7 n7 c7) (by have := SZ20.out; omega : w2.heap.size ≠ w.heap.size)).trans ((BL7.out.block _ (lt_of_some0 HZ6.out)).trans HZ6.out))
          rw [HEQ8] at HZ8
          clear y0 y1 y2 u0 u1 u2 k0 k1 k2
          obtain ⟨y0, y1, y2⟩ := box3c HZ8.out
          go_wp2_with fail
          refine RAD.out.mono ?_
          rintro e w9 ⟨⟨v9, rfl, hv9⟩, hb9⟩
          obtain ⟨f9, rfl, hr9, hl9⟩ := hv9
          dsimp only at hr9 hl9 ⊢
          obtain ⟨a9, c9, rfl, -, -⟩ := rd_sl hl9
          obtain ⟨n9, hn9⟩ : ∃ z, z = (addedL (L.take i ++ L.drop (i + 1)) (t, f0.2.1, f0.2.2)).length := ⟨_, rfl⟩
          rw [← hn9] at hl9 ⊢
          have RD9 := Lib.hid hl9
          have HR9 := Lib.hid hr9
          have HY9 := Lib.hid ((hb9.block _ (lt_of_some0 HY8.out)).trans HY8.out)
          have B9 := Lib.hid (btA B8.out hb9)
          have SZ8 := Lib.hid (show w3.heap.size ≤ W8.heap.size from by have h1 := BL7.out.size; have h2 := SZ6.out; rw [← HEQ8]; simp; omega)
          clear hl9 hb9 hr9 hn9 x0 x1 x2 y0 y1 y2
          obtain ⟨y0, y1, y2⟩ := box3c HY9.out
          have u0 := frozen_of_row w9 (w.heap.size + 1) 0 _ _ HY9.out
          have u1 := frozen_of_row w9 (w.heap.size + 1) 1 _ _ HY9.out
          have u2 := frozen_of_row w9 (w.heap.size + 1) 2 _ _ HY9.out
          go_wp2
          refine rdisk_end rfl (set3c HY9.out) rfl ?_
          rw [HD.out]
          refine ⟨⟨_, rfl, _, rfl, HR9.out, rd_move (fun b hb _ => set3_other ?_) (fun b hb _ => ?_) RD9.out⟩, below_set3 B9.out (by omega)⟩
          · have h1 := SZ3.out; have h2 := SZ8.out; omega
          · have h1 := SZ3.out; have h2 := SZ8.out; omega

        · go_simp
          refine hK _ _ ?_
          clear hK K
          refine wpAny_take (i := 10) (v := VT) rfl (by kernel_rfl) (by kernel_rfl) (by kernel_rfl) (fun _ _ _ h => h) (Or.inl ⟨by rfl, fun wx => by rw [HVT.out]; exact exec_tail lsF rfl rfl (by have := HI1.out; omega)⟩) ?_
          refine wpAny_ready (rs := [5]) (by kernel_rfl) (by simp) ?_
          refine AllReady.cons rfl (fun K hK => ?_) (AllReady.nil)
          refine wp_app_g lsF ?_ ?_ OEX.out (RH.out _ BLA.out) (by have h1 := HLEN.out; have h2 := HI1.out; simp only [List.length_nil, List.length_take]; omega) (by have h1 := BLA.out.size; omega) ?_
          exact rfl
          exact rfl
          intro v6 w6 ho6 hg6 hat6
          rw [List.nil_append] at ho6
          have BL6 := Lib.hid (below_grownG BLA.out hg6 OEX.out BLA.out.size (Nat.le_refl _))
          obtain ⟨a6, c6, rfl, -, -⟩ := og_form ho6
          obtain ⟨n6, hn6⟩ : ∃ z, z = (L.take i).length := ⟨_, rfl⟩
          rw [← hn6] at ho6 ⊢
          have HN6 := Lib.hid hn6
          have HO6 := Lib.hid ho6
          clear ho6 hg6 hat6 hn6
          replace x0 := (BL6.out.cell (block_lt_of_cell k0)).trans k0
          replace x1 := (BL6.out.cell (block_lt_of_cell k1)).trans k1
          replace x2 := (BL6.out.cell (block_lt_of_cell k2)).trans k2
          refine hK _ _ ?_
          clear hK K
          refine wpAny_ready (rs := [11]) (by kernel_rfl) (by simp) ?_
          refine AllReady.cons rfl (fun K hK => ?_) (AllReady.nil)
          refine wp_app_g lsF ?_ ?_ HO6.out (RT.out _ _ _ BL6.out HO6.out) (by have h1 := HLEN.out; have h2 := HI1.out; simp only [List.length_take, List.length_drop]; omega) (by have h1 := BL6.out.size; omega) ?_
          exact rfl
          exact rfl
          intro v7 w7 ho7 hg7 hat7
          have BL7 := Lib.hid (below_grownG BL6.out hg7 HO6.out BL6.out.size (Nat.le_refl _))
          obtain ⟨a7, c7, rfl, -, -⟩ := og_form ho7
          obtain ⟨n7, hn7⟩ : ∃ z, z = (L.take i ++ L.drop (i + 1)).length := ⟨_, rfl⟩
          rw [← hn7] at ho7 ⊢
          have HN7 := Lib.hid hn7
          have HO7 := Lib.hid ho7
          clear ho7 hg7 hat7 hn7
          refine hK _ _ ?_
          clear hK K
          refine wpAny_ready (rs := [12]) (by kernel_rfl) (by simp) ?_
          refine AllReady.cons rfl (fun K hK => ?_) AllReady.nil
          go_simp
          refine hK _ _ ?_
          clear hK K
          refine wpAny_ready (rs := [13]) (by kernel_rfl) (by simp) ?_
          refine AllReady.cons rfl (fun K hK => ?_) AllReady.nil
          have HX7 := Lib.hid ((BL7.out.block _ (lt_of_some0 HX6.out)).trans HX6.out)
          have HY7 := Lib.hid ((BL7.out.block _ (lt_of_some0 HY6.out)).trans HY6.out)
          have z2 := frozen_of_row _ w.heap.size 2 _ _ HX7.out
          clear x0 x1 x2
          obtain ⟨x0, x1, x2⟩ := box3c HX7.out
          have HX8 := Lib.hid (show (w7.setCell ⟨w.heap.size, 2, none⟩ (.slice a7 n7 c7)).heap[w.heap.size]? = some (.cells #[.int .i64 ncap, .int .i64 nleft, .slice a7 n7 c7] 24 (0, 0)) from (by simpa using heap_setCell_same w7 w.heap.size 2 _ _ (.slice a7 n7 c7) HX7.out))
          have HY8 := Lib.hid ((other1 (W := w7) (g := w.heap.size) (o := 2) (v := .slice a7 n7 c7) (by omega : w.heap.size + 1 ≠ w.heap.size)).trans HY7.out)
          have B8 := Lib.hid ((B6.out.trans (BL7.out.mono B6.out.size)).setCell (p := ⟨w.heap.size, 2, none⟩) (Nat.le_refl _) (.slice a7 n7 c7))
          have O8 := Lib.hid (og_rdw (og_move (w' := w7.setCell ⟨w.heap.size, 2, none⟩ (.slice a7 n7 c7)) HO7.out fun b hb _ => heap_setCell_other _ _ _ _ (by
            show b ≠ w.heap.size
            have h1 := SZ3.out
            have h2 := SZ6.out
            rcases hb with hb | hb
            · omega
            · have := (og_lt HO7.out _ hb).1
              omega)))
          go_simp
          refine hK _ _ ?_
          clear hK K z2 x0 x1 x2
          refine wpAny_done (by kernel_rfl) ?_ _
          generalize HEQ8 : w7.setCell ⟨w.heap.size, 2, none⟩ (.slice a7 n7 c7) = W8 at *
          obtain ⟨x0, x1, x2⟩ := box3c HX8.out
          obtain ⟨y0, y1, y2⟩ := box3c HY8.out
          have u0 := frozen_of_row W8 (w.heap.size + 1) 0 _ _ HY8.out
          have u1 := frozen_of_row W8 (w.heap.size + 1) 1 _ _ HY8.out
          have u2 := frozen_of_row W8 (w.heap.size + 1) 2 _ _ HY8.out
          clear hw1
          have HV8 := Lib.hid (show DvB (fun b => b < w.heap.size ∨ w3.heap.size ≤ b) W8 (.agg #[.int .i64 ncap, .int .i64 nleft, .slice a7 n7 c7]) (ncap, nleft, L.take i ++ L.drop (i + 1)) from ⟨_, rfl, HNX.out.1, rd_mono O8.out fun b hb _ => (by
            have h1 := SZ6.out
            rcases hb with hb | hb
            · rcases hb.1 with hb | hb
              · exact Or.inl hb.1
              · exact Or.inr (by omega)
            · exact Or.inr (by omega))⟩)
          have HF8 := Lib.hid (show Rd (fun b => b < w.heap.size ∨ w3.heap.size ≤ b) W8 tyF [.string t, .slice ab nb cb, .slice ap np cp] (t, f0.2.1, f0.2.2) from rd_f_mk (x := (t, f0.2.1, f0.2.2)) ht (rd_mono (rd_below HBV.out B8.out) fun b hb _ => Or.inl hb.2) (rd_mono (rd_below HPV.out B8.out) fun b hb _ => Or.inl hb.2))
          have RAD := Lib.hid (radded_any _ _ (t, f0.2.1, f0.2.2) _ _ W8 HV8.out HF8.out (by have h1 := HLEN.out; have h2 := HI1.out; simp only [List.length_append, List.length_take, List.length_drop]; omega))
          have HZ8 := Lib.hid ((other1 (W := w7) (g := w.heap.size) (o := 2) (v := .slice a7 n7 c7) (by have := SZ20.out; omega : w2.heap.size ≠ w.heap.size)).trans ((BL7.out.block _ (lt_of_some0 HZ6.out)).trans HZ6.out))
          rw [HEQ8] at HZ8
          clear y0 y1 y2 u0 u1 u2 k0 k1 k2
          obtain ⟨y0, y1, y2⟩ := box3c HZ8.out
          go_wp2_with fail
          refine RAD.out.mono ?_
          rintro e w9 ⟨⟨v9, rfl, hv9⟩, hb9⟩
          obtain ⟨f9, rfl, hr9, hl9⟩ := hv9
          dsimp only at hr9 hl9 ⊢
          obtain ⟨a9, c9, rfl, -, -⟩ := rd_sl hl9
          obtain ⟨n9, hn9⟩ : ∃ z, z = (addedL (L.take i ++ L.drop (i + 1)) (t, f0.2.1, f0.2.2)).length := ⟨_, rfl⟩
          rw [← hn9] at hl9 ⊢
          have RD9 := Lib.hid hl9
          have HR9 := Lib.hid hr9
          have HY9 := Lib.hid ((hb9.block _ (lt_of_some0 HY8.out)).trans HY8.out)
          have B9 := Lib.hid (btA B8.out hb9)
          have SZ8 := Lib.hid (show w3.heap.size ≤ W8.heap.size from by have h1 := BL7.out.size; have h2 := SZ6.out; rw [← HEQ8]; simp; omega)
          clear hl9 hb9 hr9 hn9 x0 x1 x2 y0 y1 y2
          obtain ⟨y0, y1, y2⟩ := box3c HY9.out
          have u0 := frozen_of_row w9 (w.heap.size + 1) 0 _ _ HY9.out
          have u1 := frozen_of_row w9 (w.heap.size + 1) 1 _ _ HY9.out
          have u2 := frozen_of_row w9 (w.heap.size + 1) 2 _ _ HY9.out
          go_wp2
          refine rdisk_end rfl (set3c HY9.out) rfl ?_
          rw [HD.out]
          refine ⟨⟨_, rfl, _, rfl, HR9.out, rd_move (fun b hb _ => set3_other ?_) (fun b hb _ => ?_) RD9.out⟩, below_set3 B9.out (by omega)⟩
          · have h1 := SZ3.out; have h2 := SZ8.out; omega
          · have h1 := SZ3.out; have h2 := SZ8.out; omega


      · go_simp
        refine hK _ _ ?_
        clear hK K
        refine wpAny_take (i := 10) (v := VT) rfl (by kernel_rfl) (by kernel_rfl) (by kernel_rfl) (fun _ _ _ h => h) (Or.inl ⟨by rfl, fun wx => by rw [HVT.out]; exact exec_tail lsF rfl rfl (by have := HI1.out; omega)⟩) ?_
        refine wpAny_ready (rs := [0]) (by kernel_rfl) (by simp) ?_
        refine AllReady.cons rfl (fun K hK => ?_) (AllReady.nil)
        go_simp
        refine hK _ _ ?_
        clear hK K
        replace x0 := (BLA.out.cell (block_lt_of_cell k0)).trans k0
        replace x1 := (BLA.out.cell (block_lt_of_cell k1)).trans k1
        replace x2 := (BLA.out.cell (block_lt_of_cell k2)).trans k2
        refine wpAny_ready (rs := [5]) (by kernel_rfl) (by simp) ?_
        refine AllReady.cons rfl (fun K hK => ?_) (AllReady.nil)
        refine wp_app_g lsF ?_ ?_ OEX.out (RH.out _ BLA.out) (by have h1 := HLEN.out; have h2 := HI1.out; simp only [List.length_nil, List.length_take]; omega) (by have h1 := BLA.out.size; omega) ?_
        exact rfl
        exact rfl
        intro v6 w6 ho6 hg6 hat6
        rw [List.nil_append] at ho6
        have BL6 := Lib.hid (below_grownG BLA.out hg6 OEX.out BLA.out.size (Nat.le_refl _))
        obtain ⟨a6, c6, rfl, -, -⟩ := og_form ho6
        obtain ⟨n6, hn6⟩ : ∃ z, z = (L.take i).length := ⟨_, rfl⟩
        rw [← hn6] at ho6 ⊢
        have HN6 := Lib.hid hn6
        have HO6 := Lib.hid ho6
        clear ho6 hg6 hat6 hn6
        replace x0 := (BL6.out.cell (block_lt_of_cell k0)).trans k0
        replace x1 := (BL6.out.cell (block_lt_of_cell k1)).trans k1
        replace x2 := (BL6.out.cell (block_lt_of_cell k2)).trans k2
        refine hK _ _ ?_
        clear hK K
        refine wpAny_ready (rs := [11]) (by kernel_rfl) (by simp) ?_
        refine AllReady.cons rfl (fun K hK => ?_) (AllReady.nil)
        refine wp_app_g lsF ?_ ?_ HO6.out (RT.out _ _ _ BL6.out HO6.out) (by have h1 := HLEN.out; have h2 := HI1.out; simp only [List.length_take, List.length_drop]; omega) (by have h1 := BL6.out.size; omega) ?_
        exact rfl
        exact rfl
        intro v7 w7 ho7 hg7 hat7
        have BL7 := Lib.hid (below_grownG BL6.out hg7 HO6.out BL6.out.size (Nat.le_refl _))
        obtain ⟨a7, c7, rfl, -, -⟩ := og_form ho7
        obtain ⟨n7, hn7⟩ : ∃ z, z = (L.take i ++ L.drop (i + 1)).length := ⟨_, rfl⟩
        rw [← hn7] at ho7 ⊢
        have HN7 := Lib.hid hn7
        have HO7 := Lib.hid ho7
        clear ho7 hg7 hat7 hn7
        refine hK _ _ ?_
        clear hK K
        refine wpAny_ready (rs := [12]) (by kernel_rfl) (by simp) ?_
        refine AllReady.cons rfl (fun K hK => ?_) AllReady.nil
        go_simp
        refine hK _ _ ?_
        clear hK K
        refine wpAny_ready (rs := [13]) (by kernel_rfl) (by simp) ?_
        refine AllReady.cons rfl (fun K hK => ?_) AllReady.nil
        have HX7 := Lib.hid ((BL7.out.block _ (lt_of_some0 HX6.out)).trans HX6.out)
        have HY7 := Lib.hid ((BL7.out.block _ (lt_of_some0 HY6.out)).trans HY6.out)
        have z2 := frozen_of_row _ w.heap.size 2 _ _ HX7.out
        clear x0 x1 x2
        obtain ⟨x0, x1, x2⟩ := box3c HX7.out
        have HX8 := Lib.hid (show (w7.setCell ⟨w.heap.size, 2, none⟩ (.slice a7 n7 c7)).heap[w.heap.size]? = some (.cells #[.int .i64 ncap, .int .i64 nleft, .slice a7 n7 c7] 24 (0, 0)) from (by simpa using heap_setCell_same w7 w.heap.size 2 _ _ (.slice a7 n7 c7) HX7.out))
        have HY8 := Lib.hid ((other1 (W := w7) (g := w.heap.size) (o := 2) (v := .slice a7 n7 c7) (by omega : w.heap.size + 1 ≠ w.heap.size)).trans HY7.out)
        have B8 := Lib.hid ((B6.out.trans (BL7.out.mono B6.out.size)).setCell (p := ⟨w.heap.size, 2, none⟩) (Nat.le_refl _) (.slice a7 n7 c7))
        have O8 := Lib.hid (og_rdw (og_move (w' := w7.setCell ⟨w.heap.size, 2, none⟩ (.slice a7 n7 c7)) HO7.out fun b hb _ => heap_setCell_other _ _ _ _ (by
          show b ≠ w.heap.size
          have h1 := SZ3.out
          have h2 := SZ6.out
          rcases hb with hb | hb
          · omega
          · have := (og_lt HO7.out _ hb).1
            omega)))
        go_simp
        refine hK _ _ ?_
        clear hK K z2 x0 x1 x2
        refine wpAny_done (by kernel_rfl) ?_ _
        generalize HEQ8 : w7.setCell ⟨w.heap.size, 2, none⟩ (.slice a7 n7 c7) = W8 at *
        obtain ⟨x0, x1, x2⟩ := box3c HX8.out
        obtain ⟨y0, y1, y2⟩ := box3c HY8.out
        have u0 := frozen_of_row W8 (w.heap.size + 1) 0 _ _ HY8.out
        have u1 := frozen_of_row W8 (w.heap.size + 1) 1 _ _ HY8.out
        have u2 := frozen_of_row W8 (w.heap.size + 1) 2 _ _ HY8.out
        clear hw1
        have HV8 := Lib.hid (show DvB (fun b => b < w.heap.size ∨ w3.heap.size ≤ b) W8 (.agg #[.int .i64 ncap, .int .i64 nleft, .slice a7 n7 c7]) (ncap, nleft, L.take i ++ L.drop (i + 1)) from ⟨_, rfl, HNX.out.1, rd_mono O8.out fun b hb _ => (by
          have h1 := SZ6.out
          rcases hb with hb | hb
          · rcases hb.1 with hb | hb
            · exact Or.inl hb.1
            · exact Or.inr (by omega)
          · exact Or.inr (by omega))⟩)
        have HF8 := Lib.hid (show Rd (fun b => b < w.heap.size ∨ w3.heap.size ≤ b) W8 tyF [.string t, .slice ab nb cb, .slice ap np cp] (t, f0.2.1, f0.2.2) from rd_f_mk (x := (t, f0.2.1, f0.2.2)) ht (rd_mono (rd_below HBV.out B8.out) fun b hb _ => Or.inl hb.2) (rd_mono (rd_below HPV.out B8.out) fun b hb _ => Or.inl hb.2))
        have RAD := Lib.hid (radded_any _ _ (t, f0.2.1, f0.2.2) _ _ W8 HV8.out HF8.out (by have h1 := HLEN.out; have h2 := HI1.out; simp only [List.length_append, List.length_take, List.length_drop]; omega))
        have HZ8 := Lib.hid ((other1 (W := w7) (g := w.heap.size) (o := 2) (v := .slice a7 n7 c7) (by have := SZ20.out; omega : w2.heap.size ≠ w.heap.size)).trans ((BL7.out.block _ (lt_of_some0 HZ6.out)).trans HZ6.out))
        rw [HEQ8] at HZ8
        clear y0 y1 y2 u0 u1 u2 k0 k1 k2
        obtain ⟨y0, y1, y2⟩ := box3c HZ8.out
        go_wp2_with fail
        refine RAD.out.mono ?_
        rintro e w9 ⟨⟨v9, rfl, hv9⟩, hb9⟩
        obtain ⟨f9, rfl, hr9, hl9⟩ := hv9
        dsimp only at hr9 hl9 ⊢
        obtain ⟨a9, c9, rfl, -, -⟩ := rd_sl hl9
        obtain ⟨n9, hn9⟩ : ∃ z, z = (addedL (L.take i ++ L.drop (i + 1)) (t, f0.2.1, f0.2.2)).length := ⟨_, rfl⟩
        rw [← hn9] at hl9 ⊢
        have RD9 := Lib.hid hl9
        have HR9 := Lib.hid hr9
        have HY9 := Lib.hid ((hb9.block _ (lt_of_some0 HY8.out)).trans HY8.out)
        have B9 := Lib.hid (btA B8.out hb9)
        have SZ8 := Lib.hid (show w3.heap.size ≤ W8.heap.size from by have h1 := BL7.out.size; have h2 := SZ6.out; rw [← HEQ8]; simp; omega)
        clear hl9 hb9 hr9 hn9 x0 x1 x2 y0 y1 y2
        obtain ⟨y0, y1, y2⟩ := box3c HY9.out
        have u0 := frozen_of_row w9 (w.heap.size + 1) 0 _ _ HY9.out
        have u1 := frozen_of_row w9 (w.heap.size + 1) 1 _ _ HY9.out
        have u2 := frozen_of_row w9 (w.heap.size + 1) 2 _ _ HY9.out
        go_wp2
        refine rdisk_end rfl (set3c HY9.out) rfl ?_
        rw [HD.out]
        refine ⟨⟨_, rfl, _, rfl, HR9.out, rd_move (fun b hb _ => set3_other ?_) (fun b hb _ => ?_) RD9.out⟩, below_set3 B9.out (by omega)⟩
        · have h1 := SZ3.out; have h2 := SZ8.out; omega
        · have h1 := SZ3.out; have h2 := SZ8.out; omega


    · go_simp
      refine hK _ _ ?_
      clear hK K
      refine wpAny_take (i := 10) (v := VT) rfl (by kernel_rfl) (by kernel_rfl) (by kernel_rfl) (fun _ _ _ h => h) (Or.inl ⟨by rfl, fun wx => by rw [HVT.out]; exact exec_tail lsF rfl rfl (by have := HI1.out; omega)⟩) ?_
      refine wpAny_ready (rs := [0, 2]) (by kernel_rfl) (by simp) ?_
      refine AllReady.cons rfl (fun K hK => ?_) (AllReady.cons rfl (fun K hK => ?_) (AllReady.nil))
      · go_simp
        refine hK _ _ ?_
        clear hK K
        replace x0 := (BLA.out.cell (block_lt_of_cell k0)).trans k0
        replace x1 := (BLA.out.cell (block_lt_of_cell k1)).trans k1
        replace x2 := (BLA.out.cell (block_lt_of_cell k2)).trans k2
        refine wpAny_ready (rs := [2]) (by kernel_rfl) (by simp) ?_
        refine AllReady.cons rfl (fun K hK => ?_) (AllReady.nil)
        go_simp
        refine hK _ _ ?_
        clear hK K
        refine wpAny_take (i := 4) (v := .slice a5 i c5) rfl (by kernel_rfl) (by kernel_rfl) (by kernel_rfl) (fun _ _ _ h => h) (Or.inl ⟨by rfl, fun wx => exec_head lsF rfl rfl HC5.out (by have := HI1.out; omega)⟩) ?_
        refine wpAny_ready (rs := [5]) (by kernel_rfl) (by simp) ?_
        refine AllReady.cons rfl (fun K hK => ?_) (AllReady.nil)
        refine wp_app_g lsF ?_ ?_ OEX.out (RH.out _ BLA.out) (by have h1 := HLEN.out; have h2 := HI1.out; simp only [List.length_nil, List.length_take]; omega) (by have h1 := BLA.out.size; omega) ?_
        exact rfl
        exact rfl
        intro v6 w6 ho6 hg6 hat6
        rw [List.nil_append] at ho6
        have BL6 := Lib.hid (below_grownG BLA.out hg6 OEX.out BLA.out.size (Nat.le_refl _))
        obtain ⟨a6, c6, rfl, -, -⟩ := og_form ho6
        obtain ⟨n6, hn6⟩ : ∃ z, z = (L.take i).length := ⟨_, rfl⟩
        rw [← hn6] at ho6 ⊢
        have HN6 := Lib.hid hn6
        have HO6 := Lib.hid ho6
        clear ho6 hg6 hat6 hn6
        replace x0 := (BL6.out.cell (block_lt_of_cell k0)).trans k0
        replace x1 := (BL6.out.cell (block_lt_of_cell k1)).trans k1
        replace x2 := (BL6.out.cell (block_lt_of_cell k2)).trans k2
        refine hK _ _ ?_
        clear hK K
        refine wpAny_ready (rs := [11]) (by kernel_rfl) (by simp) ?_
        refine AllReady.cons rfl (fun K hK => ?_) (AllReady.nil)
        refine wp_app_g lsF ?_ ?_ HO6.out (RT.out _ _ _ BL6.out HO6.out) (by have h1 := HLEN.out; have h2 := HI1.out; simp only [List.length_take, List.length_drop]; omega) (by have h1 := BL6.out.size; omega) ?_
        exact rfl
        exact rfl
        intro v7 w7 ho7 hg7 hat7
        have BL7 := Lib.hid (below_grownG BL6.out hg7 HO6.out BL6.out.size (Nat.le_refl _))
        obtain ⟨a7, c7, rfl, -, -⟩ := og_form ho7
        obtain ⟨n7, hn7⟩ : ∃ z, z = (L.take i ++ L.drop (i + 1)).length := ⟨_, rfl⟩
        rw [← hn7] at ho7 ⊢
        have HN7 := Lib.hid hn7
        have HO7 := Lib.hid ho7
        clear ho7 hg7 hat7 hn7
        refine hK _ _ ?_
        clear hK K
        refine wpAny_ready (rs := [12]) (by kernel_rfl) (by simp) ?_
        refine AllReady.cons rfl (fun K hK => ?_) AllReady.nil
        go_simp
        refine hK _ _ ?_
        clear hK K
        refine wpAny_ready (rs := [13]) (by kernel_rfl) (by simp) ?_
        refine AllReady.cons rfl (fun K hK => ?_) AllReady.nil
        have HX7 := Lib.hid ((BL7.out.block _ (lt_of_some0 HX6.out)).trans HX6.out)
        have HY7 := Lib.hid ((BL7.out.block _ (lt_of_some0 HY6.out)).trans HY6.out)
        have z2 := frozen_of_row _ w.heap.size 2 _ _ HX7.out
        clear x0 x1 x2
        obtain ⟨x0, x1, x2⟩ := box3c HX7.out
        have HX8 := Lib.hid (show (w7.setCell ⟨w.heap.size, 2, none⟩ (.slice a7 n7 c7)).heap[w.heap.size]? = some (.cells #[.int .i64 ncap, .int .i64 nleft, .slice a7 n7 c7] 24 (0, 0)) from (by simpa using heap_setCell_same w7 w.heap.size 2 _ _ (.slice a7 n7 c7) HX7.out))
        have HY8 := Lib.hid ((other1 (W := w7) (g := w.heap.size) (o := 2) (v := .slice a7 n7 c7) (by omega : w.heap.size + 1 ≠ w.heap.size)).trans HY7.out)
        have B8 := Lib.hid ((B6.out.trans (BL7.out.mono B6.out.size)).setCell (p := ⟨w.heap.size, 2, none⟩) (Nat.le_refl _) (.slice a7 n7 c7))
        have O8 := Lib.hid (og_rdw (og_move (w' := w7.setCell ⟨w.heap.size, 2, none⟩ (.slice a7 n7 c7)) HO7.out fun b hb _ => heap_setCell_other _ _ _ _ (by
          show b ≠ w.heap.size
          have h1 := SZ3.out
          have h2 := SZ6.out
          rcases hb with hb | hb
          · omega
          · have := (og_lt HO7.out _ hb).1
            omega)))
        go_simp
        refine hK _ _ ?_
        clear hK K z2 x0 x1 x2
        refine wpAny_done (by kernel_rfl) ?_ _
        generalize HEQ8 : w7.setCell ⟨w.heap.size, 2, none⟩ (.slice a7 n7 c7) = W8 at *
        obtain ⟨x0, x1, x2⟩ := box3c HX8.out
        obtain ⟨y0, y1, y2⟩ := box3c HY8.out
        have u0 := frozen_of_row W8 (w.heap.size + 1) 0 _ _ HY8.out
        have u1 := frozen_of_row W8 (w.heap.size + 1) 1 _ _ HY8.out
        have u2 := frozen_of_row W8 (w.heap.size + 1) 2 _ _ HY8.out
        clear hw1
        have HV8 := Lib.hid (show DvB (fun b => b < w.heap.size ∨ w3.heap.size ≤ b) W8 (.agg #[.int .i64 ncap, .int .i64 nleft, .slice a7 n7 c7]) (ncap, nleft, L.take i ++ L.drop (i + 1)) from ⟨_, rfl, HNX.out.1, rd_mono O8.out fun b hb _ => (by
          have h1 := SZ6.out
          rcases hb with hb | hb
          · rcases hb.1 with hb | hb
            · exact Or.inl hb.1
            · exact Or.inr (by omega)
          · exact Or.inr (by omega))⟩)
        have HF8 := Lib.hid (show Rd (fun b => b < w.heap.size ∨ w3.heap.size ≤ b) W8 tyF [.string t, .slice ab nb cb, .slice ap np cp] (t, f0.2.1, f0.2.2) from rd_f_mk (x := (t, f0.2.1, f0.2.2)) ht (rd_mono (rd_below HBV.out B8.out) fun b hb _ => Or.inl hb.2) (rd_mono (rd_below HPV.out B8.out) fun b hb _ => Or.inl hb.2))
        have RAD := Lib.hid (radded_any _ _ (t, f0.2.1, f0.2.2) _ _ W8 HV8.out HF8.out (by have h1 := HLEN.out; have h2 := HI1.out; simp only [List.length_append, List.length_take, List.length_drop]; omega))
        have HZ8 := Lib.hid ((other1 (W := w7) (g := w.heap.size) (o := 2) (v := .slice a7 n7 c7) (by have := SZ20.out; omega : w2.heap.size ≠ w.heap.size)).trans ((BL7.out.block _ (lt_of_some0 HZ6.out)).trans HZ6.out))
        rw [HEQ8] at HZ8
        clear y0 y1 y2 u0 u1 u2 k0 k1 k2
        obtain ⟨y0, y1, y2⟩ := box3c HZ8.out
        go_wp2_with fail
        refine RAD.out.mono ?_
        rintro e w9 ⟨⟨v9, rfl, hv9⟩, hb9⟩
        obtain ⟨f9, rfl, hr9, hl9⟩ := hv9
        dsimp only at hr9 hl9 ⊢
        obtain ⟨a9, c9, rfl, -, -⟩ := rd_sl hl9
        obtain ⟨n9, hn9⟩ : ∃ z, z = (addedL (L.take i ++ L.drop (i + 1)) (t, f0.2.1, f0.2.2)).length := ⟨_, rfl⟩
        rw [← hn9] at hl9 ⊢
        have RD9 := Lib.hid hl9
        have HR9 := Lib.hid hr9
        have HY9 := Lib.hid ((hb9.block _ (lt_of_some0 HY8.out)).trans HY8.out)
        have B9 := Lib.hid (btA B8.out hb9)
        have SZ8 := Lib.hid (show w3.heap.size ≤ W8.heap.size from by have h1 := BL7.out.size; have h2 := SZ6.out; rw [← HEQ8]; simp; omega)
        clear hl9 hb9 hr9 hn9 x0 x1 x2 y0 y1 y2
        obtain ⟨y0, y1, y2⟩ := box3c HY9.out
        have u0 := frozen_of_row w9 (w.heap.size + 1) 0 _ _ HY9.out
        have u1 := frozen_of_row w9 (w.heap.size + 1) 1 _ _ HY9.out
        have u2 := frozen_of_row w9 (w.heap.size + 1) 2 _ _ HY9.out
        go_wp2
        refine rdisk_end rfl (set3c HY9.out) rfl ?_
        rw [HD.out]
        refine ⟨⟨_, rfl, _, rfl, HR9.out, rd_move (fun b hb _ => set3_other ?_) (fun b hb _ => ?_) RD9.out⟩, below_set3 B9.out (by omega)⟩
        · have h1 := SZ3.out; have h2 := SZ8.out; omega
        · have h1 := SZ3.out; have h2 := SZ8.out; omega

      · go_simp
        refine hK _ _ ?_
        clear hK K
        refine wpAny_take (i := 4) (v := .slice a5 i c5) rfl (by kernel_rfl) (by kernel_rfl) (by kernel_rfl) (fun _ _ _ h => h) (Or.inl ⟨by rfl, fun wx => exec_head lsF rfl rfl HC5.out (by have := HI1.out; omega)⟩) ?_
        refine wpAny_ready (rs := [0]) (by kernel_rfl) (by simp) ?_
        refine AllReady.cons rfl (fun K hK => ?_) (AllReady.nil)
        go_simp
        refine hK _ _ ?_
        clear hK K
        replace x0 := (BLA.out.cell (block_lt_of_cell k0)).trans k0
        replace x1 := (BLA.out.cell (block_lt_of_cell k1)).trans k1
        replace x2 := (BLA.out.cell (block_lt_of_cell k2)).trans k2
        refine wpAny_ready (rs := [5]) (by kernel_rfl) (by simp) ?_
        refine AllReady.cons rfl (fun K hK => ?_) (AllReady.nil)
        refine wp_app_g lsF ?_ ?_ OEX.out (RH.out _ BLA.out) (by have h1 := HLEN.out; have h2 := HI1.out; simp only [List.length_nil, List.length_take]; omega) (by have h1 := BLA.out.size; omega) ?_
        exact rfl
        exact rfl
        intro v6 w6 ho6 hg6 hat6
        rw [List.nil_append] at ho6
        have BL6 := Lib.hid (below_grownG BLA.out hg6 OEX.out BLA.out.size (Nat.le_refl _))
        obtain ⟨a6, c6, rfl, -, -⟩ := og_form ho6
        obtain ⟨n6, hn6⟩ : ∃ z, z = (L.take i).length := ⟨_, rfl⟩
        rw [← hn6] at ho6 ⊢
        have HN6 := Lib.hid hn6
        have HO6 := Lib.hid ho6
        clear ho6 hg6 hat6 hn6
        replace x0 := (BL6.out.cell (block_lt_of_cell k0)).trans k0
        replace x1 := (BL6.out.cell (block_lt_of_cell k1)).trans k1
        replace x2 := (BL6.out.cell (block_lt_of_cell k2)).trans k2
        refine hK _ _ ?_
        clear hK K
        refine wpAny_ready (rs := [11]) (by kernel_rfl) (by simp) ?_
        refine AllReady.cons rfl (fun K hK => ?_) (AllReady.nil)
        refine wp_app_g lsF ?_ ?_ HO6.out (RT.out _ _ _ BL6.out HO6.out) (by have h1 := HLEN.out; have h2 := HI1.out; simp only [List.length_take, List.length_drop]; omega) (by have h1 := BL6.out.size; omega) ?_
        exact rfl
        exact rfl
        intro v7 w7 ho7 hg7 hat7
        have BL7 := Lib.hid (below_grownG BL6.out hg7 HO6.out BL6.out.size (Nat.le_refl _))
        obtain ⟨a7, c7, rfl, -, -⟩ := og_form ho7
        obtain ⟨n7, hn7⟩ : ∃ z, z = (L.take i ++ L.drop (i + 1)).length := ⟨_, rfl⟩
        rw [← hn7] at ho7 ⊢
        have HN7 := Lib.hid hn7
        have HO7 := Lib.hid ho7
        clear ho7 hg7 hat7 hn7
        refine hK _ _ ?_
        clear hK K
        refine wpAny_ready (rs := [12]) (by kernel_rfl) (by simp) ?_
        refine AllReady.cons rfl (fun K hK => ?_) AllReady.nil
        go_simp
        refine hK _ _ ?_
        clear hK K
        refine wpAny_ready (rs := [13]) (by kernel_rfl) (by simp) ?_
        refine AllReady.cons rfl (fun K hK => ?_) AllReady.nil
        have HX7 := Lib.hid ((BL7.out.block _ (lt_of_some0 HX6.out)).trans HX6.out)
        have HY7 := Lib.hid ((BL7.out.block _ (lt_of_some0 HY6.out)).trans HY6.out)
        have z2 := frozen_of_row _ w.heap.size 2 _ _ HX7.out
        clear x0 x1 x2
        obtain ⟨x0, x1, x2⟩ := box3c HX7.out
        have HX8 := Lib.hid (show (w7.setCell ⟨w.heap.size, 2, none⟩ (.slice a7 n7 c7)).heap[w.heap.size]? = some (.cells #[.int .i64 ncap, .int .i64 nleft, .slice a7 n7 c7] 24 (0, 0)) from (by simpa using heap_setCell_same w7 w.heap.size 2 _ _ (.slice a7 n7 c7) HX7.out))
        have HY8 := Lib.hid ((other1 (W := w7) (g := w.heap.size) (o := 2) (v := .slice a7 n7 c7) (by omega : w.heap.size + 1 ≠ w.heap.size)).trans HY7.out)
        have B8 := Lib.hid ((B6.out.trans (BL7.out.mono B6.out.size)).setCell (p := ⟨w.heap.size, 2, none⟩) (Nat.le_refl _) (.slice a7 n7 c7))
        have O8 := Lib.hid (og_rdw (og_move (w' := w7.setCell ⟨w.heap.size, 2, none⟩ (.slice a7 n7 c7)) HO7.out fun b hb _ => heap_setCell_other _ _ _ _ (by
          show b ≠ w.heap.size
          have h1 := SZ3.out
          have h2 := SZ6.out
          rcases hb with hb | hb
          · omega
          · have := (og_lt HO7.out _ hb).1
            omega)))
        go_simp
        refine hK _ _ ?_
        clear hK K z2 x0 x1 x2
        refine wpAny_done (by kernel_rfl) ?_ _
        generalize HEQ8 : w7.setCell ⟨w.heap.size, 2, none⟩ (.slice a7 n7 c7) = W8 at *
        obtain ⟨x0, x1, x2⟩ := box3c HX8.out
        obtain ⟨y0, y1, y2⟩ := box3c HY8.out
        have u0 := frozen_of_row W8 (w.heap.size + 1) 0 _ _ HY8.out
        have u1 := frozen_of_row W8 (w.heap.size + 1) 1 _ _ HY8.out
        have u2 := frozen_of_row W8 (w.heap.size + 1) 2 _ _ HY8.out
        clear hw1
        have HV8 := Lib.hid (show DvB (fun b => b < w.heap.size ∨ w3.heap.size ≤ b) W8 (.agg #[.int .i64 ncap, .int .i64 nleft, .slice a7 n7 c7]) (ncap, nleft, L.take i ++ L.drop (i + 1)) from ⟨_, rfl, HNX.out.1, rd_mono O8.out fun b hb _ => (by
          have h1 := SZ6.out
          rcases hb with hb | hb
          · rcases hb.1 with hb | hb
            · exact Or.inl hb.1
            · exact Or.inr (by omega)
          · exact Or.inr (by omega))⟩)
        have HF8 := Lib.hid (show Rd (fun b => b < w.heap.size ∨ w3.heap.size ≤ b) W8 tyF [.string t, .slice ab nb cb, .slice ap np cp] (t, f0.2.1, f0.2.2) from rd_f_mk (x := (t, f0.2.1, f0.2.2)) ht (rd_mono (rd_below HBV.out B8.out) fun b hb _ => Or.inl hb.2) (rd_mono (rd_below HPV.out B8.out) fun b hb _ => Or.inl hb.2))
        have RAD := Lib.hid (radded_any _ _ (t, f0.2.1, f0.2.2) _ _ W8 HV8.out HF8.out (by have h1 := HLEN.out; have h2 := HI1.out; simp only [List.length_append, List.length_take, List.length_drop]; omega))
        have HZ8 := Lib.hid ((other1 (W := w7) (g := w.heap.size) (o := 2) (v := .slice a7 n7 c7) (by have := SZ20.out; omega : w2.heap.size ≠ w.heap.size)).trans ((BL7.out.block _ (lt_of_some0 HZ6.out)).trans HZ6.out))
        rw [HEQ8] at HZ8
        clear y0 y1 y2 u0 u1 u2 k0 k1 k2
        obtain ⟨y0, y1, y2⟩ := box3c HZ8.out
        go_wp2_with fail
        refine RAD.out.mono ?_
        rintro e w9 ⟨⟨v9, rfl, hv9⟩, hb9⟩
        obtain ⟨f9, rfl, hr9, hl9⟩ := hv9
        dsimp only at hr9 hl9 ⊢
        obtain ⟨a9, c9, rfl, -, -⟩ := rd_sl hl9
        obtain ⟨n9, hn9⟩ : ∃ z, z = (addedL (L.take i ++ L.drop (i + 1)) (t, f0.2.1, f0.2.2)).length := ⟨_, rfl⟩
        rw [← hn9] at hl9 ⊢
        have RD9 := Lib.hid hl9
        have HR9 := Lib.hid hr9
        have HY9 := Lib.hid ((hb9.block _ (lt_of_some0 HY8.out)).trans HY8.out)
        have B9 := Lib.hid (btA B8.out hb9)
        have SZ8 := Lib.hid (show w3.heap.size ≤ W8.heap.size from by have h1 := BL7.out.size; have h2 := SZ6.out; rw [← HEQ8]; simp; omega)
        clear hl9 hb9 hr9 hn9 x0 x1 x2 y0 y1 y2
        obtain ⟨y0, y1, y2⟩ := box3c HY9.out
        have u0 := frozen_of_row w9 (w.heap.size + 1) 0 _ _ HY9.out
        have u1 := frozen_of_row w9 (w.heap.size + 1) 1 _ _ HY9.out
        have u2 := frozen_of_row w9 (w.heap.size + 1) 2 _ _ HY9.out
        go_wp2
        refine rdisk_end rfl (set3c HY9.out) rfl ?_
        rw [HD.out]
        refine ⟨⟨_, rfl, _, rfl, HR9.out, rd_move (fun b hb _ => set3_other ?_) (fun b hb _ => ?_) RD9.out⟩, below_set3 B9.out (by omega)⟩
        · have h1 := SZ3.out; have h2 := SZ8.out; omega
        · have h1 := SZ3.out; have h2 := SZ8.out; omega


  · rw [if_neg hE0] at HD
    have e1 : ((RE : Int) != 0) = true := by rw [bne_iff_ne]; omega
    obtain ⟨y0, y1, y2⟩ := box3c HY2.out
    have u0 := frozen_of_row w2 (w.heap.size + 1) 0 _ _ HY2.out
    have u1 := frozen_of_row w2 (w.heap.size + 1) 1 _ _ HY2.out
    have u2 := frozen_of_row w2 (w.heap.size + 1) 2 _ _ HY2.out
    clear hE0 OK
    go_wp2
    refine rdisk_end rfl (set3c HY2.out) rfl ?_
    rw [HD.out]
    exact de_zero (below_set3 B2.out (by omega))
end Go.Proofs.Ytpipgbjkkiheaaa.Gf
