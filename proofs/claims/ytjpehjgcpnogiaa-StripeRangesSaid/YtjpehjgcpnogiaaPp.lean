/- What is proved here: the contract of the program's Pieces. No condition. -/
import Derived.Test.YtjpehjgcpnogiaaBk
import Derived.Shelf.Abstract
namespace Go.Proofs.Ytjpehjgcpnogiaa.Gf
open Go Go.Joins Go.ChangeShapes Go.WideShapes Go.ChangeAt Go.RowKit Go.Deep Go.Proofs.Ytjpehjgcpnogiaa.By Go.Proofs.Ytjpehjgcpnogiaa.Rd

attribute [local go_sem] Oper.semAt_some

theorem infoPP : (Try.prog.info? 47).map (fun i => (i.zero, i.size, i.bytes)) = some (some (.agg #[.int .i64 0, .int .i64 0, .int .i64 0]), 3, 24) := by kernel_rfl
theorem app3In {F : Fence} {l m : Nat} {S E : TypeId} {z0 : Value} {bytes : Nat} (hro : F.round = some l) (hS : Try.prog.underlying S = some (.slice E)) (hI : (Try.prog.info? E).map (fun i => (i.zero, i.size, i.bytes)) = some (some z0, 3, bytes)) (hz : z0.cells.size = 3) (hby : bytes ≤ 1000)
    {ops : Array Oper} {rest : List Oper} {dst : Option Tmp} {s x : Operand} {pos : String} {after : Array Edge} {ty : TypeId} {a : Act} {W : World} {Q : Exit → Act → World → Prop}
    {base n g : Nat} {v u1 u2 u3 : Value} {xs : List Value} {fr : Nat × Nat} (hs : a.eval s = v) (hy : a.eval x = .slice (some ⟨g, 0, none⟩) 1 1) (hv : W.ownsRow base E 3 v n xs) (hg : W.heap[g]? = some (.cells #[u1, u2, u3] E fr)) (hu : u1.oneCell' = true ∧ u2.oneCell' = true ∧ u3.oneCell' = true) (hn : n ≤ 2000000) (hb : base ≤ W.heap.size)
    (h : ∀ v' w', w'.ownsRow base E 3 v' (n + 1) (xs ++ [u1, u2, u3]) → W.grownBy w' v.ownBlock → wpListIn F m Try.prog ops Q rest (a.put dst v') w') : wpListIn F m Try.prog ops Q (⟨dst, .call { callee := .builtin .append, args := #[s, x], argTypes := #[S, S] }, ty, pos, after, none⟩ :: rest) a W := by
  refine wpListIn_plain rfl fun _ hK => ?_
  obtain ⟨v', w', hr, h2, h3⟩ := run_app3 hS hI hz ty hv hg hu hn hby hb
  unfold Oper.wpIn
  rw [hro, Oper.semAt_some l a.eval _ (fun c e => by cases e)]
  unfold execOp
  refine ⟨fun f hf => by simp [Oper.about, Target.leads, resolve] at hf, ?_⟩
  simp only [resolve, invoke, builtin, Sem.run_bind, Sem.run_pure, Result.andThen_ok, List.map_toArray, List.map_cons, List.map_nil, hs, hy, hr]
  exact hK _ _ (h v' w' h2 h3)
def prtP {o m : Nat} (x : Pz o m) : Nat × Nat × Nat := prt x.1
theorem prts {o m : Nat} {ys : List (Pz o m)} (h : valsP ys = blkL o m) : ys.map prtP = piecesL o m := by
  rw [← blk_pieces m o, ← h]
  unfold valsP
  rw [List.map_map]
  rfl
set_option maxRecDepth 100000 in
set_option maxHeartbeats 6400000 in
theorem ppieces_ok (o m : Nat) (w : World) (ho : o ≤ 4611686018427387904) (hm : m ≤ 1048576) : Calls Try.prog 21 #[.int .i64 (o : Int), .int .i64 (m : Int)] w fun e w' => (∃ v, e = .returned (.tuple #[v, .int .i64 0]) ∧ Sp w' v (piecesL o m)) ∧ Below w.heap.size w w' := by
  have g1 : decide ((o : Int) < 0) = false := decide_eq_false (by omega)
  have g2 : decide ((4611686018427387904 : Int) < (o : Int)) = false := decide_eq_false (by omega)
  have g3 : decide ((m : Int) < 0) = false := decide_eq_false (by omega)
  have g4 : decide ((1048576 : Int) < (m : Int)) = false := decide_eq_false (by omega)
  refine (callsIn_wide (n := 5)).1 ?_
  refine callsIn_of_wp_marks Try.func21 rfl trivial ?_ rfl
  simp only [Try.ntmps21, List.size_toArray, List.length_cons, List.length_nil, Nat.reduceAdd, Nat.reduceSub, Array.replicate_succ, Array.replicate_zero, List.push_toArray, List.append_toArray, List.nil_append, List.cons_append]
  refine wpIn_wide.2 ?_
  go_wp2_with (go_at_call 23; refine (blocks_any _ _ _).mono ?_; rintro e w' ⟨rfl, rfl⟩)
  have bO := Boxed.new w 40 (.slice none 0 0)
  have b1 := Boxed.new (w.alloc (.cells #[.slice none 0 0] 40)) 2 (.int .i64 (o : Int))
  have b2 := Boxed.new ((w.alloc (.cells #[.slice none 0 0] 40)).alloc (.cells #[.int .i64 (o : Int)] 2)) 2 (.int .i64 (m : Int))
  have bO := (bO.alloc (.cells #[.int .i64 (o : Int)] 2)).alloc (.cells #[.int .i64 (m : Int)] 2)
  have b1 := b1.alloc (.cells #[.int .i64 (m : Int)] 2)
  have hB0 := (((Below.refl _ w).alloc (Nat.le_refl _) (.cells #[.slice none 0 0] 40)).alloc (by simp) (.cells #[.int .i64 (o : Int)] 2)).alloc (by simp; omega) (.cells #[.int .i64 (m : Int)] 2)
  simp only [World.size_alloc] at b1 b2
  have hsz : (((w.alloc (.cells #[.slice none 0 0] 40)).alloc (.cells #[.int .i64 (o : Int)] 2)).alloc (.cells #[.int .i64 (m : Int)] 2)).heap.size = w.heap.size + 3 := by simp
  generalize ((w.alloc (.cells #[.slice none 0 0] 40)).alloc (.cells #[.int .i64 (o : Int)] 2)).alloc (.cells #[.int .i64 (m : Int)] 2) = W0 at *
  refine (wpIn_wide (n := 5)).1 ?_
  refine wpIn_rangeFunc_ownH rfl (by omega) (gf := 24) (lb := #[.pointer (some ⟨w.heap.size + 1, 0, none⟩), .pointer (some ⟨w.heap.size + 1 + 1, 0, none⟩)]) rfl trivial (enters_of Try.func24 (by kernel_rfl) rfl)
    (blocks_stops (w.heap.size + 1) (w.heap.size + 1 + 1) o m (5 - 1) (by omega) (by omega) W0 (by omega) (by omega) b1.cell b2.cell) (fun _ _ => trivial) (fun _ _ _ _ _ _ _ _ => trivial) (Below.refl _ _) (fun _ => rfl)
    (fun (pre : List (Pz o m)) W => (∃ v, Boxed W w.heap.size 40 v ∧ W.ownsRow w.heap.size 47 3 v pre.length (cellsP (pre.map prtP)) ∧ True) ∧ Below w.heap.size w W)
    (fun _ _ _ => False)
    (OwnFrom.and (Own.from (holdsRow_own w.heap.size w.heap.size 40 47 3 (fun (pre : List (Pz o m)) => pre.length) (fun (pre : List (Pz o m)) => cellsP (pre.map prtP)) (fun _ _ => True)) _) (ownFrom_below (Nat.le_refl _) (by omega)))
    (fun _ _ _ _ _ hs _ _ => hs)
    ⟨⟨_, bO, World.ownsRow_nil _ _ _ _, trivial⟩, hB0⟩
    (fun (x : Pz o m) a' W => ∃ Bx, w.heap.size < Bx ∧ W.heap[Bx]? = some (.cells #[.int .i64 ((shOf x.1.1 : Nat) : Int), .int .i64 ((atOf x.1.1 : Nat) : Int), .int .i64 (x.1.2 : Int)] 47 (0, 0)) ∧ a' = { tmps := #[.int .i64 (o : Int), .int .i64 (m : Int), undef, undef, .slice none 0 0, .int .i64 0, .pointer (some ⟨w.heap.size, 0, none⟩), undef, .pointer (some ⟨Bx, 0, none⟩), .int .i64 (o : Int), .bool false, .bool false, .int .i64 (o : Int), .bool false, .bool false, .bool false, .int .i64 (m : Int), .bool false, .bool false, .bool false, .int .i64 (m : Int), .bool false, .bool false, .int .i64 (o : Int), .int .i64 (m : Int), .func (.func 24) #[] #[.pointer (some ⟨w.heap.size + 1, 0, none⟩), .pointer (some ⟨w.heap.size + 1 + 1, 0, none⟩)], .int .i64 (x.1.1 : Int), .agg #[.int .i64 ((shOf x.1.1 : Nat) : Int), .int .i64 ((atOf x.1.1 : Nat) : Int), .int .i64 (x.1.2 : Int)], undef, undef, undef, undef, undef], defers := [] })
    (fun x a' _ X Y row hs hg hr => by
      obtain ⟨Bx, h1, h2, h3⟩ := hs
      refine ⟨Bx, h1, (hg.block Bx (Array.getElem?_eq_some_iff.1 h2).1 fun e => ?_).trans h2, h3⟩
      obtain ⟨_, ob, ho2, hc⟩ := hr Bx e.symm
      rw [h2] at ho2
      cases ho2
      cases hc)
    ?assign ?body ?done ?stop
  case assign =>
    rintro l pre x W K ⟨⟨v, hv, hr, -⟩, hB⟩ hK
    unfold encP
    gi_wp2
    exact hK _ _ ((KeepsOthers.alloc _ _).from _) trivial ⟨⟨v, hv.alloc _, hr.alloc _, trivial⟩, hB.alloc hB.size _⟩ ⟨W.heap.size, hv.lt, heap_alloc_new _ _, rfl⟩
  case body =>
    rintro l pre x a' W _ _ ⟨⟨v, hv, hr, -⟩, hB⟩ ⟨Bx, hBx, hX, rfl⟩ hlt
    obtain ⟨va, vc, rfl⟩ := ownsRow_form3 hr
    have hc := hv.cell
    have x0 := cell_of_row W Bx 0 _ _ _ hX
    have x1 := cell_of_row W Bx 1 _ _ _ hX
    have x2 := cell_of_row W Bx 2 _ _ _ hX
    have hlen : (pre.map prtP).length = pre.length := List.length_map _
    have hsn : cellsP ((pre ++ [x]).map prtP) = cellsP (pre.map prtP) ++ [.int .i64 ((shOf x.1.1 : Nat) : Int), .int .i64 ((atOf x.1.1 : Nat) : Int), .int .i64 (x.1.2 : Int)] := by
      rw [List.map_append, List.map_cons, List.map_nil]
      exact cellsP_snoc _ _ _ _
    obtain ⟨PL, hPL⟩ : ∃ n, n = pre.length := ⟨_, rfl⟩
    rw [← hPL] at hv hr hc hlt
    have HR := Lib.hid hr
    have HV := Lib.hid hv
    have HSN := Lib.hid hsn
    have HBB := Lib.hid hB
    have HPL := Lib.hid hPL
    clear hr hv hsn hB hlen hPL hX
    generalize shOf x.1.1 = sh at *
    generalize atOf x.1.1 = at' at *
    generalize x.1.2 = k at *
    gi_wp2_with (refine app3In (dst := some 31) rfl Try.underlying40 infoPP rfl (by decide) ?_ ?_ (HR.out.alloc _) (heap_alloc_new _ _) ⟨rfl, rfl, rfl⟩ (by omega) (by have := HBB.out.size; simp; omega) ?_; exact rfl; exact rfl; intro v3 w3 ho3 hg3; obtain ⟨av, cv, hv3⟩ := ownsRow_form3 ho3; subst hv3; obtain ⟨hv1, hv2, hr2, hk2, hb2⟩ := HV.out.appended (by decide) HR.out HBB.out.size (Nat.le_refl _) ho3 hg3; have hc1 := hv1.cell; have hf1 := hv1.frozen; have H2 := Lib.hid (And.intro hv2 (And.intro hr2 (And.intro hk2 hb2))); clear hv2 hr2 hk2 hb2 ho3 hg3 hv1)
    obtain ⟨hv2, hr2, hk2, hb2⟩ := H2.out
    refine ⟨hk2.from _, trivial, ⟨_, hv2, ?_, trivial⟩, HBB.out.trans hb2⟩
    rw [HSN.out, List.length_append, ← HPL.out]
    exact hr2
  case done =>
    rintro D ys W hD hys ⟨⟨v, hv, hr, -⟩, hB⟩ hK
    obtain ⟨va, vc, rfl⟩ := ownsRow_form3 hr
    have hc := hv.cell
    have hps := prts hys
    have hlen : ys.length = (piecesL o m).length := by rw [← hps, List.length_map]
    obtain ⟨LN, hLN⟩ : ∃ n, n = (piecesL o m).length := ⟨_, rfl⟩
    rw [hps, hlen, ← hLN] at hr
    rw [hlen, ← hLN] at hc
    have HLN := Lib.hid hLN
    have HR := Lib.hid hr
    have HBB := Lib.hid hB
    have HD : Hid (w.heap.size ≤ D) := by show w.heap.size ≤ D; omega
    have HKK := Lib.hid hK
    clear hr hB hps hv hys hD hK hLN hlen
    dsimp only
    go_wp2
    refine ⟨by simp, .inl ⟨_, _, rfl, run_takeDeferred HKK.out, ?_⟩⟩
    refine ⟨_, results_tmp2 rfl _ _ _, ⟨_, rfl, ?_⟩, HBB.out.trans (belowK_b (w := w) (Nat.le_refl _) W D _ _ HD.out HKK.out rfl rfl)⟩
    refine owns_sp (base := w.heap.size) (T := 47) ?_
    rw [← HLN.out]
    exact ownsRow_putObj HR.out _ HKK.out rfl
  case stop =>
    rintro D c pre W _ _ h _
    exact h.elim
set_option maxRecDepth 100000 in
theorem ppieces_any (off n : Int) (w : World) (ho : I64b off) (hn : I64b n) : Calls Try.prog 21 #[.int .i64 off, .int .i64 n] w fun e w' => (∃ v, e = .returned (.tuple #[v, .int .i64 (pcE off n)]) ∧ Sp w' v (pcL off n)) ∧ Below w.heap.size w w' := by
  by_cases hok : PcOk off n
  · unfold pcL pcE
    rw [if_pos hok, if_pos hok]
    obtain ⟨h1, h2, h3, h4⟩ := hok
    obtain ⟨o, rfl⟩ := Int.eq_ofNat_of_zero_le h1
    obtain ⟨m, rfl⟩ := Int.eq_ofNat_of_zero_le h3
    exact ppieces_ok o m w (by omega) (by omega)
  · unfold pcL pcE
    rw [if_neg hok, if_neg hok]
    have fin : ∀ W : World, Sp W (.slice none 0 0) [] := fun W => ⟨by simp, Or.inl ⟨none, 0, rfl, rfl⟩⟩
    by_cases h1 : off < 0
    · have g1 : decide (off < 0) = true := decide_eq_true h1
      clear hok
      go_enter Try.func21, Try.ntmps21
      go_wp2
      go_ret2
      exact ⟨⟨_, rfl, fin _⟩, Below.refl _ _⟩
    have g1 : decide (off < 0) = false := decide_eq_false h1
    by_cases h2 : 4611686018427387904 < off
    · have g2 : decide ((4611686018427387904 : Int) < off) = true := decide_eq_true h2
      clear hok
      go_enter Try.func21, Try.ntmps21
      go_wp2
      go_ret2
      exact ⟨⟨_, rfl, fin _⟩, Below.refl _ _⟩
    have g2 : decide ((4611686018427387904 : Int) < off) = false := decide_eq_false h2
    by_cases h3 : n < 0
    · have g3 : decide (n < 0) = true := decide_eq_true h3
      clear hok
      go_enter Try.func21, Try.ntmps21
      go_wp2
      go_ret2
      exact ⟨⟨_, rfl, fin _⟩, Below.refl _ _⟩
    have g3 : decide (n < 0) = false := decide_eq_false h3
    have h4 : 1048576 < n := by
      unfold PcOk at hok
      omega
    have g4 : decide ((1048576 : Int) < n) = true := decide_eq_true h4
    clear hok
    go_enter Try.func21, Try.ntmps21
    go_wp2
    go_ret2
    exact ⟨⟨_, rfl, fin _⟩, Below.refl _ _⟩
end Go.Proofs.Ytjpehjgcpnogiaa.Gf
