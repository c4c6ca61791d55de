/- What is proved here: lists of pieces, append to them, and the contract of the reference's Pieces. No condition. -/
import Derived.Test.YtjpehjgcpnogiaaV5c
namespace Go.Proofs.Ytjpehjgcpnogiaa.Gf
open Go Go.Joins Go.ChangeShapes Go.WideShapes Go.ChangeAt Go.RowKit Go.Deep Go.Proofs.Ytjpehjgcpnogiaa.By

def cellsP (ps : List (Nat × Nat × Nat)) : List Value := ps.flatMap fun p => [.int .i64 (p.1 : Int), .int .i64 (p.2.1 : Int), .int .i64 (p.2.2 : Int)]
theorem cellsP_snoc (ps : List (Nat × Nat × Nat)) (a b c : Nat) : cellsP (ps ++ [(a, b, c)]) = cellsP ps ++ [.int .i64 (a : Int), .int .i64 (b : Int), .int .i64 (c : Int)] := by simp [cellsP]
/-- append of one struct of three cells. -/
theorem run_app3 {S E : TypeId} {z0 : Value} {bytes : Nat} (hS : Try.prog.underlying S = some (.slice E)) (hI : (Try.prog.info? E).map (fun i => (i.zero, i.size, i.bytes)) = some (some z0, 3, bytes)) (hz : z0.cells.size = 3)
    {W : World} {base n g : Nat} {v u1 u2 u3 : Value} {xs : List Value} {fr : Nat × Nat} (ty : TypeId) (hv : W.ownsRow base E 3 v n xs) (hg : W.heap[g]? = some (.cells #[u1, u2, u3] E fr)) (hu : u1.oneCell' = true ∧ u2.oneCell' = true ∧ u3.oneCell' = true) (hn : n ≤ 2000000) (hby : bytes ≤ 1000) (hb : base ≤ W.heap.size) :
    ∃ v' w', (Builtin.append_ #[S, S] ty #[v, .slice (some ⟨g, 0, none⟩) 1 1]).run Try.prog W = .ok v' w' ∧ w'.ownsRow base E 3 v' (n + 1) (xs ++ [u1, u2, u3]) ∧ W.grownBy w' v.ownBlock := by
  obtain ⟨i, hi, hz0, hz1, hz2⟩ := info_parts hI
  obtain ⟨v', w', hr, ho, hg', _⟩ := run_append_own (P := Try.prog) W base S ty E i z0 3 bytes hS hi hz0 hz1 hz2 hz (by decide) _ _ _ hv ⟨g, 0, none⟩ 1 1 [u1, u2, u3] (by simp) (fun j x hx => by
    rw [add_none, cell_of_row _ _ _ _ _ _ hg]
    match j, hx with
    | 0, hx => simpa using hx
    | 1, hx => simpa using hx
    | 2, hx => simpa using hx
    | k + 3, hx => simp at hx) (by simpa using hu) (by unfold maxLen; omega) (by have := Nat.mul_le_mul (show n + 1 ≤ 2000001 by omega) hby; omega) hb
  exact ⟨v', w', hr, ho, hg'⟩
theorem app3 {S E : TypeId} {z0 : Value} {bytes : Nat} (hS : Try.prog.underlying S = some (.slice E)) (hI : (Try.prog.info? E).map (fun i => (i.zero, i.size, i.bytes)) = some (some z0, 3, bytes)) (hz : z0.cells.size = 3) (hby : bytes ≤ 1000)
    {ops : Array Oper} {rest : List Oper} {dst : Option Tmp} {s x : Operand} {pos : String} {after : Array Edge} {ty : TypeId} {a : Act} {W : World} {Q : Exit → Act → World → Prop}
    {base n g : Nat} {v u1 u2 u3 : Value} {xs : List Value} {fr : Nat × Nat} (hs : a.eval s = v) (hy : a.eval x = .slice (some ⟨g, 0, none⟩) 1 1) (hv : W.ownsRow base E 3 v n xs) (hg : W.heap[g]? = some (.cells #[u1, u2, u3] E fr)) (hu : u1.oneCell' = true ∧ u2.oneCell' = true ∧ u3.oneCell' = true) (hn : n ≤ 2000000) (hb : base ≤ W.heap.size)
    (h : ∀ v' w', w'.ownsRow base E 3 v' (n + 1) (xs ++ [u1, u2, u3]) → W.grownBy w' v.ownBlock → wpList Try.prog ops Q rest (a.put dst v') w') : wpList Try.prog ops Q (⟨dst, .call { callee := .builtin .append, args := #[s, x], argTypes := #[S, S] }, ty, pos, after, none⟩ :: rest) a W := by
  refine wpList_plain rfl fun _ hK => ?_
  obtain ⟨v', w', hr, h2, h3⟩ := run_app3 hS hI hz ty hv hg hu hn hby hb
  unfold Oper.wp execOp
  simp only [resolve, invoke, builtin, Sem.run_bind, Sem.run_pure, Result.andThen_ok, List.map_toArray, List.map_cons, List.map_nil, hs, hy, hr]
  exact hK _ _ (h v' w' h2 h3)
theorem infoRP : (Try.prog.info? 48).map (fun i => (i.zero, i.size, i.bytes)) = some (some (.agg #[.int .i64 0, .int .i64 0, .int .i64 0]), 3, 24) := by kernel_rfl
theorem ownsRow_form3 {w : World} {base n k : Nat} {E : TypeId} {v : Value} {xs : List Value} (h : w.ownsRow base E k v n xs) : ∃ a cap, v = .slice a n cap := by
  obtain ⟨_, ⟨rfl, h0⟩ | ⟨g, cap, _, rfl, _⟩⟩ := h
  · exact ⟨none, 0, by rw [h0]⟩
  · exact ⟨_, cap, rfl⟩
theorem ownsRow_mono3 {w w' : World} {base n k : Nat} {E : TypeId} {v : Value} {xs : List Value} (h : w.ownsRow base E k v n xs) (hB : Below w.heap.size w w') : w'.ownsRow base E k v n xs := by
  obtain ⟨h1, h2 | ⟨g, cap, cur, h3, h4, h5, h6⟩⟩ := h
  · exact ⟨h1, Or.inl h2⟩
  · exact ⟨h1, Or.inr ⟨g, cap, cur, h3, h4, (hB.block _ (lt_of_some h5)).trans h5, h6⟩⟩
def PcOk (off n : Int) : Prop := 0 ≤ off ∧ off ≤ 4611686018427387904 ∧ 0 ≤ n ∧ n ≤ 1048576
instance (off n : Int) : Decidable (PcOk off n) := by unfold PcOk; infer_instance
def pcL (off n : Int) : List (Nat × Nat × Nat) := if PcOk off n then piecesL off.toNat n.toNat else []
def pcE (off n : Int) : Int := if PcOk off n then 0 else 1
/-- A call that answers pieces (of the type T) and an error. -/
def EQ (T : TypeId) (w : World) (ps : List (Nat × Nat × Nat)) (err : Int) (e : Ending) (w' : World) : Prop := (∃ v, e = .returned (.tuple #[v, .int .i64 err]) ∧ w'.ownsRow w.heap.size T 3 v ps.length (cellsP ps)) ∧ Below w.heap.size w w'
set_option maxRecDepth 100000 in
set_option maxHeartbeats 6400000 in
theorem rpieces_any (off n : Int) (w : World) (ho : I64b off) (hn : I64b n) : Calls Try.prog 22 #[.int .i64 off, .int .i64 n] w (EQ 48 w (pcL off n) (pcE off n)) := by
  have RP := Lib.hid (fun (k : Nat) (h : I64b (k : Int)) W => rplace_any (k : Int) W h)
  unfold EQ
  by_cases hok : PcOk off n
  · unfold pcL pcE
    rw [if_pos hok, if_pos hok]
    obtain ⟨h1, h2, h3, h4⟩ := hok
    obtain ⟨o, rfl⟩ := Int.eq_ofNat_of_zero_le h1
    obtain ⟨m, rfl⟩ := Int.eq_ofNat_of_zero_le h3
    rw [Int.toNat_natCast, Int.toNat_natCast]
    have g1 : decide ((o : Int) < 0) = false := decide_eq_false (by omega)
    have g2 : decide ((4611686018427387904 : Int) < (o : Int)) = false := decide_eq_false (by omega)
    have g3 : decide ((m : Int) < 0) = false := decide_eq_false (by omega)
    have g4 : decide ((1048576 : Int) < (m : Int)) = false := decide_eq_false (by omega)
    clear ho hn
    go_enter Try.func22, Try.ntmps22
    go_wp2_with fail
    go_loopw [6, 7] (fun out t wr => ∃ (d : Nat) (ps : List (Nat × Nat × Nat)), d ≤ m ∧ t = .int .i64 (d : Int) ∧ wr.ownsRow w.heap.size 48 3 out ps.length (cellsP ps) ∧ ps ++ piecesL (o + d) (m - d) = piecesL o m ∧ ps.length ≤ d ∧ Below w.heap.size w wr) (fun _ t _ => m - (intOf t).toNat)
    case atStart => exact ⟨0, [], by omega, rfl, ⟨rfl, Or.inl ⟨rfl, rfl⟩⟩, rfl, by simp, Below.refl _ _⟩
    case round =>
      obtain ⟨d, ps, hd, rfl, hO, hps, hpl, hB⟩ := hrel
      obtain ⟨oa, oc, hv⟩ := ownsRow_form3 hO
      obtain ⟨on, hon⟩ : ∃ q, q = ps.length := ⟨_, rfl⟩
      rw [← hon] at hv
      subst hv
      have HON := Lib.hid hon
      have HO := Lib.hid hO
      have HB := Lib.hid hB
      have HPL := Lib.hid hpl
      clear hO hB hon hpl
      by_cases hdm : d < m
      · have hl4 : decide ((d : Int) < (m : Int)) = true := decide_eq_true (by omega)
        have hp := RP.out (o + d) (by unfold I64b; omega) wr
        rw [plS_nat, plA_nat, plE_nat, Int.natCast_add] at hp
        rw [pieces_step (by omega)] at hps
        obtain ⟨r, hr⟩ : ∃ r, r = (o + d) % 64 := ⟨_, rfl⟩
        have hr64 : r < 64 := by omega
        have e1 : ((o : Int) + (d : Int)).tmod 64 = (r : Int) := by rw [Int.tmod_eq_emod_of_nonneg (by omega)]; omega
        rw [← hr] at hps
        obtain ⟨k, hk⟩ : ∃ k, k = min (64 - r) (m - d) := ⟨_, rfl⟩
        rw [← hk] at hps
        have hk1 : 1 ≤ k ∧ k ≤ m - d := by omega
        have HK := Lib.hid hk
        have HP := Lib.hid hp
        have HPS := Lib.hid hps
        clear hp hps hk hr
        generalize shOf (o + d) = sh at *
        generalize atOf (o + d) = at' at *
        go_wp2_with fail
        refine HP.out.mono ?_
        rintro e w' ⟨rfl, rfl⟩
        go_wp2_with (first
          | ((with_reducible refine min2_step (dst := some 45) (n1 := 64 - r) (n2 := m - d) (n := k) ?_ ?_ HK.out ?_); exact congrArg (Value.int .i64) (by omega); exact congrArg (Value.int .i64) (by omega))
          | (at_builtin; refine app3 (dst := some 52) Try.underlying43 infoRP rfl (by decide) ?_ ?_ (ownsRow_mono3 HO.out ((Below.refl wr.heap.size wr).alloc (Nat.le_refl _) _)) (heap_alloc_new _ _) ⟨rfl, rfl, rfl⟩ (by have := HPL.out; omega) (by have := HB.out.size; simp; omega) ?_; exact rfl; exact rfl; intro v3 w3 ho3 hg3; obtain ⟨av, cv, hv3⟩ := ownsRow_form3 ho3; subst hv3; have HO3 := Lib.hid ho3; have HG3 := Lib.hid hg3; clear ho3 hg3))
        have hbf : Below w.heap.size w w3 := (HB.out.alloc HB.out.size _).grown HG3.out (by have := HB.out.size; simp; omega) fun q hq => (HO.out.lt q hq).1
        have HBF := Lib.hid hbf
        clear hbf
        go_roundw
        case rel => exact ⟨d + k, ps ++ [(sh, at', k)], by omega, by go_num, by rw [cellsP_snoc, List.length_append]; exact HO3.out, by rw [List.append_assoc, List.singleton_append, ← Nat.add_assoc, ← Nat.sub_sub]; exact HPS.out, by have := HPL.out; rw [List.length_append]; simp; omega, HBF.out⟩
        case measure => simp [intOf]; omega
      · obtain rfl : d = m := by omega
        have hl4 : decide ((d : Int) < (d : Int)) = false := decide_eq_false (by omega)
        rw [Nat.sub_self, pieces_zero, List.append_nil] at hps
        subst hps
        go_wp2
        go_ret2
        exact ⟨⟨_, rfl, HO.out⟩, HB.out⟩
  · unfold pcL pcE
    rw [if_neg hok, if_neg hok]
    have fin : ∀ W : World, W.ownsRow W.heap.size 48 3 (.slice none 0 0) 0 [] := fun W => ⟨rfl, Or.inl ⟨rfl, rfl⟩⟩
    by_cases h1 : off < 0
    · have g1 : decide (off < 0) = true := decide_eq_true h1
      clear hok
      go_enter Try.func22, Try.ntmps22
      go_wp2
      go_ret2
      exact ⟨⟨_, rfl, fin _⟩, Below.refl _ _⟩
    have g1 : decide (off < 0) = false := decide_eq_false h1
    by_cases h2 : 4611686018427387904 < off
    · have g2 : decide ((4611686018427387904 : Int) < off) = true := decide_eq_true h2
      clear hok
      go_enter Try.func22, Try.ntmps22
      go_wp2
      go_ret2
      exact ⟨⟨_, rfl, fin _⟩, Below.refl _ _⟩
    have g2 : decide ((4611686018427387904 : Int) < off) = false := decide_eq_false h2
    by_cases h3 : n < 0
    · have g3 : decide (n < 0) = true := decide_eq_true h3
      clear hok
      go_enter Try.func22, Try.ntmps22
      go_wp2
      go_ret2
      exact ⟨⟨_, rfl, fin _⟩, Below.refl _ _⟩
    have g3 : decide (n < 0) = false := decide_eq_false h3
    have h4 : 1048576 < n := by
      unfold PcOk at hok
      omega
    have g4 : decide ((1048576 : Int) < n) = true := decide_eq_true h4
    clear hok
    go_enter Try.func22, Try.ntmps22
    go_wp2
    go_ret2
    exact ⟨⟨_, rfl, fin _⟩, Below.refl _ _⟩
end Go.Proofs.Ytjpehjgcpnogiaa.Gf
