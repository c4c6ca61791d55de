/- What is proved here: needles as values, and the contracts of the reference's Size, Valid, Number, Value, Check. No condition. What is proved here: the contracts of the reference's Number, Value and Check. No condition but on lengths. What is proved here: the contract of the reference's Encode. No condition. -/
import Derived.Test.YtlnccofanicihaaDoorM6
import Derived.Test.YtlnccofanicihaaDoorCr
import Derived.Test.YtlnccofanicihaaDoorRo
import Derived.OwnWalk
import Derived.IntWalk
import Derived.BigQuiet
namespace Go.Proofs.YtlnccofanicihaaDoor.Gf
open Go Go.ChangeShapes Go.WideShapes Go.ChangeAt Go.RowKit Go.Proofs.YtlnccofanicihaaDoor.By Go.Proofs.YtlnccofanicihaaDoor.Crc

/-- The value v reads as the needle x. -/
def Nd (w : World) (v : Value) (x : Ndl) : Prop := ∃ s, v = .agg #[.int .u64 (x.key : Int), .int .u32 (x.cookie : Int), .bool x.del, s] ∧ x.key < 18446744073709551616 ∧ x.cookie < 4294967296 ∧ Sl w s x.data
theorem nd_below {w w' : World} {v : Value} {x : Ndl} (h : Nd w v x) (hB : Below w.heap.size w w') : Nd w' v x := by
  obtain ⟨s, h1, h2, h3, h4⟩ := h
  exact ⟨s, h1, h2, h3, sl_below h4 hB⟩
theorem nd_ok {w : World} {v : Value} {x : Ndl} (h : Nd w v x) : NdOk x := by
  obtain ⟨s, h1, h2, h3, h4⟩ := h
  exact ⟨h2, h3, h4.1⟩
def I64b (n : Int) : Prop := -9223372036854775808 ≤ n ∧ n ≤ 9223372036854775807
def szI6 (n : Int) : Int := if n < 0 ∨ 4096 < n then 0 else (n + 31) / 8 * 8
theorem szI6_nat {n : Nat} (h : n ≤ 4096) : szI6 (n : Int) = ((szR n : Nat) : Int) := by
  unfold szI6 szR
  rw [if_neg (by omega)]
  omega
theorem rsize6_any (n : Int) (w : World) (_h : I64b n) : Calls Tryd.prog 35 #[.int .i64 n] w fun e w' => e = .returned (.int .i64 (szI6 n)) ∧ w = w' := by
  by_cases h1 : n < 0
  · have g1 : decide (n < 0) = true := decide_eq_true h1
    unfold szI6
    rw [if_pos (Or.inl h1)]
    go_enter Tryd.func35, Tryd.ntmps35
    go_wp2
    go_ret
    exact ⟨rfl, rfl⟩
  have g1 : decide (n < 0) = false := decide_eq_false h1
  by_cases h2 : 4096 < n
  · have g2 : decide (4096 < n) = true := decide_eq_true h2
    unfold szI6
    rw [if_pos (Or.inr h2)]
    clear _h
    go_enter Tryd.func35, Tryd.ntmps35
    go_wp2
    go_ret
    exact ⟨rfl, rfl⟩
  have g2 : decide (4096 < n) = false := decide_eq_false h2
  unfold szI6
  rw [if_neg (by omega)]
  have e1 : (20 + n + 4 + 7).tdiv 8 = (n + 31) / 8 := by rw [Int.tdiv_eq_ediv_of_nonneg (by omega)]; congr 1; omega
  obtain ⟨q, hq⟩ : ∃ q, (n + 31) / 8 = q := ⟨_, rfl⟩
  have b1 : 0 ≤ q ∧ q ≤ 600 := by omega
  have b0 : 0 ≤ n ∧ n ≤ 4096 := by omega
  rw [hq] at e1 ⊢
  clear hq _h h1 h2
  go_enter Tryd.func35, Tryd.ntmps35
  go_wp2
  go_ret
  exact ⟨rfl, rfl⟩
def okB (x : Ndl) : Bool := decide (x.data.length ≤ 4096) && !(x.del && decide (0 < x.data.length))
theorem okB_enc (x : Ndl) : okB x = decide (encE x = 0) := by
  unfold okB encE
  by_cases h1 : 4096 < x.data.length
  · rw [if_pos h1, decide_eq_false (by omega)]; rfl
  · rw [if_neg h1, decide_eq_true (by omega)]
    cases hd : x.del
    · rw [if_neg (by simp)]; rfl
    · by_cases h2 : 0 < x.data.length
      · rw [if_pos ⟨rfl, h2⟩, decide_eq_true h2]; rfl
      · rw [if_neg (fun h => h2 h.2), decide_eq_false h2]; rfl
theorem rvalid6_any (v : Value) (x : Ndl) (w : World) (h : Nd w v x) : Calls Tryd.prog 47 #[v] w fun e w' => e = .returned (.bool (okB x)) ∧ Below w.heap.size w w' := by
  obtain ⟨s, rfl, h1, h2, h3⟩ := h
  obtain ⟨a, c, hv, -, -⟩ := sl_form h3
  unfold okB
  obtain ⟨n, hn⟩ : ∃ n, n = x.data.length := ⟨_, rfl⟩
  rw [← hn] at hv ⊢
  subst hv
  have HB := Lib.hid ((Below.refl w.heap.size w).alloc (Nat.le_refl _) (.cells #[.int .u64 (x.key : Int), .int .u32 (x.cookie : Int), .bool x.del, .slice a n c] 56))
  clear h1 h2 h3 hn
  obtain ⟨d1, hd1⟩ : ∃ b, decide ((n : Int) ≤ 4096) = b := ⟨_, rfl⟩
  have e1 : decide (n ≤ 4096) = d1 := by rw [← hd1]; exact decide_eq_decide.2 (by omega)
  rw [e1]
  clear e1
  generalize x.key = key at *
  generalize x.cookie = ck at *
  generalize x.del = d at *
  cases d1 <;> cases d
  all_goals
    go_enter Tryd.func47, Tryd.ntmps47
    go_wp2
    go_ret
    exact ⟨by first | rfl | simp, HB.out⟩
end Go.Proofs.YtlnccofanicihaaDoor.Gf

namespace Go.Proofs.YtlnccofanicihaaDoor.Gf
open Go Go.ChangeShapes Go.WideShapes Go.ChangeAt Go.RowKit Go.Proofs.YtlnccofanicihaaDoor.By Go.Proofs.YtlnccofanicihaaDoor.Crc

theorem beL_take_succ {n v j : Nat} (h : j < n) : (beL n v).take (j + 1) = (beL n v).take j ++ [v / 256 ^ (n - 1 - j) % 256] := by
  rw [List.take_succ_eq_append_getElem (by rw [beL_length]; exact h)]
  simp [beL]
set_option maxRecDepth 100000 in
theorem number_any (v n : Nat) (w : World) (hn : n ≤ 8) : Calls Tryd.prog 45 #[.int .u64 (v : Int), .int .i64 (n : Int)] w fun e w' => (∃ s, e = .returned s ∧ Own w' w.heap.size s (beL n v)) ∧ Below w.heap.size w w' := by
  go_enter Tryd.func45, Tryd.ntmps45
  go_wp2_with fail
  go_loopw [5, 6] (fun out t wr => ∃ j : Nat, j ≤ n ∧ t = .int .i64 ((n : Int) - 1 - (j : Int)) ∧ Own wr w.heap.size out ((beL n v).take j) ∧ Below w.heap.size w wr) (fun _ t _ => (intOf t + 1).toNat)
  case atStart => exact ⟨0, by omega, by go_num, by simpa using own_nil w w.heap.size, Below.refl _ _⟩
  case round =>
    obtain ⟨j, hj, rfl, hO, hB⟩ := hrel
    obtain ⟨oa, on, oc, rfl, hon⟩ := own_form hO
    by_cases hjn : j < n
    · obtain ⟨i, hi⟩ : ∃ i : Nat, i = n - 1 - j := ⟨_, rfl⟩
      have e0 : (n : Int) - 1 - (j : Int) = (i : Int) := by omega
      rw [e0]
      have hg : decide ((0 : Int) ≤ (i : Int)) = true := decide_eq_true (by omega)
      have hi8 : i < 8 := by omega
      have HS := Lib.hid (beL_take_succ (v := v) hjn)
      rw [← hi] at HS
      obtain ⟨z, hz⟩ : ∃ z, z = v / 256 ^ i % 256 := ⟨_, rfl⟩
      rw [← hz] at HS
      have hz2 : (v : Int) / 2 ^ (8 * i) % 256 = (z : Int) := by
        rw [hz, show (256 : Nat) ^ i = 2 ^ (8 * i) by rw [Nat.pow_mul]]
        simp
      have HZ : Hid (z < 256) := by show z < 256; rw [hz]; exact Nat.mod_lt _ (by decide)
      have HLN : Hid (((beL n v).take j).length + [z].length ≤ 100000000) := by show _ ≤ _; rw [List.length_take]; simp; omega
      have HI : Hid (i = n - 1 - j) := hi
      have HO := Lib.hid hO
      have HB := Lib.hid hB
      have HJ := Lib.hid hjn
      clear hO hB hi e0 hon hz hjn
      go_wp2_with (at_builtin; refine app_sl (dst := some 21) ?_ ?_ (own_below' HO.out ((Below.refl wr.heap.size wr).alloc (Nat.le_refl _) _)) (sl_one HZ.out (heap_alloc_new _ _)) HLN.out (by have := HB.out.size; simp; omega) ?_; exact rfl; exact rfl; intro v5 w5 ho5 hg5; rw [← HS.out] at ho5; obtain ⟨sa, sn, sc, hv5, -⟩ := own_form ho5; subst hv5; have HO5 := Lib.hid ho5; have HG5 := Lib.hid hg5; clear ho5 hg5)
      have hbf : Below w.heap.size w w5 := (HB.out.alloc HB.out.size _).grown HG5.out (by have := HB.out.size; simp; omega) fun q hq => HO.out.lt q hq
      have HBF := Lib.hid hbf
      clear hbf
      go_roundw
      case rel => exact ⟨j + 1, HJ.out, by have := HI.out; have := HJ.out; exact congrArg (Value.int .i64) (by omega), HO5.out, HBF.out⟩
      case measure => simp [intOf]
    · obtain rfl : j = n := by omega
      have hg : decide ((0 : Int) ≤ (j : Int) - 1 - (j : Int)) = false := decide_eq_false (by omega)
      rw [List.take_of_length_le (by rw [beL_length]; exact Nat.le_refl _)] at hO
      have HO := Lib.hid hO
      have HB := Lib.hid hB
      clear hO hB hon
      go_wp2
      go_ret
      exact ⟨⟨_, rfl, HO.out⟩, HB.out⟩
theorem valL_take_succ {l : List Nat} {j : Nat} (h : j < l.length) : valL (l.take (j + 1)) = valL (l.take j) * 256 + l.getD j 0 := by
  rw [take_snoc l j h, valL_snoc]
theorem or_byte {v b : Nat} (hv : v < 72057594037927936) (hb : b < 256) : bits .or .u64 ((v : Int) * 256) (b : Int) = ((v * 256 + b : Nat) : Int) := by
  have h := Nat.two_pow_add_eq_or_of_lt (i := 8) (b := b) (by simpa using hb) v
  rw [show (v : Int) * 256 = ((v * 256 : Nat) : Int) by simp, u64_or_nat _ _ (by omega) (by omega), Nat.mul_comm v 256, show (256 : Nat) = 2 ^ 8 from rfl, ← h]
set_option maxRecDepth 100000 in
theorem rvalue_some (b o c : Nat) (l : List Nat) (w : World) (hn : l.length ≤ 8) (s : Sl w (.slice (some ⟨b, o, none⟩) l.length c) l) : Calls Tryd.prog 50 #[.slice (some ⟨b, o, none⟩) l.length c] w fun e w' => e = .returned (.int .u64 ((valL l : Nat) : Int)) ∧ w = w' := by
  obtain ⟨n, hln⟩ : ∃ n, n = l.length := ⟨_, rfl⟩
  have HC : Hid (∀ k, k < n → w.cell? ⟨b, o + k, none⟩ = some (.int .u8 ((l.getD k 0 : Nat) : Int))) := fun k hk => by
    obtain ⟨b', o', c', hv, -, -, h⟩ := sl_cells s (by omega)
    obtain ⟨⟨rfl, rfl⟩, rfl⟩ : (b = b' ∧ o = o') ∧ c = c' := by simpa using hv
    exact h k (by omega)
  have HL := Lib.hid s.1
  rw [← hln] at hn ⊢
  have HN := Lib.hid hln
  clear s hln
  go_enter Tryd.func50, Tryd.ntmps50
  go_wp2_with fail
  go_loopw [3, 4] (fun r t wr => ∃ j : Nat, j ≤ n ∧ t = .int .i64 (j : Int) ∧ r = .int .u64 ((valL (l.take j) : Nat) : Int) ∧ wr = w) (fun _ t _ => n - (intOf t).toNat)
  case atStart => exact ⟨0, by omega, rfl, rfl, rfl⟩
  case round =>
    obtain ⟨j, hj, rfl, rfl, rfl⟩ := hrel
    by_cases hjn : j < n
    · have hl4 : decide ((j : Int) < (n : Int)) = true := decide_eq_true (by omega)
      have hc := HC.out j hjn
      have hb := getD_lt HL.out j
      have HS := Lib.hid (valL_take_succ (l := l) (j := j) (by have := HN.out; omega))
      have hv : valL (l.take j) < 72057594037927936 := by
        have h1 := valL_lt (l.take j) (mem_take HL.out j)
        have h2 : (l.take j).length ≤ 7 := by rw [List.length_take]; omega
        exact Nat.lt_of_lt_of_le h1 (by have := Nat.pow_le_pow_right (n := 256) (by decide) h2; simpa using this)
      have ho := or_byte hv hb
      generalize valL (l.take j) = V at *
      generalize l.getD j 0 = y at *
      have hs : (V : Int) * 256 % 18446744073709551616 = (V : Int) * 256 := by omega
      have p0 : (0 : Int) ≤ (j : Int) := by omega
      have p1 : (j : Int) < (n : Int) := by omega
      go_wp2
      go_roundw
      case rel => exact ⟨j + 1, by omega, by go_num, by rw [HS.out]; simp, by first | rfl | trivial⟩
      case measure => simp [intOf]; omega
    · obtain rfl : j = n := by omega
      have hl4 : decide ((j : Int) < (j : Int)) = false := decide_eq_false (by omega)
      have HV : Hid (valL (l.take j) = valL l) := by show _ = _; rw [List.take_of_length_le (by rw [← HN.out]; exact Nat.le_refl _)]
      rw [HV.out]
      go_wp2
      go_ret
      exact ⟨rfl, rfl⟩
theorem own_of_cells {w : World} {b0 g n : Nat} {M : List Nat} (hg : w.heap[g]? = some (.cells (cellsOf M).toArray 5 (0, 0))) (hl : ∀ b ∈ M, b < 256) (hb : b0 ≤ g) (hM : M.length = n) (hn : n ≤ maxLen) : Own w b0 (.slice (some ⟨g, 0, none⟩) n n) M := by
  subst hM
  exact ⟨hl, by rw [cellsOf_length, Nat.mul_one], Or.inr ⟨g, _, _, rfl, hb, hg, Nat.le_refl _, hn, by simp [cellsOf], by rw [Nat.mul_one]; exact List.take_of_length_le (by simp [cellsOf])⟩⟩
theorem leL_cells {s : Nat} (h : s < 4294967296) : (cellsOf (leL s)).toArray = #[.int .u8 ((s : Int) % 256), .int .u8 ((s : Int) / 256 % 256), .int .u8 ((s : Int) / 65536 % 256), .int .u8 ((s : Int) / 16777216)] := by
  have e : s / 16777216 % 256 = s / 16777216 := Nat.mod_eq_of_lt (by omega)
  simp [cellsOf, leL, e]
theorem check_any (v : Value) (l : List Nat) (w : World) (s : Sl w v l) : Calls Tryd.prog 46 #[v] w fun e w' => (∃ s, e = .returned s ∧ Own w' w.heap.size s (leL (ext 0 l))) ∧ Below w.heap.size w w' := by
  have RS := rsum_any v l w s
  have hlt : ext 0 l < 4294967296 := ext_lt (by decide) s.1
  generalize ext 0 l = S at *
  have HO := Lib.hid (own_of_cells (b0 := w.heap.size) (n := 4) (M := leL S) (by rw [leL_cells hlt]; exact heap_alloc_new w _) (leL_lt S) (Nat.le_refl _) rfl (by unfold maxLen; omega))
  have HB := Lib.hid ((Below.refl w.heap.size w).alloc (Nat.le_refl _) (.cells (cellsOf (leL S)).toArray 5))
  rw [leL_cells hlt] at HB
  clear s
  go_enter Tryd.func46, Tryd.ntmps46
  go_wp2_with (go_at_call 55; refine RS.mono ?_; rintro e w' ⟨rfl, rfl⟩)
  go_ret
  exact ⟨⟨_, rfl, HO.out⟩, HB.out⟩
theorem rvalue_any (v : Value) (l : List Nat) (w : World) (s : Sl w v l) (h0 : 0 < l.length) (hn : l.length ≤ 8) : Calls Tryd.prog 50 #[v] w fun e w' => e = .returned (.int .u64 ((valL l : Nat) : Int)) ∧ w = w' := by
  obtain ⟨b, o, c, rfl, -, -, -⟩ := sl_cells s h0
  exact rvalue_some b o c l w hn s
end Go.Proofs.YtlnccofanicihaaDoor.Gf

namespace Go.Proofs.YtlnccofanicihaaDoor.Gf
open Go Go.ChangeShapes Go.WideShapes Go.ChangeAt Go.RowKit Go.Proofs.YtlnccofanicihaaDoor.By Go.Proofs.YtlnccofanicihaaDoor.Crc

/-- A call that answers bytes of its own and an error. -/
def EO (w : World) (l : List Nat) (err : Int) (e : Ending) (w' : World) : Prop := (∃ v, e = .returned (.tuple #[v, .int .i64 err]) ∧ Own w' w.heap.size v l) ∧ Below w.heap.size w w'
theorem flag_cells (d : Bool) : cellsOf [78, 165, if d then 1 else 0, 0] = [.int .u8 78, .int .u8 165, .int .u8 (if d then 1 else 0), .int .u8 0] := by
  cases d <;> rfl
/-- What a function that boxes its parameter and collects bytes has between two steps. -/
structure St (w W : World) (bx : Array Value) (v : Value) (L : List Nat) : Prop where
  below : Below w.heap.size w W
  box : W.heap[w.heap.size]? = some (.cells bx 56 (0, 0))
  own : Own W (w.heap.size + 1) v L
theorem St.later {w W W' : World} {bx : Array Value} {v : Value} {L : List Nat} (h : St w W bx v L) (hb : Below W.heap.size W W') : St w W' bx v L :=
  ⟨bt h.below hb, (hb.block _ (lt_of_some h.box)).trans h.box, own_below' h.own hb⟩
theorem St.app {w W W' : World} {bx : Array Value} {v v' : Value} {L L' : List Nat} (h : St w W bx v L) (hg : W.grownBy W' v.ownBlock) (ho : Own W' (w.heap.size + 1) v' L') : St w W' bx v' L' :=
  ⟨h.below.grown hg h.below.size fun q hq => by have := h.own.lt q hq; omega, (hg.block _ (lt_of_some h.box) fun e => by have := h.own.lt _ e.symm; omega).trans h.box, ho⟩
theorem St.size {w W : World} {bx : Array Value} {v : Value} {L : List Nat} (h : St w W bx v L) : w.heap.size + 1 ≤ W.heap.size := lt_of_some h.box
theorem bx_cell {W : World} {g : Nat} {k c d s : Value} {T : TypeId} {fr : Nat × Nat} (h : W.heap[g]? = some (.cells #[k, c, d, s] T fr)) : W.cell? ⟨g, 0, none⟩ = some k ∧ W.cell? ⟨g, 1, none⟩ = some c ∧ W.cell? ⟨g, 2, none⟩ = some d ∧ W.cell? ⟨g, 3, none⟩ = some s :=
  ⟨cell_of_row W g 0 _ _ _ h, cell_of_row W g 1 _ _ _ h, cell_of_row W g 2 _ _ _ h, cell_of_row W g 3 _ _ _ h⟩
set_option maxRecDepth 100000 in
set_option maxHeartbeats 6400000 in
theorem rencode_any (v : Value) (x : Ndl) (w : World) (h : Nd w v x) : Calls Tryd.prog 28 #[v] w (EO w (encL x) (encE x : Nat)) := by
  have VA := Lib.hid (fun W (hW : Below w.heap.size w W) => rvalid6_any v x W (nd_below h hW))
  obtain ⟨s, hv, h1, h2, h3⟩ := h
  obtain ⟨a, c, hs, -, hcm⟩ := sl_form h3
  obtain ⟨n, hn⟩ : ∃ n, n = x.data.length := ⟨_, rfl⟩
  rw [← hn] at hs
  subst hs
  subst hv
  have S := Lib.hid h3
  have HN := Lib.hid hn
  unfold EO
  have HB0 := Lib.hid ((Below.refl w.heap.size w).alloc (Nat.le_refl _) (.cells #[.int .u64 (x.key : Int), .int .u32 (x.cookie : Int), .bool x.del, .slice a n c] 56))
  by_cases hbig : 4096 < n
  · have he : encE x = 8 := by unfold encE; rw [if_pos (by omega)]
    have hl : encL x = [] := by unfold encL; rw [he]; rfl
    rw [he, hl]
    have g1 : decide ((4096 : Int) < (n : Int)) = true := decide_eq_true (by omega)
    clear hn he hl h3
    go_enter Tryd.func28, Tryd.ntmps28
    go_wp2_with fail
    go_ret2
    exact ⟨⟨_, rfl, own_nil _ _⟩, HB0.out⟩
  have g1 : decide ((4096 : Int) < (n : Int)) = false := decide_eq_false (by omega)
  by_cases he : encE x = 0
  · have hl : encL x = recL x := by unfold encL; rw [he]; rfl
    have hok : okB x = true := by rw [okB_enc, he]; rfl
    rw [he, hl]
    rw [hok] at VA
    have hfl : cellsOf [78, 165, 0, 0] = [.int .u8 78, .int .u8 165, .int .u8 0, .int .u8 0] := rfl
    clear hn hl he h3
    go_enter Tryd.func28, Tryd.ntmps28
    go_wp2_with fail
    refine (VA.out _ HB0.out).mono ?_
    rintro e w2 ⟨rfl, hb2⟩
    have HB2 := Lib.hid hb2
    clear hb2
    have hbx : w2.heap[w.heap.size]? = some (.cells #[.int .u64 (x.key : Int), .int .u32 (x.cookie : Int), .bool x.del, .slice a n c] 56 (0, 0)) := (HB2.out.block _ (by simp)).trans (heap_alloc_new w _)
    have hw2 : Below w.heap.size w w2 := bt HB0.out HB2.out
    have hsz : w.heap.size + 1 ≤ w2.heap.size := lt_of_some hbx
    obtain ⟨M, hMM⟩ : ∃ M, M = szR n := ⟨_, rfl⟩
    have RZ : Hid (∀ W, Calls Tryd.prog 35 #[.int .i64 (n : Int)] W fun e w' => e = .returned (.int .i64 (M : Int)) ∧ W = w') := fun W => by
      have h := rsize6_any (n : Int) W (by unfold I64b; omega)
      rwa [szI6_nat (by omega), ← hMM] at h
    have HMB : Hid (24 + n ≤ M ∧ M ≤ 5000) := by
      show _ ∧ _
      rw [hMM]
      have := szR_ge n
      have := szR_lt n
      omega
    have HMM := Lib.hid hMM
    clear hMM
    have S3 : ∀ f, f < 256 → St w (w2.alloc (.cells (cellsOf [78, 165, f, 0]).toArray 5)) #[.int .u64 (x.key : Int), .int .u32 (x.cookie : Int), .bool x.del, .slice a n c] (.slice (some ⟨w2.heap.size, 0, none⟩) 4 4) [78, 165, f, 0] := fun f hf =>
      ⟨hw2.alloc hw2.size _, (Below.heap_alloc _ _ _ (by omega)).trans hbx, own_of_cells (heap_alloc_new w2 _) (fun b hb => by simp only [List.mem_cons, List.not_mem_nil, or_false] at hb; omega) hsz rfl (by unfold maxLen; omega)⟩
    have s0 := S3 0 (by decide)
    have s1 := S3 1 (by decide)
    rw [show cellsOf [78, 165, 0, 0] = [.int .u8 78, .int .u8 165, .int .u8 0, .int .u8 0] from rfl] at s0
    rw [show cellsOf [78, 165, 1, 0] = [.int .u8 78, .int .u8 165, .int .u8 1, .int .u8 0] from rfl] at s1
    obtain ⟨b0, b1, b2, b3⟩ := bx_cell s0.box
    obtain ⟨f0, f1, f2, f3⟩ := bx_cell s1.box
    obtain ⟨e21, e22, -⟩ := own_cell (q := 2) s0.own rfl (by decide)
    have T0 := Lib.hid s0
    have T1 := Lib.hid s1
    clear hbx hw2 HB2 hfl S3 s0 s1
    rcases hd : x.del with _ | _
    · rw [hd] at b2 f2
      go_wp2_with fail
      have S4 := Lib.hid T0.out
      clear T0 T1 f0 f1 f2 f3 b0 b1 b2 b3 e21 e22
      generalize w2.alloc _ = W4 at *
      refine (number_any x.cookie 4 _ (by omega)).mono ?_
      rintro e Wa ⟨⟨sa, rfl, hoa⟩, hba⟩
      obtain ⟨aa, na, ca, rfl, -⟩ := own_form hoa
      have SA := Lib.hid (S4.out.later hba)
      have OA := Lib.hid hoa
      obtain ⟨c0, c1, c2, c3⟩ := bx_cell SA.out.box
      clear hoa hba
      go_wp2_with (at_builtin; refine app_sl (dst := some 22) ?_ ?_ SA.out.own OA.out.sl (by simp [beL_length] <;> omega) SA.out.size ?_; exact rfl; exact rfl; intro v5 w5 ho5 hg5; have S5 := Lib.hid (SA.out.app hg5 ho5); clear ho5 hg5; obtain ⟨sa5, sn5, sc5, hv5, -⟩ := own_form S5.out.own; subst hv5; obtain ⟨d0, d1, d2, d3⟩ := bx_cell S5.out.box)
      clear c0 c1 c2 c3
      refine (number_any x.key 8 _ (by omega)).mono ?_
      rintro e Wa ⟨⟨sa, rfl, hoa⟩, hba⟩
      obtain ⟨aa, na, ca, rfl, -⟩ := own_form hoa
      have SA := Lib.hid (S5.out.later hba)
      have OA := Lib.hid hoa
      obtain ⟨c0, c1, c2, c3⟩ := bx_cell SA.out.box
      clear hoa hba d0 d1 d2 d3
      go_wp2_with (at_builtin; refine app_sl (dst := some 27) ?_ ?_ SA.out.own OA.out.sl (by simp [beL_length] <;> omega) SA.out.size ?_; exact rfl; exact rfl; intro v5 w5 ho5 hg5; have S6 := Lib.hid (SA.out.app hg5 ho5); clear ho5 hg5; obtain ⟨sa5, sn5, sc5, hv5, -⟩ := own_form S6.out.own; subst hv5; obtain ⟨d0, d1, d2, d3⟩ := bx_cell S6.out.box)
      clear c0 c1 c2 c3
      refine (number_any n 4 _ (by omega)).mono ?_
      rintro e Wa ⟨⟨sa, rfl, hoa⟩, hba⟩
      obtain ⟨aa, na, ca, rfl, -⟩ := own_form hoa
      have SA := Lib.hid (S6.out.later hba)
      have OA := Lib.hid hoa
      obtain ⟨c0, c1, c2, c3⟩ := bx_cell SA.out.box
      clear hoa hba d0 d1 d2 d3
      go_wp2_with (first
        | (at_builtin; refine app_sl (dst := some 34) ?_ ?_ SA.out.own OA.out.sl (by simp [beL_length] <;> omega) SA.out.size ?_; exact rfl; exact rfl; intro v5 w5 ho5 hg5; have S7 := Lib.hid (SA.out.app hg5 ho5); clear ho5 hg5; obtain ⟨sa5, sn5, sc5, hv5, -⟩ := own_form S7.out.own; subst hv5; obtain ⟨d0, d1, d2, d3⟩ := bx_cell S7.out.box)
        | (at_builtin; refine app_sl (dst := some 38) ?_ ?_ S7.out.own (sl_below S.out S7.out.below) (by have := HN.out; simp [beL_length] <;> omega) S7.out.size ?_; exact rfl; exact rfl; intro v5 w5 ho5 hg5; have S8 := Lib.hid (S7.out.app hg5 ho5); clear ho5 hg5; obtain ⟨sa5, sn5, sc5, hv5, -⟩ := own_form S8.out.own; subst hv5; obtain ⟨d0, d1, d2, d3⟩ := bx_cell S8.out.box))
      clear c0 c1 c2 c3
      refine (check_any _ _ _ S8.out.own.sl).mono ?_
      rintro e Wa ⟨⟨sa, rfl, hoa⟩, hba⟩
      obtain ⟨aa, na, ca, rfl, -⟩ := own_form hoa
      have SA := Lib.hid (S8.out.later hba)
      have OA := Lib.hid hoa
      obtain ⟨c0, c1, c2, c3⟩ := bx_cell SA.out.box
      clear hoa hba d0 d1 d2 d3
      go_wp2_with (at_builtin; refine app_sl (dst := some 42) ?_ ?_ SA.out.own OA.out.sl (by have := HN.out; simp [beL_length, leL_length] <;> omega) SA.out.size ?_; exact rfl; exact rfl; intro v5 w5 ho5 hg5; have S9 := Lib.hid (SA.out.app hg5 ho5); clear ho5 hg5; obtain ⟨sa5, sn5, sc5, hv5, -⟩ := own_form S9.out.own; subst hv5; obtain ⟨d0, d1, d2, d3⟩ := bx_cell S9.out.box)
      have hR : [78, 165, 0, 0] ++ beL 4 x.cookie ++ beL 8 x.key ++ beL 4 n ++ x.data = bodyL x := by
        unfold bodyL hdL
        rw [hd, HN.out]
        rfl
      rw [hR] at S9
      have hlR : (bodyL x ++ leL (ext 0 (bodyL x))).length = 24 + n := by rw [List.length_append, bodyL_length, leL_length, HN.out]; omega
      obtain ⟨R, hRR⟩ : ∃ R, R = bodyL x ++ leL (ext 0 (bodyL x)) := ⟨_, rfl⟩
      rw [← hRR] at S9 hlR
      have HRR := Lib.hid hRR
      have HLR := Lib.hid hlR
      clear hR hRR hlR S4 S5 S6 S7 S8 SA OA d0 d1 d2 d3 VA HB0 hok
      go_loopw [4] (fun out wr => ∃ j : Nat, j ≤ M - (24 + n) ∧ St w wr #[.int .u64 (x.key : Int), .int .u32 (x.cookie : Int), .bool x.del, .slice a n c] out (R ++ List.replicate j 0)) (fun out _ => match out with | .slice _ k _ => M - k | _ => 0)
      case atStart => exact ⟨0, by omega, by simpa using S9.out⟩
      case round =>
        clear S9
        obtain ⟨j, hj, hS⟩ := hrel
        obtain ⟨oa, on, oc, rfl, hon0⟩ := own_form hS.own
        have hon : on = 24 + n + j := by rw [hon0, List.length_append, HLR.out, List.length_replicate]
        obtain ⟨c0, c1, c2, c3⟩ := bx_cell hS.box
        have SJ := Lib.hid hS
        have HJ := Lib.hid hj
        have HON := Lib.hid hon
        clear hS hon0
        by_cases hjm : on < M
        · have hl4 : decide ((on : Int) < (M : Int)) = true := decide_eq_true (by omega)
          have HJM := Lib.hid hjm
          have HO1 := Lib.hid (SJ.out.later ((Below.refl wr.heap.size wr).alloc (Nat.le_refl _) (.cells #[.int .u8 0] 5)))
          have s1 := sl_one (z := 0) (by decide) (heap_alloc_new wr (.cells #[.int .u8 ((0 : Nat) : Int)] 5))
          have HS1 := Lib.hid s1
          clear hj hon hjm s1
          go_wp2_with (first
            | (go_at_call 35; refine (RZ.out _).mono ?_; rintro e w' ⟨rfl, rfl⟩)
            | (at_builtin; refine app_sl (dst := some 52) ?_ ?_ HO1.out.own HS1.out (by have := HON.out; have := HLR.out; have := HMB.out; have := HJM.out; simp; omega) HO1.out.size ?_; exact rfl; exact rfl; intro v5 w5 ho5 hg5; have S5 := Lib.hid (HO1.out.app hg5 ho5); clear ho5 hg5; obtain ⟨sa5, sn5, sc5, hv5, hn5⟩ := own_form S5.out.own; subst hv5; have HN5 := Lib.hid hn5; clear hn5))
          go_roundw
          case rel => exact ⟨j + 1, by have := HON.out; have := HJM.out; omega, by have := S5.out; rwa [List.append_assoc, ← List.replicate_succ'] at this⟩
          case measure =>
            have h1 := HN5.out
            rw [List.length_append, List.length_append, HLR.out, List.length_replicate] at h1
            have h2 := HON.out
            have h3 := HJM.out
            simp at h1 ⊢
            omega
        · have hl4 : decide ((on : Int) < (M : Int)) = false := decide_eq_false (by omega)
          have hjM : j = M - (24 + n) := by omega
          have hfin : R ++ List.replicate j 0 = recL x := by unfold recL; rw [HRR.out, hjM, HMM.out, HN.out]
          have HFIN := Lib.hid hfin
          clear hj hon hjM hfin
          go_wp2_with (go_at_call 35; refine (RZ.out _).mono ?_; rintro e w' ⟨rfl, rfl⟩)
          go_ret2
          exact ⟨⟨_, rfl, by rw [← HFIN.out]; exact own_base (by omega) SJ.out.own⟩, SJ.out.below⟩
    · rw [hd] at b2 f2
      go_wp2_with fail
      have S4 := Lib.hid T1.out
      clear T0 T1 f0 f1 f2 f3 b0 b1 b2 b3 e21 e22
      generalize w2.alloc _ = W4 at *
      refine (number_any x.cookie 4 _ (by omega)).mono ?_
      rintro e Wa ⟨⟨sa, rfl, hoa⟩, hba⟩
      obtain ⟨aa, na, ca, rfl, -⟩ := own_form hoa
      have SA := Lib.hid (S4.out.later hba)
      have OA := Lib.hid hoa
      obtain ⟨c0, c1, c2, c3⟩ := bx_cell SA.out.box
      clear hoa hba
      go_wp2_with (at_builtin; refine app_sl (dst := some 22) ?_ ?_ SA.out.own OA.out.sl (by simp [beL_length] <;> omega) SA.out.size ?_; exact rfl; exact rfl; intro v5 w5 ho5 hg5; have S5 := Lib.hid (SA.out.app hg5 ho5); clear ho5 hg5; obtain ⟨sa5, sn5, sc5, hv5, -⟩ := own_form S5.out.own; subst hv5; obtain ⟨d0, d1, d2, d3⟩ := bx_cell S5.out.box)
      clear c0 c1 c2 c3
      refine (number_any x.key 8 _ (by omega)).mono ?_
      rintro e Wa ⟨⟨sa, rfl, hoa⟩, hba⟩
      obtain ⟨aa, na, ca, rfl, -⟩ := own_form hoa
      have SA := Lib.hid (S5.out.later hba)
      have OA := Lib.hid hoa
      obtain ⟨c0, c1, c2, c3⟩ := bx_cell SA.out.box
      clear hoa hba d0 d1 d2 d3
      go_wp2_with (at_builtin; refine app_sl (dst := some 27) ?_ ?_ SA.out.own OA.out.sl (by simp [beL_length] <;> omega) SA.out.size ?_; exact rfl; exact rfl; intro v5 w5 ho5 hg5; have S6 := Lib.hid (SA.out.app hg5 ho5); clear ho5 hg5; obtain ⟨sa5, sn5, sc5, hv5, -⟩ := own_form S6.out.own; subst hv5; obtain ⟨d0, d1, d2, d3⟩ := bx_cell S6.out.box)
      clear c0 c1 c2 c3
      refine (number_any n 4 _ (by omega)).mono ?_
      rintro e Wa ⟨⟨sa, rfl, hoa⟩, hba⟩
      obtain ⟨aa, na, ca, rfl, -⟩ := own_form hoa
      have SA := Lib.hid (S6.out.later hba)
      have OA := Lib.hid hoa
      obtain ⟨c0, c1, c2, c3⟩ := bx_cell SA.out.box
      clear hoa hba d0 d1 d2 d3
      go_wp2_with (first
        | (at_builtin; refine app_sl (dst := some 34) ?_ ?_ SA.out.own OA.out.sl (by simp [beL_length] <;> omega) SA.out.size ?_; exact rfl; exact rfl; intro v5 w5 ho5 hg5; have S7 := Lib.hid (SA.out.app hg5 ho5); clear ho5 hg5; obtain ⟨sa5, sn5, sc5, hv5, -⟩ := own_form S7.out.own; subst hv5; obtain ⟨d0, d1, d2, d3⟩ := bx_cell S7.out.box)
        | (at_builtin; refine app_sl (dst := some 38) ?_ ?_ S7.out.own (sl_below S.out S7.out.below) (by have := HN.out; simp [beL_length] <;> omega) S7.out.size ?_; exact rfl; exact rfl; intro v5 w5 ho5 hg5; have S8 := Lib.hid (S7.out.app hg5 ho5); clear ho5 hg5; obtain ⟨sa5, sn5, sc5, hv5, -⟩ := own_form S8.out.own; subst hv5; obtain ⟨d0, d1, d2, d3⟩ := bx_cell S8.out.box))
      clear c0 c1 c2 c3
      refine (check_any _ _ _ S8.out.own.sl).mono ?_
      rintro e Wa ⟨⟨sa, rfl, hoa⟩, hba⟩
      obtain ⟨aa, na, ca, rfl, -⟩ := own_form hoa
      have SA := Lib.hid (S8.out.later hba)
      have OA := Lib.hid hoa
      obtain ⟨c0, c1, c2, c3⟩ := bx_cell SA.out.box
      clear hoa hba d0 d1 d2 d3
      go_wp2_with (at_builtin; refine app_sl (dst := some 42) ?_ ?_ SA.out.own OA.out.sl (by have := HN.out; simp [beL_length, leL_length] <;> omega) SA.out.size ?_; exact rfl; exact rfl; intro v5 w5 ho5 hg5; have S9 := Lib.hid (SA.out.app hg5 ho5); clear ho5 hg5; obtain ⟨sa5, sn5, sc5, hv5, -⟩ := own_form S9.out.own; subst hv5; obtain ⟨d0, d1, d2, d3⟩ := bx_cell S9.out.box)
      have hR : [78, 165, 1, 0] ++ beL 4 x.cookie ++ beL 8 x.key ++ beL 4 n ++ x.data = bodyL x := by
        unfold bodyL hdL
        rw [hd, HN.out]
        rfl
      rw [hR] at S9
      have hlR : (bodyL x ++ leL (ext 0 (bodyL x))).length = 24 + n := by rw [List.length_append, bodyL_length, leL_length, HN.out]; omega
      obtain ⟨R, hRR⟩ : ∃ R, R = bodyL x ++ leL (ext 0 (bodyL x)) := ⟨_, rfl⟩
      rw [← hRR] at S9 hlR
      have HRR := Lib.hid hRR
      have HLR := Lib.hid hlR
      clear hR hRR hlR S4 S5 S6 S7 S8 SA OA d0 d1 d2 d3 VA HB0 hok
      go_loopw [4] (fun out wr => ∃ j : Nat, j ≤ M - (24 + n) ∧ St w wr #[.int .u64 (x.key : Int), .int .u32 (x.cookie : Int), .bool x.del, .slice a n c] out (R ++ List.replicate j 0)) (fun out _ => match out with | .slice _ k _ => M - k | _ => 0)
      case atStart => exact ⟨0, by omega, by simpa using S9.out⟩
      case round =>
        clear S9
        obtain ⟨j, hj, hS⟩ := hrel
        obtain ⟨oa, on, oc, rfl, hon0⟩ := own_form hS.own
        have hon : on = 24 + n + j := by rw [hon0, List.length_append, HLR.out, List.length_replicate]
        obtain ⟨c0, c1, c2, c3⟩ := bx_cell hS.box
        have SJ := Lib.hid hS
        have HJ := Lib.hid hj
        have HON := Lib.hid hon
        clear hS hon0
        by_cases hjm : on < M
        · have hl4 : decide ((on : Int) < (M : Int)) = true := decide_eq_true (by omega)
          have HJM := Lib.hid hjm
          have HO1 := Lib.hid (SJ.out.later ((Below.refl wr.heap.size wr).alloc (Nat.le_refl _) (.cells #[.int .u8 0] 5)))
          have s1 := sl_one (z := 0) (by decide) (heap_alloc_new wr (.cells #[.int .u8 ((0 : Nat) : Int)] 5))
          have HS1 := Lib.hid s1
          clear hj hon hjm s1
          go_wp2_with (first
            | (go_at_call 35; refine (RZ.out _).mono ?_; rintro e w' ⟨rfl, rfl⟩)
            | (at_builtin; refine app_sl (dst := some 52) ?_ ?_ HO1.out.own HS1.out (by have := HON.out; have := HLR.out; have := HMB.out; have := HJM.out; simp; omega) HO1.out.size ?_; exact rfl; exact rfl; intro v5 w5 ho5 hg5; have S5 := Lib.hid (HO1.out.app hg5 ho5); clear ho5 hg5; obtain ⟨sa5, sn5, sc5, hv5, hn5⟩ := own_form S5.out.own; subst hv5; have HN5 := Lib.hid hn5; clear hn5))
          go_roundw
          case rel => exact ⟨j + 1, by have := HON.out; have := HJM.out; omega, by have := S5.out; rwa [List.append_assoc, ← List.replicate_succ'] at this⟩
          case measure =>
            have h1 := HN5.out
            rw [List.length_append, List.length_append, HLR.out, List.length_replicate] at h1
            have h2 := HON.out
            have h3 := HJM.out
            simp at h1 ⊢
            omega
        · have hl4 : decide ((on : Int) < (M : Int)) = false := decide_eq_false (by omega)
          have hjM : j = M - (24 + n) := by omega
          have hfin : R ++ List.replicate j 0 = recL x := by unfold recL; rw [HRR.out, hjM, HMM.out, HN.out]
          have HFIN := Lib.hid hfin
          clear hj hon hjM hfin
          go_wp2_with (go_at_call 35; refine (RZ.out _).mono ?_; rintro e w' ⟨rfl, rfl⟩)
          go_ret2
          exact ⟨⟨_, rfl, by rw [← HFIN.out]; exact own_base (by omega) SJ.out.own⟩, SJ.out.below⟩
  · have he1 : encE x = 1 := by
      unfold encE at he ⊢
      rw [if_neg (by omega)] at he ⊢
      by_cases h5 : x.del = true ∧ 0 < x.data.length
      · rw [if_pos h5]
      · rw [if_neg h5] at he
        exact absurd rfl he
    have hok : okB x = false := by rw [okB_enc, he1]; rfl
    have hl : encL x = [] := by unfold encL; rw [he1]; rfl
    rw [hl, he1]
    rw [hok] at VA
    clear hn hl he1 he h3 hok
    go_enter Tryd.func28, Tryd.ntmps28
    go_wp2_with fail
    refine (VA.out _ HB0.out).mono ?_
    rintro e w2 ⟨rfl, hb2⟩
    have HB2 := Lib.hid (bt HB0.out hb2)
    clear hb2 VA HB0
    go_wp2_with fail
    go_ret2
    exact ⟨⟨_, rfl, own_nil _ _⟩, HB2.out⟩
end Go.Proofs.YtlnccofanicihaaDoor.Gf
