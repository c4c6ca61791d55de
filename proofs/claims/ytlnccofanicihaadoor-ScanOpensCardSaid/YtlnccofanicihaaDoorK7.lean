/- What is proved here: the plain mathematics of superblocks. No program text. What is proved here: the contracts of the reference's Valid and Next, and of near. No condition. What is proved here: the contract of the reference's Encode (layer 7). No condition. What is proved here: the contract of the reference's Decode (layer 7). No condition. What is proved here: what the laws of layer 7 ask of the program; the contract of awake. No condition. -/
import Derived.Test.YtlnccofanicihaaDoorQ6e
import Derived.Test.YtlnccofanicihaaDoorM6
import Derived.Test.YtlnccofanicihaaDoorK6
import Derived.Test.YtlnccofanicihaaDoorQp
import Derived.ArgAppend
import Derived.Lib.SlBytesConst
namespace Go.Proofs.YtlnccofanicihaaDoor.Gf
open Go Go.Proofs.YtlnccofanicihaaDoor.Crc

/-- A superblock is valid. -/
def okS (s g r : Int) : Bool := decide (0 ≤ s) && decide (s < 4) && decide (1 ≤ g) && decide (g ≤ 8) && decide (0 ≤ r) && decide (r < 4294967296)
theorem okS_iff {s g r : Int} : okS s g r = true ↔ 0 ≤ s ∧ s < 4 ∧ 1 ≤ g ∧ g ≤ 8 ∧ 0 ≤ r ∧ r < 4294967296 := by
  unfold okS
  simp only [Bool.and_eq_true, decide_eq_true_eq]
  constructor
  · rintro ⟨⟨⟨⟨⟨h1, h2⟩, h3⟩, h4⟩, h5⟩, h6⟩; exact ⟨h1, h2, h3, h4, h5, h6⟩
  · rintro ⟨h1, h2, h3, h4, h5, h6⟩; exact ⟨⟨⟨⟨⟨h1, h2⟩, h3⟩, h4⟩, h5⟩, h6⟩
def bodS (s g r : Nat) : List Nat := [78, 86, 79, 76] ++ beL 2 s ++ beL 2 g ++ beL 4 r
def encS (s g r : Nat) : List Nat := bodS s g r ++ leL (ext 0 (bodS s g r))
theorem bodS_length (s g r : Nat) : (bodS s g r).length = 12 := by simp [bodS, beL_length]
theorem encS_length (s g r : Nat) : (encS s g r).length = 16 := by simp [encS, bodS_length, leL_length]
theorem bodS_lt (s g r : Nat) : ∀ b ∈ bodS s g r, b < 256 := fun b hb => by
  simp only [bodS, List.mem_append, List.mem_cons, List.not_mem_nil, or_false] at hb
  rcases hb with (((h | h | h | h) | h) | h) | h
  · omega
  · omega
  · omega
  · omega
  all_goals exact beL_lt _ _ _ h
theorem encS_lt (s g r : Nat) : ∀ b ∈ encS s g r, b < 256 := fun b hb => by
  rcases List.mem_append.1 hb with hb | hb
  · exact bodS_lt s g r b hb
  · exact leL_lt _ b hb
def slS (l : List Nat) : Nat := valL ((l.drop 4).take 2)
def gnS (l : List Nat) : Nat := valL ((l.drop 6).take 2)
def rvS (l : List Nat) : Nat := valL ((l.drop 8).take 4)
open Classical in
/-- What Decode answers: the error. -/
noncomputable def dE7 (l : List Nat) : Nat := if l.length < 16 then 4 else if l.take 4 ≠ [78, 86, 79, 76] then 3 else if leL (ext 0 (l.take 12)) ≠ (l.drop 12).take 4 then 5 else if okS (slS l) (gnS l) (rvS l) = false then 3 else 0
theorem d7_of {l : List Nat} (h : dE7 l = 0) : ¬ l.length < 16 ∧ l.take 4 = [78, 86, 79, 76] ∧ leL (ext 0 (l.take 12)) = (l.drop 12).take 4 ∧ okS (slS l) (gnS l) (rvS l) = true := by
  unfold dE7 at h
  by_cases h1 : l.length < 16
  · rw [if_pos h1] at h; cases h
  rw [if_neg h1] at h
  by_cases h2 : l.take 4 = [78, 86, 79, 76]
  case neg => rw [if_pos h2] at h; cases h
  rw [if_neg (not_not_intro h2)] at h
  by_cases h3 : leL (ext 0 (l.take 12)) = (l.drop 12).take 4
  case neg => rw [if_pos h3] at h; cases h
  rw [if_neg (not_not_intro h3)] at h
  by_cases h4 : okS (slS l) (gnS l) (rvS l) = false
  · rw [if_pos h4] at h; cases h
  exact ⟨h1, h2, h3, by simpa using h4⟩
theorem d7_ok {l : List Nat} (h1 : ¬ l.length < 16) (h2 : l.take 4 = [78, 86, 79, 76]) (h3 : leL (ext 0 (l.take 12)) = (l.drop 12).take 4) (h4 : okS (slS l) (gnS l) (rvS l) = true) : dE7 l = 0 := by
  unfold dE7
  rw [if_neg h1, if_neg (not_not_intro h2), if_neg (not_not_intro h3), if_neg (by rw [h4]; decide)]
theorem take_pre {A T : List Nat} {n : Nat} (h : A.length = n) : (A ++ T).take n = A := by
  rw [← h]; exact List.take_left
theorem drop_pre {A T : List Nat} {n : Nat} (h : A.length = n) : (A ++ T).drop n = T := by
  rw [← h]; exact List.drop_left
/-- A superblock is read back, whatever follows it. -/
theorem back7 {s g r : Nat} (h : okS s g r = true) (T : List Nat) : dE7 (encS s g r ++ T) = 0 ∧ slS (encS s g r ++ T) = s ∧ gnS (encS s g r ++ T) = g ∧ rvS (encS s g r ++ T) = r := by
  obtain ⟨-, h2, -, h4, -, h6⟩ := okS_iff.1 h
  have e0 : encS s g r ++ T = [78, 86, 79, 76] ++ (beL 2 s ++ (beL 2 g ++ (beL 4 r ++ (leL (ext 0 (bodS s g r)) ++ T)))) := by simp [encS, bodS]
  have e1 : (encS s g r ++ T).drop 4 = beL 2 s ++ (beL 2 g ++ (beL 4 r ++ (leL (ext 0 (bodS s g r)) ++ T))) := by rw [e0]; exact drop_pre rfl
  have e2 : (encS s g r ++ T).drop 6 = beL 2 g ++ (beL 4 r ++ (leL (ext 0 (bodS s g r)) ++ T)) := by
    rw [show 6 = 4 + 2 from rfl, ← List.drop_drop, e1]; exact drop_pre (beL_length _ _)
  have e3 : (encS s g r ++ T).drop 8 = beL 4 r ++ (leL (ext 0 (bodS s g r)) ++ T) := by
    rw [show 8 = 6 + 2 from rfl, ← List.drop_drop, e2]; exact drop_pre (beL_length _ _)
  have a1 : slS (encS s g r ++ T) = s := by
    unfold slS; rw [e1, take_pre (beL_length _ _)]; exact val_beL _ _ (by omega)
  have a2 : gnS (encS s g r ++ T) = g := by
    unfold gnS; rw [e2, take_pre (beL_length _ _)]; exact val_beL _ _ (by omega)
  have a3 : rvS (encS s g r ++ T) = r := by
    unfold rvS; rw [e3, take_pre (beL_length _ _)]; exact val_beL _ _ (by omega)
  have e4 : encS s g r ++ T = bodS s g r ++ (leL (ext 0 (bodS s g r)) ++ T) := by simp [encS]
  refine ⟨d7_ok (by rw [List.length_append, encS_length]; omega) (by rw [e0]; exact take_pre rfl) ?_ (by rw [a1, a2, a3]; exact h), a1, a2, a3⟩
  rw [e4, take_pre (bodS_length _ _ _), drop_pre (bodS_length _ _ _), take_pre (leL_length _)]
/-- What is accepted of 16 bytes that differ from a superblock in a burst is the superblock. -/
theorem burst7 {s g r : Nat} {c : List Nat} {f k : Nat} (hc : ∀ b ∈ c, b < 256) (hlen : c.length = 16) (hf : f < 4294967296) (hn : num c = num (encS s g r) ^^^ f * 2 ^ k) (h0 : dE7 c = 0) : c = encS s g r := by
  obtain ⟨-, -, u3, -⟩ := d7_of h0
  have hcut : c = c.take 12 ++ leL (ext 0 (c.take 12)) := by
    rw [u3, show (c.drop 12).take 4 = c.drop 12 from List.take_of_length_le (by rw [List.length_drop, hlen]; decide), List.take_append_drop]
  have hct : ∀ b ∈ c.take 12, b < 256 := fun b hb => hc b (List.mem_of_mem_take hb)
  refine num_inj (by rw [hlen, encS_length]) hc (encS_lt s g r) ?_
  have cx := run_check (bodS_lt s g r)
  have cy := run_check hct
  rw [← hcut] at cy
  rw [show bodS s g r ++ leL (ext 0 (bodS s g r)) = encS s g r from rfl] at cx
  rw [run_num _ _ (encS_lt s g r), encS_length] at cx
  rw [run_num _ _ hc, hlen, hn] at cy
  have lA := num_lt _ (encS_lt s g r)
  have lC := num_lt _ hc
  rw [encS_length, show (256 : Nat) = 2 ^ 8 from rfl, ← Nat.pow_mul] at lA
  rw [hlen, show (256 : Nat) = 2 ^ 8 from rfl, ← Nat.pow_mul] at lC
  generalize num (encS s g r) = A at *
  have e : sgn (8 * 16) (f * 2 ^ k) = 0 := by
    rw [← Nat.xor_assoc, sgn_xor, cx] at cy
    have := congrArg (fun z => sgn 32 4294967295 ^^^ z) cy
    simpa [xor_self_left] using this
  have hz : f * 2 ^ k = 0 := by
    by_cases hk : k ≤ 128
    · rw [show 8 * 16 = k + (128 - k) by omega, sgn_add, Nat.mul_comm f, sgn_pow] at e
      rw [sgn_inj hf e, Nat.zero_mul]
    · have h3 : f * 2 ^ k < 2 ^ (8 * 16) := by
        have := Nat.xor_lt_two_pow lA lC
        rwa [hn, xor_self_left] at this
      have h4 : 2 ^ (8 * 16) ≤ 2 ^ k := Nat.pow_le_pow_right (by decide) (by omega)
      match f with
      | 0 => exact Nat.zero_mul _
      | f + 1 =>
        rw [Nat.add_mul, Nat.one_mul] at h3
        omega
  rw [hn, hz, Nat.xor_zero]
end Go.Proofs.YtlnccofanicihaaDoor.Gf

namespace Go.Proofs.YtlnccofanicihaaDoor.Gf
open Go Go.ChangeShapes Go.WideShapes Go.ChangeAt Go.RowKit Go.Proofs.YtlnccofanicihaaDoor.By Go.Proofs.YtlnccofanicihaaDoor.Crc

/-- A superblock as a value. -/
def SV (s g r : Int) : Value := .agg #[.int .i64 s, .int .i64 g, .int .i64 r]
def J64 (n : Int) : Prop := -9223372036854775808 ≤ n ∧ n ≤ 9223372036854775807
theorem info7 : (Tryd.prog.info? 30).map (·.size) = some 3 := by kernel_rfl
set_option maxRecDepth 100000 in
theorem rvalid7_any (s g r : Int) (w : World) : Calls Tryd.prog 44 #[SV s g r] w fun e w' => e = .returned (.bool (okS s g r)) ∧ Below w.heap.size w w' := by
  have HB := Lib.hid ((Below.refl w.heap.size w).alloc (Nat.le_refl _) (.cells #[.int .i64 s, .int .i64 g, .int .i64 r] 30))
  unfold SV okS
  obtain ⟨d1, hd1⟩ : ∃ b, decide (0 ≤ s) = b := ⟨_, rfl⟩
  obtain ⟨d2, hd2⟩ : ∃ b, decide (s < 4) = b := ⟨_, rfl⟩
  obtain ⟨d3, hd3⟩ : ∃ b, decide (1 ≤ g) = b := ⟨_, rfl⟩
  obtain ⟨d4, hd4⟩ : ∃ b, decide (g ≤ 8) = b := ⟨_, rfl⟩
  obtain ⟨d5, hd5⟩ : ∃ b, decide (0 ≤ r) = b := ⟨_, rfl⟩
  obtain ⟨d6, hd6⟩ : ∃ b, decide (r < 4294967296) = b := ⟨_, rfl⟩
  rw [hd1, hd2, hd3, hd4, hd5, hd6]
  cases d1
  · clear hd2 hd3 hd4 hd5 hd6
    go_enter Tryd.func44, Tryd.ntmps44
    go_wp2
    go_ret
    exact ⟨rfl, HB.out⟩
  cases d2
  · clear hd3 hd4 hd5 hd6
    go_enter Tryd.func44, Tryd.ntmps44
    go_wp2
    go_ret
    exact ⟨rfl, HB.out⟩
  cases d3
  · clear hd4 hd5 hd6
    go_enter Tryd.func44, Tryd.ntmps44
    go_wp2
    go_ret
    exact ⟨rfl, HB.out⟩
  cases d4
  · clear hd5 hd6
    go_enter Tryd.func44, Tryd.ntmps44
    go_wp2
    go_ret
    exact ⟨rfl, HB.out⟩
  cases d5
  · clear hd6
    go_enter Tryd.func44, Tryd.ntmps44
    go_wp2
    go_ret
    exact ⟨rfl, HB.out⟩
  cases d6
  all_goals
    go_enter Tryd.func44, Tryd.ntmps44
    go_wp2
    go_ret
    exact ⟨rfl, HB.out⟩
theorem and_low (r : Int) (k : Nat) (hk : k ≤ 32) : bits .and .i64 r ((2 : Int) ^ k - 1) = r % 2 ^ k := by
  have hp : (2 : Nat) ^ k ≤ 2 ^ 32 := Nat.pow_le_pow_right (by decide) hk
  have hp1 : 1 ≤ (2 : Nat) ^ k := Nat.one_le_two_pow
  have e0 : ((2 : Int) ^ k - 1) = ((2 ^ k - 1 : Nat) : Int) := by rw [Int.natCast_sub hp1]; simp
  have e1 : (BitVec.ofInt 64 r).toNat = (r % 18446744073709551616).toNat := by rw [BitVec.toNat_ofInt]; rfl
  have e2 : (BitVec.ofInt 64 ((2 : Int) ^ k - 1)).toNat = 2 ^ k - 1 := by
    rw [e0, BitVec.toNat_ofInt]
    omega
  have e3 : (BitVec.ofInt 64 r &&& BitVec.ofInt 64 ((2 : Int) ^ k - 1)).toNat = (r % 18446744073709551616).toNat % 2 ^ k := by rw [BitVec.toNat_and, e1, e2]; exact Nat.and_two_pow_sub_one_eq_mod _ k
  show IntKind.i64.wrap ((BitVec.ofInt 64 r &&& BitVec.ofInt 64 ((2 : Int) ^ k - 1)).toNat : Int) = _
  have hd : (2 : Int) ^ k ∣ 18446744073709551616 := by
    rw [show (18446744073709551616 : Int) = 2 ^ k * 2 ^ (64 - k) by rw [← Int.pow_add, show k + (64 - k) = 64 by omega]; rfl]
    exact Int.dvd_mul_right _ _
  have hc : ((2 : Int) ^ k) = ((2 ^ k : Nat) : Int) := by simp
  have e4 : (((r % 18446744073709551616).toNat % 2 ^ k : Nat) : Int) = r % 2 ^ k := by
    rw [Int.natCast_emod, Int.toNat_of_nonneg (by omega), ← hc, Int.emod_emod_of_dvd _ hd]
  have hb := Int.emod_lt_of_pos r (show (0 : Int) < 2 ^ k by rw [hc]; omega)
  have hb0 := Int.emod_nonneg r (show (2 : Int) ^ k ≠ 0 by rw [hc]; omega)
  rw [e3, e4, IntKind.wrap_i64]
  rw [hc] at hb hb0 ⊢
  generalize r % ((2 ^ k : Nat) : Int) = z at *
  omega
theorem b2' (w : World) (A B : Obj) : Below w.heap.size w ((w.alloc A).alloc B) := ((Below.refl _ _).alloc (Nat.le_refl _) _).alloc (by simp) _
/-- What Next answers. -/
def nxE (s g r : Int) : Int := if okS s g r = true then (if okS s g (r + 1) = true then 0 else 2) else 1
def nxV (s g r : Int) : Value := if nxE s g r = 0 then SV s g (r + 1) else SV 0 0 0
theorem results_rt {P : Program} {fn : Func} {p q : Tmp} {S : TypeId} (h : fn.results = #[.cell p S, .tmp q]) (tmps : Array Value) (w : World) (g : Nat) (cs : Array Value) {d : TypeDesc}
    (hp : tmps.getD p undef = .pointer (some ⟨g, 0, none⟩)) (hg : w.heap[g]? = some (.cells cs S (0, 0)))
    (hu : P.underlying S = some d) (hd : (match d with | .struct _ | .array _ _ => true | _ => false) = true) (hi : (P.info? S).map (·.size) = some cs.size) :
    (results fn tmps).run P w = .ok (.tuple #[.agg cs, tmps.getD q undef]) w := by
  have hp' : tmps[p]?.getD undef = .pointer (some ⟨g, 0, none⟩) := by simpa using hp
  simp [results, h, hp', asAddr, run_loadVar_row w g S S cs (0, 0) d hg hu hd hi]
theorem set3 {W : World} {g : Nat} {a b c k l m : Value} {T : TypeId} (h : W.heap[g]? = some (.cells #[a, b, c] T (0, 0))) : (((W.setCell ⟨g, 0, none⟩ k).setCell ⟨g, 1, none⟩ l).setCell ⟨g, 2, none⟩ m).heap[g]? = some (.cells #[k, l, m] T (0, 0)) := by
  have h1 := heap_setCell_same W g 0 _ _ k h
  have h2 := heap_setCell_same _ g 1 _ _ l h1
  exact heap_setCell_same _ g 2 _ _ m h2
theorem below3 {B : Nat} {w W : World} {g : Nat} {k l m : Value} (h : Below B w W) (hg : B ≤ g) : Below B w (((W.setCell ⟨g, 0, none⟩ k).setCell ⟨g, 1, none⟩ l).setCell ⟨g, 2, none⟩ m) :=
  ((h.setCell (p := ⟨g, 0, none⟩) hg _).setCell (p := ⟨g, 1, none⟩) hg _).setCell (p := ⟨g, 2, none⟩) hg _
theorem bx3 {W : World} {g : Nat} {k c d : Value} {T : TypeId} (h : W.heap[g]? = some (.cells #[k, c, d] T (0, 0))) : W.cell? ⟨g, 0, none⟩ = some k ∧ W.cell? ⟨g, 1, none⟩ = some c ∧ W.cell? ⟨g, 2, none⟩ = some d ∧ W.frozen? ⟨g, 0, none⟩ = false ∧ W.frozen? ⟨g, 1, none⟩ = false ∧ W.frozen? ⟨g, 2, none⟩ = false :=
  ⟨cell_of_row W g 0 _ _ _ h, cell_of_row W g 1 _ _ _ h, cell_of_row W g 2 _ _ _ h, frozen_of_row W g 0 _ _ h, frozen_of_row W g 1 _ _ h, frozen_of_row W g 2 _ _ h⟩
end Go.Proofs.YtlnccofanicihaaDoor.Gf

namespace Go.Proofs.YtlnccofanicihaaDoor.Gf
open Go Go.ChangeShapes Go.WideShapes Go.ChangeAt Go.RowKit Go.Proofs.YtlnccofanicihaaDoor.By Go.Proofs.YtlnccofanicihaaDoor.Crc Go.Proofs.YtlnccofanicihaaDoor.Qt

/-- What a function that boxes its parameter and collects bytes has between two steps. -/
structure St7 (w W : World) (bx : Array Value) (v : Value) (L : List Nat) : Prop where
  below : Below w.heap.size w W
  box : W.heap[w.heap.size]? = some (.cells bx 30 (0, 0))
  own : Own W (w.heap.size + 1) v L
structure SB (w : World) (bx : Array Value) (W : World) : Prop where
  below : Below w.heap.size w W
  box : W.heap[w.heap.size]? = some (.cells bx 30 (0, 0))
theorem St7.later {w W W' : World} {bx : Array Value} {v : Value} {L : List Nat} (h : St7 w W bx v L) (hb : Below W.heap.size W W') : St7 w W' bx v L :=
  ⟨bt h.below hb, (hb.block _ (lt_of_some h.box)).trans h.box, own_below' h.own hb⟩
theorem St7.app {w W W' : World} {bx : Array Value} {v v' : Value} {L L' : List Nat} (h : St7 w W bx v L) (hg : W.grownBy W' v.ownBlock) (ho : Own W' (w.heap.size + 1) v' L') : St7 w W' bx v' L' :=
  ⟨h.below.grown hg h.below.size fun q hq => by have := h.own.lt q hq; omega, (hg.block _ (lt_of_some h.box) fun e => by have := h.own.lt _ e.symm; omega).trans h.box, ho⟩
theorem St7.size {w W : World} {bx : Array Value} {v : Value} {L : List Nat} (h : St7 w W bx v L) : w.heap.size + 1 ≤ W.heap.size := lt_of_some h.box
/-- append to a slice that has no room, whoever's it is. -/
theorem app_full {ops : Array Oper} {rest : List Oper} {dst : Option Tmp} {s x : Operand} {pos : String} {after : Array Edge} {ty : TypeId} {a : Act} {W : World} {Q : Exit → Act → World → Prop}
    {g o cap : Nat} {y : Value} {l m : List Nat} (hs : a.eval s = .slice (some ⟨g, o, none⟩) l.length cap) (hy : a.eval x = y) (hv : Sl W (.slice (some ⟨g, o, none⟩) l.length cap) l) (hl : 0 < l.length) (hx : Sl W y m) (hm : 0 < m.length) (hf : cap < l.length + m.length) (hlm : l.length + m.length ≤ 100000000)
    (h : ∀ v' w', Own w' W.heap.size v' (l ++ m) → W.grownBy w' none → wpList Tryd.prog ops Q rest (a.put dst v') w') : wpList Tryd.prog ops Q (⟨dst, .call { callee := .builtin .append, args := #[s, x], argTypes := #[22, 22] }, ty, pos, after, none⟩ :: rest) a W := by
  refine wpList_plain rfl fun K hK => ?_
  obtain ⟨i, hi, hz0, hz1, hz2⟩ := info_parts infoB
  obtain ⟨b, off, c, rfl, -, -, hc⟩ := sl_cells hx hm
  obtain ⟨b0, off0, c0, hv0, -, -, hc0⟩ := sl_cells hv hl
  obtain ⟨⟨rfl, rfl⟩, rfl⟩ : (g = b0 ∧ o = off0) ∧ cap = c0 := by simpa using hv0
  have cell : ∀ (L : List Nat) (p q : Nat), (∀ k, k < L.length → W.cell? ⟨p, q + k, none⟩ = some (.int .u8 ((L.getD k 0 : Nat) : Int))) → ∀ j u, (cellsOf L)[j]? = some u → W.cell? ((⟨p, q, none⟩ : Addr).add j) = some u := fun L p q hh j u hu => by
    simp only [cellsOf, List.getElem?_map, Option.map_eq_some_iff] at hu
    obtain ⟨n, hn, rfl⟩ := hu
    have hj : j < L.length := (List.getElem?_eq_some_iff.1 hn).1
    rw [Addr.add_lit, hh j hj]
    simp [List.getD, hn]
  obtain ⟨v', w', hr, h2, h3⟩ := run_append_arg_grows (P := Tryd.prog) W 22 ty 5 i (.int .u8 0) 1 1 Tryd.underlying22 hi hz0 hz1 hz2 rfl (by decide) ⟨g, o, none⟩ l.length cap (cellsOf l) (by rw [cellsOf_length, Nat.mul_one]) (cell l g o hc0) ⟨b, off, none⟩ m.length c (cellsOf m) (by rw [cellsOf_length, Nat.mul_one]) (cell m b off hc) hf (by unfold maxLen; omega) (by omega)
  have hall : ∀ z ∈ l ++ m, z < 256 := fun z hz => (List.mem_append.1 hz).elim (hv.1 z) (hx.1 z)
  unfold Oper.wp execOp
  simp only [resolve, invoke, builtin, Sem.run_bind, Sem.run_pure, Result.andThen_ok, List.map_toArray, List.map_cons, List.map_nil, hs, hy, hr]
  exact hK _ _ (h v' w' ⟨hall, by rw [List.length_append, cellsOf_append]; exact h2⟩ h3)
/-- A slice of another call's own stays where an append grows ours. -/
theorem own_grown {W W' : World} {B B2 : Nat} {v u : Value} {L M : List Nat} (h : Own W B u M) (hg : W.grownBy W' v.ownBlock) (_ho : Own W B2 v L) (hs : ∀ q, v.ownBlock = some q → q < B) : Own W' B u M :=
  own_keep h fun k hk => by
    have h1 := h.lt k hk
    have h2 : k < W.heap.size := (h.2.lt k hk).2
    exact hg.block k h2 fun e => by have := hs k e.symm; omega
theorem held_g {P : Program} {ops : Array Oper} {md : Region.Mode} {Q : Exit → Act → World → Prop} {S : World → Prop} {fuel : Nat} {listed : Array Bool} {a : Act} {w : World} (i : Nat) {oi : Oper} (hi : ops[i]? = some oi) (hg : Region.wanted oi (yielded ops a.tmps) = true) (hr : Region.ready md ops listed = [i])
    (h : ∀ K : Act → World → Prop, (∀ a' w', S w' → wpAnyH P md ops Q S fuel (listed.setIfInBounds i true) a' w' → K a' w') → oi.wp P a w K Q) : wpAnyH P md ops Q S (fuel + 1) listed a w := by
  refine wpAnyH_all hr (by simp) fun j hj => ?_
  obtain rfl : j = i := by simpa using hj
  unfold wpOp
  simp only [hi]
  rw [if_pos hg]
  exact Or.inl (h _ fun a' w' h1 h2 => ⟨h1, h2⟩)
set_option maxRecDepth 100000 in
set_option maxHeartbeats 6400000 in
theorem rencode7_ok (s g r : Nat) (w : World) (h : okS s g r = true) : Calls Tryd.prog 27 #[SV s g r] w (EO w (encS s g r) 0) := by
  have RV := Lib.hid (rvalid7_any s g r)
  rw [h] at RV
  obtain ⟨-, h2, -, h4, -, h6⟩ := okS_iff.1 h
  unfold EO
  unfold SV at RV ⊢
  have HB0 := Lib.hid ((Below.refl w.heap.size w).alloc (Nat.le_refl _) (.cells #[.int .i64 (s : Int), .int .i64 (g : Int), .int .i64 (r : Int)] 30))
  have X0 := Lib.hid (heap_alloc_new w (.cells #[.int .i64 (s : Int), .int .i64 (g : Int), .int .i64 (r : Int)] 30))
  clear h
  go_enter Tryd.func27, Tryd.ntmps27
  go_wp2_with fail
  refine (RV.out _).mono ?_
  rintro e W2 ⟨rfl, hb2⟩
  have B2 := Lib.hid (bt HB0.out hb2)
  have X2 := Lib.hid ((hb2.block w.heap.size (lt_of_some X0.out)).trans X0.out)
  have AL := (Below.refl W2.heap.size W2).alloc (Nat.le_refl _) (.cells (cellsOf [78, 86, 79, 76]).toArray 5 (4, 5))
  have hconv := Lib.run_convert_bytes_const (P := Tryd.prog) W2 22 5 (cellsOf [78, 86, 79, 76]).toArray 4 4 Tryd.underlying22 Tryd.underlying5
  have hsn := sl_block (w := W2.alloc (.cells (cellsOf [78, 86, 79, 76]).toArray 5 (4, 5))) (n := 4) (l := [78, 86, 79, 76]) (by simp) rfl (by unfold maxLen; omega) rfl (heap_alloc_new W2 _)
  rw [show (cellsOf [78, 86, 79, 76]).toArray = #[.int .u8 78, .int .u8 86, .int .u8 79, .int .u8 76] from rfl] at hconv AL hsn
  simp only [List.size_toArray, List.length_cons, List.length_nil, Nat.zero_add, Nat.reduceAdd] at hconv
  have SN := Lib.hid hsn
  have BA := Lib.hid (bt B2.out AL)
  have XA := Lib.hid ((AL.block _ (lt_of_some X2.out)).trans X2.out)
  obtain ⟨c0, c1, c2, -, -, -⟩ := bx3 X2.out
  obtain ⟨d0, d1, d2, -, -, -⟩ := bx3 XA.out
  have HRG := Lib.hid (And.intro h2 (And.intro h4 h6))
  have us : IntKind.u64.wrap (s : Int) = (s : Int) := IntWalk.u64_in _ (by omega)
  have ug : IntKind.u64.wrap (g : Int) = (g : Int) := IntWalk.u64_in _ (by omega)
  have ur : IntKind.u64.wrap (r : Int) = (r : Int) := IntWalk.u64_in _ (by omega)
  clear AL hb2 hsn h2 h4 h6
  go_wp2_with fail
  refine (number_any s 2 _ (by omega)).mono ?_
  generalize W2.heap.size = gn at *
  generalize W2.alloc (.cells #[.int .u8 78, .int .u8 86, .int .u8 79, .int .u8 76] 5 (4, 5)) = W3 at *
  rintro e Wa ⟨⟨sa, rfl, hoa⟩, hba⟩
  obtain ⟨aa, na, ca, rfl, -⟩ := own_form hoa
  have OA := Lib.hid hoa
  have SN2 := Lib.hid (sl_below SN.out hba)
  have B4 := Lib.hid (bt BA.out hba)
  have X4 := Lib.hid ((hba.block _ (lt_of_some XA.out)).trans XA.out)
  clear hoa hba c0 c1 c2 d0 d1 d2 hconv
  go_wp2_with (at_builtin; refine app_full (dst := some 14) (l := [78, 86, 79, 76]) (m := beL 2 s) ?_ ?_ SN2.out (by decide) OA.out.sl (by rw [beL_length]; decide) (by rw [beL_length]; decide) (by rw [beL_length]; decide) ?_; exact rfl; exact rfl; intro v5 w5 ho5 hg5; have S5 : Hid (St7 w w5 #[.int .i64 (s : Int), .int .i64 (g : Int), .int .i64 (r : Int)] v5 ([78, 86, 79, 76] ++ beL 2 s)) := ⟨B4.out.grown hg5 B4.out.size (fun q hq => by cases hq), (hg5.block _ (lt_of_some X4.out) (fun e => by cases e)).trans X4.out, own_base (lt_of_some X4.out) ho5⟩; clear ho5 hg5; obtain ⟨sa5, sn5, sc5, hv5, -⟩ := own_form S5.out.own; subst hv5)
  refine wp_onlyN ?_
  have b0 : SB w #[.int .i64 (s : Int), .int .i64 (g : Int), .int .i64 (r : Int)] w5.drew := ⟨S5.out.below.drew, S5.out.box⟩
  have S6 := Lib.hid (S5.out.later (W' := w5.drew) ⟨rfl, rfl, rfl, Nat.le_refl _, fun _ _ => rfl⟩)
  refine wp_region_headsS (SB w #[.int .i64 (s : Int), .int .i64 (g : Int), .int .i64 (r : Int)]) [0, 1, 2, 3, 6, 7, 8] 5 (by kernel_rfl) (fun _ _ _ _ _ h => h.elim) (by kernel_rfl) (by rfl) (by rfl) b0 ?_
  simp only [pickOps, List.filterMap_cons, List.filterMap_nil, List.getElem?_toArray, List.getElem?_cons_zero, List.getElem?_cons_succ]
  refine wpHeads_step (fun K hK => ?_)
  go_simp
  refine ⟨_, fun _ _ => rfl, hK _ ?_⟩
  clear hK K
  refine wpHeads_step (fun K hK => ?_)
  go_simp
  refine ⟨_, fun _ _ => rfl, hK _ ?_⟩
  clear hK K
  refine wpHeads_step (fun K hK => ?_)
  go_simp
  refine ⟨.int .i64 (g : Int), fun w' hw' => by rw [(bx3 hw'.box).2.1]; rfl, hK _ ?_⟩
  clear hK K
  refine wpHeads_step (fun K hK => ?_)
  go_simp
  refine ⟨_, fun _ _ => rfl, hK _ ?_⟩
  clear hK K
  refine wpHeads_step (fun K hK => ?_)
  go_simp
  refine ⟨_, fun _ _ => rfl, hK _ ?_⟩
  clear hK K
  refine wpHeads_step (fun K hK => ?_)
  go_simp
  refine ⟨.int .i64 (r : Int), fun w' hw' => by rw [(bx3 hw'.box).2.2.1]; rfl, hK _ ?_⟩
  clear hK K
  refine wpHeads_step (fun K hK => ?_)
  go_simp
  refine ⟨_, fun _ _ => rfl, hK _ ?_⟩
  clear hK K
  refine wpHeads_nil ?_
  have HS7 : Hid (∀ W v L, St7 w W #[.int .i64 (s : Int), .int .i64 (g : Int), .int .i64 (r : Int)] v L → SB w #[.int .i64 (s : Int), .int .i64 (g : Int), .int .i64 (r : Int)] W) := fun W v L h => ⟨h.below, h.box⟩
  generalize w5.drew = W6 at *
  refine held_one 4 rfl rfl (by kernel_rfl) fun K hK => ?_
  go_simp
  go_at_call 45
  refine (number_any g 2 _ (by omega)).mono ?_
  rintro e W7 ⟨⟨sb, rfl, hob⟩, hbb⟩
  have S7 := Lib.hid (S6.out.later hbb)
  obtain ⟨ab, nb, cb, rfl, -⟩ := own_form hob
  have OB := Lib.hid hob
  refine hK _ _ (HS7.out _ _ _ S7.out) ?_
  clear hK K hob hbb
  refine held_one 5 rfl rfl (by kernel_rfl) fun K hK => ?_
  refine wp_app rfl rfl S7.out.own OB.out.sl (by simp [beL_length]) S7.out.size ?_
  intro v8 W8 ho8 hg8
  have S8 := Lib.hid (S7.out.app hg8 ho8)
  obtain ⟨a8, n8, c8, rfl, -⟩ := own_form S8.out.own
  refine hK _ _ (HS7.out _ _ _ S8.out) ?_
  clear hK K ho8 hg8
  refine held_one 9 rfl rfl (by kernel_rfl) fun K hK => ?_
  go_simp
  go_at_call 45
  refine (number_any r 4 _ (by omega)).mono ?_
  rintro e W9 ⟨⟨sb, rfl, hob⟩, hbb⟩
  have S9 := Lib.hid (S8.out.later hbb)
  obtain ⟨ad, nd, cd, rfl, -⟩ := own_form hob
  have OD := Lib.hid hob
  refine hK _ _ (HS7.out _ _ _ S9.out) ?_
  clear hK K hob hbb
  refine held_one 10 rfl rfl (by kernel_rfl) fun K hK => ?_
  refine wp_app rfl rfl S9.out.own OD.out.sl (by simp [beL_length]) S9.out.size ?_
  intro v10 W10 ho10 hg10
  have S10 := Lib.hid (S9.out.app hg10 ho10)
  obtain ⟨a10, n10, c10, rfl, -⟩ := own_form S10.out.own
  refine hK _ _ (HS7.out _ _ _ S10.out) ?_
  clear hK K ho10 hg10
  refine held_one 11 rfl rfl (by kernel_rfl) fun K hK => ?_
  go_simp
  refine hK _ _ (HS7.out _ _ _ S10.out) ?_
  clear hK K
  refine wpAnyH_done (by kernel_rfl) ?_ _
  unfold onlyN
  dsimp only
  rw [show [78, 86, 79, 76] ++ beL 2 s ++ beL 2 g ++ beL 4 r = bodS s g r from rfl] at S10
  go_wp2_with fail
  refine (check_any _ _ _ S10.out.own.sl).mono ?_
  rintro e W11 ⟨⟨sc, rfl, hoc⟩, hbc⟩
  have S11 := Lib.hid (S10.out.later hbc)
  obtain ⟨af, nf, cf, rfl, -⟩ := own_form hoc
  have OF := Lib.hid hoc
  clear hoc hbc
  go_wp2_with (at_builtin; refine app_sl (dst := some 29) ?_ ?_ S11.out.own OF.out.sl (by simp [bodS_length, leL_length]) S11.out.size ?_; exact rfl; exact rfl; intro v12 w12 ho12 hg12; have S12 := Lib.hid (S11.out.app hg12 ho12); clear ho12 hg12)
  go_ret2
  exact ⟨⟨_, rfl, own_base (by omega) S12.out.own⟩, S12.out.below⟩
set_option maxRecDepth 100000 in
theorem rencode7_bad (s g r : Int) (w : World) (h : okS s g r = false) : Calls Tryd.prog 27 #[SV s g r] w (EO w [] 1) := by
  have RV := Lib.hid (rvalid7_any s g r)
  rw [h] at RV
  unfold EO
  unfold SV at RV ⊢
  have HB0 := Lib.hid ((Below.refl w.heap.size w).alloc (Nat.le_refl _) (.cells #[.int .i64 s, .int .i64 g, .int .i64 r] 30))
  clear h
  go_enter Tryd.func27, Tryd.ntmps27
  go_wp2_with fail
  refine (RV.out _).mono ?_
  rintro e W2 ⟨rfl, hb2⟩
  have B2 := Lib.hid (bt HB0.out hb2)
  clear hb2
  go_wp2
  go_ret2
  exact ⟨⟨_, rfl, own_nil _ _⟩, B2.out⟩
end Go.Proofs.YtlnccofanicihaaDoor.Gf

namespace Go.Proofs.YtlnccofanicihaaDoor.Gf
open Go Go.ChangeShapes Go.WideShapes Go.ChangeAt Go.RowKit Go.Proofs.YtlnccofanicihaaDoor.By Go.Proofs.YtlnccofanicihaaDoor.Crc Go.Proofs.YtlnccofanicihaaDoor.Qt

noncomputable def dX7 (l : List Nat) : Value := if dE7 l = 0 then SV (slS l) (gnS l) (rvS l) else SV 0 0 0
theorem set3_other {W : World} {g q : Nat} {k l m : Value} (hne : q ≠ g) : (((W.setCell ⟨g, 0, none⟩ k).setCell ⟨g, 1, none⟩ l).setCell ⟨g, 2, none⟩ m).heap[q]? = W.heap[q]? := by
  rw [heap_setCell_other _ _ _ _ hne, heap_setCell_other _ _ _ _ hne, heap_setCell_other _ _ _ _ hne]
/-- A call that answers a superblock and an error. -/
def DS (w : World) (v : Value) (err : Nat) (e : Ending) (w' : World) : Prop := e = .returned (.tuple #[v, .int .i64 (err : Int)]) ∧ Below w.heap.size w w'
theorem d7_cases {l : List Nat} (h1 : ¬ l.length < 16) : (¬ l.take 4 = [78, 86, 79, 76] → dE7 l = 3) ∧ (l.take 4 = [78, 86, 79, 76] → (¬ leL (ext 0 (l.take 12)) = (l.drop 12).take 4 → dE7 l = 5) ∧ (leL (ext 0 (l.take 12)) = (l.drop 12).take 4 → (okS (slS l) (gnS l) (rvS l) = false → dE7 l = 3) ∧ (okS (slS l) (gnS l) (rvS l) = true → dE7 l = 0))) := by
  unfold dE7
  rw [if_neg h1]
  refine ⟨fun h => by rw [if_pos h], fun h2 => ⟨fun h => by rw [if_neg (not_not_intro h2), if_pos h], fun h3 => ⟨fun h => by rw [if_neg (not_not_intro h2), if_neg (not_not_intro h3), if_pos h], fun h => by rw [if_neg (not_not_intro h2), if_neg (not_not_intro h3), if_neg (by rw [h]; decide)]⟩⟩⟩
theorem rdec7_end {R : Ending → World → Prop} {W : World} {g : Nat} {tmps : Array Value} {k c d : Value} (hp : tmps.getD 2 undef = .pointer (some ⟨g, 0, none⟩)) (hg : W.heap[g]? = some (.cells #[k, c, d] 30 (0, 0)))
    (hR : R (.returned (.tuple #[.agg #[k, c, d], tmps.getD 3 undef])) W) : bodyPost Tryd.prog Tryd.f30 R .ret { tmps := tmps, defers := [] } W :=
  bodyPost_ret (results_rt rfl _ _ g #[k, c, d] hp hg Tryd.underlying30 rfl info7) rfl hR
theorem err7 {w W : World} {l : List Nat} {err : Nat} (he : dE7 l = err) (h0 : err ≠ 0) (hb : Below w.heap.size w W) : Ending.returned (.tuple #[.agg #[.int .i64 0, .int .i64 0, .int .i64 0], .int .i64 (err : Int)]) = .returned (.tuple #[dX7 l, .int .i64 ((dE7 l : Nat) : Int)]) ∧ Below w.heap.size w W := by
  have hx : dX7 l = SV 0 0 0 := by unfold dX7; rw [if_neg (by rw [he]; exact h0)]
  rw [he, hx]
  exact ⟨rfl, hb⟩
theorem seg_small {l : List Nat} (h : ∀ b ∈ l, b < 256) (p n : Nat) : valL ((l.drop p).take n) < 256 ^ n := by
  have h1 := valL_lt _ (mem_seg h p n)
  have h2 : ((l.drop p).take n).length ≤ n := by rw [List.length_take]; omega
  exact Nat.lt_of_lt_of_le h1 (Nat.pow_le_pow_right (by decide) h2)
set_option maxRecDepth 100000 in
set_option maxHeartbeats 6400000 in
theorem rdecode7_any (v : Value) (l : List Nat) (w : World) (s : Sl w v l) : Calls Tryd.prog 30 #[v] w (DS w (dX7 l) (dE7 l)) := by
  have HB0 := Lib.hid ((Below.refl w.heap.size w).alloc (Nat.le_refl _) (.cells #[.int .i64 0, .int .i64 0, .int .i64 0] 30))
  have X0 := Lib.hid (heap_alloc_new w (.cells #[.int .i64 0, .int .i64 0, .int .i64 0] 30))
  unfold DS
  by_cases hsh : l.length < 16
  · have HE : Hid (dE7 l = 4) := by show _ = _; unfold dE7; rw [if_pos hsh]
    obtain ⟨a, c, rfl, -, -⟩ := sl_form s
    obtain ⟨n, hn⟩ : ∃ n, n = l.length := ⟨_, rfl⟩
    rw [← hn] at hsh ⊢
    have g1 : decide ((n : Int) < 16) = true := decide_eq_true (by omega)
    clear s hn
    go_enter Tryd.func30, Tryd.ntmps30
    go_wp2
    exact rdec7_end (g := w.heap.size) rfl (heap_alloc_new w _) (err7 (err := 4) HE.out (by decide) HB0.out)
  have HD := Lib.hid (d7_cases hsh)
  obtain ⟨b, o, c, hv, hc1, hc2, hk⟩ := sl_cells s (by omega)
  obtain ⟨n, hn⟩ : ∃ n, n = l.length := ⟨_, rfl⟩
  rw [← hn] at hv hsh hc1
  subst hv
  have g1 : decide ((n : Int) < 16) = false := decide_eq_false (by omega)
  have HCUT : Hid (∀ p q, p + q ≤ n → ∀ W, Below w.heap.size w W → Sl W (.slice (some ⟨b, o + p, none⟩) q (c - p)) ((l.drop p).take q)) := fun p q hpq W hW =>
    sl_below (sl_cut (w := w) (p := p) (c := q) s.1 hn.symm hc2 hc1 (by rw [hn]; exact hk) hpq) hW
  have H16 : Hid (16 ≤ n) := by show 16 ≤ n; omega
  have HL := Lib.hid s.1
  have HNL := Lib.hid hn
  have k4 := conv_sl (HCUT.out 0 4 (by omega) _ HB0.out)
  rw [Nat.add_zero, Nat.sub_zero, List.drop_zero] at k4
  have he4 := str_eq (mem_take s.1 4) (show ∀ x ∈ [78, 86, 79, 76], x < 256 by simp)
  have p4 : (4 : Int) ≤ (c : Int) := by omega
  have p12 : (12 : Int) ≤ (c : Int) ∧ (16 : Int) ≤ (c : Int) ∧ (6 : Int) ≤ (c : Int) ∧ (8 : Int) ≤ (c : Int) := by omega
  have q4 : ¬ c = 4 := by omega
  have q12 : ¬ c = 12 := by omega
  have q6 : ¬ c = 6 := by omega
  have q8 : ¬ c = 8 := by omega
  rw [show (strOf [78, 86, 79, 76]).toList = [78, 86, 79, 76] by rw [ByteArray.toList_eq]; rfl] at he4
  clear s hk hn hsh hc1 hc2
  by_cases hm : l.take 4 = [78, 86, 79, 76]
  case neg =>
    rw [decide_eq_false hm] at he4
    have HE := Lib.hid (HD.out.1 hm)
    clear hm
    generalize strOf (l.take 4) = T4 at *
    go_enter Tryd.func30, Tryd.ntmps30
    go_wp2_with fail
    exact rdec7_end (g := w.heap.size) rfl (heap_alloc_new w _) (err7 (err := 3) HE.out (by decide) HB0.out)
  rw [decide_eq_true hm] at he4
  have HD2 := Lib.hid (HD.out.2 hm)
  have hse := fun W (hW : Below w.heap.size w W) => HCUT.out 12 4 (by have := H16.out; omega) W hW
  have S12 := Lib.hid (fun W (hW : Below w.heap.size w W) => (by have h := HCUT.out 0 12 (by have := H16.out; omega) W hW; rwa [Nat.add_zero, Nat.sub_zero, List.drop_zero] at h : Sl W (.slice (some ⟨b, o, none⟩) 12 c) (l.take 12)))
  have S16 := Lib.hid hse
  clear hm hse HD
  generalize strOf (l.take 4) = T4 at *
  go_enter Tryd.func30, Tryd.ntmps30
  go_wp2_with fail
  clear k4 he4
  have B0 := Lib.hid HB0.out
  have hbox := X0.out
  generalize w.alloc (.cells #[.int .i64 0, .int .i64 0, .int .i64 0] 30) = W0 at *
  refine wp_onlyN ?_
  refine wp_region_headsS (fun w' => Below w.heap.size w w') [0, 1, 4, 5, 6] 3 (by kernel_rfl) (fun _ _ _ _ _ h => h.elim) (by kernel_rfl) (by rfl) (by rfl) HB0.out.drew ?_
  simp only [pickOps, List.filterMap_cons, List.filterMap_nil, List.getElem?_toArray, List.getElem?_cons_zero, List.getElem?_cons_succ]
  refine wpHeads_step (fun K hK => ?_)
  go_simp
  refine ⟨_, fun _ _ => rfl, hK _ ?_⟩
  clear hK K
  refine wpHeads_step (fun K hK => ?_)
  go_simp
  refine ⟨_, fun _ _ => rfl, hK _ ?_⟩
  clear hK K
  refine wpHeads_step (fun K hK => ?_)
  go_simp
  refine ⟨_, fun _ _ => rfl, hK _ ?_⟩
  clear hK K
  refine wpHeads_step (fun K hK => ?_)
  go_simp
  refine ⟨_, fun _ _ => rfl, hK _ ?_⟩
  clear hK K
  refine wpHeads_step (fun K hK => ?_)
  go_simp
  refine ⟨.string (strOf ((l.drop 12).take 4)), fun w' hw' => by rw [conv_sl (S16.out w' hw')]; rfl, hK _ ?_⟩
  clear hK K
  refine wpHeads_nil ?_
  refine held_one 2 rfl rfl (by kernel_rfl) fun K hK => ?_
  go_simp
  go_at_call 46
  refine (check_any _ _ _ (S12.out _ HB0.out.drew)).mono ?_
  rintro e W3 ⟨⟨s3, rfl, ho3⟩, hb3⟩
  have b3 := bt HB0.out.drew hb3
  have x3 : W3.heap[w.heap.size]? = _ := (hb3.block _ (lt_of_some hbox)).trans hbox
  refine hK _ _ b3 ?_
  clear hK K hb3
  obtain ⟨aa, na, ca, rfl, -⟩ := own_form ho3
  have u1 := conv_sl ho3.sl
  refine held_one 3 rfl rfl (by kernel_rfl) fun K hK => ?_
  go_simp
  refine hK _ _ b3 ?_
  clear hK K
  have hseq := str_eq ho3.sl.1 (S16.out w (Below.refl _ _)).1
  generalize hD : decide (leL (ext 0 (l.take 12)) = (l.drop 12).take 4) = D at hseq
  generalize strOf (leL (ext 0 (l.take 12))) = T1 at *
  generalize strOf ((l.drop 12).take 4) = T2 at *
  refine held_one 7 rfl rfl (by kernel_rfl) fun K hK => ?_
  go_simp
  refine hK _ _ b3 ?_
  clear hK K u1
  refine wpAnyH_done (by kernel_rfl) ?_ _
  unfold onlyN
  dsimp only
  have B3 := Lib.hid b3
  have X3 := Lib.hid x3
  clear b3 x3 ho3 hbox
  by_cases hck : leL (ext 0 (l.take 12)) = (l.drop 12).take 4
  case neg =>
    obtain rfl : D = false := by rw [← hD]; exact decide_eq_false hck
    have HE := Lib.hid (HD2.out.1 hck)
    rw [Bool.not_false]
    obtain ⟨u0, u1, u2, z0, z1, z2⟩ := bx3 X3.out
    clear hck hD hseq
    go_wp2_with fail
    exact rdec7_end (g := w.heap.size) rfl (set3 X3.out) (err7 (err := 5) HE.out (by decide) (below3 B3.out (Nat.le_refl _)))
  obtain rfl : D = true := by rw [← hD]; exact decide_eq_true hck
  have HD3 := Lib.hid (HD2.out.2 hck)
  rw [Bool.not_true]
  clear hck hD hseq HD2
  go_wp2_with fail
  have V4 := Lib.hid (fun W (hW : Below w.heap.size w W) => rvalue_any _ _ W (HCUT.out 4 2 (by have := H16.out; omega) W hW) (by have := H16.out; have := HNL.out; simp; omega) (by simp; omega))
  have V6 := Lib.hid (fun W (hW : Below w.heap.size w W) => rvalue_any _ _ W (HCUT.out 6 2 (by have := H16.out; omega) W hW) (by have := H16.out; have := HNL.out; simp; omega) (by simp; omega))
  have V8 := Lib.hid (fun W (hW : Below w.heap.size w W) => rvalue_any _ _ W (HCUT.out 8 4 (by have := H16.out; omega) W hW) (by have := H16.out; have := HNL.out; simp; omega) (by simp; omega))
  have n4 := seg_small HL.out 4 2
  have n6 := seg_small HL.out 6 2
  have n8 := seg_small HL.out 8 4
  have HDX : Hid (∀ e : Nat, dE7 l = e → dX7 l = if e = 0 then SV ((valL ((l.drop 4).take 2) : Nat) : Int) ((valL ((l.drop 6).take 2) : Nat) : Int) ((valL ((l.drop 8).take 4) : Nat) : Int) else SV 0 0 0) := fun e he => by unfold dX7; rw [he]; rfl
  have HD4 : Hid ((okS ((valL ((l.drop 4).take 2) : Nat) : Int) ((valL ((l.drop 6).take 2) : Nat) : Int) ((valL ((l.drop 8).take 4) : Nat) : Int) = false → dE7 l = 3) ∧ (okS ((valL ((l.drop 4).take 2) : Nat) : Int) ((valL ((l.drop 6).take 2) : Nat) : Int) ((valL ((l.drop 8).take 4) : Nat) : Int) = true → dE7 l = 0)) := HD3.out
  clear HD3
  generalize valL ((l.drop 4).take 2) = Y4 at *
  generalize valL ((l.drop 6).take 2) = Y6 at *
  generalize valL ((l.drop 8).take 4) = Y8 at *
  have w4 : IntKind.i64.wrap (Y4 : Int) = (Y4 : Int) := IntWalk.i64_in _ (by omega)
  have w6 : IntKind.i64.wrap (Y6 : Int) = (Y6 : Int) := IntWalk.i64_in _ (by omega)
  have w8 : IntKind.i64.wrap (Y8 : Int) = (Y8 : Int) := IntWalk.i64_in _ (by omega)
  have hb0 : Below w.heap.size w W3.drew := B3.out.drew
  have hx0 : W3.drew.heap[w.heap.size]? = _ := X3.out
  clear n4 n6 n8
  refine wp_onlyN ?_
  refine wp_region_headsS (fun w' => Below w.heap.size w w') [0, 1, 4, 5, 8, 9] 9 (by kernel_rfl) (fun _ _ _ _ _ h => h.elim) (by kernel_rfl) (by rfl) (by rfl) hb0 ?_
  simp only [pickOps, List.filterMap_cons, List.filterMap_nil, List.getElem?_toArray, List.getElem?_cons_zero, List.getElem?_cons_succ]
  refine wpHeads_step (fun K hK => ?_)
  go_simp
  refine ⟨_, fun _ _ => rfl, hK _ ?_⟩
  clear hK K
  refine wpHeads_step (fun K hK => ?_)
  go_simp
  refine ⟨_, fun _ _ => rfl, hK _ ?_⟩
  clear hK K
  refine wpHeads_step (fun K hK => ?_)
  go_simp
  refine ⟨_, fun _ _ => rfl, hK _ ?_⟩
  clear hK K
  refine wpHeads_step (fun K hK => ?_)
  go_simp
  refine ⟨_, fun _ _ => rfl, hK _ ?_⟩
  clear hK K
  refine wpHeads_step (fun K hK => ?_)
  go_simp
  refine ⟨_, fun _ _ => rfl, hK _ ?_⟩
  clear hK K
  refine wpHeads_step (fun K hK => ?_)
  go_simp
  refine ⟨_, fun _ _ => rfl, hK _ ?_⟩
  clear hK K
  refine wpHeads_nil ?_
  generalize W3.drew = Y0 at *
  refine held_two 2 13 rfl rfl rfl rfl (by kernel_rfl) (fun K hK => ?_) (fun K hK => ?_)
  · go_simp
    go_at_call 50
    refine (V4.out _ hb0).mono ?_
    rintro e Y ⟨rfl, rfl⟩
    refine hK _ _ hb0 ?_
    clear hK K
    refine wpAnyH_take (i := 3) (v := .int .i64 (IntKind.i64.wrap (Y4 : Int))) rfl (by kernel_rfl) (by kernel_rfl) (by kernel_rfl) (fun _ _ _ h => h) (Or.inl ⟨by kernel_rfl, fun w _ => by rfl⟩) hb0 ?_
    rw [w4]
    refine held_two 6 13 rfl rfl rfl rfl (by kernel_rfl) (fun K hK => ?_) (fun K hK => ?_)
    · go_simp
      go_at_call 50
      refine (V6.out _ hb0).mono ?_
      rintro e Y ⟨rfl, rfl⟩
      refine hK _ _ hb0 ?_
      clear hK K
      refine wpAnyH_take (i := 7) (v := .int .i64 (IntKind.i64.wrap (Y6 : Int))) rfl (by kernel_rfl) (by kernel_rfl) (by kernel_rfl) (fun _ _ _ h => h) (Or.inl ⟨by kernel_rfl, fun w _ => by rfl⟩) hb0 ?_
      rw [w6]
      refine held_two 10 13 rfl rfl rfl rfl (by kernel_rfl) (fun K hK => ?_) (fun K hK => ?_)
      · go_simp
        go_at_call 50
        refine (V8.out _ hb0).mono ?_
        rintro e Y ⟨rfl, rfl⟩
        refine hK _ _ hb0 ?_
        clear hK K
        refine wpAnyH_take (i := 11) (v := .int .i64 (IntKind.i64.wrap (Y8 : Int))) rfl (by kernel_rfl) (by kernel_rfl) (by kernel_rfl) (fun _ _ _ h => h) (Or.inl ⟨by kernel_rfl, fun w _ => by rfl⟩) hb0 ?_
        rw [w8]
        refine wpAnyH_take (i := 12) (v := .agg #[.int .i64 (Y4 : Int), .int .i64 (Y6 : Int), .int .i64 (Y8 : Int)]) rfl (by kernel_rfl) (by kernel_rfl) (by kernel_rfl) (fun _ _ _ h => h) (Or.inl ⟨by kernel_rfl, fun w _ => by go_simp⟩) hb0 ?_
        refine held_one 13 rfl rfl (by kernel_rfl) fun K hK => ?_
        go_simp
        have hb1 := hb0.alloc hb0.size (.cells #[.int .i64 0, .int .i64 0, .int .i64 0] 30)
        have hx1 : (Y0.alloc (.cells #[.int .i64 0, .int .i64 0, .int .i64 0] 30)).heap[w.heap.size]? = _ := (Below.heap_alloc Y0 _ _ (lt_of_some hx0)).trans hx0
        have hp1 := heap_alloc_new Y0 (.cells #[.int .i64 0, .int .i64 0, .int .i64 0] 30)
        have hne : w.heap.size ≠ Y0.heap.size := by have := lt_of_some hx0; omega
        have hge : w.heap.size ≤ Y0.heap.size := hb0.size
        refine hK _ _ hb1 ?_
        clear hK K
        generalize Y0.alloc (.cells #[.int .i64 0, .int .i64 0, .int .i64 0] 30) = Y1 at *
        generalize Y0.heap.size = p at *
        obtain ⟨t0, t1, t2, z0, z1, z2⟩ := bx3 hp1
        have HP := Lib.hid (set3 (k := .int .i64 (Y4 : Int)) (l := .int .i64 (Y6 : Int)) (m := .int .i64 (Y8 : Int)) hp1)
        have HXB := Lib.hid ((set3_other (k := .int .i64 (Y4 : Int)) (l := .int .i64 (Y6 : Int)) (m := .int .i64 (Y8 : Int)) hne).trans hx1)
        have HBV := Lib.hid (below3 (k := .int .i64 (Y4 : Int)) (l := .int .i64 (Y6 : Int)) (m := .int .i64 (Y8 : Int)) hb1 hge)
        refine held_one 14 rfl rfl (by kernel_rfl) fun K hK => ?_
        go_simp
        refine hK _ _ HBV.out ?_
        clear hK K t0 t1 t2 z0 z1 z2 hp1 hx1 hb1
        generalize ((Y1.setCell ⟨p, 0, none⟩ (.int .i64 (Y4 : Int))).setCell ⟨p, 1, none⟩ (.int .i64 (Y6 : Int))).setCell ⟨p, 2, none⟩ (.int .i64 (Y8 : Int)) = V2 at *
        refine wpAnyH_done (by kernel_rfl) ?_ _
        unfold onlyN
        dsimp only
        have RV := Lib.hid (rvalid7_any (Y4 : Int) (Y6 : Int) (Y8 : Int))
        unfold SV at RV
        obtain ⟨u0, u1, u2, -, -, -⟩ := bx3 HP.out
        go_wp2_with fail
        refine (RV.out _).mono ?_
        rintro e V3 ⟨rfl, hb3⟩
        have HP3 := Lib.hid ((hb3.block _ (lt_of_some HP.out)).trans HP.out)
        have HX3 := Lib.hid ((hb3.block _ (lt_of_some HXB.out)).trans HXB.out)
        have HB3 := Lib.hid (bt HBV.out hb3)
        clear u0 u1 u2 hb3
        obtain ⟨u0, u1, u2, -, -, -⟩ := bx3 HP3.out
        obtain ⟨t0, t1, t2, z0, z1, z2⟩ := bx3 HX3.out
        cases hok : okS (Y4 : Int) (Y6 : Int) (Y8 : Int)
        · have HE := Lib.hid (HD4.out.1 hok)
          clear hok
          go_wp2_with fail
          exact rdec7_end (g := w.heap.size) rfl (set3 HX3.out) (err7 (err := 3) HE.out (by decide) (below3 HB3.out (Nat.le_refl _)))
        · have HE := Lib.hid (HD4.out.2 hok)
          clear hok
          go_wp2_with fail
          refine rdec7_end (g := w.heap.size) rfl (set3 HX3.out) ⟨?_, below3 HB3.out (Nat.le_refl _)⟩
          rw [HDX.out 0 HE.out, HE.out, if_pos rfl]
          rfl
      · go_simp
        have hb1 := hb0.alloc hb0.size (.cells #[.int .i64 0, .int .i64 0, .int .i64 0] 30)
        have hx1 : (Y0.alloc (.cells #[.int .i64 0, .int .i64 0, .int .i64 0] 30)).heap[w.heap.size]? = _ := (Below.heap_alloc Y0 _ _ (lt_of_some hx0)).trans hx0
        have hp1 := heap_alloc_new Y0 (.cells #[.int .i64 0, .int .i64 0, .int .i64 0] 30)
        have hne : w.heap.size ≠ Y0.heap.size := by have := lt_of_some hx0; omega
        have hge : w.heap.size ≤ Y0.heap.size := hb0.size
        refine hK _ _ hb1 ?_
        clear hK K
        generalize Y0.alloc (.cells #[.int .i64 0, .int .i64 0, .int .i64 0] 30) = Y1 at *
        generalize Y0.heap.size = p at *
        refine held_one 10 rfl rfl (by kernel_rfl) fun K hK => ?_
        go_simp
        go_at_call 50
        refine (V8.out _ hb1).mono ?_
        rintro e Y ⟨rfl, rfl⟩
        refine hK _ _ hb1 ?_
        clear hK K
        refine wpAnyH_take (i := 11) (v := .int .i64 (IntKind.i64.wrap (Y8 : Int))) rfl (by kernel_rfl) (by kernel_rfl) (by kernel_rfl) (fun _ _ _ h => h) (Or.inl ⟨by kernel_rfl, fun w _ => by rfl⟩) hb1 ?_
        rw [w8]
        refine wpAnyH_take (i := 12) (v := .agg #[.int .i64 (Y4 : Int), .int .i64 (Y6 : Int), .int .i64 (Y8 : Int)]) rfl (by kernel_rfl) (by kernel_rfl) (by kernel_rfl) (fun _ _ _ h => h) (Or.inl ⟨by kernel_rfl, fun w _ => by go_simp⟩) hb1 ?_
        obtain ⟨t0, t1, t2, z0, z1, z2⟩ := bx3 hp1
        have HP := Lib.hid (set3 (k := .int .i64 (Y4 : Int)) (l := .int .i64 (Y6 : Int)) (m := .int .i64 (Y8 : Int)) hp1)
        have HXB := Lib.hid ((set3_other (k := .int .i64 (Y4 : Int)) (l := .int .i64 (Y6 : Int)) (m := .int .i64 (Y8 : Int)) hne).trans hx1)
        have HBV := Lib.hid (below3 (k := .int .i64 (Y4 : Int)) (l := .int .i64 (Y6 : Int)) (m := .int .i64 (Y8 : Int)) hb1 hge)
        refine held_one 14 rfl rfl (by kernel_rfl) fun K hK => ?_
        go_simp
        refine hK _ _ HBV.out ?_
        clear hK K t0 t1 t2 z0 z1 z2 hp1 hx1 hb1
        generalize ((Y1.setCell ⟨p, 0, none⟩ (.int .i64 (Y4 : Int))).setCell ⟨p, 1, none⟩ (.int .i64 (Y6 : Int))).setCell ⟨p, 2, none⟩ (.int .i64 (Y8 : Int)) = V2 at *
        refine wpAnyH_done (by kernel_rfl) ?_ _
        unfold onlyN
        dsimp only
        have RV := Lib.hid (rvalid7_any (Y4 : Int) (Y6 : Int) (Y8 : Int))
        unfold SV at RV
        obtain ⟨u0, u1, u2, -, -, -⟩ := bx3 HP.out
        go_wp2_with fail
        refine (RV.out _).mono ?_
        rintro e V3 ⟨rfl, hb3⟩
        have HP3 := Lib.hid ((hb3.block _ (lt_of_some HP.out)).trans HP.out)
        have HX3 := Lib.hid ((hb3.block _ (lt_of_some HXB.out)).trans HXB.out)
        have HB3 := Lib.hid (bt HBV.out hb3)
        clear u0 u1 u2 hb3
        obtain ⟨u0, u1, u2, -, -, -⟩ := bx3 HP3.out
        obtain ⟨t0, t1, t2, z0, z1, z2⟩ := bx3 HX3.out
        cases hok : okS (Y4 : Int) (Y6 : Int) (Y8 : Int)
        · have HE := Lib.hid (HD4.out.1 hok)
          clear hok
          go_wp2_with fail
          exact rdec7_end (g := w.heap.size) rfl (set3 HX3.out) (err7 (err := 3) HE.out (by decide) (below3 HB3.out (Nat.le_refl _)))
        · have HE := Lib.hid (HD4.out.2 hok)
          clear hok
          go_wp2_with fail
          refine rdec7_end (g := w.heap.size) rfl (set3 HX3.out) ⟨?_, below3 HB3.out (Nat.le_refl _)⟩
          rw [HDX.out 0 HE.out, HE.out, if_pos rfl]
          rfl
    · go_simp
      have hb1 := hb0.alloc hb0.size (.cells #[.int .i64 0, .int .i64 0, .int .i64 0] 30)
      have hx1 : (Y0.alloc (.cells #[.int .i64 0, .int .i64 0, .int .i64 0] 30)).heap[w.heap.size]? = _ := (Below.heap_alloc Y0 _ _ (lt_of_some hx0)).trans hx0
      have hp1 := heap_alloc_new Y0 (.cells #[.int .i64 0, .int .i64 0, .int .i64 0] 30)
      have hne : w.heap.size ≠ Y0.heap.size := by have := lt_of_some hx0; omega
      have hge : w.heap.size ≤ Y0.heap.size := hb0.size
      refine hK _ _ hb1 ?_
      clear hK K
      generalize Y0.alloc (.cells #[.int .i64 0, .int .i64 0, .int .i64 0] 30) = Y1 at *
      generalize Y0.heap.size = p at *
      refine held_one 6 rfl rfl (by kernel_rfl) fun K hK => ?_
      go_simp
      go_at_call 50
      refine (V6.out _ hb1).mono ?_
      rintro e Y ⟨rfl, rfl⟩
      refine hK _ _ hb1 ?_
      clear hK K
      refine wpAnyH_take (i := 7) (v := .int .i64 (IntKind.i64.wrap (Y6 : Int))) rfl (by kernel_rfl) (by kernel_rfl) (by kernel_rfl) (fun _ _ _ h => h) (Or.inl ⟨by kernel_rfl, fun w _ => by rfl⟩) hb1 ?_
      rw [w6]
      refine held_one 10 rfl rfl (by kernel_rfl) fun K hK => ?_
      go_simp
      go_at_call 50
      refine (V8.out _ hb1).mono ?_
      rintro e Y ⟨rfl, rfl⟩
      refine hK _ _ hb1 ?_
      clear hK K
      refine wpAnyH_take (i := 11) (v := .int .i64 (IntKind.i64.wrap (Y8 : Int))) rfl (by kernel_rfl) (by kernel_rfl) (by kernel_rfl) (fun _ _ _ h => h) (Or.inl ⟨by kernel_rfl, fun w _ => by rfl⟩) hb1 ?_
      rw [w8]
      refine wpAnyH_take (i := 12) (v := .agg #[.int .i64 (Y4 : Int), .int .i64 (Y6 : Int), .int .i64 (Y8 : Int)]) rfl (by kernel_rfl) (by kernel_rfl) (by kernel_rfl) (fun _ _ _ h => h) (Or.inl ⟨by kernel_rfl, fun w _ => by go_simp⟩) hb1 ?_
      obtain ⟨t0, t1, t2, z0, z1, z2⟩ := bx3 hp1
      have HP := Lib.hid (set3 (k := .int .i64 (Y4 : Int)) (l := .int .i64 (Y6 : Int)) (m := .int .i64 (Y8 : Int)) hp1)
      have HXB := Lib.hid ((set3_other (k := .int .i64 (Y4 : Int)) (l := .int .i64 (Y6 : Int)) (m := .int .i64 (Y8 : Int)) hne).trans hx1)
      have HBV := Lib.hid (below3 (k := .int .i64 (Y4 : Int)) (l := .int .i64 (Y6 : Int)) (m := .int .i64 (Y8 : Int)) hb1 hge)
      refine held_one 14 rfl rfl (by kernel_rfl) fun K hK => ?_
      go_simp
      refine hK _ _ HBV.out ?_
      clear hK K t0 t1 t2 z0 z1 z2 hp1 hx1 hb1
      generalize ((Y1.setCell ⟨p, 0, none⟩ (.int .i64 (Y4 : Int))).setCell ⟨p, 1, none⟩ (.int .i64 (Y6 : Int))).setCell ⟨p, 2, none⟩ (.int .i64 (Y8 : Int)) = V2 at *
      refine wpAnyH_done (by kernel_rfl) ?_ _
      unfold onlyN
      dsimp only
      have RV := Lib.hid (rvalid7_any (Y4 : Int) (Y6 : Int) (Y8 : Int))
      unfold SV at RV
      obtain ⟨u0, u1, u2, -, -, -⟩ := bx3 HP.out
      go_wp2_with fail
      refine (RV.out _).mono ?_
      rintro e V3 ⟨rfl, hb3⟩
      have HP3 := Lib.hid ((hb3.block _ (lt_of_some HP.out)).trans HP.out)
      have HX3 := Lib.hid ((hb3.block _ (lt_of_some HXB.out)).trans HXB.out)
      have HB3 := Lib.hid (bt HBV.out hb3)
      clear u0 u1 u2 hb3
      obtain ⟨u0, u1, u2, -, -, -⟩ := bx3 HP3.out
      obtain ⟨t0, t1, t2, z0, z1, z2⟩ := bx3 HX3.out
      cases hok : okS (Y4 : Int) (Y6 : Int) (Y8 : Int)
      · have HE := Lib.hid (HD4.out.1 hok)
        clear hok
        go_wp2_with fail
        exact rdec7_end (g := w.heap.size) rfl (set3 HX3.out) (err7 (err := 3) HE.out (by decide) (below3 HB3.out (Nat.le_refl _)))
      · have HE := Lib.hid (HD4.out.2 hok)
        clear hok
        go_wp2_with fail
        refine rdec7_end (g := w.heap.size) rfl (set3 HX3.out) ⟨?_, below3 HB3.out (Nat.le_refl _)⟩
        rw [HDX.out 0 HE.out, HE.out, if_pos rfl]
        rfl
  · go_simp
    have hb1 := hb0.alloc hb0.size (.cells #[.int .i64 0, .int .i64 0, .int .i64 0] 30)
    have hx1 : (Y0.alloc (.cells #[.int .i64 0, .int .i64 0, .int .i64 0] 30)).heap[w.heap.size]? = _ := (Below.heap_alloc Y0 _ _ (lt_of_some hx0)).trans hx0
    have hp1 := heap_alloc_new Y0 (.cells #[.int .i64 0, .int .i64 0, .int .i64 0] 30)
    have hne : w.heap.size ≠ Y0.heap.size := by have := lt_of_some hx0; omega
    have hge : w.heap.size ≤ Y0.heap.size := hb0.size
    refine hK _ _ hb1 ?_
    clear hK K
    generalize Y0.alloc (.cells #[.int .i64 0, .int .i64 0, .int .i64 0] 30) = Y1 at *
    generalize Y0.heap.size = p at *
    refine held_one 2 rfl rfl (by kernel_rfl) fun K hK => ?_
    go_simp
    go_at_call 50
    refine (V4.out _ hb1).mono ?_
    rintro e Y ⟨rfl, rfl⟩
    refine hK _ _ hb1 ?_
    clear hK K
    refine wpAnyH_take (i := 3) (v := .int .i64 (IntKind.i64.wrap (Y4 : Int))) rfl (by kernel_rfl) (by kernel_rfl) (by kernel_rfl) (fun _ _ _ h => h) (Or.inl ⟨by kernel_rfl, fun w _ => by rfl⟩) hb1 ?_
    rw [w4]
    refine held_one 6 rfl rfl (by kernel_rfl) fun K hK => ?_
    go_simp
    go_at_call 50
    refine (V6.out _ hb1).mono ?_
    rintro e Y ⟨rfl, rfl⟩
    refine hK _ _ hb1 ?_
    clear hK K
    refine wpAnyH_take (i := 7) (v := .int .i64 (IntKind.i64.wrap (Y6 : Int))) rfl (by kernel_rfl) (by kernel_rfl) (by kernel_rfl) (fun _ _ _ h => h) (Or.inl ⟨by kernel_rfl, fun w _ => by rfl⟩) hb1 ?_
    rw [w6]
    refine held_one 10 rfl rfl (by kernel_rfl) fun K hK => ?_
    go_simp
    go_at_call 50
    refine (V8.out _ hb1).mono ?_
    rintro e Y ⟨rfl, rfl⟩
    refine hK _ _ hb1 ?_
    clear hK K
    refine wpAnyH_take (i := 11) (v := .int .i64 (IntKind.i64.wrap (Y8 : Int))) rfl (by kernel_rfl) (by kernel_rfl) (by kernel_rfl) (fun _ _ _ h => h) (Or.inl ⟨by kernel_rfl, fun w _ => by rfl⟩) hb1 ?_
    rw [w8]
    refine wpAnyH_take (i := 12) (v := .agg #[.int .i64 (Y4 : Int), .int .i64 (Y6 : Int), .int .i64 (Y8 : Int)]) rfl (by kernel_rfl) (by kernel_rfl) (by kernel_rfl) (fun _ _ _ h => h) (Or.inl ⟨by kernel_rfl, fun w _ => by go_simp⟩) hb1 ?_
    obtain ⟨t0, t1, t2, z0, z1, z2⟩ := bx3 hp1
    have HP := Lib.hid (set3 (k := .int .i64 (Y4 : Int)) (l := .int .i64 (Y6 : Int)) (m := .int .i64 (Y8 : Int)) hp1)
    have HXB := Lib.hid ((set3_other (k := .int .i64 (Y4 : Int)) (l := .int .i64 (Y6 : Int)) (m := .int .i64 (Y8 : Int)) hne).trans hx1)
    have HBV := Lib.hid (below3 (k := .int .i64 (Y4 : Int)) (l := .int .i64 (Y6 : Int)) (m := .int .i64 (Y8 : Int)) hb1 hge)
    refine held_one 14 rfl rfl (by kernel_rfl) fun K hK => ?_
    go_simp
    refine hK _ _ HBV.out ?_
    clear hK K t0 t1 t2 z0 z1 z2 hp1 hx1 hb1
    generalize ((Y1.setCell ⟨p, 0, none⟩ (.int .i64 (Y4 : Int))).setCell ⟨p, 1, none⟩ (.int .i64 (Y6 : Int))).setCell ⟨p, 2, none⟩ (.int .i64 (Y8 : Int)) = V2 at *
    refine wpAnyH_done (by kernel_rfl) ?_ _
    unfold onlyN
    dsimp only
    have RV := Lib.hid (rvalid7_any (Y4 : Int) (Y6 : Int) (Y8 : Int))
    unfold SV at RV
    obtain ⟨u0, u1, u2, -, -, -⟩ := bx3 HP.out
    go_wp2_with fail
    refine (RV.out _).mono ?_
    rintro e V3 ⟨rfl, hb3⟩
    have HP3 := Lib.hid ((hb3.block _ (lt_of_some HP.out)).trans HP.out)
    have HX3 := Lib.hid ((hb3.block _ (lt_of_some HXB.out)).trans HXB.out)
    have HB3 := Lib.hid (bt HBV.out hb3)
    clear u0 u1 u2 hb3
    obtain ⟨u0, u1, u2, -, -, -⟩ := bx3 HP3.out
    obtain ⟨t0, t1, t2, z0, z1, z2⟩ := bx3 HX3.out
    cases hok : okS (Y4 : Int) (Y6 : Int) (Y8 : Int)
    · have HE := Lib.hid (HD4.out.1 hok)
      clear hok
      go_wp2_with fail
      exact rdec7_end (g := w.heap.size) rfl (set3 HX3.out) (err7 (err := 3) HE.out (by decide) (below3 HB3.out (Nat.le_refl _)))
    · have HE := Lib.hid (HD4.out.2 hok)
      clear hok
      go_wp2_with fail
      refine rdec7_end (g := w.heap.size) rfl (set3 HX3.out) ⟨?_, below3 HB3.out (Nat.le_refl _)⟩
      rw [HDX.out 0 HE.out, HE.out, if_pos rfl]
      rfl
end Go.Proofs.YtlnccofanicihaaDoor.Gf

namespace Go.Proofs.YtlnccofanicihaaDoor.Gf
open Go Go.ChangeShapes Go.WideShapes Go.ChangeAt Go.RowKit Go.Proofs.YtlnccofanicihaaDoor.By Go.Proofs.YtlnccofanicihaaDoor.Crc Go.Proofs.YtlnccofanicihaaDoor.Qt

def enV (s g r : Int) : List Nat := if okS s g r = true then encS s.toNat g.toNat r.toNat else []
def enE (s g r : Int) : Int := if okS s g r = true then 0 else 1
/-- A call that answers bytes and an error. -/
def EW (w : World) (l : List Nat) (err : Int) (e : Ending) (w' : World) : Prop := (∃ v, e = .returned (.tuple #[v, .int .i64 err]) ∧ Sl w' v l) ∧ Below w.heap.size w w'
theorem rencode7_any (s g r : Int) (w : World) : Calls Tryd.prog 27 #[SV s g r] w (EO w (enV s g r) (enE s g r)) := by
  unfold enV enE
  cases h : okS s g r
  · rw [if_neg (by decide), if_neg (by decide)]
    exact rencode7_bad s g r w h
  · rw [if_pos rfl, if_pos rfl]
    obtain ⟨h1, h2, h3, h4, h5, h6⟩ := okS_iff.1 h
    obtain ⟨a, rfl⟩ := Int.eq_ofNat_of_zero_le h1
    obtain ⟨b, rfl⟩ := Int.eq_ofNat_of_zero_le (show 0 ≤ g by omega)
    obtain ⟨c, rfl⟩ := Int.eq_ofNat_of_zero_le h5
    exact rencode7_ok a b c w h
end Go.Proofs.YtlnccofanicihaaDoor.Gf
