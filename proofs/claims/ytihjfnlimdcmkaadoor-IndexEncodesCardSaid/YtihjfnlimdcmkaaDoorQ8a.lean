/- What is proved here: what the laws of layer 8 ask of the program; the contract of awake. No condition. -/
import Derived.Test.YtihjfnlimdcmkaaDoorR8h
import Derived.Test.YtihjfnlimdcmkaaDoorC8
import Derived.Test.YtihjfnlimdcmkaaDoorQ7a
namespace Go.Proofs.YtihjfnlimdcmkaaDoor.Gf
open Go Go.Joins Go.ChangeShapes Go.WideShapes Go.ChangeAt Go.RowKit Go.Deep Go.Sort Go.Proofs.YtihjfnlimdcmkaaDoor.By Go.Proofs.YtihjfnlimdcmkaaDoor.Crc Go.Proofs.YtihjfnlimdcmkaaDoor.Qt

/-- A call that answers a list. -/
def LI (w : World) (L : List Itm) (e : Ending) (w' : World) : Prop := (∃ v, e = .returned v ∧ It w' v L) ∧ Below w.heap.size w w'
/-- A call that answers bytes and an error. -/
def EW (w : World) (l : List Nat) (err : Nat) (e : Ending) (w' : World) : Prop := (∃ v, e = .returned (.tuple #[v, .int .i64 (err : Int)]) ∧ Sl w' v l) ∧ Below w.heap.size w w'
/-- A call that answers a list and an error. -/
def LW (w : World) (L : List Itm) (err : Nat) (e : Ending) (w' : World) : Prop := (∃ v, e = .returned (.tuple #[v, .int .i64 (err : Int)]) ∧ It w' v L) ∧ Below w.heap.size w w'
/-- What most laws ask of the program, in the worlds that are Ok. -/
structure PC8a (Ok : World → Prop) : Prop where
  st : ∀ {w w' : World}, Ok w → Below w.heap.size w w' → Ok w'
  valid : ∀ v L W, Ok W → It W v L → L.length ≤ 1000 → Calls Tryd.prog 12 #[v] W fun e w' => e = .returned (.bool (decide (okT L))) ∧ Below W.heap.size W w'
  enc : ∀ v L W, Ok W → It W v L → L.length ≤ 1000 → Calls Tryd.prog 16 #[v] W (EW W (eT L) (eE L))
  dec : ∀ v l W, Ok W → Sl W v l → l.length ≤ 10000 → Calls Tryd.prog 19 #[v] W (LW W (dL8 l) (dE8 l))
  find0 : ∀ v L k W, Ok W → It W v L → Asc L → L.length ≤ 1000 → k < 18446744073709551616 → Calls Tryd.prog 22 #[v, .int .u64 ((k : Nat) : Int)] W (FD W L k)
  merge0 : ∀ vo vf vg O F G W, Ok W → It W vo O → It W vf F → Su W vg G → Asc O → Asc F → O.length ≤ 1000 → F.length ≤ 1000 → G.length ≤ 1000 → Calls Tryd.prog 28 #[vo, vf, vg] W (LI W (mergeL O F G))
/-- What the laws ask of the program, in the worlds that are Ok. -/
structure PC8 (Ok : World → Prop) : Prop extends PC8a Ok where
  find : ∀ v L k W, Ok W → It W v L → L.length ≤ 1000 → k < 18446744073709551616 → Calls Tryd.prog 22 #[v, .int .u64 ((k : Nat) : Int)] W (FD W L k)
  put : ∀ v L x W, Ok W → It W v L → L.length ≤ 1000 → ItOk x → Calls Tryd.prog 26 #[v, TV x] W (LI W (putL L x))
  drop : ∀ v L k W, Ok W → It W v L → L.length ≤ 1000 → k < 18446744073709551616 → Calls Tryd.prog 24 #[v, .int .u64 ((k : Nat) : Int)] W (LI W (dropL L k))
  merge : ∀ vo vf vg O F G W, Ok W → It W vo O → It W vf F → Su W vg G → O.length ≤ 1000 → F.length ≤ 1000 → G.length ≤ 1000 → Calls Tryd.prog 28 #[vo, vf, vg] W (LI W (mergeL O F G))
theorem al4 {w W : World} (h : Below w.heap.size w W) (a b c d : Obj) : Below w.heap.size w ((((W.alloc a).alloc b).alloc c).alloc d) :=
  (((h.alloc h.size a).alloc (by have := h.size; simp; omega) b).alloc (by have := h.size; simp; omega) c).alloc (by have := h.size; simp; omega) d
theorem al4h (w : World) (a b c d : Obj) : ((((w.alloc a).alloc b).alloc c).alloc d).heap[w.heap.size + 1]? = some b ∧ ((((w.alloc a).alloc b).alloc c).alloc d).heap[w.heap.size + 1 + 1]? = some c ∧ ((((w.alloc a).alloc b).alloc c).alloc d).heap[w.heap.size + 1 + 1 + 1]? = some d ∧ Below w.heap.size w ((((w.alloc a).alloc b).alloc c).alloc d) := by
  have n1 : (w.alloc a).heap.size = w.heap.size + 1 := by simp
  have n2 : ((w.alloc a).alloc b).heap.size = w.heap.size + 1 + 1 := by simp
  have n3 : (((w.alloc a).alloc b).alloc c).heap.size = w.heap.size + 1 + 1 + 1 := by simp
  have e1 := heap_alloc_new (w.alloc a) b
  have e2 := heap_alloc_new ((w.alloc a).alloc b) c
  have e3 := heap_alloc_new (((w.alloc a).alloc b).alloc c) d
  rw [n1] at e1
  rw [n2] at e2
  rw [n3] at e3
  exact ⟨(heap_alloc_old _ _ (by omega)).trans ((heap_alloc_old _ _ (by omega)).trans e1), (heap_alloc_old _ _ (by omega)).trans e2, e3, al4 (Below.refl _ _) a b c d⟩
theorem ex1 : mergeL [⟨1, 0, 0, 0⟩] [⟨2, 0, 0, 0⟩] [1] = [⟨2, 0, 0, 0⟩] := by rfl
set_option maxRecDepth 100000 in
set_option maxHeartbeats 6400000 in
theorem awake8_any {Ok : World → Prop} (P : PC8a Ok) (w : World) (hw : Ok w) : Calls Tryd.prog 15 #[] w fun e w' => e = .returned (.bool true) ∧ Below w.heap.size w w' := by
  have E := Lib.hid (P.enc (.slice none 0 0) [] w hw (it_nil w) (by decide))
  have FN := Lib.hid (fun W (h : Ok W) => P.find0 (.slice none 0 0) [] 1 W h (it_nil W) List.Pairwise.nil (by decide) (by decide))
  have MG := Lib.hid (fun vo vf vg W (h : Ok W) a b c => P.merge0 vo vf vg [⟨1, 0, 0, 0⟩] [⟨2, 0, 0, 0⟩] [1] W h a b c (List.pairwise_singleton _ _) (List.pairwise_singleton _ _) (by decide) (by decide) (by decide))
  have ST := Lib.hid (fun (W W' : World) => P.st (w := W) (w' := W'))
  clear P
  unfold EW at E
  rw [show eE [] = 0 from rfl, show eT [] = [] from rfl] at E
  unfold FD at FN
  rw [show fnL [] 1 = z0 from rfl, show hasL [] 1 = false from rfl] at FN
  rw [show TV z0 = .agg #[.int .u64 0, .int .u32 0, .int .i64 0, .int .i64 0] from rfl] at FN
  unfold LI at MG
  rw [ex1] at MG
  go_enter Tryd.func15, Tryd.ntmps15
  go_wp2_with fail
  refine E.out.mono ?_
  rintro e w1 ⟨⟨v1, rfl, hs1⟩, hb1⟩
  have hw1 := Lib.hid (ST.out _ _ hw hb1)
  obtain ⟨a1, c1, rfl, -, -⟩ := sl_form hs1
  have B1 := Lib.hid hb1
  clear hb1 hs1 E
  rw [show ([] : List Nat).length = 0 from rfl]
  go_wp2_with fail
  refine (FN.out _ hw1.out).mono ?_
  rintro e w2 ⟨rfl, hb2⟩
  have hw2 := Lib.hid (ST.out _ _ hw1.out hb2)
  have B2 := Lib.hid (bt B1.out hb2)
  clear hb2
  have B3 := Lib.hid (al4 B2.out (.cells #[.int .u64 0, .int .u32 0, .int .i64 0, .int .i64 0] 41) (.cells #[.int .u64 1, .int .u32 0, .int .i64 0, .int .i64 0] 41) (.cells #[.int .u64 2, .int .u32 0, .int .i64 0, .int .i64 0] 41) (.cells #[.int .u64 1] 38))
  obtain ⟨h1, h2, h3, hbw⟩ := al4h w2 (.cells #[.int .u64 0, .int .u32 0, .int .i64 0, .int .i64 0] 41) (.cells #[.int .u64 1, .int .u32 0, .int .i64 0, .int .i64 0] 41) (.cells #[.int .u64 2, .int .u32 0, .int .i64 0, .int .i64 0] 41) (.cells #[.int .u64 1] 38)
  have J1 := Lib.hid (it_one (x := ⟨1, 0, 0, 0⟩) ⟨by decide, by decide, by unfold J64; decide, by unfold J64; decide⟩ h1)
  have J2 := Lib.hid (it_one (x := ⟨2, 0, 0, 0⟩) ⟨by decide, by decide, by unfold J64; decide, by unfold J64; decide⟩ h2)
  have J3 := Lib.hid (su_one (x := 1) (by decide) h3)
  have hw3 := Lib.hid (ST.out _ _ hw2.out hbw)
  clear h1 h2 h3 hbw
  go_wp2_with fail
  refine (MG.out _ _ _ _ hw3.out J1.out J2.out J3.out).mono ?_
  rintro e w4 ⟨⟨v4, rfl, hs4⟩, hb4⟩
  obtain ⟨b4, o4, c4, rfl, -, -, hk4⟩ := it_cells hs4 (by decide)
  have k0 := (hk4 0 (by decide)).c0
  rw [show ([⟨2, 0, 0, 0⟩] : List Itm).getD 0 z0 = ⟨2, 0, 0, 0⟩ from rfl, Nat.zero_mul, Nat.add_zero] at k0
  rw [show ([⟨2, 0, 0, 0⟩] : List Itm).length = 1 from rfl]
  have B4 := Lib.hid (bt B3.out hb4)
  clear hb4 hs4 hk4
  go_wp2
  go_ret
  exact ⟨rfl, B4.out⟩
end Go.Proofs.YtihjfnlimdcmkaaDoor.Gf
