/- What is proved here: what the laws of layer 9 ask of the program; the contract of awake; what Open finds in a file. No condition. -/
import Derived.Test.YtlnccofanicihaaDoorR9g
namespace Go.Proofs.YtlnccofanicihaaDoor.Gf
open Go Go.Joins Go.ChangeShapes Go.WideShapes Go.ChangeAt Go.RowKit Go.Deep Go.Proofs.YtlnccofanicihaaDoor.By Go.Proofs.YtlnccofanicihaaDoor.Crc Go.Proofs.YtlnccofanicihaaDoor.Qt

/-- A call that answers items. -/
def ITO (w : World) (L : List Itm) (e : Ending) (w' : World) : Prop := (∃ v, e = .returned v ∧ It w' v L) ∧ Below w.heap.size w w'
/-- What the laws ask of the program, in the worlds that are Ok. -/
structure PC9 (Ok : World → Prop) : Prop where
  st : ∀ {w w' : World}, Ok w → Below w.heap.size w w' → Ok w'
  opn : ∀ v l W, Ok W → Sl W v l → l.length ≤ 100000000 → Calls Tryd.prog 12 #[v] W (OO 61 W l)
  itm : ∀ v R W, Rs W v R → R.length ≤ 1000 → Calls Tryd.prog 22 #[v] W (ITO W (itemsL R))
  byt : ∀ v R W, Rs W v R → R.length ≤ 1000 → Calls Tryd.prog 18 #[v] W (BO W R)
  slvg : ∀ v l W, Ok W → Sl W v l → l.length ≤ 100000000 → Calls Tryd.prog 15 #[v] W (SO 61 W (slv l 16))
  dec : ∀ v l W, Ok W → Sl W v l → Calls Tryd.prog 24 #[v] W (ED W (decX l) (decN l) (decE l))
  siz : ∀ n W, I64b n → Calls Tryd.prog 26 #[.int .i64 n] W fun e w' => e = .returned (.int .i64 (szI6 n)) ∧ W = w'
theorem filL_app (k : List Ndl) (T : List Nat) : filL k ++ T = encS 0 1 0 ++ (bodF k ++ T) := by unfold filL; rw [List.append_assoc]
theorem filL_length (k : List Ndl) : (filL k).length = 16 + (bodF k).length := by unfold filL; rw [List.length_append, encS_length]
/-- What Open finds in a file. -/
theorem op_file {k : List Ndl} (hk : GoodN k) {T : List Nat} (hT : decE T ≠ 0) : dE7 (filL k ++ T) = 0 ∧ opL (filL k ++ T) = (rcs 16 k, 16 + (bodF k).length) ∧ dX7 (filL k ++ T) = .agg #[.int .i64 0, .int .i64 1, .int .i64 0] := by
  rw [filL_app]
  obtain ⟨h1, h2, h3, h4⟩ := back7 (s := 0) (g := 1) (r := 0) rfl (bodF k ++ T)
  refine ⟨h1, ?_, ?_⟩
  · unfold opL
    rw [if_pos h1]
    have h := recs_file k (encS 0 1 0) T hk hT
    rw [encS_length] at h
    exact h
  · unfold dX7
    rw [if_pos h1, h2, h3, h4]
    rfl
theorem op_full {k : List Ndl} (hk : GoodN k) : dE7 (filL k) = 0 ∧ opL (filL k) = (rcs 16 k, (filL k).length) ∧ dX7 (filL k) = .agg #[.int .i64 0, .int .i64 1, .int .i64 0] := by
  have h := op_file hk (T := []) (by rw [dec_nil]; decide)
  rw [List.append_nil] at h
  rw [filL_length]
  exact h
theorem good_nil : GoodN [] := fun x h => by cases h
theorem rs_block {W : World} {g n : Nat} {L : List RV} {T : TypeId} {fr : Nat × Nat} {cs : Array Value} (hn : n = L.length) (hcs : cs = (cellsR L).toArray) (hok : ∀ r ∈ L, RvOk r ∧ Sl W r.s r.x.data) (hg : W.heap[g]? = some (.cells cs T fr)) (hl : L.length ≤ maxLen) : Rs W (.slice (some ⟨g, 0, none⟩) n n) (L.map RV.rc) := by
  subst hn
  subst hcs
  refine ⟨L, rfl, ⟨fun r hr => (hok r hr).1, _, _, rfl, Nat.le_refl _, hl, fun _ => ⟨g, 0, rfl, fun j u hu => ?_⟩⟩, fun r hr => (hok r hr).2⟩
  rw [Nat.zero_add, cell_of_row W g j _ _ _ hg]
  simpa using hu
theorem aw2 : itemsL [⟨16, ⟨1, 0, false, []⟩⟩, ⟨40, ⟨1, 0, true, []⟩⟩] = [] := by rfl
theorem aw1 : itemsL [⟨16, ⟨1, 0, false, []⟩⟩] = [⟨1, 0, 16, 0⟩] := by rfl
theorem aw_ok (W : World) {o : Int} {d : Bool} (h : o = 16 ∨ o = 40) : RvOk ⟨o, ⟨1, 0, d, []⟩, .slice none 0 0⟩ ∧ Sl W (.slice none 0 0) ([] : List Nat) := ⟨⟨by show _ ≤ o ∧ o ≤ _; omega, by show (1 : Nat) < _; omega, by show (0 : Nat) < _; omega, _, _, _, rfl⟩, sl_nil W⟩
set_option maxRecDepth 100000 in
set_option maxHeartbeats 6400000 in
theorem awake9_any {Ok : World → Prop} (P : PC9 Ok) (w : World) (hw : Ok w) : Calls Tryd.prog 17 #[] w fun e w' => e = .returned (.bool true) ∧ Below w.heap.size w w' := by
  have FA := Lib.hid (file_any (.slice none 0 0) [] w (ns_nil w) good_nil (by decide))
  have OP := Lib.hid (fun v l W (h : Ok W) (s : Sl W v l) (hl : l.length ≤ 100000000) => P.opn v l W h s hl)
  have IT := Lib.hid (fun v R W (s : Rs W v R) (hl : R.length ≤ 1000) => P.itm v R W s hl)
  have ST := Lib.hid (fun (W W' : World) => P.st (w := W) (w' := W'))
  have OF := Lib.hid (op_full good_nil)
  rw [show (filL []).length = 16 from filL_length []] at OF
  have HF := Lib.hid (show (filL []).length ≤ 100000000 by rw [show (filL []).length = 16 from filL_length []]; decide)
  have O0 : Hid (dE7 [] = 4 ∧ opL [] = ([], 0) ∧ dX7 [] = .agg #[.int .i64 0, .int .i64 0, .int .i64 0]) := Lib.hid ⟨rfl, by unfold opL; rw [if_neg (by rw [show dE7 [] = 4 from rfl]; decide)], by unfold dX7; rw [if_neg (by rw [show dE7 [] = 4 from rfl]; decide)]; rfl⟩
  unfold FO at FA
  clear P
  go_enter Tryd.func17, Tryd.ntmps17
  go_wp2_with fail
  refine FA.out.mono ?_
  rintro e w1 ⟨⟨v1, t1, rfl, hs1, hr1⟩, hb1⟩
  have S1 := Lib.hid hs1.sl
  have hw1 := Lib.hid (ST.out _ _ hw hb1)
  have B1 := Lib.hid hb1
  generalize filL [] = F at *
  obtain ⟨a1, c1, rfl, -, -⟩ := sl_form hs1.sl
  obtain ⟨n1, hn1⟩ : ∃ n, n = F.length := ⟨_, rfl⟩
  rw [← hn1] at S1 ⊢
  clear hn1 hr1 hs1 hb1 FA hw
  go_wp2_with fail
  refine (OP.out _ F w1 hw1.out S1.out HF.out).mono ?_
  rintro e w2 ⟨⟨v2, rfl, ho2⟩, hb2⟩
  rw [OF.out.1, OF.out.2.1, OF.out.2.2]
  rw [OF.out.2.1] at ho2
  obtain ⟨a2, c2, rfl, -, -⟩ := owR_form ho2
  rw [show (rcs 16 []).length = 0 from rfl]
  have hw2 := Lib.hid (ST.out _ _ hw1.out hb2)
  have B2 := Lib.hid (bt (bt B1.out hb2) (bel_al w2 (.cells #[.int .i64 0, .int .i64 1, .int .i64 0] 30)))
  have hw3 := Lib.hid (ST.out _ _ hw2.out (bel_al w2 (.cells #[.int .i64 0, .int .i64 1, .int .i64 0] 30)))
  clear ho2 hb2
  go_wp2_with fail
  refine (OP.out _ [] _ hw3.out (sl_nil _) (by decide)).mono ?_
  rintro e w4 ⟨⟨v4, rfl, ho4⟩, hb4⟩
  rw [O0.out.1, O0.out.2.1, O0.out.2.2]
  have B4 := Lib.hid (bt (bt B2.out hb4) (b2' w4 (.cells #[.int .i64 0, .int .i64 0, .int .i64 0] 30) (.cells #[.int .i64 16, .int .u64 1, .int .u32 0, .bool false, .slice none 0 0, .int .i64 40, .int .u64 1, .int .u32 0, .bool true, .slice none 0 0] 61)))
  have N4 := Lib.hid (heap_alloc2_new w4 (.cells #[.int .i64 0, .int .i64 0, .int .i64 0] 30) (.cells #[.int .i64 16, .int .u64 1, .int .u32 0, .bool false, .slice none 0 0, .int .i64 40, .int .u64 1, .int .u32 0, .bool true, .slice none 0 0] 61))
  have R4 := Lib.hid (rs_block (n := 2) (L := [⟨16, ⟨1, 0, false, []⟩, .slice none 0 0⟩, ⟨40, ⟨1, 0, true, []⟩, .slice none 0 0⟩]) rfl rfl (by
    intro r hr
    simp only [List.mem_cons, List.not_mem_nil, or_false] at hr
    rcases hr with rfl | rfl
    · exact aw_ok _ (Or.inl rfl)
    · exact aw_ok _ (Or.inr rfl)) N4.out (by unfold maxLen; decide))
  clear ho4 hb4
  go_wp2_with fail
  refine (IT.out _ _ _ R4.out (by decide)).mono ?_
  rintro e w5 ⟨⟨v5, rfl, hi5⟩, hb5⟩
  rw [show List.map RV.rc [⟨16, ⟨1, 0, false, []⟩, .slice none 0 0⟩, ⟨40, ⟨1, 0, true, []⟩, .slice none 0 0⟩] = [⟨16, ⟨1, 0, false, []⟩⟩, ⟨40, ⟨1, 0, true, []⟩⟩] from rfl, aw2] at hi5
  obtain ⟨a5, c5, rfl, -, -⟩ := it_form hi5
  rw [show ([] : List Itm).length = 0 from rfl]
  have B5 := Lib.hid (bt (bt B4.out hb5) (bel_al w5 (.cells #[.int .i64 16, .int .u64 1, .int .u32 0, .bool false, .slice none 0 0] 61)))
  have N5 := Lib.hid (heap_alloc_new w5 (.cells #[.int .i64 16, .int .u64 1, .int .u32 0, .bool false, .slice none 0 0] 61))
  have R5 := Lib.hid (rs_block (n := 1) (L := [⟨16, ⟨1, 0, false, []⟩, .slice none 0 0⟩]) rfl rfl (by
    intro r hr
    simp only [List.mem_cons, List.not_mem_nil, or_false] at hr
    rcases hr with rfl
    exact aw_ok _ (Or.inl rfl)) N5.out (by unfold maxLen; decide))
  clear hi5 hb5 R4 N4
  go_wp2_with fail
  refine (IT.out _ _ _ R5.out (by decide)).mono ?_
  rintro e w6 ⟨⟨v6, rfl, hi6⟩, hb6⟩
  rw [show List.map RV.rc [⟨16, ⟨1, 0, false, []⟩, .slice none 0 0⟩] = [⟨16, ⟨1, 0, false, []⟩⟩] from rfl, aw1] at hi6
  obtain ⟨a6, c6, rfl, -, -⟩ := it_form hi6
  rw [show ([⟨1, 0, 16, 0⟩] : List Itm).length = 1 from rfl]
  have B6 := Lib.hid (bt B5.out hb6)
  clear hi6 hb6 R5 N5
  go_wp2
  go_ret
  exact ⟨rfl, B6.out⟩
end Go.Proofs.YtlnccofanicihaaDoor.Gf
