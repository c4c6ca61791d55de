/- What is proved here: the walk of the law StripeSplits, over what it asks of the program. No condition. -/
import Derived.Test.YtjpehjgcpnogiaaV5e
import Derived.Test.YtjpehjgcpnogiaaRs
namespace Go.Proofs.Ytjpehjgcpnogiaa.Gf
open Go Go.Joins Go.ChangeShapes Go.WideShapes Go.ChangeAt Go.RowKit Go.Deep Go.Proofs.Ytjpehjgcpnogiaa.By

set_option maxRecDepth 100000 in
set_option maxHeartbeats 6400000 in
theorem splits_walk (P : PC5) (v0 : Value) (l0 : List Nat) (w : World) (s0 : Sl w v0 l0) : Calls Try.prog 4 #[v0] w fun e w' => e = .returned (.bool true) ∧ Below w.heap.size w w' := by
  obtain ⟨a0, c0, hv0, -, -⟩ := sl_form s0
  obtain ⟨n0, hn0⟩ : ∃ q, q = l0.length := ⟨_, rfl⟩
  rw [← hn0] at hv0
  subst hv0
  clear hn0
  have CU := Lib.hid (cut_any _ l0 w s0)
  have SP := Lib.hid P.split
  have AW := Lib.hid (awake5_any P)
  have hle : (l0.take 3000).length ≤ 100000 := by rw [List.length_take]; omega
  clear P s0
  generalize l0.take 3000 = l at *
  go_enter Try.func4, Try.ntmps4
  go_wp2_with fail
  refine CU.out.mono ?_
  rintro e w' ⟨⟨v, rfl, hs⟩, rfl⟩
  have S := Lib.hid hs
  obtain ⟨a1, c1, hv1, -, -⟩ := sl_form hs
  obtain ⟨n1, hn1⟩ : ∃ q, q = l.length := ⟨_, rfl⟩
  rw [← hn1] at hv1
  subst hv1
  clear hs hn1
  go_wp2_with fail
  refine (SP.out _ l w S.out hle).mono ?_
  rintro e w1 ⟨⟨v1, rfl, hs1⟩, hb1⟩
  have R1 := Lib.hid hs1
  have B1 := Lib.hid hb1
  clear hs1 hb1
  go_wp2_with fail
  refine (rsplit_any _ l w1 (sl_below S.out B1.out) hle).mono ?_
  rintro e w2 ⟨⟨v2, gs, rfl, hd⟩, hb2⟩
  have R2 := Lib.hid hd.own.sr
  have R1' := Lib.hid (sr_below R1.out hb2)
  have B2 := Lib.hid (bt B1.out hb2)
  clear hd hb2
  go_wp2_with fail
  refine (rsame_any _ _ _ _ w2 R1'.out R2.out).mono ?_
  rw [decide_eq_true rfl]
  rintro e w3 ⟨rfl, hb3⟩
  have B3 := Lib.hid (bt B2.out hb3)
  clear hb3
  go_wp2_with fail
  refine (AW.out w3).mono ?_
  rintro e w4 ⟨rfl, hb4⟩
  have hb := bt B3.out hb4
  go_wp2_with fail
  go_ret
  exact ⟨rfl, hb⟩
end Go.Proofs.Ytjpehjgcpnogiaa.Gf
