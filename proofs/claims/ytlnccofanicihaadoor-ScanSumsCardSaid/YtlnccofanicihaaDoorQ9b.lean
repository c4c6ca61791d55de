/- What is proved here: the walk of the law ScanSums, over what it asks of the program. No condition. -/
import Derived.Test.YtlnccofanicihaaDoorQ9a
import Derived.Test.YtlnccofanicihaaDoorR9j
namespace Go.Proofs.YtlnccofanicihaaDoor.Gf
open Go Go.Joins Go.ChangeShapes Go.WideShapes Go.ChangeAt Go.RowKit Go.Deep Go.Proofs.YtlnccofanicihaaDoor.By Go.Proofs.YtlnccofanicihaaDoor.Crc Go.Proofs.YtlnccofanicihaaDoor.Qt

/-- What small makes can be written. -/
theorem good_sm {w : World} {v : Value} {L : List Ndl} (h : Ns w v L) : GoodN (smL L) := by
  obtain ⟨M, rfl, ⟨h0, -⟩, h1⟩ := h
  intro x hx
  unfold smL at hx
  obtain ⟨y, hy, rfl⟩ := List.mem_map.1 hx
  obtain ⟨r, hr, rfl⟩ := List.mem_map.1 (List.mem_of_mem_take hy)
  have ok := h0 r hr
  have sl := h1 r hr
  have hk := ok.key
  have hc := ok.ck
  have hb := sl.1
  constructor
  · refine ⟨?_, hc, ?_⟩
    · unfold smN
      dsimp only
      split <;> omega
    · unfold smN
      dsimp only
      split
      · intro b hb2
        cases hb2
      · exact fun b hb2 => hb b (List.mem_of_mem_take hb2)
  · unfold encE smN
    dsimp only
    cases r.x.del <;> simp <;> omega
set_option maxRecDepth 100000 in
set_option maxHeartbeats 6400000 in
theorem sums9_walk {Ok : World → Prop} (P : PC9 Ok) (v : Value) (L : List Ndl) (w : World) (hw : Ok w) (s : Ns w v L) : Calls Tryd.prog 8 #[v] w fun e w' => e = .returned (.bool true) ∧ Below w.heap.size w w' := by
  have SM := Lib.hid (small_any v L w s)
  have HG := Lib.hid (good_sm s)
  have HKL := Lib.hid (smL_length L)
  obtain ⟨al, cl, rfl, -, -⟩ := ns_form s
  generalize L.length = n at *
  generalize smL L = K at *
  have AW := Lib.hid (fun W (h : Ok W) => awake9_any P W h)
  have ST := Lib.hid (fun (W W' : World) => P.st (w := W) (w' := W'))
  have HP := Lib.hid P
  have HBF := Lib.hid (bodF_le K HG.out)
  have OF := Lib.hid (op_full HG.out)
  have HAL := Lib.hid (allL_rcs K 16 HG.out)
  have HLE := Lib.hid (live_le (rcs 16 K))
  have HGE := Lib.hid (liveL_ge (itemsL (rcs 16 K)))
  have HFL := Lib.hid (filL_length K)
  have HRL := Lib.hid (rcs_length K 16)
  clear s P
  go_enter Tryd.func8, Tryd.ntmps8
  go_wp2_with fail
  refine SM.out.mono ?_
  rintro e w1 ⟨⟨v1, rfl, hn1⟩, hb1⟩
  have hw1 := Lib.hid (ST.out _ _ hw hb1)
  have B1 := Lib.hid hb1
  have FA := Lib.hid (file_any v1 K w1 hn1 HG.out (by have := HKL.out; omega))
  unfold FO at FA
  obtain ⟨a1, c1, rfl, -, -⟩ := ns_form hn1
  generalize K.length = k1 at *
  clear hn1 hb1 SM hw
  go_wp2_with fail
  refine FA.out.mono ?_
  rintro e w2 ⟨⟨v2, t2, rfl, ho2, hr2⟩, hb2⟩
  have hw2 := Lib.hid (ST.out _ _ hw1.out hb2)
  have B2 := Lib.hid (bt B1.out hb2)
  have OP := Lib.hid (HP.out.opn v2 (filL K) w2 hw2.out ho2.sl (by have h1 := HFL.out; have h2 := HBF.out; have h3 := HKL.out; omega))
  unfold OO at OP
  rw [OF.out.1, OF.out.2.1, OF.out.2.2] at OP
  obtain ⟨a2, c2, rfl, -, -⟩ := sl_form ho2.sl
  obtain ⟨n2, hn2⟩ : ∃ n, n = (filL K).length := ⟨_, rfl⟩
  rw [← hn2] at OP HFL ⊢
  clear ho2 hr2 hb2 FA hn2
  go_wp2_with fail
  refine OP.out.mono ?_
  rintro e w3 ⟨⟨v3, rfl, ho3⟩, hb3⟩
  have hb4 := bel_al w3 (.cells #[.int .i64 0, .int .i64 1, .int .i64 0] 30)
  have hw3 := Lib.hid (ST.out _ _ (ST.out _ _ hw2.out hb3) hb4)
  have B3 := Lib.hid (bt (bt B2.out hb3) hb4)
  have BY := Lib.hid (HP.out.byt v3 (rcs 16 K) _ (rs_below (owR_rs ho3) hb4) (by have h1 := HRL.out; have h2 := HKL.out; omega))
  obtain ⟨a3, c3, rfl, -, -⟩ := owR_form ho3
  have hal := HAL.out
  have hle := HLE.out
  have hge := HGE.out
  have hfl := HFL.out
  have hbf := HBF.out
  have hkl := HKL.out
  unfold BO at BY
  generalize (rcs 16 K).length = k3 at *
  generalize liveL (itemsL (rcs 16 K)) = A at *
  rw [hal] at BY hle
  generalize (bodF K).length = bl at *
  obtain ⟨G, hGv⟩ : ∃ G, G = (bl : Int) - A := ⟨_, rfl⟩
  rw [← hGv] at BY
  have g1 : decide (0 ≤ A) = true := decide_eq_true hge
  have g2 : decide (0 ≤ G) = true := decide_eq_true (by omega)
  have e1 : wrap64 (A + G) = (bl : Int) := by unfold wrap64; omega
  have e2 : wrap64 ((bl : Int) + 16) = (n2 : Int) := by unfold wrap64; omega
  clear ho3 hb3 hb4 OP hal hle hge hfl hbf hkl hGv HAL HLE HGE HFL HBF HKL HRL
  go_wp2_with fail
  refine BY.out.mono ?_
  rintro e w4 ⟨rfl, hb5⟩
  have hw4 := Lib.hid (ST.out _ _ hw3.out hb5)
  have B4 := Lib.hid (bt B3.out hb5)
  clear hb5 BY
  go_wp2_with fail
  refine (AW.out _ hw4.out).mono ?_
  rintro e w5 ⟨rfl, hb6⟩
  have B5 := Lib.hid (bt B4.out hb6)
  clear hb6
  go_wp2
  go_ret
  exact ⟨rfl, B5.out⟩
end Go.Proofs.YtlnccofanicihaaDoor.Gf
