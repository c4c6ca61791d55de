/- What is proved here: the reference's Parse at every text. -/
import Derived.Test.YtbmlpafbdbhaiaaGreatDoorGw10
namespace Go.Proofs.YtbmlpafbdbhaiaaGreatDoor.Gf
open Go Go.Joins Go.ChangeShapes Go.WideShapes Go.ChangeAt Go.RowKit Go.Deep Go.Proofs.YtbmlpafbdbhaiaaGreatDoor.By Go.Proofs.YtbmlpafbdbhaiaaGreatDoor.Qt Go.Proofs
set_option maxRecDepth 100000
set_option maxHeartbeats 204800000
theorem infoRN5 : (Tryz.prog.info? 23).map (·.size) = some 5 := by kernel_rfl
def byteF (s : ByteArray) (i : Nat) : Nat := (s.data.getD i 0).toNat
def tmpF (r : ByteArray) : Bool := decide (4 < r.size) && ((r.extract (r.size - 4) r.size).toList == ([46, 116, 109, 112] : List UInt8))
def restF (s : ByteArray) : ByteArray := s.extract 6 s.size
def lastF (s : ByteArray) : ByteArray := if tmpF (restF s) = true then (restF s).extract 0 ((restF s).size - 4) else restF s
def knF (r : ByteArray) : Nat → Int
  | 0 => 5
  | i + 1 => if (r.toList == (endA ((i + 1 : Nat) : Int)).toList) = true then ((i + 1 : Nat) : Int) else knF r i
/-- What the reference guesses. -/
def rgV (s : ByteArray) : Int × Int × Int × Int × Bool := (knF (lastF s) 4, (byteF s 2 : Int) - 48, (byteF s 4 : Int) - 48, if knF (lastF s) 4 = 5 then (byteF (lastF s) ((lastF s).size - 1) : Int) - 48 else 0, tmpF (restF s))
def chrN (k : Int) (t : Bool) (h : Int) : Bool := (List.range 4).all fun s => (List.range 8).all fun g => decide (rgV (fmtS k (s : Int) ((g + 1 : Nat) : Int) h t) = (k, ((s : Int), (((g + 1 : Nat) : Int), (h, t)))) ∧ 9 ≤ (fmtS k (s : Int) ((g + 1 : Nat) : Int) h t).size)
theorem chrN_at {k h : Int} {t : Bool} (hc : chrN k t h = true) {s g : Int} (hs : 0 ≤ s ∧ s < 4) (hg : 1 ≤ g ∧ g ≤ 8) : rgV (fmtS k s g h t) = (k, s, g, h, t) ∧ 9 ≤ (fmtS k s g h t).size := by
  obtain ⟨a, rfl⟩ := Int.eq_ofNat_of_zero_le hs.1
  obtain ⟨b, rfl⟩ : ∃ b : Nat, g = ((b + 1 : Nat) : Int) := ⟨(g - 1).toNat, by omega⟩
  unfold chrN at hc
  have h1 := List.all_eq_true.1 hc a (List.mem_range.2 (by omega))
  have h2 := List.all_eq_true.1 h1 b (List.mem_range.2 (by omega))
  exact of_decide_eq_true h2
theorem chr_1false0 : chrN 1 false 0 = true := by kernel_rfl
theorem chr_2false0 : chrN 2 false 0 = true := by kernel_rfl
theorem chr_3false0 : chrN 3 false 0 = true := by kernel_rfl
theorem chr_4false0 : chrN 4 false 0 = true := by kernel_rfl
theorem chr_4true0 : chrN 4 true 0 = true := by kernel_rfl
theorem chr_5false0 : chrN 5 false 0 = true := by kernel_rfl
theorem chr_5false1 : chrN 5 false 1 = true := by kernel_rfl
theorem chr_5false2 : chrN 5 false 2 = true := by kernel_rfl
theorem chr_5false3 : chrN 5 false 3 = true := by kernel_rfl
theorem chr_5false4 : chrN 5 false 4 = true := by kernel_rfl
theorem chr_5false5 : chrN 5 false 5 = true := by kernel_rfl
theorem chr_5true0 : chrN 5 true 0 = true := by kernel_rfl
theorem chr_5true1 : chrN 5 true 1 = true := by kernel_rfl
theorem chr_5true2 : chrN 5 true 2 = true := by kernel_rfl
theorem chr_5true3 : chrN 5 true 3 = true := by kernel_rfl
theorem chr_5true4 : chrN 5 true 4 = true := by kernel_rfl
theorem chr_5true5 : chrN 5 true 5 = true := by kernel_rfl
theorem rg_all (k s g h : Int) (t : Bool) (hn : NameOk k s g h t) : rgV (fmtS k s g h t) = (k, s, g, h, t) ∧ 9 ≤ (fmtS k s g h t).size := by
  obtain ⟨hs, hg, hk⟩ := hn
  rcases hk with ⟨hk, rfl, rfl⟩ | ⟨rfl, rfl⟩ | ⟨rfl, h0, h6⟩
  · rcases hk with rfl | rfl | rfl
    · exact chrN_at chr_1false0 hs hg
    · exact chrN_at chr_2false0 hs hg
    · exact chrN_at chr_3false0 hs hg
  · cases t
    · exact chrN_at chr_4false0 hs hg
    · exact chrN_at chr_4true0 hs hg
  · have hc : h = 0 ∨ h = 1 ∨ h = 2 ∨ h = 3 ∨ h = 4 ∨ h = 5 := by omega
    rcases hc with rfl | rfl | rfl | rfl | rfl | rfl <;> cases t
    · exact chrN_at chr_5false0 hs hg
    · exact chrN_at chr_5true0 hs hg
    · exact chrN_at chr_5false1 hs hg
    · exact chrN_at chr_5true1 hs hg
    · exact chrN_at chr_5false2 hs hg
    · exact chrN_at chr_5true2 hs hg
    · exact chrN_at chr_5false3 hs hg
    · exact chrN_at chr_5true3 hs hg
    · exact chrN_at chr_5false4 hs hg
    · exact chrN_at chr_5true4 hs hg
    · exact chrN_at chr_5false5 hs hg
    · exact chrN_at chr_5true5 hs hg
theorem rg_fmt {x : Int × Int × Int × Int × Bool} (h : OkN x) : rgV (fmtV x) = x ∧ 9 ≤ (fmtV x).size := rg_all _ _ _ _ _ h
theorem storeRNm {ops : Array Oper} {rest : List Oper} {x y : Operand} {pos : String} {after : Array Edge} {ty : TypeId} {a : Act} {w : World} {Q : Exit → Act → World → Prop}
    (g : Nat) (old cs : Array Value) (hx : a.eval x = .pointer (some ⟨g, 0, none⟩)) (hy : a.eval y = .agg cs) (hg : w.heap[g]? = some (.cells old 23 (0, 0))) (ho : old.size = 5) (hs : cs.size = 5) (h1 : cs.all (·.oneCell') = true)
    (h : wpList Tryz.prog ops Q rest a (w.setRow g cs)) : wpList Tryz.prog ops Q (⟨none, .store 23 x y, ty, pos, after, none⟩ :: rest) a w :=
  wpList_store_row rfl 23 x y rfl g cs hx hy 23 old hg (by rw [infoRN5, hs]) (by omega) h1 h
theorem byteF_at {s : ByteArray} {i : Nat} (h : i < s.size) : (s[i]'h).toNat = byteF s i := by
  unfold byteF
  have h2 : i < s.data.size := h
  rw [Array.getD_eq_getD_getElem?, Array.getElem?_eq_getElem h2]
  rfl
theorem byteF_lt (s : ByteArray) (i : Nat) : byteF s i < 256 := UInt8.toNat_lt _
theorem rparse_any (s : ByteArray) (hl : s.size ≤ 1000) (w : World) : Calls Tryz.prog 15 #[.string s] w (ParO s w) := by
  have HR := Lh (heap_alloc_new w (.cells #[.int .i64 0, .int .i64 0, .int .i64 0, .int .i64 0, .bool false] 23))
  have B0 := Lh (bel_al w (.cells #[.int .i64 0, .int .i64 0, .int .i64 0, .int .i64 0, .bool false] 23))
  have HL := Lh hl
  by_cases h9 : s.size < 9
  case pos =>
    have HNO := Lh (show ∀ y, OkN y → fmtV y ≠ s from fun y hy he => by have := (rg_fmt hy).2; rw [he] at this; omega)
    have d1 : decide ((s.size : Int) < 9) = true := decide_eq_true (by omega)
    have d1b : decide (s.size < 9) = true := decide_eq_true h9
    clear h9 hl
    go_enter Tryz.func15, Tryz.ntmps15
    go_upto_region 1 with fail
    generalize w.alloc (.cells #[.int .i64 0, .int .i64 0, .int .i64 0, .int .i64 0, .bool false] 23) = W1 at *
    go_wp2_with ((with_reducible refine storeRNm w.heap.size _ #[.int .i64 0, .int .i64 0, .int .i64 0, .int .i64 0, .bool false] ?_ ?_ HR.out rfl rfl z5_one ?_); exact rfl; exact rfl)
    refine bodyPost_ret (results_rt (S := 23) rfl _ _ w.heap.size #[.int .i64 0, .int .i64 0, .int .i64 0, .int .i64 0, .bool false] rfl (setRow_heap _ _ _ _ _ _ HR.out) Tryz.underlying23 rfl infoRN5) rfl ?_
    exact ⟨⟨zV, 3, rfl, Or.inr ⟨HNO.out, rfl, rfl⟩⟩, below_setRowM B0.out (Nat.le_refl _) _⟩
  have d1 : decide ((s.size : Int) < 9) = false := decide_eq_false (by omega)
  have d1b : decide (s.size < 9) = false := decide_eq_false h9
  have H9 := Lh (show 9 ≤ s.size by omega)
  have HP := Lh (show 2 < s.size ∧ 4 < s.size by omega)
  obtain ⟨b2, hb2⟩ : ∃ b, b = byteF s 2 := ⟨_, rfl⟩
  obtain ⟨b4, hb4⟩ : ∃ b, b = byteF s 4 := ⟨_, rfl⟩
  have l2 := byteF_lt s 2
  have l4 := byteF_lt s 4
  rw [← hb2] at l2
  rw [← hb4] at l4
  have HB2 := Lh (show (s[2]'HP.out.1).toNat = b2 ∧ IntKind.i64.wrap (b2 : Int) = (b2 : Int) from ⟨by rw [hb2]; exact byteF_at _, IntWalk.i64_in _ (by omega)⟩)
  have HB4 := Lh (show (s[4]'HP.out.2).toNat = b4 ∧ IntKind.i64.wrap (b4 : Int) = (b4 : Int) from ⟨by rw [hb4]; exact byteF_at _, IntWalk.i64_in _ (by omega)⟩)
  obtain ⟨sl, hsl⟩ : ∃ x : Int, x = (b2 : Int) - 48 := ⟨_, rfl⟩
  obtain ⟨g, hgg⟩ : ∃ x : Int, x = (b4 : Int) - 48 := ⟨_, rfl⟩
  have HSL := Lh (show (b2 : Int) - 48 = sl ∧ IntKind.i64.wrap sl = sl from ⟨hsl.symm, IntWalk.i64_in _ (by omega)⟩)
  have HGG := Lh (show (b4 : Int) - 48 = g ∧ IntKind.i64.wrap g = g from ⟨hgg.symm, IntWalk.i64_in _ (by omega)⟩)
  have HSD := Lh (show (byteF s 2 : Int) - 48 = sl ∧ (byteF s 4 : Int) - 48 = g from ⟨by rw [hsl, hb2], by rw [hgg, hb4]⟩)
  clear h9 hl hb2 hb4 hsl hgg l2 l4
  go_enter Tryz.func15, Tryz.ntmps15
  go_upto_region 1 with fail
  have HR1 := HR
  have B1 := B0
  clear HR B0
  generalize w.alloc (.cells #[.int .i64 0, .int .i64 0, .int .i64 0, .int .i64 0, .bool false] 23) = W1 at *
  go_upto_region 3 with fail
  clear d1 d1b
  refine wp_onlyN ?_
  refine wp_region_headsS (fun W' => Below W1.heap.size W1 W') [0, 1, 2, 3, 4, 5, 6, 7, 8] 2 (by kernel_rfl) (fun _ _ _ _ _ h => h.elim) (by kernel_rfl) (by rfl) (by rfl) (Below.drew (Below.refl _ _)) ?_
  simp only [pickOps, List.filterMap_cons, List.filterMap_nil, List.getElem?_toArray, List.getElem?_cons_zero, List.getElem?_cons_succ]
  refine wpHeads_step (fun K hK => ?_)
  go_simp
  refine ⟨_, fun _ _ => rfl, hK _ ?_⟩
  clear hK K
  refine wpHeads_step (fun K hK => ?_)
  go_simp
  refine ⟨.int .u8 (b2 : Int), fun w' hw' => by
    have e1 := HB2.out.1
    have p2 := HP.out.1
    go_simp
    exact fun q => absurd q (by omega), hK _ ?_⟩
  clear hK K
  refine wpHeads_step (fun K hK => ?_)
  go_simp
  refine ⟨.int .i64 (b2 : Int), fun w' hw' => by
    have e1 := HB2.out.2
    go_simp, hK _ ?_⟩
  clear hK K
  refine wpHeads_step (fun K hK => ?_)
  go_simp
  refine ⟨.int .i64 sl, fun w' hw' => by
    have e1 := HSL.out.1
    have e2 := HSL.out.2
    go_simp, hK _ ?_⟩
  clear hK K
  refine wpHeads_step (fun K hK => ?_)
  go_simp
  refine ⟨_, fun _ _ => rfl, hK _ ?_⟩
  clear hK K
  refine wpHeads_step (fun K hK => ?_)
  go_simp
  refine ⟨.int .u8 (b4 : Int), fun w' hw' => by
    have e1 := HB4.out.1
    have p2 := HP.out.2
    go_simp
    exact fun q => absurd q (by omega), hK _ ?_⟩
  clear hK K
  refine wpHeads_step (fun K hK => ?_)
  go_simp
  refine ⟨.int .i64 (b4 : Int), fun w' hw' => by
    have e1 := HB4.out.2
    go_simp, hK _ ?_⟩
  clear hK K
  refine wpHeads_step (fun K hK => ?_)
  go_simp
  refine ⟨.int .i64 g, fun w' hw' => by
    have e1 := HGG.out.1
    have e2 := HGG.out.2
    go_simp, hK _ ?_⟩
  clear hK K
  refine wpHeads_step (fun K hK => ?_)
  go_simp
  refine ⟨.agg #[.int .i64 0, .int .i64 sl, .int .i64 g, .int .i64 0, .bool false], fun w' hw' => by
    skip
    go_simp, hK _ ?_⟩
  clear hK K
  refine wpHeads_nil ?_
  have S0 := Lh (Below.drew (Below.refl W1.heap.size W1))
  generalize W1.drew = D0 at *
  refine gwq 9 fun K hK => ?_
  go_simp
  have hb := bel_al D0 (.cells #[.int .i64 0, .int .i64 0, .int .i64 0, .int .i64 0, .bool false] 23)
  have hbk := heap_alloc_new D0 (.cells #[.int .i64 0, .int .i64 0, .int .i64 0, .int .i64 0, .bool false] 23)
  have HGE := Lh (show W1.heap.size ≤ D0.heap.size from S0.out.size)
  obtain ⟨D1, hX⟩ : ∃ Y, Y = D0.alloc (.cells #[.int .i64 0, .int .i64 0, .int .i64 0, .int .i64 0, .bool false] 23) := ⟨_, rfl⟩
  rw [← hX] at hb hbk ⊢
  have S1 := Lh (S0.out.trans (hb.mono S0.out.size))
  have HBK := Lh hbk
  refine hK _ _ S1.out ?_
  clear hK K hb hbk hX
  generalize D0.heap.size = gx at *
  refine gwq 10 fun K hK => ?_
  refine wp_store_row 23 _ _ rfl gx #[.int .i64 0, .int .i64 sl, .int .i64 g, .int .i64 0, .bool false] (by rfl) (by rfl) 23 _ HBK.out infoRN5 rfl (n5_one _ _ _ _ _) ?_
  have S2 := Lh (below_setRowM S1.out HGE.out #[.int .i64 0, .int .i64 sl, .int .i64 g, .int .i64 0, .bool false])
  have HX := Lh (setRow_heap D1 gx _ #[.int .i64 0, .int .i64 sl, .int .i64 g, .int .i64 0, .bool false] _ _ HBK.out)
  refine hK _ _ S2.out ?_
  clear hK K
  refine wpAnyH_done (by kernel_rfl) ?_ _
  unfold onlyN
  dsimp only
  have HR := Lh ((S2.out.block _ (lt_of_some HR1.out)).trans HR1.out)
  have B2 := Lh (B1.out.trans (S2.out.mono B1.out.size))
  have HGX := Lh (show w.heap.size < gx from by have := lt_of_some HR1.out; have := HGE.out; omega)
  clear S0 S1 S2 HBK HGE HR1 B1
  generalize D1.setRow gx #[.int .i64 0, .int .i64 sl, .int .i64 g, .int .i64 0, .bool false] = W2 at *
  obtain ⟨r, hr⟩ : ∃ r, r = restF s := ⟨_, rfl⟩
  have HRS := Lh hr
  have HRZ := Lh (show r.size = s.size - 6 from by rw [hr]; unfold restF; rw [ByteArray.size_extract]; omega)
  have er : s.extract 6 s.size = r := hr.symm
  have p6 : (6 : Int) ≤ (s.size : Int) := by have := H9.out; omega
  have p6b : 6 ≤ s.size := by have := H9.out; omega
  clear hr
  go_upto_region 5 with fail
  clear er p6 p6b
  go_cut [35] from 25 to 35 (fun u35 wz => u35 = .bool (tmpF r) ∧ wz = W2)
  case first =>
    obtain ⟨n, hn⟩ : ∃ n, n = r.size := ⟨_, rfl⟩
    have HN := Lh hn
    by_cases h4 : 4 < n
    case neg =>
      have d1 : decide (4 < (n : Int)) = false := decide_eq_false (by omega)
      have d2 : decide (4 < n) = false := decide_eq_false h4
      have HTF := Lh (show tmpF r = false from by unfold tmpF; rw [← HN.out, d2]; rfl)
      rw [hn] at d1 d2
      clear h4 hn
      go_wp2_with fail
      go_meet
      exact ⟨by rw [HTF.out], rfl⟩
    have d1 : decide (4 < (n : Int)) = true := decide_eq_true (by omega)
    have d2 : decide (4 < n) = true := decide_eq_true h4
    obtain ⟨m, hm⟩ : ∃ m, m = n - 4 := ⟨_, rfl⟩
    obtain ⟨u, hu⟩ : ∃ u, u = r.extract m r.size := ⟨_, rfl⟩
    obtain ⟨tq, htq⟩ : ∃ b, b = (u.toList == ([46, 116, 109, 112] : List UInt8)) := ⟨_, rfl⟩
    have HTF := Lh (show tmpF r = tq from by
      unfold tmpF
      rw [← HN.out, d2, ← hm, htq, hu, hn]
      rfl)
    have ew : IntKind.i64.wrap ((n : Int) - 4) = (m : Int) := by rw [IntWalk.i64_in _ (by have := HN.out; have := HRZ.out; have := HL.out; omega)]; omega
    have ew2 : wrap64 ((n : Int) - 4) = (m : Int) := by unfold wrap64; have := HN.out; have := HRZ.out; have := HL.out; omega
    have p1 : (m : Int) ≤ (n : Int) := by omega
    have p2 : m ≤ n := by omega
    have p0 : (0 : Int) ≤ (m : Int) := by omega
    have eu : r.extract m r.size = u := hu.symm
    have et : (u.toList == ([46, 116, 109, 112] : List UInt8)) = tq := htq.symm
    rw [hn] at d1 d2 ew ew2 p1 p2
    clear h4 hn hm hu htq
    go_wp2_with fail
    go_meet
    exact ⟨by rw [HTF.out], rfl⟩
  case rest =>
  obtain ⟨rfl, rfl⟩ := hcut
  rename World => W2
  obtain ⟨tp, htp⟩ : ∃ b, b = tmpF r := ⟨_, rfl⟩
  rw [← htp]
  have HTP := Lh (show tp = tmpF (restF s) from by rw [htp, HRS.out])
  have HT4 := Lh (show tp = true → 4 < r.size from fun e => by
    rw [htp] at e
    unfold tmpF at e
    rw [Bool.and_eq_true] at e
    exact of_decide_eq_true e.1)
  clear htp
  rename ∀ (_ : Act) (_ : World), _ → _ => hKK
  refine hKK _ _ ?_
  clear hKK
  go_cut [5] from 36 to 42 (fun u5 wz => ∃ (q : ByteArray) (tp : Bool), u5 = .string q ∧ Hid (q = lastF s ∧ tp = tmpF (restF s) ∧ 1 ≤ q.size ∧ q.size ≤ 1000) ∧ Hid (wz.heap[gx]? = some (.cells #[.int .i64 0, .int .i64 sl, .int .i64 g, .int .i64 0, .bool tp] 23 (0, 0))) ∧ Hid (wz.heap[w.heap.size]? = some (.cells #[.int .i64 0, .int .i64 0, .int .i64 0, .int .i64 0, .bool false] 23 (0, 0))) ∧ Hid (Below w.heap.size w wz))
  case first =>
    cases tp
    · have HLA := Lh (show r = lastF s from by unfold lastF; rw [← HTP.out, if_neg (by decide)]; exact HRS.out)
      go_wp2_with fail
      go_meet
      exact ⟨r, false, rfl, Lh ⟨HLA.out, HTP.out, by have := HRZ.out; have := H9.out; omega, by have := HRZ.out; have := HL.out; omega⟩, HX, HR, B2⟩
    · obtain ⟨n, hn⟩ : ∃ n, n = r.size := ⟨_, rfl⟩
      have HN := Lh hn
      have h4 := HT4.out rfl
      obtain ⟨m, hm⟩ : ∃ m, m = n - 4 := ⟨_, rfl⟩
      have HM := Lh hm
      have ew : IntKind.i64.wrap ((n : Int) - 4) = (m : Int) := by rw [IntWalk.i64_in _ (by have := HN.out; have := HRZ.out; have := HL.out; omega)]; omega
      have ew2 : wrap64 ((n : Int) - 4) = (m : Int) := by unfold wrap64; have := HN.out; have := HRZ.out; have := HL.out; omega
      have p1 : (m : Int) ≤ (n : Int) := by omega
      have p2 : m ≤ n := by omega
      have p0 : (0 : Int) ≤ (m : Int) := by omega
      obtain ⟨q, hq⟩ : ∃ q, q = r.extract 0 m := ⟨_, rfl⟩
      have HLA := Lh (show q = lastF s from by unfold lastF; rw [← HTP.out, if_pos rfl, ← HRS.out, hq, HM.out, HN.out])
      have HQZ := Lh (show q.size = m from by rw [hq, ByteArray.size_extract]; have := HM.out; have := HN.out; omega)
      have eq9 : r.extract 0 m = q := hq.symm
      rw [hn] at ew ew2 p1 p2
      clear hq hn hm
      have P4 := Lh h4
      clear h4
      obtain ⟨x0, x1, x2, x3, x4⟩ := bx5 HX.out
      have f4 := frozen_of_row _ gx 4 _ _ HX.out
      go_upto_region 7 with fail
      clear x0 x1 x2 x3 x4 f4
      rw [setCell_eq_setRow _ _ _ _ _ _ _ HX.out]
      have hs : (#[.int .i64 0, .int .i64 sl, .int .i64 g, .int .i64 0, .bool false] : Array Value).setIfInBounds 4 (.bool true) = #[.int .i64 0, .int .i64 sl, .int .i64 g, .int .i64 0, .bool true] := rfl
      rw [hs]
      have HX5 := Lh (setRow_heap W2 gx _ #[.int .i64 0, .int .i64 sl, .int .i64 g, .int .i64 0, .bool true] _ _ HX.out)
      have HR5 := Lh ((setRow_other W2 gx w.heap.size #[.int .i64 0, .int .i64 sl, .int .i64 g, .int .i64 0, .bool true] (by have := HGX.out; omega)).trans HR.out)
      have B5 := Lh (below_setRowM B2.out (Nat.le_of_lt HGX.out) #[.int .i64 0, .int .i64 sl, .int .i64 g, .int .i64 0, .bool true])
      clear hs HX HR B2
      generalize W2.setRow gx #[.int .i64 0, .int .i64 sl, .int .i64 g, .int .i64 0, .bool true] = W5 at *
      go_wp2_with fail
      go_meet
      exact ⟨q, true, rfl, Lh ⟨HLA.out, HTP.out, by have := HQZ.out; have := HM.out; have := HN.out; have := P4.out; omega, by have := HQZ.out; have := HM.out; have := HN.out; have := HRZ.out; have := HL.out; omega⟩, HX5, HR5, B5⟩
  case rest =>
    rename Bool => tp0
    obtain ⟨q, tp, rfl, HQ, HX3, HR3, B3⟩ := hcut
    rename World => W3
    clear HX HR B2 HRZ HRS
    go_upto_region 9 with fail
    have hb := bel_al W3 (.cells #[.string ⟨#[]⟩, .string ⟨#[100, 97, 116]⟩, .string ⟨#[115, 104, 100]⟩, .string ⟨#[100, 101, 108]⟩, .string ⟨#[105, 100, 120]⟩] 9)
    have HE4 := Lh (heap_alloc_new W3 (.cells #[.string ⟨#[]⟩, .string ⟨#[100, 97, 116]⟩, .string ⟨#[115, 104, 100]⟩, .string ⟨#[100, 101, 108]⟩, .string ⟨#[105, 100, 120]⟩] 9))
    have HX4 := Lh ((hb.block _ (lt_of_some HX3.out)).trans HX3.out)
    have HR4 := Lh ((hb.block _ (lt_of_some HR3.out)).trans HR3.out)
    have B4 := Lh (B3.out.trans (hb.mono B3.out.size))
    have HEX := Lh (show gx ≠ W3.heap.size from Nat.ne_of_lt (lt_of_some HX3.out))
    have HEW := Lh (show w.heap.size ≤ W3.heap.size from B3.out.size)
    clear hb HX3 HR3 B3
    generalize W3.alloc (.cells #[.string ⟨#[]⟩, .string ⟨#[100, 97, 116]⟩, .string ⟨#[115, 104, 100]⟩, .string ⟨#[100, 101, 108]⟩, .string ⟨#[105, 100, 120]⟩] 9) = W4 at *
    generalize W3.heap.size = ge at *
    obtain ⟨x0, x1, x2, x3, x4⟩ := bx5 HX4.out
    have f0 := frozen_of_row _ gx 0 _ _ HX4.out
    go_upto_region 10 with fail
    clear x0 x1 x2 x3 x4 f0
    rw [setCell_eq_setRow _ _ _ _ _ _ _ HX4.out]
    have hs : (#[.int .i64 0, .int .i64 sl, .int .i64 g, .int .i64 0, .bool tp] : Array Value).setIfInBounds 0 (.int .i64 5) = #[.int .i64 5, .int .i64 sl, .int .i64 g, .int .i64 0, .bool tp] := rfl
    rw [hs]
    have HX5 := Lh (setRow_heap W4 gx _ #[.int .i64 5, .int .i64 sl, .int .i64 g, .int .i64 0, .bool tp] _ _ HX4.out)
    have HR5 := Lh ((setRow_other W4 gx w.heap.size #[.int .i64 5, .int .i64 sl, .int .i64 g, .int .i64 0, .bool tp] (by have := HGX.out; omega)).trans HR4.out)
    have HE5 := Lh ((setRow_other W4 gx ge #[.int .i64 5, .int .i64 sl, .int .i64 g, .int .i64 0, .bool tp] (fun e => HEX.out e.symm)).trans HE4.out)
    have B5 := Lh (below_setRowM B4.out (Nat.le_of_lt HGX.out) #[.int .i64 5, .int .i64 sl, .int .i64 g, .int .i64 0, .bool tp])
    clear hs HX4 HR4 HE4 B4
    generalize W4.setRow gx #[.int .i64 5, .int .i64 sl, .int .i64 g, .int .i64 0, .bool tp] = W5 at *
    go_wp2_with fail
    go_loopw [7] (fun t wr => ∃ i : Nat, i ≤ 4 ∧ t = .int .i64 ((i + 1 : Nat) : Int) ∧ wr.heap[gx]? = some (.cells #[.int .i64 (knF q i), .int .i64 sl, .int .i64 g, .int .i64 0, .bool tp] 23 (0, 0)) ∧ wr.heap[w.heap.size]? = some (.cells #[.int .i64 0, .int .i64 0, .int .i64 0, .int .i64 0, .bool false] 23 (0, 0)) ∧ wr.heap[ge]? = some (.cells #[.string ⟨#[]⟩, .string ⟨#[100, 97, 116]⟩, .string ⟨#[115, 104, 100]⟩, .string ⟨#[100, 101, 108]⟩, .string ⟨#[105, 100, 120]⟩] 9 (0, 0)) ∧ Below w.heap.size w wr) (fun t _ => 6 - (intOf t).toNat)
    case atStart => exact ⟨0, by decide, rfl, HX5.out, HR5.out, HE5.out, B5.out⟩
    case round =>
      obtain ⟨i, hi, rfl, hx, hr, he, hb⟩ := hrel
      rename World => W6
      have HX6 := Lh hx
      have HR6 := Lh hr
      have HE6 := Lh he
      have B6 := Lh hb
      clear hx hr he hb HX5 HR5 HE5 B5
      have hc : i = 0 ∨ i = 1 ∨ i = 2 ∨ i = 3 ∨ i = 4 := by omega
      clear hi
      rcases hc with rfl | rfl | rfl | rfl | rfl
      · obtain ⟨kk, hkk⟩ : ∃ k, k = knF q 0 := ⟨_, rfl⟩
        rw [← hkk] at HX6
        obtain ⟨bq, hbq⟩ : ∃ b, b = (q.toList == ((#[100, 97, 116] : Array UInt8).toList)) := ⟨_, rfl⟩
        have HKN := Lh (show knF q 1 = if bq = true then 1 else kk from by rw [hkk, hbq]; rfl)
        have eb : (q.toList == ([100, 97, 116] : List UInt8)) = bq := hbq.symm
        have eb2 : (q.toList == (⟨#[100, 97, 116]⟩ : ByteArray).toList) = bq := by rw [ByteArray.toList_eq (⟨#[100, 97, 116]⟩ : ByteArray)]; exact hbq.symm
        have hce := cell_of_row W6 ge 1 _ _ _ HE6.out
        have hce2 : W6.cell? ⟨ge, 1, none⟩ = some (.string ⟨#[100, 97, 116]⟩) := hce
        clear hkk hbq hce
        cases bq
        · have HX7 := Lh (show W6.heap[gx]? = some (.cells #[.int .i64 (knF q 1), .int .i64 sl, .int .i64 g, .int .i64 0, .bool tp] 23 (0, 0)) from by rw [HKN.out, if_neg (by decide)]; exact HX6.out)
          go_wp2_with fail
          go_roundw
          case rel => exact ⟨1, by decide, rfl, HX7.out, HR6.out, HE6.out, B6.out⟩
          case measure => simp [intOf]
        · obtain ⟨x0, x1, x2, x3, x4⟩ := bx5 HX6.out
          have f0 := frozen_of_row _ gx 0 _ _ HX6.out
          go_upto_region 12 with fail
          clear x0 x1 x2 x3 x4 f0 eb eb2 hce2
          rw [setCell_eq_setRow _ _ _ _ _ _ _ HX6.out]
          have hs : (#[.int .i64 kk, .int .i64 sl, .int .i64 g, .int .i64 0, .bool tp] : Array Value).setIfInBounds 0 (.int .i64 1) = #[.int .i64 1, .int .i64 sl, .int .i64 g, .int .i64 0, .bool tp] := rfl
          rw [hs]
          have HX7 := Lh (show (W6.setRow gx #[.int .i64 1, .int .i64 sl, .int .i64 g, .int .i64 0, .bool tp]).heap[gx]? = some (.cells #[.int .i64 (knF q 1), .int .i64 sl, .int .i64 g, .int .i64 0, .bool tp] 23 (0, 0)) from by rw [HKN.out, if_pos rfl]; exact setRow_heap W6 gx _ _ _ _ HX6.out)
          have HR7 := Lh ((setRow_other W6 gx w.heap.size #[.int .i64 1, .int .i64 sl, .int .i64 g, .int .i64 0, .bool tp] (by have := HGX.out; omega)).trans HR6.out)
          have HE7 := Lh ((setRow_other W6 gx ge #[.int .i64 1, .int .i64 sl, .int .i64 g, .int .i64 0, .bool tp] (fun e => HEX.out e.symm)).trans HE6.out)
          have B7 := Lh (below_setRowM B6.out (Nat.le_of_lt HGX.out) #[.int .i64 1, .int .i64 sl, .int .i64 g, .int .i64 0, .bool tp])
          clear hs HX6 HR6 HE6 B6
          go_wp2_with fail
          go_roundw
          case rel => exact ⟨1, by decide, rfl, HX7.out, HR7.out, HE7.out, B7.out⟩
          case measure => simp [intOf]
      · obtain ⟨kk, hkk⟩ : ∃ k, k = knF q 1 := ⟨_, rfl⟩
        rw [← hkk] at HX6
        obtain ⟨bq, hbq⟩ : ∃ b, b = (q.toList == ((#[115, 104, 100] : Array UInt8).toList)) := ⟨_, rfl⟩
        have HKN := Lh (show knF q 2 = if bq = true then 2 else kk from by rw [hkk, hbq]; rfl)
        have eb : (q.toList == ([115, 104, 100] : List UInt8)) = bq := hbq.symm
        have eb2 : (q.toList == (⟨#[115, 104, 100]⟩ : ByteArray).toList) = bq := by rw [ByteArray.toList_eq (⟨#[115, 104, 100]⟩ : ByteArray)]; exact hbq.symm
        have hce := cell_of_row W6 ge 2 _ _ _ HE6.out
        have hce2 : W6.cell? ⟨ge, 2, none⟩ = some (.string ⟨#[115, 104, 100]⟩) := hce
        clear hkk hbq hce
        cases bq
        · have HX7 := Lh (show W6.heap[gx]? = some (.cells #[.int .i64 (knF q 2), .int .i64 sl, .int .i64 g, .int .i64 0, .bool tp] 23 (0, 0)) from by rw [HKN.out, if_neg (by decide)]; exact HX6.out)
          go_wp2_with fail
          go_roundw
          case rel => exact ⟨2, by decide, rfl, HX7.out, HR6.out, HE6.out, B6.out⟩
          case measure => simp [intOf]
        · obtain ⟨x0, x1, x2, x3, x4⟩ := bx5 HX6.out
          have f0 := frozen_of_row _ gx 0 _ _ HX6.out
          go_upto_region 12 with fail
          clear x0 x1 x2 x3 x4 f0 eb eb2 hce2
          rw [setCell_eq_setRow _ _ _ _ _ _ _ HX6.out]
          have hs : (#[.int .i64 kk, .int .i64 sl, .int .i64 g, .int .i64 0, .bool tp] : Array Value).setIfInBounds 0 (.int .i64 2) = #[.int .i64 2, .int .i64 sl, .int .i64 g, .int .i64 0, .bool tp] := rfl
          rw [hs]
          have HX7 := Lh (show (W6.setRow gx #[.int .i64 2, .int .i64 sl, .int .i64 g, .int .i64 0, .bool tp]).heap[gx]? = some (.cells #[.int .i64 (knF q 2), .int .i64 sl, .int .i64 g, .int .i64 0, .bool tp] 23 (0, 0)) from by rw [HKN.out, if_pos rfl]; exact setRow_heap W6 gx _ _ _ _ HX6.out)
          have HR7 := Lh ((setRow_other W6 gx w.heap.size #[.int .i64 2, .int .i64 sl, .int .i64 g, .int .i64 0, .bool tp] (by have := HGX.out; omega)).trans HR6.out)
          have HE7 := Lh ((setRow_other W6 gx ge #[.int .i64 2, .int .i64 sl, .int .i64 g, .int .i64 0, .bool tp] (fun e => HEX.out e.symm)).trans HE6.out)
          have B7 := Lh (below_setRowM B6.out (Nat.le_of_lt HGX.out) #[.int .i64 2, .int .i64 sl, .int .i64 g, .int .i64 0, .bool tp])
          clear hs HX6 HR6 HE6 B6
          go_wp2_with fail
          go_roundw
          case rel => exact ⟨2, by decide, rfl, HX7.out, HR7.out, HE7.out, B7.out⟩
          case measure => simp [intOf]
      · obtain ⟨kk, hkk⟩ : ∃ k, k = knF q 2 := ⟨_, rfl⟩
        rw [← hkk] at HX6
        obtain ⟨bq, hbq⟩ : ∃ b, b = (q.toList == ((#[100, 101, 108] : Array UInt8).toList)) := ⟨_, rfl⟩
        have HKN := Lh (show knF q 3 = if bq = true then 3 else kk from by rw [hkk, hbq]; rfl)
        have eb : (q.toList == ([100, 101, 108] : List UInt8)) = bq := hbq.symm
        have eb2 : (q.toList == (⟨#[100, 101, 108]⟩ : ByteArray).toList) = bq := by rw [ByteArray.toList_eq (⟨#[100, 101, 108]⟩ : ByteArray)]; exact hbq.symm
        have hce := cell_of_row W6 ge 3 _ _ _ HE6.out
        have hce2 : W6.cell? ⟨ge, 3, none⟩ = some (.string ⟨#[100, 101, 108]⟩) := hce
        clear hkk hbq hce
        cases bq
        · have HX7 := Lh (show W6.heap[gx]? = some (.cells #[.int .i64 (knF q 3), .int .i64 sl, .int .i64 g, .int .i64 0, .bool tp] 23 (0, 0)) from by rw [HKN.out, if_neg (by decide)]; exact HX6.out)
          go_wp2_with fail
          go_roundw
          case rel => exact ⟨3, by decide, rfl, HX7.out, HR6.out, HE6.out, B6.out⟩
          case measure => simp [intOf]
        · obtain ⟨x0, x1, x2, x3, x4⟩ := bx5 HX6.out
          have f0 := frozen_of_row _ gx 0 _ _ HX6.out
          go_upto_region 12 with fail
          clear x0 x1 x2 x3 x4 f0 eb eb2 hce2
          rw [setCell_eq_setRow _ _ _ _ _ _ _ HX6.out]
          have hs : (#[.int .i64 kk, .int .i64 sl, .int .i64 g, .int .i64 0, .bool tp] : Array Value).setIfInBounds 0 (.int .i64 3) = #[.int .i64 3, .int .i64 sl, .int .i64 g, .int .i64 0, .bool tp] := rfl
          rw [hs]
          have HX7 := Lh (show (W6.setRow gx #[.int .i64 3, .int .i64 sl, .int .i64 g, .int .i64 0, .bool tp]).heap[gx]? = some (.cells #[.int .i64 (knF q 3), .int .i64 sl, .int .i64 g, .int .i64 0, .bool tp] 23 (0, 0)) from by rw [HKN.out, if_pos rfl]; exact setRow_heap W6 gx _ _ _ _ HX6.out)
          have HR7 := Lh ((setRow_other W6 gx w.heap.size #[.int .i64 3, .int .i64 sl, .int .i64 g, .int .i64 0, .bool tp] (by have := HGX.out; omega)).trans HR6.out)
          have HE7 := Lh ((setRow_other W6 gx ge #[.int .i64 3, .int .i64 sl, .int .i64 g, .int .i64 0, .bool tp] (fun e => HEX.out e.symm)).trans HE6.out)
          have B7 := Lh (below_setRowM B6.out (Nat.le_of_lt HGX.out) #[.int .i64 3, .int .i64 sl, .int .i64 g, .int .i64 0, .bool tp])
          clear hs HX6 HR6 HE6 B6
          go_wp2_with fail
          go_roundw
          case rel => exact ⟨3, by decide, rfl, HX7.out, HR7.out, HE7.out, B7.out⟩
          case measure => simp [intOf]
      · obtain ⟨kk, hkk⟩ : ∃ k, k = knF q 3 := ⟨_, rfl⟩
        rw [← hkk] at HX6
        obtain ⟨bq, hbq⟩ : ∃ b, b = (q.toList == ((#[105, 100, 120] : Array UInt8).toList)) := ⟨_, rfl⟩
        have HKN := Lh (show knF q 4 = if bq = true then 4 else kk from by rw [hkk, hbq]; rfl)
        have eb : (q.toList == ([105, 100, 120] : List UInt8)) = bq := hbq.symm
        have eb2 : (q.toList == (⟨#[105, 100, 120]⟩ : ByteArray).toList) = bq := by rw [ByteArray.toList_eq (⟨#[105, 100, 120]⟩ : ByteArray)]; exact hbq.symm
        have hce := cell_of_row W6 ge 4 _ _ _ HE6.out
        have hce2 : W6.cell? ⟨ge, 4, none⟩ = some (.string ⟨#[105, 100, 120]⟩) := hce
        clear hkk hbq hce
        cases bq
        · have HX7 := Lh (show W6.heap[gx]? = some (.cells #[.int .i64 (knF q 4), .int .i64 sl, .int .i64 g, .int .i64 0, .bool tp] 23 (0, 0)) from by rw [HKN.out, if_neg (by decide)]; exact HX6.out)
          go_wp2_with fail
          go_roundw
          case rel => exact ⟨4, by decide, rfl, HX7.out, HR6.out, HE6.out, B6.out⟩
          case measure => simp [intOf]
        · obtain ⟨x0, x1, x2, x3, x4⟩ := bx5 HX6.out
          have f0 := frozen_of_row _ gx 0 _ _ HX6.out
          go_upto_region 12 with fail
          clear x0 x1 x2 x3 x4 f0 eb eb2 hce2
          rw [setCell_eq_setRow _ _ _ _ _ _ _ HX6.out]
          have hs : (#[.int .i64 kk, .int .i64 sl, .int .i64 g, .int .i64 0, .bool tp] : Array Value).setIfInBounds 0 (.int .i64 4) = #[.int .i64 4, .int .i64 sl, .int .i64 g, .int .i64 0, .bool tp] := rfl
          rw [hs]
          have HX7 := Lh (show (W6.setRow gx #[.int .i64 4, .int .i64 sl, .int .i64 g, .int .i64 0, .bool tp]).heap[gx]? = some (.cells #[.int .i64 (knF q 4), .int .i64 sl, .int .i64 g, .int .i64 0, .bool tp] 23 (0, 0)) from by rw [HKN.out, if_pos rfl]; exact setRow_heap W6 gx _ _ _ _ HX6.out)
          have HR7 := Lh ((setRow_other W6 gx w.heap.size #[.int .i64 4, .int .i64 sl, .int .i64 g, .int .i64 0, .bool tp] (by have := HGX.out; omega)).trans HR6.out)
          have HE7 := Lh ((setRow_other W6 gx ge #[.int .i64 4, .int .i64 sl, .int .i64 g, .int .i64 0, .bool tp] (fun e => HEX.out e.symm)).trans HE6.out)
          have B7 := Lh (below_setRowM B6.out (Nat.le_of_lt HGX.out) #[.int .i64 4, .int .i64 sl, .int .i64 g, .int .i64 0, .bool tp])
          clear hs HX6 HR6 HE6 B6
          go_wp2_with fail
          go_roundw
          case rel => exact ⟨4, by decide, rfl, HX7.out, HR7.out, HE7.out, B7.out⟩
          case measure => simp [intOf]
      · obtain ⟨k, hk⟩ : ∃ k, k = knF q 4 := ⟨_, rfl⟩
        rw [← hk] at HX6
        have HK := Lh hk
        clear hk
        go_upto_region 15 with fail
        obtain ⟨bk, hbk⟩ : ∃ b, b = decide (k = 5) := ⟨_, rfl⟩
        have HBK := Lh hbk
        have d1 : decide (k = 5) = bk := hbk.symm
        have d2 : (k == 5) = bk := by rw [hbk]; rfl
        clear hbk
        go_cut [58] from 56 to 58 (fun u58 wz => u58 = .bool bk ∧ wz = W6)
        case first =>
          obtain ⟨x0, x1, x2, x3, x4⟩ := bx5 HX6.out
          go_wp2_with fail
          go_meet
          exact ⟨rfl, rfl⟩
        case rest =>
        obtain ⟨rfl, rfl⟩ := hcut
        rename World => W6
        clear d1 d2
        rename ∀ (_ : Act) (_ : World), _ → _ => hKK
        refine hKK _ _ ?_
        clear hKK
        go_cut [] from 59 to 67 (fun wz => ∃ h : Int, Hid (h = if knF q 4 = 5 then (byteF q (q.size - 1) : Int) - 48 else 0) ∧ Hid (wz.heap[gx]? = some (.cells #[.int .i64 k, .int .i64 sl, .int .i64 g, .int .i64 h, .bool tp] 23 (0, 0))) ∧ Hid (wz.heap[w.heap.size]? = some (.cells #[.int .i64 0, .int .i64 0, .int .i64 0, .int .i64 0, .bool false] 23 (0, 0))) ∧ Hid (Below w.heap.size w wz))
        case first =>
          obtain ⟨x0, x1, x2, x3, x4⟩ := bx5 HX6.out
          by_cases hk : k = 5
          case neg =>
            obtain rfl : bk = false := by rw [HBK.out]; exact decide_eq_false hk
            have HH := Lh (show (0 : Int) = if knF q 4 = 5 then (byteF q (q.size - 1) : Int) - 48 else 0 from by rw [if_neg (by rw [← HK.out]; exact hk)])
            clear hk
            go_wp2_with fail
            go_meet
            exact ⟨0, HH, HX6, HR6, B6⟩
          obtain rfl : bk = true := by rw [HBK.out]; exact decide_eq_true hk
          obtain ⟨n, hn⟩ : ∃ n, n = q.size := ⟨_, rfl⟩
          obtain ⟨m, hm⟩ : ∃ m, m = n - 1 := ⟨_, rfl⟩
          have hml : m < q.size := by have := HQ.out.2.2.1; omega
          obtain ⟨b, hbb⟩ : ∃ b, b = byteF q m := ⟨_, rfl⟩
          have hbl := byteF_lt q m
          rw [← hbb] at hbl
          have e1 : (q[m]'hml).toNat = b := by rw [hbb]; exact byteF_at _
          have e2 : IntKind.i64.wrap (b : Int) = (b : Int) := IntWalk.i64_in _ (by omega)
          obtain ⟨h, hh⟩ : ∃ h : Int, h = (b : Int) - 48 := ⟨_, rfl⟩
          have e3 : (b : Int) - 48 = h := hh.symm
          have e4 : IntKind.i64.wrap h = h := IntWalk.i64_in _ (by omega)
          have e5 : wrap64 h = h := by unfold wrap64; omega
          have HH := Lh (show h = if knF q 4 = 5 then (byteF q (q.size - 1) : Int) - 48 else 0 from by rw [if_pos (by rw [← HK.out]; exact hk), hh, hbb, hm, hn])
          have e6 : IntKind.i64.wrap ((n : Int) - 1) = (m : Int) := by rw [IntWalk.i64_in _ (by have := HQ.out.2.2.2; omega)]; have := HQ.out.2.2.1; omega
          have e7 : wrap64 ((n : Int) - 1) = (m : Int) := by unfold wrap64; have := HQ.out.2.2.1; have := HQ.out.2.2.2; omega
          have p0 : (0 : Int) ≤ (m : Int) := by omega
          have p1 : (m : Int) < (n : Int) := by omega
          have p3 : ¬ ((n : Int) ≤ (m : Int)) := by omega
          have p4 : ¬ (n ≤ m) := by omega
          rw [hn] at e6 e7 p1 p3 p4
          clear hk hn hm hbb hbl hh
          have f3 := frozen_of_row _ gx 3 _ _ HX6.out
          go_upto_region 17 with fail
          clear x0 x1 x2 x3 x4 f3 e1 e2 e3 e4 e5 e6 e7 p0 p1 p3 p4
          rw [setCell_eq_setRow _ _ _ _ _ _ _ HX6.out]
          have hs : (#[.int .i64 k, .int .i64 sl, .int .i64 g, .int .i64 0, .bool tp] : Array Value).setIfInBounds 3 (.int .i64 h) = #[.int .i64 k, .int .i64 sl, .int .i64 g, .int .i64 h, .bool tp] := rfl
          rw [hs]
          have HX7 := Lh (setRow_heap W6 gx _ #[.int .i64 k, .int .i64 sl, .int .i64 g, .int .i64 h, .bool tp] _ _ HX6.out)
          have HR7 := Lh ((setRow_other W6 gx w.heap.size #[.int .i64 k, .int .i64 sl, .int .i64 g, .int .i64 h, .bool tp] (by have := HGX.out; omega)).trans HR6.out)
          have B7 := Lh (below_setRowM B6.out (Nat.le_of_lt HGX.out) #[.int .i64 k, .int .i64 sl, .int .i64 g, .int .i64 h, .bool tp])
          clear hs HX6 HR6 HE6 B6
          generalize W6.setRow gx #[.int .i64 k, .int .i64 sl, .int .i64 g, .int .i64 h, .bool tp] = W7 at *
          go_meet
          exact ⟨h, HH, HX7, HR7, B7⟩
        case rest =>
          obtain ⟨h, HH, HX7, HR7, B7⟩ := hcut
          rename World => W7
          have HV := Lh (show rgV s = (k, sl, g, h, tp) from by
            unfold rgV
            rw [← HQ.out.1, HSD.out.1, HSD.out.2, ← HH.out, ← HK.out, ← HQ.out.2.1])
          have HG := Lh (show ∀ y, OkN y → fmtV y = s → y = (k, sl, g, h, tp) from fun y hy he => by rw [← HV.out, ← he, (rg_fmt hy).1])
          clear HV HH HK HQ HSD HX6 HR6 HE6 B6
          obtain ⟨x0, x1, x2, x3, x4⟩ := bx5 HX7.out
          go_wp2_with fail
          clear x0 x1 x2 x3 x4
          refine (rformat_any k sl g h tp W7).mono ?_
          rintro e W8 ⟨rfl, hb⟩
          have HX8 := Lh ((hb.block _ (lt_of_some HX7.out)).trans HX7.out)
          have HR8 := Lh ((hb.block _ (lt_of_some HR7.out)).trans HR7.out)
          have B8 := Lh (B7.out.trans (hb.mono B7.out.size))
          clear hb HX7 HR7 B7
          by_cases hn : NameOk k sl g h tp
          case neg =>
            rw [if_neg hn, if_neg hn]
            have HNO := Lh (show ¬ (OkN (k, sl, g, h, tp) ∧ fmtV (k, sl, g, h, tp) = s) from fun q => hn q.1)
            clear hn
            go_wp2_with ((with_reducible refine storeRNm w.heap.size _ #[.int .i64 0, .int .i64 0, .int .i64 0, .int .i64 0, .bool false] ?_ ?_ HR8.out rfl rfl z5_one ?_); exact rfl; exact rfl)
            refine bodyPost_ret (results_rt (S := 23) rfl _ _ w.heap.size #[.int .i64 0, .int .i64 0, .int .i64 0, .int .i64 0, .bool false] rfl (setRow_heap _ _ _ _ _ _ HR8.out) Tryz.underlying23 rfl infoRN5) rfl ?_
            exact parO_no HG.out HNO.out ⟨rfl, below_setRowM B8.out (Nat.le_refl _) _⟩
          rw [if_pos hn, if_pos hn]
          have HOK := Lh hn
          clear hn
          obtain ⟨r, hr⟩ : ∃ r, r = fmtS k sl g h tp := ⟨_, rfl⟩
          rw [← hr]
          by_cases he : r = s
          case neg =>
            have HNO := Lh (show ¬ (OkN (k, sl, g, h, tp) ∧ fmtV (k, sl, g, h, tp) = s) from fun q => he (hr.trans q.2))
            have d1 : (r.toList == s.toList) = false := str_ne he
            clear he hr
            go_wp2_with ((with_reducible refine storeRNm w.heap.size _ #[.int .i64 0, .int .i64 0, .int .i64 0, .int .i64 0, .bool false] ?_ ?_ HR8.out rfl rfl z5_one ?_); exact rfl; exact rfl)
            refine bodyPost_ret (results_rt (S := 23) rfl _ _ w.heap.size #[.int .i64 0, .int .i64 0, .int .i64 0, .int .i64 0, .bool false] rfl (setRow_heap _ _ _ _ _ _ HR8.out) Tryz.underlying23 rfl infoRN5) rfl ?_
            exact parO_no HG.out HNO.out ⟨rfl, below_setRowM B8.out (Nat.le_refl _) _⟩
          have HEQ := Lh (show fmtV (k, sl, g, h, tp) = s from hr.symm.trans he)
          have d1 : (r.toList == s.toList) = true := by rw [he]; exact beq_self_eq_true _
          clear hr he
          obtain ⟨x0, x1, x2, x3, x4⟩ := bx5 HX8.out
          go_wp2_with ((with_reducible refine storeRNm w.heap.size _ #[.int .i64 k, .int .i64 sl, .int .i64 g, .int .i64 h, .bool tp] ?_ ?_ HR8.out rfl rfl (n5_one _ _ _ _ _) ?_); exact rfl; exact rfl)
          refine bodyPost_ret (results_rt (S := 23) rfl _ _ w.heap.size #[.int .i64 k, .int .i64 sl, .int .i64 g, .int .i64 h, .bool tp] rfl (setRow_heap _ _ _ _ _ _ HR8.out) Tryz.underlying23 rfl infoRN5) rfl ?_
          exact ⟨⟨(k, sl, g, h, tp), 0, rfl, Or.inl ⟨HOK.out, HEQ.out, rfl⟩⟩, below_setRowM B8.out (Nat.le_refl _) _⟩
end Go.Proofs.YtbmlpafbdbhaiaaGreatDoor.Gf
