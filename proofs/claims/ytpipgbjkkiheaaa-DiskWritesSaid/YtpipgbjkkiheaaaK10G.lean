/- What is proved here: contracts of the program (disk): Content, Size, Read, Remove, Sync, Create, Rename, Append. Conditions: see each. -/
import Derived.Test.YtpipgbjkkiheaaaK10F
import Derived.Test.YtpipgbjkkiheaaaK10B
import Derived.Test.YtpipgbjkkiheaaaK10E
import Derived.Test.YtpipgbjkkiheaaaK10C
namespace Go.Proofs.Ytpipgbjkkiheaaa.Gf
open Go Go.Joins Go.ChangeShapes Go.WideShapes Go.ChangeAt Go.RowKit Go.Deep Go.Proofs.Ytpipgbjkkiheaaa.By Go.Proofs.Ytpipgbjkkiheaaa.Qt

/-- Worlds that keep what is older than w, and certain boxes. -/
structure SBx (w : World) (L : List (Nat × Obj)) (w' : World) : Prop where
  bel : Below w.heap.size w w'
  box : ∀ p ∈ L, w'.heap[p.1]? = some p.2
theorem SBx.below {w a b : World} {L : List (Nat × Obj)} (h : SBx w L a) (hb : Below a.heap.size a b) : SBx w L b := ⟨btA h.bel hb, fun p hp => (hb.block _ (lt_of_some0 (h.box p hp))).trans (h.box p hp)⟩
theorem SBx.set3 {w a : World} {L : List (Nat × Obj)} {g : Nat} {k l m : Value} (h : SBx w L a) (hg : w.heap.size ≤ g) (hL : ∀ p ∈ L, p.1 ≠ g) : SBx w L (((a.setCell ⟨g, 0, none⟩ k).setCell ⟨g, 1, none⟩ l).setCell ⟨g, 2, none⟩ m) := ⟨below_set3 h.bel hg, fun p hp => (set3_other (hL p hp)).trans (h.box p hp)⟩
theorem SBx.drew {w a : World} {L : List (Nat × Obj)} (h : SBx w L a) : SBx w L a.drew := ⟨h.bel.drew, h.box⟩
theorem contL_ok {s : ByteArray} {b : List Nat} {p : List Wr} (hf : flB b p = true) : contL (s, b, p) = apL b p := by unfold contL; rw [if_pos hf]
set_option maxRecDepth 100000 in
set_option maxHeartbeats 6400000 in
theorem psynced_any (x : Fl) (bv pv : Value) (w : World) (sx : Rd (fun _ => True) w tyF [.string x.1, bv, pv] x) (hf : flB x.2.1 x.2.2 = true) (hlen : x.2.2.length ≤ 90000) : Calls Try.prog 69 #[.agg #[.string x.1, bv, pv]] w (FlO (fun _ => False) w (x.1, contL x, [])) := by
  obtain ⟨bv', pv', he, hsz, hb, hp⟩ := rd_f sx
  obtain ⟨rfl, rfl⟩ : bv = bv' ∧ pv = pv' := by simpa using he
  obtain ⟨nm, b, p⟩ := x
  dsimp only at hsz hb hp hf hlen ⊢
  have sb := rd8_sl hb
  have PLN := Lib.hid (fun W (h : Below w.heap.size w W) => plength_any nm bv pv b p W (sl_below sb h) (rd_below hp h) hf)
  have PPT := Lib.hid (fun (m : Nat) (hm : m = (apL b p).length) W (h : Below w.heap.size w W) => ppart_any nm bv pv b p 0 m m W (sl_below sb h) (rd_below hp h) hf (by omega) (by omega) hlen)
  rw [contL_ok (s := nm) hf] at PLN ⊢
  have HSZ := Lib.hid hsz
  obtain ⟨ab, cb, rfl, -, -⟩ := rd_sl hb
  obtain ⟨ap, cp, rfl, -, -⟩ := rd_sl hp
  have HRES := Lib.hid (show ((apL b p).drop 0).take (apL b p).length = apL b p by simp)
  obtain ⟨m, hm⟩ : ∃ z, z = (apL b p).length := ⟨_, rfl⟩
  rw [← hm] at PLN HRES
  have HM := Lib.hid hm
  have PPT2 := Lib.hid (fun W h => PPT.out m HM.out W h)
  rw [HRES.out] at PPT2
  generalize apL b p = RES at *
  generalize b.length = nb at *
  generalize p.length = np at *
  clear sx he hsz hb hp sb hf hlen hm PPT HRES
  have A1 := bel_al0 w (.cells #[.string nm, .slice ab nb cb, .slice ap np cp] 59)
  have BX := Lib.hid (btA A1 (bel_al0 _ (.cells #[.string ⟨#[]⟩, .slice none 0 0, .slice none 0 0] 59)))
  have HX := Lib.hid (show ((w.alloc (.cells #[.string nm, .slice ab nb cb, .slice ap np cp] 59)).alloc (.cells #[.string ⟨#[]⟩, .slice none 0 0, .slice none 0 0] 59)).heap[w.heap.size]? = some (.cells #[.string nm, .slice ab nb cb, .slice ap np cp] 59 (0, 0)) from (heap_alloc_old _ _ _ (by simp)).trans (heap_alloc_new w _))
  have HY := Lib.hid (heap_alloc2_new w (.cells #[.string nm, .slice ab nb cb, .slice ap np cp] 59) (.cells #[.string ⟨#[]⟩, .slice none 0 0, .slice none 0 0] 59))
  clear A1
  go_enter Try.func69, Try.ntmps69
  go_upto_region 1 with fail
  generalize ((w.alloc (.cells #[.string nm, .slice ab nb cb, .slice ap np cp] 59)).alloc (.cells #[.string ⟨#[]⟩, .slice none 0 0, .slice none 0 0] 59)) = W1 at *
  have S0 : SBx w [(w.heap.size, .cells #[.string nm, .slice ab nb cb, .slice ap np cp] 59 (0, 0))] W1.drew := ⟨BX.out.drew, fun p hp => by rw [List.mem_singleton.1 hp]; exact HX.out⟩
  refine wp_onlyN ?_
  refine wp_region_headsS (SBx w [(w.heap.size, .cells #[.string nm, .slice ab nb cb, .slice ap np cp] 59 (0, 0))]) [0, 1, 2, 3] 4 (by kernel_rfl) (fun _ _ _ _ _ h => h.elim) (by kernel_rfl) (by rfl) (by rfl) S0 ?_
  simp only [pickOps, List.filterMap_cons, List.filterMap_nil, List.getElem?_toArray, List.getElem?_cons_zero, List.getElem?_cons_succ]
  refine wpHeads_step (fun K hK => ?_)
  go_simp
  refine ⟨_, fun _ _ => rfl, hK _ ?_⟩
  clear hK K
  refine wpHeads_step (fun K hK => ?_)
  go_simp
  refine ⟨.string nm, fun w' hw' => by
    obtain ⟨u0, u1, u2⟩ := box3c (hw'.box _ (List.mem_singleton.2 rfl))
    simp [u0], hK _ ?_⟩
  clear hK K
  iterate 2
    refine wpHeads_step (fun K hK => ?_)
    go_simp
    refine ⟨.agg #[.string nm, .slice ab nb cb, .slice ap np cp], fun w' hw' => by
      obtain ⟨u0, u1, u2⟩ := box3c (hw'.box _ (List.mem_singleton.2 rfl))
      simp [u0, u1, u2], hK _ ?_⟩
    clear hK K
  refine wpHeads_nil ?_
  have BXD : Hid (Below w.heap.size w W1.drew) := Lib.hid BX.out.drew
  have HYD : Hid (W1.drew.heap[w.heap.size + 1]? = some (.cells #[.string ⟨#[]⟩, .slice none 0 0, .slice none 0 0] 59 (0, 0))) := Lib.hid HY.out
  have SD := Lib.hid S0
  generalize W1.drew = W2 at *
  clear S0 BX HX HY
  refine held_one 4 rfl rfl (by kernel_rfl) fun K hK => ?_
  go_simp
  go_at_call 50
  refine (PLN.out _ BXD.out).mono ?_
  rintro e w3 ⟨rfl, hb3⟩
  refine hK _ _ (SD.out.below hb3) ?_
  clear hK K
  have S3 := Lib.hid (SD.out.below hb3)
  have HY3 := Lib.hid ((hb3.block _ (lt_of_some0 HYD.out)).trans HYD.out)
  clear hb3 SD HYD BXD
  refine held_one 5 rfl rfl (by kernel_rfl) fun K hK => ?_
  go_simp
  go_at_call 52
  refine (PPT2.out _ S3.out.bel).mono ?_
  rintro e w4 ⟨⟨v4, rfl, ho4⟩, hb4⟩
  refine hK _ _ (S3.out.below hb4) ?_
  clear hK K
  have S4 := Lib.hid (S3.out.below hb4)
  have HY4 := Lib.hid ((hb4.block _ (lt_of_some0 HY3.out)).trans HY3.out)
  have R4 := Lib.hid (own_rd8 ho4)
  have SZ := Lib.hid (lt_of_some0 HY3.out)
  obtain ⟨a4, c4, rfl, -, -⟩ := sl_form ho4.sl
  generalize RES.length = n4 at *
  clear ho4 hb4 S3 HY3
  refine held_one 6 rfl rfl (by kernel_rfl) fun K hK => ?_
  go_simp
  refine hK _ _ S4.out ?_
  clear hK K
  obtain ⟨y0, y1, y2⟩ := box3c HY4.out
  have u0 := frozen_of_row w4 (w.heap.size + 1) 0 _ _ HY4.out
  have u1 := frozen_of_row w4 (w.heap.size + 1) 1 _ _ HY4.out
  have u2 := frozen_of_row w4 (w.heap.size + 1) 2 _ _ HY4.out
  refine held_one 7 rfl rfl (by kernel_rfl) fun K hK => ?_
  go_simp
  refine hK _ _ (S4.out.set3 (by omega) (fun p hp => by rw [List.mem_singleton.1 hp]; show w.heap.size ≠ w.heap.size + 1; omega)) ?_
  clear hK K
  refine wpAnyH_done (by kernel_rfl) ?_ _
  unfold onlyN
  dsimp only
  clear y0 y1 y2 u0 u1 u2
  go_wp2
  refine pfile_end1 rfl (set3c HY4.out) rfl ?_
  have hz := SZ.out
  exact ⟨⟨_, _, rfl, rd_f_mk HSZ.out (rd_move (fun b hb _ => set3_other (by omega)) (fun b hb _ => Or.inr (by omega)) R4.out) (rd_nil _ _ _)⟩, below_set3 S4.out.bel (by omega)⟩
set_option maxRecDepth 100000 in
set_option maxHeartbeats 6400000 in
theorem pcontent_any (x : Fl) (bv pv : Value) (w : World) (sx : Rd (fun _ => True) w tyF [.string x.1, bv, pv] x) (hsm : ∀ y ∈ x.2.2, y.2.1.length ≤ 1099511627776) (hlen : x.2.2.length ≤ 90000) : Calls Try.prog 33 #[.agg #[.string x.1, bv, pv]] w (BA w (contL x)) := by
  obtain ⟨bv', pv', he, hsz, hb, hp⟩ := rd_f sx
  obtain ⟨rfl, rfl⟩ : bv = bv' ∧ pv = pv' := by simpa using he
  obtain ⟨nm, b, p⟩ := x
  dsimp only at hsz hb hp hsm hlen ⊢
  have sb := rd8_sl hb
  have PSD := Lib.hid (fun W (h : Below w.heap.size w W) => psound_any nm bv pv b p W (sl_below sb h) (rd_below hp h) hsm)
  have PLN := Lib.hid (fun (hf : flB b p = true) W (h : Below w.heap.size w W) => plength_any nm bv pv b p W (sl_below sb h) (rd_below hp h) hf)
  have PPT := Lib.hid (fun (hf : flB b p = true) (m : Nat) (hm : m = (apL b p).length) W (h : Below w.heap.size w W) => ppart_any nm bv pv b p 0 m m W (sl_below sb h) (rd_below hp h) hf (by omega) (by omega) hlen)
  obtain ⟨ab, cb, rfl, -, -⟩ := rd_sl hb
  obtain ⟨ap, cp, rfl, -, -⟩ := rd_sl hp
  have BX := Lib.hid (bel_al0 w (.cells #[.string nm, .slice ab b.length cb, .slice ap p.length cp] 59))
  have HX := Lib.hid (heap_alloc_new w (.cells #[.string nm, .slice ab b.length cb, .slice ap p.length cp] 59))
  have HC : Hid (contL (nm, b, p) = if flB b p = true then apL b p else []) := Lib.hid rfl
  have HRES := Lib.hid (show ((apL b p).drop 0).take (apL b p).length = apL b p by simp)
  have HCO := Lib.hid (fun hf => contL_ok (s := nm) (b := b) (p := p) hf)
  obtain ⟨m, hm⟩ : ∃ z, z = (apL b p).length := ⟨_, rfl⟩
  rw [← hm] at HRES
  have HM := Lib.hid hm
  have PPT2 := Lib.hid (fun hf W h => PPT.out hf m HM.out W h)
  rw [HRES.out] at PPT2
  generalize apL b p = RES at *
  generalize flB b p = FB at *
  generalize b.length = nb at *
  generalize p.length = np at *
  clear sx he hsz hb hp sb hm PPT HRES hsm hlen
  go_enter Try.func33, Try.ntmps33
  go_upto_region 1 with fail
  generalize w.alloc (.cells #[.string nm, .slice ab nb cb, .slice ap np cp] 59) = W1 at *
  obtain ⟨x0, x1, x2⟩ := box3c HX.out
  go_wp2_with fail
  refine (PSD.out _ BX.out).mono ?_
  rintro e w2 ⟨rfl, hb2⟩
  have B2 := Lib.hid (btA BX.out hb2)
  have HX2 := Lib.hid ((hb2.block _ (lt_of_some0 HX.out)).trans HX.out)
  clear x0 x1 x2 hb2 BX HX PSD
  cases FB
  · have HCC : Hid (contL (nm, b, p) = []) := Lib.hid HC.out
    go_wp2
    go_ret
    rw [HCC.out]
    exact ⟨⟨_, rfl, own_nil _ _⟩, B2.out⟩
  · have hC : contL (nm, b, p) = RES := HC.out
    have HCC := Lib.hid hC
    have PLN1 := Lib.hid (PLN.out (by first | rfl | trivial))
    rw [hC] at PLN1
    have PPT1 := Lib.hid (PPT2.out (by first | rfl | trivial))
    rw [← HM.out] at PLN1
    clear hC HC HCO PLN PPT2
    go_upto_region 3 with fail
    have S0 : SBx w [(w.heap.size, .cells #[.string nm, .slice ab nb cb, .slice ap np cp] 59 (0, 0))] w2.drew := ⟨B2.out.drew, fun p hp => by rw [List.mem_singleton.1 hp]; exact HX2.out⟩
    refine wp_onlyN ?_
    refine wp_region_headsS (SBx w [(w.heap.size, .cells #[.string nm, .slice ab nb cb, .slice ap np cp] 59 (0, 0))]) [0, 1] 3 (by kernel_rfl) (fun _ _ _ _ _ h => h.elim) (by kernel_rfl) (by rfl) (by rfl) S0 ?_
    simp only [pickOps, List.filterMap_cons, List.filterMap_nil, List.getElem?_toArray, List.getElem?_cons_zero, List.getElem?_cons_succ]
    iterate 2
      refine wpHeads_step (fun K hK => ?_)
      go_simp
      refine ⟨.agg #[.string nm, .slice ab nb cb, .slice ap np cp], fun w' hw' => by
        obtain ⟨u0, u1, u2⟩ := box3c (hw'.box _ (List.mem_singleton.2 rfl))
        simp [u0, u1, u2], hK _ ?_⟩
      clear hK K
    refine wpHeads_nil ?_
    have SD := Lib.hid S0
    generalize w2.drew = W3 at *
    clear S0 HX2 B2
    refine held_one 2 rfl rfl (by kernel_rfl) fun K hK => ?_
    go_simp
    go_at_call 50
    refine (PLN1.out _ SD.out.bel).mono ?_
    rintro e w4 ⟨rfl, hb4⟩
    refine hK _ _ (SD.out.below hb4) ?_
    clear hK K
    have S4 := Lib.hid (SD.out.below hb4)
    clear hb4 SD
    refine held_one 3 rfl rfl (by kernel_rfl) fun K hK => ?_
    go_simp
    go_at_call 52
    refine (PPT1.out _ S4.out.bel).mono ?_
    rintro e w5 ⟨⟨v5, rfl, ho5⟩, hb5⟩
    refine hK _ _ (S4.out.below hb5) ?_
    clear hK K
    have S5 := Lib.hid (S4.out.below hb5)
    have O5 := Lib.hid (own_weak0 ho5 S4.out.bel.size)
    obtain ⟨a5, c5, rfl, -, -⟩ := sl_form ho5.sl
    generalize RES.length = n5 at *
    clear ho5 hb5 S4
    refine held_one 4 rfl rfl (by kernel_rfl) fun K hK => ?_
    go_simp
    refine hK _ _ S5.out ?_
    clear hK K
    refine wpAnyH_done (by kernel_rfl) ?_ _
    unfold onlyN
    dsimp only
    go_wp2
    go_ret
    rw [HCC.out]
    exact ⟨⟨_, rfl, O5.out⟩, S5.out.bel⟩
set_option maxRecDepth 100000 in
set_option maxHeartbeats 6400000 in
theorem pused_any (v : Value) (d : Dk) (w : World) (hv : Dv w v d) (hval : validB d = true) : Calls Try.prog 88 #[v] w fun e w' => e = .returned (.int .i64 ((totN d.2.2 : Nat) : Int)) ∧ Below w.heap.size w w' := by
  have hok := ok_mem (valid_parts hval).2.2.2
  have hlen : d.2.2.length ≤ 256 := (valid_parts hval).2.2.1
  obtain ⟨fv, rfl, -, sf⟩ := hv
  have SF := Lib.hid sf
  obtain ⟨af, cf, rfl, -, -⟩ := rd_sl sf
  obtain ⟨cap, left, L⟩ := d
  dsimp only at SF hlen hok ⊢
  have HOK := Lib.hid hok
  obtain ⟨n, hn⟩ : ∃ z, z = L.length := ⟨_, rfl⟩
  rw [← hn] at SF hlen ⊢
  have HN := Lib.hid hn
  have HLEN := Lib.hid hlen
  have BX := Lib.hid (bel_al0 w (.cells #[.int .i64 cap, .int .i64 left, .slice af n cf] 33))
  have HX := Lib.hid (heap_alloc_new w (.cells #[.int .i64 cap, .int .i64 left, .slice af n cf] 33))
  have BND := Lib.hid (fun i => totN_le (L.take i))
  obtain ⟨x0, x1, x2⟩ := box3c HX.out
  clear sf hn hlen hok hval
  go_enter Try.func88, Try.ntmps88
  go_wp2_with fail
  clear x0 x1 x2
  go_loopw [3, 9] (fun tt t wr => ∃ i : Nat, i ≤ n ∧ t = .int .i64 (i : Int) ∧ tt = .int .i64 ((totN (L.take i) : Nat) : Int) ∧ Hid (Below w.heap.size w wr)) (fun _ t _ => n - (intOf t).toNat)
  case atStart => exact ⟨0, by omega, rfl, rfl, BX⟩
  case round =>
    obtain ⟨i, hi, rfl, rfl, HBB⟩ := hrel
    have hlen := HLEN.out
    by_cases hin : i < n
    · have l1 : decide ((i : Int) < (n : Int)) = true := decide_eq_true (by omega)
      have p0 : (0 : Int) ≤ (i : Int) := by omega
      have p1 : (i : Int) < (n : Int) := by omega
      have hip : i < L.length := by rw [← HN.out]; exact hin
      obtain ⟨b1, o1, bv, pv, rfl, -, k0, k1, k2, hsz, hb, hp⟩ := dv_at (rd_below SF.out HBB.out) hip
      have hf : flB (L.getD i fl0).2.1 (L.getD i fl0).2.2 = true := by
        have h := HOK.out (L.getD i fl0) (by rw [getD_F hip]; exact List.getElem_mem hip)
        unfold fileB at h
        rw [Bool.and_eq_true] at h
        exact h.2
      have BA1 := Lib.hid (bel_al0 wr (.cells #[.string (L.getD i fl0).1, bv, pv] 59))
      have HB1 := Lib.hid (heap_alloc_new wr (.cells #[.string (L.getD i fl0).1, bv, pv] 59))
      have RC := Lib.hid (plength_any (L.getD i fl0).1 _ _ _ _ _ (sl_below (rd8_sl hb) BA1.out) (rd_below hp BA1.out) hf)
      rw [show ((L.getD i fl0).1, (L.getD i fl0).2.1, (L.getD i fl0).2.2) = L.getD i fl0 from rfl] at RC
      have HT := Lib.hid (totN_take hip)
      have hbd := BND.out (i + 1)
      have HCL := Lib.hid (contL_le (L.getD i fl0))
      obtain ⟨ab, cb, rfl, -, -⟩ := sl_form (rd8_sl hb)
      obtain ⟨ap, cp, rfl, -, -⟩ := rd_sl hp
      rw [HT.out, List.length_take] at hbd
      generalize (L.getD i fl0).2.1.length = nb at *
      generalize (L.getD i fl0).2.2.length = np at *
      generalize (L.getD i fl0).1 = sa at *
      generalize contL (L.getD i fl0) = C at *
      generalize totN (L.take i) = t0 at *
      obtain ⟨nc, hnc⟩ : ∃ z, z = C.length := ⟨_, rfl⟩
      rw [← hnc] at RC hbd
      have hw : wrap64 ((t0 : Int) + (nc : Int)) = ((t0 + nc : Nat) : Int) := by unfold wrap64; omega
      have hw1 : wrap64 ((i : Int) + 1) = ((i + 1 : Nat) : Int) := by clear hw; unfold wrap64; omega
      rw [← hnc] at HT
      have HW1 := Lib.hid hw1
      have HW := Lib.hid hw
      have HI := Lib.hid hin
      have B7 := Lib.hid (btA HBB.out BA1.out)
      clear hb hp hsz hip hbd hw hw1 hnc hin hf
      obtain ⟨y0, y1, y2⟩ := box3c HB1.out
      go_wp2_with fail
      refine RC.out.mono ?_
      rintro e w3 ⟨rfl, hb3⟩
      have B3 := Lib.hid (btA B7.out hb3)
      have hw := HW.out
      have hw1 := HW1.out
      clear hb3 RC k0 k1 k2 y0 y1 y2
      go_wp2
      go_roundw
      case rel =>
        have hi2 := HI.out
        exact ⟨i + 1, by omega, by go_num, by rw [HT.out]; go_num, B3⟩
      case measure =>
        have hi2 := HI.out
        clear hw hw1
        simp [intOf]
        omega
    · obtain rfl : i = n := by omega
      have l1 : decide ((i : Int) < (i : Int)) = false := decide_eq_false (by omega)
      have htk : L.take i = L := by rw [HN.out]; exact List.take_length
      rw [htk]
      go_wp2
      go_ret
      exact ⟨rfl, HBB.out⟩
end Go.Proofs.Ytpipgbjkkiheaaa.Gf
namespace Go.Proofs.Ytpipgbjkkiheaaa.Gf
open Go Go.Joins Go.ChangeShapes Go.WideShapes Go.ChangeAt Go.RowKit Go.Deep Go.Proofs.Ytpipgbjkkiheaaa.By Go.Proofs.Ytpipgbjkkiheaaa.Qt

/-- No file has more than k writes pending. -/
def PnD (d : Dk) (k : Nat) : Prop := ∀ f ∈ d.2.2, f.2.2.length ≤ k
theorem fnd_name {L : List Fl} {s : ByteArray} (h : 0 ≤ fndL L s) : (L.getD (fndL L s).toNat fl0).1 = s := by
  unfold fndL at h ⊢
  cases e : L.findIdx? (fun f => nmEq f.1 s) with
  | none => rw [e] at h; exact absurd h (by show ¬ (0 : Int) ≤ -1; omega)
  | some i =>
    obtain ⟨hi, h1, -⟩ := List.findIdx?_eq_some_iff_getElem.1 e
    show (L.getD ((i : Int)).toNat fl0).1 = s
    rw [Int.toNat_natCast, getD_F hi]
    exact nmEq_iff.1 h1
/-- A call that finds its file. -/
theorem open_ok {d : Dk} {s : ByteArray} (h : atE d s = 0) : openF d s = fileAt d s ∧ fileAt d s ∈ d.2.2 ∧ flB (fileAt d s).2.1 (fileAt d s).2.2 = true ∧ (fileAt d s).1 = s ∧ validB d = true ∧ readyE d s = 0 ∧ atI d s = fndL d.2.2 s ∧ 0 ≤ fndL d.2.2 s := by
  obtain ⟨h1, h2⟩ := at_ok h
  have hr : readyE d s = 0 := by
    unfold atE at h
    by_cases c : readyE d s = 0
    · exact c
    · rw [if_neg c] at h; exact h
  have hi : atI d s = fndL d.2.2 s := by unfold atI; rw [if_pos hr]
  have hv := (ready_len hr).2
  have hlt : (atI d s).toNat < d.2.2.length := by omega
  have hm : fileAt d s ∈ d.2.2 := by
    unfold fileAt
    rw [getD_F hlt]
    exact List.getElem_mem hlt
  have hf := ok_mem (valid_parts hv).2.2.2 _ hm
  unfold fileB at hf
  rw [Bool.and_eq_true] at hf
  refine ⟨by unfold openF; rw [if_pos h], hm, hf.2, ?_, hv, hr, hi, by omega⟩
  unfold fileAt
  rw [hi]
  exact fnd_name (by omega)
set_option maxRecDepth 100000 in
set_option maxHeartbeats 6400000 in
theorem psize_any (v : Value) (d : Dk) (s : ByteArray) (hs : s.size ≤ maxLen) (w : World) (hv : Dv w v d) (hsm : SmD d) : Calls Try.prog 29 #[v, .string s] w fun e w' => e = .returned (.tuple #[.int .i64 (sizeD d s), .int .i64 ((atE d s : Nat) : Int)]) ∧ Below w.heap.size w w' := by
  obtain ⟨fv, rfl, hr, sf⟩ := hv
  have RO := Lib.hid (fun W (h : Below w.heap.size w W) => popen_any (B := fun _ => True) _ d s hs W ⟨fv, rfl, hr, rd_below sf h⟩ hsm)
  have HOK := Lib.hid (fun h => open_ok (d := d) (s := s) h)
  have HSD : Hid (sizeD d s = if atE d s = 0 then (((contL (fileAt d s)).length : Nat) : Int) else 0) := Lib.hid rfl
  obtain ⟨af, cf, rfl, -, -⟩ := rd_sl sf
  generalize sizeD d s = SZ at *
  generalize openF d s = OF at *
  generalize fileAt d s = FA at *
  generalize atE d s = E at *
  generalize readyE d s = RE at *
  generalize atI d s = IE at *
  obtain ⟨cap, left, L⟩ := d
  dsimp only at RO HOK ⊢
  generalize L.length = n at *
  have BX := Lib.hid (bel_al0 w (.cells #[.int .i64 cap, .int .i64 left, .slice af n cf] 33))
  have HX := Lib.hid (heap_alloc_new w (.cells #[.int .i64 cap, .int .i64 left, .slice af n cf] 33))
  obtain ⟨x0, x1, x2⟩ := box3c HX.out
  clear sf hr hs hsm
  go_enter Try.func29, Try.ntmps29
  go_wp2_with fail
  refine (RO.out _ BX.out).mono ?_
  rintro e w2 ⟨⟨bv, pv, rfl, hrd⟩, hb2⟩
  have B2 := Lib.hid (btA BX.out hb2)
  obtain ⟨bv', pv', he, hsz, hb, hp⟩ := rd_f hrd
  obtain ⟨rfl, rfl⟩ : bv = bv' ∧ pv = pv' := by simpa using he
  have HB := Lib.hid (rd8_sl hb)
  have HP := Lib.hid (rd_mono (C := fun _ => True) hp fun _ _ _ => trivial)
  obtain ⟨ab, cb, rfl, -, -⟩ := rd_sl hb
  obtain ⟨ap, cp, rfl, -, -⟩ := rd_sl hp
  have BA := Lib.hid (bel_al0 w2 (.cells #[.string OF.1, .slice ab OF.2.1.length cb, .slice ap OF.2.2.length cp] 59))
  have HZ := Lib.hid (heap_alloc_new w2 (.cells #[.string OF.1, .slice ab OF.2.1.length cb, .slice ap OF.2.2.length cp] 59))
  have PL := Lib.hid (fun (hf : flB OF.2.1 OF.2.2 = true) => plength_any OF.1 _ _ OF.2.1 OF.2.2 _ (sl_below HB.out BA.out) (rd_below HP.out BA.out) hf)
  have B3 := Lib.hid (btA B2.out BA.out)
  clear hb2 hrd he hsz hb hp x0 x1 x2 RO HX BX HB HP BA
  by_cases h0 : E = 0
  · subst h0
    obtain ⟨rfl, -, hf, -⟩ := HOK.out rfl
    have PL2 := Lib.hid (PL.out hf)
    rw [if_pos rfl, show OF = (OF.1, OF.2.1, OF.2.2) from rfl] at HSD
    clear PL HOK
    generalize contL (OF.1, OF.2.1, OF.2.2) = C at *
    generalize C.length = nc at *
    generalize OF.2.1.length = nb at *
    generalize OF.2.2.length = np at *
    go_upto_region 2 with fail
    generalize w2.alloc (.cells #[.string OF.1, .slice ab nb cb, .slice ap np cp] 59) = W3 at *
    obtain ⟨z0, z1, z2⟩ := box3c HZ.out
    go_wp2_with fail
    refine PL2.out.mono ?_
    rintro e w4 ⟨rfl, hb4⟩
    have B4 := Lib.hid (btA B3.out hb4)
    clear hb4
    go_wp2
    go_ret2
    rw [HSD.out]
    exact ⟨rfl, B4.out⟩
  · rw [if_neg h0] at HSD
    have e1 : ((E : Int) != 0) = true := by rw [bne_iff_ne]; omega
    clear h0 PL HOK
    generalize OF.2.1.length = nb at *
    generalize OF.2.2.length = np at *
    go_wp2
    go_ret2
    rw [HSD.out]
    exact ⟨rfl, B3.out⟩
set_option maxRecDepth 100000 in
set_option maxHeartbeats 6400000 in
theorem pread_any (v : Value) (d : Dk) (s : ByteArray) (hs : s.size ≤ maxLen) (k : Nat) (w : World) (hv : Dv w v d) (hsm : SmD d) (hpn : PnD d k) (hk : k ≤ 90000) (off n0 : Int) (ho : -9223372036854775808 ≤ off ∧ off ≤ 9223372036854775807) (hn0 : -9223372036854775808 ≤ n0 ∧ n0 ≤ 9223372036854775807) : Calls Try.prog 31 #[v, .string s, .int .i64 off, .int .i64 n0] w (RDO w (readL d s off n0) (readE d s off n0)) := by
  obtain ⟨fv, rfl, hr, sf⟩ := hv
  have RO := Lib.hid (fun W (h : Below w.heap.size w W) => popen_any (B := fun _ => True) _ d s hs W ⟨fv, rfl, hr, rd_below sf h⟩ hsm)
  have HOK := Lib.hid (fun h => open_ok (d := d) (s := s) h)
  have HRE : Hid (readE d s off n0 = if atE d s = 0 then (if off < 0 ∨ n0 < 0 ∨ (((contL (fileAt d s)).length : Nat) : Int) < off + n0 then 2 else 0) else atE d s) := Lib.hid rfl
  have HRL : Hid (readL d s off n0 = if readE d s off n0 = 0 then ((contL (fileAt d s)).drop off.toNat).take n0.toNat else []) := Lib.hid rfl
  have HPN := Lib.hid hpn
  obtain ⟨af, cf, rfl, -, -⟩ := rd_sl sf
  generalize readL d s off n0 = RL at *
  generalize readE d s off n0 = RE2 at *
  generalize openF d s = OF at *
  generalize fileAt d s = FA at *
  generalize atE d s = E at *
  generalize readyE d s = RE at *
  generalize atI d s = IE at *
  obtain ⟨cap, left, L⟩ := d
  dsimp only at RO HOK ⊢
  generalize L.length = n at *
  have BX := Lib.hid (bel_al0 w (.cells #[.int .i64 cap, .int .i64 left, .slice af n cf] 33))
  have HX := Lib.hid (heap_alloc_new w (.cells #[.int .i64 cap, .int .i64 left, .slice af n cf] 33))
  obtain ⟨x0, x1, x2⟩ := box3c HX.out
  have HN := Lib.hid (And.intro ho hn0)
  clear sf hr hs hsm ho hn0 hpn
  go_enter Try.func31, Try.ntmps31
  go_wp2_with fail
  refine (RO.out _ BX.out).mono ?_
  rintro e w2 ⟨⟨bv, pv, rfl, hrd⟩, hb2⟩
  have B2 := Lib.hid (btA BX.out hb2)
  obtain ⟨bv', pv', he, hsz, hb, hp⟩ := rd_f hrd
  obtain ⟨rfl, rfl⟩ : bv = bv' ∧ pv = pv' := by simpa using he
  have HB := Lib.hid (rd8_sl hb)
  have HP := Lib.hid (rd_mono (C := fun _ => True) hp fun _ _ _ => trivial)
  obtain ⟨ab, cb, rfl, -, -⟩ := rd_sl hb
  obtain ⟨ap, cp, rfl, -, -⟩ := rd_sl hp
  have BA1 := Lib.hid (bel_al0 w2 (.cells #[.string OF.1, .slice ab OF.2.1.length cb, .slice ap OF.2.2.length cp] 59))
  have HZ := Lib.hid (heap_alloc_new w2 (.cells #[.string OF.1, .slice ab OF.2.1.length cb, .slice ap OF.2.2.length cp] 59))
  have PL := Lib.hid (fun (hf : flB OF.2.1 OF.2.2 = true) => plength_any OF.1 _ _ OF.2.1 OF.2.2 _ (sl_below HB.out BA1.out) (rd_below HP.out BA1.out) hf)
  have PP := Lib.hid (fun (hf : flB OF.2.1 OF.2.2 = true) W (h : Below w2.heap.size w2 W) (o m en : Nat) h1 h2 h3 => ppart_any OF.1 _ _ OF.2.1 OF.2.2 o m en W (sl_below HB.out h) (rd_below HP.out h) hf h1 h2 h3)
  have B3 := Lib.hid (btA B2.out BA1.out)
  clear hb2 hrd he hsz hb hp x0 x1 x2 RO HX BX HB HP
  by_cases h0 : E = 0
  · subst h0
    obtain ⟨rfl, hmem, hf, -⟩ := HOK.out rfl
    have PL2 := Lib.hid (PL.out hf)
    have PP2 := Lib.hid (PP.out hf)
    have HCE := Lib.hid (contL_ok (s := OF.1) hf)
    have HPL : Hid (OF.2.2.length ≤ 90000) := Lib.hid (Nat.le_trans (HPN.out _ hmem) hk)
    have HCL := Lib.hid (contL_le (OF.1, OF.2.1, OF.2.2))
    rw [if_pos rfl, show OF = (OF.1, OF.2.1, OF.2.2) from rfl] at HRE
    rw [show OF = (OF.1, OF.2.1, OF.2.2) from rfl] at HRL
    rw [← HCE.out] at PP2
    clear PL PP HOK hf hmem HPN HCE
    generalize contL (OF.1, OF.2.1, OF.2.2) = C at *
    obtain ⟨nc, hnc⟩ : ∃ z, z = C.length := ⟨_, rfl⟩
    rw [← hnc] at PL2 PP2 HRE HCL
    clear hnc
    generalize OF.2.1.length = nb at *
    generalize OF.2.2.length = np at *
    go_upto_region 2 with fail
    generalize w2.alloc (.cells #[.string OF.1, .slice ab nb cb, .slice ap np cp] 59) = W3 at *
    obtain ⟨z0, z1, z2⟩ := box3c HZ.out
    by_cases h1 : off < 0
    · have e1 : decide (off < 0) = true := decide_eq_true h1
      rw [if_pos (Or.inl h1)] at HRE
      rw [HRE.out, if_neg (by decide)] at HRL
      clear h1
      go_wp2
      go_ret2
      rw [HRE.out, HRL.out]
      exact ⟨⟨_, rfl, sl_nil _⟩, B3.out⟩
    by_cases h2 : n0 < 0
    · have e1 : decide (off < 0) = false := decide_eq_false h1
      have e2 : decide (n0 < 0) = true := decide_eq_true h2
      rw [if_pos (Or.inr (Or.inl h2))] at HRE
      rw [HRE.out, if_neg (by decide)] at HRL
      clear h1 h2
      go_wp2
      go_ret2
      rw [HRE.out, HRL.out]
      exact ⟨⟨_, rfl, sl_nil _⟩, B3.out⟩
    have e1 : decide (off < 0) = false := decide_eq_false h1
    have e2 : decide (n0 < 0) = false := decide_eq_false h2
    have hw : wrap64 ((nc : Int) - off) = (nc : Int) - off := by have := HCL.out; have := HN.out; unfold wrap64; omega
    have HW := Lib.hid hw
    by_cases h3 : (nc : Int) - off < n0
    · have e3 : decide (n0 > (nc : Int) - off) = true := decide_eq_true h3
      have e4 : decide ((nc : Int) - off < n0) = true := decide_eq_true h3
      rw [if_pos (Or.inr (Or.inr (by clear hw; omega)))] at HRE
      rw [HRE.out, if_neg (by decide)] at HRL
      clear h1 h2 h3 hw
      go_wp2_with fail
      refine PL2.out.mono ?_
      rintro e w4 ⟨rfl, hb4⟩
      have B4 := Lib.hid (btA B3.out hb4)
      have hw := HW.out
      clear hb4
      go_wp2
      go_ret2
      rw [HRE.out, HRL.out]
      exact ⟨⟨_, rfl, sl_nil _⟩, B4.out⟩
    · have e3 : decide (n0 > (nc : Int) - off) = false := decide_eq_false h3
      have e4 : decide ((nc : Int) - off < n0) = false := decide_eq_false h3
      clear hw
      rw [if_neg (by omega)] at HRE
      rw [HRE.out, if_pos rfl] at HRL
      obtain ⟨o, rfl⟩ : ∃ o : Nat, off = (o : Int) := ⟨off.toNat, by omega⟩
      obtain ⟨m, rfl⟩ : ∃ m : Nat, n0 = (m : Int) := ⟨n0.toNat, by omega⟩
      rw [Int.toNat_natCast, Int.toNat_natCast] at HRL
      have hle : o + m ≤ nc := by omega
      obtain ⟨en, hen⟩ : ∃ en, en = o + m := ⟨_, rfl⟩
      have hw2 : wrap64 ((o : Int) + (m : Int)) = (en : Int) := by have := HCL.out; unfold wrap64; omega
      have HW2 := Lib.hid hw2
      have PP3 := Lib.hid (fun W h => PP2.out W h o m en hle hen HPL.out)
      rw [← HRL.out] at PP3
      clear h1 h2 h3 hle hen hw2 PP2
      go_wp2_with fail
      refine PL2.out.mono ?_
      rintro e w4 ⟨rfl, hb4⟩
      have B4 := Lib.hid (btA B3.out hb4)
      have HZ4 := Lib.hid ((hb4.block _ (lt_of_some0 HZ.out)).trans HZ.out)
      have hw := HW.out
      have PP4 := Lib.hid (PP3.out w4 (btA BA1.out hb4))
      clear hb4 z0 z1 z2 HZ PL2 PP3
      obtain ⟨z0, z1, z2⟩ := box3c HZ4.out
      go_upto_region 6 with fail
      have hw2 := HW2.out
      clear hw e1 e2 e3 e4
      go_wp2_with fail
      refine PP4.out.mono ?_
      rintro e w5 ⟨⟨v5, rfl, ho5⟩, hb5⟩
      have B5 := Lib.hid (btA B4.out hb5)
      have S5 := Lib.hid ho5.sl
      obtain ⟨a5, c5, rfl, -, -⟩ := sl_form ho5.sl
      generalize RL.length = n5 at *
      clear ho5 hb5 z0 z1 z2
      go_wp2
      go_ret2
      rw [HRE.out]
      exact ⟨⟨_, rfl, S5.out⟩, B5.out⟩
  · rw [if_neg h0] at HRE
    rw [HRE.out, if_neg h0] at HRL
    have e1 : ((E : Int) != 0) = true := by rw [bne_iff_ne]; omega
    clear h0 PL PP HOK
    generalize OF.2.1.length = nb at *
    generalize OF.2.2.length = np at *
    go_wp2
    go_ret2
    rw [HRE.out, HRL.out]
    exact ⟨⟨_, rfl, sl_nil _⟩, B3.out⟩
end Go.Proofs.Ytpipgbjkkiheaaa.Gf
namespace Go.Proofs.Ytpipgbjkkiheaaa.Gf
open Go

theorem addF_done {f : Fl} : ∀ (L out : List Fl), (∀ g ∈ L, nmEq g.1 f.1 = false) → L.foldl (addS f) (out, true) = (out ++ L, true)
  | [], out, _ => by simp
  | g :: L, out, h => by
    rw [List.foldl_cons]
    have e : addS f (out, true) g = (out ++ [g], true) := by
      unfold addS addS1
      rw [h g (List.mem_cons_self ..)]
      simp
    rw [e, addF_done L _ fun x hx => h x (List.mem_cons_of_mem _ hx)]
    simp
theorem addF_ins {f : Fl} : ∀ {L : List Fl} (out : List Fl), SrtF L → (let r := L.foldl (addS f) (out, false); if r.2 then r.1 else r.1 ++ [f]) = out ++ insR nmF L f
  | [], out, _ => by simp [insR]
  | x :: L, out, h => by
    obtain ⟨h1, h2⟩ := List.pairwise_cons.1 h
    rw [List.foldl_cons]
    by_cases c : ltS x.1 f.1 = true
    · have e : addS f (out, false) x = (out ++ [x], false) := by
        unfold addS addS1 nmGe
        rw [nmEq_lt c, show (Op.bytesLess x.1.toList f.1.toList) = true from c]
        simp
      rw [e, addF_ins _ h2]
      show _ = out ++ (if ltS x.1 f.1 = true then x :: insR nmF L f else _)
      rw [if_pos c]
      simp
    · have c' : (Op.bytesLess x.1.toList f.1.toList) = false := by
        cases h : ltS x.1 f.1 with
        | false => exact h
        | true => exact absurd h c
      by_cases e : nmEq x.1 f.1 = true
      · have e2 : addS f (out, false) x = (out ++ [f], true) := by
          unfold addS addS1 nmGe
          rw [e, c']
          simp
        have hr : ∀ g ∈ L, nmEq g.1 f.1 = false := fun g hg => by
          rw [← nmEq_iff.1 e]
          exact nmEq_gt (h1 g hg)
        rw [e2, addF_done L _ hr]
        show _ = out ++ (if ltS x.1 f.1 = true then _ else if nmEq x.1 f.1 = true then f :: L else _)
        rw [if_neg c, if_pos e]
        simp
      · have e2 : addS f (out, false) x = (out ++ [f] ++ [x], true) := by
          unfold addS addS1 nmGe
          rw [c', show nmEq x.1 f.1 = false by simpa using e]
          simp
        have hfx : ltS f.1 x.1 = true := by
          cases c2 : ltS f.1 x.1 with
          | true => rfl
          | false => exact absurd (nmEq_iff.2 (ltS_eqS (by simpa using c) c2)) e
        have hr : ∀ g ∈ L, nmEq g.1 f.1 = false := fun g hg => nmEq_gt (ltS_trans hfx (h1 g hg))
        rw [e2, addF_done L _ hr]
        show _ = out ++ (if ltS x.1 f.1 = true then _ else if nmEq x.1 f.1 = true then _ else f :: x :: L)
        rw [if_neg c, if_neg e]
        simp
theorem addedL_put {L : List Fl} {f : Fl} (h : SrtF L) : addedL L f = putG nmF L f := by
  rw [putG_insR nmF f h]
  have e := addF_ins (f := f) [] h
  rw [List.nil_append] at e
  exact e
theorem fnd_has {L : List Fl} {s : ByteArray} (h : SrtF L) (hp : 0 ≤ fndL L s) : hasG nmF L s = true ∧ (fndL L s).toNat = lbG nmF L s := by
  have e := fnd_lb (s := s) h
  have hn : nmF = fun f : Fl => f.1 := rfl
  rw [hn]
  by_cases c : hasG (fun f : Fl => f.1) L s = true
  · rw [if_pos c] at e
    exact ⟨c, by omega⟩
  · rw [if_neg c] at e
    omega
theorem drop_eq {L : List Fl} {s : ByteArray} (h : SrtF L) (hp : 0 ≤ fndL L s) : dropG nmF L s = L.take (fndL L s).toNat ++ L.drop ((fndL L s).toNat + 1) := by
  obtain ⟨h1, h2⟩ := fnd_has h hp
  unfold dropG
  rw [if_pos h1, h2]
theorem set_put {L : List Fl} {f : Fl} (h : SrtF L) (hp : 0 ≤ fndL L f.1) : putG nmF L f = L.set (fndL L f.1).toNat f := by
  obtain ⟨h1, h2⟩ := fnd_has h hp
  rw [putG_insR nmF f h, h2]
  exact (set_insR h h1).symm
theorem create_eq {d : Dk} {s : ByteArray} (h : createE d s = 0) : createD d s = (d.1, leftN d.2.1, putG nmF d.2.2 (s, [], [])) := by
  unfold createD
  rw [if_pos h]
  have hr : readyE d s = 0 := by
    unfold createE at h
    by_cases c : readyE d s = 0
    · exact c
    · rw [if_neg c] at h; exact absurd h c
  unfold addD nextD
  dsimp only
  rw [addedL_put (valid_srt (ready_len hr).2)]
theorem remove_eq {d : Dk} {s : ByteArray} (h : atE d s = 0) : removeD d s = (d.1, leftN d.2.1, dropG nmF d.2.2 s) := by
  obtain ⟨-, -, -, -, hv, -, hi, hp⟩ := open_ok h
  unfold removeD
  rw [if_pos h, drop_eq (valid_srt hv) hp, hi]
  rfl
theorem sync_eq {d : Dk} {s : ByteArray} (h : atE d s = 0) : syncD d s = (d.1, leftN d.2.1, putG nmF d.2.2 ((fileAt d s).1, contL (fileAt d s), [])) := by
  obtain ⟨-, -, -, hn, hv, -, hi, hp⟩ := open_ok h
  unfold syncD
  rw [if_pos h, hn, set_put (valid_srt hv) hp, hi]
  unfold fileAt
  rw [hi]
  rfl
theorem rename_eq {d : Dk} {s t : ByteArray} (h : renameE d s t = 0) : renameD d s t = (d.1, leftN d.2.1, putG nmF (dropG nmF d.2.2 s) (t, (fileAt d s).2.1, (fileAt d s).2.2)) := by
  have ha : atE d s = 0 := by
    unfold renameE at h
    by_cases c : nameB t = true
    · rw [if_pos c] at h; exact h
    · rw [if_neg c] at h; exact absurd h (by decide)
  obtain ⟨-, -, -, -, hv, -, hi, hp⟩ := open_ok ha
  unfold renameD
  rw [if_pos h, hi, ← drop_eq (valid_srt hv) hp]
  unfold addD
  dsimp only
  rw [addedL_put (dropG_srt (valid_srt hv))]
  unfold fileAt
  rw [hi]
  rfl
end Go.Proofs.Ytpipgbjkkiheaaa.Gf
namespace Go.Proofs.Ytpipgbjkkiheaaa.Gf
open Go Go.Joins Go.ChangeShapes Go.WideShapes Go.ChangeAt Go.RowKit Go.Deep Go.Proofs.Ytpipgbjkkiheaaa.By Go.Proofs.Ytpipgbjkkiheaaa.Qt

/-- The end of a call that answers a disk and an error. -/
theorem pdisk_end {fn : Func} {p q : Tmp} (h : fn.results = #[.cell p 33, .tmp q]) {R : Ending → World → Prop} {W : World} {g : Nat} {tmps : Array Value} {k c d : Value} (hg : W.heap[g]? = some (.cells #[k, c, d] 33 (0, 0))) (hp : tmps.getD p undef = .pointer (some ⟨g, 0, none⟩))
    (hR : R (.returned (.tuple #[.agg #[k, c, d], tmps.getD q undef])) W) : bodyPost Try.prog fn R .ret { tmps := tmps, defers := [] } W :=
  bodyPost_ret (results_rt h _ _ g #[k, c, d] hp hg Try.underlying33 rfl infoDi) rfl hR
theorem al_old {w : World} {o : Obj} {r : Nat} (h : r < w.heap.size) : (w.alloc o).heap[r]? = w.heap[r]? := (bel_al0 w o).block r h
theorem create_code {d : Dk} {s : ByteArray} : createE d s = (if atE d s = 0 then 7 else if atE d s = 6 then (if d.2.2.length = 256 then 9 else 0) else atE d s) := by
  unfold createE atE
  by_cases h : readyE d s = 0
  · rw [if_pos h, if_pos h]
    by_cases h2 : fndL d.2.2 s < 0
    · rw [if_pos h2, if_neg (show ¬ 0 ≤ fndL d.2.2 s by omega)]
      simp
    · rw [if_neg h2, if_pos (by omega), if_pos rfl]
  · rw [if_neg h, if_neg h]
    have h6 : readyE d s ≠ 6 := by
      unfold readyE
      split
      · decide
      · split <;> decide
    rw [if_neg h, if_neg h6]
theorem at_valid {d : Dk} {s : ByteArray} (h : atE d s = 6) : validB d = true := by
  unfold atE at h
  by_cases c : readyE d s = 0
  · exact (ready_len c).2
  · rw [if_neg c] at h
    unfold readyE at h
    split at h
    · exact absurd h (by decide)
    · split at h <;> exact absurd h (by decide)
theorem leftN_rng {x : Int} (h : -9223372036854775808 ≤ x ∧ x ≤ 9223372036854775807) : -9223372036854775808 ≤ leftN x ∧ leftN x ≤ 9223372036854775807 := by
  unfold leftN
  split <;> omega
set_option maxRecDepth 100000 in
set_option maxHeartbeats 12800000 in
theorem premove_any (v : Value) (d : Dk) (s : ByteArray) (hs : s.size ≤ maxLen) (k : Nat) (w : World) (hv : Dv w v d) (hsm : SmD d) (hpn : PnD d k) (_hk : k ≤ 89990) : Calls Try.prog 54 #[v, .string s] w (DE (fun b => b < w.heap.size) w (removeD d s) (atE d s)) := by
  obtain ⟨fv, rfl, hr, sf⟩ := hv
  have sfo : Rd (fun b => b < w.heap.size) w (.sl tyF) [fv] d.2.2 := rd_mono sf fun _ _ h => h
  have RO := Lib.hid (fun W (h : Below w.heap.size w W) => popen_any (B := fun b => b < w.heap.size) _ d s hs W ⟨fv, rfl, hr, rd_below sfo h⟩ hsm)
  have HOK := Lib.hid (fun h => open_ok (d := d) (s := s) h)
  have HPN := Lib.hid hpn
  have HVL := Lib.hid (fun (h : validB d = true) => And.intro (valid_srt h) (valid_parts h).2.2.1)
  have HDD := Lib.hid (fun h => remove_eq (d := d) (s := s) h)
  have HD0 := Lib.hid (show atE d s ≠ 0 → removeD d s = dk0 from fun h => by unfold removeD; rw [if_neg h])
  have SF := Lib.hid sfo
  have HR := Lib.hid hr
  obtain ⟨af, cf, rfl, -, -⟩ := rd_sl sf
  generalize removeD d s = DD at *
  generalize openF d s = OF at *
  generalize fileAt d s = FA at *
  generalize atE d s = E at *
  generalize readyE d s = RE at *
  generalize atI d s = IE at *
  generalize validB d = VB at *
  obtain ⟨cap, left, L⟩ := d
  dsimp only at RO HOK SF HR HVL HPN ⊢
  have HPL : Hid (∀ f ∈ L, f.2.2.length ≤ k) := Lib.hid HPN.out
  obtain ⟨n, hn⟩ : ∃ z, z = L.length := ⟨_, rfl⟩
  rw [← hn] at SF RO HVL ⊢
  have HN := Lib.hid hn
  have A1 := bel_al0 w (.cells #[.int .i64 cap, .int .i64 left, .slice af n cf] 33)
  have BX := Lib.hid (btA A1 (bel_al0 _ (.cells #[.int .i64 0, .int .i64 0, .slice none 0 0] 33)))
  have HX := Lib.hid (show ((w.alloc (.cells #[.int .i64 cap, .int .i64 left, .slice af n cf] 33)).alloc (.cells #[.int .i64 0, .int .i64 0, .slice none 0 0] 33)).heap[w.heap.size]? = some (.cells #[.int .i64 cap, .int .i64 left, .slice af n cf] 33 (0, 0)) from (al_old (by simp)).trans (heap_alloc_new w _))
  have HY := Lib.hid (heap_alloc2_new w (.cells #[.int .i64 cap, .int .i64 left, .slice af n cf] 33) (.cells #[.int .i64 0, .int .i64 0, .slice none 0 0] 33))
  clear sf sfo hr hsm A1 hpn HPN hn
  go_enter Try.func54, Try.ntmps54
  go_upto_region 1 with fail
  generalize ((w.alloc (.cells #[.int .i64 cap, .int .i64 left, .slice af n cf] 33)).alloc (.cells #[.int .i64 0, .int .i64 0, .slice none 0 0] 33)) = W1 at *
  obtain ⟨x0, x1, x2⟩ := box3c HX.out
  go_wp2_with fail
  refine (RO.out _ BX.out).mono ?_
  rintro e w2 ⟨⟨bv, pv, rfl, hrd⟩, hb2⟩
  have B2 := Lib.hid (btA BX.out hb2)
  have HX2 := Lib.hid ((hb2.block _ (lt_of_some0 HX.out)).trans HX.out)
  have HY2 := Lib.hid ((hb2.block _ (lt_of_some0 HY.out)).trans HY.out)
  obtain ⟨bv', pv', he, hsz, hb, hp⟩ := rd_f hrd
  obtain ⟨rfl, rfl⟩ : bv = bv' ∧ pv = pv' := by simpa using he
  obtain ⟨ab, cb, rfl, -, -⟩ := rd_sl hb
  obtain ⟨ap, cp, rfl, -, -⟩ := rd_sl hp
  have BA1 := Lib.hid (bel_al0 w2 (.cells #[.string OF.1, .slice ab OF.2.1.length cb, .slice ap OF.2.2.length cp] 59))
  have HZ := Lib.hid (heap_alloc_new w2 (.cells #[.string OF.1, .slice ab OF.2.1.length cb, .slice ap OF.2.2.length cp] 59))
  have RF := Lib.hid (rd_mono (C := fun b => b ≠ w.heap.size + 1) (rd_below hrd BA1.out) fun b hb _ => by have h1 := hb.1; omega)
  have RFO := Lib.hid (rd_mono (C := fun b => b < w.heap.size) (rd_below hrd BA1.out) fun b hb _ => hb.1)
  have B3 := Lib.hid (btA B2.out BA1.out)
  have HX3 := Lib.hid ((BA1.out.block _ (lt_of_some0 HX2.out)).trans HX2.out)
  have HY3 := Lib.hid ((BA1.out.block _ (lt_of_some0 HY2.out)).trans HY2.out)
  have HFZ := Lib.hid (lt_of_some0 HY2.out)
  clear hb2 hrd he hsz hb hp x0 x1 x2 RO HX HY HX2 HY2 BX BA1 B2
  generalize OF.2.1.length = nb at *
  generalize OF.2.2.length = np at *
  go_upto_region 2 with fail
  generalize w2.alloc (.cells #[.string OF.1, .slice ab nb cb, .slice ap np cp] 59) = W3 at *
  generalize w2.heap.size = fz at *
  have SF3 := Lib.hid (rd_mono (C := fun b => b ≠ w.heap.size + 1) (rd_below SF.out B3.out) fun b hb _ => by omega)
  by_cases h0 : E = 0
  · subst h0
    obtain ⟨rfl, hmem, hf, hnm, rfl, -⟩ := HOK.out rfl
    have HDE := Lib.hid (HDD.out rfl)
    obtain ⟨hsrt, hle⟩ := HVL.out rfl
    have HSRT := Lib.hid hsrt
    have HLE := Lib.hid hle
    clear HDD HD0 HOK HVL hmem hf hnm hsrt hle
    go_upto_region 4 with fail
    have S0 : SBx w [(w.heap.size, (.cells #[.int .i64 cap, .int .i64 left, .slice af n cf] 33 (0, 0)))] W3.drew := ⟨B3.out.drew, fun p hp => by rw [List.mem_singleton.1 hp]; exact HX3.out⟩
    refine wp_onlyN ?_
    refine wp_region_headsS (SBx w [(w.heap.size, (.cells #[.int .i64 cap, .int .i64 left, .slice af n cf] 33 (0, 0)))]) [0, 1, 2, 3] 4 (by kernel_rfl) (fun _ _ _ _ _ h => h.elim) (by kernel_rfl) (by rfl) (by rfl) S0 ?_
    simp only [pickOps, List.filterMap_cons, List.filterMap_nil, List.getElem?_toArray, List.getElem?_cons_zero, List.getElem?_cons_succ]
    refine wpHeads_step (fun K hK => ?_)
    go_simp
    refine ⟨.agg #[.int .i64 cap, .int .i64 left, .slice af n cf], fun w' hw' => by
      obtain ⟨q0, q1, q2⟩ := box3c (hw'.box _ (List.mem_cons_self ..))
      simp [q0, q1, q2], hK _ ?_⟩
    clear hK K
    refine wpHeads_step (fun K hK => ?_)
    go_simp
    refine ⟨_, fun _ _ => rfl, hK _ ?_⟩
    clear hK K
    refine wpHeads_step (fun K hK => ?_)
    go_simp
    refine ⟨.slice af n cf, fun w' hw' => by
      obtain ⟨q0, q1, q2⟩ := box3c (hw'.box _ (List.mem_cons_self ..))
      simp [q2], hK _ ?_⟩
    clear hK K
    refine wpHeads_step (fun K hK => ?_)
    go_simp
    refine ⟨_, fun _ _ => rfl, hK _ ?_⟩
    clear hK K
    refine wpHeads_nil ?_
    have SD := Lib.hid S0
    have HYD : Hid (W3.drew.heap[w.heap.size + 1]? = some (.cells #[.int .i64 0, .int .i64 0, .slice none 0 0] 33 (0, 0))) := Lib.hid HY3.out
    have BD := Lib.hid (show Below W3.heap.size W3 W3.drew from (Below.refl _ _).drew)
    have SZ3 := Lib.hid (lt_of_some0 HY3.out)
    generalize W3.drew = WD at *
    clear S0
    refine held_one 4 rfl rfl (by kernel_rfl) fun K hK => ?_
    go_simp
    go_at_call 76
    refine (pdrop_any (B := fun b => b ≠ w.heap.size + 1) _ L s _ (rd_below SF3.out BD.out) HSRT.out (by have h1 := HLE.out; have h2 := HN.out; omega)).mono ?_
    rintro e w5 ⟨⟨v5, rfl, hr5⟩, hb5⟩
    refine hK _ _ (SD.out.below hb5) ?_
    clear hK K
    have S5 := Lib.hid (SD.out.below hb5)
    have HY5 := Lib.hid ((hb5.block _ (lt_of_some0 HYD.out)).trans HYD.out)
    have R5 := Lib.hid (rd_mono (C := fun b => b ≠ w.heap.size + 1) hr5 fun b hb _ => by
      rcases hb with hb | hb
      · exact hb.1
      · have h1 := lt_of_some0 HYD.out; omega)
    obtain ⟨a5, c5, rfl, -, -⟩ := rd_sl hr5
    obtain ⟨n5, hn5⟩ : ∃ z, z = (dropG nmF L s).length := ⟨_, rfl⟩
    rw [← hn5] at R5 ⊢
    clear hr5 hn5
    clear hb5 SD HYD
    refine held_one 5 rfl rfl (by kernel_rfl) fun K hK => ?_
    go_simp
    go_at_call 66
    refine (pnext_any (B := fun b => b ≠ w.heap.size + 1) (.agg #[.int .i64 cap, .int .i64 left, .slice af n cf]) _ (cap, left, L) (dropG nmF L s) _ ⟨_, rfl, _, _, _, rfl⟩ HR.out R5.out).mono ?_
    rintro e w7 ⟨⟨v7, rfl, hv7⟩, hb7⟩
    refine hK _ _ (S5.out.below hb7) ?_
    clear hK K
    have S7 := Lib.hid (S5.out.below hb7)
    have HY7 := Lib.hid ((hb7.block _ (lt_of_some0 HY5.out)).trans HY5.out)
    obtain ⟨fv7, rfl, hr7, sf7⟩ := hv7
    have HR7 := Lib.hid hr7
    have SF7 := Lib.hid (rd_mono (C := fun b => b ≠ w.heap.size + 1) sf7 fun b hb _ => by
      rcases hb with hb | hb
      · exact hb.1
      · have h1 := lt_of_some0 HY5.out; omega)
    obtain ⟨a7, c7, rfl, -, -⟩ := rd_sl sf7
    dsimp only at HR7 SF7 ⊢
    generalize (dropG nmF L s).length = n7 at *
    clear hr7 sf7
    clear hb7 S5 HY5
    obtain ⟨y0, y1, y2⟩ := box3c HY7.out
    have u0 := frozen_of_row w7 (w.heap.size + 1) 0 _ _ HY7.out
    have u1 := frozen_of_row w7 (w.heap.size + 1) 1 _ _ HY7.out
    have u2 := frozen_of_row w7 (w.heap.size + 1) 2 _ _ HY7.out
    refine held_one 6 rfl rfl (by kernel_rfl) fun K hK => ?_
    go_simp
    refine hK _ _ (S7.out.set3 (by omega) (fun p hp => by rw [List.mem_singleton.1 hp]; show w.heap.size ≠ w.heap.size + 1; omega)) ?_
    clear hK K
    refine held_one 7 rfl rfl (by kernel_rfl) fun K hK => ?_
    go_simp
    refine hK _ _ (S7.out.set3 (by omega) (fun p hp => by rw [List.mem_singleton.1 hp]; show w.heap.size ≠ w.heap.size + 1; omega)) ?_
    clear hK K
    refine wpAnyH_done (by kernel_rfl) ?_ _
    unfold onlyN
    dsimp only
    clear y0 y1 y2 u0 u1 u2
    go_wp2
    refine pdisk_end rfl (set3c HY7.out) rfl ?_
    rw [HDE.out]
    exact ⟨⟨_, rfl, _, rfl, HR7.out, rd_move (fun b hb _ => set3_other hb) (fun b _ _ => by by_cases c : b < w.heap.size; exact Or.inl c; exact Or.inr (by omega)) SF7.out⟩, below_set3 S7.out.bel (by omega)⟩
  · have HDZ := Lib.hid (HD0.out h0)
    have e1 : ((E : Int) != 0) = true := by rw [bne_iff_ne]; omega
    clear h0 HDD HD0 HOK HVL
    obtain ⟨y0, y1, y2⟩ := box3c HY3.out
    have u0 := frozen_of_row W3 (w.heap.size + 1) 0 _ _ HY3.out
    have u1 := frozen_of_row W3 (w.heap.size + 1) 1 _ _ HY3.out
    have u2 := frozen_of_row W3 (w.heap.size + 1) 2 _ _ HY3.out
    go_wp2
    refine pdisk_end rfl (set3c HY3.out) rfl ?_
    rw [HDZ.out]
    exact de_zero (below_set3 B3.out (by omega))
set_option maxRecDepth 100000 in
set_option maxHeartbeats 12800000 in
theorem psync_any (v : Value) (d : Dk) (s : ByteArray) (hs : s.size ≤ maxLen) (k : Nat) (w : World) (hv : Dv w v d) (hsm : SmD d) (hpn : PnD d k) (hk : k ≤ 89990) : Calls Try.prog 41 #[v, .string s] w (DE (fun b => b < w.heap.size) w (syncD d s) (atE d s)) := by
  obtain ⟨fv, rfl, hr, sf⟩ := hv
  have sfo : Rd (fun b => b < w.heap.size) w (.sl tyF) [fv] d.2.2 := rd_mono sf fun _ _ h => h
  have RO := Lib.hid (fun W (h : Below w.heap.size w W) => popen_any (B := fun b => b < w.heap.size) _ d s hs W ⟨fv, rfl, hr, rd_below sfo h⟩ hsm)
  have HOK := Lib.hid (fun h => open_ok (d := d) (s := s) h)
  have HPN := Lib.hid hpn
  have HVL := Lib.hid (fun (h : validB d = true) => And.intro (valid_srt h) (valid_parts h).2.2.1)
  have HDD := Lib.hid (fun h => sync_eq (d := d) (s := s) h)
  have HD0 := Lib.hid (show atE d s ≠ 0 → syncD d s = dk0 from fun h => by unfold syncD; rw [if_neg h])
  have SF := Lib.hid sfo
  have HR := Lib.hid hr
  obtain ⟨af, cf, rfl, -, -⟩ := rd_sl sf
  generalize syncD d s = DD at *
  generalize openF d s = OF at *
  generalize fileAt d s = FA at *
  generalize atE d s = E at *
  generalize readyE d s = RE at *
  generalize atI d s = IE at *
  generalize validB d = VB at *
  obtain ⟨cap, left, L⟩ := d
  dsimp only at RO HOK SF HR HVL HPN ⊢
  have HPL : Hid (∀ f ∈ L, f.2.2.length ≤ k) := Lib.hid HPN.out
  obtain ⟨n, hn⟩ : ∃ z, z = L.length := ⟨_, rfl⟩
  rw [← hn] at SF RO HVL ⊢
  have HN := Lib.hid hn
  have A1 := bel_al0 w (.cells #[.int .i64 cap, .int .i64 left, .slice af n cf] 33)
  have BX := Lib.hid (btA A1 (bel_al0 _ (.cells #[.int .i64 0, .int .i64 0, .slice none 0 0] 33)))
  have HX := Lib.hid (show ((w.alloc (.cells #[.int .i64 cap, .int .i64 left, .slice af n cf] 33)).alloc (.cells #[.int .i64 0, .int .i64 0, .slice none 0 0] 33)).heap[w.heap.size]? = some (.cells #[.int .i64 cap, .int .i64 left, .slice af n cf] 33 (0, 0)) from (al_old (by simp)).trans (heap_alloc_new w _))
  have HY := Lib.hid (heap_alloc2_new w (.cells #[.int .i64 cap, .int .i64 left, .slice af n cf] 33) (.cells #[.int .i64 0, .int .i64 0, .slice none 0 0] 33))
  clear sf sfo hr hsm A1 hpn HPN hn
  go_enter Try.func41, Try.ntmps41
  go_upto_region 1 with fail
  generalize ((w.alloc (.cells #[.int .i64 cap, .int .i64 left, .slice af n cf] 33)).alloc (.cells #[.int .i64 0, .int .i64 0, .slice none 0 0] 33)) = W1 at *
  obtain ⟨x0, x1, x2⟩ := box3c HX.out
  go_wp2_with fail
  refine (RO.out _ BX.out).mono ?_
  rintro e w2 ⟨⟨bv, pv, rfl, hrd⟩, hb2⟩
  have B2 := Lib.hid (btA BX.out hb2)
  have HX2 := Lib.hid ((hb2.block _ (lt_of_some0 HX.out)).trans HX.out)
  have HY2 := Lib.hid ((hb2.block _ (lt_of_some0 HY.out)).trans HY.out)
  obtain ⟨bv', pv', he, hsz, hb, hp⟩ := rd_f hrd
  obtain ⟨rfl, rfl⟩ : bv = bv' ∧ pv = pv' := by simpa using he
  obtain ⟨ab, cb, rfl, -, -⟩ := rd_sl hb
  obtain ⟨ap, cp, rfl, -, -⟩ := rd_sl hp
  have BA1 := Lib.hid (bel_al0 w2 (.cells #[.string OF.1, .slice ab OF.2.1.length cb, .slice ap OF.2.2.length cp] 59))
  have HZ := Lib.hid (heap_alloc_new w2 (.cells #[.string OF.1, .slice ab OF.2.1.length cb, .slice ap OF.2.2.length cp] 59))
  have RF := Lib.hid (rd_mono (C := fun b => b ≠ w.heap.size + 1) (rd_below hrd BA1.out) fun b hb _ => by have h1 := hb.1; omega)
  have RFO := Lib.hid (rd_mono (C := fun b => b < w.heap.size) (rd_below hrd BA1.out) fun b hb _ => hb.1)
  have B3 := Lib.hid (btA B2.out BA1.out)
  have HX3 := Lib.hid ((BA1.out.block _ (lt_of_some0 HX2.out)).trans HX2.out)
  have HY3 := Lib.hid ((BA1.out.block _ (lt_of_some0 HY2.out)).trans HY2.out)
  have HFZ := Lib.hid (lt_of_some0 HY2.out)
  clear hb2 hrd he hsz hb hp x0 x1 x2 RO HX HY HX2 HY2 BX BA1 B2
  generalize OF.2.1.length = nb at *
  generalize OF.2.2.length = np at *
  go_upto_region 2 with fail
  generalize w2.alloc (.cells #[.string OF.1, .slice ab nb cb, .slice ap np cp] 59) = W3 at *
  generalize w2.heap.size = fz at *
  have SF3 := Lib.hid (rd_mono (C := fun b => b ≠ w.heap.size + 1) (rd_below SF.out B3.out) fun b hb _ => by omega)
  by_cases h0 : E = 0
  · subst h0
    obtain ⟨rfl, hmem, hf, hnm, rfl, -⟩ := HOK.out rfl
    have HDE := Lib.hid (HDD.out rfl)
    obtain ⟨hsrt, hle⟩ := HVL.out rfl
    have HSRT := Lib.hid hsrt
    have HLE := Lib.hid hle
    have PSY := Lib.hid (fun W (h : Below W3.heap.size W3 W) => psynced_any OF _ _ W (rd_mono (rd_below RF.out h) fun _ _ _ => trivial) hf (Nat.le_trans (HPL.out _ hmem) (by omega)))
    clear HDD HD0 HOK HVL hmem hf hnm hsrt hle
    go_upto_region 4 with fail
    have S0 : SBx w [(w.heap.size, (.cells #[.int .i64 cap, .int .i64 left, .slice af n cf] 33 (0, 0))), (fz, (.cells #[.string OF.1, .slice ab nb cb, .slice ap np cp] 59 (0, 0)))] W3.drew := ⟨B3.out.drew, fun p hp => by
      rcases List.mem_cons.1 hp with rfl | hp
      · exact HX3.out
      · rw [List.mem_singleton.1 hp]; exact HZ.out⟩
    refine wp_onlyN ?_
    refine wp_region_headsS (SBx w [(w.heap.size, (.cells #[.int .i64 cap, .int .i64 left, .slice af n cf] 33 (0, 0))), (fz, (.cells #[.string OF.1, .slice ab nb cb, .slice ap np cp] 59 (0, 0)))]) [0, 1, 2, 3] 5 (by kernel_rfl) (fun _ _ _ _ _ h => h.elim) (by kernel_rfl) (by rfl) (by rfl) S0 ?_
    simp only [pickOps, List.filterMap_cons, List.filterMap_nil, List.getElem?_toArray, List.getElem?_cons_zero, List.getElem?_cons_succ]
    refine wpHeads_step (fun K hK => ?_)
    go_simp
    refine ⟨.agg #[.int .i64 cap, .int .i64 left, .slice af n cf], fun w' hw' => by
      obtain ⟨q0, q1, q2⟩ := box3c (hw'.box _ (List.mem_cons_self ..))
      simp [q0, q1, q2], hK _ ?_⟩
    clear hK K
    refine wpHeads_step (fun K hK => ?_)
    go_simp
    refine ⟨_, fun _ _ => rfl, hK _ ?_⟩
    clear hK K
    refine wpHeads_step (fun K hK => ?_)
    go_simp
    refine ⟨.slice af n cf, fun w' hw' => by
      obtain ⟨q0, q1, q2⟩ := box3c (hw'.box _ (List.mem_cons_self ..))
      simp [q2], hK _ ?_⟩
    clear hK K
    refine wpHeads_step (fun K hK => ?_)
    go_simp
    refine ⟨.agg #[.string OF.1, .slice ab nb cb, .slice ap np cp], fun w' hw' => by
      obtain ⟨q0, q1, q2⟩ := box3c (hw'.box _ (List.mem_cons_of_mem _ (List.mem_cons_self ..)))
      simp [q0, q1, q2], hK _ ?_⟩
    clear hK K
    refine wpHeads_nil ?_
    have SD := Lib.hid S0
    have HYD : Hid (W3.drew.heap[w.heap.size + 1]? = some (.cells #[.int .i64 0, .int .i64 0, .slice none 0 0] 33 (0, 0))) := Lib.hid HY3.out
    have BD := Lib.hid (show Below W3.heap.size W3 W3.drew from (Below.refl _ _).drew)
    have SZ3 := Lib.hid (lt_of_some0 HY3.out)
    generalize W3.drew = WD at *
    clear S0
    refine held_one 4 rfl rfl (by kernel_rfl) fun K hK => ?_
    go_simp
    go_at_call 69
    refine (PSY.out _ BD.out).mono ?_
    rintro e w5 ⟨⟨bv5, pv5, rfl, hr5⟩, hb5⟩
    refine hK _ _ (SD.out.below hb5) ?_
    clear hK K
    have S5 := Lib.hid (SD.out.below hb5)
    have HY5 := Lib.hid ((hb5.block _ (lt_of_some0 HYD.out)).trans HYD.out)
    have RF5 := Lib.hid (rd_mono (C := fun b => b ≠ w.heap.size + 1) hr5 fun b hb _ => by
      rcases hb with hb | hb
      · exact hb.elim
      · have h2 := SZ3.out; have h3 := BD.out.size; omega)
    have SF5 := Lib.hid (rd_below (rd_below SF3.out BD.out) hb5)
    dsimp only at RF5
    obtain ⟨bvx, pvx, hex, -, hbx, hpx⟩ := rd_f hr5
    obtain ⟨rfl, rfl⟩ : bv5 = bvx ∧ pv5 = pvx := by simpa using hex
    obtain ⟨ab5, cb5, rfl, -, -⟩ := rd_sl hbx
    obtain ⟨ap5, cp5, rfl, -, -⟩ := rd_sl hpx
    dsimp only at RF5 ⊢
    clear hr5 hex hbx hpx
    clear hb5 SD HYD
    refine held_one 5 rfl rfl (by kernel_rfl) fun K hK => ?_
    go_simp
    go_at_call 67
    refine (pput_any (B := fun b => b ≠ w.heap.size + 1) _ L (OF.1, contL OF, []) _ _ _ SF5.out RF5.out HSRT.out (by have h1 := HLE.out; have h2 := HN.out; omega)).mono ?_
    rintro e w6 ⟨⟨v6, rfl, hr6⟩, hb6⟩
    refine hK _ _ (S5.out.below hb6) ?_
    clear hK K
    have S6 := Lib.hid (S5.out.below hb6)
    have HY6 := Lib.hid ((hb6.block _ (lt_of_some0 HY5.out)).trans HY5.out)
    have R6 := Lib.hid (rd_mono (C := fun b => b ≠ w.heap.size + 1) hr6 fun b hb _ => by
      rcases hb with hb | hb
      · exact hb.1
      · have h1 := lt_of_some0 HY5.out; omega)
    obtain ⟨a6, c6, rfl, -, -⟩ := rd_sl hr6
    obtain ⟨n6, hn6⟩ : ∃ z, z = (putG nmF L (OF.1, contL OF, [])).length := ⟨_, rfl⟩
    rw [← hn6] at R6 ⊢
    clear hr6 hn6
    clear hb6 S5 HY5
    refine held_one 6 rfl rfl (by kernel_rfl) fun K hK => ?_
    go_simp
    go_at_call 66
    refine (pnext_any (B := fun b => b ≠ w.heap.size + 1) (.agg #[.int .i64 cap, .int .i64 left, .slice af n cf]) _ (cap, left, L) (putG nmF L (OF.1, contL OF, [])) _ ⟨_, rfl, _, _, _, rfl⟩ HR.out R6.out).mono ?_
    rintro e w7 ⟨⟨v7, rfl, hv7⟩, hb7⟩
    refine hK _ _ (S6.out.below hb7) ?_
    clear hK K
    have S7 := Lib.hid (S6.out.below hb7)
    have HY7 := Lib.hid ((hb7.block _ (lt_of_some0 HY6.out)).trans HY6.out)
    obtain ⟨fv7, rfl, hr7, sf7⟩ := hv7
    have HR7 := Lib.hid hr7
    have SF7 := Lib.hid (rd_mono (C := fun b => b ≠ w.heap.size + 1) sf7 fun b hb _ => by
      rcases hb with hb | hb
      · exact hb.1
      · have h1 := lt_of_some0 HY6.out; omega)
    obtain ⟨a7, c7, rfl, -, -⟩ := rd_sl sf7
    dsimp only at HR7 SF7 ⊢
    generalize (putG nmF L (OF.1, contL OF, [])).length = n7 at *
    clear hr7 sf7
    clear hb7 S6 HY6
    obtain ⟨y0, y1, y2⟩ := box3c HY7.out
    have u0 := frozen_of_row w7 (w.heap.size + 1) 0 _ _ HY7.out
    have u1 := frozen_of_row w7 (w.heap.size + 1) 1 _ _ HY7.out
    have u2 := frozen_of_row w7 (w.heap.size + 1) 2 _ _ HY7.out
    refine held_one 7 rfl rfl (by kernel_rfl) fun K hK => ?_
    go_simp
    refine hK _ _ (S7.out.set3 (by omega) (fun p hp => by
      rcases List.mem_cons.1 hp with rfl | hp
      · show w.heap.size ≠ w.heap.size + 1; omega
      · rw [List.mem_singleton.1 hp]; show fz ≠ w.heap.size + 1; have := HFZ.out; omega)) ?_
    clear hK K
    refine held_one 8 rfl rfl (by kernel_rfl) fun K hK => ?_
    go_simp
    refine hK _ _ (S7.out.set3 (by omega) (fun p hp => by
      rcases List.mem_cons.1 hp with rfl | hp
      · show w.heap.size ≠ w.heap.size + 1; omega
      · rw [List.mem_singleton.1 hp]; show fz ≠ w.heap.size + 1; have := HFZ.out; omega)) ?_
    clear hK K
    refine wpAnyH_done (by kernel_rfl) ?_ _
    unfold onlyN
    dsimp only
    clear y0 y1 y2 u0 u1 u2
    go_wp2
    refine pdisk_end rfl (set3c HY7.out) rfl ?_
    rw [HDE.out]
    exact ⟨⟨_, rfl, _, rfl, HR7.out, rd_move (fun b hb _ => set3_other hb) (fun b _ _ => by by_cases c : b < w.heap.size; exact Or.inl c; exact Or.inr (by omega)) SF7.out⟩, below_set3 S7.out.bel (by omega)⟩
  · have HDZ := Lib.hid (HD0.out h0)
    have e1 : ((E : Int) != 0) = true := by rw [bne_iff_ne]; omega
    clear h0 HDD HD0 HOK HVL
    obtain ⟨y0, y1, y2⟩ := box3c HY3.out
    have u0 := frozen_of_row W3 (w.heap.size + 1) 0 _ _ HY3.out
    have u1 := frozen_of_row W3 (w.heap.size + 1) 1 _ _ HY3.out
    have u2 := frozen_of_row W3 (w.heap.size + 1) 2 _ _ HY3.out
    go_wp2
    refine pdisk_end rfl (set3c HY3.out) rfl ?_
    rw [HDZ.out]
    exact de_zero (below_set3 B3.out (by omega))
set_option maxRecDepth 100000 in
set_option maxHeartbeats 12800000 in
theorem pcreate_any (v : Value) (d : Dk) (s : ByteArray) (hs : s.size ≤ maxLen) (k : Nat) (w : World) (hv : Dv w v d) (hsm : SmD d) (hpn : PnD d k) (_hk : k ≤ 89990) : Calls Try.prog 44 #[v, .string s] w (DE (fun b => b < w.heap.size) w (createD d s) (createE d s)) := by
  obtain ⟨fv, rfl, hr, sf⟩ := hv
  have sfo : Rd (fun b => b < w.heap.size) w (.sl tyF) [fv] d.2.2 := rd_mono sf fun _ _ h => h
  have RO := Lib.hid (fun W (h : Below w.heap.size w W) => popen_any (B := fun b => b < w.heap.size) _ d s hs W ⟨fv, rfl, hr, rd_below sfo h⟩ hsm)
  have HOK := Lib.hid (fun h => open_ok (d := d) (s := s) h)
  have HPN := Lib.hid hpn
  have HVL := Lib.hid (fun (h : validB d = true) => And.intro (valid_srt h) (valid_parts h).2.2.1)
  have HDD := Lib.hid (fun h => create_eq (d := d) (s := s) h)
  have HD0 := Lib.hid (show createE d s ≠ 0 → createD d s = dk0 from fun h => by unfold createD; rw [if_neg h])
  have HCE := Lib.hid (create_code (d := d) (s := s))
  have HS := Lib.hid hs
  have HVB := Lib.hid (fun h => at_valid (d := d) (s := s) h)
  have SF := Lib.hid sfo
  have HR := Lib.hid hr
  obtain ⟨af, cf, rfl, -, -⟩ := rd_sl sf
  generalize createD d s = DD at *
  generalize createE d s = CE at *
  generalize openF d s = OF at *
  generalize fileAt d s = FA at *
  generalize atE d s = E at *
  generalize readyE d s = RE at *
  generalize atI d s = IE at *
  generalize validB d = VB at *
  obtain ⟨cap, left, L⟩ := d
  dsimp only at RO HOK SF HR HVL HPN ⊢
  have HPL : Hid (∀ f ∈ L, f.2.2.length ≤ k) := Lib.hid HPN.out
  obtain ⟨n, hn⟩ : ∃ z, z = L.length := ⟨_, rfl⟩
  rw [← hn] at SF RO HVL ⊢
  have HN := Lib.hid hn
  have A1 := bel_al0 w (.cells #[.int .i64 cap, .int .i64 left, .slice af n cf] 33)
  have BX := Lib.hid (btA A1 (bel_al0 _ (.cells #[.int .i64 0, .int .i64 0, .slice none 0 0] 33)))
  have HX := Lib.hid (show ((w.alloc (.cells #[.int .i64 cap, .int .i64 left, .slice af n cf] 33)).alloc (.cells #[.int .i64 0, .int .i64 0, .slice none 0 0] 33)).heap[w.heap.size]? = some (.cells #[.int .i64 cap, .int .i64 left, .slice af n cf] 33 (0, 0)) from (al_old (by simp)).trans (heap_alloc_new w _))
  have HY := Lib.hid (heap_alloc2_new w (.cells #[.int .i64 cap, .int .i64 left, .slice af n cf] 33) (.cells #[.int .i64 0, .int .i64 0, .slice none 0 0] 33))
  clear sf sfo hr hsm A1 hpn HPN hn
  go_enter Try.func44, Try.ntmps44
  go_upto_region 1 with fail
  generalize ((w.alloc (.cells #[.int .i64 cap, .int .i64 left, .slice af n cf] 33)).alloc (.cells #[.int .i64 0, .int .i64 0, .slice none 0 0] 33)) = W1 at *
  obtain ⟨x0, x1, x2⟩ := box3c HX.out
  go_wp2_with fail
  refine (RO.out _ BX.out).mono ?_
  rintro e w2 ⟨⟨bv, pv, rfl, hrd⟩, hb2⟩
  have B2 := Lib.hid (btA BX.out hb2)
  have HX2 := Lib.hid ((hb2.block _ (lt_of_some0 HX.out)).trans HX.out)
  have HY2 := Lib.hid ((hb2.block _ (lt_of_some0 HY.out)).trans HY.out)
  obtain ⟨bv', pv', he, hsz, hb, hp⟩ := rd_f hrd
  obtain ⟨rfl, rfl⟩ : bv = bv' ∧ pv = pv' := by simpa using he
  obtain ⟨ab, cb, rfl, -, -⟩ := rd_sl hb
  obtain ⟨ap, cp, rfl, -, -⟩ := rd_sl hp
  have BA1 := Lib.hid (bel_al0 w2 (.cells #[.string OF.1, .slice ab OF.2.1.length cb, .slice ap OF.2.2.length cp] 59))
  have HZ := Lib.hid (heap_alloc_new w2 (.cells #[.string OF.1, .slice ab OF.2.1.length cb, .slice ap OF.2.2.length cp] 59))
  have RF := Lib.hid (rd_mono (C := fun b => b ≠ w.heap.size + 1) (rd_below hrd BA1.out) fun b hb _ => by have h1 := hb.1; omega)
  have RFO := Lib.hid (rd_mono (C := fun b => b < w.heap.size) (rd_below hrd BA1.out) fun b hb _ => hb.1)
  have B3 := Lib.hid (btA B2.out BA1.out)
  have HX3 := Lib.hid ((BA1.out.block _ (lt_of_some0 HX2.out)).trans HX2.out)
  have HY3 := Lib.hid ((BA1.out.block _ (lt_of_some0 HY2.out)).trans HY2.out)
  have HFZ := Lib.hid (lt_of_some0 HY2.out)
  clear hb2 hrd he hsz hb hp x0 x1 x2 RO HX HY HX2 HY2 BX BA1 B2
  generalize OF.2.1.length = nb at *
  generalize OF.2.2.length = np at *
  go_upto_region 2 with fail
  generalize w2.alloc (.cells #[.string OF.1, .slice ab nb cb, .slice ap np cp] 59) = W3 at *
  generalize w2.heap.size = fz at *
  have SF3 := Lib.hid (rd_mono (C := fun b => b ≠ w.heap.size + 1) (rd_below SF.out B3.out) fun b hb _ => by omega)
  rw [show (cap, left, L).2.2.length = L.length from rfl, ← HN.out] at HCE
  by_cases h0 : E = 0
  · subst h0
    have HCE2 : Hid (CE = 7) := Lib.hid HCE.out
    have HDZ := Lib.hid (HD0.out (by rw [HCE2.out]; decide))
    clear HDD HD0 HOK HVL HCE
    obtain ⟨y0, y1, y2⟩ := box3c HY3.out
    have u0 := frozen_of_row W3 (w.heap.size + 1) 0 _ _ HY3.out
    have u1 := frozen_of_row W3 (w.heap.size + 1) 1 _ _ HY3.out
    have u2 := frozen_of_row W3 (w.heap.size + 1) 2 _ _ HY3.out
    go_wp2
    refine pdisk_end rfl (set3c HY3.out) rfl ?_
    rw [HDZ.out, HCE2.out]
    exact de_zero (below_set3 B3.out (by omega))
  have e1 : ((E : Int) == 0) = false := beq_false_of_ne (by omega)
  by_cases h6 : E = 6
  · subst h6
    by_cases hn2 : n = 256
    · subst hn2
      have HCE2 : Hid (CE = 9) := Lib.hid HCE.out
      have HDZ := Lib.hid (HD0.out (by rw [HCE2.out]; decide))
      clear HDD HD0 HOK HVL HCE h0
      obtain ⟨x0, x1, x2⟩ := box3c HX3.out
      obtain ⟨y0, y1, y2⟩ := box3c HY3.out
      have u0 := frozen_of_row W3 (w.heap.size + 1) 0 _ _ HY3.out
      have u1 := frozen_of_row W3 (w.heap.size + 1) 1 _ _ HY3.out
      have u2 := frozen_of_row W3 (w.heap.size + 1) 2 _ _ HY3.out
      go_wp2
      refine pdisk_end rfl (set3c HY3.out) rfl ?_
      rw [HDZ.out, HCE2.out]
      exact de_zero (below_set3 B3.out (by omega))
    · have HCE2 : Hid (CE = 0) := Lib.hid (by have h := HCE.out; rw [if_neg (by decide), if_pos rfl, if_neg hn2] at h; exact h)
      have e2 : ((n : Int) == 256) = false := beq_false_of_ne (by omega)
      have HDE := Lib.hid (HDD.out HCE2.out)
      obtain ⟨hsrt, hle⟩ := HVL.out (HVB.out rfl)
      have HSRT := Lib.hid hsrt
      have HLE := Lib.hid hle
      obtain ⟨x0, x1, x2⟩ := box3c HX3.out
      clear HDD HD0 HOK HVL HCE hsrt hle hn2 h0
      go_upto_region 8 with fail
      clear x0 x1 x2 e1 e2
      have S0 : SBx w [(w.heap.size, (.cells #[.int .i64 cap, .int .i64 left, .slice af n cf] 33 (0, 0)))] W3.drew := ⟨B3.out.drew, fun p hp => by rw [List.mem_singleton.1 hp]; exact HX3.out⟩
      refine wp_onlyN ?_
      refine wp_region_headsS (SBx w [(w.heap.size, (.cells #[.int .i64 cap, .int .i64 left, .slice af n cf] 33 (0, 0)))]) [0, 1, 2, 3, 4] 4 (by kernel_rfl) (fun _ _ _ _ _ h => h.elim) (by kernel_rfl) (by rfl) (by rfl) S0 ?_
      simp only [pickOps, List.filterMap_cons, List.filterMap_nil, List.getElem?_toArray, List.getElem?_cons_zero, List.getElem?_cons_succ]
      refine wpHeads_step (fun K hK => ?_)
      go_simp
      refine ⟨.agg #[.int .i64 cap, .int .i64 left, .slice af n cf], fun w' hw' => by
        obtain ⟨q0, q1, q2⟩ := box3c (hw'.box _ (List.mem_cons_self ..))
        simp [q0, q1, q2], hK _ ?_⟩
      clear hK K
      refine wpHeads_step (fun K hK => ?_)
      go_simp
      refine ⟨_, fun _ _ => rfl, hK _ ?_⟩
      clear hK K
      refine wpHeads_step (fun K hK => ?_)
      go_simp
      refine ⟨.slice af n cf, fun w' hw' => by
        obtain ⟨q0, q1, q2⟩ := box3c (hw'.box _ (List.mem_cons_self ..))
        simp [q2], hK _ ?_⟩
      clear hK K
      refine wpHeads_step (fun K hK => ?_)
      go_simp
      refine ⟨_, fun _ _ => rfl, hK _ ?_⟩
      clear hK K
      refine wpHeads_step (fun K hK => ?_)
      go_simp
      refine ⟨_, fun _ _ => rfl, hK _ ?_⟩
      clear hK K
      refine wpHeads_nil ?_
      have SD := Lib.hid S0
      have HYD : Hid (W3.drew.heap[w.heap.size + 1]? = some (.cells #[.int .i64 0, .int .i64 0, .slice none 0 0] 33 (0, 0))) := Lib.hid HY3.out
      have BD := Lib.hid (show Below W3.heap.size W3 W3.drew from (Below.refl _ _).drew)
      have SZ3 := Lib.hid (lt_of_some0 HY3.out)
      generalize W3.drew = WD at *
      clear S0
      refine held_one 5 rfl rfl (by kernel_rfl) fun K hK => ?_
      go_simp
      go_at_call 67
      refine (pput_any (B := fun b => b ≠ w.heap.size + 1) _ L (s, [], []) _ _ _ (rd_below SF3.out BD.out) (rd_f_mk HS.out (rd_nil _ _ _) (rd_nil _ _ _)) HSRT.out (by have h1 := HLE.out; have h2 := HN.out; omega)).mono ?_
      rintro e w5 ⟨⟨v5, rfl, hr5⟩, hb5⟩
      refine hK _ _ (SD.out.below hb5) ?_
      clear hK K
      have S5 := Lib.hid (SD.out.below hb5)
      have HY5 := Lib.hid ((hb5.block _ (lt_of_some0 HYD.out)).trans HYD.out)
      have R5 := Lib.hid (rd_mono (C := fun b => b ≠ w.heap.size + 1) hr5 fun b hb _ => by
        rcases hb with hb | hb
        · exact hb.1
        · have h1 := lt_of_some0 HYD.out; omega)
      obtain ⟨a5, c5, rfl, -, -⟩ := rd_sl hr5
      obtain ⟨n5, hn5⟩ : ∃ z, z = (putG nmF L (s, [], [])).length := ⟨_, rfl⟩
      rw [← hn5] at R5 ⊢
      clear hr5 hn5
      clear hb5 SD HYD
      refine held_one 6 rfl rfl (by kernel_rfl) fun K hK => ?_
      go_simp
      go_at_call 66
      refine (pnext_any (B := fun b => b ≠ w.heap.size + 1) (.agg #[.int .i64 cap, .int .i64 left, .slice af n cf]) _ (cap, left, L) (putG nmF L (s, [], [])) _ ⟨_, rfl, _, _, _, rfl⟩ HR.out R5.out).mono ?_
      rintro e w7 ⟨⟨v7, rfl, hv7⟩, hb7⟩
      refine hK _ _ (S5.out.below hb7) ?_
      clear hK K
      have S7 := Lib.hid (S5.out.below hb7)
      have HY7 := Lib.hid ((hb7.block _ (lt_of_some0 HY5.out)).trans HY5.out)
      obtain ⟨fv7, rfl, hr7, sf7⟩ := hv7
      have HR7 := Lib.hid hr7
      have SF7 := Lib.hid (rd_mono (C := fun b => b ≠ w.heap.size + 1) sf7 fun b hb _ => by
        rcases hb with hb | hb
        · exact hb.1
        · have h1 := lt_of_some0 HY5.out; omega)
      obtain ⟨a7, c7, rfl, -, -⟩ := rd_sl sf7
      dsimp only at HR7 SF7 ⊢
      generalize (putG nmF L (s, [], [])).length = n7 at *
      clear hr7 sf7
      clear hb7 S5 HY5
      obtain ⟨y0, y1, y2⟩ := box3c HY7.out
      have u0 := frozen_of_row w7 (w.heap.size + 1) 0 _ _ HY7.out
      have u1 := frozen_of_row w7 (w.heap.size + 1) 1 _ _ HY7.out
      have u2 := frozen_of_row w7 (w.heap.size + 1) 2 _ _ HY7.out
      refine held_one 7 rfl rfl (by kernel_rfl) fun K hK => ?_
      go_simp
      refine hK _ _ (S7.out.set3 (by omega) (fun p hp => by rw [List.mem_singleton.1 hp]; show w.heap.size ≠ w.heap.size + 1; omega)) ?_
      clear hK K
      refine held_one 8 rfl rfl (by kernel_rfl) fun K hK => ?_
      go_simp
      refine hK _ _ (S7.out.set3 (by omega) (fun p hp => by rw [List.mem_singleton.1 hp]; show w.heap.size ≠ w.heap.size + 1; omega)) ?_
      clear hK K
      refine wpAnyH_done (by kernel_rfl) ?_ _
      unfold onlyN
      dsimp only
      clear y0 y1 y2 u0 u1 u2
      go_wp2
      refine pdisk_end rfl (set3c HY7.out) rfl ?_
      rw [HDE.out, HCE2.out]
      exact ⟨⟨_, rfl, _, rfl, HR7.out, rd_move (fun b hb _ => set3_other hb) (fun b _ _ => by by_cases c : b < w.heap.size; exact Or.inl c; exact Or.inr (by omega)) SF7.out⟩, below_set3 S7.out.bel (by omega)⟩
  · have HCE2 : Hid (CE = E) := Lib.hid (by have h := HCE.out; rw [if_neg h0, if_neg h6] at h; exact h)
    have HDZ := Lib.hid (HD0.out (by rw [HCE2.out]; exact h0))
    have e2 : ((E : Int) != 6) = true := by rw [bne_iff_ne]; omega
    clear HDD HD0 HOK HVL HCE h0 h6
    obtain ⟨y0, y1, y2⟩ := box3c HY3.out
    have u0 := frozen_of_row W3 (w.heap.size + 1) 0 _ _ HY3.out
    have u1 := frozen_of_row W3 (w.heap.size + 1) 1 _ _ HY3.out
    have u2 := frozen_of_row W3 (w.heap.size + 1) 2 _ _ HY3.out
    go_wp2
    refine pdisk_end rfl (set3c HY3.out) rfl ?_
    rw [HDZ.out, HCE2.out]
    exact de_zero (below_set3 B3.out (by omega))
end Go.Proofs.Ytpipgbjkkiheaaa.Gf
namespace Go.Proofs.Ytpipgbjkkiheaaa.Gf
open Go Go.Joins Go.ChangeShapes Go.WideShapes Go.ChangeAt Go.RowKit Go.Deep Go.Proofs.Ytpipgbjkkiheaaa.By Go.Proofs.Ytpipgbjkkiheaaa.Qt

set_option maxRecDepth 100000 in
set_option maxHeartbeats 12800000 in
theorem prename_any (v : Value) (d : Dk) (s : ByteArray) (t : ByteArray) (ht : t.size ≤ maxLen) (hs : s.size ≤ maxLen) (k : Nat) (w : World) (hv : Dv w v d) (hsm : SmD d) (hpn : PnD d k) (_hk : k ≤ 89990) : Calls Try.prog 45 #[v, .string s, .string t] w (DE (fun b => b < w.heap.size) w (renameD d s t) (renameE d s t)) := by
  obtain ⟨fv, rfl, hr, sf⟩ := hv
  have sfo : Rd (fun b => b < w.heap.size) w (.sl tyF) [fv] d.2.2 := rd_mono sf fun _ _ h => h
  have RO := Lib.hid (fun W (h : Below w.heap.size w W) => popen_any (B := fun b => b < w.heap.size) _ d s hs W ⟨fv, rfl, hr, rd_below sfo h⟩ hsm)
  have HOK := Lib.hid (fun h => open_ok (d := d) (s := s) h)
  have HPN := Lib.hid hpn
  have HVL := Lib.hid (fun (h : validB d = true) => And.intro (valid_srt h) (valid_parts h).2.2.1)
  have HDD := Lib.hid (fun h => rename_eq (d := d) (s := s) (t := t) h)
  have HD0 := Lib.hid (show renameE d s t ≠ 0 → renameD d s t = dk0 from fun h => by unfold renameD; rw [if_neg h])
  have HCE := Lib.hid (show renameE d s t = if nameB t = true then atE d s else 1 from rfl)
  have HT := Lib.hid ht
  have RN := Lib.hid (fun W => pname_any t ht W)
  have SF := Lib.hid sfo
  have HR := Lib.hid hr
  obtain ⟨af, cf, rfl, -, -⟩ := rd_sl sf
  generalize renameD d s t = DD at *
  generalize renameE d s t = CE at *
  generalize nameB t = NB at *
  generalize openF d s = OF at *
  generalize fileAt d s = FA at *
  generalize atE d s = E at *
  generalize readyE d s = RE at *
  generalize atI d s = IE at *
  generalize validB d = VB at *
  obtain ⟨cap, left, L⟩ := d
  dsimp only at RO HOK SF HR HVL HPN ⊢
  have HPL : Hid (∀ f ∈ L, f.2.2.length ≤ k) := Lib.hid HPN.out
  obtain ⟨n, hn⟩ : ∃ z, z = L.length := ⟨_, rfl⟩
  rw [← hn] at SF RO HVL ⊢
  have HN := Lib.hid hn
  have A1 := bel_al0 w (.cells #[.int .i64 cap, .int .i64 left, .slice af n cf] 33)
  have BX := Lib.hid (btA A1 (bel_al0 _ (.cells #[.int .i64 0, .int .i64 0, .slice none 0 0] 33)))
  have HX := Lib.hid (show ((w.alloc (.cells #[.int .i64 cap, .int .i64 left, .slice af n cf] 33)).alloc (.cells #[.int .i64 0, .int .i64 0, .slice none 0 0] 33)).heap[w.heap.size]? = some (.cells #[.int .i64 cap, .int .i64 left, .slice af n cf] 33 (0, 0)) from (al_old (by simp)).trans (heap_alloc_new w _))
  have HY := Lib.hid (heap_alloc2_new w (.cells #[.int .i64 cap, .int .i64 left, .slice af n cf] 33) (.cells #[.int .i64 0, .int .i64 0, .slice none 0 0] 33))
  clear sf sfo hr hsm A1 hpn HPN hn
  go_enter Try.func45, Try.ntmps45
  go_upto_region 1 with fail
  generalize ((w.alloc (.cells #[.int .i64 cap, .int .i64 left, .slice af n cf] 33)).alloc (.cells #[.int .i64 0, .int .i64 0, .slice none 0 0] 33)) = W1 at *
  obtain ⟨x0, x1, x2⟩ := box3c HX.out
  cases NB
  · have HCE2 : Hid (CE = 1) := Lib.hid HCE.out
    have HDZ := Lib.hid (HD0.out (by rw [HCE2.out]; decide))
    clear HDD HD0 HOK HVL HCE
    obtain ⟨y0, y1, y2⟩ := box3c HY.out
    have u0 := frozen_of_row W1 (w.heap.size + 1) 0 _ _ HY.out
    have u1 := frozen_of_row W1 (w.heap.size + 1) 1 _ _ HY.out
    have u2 := frozen_of_row W1 (w.heap.size + 1) 2 _ _ HY.out
    go_wp2_with fail
    refine (RN.out _).mono ?_
    rintro e w9 ⟨rfl, rfl⟩
    go_wp2
    refine pdisk_end rfl (set3c HY.out) rfl ?_
    rw [HDZ.out, HCE2.out]
    exact de_zero (below_set3 BX.out (by omega))
  have HCE2 : Hid (CE = E) := Lib.hid HCE.out
  clear HCE
  go_wp2_with fail
  refine (RN.out _).mono ?_
  rintro e w9 ⟨rfl, rfl⟩
  clear RN x0 x1 x2
  obtain ⟨x0, x1, x2⟩ := box3c HX.out
  go_wp2_with fail
  refine (RO.out _ BX.out).mono ?_
  rintro e w2 ⟨⟨bv, pv, rfl, hrd⟩, hb2⟩
  have B2 := Lib.hid (btA BX.out hb2)
  have HX2 := Lib.hid ((hb2.block _ (lt_of_some0 HX.out)).trans HX.out)
  have HY2 := Lib.hid ((hb2.block _ (lt_of_some0 HY.out)).trans HY.out)
  obtain ⟨bv', pv', he, hsz, hb, hp⟩ := rd_f hrd
  obtain ⟨rfl, rfl⟩ : bv = bv' ∧ pv = pv' := by simpa using he
  obtain ⟨ab, cb, rfl, -, -⟩ := rd_sl hb
  obtain ⟨ap, cp, rfl, -, -⟩ := rd_sl hp
  have BA1 := Lib.hid (bel_al0 w2 (.cells #[.string OF.1, .slice ab OF.2.1.length cb, .slice ap OF.2.2.length cp] 59))
  have HZ := Lib.hid (heap_alloc_new w2 (.cells #[.string OF.1, .slice ab OF.2.1.length cb, .slice ap OF.2.2.length cp] 59))
  have RF := Lib.hid (rd_mono (C := fun b => b ≠ w.heap.size + 1) (rd_below hrd BA1.out) fun b hb _ => by have h1 := hb.1; omega)
  have RFO := Lib.hid (rd_mono (C := fun b => b < w.heap.size) (rd_below hrd BA1.out) fun b hb _ => hb.1)
  have B3 := Lib.hid (btA B2.out BA1.out)
  have HX3 := Lib.hid ((BA1.out.block _ (lt_of_some0 HX2.out)).trans HX2.out)
  have HY3 := Lib.hid ((BA1.out.block _ (lt_of_some0 HY2.out)).trans HY2.out)
  have HFZ := Lib.hid (lt_of_some0 HY2.out)
  clear hb2 hrd he hsz hb hp x0 x1 x2 RO HX HY HX2 HY2 BX BA1 B2
  generalize OF.2.1.length = nb at *
  generalize OF.2.2.length = np at *
  go_upto_region 4 with fail
  generalize w2.alloc (.cells #[.string OF.1, .slice ab nb cb, .slice ap np cp] 59) = W3 at *
  generalize w2.heap.size = fz at *
  have SF3 := Lib.hid (rd_mono (C := fun b => b ≠ w.heap.size + 1) (rd_below SF.out B3.out) fun b hb _ => by omega)
  by_cases h0 : E = 0
  · subst h0
    obtain ⟨rfl, hmem, hf, hnm, rfl, -⟩ := HOK.out rfl
    have HDE := Lib.hid (HDD.out HCE2.out)
    obtain ⟨hsrt, hle⟩ := HVL.out rfl
    have HSRT := Lib.hid hsrt
    have HLE := Lib.hid hle
    clear HDD HD0 HOK HVL hmem hf hnm hsrt hle
    obtain ⟨z0, z1, z2⟩ := box3c HZ.out
    have zf := frozen_of_row W3 fz 0 _ _ HZ.out
    have HZ4 := Lib.hid (show (W3.setCell ⟨fz, 0, none⟩ (.string t)).heap[fz]? = some (.cells #[.string t, .slice ab nb cb, .slice ap np cp] 59 (0, 0)) from (by simpa using heap_setCell_same W3 fz 0 _ _ (.string t) HZ.out))
    have hfz : w.heap.size + 1 < fz := HFZ.out
    have HX4 := Lib.hid ((other1 (g := fz) (o := 0) (v := .string t) (by omega : w.heap.size ≠ fz)).trans HX3.out)
    have HY4 := Lib.hid ((other1 (g := fz) (o := 0) (v := .string t) (by omega : w.heap.size + 1 ≠ fz)).trans HY3.out)
    have B4 := Lib.hid (B3.out.setCell (p := ⟨fz, 0, none⟩) (show w.heap.size ≤ fz by omega) (.string t))
    have HLT3 := Lib.hid (lt_of_some0 HZ.out)
    have SF4 := Lib.hid (rd_move (w' := W3.setCell ⟨fz, 0, none⟩ (.string t)) (C := fun b => b ≠ w.heap.size + 1) (fun b hb _ => other1 (g := fz) (by omega)) (fun b hb _ => by omega) (rd_below SF.out B3.out))
    have RF4 : Hid (Rd (fun b => b ≠ w.heap.size + 1) (W3.setCell ⟨fz, 0, none⟩ (.string t)) tyF [.string t, .slice ab nb cb, .slice ap np cp] (t, OF.2.1, OF.2.2)) := Lib.hid (by
      obtain ⟨bvx, pvx, hex, -, hbx, hpx⟩ := rd_f RFO.out
      obtain ⟨rfl, rfl⟩ : Value.slice ab nb cb = bvx ∧ Value.slice ap np cp = pvx := by simpa using hex
      exact rd_f_mk (x := (t, OF.2.1, OF.2.2)) HT.out (rd_move (fun b hb _ => other1 (g := fz) (by omega)) (fun b hb _ => by omega) hbx) (rd_move (fun b hb _ => other1 (g := fz) (by omega)) (fun b hb _ => by omega) hpx))
    clear hfz
    go_upto_region 7 with fail
    clear z0 z1 z2 zf HZ HX3 HY3 B3 SF3 RF RFO
    generalize W3.setCell ⟨fz, 0, none⟩ (.string t) = W4 at *
    have S0 : SBx w [(w.heap.size, (.cells #[.int .i64 cap, .int .i64 left, .slice af n cf] 33 (0, 0))), (fz, (.cells #[.string t, .slice ab nb cb, .slice ap np cp] 59 (0, 0)))] W4.drew := ⟨B4.out.drew, fun p hp => by
      rcases List.mem_cons.1 hp with rfl | hp
      · exact HX4.out
      · rw [List.mem_singleton.1 hp]; exact HZ4.out⟩
    refine wp_onlyN ?_
    refine wp_region_headsS (SBx w [(w.heap.size, (.cells #[.int .i64 cap, .int .i64 left, .slice af n cf] 33 (0, 0))), (fz, (.cells #[.string t, .slice ab nb cb, .slice ap np cp] 59 (0, 0)))]) [0, 1, 2, 3, 5] 5 (by kernel_rfl) (fun _ _ _ _ _ h => h.elim) (by kernel_rfl) (by rfl) (by rfl) S0 ?_
    simp only [pickOps, List.filterMap_cons, List.filterMap_nil, List.getElem?_toArray, List.getElem?_cons_zero, List.getElem?_cons_succ]
    refine wpHeads_step (fun K hK => ?_)
    go_simp
    refine ⟨.agg #[.int .i64 cap, .int .i64 left, .slice af n cf], fun w' hw' => by
      obtain ⟨q0, q1, q2⟩ := box3c (hw'.box _ (List.mem_cons_self ..))
      simp [q0, q1, q2], hK _ ?_⟩
    clear hK K
    refine wpHeads_step (fun K hK => ?_)
    go_simp
    refine ⟨_, fun _ _ => rfl, hK _ ?_⟩
    clear hK K
    refine wpHeads_step (fun K hK => ?_)
    go_simp
    refine ⟨.slice af n cf, fun w' hw' => by
      obtain ⟨q0, q1, q2⟩ := box3c (hw'.box _ (List.mem_cons_self ..))
      simp [q2], hK _ ?_⟩
    clear hK K
    refine wpHeads_step (fun K hK => ?_)
    go_simp
    refine ⟨_, fun _ _ => rfl, hK _ ?_⟩
    clear hK K
    refine wpHeads_step (fun K hK => ?_)
    go_simp
    refine ⟨.agg #[.string t, .slice ab nb cb, .slice ap np cp], fun w' hw' => by
      obtain ⟨q0, q1, q2⟩ := box3c (hw'.box _ (List.mem_cons_of_mem _ (List.mem_cons_self ..)))
      simp [q0, q1, q2], hK _ ?_⟩
    clear hK K
    refine wpHeads_nil ?_
    have SD := Lib.hid S0
    have HYD : Hid (W4.drew.heap[w.heap.size + 1]? = some (.cells #[.int .i64 0, .int .i64 0, .slice none 0 0] 33 (0, 0))) := Lib.hid HY4.out
    have BD := Lib.hid (show Below W4.heap.size W4 W4.drew from (Below.refl _ _).drew)
    have SZ3 := Lib.hid (lt_of_some0 HY4.out)
    generalize W4.drew = WD at *
    clear S0
    refine held_one 4 rfl rfl (by kernel_rfl) fun K hK => ?_
    go_simp
    go_at_call 76
    refine (pdrop_any (B := fun b => b ≠ w.heap.size + 1) _ L s _ (rd_below SF4.out BD.out) HSRT.out (by have h1 := HLE.out; have h2 := HN.out; omega)).mono ?_
    rintro e w5 ⟨⟨v5, rfl, hr5⟩, hb5⟩
    refine hK _ _ (SD.out.below hb5) ?_
    clear hK K
    have S5 := Lib.hid (SD.out.below hb5)
    have HY5 := Lib.hid ((hb5.block _ (lt_of_some0 HYD.out)).trans HYD.out)
    have RF5 := Lib.hid (rd_below (rd_below RF4.out BD.out) hb5)
    have R5 := Lib.hid (rd_mono (C := fun b => b ≠ w.heap.size + 1) hr5 fun b hb _ => by
      rcases hb with hb | hb
      · exact hb.1
      · have h1 := lt_of_some0 HYD.out; omega)
    obtain ⟨a5, c5, rfl, -, -⟩ := rd_sl hr5
    obtain ⟨n5, hn5⟩ : ∃ z, z = (dropG nmF L s).length := ⟨_, rfl⟩
    rw [← hn5] at R5 ⊢
    clear hr5 hn5
    clear hb5 SD HYD
    refine held_one 6 rfl rfl (by kernel_rfl) fun K hK => ?_
    go_simp
    go_at_call 67
    refine (pput_any (B := fun b => b ≠ w.heap.size + 1) _ (dropG nmF L s) (t, OF.2.1, OF.2.2) _ _ _ R5.out RF5.out (dropG_srt HSRT.out) (by have h1 := HLE.out; have h2 := HN.out; have h3 := dropG_le nmF L s; omega)).mono ?_
    rintro e w6 ⟨⟨v6, rfl, hr6⟩, hb6⟩
    refine hK _ _ (S5.out.below hb6) ?_
    clear hK K
    have S6 := Lib.hid (S5.out.below hb6)
    have HY6 := Lib.hid ((hb6.block _ (lt_of_some0 HY5.out)).trans HY5.out)
    have R6 := Lib.hid (rd_mono (C := fun b => b ≠ w.heap.size + 1) hr6 fun b hb _ => by
      rcases hb with hb | hb
      · exact hb.1
      · have h1 := lt_of_some0 HY5.out; omega)
    obtain ⟨a6, c6, rfl, -, -⟩ := rd_sl hr6
    obtain ⟨n6, hn6⟩ : ∃ z, z = (putG nmF (dropG nmF L s) (t, OF.2.1, OF.2.2)).length := ⟨_, rfl⟩
    rw [← hn6] at R6 ⊢
    clear hr6 hn6
    clear hb6 S5 HY5
    refine held_one 7 rfl rfl (by kernel_rfl) fun K hK => ?_
    go_simp
    go_at_call 66
    refine (pnext_any (B := fun b => b ≠ w.heap.size + 1) (.agg #[.int .i64 cap, .int .i64 left, .slice af n cf]) _ (cap, left, L) (putG nmF (dropG nmF L s) (t, OF.2.1, OF.2.2)) _ ⟨_, rfl, _, _, _, rfl⟩ HR.out R6.out).mono ?_
    rintro e w7 ⟨⟨v7, rfl, hv7⟩, hb7⟩
    refine hK _ _ (S6.out.below hb7) ?_
    clear hK K
    have S7 := Lib.hid (S6.out.below hb7)
    have HY7 := Lib.hid ((hb7.block _ (lt_of_some0 HY6.out)).trans HY6.out)
    obtain ⟨fv7, rfl, hr7, sf7⟩ := hv7
    have HR7 := Lib.hid hr7
    have SF7 := Lib.hid (rd_mono (C := fun b => b ≠ w.heap.size + 1) sf7 fun b hb _ => by
      rcases hb with hb | hb
      · exact hb.1
      · have h1 := lt_of_some0 HY6.out; omega)
    obtain ⟨a7, c7, rfl, -, -⟩ := rd_sl sf7
    dsimp only at HR7 SF7 ⊢
    generalize (putG nmF (dropG nmF L s) (t, OF.2.1, OF.2.2)).length = n7 at *
    clear hr7 sf7
    clear hb7 S6 HY6
    obtain ⟨y0, y1, y2⟩ := box3c HY7.out
    have u0 := frozen_of_row w7 (w.heap.size + 1) 0 _ _ HY7.out
    have u1 := frozen_of_row w7 (w.heap.size + 1) 1 _ _ HY7.out
    have u2 := frozen_of_row w7 (w.heap.size + 1) 2 _ _ HY7.out
    refine held_one 8 rfl rfl (by kernel_rfl) fun K hK => ?_
    go_simp
    refine hK _ _ (S7.out.set3 (by omega) (fun p hp => by
      rcases List.mem_cons.1 hp with rfl | hp
      · show w.heap.size ≠ w.heap.size + 1; omega
      · rw [List.mem_singleton.1 hp]; show fz ≠ w.heap.size + 1; have := HFZ.out; omega)) ?_
    clear hK K
    refine held_one 9 rfl rfl (by kernel_rfl) fun K hK => ?_
    go_simp
    refine hK _ _ (S7.out.set3 (by omega) (fun p hp => by
      rcases List.mem_cons.1 hp with rfl | hp
      · show w.heap.size ≠ w.heap.size + 1; omega
      · rw [List.mem_singleton.1 hp]; show fz ≠ w.heap.size + 1; have := HFZ.out; omega)) ?_
    clear hK K
    refine wpAnyH_done (by kernel_rfl) ?_ _
    unfold onlyN
    dsimp only
    clear y0 y1 y2 u0 u1 u2
    go_wp2
    refine pdisk_end rfl (set3c HY7.out) rfl ?_
    rw [HDE.out, HCE2.out]
    exact ⟨⟨_, rfl, _, rfl, HR7.out, rd_move (fun b hb _ => set3_other hb) (fun b _ _ => by by_cases c : b < w.heap.size; exact Or.inl c; exact Or.inr (by omega)) SF7.out⟩, below_set3 S7.out.bel (by omega)⟩
  · have HDZ := Lib.hid (HD0.out (by rw [HCE2.out]; exact h0))
    have e1 : ((E : Int) != 0) = true := by rw [bne_iff_ne]; omega
    clear h0 HDD HD0 HOK HVL
    obtain ⟨y0, y1, y2⟩ := box3c HY3.out
    have u0 := frozen_of_row W3 (w.heap.size + 1) 0 _ _ HY3.out
    have u1 := frozen_of_row W3 (w.heap.size + 1) 1 _ _ HY3.out
    have u2 := frozen_of_row W3 (w.heap.size + 1) 2 _ _ HY3.out
    go_wp2
    refine pdisk_end rfl (set3c HY3.out) rfl ?_
    rw [HDZ.out, HCE2.out]
    exact de_zero (below_set3 B3.out (by omega))
end Go.Proofs.Ytpipgbjkkiheaaa.Gf
namespace Go.Proofs.Ytpipgbjkkiheaaa.Gf
open Go Go.Joins Go.ChangeShapes Go.WideShapes Go.ChangeAt Go.RowKit Go.Deep Go.Sort Go.Proofs.Ytpipgbjkkiheaaa.By Go.Proofs.Ytpipgbjkkiheaaa.Qt

/-- What a write of bytes at a place answers: the error. -/
def wEx (d : Dk) (x : Fl) (off : Nat) (b : List Nat) : Nat :=
  if 1048576 < max (contL x).length (off + b.length) then 9
  else if d.1 ≠ 0 ∧ (contL x).length < max (contL x).length (off + b.length) ∧ d.1 < (totN d.2.2 : Int) - ((contL x).length : Int) + (max (contL x).length (off + b.length) : Nat) then 9 else 0
/-- A disk with another write to a file. -/
def wDx (d : Dk) (x : Fl) (y : Wr) : Dk := (d.1, leftN d.2.1, putG nmF d.2.2 (x.1, x.2.1, x.2.2 ++ [y]))
theorem de_weak {B C : Nat → Prop} {w w' : World} {d : Dk} {E : Nat} {e : Ending} (h : DE B w d E e w') (hc : ∀ b, B b → C b) : DE C w d E e w' := by
  obtain ⟨⟨v, h1, fv, h2, h3, h4⟩, h5⟩ := h
  exact ⟨⟨v, h1, fv, h2, h3, rd_mono h4 fun b hb _ => hb.elim (fun h => Or.inl (hc b h)) Or.inr⟩, h5⟩
set_option maxRecDepth 100000 in
set_option maxHeartbeats 12800000 in
theorem pwrite_any {B : Nat → Prop} (v : Value) (d : Dk) (x : Fl) (bv pv dv : Value) (off : Nat) (b : List Nat) (w : World) (hv : DvB B w v d) (sx : Rd B w tyF [.string x.1, bv, pv] x) (sd : Sl w dv b) (hval : validB d = true) (hfl : flB x.2.1 x.2.2 = true) (hlen : x.2.2.length ≤ 89990) (hoff : off ≤ 1048576) (hb : b.length ≤ 1099511627776) :
    Calls Try.prog 65 #[v, .agg #[.string x.1, bv, pv], .int .i64 (off : Int), dv] w (DE (fun b => B b ∧ b < w.heap.size) w (if wEx d x off b = 0 then wDx d x ((off : Int), b, false) else dk0) (wEx d x off b)) := by
  obtain ⟨fv, rfl, hr, sf⟩ := hv
  have PU := Lib.hid (fun W (h : Below w.heap.size w W) => pused_any (.agg #[.int .i64 d.1, .int .i64 d.2.1, fv]) d W ⟨fv, rfl, hr, rd_below (rd_mono sf fun _ _ _ => trivial) h⟩ hval)
  have HTB : Hid (totN d.2.2 ≤ 268435456) := Lib.hid (by have h1 := totN_le d.2.2; have h2 := (valid_parts hval).2.2.1; omega)
  have HSRT := Lib.hid (valid_srt hval)
  have HLE := Lib.hid (valid_parts hval).2.2.1
  have HLN := Lib.hid hlen
  have SF := Lib.hid sf
  have SX := Lib.hid sx
  have SDD := Lib.hid sd
  have HR := Lib.hid hr
  have HB1 := Lib.hid hb
  have HCL := Lib.hid (contL_le x)
  have HWD : Hid (wDx d x ((off : Int), b, false) = (d.1, leftN d.2.1, putG nmF d.2.2 (x.1, x.2.1, x.2.2 ++ [((off : Int), b, false)]))) := Lib.hid rfl
  have HWE : Hid (wEx d x off b = if 1048576 < max (contL x).length (off + b.length) then 9 else if d.1 ≠ 0 ∧ (contL x).length < max (contL x).length (off + b.length) ∧ d.1 < (totN d.2.2 : Int) - ((contL x).length : Int) + (max (contL x).length (off + b.length) : Nat) then 9 else 0) := Lib.hid rfl
  obtain ⟨bv', pv', he, hsz, hbb, hpp⟩ := rd_f sx
  obtain ⟨rfl, rfl⟩ : bv = bv' ∧ pv = pv' := by simpa using he
  have PLN := Lib.hid (fun W (h : Below w.heap.size w W) => plength_any x.1 bv pv x.2.1 x.2.2 W (sl_below (rd8_sl hbb) h) (rd_mono (rd_below hpp h) fun _ _ _ => trivial) hfl)
  rw [show (x.1, x.2.1, x.2.2) = x from rfl] at PLN
  obtain ⟨af, cf, rfl, -, -⟩ := rd_sl sf
  obtain ⟨ab, cb, rfl, -, -⟩ := rd_sl hbb
  obtain ⟨ap, cp, rfl, -, -⟩ := rd_sl hpp
  obtain ⟨ad, cd, rfl, -, -⟩ := sl_form sd
  generalize wEx d x off b = WE at *
  generalize wDx d x ((off : Int), b, false) = WD0 at *
  obtain ⟨old, hold⟩ : ∃ z, z = (contL x).length := ⟨_, rfl⟩
  rw [← hold] at PLN HWE HCL
  obtain ⟨tot, htot⟩ : ∃ z, z = totN d.2.2 := ⟨_, rfl⟩
  rw [← htot] at PU HTB HWE
  obtain ⟨cap, left, L⟩ := d
  dsimp only at SF HR HSRT HLE HWD HWE PU ⊢
  obtain ⟨n, hn⟩ : ∃ z, z = L.length := ⟨_, rfl⟩
  rw [← hn] at SF PU HLE ⊢
  obtain ⟨nd, hnd⟩ : ∃ z, z = b.length := ⟨_, rfl⟩
  rw [← hnd] at SDD HB1 HWE ⊢
  have HN := Lib.hid hn
  have HND := Lib.hid hnd
  generalize x.2.1.length = nb at *
  obtain ⟨np, hnp⟩ : ∃ z, z = x.2.2.length := ⟨_, rfl⟩
  rw [← hnp] at SX PLN ⊢
  have HNP := Lib.hid hnp
  have HOFF := Lib.hid hoff
  obtain ⟨nw, hnw⟩ : ∃ z, z = max old (off + nd) := ⟨_, rfl⟩
  rw [← hnw] at HWE
  have HNW := Lib.hid hnw
  clear sf sx sd hval hfl hlen hb hr he hsz hbb hpp hold htot hn hnd hnp hnw hoff
  have A1 := bel_al0 w (.cells #[.int .i64 cap, .int .i64 left, .slice af n cf] 33)
  have A2 := btA A1 (bel_al0 _ (.cells #[.string x.1, .slice ab nb cb, .slice ap np cp] 59))
  have A3 := btA A2 (bel_al0 _ (.cells #[.int .i64 0, .int .i64 0, .slice none 0 0] 33))
  have A4 := bel_al0 ((((w.alloc (.cells #[.int .i64 cap, .int .i64 left, .slice af n cf] 33)).alloc (.cells #[.string x.1, .slice ab nb cb, .slice ap np cp] 59)).alloc (.cells #[.int .i64 0, .int .i64 0, .slice none 0 0] 33))) (.cells #[.int .i64 (off : Int), .slice ad nd cd, .bool false] 96)
  have BX := Lib.hid (btA A3 A4)
  have hs3 : (((w.alloc (.cells #[.int .i64 cap, .int .i64 left, .slice af n cf] 33)).alloc (.cells #[.string x.1, .slice ab nb cb, .slice ap np cp] 59)).alloc (.cells #[.int .i64 0, .int .i64 0, .slice none 0 0] 33)).heap.size = w.heap.size + 3 := by simp
  have HX := Lib.hid (show ((((w.alloc (.cells #[.int .i64 cap, .int .i64 left, .slice af n cf] 33)).alloc (.cells #[.string x.1, .slice ab nb cb, .slice ap np cp] 59)).alloc (.cells #[.int .i64 0, .int .i64 0, .slice none 0 0] 33)).alloc (.cells #[.int .i64 (off : Int), .slice ad nd cd, .bool false] 96)).heap[w.heap.size]? = some (.cells #[.int .i64 cap, .int .i64 left, .slice af n cf] 33 (0, 0)) from (al_old (by simp <;> omega)).trans ((al_old (by simp <;> omega)).trans ((al_old (by simp)).trans (heap_alloc_new w _))))
  have HZ := Lib.hid (show ((((w.alloc (.cells #[.int .i64 cap, .int .i64 left, .slice af n cf] 33)).alloc (.cells #[.string x.1, .slice ab nb cb, .slice ap np cp] 59)).alloc (.cells #[.int .i64 0, .int .i64 0, .slice none 0 0] 33)).alloc (.cells #[.int .i64 (off : Int), .slice ad nd cd, .bool false] 96)).heap[w.heap.size + 1]? = some (.cells #[.string x.1, .slice ab nb cb, .slice ap np cp] 59 (0, 0)) from (al_old (by simp <;> omega)).trans ((al_old (by simp)).trans (heap_alloc2_new w _ _)))
  have HY := Lib.hid (show ((((w.alloc (.cells #[.int .i64 cap, .int .i64 left, .slice af n cf] 33)).alloc (.cells #[.string x.1, .slice ab nb cb, .slice ap np cp] 59)).alloc (.cells #[.int .i64 0, .int .i64 0, .slice none 0 0] 33)).alloc (.cells #[.int .i64 (off : Int), .slice ad nd cd, .bool false] 96)).heap[w.heap.size + 2]? = some (.cells #[.int .i64 0, .int .i64 0, .slice none 0 0] 33 (0, 0)) from (al_old (by rw [hs3]; omega)).trans (by
    have h := heap_alloc2_new (w.alloc (.cells #[.int .i64 cap, .int .i64 left, .slice af n cf] 33)) (.cells #[.string x.1, .slice ab nb cb, .slice ap np cp] 59) (.cells #[.int .i64 0, .int .i64 0, .slice none 0 0] 33)
    simpa [Nat.add_assoc] using h))
  have HW := Lib.hid (show ((((w.alloc (.cells #[.int .i64 cap, .int .i64 left, .slice af n cf] 33)).alloc (.cells #[.string x.1, .slice ab nb cb, .slice ap np cp] 59)).alloc (.cells #[.int .i64 0, .int .i64 0, .slice none 0 0] 33)).alloc (.cells #[.int .i64 (off : Int), .slice ad nd cd, .bool false] 96)).heap[w.heap.size + 3]? = some (.cells #[.int .i64 (off : Int), .slice ad nd cd, .bool false] 96 (0, 0)) from by
    have h := heap_alloc_new (((w.alloc (.cells #[.int .i64 cap, .int .i64 left, .slice af n cf] 33)).alloc (.cells #[.string x.1, .slice ab nb cb, .slice ap np cp] 59)).alloc (.cells #[.int .i64 0, .int .i64 0, .slice none 0 0] 33)) (.cells #[.int .i64 (off : Int), .slice ad nd cd, .bool false] 96)
    rw [hs3] at h
    exact h)
  clear A1 A2 A3 A4
  go_enter Try.func65, Try.ntmps65
  go_upto_region 2 with fail
  clear hs3
  generalize ((((w.alloc (.cells #[.int .i64 cap, .int .i64 left, .slice af n cf] 33)).alloc (.cells #[.string x.1, .slice ab nb cb, .slice ap np cp] 59)).alloc (.cells #[.int .i64 0, .int .i64 0, .slice none 0 0] 33)).alloc (.cells #[.int .i64 (off : Int), .slice ad nd cd, .bool false] 96)) = W1 at *
  obtain ⟨z0, z1, z2⟩ := box3c HZ.out
  go_wp2_with fail
  refine (PLN.out _ BX.out).mono ?_
  rintro e w2 ⟨rfl, hb2⟩
  have B2 := Lib.hid (btA BX.out hb2)
  have HX2 := Lib.hid ((hb2.block _ (lt_of_some0 HX.out)).trans HX.out)
  have HZ2 := Lib.hid ((hb2.block _ (lt_of_some0 HZ.out)).trans HZ.out)
  have HY2 := Lib.hid ((hb2.block _ (lt_of_some0 HY.out)).trans HY.out)
  have HW2 := Lib.hid ((hb2.block _ (lt_of_some0 HW.out)).trans HW.out)
  clear hb2 z0 z1 z2 BX HX HZ HY HW PLN
  have GR := Lib.hid (pgrown_any old off nd ad cd false w2 HOFF.out HB1.out)
  rw [if_neg (by decide), ← HNW.out] at GR
  obtain ⟨w0, w1, w2'⟩ := box3c HW2.out
  go_wp2_with fail
  refine GR.out.mono ?_
  rintro e w3 ⟨rfl, hb3⟩
  have B3 := Lib.hid (btA B2.out hb3)
  have HX3 := Lib.hid ((hb3.block _ (lt_of_some0 HX2.out)).trans HX2.out)
  have HZ3 := Lib.hid ((hb3.block _ (lt_of_some0 HZ2.out)).trans HZ2.out)
  have HY3 := Lib.hid ((hb3.block _ (lt_of_some0 HY2.out)).trans HY2.out)
  have HW3 := Lib.hid ((hb3.block _ (lt_of_some0 HW2.out)).trans HW2.out)
  clear hb3 w0 w1 w2' B2 HX2 HZ2 HY2 HW2 GR
  have PU3 := Lib.hid (regrown_bel0 (w := w3) fun W hW => PU.out W (btA B3.out hW))
  obtain ⟨x0, x1, x2⟩ := box3c HX3.out
  have c0 := cells_regrown x0
  have c1 := cells_regrown x1
  have c2 := cells_regrown x2
  clear x0 x1 x2 PU
  have hw1 : IntKind.i64.wrap ((tot : Int) - (old : Int)) = (tot : Int) - (old : Int) := IntWalk.i64_in _ (by have := HTB.out; have := HCL.out; omega)
  have hcond : (1048576 < nw ∧ WE = 9) ∨ (nw ≤ 1048576 ∧ cap = 0 ∧ WE = 0) ∨ (nw ≤ 1048576 ∧ cap ≠ 0 ∧ nw ≤ old ∧ WE = 0) ∨ (nw ≤ 1048576 ∧ cap ≠ 0 ∧ old < nw ∧ cap < (tot : Int) - (old : Int) + (nw : Int) ∧ WE = 9) ∨ (nw ≤ 1048576 ∧ cap ≠ 0 ∧ old < nw ∧ (tot : Int) - (old : Int) + (nw : Int) ≤ cap ∧ WE = 0) := by
    have h := HWE.out
    by_cases h1 : 1048576 < nw
    · rw [if_pos h1] at h; exact Or.inl ⟨h1, h⟩
    · rw [if_neg h1] at h
      by_cases h2 : cap = 0
      · rw [if_neg (fun h3 => h3.1 h2)] at h; exact Or.inr (Or.inl ⟨by omega, h2, h⟩)
      · by_cases h3 : old < nw
        · by_cases h4 : cap < (tot : Int) - (old : Int) + (nw : Int)
          · rw [if_pos ⟨h2, h3, h4⟩] at h; exact Or.inr (Or.inr (Or.inr (Or.inl ⟨by omega, h2, h3, h4, h⟩)))
          · rw [if_neg (fun h5 => h4 h5.2.2)] at h; exact Or.inr (Or.inr (Or.inr (Or.inr ⟨by omega, h2, h3, by omega, h⟩)))
        · rw [if_neg (fun h5 => h3 h5.2.1)] at h; exact Or.inr (Or.inr (Or.inl ⟨by omega, h2, by omega, h⟩))
  clear HWE
  rcases hcond with ⟨h1, rfl⟩ | ⟨h1, h2, rfl⟩ | ⟨h1, h2, h3, rfl⟩ | ⟨h1, h2, h3, h4, rfl⟩ | ⟨h1, h2, h3, h4, rfl⟩
  · have e1 : decide ((nw : Int) > 1048576) = true := decide_eq_true (by omega)
    have e1b : decide (1048576 < (nw : Int)) = true := decide_eq_true (by omega)
    clear h1
    go_wp2_with fail
    refine wp_region_bl (by kernel_rfl) (by kernel_rfl) ?_
    repeat (go_big_quiet_step (fail))
    refine wpQuiet_nil ?_
    intro w4 hb4
    have B4 := Lib.hid (btA B3.out hb4)
    have HX4 := Lib.hid ((hb4.block _ (lt_of_some0 HX3.out)).trans HX3.out)
    have HZ4 := Lib.hid ((hb4.block _ (lt_of_some0 HZ3.out)).trans HZ3.out)
    have HY4 := Lib.hid ((hb4.block _ (lt_of_some0 HY3.out)).trans HY3.out)
    have HW4 := Lib.hid ((hb4.block _ (lt_of_some0 HW3.out)).trans HW3.out)
    obtain ⟨y0, y1, y2⟩ := box3c HY4.out
    have u0 := frozen_of_row w4 (w.heap.size + 2) 0 _ _ HY4.out
    have u1 := frozen_of_row w4 (w.heap.size + 2) 1 _ _ HY4.out
    have u2 := frozen_of_row w4 (w.heap.size + 2) 2 _ _ HY4.out
    clear hb4 e1 e1b c0 c1 c2 hw1
    go_wp2
    refine pdisk_end rfl (set3c HY4.out) rfl ?_
    exact de_zero (below_set3 B4.out (by omega))
  · have e1 : decide ((nw : Int) > 1048576) = false := decide_eq_false (by omega)
    have e1b : decide (1048576 < (nw : Int)) = false := decide_eq_false (by omega)
    have e2 : (cap != 0) = false := by rw [bne_eq_false_iff_eq]; omega
    have HNB : Hid (nw ≤ 1048576) := Lib.hid h1
    clear h1 h2
    go_wp2_with fail
    refine wp_region_bl (by kernel_rfl) (by kernel_rfl) ?_
    repeat (go_big_quiet_step (fail))
    refine wpQuiet_nil ?_
    intro w4 hb4
    have B4 := Lib.hid (btA B3.out hb4)
    have HX4 := Lib.hid ((hb4.block _ (lt_of_some0 HX3.out)).trans HX3.out)
    have HZ4 := Lib.hid ((hb4.block _ (lt_of_some0 HZ3.out)).trans HZ3.out)
    have HY4 := Lib.hid ((hb4.block _ (lt_of_some0 HY3.out)).trans HY3.out)
    have HW4 := Lib.hid ((hb4.block _ (lt_of_some0 HW3.out)).trans HW3.out)
    clear hb4 e1 e1b e2 c0 c1 c2 hw1 PU3 HTB HX3 HZ3 HY3 HW3
    have PC := Lib.hid (pclone8_any (.slice ad nd cd) b w4 (sl_below SDD.out B4.out) (by have h1 := HNB.out; have h2 := HNW.out; have h3 := HND.out; omega))
    go_upto_region 6 with fail
    go_wp2_with fail
    refine PC.out.mono ?_
    rintro e w5 ⟨⟨v5, rfl, ho5⟩, hb5⟩
    have B5 := Lib.hid (btA B4.out hb5)
    have HX5 := Lib.hid ((hb5.block _ (lt_of_some0 HX4.out)).trans HX4.out)
    have HZ5 := Lib.hid ((hb5.block _ (lt_of_some0 HZ4.out)).trans HZ4.out)
    have HY5 := Lib.hid ((hb5.block _ (lt_of_some0 HY4.out)).trans HY4.out)
    have HW5 := Lib.hid ((hb5.block _ (lt_of_some0 HW4.out)).trans HW4.out)
    have R5 := Lib.hid (rd_mono (C := fun b => (B b ∧ b < w.heap.size) ∨ w.heap.size + 4 ≤ b) (own_rd8 ho5) fun b hb _ => Or.inr (by have := lt_of_some0 HW4.out; omega))
    obtain ⟨a5, c5, rfl, -, -⟩ := sl_form ho5.sl
    rw [← HND.out] at R5 ⊢
    clear hb5 ho5 B4 HX4 HZ4 HY4 HW4 PC
    obtain ⟨q0, q1, q2⟩ := box3c HW5.out
    have qf := frozen_of_row w5 (w.heap.size + 3) 1 _ _ HW5.out
    have HW6 := Lib.hid (show (w5.setCell ⟨w.heap.size + 3, 1, none⟩ (.slice a5 nd c5)).heap[w.heap.size + 3]? = some (.cells #[.int .i64 (off : Int), .slice a5 nd c5, .bool false] 96 (0, 0)) from (by simpa using heap_setCell_same w5 (w.heap.size + 3) 1 _ _ (.slice a5 nd c5) HW5.out))
    have HX6 := Lib.hid ((other1 (g := w.heap.size + 3) (o := 1) (v := .slice a5 nd c5) (by omega : w.heap.size ≠ w.heap.size + 3)).trans HX5.out)
    have HZ6 := Lib.hid ((other1 (g := w.heap.size + 3) (o := 1) (v := .slice a5 nd c5) (by omega : w.heap.size + 1 ≠ w.heap.size + 3)).trans HZ5.out)
    have HY6 := Lib.hid ((other1 (g := w.heap.size + 3) (o := 1) (v := .slice a5 nd c5) (by omega : w.heap.size + 2 ≠ w.heap.size + 3)).trans HY5.out)
    have B6 := Lib.hid (B5.out.setCell (p := ⟨w.heap.size + 3, 1, none⟩) (show w.heap.size ≤ w.heap.size + 3 by omega) (.slice a5 nd c5))
    have R6 := Lib.hid (rd_move (w' := w5.setCell ⟨w.heap.size + 3, 1, none⟩ (.slice a5 nd c5)) (fun b hb _ => other1 (g := w.heap.size + 3) (by omega)) (fun b hb _ => hb) R5.out)
    go_upto_region 7 with fail
    clear q0 q1 q2 qf B5 HX5 HZ5 HY5 HW5 R5
    generalize w5.setCell ⟨w.heap.size + 3, 1, none⟩ (.slice a5 nd c5) = W6 at *
    have SF6 := Lib.hid (rd_mono (C := fun b => (B b ∧ b < w.heap.size) ∨ w.heap.size + 4 ≤ b) (rd_oldB SF.out B6.out) fun b hb _ => Or.inl hb)
    have SX6 := Lib.hid (rd_mono (C := fun b => (B b ∧ b < w.heap.size) ∨ w.heap.size + 4 ≤ b) (rd_oldB SX.out B6.out) fun b hb _ => Or.inl hb)
    have SW6 : Hid (Rd (fun b => (B b ∧ b < w.heap.size) ∨ w.heap.size + 4 ≤ b) W6 tyW [.int .i64 (off : Int), .slice a5 nd c5, .bool false] ((off : Int), b, false)) := Lib.hid ⟨[_], [.slice a5 nd c5, .bool false], rfl, ⟨⟨by show IntKind.i64.min ≤ (off : Int); have : IntKind.i64.min = -9223372036854775808 := rfl; omega, by have h := HOFF.out; have : IntKind.i64.max = 9223372036854775807 := rfl; show (off : Int) ≤ IntKind.i64.max; omega⟩, rfl⟩, [.slice a5 nd c5], [.bool false], rfl, R6.out, rfl⟩
    have S0 : SBx w [(w.heap.size, (.cells #[.int .i64 cap, .int .i64 left, .slice af n cf] 33 (0, 0))), (w.heap.size + 1, (.cells #[.string x.1, .slice ab nb cb, .slice ap np cp] 59 (0, 0))), (w.heap.size + 3, .cells #[.int .i64 (off : Int), .slice a5 nd c5, .bool false] 96 (0, 0))] W6.drew := ⟨B6.out.drew, fun p hp => by
      rcases List.mem_cons.1 hp with rfl | hp
      · exact HX6.out
      · rcases List.mem_cons.1 hp with rfl | hp
        · exact HZ6.out
        · rw [List.mem_singleton.1 hp]; exact HW6.out⟩
    refine wp_onlyN ?_
    refine wp_region_headsS (SBx w [(w.heap.size, (.cells #[.int .i64 cap, .int .i64 left, .slice af n cf] 33 (0, 0))), (w.heap.size + 1, (.cells #[.string x.1, .slice ab nb cb, .slice ap np cp] 59 (0, 0))), (w.heap.size + 3, .cells #[.int .i64 (off : Int), .slice a5 nd c5, .bool false] 96 (0, 0))]) [0, 1, 2, 3, 4] 5 (by kernel_rfl) (fun _ _ _ _ _ h => h.elim) (by kernel_rfl) (by rfl) (by rfl) S0 ?_
    simp only [pickOps, List.filterMap_cons, List.filterMap_nil, List.getElem?_toArray, List.getElem?_cons_zero, List.getElem?_cons_succ]
    refine wpHeads_step (fun K hK => ?_)
    go_simp
    refine ⟨.agg #[.int .i64 cap, .int .i64 left, .slice af n cf], fun w' hw' => by
      obtain ⟨q0, q1, q2⟩ := box3c (hw'.box _ (List.mem_cons_self ..))
      simp [q0, q1, q2], hK _ ?_⟩
    clear hK K
    refine wpHeads_step (fun K hK => ?_)
    go_simp
    refine ⟨_, fun _ _ => rfl, hK _ ?_⟩
    clear hK K
    refine wpHeads_step (fun K hK => ?_)
    go_simp
    refine ⟨.slice af n cf, fun w' hw' => by
      obtain ⟨q0, q1, q2⟩ := box3c (hw'.box _ (List.mem_cons_self ..))
      simp [q2], hK _ ?_⟩
    clear hK K
    refine wpHeads_step (fun K hK => ?_)
    go_simp
    refine ⟨.agg #[.string x.1, .slice ab nb cb, .slice ap np cp], fun w' hw' => by
      obtain ⟨q0, q1, q2⟩ := box3c (hw'.box _ (List.mem_cons_of_mem _ (List.mem_cons_self ..)))
      simp [q0, q1, q2], hK _ ?_⟩
    clear hK K
    refine wpHeads_step (fun K hK => ?_)
    go_simp
    refine ⟨.agg #[.int .i64 (off : Int), .slice a5 nd c5, .bool false], fun w' hw' => by
      obtain ⟨q0, q1, q2⟩ := box3c (hw'.box _ (List.mem_cons_of_mem _ (List.mem_cons_of_mem _ (List.mem_cons_self ..))))
      simp [q0, q1, q2], hK _ ?_⟩
    clear hK K
    refine wpHeads_nil ?_
    have SD := Lib.hid S0
    have HYD : Hid (W6.drew.heap[w.heap.size + 2]? = some (.cells #[.int .i64 0, .int .i64 0, .slice none 0 0] 33 (0, 0))) := Lib.hid HY6.out
    have BD := Lib.hid (show Below W6.heap.size W6 W6.drew from (Below.refl _ _).drew)
    have SZ6 := Lib.hid (lt_of_some0 HW6.out)
    generalize W6.drew = WD at *
    have SZD : Hid (w.heap.size + 4 ≤ WD.heap.size) := Lib.hid (by have h1 := SZ6.out; have h2 := BD.out.size; omega)
    clear S0 B6 HX6 HZ6 HY6 HW6 R6
    refine held_one 5 rfl rfl (by kernel_rfl) fun K hK => ?_
    go_simp
    go_at_call 68
    refine (pwith_any (B := fun b => (B b ∧ b < w.heap.size) ∨ w.heap.size + 4 ≤ b) x ((off : Int), b, false) _ _ _ _ (rd_below SX6.out BD.out) (rd_below SW6.out BD.out) (Nat.le_trans HLN.out (by decide))).mono ?_
    rintro e w7 ⟨⟨bv7, pv7, rfl, hr7⟩, hb7⟩
    refine hK _ _ (SD.out.below hb7) ?_
    clear hK K
    have S7 := Lib.hid (SD.out.below hb7)
    have HY7 := Lib.hid ((hb7.block _ (lt_of_some0 HYD.out)).trans HYD.out)
    have RF7 := Lib.hid (rd_mono (C := fun b => (B b ∧ b < w.heap.size) ∨ w.heap.size + 4 ≤ b) hr7 fun b hb _ => hb.elim (fun h => h.1) fun h => Or.inr (by have h1 := SZD.out; omega))
    have SF7 := Lib.hid (rd_below (rd_below SF6.out BD.out) hb7)
    have SZ7 : Hid (w.heap.size + 4 ≤ w7.heap.size) := Lib.hid (by have h1 := SZD.out; have h2 := hb7.size; omega)
    dsimp only at RF7
    obtain ⟨bvx, pvx, hex, -, hbx, hpx⟩ := rd_f hr7
    obtain ⟨rfl, rfl⟩ : bv7 = bvx ∧ pv7 = pvx := by simpa using hex
    obtain ⟨ab7, cb7, rfl, -, -⟩ := rd_sl hbx
    obtain ⟨ap7, cp7, rfl, -, -⟩ := rd_sl hpx
    dsimp only at RF7 ⊢
    generalize (x.2.2 ++ [((off : Int), b, false)]) = NP at *
    generalize x.2.1.length = nb7 at *
    generalize NP.length = np7 at *
    clear hr7 hex hbx hpx hb7 SD HYD SX6 SW6 SF6
    refine held_one 6 rfl rfl (by kernel_rfl) fun K hK => ?_
    go_simp
    go_at_call 67
    refine (pput_any (B := fun b => (B b ∧ b < w.heap.size) ∨ w.heap.size + 4 ≤ b) _ L (x.1, x.2.1, NP) _ _ _ SF7.out RF7.out HSRT.out (by have h1 := HLE.out; have h2 := HN.out; omega)).mono ?_
    rintro e w8 ⟨⟨v8, rfl, hr8⟩, hb8⟩
    refine hK _ _ (S7.out.below hb8) ?_
    clear hK K
    have S8 := Lib.hid (S7.out.below hb8)
    have HY8 := Lib.hid ((hb8.block _ (lt_of_some0 HY7.out)).trans HY7.out)
    have R8 := Lib.hid (rd_mono (C := fun b => (B b ∧ b < w.heap.size) ∨ w.heap.size + 4 ≤ b) hr8 fun b hb _ => hb.elim (fun h => h.1) fun h => Or.inr (by have h1 := SZ7.out; omega))
    have SZ8 : Hid (w.heap.size + 4 ≤ w8.heap.size) := Lib.hid (by have h1 := SZ7.out; have h2 := hb8.size; omega)
    obtain ⟨a8, c8, rfl, -, -⟩ := rd_sl hr8
    obtain ⟨n8, hn8⟩ : ∃ z, z = (putG nmF L (x.1, x.2.1, NP)).length := ⟨_, rfl⟩
    rw [← hn8] at R8 ⊢
    clear hr8 hn8 hb8 S7 HY7 SF7 RF7
    refine held_one 7 rfl rfl (by kernel_rfl) fun K hK => ?_
    go_simp
    go_at_call 66
    refine (pnext_any (B := fun b => (B b ∧ b < w.heap.size) ∨ w.heap.size + 4 ≤ b) (.agg #[.int .i64 cap, .int .i64 left, .slice af n cf]) _ (cap, left, L) (putG nmF L (x.1, x.2.1, NP)) _ ⟨_, rfl, _, _, _, rfl⟩ HR.out R8.out).mono ?_
    rintro e w9 ⟨⟨v9, rfl, hv9⟩, hb9⟩
    refine hK _ _ (S8.out.below hb9) ?_
    clear hK K
    have S9 := Lib.hid (S8.out.below hb9)
    have HY9 := Lib.hid ((hb9.block _ (lt_of_some0 HY8.out)).trans HY8.out)
    obtain ⟨fv9, rfl, hr9, sf9⟩ := hv9
    have HR9 := Lib.hid hr9
    have SF9 := Lib.hid (rd_mono (C := fun b => (B b ∧ b < w.heap.size) ∨ w.heap.size + 4 ≤ b) sf9 fun b hb _ => hb.elim (fun h => h.1) fun h => Or.inr (by have h1 := SZ8.out; omega))
    obtain ⟨a9, c9, rfl, -, -⟩ := rd_sl sf9
    dsimp only at HR9 SF9 ⊢
    generalize (putG nmF L (x.1, x.2.1, NP)).length = n9 at *
    clear hr9 sf9 hb9 S8 HY8 R8
    obtain ⟨y0, y1, y2⟩ := box3c HY9.out
    have u0 := frozen_of_row w9 (w.heap.size + 2) 0 _ _ HY9.out
    have u1 := frozen_of_row w9 (w.heap.size + 2) 1 _ _ HY9.out
    have u2 := frozen_of_row w9 (w.heap.size + 2) 2 _ _ HY9.out
    have HNE : ∀ p ∈ [(w.heap.size, (.cells #[.int .i64 cap, .int .i64 left, .slice af n cf] 33 (0, 0))), (w.heap.size + 1, (.cells #[.string x.1, .slice ab nb cb, .slice ap np cp] 59 (0, 0))), (w.heap.size + 3, Obj.cells #[.int .i64 (off : Int), .slice a5 nd c5, .bool false] 96 (0, 0))], p.1 ≠ w.heap.size + 2 := fun p hp => by
      rcases List.mem_cons.1 hp with rfl | hp
      · show w.heap.size ≠ w.heap.size + 2; omega
      · rcases List.mem_cons.1 hp with rfl | hp
        · show w.heap.size + 1 ≠ w.heap.size + 2; omega
        · rw [List.mem_singleton.1 hp]; show w.heap.size + 3 ≠ w.heap.size + 2; omega
    refine held_one 8 rfl rfl (by kernel_rfl) fun K hK => ?_
    go_simp
    refine hK _ _ (S9.out.set3 (by omega) HNE) ?_
    clear hK K
    refine held_one 9 rfl rfl (by kernel_rfl) fun K hK => ?_
    go_simp
    refine hK _ _ (S9.out.set3 (by omega) HNE) ?_
    clear hK K HNE
    refine wpAnyH_done (by kernel_rfl) ?_ _
    unfold onlyN
    dsimp only
    clear y0 y1 y2 u0 u1 u2
    go_wp2
    refine pdisk_end rfl (set3c HY9.out) rfl ?_
    rw [HWD.out]
    exact ⟨⟨_, rfl, _, rfl, HR9.out, rd_move (fun b hb _ => set3_other (by omega)) (fun b hb _ => hb.elim Or.inl fun h => Or.inr (by omega)) SF9.out⟩, below_set3 S9.out.bel (by omega)⟩
  · have e1 : decide ((nw : Int) > 1048576) = false := decide_eq_false (by omega)
    have e1b : decide (1048576 < (nw : Int)) = false := decide_eq_false (by omega)
    have e2 : (cap != 0) = true := by rw [bne_iff_ne]; omega
    have e3 : decide ((nw : Int) > (old : Int)) = false := decide_eq_false (by omega)
    have e3b : decide ((old : Int) < (nw : Int)) = false := decide_eq_false (by omega)
    have e3c : decide (old < nw) = false := decide_eq_false (by omega)
    have HNB : Hid (nw ≤ 1048576) := Lib.hid h1
    clear h1 h2 h3
    go_wp2_with fail
    refine wp_region_bl (by kernel_rfl) (by kernel_rfl) ?_
    repeat (go_big_quiet_step (fail))
    refine wpQuiet_nil ?_
    intro w4 hb4
    have B4 := Lib.hid (btA B3.out hb4)
    have HX4 := Lib.hid ((hb4.block _ (lt_of_some0 HX3.out)).trans HX3.out)
    have HZ4 := Lib.hid ((hb4.block _ (lt_of_some0 HZ3.out)).trans HZ3.out)
    have HY4 := Lib.hid ((hb4.block _ (lt_of_some0 HY3.out)).trans HY3.out)
    have HW4 := Lib.hid ((hb4.block _ (lt_of_some0 HW3.out)).trans HW3.out)
    clear hb4 e1 e1b e2 e3 e3b e3c c0 c1 c2 hw1 PU3 HTB HX3 HZ3 HY3 HW3
    have PC := Lib.hid (pclone8_any (.slice ad nd cd) b w4 (sl_below SDD.out B4.out) (by have h1 := HNB.out; have h2 := HNW.out; have h3 := HND.out; omega))
    go_upto_region 6 with fail
    go_wp2_with fail
    refine PC.out.mono ?_
    rintro e w5 ⟨⟨v5, rfl, ho5⟩, hb5⟩
    have B5 := Lib.hid (btA B4.out hb5)
    have HX5 := Lib.hid ((hb5.block _ (lt_of_some0 HX4.out)).trans HX4.out)
    have HZ5 := Lib.hid ((hb5.block _ (lt_of_some0 HZ4.out)).trans HZ4.out)
    have HY5 := Lib.hid ((hb5.block _ (lt_of_some0 HY4.out)).trans HY4.out)
    have HW5 := Lib.hid ((hb5.block _ (lt_of_some0 HW4.out)).trans HW4.out)
    have R5 := Lib.hid (rd_mono (C := fun b => (B b ∧ b < w.heap.size) ∨ w.heap.size + 4 ≤ b) (own_rd8 ho5) fun b hb _ => Or.inr (by have := lt_of_some0 HW4.out; omega))
    obtain ⟨a5, c5, rfl, -, -⟩ := sl_form ho5.sl
    rw [← HND.out] at R5 ⊢
    clear hb5 ho5 B4 HX4 HZ4 HY4 HW4 PC
    obtain ⟨q0, q1, q2⟩ := box3c HW5.out
    have qf := frozen_of_row w5 (w.heap.size + 3) 1 _ _ HW5.out
    have HW6 := Lib.hid (show (w5.setCell ⟨w.heap.size + 3, 1, none⟩ (.slice a5 nd c5)).heap[w.heap.size + 3]? = some (.cells #[.int .i64 (off : Int), .slice a5 nd c5, .bool false] 96 (0, 0)) from (by simpa using heap_setCell_same w5 (w.heap.size + 3) 1 _ _ (.slice a5 nd c5) HW5.out))
    have HX6 := Lib.hid ((other1 (g := w.heap.size + 3) (o := 1) (v := .slice a5 nd c5) (by omega : w.heap.size ≠ w.heap.size + 3)).trans HX5.out)
    have HZ6 := Lib.hid ((other1 (g := w.heap.size + 3) (o := 1) (v := .slice a5 nd c5) (by omega : w.heap.size + 1 ≠ w.heap.size + 3)).trans HZ5.out)
    have HY6 := Lib.hid ((other1 (g := w.heap.size + 3) (o := 1) (v := .slice a5 nd c5) (by omega : w.heap.size + 2 ≠ w.heap.size + 3)).trans HY5.out)
    have B6 := Lib.hid (B5.out.setCell (p := ⟨w.heap.size + 3, 1, none⟩) (show w.heap.size ≤ w.heap.size + 3 by omega) (.slice a5 nd c5))
    have R6 := Lib.hid (rd_move (w' := w5.setCell ⟨w.heap.size + 3, 1, none⟩ (.slice a5 nd c5)) (fun b hb _ => other1 (g := w.heap.size + 3) (by omega)) (fun b hb _ => hb) R5.out)
    go_upto_region 7 with fail
    clear q0 q1 q2 qf B5 HX5 HZ5 HY5 HW5 R5
    generalize w5.setCell ⟨w.heap.size + 3, 1, none⟩ (.slice a5 nd c5) = W6 at *
    have SF6 := Lib.hid (rd_mono (C := fun b => (B b ∧ b < w.heap.size) ∨ w.heap.size + 4 ≤ b) (rd_oldB SF.out B6.out) fun b hb _ => Or.inl hb)
    have SX6 := Lib.hid (rd_mono (C := fun b => (B b ∧ b < w.heap.size) ∨ w.heap.size + 4 ≤ b) (rd_oldB SX.out B6.out) fun b hb _ => Or.inl hb)
    have SW6 : Hid (Rd (fun b => (B b ∧ b < w.heap.size) ∨ w.heap.size + 4 ≤ b) W6 tyW [.int .i64 (off : Int), .slice a5 nd c5, .bool false] ((off : Int), b, false)) := Lib.hid ⟨[_], [.slice a5 nd c5, .bool false], rfl, ⟨⟨by show IntKind.i64.min ≤ (off : Int); have : IntKind.i64.min = -9223372036854775808 := rfl; omega, by have h := HOFF.out; have : IntKind.i64.max = 9223372036854775807 := rfl; show (off : Int) ≤ IntKind.i64.max; omega⟩, rfl⟩, [.slice a5 nd c5], [.bool false], rfl, R6.out, rfl⟩
    have S0 : SBx w [(w.heap.size, (.cells #[.int .i64 cap, .int .i64 left, .slice af n cf] 33 (0, 0))), (w.heap.size + 1, (.cells #[.string x.1, .slice ab nb cb, .slice ap np cp] 59 (0, 0))), (w.heap.size + 3, .cells #[.int .i64 (off : Int), .slice a5 nd c5, .bool false] 96 (0, 0))] W6.drew := ⟨B6.out.drew, fun p hp => by
      rcases List.mem_cons.1 hp with rfl | hp
      · exact HX6.out
      · rcases List.mem_cons.1 hp with rfl | hp
        · exact HZ6.out
        · rw [List.mem_singleton.1 hp]; exact HW6.out⟩
    refine wp_onlyN ?_
    refine wp_region_headsS (SBx w [(w.heap.size, (.cells #[.int .i64 cap, .int .i64 left, .slice af n cf] 33 (0, 0))), (w.heap.size + 1, (.cells #[.string x.1, .slice ab nb cb, .slice ap np cp] 59 (0, 0))), (w.heap.size + 3, .cells #[.int .i64 (off : Int), .slice a5 nd c5, .bool false] 96 (0, 0))]) [0, 1, 2, 3, 4] 5 (by kernel_rfl) (fun _ _ _ _ _ h => h.elim) (by kernel_rfl) (by rfl) (by rfl) S0 ?_
    simp only [pickOps, List.filterMap_cons, List.filterMap_nil, List.getElem?_toArray, List.getElem?_cons_zero, List.getElem?_cons_succ]
    refine wpHeads_step (fun K hK => ?_)
    go_simp
    refine ⟨.agg #[.int .i64 cap, .int .i64 left, .slice af n cf], fun w' hw' => by
      obtain ⟨q0, q1, q2⟩ := box3c (hw'.box _ (List.mem_cons_self ..))
      simp [q0, q1, q2], hK _ ?_⟩
    clear hK K
    refine wpHeads_step (fun K hK => ?_)
    go_simp
    refine ⟨_, fun _ _ => rfl, hK _ ?_⟩
    clear hK K
    refine wpHeads_step (fun K hK => ?_)
    go_simp
    refine ⟨.slice af n cf, fun w' hw' => by
      obtain ⟨q0, q1, q2⟩ := box3c (hw'.box _ (List.mem_cons_self ..))
      simp [q2], hK _ ?_⟩
    clear hK K
    refine wpHeads_step (fun K hK => ?_)
    go_simp
    refine ⟨.agg #[.string x.1, .slice ab nb cb, .slice ap np cp], fun w' hw' => by
      obtain ⟨q0, q1, q2⟩ := box3c (hw'.box _ (List.mem_cons_of_mem _ (List.mem_cons_self ..)))
      simp [q0, q1, q2], hK _ ?_⟩
    clear hK K
    refine wpHeads_step (fun K hK => ?_)
    go_simp
    refine ⟨.agg #[.int .i64 (off : Int), .slice a5 nd c5, .bool false], fun w' hw' => by
      obtain ⟨q0, q1, q2⟩ := box3c (hw'.box _ (List.mem_cons_of_mem _ (List.mem_cons_of_mem _ (List.mem_cons_self ..))))
      simp [q0, q1, q2], hK _ ?_⟩
    clear hK K
    refine wpHeads_nil ?_
    have SD := Lib.hid S0
    have HYD : Hid (W6.drew.heap[w.heap.size + 2]? = some (.cells #[.int .i64 0, .int .i64 0, .slice none 0 0] 33 (0, 0))) := Lib.hid HY6.out
    have BD := Lib.hid (show Below W6.heap.size W6 W6.drew from (Below.refl _ _).drew)
    have SZ6 := Lib.hid (lt_of_some0 HW6.out)
    generalize W6.drew = WD at *
    have SZD : Hid (w.heap.size + 4 ≤ WD.heap.size) := Lib.hid (by have h1 := SZ6.out; have h2 := BD.out.size; omega)
    clear S0 B6 HX6 HZ6 HY6 HW6 R6
    refine held_one 5 rfl rfl (by kernel_rfl) fun K hK => ?_
    go_simp
    go_at_call 68
    refine (pwith_any (B := fun b => (B b ∧ b < w.heap.size) ∨ w.heap.size + 4 ≤ b) x ((off : Int), b, false) _ _ _ _ (rd_below SX6.out BD.out) (rd_below SW6.out BD.out) (Nat.le_trans HLN.out (by decide))).mono ?_
    rintro e w7 ⟨⟨bv7, pv7, rfl, hr7⟩, hb7⟩
    refine hK _ _ (SD.out.below hb7) ?_
    clear hK K
    have S7 := Lib.hid (SD.out.below hb7)
    have HY7 := Lib.hid ((hb7.block _ (lt_of_some0 HYD.out)).trans HYD.out)
    have RF7 := Lib.hid (rd_mono (C := fun b => (B b ∧ b < w.heap.size) ∨ w.heap.size + 4 ≤ b) hr7 fun b hb _ => hb.elim (fun h => h.1) fun h => Or.inr (by have h1 := SZD.out; omega))
    have SF7 := Lib.hid (rd_below (rd_below SF6.out BD.out) hb7)
    have SZ7 : Hid (w.heap.size + 4 ≤ w7.heap.size) := Lib.hid (by have h1 := SZD.out; have h2 := hb7.size; omega)
    dsimp only at RF7
    obtain ⟨bvx, pvx, hex, -, hbx, hpx⟩ := rd_f hr7
    obtain ⟨rfl, rfl⟩ : bv7 = bvx ∧ pv7 = pvx := by simpa using hex
    obtain ⟨ab7, cb7, rfl, -, -⟩ := rd_sl hbx
    obtain ⟨ap7, cp7, rfl, -, -⟩ := rd_sl hpx
    dsimp only at RF7 ⊢
    generalize (x.2.2 ++ [((off : Int), b, false)]) = NP at *
    generalize x.2.1.length = nb7 at *
    generalize NP.length = np7 at *
    clear hr7 hex hbx hpx hb7 SD HYD SX6 SW6 SF6
    refine held_one 6 rfl rfl (by kernel_rfl) fun K hK => ?_
    go_simp
    go_at_call 67
    refine (pput_any (B := fun b => (B b ∧ b < w.heap.size) ∨ w.heap.size + 4 ≤ b) _ L (x.1, x.2.1, NP) _ _ _ SF7.out RF7.out HSRT.out (by have h1 := HLE.out; have h2 := HN.out; omega)).mono ?_
    rintro e w8 ⟨⟨v8, rfl, hr8⟩, hb8⟩
    refine hK _ _ (S7.out.below hb8) ?_
    clear hK K
    have S8 := Lib.hid (S7.out.below hb8)
    have HY8 := Lib.hid ((hb8.block _ (lt_of_some0 HY7.out)).trans HY7.out)
    have R8 := Lib.hid (rd_mono (C := fun b => (B b ∧ b < w.heap.size) ∨ w.heap.size + 4 ≤ b) hr8 fun b hb _ => hb.elim (fun h => h.1) fun h => Or.inr (by have h1 := SZ7.out; omega))
    have SZ8 : Hid (w.heap.size + 4 ≤ w8.heap.size) := Lib.hid (by have h1 := SZ7.out; have h2 := hb8.size; omega)
    obtain ⟨a8, c8, rfl, -, -⟩ := rd_sl hr8
    obtain ⟨n8, hn8⟩ : ∃ z, z = (putG nmF L (x.1, x.2.1, NP)).length := ⟨_, rfl⟩
    rw [← hn8] at R8 ⊢
    clear hr8 hn8 hb8 S7 HY7 SF7 RF7
    refine held_one 7 rfl rfl (by kernel_rfl) fun K hK => ?_
    go_simp
    go_at_call 66
    refine (pnext_any (B := fun b => (B b ∧ b < w.heap.size) ∨ w.heap.size + 4 ≤ b) (.agg #[.int .i64 cap, .int .i64 left, .slice af n cf]) _ (cap, left, L) (putG nmF L (x.1, x.2.1, NP)) _ ⟨_, rfl, _, _, _, rfl⟩ HR.out R8.out).mono ?_
    rintro e w9 ⟨⟨v9, rfl, hv9⟩, hb9⟩
    refine hK _ _ (S8.out.below hb9) ?_
    clear hK K
    have S9 := Lib.hid (S8.out.below hb9)
    have HY9 := Lib.hid ((hb9.block _ (lt_of_some0 HY8.out)).trans HY8.out)
    obtain ⟨fv9, rfl, hr9, sf9⟩ := hv9
    have HR9 := Lib.hid hr9
    have SF9 := Lib.hid (rd_mono (C := fun b => (B b ∧ b < w.heap.size) ∨ w.heap.size + 4 ≤ b) sf9 fun b hb _ => hb.elim (fun h => h.1) fun h => Or.inr (by have h1 := SZ8.out; omega))
    obtain ⟨a9, c9, rfl, -, -⟩ := rd_sl sf9
    dsimp only at HR9 SF9 ⊢
    generalize (putG nmF L (x.1, x.2.1, NP)).length = n9 at *
    clear hr9 sf9 hb9 S8 HY8 R8
    obtain ⟨y0, y1, y2⟩ := box3c HY9.out
    have u0 := frozen_of_row w9 (w.heap.size + 2) 0 _ _ HY9.out
    have u1 := frozen_of_row w9 (w.heap.size + 2) 1 _ _ HY9.out
    have u2 := frozen_of_row w9 (w.heap.size + 2) 2 _ _ HY9.out
    have HNE : ∀ p ∈ [(w.heap.size, (.cells #[.int .i64 cap, .int .i64 left, .slice af n cf] 33 (0, 0))), (w.heap.size + 1, (.cells #[.string x.1, .slice ab nb cb, .slice ap np cp] 59 (0, 0))), (w.heap.size + 3, Obj.cells #[.int .i64 (off : Int), .slice a5 nd c5, .bool false] 96 (0, 0))], p.1 ≠ w.heap.size + 2 := fun p hp => by
      rcases List.mem_cons.1 hp with rfl | hp
      · show w.heap.size ≠ w.heap.size + 2; omega
      · rcases List.mem_cons.1 hp with rfl | hp
        · show w.heap.size + 1 ≠ w.heap.size + 2; omega
        · rw [List.mem_singleton.1 hp]; show w.heap.size + 3 ≠ w.heap.size + 2; omega
    refine held_one 8 rfl rfl (by kernel_rfl) fun K hK => ?_
    go_simp
    refine hK _ _ (S9.out.set3 (by omega) HNE) ?_
    clear hK K
    refine held_one 9 rfl rfl (by kernel_rfl) fun K hK => ?_
    go_simp
    refine hK _ _ (S9.out.set3 (by omega) HNE) ?_
    clear hK K HNE
    refine wpAnyH_done (by kernel_rfl) ?_ _
    unfold onlyN
    dsimp only
    clear y0 y1 y2 u0 u1 u2
    go_wp2
    refine pdisk_end rfl (set3c HY9.out) rfl ?_
    rw [HWD.out]
    exact ⟨⟨_, rfl, _, rfl, HR9.out, rd_move (fun b hb _ => set3_other (by omega)) (fun b hb _ => hb.elim Or.inl fun h => Or.inr (by omega)) SF9.out⟩, below_set3 S9.out.bel (by omega)⟩
  · have e1 : decide ((nw : Int) > 1048576) = false := decide_eq_false (by omega)
    have e1b : decide (1048576 < (nw : Int)) = false := decide_eq_false (by omega)
    have e2 : (cap != 0) = true := by rw [bne_iff_ne]; omega
    have e3 : decide ((nw : Int) > (old : Int)) = true := decide_eq_true (by omega)
    have e3b : decide ((old : Int) < (nw : Int)) = true := decide_eq_true (by omega)
    have e3c : decide (old < nw) = true := decide_eq_true (by omega)
    have hw2 : IntKind.i64.wrap ((tot : Int) - (old : Int) + (nw : Int)) = (tot : Int) - (old : Int) + (nw : Int) := IntWalk.i64_in _ (by have := HTB.out; have := HCL.out; omega)
    have e4 : decide ((tot : Int) - (old : Int) + (nw : Int) > cap) = true := decide_eq_true (by omega)
    have e4b : decide (cap < (tot : Int) - (old : Int) + (nw : Int)) = true := decide_eq_true (by omega)
    clear h1 h2 h3 h4
    go_wp2_with fail
    refine wp_region_bl (by kernel_rfl) (by kernel_rfl) ?_
    repeat (go_big_quiet_step (fail))
    go_big_quiet_step ((go_at_call 88; with_reducible exact PU3.out _ _))
    repeat (go_big_quiet_step (fail))
    refine wpQuiet_nil ?_
    intro w4 hb4
    have B4 := Lib.hid (btA B3.out hb4)
    have HX4 := Lib.hid ((hb4.block _ (lt_of_some0 HX3.out)).trans HX3.out)
    have HZ4 := Lib.hid ((hb4.block _ (lt_of_some0 HZ3.out)).trans HZ3.out)
    have HY4 := Lib.hid ((hb4.block _ (lt_of_some0 HY3.out)).trans HY3.out)
    have HW4 := Lib.hid ((hb4.block _ (lt_of_some0 HW3.out)).trans HW3.out)
    obtain ⟨y0, y1, y2⟩ := box3c HY4.out
    have u0 := frozen_of_row w4 (w.heap.size + 2) 0 _ _ HY4.out
    have u1 := frozen_of_row w4 (w.heap.size + 2) 1 _ _ HY4.out
    have u2 := frozen_of_row w4 (w.heap.size + 2) 2 _ _ HY4.out
    clear hb4 e1 e1b e2 e3 e3b e3c e4 e4b hw2 c0 c1 c2 hw1
    go_wp2
    refine pdisk_end rfl (set3c HY4.out) rfl ?_
    exact de_zero (below_set3 B4.out (by omega))
  · have e1 : decide ((nw : Int) > 1048576) = false := decide_eq_false (by omega)
    have e1b : decide (1048576 < (nw : Int)) = false := decide_eq_false (by omega)
    have e2 : (cap != 0) = true := by rw [bne_iff_ne]; omega
    have e3 : decide ((nw : Int) > (old : Int)) = true := decide_eq_true (by omega)
    have e3b : decide ((old : Int) < (nw : Int)) = true := decide_eq_true (by omega)
    have e3c : decide (old < nw) = true := decide_eq_true (by omega)
    have hw2 : IntKind.i64.wrap ((tot : Int) - (old : Int) + (nw : Int)) = (tot : Int) - (old : Int) + (nw : Int) := IntWalk.i64_in _ (by have := HTB.out; have := HCL.out; omega)
    have e4 : decide ((tot : Int) - (old : Int) + (nw : Int) > cap) = false := decide_eq_false (by omega)
    have e4b : decide (cap < (tot : Int) - (old : Int) + (nw : Int)) = false := decide_eq_false (by omega)
    have HNB : Hid (nw ≤ 1048576) := Lib.hid h1
    clear h1 h2 h3 h4
    go_wp2_with fail
    refine wp_region_bl (by kernel_rfl) (by kernel_rfl) ?_
    repeat (go_big_quiet_step (fail))
    go_big_quiet_step ((go_at_call 88; with_reducible exact PU3.out _ _))
    repeat (go_big_quiet_step (fail))
    refine wpQuiet_nil ?_
    intro w4 hb4
    have B4 := Lib.hid (btA B3.out hb4)
    have HX4 := Lib.hid ((hb4.block _ (lt_of_some0 HX3.out)).trans HX3.out)
    have HZ4 := Lib.hid ((hb4.block _ (lt_of_some0 HZ3.out)).trans HZ3.out)
    have HY4 := Lib.hid ((hb4.block _ (lt_of_some0 HY3.out)).trans HY3.out)
    have HW4 := Lib.hid ((hb4.block _ (lt_of_some0 HW3.out)).trans HW3.out)
    clear hb4 e1 e1b e2 e3 e3b e3c e4 e4b hw2 c0 c1 c2 hw1 PU3 HTB HX3 HZ3 HY3 HW3
    have PC := Lib.hid (pclone8_any (.slice ad nd cd) b w4 (sl_below SDD.out B4.out) (by have h1 := HNB.out; have h2 := HNW.out; have h3 := HND.out; omega))
    go_upto_region 6 with fail
    go_wp2_with fail
    refine PC.out.mono ?_
    rintro e w5 ⟨⟨v5, rfl, ho5⟩, hb5⟩
    have B5 := Lib.hid (btA B4.out hb5)
    have HX5 := Lib.hid ((hb5.block _ (lt_of_some0 HX4.out)).trans HX4.out)
    have HZ5 := Lib.hid ((hb5.block _ (lt_of_some0 HZ4.out)).trans HZ4.out)
    have HY5 := Lib.hid ((hb5.block _ (lt_of_some0 HY4.out)).trans HY4.out)
    have HW5 := Lib.hid ((hb5.block _ (lt_of_some0 HW4.out)).trans HW4.out)
    have R5 := Lib.hid (rd_mono (C := fun b => (B b ∧ b < w.heap.size) ∨ w.heap.size + 4 ≤ b) (own_rd8 ho5) fun b hb _ => Or.inr (by have := lt_of_some0 HW4.out; omega))
    obtain ⟨a5, c5, rfl, -, -⟩ := sl_form ho5.sl
    rw [← HND.out] at R5 ⊢
    clear hb5 ho5 B4 HX4 HZ4 HY4 HW4 PC
    obtain ⟨q0, q1, q2⟩ := box3c HW5.out
    have qf := frozen_of_row w5 (w.heap.size + 3) 1 _ _ HW5.out
    have HW6 := Lib.hid (show (w5.setCell ⟨w.heap.size + 3, 1, none⟩ (.slice a5 nd c5)).heap[w.heap.size + 3]? = some (.cells #[.int .i64 (off : Int), .slice a5 nd c5, .bool false] 96 (0, 0)) from (by simpa using heap_setCell_same w5 (w.heap.size + 3) 1 _ _ (.slice a5 nd c5) HW5.out))
    have HX6 := Lib.hid ((other1 (g := w.heap.size + 3) (o := 1) (v := .slice a5 nd c5) (by omega : w.heap.size ≠ w.heap.size + 3)).trans HX5.out)
    have HZ6 := Lib.hid ((other1 (g := w.heap.size + 3) (o := 1) (v := .slice a5 nd c5) (by omega : w.heap.size + 1 ≠ w.heap.size + 3)).trans HZ5.out)
    have HY6 := Lib.hid ((other1 (g := w.heap.size + 3) (o := 1) (v := .slice a5 nd c5) (by omega : w.heap.size + 2 ≠ w.heap.size + 3)).trans HY5.out)
    have B6 := Lib.hid (B5.out.setCell (p := ⟨w.heap.size + 3, 1, none⟩) (show w.heap.size ≤ w.heap.size + 3 by omega) (.slice a5 nd c5))
    have R6 := Lib.hid (rd_move (w' := w5.setCell ⟨w.heap.size + 3, 1, none⟩ (.slice a5 nd c5)) (fun b hb _ => other1 (g := w.heap.size + 3) (by omega)) (fun b hb _ => hb) R5.out)
    go_upto_region 7 with fail
    clear q0 q1 q2 qf B5 HX5 HZ5 HY5 HW5 R5
    generalize w5.setCell ⟨w.heap.size + 3, 1, none⟩ (.slice a5 nd c5) = W6 at *
    have SF6 := Lib.hid (rd_mono (C := fun b => (B b ∧ b < w.heap.size) ∨ w.heap.size + 4 ≤ b) (rd_oldB SF.out B6.out) fun b hb _ => Or.inl hb)
    have SX6 := Lib.hid (rd_mono (C := fun b => (B b ∧ b < w.heap.size) ∨ w.heap.size + 4 ≤ b) (rd_oldB SX.out B6.out) fun b hb _ => Or.inl hb)
    have SW6 : Hid (Rd (fun b => (B b ∧ b < w.heap.size) ∨ w.heap.size + 4 ≤ b) W6 tyW [.int .i64 (off : Int), .slice a5 nd c5, .bool false] ((off : Int), b, false)) := Lib.hid ⟨[_], [.slice a5 nd c5, .bool false], rfl, ⟨⟨by show IntKind.i64.min ≤ (off : Int); have : IntKind.i64.min = -9223372036854775808 := rfl; omega, by have h := HOFF.out; have : IntKind.i64.max = 9223372036854775807 := rfl; show (off : Int) ≤ IntKind.i64.max; omega⟩, rfl⟩, [.slice a5 nd c5], [.bool false], rfl, R6.out, rfl⟩
    have S0 : SBx w [(w.heap.size, (.cells #[.int .i64 cap, .int .i64 left, .slice af n cf] 33 (0, 0))), (w.heap.size + 1, (.cells #[.string x.1, .slice ab nb cb, .slice ap np cp] 59 (0, 0))), (w.heap.size + 3, .cells #[.int .i64 (off : Int), .slice a5 nd c5, .bool false] 96 (0, 0))] W6.drew := ⟨B6.out.drew, fun p hp => by
      rcases List.mem_cons.1 hp with rfl | hp
      · exact HX6.out
      · rcases List.mem_cons.1 hp with rfl | hp
        · exact HZ6.out
        · rw [List.mem_singleton.1 hp]; exact HW6.out⟩
    refine wp_onlyN ?_
    refine wp_region_headsS (SBx w [(w.heap.size, (.cells #[.int .i64 cap, .int .i64 left, .slice af n cf] 33 (0, 0))), (w.heap.size + 1, (.cells #[.string x.1, .slice ab nb cb, .slice ap np cp] 59 (0, 0))), (w.heap.size + 3, .cells #[.int .i64 (off : Int), .slice a5 nd c5, .bool false] 96 (0, 0))]) [0, 1, 2, 3, 4] 5 (by kernel_rfl) (fun _ _ _ _ _ h => h.elim) (by kernel_rfl) (by rfl) (by rfl) S0 ?_
    simp only [pickOps, List.filterMap_cons, List.filterMap_nil, List.getElem?_toArray, List.getElem?_cons_zero, List.getElem?_cons_succ]
    refine wpHeads_step (fun K hK => ?_)
    go_simp
    refine ⟨.agg #[.int .i64 cap, .int .i64 left, .slice af n cf], fun w' hw' => by
      obtain ⟨q0, q1, q2⟩ := box3c (hw'.box _ (List.mem_cons_self ..))
      simp [q0, q1, q2], hK _ ?_⟩
    clear hK K
    refine wpHeads_step (fun K hK => ?_)
    go_simp
    refine ⟨_, fun _ _ => rfl, hK _ ?_⟩
    clear hK K
    refine wpHeads_step (fun K hK => ?_)
    go_simp
    refine ⟨.slice af n cf, fun w' hw' => by
      obtain ⟨q0, q1, q2⟩ := box3c (hw'.box _ (List.mem_cons_self ..))
      simp [q2], hK _ ?_⟩
    clear hK K
    refine wpHeads_step (fun K hK => ?_)
    go_simp
    refine ⟨.agg #[.string x.1, .slice ab nb cb, .slice ap np cp], fun w' hw' => by
      obtain ⟨q0, q1, q2⟩ := box3c (hw'.box _ (List.mem_cons_of_mem _ (List.mem_cons_self ..)))
      simp [q0, q1, q2], hK _ ?_⟩
    clear hK K
    refine wpHeads_step (fun K hK => ?_)
    go_simp
    refine ⟨.agg #[.int .i64 (off : Int), .slice a5 nd c5, .bool false], fun w' hw' => by
      obtain ⟨q0, q1, q2⟩ := box3c (hw'.box _ (List.mem_cons_of_mem _ (List.mem_cons_of_mem _ (List.mem_cons_self ..))))
      simp [q0, q1, q2], hK _ ?_⟩
    clear hK K
    refine wpHeads_nil ?_
    have SD := Lib.hid S0
    have HYD : Hid (W6.drew.heap[w.heap.size + 2]? = some (.cells #[.int .i64 0, .int .i64 0, .slice none 0 0] 33 (0, 0))) := Lib.hid HY6.out
    have BD := Lib.hid (show Below W6.heap.size W6 W6.drew from (Below.refl _ _).drew)
    have SZ6 := Lib.hid (lt_of_some0 HW6.out)
    generalize W6.drew = WD at *
    have SZD : Hid (w.heap.size + 4 ≤ WD.heap.size) := Lib.hid (by have h1 := SZ6.out; have h2 := BD.out.size; omega)
    clear S0 B6 HX6 HZ6 HY6 HW6 R6
    refine held_one 5 rfl rfl (by kernel_rfl) fun K hK => ?_
    go_simp
    go_at_call 68
    refine (pwith_any (B := fun b => (B b ∧ b < w.heap.size) ∨ w.heap.size + 4 ≤ b) x ((off : Int), b, false) _ _ _ _ (rd_below SX6.out BD.out) (rd_below SW6.out BD.out) (Nat.le_trans HLN.out (by decide))).mono ?_
    rintro e w7 ⟨⟨bv7, pv7, rfl, hr7⟩, hb7⟩
    refine hK _ _ (SD.out.below hb7) ?_
    clear hK K
    have S7 := Lib.hid (SD.out.below hb7)
    have HY7 := Lib.hid ((hb7.block _ (lt_of_some0 HYD.out)).trans HYD.out)
    have RF7 := Lib.hid (rd_mono (C := fun b => (B b ∧ b < w.heap.size) ∨ w.heap.size + 4 ≤ b) hr7 fun b hb _ => hb.elim (fun h => h.1) fun h => Or.inr (by have h1 := SZD.out; omega))
    have SF7 := Lib.hid (rd_below (rd_below SF6.out BD.out) hb7)
    have SZ7 : Hid (w.heap.size + 4 ≤ w7.heap.size) := Lib.hid (by have h1 := SZD.out; have h2 := hb7.size; omega)
    dsimp only at RF7
    obtain ⟨bvx, pvx, hex, -, hbx, hpx⟩ := rd_f hr7
    obtain ⟨rfl, rfl⟩ : bv7 = bvx ∧ pv7 = pvx := by simpa using hex
    obtain ⟨ab7, cb7, rfl, -, -⟩ := rd_sl hbx
    obtain ⟨ap7, cp7, rfl, -, -⟩ := rd_sl hpx
    dsimp only at RF7 ⊢
    generalize (x.2.2 ++ [((off : Int), b, false)]) = NP at *
    generalize x.2.1.length = nb7 at *
    generalize NP.length = np7 at *
    clear hr7 hex hbx hpx hb7 SD HYD SX6 SW6 SF6
    refine held_one 6 rfl rfl (by kernel_rfl) fun K hK => ?_
    go_simp
    go_at_call 67
    refine (pput_any (B := fun b => (B b ∧ b < w.heap.size) ∨ w.heap.size + 4 ≤ b) _ L (x.1, x.2.1, NP) _ _ _ SF7.out RF7.out HSRT.out (by have h1 := HLE.out; have h2 := HN.out; omega)).mono ?_
    rintro e w8 ⟨⟨v8, rfl, hr8⟩, hb8⟩
    refine hK _ _ (S7.out.below hb8) ?_
    clear hK K
    have S8 := Lib.hid (S7.out.below hb8)
    have HY8 := Lib.hid ((hb8.block _ (lt_of_some0 HY7.out)).trans HY7.out)
    have R8 := Lib.hid (rd_mono (C := fun b => (B b ∧ b < w.heap.size) ∨ w.heap.size + 4 ≤ b) hr8 fun b hb _ => hb.elim (fun h => h.1) fun h => Or.inr (by have h1 := SZ7.out; omega))
    have SZ8 : Hid (w.heap.size + 4 ≤ w8.heap.size) := Lib.hid (by have h1 := SZ7.out; have h2 := hb8.size; omega)
    obtain ⟨a8, c8, rfl, -, -⟩ := rd_sl hr8
    obtain ⟨n8, hn8⟩ : ∃ z, z = (putG nmF L (x.1, x.2.1, NP)).length := ⟨_, rfl⟩
    rw [← hn8] at R8 ⊢
    clear hr8 hn8 hb8 S7 HY7 SF7 RF7
    refine held_one 7 rfl rfl (by kernel_rfl) fun K hK => ?_
    go_simp
    go_at_call 66
    refine (pnext_any (B := fun b => (B b ∧ b < w.heap.size) ∨ w.heap.size + 4 ≤ b) (.agg #[.int .i64 cap, .int .i64 left, .slice af n cf]) _ (cap, left, L) (putG nmF L (x.1, x.2.1, NP)) _ ⟨_, rfl, _, _, _, rfl⟩ HR.out R8.out).mono ?_
    rintro e w9 ⟨⟨v9, rfl, hv9⟩, hb9⟩
    refine hK _ _ (S8.out.below hb9) ?_
    clear hK K
    have S9 := Lib.hid (S8.out.below hb9)
    have HY9 := Lib.hid ((hb9.block _ (lt_of_some0 HY8.out)).trans HY8.out)
    obtain ⟨fv9, rfl, hr9, sf9⟩ := hv9
    have HR9 := Lib.hid hr9
    have SF9 := Lib.hid (rd_mono (C := fun b => (B b ∧ b < w.heap.size) ∨ w.heap.size + 4 ≤ b) sf9 fun b hb _ => hb.elim (fun h => h.1) fun h => Or.inr (by have h1 := SZ8.out; omega))
    obtain ⟨a9, c9, rfl, -, -⟩ := rd_sl sf9
    dsimp only at HR9 SF9 ⊢
    generalize (putG nmF L (x.1, x.2.1, NP)).length = n9 at *
    clear hr9 sf9 hb9 S8 HY8 R8
    obtain ⟨y0, y1, y2⟩ := box3c HY9.out
    have u0 := frozen_of_row w9 (w.heap.size + 2) 0 _ _ HY9.out
    have u1 := frozen_of_row w9 (w.heap.size + 2) 1 _ _ HY9.out
    have u2 := frozen_of_row w9 (w.heap.size + 2) 2 _ _ HY9.out
    have HNE : ∀ p ∈ [(w.heap.size, (.cells #[.int .i64 cap, .int .i64 left, .slice af n cf] 33 (0, 0))), (w.heap.size + 1, (.cells #[.string x.1, .slice ab nb cb, .slice ap np cp] 59 (0, 0))), (w.heap.size + 3, Obj.cells #[.int .i64 (off : Int), .slice a5 nd c5, .bool false] 96 (0, 0))], p.1 ≠ w.heap.size + 2 := fun p hp => by
      rcases List.mem_cons.1 hp with rfl | hp
      · show w.heap.size ≠ w.heap.size + 2; omega
      · rcases List.mem_cons.1 hp with rfl | hp
        · show w.heap.size + 1 ≠ w.heap.size + 2; omega
        · rw [List.mem_singleton.1 hp]; show w.heap.size + 3 ≠ w.heap.size + 2; omega
    refine held_one 8 rfl rfl (by kernel_rfl) fun K hK => ?_
    go_simp
    refine hK _ _ (S9.out.set3 (by omega) HNE) ?_
    clear hK K
    refine held_one 9 rfl rfl (by kernel_rfl) fun K hK => ?_
    go_simp
    refine hK _ _ (S9.out.set3 (by omega) HNE) ?_
    clear hK K HNE
    refine wpAnyH_done (by kernel_rfl) ?_ _
    unfold onlyN
    dsimp only
    clear y0 y1 y2 u0 u1 u2
    go_wp2
    refine pdisk_end rfl (set3c HY9.out) rfl ?_
    rw [HWD.out]
    exact ⟨⟨_, rfl, _, rfl, HR9.out, rd_move (fun b hb _ => set3_other (by omega)) (fun b hb _ => hb.elim Or.inl fun h => Or.inr (by omega)) SF9.out⟩, below_set3 S9.out.bel (by omega)⟩
end Go.Proofs.Ytpipgbjkkiheaaa.Gf
namespace Go.Proofs.Ytpipgbjkkiheaaa.Gf
open Go Go.Joins Go.ChangeShapes Go.WideShapes Go.ChangeAt Go.RowKit Go.Deep Go.Proofs.Ytpipgbjkkiheaaa.By Go.Proofs.Ytpipgbjkkiheaaa.Qt

def appendE (d : Dk) (s : ByteArray) (b : List Nat) : Nat := if atE d s = 0 then wEx d (fileAt d s) (contL (fileAt d s)).length b else atE d s
def appendD (d : Dk) (s : ByteArray) (b : List Nat) : Dk := if appendE d s b = 0 then wDx d (fileAt d s) (((contL (fileAt d s)).length : Int), b, false) else dk0
def putE (d : Dk) (s : ByteArray) (off : Int) (b : List Nat) : Nat := if atE d s = 0 then (if off < 0 ∨ ((contL (fileAt d s)).length : Int) < off then 2 else wEx d (fileAt d s) off.toNat b) else atE d s
def putD (d : Dk) (s : ByteArray) (off : Int) (b : List Nat) : Dk := if putE d s off b = 0 then wDx d (fileAt d s) (off, b, false) else dk0
def truncE (d : Dk) (s : ByteArray) (n : Int) : Nat := if atE d s = 0 then (if n < 0 ∨ ((contL (fileAt d s)).length : Int) < n then 2 else 0) else atE d s
def truncD (d : Dk) (s : ByteArray) (n : Int) : Dk := if truncE d s n = 0 then wDx d (fileAt d s) (n, [], true) else dk0
theorem rd_fb {B : Nat → Prop} {w : World} {s : ByteArray} {bv pv : Value} {x : Fl} (h : Rd B w tyF [.string s, bv, pv] x) : Rd B w (.sl .u8) [bv] x.2.1 := by
  obtain ⟨bv', pv', he, -, hb, -⟩ := rd_f h
  obtain ⟨-, rfl, -⟩ : s = x.1 ∧ bv = bv' ∧ pv = pv' := by simpa using he
  exact hb
theorem rd_fp {B : Nat → Prop} {w : World} {s : ByteArray} {bv pv : Value} {x : Fl} (h : Rd B w tyF [.string s, bv, pv] x) : Rd B w (.sl tyW) [pv] x.2.2 := by
  obtain ⟨bv', pv', he, -, -, hp⟩ := rd_f h
  obtain ⟨-, -, rfl⟩ : s = x.1 ∧ bv = bv' ∧ pv = pv' := by simpa using he
  exact hp
theorem dvb_ne {w w' : World} {v : Value} {d : Dk} (h : DvB (fun b => b < w.heap.size) w v d) (hB : Below w.heap.size w w') : DvB (fun b => b ≠ w.heap.size + 1) w' v d := by
  obtain ⟨fv, h1, h2, h3⟩ := h
  exact ⟨fv, h1, h2, rd_mono (rd_below h3 hB) fun b hb _ => by omega⟩
set_option maxRecDepth 100000 in
set_option maxHeartbeats 12800000 in
theorem pappend_any (v : Value) (d : Dk) (s : ByteArray) (dv : Value) (b : List Nat) (w : World) (sd : Sl w dv b) (hbl : b.length ≤ 1099511627776) (hs : s.size ≤ maxLen) (k : Nat) (hv : Dv w v d) (hsm : SmD d) (hpn : PnD d k) (hk : k ≤ 89990) : Calls Try.prog 38 #[v, .string s, dv] w (DE (fun b => b < w.heap.size) w (appendD d s b) (appendE d s b)) := by
  obtain ⟨fv, rfl, hr, sf⟩ := hv
  have sfo : Rd (fun b => b < w.heap.size) w (.sl tyF) [fv] d.2.2 := rd_mono sf fun _ _ h => h
  have RO := Lib.hid (fun W (h : Below w.heap.size w W) => popen_any (B := fun b => b < w.heap.size) _ d s hs W ⟨fv, rfl, hr, rd_below sfo h⟩ hsm)
  have HOK := Lib.hid (fun h => open_ok (d := d) (s := s) h)
  have HPN := Lib.hid hpn
  have HVL := Lib.hid (fun (h : validB d = true) => And.intro (valid_srt h) (valid_parts h).2.2.1)
  have HCE := Lib.hid (show appendE d s b = if atE d s = 0 then wEx d (fileAt d s) (contL (fileAt d s)).length b else atE d s from rfl)
  have HDD := Lib.hid (show appendD d s b = if appendE d s b = 0 then wDx d (fileAt d s) (((contL (fileAt d s)).length : Int), b, false) else dk0 from rfl)
  have HHV : Hid (DvB (fun b => b < w.heap.size) w (.agg #[.int .i64 d.1, .int .i64 d.2.1, fv]) d) := Lib.hid ⟨fv, rfl, hr, sfo⟩
  have HSD := Lib.hid sd
  have HBL := Lib.hid hbl
  obtain ⟨ad, cd, rfl, -, -⟩ := sl_form sd
  have SF := Lib.hid sfo
  have HR := Lib.hid hr
  obtain ⟨af, cf, rfl, -, -⟩ := rd_sl sf
  generalize appendD d s b = DD at *
  generalize appendE d s b = CE at *
  obtain ⟨nd, hnd⟩ : ∃ z, z = b.length := ⟨_, rfl⟩
  rw [← hnd] at HSD ⊢
  clear hnd
  generalize openF d s = OF at *
  generalize fileAt d s = FA at *
  generalize atE d s = E at *
  generalize readyE d s = RE at *
  generalize atI d s = IE at *
  obtain ⟨cap, left, L⟩ := d
  dsimp only at RO HOK SF HR HVL HPN HHV ⊢
  have HPL : Hid (∀ f ∈ L, f.2.2.length ≤ k) := Lib.hid HPN.out
  obtain ⟨n, hn⟩ : ∃ z, z = L.length := ⟨_, rfl⟩
  rw [← hn] at SF RO HVL HHV ⊢
  have HN := Lib.hid hn
  have A1 := bel_al0 w (.cells #[.int .i64 cap, .int .i64 left, .slice af n cf] 33)
  have BX := Lib.hid (btA A1 (bel_al0 _ (.cells #[.int .i64 0, .int .i64 0, .slice none 0 0] 33)))
  have HX := Lib.hid (show ((w.alloc (.cells #[.int .i64 cap, .int .i64 left, .slice af n cf] 33)).alloc (.cells #[.int .i64 0, .int .i64 0, .slice none 0 0] 33)).heap[w.heap.size]? = some (.cells #[.int .i64 cap, .int .i64 left, .slice af n cf] 33 (0, 0)) from (al_old (by simp)).trans (heap_alloc_new w _))
  have HY := Lib.hid (heap_alloc2_new w (.cells #[.int .i64 cap, .int .i64 left, .slice af n cf] 33) (.cells #[.int .i64 0, .int .i64 0, .slice none 0 0] 33))
  clear sf sfo hr hsm A1 hpn HPN hn
  go_enter Try.func38, Try.ntmps38
  go_upto_region 1 with fail
  generalize ((w.alloc (.cells #[.int .i64 cap, .int .i64 left, .slice af n cf] 33)).alloc (.cells #[.int .i64 0, .int .i64 0, .slice none 0 0] 33)) = W1 at *
  obtain ⟨x0, x1, x2⟩ := box3c HX.out
  go_wp2_with fail
  refine (RO.out _ BX.out).mono ?_
  rintro e w2 ⟨⟨bv, pv, rfl, hrd⟩, hb2⟩
  have B2 := Lib.hid (btA BX.out hb2)
  have HX2 := Lib.hid ((hb2.block _ (lt_of_some0 HX.out)).trans HX.out)
  have HY2 := Lib.hid ((hb2.block _ (lt_of_some0 HY.out)).trans HY.out)
  obtain ⟨bv', pv', he, hsz, hb, hp⟩ := rd_f hrd
  obtain ⟨rfl, rfl⟩ : bv = bv' ∧ pv = pv' := by simpa using he
  obtain ⟨ab, cb, rfl, -, -⟩ := rd_sl hb
  obtain ⟨ap, cp, rfl, -, -⟩ := rd_sl hp
  have BA1 := Lib.hid (bel_al0 w2 (.cells #[.string OF.1, .slice ab OF.2.1.length cb, .slice ap OF.2.2.length cp] 59))
  have HZ := Lib.hid (heap_alloc_new w2 (.cells #[.string OF.1, .slice ab OF.2.1.length cb, .slice ap OF.2.2.length cp] 59))
  have RF := Lib.hid (rd_mono (C := fun b => b ≠ w.heap.size + 1) (rd_below hrd BA1.out) fun b hb _ => by have h1 := hb.1; omega)
  have RFO := Lib.hid (rd_mono (C := fun b => b < w.heap.size) (rd_below hrd BA1.out) fun b hb _ => hb.1)
  have B3 := Lib.hid (btA B2.out BA1.out)
  have HX3 := Lib.hid ((BA1.out.block _ (lt_of_some0 HX2.out)).trans HX2.out)
  have HY3 := Lib.hid ((BA1.out.block _ (lt_of_some0 HY2.out)).trans HY2.out)
  have HFZ := Lib.hid (lt_of_some0 HY2.out)
  clear hb2 hrd he hsz hb hp x0 x1 x2 RO HX HY HX2 HY2 BX BA1 B2
  generalize OF.2.1.length = nb at *
  generalize OF.2.2.length = np at *
  go_upto_region 2 with fail
  generalize w2.alloc (.cells #[.string OF.1, .slice ab nb cb, .slice ap np cp] 59) = W3 at *
  generalize w2.heap.size = fz at *
  have SF3 := Lib.hid (rd_mono (C := fun b => b ≠ w.heap.size + 1) (rd_below SF.out B3.out) fun b hb _ => by omega)
  by_cases h0 : E = 0
  · subst h0
    obtain ⟨rfl, hmem, hf, hnm, hvv, -⟩ := HOK.out rfl
    have HVV := Lib.hid hvv
    rw [if_pos rfl] at HCE
    have PLN := Lib.hid (fun W (h : Below W3.heap.size W3 W) => plength_any OF.1 (.slice ab nb cb) (.slice ap np cp) OF.2.1 OF.2.2 W (sl_below (rd8_sl (rd_fb RF.out)) h) (rd_mono (rd_below (rd_fp RF.out) h) fun _ _ _ => trivial) hf)
    rw [show (OF.1, OF.2.1, OF.2.2) = OF from rfl] at PLN
    have HLN : Hid (OF.2.2.length ≤ 89990) := Lib.hid (Nat.le_trans (HPL.out _ hmem) hk)
    have PWR := Lib.hid (fun (old : Nat) (ho : old = (contL OF).length) W (h : Below W3.heap.size W3 W) => pwrite_any (B := fun b => b ≠ w.heap.size + 1) _ (cap, left, L) OF _ _ _ old b W (dvb_ne HHV.out (btA B3.out h)) (rd_below RF.out h) (sl_below HSD.out (btA B3.out h)) HVV.out hf HLN.out (by have := contL_le OF; omega) HBL.out)
    obtain ⟨old, hold⟩ : ∃ z, z = (contL OF).length := ⟨_, rfl⟩
    rw [← hold] at PLN HCE HDD
    have PW2 := Lib.hid (PWR.out old hold)
    rw [← HCE.out, ← HDD.out] at PW2
    clear HCE HDD HOK HVL hmem hf hnm PWR hold
    go_upto_region 4 with fail
    have S0 : SBx w [(w.heap.size, (.cells #[.int .i64 cap, .int .i64 left, .slice af n cf] 33 (0, 0))), (fz, (.cells #[.string OF.1, .slice ab nb cb, .slice ap np cp] 59 (0, 0)))] W3.drew := ⟨B3.out.drew, fun p hp => by
      rcases List.mem_cons.1 hp with rfl | hp
      · exact HX3.out
      · rw [List.mem_singleton.1 hp]; exact HZ.out⟩
    refine wp_onlyN ?_
    refine wp_region_headsS (SBx w [(w.heap.size, (.cells #[.int .i64 cap, .int .i64 left, .slice af n cf] 33 (0, 0))), (fz, (.cells #[.string OF.1, .slice ab nb cb, .slice ap np cp] 59 (0, 0)))]) [0, 1, 2, 4] 6 (by kernel_rfl) (fun _ _ _ _ _ h => h.elim) (by kernel_rfl) (by rfl) (by rfl) S0 ?_
    simp only [pickOps, List.filterMap_cons, List.filterMap_nil, List.getElem?_toArray, List.getElem?_cons_zero, List.getElem?_cons_succ]
    refine wpHeads_step (fun K hK => ?_)
    go_simp
    refine ⟨.agg #[.int .i64 cap, .int .i64 left, .slice af n cf], fun w' hw' => by
      obtain ⟨q0, q1, q2⟩ := box3c (hw'.box _ (List.mem_cons_self ..))
      simp [q0, q1, q2], hK _ ?_⟩
    clear hK K
    refine wpHeads_step (fun K hK => ?_)
    go_simp
    refine ⟨.agg #[.string OF.1, .slice ab nb cb, .slice ap np cp], fun w' hw' => by
      obtain ⟨q0, q1, q2⟩ := box3c (hw'.box _ (List.mem_cons_of_mem _ (List.mem_cons_self ..)))
      simp [q0, q1, q2], hK _ ?_⟩
    clear hK K
    refine wpHeads_step (fun K hK => ?_)
    go_simp
    refine ⟨.agg #[.string OF.1, .slice ab nb cb, .slice ap np cp], fun w' hw' => by
      obtain ⟨q0, q1, q2⟩ := box3c (hw'.box _ (List.mem_cons_of_mem _ (List.mem_cons_self ..)))
      simp [q0, q1, q2], hK _ ?_⟩
    clear hK K
    refine wpHeads_step (fun K hK => ?_)
    go_simp
    refine ⟨_, fun _ _ => rfl, hK _ ?_⟩
    clear hK K
    refine wpHeads_nil ?_
    have SD := Lib.hid S0
    have HYD : Hid (W3.drew.heap[w.heap.size + 1]? = some (.cells #[.int .i64 0, .int .i64 0, .slice none 0 0] 33 (0, 0))) := Lib.hid HY3.out
    have BD := Lib.hid (show Below W3.heap.size W3 W3.drew from (Below.refl _ _).drew)
    have SZ3 := Lib.hid (lt_of_some0 HY3.out)
    generalize W3.drew = WD at *
    clear S0
    refine held_one 3 rfl rfl (by kernel_rfl) fun K hK => ?_
    go_simp
    go_at_call 50
    refine (PLN.out _ BD.out).mono ?_
    rintro e w5 ⟨rfl, hb5⟩
    refine hK _ _ (SD.out.below hb5) ?_
    clear hK K
    have S5 := Lib.hid (SD.out.below hb5)
    have HY5 := Lib.hid ((hb5.block _ (lt_of_some0 HYD.out)).trans HYD.out)
    have BD5 := Lib.hid (btA BD.out hb5)
    clear hb5 SD HYD
    refine held_one 5 rfl rfl (by kernel_rfl) fun K hK => ?_
    go_simp
    go_at_call 65
    refine (PW2.out _ BD5.out).mono ?_
    rintro e w7 ⟨⟨v7, rfl, hv7⟩, hb7⟩
    refine hK _ _ (S5.out.below hb7) ?_
    clear hK K
    have S7 := Lib.hid (S5.out.below hb7)
    have HY7 := Lib.hid ((hb7.block _ (lt_of_some0 HY5.out)).trans HY5.out)
    obtain ⟨fv7, rfl, hr7, sf7⟩ := hv7
    have HR7 := Lib.hid hr7
    have SF7 := Lib.hid (rd_mono (C := fun b => b ≠ w.heap.size + 1) sf7 fun b hb _ => by
      rcases hb with hb | hb
      · exact hb.1
      · have h1 := lt_of_some0 HY5.out; omega)
    obtain ⟨a7, c7, rfl, -, -⟩ := rd_sl sf7
    obtain ⟨n7, hn7⟩ : ∃ z, z = DD.2.2.length := ⟨_, rfl⟩
    rw [← hn7] at SF7 ⊢
    clear hr7 sf7 hb7 S5 HY5 hn7
    refine wpAnyH_take (i := 6) (v := .agg #[.int .i64 DD.1, .int .i64 DD.2.1, .slice a7 n7 c7]) rfl (by kernel_rfl) (by kernel_rfl) (by kernel_rfl) (fun _ _ _ h => h) (Or.inl ⟨by kernel_rfl, fun w _ => by go_simp⟩) S7.out ?_
    refine wpAnyH_take (i := 7) (v := .int .i64 (CE : Int)) rfl (by kernel_rfl) (by kernel_rfl) (by kernel_rfl) (fun _ _ _ h => h) (Or.inl ⟨by kernel_rfl, fun w _ => by go_simp⟩) S7.out ?_
    obtain ⟨y0, y1, y2⟩ := box3c HY7.out
    have u0 := frozen_of_row w7 (w.heap.size + 1) 0 _ _ HY7.out
    have u1 := frozen_of_row w7 (w.heap.size + 1) 1 _ _ HY7.out
    have u2 := frozen_of_row w7 (w.heap.size + 1) 2 _ _ HY7.out
    refine held_one 8 rfl rfl (by kernel_rfl) fun K hK => ?_
    go_simp
    refine hK _ _ (S7.out.set3 (by omega) (fun p hp => by
      rcases List.mem_cons.1 hp with rfl | hp
      · show w.heap.size ≠ w.heap.size + 1; omega
      · rw [List.mem_singleton.1 hp]; show fz ≠ w.heap.size + 1; have := HFZ.out; omega)) ?_
    clear hK K
    refine held_one 9 rfl rfl (by kernel_rfl) fun K hK => ?_
    go_simp
    refine hK _ _ (S7.out.set3 (by omega) (fun p hp => by
      rcases List.mem_cons.1 hp with rfl | hp
      · show w.heap.size ≠ w.heap.size + 1; omega
      · rw [List.mem_singleton.1 hp]; show fz ≠ w.heap.size + 1; have := HFZ.out; omega)) ?_
    clear hK K
    refine wpAnyH_done (by kernel_rfl) ?_ _
    unfold onlyN
    dsimp only
    clear y0 y1 y2 u0 u1 u2
    go_wp2
    refine pdisk_end rfl (set3c HY7.out) rfl ?_
    exact ⟨⟨_, rfl, _, rfl, HR7.out, rd_move (fun b hb _ => set3_other hb) (fun b _ _ => by by_cases c : b < w.heap.size; exact Or.inl c; exact Or.inr (by omega)) SF7.out⟩, below_set3 S7.out.bel (by omega)⟩
  · rw [if_neg h0] at HCE
    have HDZ : Hid (DD = dk0) := Lib.hid (by rw [HDD.out, if_neg (by rw [HCE.out]; exact h0)])
    have e1 : ((E : Int) != 0) = true := by rw [bne_iff_ne]; omega
    clear h0 HDD HOK HVL
    obtain ⟨y0, y1, y2⟩ := box3c HY3.out
    have u0 := frozen_of_row W3 (w.heap.size + 1) 0 _ _ HY3.out
    have u1 := frozen_of_row W3 (w.heap.size + 1) 1 _ _ HY3.out
    have u2 := frozen_of_row W3 (w.heap.size + 1) 2 _ _ HY3.out
    go_wp2
    refine pdisk_end rfl (set3c HY3.out) rfl ?_
    rw [HDZ.out, HCE.out]
    exact de_zero (below_set3 B3.out (by omega))
end Go.Proofs.Ytpipgbjkkiheaaa.Gf
