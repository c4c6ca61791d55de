/- What is proved here: the law DiskCapacity answers true. No condition but the range of its argument. -/
import Derived.Test.YtpjkgbngiifkmaaMO10
import Derived.Test.YtpjkgbngiifkmaaO10
import Derived.Test.YtpjkgbngiifkmaaP10z
namespace Go.Proofs.Ytpjkgbngiifkmaa.Gf
open Go Go.Joins Go.ChangeShapes Go.WideShapes Go.ChangeAt Go.RowKit Go.Deep Go.Proofs.Ytpjkgbngiifkmaa.By Go.Proofs.Ytpjkgbngiifkmaa.Qt

theorem dv_cap {W : World} {cap k : Nat} {d : Dk} {a : Option Addr} {c : Nat} (h : CapOk cap d k) (hc : cap ≤ 256) (hr : Rd (fun _ => True) W (.sl tyF) [.slice a d.2.2.length c] d.2.2) : Dv W (.agg #[.int .i64 (cap : Int), .int .i64 (-1), .slice a d.2.2.length c]) d := ⟨_, by rw [h.lim, h.left], ⟨by rw [h.lim]; omega, by rw [h.left]; decide⟩, hr⟩
theorem cap_new (cap : Nat) : CapOk cap (newD (cap : Int)) 0 := ⟨by
  unfold validB newD
  simp only [Bool.and_eq_true, decide_eq_true_eq]
  refine ⟨⟨⟨by omega, by decide⟩, by show 0 ≤ 256; decide⟩, fun i hi => ?_⟩
  simp at hi, by show max 0 (cap : Int) = _; omega, rfl, Nat.zero_le _, fun f hf => by cases hf⟩
theorem capOk_up {cap k : Nat} {d : Dk} (h : CapOk cap d k) : CapOk cap d (k + 1) := ⟨h.val, h.lim, h.left, h.tot, pn_up h.pn⟩
theorem totN_take_le (L : List Fl) (j : Nat) : totN (L.take j) ≤ totN L := by
  have hs : ∀ A B : List Fl, totN (A ++ B) = totN A + totN B := fun A B => by simp [totN]
  conv => rhs; rw [← List.take_append_drop j L, hs]
  omega
theorem totN_snoc {L : List Fl} {j : Nat} {f : Fl} (h : L[j]? = some f) : totN (L.take (j + 1)) = totN (L.take j) + (contL f).length := by
  rw [List.take_add_one, h]
  simp [totN]
set_option maxRecDepth 100000 in
set_option maxHeartbeats 12800000 in
theorem capacity_any (x : Nat) (hx : x < 256) (vl : Value) (L : List Opn) (w : World) (sl : Rd (fun _ => True) w (.sl tyOp) [vl] L) : Calls Try.prog 12 #[.int .u8 (x : Int), vl] w fun e w' => e = .returned (.bool true) ∧ Below w.heap.size w w' := by
  have hb0 := Lib.hid (Below.refl w.heap.size w)
  obtain ⟨al, cl, rfl, -, -⟩ := rd_sl sl
  obtain ⟨nl, hnl⟩ : ∃ z, z = L.length := ⟨_, rfl⟩
  rw [← hnl] at sl ⊢
  have SLL := Lib.hid sl
  have HL := Lib.hid hnl
  obtain ⟨cap, hcap⟩ : ∃ z, z = x + 1 := ⟨_, rfl⟩
  have HCP := Lib.hid (show 0 < cap ∧ cap ≤ 256 by omega)
  have hw1 : IntKind.i64.wrap (x : Int) = (x : Int) := IntWalk.i64_in _ (by omega)
  have hw2 : IntKind.i64.wrap ((x : Int) + 1) = (cap : Int) := by rw [IntWalk.i64_in _ (by omega)]; omega
  have HW := Lib.hid (And.intro hw1 hw2)
  clear sl hnl hcap hx
  go_enter Try.func12, Try.ntmps12
  go_wp2_with fail
  refine (pnew_any (cap : Int) (by have := HCP.out; omega) (fun _ => False) _).mono ?_
  rintro e w1 ⟨⟨v1, rfl, hv1⟩, hb1⟩
  obtain ⟨a1, c1, rfl, r1⟩ := dv_form hv1
  have R1 := Lib.hid (show Rd (fun _ => True) w1 (.sl tyF) [.slice a1 (newD (cap : Int)).2.2.length c1] (newD (cap : Int)).2.2 from r1)
  have B1 := Lib.hid hb1
  have HN0 := Lib.hid (cap_new cap)
  rw [HN0.out.lim, HN0.out.left]
  obtain ⟨d0, hd0⟩ : ∃ z, z = newD (cap : Int) := ⟨_, rfl⟩
  rw [← hd0] at R1 HN0 ⊢
  clear hd0 hv1 hb1 r1 hb0 hw1 hw2
  obtain ⟨n1, hn1⟩ : ∃ z, z = d0.2.2.length := ⟨_, rfl⟩
  rw [← hn1] at R1 ⊢
  have HN1 := Lib.hid hn1
  clear hn1
  go_upto_region 2 with fail
  have q2 := bel_al0 w1 (.cells #[.int .i64 (cap : Int), .int .i64 (-1), .slice a1 n1 c1] 33)
  have HX2 := Lib.hid (heap_alloc_new w1 (.cells #[.int .i64 (cap : Int), .int .i64 (-1), .slice a1 n1 c1] 33))
  have R2 := Lib.hid (rd_below R1.out q2)
  have B2 := Lib.hid (btA B1.out q2)
  have HG := Lib.hid (show w.heap.size ≤ w1.heap.size from B1.out.size)
  clear q2 R1 B1
  generalize w1.alloc (.cells #[.int .i64 (cap : Int), .int .i64 (-1), .slice a1 n1 c1] 33) = w2 at *
  generalize w1.heap.size = g at *
  go_wp2_with fail
  go_loopw [6] (fun t6 wr => ∃ i : Nat, i ≤ 16 ∧ t6 = .int .i64 (i : Int) ∧ Hid (∃ (d : Dk) (a : Option Addr) (c : Nat), wr.heap[g]? = some (.cells #[.int .i64 (cap : Int), .int .i64 (-1), .slice a d.2.2.length c] 33 (0, 0)) ∧ Rd (fun _ => True) wr (.sl tyF) [.slice a d.2.2.length c] d.2.2 ∧ CapOk cap d i) ∧ Hid (Below w.heap.size w wr)) (fun t _ => 16 - (intOf t).toNat)
  case atStart => exact ⟨0, by omega, rfl, Lib.hid ⟨d0, a1, c1, by rw [← HN1.out]; exact HX2.out, by rw [← HN1.out]; exact R2.out, HN0.out⟩, B2⟩
  case round =>
    clear HX2 R2 B2 HN0 HN1
    obtain ⟨i, hi, rfl, HB, BB⟩ := hrel
    obtain ⟨d, a, c, hx, hr, hcok⟩ := HB.out
    obtain ⟨n, hn⟩ : ∃ z, z = d.2.2.length := ⟨_, rfl⟩
    rw [← hn] at hx hr
    have HX := Lib.hid hx
    have R := Lib.hid hr
    have CK := Lib.hid hcok
    have HN := Lib.hid hn
    clear hx hr hcok hn HB
    have e3 : IntKind.i64.wrap ((i : Int) + 1) = ((i + 1 : Nat) : Int) := by rw [IntWalk.i64_in _ (by omega)]; omega
    have E3 := Lib.hid e3
    clear e3
    by_cases hlt : i < nl
    case neg =>
      have l1 : decide ((i : Int) < (nl : Int)) = false := decide_eq_false (by omega)
      have l2 : decide (i < nl) = false := decide_eq_false hlt
      go_wp2_with fail
      refine (awake10_any _).mono ?_
      rintro e w9 ⟨rfl, hb9⟩
      have B9 := Lib.hid (btA BB.out hb9)
      clear hb9
      go_wp2
      go_ret
      exact ⟨rfl, B9.out⟩
    have l1 : decide ((i : Int) < (nl : Int)) = true := decide_eq_true (by omega)
    have l2 : decide (i < nl) = true := decide_eq_true hlt
    by_cases h16 : i < 16
    case neg =>
      have l3 : decide ((i : Int) < 16) = false := decide_eq_false (by omega)
      have l4 : decide (i < 16) = false := decide_eq_false h16
      go_wp2_with fail
      refine (awake10_any _).mono ?_
      rintro e w9 ⟨rfl, hb9⟩
      have B9 := Lib.hid (btA BB.out hb9)
      clear hb9
      go_wp2
      go_ret
      exact ⟨rfl, B9.out⟩
    have l3 : decide ((i : Int) < 16) = true := decide_eq_true (by omega)
    have l4 : decide (i < 16) = true := decide_eq_true h16
    have p0 : (0 : Int) ≤ (i : Int) := by omega
    have p1 : (i : Int) < (nl : Int) := by omega
    obtain ⟨b1, o1, cc, hv, -, -, -, hc⟩ := rd_cells (rd_below SLL.out BB.out) (by have := HL.out; omega)
    obtain ⟨rfl, -, -⟩ : al = some ⟨b1, o1, none⟩ ∧ nl = L.length ∧ cl = cc := by simpa using hv
    obtain ⟨xo, hxo⟩ : ∃ z, L[i]? = some z := ⟨_, List.getElem?_eq_getElem (by have := HL.out; omega)⟩
    obtain ⟨cs, hrd, hk⟩ := hc i xo hxo
    obtain ⟨dv, kv, rfl, hkd, hnm, hto, hoff, hda, hke⟩ := rd_op hrd
    obtain ⟨kd, nm, to, off, da, ke⟩ := xo
    dsimp only at hk hkd hnm hto hoff hda hke
    obtain ⟨ad, cd, rfl, hcd, -⟩ := rd_sl hda
    obtain ⟨ak, ck, rfl, hck, -⟩ := rd_sl hke
    have k0 := hk 0 (by decide)
    have k1 := hk 1 (by decide)
    have k2 := hk 2 (by decide)
    have k3 := hk 3 (by decide)
    have k4 := hk 4 (by decide)
    have k5 := hk 5 (by decide)
    rw [show o1 + (i * tyOp.n + 0) = o1 + i * 6 by show o1 + (i * 6 + 0) = _; omega] at k0
    rw [show o1 + (i * tyOp.n + 1) = o1 + i * 6 + 1 by show o1 + (i * 6 + 1) = _; omega] at k1
    rw [show o1 + (i * tyOp.n + 2) = o1 + i * 6 + 2 by show o1 + (i * 6 + 2) = _; omega] at k2
    rw [show o1 + (i * tyOp.n + 3) = o1 + i * 6 + 3 by show o1 + (i * 6 + 3) = _; omega] at k3
    rw [show o1 + (i * tyOp.n + 4) = o1 + i * 6 + 4 by show o1 + (i * 6 + 4) = _; omega] at k4
    rw [show o1 + (i * tyOp.n + 5) = o1 + i * 6 + 5 by show o1 + (i * 6 + 5) = _; omega] at k5
    change wr.cell? ⟨b1, o1 + i * 6, none⟩ = some _ at k0
    change wr.cell? ⟨b1, o1 + i * 6 + 1, none⟩ = some _ at k1
    change wr.cell? ⟨b1, o1 + i * 6 + 2, none⟩ = some _ at k2
    change wr.cell? ⟨b1, o1 + i * 6 + 3, none⟩ = some _ at k3
    change wr.cell? ⟨b1, o1 + i * 6 + 4, none⟩ = some _ at k4
    change wr.cell? ⟨b1, o1 + i * 6 + 5, none⟩ = some _ at k5
    have SDA := Lib.hid (rd8_sl hda)
    obtain ⟨nd, hnd⟩ : ∃ z, z = da.length := ⟨_, rfl⟩
    rw [← hnd] at k4 SDA hcd
    generalize ke.length = nk at *
    have CUT := Lib.hid (fun W => cut10_any kd nm to off ad ak nd cd nk ck hcd hck W)
    obtain ⟨md, hmd⟩ : ∃ z, z = min nd 200 := ⟨_, rfl⟩
    obtain ⟨mk, hmk⟩ : ∃ z, z = min nk 10 := ⟨_, rfl⟩
    rw [← hmd, ← hmk] at CUT
    have HMD := Lib.hid (show (da.take 200).length = md ∧ md ≤ nd ∧ nd = da.length ∧ md ≤ 200 by rw [List.length_take]; omega)
    have HKR := Lib.hid (And.intro hkd (And.intro hnm (And.intro hto hoff)))
    clear hv hc hk hrd hxo hda hke hnd hmd hmk hkd hnm hto hoff hcd hck
    obtain ⟨x0, x1, x2⟩ := box3c HX.out
    go_upto_region 5 with fail
    go_wp2_with fail
    refine (CUT.out _).mono ?_
    rintro e w3 ⟨rfl, hb3⟩
    clear k0 k1 k2 k3 k4 k5 x0 x1 x2 CUT
    have q4 := btA hb3 (bel_al0 w3 (.cells #[.int .i64 kd, .string nm, .string to, .int .i64 off, .slice ad md cd, .slice ak mk ck] 67))
    have HO4 := Lib.hid (heap_alloc_new w3 (.cells #[.int .i64 kd, .string nm, .string to, .int .i64 off, .slice ad md cd, .slice ak mk ck] 67))
    have HX4 := Lib.hid ((q4.block _ (lt_of_some0 HX.out)).trans HX.out)
    have R4 := Lib.hid (rd_below R.out q4)
    have SD4 := Lib.hid (sl_below (sl_below SDA.out hb3) (bel_al0 w3 (.cells #[.int .i64 kd, .string nm, .string to, .int .i64 off, .slice ad md cd, .slice ak mk ck] 67)))
    have B4 := Lib.hid (btA BB.out q4)
    clear q4 hb3 HX R SDA BB
    go_upto_region 6 with fail
    generalize w3.alloc (.cells #[.int .i64 kd, .string nm, .string to, .int .i64 off, .slice ad md cd, .slice ak mk ck] 67) = w4 at *
    generalize w3.heap.size = q at *
    have hrm : -10 < Int.tmod kd 10 ∧ Int.tmod kd 10 < 10 := by
      rcases Int.le_total 0 kd with h | h
      · rw [Int.tmod_eq_emod_of_nonneg h]; omega
      · have h2 : Int.tmod kd 10 = -Int.tmod (-kd) 10 := by rw [Int.neg_tmod]; omega
        rw [h2, Int.tmod_eq_emod_of_nonneg (by omega)]
        omega
    have hm : IntKind.i64.wrap (Int.tmod kd 10 + 10) = Int.tmod kd 10 + 10 := IntWalk.i64_in _ (by omega)
    obtain ⟨kk, hkk⟩ : ∃ kk : Nat, Int.tmod (Int.tmod kd 10 + 10) 10 = (kk : Int) := ⟨(Int.tmod (Int.tmod kd 10 + 10) 10).toNat, by rw [Int.tmod_eq_emod_of_nonneg (by omega)]; omega⟩
    have HK := Lib.hid (And.intro hm hkk)
    clear hrm
    obtain ⟨o0, o1, o2, o3, o4, o5⟩ := box6c HO4.out
    go_upto_region 7 with fail
    clear hm hkk o0 o1 o2 o3 o4 o5
    by_cases h7 : 7 < kk
    case pos =>
      have m1 : decide ((7 : Int) < (kk : Int)) = true := decide_eq_true (by omega)
      have m2 : decide (7 < kk) = true := decide_eq_true h7
      have e3 := E3.out
      go_wp2
      go_roundw
      case rel => exact ⟨i + 1, by omega, by go_num, Lib.hid ⟨d, a, c, by rw [← HN.out]; exact HX4.out, by rw [← HN.out]; exact R4.out, capOk_up CK.out⟩, B4⟩
      case measure => simp [intOf]; omega
    have m1 : decide ((7 : Int) < (kk : Int)) = false := decide_eq_false (by omega)
    have m2 : decide (7 < kk) = false := decide_eq_false h7
    have DV := Lib.hid (fun W (h : Below w4.heap.size w4 W) => show Dv W (.agg #[.int .i64 (cap : Int), .int .i64 (-1), .slice a n c]) d from by
      have h1 := rd_below R4.out h
      rw [HN.out] at h1 ⊢
      exact dv_cap CK.out HCP.out.2 h1)
    have SMD := Lib.hid (valid_sm CK.out.val)
    obtain ⟨x0, x1, x2⟩ := box3c HX4.out
    go_upto_region 9 with fail
    go_wp2_with fail
    refine (pnames_any _ d _ (DV.out _ (Below.refl _ _)) SMD.out).mono ?_
    rintro e w5 ⟨⟨v5, rfl, ho5⟩, hb5⟩
    have HNL := Lib.hid (show namesL d = d.2.2.map (·.1) by unfold namesL; rw [if_pos CK.out.val])
    rw [HNL.out] at ho5
    have RN := Lib.hid (og_rd (B := fun _ => True) ho5 fun _ _ => trivial)
    obtain ⟨a5, c5, rfl, -, -⟩ := og_form ho5
    have hln : (d.2.2.map (·.1)).length = n := by rw [List.length_map, HN.out]
    rw [hln] at RN ⊢
    have B5 := Lib.hid hb5
    clear ho5 hb5 hln x0 x1 x2
    go_wp2_with fail
    go_loopw [9, 46] (fun t9 t46 wl => ∃ j : Nat, j ≤ n ∧ t46 = .int .i64 (j : Int) ∧ t9 = .int .i64 ((totN (d.2.2.take j) : Nat) : Int) ∧ Hid (Below w5.heap.size w5 wl)) (fun _ t _ => n - (intOf t).toNat)
    case atStart => exact ⟨0, by omega, rfl, rfl, Lib.hid (Below.refl _ _)⟩
    case round =>
      obtain ⟨j, hj, rfl, rfl, HBL⟩ := hrel
      have BL := Lib.hid (btA B5.out HBL.out)
      have HXL := Lib.hid ((BL.out.block _ (lt_of_some0 HX4.out)).trans HX4.out)
      have HOL := Lib.hid ((BL.out.block _ (lt_of_some0 HO4.out)).trans HO4.out)
      by_cases hjn : j < n
      · have j1 : decide ((j : Int) < (n : Int)) = true := decide_eq_true (by omega)
        have j2 : decide (j < n) = true := decide_eq_true hjn
        have j3 : (0 : Int) ≤ (j : Int) := by omega
        have j4 : (j : Int) < (n : Int) := by omega
        obtain ⟨fj, hfj⟩ : ∃ z, d.2.2[j]? = some z := ⟨_, List.getElem?_eq_getElem (by have := HN.out; omega)⟩
        obtain ⟨b2, o2, c2, hv2, -, -, -, hc2⟩ := rd_cells (rd_below RN.out HBL.out) (by rw [List.length_map]; have := HN.out; omega)
        obtain ⟨rfl, -⟩ : a5 = some ⟨b2, o2, none⟩ ∧ (n = (d.2.2.map (·.1)).length ∧ c5 = c2) := by simpa using hv2
        obtain ⟨cs2, hrd2, hk2⟩ := hc2 j fj.1 (by rw [List.getElem?_map, hfj]; rfl)
        obtain ⟨hsz2, rfl⟩ : fj.1.size ≤ maxLen ∧ cs2 = [.string fj.1] := hrd2
        have k0 := hk2 0 (by decide)
        rw [show o2 + (j * Ty.s.n + 0) = o2 + j by show o2 + (j * 1 + 0) = _; omega] at k0
        simp only [List.getElem?_cons_zero] at k0
        have hmem : fj ∈ d.2.2 := List.mem_of_getElem? hfj
        have PSZ := Lib.hid (psize_any _ d fj.1 hsz2 _ (DV.out _ BL.out) SMD.out)
        rw [size_mem CK.out.val (by rw [CK.out.left]; decide) hmem, (at_mem CK.out.val (by rw [CK.out.left]; decide) hmem).1] at PSZ
        have HTS := Lib.hid (totN_snoc hfj)
        have hle : totN (d.2.2.take (j + 1)) ≤ 256 := Nat.le_trans (totN_take_le _ _) (Nat.le_trans CK.out.tot HCP.out.2)
        obtain ⟨s1, hs1⟩ : ∃ z, z = totN (d.2.2.take j) := ⟨_, rfl⟩
        obtain ⟨s2, hs2⟩ : ∃ z, z = totN (d.2.2.take (j + 1)) := ⟨_, rfl⟩
        rw [← hs1, ← hs2] at HTS
        rw [← hs2] at hle
        rw [← hs1]
        have ew : IntKind.i64.wrap ((s1 : Int) + (((contL fj).length : Nat) : Int)) = (s2 : Int) := by rw [IntWalk.i64_in _ (by have := HTS.out; omega)]; have := HTS.out; omega
        have ej : IntKind.i64.wrap ((j : Int) + 1) = ((j + 1 : Nat) : Int) := by rw [IntWalk.i64_in _ (by have := HN.out; have := (valid_parts CK.out.val).2.2.1; omega)]; omega
        have HEW := Lib.hid (And.intro ew ej)
        have HS2 := Lib.hid hs2
        generalize (contL fj).length = lf at *
        obtain ⟨x0, x1, x2⟩ := box3c HXL.out
        clear hv2 hc2 hk2 hsz2 hfj hmem hle hs1 hs2 ew ej HTS
        go_upto_region 12 with fail
        go_wp2_with fail
        refine PSZ.out.mono ?_
        rintro e w6 ⟨rfl, hb6⟩
        have B6 := Lib.hid (btA HBL.out hb6)
        clear hb6 k0 x0 x1 x2 PSZ
        obtain ⟨ew, ej⟩ := HEW.out
        go_wp2
        go_roundw
        case rel => exact ⟨j + 1, by omega, by go_num, by rw [← HS2.out], B6⟩
        case measure => simp [intOf]; omega
      · obtain rfl : j = n := by omega
        have j1 : decide ((j : Int) < (j : Int)) = false := decide_eq_false (by omega)
        have HT := Lib.hid (show totN (d.2.2.take j) = totN d.2.2 by rw [List.take_of_length_le (by have := HN.out; omega)])
        rw [HT.out]
        obtain ⟨tt, htt⟩ : ∃ z, z = totN d.2.2 := ⟨_, rfl⟩
        rw [← htt]
        have HTT := Lib.hid htt
        have HTC := Lib.hid (show tt ≤ cap by rw [htt]; exact CK.out.tot)
        clear htt HT hjn
        obtain ⟨hw1, hw2⟩ := HW.out
        have s1 : decide ((cap : Int) < (tt : Int)) = false := decide_eq_false (by have := HTC.out; omega)
        have s2 : decide (cap < tt) = false := decide_eq_false (by have := HTC.out; omega)
        obtain ⟨x0, x1, x2⟩ := box3c HXL.out
        obtain ⟨o0, o1, o2, o3, o4, o5⟩ := box6c HOL.out
        go_upto_region 17 with fail
        go_wp2_with fail
        refine (change10_any _ d kd kk nm to off ad ak md cd mk ck (da.take 200) _ (DV.out _ BL.out) SMD.out i CK.out.pn (by omega) HKR.out.1 HK.out.2 (by omega) HKR.out.2.2.2 HKR.out.2.1 HKR.out.2.2.1 (by have := HMD.out; omega) (by
          have h := sl_take (n := md) (by have h := sl_below SD4.out BL.out; rw [HMD.out.2.2.1] at h; exact h) (by have := HMD.out; omega)
          have e : da.take md = da.take 200 := by
            have h1 := HMD.out.1
            rw [List.length_take] at h1
            rw [← h1]
            rcases Nat.le_total 200 da.length with h2 | h2
            · rw [Nat.min_eq_left h2]
            · rw [Nat.min_eq_right h2, List.take_length, List.take_of_length_le h2]
          rw [e] at h
          exact h)).mono ?_
        rintro e w7 ⟨⟨v7, rfl, hv7⟩, hb7⟩
        obtain ⟨a7, c7, rfl, r7⟩ := dv_form hv7
        have HNX := Lib.hid (fun he => capOk_next HCP.out.1 CK.out kk (by omega) nm to off (da.take 200) he)
        have HCE := Lib.hid (fun (h12 : kk = 1 ∨ kk = 2) => show (chE d kk nm to off (da.take 200) = 9 ↔ cap < tt + md ∧ chE d kk nm to off (da.take 200) ≠ 6 ∧ chE d kk nm to off (da.take 200) ≠ 1) from by
          have h := cap_err HCP.out.1 HCP.out.2 CK.out nm (b := da.take 200) (by have := HMD.out; omega)
          rw [HMD.out.1, ← HTT.out] at h
          rcases h12 with rfl | rfl <;> exact h)
        obtain ⟨DD, hdd⟩ : ∃ z, z = chD d kk nm to off (da.take 200) := ⟨_, rfl⟩
        obtain ⟨EE, hee⟩ : ∃ z, z = chE d kk nm to off (da.take 200) := ⟨_, rfl⟩
        rw [← hdd] at r7 HNX ⊢
        rw [← hee] at HNX HCE ⊢
        have R7 := Lib.hid r7
        obtain ⟨n7, hn7⟩ : ∃ z, z = DD.2.2.length := ⟨_, rfl⟩
        rw [← hn7] at R7 ⊢
        have HN7 := Lib.hid hn7
        obtain ⟨p7, hp7⟩ : ∃ z, z = DD.1 := ⟨_, rfl⟩
        obtain ⟨q7, hq7⟩ : ∃ z, z = DD.2.1 := ⟨_, rfl⟩
        rw [← hp7, ← hq7]
        have HPQ := Lib.hid (And.intro hp7 hq7)
        have q8 := btA hb7 (bel_al0 w7 (.cells #[.int .i64 p7, .int .i64 q7, .slice a7 n7 c7] 33))
        have HA8 := Lib.hid (heap_alloc_new w7 (.cells #[.int .i64 p7, .int .i64 q7, .slice a7 n7 c7] 33))
        have HX8 := Lib.hid ((q8.block _ (lt_of_some0 HXL.out)).trans HXL.out)
        have HO8 := Lib.hid ((q8.block _ (lt_of_some0 HOL.out)).trans HOL.out)
        have R8 := Lib.hid (rd_below R7.out (bel_al0 w7 (.cells #[.int .i64 p7, .int .i64 q7, .slice a7 n7 c7] 33)))
        have RO8 := Lib.hid (rd_below R4.out (btA BL.out q8))
        have B8 := Lib.hid (btA B4.out (btA BL.out q8))
        clear hv7 hb7 r7 q8 hdd hee hn7 hp7 hq7 HXL HOL BL HBL R7 x0 x1 x2 o0 o1 o2 o3 o4 o5 hw1 hw2 s1 s2
        go_upto_region 18 with fail
        generalize w7.alloc (.cells #[.int .i64 p7, .int .i64 q7, .slice a7 n7 c7] 33) = w8 at *
        generalize w7.heap.size = hh at *
        obtain ⟨o0, o1, o2, o3, o4, o5⟩ := box6c HO8.out
        obtain ⟨hm, hkk⟩ := HK.out
        go_upto_region 19 with fail
        clear hm hkk
        obtain ⟨hw1, hw2⟩ := HW.out
        have ew : IntKind.i64.wrap ((tt : Int) + (md : Int)) = ((tt + md : Nat) : Int) := by rw [IntWalk.i64_in _ (by have := HTC.out; have := HCP.out; have := HMD.out; omega)]; omega
        by_cases h12 : kk = 1 ∨ kk = 2
        · have hce := HCE.out h12
          by_cases h9 : EE = 9
          · have hcap := (hce.1 h9).1
            subst h9
            have g1 : decide ((cap : Int) < ((tt + md : Nat) : Int)) = true := decide_eq_true (by omega)
            have g2 : decide (cap < tt + md) = true := decide_eq_true hcap
            have g3 : decide ((cap : Int) < (tt : Int) + (md : Int)) = true := decide_eq_true (by omega)
            rcases h12 with rfl | rfl
            · have e3 := E3.out
              go_wp2
              go_roundw
              case rel => exact ⟨i + 1, by omega, by have := E3.out; go_num, Lib.hid ⟨d, a, c, by rw [← HN.out]; exact HX8.out, by rw [← HN.out]; exact RO8.out, capOk_up CK.out⟩, B8⟩
              case measure => simp [intOf]; omega
            · have e3 := E3.out
              go_wp2
              go_roundw
              case rel => exact ⟨i + 1, by omega, by have := E3.out; go_num, Lib.hid ⟨d, a, c, by rw [← HN.out]; exact HX8.out, by rw [← HN.out]; exact RO8.out, capOk_up CK.out⟩, B8⟩
              case measure => simp [intOf]; omega
          · by_cases h6 : EE = 6
            · subst h6
              by_cases hcap : cap < tt + md
              · have g1 : decide ((cap : Int) < ((tt + md : Nat) : Int)) = true := decide_eq_true (by omega)
                have g2 : decide (cap < tt + md) = true := decide_eq_true hcap
                have g3 : decide ((cap : Int) < (tt : Int) + (md : Int)) = true := decide_eq_true (by omega)
                rcases h12 with rfl | rfl
                · have e3 := E3.out
                  go_wp2
                  go_roundw
                  case rel => exact ⟨i + 1, by omega, by have := E3.out; go_num, Lib.hid ⟨d, a, c, by rw [← HN.out]; exact HX8.out, by rw [← HN.out]; exact RO8.out, capOk_up CK.out⟩, B8⟩
                  case measure => simp [intOf]; omega
                · have e3 := E3.out
                  go_wp2
                  go_roundw
                  case rel => exact ⟨i + 1, by omega, by have := E3.out; go_num, Lib.hid ⟨d, a, c, by rw [← HN.out]; exact HX8.out, by rw [← HN.out]; exact RO8.out, capOk_up CK.out⟩, B8⟩
                  case measure => simp [intOf]; omega
              · have g1 : decide ((cap : Int) < ((tt + md : Nat) : Int)) = false := decide_eq_false (by omega)
                have g2 : decide (cap < tt + md) = false := decide_eq_false hcap
                have g3 : decide ((cap : Int) < (tt : Int) + (md : Int)) = false := decide_eq_false (by omega)
                rcases h12 with rfl | rfl
                · have e3 := E3.out
                  go_wp2
                  go_roundw
                  case rel => exact ⟨i + 1, by omega, by have := E3.out; go_num, Lib.hid ⟨d, a, c, by rw [← HN.out]; exact HX8.out, by rw [← HN.out]; exact RO8.out, capOk_up CK.out⟩, B8⟩
                  case measure => simp [intOf]; omega
                · have e3 := E3.out
                  go_wp2
                  go_roundw
                  case rel => exact ⟨i + 1, by omega, by have := E3.out; go_num, Lib.hid ⟨d, a, c, by rw [← HN.out]; exact HX8.out, by rw [← HN.out]; exact RO8.out, capOk_up CK.out⟩, B8⟩
                  case measure => simp [intOf]; omega
            · by_cases h1e : EE = 1
              · subst h1e
                by_cases hcap : cap < tt + md
                · have g1 : decide ((cap : Int) < ((tt + md : Nat) : Int)) = true := decide_eq_true (by omega)
                  have g2 : decide (cap < tt + md) = true := decide_eq_true hcap
                  have g3 : decide ((cap : Int) < (tt : Int) + (md : Int)) = true := decide_eq_true (by omega)
                  rcases h12 with rfl | rfl
                  · have e3 := E3.out
                    go_wp2
                    go_roundw
                    case rel => exact ⟨i + 1, by omega, by have := E3.out; go_num, Lib.hid ⟨d, a, c, by rw [← HN.out]; exact HX8.out, by rw [← HN.out]; exact RO8.out, capOk_up CK.out⟩, B8⟩
                    case measure => simp [intOf]; omega
                  · have e3 := E3.out
                    go_wp2
                    go_roundw
                    case rel => exact ⟨i + 1, by omega, by have := E3.out; go_num, Lib.hid ⟨d, a, c, by rw [← HN.out]; exact HX8.out, by rw [← HN.out]; exact RO8.out, capOk_up CK.out⟩, B8⟩
                    case measure => simp [intOf]; omega
                · have g1 : decide ((cap : Int) < ((tt + md : Nat) : Int)) = false := decide_eq_false (by omega)
                  have g2 : decide (cap < tt + md) = false := decide_eq_false hcap
                  have g3 : decide ((cap : Int) < (tt : Int) + (md : Int)) = false := decide_eq_false (by omega)
                  rcases h12 with rfl | rfl
                  · have e3 := E3.out
                    go_wp2
                    go_roundw
                    case rel => exact ⟨i + 1, by omega, by have := E3.out; go_num, Lib.hid ⟨d, a, c, by rw [← HN.out]; exact HX8.out, by rw [← HN.out]; exact RO8.out, capOk_up CK.out⟩, B8⟩
                    case measure => simp [intOf]; omega
                  · have e3 := E3.out
                    go_wp2
                    go_roundw
                    case rel => exact ⟨i + 1, by omega, by have := E3.out; go_num, Lib.hid ⟨d, a, c, by rw [← HN.out]; exact HX8.out, by rw [← HN.out]; exact RO8.out, capOk_up CK.out⟩, B8⟩
                    case measure => simp [intOf]; omega
              · have hcap : ¬ cap < tt + md := fun h => h9 (hce.2 ⟨h, h6, h1e⟩)
                have g1 : decide ((cap : Int) < ((tt + md : Nat) : Int)) = false := decide_eq_false (by omega)
                have g2 : decide (cap < tt + md) = false := decide_eq_false hcap
                have g3 : decide ((cap : Int) < (tt : Int) + (md : Int)) = false := decide_eq_false (by omega)
                by_cases h0 : EE = 0
                · subst h0
                  rcases h12 with rfl | rfl
                  · have e33 := HG.out
                    have CK8 := Lib.hid (HNX.out rfl)
                    have hp7 : p7 = (cap : Int) := HPQ.out.1.trans CK8.out.lim
                    have hq7 : q7 = -1 := HPQ.out.2.trans CK8.out.left
                    subst hp7 hq7
                    obtain ⟨z0, z1, z2⟩ := box3c HA8.out
                    obtain ⟨x0, x1, x2⟩ := box3c HX8.out
                    have u0 := frozen_of_row w8 g 0 _ _ HX8.out
                    have u1 := frozen_of_row w8 g 1 _ _ HX8.out
                    have u2 := frozen_of_row w8 g 2 _ _ HX8.out
                    have HX9 := Lib.hid (set3c (k := .int .i64 (cap : Int)) (l := .int .i64 (-1)) (m := .slice a7 n7 c7) HX8.out)
                    have R9 := Lib.hid (rd_boxset (x' := (cap : Int)) (y' := -1) (a' := a7) (n' := n7) (c' := c7) HX8.out R8.out)
                    have B9 := Lib.hid (below_set3 (k := .int .i64 (cap : Int)) (l := .int .i64 (-1)) (m := .slice a7 n7 c7) B8.out HG.out)
                    go_upto_region 4 with fail
                    clear x0 x1 x2 u0 u1 u2 z0 z1 z2 o0 o1 o2 o3 o4 o5 HX8 HA8 R8 RO8 B8 HO8
                    generalize ((w8.setCell ⟨g, 0, none⟩ (.int .i64 (cap : Int))).setCell ⟨g, 1, none⟩ (.int .i64 (-1))).setCell ⟨g, 2, none⟩ (.slice a7 n7 c7) = w9 at *
                    have e3 := E3.out
                    go_wp2
                    go_roundw
                    case rel => exact ⟨i + 1, by omega, by go_num, Lib.hid ⟨DD, a7, c7, by rw [← HN7.out]; exact HX9.out, by rw [← HN7.out]; exact R9.out, CK8.out⟩, B9⟩
                    case measure => simp [intOf]; omega
                  · have e33 := HG.out
                    have CK8 := Lib.hid (HNX.out rfl)
                    have hp7 : p7 = (cap : Int) := HPQ.out.1.trans CK8.out.lim
                    have hq7 : q7 = -1 := HPQ.out.2.trans CK8.out.left
                    subst hp7 hq7
                    obtain ⟨z0, z1, z2⟩ := box3c HA8.out
                    obtain ⟨x0, x1, x2⟩ := box3c HX8.out
                    have u0 := frozen_of_row w8 g 0 _ _ HX8.out
                    have u1 := frozen_of_row w8 g 1 _ _ HX8.out
                    have u2 := frozen_of_row w8 g 2 _ _ HX8.out
                    have HX9 := Lib.hid (set3c (k := .int .i64 (cap : Int)) (l := .int .i64 (-1)) (m := .slice a7 n7 c7) HX8.out)
                    have R9 := Lib.hid (rd_boxset (x' := (cap : Int)) (y' := -1) (a' := a7) (n' := n7) (c' := c7) HX8.out R8.out)
                    have B9 := Lib.hid (below_set3 (k := .int .i64 (cap : Int)) (l := .int .i64 (-1)) (m := .slice a7 n7 c7) B8.out HG.out)
                    go_upto_region 4 with fail
                    clear x0 x1 x2 u0 u1 u2 z0 z1 z2 o0 o1 o2 o3 o4 o5 HX8 HA8 R8 RO8 B8 HO8
                    generalize ((w8.setCell ⟨g, 0, none⟩ (.int .i64 (cap : Int))).setCell ⟨g, 1, none⟩ (.int .i64 (-1))).setCell ⟨g, 2, none⟩ (.slice a7 n7 c7) = w9 at *
                    have e3 := E3.out
                    go_wp2
                    go_roundw
                    case rel => exact ⟨i + 1, by omega, by go_num, Lib.hid ⟨DD, a7, c7, by rw [← HN7.out]; exact HX9.out, by rw [← HN7.out]; exact R9.out, CK8.out⟩, B9⟩
                    case measure => simp [intOf]; omega
                · have f1 : ((EE : Int) == 9) = false := by rw [beq_eq_false_iff_ne]; omega
                  have f2 : decide ((EE : Int) = 9) = false := decide_eq_false (by omega)
                  have f3 : ((EE : Int) == 0) = false := by rw [beq_eq_false_iff_ne]; omega
                  have f4 : decide ((EE : Int) = 0) = false := decide_eq_false (by omega)
                  have f5 : ¬ EE = 0 := h0
                  have f6 : ¬ EE = 9 := h9
                  rcases h12 with rfl | rfl
                  · have e3 := E3.out
                    go_wp2
                    go_roundw
                    case rel => exact ⟨i + 1, by omega, by have := E3.out; go_num, Lib.hid ⟨d, a, c, by rw [← HN.out]; exact HX8.out, by rw [← HN.out]; exact RO8.out, capOk_up CK.out⟩, B8⟩
                    case measure => simp [intOf]; omega
                  · have e3 := E3.out
                    go_wp2
                    go_roundw
                    case rel => exact ⟨i + 1, by omega, by have := E3.out; go_num, Lib.hid ⟨d, a, c, by rw [← HN.out]; exact HX8.out, by rw [← HN.out]; exact RO8.out, capOk_up CK.out⟩, B8⟩
                    case measure => simp [intOf]; omega
        · have t1 : ((kk : Int) == 1) = false := by rw [beq_eq_false_iff_ne]; omega
          have t2 : ((kk : Int) == 2) = false := by rw [beq_eq_false_iff_ne]; omega
          have t3 : decide ((kk : Int) = 1) = false := decide_eq_false (by omega)
          have t4 : decide ((kk : Int) = 2) = false := decide_eq_false (by omega)
          have t5 : ¬ kk = 1 := fun h => h12 (Or.inl h)
          have t6 : ¬ kk = 2 := fun h => h12 (Or.inr h)
          by_cases h0 : EE = 0
          · subst h0
            have CK8 := Lib.hid (HNX.out rfl)
            have hp7 : p7 = (cap : Int) := HPQ.out.1.trans CK8.out.lim
            have hq7 : q7 = -1 := HPQ.out.2.trans CK8.out.left
            subst hp7 hq7
            obtain ⟨z0, z1, z2⟩ := box3c HA8.out
            obtain ⟨x0, x1, x2⟩ := box3c HX8.out
            have u0 := frozen_of_row w8 g 0 _ _ HX8.out
            have u1 := frozen_of_row w8 g 1 _ _ HX8.out
            have u2 := frozen_of_row w8 g 2 _ _ HX8.out
            have HX9 := Lib.hid (set3c (k := .int .i64 (cap : Int)) (l := .int .i64 (-1)) (m := .slice a7 n7 c7) HX8.out)
            have R9 := Lib.hid (rd_boxset (x' := (cap : Int)) (y' := -1) (a' := a7) (n' := n7) (c' := c7) HX8.out R8.out)
            have B9 := Lib.hid (below_set3 (k := .int .i64 (cap : Int)) (l := .int .i64 (-1)) (m := .slice a7 n7 c7) B8.out HG.out)
            go_upto_region 4 with fail
            clear x0 x1 x2 u0 u1 u2 z0 z1 z2 o0 o1 o2 o3 o4 o5 HX8 HA8 R8 RO8 B8 HO8
            generalize ((w8.setCell ⟨g, 0, none⟩ (.int .i64 (cap : Int))).setCell ⟨g, 1, none⟩ (.int .i64 (-1))).setCell ⟨g, 2, none⟩ (.slice a7 n7 c7) = w9 at *
            have e3 := E3.out
            go_wp2
            go_roundw
            case rel => exact ⟨i + 1, by omega, by go_num, Lib.hid ⟨DD, a7, c7, by rw [← HN7.out]; exact HX9.out, by rw [← HN7.out]; exact R9.out, CK8.out⟩, B9⟩
            case measure => simp [intOf]; omega
          · have f3 : ((EE : Int) == 0) = false := by rw [beq_eq_false_iff_ne]; omega
            have f4 : decide ((EE : Int) = 0) = false := decide_eq_false (by omega)
            have f5 : ¬ EE = 0 := h0
            have e3 := E3.out
            go_wp2
            go_roundw
            case rel => exact ⟨i + 1, by omega, by have := E3.out; go_num, Lib.hid ⟨d, a, c, by rw [← HN.out]; exact HX8.out, by rw [← HN.out]; exact RO8.out, capOk_up CK.out⟩, B8⟩
            case measure => simp [intOf]; omega
end Go.Proofs.Ytpjkgbngiifkmaa.Gf
