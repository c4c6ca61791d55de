/- What is proved here: the contract of the laws' change (disk), for the kinds 0 to 7. -/
import Derived.Test.YtpjkgbngiifkmaaH10a
import Derived.Test.YtpjkgbngiifkmaaP10x
import Derived.Test.YtpjkgbngiifkmaaP10y
namespace Go.Proofs.Ytpjkgbngiifkmaa.Gf
open Go Go.Joins Go.ChangeShapes Go.WideShapes Go.ChangeAt Go.RowKit Go.Deep Go.Proofs.Ytpjkgbngiifkmaa.By Go.Proofs.Ytpjkgbngiifkmaa.Qt

def chE (d : Dk) (k : Nat) (nm to : ByteArray) (off : Int) (b : List Nat) : Nat := match k with | 0 => createE d nm | 1 => appendE d nm b | 2 => appendE d nm b | 3 => putE d nm off b | 4 => truncE d nm off | 5 => atE d nm | 6 => renameE d nm to | _ => atE d nm
def chD (d : Dk) (k : Nat) (nm to : ByteArray) (off : Int) (b : List Nat) : Dk := match k with | 0 => createD d nm | 1 => appendD d nm b | 2 => appendD d nm b | 3 => putD d nm off b | 4 => truncD d nm off | 5 => syncD d nm | 6 => renameD d nm to | _ => removeD d nm
set_option maxRecDepth 100000 in
set_option maxHeartbeats 12800000 in
theorem change10_any (v : Value) (d : Dk) (kd : Int) (kk : Nat) (nm to : ByteArray) (off : Int) (ad ak : Option Addr) (nd cd nk ck : Nat) (b : List Nat) (w : World) (hv : Dv w v d) (hsm : SmD d) (k : Nat) (hpn : PnD d k) (hk : k ≤ 89990) (hkd : -9223372036854775808 ≤ kd ∧ kd ≤ 9223372036854775807) (hkk : Int.tmod (Int.tmod kd 10 + 10) 10 = (kk : Int)) (hk7 : kk ≤ 7) (hoff : -9223372036854775808 ≤ off ∧ off ≤ 9223372036854775807) (hnm : nm.size ≤ maxLen) (hto : to.size ≤ maxLen) (hb : b.length ≤ 1099511627776) (sd : Sl w (.slice ad nd cd) b) : Calls Try.prog 36 #[v, .agg #[.int .i64 kd, .string nm, .string to, .int .i64 off, .slice ad nd cd, .slice ak nk ck]] w (DE (fun _ => True) w (chD d kk nm to off b) (chE d kk nm to off b)) := by
  obtain ⟨fv, rfl, hr, sf⟩ := hv
  obtain ⟨af, cf, rfl, -, -⟩ := rd_sl sf
  have A1 := bel_al0 w (.cells #[.int .i64 d.1, .int .i64 d.2.1, .slice af d.2.2.length cf] 33)
  have A2 := btA A1 (bel_al0 _ (.cells #[.int .i64 kd, .string nm, .string to, .int .i64 off, .slice ad nd cd, .slice ak nk ck] 67))
  have BX := Lib.hid (btA A2 (bel_al0 _ (.cells #[.int .i64 0, .int .i64 0, .slice none 0 0] 33)))
  have HX := Lib.hid (show (((w.alloc (.cells #[.int .i64 d.1, .int .i64 d.2.1, .slice af d.2.2.length cf] 33)).alloc (.cells #[.int .i64 kd, .string nm, .string to, .int .i64 off, .slice ad nd cd, .slice ak nk ck] 67)).alloc (.cells #[.int .i64 0, .int .i64 0, .slice none 0 0] 33)).heap[w.heap.size]? = some (.cells #[.int .i64 d.1, .int .i64 d.2.1, .slice af d.2.2.length cf] 33 (0, 0)) from (al_old (by simp; omega)).trans ((al_old (by simp)).trans (heap_alloc_new w _)))
  have HO := Lib.hid (show (((w.alloc (.cells #[.int .i64 d.1, .int .i64 d.2.1, .slice af d.2.2.length cf] 33)).alloc (.cells #[.int .i64 kd, .string nm, .string to, .int .i64 off, .slice ad nd cd, .slice ak nk ck] 67)).alloc (.cells #[.int .i64 0, .int .i64 0, .slice none 0 0] 33)).heap[w.heap.size + 1]? = some (.cells #[.int .i64 kd, .string nm, .string to, .int .i64 off, .slice ad nd cd, .slice ak nk ck] 67 (0, 0)) from (al_old (by simp)).trans (heap_alloc2_new w _ _))
  have HY := Lib.hid (show (((w.alloc (.cells #[.int .i64 d.1, .int .i64 d.2.1, .slice af d.2.2.length cf] 33)).alloc (.cells #[.int .i64 kd, .string nm, .string to, .int .i64 off, .slice ad nd cd, .slice ak nk ck] 67)).alloc (.cells #[.int .i64 0, .int .i64 0, .slice none 0 0] 33)).heap[w.heap.size + 2]? = some (.cells #[.int .i64 0, .int .i64 0, .slice none 0 0] 33 (0, 0)) from by
    have h := heap_alloc2_new (w.alloc (.cells #[.int .i64 d.1, .int .i64 d.2.1, .slice af d.2.2.length cf] 33)) (.cells #[.int .i64 kd, .string nm, .string to, .int .i64 off, .slice ad nd cd, .slice ak nk ck] 67) (.cells #[.int .i64 0, .int .i64 0, .slice none 0 0] 33)
    simpa [Nat.add_assoc] using h)
  have DV := Lib.hid (fun W (h : Below w.heap.size w W) => dv_below (show Dv w (.agg #[.int .i64 d.1, .int .i64 d.2.1, .slice af d.2.2.length cf]) d from ⟨_, rfl, hr, sf⟩) h)
  have SD := Lib.hid (fun W (h : Below w.heap.size w W) => sl_below sd h)
  have hrm : -10 < Int.tmod kd 10 ∧ Int.tmod kd 10 < 10 := by
    rcases Int.le_total 0 kd with h | h
    · rw [Int.tmod_eq_emod_of_nonneg h]; omega
    · have h2 : Int.tmod kd 10 = -Int.tmod (-kd) 10 := by rw [Int.neg_tmod]; omega
      rw [h2, Int.tmod_eq_emod_of_nonneg (by omega)]
      omega
  have HM := Lib.hid (show IntKind.i64.wrap (Int.tmod kd 10 + 10) = Int.tmod kd 10 + 10 from IntWalk.i64_in _ (by omega))
  have HKK := Lib.hid hkk
  have HSM := Lib.hid hsm
  have HPN := Lib.hid hpn
  have HBL := Lib.hid hb
  have HOF := Lib.hid hoff
  obtain ⟨n, hn⟩ : ∃ z, z = d.2.2.length := ⟨_, rfl⟩
  rw [← hn] at BX HX HO HY DV ⊢
  clear sf hr A1 A2 sd hrm hkk hsm hpn hb hoff hkd hn
  go_enter Try.func36, Try.ntmps36
  go_upto_region 1 with fail
  generalize (((w.alloc (.cells #[.int .i64 d.1, .int .i64 d.2.1, .slice af n cf] 33)).alloc (.cells #[.int .i64 kd, .string nm, .string to, .int .i64 off, .slice ad nd cd, .slice ak nk ck] 67)).alloc (.cells #[.int .i64 0, .int .i64 0, .slice none 0 0] 33)) = W1 at *
  obtain ⟨x0, x1, x2⟩ := box3c HX.out
  obtain ⟨o0, o1, o2, o3, o4, o5⟩ := box6c HO.out
  obtain ⟨y0, y1, y2⟩ := box3c HY.out
  have hm := HM.out
  have hkk := HKK.out
  go_upto_region 2 with fail
  clear hm hkk
  obtain rfl | rfl | rfl | rfl | rfl | rfl | rfl | rfl : kk = 0 ∨ kk = 1 ∨ kk = 2 ∨ kk = 3 ∨ kk = 4 ∨ kk = 5 ∨ kk = 6 ∨ kk = 7 := by omega
  · have PC := Lib.hid (pcreate_any _ d nm hnm k _ (DV.out _ BX.out) HSM.out HPN.out hk)
    have HD : Hid (createD d nm = chD d 0 nm to off b) := Lib.hid rfl
    have HE : Hid (createE d nm = chE d 0 nm to off b) := Lib.hid rfl
    rw [HD.out, HE.out] at PC
    obtain ⟨DD, hdd⟩ : ∃ z, z = chD d 0 nm to off b := ⟨_, rfl⟩
    obtain ⟨EE, hee⟩ : ∃ z, z = chE d 0 nm to off b := ⟨_, rfl⟩
    rw [← hdd, ← hee] at PC
    have HDE := Lib.hid (And.intro hdd hee)
    clear DV SD HSM HPN HBL HOF HD HE hdd hee
    go_wp2_with fail
    refine PC.out.mono ?_
    rintro e w5 ⟨⟨v5, rfl, hv5⟩, hb5⟩
    obtain ⟨a5, c5, rfl, r5⟩ := dv_form hv5
    obtain ⟨fv5, he5, hr5, -⟩ := hv5
    have R5 := Lib.hid r5
    have HR5 := Lib.hid hr5
    have HY5 := Lib.hid ((hb5.block _ (lt_of_some0 HY.out)).trans HY.out)
    have B5 := Lib.hid (btA BX.out hb5)
    obtain ⟨n5, hn5⟩ : ∃ z, z = DD.2.2.length := ⟨_, rfl⟩
    rw [← hn5] at R5 ⊢
    clear hb5 r5 he5 hr5 x0 x1 x2 y0 y1 y2 o0 o1 o2 o3 o4 o5 PC hn5
    obtain ⟨y0, y1, y2⟩ := box3c HY5.out
    have u0 := frozen_of_row w5 (w.heap.size + 2) 0 _ _ HY5.out
    have u1 := frozen_of_row w5 (w.heap.size + 2) 1 _ _ HY5.out
    have u2 := frozen_of_row w5 (w.heap.size + 2) 2 _ _ HY5.out
    go_wp2
    refine pdisk_end rfl (set3c HY5.out) rfl ?_
    rw [← HDE.out.1, ← HDE.out.2]
    exact ⟨⟨_, rfl, _, rfl, HR5.out, rd_mono (rd_boxset HY5.out R5.out) fun _ _ _ => Or.inl trivial⟩, below_set3 B5.out (by omega)⟩
  · have PC := Lib.hid (pappend_any _ d nm _ b _ (SD.out _ BX.out) HBL.out hnm k (DV.out _ BX.out) HSM.out HPN.out hk)
    have HD : Hid (appendD d nm b = chD d 1 nm to off b) := Lib.hid rfl
    have HE : Hid (appendE d nm b = chE d 1 nm to off b) := Lib.hid rfl
    rw [HD.out, HE.out] at PC
    obtain ⟨DD, hdd⟩ : ∃ z, z = chD d 1 nm to off b := ⟨_, rfl⟩
    obtain ⟨EE, hee⟩ : ∃ z, z = chE d 1 nm to off b := ⟨_, rfl⟩
    rw [← hdd, ← hee] at PC
    have HDE := Lib.hid (And.intro hdd hee)
    clear DV SD HSM HPN HBL HOF HD HE hdd hee
    go_wp2_with fail
    refine PC.out.mono ?_
    rintro e w5 ⟨⟨v5, rfl, hv5⟩, hb5⟩
    obtain ⟨a5, c5, rfl, r5⟩ := dv_form hv5
    obtain ⟨fv5, he5, hr5, -⟩ := hv5
    have R5 := Lib.hid r5
    have HR5 := Lib.hid hr5
    have HY5 := Lib.hid ((hb5.block _ (lt_of_some0 HY.out)).trans HY.out)
    have B5 := Lib.hid (btA BX.out hb5)
    obtain ⟨n5, hn5⟩ : ∃ z, z = DD.2.2.length := ⟨_, rfl⟩
    rw [← hn5] at R5 ⊢
    clear hb5 r5 he5 hr5 x0 x1 x2 y0 y1 y2 o0 o1 o2 o3 o4 o5 PC hn5
    obtain ⟨y0, y1, y2⟩ := box3c HY5.out
    have u0 := frozen_of_row w5 (w.heap.size + 2) 0 _ _ HY5.out
    have u1 := frozen_of_row w5 (w.heap.size + 2) 1 _ _ HY5.out
    have u2 := frozen_of_row w5 (w.heap.size + 2) 2 _ _ HY5.out
    go_wp2
    refine pdisk_end rfl (set3c HY5.out) rfl ?_
    rw [← HDE.out.1, ← HDE.out.2]
    exact ⟨⟨_, rfl, _, rfl, HR5.out, rd_mono (rd_boxset HY5.out R5.out) fun _ _ _ => Or.inl trivial⟩, below_set3 B5.out (by omega)⟩
  · have PC := Lib.hid (pappend_any _ d nm _ b _ (SD.out _ BX.out) HBL.out hnm k (DV.out _ BX.out) HSM.out HPN.out hk)
    have HD : Hid (appendD d nm b = chD d 2 nm to off b) := Lib.hid rfl
    have HE : Hid (appendE d nm b = chE d 2 nm to off b) := Lib.hid rfl
    rw [HD.out, HE.out] at PC
    obtain ⟨DD, hdd⟩ : ∃ z, z = chD d 2 nm to off b := ⟨_, rfl⟩
    obtain ⟨EE, hee⟩ : ∃ z, z = chE d 2 nm to off b := ⟨_, rfl⟩
    rw [← hdd, ← hee] at PC
    have HDE := Lib.hid (And.intro hdd hee)
    clear DV SD HSM HPN HBL HOF HD HE hdd hee
    go_wp2_with fail
    refine PC.out.mono ?_
    rintro e w5 ⟨⟨v5, rfl, hv5⟩, hb5⟩
    obtain ⟨a5, c5, rfl, r5⟩ := dv_form hv5
    obtain ⟨fv5, he5, hr5, -⟩ := hv5
    have R5 := Lib.hid r5
    have HR5 := Lib.hid hr5
    have HY5 := Lib.hid ((hb5.block _ (lt_of_some0 HY.out)).trans HY.out)
    have B5 := Lib.hid (btA BX.out hb5)
    obtain ⟨n5, hn5⟩ : ∃ z, z = DD.2.2.length := ⟨_, rfl⟩
    rw [← hn5] at R5 ⊢
    clear hb5 r5 he5 hr5 x0 x1 x2 y0 y1 y2 o0 o1 o2 o3 o4 o5 PC hn5
    obtain ⟨y0, y1, y2⟩ := box3c HY5.out
    have u0 := frozen_of_row w5 (w.heap.size + 2) 0 _ _ HY5.out
    have u1 := frozen_of_row w5 (w.heap.size + 2) 1 _ _ HY5.out
    have u2 := frozen_of_row w5 (w.heap.size + 2) 2 _ _ HY5.out
    go_wp2
    refine pdisk_end rfl (set3c HY5.out) rfl ?_
    rw [← HDE.out.1, ← HDE.out.2]
    exact ⟨⟨_, rfl, _, rfl, HR5.out, rd_mono (rd_boxset HY5.out R5.out) fun _ _ _ => Or.inl trivial⟩, below_set3 B5.out (by omega)⟩
  · have PC := Lib.hid (pputB_any (B := fun _ => True) _ d nm off HOF.out _ b _ (SD.out _ BX.out) HBL.out hnm k (DV.out _ BX.out) HSM.out HPN.out hk)
    have HD : Hid (putD d nm off b = chD d 3 nm to off b) := Lib.hid rfl
    have HE : Hid (putE d nm off b = chE d 3 nm to off b) := Lib.hid rfl
    rw [HD.out, HE.out] at PC
    obtain ⟨DD, hdd⟩ : ∃ z, z = chD d 3 nm to off b := ⟨_, rfl⟩
    obtain ⟨EE, hee⟩ : ∃ z, z = chE d 3 nm to off b := ⟨_, rfl⟩
    rw [← hdd, ← hee] at PC
    have HDE := Lib.hid (And.intro hdd hee)
    clear DV SD HSM HPN HBL HOF HD HE hdd hee
    go_wp2_with fail
    refine PC.out.mono ?_
    rintro e w5 ⟨⟨v5, rfl, hv5⟩, hb5⟩
    obtain ⟨a5, c5, rfl, r5⟩ := dv_form hv5
    obtain ⟨fv5, he5, hr5, -⟩ := hv5
    have R5 := Lib.hid r5
    have HR5 := Lib.hid hr5
    have HY5 := Lib.hid ((hb5.block _ (lt_of_some0 HY.out)).trans HY.out)
    have B5 := Lib.hid (btA BX.out hb5)
    obtain ⟨n5, hn5⟩ : ∃ z, z = DD.2.2.length := ⟨_, rfl⟩
    rw [← hn5] at R5 ⊢
    clear hb5 r5 he5 hr5 x0 x1 x2 y0 y1 y2 o0 o1 o2 o3 o4 o5 PC hn5
    obtain ⟨y0, y1, y2⟩ := box3c HY5.out
    have u0 := frozen_of_row w5 (w.heap.size + 2) 0 _ _ HY5.out
    have u1 := frozen_of_row w5 (w.heap.size + 2) 1 _ _ HY5.out
    have u2 := frozen_of_row w5 (w.heap.size + 2) 2 _ _ HY5.out
    go_wp2
    refine pdisk_end rfl (set3c HY5.out) rfl ?_
    rw [← HDE.out.1, ← HDE.out.2]
    exact ⟨⟨_, rfl, _, rfl, HR5.out, rd_mono (rd_boxset HY5.out R5.out) fun _ _ _ => Or.inl trivial⟩, below_set3 B5.out (by omega)⟩
  · have PC := Lib.hid (ptruncB_any (B := fun _ => True) _ d nm off HOF.out _ hnm k (DV.out _ BX.out) HSM.out HPN.out hk)
    have HD : Hid (truncD d nm off = chD d 4 nm to off b) := Lib.hid rfl
    have HE : Hid (truncE d nm off = chE d 4 nm to off b) := Lib.hid rfl
    rw [HD.out, HE.out] at PC
    obtain ⟨DD, hdd⟩ : ∃ z, z = chD d 4 nm to off b := ⟨_, rfl⟩
    obtain ⟨EE, hee⟩ : ∃ z, z = chE d 4 nm to off b := ⟨_, rfl⟩
    rw [← hdd, ← hee] at PC
    have HDE := Lib.hid (And.intro hdd hee)
    clear DV SD HSM HPN HBL HOF HD HE hdd hee
    go_wp2_with fail
    refine PC.out.mono ?_
    rintro e w5 ⟨⟨v5, rfl, hv5⟩, hb5⟩
    obtain ⟨a5, c5, rfl, r5⟩ := dv_form hv5
    obtain ⟨fv5, he5, hr5, -⟩ := hv5
    have R5 := Lib.hid r5
    have HR5 := Lib.hid hr5
    have HY5 := Lib.hid ((hb5.block _ (lt_of_some0 HY.out)).trans HY.out)
    have B5 := Lib.hid (btA BX.out hb5)
    obtain ⟨n5, hn5⟩ : ∃ z, z = DD.2.2.length := ⟨_, rfl⟩
    rw [← hn5] at R5 ⊢
    clear hb5 r5 he5 hr5 x0 x1 x2 y0 y1 y2 o0 o1 o2 o3 o4 o5 PC hn5
    obtain ⟨y0, y1, y2⟩ := box3c HY5.out
    have u0 := frozen_of_row w5 (w.heap.size + 2) 0 _ _ HY5.out
    have u1 := frozen_of_row w5 (w.heap.size + 2) 1 _ _ HY5.out
    have u2 := frozen_of_row w5 (w.heap.size + 2) 2 _ _ HY5.out
    go_wp2
    refine pdisk_end rfl (set3c HY5.out) rfl ?_
    rw [← HDE.out.1, ← HDE.out.2]
    exact ⟨⟨_, rfl, _, rfl, HR5.out, rd_mono (rd_boxset HY5.out R5.out) fun _ _ _ => Or.inl trivial⟩, below_set3 B5.out (by omega)⟩
  · have PC := Lib.hid (psync_any _ d nm hnm k _ (DV.out _ BX.out) HSM.out HPN.out hk)
    have HD : Hid (syncD d nm = chD d 5 nm to off b) := Lib.hid rfl
    have HE : Hid (atE d nm = chE d 5 nm to off b) := Lib.hid rfl
    rw [HD.out, HE.out] at PC
    obtain ⟨DD, hdd⟩ : ∃ z, z = chD d 5 nm to off b := ⟨_, rfl⟩
    obtain ⟨EE, hee⟩ : ∃ z, z = chE d 5 nm to off b := ⟨_, rfl⟩
    rw [← hdd, ← hee] at PC
    have HDE := Lib.hid (And.intro hdd hee)
    clear DV SD HSM HPN HBL HOF HD HE hdd hee
    go_wp2_with fail
    refine PC.out.mono ?_
    rintro e w5 ⟨⟨v5, rfl, hv5⟩, hb5⟩
    obtain ⟨a5, c5, rfl, r5⟩ := dv_form hv5
    obtain ⟨fv5, he5, hr5, -⟩ := hv5
    have R5 := Lib.hid r5
    have HR5 := Lib.hid hr5
    have HY5 := Lib.hid ((hb5.block _ (lt_of_some0 HY.out)).trans HY.out)
    have B5 := Lib.hid (btA BX.out hb5)
    obtain ⟨n5, hn5⟩ : ∃ z, z = DD.2.2.length := ⟨_, rfl⟩
    rw [← hn5] at R5 ⊢
    clear hb5 r5 he5 hr5 x0 x1 x2 y0 y1 y2 o0 o1 o2 o3 o4 o5 PC hn5
    obtain ⟨y0, y1, y2⟩ := box3c HY5.out
    have u0 := frozen_of_row w5 (w.heap.size + 2) 0 _ _ HY5.out
    have u1 := frozen_of_row w5 (w.heap.size + 2) 1 _ _ HY5.out
    have u2 := frozen_of_row w5 (w.heap.size + 2) 2 _ _ HY5.out
    go_wp2
    refine pdisk_end rfl (set3c HY5.out) rfl ?_
    rw [← HDE.out.1, ← HDE.out.2]
    exact ⟨⟨_, rfl, _, rfl, HR5.out, rd_mono (rd_boxset HY5.out R5.out) fun _ _ _ => Or.inl trivial⟩, below_set3 B5.out (by omega)⟩
  · have PC := Lib.hid (prename_any _ d nm to hto hnm k _ (DV.out _ BX.out) HSM.out HPN.out hk)
    have HD : Hid (renameD d nm to = chD d 6 nm to off b) := Lib.hid rfl
    have HE : Hid (renameE d nm to = chE d 6 nm to off b) := Lib.hid rfl
    rw [HD.out, HE.out] at PC
    obtain ⟨DD, hdd⟩ : ∃ z, z = chD d 6 nm to off b := ⟨_, rfl⟩
    obtain ⟨EE, hee⟩ : ∃ z, z = chE d 6 nm to off b := ⟨_, rfl⟩
    rw [← hdd, ← hee] at PC
    have HDE := Lib.hid (And.intro hdd hee)
    clear DV SD HSM HPN HBL HOF HD HE hdd hee
    go_wp2_with fail
    refine PC.out.mono ?_
    rintro e w5 ⟨⟨v5, rfl, hv5⟩, hb5⟩
    obtain ⟨a5, c5, rfl, r5⟩ := dv_form hv5
    obtain ⟨fv5, he5, hr5, -⟩ := hv5
    have R5 := Lib.hid r5
    have HR5 := Lib.hid hr5
    have HY5 := Lib.hid ((hb5.block _ (lt_of_some0 HY.out)).trans HY.out)
    have B5 := Lib.hid (btA BX.out hb5)
    obtain ⟨n5, hn5⟩ : ∃ z, z = DD.2.2.length := ⟨_, rfl⟩
    rw [← hn5] at R5 ⊢
    clear hb5 r5 he5 hr5 x0 x1 x2 y0 y1 y2 o0 o1 o2 o3 o4 o5 PC hn5
    obtain ⟨y0, y1, y2⟩ := box3c HY5.out
    have u0 := frozen_of_row w5 (w.heap.size + 2) 0 _ _ HY5.out
    have u1 := frozen_of_row w5 (w.heap.size + 2) 1 _ _ HY5.out
    have u2 := frozen_of_row w5 (w.heap.size + 2) 2 _ _ HY5.out
    go_wp2
    refine pdisk_end rfl (set3c HY5.out) rfl ?_
    rw [← HDE.out.1, ← HDE.out.2]
    exact ⟨⟨_, rfl, _, rfl, HR5.out, rd_mono (rd_boxset HY5.out R5.out) fun _ _ _ => Or.inl trivial⟩, below_set3 B5.out (by omega)⟩
  · have PC := Lib.hid (premove_any _ d nm hnm k _ (DV.out _ BX.out) HSM.out HPN.out hk)
    have HD : Hid (removeD d nm = chD d 7 nm to off b) := Lib.hid rfl
    have HE : Hid (atE d nm = chE d 7 nm to off b) := Lib.hid rfl
    rw [HD.out, HE.out] at PC
    obtain ⟨DD, hdd⟩ : ∃ z, z = chD d 7 nm to off b := ⟨_, rfl⟩
    obtain ⟨EE, hee⟩ : ∃ z, z = chE d 7 nm to off b := ⟨_, rfl⟩
    rw [← hdd, ← hee] at PC
    have HDE := Lib.hid (And.intro hdd hee)
    clear DV SD HSM HPN HBL HOF HD HE hdd hee
    go_wp2_with fail
    refine PC.out.mono ?_
    rintro e w5 ⟨⟨v5, rfl, hv5⟩, hb5⟩
    obtain ⟨a5, c5, rfl, r5⟩ := dv_form hv5
    obtain ⟨fv5, he5, hr5, -⟩ := hv5
    have R5 := Lib.hid r5
    have HR5 := Lib.hid hr5
    have HY5 := Lib.hid ((hb5.block _ (lt_of_some0 HY.out)).trans HY.out)
    have B5 := Lib.hid (btA BX.out hb5)
    obtain ⟨n5, hn5⟩ : ∃ z, z = DD.2.2.length := ⟨_, rfl⟩
    rw [← hn5] at R5 ⊢
    clear hb5 r5 he5 hr5 x0 x1 x2 y0 y1 y2 o0 o1 o2 o3 o4 o5 PC hn5
    obtain ⟨y0, y1, y2⟩ := box3c HY5.out
    have u0 := frozen_of_row w5 (w.heap.size + 2) 0 _ _ HY5.out
    have u1 := frozen_of_row w5 (w.heap.size + 2) 1 _ _ HY5.out
    have u2 := frozen_of_row w5 (w.heap.size + 2) 2 _ _ HY5.out
    go_wp2
    refine pdisk_end rfl (set3c HY5.out) rfl ?_
    rw [← HDE.out.1, ← HDE.out.2]
    exact ⟨⟨_, rfl, _, rfl, HR5.out, rd_mono (rd_boxset HY5.out R5.out) fun _ _ _ => Or.inl trivial⟩, below_set3 B5.out (by omega)⟩
end Go.Proofs.Ytpjkgbngiifkmaa.Gf
