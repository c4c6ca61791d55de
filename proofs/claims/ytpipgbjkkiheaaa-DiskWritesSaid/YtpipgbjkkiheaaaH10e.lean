/- What is proved here: the contracts of the laws' change and want (disk), for all ten kinds. -/
import Derived.Test.YtpipgbjkkiheaaaH10a
import Derived.Test.YtpipgbjkkiheaaaP10x
import Derived.Test.YtpipgbjkkiheaaaP10y
import Derived.Test.YtpipgbjkkiheaaaH10d
import Derived.Test.YtpipgbjkkiheaaaR10q
import Derived.Test.YtpipgbjkkiheaaaR10s
import Derived.Test.YtpipgbjkkiheaaaP10Z
-- halved
namespace Go.Proofs.Ytpipgbjkkiheaaa.Gf
open Go Go.Joins Go.ChangeShapes Go.WideShapes Go.ChangeAt Go.RowKit Go.Deep Go.Proofs.Ytpipgbjkkiheaaa.By Go.Proofs.Ytpipgbjkkiheaaa.Qt

/-- What an operation answers. -/
def opE (d : Dk) (k : Nat) (nm tn : ByteArray) (off : Int) (b : List Nat) : Nat := match k with | 0 => createE d nm | 1 => appendE d nm b | 2 => appendE d nm b | 3 => putE d nm off b | 4 => truncE d nm off | 5 => atE d nm | 6 => renameE d nm tn | 7 => atE d nm | 8 => 0 | _ => flipE d nm off
def opD (d : Dk) (k : Nat) (nm tn : ByteArray) (off : Int) (b : List Nat) (ke : List Kep) : Dk := match k with | 0 => createD d nm | 1 => appendD d nm b | 2 => appendD d nm b | 3 => putD d nm off b | 4 => truncD d nm off | 5 => syncD d nm | 6 => renameD d nm tn | 7 => removeD d nm | 8 => crashD d ke | _ => flipD d nm off
theorem rd_boxsetR {w : World} {g : Nat} {x y x' y' : Int} {a a' : Option Addr} {n n' c c' : Nat} {T : TypeId} {fz : Nat × Nat} (h : w.heap[g]? = some (.cells #[.int .i64 x, .int .i64 y, .slice a n c] T fz)) {v : Value} {l : List Fl} (hr : Rd (fun _ => True) w (.sl tyF) [v] l) : Rd (fun _ => True) (((w.setCell ⟨g, 0, none⟩ (.int .i64 x')).setCell ⟨g, 1, none⟩ (.int .i64 y')).setCell ⟨g, 2, none⟩ (.slice a' n' c')) (.sl tyF) [v] l := rd_boxset h hr
set_option maxRecDepth 100000 in
set_option maxHeartbeats 12800000 in
theorem change_any (v : Value) (d : Dk) (kd : Int) (kk : Nat) (nm tn : ByteArray) (off : Int) (ad ak : Option Addr) (nd cd nk ck : Nat) (b : List Nat) (ke : List Kep) (w : World) (hv : Dv w v d) (hsm : SmD d) (k : Nat) (hpn : PnD d k) (hk : k ≤ 80000) (hkd : -9223372036854775808 ≤ kd ∧ kd ≤ 9223372036854775807) (hkk : Int.tmod (Int.tmod kd 10 + 10) 10 = (kk : Int)) (hk9 : kk ≤ 9) (hoff : -9223372036854775808 ≤ off ∧ off ≤ 9223372036854775807) (hnm : nm.size ≤ maxLen) (htn : tn.size ≤ maxLen) (hb : b.length ≤ 1099511627776) (sd : Sl w (.slice ad nd cd) b) (sk : Rd (fun _ => True) w (.sl tyK) [.slice ak nk ck] ke) (hke : ke.length ≤ 19) : Calls Try.prog 36 #[v, .agg #[.int .i64 kd, .string nm, .string tn, .int .i64 off, .slice ad nd cd, .slice ak nk ck]] w (DE (fun _ => True) w (opD d kk nm tn off b ke) (opE d kk nm tn off b)) := by
 have hk2 : k ≤ 89990 := by omega
 have hp8 : PnD d 80000 := fun f hf => Nat.le_trans (hpn f hf) hk
 obtain ⟨fv, rfl, hr, sf⟩ := hv
 obtain ⟨af, cf, rfl, -, -⟩ := rd_sl sf
 have A1 := bel_al0 w (.cells #[.int .i64 d.1, .int .i64 d.2.1, .slice af d.2.2.length cf] 33)
 have A2 := btA A1 (bel_al0 _ (.cells #[.int .i64 kd, .string nm, .string tn, .int .i64 off, .slice ad nd cd, .slice ak nk ck] 67))
 have BX := Lib.hid (btA A2 (bel_al0 _ (.cells #[.int .i64 0, .int .i64 0, .slice none 0 0] 33)))
 have HX := Lib.hid (show (((w.alloc (.cells #[.int .i64 d.1, .int .i64 d.2.1, .slice af d.2.2.length cf] 33)).alloc (.cells #[.int .i64 kd, .string nm, .string tn, .int .i64 off, .slice ad nd cd, .slice ak nk ck] 67)).alloc (.cells #[.int .i64 0, .int .i64 0, .slice none 0 0] 33)).heap[w.heap.size]? = some (.cells #[.int .i64 d.1, .int .i64 d.2.1, .slice af d.2.2.length cf] 33 (0, 0)) from (al_old (by simp; omega)).trans ((al_old (by simp)).trans (heap_alloc_new w _)))
 have HO := Lib.hid (show (((w.alloc (.cells #[.int .i64 d.1, .int .i64 d.2.1, .slice af d.2.2.length cf] 33)).alloc (.cells #[.int .i64 kd, .string nm, .string tn, .int .i64 off, .slice ad nd cd, .slice ak nk ck] 67)).alloc (.cells #[.int .i64 0, .int .i64 0, .slice none 0 0] 33)).heap[w.heap.size + 1]? = some (.cells #[.int .i64 kd, .string nm, .string tn, .int .i64 off, .slice ad nd cd, .slice ak nk ck] 67 (0, 0)) from (al_old (by simp)).trans (heap_alloc2_new w _ _))
 have HY := Lib.hid (show (((w.alloc (.cells #[.int .i64 d.1, .int .i64 d.2.1, .slice af d.2.2.length cf] 33)).alloc (.cells #[.int .i64 kd, .string nm, .string tn, .int .i64 off, .slice ad nd cd, .slice ak nk ck] 67)).alloc (.cells #[.int .i64 0, .int .i64 0, .slice none 0 0] 33)).heap[w.heap.size + 2]? = some (.cells #[.int .i64 0, .int .i64 0, .slice none 0 0] 33 (0, 0)) from by
  have h := heap_alloc2_new (w.alloc (.cells #[.int .i64 d.1, .int .i64 d.2.1, .slice af d.2.2.length cf] 33)) (.cells #[.int .i64 kd, .string nm, .string tn, .int .i64 off, .slice ad nd cd, .slice ak nk ck] 67) (.cells #[.int .i64 0, .int .i64 0, .slice none 0 0] 33)
  simpa [Nat.add_assoc] using h)
 have DV := Lib.hid (fun W (h : Below w.heap.size w W) => dv_below (show Dv w (.agg #[.int .i64 d.1, .int .i64 d.2.1, .slice af d.2.2.length cf]) d from ⟨_, rfl, hr, sf⟩) h)
 have SD := Lib.hid (fun W (h : Below w.heap.size w W) => sl_below sd h)
 have SK := Lib.hid (fun W (h : Below w.heap.size w W) => rd_below sk h)
 have hrm : -10 < Int.tmod kd 10 ∧ Int.tmod kd 10 < 10 := by
  rcases Int.le_total 0 kd with h | h
  ·rw [Int.tmod_eq_emod_of_nonneg h]; omega
  ·have h2 : Int.tmod kd 10 = -Int.tmod (-kd) 10 := by rw [Int.neg_tmod]; omega
   rw [h2, Int.tmod_eq_emod_of_nonneg (by omega)]
   omega
 have HM := Lib.hid (show IntKind.i64.wrap (Int.tmod kd 10 + 10) = Int.tmod kd 10 + 10 from IntWalk.i64_in _ (by omega))
 have HKK := Lib.hid hkk
 have HSM := Lib.hid hsm
 have HPN := Lib.hid hpn
 have HP8 := Lib.hid hp8
 have HK2 := Lib.hid hk2
 have HBL := Lib.hid hb
 have HOF := Lib.hid hoff
 have HKE := Lib.hid hke
 obtain ⟨n, hn⟩ : ∃ z, z = d.2.2.length := ⟨_, rfl⟩
 rw [← hn] at BX HX HO HY DV ⊢
 clear sf hr A1 A2 sd sk hrm hkk hsm hpn hp8 hk hk2 hb hoff hkd hn hke
 go_enter Try.func36, Try.ntmps36
 go_upto_region 1 with fail
 generalize (((w.alloc (.cells #[.int .i64 d.1, .int .i64 d.2.1, .slice af n cf] 33)).alloc (.cells #[.int .i64 kd, .string nm, .string tn, .int .i64 off, .slice ad nd cd, .slice ak nk ck] 67)).alloc (.cells #[.int .i64 0, .int .i64 0, .slice none 0 0] 33)) = W1 at *
 obtain ⟨x0, x1, x2⟩ := box3c HX.out
 obtain ⟨o0, o1, o2, o3, o4, o5⟩ := box6c HO.out
 obtain ⟨y0, y1, y2⟩ := box3c HY.out
 have hm := HM.out
 have hkk := HKK.out
 go_upto_region 2 with fail
 clear hm hkk
 obtain rfl | rfl | rfl | rfl | rfl | rfl | rfl | rfl | rfl | rfl : kk = 0 ∨ kk = 1 ∨ kk = 2 ∨ kk = 3 ∨ kk = 4 ∨ kk = 5 ∨ kk = 6 ∨ kk = 7 ∨ kk = 8 ∨ kk = 9 := by omega
 ·have PC := Lib.hid (pcreate_any _ d nm hnm k _ (DV.out _ BX.out) HSM.out HPN.out HK2.out)
  have HD : Hid (createD d nm = opD d 0 nm tn off b ke) := Lib.hid rfl
  have HE : Hid (createE d nm = opE d 0 nm tn off b) := Lib.hid rfl
  rw [HD.out, HE.out] at PC
  obtain ⟨DD, hdd⟩ : ∃ z, z = opD d 0 nm tn off b ke := ⟨_, rfl⟩
  obtain ⟨EE, hee⟩ : ∃ z, z = opE d 0 nm tn off b := ⟨_, rfl⟩
  rw [← hdd, ← hee] at PC
  have HDE := Lib.hid (And.intro hdd hee)
  clear hee HE
  clear HD hdd
  clear DV SD SK HSM HPN HP8 HK2 HBL HOF HKE
  go_wp2_with fail
  refine PC.out.mono ?_
  rintro e w5 ⟨⟨v5, rfl, hv5⟩, hb5⟩
  obtain ⟨a5, c5, rfl, r5⟩ := dv_form hv5
  obtain ⟨fv5, he5, hr5, -⟩ := hv5
  have R5 := Lib.hid r5
  have HR5 := Lib.hid hr5
  have HY5 := Lib.hid ((hb5.block _ (lt_of_some0 HY.out)).trans HY.out)
  have B5 := Lib.hid (btA BX.out hb5)
  obtain ⟨n5, hn5⟩ : ∃ z, z = DD.2.2.length := ⟨_, rfl⟩
  rw [← hn5] at R5 ⊢
  clear hb5 r5 he5 hr5 x0 x1 x2 y0 y1 y2 o0 o1 o2 o3 o4 o5 PC hn5
  obtain ⟨y0, y1, y2⟩ := box3c HY5.out
  have u0 := frozen_of_row w5 (w.heap.size + 2) 0 _ _ HY5.out
  have u1 := frozen_of_row w5 (w.heap.size + 2) 1 _ _ HY5.out
  have u2 := frozen_of_row w5 (w.heap.size + 2) 2 _ _ HY5.out
  go_wp2
  refine pdisk_end rfl (set3c HY5.out) rfl ?_
  rw [← HDE.out.1, ← HDE.out.2]
  exact ⟨⟨_, rfl, _, rfl, HR5.out, rd_mono (rd_boxset HY5.out R5.out) fun _ _ _ => Or.inl trivial⟩, below_set3 B5.out (by omega)⟩
 ·have PC := Lib.hid (pappend_any _ d nm _ b _ (SD.out _ BX.out) HBL.out hnm k (DV.out _ BX.out) HSM.out HPN.out HK2.out)
  have HD : Hid (appendD d nm b = opD d 1 nm tn off b ke) := Lib.hid rfl
  have HE : Hid (appendE d nm b = opE d 1 nm tn off b) := Lib.hid rfl
  rw [HD.out, HE.out] at PC
  obtain ⟨DD, hdd⟩ : ∃ z, z = opD d 1 nm tn off b ke := ⟨_, rfl⟩
  obtain ⟨EE, hee⟩ : ∃ z, z = opE d 1 nm tn off b := ⟨_, rfl⟩
  rw [← hdd, ← hee] at PC
  have HDE := Lib.hid (And.intro hdd hee)
  clear hee HE
  clear HD hdd
  clear DV SD SK HSM HPN HP8 HK2 HBL HOF HKE
  go_wp2_with fail
  refine PC.out.mono ?_
  rintro e w5 ⟨⟨v5, rfl, hv5⟩, hb5⟩
  obtain ⟨a5, c5, rfl, r5⟩ := dv_form hv5
  obtain ⟨fv5, he5, hr5, -⟩ := hv5
  have R5 := Lib.hid r5
  have HR5 := Lib.hid hr5
  have HY5 := Lib.hid ((hb5.block _ (lt_of_some0 HY.out)).trans HY.out)
  have B5 := Lib.hid (btA BX.out hb5)
  obtain ⟨n5, hn5⟩ : ∃ z, z = DD.2.2.length := ⟨_, rfl⟩
  rw [← hn5] at R5 ⊢
  clear hb5 r5 he5 hr5 x0 x1 x2 y0 y1 y2 o0 o1 o2 o3 o4 o5 PC hn5
  obtain ⟨y0, y1, y2⟩ := box3c HY5.out
  have u0 := frozen_of_row w5 (w.heap.size + 2) 0 _ _ HY5.out
  have u1 := frozen_of_row w5 (w.heap.size + 2) 1 _ _ HY5.out
  have u2 := frozen_of_row w5 (w.heap.size + 2) 2 _ _ HY5.out
  go_wp2
  refine pdisk_end rfl (set3c HY5.out) rfl ?_
  rw [← HDE.out.1, ← HDE.out.2]
  exact ⟨⟨_, rfl, _, rfl, HR5.out, rd_mono (rd_boxset HY5.out R5.out) fun _ _ _ => Or.inl trivial⟩, below_set3 B5.out (by omega)⟩
 ·have PC := Lib.hid (pappend_any _ d nm _ b _ (SD.out _ BX.out) HBL.out hnm k (DV.out _ BX.out) HSM.out HPN.out HK2.out)
  have HD : Hid (appendD d nm b = opD d 2 nm tn off b ke) := Lib.hid rfl
  have HE : Hid (appendE d nm b = opE d 2 nm tn off b) := Lib.hid rfl
  rw [HD.out, HE.out] at PC
  obtain ⟨DD, hdd⟩ : ∃ z, z = opD d 2 nm tn off b ke := ⟨_, rfl⟩
  obtain ⟨EE, hee⟩ : ∃ z, z = opE d 2 nm tn off b := ⟨_, rfl⟩
  rw [← hdd, ← hee] at PC
  have HDE := Lib.hid (And.intro hdd hee)
  clear hee HE
  clear HD hdd
  clear DV SD SK HSM HPN HP8 HK2 HBL HOF HKE
  go_wp2_with fail
  refine PC.out.mono ?_
  rintro e w5 ⟨⟨v5, rfl, hv5⟩, hb5⟩
  obtain ⟨a5, c5, rfl, r5⟩ := dv_form hv5
  obtain ⟨fv5, he5, hr5, -⟩ := hv5
  have R5 := Lib.hid r5
  have HR5 := Lib.hid hr5
  have HY5 := Lib.hid ((hb5.block _ (lt_of_some0 HY.out)).trans HY.out)
  have B5 := Lib.hid (btA BX.out hb5)
  obtain ⟨n5, hn5⟩ : ∃ z, z = DD.2.2.length := ⟨_, rfl⟩
  rw [← hn5] at R5 ⊢
  clear hb5 r5 he5 hr5 x0 x1 x2 y0 y1 y2 o0 o1 o2 o3 o4 o5 PC hn5
  obtain ⟨y0, y1, y2⟩ := box3c HY5.out
  have u0 := frozen_of_row w5 (w.heap.size + 2) 0 _ _ HY5.out
  have u1 := frozen_of_row w5 (w.heap.size + 2) 1 _ _ HY5.out
  have u2 := frozen_of_row w5 (w.heap.size + 2) 2 _ _ HY5.out
  go_wp2
  refine pdisk_end rfl (set3c HY5.out) rfl ?_
  rw [← HDE.out.1, ← HDE.out.2]
  exact ⟨⟨_, rfl, _, rfl, HR5.out, rd_mono (rd_boxset HY5.out R5.out) fun _ _ _ => Or.inl trivial⟩, below_set3 B5.out (by omega)⟩
 ·have PC := Lib.hid (pputB_any (B := fun _ => True) _ d nm off HOF.out _ b _ (SD.out _ BX.out) HBL.out hnm k (DV.out _ BX.out) HSM.out HPN.out HK2.out)
  have HD : Hid (putD d nm off b = opD d 3 nm tn off b ke) := Lib.hid rfl
  have HE : Hid (putE d nm off b = opE d 3 nm tn off b) := Lib.hid rfl
  rw [HD.out, HE.out] at PC
  obtain ⟨DD, hdd⟩ : ∃ z, z = opD d 3 nm tn off b ke := ⟨_, rfl⟩
  obtain ⟨EE, hee⟩ : ∃ z, z = opE d 3 nm tn off b := ⟨_, rfl⟩
  rw [← hdd, ← hee] at PC
  have HDE := Lib.hid (And.intro hdd hee)
  clear hee HE
  clear HD hdd
  clear DV SD SK HSM HPN HP8 HK2 HBL HOF HKE
  go_wp2_with fail
  refine PC.out.mono ?_
  rintro e w5 ⟨⟨v5, rfl, hv5⟩, hb5⟩
  obtain ⟨a5, c5, rfl, r5⟩ := dv_form hv5
  obtain ⟨fv5, he5, hr5, -⟩ := hv5
  have R5 := Lib.hid r5
  have HR5 := Lib.hid hr5
  have HY5 := Lib.hid ((hb5.block _ (lt_of_some0 HY.out)).trans HY.out)
  have B5 := Lib.hid (btA BX.out hb5)
  obtain ⟨n5, hn5⟩ : ∃ z, z = DD.2.2.length := ⟨_, rfl⟩
  rw [← hn5] at R5 ⊢
  clear hb5 r5 he5 hr5 x0 x1 x2 y0 y1 y2 o0 o1 o2 o3 o4 o5 PC hn5
  obtain ⟨y0, y1, y2⟩ := box3c HY5.out
  have u0 := frozen_of_row w5 (w.heap.size + 2) 0 _ _ HY5.out
  have u1 := frozen_of_row w5 (w.heap.size + 2) 1 _ _ HY5.out
  have u2 := frozen_of_row w5 (w.heap.size + 2) 2 _ _ HY5.out
  go_wp2
  refine pdisk_end rfl (set3c HY5.out) rfl ?_
  rw [← HDE.out.1, ← HDE.out.2]
  exact ⟨⟨_, rfl, _, rfl, HR5.out, rd_mono (rd_boxset HY5.out R5.out) fun _ _ _ => Or.inl trivial⟩, below_set3 B5.out (by omega)⟩
 ·have PC := Lib.hid (ptruncB_any (B := fun _ => True) _ d nm off HOF.out _ hnm k (DV.out _ BX.out) HSM.out HPN.out HK2.out)
  have HD : Hid (truncD d nm off = opD d 4 nm tn off b ke) := Lib.hid rfl
  have HE : Hid (truncE d nm off = opE d 4 nm tn off b) := Lib.hid rfl
  rw [HD.out, HE.out] at PC
  obtain ⟨DD, hdd⟩ : ∃ z, z = opD d 4 nm tn off b ke := ⟨_, rfl⟩
  obtain ⟨EE, hee⟩ : ∃ z, z = opE d 4 nm tn off b := ⟨_, rfl⟩
  rw [← hdd, ← hee] at PC
  have HDE := Lib.hid (And.intro hdd hee)
  clear hee HE
  clear HD hdd
  clear DV SD SK HSM HPN HP8 HK2 HBL HOF HKE
  go_wp2_with fail
  refine PC.out.mono ?_
  rintro e w5 ⟨⟨v5, rfl, hv5⟩, hb5⟩
  obtain ⟨a5, c5, rfl, r5⟩ := dv_form hv5
  obtain ⟨fv5, he5, hr5, -⟩ := hv5
  have R5 := Lib.hid r5
  have HR5 := Lib.hid hr5
  have HY5 := Lib.hid ((hb5.block _ (lt_of_some0 HY.out)).trans HY.out)
  have B5 := Lib.hid (btA BX.out hb5)
  obtain ⟨n5, hn5⟩ : ∃ z, z = DD.2.2.length := ⟨_, rfl⟩
  rw [← hn5] at R5 ⊢
  clear hb5 r5 he5 hr5 x0 x1 x2 y0 y1 y2 o0 o1 o2 o3 o4 o5 PC hn5
  obtain ⟨y0, y1, y2⟩ := box3c HY5.out
  have u0 := frozen_of_row w5 (w.heap.size + 2) 0 _ _ HY5.out
  have u1 := frozen_of_row w5 (w.heap.size + 2) 1 _ _ HY5.out
  have u2 := frozen_of_row w5 (w.heap.size + 2) 2 _ _ HY5.out
  go_wp2
  refine pdisk_end rfl (set3c HY5.out) rfl ?_
  rw [← HDE.out.1, ← HDE.out.2]
  exact ⟨⟨_, rfl, _, rfl, HR5.out, rd_mono (rd_boxset HY5.out R5.out) fun _ _ _ => Or.inl trivial⟩, below_set3 B5.out (by omega)⟩
 ·have PC := Lib.hid (psync_any _ d nm hnm k _ (DV.out _ BX.out) HSM.out HPN.out HK2.out)
  have HD : Hid (syncD d nm = opD d 5 nm tn off b ke) := Lib.hid rfl
  have HE : Hid (atE d nm = opE d 5 nm tn off b) := Lib.hid rfl
  rw [HD.out, HE.out] at PC
  obtain ⟨DD, hdd⟩ : ∃ z, z = opD d 5 nm tn off b ke := ⟨_, rfl⟩
  obtain ⟨EE, hee⟩ : ∃ z, z = opE d 5 nm tn off b := ⟨_, rfl⟩
  rw [← hdd, ← hee] at PC
  have HDE := Lib.hid (And.intro hdd hee)
  clear hee HE
  clear HD hdd
  clear DV SD SK HSM HPN HP8 HK2 HBL HOF HKE
  go_wp2_with fail
  refine PC.out.mono ?_
  rintro e w5 ⟨⟨v5, rfl, hv5⟩, hb5⟩
  obtain ⟨a5, c5, rfl, r5⟩ := dv_form hv5
  obtain ⟨fv5, he5, hr5, -⟩ := hv5
  have R5 := Lib.hid r5
  have HR5 := Lib.hid hr5
  have HY5 := Lib.hid ((hb5.block _ (lt_of_some0 HY.out)).trans HY.out)
  have B5 := Lib.hid (btA BX.out hb5)
  obtain ⟨n5, hn5⟩ : ∃ z, z = DD.2.2.length := ⟨_, rfl⟩
  rw [← hn5] at R5 ⊢
  clear hb5 r5 he5 hr5 x0 x1 x2 y0 y1 y2 o0 o1 o2 o3 o4 o5 PC hn5
  obtain ⟨y0, y1, y2⟩ := box3c HY5.out
  have u0 := frozen_of_row w5 (w.heap.size + 2) 0 _ _ HY5.out
  have u1 := frozen_of_row w5 (w.heap.size + 2) 1 _ _ HY5.out
  have u2 := frozen_of_row w5 (w.heap.size + 2) 2 _ _ HY5.out
  go_wp2
  refine pdisk_end rfl (set3c HY5.out) rfl ?_
  rw [← HDE.out.1, ← HDE.out.2]
  exact ⟨⟨_, rfl, _, rfl, HR5.out, rd_mono (rd_boxset HY5.out R5.out) fun _ _ _ => Or.inl trivial⟩, below_set3 B5.out (by omega)⟩
 ·have PC := Lib.hid (prename_any _ d nm tn htn hnm k _ (DV.out _ BX.out) HSM.out HPN.out HK2.out)
  have HD : Hid (renameD d nm tn = opD d 6 nm tn off b ke) := Lib.hid rfl
  have HE : Hid (renameE d nm tn = opE d 6 nm tn off b) := Lib.hid rfl
  rw [HD.out, HE.out] at PC
  obtain ⟨DD, hdd⟩ : ∃ z, z = opD d 6 nm tn off b ke := ⟨_, rfl⟩
  obtain ⟨EE, hee⟩ : ∃ z, z = opE d 6 nm tn off b := ⟨_, rfl⟩
  rw [← hdd, ← hee] at PC
  have HDE := Lib.hid (And.intro hdd hee)
  clear hee HE
  clear HD hdd
  clear DV SD SK HSM HPN HP8 HK2 HBL HOF HKE
  go_wp2_with fail
  refine PC.out.mono ?_
  rintro e w5 ⟨⟨v5, rfl, hv5⟩, hb5⟩
  obtain ⟨a5, c5, rfl, r5⟩ := dv_form hv5
  obtain ⟨fv5, he5, hr5, -⟩ := hv5
  have R5 := Lib.hid r5
  have HR5 := Lib.hid hr5
  have HY5 := Lib.hid ((hb5.block _ (lt_of_some0 HY.out)).trans HY.out)
  have B5 := Lib.hid (btA BX.out hb5)
  obtain ⟨n5, hn5⟩ : ∃ z, z = DD.2.2.length := ⟨_, rfl⟩
  rw [← hn5] at R5 ⊢
  clear hb5 r5 he5 hr5 x0 x1 x2 y0 y1 y2 o0 o1 o2 o3 o4 o5 PC hn5
  obtain ⟨y0, y1, y2⟩ := box3c HY5.out
  have u0 := frozen_of_row w5 (w.heap.size + 2) 0 _ _ HY5.out
  have u1 := frozen_of_row w5 (w.heap.size + 2) 1 _ _ HY5.out
  have u2 := frozen_of_row w5 (w.heap.size + 2) 2 _ _ HY5.out
  go_wp2
  refine pdisk_end rfl (set3c HY5.out) rfl ?_
  rw [← HDE.out.1, ← HDE.out.2]
  exact ⟨⟨_, rfl, _, rfl, HR5.out, rd_mono (rd_boxset HY5.out R5.out) fun _ _ _ => Or.inl trivial⟩, below_set3 B5.out (by omega)⟩
 ·have PC := Lib.hid (premove_any _ d nm hnm k _ (DV.out _ BX.out) HSM.out HPN.out HK2.out)
  have HD : Hid (removeD d nm = opD d 7 nm tn off b ke) := Lib.hid rfl
  have HE : Hid (atE d nm = opE d 7 nm tn off b) := Lib.hid rfl
  rw [HD.out, HE.out] at PC
  obtain ⟨DD, hdd⟩ : ∃ z, z = opD d 7 nm tn off b ke := ⟨_, rfl⟩
  obtain ⟨EE, hee⟩ : ∃ z, z = opE d 7 nm tn off b := ⟨_, rfl⟩
  rw [← hdd, ← hee] at PC
  have HDE := Lib.hid (And.intro hdd hee)
  clear hee HE
  clear HD hdd
  clear DV SD SK HSM HPN HP8 HK2 HBL HOF HKE
  go_wp2_with fail
  refine PC.out.mono ?_
  rintro e w5 ⟨⟨v5, rfl, hv5⟩, hb5⟩
  obtain ⟨a5, c5, rfl, r5⟩ := dv_form hv5
  obtain ⟨fv5, he5, hr5, -⟩ := hv5
  have R5 := Lib.hid r5
  have HR5 := Lib.hid hr5
  have HY5 := Lib.hid ((hb5.block _ (lt_of_some0 HY.out)).trans HY.out)
  have B5 := Lib.hid (btA BX.out hb5)
  obtain ⟨n5, hn5⟩ : ∃ z, z = DD.2.2.length := ⟨_, rfl⟩
  rw [← hn5] at R5 ⊢
  clear hb5 r5 he5 hr5 x0 x1 x2 y0 y1 y2 o0 o1 o2 o3 o4 o5 PC hn5
  obtain ⟨y0, y1, y2⟩ := box3c HY5.out
  have u0 := frozen_of_row w5 (w.heap.size + 2) 0 _ _ HY5.out
  have u1 := frozen_of_row w5 (w.heap.size + 2) 1 _ _ HY5.out
  have u2 := frozen_of_row w5 (w.heap.size + 2) 2 _ _ HY5.out
  go_wp2
  refine pdisk_end rfl (set3c HY5.out) rfl ?_
  rw [← HDE.out.1, ← HDE.out.2]
  exact ⟨⟨_, rfl, _, rfl, HR5.out, rd_mono (rd_boxset HY5.out R5.out) fun _ _ _ => Or.inl trivial⟩, below_set3 B5.out (by omega)⟩
 ·have PK := Lib.hid (fun W (h : Below w.heap.size w W) => keeps10_any (.slice ak nk ck) ke W (SK.out W h) (Nat.le_trans HKE.out (by decide)))
  have PC := Lib.hid (fun W (h : Below w.heap.size w W) kv (hkv : Rd (fun _ => True) W (.sl tyK) [kv] ke) => pcrash_any _ kv d ke W (DV.out W h) HSM.out HP8.out hkv HKE.out)
  have HD : Hid (crashD d ke = opD d 8 nm tn off b ke) := Lib.hid rfl
  rw [HD.out] at PC
  obtain ⟨DD, hdd⟩ : ∃ z, z = opD d 8 nm tn off b ke := ⟨_, rfl⟩
  rw [← hdd] at PC
  have HDE := Lib.hid hdd
  clear HD hdd
  clear DV SD SK HSM HPN HP8 HK2 HBL HOF HKE
  go_upto_region 18 with fail
  have S0 : SBx w [(w.heap.size, .cells #[.int .i64 d.1, .int .i64 d.2.1, .slice af n cf] 33 (0, 0)), (w.heap.size + 1, .cells #[.int .i64 kd, .string nm, .string tn, .int .i64 off, .slice ad nd cd, .slice ak nk ck] 67 (0, 0))] W1.drew := ⟨BX.out.drew, fun p hp => by
   rcases List.mem_cons.1 hp with rfl | hp
   ·exact HX.out
   ·rw [List.mem_singleton.1 hp]; exact HO.out⟩
  refine wp_onlyN ?_
  refine wp_region_headsS (SBx w [(w.heap.size, .cells #[.int .i64 d.1, .int .i64 d.2.1, .slice af n cf] 33 (0, 0)), (w.heap.size + 1, .cells #[.int .i64 kd, .string nm, .string tn, .int .i64 off, .slice ad nd cd, .slice ak nk ck] 67 (0, 0))]) [0, 1, 2] 4 (by kernel_rfl) (fun _ _ _ _ _ h => h.elim) (by kernel_rfl) (by rfl) (by rfl) S0 ?_
  simp only [pickOps, List.filterMap_cons, List.filterMap_nil, List.getElem?_toArray, List.getElem?_cons_zero, List.getElem?_cons_succ]
  refine wpHeads_step (fun K hK => ?_)
  go_simp
  refine ⟨.agg #[.int .i64 d.1, .int .i64 d.2.1, .slice af n cf], fun w' hw' => by
   obtain ⟨q0, q1, q2⟩ := box3c (hw'.box _ (List.mem_cons_self ..))
   simp [q0, q1, q2], hK _ ?_⟩
  clear hK K
  refine wpHeads_step (fun K hK => ?_)
  go_simp
  refine ⟨_, fun _ _ => rfl, hK _ ?_⟩
  clear hK K
  refine wpHeads_step (fun K hK => ?_)
  go_simp
  refine ⟨.slice ak nk ck, fun w' hw' => by
   obtain ⟨q0, q1, q2, q3, q4, q5⟩ := box6c (hw'.box _ (List.mem_cons_of_mem _ (List.mem_cons_self ..)))
   simp [q5], hK _ ?_⟩
  clear hK K
  refine wpHeads_nil ?_
  have SS := Lib.hid S0
  have HYD : Hid (W1.drew.heap[w.heap.size + 2]? = some (.cells #[.int .i64 0, .int .i64 0, .slice none 0 0] 33 (0, 0))) := Lib.hid HY.out
  generalize W1.drew = WD at *
  clear S0 x0 x1 x2 y0 y1 y2 o0 o1 o2 o3 o4 o5 HX HO HY BX
  refine held_one 3 rfl rfl (by kernel_rfl) fun K hK => ?_
  go_simp
  go_at_call 43
  refine (PK.out _ SS.out.bel).mono ?_
  rintro e w4 ⟨⟨v4, rfl, hv4⟩, hb4⟩
  refine hK _ _ (SS.out.below hb4) ?_
  clear hK K
  have S4 := Lib.hid (SS.out.below hb4)
  have HY4 := Lib.hid ((hb4.block _ (lt_of_some0 HYD.out)).trans HYD.out)
  have PC2 := Lib.hid (PC.out _ S4.out.bel v4 hv4)
  obtain ⟨a4, c4, rfl, -, -⟩ := rd_sl hv4
  clear hv4 hb4 PC PK SS HYD
  refine held_one 4 rfl rfl (by kernel_rfl) fun K hK => ?_
  go_simp
  go_at_call 42
  refine PC2.out.mono ?_
  rintro e w5 ⟨⟨v5, rfl, hv5⟩, hb5⟩
  refine hK _ _ (S4.out.below hb5) ?_
  clear hK K
  have S5 := Lib.hid (S4.out.below hb5)
  obtain ⟨a5, c5, rfl, r5⟩ := dv_form hv5
  obtain ⟨fv5, he5, hr5, -⟩ := hv5
  have R5 := Lib.hid r5
  have HR5 := Lib.hid hr5
  have HY5 := Lib.hid ((hb5.block _ (lt_of_some0 HY4.out)).trans HY4.out)
  obtain ⟨n5, hn5⟩ : ∃ z, z = DD.2.2.length := ⟨_, rfl⟩
  rw [← hn5] at R5 ⊢
  have HN5 := Lib.hid hn5
  clear hb5 r5 he5 hr5 PC2 S4 HY4
  obtain ⟨y0, y1, y2⟩ := box3c HY5.out
  have u0 := frozen_of_row w5 (w.heap.size + 2) 0 _ _ HY5.out
  have u1 := frozen_of_row w5 (w.heap.size + 2) 1 _ _ HY5.out
  have u2 := frozen_of_row w5 (w.heap.size + 2) 2 _ _ HY5.out
  refine held_one 5 rfl rfl (by kernel_rfl) fun K hK => ?_
  go_simp
  refine hK _ _ (S5.out.set3 (by omega) (fun p hp => by
   rcases List.mem_cons.1 hp with rfl | hp
   ·show w.heap.size ≠ w.heap.size + 2; omega
   ·rw [List.mem_singleton.1 hp]; show w.heap.size + 1 ≠ w.heap.size + 2; omega)) ?_
  clear hK K
  refine held_one 6 rfl rfl (by kernel_rfl) fun K hK => ?_
  go_simp
  refine hK _ _ (S5.out.set3 (by omega) (fun p hp => by
   rcases List.mem_cons.1 hp with rfl | hp
   ·show w.heap.size ≠ w.heap.size + 2; omega
   ·rw [List.mem_singleton.1 hp]; show w.heap.size + 1 ≠ w.heap.size + 2; omega)) ?_
  clear hK K
  refine wpAnyH_done (by kernel_rfl) ?_ _
  unfold onlyN
  dsimp only
  clear y0 y1 y2 u0 u1 u2
  go_wp2
  refine pdisk_end rfl (set3c HY5.out) rfl ?_
  rw [← HDE.out]
  exact ⟨⟨_, rfl, _, rfl, HR5.out, by first | exact rd_mono (rd_boxset HY5.out R5.out) fun _ _ _ => Or.inl trivial | (rw [← HN5.out]; exact rd_mono (rd_boxset HY5.out R5.out) fun _ _ _ => Or.inl trivial)⟩, below_set3 S5.out.bel (by omega)⟩
 ·have PC := Lib.hid (pflip_any _ d nm off HOF.out hnm _ (DV.out _ BX.out) HSM.out)
  have HD : Hid (flipD d nm off = opD d 9 nm tn off b ke) := Lib.hid rfl
  have HE : Hid (flipE d nm off = opE d 9 nm tn off b) := Lib.hid rfl
  rw [HD.out, HE.out] at PC
  obtain ⟨DD, hdd⟩ : ∃ z, z = opD d 9 nm tn off b ke := ⟨_, rfl⟩
  obtain ⟨EE, hee⟩ : ∃ z, z = opE d 9 nm tn off b := ⟨_, rfl⟩
  rw [← hdd, ← hee] at PC
  have HDE := Lib.hid (And.intro hdd hee)
  clear hee HE
  clear HD hdd
  clear DV SD SK HSM HPN HP8 HK2 HBL HOF HKE
  go_wp2_with fail
  refine PC.out.mono ?_
  rintro e w5 ⟨⟨v5, rfl, hv5⟩, hb5⟩
  obtain ⟨a5, c5, rfl, r5⟩ := dv_form hv5
  obtain ⟨fv5, he5, hr5, -⟩ := hv5
  have R5 := Lib.hid r5
  have HR5 := Lib.hid hr5
  have HY5 := Lib.hid ((hb5.block _ (lt_of_some0 HY.out)).trans HY.out)
  have B5 := Lib.hid (btA BX.out hb5)
  obtain ⟨n5, hn5⟩ : ∃ z, z = DD.2.2.length := ⟨_, rfl⟩
  rw [← hn5] at R5 ⊢
  clear hb5 r5 he5 hr5 x0 x1 x2 y0 y1 y2 o0 o1 o2 o3 o4 o5 PC hn5
  obtain ⟨y0, y1, y2⟩ := box3c HY5.out
  have u0 := frozen_of_row w5 (w.heap.size + 2) 0 _ _ HY5.out
  have u1 := frozen_of_row w5 (w.heap.size + 2) 1 _ _ HY5.out
  have u2 := frozen_of_row w5 (w.heap.size + 2) 2 _ _ HY5.out
  go_wp2
  refine pdisk_end rfl (set3c HY5.out) rfl ?_
  rw [← HDE.out.1, ← HDE.out.2]
  exact ⟨⟨_, rfl, _, rfl, HR5.out, rd_mono (rd_boxset HY5.out R5.out) fun _ _ _ => Or.inl trivial⟩, below_set3 B5.out (by omega)⟩
set_option maxRecDepth 100000 in
set_option maxHeartbeats 12800000 in
theorem want_any (v : Value) (d : Dk) (kd : Int) (kk : Nat) (nm tn : ByteArray) (off : Int) (ad ak : Option Addr) (nd cd nk ck : Nat) (b : List Nat) (ke : List Kep) (w : World) (hv : Dv w v d) (hsm : SmD d) (k : Nat) (hpn : PnD d k) (hk : k ≤ 80000) (hkd : -9223372036854775808 ≤ kd ∧ kd ≤ 9223372036854775807) (hkk : Int.tmod (Int.tmod kd 10 + 10) 10 = (kk : Int)) (hk9 : kk ≤ 9) (hoff : -9223372036854775808 ≤ off ∧ off ≤ 9223372036854775807) (hnm : nm.size ≤ maxLen) (htn : tn.size ≤ maxLen) (hb : b.length ≤ 1099511627776) (sd : Sl w (.slice ad nd cd) b) (sk : Rd (fun _ => True) w (.sl tyK) [.slice ak nk ck] ke) (hke : ke.length ≤ 19) : Calls Try.prog 37 #[v, .agg #[.int .i64 kd, .string nm, .string tn, .int .i64 off, .slice ad nd cd, .slice ak nk ck]] w (DE (fun _ => True) w (opD d kk nm tn off b ke) (opE d kk nm tn off b)) := by
 have hk2 : k ≤ 89990 := by omega
 have hp8 : PnD d 80000 := fun f hf => Nat.le_trans (hpn f hf) hk
 obtain ⟨fv, rfl, hr, sf⟩ := hv
 obtain ⟨af, cf, rfl, -, -⟩ := rd_sl sf
 have A1 := bel_al0 w (.cells #[.int .i64 d.1, .int .i64 d.2.1, .slice af d.2.2.length cf] 24)
 have A2 := btA A1 (bel_al0 _ (.cells #[.int .i64 kd, .string nm, .string tn, .int .i64 off, .slice ad nd cd, .slice ak nk ck] 67))
 have BX := Lib.hid (btA A2 (bel_al0 _ (.cells #[.int .i64 0, .int .i64 0, .slice none 0 0] 24)))
 have HX := Lib.hid (show (((w.alloc (.cells #[.int .i64 d.1, .int .i64 d.2.1, .slice af d.2.2.length cf] 24)).alloc (.cells #[.int .i64 kd, .string nm, .string tn, .int .i64 off, .slice ad nd cd, .slice ak nk ck] 67)).alloc (.cells #[.int .i64 0, .int .i64 0, .slice none 0 0] 24)).heap[w.heap.size]? = some (.cells #[.int .i64 d.1, .int .i64 d.2.1, .slice af d.2.2.length cf] 24 (0, 0)) from (al_old (by simp; omega)).trans ((al_old (by simp)).trans (heap_alloc_new w _)))
 have HO := Lib.hid (show (((w.alloc (.cells #[.int .i64 d.1, .int .i64 d.2.1, .slice af d.2.2.length cf] 24)).alloc (.cells #[.int .i64 kd, .string nm, .string tn, .int .i64 off, .slice ad nd cd, .slice ak nk ck] 67)).alloc (.cells #[.int .i64 0, .int .i64 0, .slice none 0 0] 24)).heap[w.heap.size + 1]? = some (.cells #[.int .i64 kd, .string nm, .string tn, .int .i64 off, .slice ad nd cd, .slice ak nk ck] 67 (0, 0)) from (al_old (by simp)).trans (heap_alloc2_new w _ _))
 have HY := Lib.hid (show (((w.alloc (.cells #[.int .i64 d.1, .int .i64 d.2.1, .slice af d.2.2.length cf] 24)).alloc (.cells #[.int .i64 kd, .string nm, .string tn, .int .i64 off, .slice ad nd cd, .slice ak nk ck] 67)).alloc (.cells #[.int .i64 0, .int .i64 0, .slice none 0 0] 24)).heap[w.heap.size + 2]? = some (.cells #[.int .i64 0, .int .i64 0, .slice none 0 0] 24 (0, 0)) from by
  have h := heap_alloc2_new (w.alloc (.cells #[.int .i64 d.1, .int .i64 d.2.1, .slice af d.2.2.length cf] 24)) (.cells #[.int .i64 kd, .string nm, .string tn, .int .i64 off, .slice ad nd cd, .slice ak nk ck] 67) (.cells #[.int .i64 0, .int .i64 0, .slice none 0 0] 24)
  simpa [Nat.add_assoc] using h)
 have DV := Lib.hid (fun W (h : Below w.heap.size w W) => dv_below (show Dv w (.agg #[.int .i64 d.1, .int .i64 d.2.1, .slice af d.2.2.length cf]) d from ⟨_, rfl, hr, sf⟩) h)
 have SD := Lib.hid (fun W (h : Below w.heap.size w W) => sl_below sd h)
 have SK := Lib.hid (fun W (h : Below w.heap.size w W) => rd_below sk h)
 have hrm : -10 < Int.tmod kd 10 ∧ Int.tmod kd 10 < 10 := by
  rcases Int.le_total 0 kd with h | h
  ·rw [Int.tmod_eq_emod_of_nonneg h]; omega
  ·have h2 : Int.tmod kd 10 = -Int.tmod (-kd) 10 := by rw [Int.neg_tmod]; omega
   rw [h2, Int.tmod_eq_emod_of_nonneg (by omega)]
   omega
 have HM := Lib.hid (show IntKind.i64.wrap (Int.tmod kd 10 + 10) = Int.tmod kd 10 + 10 from IntWalk.i64_in _ (by omega))
 have HKK := Lib.hid hkk
 have HSM := Lib.hid hsm
 have HPN := Lib.hid hpn
 have HP8 := Lib.hid hp8
 have HK2 := Lib.hid hk2
 have HBL := Lib.hid hb
 have HOF := Lib.hid hoff
 have HKE := Lib.hid hke
 obtain ⟨n, hn⟩ : ∃ z, z = d.2.2.length := ⟨_, rfl⟩
 rw [← hn] at BX HX HO HY DV ⊢
 clear sf hr A1 A2 sd sk hrm hkk hsm hpn hp8 hk hk2 hb hoff hkd hn hke
 go_enter Try.func37, Try.ntmps37
 go_upto_region 1 with fail
 generalize (((w.alloc (.cells #[.int .i64 d.1, .int .i64 d.2.1, .slice af n cf] 24)).alloc (.cells #[.int .i64 kd, .string nm, .string tn, .int .i64 off, .slice ad nd cd, .slice ak nk ck] 67)).alloc (.cells #[.int .i64 0, .int .i64 0, .slice none 0 0] 24)) = W1 at *
 obtain ⟨x0, x1, x2⟩ := box3c HX.out
 obtain ⟨o0, o1, o2, o3, o4, o5⟩ := box6c HO.out
 obtain ⟨y0, y1, y2⟩ := box3c HY.out
 have hm := HM.out
 have hkk := HKK.out
 go_upto_region 2 with fail
 clear hm hkk
 obtain rfl | rfl | rfl | rfl | rfl | rfl | rfl | rfl | rfl | rfl : kk = 0 ∨ kk = 1 ∨ kk = 2 ∨ kk = 3 ∨ kk = 4 ∨ kk = 5 ∨ kk = 6 ∨ kk = 7 ∨ kk = 8 ∨ kk = 9 := by omega
 ·have PC := Lib.hid (rcreate_any _ d nm hnm _ (DV.out _ BX.out))
  have HD : Hid (createD d nm = opD d 0 nm tn off b ke) := Lib.hid rfl
  have HE : Hid (createE d nm = opE d 0 nm tn off b) := Lib.hid rfl
  rw [HD.out, HE.out] at PC
  obtain ⟨DD, hdd⟩ : ∃ z, z = opD d 0 nm tn off b ke := ⟨_, rfl⟩
  obtain ⟨EE, hee⟩ : ∃ z, z = opE d 0 nm tn off b := ⟨_, rfl⟩
  rw [← hdd, ← hee] at PC
  have HDE := Lib.hid (And.intro hdd hee)
  clear hee HE
  clear HD hdd
  clear DV SD SK HSM HPN HP8 HK2 HBL HOF HKE
  go_wp2_with fail
  refine PC.out.mono ?_
  rintro e w5 ⟨⟨v5, rfl, hv5⟩, hb5⟩
  obtain ⟨a5, c5, rfl, r5⟩ := dv_form hv5
  obtain ⟨fv5, he5, hr5, -⟩ := hv5
  have R5 := Lib.hid r5
  have HR5 := Lib.hid hr5
  have HY5 := Lib.hid ((hb5.block _ (lt_of_some0 HY.out)).trans HY.out)
  have B5 := Lib.hid (btA BX.out hb5)
  obtain ⟨n5, hn5⟩ : ∃ z, z = DD.2.2.length := ⟨_, rfl⟩
  rw [← hn5] at R5 ⊢
  clear hb5 r5 he5 hr5 x0 x1 x2 y0 y1 y2 o0 o1 o2 o3 o4 o5 PC hn5
  obtain ⟨y0, y1, y2⟩ := box3c HY5.out
  have u0 := frozen_of_row w5 (w.heap.size + 2) 0 _ _ HY5.out
  have u1 := frozen_of_row w5 (w.heap.size + 2) 1 _ _ HY5.out
  have u2 := frozen_of_row w5 (w.heap.size + 2) 2 _ _ HY5.out
  go_wp2
  refine rdisk_end rfl (set3c HY5.out) rfl ?_
  rw [← HDE.out.1, ← HDE.out.2]
  exact ⟨⟨_, rfl, _, rfl, HR5.out, rd_mono (rd_boxset HY5.out R5.out) fun _ _ _ => Or.inl trivial⟩, below_set3 B5.out (by omega)⟩
 ·have PC := Lib.hid (rappend_any _ d nm _ b _ (SD.out _ BX.out) HBL.out hnm k (DV.out _ BX.out) HPN.out HK2.out)
  have HD : Hid (appendD d nm b = opD d 1 nm tn off b ke) := Lib.hid rfl
  have HE : Hid (appendE d nm b = opE d 1 nm tn off b) := Lib.hid rfl
  rw [HD.out, HE.out] at PC
  obtain ⟨DD, hdd⟩ : ∃ z, z = opD d 1 nm tn off b ke := ⟨_, rfl⟩
  obtain ⟨EE, hee⟩ : ∃ z, z = opE d 1 nm tn off b := ⟨_, rfl⟩
  rw [← hdd, ← hee] at PC
  have HDE := Lib.hid (And.intro hdd hee)
  clear hee HE
  clear HD hdd
  clear DV SD SK HSM HPN HP8 HK2 HBL HOF HKE
  go_wp2_with fail
  refine PC.out.mono ?_
  rintro e w5 ⟨⟨v5, rfl, hv5⟩, hb5⟩
  obtain ⟨a5, c5, rfl, r5⟩ := dv_form hv5
  obtain ⟨fv5, he5, hr5, -⟩ := hv5
  have R5 := Lib.hid r5
  have HR5 := Lib.hid hr5
  have HY5 := Lib.hid ((hb5.block _ (lt_of_some0 HY.out)).trans HY.out)
  have B5 := Lib.hid (btA BX.out hb5)
  obtain ⟨n5, hn5⟩ : ∃ z, z = DD.2.2.length := ⟨_, rfl⟩
  rw [← hn5] at R5 ⊢
  clear hb5 r5 he5 hr5 x0 x1 x2 y0 y1 y2 o0 o1 o2 o3 o4 o5 PC hn5
  obtain ⟨y0, y1, y2⟩ := box3c HY5.out
  have u0 := frozen_of_row w5 (w.heap.size + 2) 0 _ _ HY5.out
  have u1 := frozen_of_row w5 (w.heap.size + 2) 1 _ _ HY5.out
  have u2 := frozen_of_row w5 (w.heap.size + 2) 2 _ _ HY5.out
  go_wp2
  refine rdisk_end rfl (set3c HY5.out) rfl ?_
  rw [← HDE.out.1, ← HDE.out.2]
  exact ⟨⟨_, rfl, _, rfl, HR5.out, rd_mono (rd_boxset HY5.out R5.out) fun _ _ _ => Or.inl trivial⟩, below_set3 B5.out (by omega)⟩
 ·have PC := Lib.hid (rappend_any _ d nm _ b _ (SD.out _ BX.out) HBL.out hnm k (DV.out _ BX.out) HPN.out HK2.out)
  have HD : Hid (appendD d nm b = opD d 2 nm tn off b ke) := Lib.hid rfl
  have HE : Hid (appendE d nm b = opE d 2 nm tn off b) := Lib.hid rfl
  rw [HD.out, HE.out] at PC
  obtain ⟨DD, hdd⟩ : ∃ z, z = opD d 2 nm tn off b ke := ⟨_, rfl⟩
  obtain ⟨EE, hee⟩ : ∃ z, z = opE d 2 nm tn off b := ⟨_, rfl⟩
  rw [← hdd, ← hee] at PC
  have HDE := Lib.hid (And.intro hdd hee)
  clear hee HE
  clear HD hdd
  clear DV SD SK HSM HPN HP8 HK2 HBL HOF HKE
  go_wp2_with fail
  refine PC.out.mono ?_
  rintro e w5 ⟨⟨v5, rfl, hv5⟩, hb5⟩
  obtain ⟨a5, c5, rfl, r5⟩ := dv_form hv5
  obtain ⟨fv5, he5, hr5, -⟩ := hv5
  have R5 := Lib.hid r5
  have HR5 := Lib.hid hr5
  have HY5 := Lib.hid ((hb5.block _ (lt_of_some0 HY.out)).trans HY.out)
  have B5 := Lib.hid (btA BX.out hb5)
  obtain ⟨n5, hn5⟩ : ∃ z, z = DD.2.2.length := ⟨_, rfl⟩
  rw [← hn5] at R5 ⊢
  clear hb5 r5 he5 hr5 x0 x1 x2 y0 y1 y2 o0 o1 o2 o3 o4 o5 PC hn5
  obtain ⟨y0, y1, y2⟩ := box3c HY5.out
  have u0 := frozen_of_row w5 (w.heap.size + 2) 0 _ _ HY5.out
  have u1 := frozen_of_row w5 (w.heap.size + 2) 1 _ _ HY5.out
  have u2 := frozen_of_row w5 (w.heap.size + 2) 2 _ _ HY5.out
  go_wp2
  refine rdisk_end rfl (set3c HY5.out) rfl ?_
  rw [← HDE.out.1, ← HDE.out.2]
  exact ⟨⟨_, rfl, _, rfl, HR5.out, rd_mono (rd_boxset HY5.out R5.out) fun _ _ _ => Or.inl trivial⟩, below_set3 B5.out (by omega)⟩
 ·have PC := Lib.hid (rput_any _ d nm off _ b _ HOF.out (SD.out _ BX.out) HBL.out hnm k (DV.out _ BX.out) HPN.out HK2.out)
  have HD : Hid (putD d nm off b = opD d 3 nm tn off b ke) := Lib.hid rfl
  have HE : Hid (putE d nm off b = opE d 3 nm tn off b) := Lib.hid rfl
  rw [HD.out, HE.out] at PC
  obtain ⟨DD, hdd⟩ : ∃ z, z = opD d 3 nm tn off b ke := ⟨_, rfl⟩
  obtain ⟨EE, hee⟩ : ∃ z, z = opE d 3 nm tn off b := ⟨_, rfl⟩
  rw [← hdd, ← hee] at PC
  have HDE := Lib.hid (And.intro hdd hee)
  clear hee HE
  clear HD hdd
  clear DV SD SK HSM HPN HP8 HK2 HBL HOF HKE
  go_wp2_with fail
  refine PC.out.mono ?_
  rintro e w5 ⟨⟨v5, rfl, hv5⟩, hb5⟩
  obtain ⟨a5, c5, rfl, r5⟩ := dv_form hv5
  obtain ⟨fv5, he5, hr5, -⟩ := hv5
  have R5 := Lib.hid r5
  have HR5 := Lib.hid hr5
  have HY5 := Lib.hid ((hb5.block _ (lt_of_some0 HY.out)).trans HY.out)
  have B5 := Lib.hid (btA BX.out hb5)
  obtain ⟨n5, hn5⟩ : ∃ z, z = DD.2.2.length := ⟨_, rfl⟩
  rw [← hn5] at R5 ⊢
  clear hb5 r5 he5 hr5 x0 x1 x2 y0 y1 y2 o0 o1 o2 o3 o4 o5 PC hn5
  obtain ⟨y0, y1, y2⟩ := box3c HY5.out
  have u0 := frozen_of_row w5 (w.heap.size + 2) 0 _ _ HY5.out
  have u1 := frozen_of_row w5 (w.heap.size + 2) 1 _ _ HY5.out
  have u2 := frozen_of_row w5 (w.heap.size + 2) 2 _ _ HY5.out
  go_wp2
  refine rdisk_end rfl (set3c HY5.out) rfl ?_
  rw [← HDE.out.1, ← HDE.out.2]
  exact ⟨⟨_, rfl, _, rfl, HR5.out, rd_mono (rd_boxset HY5.out R5.out) fun _ _ _ => Or.inl trivial⟩, below_set3 B5.out (by omega)⟩
 ·have PC := Lib.hid (rtrunc_any _ d nm off _ HOF.out hnm k (DV.out _ BX.out) HPN.out HK2.out)
  have HD : Hid (truncD d nm off = opD d 4 nm tn off b ke) := Lib.hid rfl
  have HE : Hid (truncE d nm off = opE d 4 nm tn off b) := Lib.hid rfl
  rw [HD.out, HE.out] at PC
  obtain ⟨DD, hdd⟩ : ∃ z, z = opD d 4 nm tn off b ke := ⟨_, rfl⟩
  obtain ⟨EE, hee⟩ : ∃ z, z = opE d 4 nm tn off b := ⟨_, rfl⟩
  rw [← hdd, ← hee] at PC
  have HDE := Lib.hid (And.intro hdd hee)
  clear hee HE
  clear HD hdd
  clear DV SD SK HSM HPN HP8 HK2 HBL HOF HKE
  go_wp2_with fail
  refine PC.out.mono ?_
  rintro e w5 ⟨⟨v5, rfl, hv5⟩, hb5⟩
  obtain ⟨a5, c5, rfl, r5⟩ := dv_form hv5
  obtain ⟨fv5, he5, hr5, -⟩ := hv5
  have R5 := Lib.hid r5
  have HR5 := Lib.hid hr5
  have HY5 := Lib.hid ((hb5.block _ (lt_of_some0 HY.out)).trans HY.out)
  have B5 := Lib.hid (btA BX.out hb5)
  obtain ⟨n5, hn5⟩ : ∃ z, z = DD.2.2.length := ⟨_, rfl⟩
  rw [← hn5] at R5 ⊢
  clear hb5 r5 he5 hr5 x0 x1 x2 y0 y1 y2 o0 o1 o2 o3 o4 o5 PC hn5
  obtain ⟨y0, y1, y2⟩ := box3c HY5.out
  have u0 := frozen_of_row w5 (w.heap.size + 2) 0 _ _ HY5.out
  have u1 := frozen_of_row w5 (w.heap.size + 2) 1 _ _ HY5.out
  have u2 := frozen_of_row w5 (w.heap.size + 2) 2 _ _ HY5.out
  go_wp2
  refine rdisk_end rfl (set3c HY5.out) rfl ?_
  rw [← HDE.out.1, ← HDE.out.2]
  exact ⟨⟨_, rfl, _, rfl, HR5.out, rd_mono (rd_boxset HY5.out R5.out) fun _ _ _ => Or.inl trivial⟩, below_set3 B5.out (by omega)⟩
 ·have PC := Lib.hid (rsync_any _ d nm hnm _ (DV.out _ BX.out))
  have HD : Hid (syncD d nm = opD d 5 nm tn off b ke) := Lib.hid rfl
  have HE : Hid (atE d nm = opE d 5 nm tn off b) := Lib.hid rfl
  rw [HD.out, HE.out] at PC
  obtain ⟨DD, hdd⟩ : ∃ z, z = opD d 5 nm tn off b ke := ⟨_, rfl⟩
  obtain ⟨EE, hee⟩ : ∃ z, z = opE d 5 nm tn off b := ⟨_, rfl⟩
  rw [← hdd, ← hee] at PC
  have HDE := Lib.hid (And.intro hdd hee)
  clear hee HE
  clear HD hdd
  clear DV SD SK HSM HPN HP8 HK2 HBL HOF HKE
  go_wp2_with fail
  refine PC.out.mono ?_
  rintro e w5 ⟨⟨v5, rfl, hv5⟩, hb5⟩
  obtain ⟨a5, c5, rfl, r5⟩ := dv_form hv5
  obtain ⟨fv5, he5, hr5, -⟩ := hv5
  have R5 := Lib.hid r5
  have HR5 := Lib.hid hr5
  have HY5 := Lib.hid ((hb5.block _ (lt_of_some0 HY.out)).trans HY.out)
  have B5 := Lib.hid (btA BX.out hb5)
  obtain ⟨n5, hn5⟩ : ∃ z, z = DD.2.2.length := ⟨_, rfl⟩
  rw [← hn5] at R5 ⊢
  clear hb5 r5 he5 hr5 x0 x1 x2 y0 y1 y2 o0 o1 o2 o3 o4 o5 PC hn5
  obtain ⟨y0, y1, y2⟩ := box3c HY5.out
  have u0 := frozen_of_row w5 (w.heap.size + 2) 0 _ _ HY5.out
  have u1 := frozen_of_row w5 (w.heap.size + 2) 1 _ _ HY5.out
  have u2 := frozen_of_row w5 (w.heap.size + 2) 2 _ _ HY5.out
  go_wp2
  refine rdisk_end rfl (set3c HY5.out) rfl ?_
  rw [← HDE.out.1, ← HDE.out.2]
  exact ⟨⟨_, rfl, _, rfl, HR5.out, rd_mono (rd_boxset HY5.out R5.out) fun _ _ _ => Or.inl trivial⟩, below_set3 B5.out (by omega)⟩
 ·have PC := Lib.hid (rrename_any _ d nm tn hnm htn _ (DV.out _ BX.out))
  have HD : Hid (renameD d nm tn = opD d 6 nm tn off b ke) := Lib.hid rfl
  have HE : Hid (renameE d nm tn = opE d 6 nm tn off b) := Lib.hid rfl
  rw [HD.out, HE.out] at PC
  obtain ⟨DD, hdd⟩ : ∃ z, z = opD d 6 nm tn off b ke := ⟨_, rfl⟩
  obtain ⟨EE, hee⟩ : ∃ z, z = opE d 6 nm tn off b := ⟨_, rfl⟩
  rw [← hdd, ← hee] at PC
  have HDE := Lib.hid (And.intro hdd hee)
  clear hee HE
  clear HD hdd
  clear DV SD SK HSM HPN HP8 HK2 HBL HOF HKE
  go_wp2_with fail
  refine PC.out.mono ?_
  rintro e w5 ⟨⟨v5, rfl, hv5⟩, hb5⟩
  obtain ⟨a5, c5, rfl, r5⟩ := dv_form hv5
  obtain ⟨fv5, he5, hr5, -⟩ := hv5
  have R5 := Lib.hid r5
  have HR5 := Lib.hid hr5
  have HY5 := Lib.hid ((hb5.block _ (lt_of_some0 HY.out)).trans HY.out)
  have B5 := Lib.hid (btA BX.out hb5)
  obtain ⟨n5, hn5⟩ : ∃ z, z = DD.2.2.length := ⟨_, rfl⟩
  rw [← hn5] at R5 ⊢
  clear hb5 r5 he5 hr5 x0 x1 x2 y0 y1 y2 o0 o1 o2 o3 o4 o5 PC hn5
  obtain ⟨y0, y1, y2⟩ := box3c HY5.out
  have u0 := frozen_of_row w5 (w.heap.size + 2) 0 _ _ HY5.out
  have u1 := frozen_of_row w5 (w.heap.size + 2) 1 _ _ HY5.out
  have u2 := frozen_of_row w5 (w.heap.size + 2) 2 _ _ HY5.out
  go_wp2
  refine rdisk_end rfl (set3c HY5.out) rfl ?_
  rw [← HDE.out.1, ← HDE.out.2]
  exact ⟨⟨_, rfl, _, rfl, HR5.out, rd_mono (rd_boxset HY5.out R5.out) fun _ _ _ => Or.inl trivial⟩, below_set3 B5.out (by omega)⟩
 ·have PC := Lib.hid (rremove_any _ d nm hnm _ (DV.out _ BX.out))
  have HD : Hid (removeD d nm = opD d 7 nm tn off b ke) := Lib.hid rfl
  have HE : Hid (atE d nm = opE d 7 nm tn off b) := Lib.hid rfl
  rw [HD.out, HE.out] at PC
  obtain ⟨DD, hdd⟩ : ∃ z, z = opD d 7 nm tn off b ke := ⟨_, rfl⟩
  obtain ⟨EE, hee⟩ : ∃ z, z = opE d 7 nm tn off b := ⟨_, rfl⟩
  rw [← hdd, ← hee] at PC
  have HDE := Lib.hid (And.intro hdd hee)
  clear hee HE
  clear HD hdd
  clear DV SD SK HSM HPN HP8 HK2 HBL HOF HKE
  go_wp2_with fail
  refine PC.out.mono ?_
  rintro e w5 ⟨⟨v5, rfl, hv5⟩, hb5⟩
  obtain ⟨a5, c5, rfl, r5⟩ := dv_form hv5
  obtain ⟨fv5, he5, hr5, -⟩ := hv5
  have R5 := Lib.hid r5
  have HR5 := Lib.hid hr5
  have HY5 := Lib.hid ((hb5.block _ (lt_of_some0 HY.out)).trans HY.out)
  have B5 := Lib.hid (btA BX.out hb5)
  obtain ⟨n5, hn5⟩ : ∃ z, z = DD.2.2.length := ⟨_, rfl⟩
  rw [← hn5] at R5 ⊢
  clear hb5 r5 he5 hr5 x0 x1 x2 y0 y1 y2 o0 o1 o2 o3 o4 o5 PC hn5
  obtain ⟨y0, y1, y2⟩ := box3c HY5.out
  have u0 := frozen_of_row w5 (w.heap.size + 2) 0 _ _ HY5.out
  have u1 := frozen_of_row w5 (w.heap.size + 2) 1 _ _ HY5.out
  have u2 := frozen_of_row w5 (w.heap.size + 2) 2 _ _ HY5.out
  go_wp2
  refine rdisk_end rfl (set3c HY5.out) rfl ?_
  rw [← HDE.out.1, ← HDE.out.2]
  exact ⟨⟨_, rfl, _, rfl, HR5.out, rd_mono (rd_boxset HY5.out R5.out) fun _ _ _ => Or.inl trivial⟩, below_set3 B5.out (by omega)⟩
 ·have PC := Lib.hid (rcrash_any _ _ d ke _ (DV.out _ BX.out) (SK.out _ BX.out))
  have HD : Hid (crashD d ke = opD d 8 nm tn off b ke) := Lib.hid rfl
  rw [HD.out] at PC
  obtain ⟨DD, hdd⟩ : ∃ z, z = opD d 8 nm tn off b ke := ⟨_, rfl⟩
  rw [← hdd] at PC
  have HDE := Lib.hid hdd
  clear HD hdd
  clear DV SD SK HSM HPN HP8 HK2 HBL HOF HKE
  go_wp2_with fail
  refine PC.out.mono ?_
  rintro e w5 ⟨⟨v5, rfl, hv5⟩, hb5⟩
  obtain ⟨a5, c5, rfl, r5⟩ := dv_form hv5
  obtain ⟨fv5, he5, hr5, -⟩ := hv5
  have R5 := Lib.hid r5
  have HR5 := Lib.hid hr5
  have HY5 := Lib.hid ((hb5.block _ (lt_of_some0 HY.out)).trans HY.out)
  have B5 := Lib.hid (btA BX.out hb5)
  obtain ⟨n5, hn5⟩ : ∃ z, z = DD.2.2.length := ⟨_, rfl⟩
  rw [← hn5] at R5 ⊢
  clear hb5 r5 he5 hr5 x0 x1 x2 y0 y1 y2 o0 o1 o2 o3 o4 o5 PC hn5
  obtain ⟨y0, y1, y2⟩ := box3c HY5.out
  have u0 := frozen_of_row w5 (w.heap.size + 2) 0 _ _ HY5.out
  have u1 := frozen_of_row w5 (w.heap.size + 2) 1 _ _ HY5.out
  have u2 := frozen_of_row w5 (w.heap.size + 2) 2 _ _ HY5.out
  go_wp2
  refine rdisk_end rfl (set3c HY5.out) rfl ?_
  rw [← HDE.out]
  exact ⟨⟨_, rfl, _, rfl, HR5.out, rd_mono (rd_boxset HY5.out R5.out) fun _ _ _ => Or.inl trivial⟩, below_set3 B5.out (by omega)⟩
 ·have PC := Lib.hid (rflip_any _ d nm off HOF.out hnm _ (DV.out _ BX.out))
  have HD : Hid (flipD d nm off = opD d 9 nm tn off b ke) := Lib.hid rfl
  have HE : Hid (flipE d nm off = opE d 9 nm tn off b) := Lib.hid rfl
  rw [HD.out, HE.out] at PC
  obtain ⟨DD, hdd⟩ : ∃ z, z = opD d 9 nm tn off b ke := ⟨_, rfl⟩
  obtain ⟨EE, hee⟩ : ∃ z, z = opE d 9 nm tn off b := ⟨_, rfl⟩
  rw [← hdd, ← hee] at PC
  have HDE := Lib.hid (And.intro hdd hee)
  clear hee HE
  clear HD hdd
  clear DV SD SK HSM HPN HP8 HK2 HBL HOF HKE
  go_wp2_with fail
  refine PC.out.mono ?_
  rintro e w5 ⟨⟨v5, rfl, hv5⟩, hb5⟩
  obtain ⟨a5, c5, rfl, r5⟩ := dv_form hv5
  obtain ⟨fv5, he5, hr5, -⟩ := hv5
  have R5 := Lib.hid r5
  have HR5 := Lib.hid hr5
  have HY5 := Lib.hid ((hb5.block _ (lt_of_some0 HY.out)).trans HY.out)
  have B5 := Lib.hid (btA BX.out hb5)
  obtain ⟨n5, hn5⟩ : ∃ z, z = DD.2.2.length := ⟨_, rfl⟩
  rw [← hn5] at R5 ⊢
  clear hb5 r5 he5 hr5 x0 x1 x2 y0 y1 y2 o0 o1 o2 o3 o4 o5 PC hn5
  obtain ⟨y0, y1, y2⟩ := box3c HY5.out
  have u0 := frozen_of_row w5 (w.heap.size + 2) 0 _ _ HY5.out
  have u1 := frozen_of_row w5 (w.heap.size + 2) 1 _ _ HY5.out
  have u2 := frozen_of_row w5 (w.heap.size + 2) 2 _ _ HY5.out
  go_wp2
  refine rdisk_end rfl (set3c HY5.out) rfl ?_
  rw [← HDE.out.1, ← HDE.out.2]
  exact ⟨⟨_, rfl, _, rfl, HR5.out, rd_mono (rd_boxset HY5.out R5.out) fun _ _ _ => Or.inl trivial⟩, below_set3 B5.out (by omega)⟩
end Go.Proofs.Ytpipgbjkkiheaaa.Gf
