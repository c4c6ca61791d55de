/- What is proved here: the laws' made answers a valid slot of few items. -/
/- What is proved here: the laws' made answers a valid slot of few items. -/
import Derived.Test.YtimoinfjinmamaaGreatGs26
namespace Go.Proofs.YtimoinfjinmamaaGreat.Gf
open Joins ChangeShapes WideShapes ChangeAt RowKit Deep By Qt
set_option maxRecDepth 100000
set_option maxHeartbeats 204800000
theorem kl_cap {w : World} {a : Option Addr} {n c : Nat} (h : Kl w (.slice a n c) n) : n ≤ c := by
 obtain ⟨a2, c2, h1, h2, -⟩ := h;obtain ⟨rfl, rfl⟩ : a = a2 ∧ c = c2 := by simpa using h1
 exact h2
theorem okS_of {s : Slt} (h : okSb s = true) : okS s := by
 unfold okSb at h;exact @of_decide_eq_true _ (Classical.propDecidable _) h
theorem chg_bd {s : Slt} {h : Ge} {N : Nat} (hc : chgC s h = 0) (hh : Few h.m ∧ h.m.st.flatten.length ≤ N) (ho : ∀ g ∈ s.gens, Few g.m ∧ g.m.st.flatten.length ≤ N) : okS (chgT s h) ∧ ∀ g ∈ (chgT s h).gens, Few g.m ∧ g.m.st.flatten.length ≤ N := by
 have q := chg_valid hc;refine ⟨okS_of q.2, fun g hg => ?_⟩;rw [q.1] at hg;rcases repL_mem hg with e | e
 ·rw [e]; exact hh
 ·exact ho g e
theorem rot_bd {s : Slt} {N : Nat} (hc : rotC s = 0) (ho : ∀ g ∈ s.gens, Few g.m ∧ g.m.st.flatten.length ≤ N) : okS (rotT s) ∧ ∀ g ∈ (rotT s).gens, Few g.m ∧ g.m.st.flatten.length ≤ N := by
 have ht : rotT s = rotL s := by unfold rotT; rw [if_pos hc]
 rw [ht];unfold rotC at hc;split at hc
 case isFalse => cases hc
 case isTrue h1 =>
  split at hc
  case isFalse => cases hc
  case isTrue h2 =>
   have hk := okS_of h1;refine ⟨rot_valid hk h2, fun g hg => ?_⟩;rcases rotL_mem hg with e | e | e
   ·exact ho g e
   ·rw [e]
    show Few (jwh s).m ∧ (jwh s).m.st.flatten.length ≤ N;exact ho _ (lastG_mem hk.n1)
   ·rw [e]; exact ⟨few_mp0, Nat.zero_le _⟩
def MdI (w : World) (ps i : Nat) (W : World) : Prop := ∃ (s : Slt) (a1 : Option Addr) (c1 : Nat), W.heap[w.heap.size]? = some (.cells #[.int .i64 0, .int .i64 0, .bool false, .slice none 0 0] 24 (0, 0)) ∧ W.heap[ps]? = some (.cells #[.int .i64 s.id, .int .i64 s.limit, .bool s.ro, .slice a1 s.gens.length c1] 24 (0, 0)) ∧ Gl W (.slice a1 s.gens.length c1) s.gens ∧ (J64 s.id ∧ J64 s.limit) ∧ okS s ∧ (∀ g ∈ s.gens, Few g.m ∧ g.m.st.flatten.length ≤ 6 * i) ∧ Below w.heap.size w W ∧ w.heap.size < ps
theorem md_below {w W W' : World} {ps i : Nat} (h : MdI w ps i W) (hB : Below W.heap.size W W') : MdI w ps i W' := by
 obtain ⟨s, a1, c1, hz, hp, hgl, hj, hok, hbo, hbw, hps⟩ := h;exact ⟨s, a1, c1, (hB.block _ (jqb hz)).trans hz, (hB.block _ (jqb hp)).trans hp, jqj hgl hB, hj, hok, hbo, hbw.trans (hB.mono hbw.size), hps⟩
theorem md_next {w W W' : World} {ps i : Nat} (h : MdI w ps i W) (hB : Below W.heap.size W W') : MdI w ps (i + 1) W' := by
 obtain ⟨s, a1, c1, hz, hp, hgl, hj, hok, hbo, hbw, hps⟩ := md_below h hB;exact ⟨s, a1, c1, hz, hp, hgl, hj, hok, fun g hg => ⟨(hbo g hg).1, by have := (hbo g hg).2; omega⟩, hbw, hps⟩
theorem md_set {w W : World} {ps i : Nat} {cs0 : Array Value} {T : Slt} {a2 : Option Addr} {c2 n2 : Nat} (hp : W.heap[ps]? = some (.cells cs0 24 (0, 0))) (hz : W.heap[w.heap.size]? = some (.cells #[.int .i64 0, .int .i64 0, .bool false, .slice none 0 0] 24 (0, 0))) (hs : cs0.size ≤ 13) (hn : ∀ (k : Nat) (n : Int), cs0[k]? ≠ some (Value.int .u64 n)) (hgl : Gl W (.slice a2 T.gens.length c2) T.gens) (hj : J64 T.id ∧ J64 T.limit) (hb : okS T ∧ ∀ g ∈ T.gens, Few g.m ∧ g.m.st.flatten.length ≤ 6 * (i + 1)) (hbw : Below w.heap.size w W) (hps : w.heap.size < ps) (hn2 : n2 = T.gens.length) : MdI w ps (i + 1) (W.setRow ps #[.int .i64 T.id, .int .i64 T.limit, .bool T.ro, .slice a2 n2 c2]) := by
 subst hn2;exact ⟨T, a2, c2, (setRow_other W ps w.heap.size _ (by omega)).trans hz, setRow_heap _ _ _ _ _ _ hp, gl_setRow hgl hp hs hn, hj, hb.1, hb.2, jqd hbw (by omega) _, hps⟩
theorem made_any (v : Value) (n : Nat) (w : World) (hv : Al w v n) : Calls Tryz.prog 8 #[v] w fun e w' => (∃ v' s, e = .returned v' ∧ Sv w' v' s ∧ okS s ∧ LSl s ∧ ∀ g ∈ s.gens, g.m.st.flatten.length ≤ 64) ∧ Below w.heap.size w w' := by
 have AL := Lh hv;obtain ⟨a, c, rfl, hnc, hcm, -⟩ := hv;have HLN := Lh (show n ≤ 9223372036854775807 by unfold maxLen at hcm; omega);clear hnc hcm;have hb := jqg w (.cells #[.int .i64 0, .int .i64 0, .bool false, .slice none 0 0] 24);have HZ0 := Lh (heap_alloc_new w (.cells #[.int .i64 0, .int .i64 0, .bool false, .slice none 0 0] 24));have B0 := Lh hb;clear hb
 go_enter Tryz.func8, Tryz.ntmps8
 go_upto_region 1 with fail
 generalize w.alloc (.cells #[.int .i64 0, .int .i64 0, .bool false, .slice none 0 0] 24) = W0 at *;go_wp2_with fail
 refine (rsnew_any 1 9000 (by unfold J64; decide) (by unfold J64; decide) W0).mono ?_;rintro e W1 ⟨⟨vs, rfl, hsv⟩, hb⟩;rw [jwm new_ok, if_pos rfl] at hsv;rw [jwm new_ok, if_pos rfl];obtain ⟨gv, rfl, hg, hj⟩ := hsv;simp only at hg hj ⊢;obtain ⟨a1, c1, rfl, -⟩ := jw2 hg;have HZ1 := Lh ((hb.block _ (jqb HZ0.out)).trans HZ0.out);have B1 := Lh (B0.out.trans (hb.mono B0.out.size));have GL1 := Lh hg;have hz := heap_alloc_new W1 (.cells #[.int .i64 0, .int .i64 0, .bool false, .slice none 0 0] 24);clear hb hg HZ0 B0;rw [show ([frG 1] : List Ge).length = 1 from rfl];go_upto_region 2 with ((with_reducible refine jwt W1.heap.size _ #[.int .i64 1, .int .i64 9000, .bool false, .slice a1 1 c1] ?_ ?_ hz rfl rfl jw8 ?_); exact rfl; exact rfl)
 rw [World.setRow_alloc_new];have hb := jqg W1 (.cells #[.int .i64 1, .int .i64 9000, .bool false, .slice a1 1 c1] 24);have HM0 := Lh (show MdI w W1.heap.size 0 (W1.alloc (.cells #[.int .i64 1, .int .i64 9000, .bool false, .slice a1 1 c1] 24)) from ⟨⟨1, 9000, false, [frG 1]⟩, a1, c1, (hb.block _ (jqb HZ1.out)).trans HZ1.out, heap_alloc_new W1 _, jqj GL1.out hb, hj, new_ok, fun g hg => by
  obtain rfl := List.mem_singleton.1 hg;exact ⟨few_mp0, Nat.zero_le _⟩, B1.out.trans (hb.mono B1.out.size), jqb HZ1.out⟩)
 clear hb hz HZ1 B1 GL1 hj;generalize W1.alloc (.cells #[.int .i64 1, .int .i64 9000, .bool false, .slice a1 1 c1] 24) = W2 at *;generalize W1.heap.size = ps at *;go_wp2_with fail
 go_loopw [5] (fun t5 wr => ∃ i : Nat, i ≤ n ∧ i ≤ 8 ∧ t5 = .int .i64 (i : Int) ∧ MdI w ps i wr) (fun t _ => n - (intOf t).toNat)
 case atStart => exact ⟨0, Nat.zero_le _, Nat.zero_le _, rfl, HM0.out⟩
 case round =>
  obtain ⟨i, hi, hi8, rfl, hmd⟩ := hrel
  rename World => wl
  clear HM0
  by_cases hlt : i < n ∧ i < 8
  case neg =>
   have HI8 := Lh hi8;rcases Classical.em (i < n) with h1 | h1
   ·have d1 : decide ((i : Int) < (n : Int)) = true := decide_eq_true (by omega)
    have d2 : decide (i < n) = true := decide_eq_true h1;have d3 : decide ((i : Int) < 8) = false := decide_eq_false (by omega);have d4 : decide (i < 8) = false := decide_eq_false (by omega);clear h1 hlt hi hi8;have HMX := hmd;obtain ⟨s, a1, c1, hz, hp, hgl, hj, hok, hbo, hbw, hps⟩ := hmd;obtain ⟨id, lim, ro, L⟩ := s;simp only at hp hgl hj hbo;obtain ⟨n1, hn1⟩ : ∃ z, z = L.length := ⟨_, rfl⟩;rw [← hn1] at hp hgl;have HN1 := Lh hn1;have HZ := Lh hz;have HP := Lh hp;have GL := Lh hgl;have HJ := Lh hj;have HOK := Lh hok;have HBO := Lh hbo;have BX := Lh hbw;clear hz hp hgl hj hok hbo hbw hps hn1 HMX;obtain ⟨⟨y0, y1, y2, y3⟩, -⟩ := bx4 HP.out;go_wp2_with ((with_reducible refine jwt w.heap.size _ #[.int .i64 id, .int .i64 lim, .bool ro, .slice a1 n1 c1] ?_ ?_ HZ.out rfl rfl jw8 ?_); exact rfl; exact rfl)
    refine bodyPost_ret (results_cell_row rfl _ _ w.heap.size 24 #[.int .i64 id, .int .i64 lim, .bool ro, .slice a1 n1 c1] (0, 0) _ rfl (setRow_heap _ _ _ _ _ _ HZ.out) Tryz.underlying24 rfl infoRS4) rfl ?_;exact ⟨⟨_, ⟨id, lim, ro, L⟩, rfl, ⟨_, rfl, gl_setRow GL.out HZ.out (by decide) jwy, HJ.out⟩, HOK.out, ⟨by have := HOK.out.n8; simp only at *; omega, fun g hg => ⟨(HBO.out g hg).1, by have := (HBO.out g hg).2; have := HI8.out; omega⟩⟩, fun g hg => by have := (HBO.out g hg).2; have := HI8.out; omega⟩, jqd BX.out (Nat.le_refl _) _⟩
   ·have d1 : decide ((i : Int) < (n : Int)) = false := decide_eq_false (by omega)
    have d2 : decide (i < n) = false := decide_eq_false h1;clear h1 hlt hi hi8;have HMX := hmd;obtain ⟨s, a1, c1, hz, hp, hgl, hj, hok, hbo, hbw, hps⟩ := hmd;obtain ⟨id, lim, ro, L⟩ := s;simp only at hp hgl hj hbo;obtain ⟨n1, hn1⟩ : ∃ z, z = L.length := ⟨_, rfl⟩;rw [← hn1] at hp hgl;have HN1 := Lh hn1;have HZ := Lh hz;have HP := Lh hp;have GL := Lh hgl;have HJ := Lh hj;have HOK := Lh hok;have HBO := Lh hbo;have BX := Lh hbw;clear hz hp hgl hj hok hbo hbw hps hn1 HMX;obtain ⟨⟨y0, y1, y2, y3⟩, -⟩ := bx4 HP.out;go_wp2_with ((with_reducible refine jwt w.heap.size _ #[.int .i64 id, .int .i64 lim, .bool ro, .slice a1 n1 c1] ?_ ?_ HZ.out rfl rfl jw8 ?_); exact rfl; exact rfl)
    refine bodyPost_ret (results_cell_row rfl _ _ w.heap.size 24 #[.int .i64 id, .int .i64 lim, .bool ro, .slice a1 n1 c1] (0, 0) _ rfl (setRow_heap _ _ _ _ _ _ HZ.out) Tryz.underlying24 rfl infoRS4) rfl ?_;exact ⟨⟨_, ⟨id, lim, ro, L⟩, rfl, ⟨_, rfl, gl_setRow GL.out HZ.out (by decide) jwy, HJ.out⟩, HOK.out, ⟨by have := HOK.out.n8; simp only at *; omega, fun g hg => ⟨(HBO.out g hg).1, by have := (HBO.out g hg).2; have := HI8.out; omega⟩⟩, fun g hg => by have := (HBO.out g hg).2; have := HI8.out; omega⟩, jqd BX.out (Nat.le_refl _) _⟩
  obtain ⟨h1, h2⟩ := hlt;have d1 : decide ((i : Int) < (n : Int)) = true := decide_eq_true (by omega);have d2 : decide (i < n) = true := decide_eq_true h1;have d3 : decide ((i : Int) < 8) = true := decide_eq_true (by omega);have d4 : decide (i < 8) = true := decide_eq_true h2;have HIL := Lh (show i + 1 ≤ n by omega);have HI8 := Lh (show i + 1 ≤ 8 by omega);have p0 : (0 : Int) ≤ (i : Int) := by omega
  have p1 : (i : Int) < (n : Int) := by omega
  have hbw0 : Below w.heap.size w wl := by
   obtain ⟨_, _, _, _, _, _, _, _, _, h, _⟩ := hmd;exact h
  obtain ⟨b8, o8, hab, hac⟩ := al_at (al_below AL.out hbw0) h1;obtain rfl := hab;obtain ⟨kd, gn, na, nn, nc, ka, kn, kc, x0, x1, x2, x3, hnr, hkl⟩ := hac;have HNR0 := Lh hnr;have HKL0 := Lh hkl;have HMD0 := Lh hmd;have hz := heap_alloc_new wl (.cells #[.int .i64 0, .slice none 0 0, .int .i64 0, .slice none 0 0] 84);clear hnr hkl hmd hbw0 h1 h2 hi hi8;go_upto_region 6 with ((with_reducible refine storeA wl.heap.size _ #[.int .i64 kd, .slice na nn nc, .int .i64 gn, .slice ka kn kc] ?_ ?_ hz rfl rfl (av_one _ _ _ _ _ _ _ _) ?_); exact rfl; exact rfl)
  rw [World.setRow_alloc_new];clear x0 x1 x2 x3 p0 p1 d1 d2 d3 d4;have hb := jqg wl (.cells #[.int .i64 kd, .slice na nn nc, .int .i64 gn, .slice ka kn kc] 84);have HA := Lh (heap_alloc_new wl (.cells #[.int .i64 kd, .slice na nn nc, .int .i64 gn, .slice ka kn kc] 84));have HNR := Lh (jxf HNR0.out hb);have HKL := Lh (kl_below HKL0.out hb);have HWX := Lh (md_below HMD0.out hb);clear hb hz HNR0 HKL0 HMD0;generalize wl.alloc (.cells #[.int .i64 kd, .slice na nn nc, .int .i64 gn, .slice ka kn kc] 84) = wx at *;generalize wl.heap.size = ga at *;obtain ⟨s, a1, c1, hz, hp, hgl, hj, hok, hbo, hbw, hps⟩ := HWX.out;obtain ⟨id, lim, ro, L⟩ := s;simp only at hp hgl hj hbo;obtain ⟨n1, hn1⟩ : ∃ z, z = L.length := ⟨_, rfl⟩;rw [← hn1] at hp hgl;have HN1 := Lh hn1;have HL1 := Lh (show n1 ≤ 10000 by have := hok.n8; simp only at this; omega);have HZ := Lh hz;have HP := Lh hp;have GL := Lh hgl;have HJ := Lh hj;have HOK := Lh hok;have HBO := Lh hbo;have BX := Lh hbw;have HPS := Lh hps;have HLF := Lh (show ∀ g ∈ L, LGe g from fun g hg => ⟨(hbo g hg).1, by have := (hbo g hg).2; have := HI8.out; omega⟩);have HKC := Lh HKL.out;have hw := w64s9 i (by have := HLN.out; have := HIL.out; omega);clear hz hp hgl hj hok hbo hbw hps hn1;obtain ⟨q, hq4, hq⟩ := and3 kd;obtain ⟨⟨y0, y1, y2, y3⟩, -⟩ := bx4 HA.out;go_upto_region 7 with fail
  first | rw [hq] | skip
  clear y0 y1 y2 y3;clear hq;obtain rfl | rfl | rfl | rfl : q = 0 ∨ q = 1 ∨ q = 2 ∨ q = 3 := by omega
  ·rw [show ((0 : Nat) : Int) = 0 from rfl]
   have hn1 : 0 < n1 := by have := HOK.out.n1; have := HN1.out; simp only at *; omega
   obtain ⟨p, hp⟩ : ∃ p, p = n1 - 1 := ⟨_, rfl⟩;obtain ⟨b, off, hab, s0, s1, s2, s3, s4, s5, s6, s7, GA⟩ := gl_at GL.out (show p < n1 by omega);obtain rfl := hab;generalize hug : L.getD p g0 = u at GA;have HUM := Lh (show u ∈ L from by
    rw [← hug, List.getD_eq_getElem?_getD, List.getElem?_eq_getElem (show p < L.length by have := HN1.out; omega)];exact List.getElem_mem _)
   have HFU := Lh ((HBO.out u HUM.out).2);have MSU := Lh GA.ms;have JU := Lh GA.j;have HGA := Lh GA;have E1 := Lh (show IntKind.i64.wrap ((n1 : Int) - 1) = (p : Int) ∧ wrap64 ((n1 : Int) - 1) = (p : Int) from by
    rw [show (n1 : Int) - 1 = (p : Int) by omega];exact ⟨IntWalk.i64_in _ (by have := HL1.out; omega), by unfold wrap64; have := HL1.out; omega⟩)
   have p0 : (0 : Int) ≤ (p : Int) := by omega
   have p1 : (p : Int) < (n1 : Int) := by omega
   clear hp hn1 hug GA;go_upto_region 9 with fail
   go_cut [7, 8] from 43 to 57 (fun uh uc wz => ∃ (gh : Nat) (ca : Int) (h : Ge) (r0 r1 r2 r3 r4 r5 r6 r7 : Value), uh = .pointer (some ⟨gh, 0, none⟩) ∧ uc = .int .i64 ca ∧ Hid (wz.heap[gh]? = some (.cells #[.int .i64 h.num, .int .i64 h.rev, .int .i64 h.mode, .int .i64 h.size, r0, r1, r2, r3, r4, r5, r6, r7, .int .i64 h.m.live, .int .i64 h.m.garb] 31 (0, 0))) ∧ Hid (Ms wz [r0, r1, r2, r3, r4, r5, r6, r7] h.m) ∧ Hid (J64 h.num ∧ J64 h.rev ∧ J64 h.mode ∧ J64 h.size) ∧ Hid (Few h.m ∧ h.m.st.flatten.length ≤ 6 * (i + 1)) ∧ Hid (Below wx.heap.size wx wz))
   case first =>
    refine jq0 ?_;refine jqh (fun W' => Below wx.heap.size wx W') [0, 1, 2, 3, 4, 5, 6, 7, 8, 9] 8 (by kernel_rfl) (fun _ _ _ _ _ h => h.elim) (by kernel_rfl) (by rfl) (by rfl) (Below.refl wx.heap.size wx).drew ?_;simp only [jq2, List.filterMap_cons, List.filterMap_nil, List.getElem?_toArray, List.getElem?_cons_zero, List.getElem?_cons_succ];refine jqc (fun K hK => ?_);go_simp;refine ⟨_, fun _ _ => rfl, hK _ ?_⟩;clear hK K;refine jqc (fun K hK => ?_);go_simp;refine ⟨.slice (some ⟨b, off, none⟩) n1 c1, fun w' hw' => by
     obtain ⟨⟨y0, y1, y2, y3⟩, -⟩ := bx4 ((hw'.block _ (jqb HP.out)).trans HP.out);go_simp, hK _ ?_⟩
    clear hK K;refine jqc (fun K hK => ?_);go_simp;refine ⟨_, fun _ _ => rfl, hK _ ?_⟩;clear hK K;refine jqc (fun K hK => ?_);go_simp;refine ⟨.slice (some ⟨b, off, none⟩) n1 c1, fun w' hw' => by
     obtain ⟨⟨y0, y1, y2, y3⟩, -⟩ := bx4 ((hw'.block _ (jqb HP.out)).trans HP.out);go_simp, hK _ ?_⟩
    clear hK K;refine jqc (fun K hK => ?_);go_simp;refine ⟨.int .i64 (n1 : Int), fun w' hw' => by
     skip
     go_simp, hK _ ?_⟩
    clear hK K;refine jqc (fun K hK => ?_);go_simp;refine ⟨.int .i64 (p : Int), fun w' hw' => by
     have e1 := E1.out.1;have e2 := E1.out.2;go_simp, hK _ ?_⟩
    clear hK K;refine jqc (fun K hK => ?_);go_simp;refine ⟨.pointer (some ⟨b, off + p * 14, none⟩), fun w' hw' => by
     skip
     go_simp, hK _ ?_⟩
    clear hK K;refine jqc (fun K hK => ?_);go_simp;refine ⟨.agg #[.int .i64 u.num, .int .i64 u.rev, .int .i64 u.mode, .int .i64 u.size, s0, s1, s2, s3, s4, s5, s6, s7, .int .i64 u.m.live, .int .i64 u.m.garb], fun w' hw' => by
     obtain ⟨x0, x1, x2, x3, x4, x5, x6, x7, x8, x9, x10, x11, x12, x13⟩ := (gat_below HGA.out hw').cells;go_simp, hK _ ?_⟩
    clear hK K;refine jqc (fun K hK => ?_);go_simp;refine ⟨_, fun _ _ => rfl, hK _ ?_⟩;clear hK K;refine jqc (fun K hK => ?_);go_simp;refine ⟨.slice na nn nc, fun w' hw' => by
     obtain ⟨⟨y0, y1, y2, y3⟩, -⟩ := bx4 ((hw'.block _ (jqb HA.out)).trans HA.out);go_simp, hK _ ?_⟩
    clear hK K;refine jqp ?_;have SX0 := Lh (Below.refl wx.heap.size wx).drew;generalize wx.drew = X0 at *;clear p0 p1;refine jq6 10 15 rfl rfl rfl rfl (by kernel_rfl) (fun K hK => ?_) (fun K hK => ?_)
    ·go_simp
     go_at_call 15
     refine (small_some (.slice na nn nc) nn X0 (jxf HNR.out SX0.out)).mono ?_;rintro e X1 ⟨⟨vn, m, rfl, hnl, hm⟩, hb⟩;have SX1 := Lh (SX0.out.trans (hb.mono SX0.out.size));have HNL1 := Lh hnl;have HM6 := Lh hm
     skip
     refine hK _ _ SX1.out ?_;clear hK K hb hnl hm;refine jq6 11 15 rfl rfl rfl rfl (by kernel_rfl) (fun K hK => ?_) (fun K hK => ?_)
     ·go_simp
      go_at_call 14
      refine (jx6 (.agg #[.int .i64 u.num, .int .i64 u.rev, .int .i64 u.mode, .int .i64 u.size, s0, s1, s2, s3, s4, s5, s6, s7, .int .i64 u.m.live, .int .i64 u.m.garb]) u (6 * i) vn m X1 ⟨s0, s1, s2, s3, s4, s5, s6, s7, rfl, jqf MSU.out SX1.out, JU.out⟩ HFU.out (by have := HM6.out; have := HI8.out; omega) HNL1.out).mono ?_;rintro e X2 ⟨⟨vh, ca, rfl, hca, h, hgv, hfl⟩, hb⟩;obtain ⟨r0, r1, r2, r3, r4, r5, r6, r7, rfl, hmh, hjh⟩ := hgv;have SX2 := Lh (SX1.out.trans (hb.mono SX1.out.size));have HMH2 := Lh hmh;have HJH := Lh hjh;have HBH := Lh (show Few h.m ∧ h.m.st.flatten.length ≤ 6 * (i + 1) from ⟨jxz hmh.1 (by have := HM6.out; have := HI8.out; omega), by have := HM6.out; omega⟩);have ONH := Lh (jwj hmh)
      skip
      refine hK _ _ SX2.out ?_;clear hK K hb hmh hjh hfl hca;refine tky 12 (.tuple #[.agg #[.int .i64 h.num, .int .i64 h.rev, .int .i64 h.mode, .int .i64 h.size, r0, r1, r2, r3, r4, r5, r6, r7, .int .i64 h.m.live, .int .i64 h.m.garb], .int .i64 ca]) rfl (fun w' hw' => by
       skip
       go_simp) SX2.out ?_
      refine tky 13 (.agg #[.int .i64 h.num, .int .i64 h.rev, .int .i64 h.mode, .int .i64 h.size, r0, r1, r2, r3, r4, r5, r6, r7, .int .i64 h.m.live, .int .i64 h.m.garb]) rfl (fun w' hw' => by
       skip
       go_simp) SX2.out ?_
      refine tky 14 (.int .i64 ca) rfl (fun w' hw' => by
       skip
       go_simp) SX2.out ?_
      refine gwq 15 fun K hK => ?_;go_simp;have hb := jqg X2 (.cells #[.int .i64 0, .int .i64 0, .int .i64 0, .int .i64 0, .slice none 0 0, .slice none 0 0, .slice none 0 0, .slice none 0 0, .slice none 0 0, .slice none 0 0, .slice none 0 0, .slice none 0 0, .int .i64 0, .int .i64 0] 31);have hbk := heap_alloc_new X2 (.cells #[.int .i64 0, .int .i64 0, .int .i64 0, .int .i64 0, .slice none 0 0, .slice none 0 0, .slice none 0 0, .slice none 0 0, .slice none 0 0, .slice none 0 0, .slice none 0 0, .slice none 0 0, .int .i64 0, .int .i64 0] 31);obtain ⟨X3, hX⟩ : ∃ Y, Y = X2.alloc (.cells #[.int .i64 0, .int .i64 0, .int .i64 0, .int .i64 0, .slice none 0 0, .slice none 0 0, .slice none 0 0, .slice none 0 0, .slice none 0 0, .slice none 0 0, .slice none 0 0, .slice none 0 0, .int .i64 0, .int .i64 0] 31) := ⟨_, rfl⟩;rw [← hX] at hb hbk ⊢;clear hX;have SX3 := Lh (SX2.out.trans (hb.mono SX2.out.size));have HBK3 := Lh hbk;have HGE := Lh (show wx.heap.size ≤ X2.heap.size from SX2.out.size);have HMH3 := Lh (jqf HMH2.out hb);refine hK _ _ SX3.out ?_;clear hK K hb hbk;generalize X2.heap.size = gh at *;refine gwq 16 fun K hK => ?_;refine wp_store_row 31 _ _ rfl gh #[.int .i64 h.num, .int .i64 h.rev, .int .i64 h.mode, .int .i64 h.size, r0, r1, r2, r3, r4, r5, r6, r7, .int .i64 h.m.live, .int .i64 h.m.garb] (by rfl) (by rfl) 31 _ HBK3.out jwb rfl ONH.out ?_;have HH5 := Lh (setRow_heap X3 gh _ #[.int .i64 h.num, .int .i64 h.rev, .int .i64 h.mode, .int .i64 h.size, r0, r1, r2, r3, r4, r5, r6, r7, .int .i64 h.m.live, .int .i64 h.m.garb] _ _ HBK3.out);have HM5 := Lh (jqv (cs := #[.int .i64 h.num, .int .i64 h.rev, .int .i64 h.mode, .int .i64 h.size, r0, r1, r2, r3, r4, r5, r6, r7, .int .i64 h.m.live, .int .i64 h.m.garb]) HMH3.out HBK3.out jwg);have SX5 := Lh (jqd SX3.out HGE.out #[.int .i64 h.num, .int .i64 h.rev, .int .i64 h.mode, .int .i64 h.size, r0, r1, r2, r3, r4, r5, r6, r7, .int .i64 h.m.live, .int .i64 h.m.garb]);refine hK _ _ SX5.out ?_;clear hK K HBK3 HMH3 SX3;generalize X3.setRow gh #[.int .i64 h.num, .int .i64 h.rev, .int .i64 h.mode, .int .i64 h.size, r0, r1, r2, r3, r4, r5, r6, r7, .int .i64 h.m.live, .int .i64 h.m.garb] = X5 at *;refine gwq 17 fun K hK => ?_;go_simp;refine hK _ _ SX5.out ?_;clear hK K;refine wpAnyH_done (by kernel_rfl) ?_ _;unfold jqw;dsimp only;go_wp2_with fail
      go_meet
      exact ⟨gh, ca, h, r0, r1, r2, r3, r4, r5, r6, r7, rfl, rfl, HH5, HM5, HJH, HBH, SX5⟩
     ·go_simp
      have hb := jqg X1 (.cells #[.int .i64 0, .int .i64 0, .int .i64 0, .int .i64 0, .slice none 0 0, .slice none 0 0, .slice none 0 0, .slice none 0 0, .slice none 0 0, .slice none 0 0, .slice none 0 0, .slice none 0 0, .int .i64 0, .int .i64 0] 31);have hbk := heap_alloc_new X1 (.cells #[.int .i64 0, .int .i64 0, .int .i64 0, .int .i64 0, .slice none 0 0, .slice none 0 0, .slice none 0 0, .slice none 0 0, .slice none 0 0, .slice none 0 0, .slice none 0 0, .slice none 0 0, .int .i64 0, .int .i64 0] 31);obtain ⟨X2, hX⟩ : ∃ Y, Y = X1.alloc (.cells #[.int .i64 0, .int .i64 0, .int .i64 0, .int .i64 0, .slice none 0 0, .slice none 0 0, .slice none 0 0, .slice none 0 0, .slice none 0 0, .slice none 0 0, .slice none 0 0, .slice none 0 0, .int .i64 0, .int .i64 0] 31) := ⟨_, rfl⟩;rw [← hX] at hb hbk ⊢;clear hX;have SX2 := Lh (SX1.out.trans (hb.mono SX1.out.size));have HBK2 := Lh hbk;have HGE := Lh (show wx.heap.size ≤ X1.heap.size from SX1.out.size);have HNL2 := Lh (nl_below HNL1.out hb);refine hK _ _ SX2.out ?_;clear hK K hb hbk;generalize X1.heap.size = gh at *;refine gwq 11 fun K hK => ?_;go_simp
      go_at_call 14
      refine (jx6 (.agg #[.int .i64 u.num, .int .i64 u.rev, .int .i64 u.mode, .int .i64 u.size, s0, s1, s2, s3, s4, s5, s6, s7, .int .i64 u.m.live, .int .i64 u.m.garb]) u (6 * i) vn m X2 ⟨s0, s1, s2, s3, s4, s5, s6, s7, rfl, jqf MSU.out SX2.out, JU.out⟩ HFU.out (by have := HM6.out; have := HI8.out; omega) HNL2.out).mono ?_;rintro e X3 ⟨⟨vh, ca, rfl, hca, h, hgv, hfl⟩, hb⟩;obtain ⟨r0, r1, r2, r3, r4, r5, r6, r7, rfl, hmh, hjh⟩ := hgv;have SX3 := Lh (SX2.out.trans (hb.mono SX2.out.size));have HMH3 := Lh hmh;have HJH := Lh hjh;have HBH := Lh (show Few h.m ∧ h.m.st.flatten.length ≤ 6 * (i + 1) from ⟨jxz hmh.1 (by have := HM6.out; have := HI8.out; omega), by have := HM6.out; omega⟩);have ONH := Lh (jwj hmh);have HBK3 := Lh ((hb.block _ (jqb HBK2.out)).trans HBK2.out);refine hK _ _ SX3.out ?_;clear hK K hb hmh hjh hfl hca;refine tky 12 (.tuple #[.agg #[.int .i64 h.num, .int .i64 h.rev, .int .i64 h.mode, .int .i64 h.size, r0, r1, r2, r3, r4, r5, r6, r7, .int .i64 h.m.live, .int .i64 h.m.garb], .int .i64 ca]) rfl (fun w' hw' => by
       skip
       go_simp) SX3.out ?_
      refine tky 13 (.agg #[.int .i64 h.num, .int .i64 h.rev, .int .i64 h.mode, .int .i64 h.size, r0, r1, r2, r3, r4, r5, r6, r7, .int .i64 h.m.live, .int .i64 h.m.garb]) rfl (fun w' hw' => by
       skip
       go_simp) SX3.out ?_
      refine tky 14 (.int .i64 ca) rfl (fun w' hw' => by
       skip
       go_simp) SX3.out ?_
      refine gwq 16 fun K hK => ?_;refine wp_store_row 31 _ _ rfl gh #[.int .i64 h.num, .int .i64 h.rev, .int .i64 h.mode, .int .i64 h.size, r0, r1, r2, r3, r4, r5, r6, r7, .int .i64 h.m.live, .int .i64 h.m.garb] (by rfl) (by rfl) 31 _ HBK3.out jwb rfl ONH.out ?_;have HH5 := Lh (setRow_heap X3 gh _ #[.int .i64 h.num, .int .i64 h.rev, .int .i64 h.mode, .int .i64 h.size, r0, r1, r2, r3, r4, r5, r6, r7, .int .i64 h.m.live, .int .i64 h.m.garb] _ _ HBK3.out);have HM5 := Lh (jqv (cs := #[.int .i64 h.num, .int .i64 h.rev, .int .i64 h.mode, .int .i64 h.size, r0, r1, r2, r3, r4, r5, r6, r7, .int .i64 h.m.live, .int .i64 h.m.garb]) HMH3.out HBK3.out jwg);have SX5 := Lh (jqd SX3.out HGE.out #[.int .i64 h.num, .int .i64 h.rev, .int .i64 h.mode, .int .i64 h.size, r0, r1, r2, r3, r4, r5, r6, r7, .int .i64 h.m.live, .int .i64 h.m.garb]);refine hK _ _ SX5.out ?_;clear hK K HBK3 HMH3 SX3;generalize X3.setRow gh #[.int .i64 h.num, .int .i64 h.rev, .int .i64 h.mode, .int .i64 h.size, r0, r1, r2, r3, r4, r5, r6, r7, .int .i64 h.m.live, .int .i64 h.m.garb] = X5 at *;refine gwq 17 fun K hK => ?_;go_simp;refine hK _ _ SX5.out ?_;clear hK K;refine wpAnyH_done (by kernel_rfl) ?_ _;unfold jqw;dsimp only;go_wp2_with fail
      go_meet
      exact ⟨gh, ca, h, r0, r1, r2, r3, r4, r5, r6, r7, rfl, rfl, HH5, HM5, HJH, HBH, SX5⟩
    ·go_simp
     have hb := jqg X0 (.cells #[.int .i64 0, .int .i64 0, .int .i64 0, .int .i64 0, .slice none 0 0, .slice none 0 0, .slice none 0 0, .slice none 0 0, .slice none 0 0, .slice none 0 0, .slice none 0 0, .slice none 0 0, .int .i64 0, .int .i64 0] 31);have hbk := heap_alloc_new X0 (.cells #[.int .i64 0, .int .i64 0, .int .i64 0, .int .i64 0, .slice none 0 0, .slice none 0 0, .slice none 0 0, .slice none 0 0, .slice none 0 0, .slice none 0 0, .slice none 0 0, .slice none 0 0, .int .i64 0, .int .i64 0] 31);obtain ⟨X1, hX⟩ : ∃ Y, Y = X0.alloc (.cells #[.int .i64 0, .int .i64 0, .int .i64 0, .int .i64 0, .slice none 0 0, .slice none 0 0, .slice none 0 0, .slice none 0 0, .slice none 0 0, .slice none 0 0, .slice none 0 0, .slice none 0 0, .int .i64 0, .int .i64 0] 31) := ⟨_, rfl⟩;rw [← hX] at hb hbk ⊢;clear hX;have SX1 := Lh (SX0.out.trans (hb.mono SX0.out.size));have HBK1 := Lh hbk;have HGE := Lh (show wx.heap.size ≤ X0.heap.size from SX0.out.size);refine hK _ _ SX1.out ?_;clear hK K hb hbk;generalize X0.heap.size = gh at *;refine gwq 10 fun K hK => ?_;go_simp
     go_at_call 15
     refine (small_some (.slice na nn nc) nn X1 (jxf HNR.out SX1.out)).mono ?_;rintro e X2 ⟨⟨vn, m, rfl, hnl, hm⟩, hb⟩;have SX2 := Lh (SX1.out.trans (hb.mono SX1.out.size));have HNL2 := Lh hnl;have HM6 := Lh hm;have HBK2 := Lh ((hb.block _ (jqb HBK1.out)).trans HBK1.out);refine hK _ _ SX2.out ?_;clear hK K hb hnl hm;refine gwq 11 fun K hK => ?_;go_simp
     go_at_call 14
     refine (jx6 (.agg #[.int .i64 u.num, .int .i64 u.rev, .int .i64 u.mode, .int .i64 u.size, s0, s1, s2, s3, s4, s5, s6, s7, .int .i64 u.m.live, .int .i64 u.m.garb]) u (6 * i) vn m X2 ⟨s0, s1, s2, s3, s4, s5, s6, s7, rfl, jqf MSU.out SX2.out, JU.out⟩ HFU.out (by have := HM6.out; have := HI8.out; omega) HNL2.out).mono ?_;rintro e X3 ⟨⟨vh, ca, rfl, hca, h, hgv, hfl⟩, hb⟩;obtain ⟨r0, r1, r2, r3, r4, r5, r6, r7, rfl, hmh, hjh⟩ := hgv;have SX3 := Lh (SX2.out.trans (hb.mono SX2.out.size));have HMH3 := Lh hmh;have HJH := Lh hjh;have HBH := Lh (show Few h.m ∧ h.m.st.flatten.length ≤ 6 * (i + 1) from ⟨jxz hmh.1 (by have := HM6.out; have := HI8.out; omega), by have := HM6.out; omega⟩);have ONH := Lh (jwj hmh);have HBK3 := Lh ((hb.block _ (jqb HBK2.out)).trans HBK2.out);refine hK _ _ SX3.out ?_;clear hK K hb hmh hjh hfl hca;refine tky 12 (.tuple #[.agg #[.int .i64 h.num, .int .i64 h.rev, .int .i64 h.mode, .int .i64 h.size, r0, r1, r2, r3, r4, r5, r6, r7, .int .i64 h.m.live, .int .i64 h.m.garb], .int .i64 ca]) rfl (fun w' hw' => by
      skip
      go_simp) SX3.out ?_
     refine tky 13 (.agg #[.int .i64 h.num, .int .i64 h.rev, .int .i64 h.mode, .int .i64 h.size, r0, r1, r2, r3, r4, r5, r6, r7, .int .i64 h.m.live, .int .i64 h.m.garb]) rfl (fun w' hw' => by
      skip
      go_simp) SX3.out ?_
     refine tky 14 (.int .i64 ca) rfl (fun w' hw' => by
      skip
      go_simp) SX3.out ?_
     refine gwq 16 fun K hK => ?_;refine wp_store_row 31 _ _ rfl gh #[.int .i64 h.num, .int .i64 h.rev, .int .i64 h.mode, .int .i64 h.size, r0, r1, r2, r3, r4, r5, r6, r7, .int .i64 h.m.live, .int .i64 h.m.garb] (by rfl) (by rfl) 31 _ HBK3.out jwb rfl ONH.out ?_;have HH5 := Lh (setRow_heap X3 gh _ #[.int .i64 h.num, .int .i64 h.rev, .int .i64 h.mode, .int .i64 h.size, r0, r1, r2, r3, r4, r5, r6, r7, .int .i64 h.m.live, .int .i64 h.m.garb] _ _ HBK3.out);have HM5 := Lh (jqv (cs := #[.int .i64 h.num, .int .i64 h.rev, .int .i64 h.mode, .int .i64 h.size, r0, r1, r2, r3, r4, r5, r6, r7, .int .i64 h.m.live, .int .i64 h.m.garb]) HMH3.out HBK3.out jwg);have SX5 := Lh (jqd SX3.out HGE.out #[.int .i64 h.num, .int .i64 h.rev, .int .i64 h.mode, .int .i64 h.size, r0, r1, r2, r3, r4, r5, r6, r7, .int .i64 h.m.live, .int .i64 h.m.garb]);refine hK _ _ SX5.out ?_;clear hK K HBK3 HMH3 SX3;generalize X3.setRow gh #[.int .i64 h.num, .int .i64 h.rev, .int .i64 h.mode, .int .i64 h.size, r0, r1, r2, r3, r4, r5, r6, r7, .int .i64 h.m.live, .int .i64 h.m.garb] = X5 at *;refine gwq 17 fun K hK => ?_;go_simp;refine hK _ _ SX5.out ?_;clear hK K;refine wpAnyH_done (by kernel_rfl) ?_ _;unfold jqw;dsimp only;go_wp2_with fail
     go_meet
     exact ⟨gh, ca, h, r0, r1, r2, r3, r4, r5, r6, r7, rfl, rfl, HH5, HM5, HJH, HBH, SX5⟩
   case rest =>
    obtain ⟨gh, ca, h, r0, r1, r2, r3, r4, r5, r6, r7, rfl, rfl, HH5, HM5, HJH, HBH, SX5⟩ := hcut
    rename World => X5
    clear p0 p1;obtain ⟨⟨y0, y1, y2, y3⟩, -⟩ := bx4 ((SX5.out.block _ (jqb HP.out)).trans HP.out);obtain ⟨x0, x1, x2, x3, x4, x5, x6, x7, x8, x9, x10, x11, x12, x13⟩ := bx14 HH5.out;go_wp2_with fail
    clear y0 y1 y2 y3;clear x0 x1 x2 x3 x4 x5 x6 x7 x8 x9 x10 x11 x12 x13;refine (rschange_x id lim ro (some ⟨b, off, none⟩) n1 c1 L (.agg #[.int .i64 h.num, .int .i64 h.rev, .int .i64 h.mode, .int .i64 h.size, r0, r1, r2, r3, r4, r5, r6, r7, .int .i64 h.m.live, .int .i64 h.m.garb]) h X5 HN1.out (jqj GL.out SX5.out) HL1.out HLF.out HJ.out ⟨r0, r1, r2, r3, r4, r5, r6, r7, rfl, HM5.out, HJH.out⟩ ⟨HBH.out.1, by have := HBH.out.2; have := HI8.out; omega⟩).mono ?_;rintro e X7 ⟨⟨vt, rfl, hsv⟩, hb⟩;obtain ⟨T, hT⟩ : ∃ T, T = chgT ⟨id, lim, ro, L⟩ h := ⟨_, rfl⟩;obtain ⟨cc, hcc⟩ : ∃ q, q = chgC ⟨id, lim, ro, L⟩ h := ⟨_, rfl⟩;rw [← hT] at hsv;rw [← hcc];have HBD := Lh (show cc = 0 → okS T ∧ ∀ g ∈ T.gens, Few g.m ∧ g.m.st.flatten.length ≤ 6 * (i + 1) from fun e => by rw [hT]; exact (fun q => chg_bd q HBH.out (fun g hg => ⟨(HBO.out g hg).1, by have := (HBO.out g hg).2; omega⟩)) (by rw [← hcc]; exact e));obtain ⟨gt, rfl, hgt, hjt⟩ := hsv;obtain ⟨a2, c2, rfl, -⟩ := jw2 hgt;obtain ⟨n2, hn2⟩ : ∃ z, z = T.gens.length := ⟨_, rfl⟩;rw [← hn2] at hgt ⊢;have HN2 := Lh hn2;have SX7 := Lh (SX5.out.trans (hb.mono SX5.out.size));have HGT := Lh hgt;have HJT := Lh hjt;have hz := heap_alloc_new X7 (.cells #[.int .i64 0, .int .i64 0, .bool false, .slice none 0 0] 24);clear hb hT hcc hn2 hgt hjt;go_upto_region 11 with ((with_reducible refine jwt X7.heap.size _ #[.int .i64 T.id, .int .i64 T.limit, .bool T.ro, .slice a2 n2 c2] ?_ ?_ hz rfl rfl jw8 ?_); exact rfl; exact rfl)
    rw [World.setRow_alloc_new];have hb := jqg X7 (.cells #[.int .i64 T.id, .int .i64 T.limit, .bool T.ro, .slice a2 n2 c2] 24);have SX9 := Lh (SX7.out.trans (hb.mono SX7.out.size));have HT9 := Lh (heap_alloc_new X7 (.cells #[.int .i64 T.id, .int .i64 T.limit, .bool T.ro, .slice a2 n2 c2] 24));have HP9 := Lh ((SX9.out.block _ (jqb HP.out)).trans HP.out);have HZ9 := Lh ((SX9.out.block _ (jqb HZ.out)).trans HZ.out);have HG9 := Lh (show Gl (X7.alloc (.cells #[.int .i64 T.id, .int .i64 T.limit, .bool T.ro, .slice a2 n2 c2] 24)) (.slice a2 T.gens.length c2) T.gens from by rw [← HN2.out]; exact jqj HGT.out hb);have HJ9 := HJT;have BW9 := Lh (BX.out.trans (SX9.out.mono BX.out.size));clear hb hz SX7 HGT;generalize X7.alloc (.cells #[.int .i64 T.id, .int .i64 T.limit, .bool T.ro, .slice a2 n2 c2] 24) = X9 at *;generalize X7.heap.size = gt at *;rcases Classical.em (ca = 0) with h1 | h1
    ·have d1 : decide (ca = 0) = true := decide_eq_true h1
     have d2 : (ca == 0) = true := beq_iff_eq.2 h1;clear h1;rcases Classical.em (cc = 0) with h2 | h2
     ·have HC0 := Lh h2
      have d3 : decide (cc = 0) = true := decide_eq_true h2;have d4 : (cc == 0) = true := beq_iff_eq.2 h2;clear h2;obtain ⟨⟨y0, y1, y2, y3⟩, -⟩ := bx4 HT9.out;have HMD := Lh (md_set (i := i) HP9.out HZ9.out (by simp) jwq HG9.out HJ9.out (HBD.out HC0.out) BW9.out HPS.out HN2.out);go_wp2_with ((with_reducible refine jwt ps _ #[.int .i64 T.id, .int .i64 T.limit, .bool T.ro, .slice a2 n2 c2] ?_ ?_ HP9.out rfl rfl jw8 ?_); exact rfl; exact rfl)
      go_roundw
      case rel => exact ⟨i + 1, HIL.out, HI8.out, by go_num, HMD.out⟩
      case measure => exact meas9 n i HIL.out (by have := HLN.out; omega)
     ·have d3 : decide (cc = 0) = false := decide_eq_false h2
      have d4 : (cc == 0) = false := beq_false_of_ne h2;clear h2;go_wp2_with fail
      go_roundw
      case rel => exact ⟨i + 1, HIL.out, HI8.out, by go_num, md_next HWX.out SX9.out⟩
      case measure => exact meas9 n i HIL.out (by have := HLN.out; omega)
    ·have d1 : decide (ca = 0) = false := decide_eq_false h1
     have d2 : (ca == 0) = false := beq_false_of_ne h1;clear h1;go_wp2_with fail
     go_roundw
     case rel => exact ⟨i + 1, HIL.out, HI8.out, by go_num, md_next HWX.out SX9.out⟩
     case measure => exact meas9 n i HIL.out (by have := HLN.out; omega)
  ·rw [show ((1 : Nat) : Int) = 1 from rfl]
   have hn1 : 0 < n1 := by have := HOK.out.n1; have := HN1.out; simp only at *; omega
   obtain ⟨p, hp⟩ : ∃ p, p = n1 - 1 := ⟨_, rfl⟩;obtain ⟨b, off, hab, s0, s1, s2, s3, s4, s5, s6, s7, GA⟩ := gl_at GL.out (show p < n1 by omega);obtain rfl := hab;generalize hug : L.getD p g0 = u at GA;have HUM := Lh (show u ∈ L from by
    rw [← hug, List.getD_eq_getElem?_getD, List.getElem?_eq_getElem (show p < L.length by have := HN1.out; omega)];exact List.getElem_mem _)
   have HFU := Lh ((HBO.out u HUM.out).2);have MSU := Lh GA.ms;have JU := Lh GA.j;have HGA := Lh GA;have E1 := Lh (show IntKind.i64.wrap ((n1 : Int) - 1) = (p : Int) ∧ wrap64 ((n1 : Int) - 1) = (p : Int) from by
    rw [show (n1 : Int) - 1 = (p : Int) by omega];exact ⟨IntWalk.i64_in _ (by have := HL1.out; omega), by unfold wrap64; have := HL1.out; omega⟩)
   have p0 : (0 : Int) ≤ (p : Int) := by omega
   have p1 : (p : Int) < (n1 : Int) := by omega
   clear hp hn1 hug GA;go_upto_region 9 with fail
   go_cut [7, 8] from 43 to 57 (fun uh uc wz => ∃ (gh : Nat) (ca : Int) (h : Ge) (r0 r1 r2 r3 r4 r5 r6 r7 : Value), uh = .pointer (some ⟨gh, 0, none⟩) ∧ uc = .int .i64 ca ∧ Hid (wz.heap[gh]? = some (.cells #[.int .i64 h.num, .int .i64 h.rev, .int .i64 h.mode, .int .i64 h.size, r0, r1, r2, r3, r4, r5, r6, r7, .int .i64 h.m.live, .int .i64 h.m.garb] 31 (0, 0))) ∧ Hid (Ms wz [r0, r1, r2, r3, r4, r5, r6, r7] h.m) ∧ Hid (J64 h.num ∧ J64 h.rev ∧ J64 h.mode ∧ J64 h.size) ∧ Hid (Few h.m ∧ h.m.st.flatten.length ≤ 6 * (i + 1)) ∧ Hid (Below wx.heap.size wx wz))
   case first =>
    refine jq0 ?_;refine jqh (fun W' => Below wx.heap.size wx W') [0, 1, 2, 3, 4, 5, 6, 7, 8, 9] 8 (by kernel_rfl) (fun _ _ _ _ _ h => h.elim) (by kernel_rfl) (by rfl) (by rfl) (Below.refl wx.heap.size wx).drew ?_;simp only [jq2, List.filterMap_cons, List.filterMap_nil, List.getElem?_toArray, List.getElem?_cons_zero, List.getElem?_cons_succ];refine jqc (fun K hK => ?_);go_simp;refine ⟨_, fun _ _ => rfl, hK _ ?_⟩;clear hK K;refine jqc (fun K hK => ?_);go_simp;refine ⟨.slice (some ⟨b, off, none⟩) n1 c1, fun w' hw' => by
     obtain ⟨⟨y0, y1, y2, y3⟩, -⟩ := bx4 ((hw'.block _ (jqb HP.out)).trans HP.out);go_simp, hK _ ?_⟩
    clear hK K;refine jqc (fun K hK => ?_);go_simp;refine ⟨_, fun _ _ => rfl, hK _ ?_⟩;clear hK K;refine jqc (fun K hK => ?_);go_simp;refine ⟨.slice (some ⟨b, off, none⟩) n1 c1, fun w' hw' => by
     obtain ⟨⟨y0, y1, y2, y3⟩, -⟩ := bx4 ((hw'.block _ (jqb HP.out)).trans HP.out);go_simp, hK _ ?_⟩
    clear hK K;refine jqc (fun K hK => ?_);go_simp;refine ⟨.int .i64 (n1 : Int), fun w' hw' => by
     skip
     go_simp, hK _ ?_⟩
    clear hK K;refine jqc (fun K hK => ?_);go_simp;refine ⟨.int .i64 (p : Int), fun w' hw' => by
     have e1 := E1.out.1;have e2 := E1.out.2;go_simp, hK _ ?_⟩
    clear hK K;refine jqc (fun K hK => ?_);go_simp;refine ⟨.pointer (some ⟨b, off + p * 14, none⟩), fun w' hw' => by
     skip
     go_simp, hK _ ?_⟩
    clear hK K;refine jqc (fun K hK => ?_);go_simp;refine ⟨.agg #[.int .i64 u.num, .int .i64 u.rev, .int .i64 u.mode, .int .i64 u.size, s0, s1, s2, s3, s4, s5, s6, s7, .int .i64 u.m.live, .int .i64 u.m.garb], fun w' hw' => by
     obtain ⟨x0, x1, x2, x3, x4, x5, x6, x7, x8, x9, x10, x11, x12, x13⟩ := (gat_below HGA.out hw').cells;go_simp, hK _ ?_⟩
    clear hK K;refine jqc (fun K hK => ?_);go_simp;refine ⟨_, fun _ _ => rfl, hK _ ?_⟩;clear hK K;refine jqc (fun K hK => ?_);go_simp;refine ⟨.slice na nn nc, fun w' hw' => by
     obtain ⟨⟨y0, y1, y2, y3⟩, -⟩ := bx4 ((hw'.block _ (jqb HA.out)).trans HA.out);go_simp, hK _ ?_⟩
    clear hK K;refine jqp ?_;have SX0 := Lh (Below.refl wx.heap.size wx).drew;generalize wx.drew = X0 at *;clear p0 p1;refine jq6 10 15 rfl rfl rfl rfl (by kernel_rfl) (fun K hK => ?_) (fun K hK => ?_)
    ·go_simp
     go_at_call 15
     refine (small_some (.slice na nn nc) nn X0 (jxf HNR.out SX0.out)).mono ?_;rintro e X1 ⟨⟨vn, m, rfl, hnl, hm⟩, hb⟩;have SX1 := Lh (SX0.out.trans (hb.mono SX0.out.size));have HNL1 := Lh hnl;have HM6 := Lh hm
     skip
     refine hK _ _ SX1.out ?_;clear hK K hb hnl hm;refine jq6 11 15 rfl rfl rfl rfl (by kernel_rfl) (fun K hK => ?_) (fun K hK => ?_)
     ·go_simp
      go_at_call 14
      refine (jx6 (.agg #[.int .i64 u.num, .int .i64 u.rev, .int .i64 u.mode, .int .i64 u.size, s0, s1, s2, s3, s4, s5, s6, s7, .int .i64 u.m.live, .int .i64 u.m.garb]) u (6 * i) vn m X1 ⟨s0, s1, s2, s3, s4, s5, s6, s7, rfl, jqf MSU.out SX1.out, JU.out⟩ HFU.out (by have := HM6.out; have := HI8.out; omega) HNL1.out).mono ?_;rintro e X2 ⟨⟨vh, ca, rfl, hca, h, hgv, hfl⟩, hb⟩;obtain ⟨r0, r1, r2, r3, r4, r5, r6, r7, rfl, hmh, hjh⟩ := hgv;have SX2 := Lh (SX1.out.trans (hb.mono SX1.out.size));have HMH2 := Lh hmh;have HJH := Lh hjh;have HBH := Lh (show Few h.m ∧ h.m.st.flatten.length ≤ 6 * (i + 1) from ⟨jxz hmh.1 (by have := HM6.out; have := HI8.out; omega), by have := HM6.out; omega⟩);have ONH := Lh (jwj hmh)
      skip
      refine hK _ _ SX2.out ?_;clear hK K hb hmh hjh hfl hca;refine tky 12 (.tuple #[.agg #[.int .i64 h.num, .int .i64 h.rev, .int .i64 h.mode, .int .i64 h.size, r0, r1, r2, r3, r4, r5, r6, r7, .int .i64 h.m.live, .int .i64 h.m.garb], .int .i64 ca]) rfl (fun w' hw' => by
       skip
       go_simp) SX2.out ?_
      refine tky 13 (.agg #[.int .i64 h.num, .int .i64 h.rev, .int .i64 h.mode, .int .i64 h.size, r0, r1, r2, r3, r4, r5, r6, r7, .int .i64 h.m.live, .int .i64 h.m.garb]) rfl (fun w' hw' => by
       skip
       go_simp) SX2.out ?_
      refine tky 14 (.int .i64 ca) rfl (fun w' hw' => by
       skip
       go_simp) SX2.out ?_
      refine gwq 15 fun K hK => ?_;go_simp;have hb := jqg X2 (.cells #[.int .i64 0, .int .i64 0, .int .i64 0, .int .i64 0, .slice none 0 0, .slice none 0 0, .slice none 0 0, .slice none 0 0, .slice none 0 0, .slice none 0 0, .slice none 0 0, .slice none 0 0, .int .i64 0, .int .i64 0] 31);have hbk := heap_alloc_new X2 (.cells #[.int .i64 0, .int .i64 0, .int .i64 0, .int .i64 0, .slice none 0 0, .slice none 0 0, .slice none 0 0, .slice none 0 0, .slice none 0 0, .slice none 0 0, .slice none 0 0, .slice none 0 0, .int .i64 0, .int .i64 0] 31);obtain ⟨X3, hX⟩ : ∃ Y, Y = X2.alloc (.cells #[.int .i64 0, .int .i64 0, .int .i64 0, .int .i64 0, .slice none 0 0, .slice none 0 0, .slice none 0 0, .slice none 0 0, .slice none 0 0, .slice none 0 0, .slice none 0 0, .slice none 0 0, .int .i64 0, .int .i64 0] 31) := ⟨_, rfl⟩;rw [← hX] at hb hbk ⊢;clear hX;have SX3 := Lh (SX2.out.trans (hb.mono SX2.out.size));have HBK3 := Lh hbk;have HGE := Lh (show wx.heap.size ≤ X2.heap.size from SX2.out.size);have HMH3 := Lh (jqf HMH2.out hb);refine hK _ _ SX3.out ?_;clear hK K hb hbk;generalize X2.heap.size = gh at *;refine gwq 16 fun K hK => ?_;refine wp_store_row 31 _ _ rfl gh #[.int .i64 h.num, .int .i64 h.rev, .int .i64 h.mode, .int .i64 h.size, r0, r1, r2, r3, r4, r5, r6, r7, .int .i64 h.m.live, .int .i64 h.m.garb] (by rfl) (by rfl) 31 _ HBK3.out jwb rfl ONH.out ?_;have HH5 := Lh (setRow_heap X3 gh _ #[.int .i64 h.num, .int .i64 h.rev, .int .i64 h.mode, .int .i64 h.size, r0, r1, r2, r3, r4, r5, r6, r7, .int .i64 h.m.live, .int .i64 h.m.garb] _ _ HBK3.out);have HM5 := Lh (jqv (cs := #[.int .i64 h.num, .int .i64 h.rev, .int .i64 h.mode, .int .i64 h.size, r0, r1, r2, r3, r4, r5, r6, r7, .int .i64 h.m.live, .int .i64 h.m.garb]) HMH3.out HBK3.out jwg);have SX5 := Lh (jqd SX3.out HGE.out #[.int .i64 h.num, .int .i64 h.rev, .int .i64 h.mode, .int .i64 h.size, r0, r1, r2, r3, r4, r5, r6, r7, .int .i64 h.m.live, .int .i64 h.m.garb]);refine hK _ _ SX5.out ?_;clear hK K HBK3 HMH3 SX3;generalize X3.setRow gh #[.int .i64 h.num, .int .i64 h.rev, .int .i64 h.mode, .int .i64 h.size, r0, r1, r2, r3, r4, r5, r6, r7, .int .i64 h.m.live, .int .i64 h.m.garb] = X5 at *;refine gwq 17 fun K hK => ?_;go_simp;refine hK _ _ SX5.out ?_;clear hK K;refine wpAnyH_done (by kernel_rfl) ?_ _;unfold jqw;dsimp only;go_wp2_with fail
      go_meet
      exact ⟨gh, ca, h, r0, r1, r2, r3, r4, r5, r6, r7, rfl, rfl, HH5, HM5, HJH, HBH, SX5⟩
     ·go_simp
      have hb := jqg X1 (.cells #[.int .i64 0, .int .i64 0, .int .i64 0, .int .i64 0, .slice none 0 0, .slice none 0 0, .slice none 0 0, .slice none 0 0, .slice none 0 0, .slice none 0 0, .slice none 0 0, .slice none 0 0, .int .i64 0, .int .i64 0] 31);have hbk := heap_alloc_new X1 (.cells #[.int .i64 0, .int .i64 0, .int .i64 0, .int .i64 0, .slice none 0 0, .slice none 0 0, .slice none 0 0, .slice none 0 0, .slice none 0 0, .slice none 0 0, .slice none 0 0, .slice none 0 0, .int .i64 0, .int .i64 0] 31);obtain ⟨X2, hX⟩ : ∃ Y, Y = X1.alloc (.cells #[.int .i64 0, .int .i64 0, .int .i64 0, .int .i64 0, .slice none 0 0, .slice none 0 0, .slice none 0 0, .slice none 0 0, .slice none 0 0, .slice none 0 0, .slice none 0 0, .slice none 0 0, .int .i64 0, .int .i64 0] 31) := ⟨_, rfl⟩;rw [← hX] at hb hbk ⊢;clear hX;have SX2 := Lh (SX1.out.trans (hb.mono SX1.out.size));have HBK2 := Lh hbk;have HGE := Lh (show wx.heap.size ≤ X1.heap.size from SX1.out.size);have HNL2 := Lh (nl_below HNL1.out hb);refine hK _ _ SX2.out ?_;clear hK K hb hbk;generalize X1.heap.size = gh at *;refine gwq 11 fun K hK => ?_;go_simp
      go_at_call 14
      refine (jx6 (.agg #[.int .i64 u.num, .int .i64 u.rev, .int .i64 u.mode, .int .i64 u.size, s0, s1, s2, s3, s4, s5, s6, s7, .int .i64 u.m.live, .int .i64 u.m.garb]) u (6 * i) vn m X2 ⟨s0, s1, s2, s3, s4, s5, s6, s7, rfl, jqf MSU.out SX2.out, JU.out⟩ HFU.out (by have := HM6.out; have := HI8.out; omega) HNL2.out).mono ?_;rintro e X3 ⟨⟨vh, ca, rfl, hca, h, hgv, hfl⟩, hb⟩;obtain ⟨r0, r1, r2, r3, r4, r5, r6, r7, rfl, hmh, hjh⟩ := hgv;have SX3 := Lh (SX2.out.trans (hb.mono SX2.out.size));have HMH3 := Lh hmh;have HJH := Lh hjh;have HBH := Lh (show Few h.m ∧ h.m.st.flatten.length ≤ 6 * (i + 1) from ⟨jxz hmh.1 (by have := HM6.out; have := HI8.out; omega), by have := HM6.out; omega⟩);have ONH := Lh (jwj hmh);have HBK3 := Lh ((hb.block _ (jqb HBK2.out)).trans HBK2.out);refine hK _ _ SX3.out ?_;clear hK K hb hmh hjh hfl hca;refine tky 12 (.tuple #[.agg #[.int .i64 h.num, .int .i64 h.rev, .int .i64 h.mode, .int .i64 h.size, r0, r1, r2, r3, r4, r5, r6, r7, .int .i64 h.m.live, .int .i64 h.m.garb], .int .i64 ca]) rfl (fun w' hw' => by
       skip
       go_simp) SX3.out ?_
      refine tky 13 (.agg #[.int .i64 h.num, .int .i64 h.rev, .int .i64 h.mode, .int .i64 h.size, r0, r1, r2, r3, r4, r5, r6, r7, .int .i64 h.m.live, .int .i64 h.m.garb]) rfl (fun w' hw' => by
       skip
       go_simp) SX3.out ?_
      refine tky 14 (.int .i64 ca) rfl (fun w' hw' => by
       skip
       go_simp) SX3.out ?_
      refine gwq 16 fun K hK => ?_;refine wp_store_row 31 _ _ rfl gh #[.int .i64 h.num, .int .i64 h.rev, .int .i64 h.mode, .int .i64 h.size, r0, r1, r2, r3, r4, r5, r6, r7, .int .i64 h.m.live, .int .i64 h.m.garb] (by rfl) (by rfl) 31 _ HBK3.out jwb rfl ONH.out ?_;have HH5 := Lh (setRow_heap X3 gh _ #[.int .i64 h.num, .int .i64 h.rev, .int .i64 h.mode, .int .i64 h.size, r0, r1, r2, r3, r4, r5, r6, r7, .int .i64 h.m.live, .int .i64 h.m.garb] _ _ HBK3.out);have HM5 := Lh (jqv (cs := #[.int .i64 h.num, .int .i64 h.rev, .int .i64 h.mode, .int .i64 h.size, r0, r1, r2, r3, r4, r5, r6, r7, .int .i64 h.m.live, .int .i64 h.m.garb]) HMH3.out HBK3.out jwg);have SX5 := Lh (jqd SX3.out HGE.out #[.int .i64 h.num, .int .i64 h.rev, .int .i64 h.mode, .int .i64 h.size, r0, r1, r2, r3, r4, r5, r6, r7, .int .i64 h.m.live, .int .i64 h.m.garb]);refine hK _ _ SX5.out ?_;clear hK K HBK3 HMH3 SX3;generalize X3.setRow gh #[.int .i64 h.num, .int .i64 h.rev, .int .i64 h.mode, .int .i64 h.size, r0, r1, r2, r3, r4, r5, r6, r7, .int .i64 h.m.live, .int .i64 h.m.garb] = X5 at *;refine gwq 17 fun K hK => ?_;go_simp;refine hK _ _ SX5.out ?_;clear hK K;refine wpAnyH_done (by kernel_rfl) ?_ _;unfold jqw;dsimp only;go_wp2_with fail
      go_meet
      exact ⟨gh, ca, h, r0, r1, r2, r3, r4, r5, r6, r7, rfl, rfl, HH5, HM5, HJH, HBH, SX5⟩
    ·go_simp
     have hb := jqg X0 (.cells #[.int .i64 0, .int .i64 0, .int .i64 0, .int .i64 0, .slice none 0 0, .slice none 0 0, .slice none 0 0, .slice none 0 0, .slice none 0 0, .slice none 0 0, .slice none 0 0, .slice none 0 0, .int .i64 0, .int .i64 0] 31);have hbk := heap_alloc_new X0 (.cells #[.int .i64 0, .int .i64 0, .int .i64 0, .int .i64 0, .slice none 0 0, .slice none 0 0, .slice none 0 0, .slice none 0 0, .slice none 0 0, .slice none 0 0, .slice none 0 0, .slice none 0 0, .int .i64 0, .int .i64 0] 31);obtain ⟨X1, hX⟩ : ∃ Y, Y = X0.alloc (.cells #[.int .i64 0, .int .i64 0, .int .i64 0, .int .i64 0, .slice none 0 0, .slice none 0 0, .slice none 0 0, .slice none 0 0, .slice none 0 0, .slice none 0 0, .slice none 0 0, .slice none 0 0, .int .i64 0, .int .i64 0] 31) := ⟨_, rfl⟩;rw [← hX] at hb hbk ⊢;clear hX;have SX1 := Lh (SX0.out.trans (hb.mono SX0.out.size));have HBK1 := Lh hbk;have HGE := Lh (show wx.heap.size ≤ X0.heap.size from SX0.out.size);refine hK _ _ SX1.out ?_;clear hK K hb hbk;generalize X0.heap.size = gh at *;refine gwq 10 fun K hK => ?_;go_simp
     go_at_call 15
     refine (small_some (.slice na nn nc) nn X1 (jxf HNR.out SX1.out)).mono ?_;rintro e X2 ⟨⟨vn, m, rfl, hnl, hm⟩, hb⟩;have SX2 := Lh (SX1.out.trans (hb.mono SX1.out.size));have HNL2 := Lh hnl;have HM6 := Lh hm;have HBK2 := Lh ((hb.block _ (jqb HBK1.out)).trans HBK1.out);refine hK _ _ SX2.out ?_;clear hK K hb hnl hm;refine gwq 11 fun K hK => ?_;go_simp
     go_at_call 14
     refine (jx6 (.agg #[.int .i64 u.num, .int .i64 u.rev, .int .i64 u.mode, .int .i64 u.size, s0, s1, s2, s3, s4, s5, s6, s7, .int .i64 u.m.live, .int .i64 u.m.garb]) u (6 * i) vn m X2 ⟨s0, s1, s2, s3, s4, s5, s6, s7, rfl, jqf MSU.out SX2.out, JU.out⟩ HFU.out (by have := HM6.out; have := HI8.out; omega) HNL2.out).mono ?_;rintro e X3 ⟨⟨vh, ca, rfl, hca, h, hgv, hfl⟩, hb⟩;obtain ⟨r0, r1, r2, r3, r4, r5, r6, r7, rfl, hmh, hjh⟩ := hgv;have SX3 := Lh (SX2.out.trans (hb.mono SX2.out.size));have HMH3 := Lh hmh;have HJH := Lh hjh;have HBH := Lh (show Few h.m ∧ h.m.st.flatten.length ≤ 6 * (i + 1) from ⟨jxz hmh.1 (by have := HM6.out; have := HI8.out; omega), by have := HM6.out; omega⟩);have ONH := Lh (jwj hmh);have HBK3 := Lh ((hb.block _ (jqb HBK2.out)).trans HBK2.out);refine hK _ _ SX3.out ?_;clear hK K hb hmh hjh hfl hca;refine tky 12 (.tuple #[.agg #[.int .i64 h.num, .int .i64 h.rev, .int .i64 h.mode, .int .i64 h.size, r0, r1, r2, r3, r4, r5, r6, r7, .int .i64 h.m.live, .int .i64 h.m.garb], .int .i64 ca]) rfl (fun w' hw' => by
      skip
      go_simp) SX3.out ?_
     refine tky 13 (.agg #[.int .i64 h.num, .int .i64 h.rev, .int .i64 h.mode, .int .i64 h.size, r0, r1, r2, r3, r4, r5, r6, r7, .int .i64 h.m.live, .int .i64 h.m.garb]) rfl (fun w' hw' => by
      skip
      go_simp) SX3.out ?_
     refine tky 14 (.int .i64 ca) rfl (fun w' hw' => by
      skip
      go_simp) SX3.out ?_
     refine gwq 16 fun K hK => ?_;refine wp_store_row 31 _ _ rfl gh #[.int .i64 h.num, .int .i64 h.rev, .int .i64 h.mode, .int .i64 h.size, r0, r1, r2, r3, r4, r5, r6, r7, .int .i64 h.m.live, .int .i64 h.m.garb] (by rfl) (by rfl) 31 _ HBK3.out jwb rfl ONH.out ?_;have HH5 := Lh (setRow_heap X3 gh _ #[.int .i64 h.num, .int .i64 h.rev, .int .i64 h.mode, .int .i64 h.size, r0, r1, r2, r3, r4, r5, r6, r7, .int .i64 h.m.live, .int .i64 h.m.garb] _ _ HBK3.out);have HM5 := Lh (jqv (cs := #[.int .i64 h.num, .int .i64 h.rev, .int .i64 h.mode, .int .i64 h.size, r0, r1, r2, r3, r4, r5, r6, r7, .int .i64 h.m.live, .int .i64 h.m.garb]) HMH3.out HBK3.out jwg);have SX5 := Lh (jqd SX3.out HGE.out #[.int .i64 h.num, .int .i64 h.rev, .int .i64 h.mode, .int .i64 h.size, r0, r1, r2, r3, r4, r5, r6, r7, .int .i64 h.m.live, .int .i64 h.m.garb]);refine hK _ _ SX5.out ?_;clear hK K HBK3 HMH3 SX3;generalize X3.setRow gh #[.int .i64 h.num, .int .i64 h.rev, .int .i64 h.mode, .int .i64 h.size, r0, r1, r2, r3, r4, r5, r6, r7, .int .i64 h.m.live, .int .i64 h.m.garb] = X5 at *;refine gwq 17 fun K hK => ?_;go_simp;refine hK _ _ SX5.out ?_;clear hK K;refine wpAnyH_done (by kernel_rfl) ?_ _;unfold jqw;dsimp only;go_wp2_with fail
     go_meet
     exact ⟨gh, ca, h, r0, r1, r2, r3, r4, r5, r6, r7, rfl, rfl, HH5, HM5, HJH, HBH, SX5⟩
   case rest =>
    obtain ⟨gh, ca, h, r0, r1, r2, r3, r4, r5, r6, r7, rfl, rfl, HH5, HM5, HJH, HBH, SX5⟩ := hcut
    rename World => X5
    clear p0 p1;obtain ⟨⟨y0, y1, y2, y3⟩, -⟩ := bx4 ((SX5.out.block _ (jqb HP.out)).trans HP.out);obtain ⟨x0, x1, x2, x3, x4, x5, x6, x7, x8, x9, x10, x11, x12, x13⟩ := bx14 HH5.out;go_wp2_with fail
    clear y0 y1 y2 y3;clear x0 x1 x2 x3 x4 x5 x6 x7 x8 x9 x10 x11 x12 x13;refine (rschange_x id lim ro (some ⟨b, off, none⟩) n1 c1 L (.agg #[.int .i64 h.num, .int .i64 h.rev, .int .i64 h.mode, .int .i64 h.size, r0, r1, r2, r3, r4, r5, r6, r7, .int .i64 h.m.live, .int .i64 h.m.garb]) h X5 HN1.out (jqj GL.out SX5.out) HL1.out HLF.out HJ.out ⟨r0, r1, r2, r3, r4, r5, r6, r7, rfl, HM5.out, HJH.out⟩ ⟨HBH.out.1, by have := HBH.out.2; have := HI8.out; omega⟩).mono ?_;rintro e X7 ⟨⟨vt, rfl, hsv⟩, hb⟩;obtain ⟨T, hT⟩ : ∃ T, T = chgT ⟨id, lim, ro, L⟩ h := ⟨_, rfl⟩;obtain ⟨cc, hcc⟩ : ∃ q, q = chgC ⟨id, lim, ro, L⟩ h := ⟨_, rfl⟩;rw [← hT] at hsv;rw [← hcc];have HBD := Lh (show cc = 0 → okS T ∧ ∀ g ∈ T.gens, Few g.m ∧ g.m.st.flatten.length ≤ 6 * (i + 1) from fun e => by rw [hT]; exact (fun q => chg_bd q HBH.out (fun g hg => ⟨(HBO.out g hg).1, by have := (HBO.out g hg).2; omega⟩)) (by rw [← hcc]; exact e));obtain ⟨gt, rfl, hgt, hjt⟩ := hsv;obtain ⟨a2, c2, rfl, -⟩ := jw2 hgt;obtain ⟨n2, hn2⟩ : ∃ z, z = T.gens.length := ⟨_, rfl⟩;rw [← hn2] at hgt ⊢;have HN2 := Lh hn2;have SX7 := Lh (SX5.out.trans (hb.mono SX5.out.size));have HGT := Lh hgt;have HJT := Lh hjt;have hz := heap_alloc_new X7 (.cells #[.int .i64 0, .int .i64 0, .bool false, .slice none 0 0] 24);clear hb hT hcc hn2 hgt hjt;go_upto_region 11 with ((with_reducible refine jwt X7.heap.size _ #[.int .i64 T.id, .int .i64 T.limit, .bool T.ro, .slice a2 n2 c2] ?_ ?_ hz rfl rfl jw8 ?_); exact rfl; exact rfl)
    rw [World.setRow_alloc_new];have hb := jqg X7 (.cells #[.int .i64 T.id, .int .i64 T.limit, .bool T.ro, .slice a2 n2 c2] 24);have SX9 := Lh (SX7.out.trans (hb.mono SX7.out.size));have HT9 := Lh (heap_alloc_new X7 (.cells #[.int .i64 T.id, .int .i64 T.limit, .bool T.ro, .slice a2 n2 c2] 24));have HP9 := Lh ((SX9.out.block _ (jqb HP.out)).trans HP.out);have HZ9 := Lh ((SX9.out.block _ (jqb HZ.out)).trans HZ.out);have HG9 := Lh (show Gl (X7.alloc (.cells #[.int .i64 T.id, .int .i64 T.limit, .bool T.ro, .slice a2 n2 c2] 24)) (.slice a2 T.gens.length c2) T.gens from by rw [← HN2.out]; exact jqj HGT.out hb);have HJ9 := HJT;have BW9 := Lh (BX.out.trans (SX9.out.mono BX.out.size));clear hb hz SX7 HGT;generalize X7.alloc (.cells #[.int .i64 T.id, .int .i64 T.limit, .bool T.ro, .slice a2 n2 c2] 24) = X9 at *;generalize X7.heap.size = gt at *;rcases Classical.em (ca = 0) with h1 | h1
    ·have d1 : decide (ca = 0) = true := decide_eq_true h1
     have d2 : (ca == 0) = true := beq_iff_eq.2 h1;clear h1;rcases Classical.em (cc = 0) with h2 | h2
     ·have HC0 := Lh h2
      have d3 : decide (cc = 0) = true := decide_eq_true h2;have d4 : (cc == 0) = true := beq_iff_eq.2 h2;clear h2;obtain ⟨⟨y0, y1, y2, y3⟩, -⟩ := bx4 HT9.out;have HMD := Lh (md_set (i := i) HP9.out HZ9.out (by simp) jwq HG9.out HJ9.out (HBD.out HC0.out) BW9.out HPS.out HN2.out);go_wp2_with ((with_reducible refine jwt ps _ #[.int .i64 T.id, .int .i64 T.limit, .bool T.ro, .slice a2 n2 c2] ?_ ?_ HP9.out rfl rfl jw8 ?_); exact rfl; exact rfl)
      go_roundw
      case rel => exact ⟨i + 1, HIL.out, HI8.out, by go_num, HMD.out⟩
      case measure => exact meas9 n i HIL.out (by have := HLN.out; omega)
     ·have d3 : decide (cc = 0) = false := decide_eq_false h2
      have d4 : (cc == 0) = false := beq_false_of_ne h2;clear h2;go_wp2_with fail
      go_roundw
      case rel => exact ⟨i + 1, HIL.out, HI8.out, by go_num, md_next HWX.out SX9.out⟩
      case measure => exact meas9 n i HIL.out (by have := HLN.out; omega)
    ·have d1 : decide (ca = 0) = false := decide_eq_false h1
     have d2 : (ca == 0) = false := beq_false_of_ne h1;clear h1;go_wp2_with fail
     go_roundw
     case rel => exact ⟨i + 1, HIL.out, HI8.out, by go_num, md_next HWX.out SX9.out⟩
     case measure => exact meas9 n i HIL.out (by have := HLN.out; omega)
  ·rw [show ((2 : Nat) : Int) = 2 from rfl]
   have hn1 : 0 < n1 := by have := HOK.out.n1; have := HN1.out; simp only at *; omega
   obtain ⟨p, hp⟩ : ∃ p, p = n1 - 1 := ⟨_, rfl⟩;obtain ⟨b, off, hab, s0, s1, s2, s3, s4, s5, s6, s7, GA⟩ := gl_at GL.out (show p < n1 by omega);obtain rfl := hab;clear GA hp hn1;obtain ⟨⟨y0, y1, y2, y3⟩, -⟩ := bx4 HP.out;go_wp2_with fail
   clear y0 y1 y2 y3;refine (rsrotate_x id lim ro (some ⟨b, off, none⟩) n1 c1 L wx HN1.out GL.out HL1.out HLF.out HJ.out).mono ?_;rintro e X7 ⟨⟨vt, rfl, hsv⟩, hb⟩;have SX0 := Lh (Below.refl wx.heap.size wx);obtain ⟨T, hT⟩ : ∃ T, T = rotT ⟨id, lim, ro, L⟩ := ⟨_, rfl⟩;obtain ⟨cc, hcc⟩ : ∃ q, q = rotC ⟨id, lim, ro, L⟩ := ⟨_, rfl⟩;rw [← hT] at hsv;rw [← hcc];have HBD := Lh (show cc = 0 → okS T ∧ ∀ g ∈ T.gens, Few g.m ∧ g.m.st.flatten.length ≤ 6 * (i + 1) from fun e => by rw [hT]; exact (fun q => rot_bd q (fun g hg => ⟨(HBO.out g hg).1, by have := (HBO.out g hg).2; omega⟩)) (by rw [← hcc]; exact e));obtain ⟨gt, rfl, hgt, hjt⟩ := hsv;obtain ⟨a2, c2, rfl, -⟩ := jw2 hgt;obtain ⟨n2, hn2⟩ : ∃ z, z = T.gens.length := ⟨_, rfl⟩;rw [← hn2] at hgt ⊢;have HN2 := Lh hn2;have SX7 := Lh (SX0.out.trans (hb.mono SX0.out.size));have HGT := Lh hgt;have HJT := Lh hjt;have hz := heap_alloc_new X7 (.cells #[.int .i64 0, .int .i64 0, .bool false, .slice none 0 0] 24);clear hb hT hcc hn2 hgt hjt;go_upto_region 15 with ((with_reducible refine jwt X7.heap.size _ #[.int .i64 T.id, .int .i64 T.limit, .bool T.ro, .slice a2 n2 c2] ?_ ?_ hz rfl rfl jw8 ?_); exact rfl; exact rfl)
   rw [World.setRow_alloc_new];have hb := jqg X7 (.cells #[.int .i64 T.id, .int .i64 T.limit, .bool T.ro, .slice a2 n2 c2] 24);have SX9 := Lh (SX7.out.trans (hb.mono SX7.out.size));have HT9 := Lh (heap_alloc_new X7 (.cells #[.int .i64 T.id, .int .i64 T.limit, .bool T.ro, .slice a2 n2 c2] 24));have HP9 := Lh ((SX9.out.block _ (jqb HP.out)).trans HP.out);have HZ9 := Lh ((SX9.out.block _ (jqb HZ.out)).trans HZ.out);have HG9 := Lh (show Gl (X7.alloc (.cells #[.int .i64 T.id, .int .i64 T.limit, .bool T.ro, .slice a2 n2 c2] 24)) (.slice a2 T.gens.length c2) T.gens from by rw [← HN2.out]; exact jqj HGT.out hb);have HJ9 := HJT;have BW9 := Lh (BX.out.trans (SX9.out.mono BX.out.size));clear hb hz SX7 HGT;generalize X7.alloc (.cells #[.int .i64 T.id, .int .i64 T.limit, .bool T.ro, .slice a2 n2 c2] 24) = X9 at *;generalize X7.heap.size = gt at *;rcases Classical.em (cc = 0) with h2 | h2
   ·have HC0 := Lh h2
    have d3 : decide (cc = 0) = true := decide_eq_true h2;have d4 : (cc == 0) = true := beq_iff_eq.2 h2;clear h2;obtain ⟨⟨y0, y1, y2, y3⟩, -⟩ := bx4 HT9.out;have HMD := Lh (md_set (i := i) HP9.out HZ9.out (by simp) jwq HG9.out HJ9.out (HBD.out HC0.out) BW9.out HPS.out HN2.out);go_wp2_with ((with_reducible refine jwt ps _ #[.int .i64 T.id, .int .i64 T.limit, .bool T.ro, .slice a2 n2 c2] ?_ ?_ HP9.out rfl rfl jw8 ?_); exact rfl; exact rfl)
    go_roundw
    case rel => exact ⟨i + 1, HIL.out, HI8.out, by go_num, HMD.out⟩
    case measure => exact meas9 n i HIL.out (by have := HLN.out; omega)
   ·have d3 : decide (cc = 0) = false := decide_eq_false h2
    have d4 : (cc == 0) = false := beq_false_of_ne h2;clear h2;go_wp2_with fail
    go_roundw
    case rel => exact ⟨i + 1, HIL.out, HI8.out, by go_num, md_next HWX.out SX9.out⟩
    case measure => exact meas9 n i HIL.out (by have := HLN.out; omega)
  ·rw [show ((3 : Nat) : Int) = 3 from rfl]
   have hn1 : 0 < n1 := by have := HOK.out.n1; have := HN1.out; simp only at *; omega
   obtain ⟨tt, p, ht1, ht2, ht3, ht4, hp1⟩ := mod_two gn n1 hn1;obtain ⟨b, off, hab, s0, s1, s2, s3, s4, s5, s6, s7, GA⟩ := gl_at GL.out hp1;obtain rfl := hab;generalize hug : L.getD p g0 = u at GA;have HUM := Lh (show u ∈ L from by
    rw [← hug, List.getD_eq_getElem?_getD, List.getElem?_eq_getElem (show p < L.length by have := HN1.out; omega)];exact List.getElem_mem _)
   have HFU := Lh ((HBO.out u HUM.out).2);have MSU := Lh GA.ms;have JU := Lh GA.j;have HGA := Lh GA;have HNZ := Lh (show ¬ ((n1 : Int) = 0) ∧ ¬ n1 = 0 by omega);have HTR := Lh (And.intro ht2 ht3);have HP1 := Lh hp1;have HTM := Lh (show gn.tmod (n1 : Int) = tt ∧ wrap64 (gn.tmod (n1 : Int)) = tt from ⟨ht1, by rw [ht1]; clear ht1 ht4; unfold wrap64; have := HL1.out; omega⟩);have HTA := Lh (show wrap64 (tt + (n1 : Int)) = tt + (n1 : Int) ∧ IntKind.i64.wrap (tt + (n1 : Int)) = tt + (n1 : Int) from by clear ht1 ht4; exact ⟨by unfold wrap64; have := HL1.out; omega, IntWalk.i64_in _ (by have := HL1.out; omega)⟩);have HTP := Lh (show (tt + (n1 : Int)).tmod (n1 : Int) = (p : Int) ∧ wrap64 ((tt + (n1 : Int)).tmod (n1 : Int)) = (p : Int) from ⟨ht4, by rw [ht4]; clear ht1 ht4; unfold wrap64; have := HL1.out; omega⟩);clear hug GA ht1 ht2 ht3 ht4 hp1 hn1;go_upto_region 18 with fail
   refine jq0 ?_;refine jqh (fun W' => Below wx.heap.size wx W') [0, 1, 2, 3, 4, 5, 6, 7, 8, 9, 10, 11, 12, 13] 1 (by kernel_rfl) (fun _ _ _ _ _ h => h.elim) (by kernel_rfl) (by rfl) (by rfl) (Below.refl wx.heap.size wx).drew ?_;simp only [jq2, List.filterMap_cons, List.filterMap_nil, List.getElem?_toArray, List.getElem?_cons_zero, List.getElem?_cons_succ];refine jqc (fun K hK => ?_);go_simp;refine ⟨_, fun _ _ => rfl, hK _ ?_⟩;clear hK K;refine jqc (fun K hK => ?_);go_simp;refine ⟨.int .i64 gn, fun w' hw' => by
    obtain ⟨⟨y0, y1, y2, y3⟩, -⟩ := bx4 ((hw'.block _ (jqb HA.out)).trans HA.out);go_simp, hK _ ?_⟩
   clear hK K;refine jqc (fun K hK => ?_);go_simp;refine ⟨_, fun _ _ => rfl, hK _ ?_⟩;clear hK K;refine jqc (fun K hK => ?_);go_simp;refine ⟨.slice (some ⟨b, off, none⟩) n1 c1, fun w' hw' => by
    obtain ⟨⟨y0, y1, y2, y3⟩, -⟩ := bx4 ((hw'.block _ (jqb HP.out)).trans HP.out);go_simp, hK _ ?_⟩
   clear hK K;refine jqc (fun K hK => ?_);go_simp;refine ⟨.int .i64 (n1 : Int), fun w' hw' => by
    skip
    go_simp, hK _ ?_⟩
   clear hK K;refine jqc (fun K hK => ?_);go_simp;refine ⟨.int .i64 tt, fun w' hw' => by
    have e0 := HNZ.out.1;have e00 := HNZ.out.2;have e1 := HTM.out.1;have e2 := HTM.out.2;go_simp, hK _ ?_⟩
   clear hK K;refine jqc (fun K hK => ?_);go_simp;refine ⟨_, fun _ _ => rfl, hK _ ?_⟩;clear hK K;refine jqc (fun K hK => ?_);go_simp;refine ⟨.slice (some ⟨b, off, none⟩) n1 c1, fun w' hw' => by
    obtain ⟨⟨y0, y1, y2, y3⟩, -⟩ := bx4 ((hw'.block _ (jqb HP.out)).trans HP.out);go_simp, hK _ ?_⟩
   clear hK K;refine jqc (fun K hK => ?_);go_simp;refine ⟨.int .i64 (n1 : Int), fun w' hw' => by
    skip
    go_simp, hK _ ?_⟩
   clear hK K;refine jqc (fun K hK => ?_);go_simp;refine ⟨.int .i64 (tt + (n1 : Int)), fun w' hw' => by
    have e1 := HTA.out.1;have e2 := HTA.out.2;go_simp, hK _ ?_⟩
   clear hK K;refine jqc (fun K hK => ?_);go_simp;refine ⟨_, fun _ _ => rfl, hK _ ?_⟩;clear hK K;refine jqc (fun K hK => ?_);go_simp;refine ⟨.slice (some ⟨b, off, none⟩) n1 c1, fun w' hw' => by
    obtain ⟨⟨y0, y1, y2, y3⟩, -⟩ := bx4 ((hw'.block _ (jqb HP.out)).trans HP.out);go_simp, hK _ ?_⟩
   clear hK K;refine jqc (fun K hK => ?_);go_simp;refine ⟨.int .i64 (n1 : Int), fun w' hw' => by
    skip
    go_simp, hK _ ?_⟩
   clear hK K;refine jqc (fun K hK => ?_);go_simp;refine ⟨.int .i64 (p : Int), fun w' hw' => by
    have e0 := HNZ.out.1;have e00 := HNZ.out.2;have e1 := HTP.out.1;have e2 := HTP.out.2;go_simp, hK _ ?_⟩
   clear hK K;refine jqp ?_;have SX3 := Lh (Below.refl wx.heap.size wx).drew;generalize wx.drew = X3 at *;refine gwq 14 fun K hK => ?_;go_simp;refine hK _ _ SX3.out ?_;clear hK K;refine wpAnyH_done (by kernel_rfl) ?_ _;unfold jqw;dsimp only;have p0 : (0 : Int) ≤ (p : Int) := by omega
   have p1 : (p : Int) < (n1 : Int) := by have := HP1.out; omega
   obtain ⟨⟨y0, y1, y2, y3⟩, -⟩ := bx4 ((SX3.out.block _ (jqb HA.out)).trans HA.out);obtain ⟨qb, hqb⟩ : ∃ q, q = decide (8 < kn) := ⟨_, rfl⟩;have d1 : decide ((8 : Int) < (kn : Int)) = qb := by
    rw [hqb]
    by_cases h : 8 < kn
    ·rw [decide_eq_true h]; exact decide_eq_true (by omega)
    ·rw [decide_eq_false h]; exact decide_eq_false (by omega)
   have d2 : decide (8 < kn) = qb := hqb.symm;have HQB := Lh hqb;clear hqb
   go_upto_if 101 with fail
   clear y0 y1 y2 y3;clear d1 d2
   go_cut [14] from 102 to 103 (fun uk wz => ∃ k4 : Nat, uk = .slice ka k4 kc ∧ Hid (Kl X3 (.slice ka k4 kc) k4) ∧ Hid (k4 ≤ 100000) ∧ wz = X3)
   case first =>
    cases qb
    case true =>
     have h1 : 8 < kn := of_decide_eq_true HQB.out.symm;have hkl := kl_take (kl_below HKL.out SX3.out) (show 8 ≤ kn by omega);have hck : kn ≤ kc := kl_cap HKC.out;have hc8 : (8 : Int) ≤ (kc : Int) := by omega
     have HKQ := Lh hkl;clear h1 hck hkl p0 p1;go_wp2_with fail
     go_meet
     exact ⟨8, rfl, HKQ, Lh (by decide), rfl⟩
    case false =>
     have h1 : ¬ 8 < kn := of_decide_eq_false HQB.out.symm;have HKQ := Lh (kl_below HKL.out SX3.out);have HKB := Lh (show kn ≤ 100000 by omega);clear h1 p0 p1;go_wp2_with fail
     go_meet
     exact ⟨kn, rfl, HKQ, HKB, rfl⟩
   case rest =>
    rename World => X3q
    obtain ⟨k4, rfl, HK6, HKB, hx3⟩ := hcut;rw [hx3];clear hx3;obtain ⟨x0, x1, x2, x3, x4, x5, x6, x7, x8, x9, x10, x11, x12, x13⟩ := (gat_below HGA.out SX3.out).cells;obtain ⟨⟨y0, y1, y2, y3⟩, -⟩ := bx4 ((SX3.out.block _ (jqb HP.out)).trans HP.out);go_wp2_with fail
    clear y0 y1 y2 y3;clear x0 x1 x2 x3 x4 x5 x6 x7 x8 x9 x10 x11 x12 x13;refine (rkill_some (.agg #[.int .i64 u.num, .int .i64 u.rev, .int .i64 u.mode, .int .i64 u.size, s0, s1, s2, s3, s4, s5, s6, s7, .int .i64 u.m.live, .int .i64 u.m.garb]) u (6 * i) (.slice ka k4 kc) k4 X3 ⟨s0, s1, s2, s3, s4, s5, s6, s7, rfl, jqf MSU.out SX3.out, JU.out⟩ HFU.out (by have := HI8.out; omega) HK6.out HKB.out).mono ?_;rintro e X4 ⟨⟨vh, ca, rfl, hca, h, hgv, hfl⟩, hb⟩;obtain ⟨r0, r1, r2, r3, r4, r5, r6, r7, rfl, hmh, hjh⟩ := hgv;have SX4 := Lh (SX3.out.trans (hb.mono SX3.out.size));have HMH := Lh hmh;have HJH := Lh hjh;have HBH := Lh (show Few h.m ∧ h.m.st.flatten.length ≤ 6 * (i + 1) from ⟨jxz hmh.1 (by have := HI8.out; omega), by omega⟩);have ONH := Lh (jwj hmh);have hz := heap_alloc_new X4 (.cells #[.int .i64 0, .int .i64 0, .int .i64 0, .int .i64 0, .slice none 0 0, .slice none 0 0, .slice none 0 0, .slice none 0 0, .slice none 0 0, .slice none 0 0, .slice none 0 0, .slice none 0 0, .int .i64 0, .int .i64 0] 31);clear hb hmh hjh hfl hca;go_upto_region 23 with ((with_reducible refine jwv X4.heap.size _ #[.int .i64 h.num, .int .i64 h.rev, .int .i64 h.mode, .int .i64 h.size, r0, r1, r2, r3, r4, r5, r6, r7, .int .i64 h.m.live, .int .i64 h.m.garb] ?_ ?_ hz rfl rfl ONH.out ?_); exact rfl; exact rfl)
    rw [World.setRow_alloc_new];have hb := jqg X4 (.cells #[.int .i64 h.num, .int .i64 h.rev, .int .i64 h.mode, .int .i64 h.size, r0, r1, r2, r3, r4, r5, r6, r7, .int .i64 h.m.live, .int .i64 h.m.garb] 31);have SX5 := Lh (SX4.out.trans (hb.mono SX4.out.size));have HH5 := Lh (heap_alloc_new X4 (.cells #[.int .i64 h.num, .int .i64 h.rev, .int .i64 h.mode, .int .i64 h.size, r0, r1, r2, r3, r4, r5, r6, r7, .int .i64 h.m.live, .int .i64 h.m.garb] 31));have HM5 := Lh (jqf HMH.out hb);clear hb hz SX4 HMH;generalize X4.alloc (.cells #[.int .i64 h.num, .int .i64 h.rev, .int .i64 h.mode, .int .i64 h.size, r0, r1, r2, r3, r4, r5, r6, r7, .int .i64 h.m.live, .int .i64 h.m.garb] 31) = X5 at *;generalize X4.heap.size = gh at *;obtain ⟨⟨y0, y1, y2, y3⟩, -⟩ := bx4 ((SX5.out.block _ (jqb HP.out)).trans HP.out);obtain ⟨x0, x1, x2, x3, x4, x5, x6, x7, x8, x9, x10, x11, x12, x13⟩ := bx14 HH5.out;go_wp2_with fail
    clear y0 y1 y2 y3;clear x0 x1 x2 x3 x4 x5 x6 x7 x8 x9 x10 x11 x12 x13;refine (rschange_x id lim ro (some ⟨b, off, none⟩) n1 c1 L (.agg #[.int .i64 h.num, .int .i64 h.rev, .int .i64 h.mode, .int .i64 h.size, r0, r1, r2, r3, r4, r5, r6, r7, .int .i64 h.m.live, .int .i64 h.m.garb]) h X5 HN1.out (jqj GL.out SX5.out) HL1.out HLF.out HJ.out ⟨r0, r1, r2, r3, r4, r5, r6, r7, rfl, HM5.out, HJH.out⟩ ⟨HBH.out.1, by have := HBH.out.2; have := HI8.out; omega⟩).mono ?_;rintro e X7 ⟨⟨vt, rfl, hsv⟩, hb⟩;obtain ⟨T, hT⟩ : ∃ T, T = chgT ⟨id, lim, ro, L⟩ h := ⟨_, rfl⟩;obtain ⟨cc, hcc⟩ : ∃ q, q = chgC ⟨id, lim, ro, L⟩ h := ⟨_, rfl⟩;rw [← hT] at hsv;rw [← hcc];have HBD := Lh (show cc = 0 → okS T ∧ ∀ g ∈ T.gens, Few g.m ∧ g.m.st.flatten.length ≤ 6 * (i + 1) from fun e => by rw [hT]; exact (fun q => chg_bd q HBH.out (fun g hg => ⟨(HBO.out g hg).1, by have := (HBO.out g hg).2; omega⟩)) (by rw [← hcc]; exact e));obtain ⟨gt, rfl, hgt, hjt⟩ := hsv;obtain ⟨a2, c2, rfl, -⟩ := jw2 hgt;obtain ⟨n2, hn2⟩ : ∃ z, z = T.gens.length := ⟨_, rfl⟩;rw [← hn2] at hgt ⊢;have HN2 := Lh hn2;have SX7 := Lh (SX5.out.trans (hb.mono SX5.out.size));have HGT := Lh hgt;have HJT := Lh hjt;have hz := heap_alloc_new X7 (.cells #[.int .i64 0, .int .i64 0, .bool false, .slice none 0 0] 24);clear hb hT hcc hn2 hgt hjt;go_upto_region 24 with ((with_reducible refine jwt X7.heap.size _ #[.int .i64 T.id, .int .i64 T.limit, .bool T.ro, .slice a2 n2 c2] ?_ ?_ hz rfl rfl jw8 ?_); exact rfl; exact rfl)
    rw [World.setRow_alloc_new];have hb := jqg X7 (.cells #[.int .i64 T.id, .int .i64 T.limit, .bool T.ro, .slice a2 n2 c2] 24);have SX9 := Lh (SX7.out.trans (hb.mono SX7.out.size));have HT9 := Lh (heap_alloc_new X7 (.cells #[.int .i64 T.id, .int .i64 T.limit, .bool T.ro, .slice a2 n2 c2] 24));have HP9 := Lh ((SX9.out.block _ (jqb HP.out)).trans HP.out);have HZ9 := Lh ((SX9.out.block _ (jqb HZ.out)).trans HZ.out);have HG9 := Lh (show Gl (X7.alloc (.cells #[.int .i64 T.id, .int .i64 T.limit, .bool T.ro, .slice a2 n2 c2] 24)) (.slice a2 T.gens.length c2) T.gens from by rw [← HN2.out]; exact jqj HGT.out hb);have HJ9 := HJT;have BW9 := Lh (BX.out.trans (SX9.out.mono BX.out.size));clear hb hz SX7 HGT;generalize X7.alloc (.cells #[.int .i64 T.id, .int .i64 T.limit, .bool T.ro, .slice a2 n2 c2] 24) = X9 at *;generalize X7.heap.size = gt at *;rcases Classical.em (ca = 0) with h1 | h1
    ·have d1 : decide (ca = 0) = true := decide_eq_true h1
     have d2 : (ca == 0) = true := beq_iff_eq.2 h1;clear h1;rcases Classical.em (cc = 0) with h2 | h2
     ·have HC0 := Lh h2
      have d3 : decide (cc = 0) = true := decide_eq_true h2;have d4 : (cc == 0) = true := beq_iff_eq.2 h2;clear h2;obtain ⟨⟨y0, y1, y2, y3⟩, -⟩ := bx4 HT9.out;have HMD := Lh (md_set (i := i) HP9.out HZ9.out (by simp) jwq HG9.out HJ9.out (HBD.out HC0.out) BW9.out HPS.out HN2.out);go_wp2_with ((with_reducible refine jwt ps _ #[.int .i64 T.id, .int .i64 T.limit, .bool T.ro, .slice a2 n2 c2] ?_ ?_ HP9.out rfl rfl jw8 ?_); exact rfl; exact rfl)
      go_roundw
      case rel => exact ⟨i + 1, HIL.out, HI8.out, by go_num, HMD.out⟩
      case measure => exact meas9 n i HIL.out (by have := HLN.out; omega)
     ·have d3 : decide (cc = 0) = false := decide_eq_false h2
      have d4 : (cc == 0) = false := beq_false_of_ne h2;clear h2;go_wp2_with fail
      go_roundw
      case rel => exact ⟨i + 1, HIL.out, HI8.out, by go_num, md_next HWX.out SX9.out⟩
      case measure => exact meas9 n i HIL.out (by have := HLN.out; omega)
    ·have d1 : decide (ca = 0) = false := decide_eq_false h1
     have d2 : (ca == 0) = false := beq_false_of_ne h1;clear h1;go_wp2_with fail
     go_roundw
     case rel => exact ⟨i + 1, HIL.out, HI8.out, by go_num, md_next HWX.out SX9.out⟩
     case measure => exact meas9 n i HIL.out (by have := HLN.out; omega)
end Go.Proofs.YtimoinfjinmamaaGreat.Gf
