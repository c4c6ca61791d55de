/- What is proved here: the program's last and roomy of a slot. No condition but on lengths. -/
/- What is proved here: the program's last and roomy of a slot. No condition but on lengths. -/
import Derived.Test.YtimoinfjinmamaaGreatGs8
import Derived.Test.YtimoinfjinmamaaGreatVq
namespace Go.Proofs.YtimoinfjinmamaaGreat.Gf
open Joins ChangeShapes WideShapes ChangeAt RowKit Deep By Qt
set_option maxRecDepth 100000
set_option maxHeartbeats 204800000
theorem chain_nil {P : Program} {ops : Array Oper} {Q : Exit → Act → World → Prop} {S : World → Prop} {END : Act → World → Prop} {a : Act} {w : World} (h : ∀ W, Below w.heap.size w W → S W → END a W) : wpChain P ops Q S END [] a w := h
theorem gat_below {w w' : World} {b o : Nat} {s0 s1 s2 s3 s4 s5 s6 s7 : Value} {g : Ge} (h : GAt w b o s0 s1 s2 s3 s4 s5 s6 s7 g) (hB : Below w.heap.size w w') : GAt w' b o s0 s1 s2 s3 s4 s5 s6 s7 g := by
 obtain ⟨c0, c1, c2, c3, c4, c5, c6, c7, c8, c9, c10, c11, c12, c13⟩ := h.cells;have k : ∀ (p : Nat) (v : Value), w.cell? ⟨b, p, none⟩ = some v → w'.cell? ⟨b, p, none⟩ = some v := fun p v q => (hB.cell (p := ⟨b, p, none⟩) (block_lt_of_cell q)).trans q;exact ⟨⟨k _ _ c0, k _ _ c1, k _ _ c2, k _ _ c3, k _ _ c4, k _ _ c5, k _ _ c6, k _ _ c7, k _ _ c8, k _ _ c9, k _ _ c10, k _ _ c11, k _ _ c12, k _ _ c13⟩, jqf h.ms hB, h.j⟩
theorem jqv {Y : World} {p : Nat} {vs : List Value} {m : Mp} {cs : Array Value} {cs0 : Array Value} {T : TypeId} (h : Ms Y vs m) (hz : Y.heap[p]? = some (.cells cs0 T (0, 0))) (hn : ∀ (k : Nat) (n : Int), cs0[k]? ≠ some (Value.int .u64 n)) : Ms (Y.setRow p cs) vs m := ⟨h.1, h.2.1, h.2.2.1, fun k hk => by
 obtain ⟨a, c, h1, h2⟩ := h.2.2.2 k hk;exact ⟨a, c, h1, it_keepM h2 hz hn fun b hb => setRow_other _ _ _ _ hb⟩⟩
theorem jwg : ∀ (k : Nat) (n : Int), (#[.int .i64 0, .int .i64 0, .int .i64 0, .int .i64 0, .slice none 0 0, .slice none 0 0, .slice none 0 0, .slice none 0 0, .slice none 0 0, .slice none 0 0, .slice none 0 0, .slice none 0 0, .int .i64 0, .int .i64 0] : Array Value)[k]? ≠ some (Value.int .u64 n) := fun k n h => by
 match k, h with
 | 0, h => simp at h
 | 1, h => simp at h
 | 2, h => simp at h
 | 3, h => simp at h
 | 4, h => simp at h
 | 5, h => simp at h
 | 6, h => simp at h
 | 7, h => simp at h
 | 8, h => simp at h
 | 9, h => simp at h
 | 10, h => simp at h
 | 11, h => simp at h
 | 12, h => simp at h
 | 13, h => simp at h
 | k + 14, h => simp at h
theorem psrec_any (n : Int) (hn : I64b n) (w : World) : Calls Tryz.prog 60 #[.int .i64 n] w fun e w' => e = .returned (.int .i64 (szI6 n)) ∧ w = w' := by
 go_enter Tryz.func60, Tryz.ntmps60
 go_wp2_with fail
 refine (psize_any n w hn).mono ?_;rintro e w1 ⟨rfl, rfl⟩;go_wp2_with fail
 go_ret
 exact ⟨rfl, rfl⟩
theorem plast_any (id lim : Int) (ro : Bool) (a : Option Addr) (n c : Nat) (L : List Ge) (w : World) (hl : Gl w (.slice a n c) L) (h0 : 0 < n) (hlen : n ≤ 100000) : Calls Tryz.prog 51 #[.agg #[.int .i64 id, .int .i64 lim, .bool ro, .slice a n c]] w fun e w' => (∃ s0 s1 s2 s3 s4 s5 s6 s7, e = .returned (.agg #[.int .i64 (L.getD (n - 1) g0).num, .int .i64 (L.getD (n - 1) g0).rev, .int .i64 (L.getD (n - 1) g0).mode, .int .i64 (L.getD (n - 1) g0).size, s0, s1, s2, s3, s4, s5, s6, s7, .int .i64 (L.getD (n - 1) g0).m.live, .int .i64 (L.getD (n - 1) g0).m.garb]) ∧ Ms w [s0, s1, s2, s3, s4, s5, s6, s7] (L.getD (n - 1) g0).m ∧ (J64 (L.getD (n - 1) g0).num ∧ J64 (L.getD (n - 1) g0).rev ∧ J64 (L.getD (n - 1) g0).mode ∧ J64 (L.getD (n - 1) g0).size)) ∧ Below w.heap.size w w' := by
 obtain ⟨b, off, rfl, s0, s1, s2, s3, s4, s5, s6, s7, GA⟩ := gl_at hl (show n - 1 < n by omega);generalize L.getD (n - 1) g0 = g at *;obtain ⟨p, hp⟩ : ∃ p, p = n - 1 := ⟨_, rfl⟩;rw [← hp] at GA;have q0 := al2 w (.cells #[.int .i64 id, .int .i64 lim, .bool ro, .slice (some ⟨b, off, none⟩) n c] 39) (.cells #[.int .i64 0, .int .i64 0, .int .i64 0, .int .i64 0, .slice none 0 0, .slice none 0 0, .slice none 0 0, .slice none 0 0, .slice none 0 0, .slice none 0 0, .slice none 0 0, .slice none 0 0, .int .i64 0, .int .i64 0] 55);have HMS := Lh GA.ms;have HJJ := Lh GA.j;have ON := Lh GA.one;have HC := Lh (gat_below GA q0.2.2).cells;have HX := Lh q0.1;have HY := Lh q0.2.1;have B0 := Lh q0.2.2;have e1 : (n : Int) - 1 = (p : Int) := by omega
 have e2 : wrap64 (p : Int) = (p : Int) := by unfold wrap64; omega
 have p0 : (0 : Int) ≤ (p : Int) := by omega
 have p1 : (p : Int) < (n : Int) := by omega
 clear hl GA q0 h0 hlen hp
 go_enter Tryz.func51, Tryz.ntmps51
 go_upto_region 1 with fail
 generalize (w.alloc (.cells #[.int .i64 id, .int .i64 lim, .bool ro, .slice (some ⟨b, off, none⟩) n c] 39)).alloc (.cells #[.int .i64 0, .int .i64 0, .int .i64 0, .int .i64 0, .slice none 0 0, .slice none 0 0, .slice none 0 0, .slice none 0 0, .slice none 0 0, .slice none 0 0, .slice none 0 0, .slice none 0 0, .int .i64 0, .int .i64 0] 55) = W0 at *;obtain ⟨x0, x1, x2, x3, x4, x5, x6, x7, x8, x9, x10, x11, x12, x13⟩ := HC.out;obtain ⟨⟨y0, y1, y2, y3⟩, -⟩ := bx4 HX.out;go_wp2_with ((with_reducible refine jxn (w.heap.size + 1) _ #[.int .i64 g.num, .int .i64 g.rev, .int .i64 g.mode, .int .i64 g.size, s0, s1, s2, s3, s4, s5, s6, s7, .int .i64 g.m.live, .int .i64 g.m.garb] ?_ ?_ HY.out rfl rfl ON.out ?_); exact rfl; exact rfl)
 refine bodyPost_ret (results_cell_row rfl _ _ (w.heap.size + 1) 55 #[.int .i64 g.num, .int .i64 g.rev, .int .i64 g.mode, .int .i64 g.size, s0, s1, s2, s3, s4, s5, s6, s7, .int .i64 g.m.live, .int .i64 g.m.garb] (0, 0) _ rfl (setRow_heap _ _ _ _ _ _ HY.out) Tryz.underlying55 rfl jxj) rfl ?_;exact ⟨⟨s0, s1, s2, s3, s4, s5, s6, s7, rfl, HMS.out, HJJ.out⟩, jqd B0.out (Nat.le_succ _) _⟩
structure roomP (lim : Int) (L : List Ge) : Prop where
 all : ∀ i, i < L.length → (L.getD i g0).size ≤ 2 * lim
 top : (L.getD (L.length - 1) g0).size + ((lenM (L.getD (L.length - 1) g0).m * 24 : Nat) : Int) ≤ 2 * lim
noncomputable def roomB (lim : Int) (L : List Ge) : Bool := @decide (roomP lim L) (Classical.propDecidable _)
theorem roomB_t {lim : Int} {L : List Ge} (h : roomP lim L) : roomB lim L = true := by unfold roomB; exact @decide_eq_true _ (Classical.propDecidable _) h
theorem roomB_f {lim : Int} {L : List Ge} (h : ¬ roomP lim L) : roomB lim L = false := by unfold roomB; exact @decide_eq_false _ (Classical.propDecidable _) h
theorem top_sum {sz : Int} {K : Nat} (h : K ≤ 900) (h1 : 16 ≤ sz) (h2 : sz ≤ 1048576) : IntKind.i64.wrap ((K : Int) * 24) = ((K * 24 : Nat) : Int) ∧ IntKind.i64.wrap (sz + ((K * 24 : Nat) : Int)) = sz + ((K * 24 : Nat) : Int) := by
 have e : (K : Int) * 24 = ((K * 24 : Nat) : Int) := by omega
 rw [e];exact ⟨IntWalk.i64_in _ (by omega), IntWalk.i64_in _ (by omega)⟩
theorem lenM_le {m : Mp} (h : m.st.flatten.length ≤ 900) : lenM m ≤ 900 := by
 unfold lenM;split
 ·exact h
 ·omega
theorem proomy_any (id lim : Int) (ro : Bool) (a : Option Addr) (n c : Nat) (L : List Ge) (w : World) (hn : n = L.length) (hl : Gl w (.slice a n c) L) (h0 : 0 < n) (hlen : n ≤ 100000) (hlim : 0 ≤ lim ∧ lim ≤ 1000000) (hf : ∀ k, k < n → LGe (L.getD k g0)) (hok : ∀ k, k < n → okGe (L.getD k g0)) : Calls Tryz.prog 76 #[.agg #[.int .i64 id, .int .i64 lim, .bool ro, .slice a n c]] w fun e w' => e = .returned (.bool (roomB lim L)) ∧ Below w.heap.size w w' := by
 have hb := jqg w (.cells #[.int .i64 id, .int .i64 lim, .bool ro, .slice a n c] 39);have HS0 := Lh (heap_alloc_new w (.cells #[.int .i64 id, .int .i64 lim, .bool ro, .slice a n c] 39));have B0 := Lh hb;have GL0 := Lh (jqj hl hb);have HN := Lh (And.intro hn (And.intro h0 hlen));have HF := Lh hf;have HOK := Lh hok;have HLM := Lh hlim;obtain ⟨l2, hl2⟩ : ∃ z, z = 2 * lim := ⟨_, rfl⟩;have HL2 := Lh hl2;have e1 : IntKind.i64.wrap (2 * lim) = l2 := by rw [hl2]; exact IntWalk.i64_in _ (by omega)
 have e2 : wrap64 (2 * lim) = l2 := by rw [hl2]; unfold wrap64; omega
 clear hb hl hn h0 hlen hlim hf hok hl2
 go_enter Tryz.func76, Tryz.ntmps76
 go_upto_region 1 with fail
 generalize w.alloc (.cells #[.int .i64 id, .int .i64 lim, .bool ro, .slice a n c] 39) = w0 at *;refine jq0 ?_;refine jqh (fun W' => Below w0.heap.size w0 W') [0, 1, 2, 3] 4 (by kernel_rfl) (fun _ _ _ _ _ h => h.elim) (by kernel_rfl) (by rfl) (by rfl) (Below.refl w0.heap.size w0).drew ?_;simp only [jq2, List.filterMap_cons, List.filterMap_nil, List.getElem?_toArray, List.getElem?_cons_zero, List.getElem?_cons_succ];refine jqc (fun K hK => ?_);go_simp;refine ⟨_, fun _ _ => rfl, hK _ ?_⟩;clear hK K;refine jqc (fun K hK => ?_);go_simp;refine ⟨.int .i64 lim, fun w' hw' => by
  obtain ⟨⟨y0, y1, y2, y3⟩, -⟩ := bx4 ((hw'.block _ (jqb HS0.out)).trans HS0.out);go_simp, hK _ ?_⟩
 clear hK K;refine jqc (fun K hK => ?_);go_simp;refine ⟨_, fun _ _ => rfl, hK _ ?_⟩;clear hK K;refine jqc (fun K hK => ?_);go_simp;refine ⟨.agg #[.int .i64 id, .int .i64 lim, .bool ro, .slice a n c], fun w' hw' => by
  obtain ⟨⟨y0, y1, y2, y3⟩, -⟩ := bx4 ((hw'.block _ (jqb HS0.out)).trans HS0.out);go_simp, hK _ ?_⟩
 clear hK K;refine jqp ?_;have SD := Lh (Below.refl w0.heap.size w0).drew;generalize w0.drew = WD at *;refine wp_float1 (fuelE := 2) (base := w0.heap.size) 5 4 (.cells #[.int .i64 0, .int .i64 0, .int .i64 0, .int .i64 0, .slice none 0 0, .slice none 0 0, .slice none 0 0, .slice none 0 0, .slice none 0 0, .slice none 0 0, .slice none 0 0, .slice none 0 0, .int .i64 0, .int .i64 0] 55) [4] #[true, true, true, true, true, true, false, false] 2 ⟨_, rfl, rfl, rfl, fun a w => by go_simp⟩ (by kernel_rfl) (fun _ _ _ _ h => h) (fun W h => h.alloc h.size _) (by kernel_rfl) (by kernel_rfl) SD.out.size SD.out ?_;refine chain_gw 4 rfl (by kernel_rfl) fun W4 hbW hSW K hK => ?_;go_simp
 go_at_call 51
 refine (plast_any id lim ro a n c L W4 (jqj GL0.out hSW) HN.out.2.1 HN.out.2.2).mono ?_;rintro e W5 ⟨⟨s0, s1, s2, s3, s4, s5, s6, s7, rfl, hms, hjj⟩, hb⟩;refine hK _ _ (hSW.trans (hb.mono hSW.size)) hb ?_;clear hK K;have MS5 := Lh (jqf hms hb);have ON := Lh (jwj hms);have S5 := Lh (hSW.trans (hb.mono hSW.size));have HTL := Lh (HF.out (n - 1) (by have := HN.out; omega));have HTO := Lh (HOK.out (n - 1) (by have := HN.out; omega));have HRP := Lh (show (L.getD (L.length - 1) g0) = L.getD (n - 1) g0 by rw [HN.out.1]);generalize hT : L.getD (n - 1) g0 = T at *;have HTT := Lh hT;clear hbW hSW hb hms hjj hT;refine chain_nil fun W hb hS g hg hbx => ?_;have RL := Lh (jqd hS hg #[.int .i64 T.num, .int .i64 T.rev, .int .i64 T.mode, .int .i64 T.size, s0, s1, s2, s3, s4, s5, s6, s7, .int .i64 T.m.live, .int .i64 T.m.garb]);have MSW := Lh (jqf MS5.out hb);have HBX := Lh hbx;have HSS := Lh hS;have HGS := Lh hg;clear hb hS hbx MS5 S5;refine gwq 6 fun K hK => ?_;go_simp;refine hK _ _ HSS.out ?_;clear hK K;refine gwq 7 fun K hK => ?_;refine wp_store_row 55 _ _ rfl g #[.int .i64 T.num, .int .i64 T.rev, .int .i64 T.mode, .int .i64 T.size, s0, s1, s2, s3, s4, s5, s6, s7, .int .i64 T.m.live, .int .i64 T.m.garb] (by rfl) (by rfl) 55 _ HBX.out jxj rfl ON.out ?_;refine hK _ _ RL.out ?_;clear hK K;refine wpAnyH_done (by kernel_rfl) ?_ _;unfold jqw;dsimp only;have MS1 := Lh (jqv MSW.out HBX.out jwg (cs := #[.int .i64 T.num, .int .i64 T.rev, .int .i64 T.mode, .int .i64 T.size, s0, s1, s2, s3, s4, s5, s6, s7, .int .i64 T.m.live, .int .i64 T.m.garb]));have HT1 := Lh (setRow_heap W g _ #[.int .i64 T.num, .int .i64 T.rev, .int .i64 T.mode, .int .i64 T.size, s0, s1, s2, s3, s4, s5, s6, s7, .int .i64 T.m.live, .int .i64 T.m.garb] _ _ HBX.out);have hb := RL.out;generalize W.setRow g #[.int .i64 T.num, .int .i64 T.rev, .int .i64 T.mode, .int .i64 T.size, s0, s1, s2, s3, s4, s5, s6, s7, .int .i64 T.m.live, .int .i64 T.m.garb] = w1 at *;have GL1 := Lh (jqj GL0.out hb);have B1 := Lh (B0.out.trans (hb.mono B0.out.size));have HS1 := Lh ((hb.block _ (jqb HS0.out)).trans HS0.out);clear hb GL0 B0 HS0 MSW RL HBX HSS SD hg HGS;obtain ⟨⟨y0, y1, y2, y3⟩, -⟩ := bx4 HS1.out;go_wp2_with fail
 clear y0 y1 y2 y3
 go_loopw [6, 15] (fun _ t15 wr => ∃ i : Nat, i ≤ n ∧ t15 = .int .i64 (i : Int) ∧ (∀ j, j < i → (L.getD j g0).size ≤ l2) ∧ Below w1.heap.size w1 wr) (fun _ t _ => n - (intOf t).toNat)
 case atStart => exact ⟨0, Nat.zero_le _, rfl, fun j hj => absurd hj (Nat.not_lt_zero j), Below.refl _ _⟩
 case round =>
  obtain ⟨i, hi, rfl, hP, hB⟩ := hrel
  rename World => wl
  by_cases hlt : i < n
  case neg =>
   obtain rfl : i = n := by omega
   have d1 : decide ((i : Int) < (i : Int)) = false := decide_eq_false (by omega);have HP := Lh hP;have HTl := Lh ((hB.block _ (jqb HT1.out)).trans HT1.out);have MSl := Lh (jqf MS1.out hB);have Bl := Lh (B1.out.trans (hB.mono B1.out.size));clear hP hB hlt hi;go_upto_region 8 with fail
   refine jq0 ?_;refine jqh (fun W' => Below wl.heap.size wl W') [0, 1, 2, 3, 8] 6 (by kernel_rfl) (fun _ _ _ _ _ h => h.elim) (by kernel_rfl) (by rfl) (by rfl) (Below.refl wl.heap.size wl).drew ?_;simp only [jq2, List.filterMap_cons, List.filterMap_nil, List.getElem?_toArray, List.getElem?_cons_zero, List.getElem?_cons_succ];refine jqc (fun K hK => ?_);go_simp;refine ⟨_, fun _ _ => rfl, hK _ ?_⟩;clear hK K;refine jqc (fun K hK => ?_);go_simp;refine ⟨.int .i64 T.size, fun w' hw' => by
    obtain ⟨x0, x1, x2, x3, x4, x5, x6, x7, x8, x9, x10, x11, x12, x13⟩ := bx14 ((hw'.block _ (jqb HTl.out)).trans HTl.out);go_simp, hK _ ?_⟩
   clear hK K;refine jqc (fun K hK => ?_);go_simp;refine ⟨_, fun _ _ => rfl, hK _ ?_⟩;clear hK K;refine jqc (fun K hK => ?_);go_simp;refine ⟨.agg #[s0, s1, s2, s3, s4, s5, s6, s7, .int .i64 T.m.live, .int .i64 T.m.garb], fun w' hw' => by
    obtain ⟨x0, x1, x2, x3, x4, x5, x6, x7, x8, x9, x10, x11, x12, x13⟩ := bx14 ((hw'.block _ (jqb HTl.out)).trans HTl.out);go_simp, hK _ ?_⟩
   clear hK K;refine jqc (fun K hK => ?_);go_simp;refine ⟨_, fun _ _ => rfl, hK _ ?_⟩;clear hK K;refine jqp ?_;have SD := Lh (Below.refl wl.heap.size wl).drew;generalize wl.drew = WD at *;have PL := Lh (plen11_any (.agg #[s0, s1, s2, s3, s4, s5, s6, s7, .int .i64 T.m.live, .int .i64 T.m.garb]) T.m WD ⟨s0, s1, s2, s3, s4, s5, s6, s7, rfl, jqf MSl.out SD.out⟩ HTL.out.1 (by have := HTL.out.2; omega));obtain ⟨K24, hK24⟩ : ∃ z : Int, z = ((lenM T.m * 24 : Nat) : Int) := ⟨_, rfl⟩;have HK24 := Lh hK24;obtain ⟨f1, f2⟩ := top_sum (lenM_le HTL.out.2) HTO.out.hd.s0 HTO.out.hd.s1;rw [← hK24] at f1 f2;have F1 := Lh f1;have F2 := Lh f2;generalize hKN : lenM T.m = KN at *;have HKN := Lh hKN;clear hK24 f1 f2 hKN;refine gwq 4 fun K hK => ?_;go_simp
   go_at_call 81
   refine PL.out.mono ?_;rintro e V4 ⟨rfl, hb⟩;refine hK _ _ (SD.out.trans (hb.mono SD.out.size)) ?_;clear hK K;have S4 := Lh (SD.out.trans (hb.mono SD.out.size));clear hb SD;refine gwq 5 fun K hK => ?_;go_simp
   go_at_call 60
   refine (psrec_any 0 (by unfold I64b; decide) V4).mono ?_;rintro e V5 ⟨rfl, rfl⟩;refine hK _ _ S4.out ?_;clear hK K;rw [show szI6 0 = 24 from rfl];have f1 := F1.out;refine gwq 6 fun K hK => ?_;go_simp;refine hK _ _ S4.out ?_;clear hK K;clear f1;have f2 := F2.out;refine gwq 7 fun K hK => ?_;go_simp;refine hK _ _ S4.out ?_;clear hK K;clear f2;obtain ⟨E, hE⟩ : ∃ E, E = T.size + K24 := ⟨_, rfl⟩;have HE := Lh hE;rw [← hE];clear hE
   by_cases hR : E ≤ l2
   ·have d2 : decide (E ≤ l2) = true := decide_eq_true hR
    have HYES := Lh (roomB_t (lim := lim) (L := L) ⟨fun j hj => by rw [← HL2.out]; exact HP.out j (by have := HN.out.1; omega), by rw [HRP.out, HKN.out, ← HK24.out, ← HE.out, ← HL2.out]; exact hR⟩);clear hR;refine gwq 9 fun K hK => ?_;go_simp;refine hK _ _ S4.out ?_;clear hK K;refine gwq 10 fun K hK => ?_;go_simp;refine hK _ _ S4.out ?_;clear hK K;refine wpAnyH_done (by kernel_rfl) ?_ _;unfold jqw;dsimp only;have S9 := Lh (Bl.out.trans (S4.out.mono Bl.out.size));go_wp2_with fail
    go_ret
    exact ⟨by rw [HYES.out]; rfl, S9.out⟩
   ·have d2 : decide (E ≤ l2) = false := decide_eq_false hR
    have HNO := Lh (roomB_f (lim := lim) (L := L) (fun h => hR (by have := h.top; rw [HRP.out, HKN.out, ← HK24.out, ← HE.out, ← HL2.out] at this; exact this)));clear hR;refine gwq 9 fun K hK => ?_;go_simp;refine hK _ _ S4.out ?_;clear hK K;refine gwq 10 fun K hK => ?_;go_simp;refine hK _ _ S4.out ?_;clear hK K;refine wpAnyH_done (by kernel_rfl) ?_ _;unfold jqw;dsimp only;have S9 := Lh (Bl.out.trans (S4.out.mono Bl.out.size));go_wp2_with fail
    go_ret
    exact ⟨by rw [HNO.out]; rfl, S9.out⟩
  have d1 : decide ((i : Int) < (n : Int)) = true := decide_eq_true (by omega);have d2 : decide (i < n) = true := decide_eq_true hlt;obtain ⟨b, off, rfl, t0, t1, t2, t3, t4, t5, t6, t7, GA⟩ := gl_at (jqj GL1.out hB) hlt;have ON2 := Lh GA.one;obtain ⟨x0, x1, x2, x3, x4, x5, x6, x7, x8, x9, x10, x11, x12, x13⟩ := GA.cells;generalize hgu : L.getD i g0 = u at *;have HGU := Lh hgu;have p0 : (0 : Int) ≤ (i : Int) := by omega
  have p1 : (i : Int) < (n : Int) := by omega
  have HP := Lh hP;have HB := Lh hB;have HI := Lh hlt;have hz := heap_alloc_new wl (.cells #[.int .i64 0, .int .i64 0, .int .i64 0, .int .i64 0, .slice none 0 0, .slice none 0 0, .slice none 0 0, .slice none 0 0, .slice none 0 0, .slice none 0 0, .slice none 0 0, .slice none 0 0, .int .i64 0, .int .i64 0] 55);clear GA hP hB hlt hi hgu;go_upto_region 5 with ((with_reducible refine jxn wl.heap.size _ #[.int .i64 u.num, .int .i64 u.rev, .int .i64 u.mode, .int .i64 u.size, t0, t1, t2, t3, t4, t5, t6, t7, .int .i64 u.m.live, .int .i64 u.m.garb] ?_ ?_ hz rfl rfl ON2.out ?_); exact rfl; exact rfl)
  rw [World.setRow_alloc_new];clear x0 x1 x2 x3 x4 x5 x6 x7 x8 x9 x10 x11 x12 x13;have hb := jqg wl (.cells #[.int .i64 u.num, .int .i64 u.rev, .int .i64 u.mode, .int .i64 u.size, t0, t1, t2, t3, t4, t5, t6, t7, .int .i64 u.m.live, .int .i64 u.m.garb] 55);have HX := Lh (heap_alloc_new wl (.cells #[.int .i64 u.num, .int .i64 u.rev, .int .i64 u.mode, .int .i64 u.size, t0, t1, t2, t3, t4, t5, t6, t7, .int .i64 u.m.live, .int .i64 u.m.garb] 55));have BX := Lh (HB.out.trans (hb.mono HB.out.size));clear hb hz HB;generalize wl.alloc (.cells #[.int .i64 u.num, .int .i64 u.rev, .int .i64 u.mode, .int .i64 u.size, t0, t1, t2, t3, t4, t5, t6, t7, .int .i64 u.m.live, .int .i64 u.m.garb] 55) = wx at *;obtain ⟨x0, x1, x2, x3, x4, x5, x6, x7, x8, x9, x10, x11, x12, x13⟩ := bx14 HX.out
  by_cases hS : l2 < u.size
  ·have d3 : decide (l2 < u.size) = true := decide_eq_true hS
   have HNO := Lh (roomB_f (lim := lim) (L := L) (fun h => by have q := h.all i (by have := HN.out.1; have := HI.out; omega); rw [HGU.out, ← HL2.out] at q; omega));have S9 := Lh (B1.out.trans (BX.out.mono B1.out.size));clear hS;go_wp2_with fail
   go_ret
   exact ⟨by rw [HNO.out]; rfl, S9.out⟩
  ·have d3 : decide (l2 < u.size) = false := decide_eq_false hS
   have HUS := Lh (show u.size ≤ l2 by omega);have hw := w64s8 i (by have := HN.out; have := HI.out; omega);clear hS;go_wp2_with fail
   go_roundw
   case rel => exact ⟨i + 1, HI.out, by go_num, fun j hj => by
    rcases Nat.lt_or_ge j i with h | h
    ·exact HP.out j h
    ·obtain rfl : j = i := by omega
     rw [HGU.out];exact HUS.out, BX.out⟩
   case measure => exact meas8 n i HI.out (by have := HN.out; omega)
end Go.Proofs.YtimoinfjinmamaaGreat.Gf
