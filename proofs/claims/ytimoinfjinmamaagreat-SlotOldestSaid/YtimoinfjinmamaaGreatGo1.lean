/- What is proved here: the walk of SlotOldest. -/
import Derived.Test.YtimoinfjinmamaaGreatGm6
import Derived.Test.YtimoinfjinmamaaGreatGs29
import Derived.Test.YtimoinfjinmamaaGreatGs22
import Derived.Test.YtimoinfjinmamaaGreatGs26
import Derived.Test.YtimoinfjinmamaaGreatGs27
namespace Go.Proofs.YtimoinfjinmamaaGreat.Gf
open Joins ChangeShapes WideShapes ChangeAt RowKit Deep By Qt
set_option maxRecDepth 100000
set_option maxHeartbeats 204800000
theorem bx7 {w : World} {g : Nat} {c0 c1 c2 c3 c4 c5 c6 : Value} {T : TypeId} {fr : Nat × Nat} (h : w.heap[g]? = some (.cells #[c0, c1, c2, c3, c4, c5, c6] T fr)) : w.cell? ⟨g, 0, none⟩ = some c0 ∧ w.cell? ⟨g, 1, none⟩ = some c1 ∧ w.cell? ⟨g, 2, none⟩ = some c2 ∧ w.cell? ⟨g, 3, none⟩ = some c3 ∧ w.cell? ⟨g, 4, none⟩ = some c4 ∧ w.cell? ⟨g, 5, none⟩ = some c5 ∧ w.cell? ⟨g, 6, none⟩ = some c6 :=
 ⟨cell_of_row w g 0 _ _ _ h, cell_of_row w g 1 _ _ _ h, cell_of_row w g 2 _ _ _ h, cell_of_row w g 3 _ _ _ h, cell_of_row w g 4 _ _ _ h, cell_of_row w g 5 _ _ _ h, cell_of_row w g 6 _ _ _ h⟩
theorem pl7_one (pg pm pr : Int) (xi : Itm) : (#[.int .i64 pg, .int .i64 pm, .int .i64 pr, .int .u64 (xi.key : Int), .int .u32 (xi.ck : Int), .int .i64 xi.off, .int .i64 xi.sz] : Array Value).all (·.oneCell') = true := by simp [show ∀ (k : IntKind) (z : Int), (Value.int k z).oneCell' = true from fun _ _ => rfl]
theorem plc_form (s : Slt) (key : Nat) : ∃ (pg pm pr : Int) (xi : Itm), plcV s key = #[.int .i64 pg, .int .i64 pm, .int .i64 pr, .int .u64 (xi.key : Int), .int .u32 (xi.ck : Int), .int .i64 xi.off, .int .i64 xi.sz] := by
 unfold plcV;split
 ·exact ⟨_, _, _, _, rfl⟩
 ·exact ⟨0, 0, 0, ⟨0, 0, 0, 0⟩, rfl⟩
theorem ovI_at {w : World} {B n c q : Nat} {a : Option Addr} {OL : List Int} (h : OwV 3 1 w B (.slice a n c) (rowsI OL)) (hn : n = (rowsI OL).length) (hq : q < n) : ∃ b, a = some ⟨b, 0, none⟩ ∧ w.cell? ⟨b, q, none⟩ = some (.int .i64 (OL.getD q 0)) := by
 obtain ⟨b, c2, hv, -, hs⟩ := ov_src h (by omega);obtain ⟨rfl, -, -⟩ : a = some ⟨b, 0, none⟩ ∧ n = (rowsI OL).length ∧ c = c2 := by simpa using hv
 refine ⟨b, rfl, ?_⟩;have h1 := hs q 0 (by omega) (by decide);have hl : q < OL.length := by
  have : (rowsI OL).length = OL.length := by simp [rowsI]
  omega
 rw [show 0 + (q * 1 + 0) = q by omega] at h1;rw [h1];simp [rowsI, List.getD_eq_getElem?_getD, List.getElem?_eq_getElem hl]
theorem neqP (pg pm pr : Int) (xi : Itm) (W : World) : (binOp .neq 67 (.agg #[.int .i64 pg, .int .i64 pm, .int .i64 pr, .int .u64 (xi.key : Int), .int .u32 (xi.ck : Int), .int .i64 xi.off, .int .i64 xi.sz]) (.agg #[.int .i64 pg, .int .i64 pm, .int .i64 pr, .int .u64 (xi.key : Int), .int .u32 (xi.ck : Int), .int .i64 xi.off, .int .i64 xi.sz])).run Tryz.prog W = .ok (.bool false) W := by
 have h1 := neqT xi xi W;rw [decide_eq_true rfl] at h1;unfold TV at h1;go_simp
theorem lge_cut {s : Slt} (h : GoodS s) {k : Nat} {c : Int} : ∀ g ∈ cutG s.gens k c, LGe g := fun g hg => by
 obtain ⟨p, hp, rfl⟩ := List.getElem_of_mem hg;have hp2 := hp;rw [jxk] at hp2;have h1 := cut_good h.g (k := k) (c := c) hp2;rw [show (cutG s.gens k c).getD p g0 = (cutG s.gens k c)[p] from by rw [List.getD_eq_getElem?_getD, List.getElem?_eq_getElem hp]; rfl] at h1;exact ⟨jxz h1.st (Nat.le_trans h1.fl (by decide)), Nat.le_trans h1.fl (by decide)⟩
structure LoS (w : World) (p5 p7 : Nat) (id lim : Int) (ro : Bool) (n : Nat) (vo : Value) (OL : List Int) (pc : Array Value) (LG : List Ge) (W : World) : Prop where
 b : Below w.heap.size w W
 s : ∃ a c, W.heap[p5]? = some (.cells #[.int .i64 id, .int .i64 lim, .bool ro, .slice a n c] 39 (0, 0)) ∧ Gl W (.slice a n c) LG
 o : ∃ B, OwV 3 1 W B vo (rowsI OL)
 p : W.heap[p7]? = some (.cells pc 67 (0, 0))
theorem LoS.below {w W W' : World} {p5 p7 : Nat} {id lim : Int} {ro : Bool} {n : Nat} {vo : Value} {OL : List Int} {pc : Array Value} {LG : List Ge} (h : LoS w p5 p7 id lim ro n vo OL pc LG W) (hb : Below W.heap.size W W') : LoS w p5 p7 id lim ro n vo OL pc LG W' := by
 obtain ⟨h1, ⟨a, c, h2, h3⟩, ⟨B, h4⟩, h5⟩ := h;exact ⟨h1.trans (hb.mono h1.size), ⟨a, c, (hb.block _ (jqb h2)).trans h2, jqj h3 hb⟩, ⟨B, jq5 h4 hb⟩, (hb.block _ (jqb h5)).trans h5⟩
theorem ov_apart {T T2 : TypeId} {z : Nat} {W : World} {B p : Nat} {v : Value} {V : List (List Value)} {cs : Array Value} {fr : Nat × Nat} (h : OwV T z W B v V) (hp : W.heap[p]? = some (.cells cs T2 fr)) (hn : T ≠ T2) : ∀ b, v.ownBlock = some b → b ≠ p := fun b hb e => by
 obtain ⟨-, -, ⟨rfl, -⟩ | ⟨g, cap, cur, rfl, -, hg, -⟩⟩ := h
 ·simp [Value.ownBlock] at hb
 ·simp [Value.ownBlock] at hb
  rw [hb, e, hp] at hg
  injection hg with hg
  injection hg with _ hg
  exact hn hg.symm
theorem LoS.set {w W : World} {p5 p7 : Nat} {id lim : Int} {ro : Bool} {n : Nat} {vo : Value} {OL : List Int} {pc : Array Value} {LG LG2 : List Ge} {a0 a : Option Addr} {c0 c : Nat} (h : LoS w p5 p7 id lim ro n vo OL pc LG W) (hs : W.heap[p5]? = some (.cells #[.int .i64 id, .int .i64 lim, .bool ro, .slice a0 n c0] 39 (0, 0))) (hp : w.heap.size ≤ p5 ∧ p5 ≠ p7) (hg : Gl W (.slice a n c) LG2) : LoS w p5 p7 id lim ro n vo OL pc LG2 (W.setRow p5 #[.int .i64 id, .int .i64 lim, .bool ro, .slice a n c]) := by
 obtain ⟨h1, -, ⟨B, h4⟩, h5⟩ := h;exact ⟨jqd h1 hp.1 _, ⟨a, c, setRow_heap _ _ _ _ _ _ hs, gl_setRow hg hs (by show (4 : Nat) ≤ 13; decide) jwq⟩, ⟨B, jw1 h4 fun b hb _ => setRow_other _ _ _ _ (ov_apart h4 hs (by decide) b hb)⟩, (setRow_other _ _ _ _ (fun e => hp.2 e.symm)).trans h5⟩
theorem slotoldest_walk (va : Value) (na key : Nat) (w : World) (ha : Al w va na) (hk : key < 18446744073709551616) : Calls Tryz.prog 5 #[va, .int .u64 (key : Int)] w fun e w' => e = .returned (.bool true) ∧ Below w.heap.size w w' := by
 have HAL := Lh ha;have HKY := Lh hk;obtain ⟨aa, ca, rfl, -⟩ := ha;obtain ⟨kk, hkk⟩ : ∃ q, q = key % 8 := ⟨_, rfl⟩;have EK := Lh (show bits .and .u64 (key : Int) 7 = (kk : Int) from by rw [hkk]; exact and_low64 key hk 3 (by decide));have HKK := Lh (show kk < 18446744073709551616 by omega);clear hk hkk
 go_enter Tryz.func5, Tryz.ntmps5
 go_wp2_with fail
 refine (made_any (.slice aa na ca) na w HAL.out).mono ?_;rintro e W1 ⟨⟨vm, sm, rfl, hsm, hokm, hlm, h64⟩, hb⟩;have B1 := Lh hb;have HOKM := Lh hokm;have H64 := Lh h64;clear hb hokm h64;go_wp2_with fail
 refine (given_any vm sm W1 hsm hlm.1).mono ?_;rintro e W2 ⟨⟨v2, rfl, hsv⟩, hb⟩;have B2 := Lh (B1.out.trans (hb.mono B1.out.size));clear hb hsm hlm B1;obtain ⟨id, lim, ro, L⟩ := sm;obtain ⟨gv, rfl, hg, hj⟩ := hsv;simp only at hg hj ⊢;obtain ⟨a, c, rfl, -⟩ := jw2 hg;obtain ⟨n, hn⟩ : ∃ q, q = L.length := ⟨_, rfl⟩;rw [← hn] at hg ⊢;have HN := Lh hn;have HJS := Lh hj;have HNB := Lh (show n ≤ 8 from by have := HOKM.out.n8; simp only at this; omega);have HGS := Lh (show GoodS ⟨id, lim, ro, L⟩ from ⟨HOKM.out, fun p hp => by
  simp only at hp ⊢;obtain ⟨b8, o8, -, u0, u1, u2, u3, u4, u5, u6, u7, GA⟩ := gl_at hg (show p < n by omega);exact ⟨(HOKM.out.od p hp).ok, GA.ms.1, H64.out _ (by simp only; rw [List.getD_eq_getElem?_getD, List.getElem?_eq_getElem hp]; exact List.getElem_mem _)⟩⟩)
 have G2 := Lh hg;have hz := heap_alloc_new W2 (.cells #[.int .i64 0, .int .i64 0, .bool false, .slice none 0 0] 39);clear hg hn hj;go_upto_region 2 with ((with_reducible refine storeS W2.heap.size _ #[.int .i64 id, .int .i64 lim, .bool ro, .slice a n c] ?_ ?_ hz rfl rfl jw8 ?_); exact rfl; exact rfl)
 rw [World.setRow_alloc_new];have hb := jqg W2 (.cells #[.int .i64 id, .int .i64 lim, .bool ro, .slice a n c] 39);have HS3 := Lh (heap_alloc_new W2 (.cells #[.int .i64 id, .int .i64 lim, .bool ro, .slice a n c] 39));have G3 := Lh (jqj G2.out hb);have B3 := Lh (B2.out.trans (hb.mono B2.out.size));have HP5 := Lh (show w.heap.size ≤ W2.heap.size from B2.out.size);clear hb hz G2 B2;generalize W2.alloc (.cells #[.int .i64 id, .int .i64 lim, .bool ro, .slice a n c] 39) = W3 at *;generalize W2.heap.size = p5 at *;have e7 := EK.out;go_upto_region 3 with fail
 first | rw [e7] | skip
 clear e7;obtain ⟨⟨y0, y1, y2, y3⟩, -⟩ := bx4 HS3.out;go_wp2_with fail
 clear y0 y1 y2 y3;have HLGE := Lh (show ∀ g ∈ L, LGe g from fun g hg => by
  obtain ⟨p, hp, rfl⟩ := List.getElem_of_mem hg;have h := HGS.out.g p hp;rw [show (⟨id, lim, ro, L⟩ : Slt).gens.getD p g0 = L[p] from by simp only; rw [List.getD_eq_getElem?_getD, List.getElem?_eq_getElem hp]; rfl] at h;exact ⟨jxz h.st (Nat.le_trans h.fl (by decide)), Nat.le_trans h.fl (by decide)⟩)
 refine (pfind_x id lim ro a n c L kk W3 HN.out G3.out (by have := HNB.out; omega) HLGE.out).mono ?_;rintro e W4 ⟨rfl, hb⟩;obtain ⟨pg, pm, pr, xi, hplc⟩ := plc_form ⟨id, lim, ro, L⟩ kk;obtain ⟨pb, hpb⟩ : ∃ q, q = plcB ⟨id, lim, ro, L⟩ kk := ⟨_, rfl⟩;rw [hplc, ← hpb];have HPL := Lh hplc;have HPB := Lh hpb;have HS4 := Lh ((hb.block _ (jqb HS3.out)).trans HS3.out);have G4 := Lh (jqj G3.out hb);have B4 := Lh (B3.out.trans (hb.mono B3.out.size));have hz := heap_alloc_new W4 (.cells #[.int .i64 0, .int .i64 0, .int .i64 0, .int .u64 0, .int .u32 0, .int .i64 0, .int .i64 0] 67);have HPP := Lh (show w.heap.size ≤ p5 ∧ p5 ≠ W4.heap.size from ⟨HP5.out, by have := jqb HS4.out; omega⟩);clear hb hplc hpb HS3 G3 B3 HP5;go_upto_region 4 with ((with_reducible refine storeP W4.heap.size _ #[.int .i64 pg, .int .i64 pm, .int .i64 pr, .int .u64 (xi.key : Int), .int .u32 (xi.ck : Int), .int .i64 xi.off, .int .i64 xi.sz] ?_ ?_ hz rfl rfl (pl7_one _ _ _ _) ?_); exact rfl; exact rfl)
 rw [World.setRow_alloc_new];have hb := jqg W4 (.cells #[.int .i64 pg, .int .i64 pm, .int .i64 pr, .int .u64 (xi.key : Int), .int .u32 (xi.ck : Int), .int .i64 xi.off, .int .i64 xi.sz] 67);have HP5 := Lh (heap_alloc_new W4 (.cells #[.int .i64 pg, .int .i64 pm, .int .i64 pr, .int .u64 (xi.key : Int), .int .u32 (xi.ck : Int), .int .i64 xi.off, .int .i64 xi.sz] 67));have HS5 := Lh ((hb.block _ (jqb HS4.out)).trans HS4.out);have G5 := Lh (jqj G4.out hb);have B5 := Lh (B4.out.trans (hb.mono B4.out.size));clear hb hz HS4 G4 B4;generalize W4.alloc (.cells #[.int .i64 pg, .int .i64 pm, .int .i64 pr, .int .u64 (xi.key : Int), .int .u32 (xi.ck : Int), .int .i64 xi.off, .int .i64 xi.sz] 67) = W5 at *;generalize W4.heap.size = p7 at *;obtain ⟨⟨y0, y1, y2, y3⟩, -⟩ := bx4 HS5.out;go_wp2_with fail
 clear y0 y1 y2 y3;refine (psolder_x id lim ro a n c L kk W5 HN.out G5.out (by have := HNB.out; omega) HLGE.out).mono ?_;rintro e W6 ⟨⟨vo, B, rfl, hvo⟩, hb⟩;obtain ⟨OL, hOL⟩ : ∃ q, q = oldF L kk (L.length - 1) := ⟨_, rfl⟩;rw [show oldL ⟨id, lim, ro, L⟩ kk = OL from by unfold oldL; rw [jwm HOKM.out, if_pos rfl, hOL]] at hvo;have HOL := Lh hOL;obtain ⟨ao, co, hvof, -, -⟩ := jq1 hvo;obtain ⟨no, hno⟩ : ∃ q, q = (rowsI OL).length := ⟨_, rfl⟩;rw [← hno] at hvof;have HNR := Lh hno;have HNO := Lh (show no = OL.length from by rw [hno]; simp [rowsI]);have HNO1 := Lh (show no ≤ 10000 from by rw [HNO.out, hOL]; exact Nat.le_trans (oldF_len _ _ _) (by have := HNB.out; have := HN.out; omega));have LS := Lh (show LoS w p5 p7 id lim ro n (.slice ao no co) OL #[.int .i64 pg, .int .i64 pm, .int .i64 pr, .int .u64 (xi.key : Int), .int .u32 (xi.ck : Int), .int .i64 xi.off, .int .i64 xi.sz] (cutG L kk (cutN OL 0)) W6 from ⟨B5.out.trans (hb.mono B5.out.size), ⟨a, c, (hb.block _ (jqb HS5.out)).trans HS5.out, by
  rw [show cutG L kk (cutN OL 0) = L from ext_getDg (jxk _ _ _) fun p hp => by
   rw [jxk] at hp;rw [cutg_at hp, if_neg (by
    have := (HGS.out.g p hp).ok.hd.n1;show ¬ (L.getD p g0).num ≤ 0;simp only at this;omega)]]
  exact jqj G5.out hb⟩, ⟨B, by rw [← hvof]; exact hvo⟩, (hb.block _ (jqb HP5.out)).trans HP5.out⟩)
 subst hvof;clear hb hvo hOL hno HS5 G5 B5 HP5;go_wp2_with fail
 go_loopw [36] (fun t wr => ∃ q : Nat, q ≤ no ∧ t = .int .i64 (q : Int) ∧ LoS w p5 p7 id lim ro n (.slice ao no co) OL #[.int .i64 pg, .int .i64 pm, .int .i64 pr, .int .u64 (xi.key : Int), .int .u32 (xi.ck : Int), .int .i64 xi.off, .int .i64 xi.sz] (cutG L kk (cutN OL q)) wr) (fun t _ => no - (intOf t).toNat)
 case atStart => exact ⟨0, Nat.zero_le _, rfl, LS.out⟩
 case round =>
  obtain ⟨q, hq, rfl, hlo⟩ := hrel
  rename World => wq
  have LQ := Lh hlo;clear hlo LS
  by_cases hlt : q < no
  case neg =>
   obtain rfl : q = no := by omega
   have d1 : decide ((q : Int) < (q : Int)) = false := decide_eq_false (by omega);clear hq hlt;have HE := Lh (show oldL ⟨id, lim, ro, cutG L kk (cutN OL q)⟩ kk = [] from by
    unfold oldL;have hok : okS ⟨id, lim, ro, cutG L kk (cutN OL q)⟩ := (cut_ok HGS.out (k := kk) (by rw [HOL.out]; exact cutN_top HGS.out.ok (by rw [← HOL.out]; have := HNO.out; omega))).ok;rw [jwm hok, if_pos rfl];simp only;have h := old_none HGS.out (k := kk);simp only at h;rw [← HOL.out, ← HNO.out] at h;rw [jxk];exact h)
   obtain ⟨a6, c6, hs6, hg6⟩ := LQ.out.s;have HS6 := Lh hs6;have HG6 := Lh hg6;have HBW := Lh LQ.out.b;clear hs6 hg6 LQ;obtain ⟨⟨y0, y1, y2, y3⟩, -⟩ := bx4 HS6.out;go_wp2_with fail
   clear y0 y1 y2 y3;clear d1;refine (psolder_x id lim ro a6 n c6 (cutG L kk (cutN OL q)) kk wq (by rw [jxk]; exact HN.out) HG6.out (by have := HNB.out; omega) (lge_cut HGS.out)).mono ?_;rintro e W3 ⟨⟨vz, Bz, rfl, hvz⟩, hb⟩;rw [HE.out] at hvz;obtain ⟨az, cz, hvzf, -, -⟩ := jq1 hvz;subst hvzf;have HB3 := Lh (HBW.out.trans (hb.mono HBW.out.size));clear hb hvz HS6 HG6 HBW;rw [show (rowsI []).length = 0 from rfl];have HPT := Lh (show pb = true ∨ q = 0 from by
    rcases Nat.eq_zero_or_pos q with h | h
    ·exact Or.inr h
    ·obtain ⟨jj, hjj⟩ := old_hit (s := ⟨id, lim, ro, L⟩) (k := kk) (by simp only; rw [← HOL.out, ← HNO.out]; exact h)
     have h1 := plc_some HGS.out.ok hjj;rw [← HPB.out] at h1;exact Or.inl h1.2)
   cases pb
   ·obtain rfl : q = 0 := HPT.out.resolve_left Bool.false_ne_true
    go_wp2_with fail
    refine (awake13_any W3).mono ?_;rintro e W4 ⟨rfl, hb⟩;have B4 := Lh (HB3.out.trans (hb.mono HB3.out.size));clear hb;go_wp2_with fail
    go_ret
    exact ⟨rfl, B4.out⟩
   ·go_wp2_with fail
    refine (awake13_any W3).mono ?_;rintro e W4 ⟨rfl, hb⟩;have B4 := Lh (HB3.out.trans (hb.mono HB3.out.size));clear hb;go_wp2_with fail
    go_ret
    exact ⟨rfl, B4.out⟩
  have d1 : decide ((q : Int) < (no : Int)) = true := decide_eq_true (by omega);have d2 : decide (q < no) = true := decide_eq_true hlt;have HQN := Lh hlt;have HQ := Lh (show q < OL.length by have := HNO.out; omega);have p0 : (0 : Int) ≤ (q : Int) := by omega
  have p1 : (q : Int) < (no : Int) := by omega
  obtain ⟨B9, hov⟩ := LQ.out.o;obtain ⟨bo, rfl, w1⟩ := ovI_at hov HNR.out hlt;obtain ⟨zq, hzq⟩ : ∃ z, z = OL.getD q 0 := ⟨_, rfl⟩;have HZQ := Lh hzq;rw [← hzq] at w1;clear hzq;have HEX := Lh (show ∃ p, p < L.length ∧ (L.getD p g0).num = zq from by
   rw [HZQ.out];have h := getD_memI HQ.out;rw [HOL.out] at h;obtain ⟨p, hp, -, hpn⟩ := (old_mem (by omega)).1 h;exact ⟨p, by omega, by rw [hpn, ← HOL.out]⟩)
  obtain ⟨a9, c9, hs9, hg9⟩ := LQ.out.s;have GQ := Lh hg9;obtain ⟨⟨y0, y1, y2, y3⟩, -⟩ := bx4 hs9;clear hlt hq hov hg9 hs9;go_wp2_with fail
  clear y0 y1 y2 y3;clear d1 d2 p0 p1 w1
  go_loopw [44] (fun t wr => ∃ j : Nat, j ≤ n ∧ t = .int .i64 (j : Int) ∧ LoS w p5 p7 id lim ro n (.slice (some ⟨bo, 0, none⟩) no co) OL #[.int .i64 pg, .int .i64 pm, .int .i64 pr, .int .u64 (xi.key : Int), .int .u32 (xi.ck : Int), .int .i64 xi.off, .int .i64 xi.sz] (if ∃ i, i < j ∧ (L.getD i g0).num = zq then cutG L kk (cutN OL (q + 1)) else cutG L kk (cutN OL q)) wr ∧ Gl wr (.slice a9 n c9) (cutG L kk (cutN OL q))) (fun t _ => n - (intOf t).toNat)
  case atStart => exact ⟨0, Nat.zero_le _, rfl, by rw [if_neg (fun h => by obtain ⟨i, hi, -⟩ := h; exact absurd hi (Nat.not_lt_zero i))]; exact LQ.out, GQ.out⟩
  case round =>
   obtain ⟨j, hj, rfl, hlo, hgl⟩ := hrel
   rename World => wj
   have LJ := Lh hlo;have GJ := Lh hgl;clear hlo hgl LQ GQ
   by_cases hlt : j < n
   case neg =>
    obtain rfl : j = n := by omega
    have d1 : decide ((j : Int) < (j : Int)) = false := decide_eq_false (by omega);have LE := LJ.out;rw [if_pos (by obtain ⟨p, hp, hpn⟩ := HEX.out; exact ⟨p, by have := HN.out; omega, hpn⟩)] at LE;have LEE := Lh LE;clear hj hlt LE LJ GJ;obtain ⟨a6, c6, hs6, hg6⟩ := LEE.out.s;have HS6 := Lh hs6;have HG6 := Lh hg6;clear hs6 hg6;obtain ⟨⟨y0, y1, y2, y3⟩, -⟩ := bx4 HS6.out;go_wp2_with fail
    clear y0 y1 y2 y3;clear d1;refine (pfind_x id lim ro a6 j c6 (cutG L kk (cutN OL (q + 1))) kk wj (by rw [jxk]; exact HN.out) HG6.out (by have := HNB.out; omega) (lge_cut HGS.out)).mono ?_;rintro e W3 ⟨rfl, hb⟩;obtain ⟨jj, hjj⟩ := old_hit (s := ⟨id, lim, ro, L⟩) (k := kk) (by simp only; rw [← HOL.out]; have := HQ.out; omega);have HFN := find_next HGS.out (by rw [← HOL.out]; exact HQ.out) hjj;simp only at HFN;rw [← HOL.out] at HFN;have HTP := Lh (show cutN OL (q + 1) < (jwh ⟨id, lim, ro, L⟩).num from by rw [HOL.out]; exact cutN_top HGS.out.ok (by rw [← HOL.out]; have := HQ.out; omega));have HPM := Lh (show pm = (L.getD jj g0).mode ∧ pb = true from by
     have h1 := plc_some HGS.out.ok hjj;rw [HPL.out] at h1;rw [← HPB.out] at h1;refine ⟨?_, h1.2⟩;have h2 := h1.1;unfold placeC at h2;simp at h2;exact h2.2.1)
    have L3 := Lh (LEE.out.below hb);clear hb LEE HS6 HG6;rcases Classical.em (q + 1 < no ∨ pm = 1) with hcd | hcd
    ·have hfc := find_cut_some HGS.out HTP.out hjj (HFN.1 (by rw [← HPM.out.1, ← HNO.out]; exact hcd))
     rw [show plcV ⟨id, lim, ro, cutG L kk (cutN OL (q + 1))⟩ kk = #[.int .i64 pg, .int .i64 pm, .int .i64 pr, .int .u64 (xi.key : Int), .int .u32 (xi.ck : Int), .int .i64 xi.off, .int .i64 xi.sz] from by rw [← HPL.out]; exact hfc.1, show plcB ⟨id, lim, ro, cutG L kk (cutN OL (q + 1))⟩ kk = true from hfc.2];have HCD := Lh hcd;have hz := heap_alloc_new W3 (.cells #[.int .i64 0, .int .i64 0, .int .i64 0, .int .u64 0, .int .u32 0, .int .i64 0, .int .i64 0] 67);clear hfc hcd HFN hjj;go_upto_region 19 with ((with_reducible refine storeP W3.heap.size _ #[.int .i64 pg, .int .i64 pm, .int .i64 pr, .int .u64 (xi.key : Int), .int .u32 (xi.ck : Int), .int .i64 xi.off, .int .i64 xi.sz] ?_ ?_ hz rfl rfl (pl7_one _ _ _ _) ?_); exact rfl; exact rfl)
     rw [World.setRow_alloc_new];have hb := jqg W3 (.cells #[.int .i64 pg, .int .i64 pm, .int .i64 pr, .int .u64 (xi.key : Int), .int .u32 (xi.ck : Int), .int .i64 xi.off, .int .i64 xi.sz] 67);have HPN := Lh (heap_alloc_new W3 (.cells #[.int .i64 pg, .int .i64 pm, .int .i64 pr, .int .u64 (xi.key : Int), .int .u32 (xi.ck : Int), .int .i64 xi.off, .int .i64 xi.sz] 67));have L4 := Lh (L3.out.below hb);clear hb hz L3;generalize W3.alloc (.cells #[.int .i64 pg, .int .i64 pm, .int .i64 pr, .int .u64 (xi.key : Int), .int .u32 (xi.ck : Int), .int .i64 xi.off, .int .i64 xi.sz] 67) = W4 at *;generalize W3.heap.size = gp at *;obtain ⟨x0, x1, x2, x3, x4, x5, x6⟩ := bx7 L4.out.p;obtain ⟨z0, z1, z2, z3, z4, z5, z6⟩ := bx7 HPN.out;have hneq := neqP pg pm pr xi;have hw := w64s9 q (by have := HQN.out; have := HNO1.out; omega);obtain ⟨qb, hqb⟩ : ∃ b, b = decide (q + 1 < no) := ⟨_, rfl⟩;have d1 : decide ((q : Int) + 1 < (no : Int)) = qb := by
      rw [hqb]
      by_cases h : q + 1 < no
      ·rw [decide_eq_true h]; exact decide_eq_true (by omega)
      ·rw [decide_eq_false h]; exact decide_eq_false (by omega)
     have d2 : decide (q + 1 < no) = qb := hqb.symm;have HQB := Lh hqb;clear hqb
     cases qb
     ·have HM1 := Lh (show pm = 1 from HCD.out.resolve_left (of_decide_eq_false HQB.out.symm))
      have d3 : decide (pm = 1) = true := decide_eq_true HM1.out;have d4 : (pm == 1) = true := beq_iff_eq.2 HM1.out;go_wp2_with fail
      go_roundw
      case rel => exact ⟨q + 1, HQN.out, by go_num, L4.out⟩
      case measure => exact meas9 no q HQN.out (by have := HNO1.out; omega)
     ·go_wp2_with fail
      go_roundw
      case rel => exact ⟨q + 1, HQN.out, by go_num, L4.out⟩
      case measure => exact meas9 no q HQN.out (by have := HNO1.out; omega)
    ·have hfc := find_cut_none HGS.out hjj (HFN.2 (by rw [← HPM.out.1, ← HNO.out]; exact hcd))
     obtain ⟨pg2, pm2, pr2, xi2, hpl2⟩ := plc_form ⟨id, lim, ro, cutG L kk (cutN OL (q + 1))⟩ kk;rw [hpl2, show plcB ⟨id, lim, ro, cutG L kk (cutN OL (q + 1))⟩ kk = false from hfc];have HCD := Lh hcd;have hz := heap_alloc_new W3 (.cells #[.int .i64 0, .int .i64 0, .int .i64 0, .int .u64 0, .int .u32 0, .int .i64 0, .int .i64 0] 67);clear hfc hcd HFN hjj hpl2;go_upto_region 19 with ((with_reducible refine storeP W3.heap.size _ #[.int .i64 pg2, .int .i64 pm2, .int .i64 pr2, .int .u64 (xi2.key : Int), .int .u32 (xi2.ck : Int), .int .i64 xi2.off, .int .i64 xi2.sz] ?_ ?_ hz rfl rfl (pl7_one _ _ _ _) ?_); exact rfl; exact rfl)
     rw [World.setRow_alloc_new];have hb := jqg W3 (.cells #[.int .i64 pg2, .int .i64 pm2, .int .i64 pr2, .int .u64 (xi2.key : Int), .int .u32 (xi2.ck : Int), .int .i64 xi2.off, .int .i64 xi2.sz] 67);have L4 := Lh (L3.out.below hb);clear hb hz L3;generalize W3.alloc (.cells #[.int .i64 pg2, .int .i64 pm2, .int .i64 pr2, .int .u64 (xi2.key : Int), .int .u32 (xi2.ck : Int), .int .i64 xi2.off, .int .i64 xi2.sz] 67) = W4 at *;generalize W3.heap.size = gp at *;obtain ⟨x0, x1, x2, x3, x4, x5, x6⟩ := bx7 L4.out.p;have hw := w64s9 q (by have := HQN.out; have := HNO1.out; omega);have h1 : ¬ q + 1 < no := fun h => HCD.out (Or.inl h);have h2 : ¬ pm = 1 := fun h => HCD.out (Or.inr h);have d1 : decide ((q : Int) + 1 < (no : Int)) = false := decide_eq_false (by omega);have d2 : decide (q + 1 < no) = false := decide_eq_false h1;have d3 : decide (pm = 1) = false := decide_eq_false h2;have d4 : (pm == 1) = false := beq_false_of_ne h2;clear h1 h2;go_wp2_with fail
     go_roundw
     case rel => exact ⟨q + 1, HQN.out, by go_num, L4.out⟩
     case measure => exact meas9 no q HQN.out (by have := HNO1.out; omega)
   have d1 : decide ((j : Int) < (n : Int)) = true := decide_eq_true (by omega);have d2 : decide (j < n) = true := decide_eq_true hlt;have HJ := Lh hlt;have p0 : (0 : Int) ≤ (j : Int) := by omega
   have p1 : (j : Int) < (n : Int) := by omega
   have HJL := Lh (show j < L.length by have := HN.out; omega);obtain ⟨b8, o8, hab, u0, u1, u2, u3, u4, u5, u6, u7, GA⟩ := gl_at GJ.out hlt;obtain rfl := hab;have HUN := Lh (cut_num (k := kk) (c := cutN OL q) HJL.out);have HUG := Lh (cut_good (k := kk) (c := cutN OL q) HGS.out.g HJL.out);obtain ⟨u, hu⟩ : ∃ u, u = (cutG L kk (cutN OL q)).getD j g0 := ⟨_, rfl⟩;rw [← hu] at GA HUN HUG;have HU := Lh hu;have MSU := Lh GA.ms;have JU := Lh GA.j;have ONU := Lh (jwj GA.ms);obtain ⟨x0, x1, x2, x3, x4, x5, x6, x7, x8, x9, x10, x11, x12, x13⟩ := GA.cells;have hz := heap_alloc_new wj (.cells #[.int .i64 0, .int .i64 0, .int .i64 0, .int .i64 0, .slice none 0 0, .slice none 0 0, .slice none 0 0, .slice none 0 0, .slice none 0 0, .slice none 0 0, .slice none 0 0, .slice none 0 0, .int .i64 0, .int .i64 0] 55);clear hlt hj hu GA;go_upto_region 11 with ((with_reducible refine jxn wj.heap.size _ #[.int .i64 u.num, .int .i64 u.rev, .int .i64 u.mode, .int .i64 u.size, u0, u1, u2, u3, u4, u5, u6, u7, .int .i64 u.m.live, .int .i64 u.m.garb] ?_ ?_ hz rfl rfl ONU.out ?_); exact rfl; exact rfl)
   rw [World.setRow_alloc_new];clear d1 d2 p0 p1;clear x0 x1 x2 x3 x4 x5 x6 x7 x8 x9 x10 x11 x12 x13;have hb := jqg wj (.cells #[.int .i64 u.num, .int .i64 u.rev, .int .i64 u.mode, .int .i64 u.size, u0, u1, u2, u3, u4, u5, u6, u7, .int .i64 u.m.live, .int .i64 u.m.garb] 55);have HX0 := Lh (heap_alloc_new wj (.cells #[.int .i64 u.num, .int .i64 u.rev, .int .i64 u.mode, .int .i64 u.size, u0, u1, u2, u3, u4, u5, u6, u7, .int .i64 u.m.live, .int .i64 u.m.garb] 55));have L0 := Lh (LJ.out.below hb);have G0 := Lh (jqj GJ.out hb);have M0 := Lh (jqf MSU.out hb);clear hb hz LJ GJ MSU ONU;generalize wj.alloc (.cells #[.int .i64 u.num, .int .i64 u.rev, .int .i64 u.mode, .int .i64 u.size, u0, u1, u2, u3, u4, u5, u6, u7, .int .i64 u.m.live, .int .i64 u.m.garb] 55) = V0 at *;generalize wj.heap.size = gx at *;obtain ⟨x0, x1, x2, x3, x4, x5, x6, x7, x8, x9, x10, x11, x12, x13⟩ := bx14 HX0.out
   by_cases hnum : u.num = zq
   case neg =>
    have d1 : decide (u.num = zq) = false := decide_eq_false hnum;have d2 : (u.num == zq) = false := beq_false_of_ne hnum;have d3 : (u.num != zq) = true := by simp [hnum]
    have hw := w64s9 j (by have := HJ.out; have := HNB.out; omega);have HNUM := Lh (show (L.getD j g0).num ≠ zq from by rw [← HUN.out.1]; exact hnum);clear hnum;go_wp2_with fail
    go_roundw
    case rel => exact ⟨j + 1, HJ.out, by go_num, by
     have e : (∃ i, i < j + 1 ∧ (L.getD i g0).num = zq) = (∃ i, i < j ∧ (L.getD i g0).num = zq) := propext ⟨fun ⟨i, h1, h2⟩ => ⟨i, by
      rcases Nat.lt_or_ge i j with h3 | h3
      ·exact h3
      ·obtain rfl : i = j := by omega
       exact absurd h2 HNUM.out, h2⟩, fun ⟨i, h1, h2⟩ => ⟨i, by omega, h2⟩⟩
     simp only [e];exact L0.out, G0.out⟩
    case measure => exact meas9 n j HJ.out (by have := HNB.out; omega)
   have d1 : decide (u.num = zq) = true := decide_eq_true hnum;have d2 : (u.num == zq) = true := beq_iff_eq.2 hnum;have d3 : (u.num != zq) = false := by rw [hnum]; simp
   have HNUM := Lh (show (L.getD j g0).num = OL.getD q 0 from by rw [← HUN.out.1, ← HZQ.out]; exact hnum);have HNX := cut_next HGS.out (by rw [← HOL.out]; exact HQ.out) HJL.out (by rw [← HOL.out]; exact HNUM.out);simp only at HNX;rw [← HOL.out, ← HU.out] at HNX;have HUE := Lh HNX.1;have HMO := Lh (show ¬ u.mode = 1 from by rw [HNX.1]; exact HNX.2.1);have HRP := Lh (show repL (cutG L kk (cutN OL q)) (delG u kk) = cutG L kk (cutN OL (q + 1)) from by rw [HNX.1]; exact HNX.2.2);have HBF := Lh (show ¬ ∃ i, i < j ∧ (L.getD i g0).num = zq from fun ⟨i, h1, h2⟩ => by
    have h3 := num_mono HGS.out.ok j i h1 HJL.out;have h4 := HNUM.out;have h5 := HZQ.out;simp only at h3;omega)
   have L0b := L0.out;rw [if_neg HBF.out] at L0b;have LA := Lh L0b;clear hnum HNX L0b L0;go_upto_region 12 with fail
   clear x0 x1 x2 x3 x4 x5 x6 x7 x8 x9 x10 x11 x12 x13 d1 d2 d3;obtain ⟨x0, x1, x2, x3, x4, x5, x6, x7, x8, x9, x10, x11, x12, x13⟩ := bx14 HX0.out;go_wp2_with fail
   clear x0 x1 x2 x3 x4 x5 x6 x7 x8 x9 x10 x11 x12 x13;have LGU := Lh (show LGe u from ⟨jxz HUG.out.st (Nat.le_trans HUG.out.fl (by decide)), Nat.le_trans HUG.out.fl (by decide)⟩);have hb := jqg V0 (.cells #[.int .u64 (kk : Int)] 59);have HKX := Lh (show Kx (V0.alloc (.cells #[.int .u64 (kk : Int)] 59)) (.slice (some ⟨V0.heap.size, 0, none⟩) 1 1) [kk] from ⟨some ⟨V0.heap.size, 0, none⟩, 1, rfl, fun _ => ⟨V0.heap.size, 0, rfl, fun i hi => by
    obtain rfl : i = 0 := by simp at hi; omega
    exact ⟨HKK.out, cell_of_row _ V0.heap.size 0 _ _ _ (heap_alloc_new V0 _)⟩⟩⟩)
   have LB := Lh (LA.out.below hb);have GB := Lh (jqj G0.out hb);have MB := Lh (jqf M0.out hb);clear hb LA G0 M0 HX0;generalize V0.alloc (.cells #[.int .u64 (kk : Int)] 59) = V1 at *;generalize V0.heap.size = gk at *;refine (pkill_x u0 u1 u2 u3 u4 u5 u6 u7 u (.slice (some ⟨gk, 0, none⟩) 1 1) [kk] V1 MB.out JU.out LGU.out HKX.out (by simp)).mono ?_;rintro e V2 ⟨⟨vx, rfl, hgx⟩, hb⟩;have hc : killC u = 0 := by unfold killC; rw [okGb_t HUG.out.ok, if_pos rfl, if_neg HMO.out]
   have ht : killT u [kk] = delG u kk := by unfold killT; rw [if_pos hc]; rfl
   rw [ht] at hgx;rw [hc];obtain ⟨t0, t1, t2, t3, t4, t5, t6, t7, hvx, hmt, hjt⟩ := hgx;obtain rfl : vx = .agg #[.int .i64 u.num, .int .i64 u.rev, .int .i64 u.mode, .int .i64 u.size, t0, t1, t2, t3, t4, t5, t6, t7, .int .i64 (delM u.m kk).live, .int .i64 (delM u.m kk).garb] := hvx;have LC := Lh (LB.out.below hb);have GC2 := Lh (jqj GB.out hb);have MT := Lh hmt;have JT := Lh hjt;have ONT := Lh (show (#[.int .i64 u.num, .int .i64 u.rev, .int .i64 u.mode, .int .i64 u.size, t0, t1, t2, t3, t4, t5, t6, t7, .int .i64 (delM u.m kk).live, .int .i64 (delM u.m kk).garb] : Array Value).all (·.oneCell') = true from jwj (g := delG u kk) hmt);have hz := heap_alloc_new V2 (.cells #[.int .i64 0, .int .i64 0, .int .i64 0, .int .i64 0, .slice none 0 0, .slice none 0 0, .slice none 0 0, .slice none 0 0, .slice none 0 0, .slice none 0 0, .slice none 0 0, .slice none 0 0, .int .i64 0, .int .i64 0] 55);clear hb hmt hjt hc ht LB GB MB HKX;go_upto_region 13 with ((with_reducible refine jxn V2.heap.size _ #[.int .i64 u.num, .int .i64 u.rev, .int .i64 u.mode, .int .i64 u.size, t0, t1, t2, t3, t4, t5, t6, t7, .int .i64 (delM u.m kk).live, .int .i64 (delM u.m kk).garb] ?_ ?_ hz rfl rfl ONT.out ?_); exact rfl; exact rfl)
   rw [World.setRow_alloc_new];have hb := jqg V2 (.cells #[.int .i64 u.num, .int .i64 u.rev, .int .i64 u.mode, .int .i64 u.size, t0, t1, t2, t3, t4, t5, t6, t7, .int .i64 (delM u.m kk).live, .int .i64 (delM u.m kk).garb] 55);have HX3 := Lh (heap_alloc_new V2 (.cells #[.int .i64 u.num, .int .i64 u.rev, .int .i64 u.mode, .int .i64 u.size, t0, t1, t2, t3, t4, t5, t6, t7, .int .i64 (delM u.m kk).live, .int .i64 (delM u.m kk).garb] 55));have LD := Lh (LC.out.below hb);have GD3 := Lh (jqj GC2.out hb);have MT3 := Lh (jqf MT.out hb);clear hb hz LC GC2 MT ONT;generalize V2.alloc (.cells #[.int .i64 u.num, .int .i64 u.rev, .int .i64 u.mode, .int .i64 u.size, t0, t1, t2, t3, t4, t5, t6, t7, .int .i64 (delM u.m kk).live, .int .i64 (delM u.m kk).garb] 55) = V3 at *;generalize V2.heap.size = gy at *;obtain ⟨a6, c6, hs6, hg6⟩ := LD.out.s;have HS6 := Lh hs6;have HG6 := Lh hg6;clear hs6 hg6;obtain ⟨⟨y0, y1, y2, y3⟩, -⟩ := bx4 HS6.out;obtain ⟨x0, x1, x2, x3, x4, x5, x6, x7, x8, x9, x10, x11, x12, x13⟩ := bx14 HX3.out;go_wp2_with fail
   clear y0 y1 y2 y3;clear x0 x1 x2 x3 x4 x5 x6 x7 x8 x9 x10 x11 x12 x13;have HLGD := Lh (show LGe (delG u kk) from ⟨jxz (good_del HUG.out kk).st (Nat.le_trans (good_del HUG.out kk).fl (by decide)), Nat.le_trans (good_del HUG.out kk).fl (by decide)⟩);refine (pschange_x id lim ro a6 n c6 (cutG L kk (cutN OL q)) (.agg #[.int .i64 u.num, .int .i64 u.rev, .int .i64 u.mode, .int .i64 u.size, t0, t1, t2, t3, t4, t5, t6, t7, .int .i64 (delM u.m kk).live, .int .i64 (delM u.m kk).garb]) (delG u kk) V3 (by rw [jxk]; exact HN.out) HG6.out (by have := HNB.out; omega) (lge_cut HGS.out) HJS.out ⟨t0, t1, t2, t3, t4, t5, t6, t7, rfl, MT3.out, JT.out⟩ HLGD.out).mono ?_;rintro e V4 ⟨⟨vt, rfl, hsv⟩, hb⟩;have hok1 : okS ⟨id, lim, ro, cutG L kk (cutN OL q)⟩ := (cut_ok HGS.out (k := kk) (by rw [HOL.out]; exact cutN_top HGS.out.ok (by rw [← HOL.out]; have := HQ.out; omega))).ok;have hok2 : okS ⟨id, lim, ro, cutG L kk (cutN OL (q + 1))⟩ := (cut_ok HGS.out (k := kk) (by rw [HOL.out]; exact cutN_top HGS.out.ok (by rw [← HOL.out]; have := HQ.out; omega))).ok;have hhas : hasN (cutG L kk (cutN OL q)) (delG u kk).num := ⟨j, by rw [jxk]; exact HJL.out, by rw [← HU.out]; rfl⟩;have hc : chgC ⟨id, lim, ro, cutG L kk (cutN OL q)⟩ (delG u kk) = 0 := by
    unfold chgC;rw [jwm hok1, if_pos rfl, if_pos hhas];simp only;rw [HRP.out, jwm hok2, if_pos rfl]
   have ht : chgT ⟨id, lim, ro, cutG L kk (cutN OL q)⟩ (delG u kk) = ⟨id, lim, ro, cutG L kk (cutN OL (q + 1))⟩ := by
    unfold chgT;rw [if_pos hc];simp only;rw [HRP.out]
   rw [ht] at hsv;rw [hc];obtain ⟨gv, rfl, hg7, -⟩ := hsv;simp only at hg7 ⊢;obtain ⟨a7, c7, rfl, -⟩ := jw2 hg7;rw [show (cutG L kk (cutN OL (q + 1))).length = n from by rw [jxk]; exact HN.out.symm] at hg7 ⊢;have LE4 := Lh (LD.out.below hb);have GE4 := Lh (jqj GD3.out hb);have HG7 := Lh hg7;have hz := heap_alloc_new V4 (.cells #[.int .i64 0, .int .i64 0, .bool false, .slice none 0 0] 39);clear hb hg7 hok1 hok2 hhas hc ht LD GD3 HX3 HS6 HG6 MT3;go_upto_region 14 with ((with_reducible refine storeS V4.heap.size _ #[.int .i64 id, .int .i64 lim, .bool ro, .slice a7 n c7] ?_ ?_ hz rfl rfl jw8 ?_); exact rfl; exact rfl)
   rw [World.setRow_alloc_new];have hb := jqg V4 (.cells #[.int .i64 id, .int .i64 lim, .bool ro, .slice a7 n c7] 39);have HT5 := Lh (heap_alloc_new V4 (.cells #[.int .i64 id, .int .i64 lim, .bool ro, .slice a7 n c7] 39));have L5 := Lh (LE4.out.below hb);have G5 := Lh (jqj GE4.out hb);have HG8 := Lh (jqj HG7.out hb);clear hb hz LE4 GE4 HG7;generalize V4.alloc (.cells #[.int .i64 id, .int .i64 lim, .bool ro, .slice a7 n c7] 39) = V5 at *;generalize V4.heap.size = gt at *;obtain ⟨a8, c8, hs8, -⟩ := L5.out.s;have HS8 := Lh hs8;clear hs8;obtain ⟨⟨y0, y1, y2, y3⟩, -⟩ := bx4 HT5.out;go_upto_region 17 with ((with_reducible refine storeS p5 _ #[.int .i64 id, .int .i64 lim, .bool ro, .slice a7 n c7] ?_ ?_ HS8.out rfl rfl jw8 ?_); exact rfl; exact rfl)
   clear y0 y1 y2 y3;have L6 := Lh (L5.out.set HS8.out HPP.out (a := a7) (c := c7) HG8.out);have G6 := Lh (gl_setRow (cs := #[.int .i64 id, .int .i64 lim, .bool ro, .slice a7 n c7]) G5.out HS8.out (by show (4 : Nat) ≤ 13; decide) jwq);have hw := w64s9 j (by have := HJ.out; have := HNB.out; omega);clear L5 G5 HS8 HT5 HG8;go_wp2_with fail
   go_roundw
   case rel => exact ⟨j + 1, HJ.out, by go_num, by
    rw [if_pos ⟨j, Nat.lt_succ_self j, HNUM.out.trans HZQ.out.symm⟩];exact L6.out, G6.out⟩
   case measure => exact meas9 n j HJ.out (by have := HNB.out; omega)
end Go.Proofs.YtimoinfjinmamaaGreat.Gf
