/- What is proved here: lists of generations and slots in memory; the program's orderly, last and roomy. No condition but on lengths. -/
/- What is proved here: lists of generations and slots in memory; the program's orderly, last and roomy. No condition but on lengths. -/
import Derived.Test.YtimoinfjinmamaaGreatGs7
import Derived.Test.YtimoinfjinmamaaGreatFl
namespace Go.Proofs.YtimoinfjinmamaaGreat.Gf
open Joins ChangeShapes WideShapes ChangeAt RowKit Deep By Qt
set_option maxRecDepth 100000
set_option maxHeartbeats 204800000
theorem jxj : (Tryz.prog.info? 55).map (·.size) = some 14 := by kernel_rfl
theorem jxn {ops : Array Oper} {rest : List Oper} {x y : Operand} {pos : String} {after : Array Edge} {ty : TypeId} {a : Act} {w : World} {Q : Exit → Act → World → Prop}
 (g : Nat) (old cs : Array Value) (hx : a.eval x = .pointer (some ⟨g, 0, none⟩)) (hy : a.eval y = .agg cs) (hg : w.heap[g]? = some (.cells old 55 (0, 0))) (ho : old.size = 14) (hs : cs.size = 14) (h1 : cs.all (·.oneCell') = true)
 (h : wpList Tryz.prog ops Q rest a (w.setRow g cs)) : wpList Tryz.prog ops Q (⟨none, .store 55 x y, ty, pos, after, none⟩ :: rest) a w :=
 wpList_store_row rfl 55 x y rfl g cs hx hy 55 old hg (by rw [jxj, hs]) (by omega) h1 h
theorem jwj {w : World} {s0 s1 s2 s3 s4 s5 s6 s7 : Value} {g : Ge} (h : Ms w [s0, s1, s2, s3, s4, s5, s6, s7] g.m) : (#[.int .i64 g.num, .int .i64 g.rev, .int .i64 g.mode, .int .i64 g.size, s0, s1, s2, s3, s4, s5, s6, s7, .int .i64 g.m.live, .int .i64 g.m.garb] : Array Value).all (·.oneCell') = true := by
 obtain ⟨a0, k0, hs0, -⟩ := h.2.2.2 0 (by decide);obtain rfl := Option.some.inj hs0;obtain ⟨a1, k1, hs1, -⟩ := h.2.2.2 1 (by decide);obtain rfl := Option.some.inj hs1;obtain ⟨a2, k2, hs2, -⟩ := h.2.2.2 2 (by decide);obtain rfl := Option.some.inj hs2;obtain ⟨a3, k3, hs3, -⟩ := h.2.2.2 3 (by decide);obtain rfl := Option.some.inj hs3;obtain ⟨a4, k4, hs4, -⟩ := h.2.2.2 4 (by decide);obtain rfl := Option.some.inj hs4;obtain ⟨a5, k5, hs5, -⟩ := h.2.2.2 5 (by decide);obtain rfl := Option.some.inj hs5;obtain ⟨a6, k6, hs6, -⟩ := h.2.2.2 6 (by decide);obtain rfl := Option.some.inj hs6;obtain ⟨a7, k7, hs7, -⟩ := h.2.2.2 7 (by decide);obtain rfl := Option.some.inj hs7;rw [Array.all_eq_true_iff_forall_mem];intro v hv;simp only [List.mem_toArray, List.mem_cons, List.not_mem_nil, or_false] at hv;rcases hv with rfl | rfl | rfl | rfl | rfl | rfl | rfl | rfl | rfl | rfl | rfl | rfl | rfl | rfl <;> rfl
def g0 : Ge := ⟨0, 0, 0, 0, mp0⟩
def GC (w : World) (cs : List Value) (g : Ge) : Prop := ∃ s0 s1 s2 s3 s4 s5 s6 s7, cs = [.int .i64 g.num, .int .i64 g.rev, .int .i64 g.mode, .int .i64 g.size, s0, s1, s2, s3, s4, s5, s6, s7, .int .i64 g.m.live, .int .i64 g.m.garb] ∧ Ms w [s0, s1, s2, s3, s4, s5, s6, s7] g.m ∧ (J64 g.num ∧ J64 g.rev ∧ J64 g.mode ∧ J64 g.size)
theorem jw6 {w w' : World} {cs : List Value} {g : Ge} (h : GC w cs g) (hB : Below w.heap.size w w') : GC w' cs g := by
 obtain ⟨s0, s1, s2, s3, s4, s5, s6, s7, hv, hm, hj⟩ := h;exact ⟨s0, s1, s2, s3, s4, s5, s6, s7, hv, jqf hm hB, hj⟩
theorem gc_len {w : World} {cs : List Value} {g : Ge} (h : GC w cs g) : cs.length = 14 := by
 obtain ⟨s0, s1, s2, s3, s4, s5, s6, s7, rfl, -, -⟩ := h;rfl
def Gl (w : World) (v : Value) (L : List Ge) : Prop := ∃ (V : List (List Value)) (a : Option Addr) (c : Nat), V.length = L.length ∧ v = .slice a L.length c ∧ L.length ≤ c ∧ c ≤ maxLen ∧ (∀ k, k < L.length → GC w (V.getD k []) (L.getD k g0)) ∧ (0 < L.length → ∃ b off, a = some ⟨b, off, none⟩ ∧ ∀ k u, k < L.length → u < 14 → w.cell? ⟨b, off + (k * 14 + u), none⟩ = (V.getD k [])[u]?)
theorem jw2 {w : World} {v : Value} {L : List Ge} (h : Gl w v L) : ∃ a c, v = .slice a L.length c ∧ L.length ≤ c ∧ c ≤ maxLen := by
 obtain ⟨V, a, c, -, h1, h2, h3, -⟩ := h;exact ⟨a, c, h1, h2, h3⟩
theorem jqj {w w' : World} {v : Value} {L : List Ge} (h : Gl w v L) (hB : Below w.heap.size w w') : Gl w' v L := by
 obtain ⟨V, a, c, h0, h1, h2, h3, h4, h5⟩ := h;refine ⟨V, a, c, h0, h1, h2, h3, fun k hk => jw6 (h4 k hk) hB, fun hp => ?_⟩;obtain ⟨b, off, ha, hc⟩ := h5 hp;refine ⟨b, off, ha, fun k u hk hu => ?_⟩;have h := hc k u hk hu;have hl := gc_len (h4 k hk);rw [List.getElem?_eq_getElem (show u < (V.getD k []).length by omega)] at h ⊢;exact (hB.cell (p := ⟨b, off + (k * 14 + u), none⟩) (block_lt_of_cell h)).trans h
structure GAt (w : World) (b o : Nat) (s0 s1 s2 s3 s4 s5 s6 s7 : Value) (g : Ge) : Prop where
 cells : w.cell? ⟨b, o, none⟩ = some (.int .i64 g.num) ∧ w.cell? ⟨b, o + 1, none⟩ = some (.int .i64 g.rev) ∧ w.cell? ⟨b, o + 2, none⟩ = some (.int .i64 g.mode) ∧ w.cell? ⟨b, o + 3, none⟩ = some (.int .i64 g.size) ∧ w.cell? ⟨b, o + 4, none⟩ = some (s0) ∧ w.cell? ⟨b, o + 5, none⟩ = some (s1) ∧ w.cell? ⟨b, o + 6, none⟩ = some (s2) ∧ w.cell? ⟨b, o + 7, none⟩ = some (s3) ∧ w.cell? ⟨b, o + 8, none⟩ = some (s4) ∧ w.cell? ⟨b, o + 9, none⟩ = some (s5) ∧ w.cell? ⟨b, o + 10, none⟩ = some (s6) ∧ w.cell? ⟨b, o + 11, none⟩ = some (s7) ∧ w.cell? ⟨b, o + 12, none⟩ = some (.int .i64 g.m.live) ∧ w.cell? ⟨b, o + 13, none⟩ = some (.int .i64 g.m.garb)
 ms : Ms w [s0, s1, s2, s3, s4, s5, s6, s7] g.m
 j : J64 g.num ∧ J64 g.rev ∧ J64 g.mode ∧ J64 g.size
theorem gl_at {w : World} {a : Option Addr} {n c k : Nat} {L : List Ge} (h : Gl w (.slice a n c) L) (hk : k < n) : ∃ b off, a = some ⟨b, off, none⟩ ∧ ∃ s0 s1 s2 s3 s4 s5 s6 s7, GAt w b (off + k * 14) s0 s1 s2 s3 s4 s5 s6 s7 (L.getD k g0) := by
 obtain ⟨V, a2, c2, h0, h1, h2, h3, h4, h5⟩ := h;obtain ⟨rfl, rfl, rfl⟩ : a = a2 ∧ n = L.length ∧ c = c2 := by simpa using h1
 obtain ⟨b, off, ha, hc⟩ := h5 (by omega);obtain ⟨s0, s1, s2, s3, s4, s5, s6, s7, hv, hm, hj⟩ := h4 k hk;have hcc := fun u (hu : u < 14) => hc k u hk hu;rw [hv] at hcc;simp only [← Nat.add_assoc] at hcc;exact ⟨b, off, ha, s0, s1, s2, s3, s4, s5, s6, s7, ⟨hcc 0 (by decide), hcc 1 (by decide), hcc 2 (by decide), hcc 3 (by decide), hcc 4 (by decide), hcc 5 (by decide), hcc 6 (by decide), hcc 7 (by decide), hcc 8 (by decide), hcc 9 (by decide), hcc 10 (by decide), hcc 11 (by decide), hcc 12 (by decide), hcc 13 (by decide)⟩, hm, hj⟩
theorem GAt.one {w : World} {b o : Nat} {s0 s1 s2 s3 s4 s5 s6 s7 : Value} {g : Ge} (h : GAt w b o s0 s1 s2 s3 s4 s5 s6 s7 g) : (#[.int .i64 g.num, .int .i64 g.rev, .int .i64 g.mode, .int .i64 g.size, s0, s1, s2, s3, s4, s5, s6, s7, .int .i64 g.m.live, .int .i64 g.m.garb] : Array Value).all (·.oneCell') = true := jwj h.ms
structure Slt where
 id : Int
 limit : Int
 ro : Bool
 gens : List Ge
def Sv (w : World) (v : Value) (s : Slt) : Prop := ∃ gv, v = .agg #[.int .i64 s.id, .int .i64 s.limit, .bool s.ro, gv] ∧ Gl w gv s.gens ∧ J64 s.id ∧ J64 s.limit
def LGe (g : Ge) : Prop := Few g.m ∧ g.m.st.flatten.length ≤ 900
structure ordAt (L : List Ge) (i : Nat) : Prop where
 ok : okGe (L.getD i g0)
 mode : (L.getD i g0).mode = 1 ↔ i + 1 = L.length
 asc : 0 < i → (L.getD (i - 1) g0).num < (L.getD i g0).num
open Classical in
noncomputable def ordB (L : List Ge) : Bool := @decide (∀ i, i < L.length → ordAt L i) (Classical.propDecidable _)
theorem ordB_t {L : List Ge} (h : ∀ i, i < L.length → ordAt L i) : ordB L = true := by unfold ordB; exact @decide_eq_true _ (Classical.propDecidable _) h
theorem ordB_f {L : List Ge} (h : ¬ ∀ i, i < L.length → ordAt L i) : ordB L = false := by unfold ordB; exact @decide_eq_false _ (Classical.propDecidable _) h
def befN (L : List Ge) (i : Nat) : Int := if i = 0 then 0 else (L.getD (i - 1) g0).num
theorem befN_succ (L : List Ge) (i : Nat) : befN L (i + 1) = (L.getD i g0).num := by unfold befN; rw [if_neg (by omega), Nat.add_sub_cancel]
theorem ord_of {L : List Ge} {i : Nat} (h1 : okGe (L.getD i g0)) (h2 : (L.getD i g0).mode = 1 ↔ i + 1 = L.length) (h3 : befN L i < (L.getD i g0).num) : ordAt L i := ⟨h1, h2, fun h => by
 unfold befN at h3;rw [if_neg (by omega)] at h3;exact h3⟩
theorem of_ord {L : List Ge} {i : Nat} (h : ordAt L i) : befN L i < (L.getD i g0).num := by
 unfold befN;split
 ·have := h.ok.hd.n1; omega
 ·exact h.asc (by omega)
theorem porderly_any (v : Value) (L : List Ge) (w : World) (hl : Gl w v L) (hlen : L.length ≤ 10000) (hf : ∀ g ∈ L, LGe g) : Calls Tryz.prog 75 #[v] w fun e w' => e = .returned (.bool (ordB L)) ∧ Below w.heap.size w w' := by
 obtain ⟨a, c, rfl, -, -⟩ := jw2 hl;obtain ⟨n, hn⟩ : ∃ n, n = L.length := ⟨_, rfl⟩;have HN := Lh (And.intro hn hlen);have HF := Lh (fun k (hk : k < L.length) => hf (L.getD k g0) (by rw [List.getD_eq_getElem?_getD, List.getElem?_eq_getElem hk]; exact List.getElem_mem hk));have GL := Lh hl;rw [← hn] at GL ⊢;clear hl hf hn hlen
 go_enter Tryz.func75, Tryz.ntmps75
 go_wp2_with fail
 go_loopw [3, 4, 5, 6, 9] (fun t3 _ _ _ t9 wr => ∃ i : Nat, i ≤ n ∧ t9 = .int .i64 (i : Int) ∧ t3 = .int .i64 (befN L i) ∧ (∀ j, j < i → ordAt L j) ∧ Below w.heap.size w wr) (fun _ _ _ _ t _ => n - (intOf t).toNat)
 case atStart => exact ⟨0, Nat.zero_le _, rfl, rfl, fun j hj => absurd hj (Nat.not_lt_zero j), Below.refl _ _⟩
 case round =>
  obtain ⟨i, hi, rfl, rfl, hP, hB⟩ := hrel
  rename World => wl
  by_cases hin : i < n
  case neg =>
   obtain rfl : i = n := by omega
   have d1 : decide ((i : Int) < (i : Int)) = false := decide_eq_false (by omega);have HYES := Lh (ordB_t (L := L) (fun j hj => hP j (by have := HN.out.1; omega)));have HB := Lh hB;clear hP hB hin hi;go_wp2_with fail
   go_ret
   exact ⟨by rw [HYES.out]; rfl, HB.out⟩
  have d1 : decide ((i : Int) < (n : Int)) = true := decide_eq_true (by omega);have d2 : decide (i < n) = true := decide_eq_true hin;obtain ⟨b, off, rfl, s0, s1, s2, s3, s4, s5, s6, s7, GA⟩ := gl_at (jqj GL.out hB) hin;have ON := Lh GA.one;have HLG := Lh (HF.out i (by have := HN.out.1; omega));have HMS := Lh GA.ms;have HJJ := Lh GA.j;have HOI := Lh (fun h1 h2 h3 => ord_of (L := L) (i := i) h1 h2 h3);have HOF := Lh (fun (h : ∀ j, j < L.length → ordAt L j) => And.intro (h i (by have := HN.out.1; omega)) (of_ord (h i (by have := HN.out.1; omega))));obtain ⟨x0, x1, x2, x3, x4, x5, x6, x7, x8, x9, x10, x11, x12, x13⟩ := GA.cells;have HS := Lh (befN_succ L i);obtain ⟨bf, hbf⟩ : ∃ z, z = befN L i := ⟨_, rfl⟩;rw [← hbf] at HOI HOF ⊢;generalize hgg : L.getD i g0 = g at *;have HGG := Lh hgg;clear hgg;have p0 : (0 : Int) ≤ (i : Int) := by omega
  have p1 : (i : Int) < (n : Int) := by omega
  have hwn : wrap64 ((n : Int) - 1) = (n : Int) - 1 := by unfold wrap64; have := HN.out; omega
  have HP := Lh hP;have HI := Lh hin;have HB := Lh hB;have hz := heap_alloc_new wl (.cells #[.int .i64 0, .int .i64 0, .int .i64 0, .int .i64 0, .slice none 0 0, .slice none 0 0, .slice none 0 0, .slice none 0 0, .slice none 0 0, .slice none 0 0, .slice none 0 0, .slice none 0 0, .int .i64 0, .int .i64 0] 55);clear GA hP hB hin hi hbf;go_upto_region 5 with ((with_reducible refine jxn wl.heap.size _ #[.int .i64 g.num, .int .i64 g.rev, .int .i64 g.mode, .int .i64 g.size, s0, s1, s2, s3, s4, s5, s6, s7, .int .i64 g.m.live, .int .i64 g.m.garb] ?_ ?_ hz rfl rfl ON.out ?_); exact rfl; exact rfl)
  rw [World.setRow_alloc_new];clear x0 x1 x2 x3 x4 x5 x6 x7 x8 x9 x10 x11 x12 x13;have hb := jqg wl (.cells #[.int .i64 g.num, .int .i64 g.rev, .int .i64 g.mode, .int .i64 g.size, s0, s1, s2, s3, s4, s5, s6, s7, .int .i64 g.m.live, .int .i64 g.m.garb] 55);have HX := Lh (heap_alloc_new wl (.cells #[.int .i64 g.num, .int .i64 g.rev, .int .i64 g.mode, .int .i64 g.size, s0, s1, s2, s3, s4, s5, s6, s7, .int .i64 g.m.live, .int .i64 g.m.garb] 55));have MSx := Lh (jqf HMS.out hb);have BX := Lh (HB.out.trans (hb.mono HB.out.size));clear hb hz HB HMS;generalize wl.alloc (.cells #[.int .i64 g.num, .int .i64 g.rev, .int .i64 g.mode, .int .i64 g.size, s0, s1, s2, s3, s4, s5, s6, s7, .int .i64 g.m.live, .int .i64 g.m.garb] 55) = wx at *;generalize wl.heap.size = gx at *;obtain ⟨il, hil⟩ : ∃ q, q = decide (i + 1 = n) := ⟨_, rfl⟩;have e1 : ((i : Int) == (n : Int) - 1) = il := by
   rw [hil]
   by_cases h : i + 1 = n
   ·rw [decide_eq_true h]; exact beq_iff_eq.2 (by omega)
   ·rw [decide_eq_false h]; exact beq_false_of_ne (by omega)
  have HIL := Lh hil;clear hil;obtain ⟨x0, x1, x2, x3, x4, x5, x6, x7, x8, x9, x10, x11, x12, x13⟩ := bx14 HX.out;go_upto_region 6 with fail
  go_wp2_with fail
  clear x0 x1 x2 x3 x4 x5 x6 x7 x8 x9 x10 x11 x12 x13;refine (pgvalid_any (.agg #[.int .i64 g.num, .int .i64 g.rev, .int .i64 g.mode, .int .i64 g.size, s0, s1, s2, s3, s4, s5, s6, s7, .int .i64 g.m.live, .int .i64 g.m.garb]) g wx ⟨s0, s1, s2, s3, s4, s5, s6, s7, rfl, MSx.out, HJJ.out⟩ HLG.out.1 (by have := HLG.out.2; omega)).mono ?_;rintro e wy ⟨rfl, hb⟩;have HY := Lh ((hb.block _ (jqb HX.out)).trans HX.out);have BY := Lh (BX.out.trans (hb.mono BX.out.size));clear hb HX BX MSx e1;obtain ⟨x0, x1, x2, x3, x4, x5, x6, x7, x8, x9, x10, x11, x12, x13⟩ := bx14 HY.out
  by_cases h1 : okGe g
  case neg =>
   rw [jw0 h1];have HNO := Lh (ordB_f (L := L) (fun h => h1 (by have q := (HOF.out h).1.ok; rw [HGG.out] at q; exact q)));clear h1;go_wp2_with fail
   go_ret
   exact ⟨by rw [HNO.out]; rfl, BY.out⟩
  rw [okGb_t h1]
  by_cases h2 : g.num ≤ bf
  case pos =>
   have d3 : decide (g.num ≤ bf) = true := decide_eq_true h2;have HNO := Lh (ordB_f (L := L) (fun h => by have := (HOF.out h).2; omega));clear h1 h2;go_wp2_with fail
   go_ret
   exact ⟨by rw [HNO.out]; rfl, BY.out⟩
  have d3 : decide (g.num ≤ bf) = false := decide_eq_false h2;have C12 := Lh (And.intro h1 (show bf < g.num by omega));clear h1 h2;obtain ⟨m1, hm1⟩ : ∃ q, q = (g.mode == 1) := ⟨_, rfl⟩
  by_cases h3 : m1 = il
  case neg =>
   have d4 : (m1 != il) = true := by cases m1 <;> cases il <;> first | rfl | exact absurd rfl h3
   have HNO := Lh (ordB_f (L := L) (fun h => h3 (by
    rw [hm1, HIL.out];have := (HOF.out h).1.mode;rw [HGG.out] at this
    by_cases q : i + 1 = n
    ·rw [decide_eq_true q]; exact beq_iff_eq.2 (this.2 (by have := HN.out.1; omega))
    ·rw [decide_eq_false q]; exact beq_false_of_ne (fun e => q (by have := this.1 e; have := HN.out.1; omega)))))
   rw [hm1] at d4;have d5 : (!((g.mode == 1) == il)) = true := d4;clear h3 hm1;go_wp2_with fail
   go_ret
   exact ⟨by rw [HNO.out]; rfl, BY.out⟩
  have d4 : (m1 != il) = false := by rw [h3]; cases il <;> rfl
  have HMD := Lh (show g.mode = 1 ↔ i + 1 = n by
   rw [hm1, HIL.out] at h3
   by_cases q : i + 1 = n
   ·rw [decide_eq_true q] at h3; exact ⟨fun _ => q, fun _ => beq_iff_eq.1 h3⟩
   ·rw [decide_eq_false q] at h3; exact ⟨fun e => absurd (beq_iff_eq.2 e) (by rw [h3]; exact Bool.false_ne_true), fun e => absurd e q⟩)
  rw [hm1] at d4;have d5 : (!((g.mode == 1) == il)) = false := d4;clear h3 hm1;have hw := w64s8 i (by have := HN.out; have := HI.out; omega);go_wp2_with fail
  go_roundw
  case rel => exact ⟨i + 1, HI.out, by go_num, by rw [HS.out], fun j hj => by
   rcases Nat.lt_or_ge j i with h | h
   ·exact HP.out j h
   ·obtain rfl : j = i := by omega
    exact HOI.out (by first | exact C12.out.1 | (rw [HGG.out]; exact C12.out.1)) (by first | (rw [← HN.out.1]; exact HMD.out) | (rw [HGG.out, ← HN.out.1]; exact HMD.out)) (by first | exact C12.out.2 | (rw [HGG.out]; exact C12.out.2)), BY.out⟩
  case measure => exact meas8 n i HI.out (by have := HN.out; omega)
end Go.Proofs.YtimoinfjinmamaaGreat.Gf
