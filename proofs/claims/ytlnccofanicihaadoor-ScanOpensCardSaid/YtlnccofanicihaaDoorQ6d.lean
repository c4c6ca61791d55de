/- What is proved here: the contract of the reference's Decode. No condition. -/
import Derived.Test.YtlnccofanicihaaDoorK6
import Derived.Test.YtlnccofanicihaaDoorQp
namespace Go.Proofs.YtlnccofanicihaaDoor.Gf
open Go Go.ChangeShapes Go.WideShapes Go.ChangeAt Go.RowKit Go.Proofs.YtlnccofanicihaaDoor.By Go.Proofs.YtlnccofanicihaaDoor.Crc Go.Proofs.YtlnccofanicihaaDoor.Qt

theorem results_rtt {P : Program} {fn : Func} {p q r : Tmp} {S : TypeId} (h : fn.results = #[.cell p S, .tmp q, .tmp r]) (tmps : Array Value) (w : World) (g : Nat) (cs : Array Value) {d : TypeDesc}
    (hp : tmps.getD p undef = .pointer (some ⟨g, 0, none⟩)) (hg : w.heap[g]? = some (.cells cs S (0, 0)))
    (hu : P.underlying S = some d) (hd : (match d with | .struct _ | .array _ _ => true | _ => false) = true) (hi : (P.info? S).map (·.size) = some cs.size) :
    (results fn tmps).run P w = .ok (.tuple #[.agg cs, tmps.getD q undef, tmps.getD r undef]) w := by
  have hp' : tmps[p]?.getD undef = .pointer (some ⟨g, 0, none⟩) := by simpa using hp
  simp [results, h, hp', asAddr, run_loadVar_row w g S S cs (0, 0) d hg hu hd hi]
/-- A needle whose data lie in memory of the call's own. -/
def NdO (w : World) (B : Nat) (v : Value) (x : Ndl) : Prop := ∃ s, v = .agg #[.int .u64 (x.key : Int), .int .u32 (x.cookie : Int), .bool x.del, s] ∧ x.key < 18446744073709551616 ∧ x.cookie < 4294967296 ∧ Own w B s x.data
theorem NdO.nd {w : World} {B : Nat} {v : Value} {x : Ndl} (h : NdO w B v x) : Nd w v x := by
  obtain ⟨s, h1, h2, h3, h4⟩ := h
  exact ⟨s, h1, h2, h3, h4.sl⟩
theorem own_weak {w : World} {B C : Nat} {v : Value} {l : List Nat} (h : Own w B v l) (hb : C ≤ B) : Own w C v l := by
  obtain ⟨h0, h1, h2 | ⟨g, cap, cur, rfl, hg, h3⟩⟩ := h
  · exact ⟨h0, h1, Or.inl h2⟩
  · exact ⟨h0, h1, Or.inr ⟨g, cap, cur, rfl, by omega, h3⟩⟩
/-- A call that answers a needle, a number and an error. -/
def ED (w : World) (x : Ndl) (n err : Nat) (e : Ending) (w' : World) : Prop := (∃ v, e = .returned (.tuple #[v, .int .i64 (n : Int), .int .i64 (err : Int)]) ∧ NdO w' w.heap.size v x) ∧ Below w.heap.size w w'
/-- A needle laid into its cells. -/
theorem set4 {W : World} {g : Nat} {a b c d k l m n : Value} {T : TypeId} (h : W.heap[g]? = some (.cells #[a, b, c, d] T (0, 0))) : ((((W.setCell ⟨g, 0, none⟩ k).setCell ⟨g, 1, none⟩ l).setCell ⟨g, 2, none⟩ m).setCell ⟨g, 3, none⟩ n).heap[g]? = some (.cells #[k, l, m, n] T (0, 0)) := by
  have h1 := heap_setCell_same W g 0 _ _ k h
  have h2 := heap_setCell_same _ g 1 _ _ l h1
  have h3 := heap_setCell_same _ g 2 _ _ m h2
  exact heap_setCell_same _ g 3 _ _ n h3
theorem below4 {B : Nat} {w W : World} {g : Nat} {k l m n : Value} (h : Below B w W) (hg : B ≤ g) : Below B w ((((W.setCell ⟨g, 0, none⟩ k).setCell ⟨g, 1, none⟩ l).setCell ⟨g, 2, none⟩ m).setCell ⟨g, 3, none⟩ n) :=
  (((h.setCell (p := ⟨g, 0, none⟩) hg _).setCell (p := ⟨g, 1, none⟩) hg _).setCell (p := ⟨g, 2, none⟩) hg _).setCell (p := ⟨g, 3, none⟩) hg _
theorem own4 {W : World} {B g : Nat} {v k l m n : Value} {L : List Nat} (h : Own W B v L) (hg : g < B) : Own ((((W.setCell ⟨g, 0, none⟩ k).setCell ⟨g, 1, none⟩ l).setCell ⟨g, 2, none⟩ m).setCell ⟨g, 3, none⟩ n) B v L :=
  own_keep h fun q hq => by
    have := h.lt q hq
    have hne : q ≠ g := by omega
    rw [heap_setCell_other _ _ _ _ hne, heap_setCell_other _ _ _ _ hne, heap_setCell_other _ _ _ _ hne, heap_setCell_other _ _ _ _ hne]
theorem held_two {P : Program} {ops : Array Oper} {md : Region.Mode} {Q : Exit → Act → World → Prop} {S : World → Prop} {fuel : Nat} {listed : Array Bool} {a : Act} {w : World} (i k : Nat) {oi ok : Oper} (hi : ops[i]? = some oi) (hk : ops[k]? = some ok) (hg : oi.guard = none) (hg2 : ok.guard = none) (hr : Region.ready md ops listed = [i, k])
    (h : ∀ K : Act → World → Prop, (∀ a' w', S w' → wpAnyH P md ops Q S fuel (listed.setIfInBounds i true) a' w' → K a' w') → oi.wp P a w K Q)
    (h2 : ∀ K : Act → World → Prop, (∀ a' w', S w' → wpAnyH P md ops Q S fuel (listed.setIfInBounds k true) a' w' → K a' w') → ok.wp P a w K Q) : wpAnyH P md ops Q S (fuel + 1) listed a w := by
  refine wpAnyH_all hr (by simp) fun j hj => ?_
  have hj2 : j = i ∨ j = k := by simpa using hj
  rcases hj2 with rfl | rfl
  · unfold wpOp
    simp only [hi]
    rw [if_pos (by simp [Region.wanted, hg])]
    exact Or.inl (h _ fun a' w' h1 h2 => ⟨h1, h2⟩)
  · unfold wpOp
    simp only [hk]
    rw [if_pos (by simp [Region.wanted, hg2])]
    exact Or.inl (h2 _ fun a' w' h1 h2 => ⟨h1, h2⟩)
theorem infoN : (Tryd.prog.info? 56).map (·.size) = some 4 := by kernel_rfl
/-- Where only the normal way out is wanted. -/
def onlyN (Q : Exit → Act → World → Prop) : Exit → Act → World → Prop
  | .normal, a, w => Q .normal a w
  | _, _, _ => False
theorem wp_onlyN {P : Program} {c : Code} {Q : Exit → Act → World → Prop} {a : Act} {w : World} (h : c.wp P (onlyN Q) a w) : c.wp P Q a w :=
  Code.wp_mono (fun e a w h => by cases e <;> first | exact h | exact h.elim) h
theorem wp_region_headsS {P : Program} {id : Nat} {Q : Exit → Act → World → Prop} {a : Act} {w : World} {l : List Oper} (S : World → Prop) (hd : List Nat) (fuel : Nat) (hm : P.follows .mixedOrders = true) (hQ : ∀ c (a : Act) d v w, Q (.panic c) (a.put d v) w → Q (.panic c) a w)
    (hB : (Region.noSelect l.toArray && headsB .any l.toArray hd (Array.replicate l.toArray.size false)) = true) (hf : l.toArray.size = hd.length + fuel) (h1 : (pickOps l.toArray hd).map some = hd.map (fun t => l.toArray[t]?)) (hS : S w.drew)
    (h : wpHeads P l.toArray S (fun a' => wpAnyH P .any l.toArray Q S fuel (listAll hd (Array.replicate l.toArray.size false)) a' w.drew) (pickOps l.toArray hd) a) : (Code.region id l.toArray true).wp P Q a w := by
  simp only [Bool.and_eq_true] at hB
  refine wp_region_held (S := S) hm ?_
  have := held_heads (P := P) (md := .any) (Q := Q) hB.1 hQ hS hd _ _ a hB.2 h1 h
  rw [hf] at *
  exact this
/-- What comes of bytes whose header is good. -/
theorem dec_cases {l : List Nat} (h1 : ¬ l.length < 20) (h2 : hdOk l) : (l.length < szR (lenR l) → decE l = 4) ∧ (¬ l.length < szR (lenR l) → (¬ ckOk l → decE l = 5) ∧ (ckOk l → (¬ pdOk l → decE l = 3) ∧ (pdOk l → decE l = 0))) := by
  unfold decE
  rw [if_neg h1, if_neg (not_not_intro h2)]
  refine ⟨fun h => by rw [if_pos h], fun h => ⟨fun h4 => by rw [if_neg h, if_pos h4], fun h4 => ⟨fun h5 => by rw [if_neg h, if_neg (not_not_intro h4), if_pos h5], fun h5 => by rw [if_neg h, if_neg (not_not_intro h4), if_neg (not_not_intro h5)]⟩⟩⟩
theorem dec_end {R : Ending → World → Prop} {W : World} {g : Nat} {tmps : Array Value} {k c d s : Value} (hp : tmps.getD 2 undef = .pointer (some ⟨g, 0, none⟩)) (hg : W.heap[g]? = some (.cells #[k, c, d, s] 56 (0, 0)))
    (hR : R (.returned (.tuple #[.agg #[k, c, d, s], tmps.getD 3 undef, tmps.getD 4 undef])) W) : bodyPost Tryd.prog Tryd.f32 R .ret { tmps := tmps, defers := [] } W :=
  bodyPost_ret (results_rtt rfl _ _ g #[k, c, d, s] hp hg Tryd.underlying56 rfl infoN) rfl hR
theorem short_end (w : World) (err : Nat) : ED w ⟨0, 0, false, []⟩ 0 err (.returned (.tuple #[.agg #[.int .u64 0, .int .u32 0, .bool false, .slice none 0 0], .int .i64 0, .int .i64 (err : Int)])) (w.alloc (.cells #[.int .u64 0, .int .u32 0, .bool false, .slice none 0 0] 56)) :=
  ⟨⟨_, rfl, .slice none 0 0, rfl, by decide, by decide, own_nil _ _⟩, (Below.refl w.heap.size w).alloc (Nat.le_refl _) _⟩
theorem err_end {w W : World} {l : List Nat} {err : Nat} (he : decE l = err) (h0 : err ≠ 0) (hb : Below w.heap.size w W) : (∃ v, Ending.returned (.tuple #[.agg #[.int .u64 0, .int .u32 0, .bool false, .slice none 0 0], .int .i64 0, .int .i64 (err : Int)]) = .returned (.tuple #[v, .int .i64 ((decN l : Nat) : Int), .int .i64 ((decE l : Nat) : Int)]) ∧ NdO W w.heap.size v (decX l)) ∧ Below w.heap.size w W := by
  have hx : decX l = ⟨0, 0, false, []⟩ := by unfold decX; rw [if_neg (by rw [he]; exact h0)]
  have hn : decN l = 0 := by unfold decN; rw [if_neg (by rw [he]; exact h0)]
  rw [he, hx, hn]
  exact ⟨⟨_, rfl, .slice none 0 0, rfl, by decide, by decide, own_nil _ _⟩, hb⟩
set_option maxRecDepth 100000 in
set_option maxHeartbeats 6400000 in
theorem rdecode_short (v : Value) (l : List Nat) (w : World) (s : Sl w v l) (h : l.length < 20) : Calls Tryd.prog 32 #[v] w (ED w (decX l) (decN l) (decE l)) := by
  have he : decE l = 4 := by unfold decE; rw [if_pos h]
  have hx : decX l = ⟨0, 0, false, []⟩ := by unfold decX; rw [he]; rfl
  have hn : decN l = 0 := by unfold decN; rw [he]; rfl
  rw [he, hx, hn]
  unfold ED
  obtain ⟨a, c, hv, -, -⟩ := sl_form s
  obtain ⟨n, hn⟩ : ∃ n, n = l.length := ⟨_, rfl⟩
  rw [← hn] at hv h
  subst hv
  have g1 : decide ((n : Int) < 20) = true := decide_eq_true (by omega)
  clear s hn he hx
  go_enter Tryd.func32, Tryd.ntmps32
  have HEND := Lib.hid (short_end w 4)
  unfold ED at HEND
  go_wp2
  exact dec_end (g := w.heap.size) rfl (heap_alloc_new w _) HEND.out
set_option maxRecDepth 100000 in
set_option maxHeartbeats 6400000 in
theorem rdecode_any (v : Value) (l : List Nat) (w : World) (s : Sl w v l) : Calls Tryd.prog 32 #[v] w (ED w (decX l) (decN l) (decE l)) := by
  by_cases hsh : l.length < 20
  · exact rdecode_short v l w s hsh
  obtain ⟨b, o, c, hv, hc1, hc2, hk⟩ := sl_cells s (by omega)
  obtain ⟨n, hn⟩ : ∃ n, n = l.length := ⟨_, rfl⟩
  rw [← hn] at hv hsh hc1
  subst hv
  have HX0 := Lib.hid fun (h : decE l ≠ 0) => (show decX l = ⟨0, 0, false, []⟩ by unfold decX; rw [if_neg h])
  have HN0 := Lib.hid fun (h : decE l ≠ 0) => (show decN l = 0 by unfold decN; rw [if_neg h])
  have g1 : decide ((n : Int) < 20) = false := decide_eq_false (by omega)
  have HB0 := Lib.hid ((Below.refl w.heap.size w).alloc (Nat.le_refl _) (.cells #[.int .u64 0, .int .u32 0, .bool false, .slice none 0 0] 56))
  obtain ⟨w0, hw0⟩ : ∃ w0, w0 = w.alloc (.cells #[.int .u64 0, .int .u32 0, .bool false, .slice none 0 0] 56) := ⟨_, rfl⟩
  have hcut := sl_cut (w := w) (p := 16) (c := 4) s.1 hn.symm hc2 hc1 (by rw [hn]; exact hk) (by omega)
  have hval := rvalue_any _ _ w0 (sl_below hcut (by rw [hw0]; exact HB0.out)) (by simp; omega) (by simp; omega)
  rw [show valL ((l.drop 16).take 4) = lenR l from rfl, hw0] at hval
  have HBAD := Lib.hid fun (h : ¬ hdOk l) => (show decE l = 3 by unfold decE; rw [if_neg (by omega), if_pos h])
  have hcell : ∀ k, k < n → (w.alloc (.cells #[.int .u64 0, .int .u32 0, .bool false, .slice none 0 0] 56)).cell? ⟨b, o + k, none⟩ = some (.int .u8 ((l.getD k 0 : Nat) : Int)) := fun k hkn => (HB0.out.cell (block_lt_of_cell (hk k (by omega)))).trans (hk k (by omega))
  have q0 := hcell 0 (by omega)
  rw [Nat.add_zero] at q0
  have q1 := hcell 1 (by omega)
  have q2 := hcell 2 (by omega)
  have q3 := hcell 3 (by omega)
  have HEND := Lib.hid (short_end w 3)
  unfold ED at HEND ⊢
  have HS := Lib.hid s
  have HC := Lib.hid hk
  have HCC := Lib.hid (And.intro hc1 hc2)
  have hnE := Lib.hid hn
  unfold hdOk at HBAD
  obtain ⟨m, hm⟩ : ∃ m, m = lenR l := ⟨_, rfl⟩
  have HM := Lib.hid hm
  rw [← hm] at hval HBAD
  have HVAL := Lib.hid hval
  have p16 : (20 : Int) ≤ (c : Int) := by omega
  have p17 : (20 : Int) ≤ (n : Int) := by omega
  clear hval hcut s hk hn hm hcell hw0 hc1 hc2
  generalize hy0 : l.getD 0 0 = y0 at q0 HBAD
  generalize hy1 : l.getD 1 0 = y1 at q1 HBAD
  generalize hy2 : l.getD 2 0 = y2 at q2 HBAD
  generalize hy3 : l.getD 3 0 = y3 at q3 HBAD
  have HY := Lib.hid (And.intro hy0 (And.intro hy1 (And.intro hy2 hy3)))
  clear hy0 hy1 hy2 hy3
  by_cases p0 : y0 = 78
  case neg =>
    have hc0 : ((y0 : Int) != 78) = true := by rw [bne_iff_ne]; omega
    have he : decE l = 3 := HBAD.out (fun h => p0 h.1)
    rw [he, HX0.out (by rw [he]; decide), HN0.out (by rw [he]; decide)]
    clear he p0
    go_enter Tryd.func32, Tryd.ntmps32
    go_wp2_with fail
    refine HVAL.out.mono ?_
    rintro e w1 ⟨rfl, rfl⟩
    go_wp2
    refine dec_end (g := w.heap.size) rfl (heap_alloc_new w _) ?_
    exact HEND.out
  have hc0 : ((y0 : Int) != 78) = false := by rw [p0]; rfl
  by_cases p1 : y1 = 165
  case neg =>
    have hc1 : ((y1 : Int) != 165) = true := by rw [bne_iff_ne]; omega
    have he : decE l = 3 := HBAD.out (fun h => p1 h.2.1)
    rw [he, HX0.out (by rw [he]; decide), HN0.out (by rw [he]; decide)]
    clear he p0 p1
    go_enter Tryd.func32, Tryd.ntmps32
    go_wp2_with fail
    refine HVAL.out.mono ?_
    rintro e w1 ⟨rfl, rfl⟩
    go_wp2
    refine dec_end (g := w.heap.size) rfl (heap_alloc_new w _) ?_
    exact HEND.out
  have hc1 : ((y1 : Int) != 165) = false := by rw [p1]; rfl
  by_cases p2 : y2 ≤ 1
  case neg =>
    have hc2 : decide ((1 : Int) < (y2 : Int)) = true := decide_eq_true (by omega)
    have he : decE l = 3 := HBAD.out (fun h => p2 h.2.2.1)
    rw [he, HX0.out (by rw [he]; decide), HN0.out (by rw [he]; decide)]
    clear he p0 p1 p2
    go_enter Tryd.func32, Tryd.ntmps32
    go_wp2_with fail
    refine HVAL.out.mono ?_
    rintro e w1 ⟨rfl, rfl⟩
    go_wp2
    refine dec_end (g := w.heap.size) rfl (heap_alloc_new w _) ?_
    exact HEND.out
  have hc2 : decide ((1 : Int) < (y2 : Int)) = false := decide_eq_false (by omega)
  by_cases p3 : y3 = 0
  case neg =>
    have hc3 : ((y3 : Int) != 0) = true := by rw [bne_iff_ne]; omega
    have he : decE l = 3 := HBAD.out (fun h => p3 h.2.2.2.1)
    rw [he, HX0.out (by rw [he]; decide), HN0.out (by rw [he]; decide)]
    clear he p0 p1 p2 p3
    go_enter Tryd.func32, Tryd.ntmps32
    go_wp2_with fail
    refine HVAL.out.mono ?_
    rintro e w1 ⟨rfl, rfl⟩
    go_wp2
    refine dec_end (g := w.heap.size) rfl (heap_alloc_new w _) ?_
    exact HEND.out
  have hc3 : ((y3 : Int) != 0) = false := by rw [p3]; rfl
  by_cases p4 : m ≤ 4096
  case neg =>
    have hc4 : decide ((4096 : Int) < (m : Int)) = true := decide_eq_true (by omega)
    have he : decE l = 3 := HBAD.out (fun h => p4 h.2.2.2.2.1)
    rw [he, HX0.out (by rw [he]; decide), HN0.out (by rw [he]; decide)]
    clear he p0 p1 p2 p3 p4
    go_enter Tryd.func32, Tryd.ntmps32
    go_wp2_with fail
    refine HVAL.out.mono ?_
    rintro e w1 ⟨rfl, rfl⟩
    go_wp2
    refine dec_end (g := w.heap.size) rfl (heap_alloc_new w _) ?_
    exact HEND.out
  have hc4 : decide ((4096 : Int) < (m : Int)) = false := decide_eq_false (by omega)
  have HOKH := Lib.hid (fun (h : ¬ (y2 = 1 ∧ 0 < m)) => (show hdOk l by unfold hdOk; rw [HY.out.1, HY.out.2.1, HY.out.2.2.1, HY.out.2.2.2, ← HM.out]; exact ⟨p0, p1, p2, p3, p4, h⟩))
  by_cases p5 : y2 = 1 ∧ 0 < m
  case pos =>
    have he : decE l = 3 := HBAD.out (fun h => h.2.2.2.2.2 p5)
    rw [he, HX0.out (by rw [he]; decide), HN0.out (by rw [he]; decide)]
    obtain ⟨p51, p52⟩ := p5
    have hc5 : decide ((0 : Int) < (m : Int)) = true := decide_eq_true (by omega)
    rw [p51] at q2
    clear he p0 p1 p2 p3 p51 HY
    go_enter Tryd.func32, Tryd.ntmps32
    go_wp2_with fail
    refine HVAL.out.mono ?_
    rintro e w1 ⟨rfl, rfl⟩
    go_wp2
    refine dec_end (g := w.heap.size) rfl (heap_alloc_new w _) ?_
    exact HEND.out
  have h2 := HOKH.out p5
  have HF := Lib.hid (dec_cases (show ¬ l.length < 20 by rw [← hnE.out]; omega) h2)
  rw [← HM.out, ← hnE.out] at HF
  have hms := szI6_nat (n := m) (by omega)
  obtain ⟨M, hMM⟩ : ∃ M, M = szR m := ⟨_, rfl⟩
  rw [← hMM] at HF hms
  have RZ : Hid (∀ W, Calls Tryd.prog 35 #[.int .i64 (m : Int)] W fun e w' => e = .returned (.int .i64 (M : Int)) ∧ W = w') := fun W => by
    have h := rsize6_any (m : Int) W (by unfold I64b; omega)
    rwa [hms] at h
  have hMb : 24 + m ≤ M ∧ M ≤ 5000 := by have := szR_ge m; have := szR_lt m; omega
  have HMM := Lib.hid hMM
  have HMB := Lib.hid hMb
  clear HBAD HOKH h2 hms hMM hMb
  rcases (show y2 = 0 ∨ (y2 = 1 ∧ m = 0) by omega) with p7 | ⟨p7, p8⟩
  · rw [p7] at q2
    have P7 := Lib.hid p7
    clear p0 p1 p2 p3 p5 p7
    by_cases p6 : n < M
    case pos =>
      have he := HF.out.1 p6
      rw [he, HX0.out (by rw [he]; decide), HN0.out (by rw [he]; decide)]
      have hc6 : decide ((n : Int) < (M : Int)) = true := decide_eq_true (by omega)
      have HEND := Lib.hid (short_end w 4)
      unfold ED at HEND
      clear he
      go_enter Tryd.func32, Tryd.ntmps32
      go_wp2_with fail
      refine HVAL.out.mono ?_
      rintro e w1 ⟨rfl, rfl⟩
      go_wp2_with (go_at_call 35; refine (RZ.out _).mono ?_; rintro e w1 ⟨rfl, rfl⟩)
      refine dec_end (g := w.heap.size) rfl (heap_alloc_new w _) ?_
      exact HEND.out
    have hc6 : decide ((n : Int) < (M : Int)) = false := decide_eq_false (by omega)
    have HNM := Lib.hid p6
    go_enter Tryd.func32, Tryd.ntmps32
    go_wp2_with fail
    refine HVAL.out.mono ?_
    rintro e w1 ⟨rfl, rfl⟩
    go_wp2_with (go_at_call 35; refine (RZ.out _).mono ?_; rintro e w1 ⟨rfl, rfl⟩)
    have hbox := heap_alloc_new w (.cells #[.int .u64 0, .int .u32 0, .bool false, .slice none 0 0] 56)
    clear q0 q1 q2 q3 HEND HVAL
    have HBX := Lib.hid hbox
    clear hbox
    generalize w.alloc (.cells #[.int .u64 0, .int .u32 0, .bool false, .slice none 0 0] 56) = W0 at *
    obtain ⟨E0, hE0⟩ : ∃ E0, E0 = 20 + m := ⟨_, rfl⟩
    obtain ⟨E4, hE4⟩ : ∃ E4, E4 = E0 + 4 := ⟨_, rfl⟩
    rw [show (20 : Int) + (m : Int) = (E0 : Int) by omega]
    have r1 : (E0 : Int) ≤ (c : Int) := by have := HMB.out; have := HCC.out.1; omega
    have r2 : IntKind.i64.wrap ((E0 : Int) + 4) = (E4 : Int) := by
      rw [hE4, Int.natCast_add]
      exact IntWalk.i64_in _ (by omega)
    have r3 : (E0 : Int) ≤ (E4 : Int) ∧ (E4 : Int) ≤ (c : Int) := by have := HMB.out; have := HCC.out.1; omega
    have r4 : ¬ c = E0 := by have := HMB.out; have := HCC.out.1; omega
    have SA := Lib.hid (sl_below (sl_cut (w := w) (p := 0) (c := E0) HS.out.1 hnE.out.symm HCC.out.2 HCC.out.1 (by rw [hnE.out]; exact HC.out) (by have := HMB.out; have := HCC.out.1; omega)) HB0.out)
    rw [Nat.add_zero, Nat.sub_zero, List.drop_zero] at SA
    have SB := Lib.hid (sl_below (sl_cut (w := w) (p := E0) (c := 4) HS.out.1 hnE.out.symm HCC.out.2 HCC.out.1 (by rw [hnE.out]; exact HC.out) (by have := HMB.out; have := HCC.out.1; omega)) HB0.out)
    rw [show (4 : Nat) = E4 - E0 by omega] at SB
    have HE := Lib.hid (And.intro hE0 hE4)
    clear hE0 hE4 p6
    refine wp_onlyN ?_
    refine wp_region_headsS (fun w' => Below W0.heap.size W0 w') [0, 1, 2, 5, 6, 7, 8, 9, 10] 3 (by kernel_rfl) (fun _ _ _ _ _ h => h.elim) (by kernel_rfl) (by rfl) (by rfl) (Below.refl _ _).drew ?_
    simp only [pickOps, List.filterMap_cons, List.filterMap_nil, List.getElem?_toArray, List.getElem?_cons_zero, List.getElem?_cons_succ]
    refine wpHeads_step (fun K hK => ?_)
    go_simp
    refine ⟨_, fun _ _ => rfl, hK _ ?_⟩
    clear hK K
    refine wpHeads_step (fun K hK => ?_)
    go_simp
    refine ⟨_, fun _ _ => rfl, hK _ ?_⟩
    clear hK K
    refine wpHeads_step (fun K hK => ?_)
    go_simp
    refine ⟨_, fun _ _ => rfl, hK _ ?_⟩
    clear hK K
    refine wpHeads_step (fun K hK => ?_)
    go_simp
    refine ⟨_, fun _ _ => rfl, hK _ ?_⟩
    clear hK K
    refine wpHeads_step (fun K hK => ?_)
    go_simp
    refine ⟨_, fun _ _ => rfl, hK _ ?_⟩
    clear hK K
    refine wpHeads_step (fun K hK => ?_)
    go_simp
    refine ⟨_, fun _ _ => rfl, hK _ ?_⟩
    clear hK K
    refine wpHeads_step (fun K hK => ?_)
    go_simp
    refine ⟨_, fun _ _ => rfl, hK _ ?_⟩
    clear hK K
    refine wpHeads_step (fun K hK => ?_)
    go_simp
    refine ⟨_, fun _ _ => rfl, hK _ ?_⟩
    clear hK K
    refine wpHeads_step (fun K hK => ?_)
    go_simp
    refine ⟨.string (strOf ((l.drop E0).take (E4 - E0))), fun w' hw' => by rw [conv_sl (sl_below SB.out hw')]; rfl, hK _ ?_⟩
    clear hK K
    refine wpHeads_nil ?_
    refine held_one 3 rfl rfl (by kernel_rfl) fun K hK => ?_
    go_simp
    go_at_call 46
    refine (check_any _ _ _ (sl_drew SA.out)).mono ?_
    rintro e w3 ⟨⟨s3, rfl, ho3⟩, hb3⟩
    have hb4 : Below W0.heap.size W0 w3 := (Below.refl W0.heap.size W0).drew.trans (hb3.mono (Nat.le_refl _))
    refine hK _ _ hb4 ?_
    clear hK K hb3
    obtain ⟨aa, na, ca, rfl, -⟩ := own_form ho3
    have u1 := conv_sl ho3.sl
    refine held_one 4 rfl rfl (by kernel_rfl) fun K hK => ?_
    go_simp
    refine hK _ _ hb4 ?_
    clear hK K
    refine held_one 11 rfl rfl (by kernel_rfl) fun K hK => ?_
    go_simp
    refine hK _ _ hb4 ?_
    clear hK K
    refine wpAnyH_done (by kernel_rfl) ?_ _
    unfold onlyN
    dsimp only
    have hse := str_eq ho3.sl.1 SB.out.1
    have hck : (leL (ext 0 (l.take E0)) = (l.drop E0).take (E4 - E0)) ↔ ckOk l := by
      unfold ckOk
      rw [← HM.out, ← HE.out.1, show E4 - E0 = 4 by have := HE.out.2; omega]
    have hb5 := bt HB0.out hb4
    have hbx3 := (hb4.block _ (lt_of_some HBX.out)).trans HBX.out
    obtain ⟨t0, t1, t2, t3⟩ := bx_cell hbx3
    have z0 := frozen_of_row w3 w.heap.size 0 _ _ hbx3
    have z1 := frozen_of_row w3 w.heap.size 1 _ _ hbx3
    have z2 := frozen_of_row w3 w.heap.size 2 _ _ hbx3
    have z3 := frozen_of_row w3 w.heap.size 3 _ _ hbx3
    have HB5 := Lib.hid hb5
    have HBX3 := Lib.hid hbx3
    have HF1 := Lib.hid (HF.out.2 HNM.out)
    clear hb4 hb5 hbx3 ho3 u1 RZ HF
    by_cases p9 : ckOk l
    case neg =>
      have hs1 : ((strOf (leL (ext 0 (l.take E0)))).toList == (strOf ((l.drop E0).take (E4 - E0))).toList) = false := by rw [hse]; exact decide_eq_false fun h => p9 (hck.1 h)
      have HE5 := Lib.hid (HF1.out.1 p9)
      clear hse hck p9 HF1
      generalize strOf (leL (ext 0 (l.take E0))) = T1 at *
      generalize strOf ((l.drop E0).take (E4 - E0)) = T2 at *
      have hs2 : (!T1.toList == T2.toList) = true := by rw [hs1]; rfl
      rw [hs2]
      clear hs1 hs2
      go_wp2
      refine dec_end (g := w.heap.size) rfl (set4 HBX3.out) ?_
      exact err_end (err := 5) HE5.out (by decide) (below4 HB5.out (Nat.le_refl _))
    have hs1 : ((strOf (leL (ext 0 (l.take E0)))).toList == (strOf ((l.drop E0).take (E4 - E0))).toList) = true := by rw [hse]; exact decide_eq_true (hck.2 p9)
    have HF2 := Lib.hid (HF1.out.2 p9)
    clear hse hck HF1 p9
    generalize strOf (leL (ext 0 (l.take E0))) = T1 at *
    generalize strOf ((l.drop E0).take (E4 - E0)) = T2 at *
    have hs2 : (!T1.toList == T2.toList) = false := by rw [hs1]; rfl
    rw [hs2]
    clear hs1 hs2
    go_wp2_with fail
    go_loopw [8] (fun t wr => ∃ i : Nat, E4 ≤ i ∧ i ≤ M ∧ t = .int .i64 (i : Int) ∧ (∀ j, E4 ≤ j → j < i → l.getD j 0 = 0) ∧ wr = w3) (fun t _ => M - (intOf t).toNat)
    case atStart => exact ⟨E4, Nat.le_refl _, by have := HMB.out; have := HE.out; omega, rfl, fun j h1 h2 => by omega, rfl⟩
    case round =>
      obtain ⟨i, hi1, hi2, rfl, hz, rfl⟩ := hrel
      by_cases hiM : i < M
      · have hin : i < n := by have := HNM.out; omega
        have hci := HC.out i (by rw [← hnE.out]; exact hin)
        have hci := (HB5.out.cell (p := ⟨b, o + i, none⟩) (block_lt_of_cell hci)).trans hci
        have i0 : (0 : Int) ≤ (i : Int) := by omega
        have i1 : (i : Int) < (n : Int) := by omega
        have iB : i ≤ 5000 := by have := HMB.out; omega
        have HZ := Lib.hid hz
        clear hz
        by_cases hzi : l.getD i 0 = 0
        · rw [hzi] at hci
          have HZI := Lib.hid hzi
          clear hzi
          go_wp2
          go_roundw
          case rel => exact ⟨i + 1, by omega, by omega, by go_num, fun j h1 h2 => by by_cases e : j < i; exact HZ.out j h1 e; rw [show j = i by omega]; exact HZI.out, by first | rfl | trivial⟩
          case measure => simp [intOf]; omega
        · have hbad : ¬ pdOk l := fun h => hzi (h i (by rw [← HM.out, ← HMM.out]; exact hiM) (by rw [← HM.out]; have := HE.out; omega))
          have HE3 := Lib.hid (HF2.out.1 hbad)
          have hne : (((l.getD i 0 : Nat) : Int) != 0) = true := by rw [bne_iff_ne]; omega
          clear hbad hzi
          generalize l.getD i 0 = y at *
          go_wp2
          refine dec_end (g := w.heap.size) rfl (set4 HBX3.out) ?_
          exact err_end (err := 3) HE3.out (by decide) (below4 HB5.out (Nat.le_refl _))
      · have HE0 := Lib.hid (HF2.out.2 (fun j h1 h2 => by
          rw [← HM.out, ← HMM.out] at h1
          rw [← HM.out] at h2
          exact hz j (by have := HE.out; omega) (by omega)))
        clear hz HF2 z0 z1 z2 z3 t0 t1 t2 t3
        go_wp2_with fail
        have SV8 := Lib.hid (fun W (hW : Below w.heap.size w W) => rvalue_any _ _ W (sl_below (sl_cut (w := w) (p := 8) (c := 8) HS.out.1 hnE.out.symm HCC.out.2 HCC.out.1 (by rw [hnE.out]; exact HC.out) (by have := HNM.out; have := HMB.out; omega)) hW) (by have := hnE.out; have := hsh; simp; omega) (by simp; omega))
        have SV4 := Lib.hid (fun W (hW : Below w.heap.size w W) => rvalue_any _ _ W (sl_below (sl_cut (w := w) (p := 4) (c := 4) HS.out.1 hnE.out.symm HCC.out.2 HCC.out.1 (by rw [hnE.out]; exact HC.out) (by have := HNM.out; have := HMB.out; omega)) hW) (by have := hnE.out; have := hsh; simp; omega) (by simp; omega))
        have SD := Lib.hid (fun W (hW : Below w.heap.size w W) => sl_below (sl_cut (w := w) (p := 20) (c := m) HS.out.1 hnE.out.symm HCC.out.2 HCC.out.1 (by rw [hnE.out]; exact HC.out) (by have := HNM.out; have := HMB.out; omega)) hW)
        rw [show m = E0 - 20 by have := HE.out.1; omega] at SD
        have C2 := Lib.hid (fun W (hW : Below w.heap.size w W) => (hW.cell (p := ⟨b, o + 2, none⟩) (block_lt_of_cell (HC.out 2 (by rw [← hnE.out]; omega)))).trans (HC.out 2 (by rw [← hnE.out]; omega)))
        rw [HY.out.2.2.1, P7.out] at C2
        have hx4 : valL ((l.drop 4).take 4) < 4294967296 := by
          have h1 := valL_lt _ (mem_seg HS.out.1 4 4)
          have h2 : ((l.drop 4).take 4).length ≤ 4 := by rw [List.length_take]; omega
          exact Nat.lt_of_lt_of_le h1 (by have := Nat.pow_le_pow_right (n := 256) (by decide) h2; simpa using this)
        have hx8 : valL ((l.drop 8).take 8) < 18446744073709551616 := by
          have h1 := valL_lt _ (mem_seg HS.out.1 8 8)
          have h2 : ((l.drop 8).take 8).length ≤ 8 := by rw [List.length_take]; omega
          exact Nat.lt_of_lt_of_le h1 (by have := Nat.pow_le_pow_right (n := 256) (by decide) h2; simpa using this)
        have HDX : Hid (decX l = ⟨valL ((l.drop 8).take 8), valL ((l.drop 4).take 4), decide (l.getD 2 0 = 1), (l.drop 20).take (E0 - 20)⟩ ∧ decN l = M) := by
          refine ⟨?_, ?_⟩
          · unfold decX
            rw [if_pos HE0.out, ← HM.out, show m = E0 - 20 by have := HE.out.1; omega]
          · unfold decN
            rw [if_pos HE0.out, ← HM.out, ← HMM.out]
        rw [HY.out.2.2.1, P7.out] at HDX
        have HLD : Hid (((l.drop 20).take (E0 - 20)).length ≤ 5000) := by show _ ≤ _; rw [List.length_take]; have := HE.out.1; omega
        have HX48 := Lib.hid (And.intro hx4 hx8)
        have HW4 : Hid (IntKind.u32.wrap ((valL ((l.drop 4).take 4) : Nat) : Int) = ((valL ((l.drop 4).take 4) : Nat) : Int)) := by
          show _ = _
          exact IntWalk.u32_in _ (by omega)
        have w1 : ¬ c = 8 := by omega
        have w2 : ¬ c = 4 := by omega
        have w3' : ¬ c = 20 := by have := HCC.out.1; have := HNM.out; have := HMB.out; omega
        have w4 : (8 : Int) ≤ (c : Int) ∧ (16 : Int) ≤ (c : Int) ∧ (4 : Int) ≤ (c : Int) ∧ (20 : Int) ≤ (E0 : Int) := by have := HE.out.1; omega
        have w5 : (2 : Int) < (n : Int) := by omega
        generalize valL ((l.drop 4).take 4) = X4 at *
        generalize valL ((l.drop 8).take 8) = X8 at *
        generalize (l.drop 20).take (E0 - 20) = DD at *
        clear hx4 hx8
        refine wp_onlyN ?_
        refine wp_region_headsS (fun w' => Below w.heap.size w w') [0, 1, 3, 4, 7, 8, 9, 10, 12, 13, 14, 17] 9 (by kernel_rfl) (fun _ _ _ _ _ h => h.elim) (by kernel_rfl) (by rfl) (by rfl) HB5.out.drew ?_
        simp only [pickOps, List.filterMap_cons, List.filterMap_nil, List.getElem?_toArray, List.getElem?_cons_zero, List.getElem?_cons_succ]
        refine wpHeads_step (fun K hK => ?_)
        go_simp
        refine ⟨_, fun _ _ => rfl, hK _ ?_⟩
        clear hK K
        refine wpHeads_step (fun K hK => ?_)
        go_simp
        refine ⟨_, fun _ _ => rfl, hK _ ?_⟩
        clear hK K
        refine wpHeads_step (fun K hK => ?_)
        go_simp
        refine ⟨_, fun _ _ => rfl, hK _ ?_⟩
        clear hK K
        refine wpHeads_step (fun K hK => ?_)
        go_simp
        refine ⟨_, fun _ _ => rfl, hK _ ?_⟩
        clear hK K
        refine wpHeads_step (fun K hK => ?_)
        go_simp
        refine ⟨_, fun _ _ => rfl, hK _ ?_⟩
        clear hK K
        refine wpHeads_step (fun K hK => ?_)
        go_simp
        refine ⟨_, fun _ _ => rfl, hK _ ?_⟩
        clear hK K
        refine wpHeads_step (fun K hK => ?_)
        go_simp
        refine ⟨.int .u8 0, fun w' hw' => by rw [C2.out w' hw']; rfl, hK _ ?_⟩
        clear hK K
        refine wpHeads_step (fun K hK => ?_)
        go_simp
        refine ⟨_, fun _ _ => rfl, hK _ ?_⟩
        clear hK K
        refine wpHeads_step (fun K hK => ?_)
        go_simp
        refine ⟨_, fun _ _ => rfl, hK _ ?_⟩
        clear hK K
        refine wpHeads_step (fun K hK => ?_)
        go_simp
        refine ⟨_, fun _ _ => rfl, hK _ ?_⟩
        clear hK K
        refine wpHeads_step (fun K hK => ?_)
        go_simp
        refine ⟨_, fun _ _ => rfl, hK _ ?_⟩
        clear hK K
        refine wpHeads_step (fun K hK => ?_)
        go_simp
        refine ⟨_, fun _ _ => rfl, hK _ ?_⟩
        clear hK K
        refine wpHeads_nil ?_
        have hbX := HB5.out.drew
        refine held_two 2 11 rfl rfl rfl rfl (by kernel_rfl) (fun K hK => ?_) (fun K hK => ?_)
        · go_simp
          go_at_call 50
          refine (SV8.out _ hbX).mono ?_
          rintro e Y ⟨rfl, rfl⟩
          refine hK _ _ hbX ?_
          clear hK K
          refine held_two 5 11 rfl rfl rfl rfl (by kernel_rfl) (fun K hK => ?_) (fun K hK => ?_)
          · go_simp
            go_at_call 50
            refine (SV4.out _ hbX).mono ?_
            rintro e Y ⟨rfl, rfl⟩
            refine hK _ _ hbX ?_
            clear hK K
            refine wpAnyH_take (i := 6) (v := .int .u32 (IntKind.u32.wrap (X4 : Int))) rfl (by kernel_rfl) (by kernel_rfl) (by kernel_rfl) (fun _ _ _ h => h) (Or.inl ⟨by rfl, fun w _ => by rfl⟩) hbX ?_
            refine held_one 11 rfl rfl (by kernel_rfl) fun K hK => ?_
            go_simp
            have hbY := (HB5.out.alloc HB5.out.size (.cells #[] 5)).drew
            have hoY := (own_empty wr (base := w.heap.size + 1) (by have := lt_of_some HBX3.out; exact this)).drew
            have hxY : (wr.alloc (.cells #[] 5)).drew.heap[w.heap.size]? = _ := (Below.heap_alloc wr _ _ (lt_of_some HBX3.out)).trans HBX3.out
            refine hK _ _ hbY ?_
            clear hK K
            generalize (wr.alloc (.cells #[] 5)).drew = Y1 at *
            refine held_one 15 rfl rfl (by kernel_rfl) fun K hK => ?_
            refine wp_app (l := []) (m := DD) rfl rfl hoY (SD.out _ hbY) (by have := HLD.out; simp; omega) (by have := lt_of_some hxY; omega) ?_
            intro v5 w5 ho5 hg5
            rw [List.nil_append] at ho5
            have hb5 := hbY.grown hg5 hbY.size fun q hq => by have := hoY.lt q hq; omega
            have hx5 := (hg5.block w.heap.size (lt_of_some hxY) fun e => by have := hoY.lt _ e.symm; omega).trans hxY
            refine hK _ _ hb5 ?_
            clear hK K
            obtain ⟨va, vn, vc, rfl, -⟩ := own_form ho5
            refine held_one 16 rfl rfl (by kernel_rfl) fun K hK => ?_
            go_simp
            rw [HW4.out]
            refine hK _ _ hb5 ?_
            clear hK K
            obtain ⟨t0, t1, t2, t3⟩ := bx_cell hx5
            have z0 := frozen_of_row w5 w.heap.size 0 _ _ hx5
            have z1 := frozen_of_row w5 w.heap.size 1 _ _ hx5
            have z2 := frozen_of_row w5 w.heap.size 2 _ _ hx5
            have z3 := frozen_of_row w5 w.heap.size 3 _ _ hx5
            refine held_one 18 rfl rfl (by kernel_rfl) fun K hK => ?_
            go_simp
            refine hK _ _ (below4 hb5 (Nat.le_refl _)) ?_
            clear hK K
            refine held_one 19 rfl rfl (by kernel_rfl) fun K hK => ?_
            go_simp
            refine hK _ _ (below4 hb5 (Nat.le_refl _)) ?_
            clear hK K
            refine held_one 20 rfl rfl (by kernel_rfl) fun K hK => ?_
            go_simp
            refine hK _ _ (below4 hb5 (Nat.le_refl _)) ?_
            clear hK K
            refine wpAnyH_done (by kernel_rfl) ?_ _
            unfold onlyN
            dsimp only
            go_wp2_with fail
            refine dec_end (g := w.heap.size) rfl (set4 hx5) ?_
            refine ⟨⟨_, by rw [HDX.out.2, HE0.out]; rfl, ?_⟩, below4 hb5 (Nat.le_refl _)⟩
            rw [HDX.out.1]
            exact ⟨_, rfl, HX48.out.2, HX48.out.1, own_weak (own4 ho5 (by omega)) (by omega)⟩
          · go_simp
            have hbY := (HB5.out.alloc HB5.out.size (.cells #[] 5)).drew
            have hoY := (own_empty wr (base := w.heap.size + 1) (by have := lt_of_some HBX3.out; exact this)).drew
            have hxY : (wr.alloc (.cells #[] 5)).drew.heap[w.heap.size]? = _ := (Below.heap_alloc wr _ _ (lt_of_some HBX3.out)).trans HBX3.out
            refine hK _ _ hbY ?_
            clear hK K
            generalize (wr.alloc (.cells #[] 5)).drew = Y1 at *
            refine held_one 5 rfl rfl (by kernel_rfl) fun K hK => ?_
            go_simp
            go_at_call 50
            refine (SV4.out _ hbY).mono ?_
            rintro e Y ⟨rfl, rfl⟩
            refine hK _ _ hbY ?_
            clear hK K
            refine wpAnyH_take (i := 6) (v := .int .u32 (IntKind.u32.wrap (X4 : Int))) rfl (by kernel_rfl) (by kernel_rfl) (by kernel_rfl) (fun _ _ _ h => h) (Or.inl ⟨by rfl, fun w _ => by rfl⟩) hbY ?_
            refine held_one 15 rfl rfl (by kernel_rfl) fun K hK => ?_
            refine wp_app (l := []) (m := DD) rfl rfl hoY (SD.out _ hbY) (by have := HLD.out; simp; omega) (by have := lt_of_some hxY; omega) ?_
            intro v5 w5 ho5 hg5
            rw [List.nil_append] at ho5
            have hb5 := hbY.grown hg5 hbY.size fun q hq => by have := hoY.lt q hq; omega
            have hx5 := (hg5.block w.heap.size (lt_of_some hxY) fun e => by have := hoY.lt _ e.symm; omega).trans hxY
            refine hK _ _ hb5 ?_
            clear hK K
            obtain ⟨va, vn, vc, rfl, -⟩ := own_form ho5
            refine held_one 16 rfl rfl (by kernel_rfl) fun K hK => ?_
            go_simp
            rw [HW4.out]
            refine hK _ _ hb5 ?_
            clear hK K
            obtain ⟨t0, t1, t2, t3⟩ := bx_cell hx5
            have z0 := frozen_of_row w5 w.heap.size 0 _ _ hx5
            have z1 := frozen_of_row w5 w.heap.size 1 _ _ hx5
            have z2 := frozen_of_row w5 w.heap.size 2 _ _ hx5
            have z3 := frozen_of_row w5 w.heap.size 3 _ _ hx5
            refine held_one 18 rfl rfl (by kernel_rfl) fun K hK => ?_
            go_simp
            refine hK _ _ (below4 hb5 (Nat.le_refl _)) ?_
            clear hK K
            refine held_one 19 rfl rfl (by kernel_rfl) fun K hK => ?_
            go_simp
            refine hK _ _ (below4 hb5 (Nat.le_refl _)) ?_
            clear hK K
            refine held_one 20 rfl rfl (by kernel_rfl) fun K hK => ?_
            go_simp
            refine hK _ _ (below4 hb5 (Nat.le_refl _)) ?_
            clear hK K
            refine wpAnyH_done (by kernel_rfl) ?_ _
            unfold onlyN
            dsimp only
            go_wp2_with fail
            refine dec_end (g := w.heap.size) rfl (set4 hx5) ?_
            refine ⟨⟨_, by rw [HDX.out.2, HE0.out]; rfl, ?_⟩, below4 hb5 (Nat.le_refl _)⟩
            rw [HDX.out.1]
            exact ⟨_, rfl, HX48.out.2, HX48.out.1, own_weak (own4 ho5 (by omega)) (by omega)⟩
        · go_simp
          have hbY := (HB5.out.alloc HB5.out.size (.cells #[] 5)).drew
          have hoY := (own_empty wr (base := w.heap.size + 1) (by have := lt_of_some HBX3.out; exact this)).drew
          have hxY : (wr.alloc (.cells #[] 5)).drew.heap[w.heap.size]? = _ := (Below.heap_alloc wr _ _ (lt_of_some HBX3.out)).trans HBX3.out
          refine hK _ _ hbY ?_
          clear hK K
          generalize (wr.alloc (.cells #[] 5)).drew = Y1 at *
          refine held_one 2 rfl rfl (by kernel_rfl) fun K hK => ?_
          go_simp
          go_at_call 50
          refine (SV8.out _ hbY).mono ?_
          rintro e Y ⟨rfl, rfl⟩
          refine hK _ _ hbY ?_
          clear hK K
          refine held_one 5 rfl rfl (by kernel_rfl) fun K hK => ?_
          go_simp
          go_at_call 50
          refine (SV4.out _ hbY).mono ?_
          rintro e Y ⟨rfl, rfl⟩
          refine hK _ _ hbY ?_
          clear hK K
          refine wpAnyH_take (i := 6) (v := .int .u32 (IntKind.u32.wrap (X4 : Int))) rfl (by kernel_rfl) (by kernel_rfl) (by kernel_rfl) (fun _ _ _ h => h) (Or.inl ⟨by rfl, fun w _ => by rfl⟩) hbY ?_
          refine held_one 15 rfl rfl (by kernel_rfl) fun K hK => ?_
          refine wp_app (l := []) (m := DD) rfl rfl hoY (SD.out _ hbY) (by have := HLD.out; simp; omega) (by have := lt_of_some hxY; omega) ?_
          intro v5 w5 ho5 hg5
          rw [List.nil_append] at ho5
          have hb5 := hbY.grown hg5 hbY.size fun q hq => by have := hoY.lt q hq; omega
          have hx5 := (hg5.block w.heap.size (lt_of_some hxY) fun e => by have := hoY.lt _ e.symm; omega).trans hxY
          refine hK _ _ hb5 ?_
          clear hK K
          obtain ⟨va, vn, vc, rfl, -⟩ := own_form ho5
          refine held_one 16 rfl rfl (by kernel_rfl) fun K hK => ?_
          go_simp
          rw [HW4.out]
          refine hK _ _ hb5 ?_
          clear hK K
          obtain ⟨t0, t1, t2, t3⟩ := bx_cell hx5
          have z0 := frozen_of_row w5 w.heap.size 0 _ _ hx5
          have z1 := frozen_of_row w5 w.heap.size 1 _ _ hx5
          have z2 := frozen_of_row w5 w.heap.size 2 _ _ hx5
          have z3 := frozen_of_row w5 w.heap.size 3 _ _ hx5
          refine held_one 18 rfl rfl (by kernel_rfl) fun K hK => ?_
          go_simp
          refine hK _ _ (below4 hb5 (Nat.le_refl _)) ?_
          clear hK K
          refine held_one 19 rfl rfl (by kernel_rfl) fun K hK => ?_
          go_simp
          refine hK _ _ (below4 hb5 (Nat.le_refl _)) ?_
          clear hK K
          refine held_one 20 rfl rfl (by kernel_rfl) fun K hK => ?_
          go_simp
          refine hK _ _ (below4 hb5 (Nat.le_refl _)) ?_
          clear hK K
          refine wpAnyH_done (by kernel_rfl) ?_ _
          unfold onlyN
          dsimp only
          go_wp2_with fail
          refine dec_end (g := w.heap.size) rfl (set4 hx5) ?_
          refine ⟨⟨_, by rw [HDX.out.2, HE0.out]; rfl, ?_⟩, below4 hb5 (Nat.le_refl _)⟩
          rw [HDX.out.1]
          exact ⟨_, rfl, HX48.out.2, HX48.out.1, own_weak (own4 ho5 (by omega)) (by omega)⟩
  · rw [p7] at q2
    have P7 := Lib.hid p7
    have hc5 : ¬ 0 < m := by omega
    clear p0 p1 p2 p3 p5 p7 p8
    by_cases p6 : n < M
    case pos =>
      have he := HF.out.1 p6
      rw [he, HX0.out (by rw [he]; decide), HN0.out (by rw [he]; decide)]
      have hc6 : decide ((n : Int) < (M : Int)) = true := decide_eq_true (by omega)
      have HEND := Lib.hid (short_end w 4)
      unfold ED at HEND
      clear he
      go_enter Tryd.func32, Tryd.ntmps32
      go_wp2_with fail
      refine HVAL.out.mono ?_
      rintro e w1 ⟨rfl, rfl⟩
      go_wp2_with (go_at_call 35; refine (RZ.out _).mono ?_; rintro e w1 ⟨rfl, rfl⟩)
      refine dec_end (g := w.heap.size) rfl (heap_alloc_new w _) ?_
      exact HEND.out
    have hc6 : decide ((n : Int) < (M : Int)) = false := decide_eq_false (by omega)
    have HNM := Lib.hid p6
    go_enter Tryd.func32, Tryd.ntmps32
    go_wp2_with fail
    refine HVAL.out.mono ?_
    rintro e w1 ⟨rfl, rfl⟩
    go_wp2_with (go_at_call 35; refine (RZ.out _).mono ?_; rintro e w1 ⟨rfl, rfl⟩)
    have hbox := heap_alloc_new w (.cells #[.int .u64 0, .int .u32 0, .bool false, .slice none 0 0] 56)
    clear q0 q1 q2 q3 HEND HVAL
    have HBX := Lib.hid hbox
    clear hbox
    generalize w.alloc (.cells #[.int .u64 0, .int .u32 0, .bool false, .slice none 0 0] 56) = W0 at *
    obtain ⟨E0, hE0⟩ : ∃ E0, E0 = 20 + m := ⟨_, rfl⟩
    obtain ⟨E4, hE4⟩ : ∃ E4, E4 = E0 + 4 := ⟨_, rfl⟩
    rw [show (20 : Int) + (m : Int) = (E0 : Int) by omega]
    have r1 : (E0 : Int) ≤ (c : Int) := by have := HMB.out; have := HCC.out.1; omega
    have r2 : IntKind.i64.wrap ((E0 : Int) + 4) = (E4 : Int) := by
      rw [hE4, Int.natCast_add]
      exact IntWalk.i64_in _ (by omega)
    have r3 : (E0 : Int) ≤ (E4 : Int) ∧ (E4 : Int) ≤ (c : Int) := by have := HMB.out; have := HCC.out.1; omega
    have r4 : ¬ c = E0 := by have := HMB.out; have := HCC.out.1; omega
    have SA := Lib.hid (sl_below (sl_cut (w := w) (p := 0) (c := E0) HS.out.1 hnE.out.symm HCC.out.2 HCC.out.1 (by rw [hnE.out]; exact HC.out) (by have := HMB.out; have := HCC.out.1; omega)) HB0.out)
    rw [Nat.add_zero, Nat.sub_zero, List.drop_zero] at SA
    have SB := Lib.hid (sl_below (sl_cut (w := w) (p := E0) (c := 4) HS.out.1 hnE.out.symm HCC.out.2 HCC.out.1 (by rw [hnE.out]; exact HC.out) (by have := HMB.out; have := HCC.out.1; omega)) HB0.out)
    rw [show (4 : Nat) = E4 - E0 by omega] at SB
    have HE := Lib.hid (And.intro hE0 hE4)
    clear hE0 hE4 p6
    refine wp_onlyN ?_
    refine wp_region_headsS (fun w' => Below W0.heap.size W0 w') [0, 1, 2, 5, 6, 7, 8, 9, 10] 3 (by kernel_rfl) (fun _ _ _ _ _ h => h.elim) (by kernel_rfl) (by rfl) (by rfl) (Below.refl _ _).drew ?_
    simp only [pickOps, List.filterMap_cons, List.filterMap_nil, List.getElem?_toArray, List.getElem?_cons_zero, List.getElem?_cons_succ]
    refine wpHeads_step (fun K hK => ?_)
    go_simp
    refine ⟨_, fun _ _ => rfl, hK _ ?_⟩
    clear hK K
    refine wpHeads_step (fun K hK => ?_)
    go_simp
    refine ⟨_, fun _ _ => rfl, hK _ ?_⟩
    clear hK K
    refine wpHeads_step (fun K hK => ?_)
    go_simp
    refine ⟨_, fun _ _ => rfl, hK _ ?_⟩
    clear hK K
    refine wpHeads_step (fun K hK => ?_)
    go_simp
    refine ⟨_, fun _ _ => rfl, hK _ ?_⟩
    clear hK K
    refine wpHeads_step (fun K hK => ?_)
    go_simp
    refine ⟨_, fun _ _ => rfl, hK _ ?_⟩
    clear hK K
    refine wpHeads_step (fun K hK => ?_)
    go_simp
    refine ⟨_, fun _ _ => rfl, hK _ ?_⟩
    clear hK K
    refine wpHeads_step (fun K hK => ?_)
    go_simp
    refine ⟨_, fun _ _ => rfl, hK _ ?_⟩
    clear hK K
    refine wpHeads_step (fun K hK => ?_)
    go_simp
    refine ⟨_, fun _ _ => rfl, hK _ ?_⟩
    clear hK K
    refine wpHeads_step (fun K hK => ?_)
    go_simp
    refine ⟨.string (strOf ((l.drop E0).take (E4 - E0))), fun w' hw' => by rw [conv_sl (sl_below SB.out hw')]; rfl, hK _ ?_⟩
    clear hK K
    refine wpHeads_nil ?_
    refine held_one 3 rfl rfl (by kernel_rfl) fun K hK => ?_
    go_simp
    go_at_call 46
    refine (check_any _ _ _ (sl_drew SA.out)).mono ?_
    rintro e w3 ⟨⟨s3, rfl, ho3⟩, hb3⟩
    have hb4 : Below W0.heap.size W0 w3 := (Below.refl W0.heap.size W0).drew.trans (hb3.mono (Nat.le_refl _))
    refine hK _ _ hb4 ?_
    clear hK K hb3
    obtain ⟨aa, na, ca, rfl, -⟩ := own_form ho3
    have u1 := conv_sl ho3.sl
    refine held_one 4 rfl rfl (by kernel_rfl) fun K hK => ?_
    go_simp
    refine hK _ _ hb4 ?_
    clear hK K
    refine held_one 11 rfl rfl (by kernel_rfl) fun K hK => ?_
    go_simp
    refine hK _ _ hb4 ?_
    clear hK K
    refine wpAnyH_done (by kernel_rfl) ?_ _
    unfold onlyN
    dsimp only
    have hse := str_eq ho3.sl.1 SB.out.1
    have hck : (leL (ext 0 (l.take E0)) = (l.drop E0).take (E4 - E0)) ↔ ckOk l := by
      unfold ckOk
      rw [← HM.out, ← HE.out.1, show E4 - E0 = 4 by have := HE.out.2; omega]
    have hb5 := bt HB0.out hb4
    have hbx3 := (hb4.block _ (lt_of_some HBX.out)).trans HBX.out
    obtain ⟨t0, t1, t2, t3⟩ := bx_cell hbx3
    have z0 := frozen_of_row w3 w.heap.size 0 _ _ hbx3
    have z1 := frozen_of_row w3 w.heap.size 1 _ _ hbx3
    have z2 := frozen_of_row w3 w.heap.size 2 _ _ hbx3
    have z3 := frozen_of_row w3 w.heap.size 3 _ _ hbx3
    have HB5 := Lib.hid hb5
    have HBX3 := Lib.hid hbx3
    have HF1 := Lib.hid (HF.out.2 HNM.out)
    clear hb4 hb5 hbx3 ho3 u1 RZ HF
    by_cases p9 : ckOk l
    case neg =>
      have hs1 : ((strOf (leL (ext 0 (l.take E0)))).toList == (strOf ((l.drop E0).take (E4 - E0))).toList) = false := by rw [hse]; exact decide_eq_false fun h => p9 (hck.1 h)
      have HE5 := Lib.hid (HF1.out.1 p9)
      clear hse hck p9 HF1
      generalize strOf (leL (ext 0 (l.take E0))) = T1 at *
      generalize strOf ((l.drop E0).take (E4 - E0)) = T2 at *
      have hs2 : (!T1.toList == T2.toList) = true := by rw [hs1]; rfl
      rw [hs2]
      clear hs1 hs2
      go_wp2
      refine dec_end (g := w.heap.size) rfl (set4 HBX3.out) ?_
      exact err_end (err := 5) HE5.out (by decide) (below4 HB5.out (Nat.le_refl _))
    have hs1 : ((strOf (leL (ext 0 (l.take E0)))).toList == (strOf ((l.drop E0).take (E4 - E0))).toList) = true := by rw [hse]; exact decide_eq_true (hck.2 p9)
    have HF2 := Lib.hid (HF1.out.2 p9)
    clear hse hck HF1 p9
    generalize strOf (leL (ext 0 (l.take E0))) = T1 at *
    generalize strOf ((l.drop E0).take (E4 - E0)) = T2 at *
    have hs2 : (!T1.toList == T2.toList) = false := by rw [hs1]; rfl
    rw [hs2]
    clear hs1 hs2
    go_wp2_with fail
    go_loopw [8] (fun t wr => ∃ i : Nat, E4 ≤ i ∧ i ≤ M ∧ t = .int .i64 (i : Int) ∧ (∀ j, E4 ≤ j → j < i → l.getD j 0 = 0) ∧ wr = w3) (fun t _ => M - (intOf t).toNat)
    case atStart => exact ⟨E4, Nat.le_refl _, by have := HMB.out; have := HE.out; omega, rfl, fun j h1 h2 => by omega, rfl⟩
    case round =>
      obtain ⟨i, hi1, hi2, rfl, hz, rfl⟩ := hrel
      by_cases hiM : i < M
      · have hin : i < n := by have := HNM.out; omega
        have hci := HC.out i (by rw [← hnE.out]; exact hin)
        have hci := (HB5.out.cell (p := ⟨b, o + i, none⟩) (block_lt_of_cell hci)).trans hci
        have i0 : (0 : Int) ≤ (i : Int) := by omega
        have i1 : (i : Int) < (n : Int) := by omega
        have iB : i ≤ 5000 := by have := HMB.out; omega
        have HZ := Lib.hid hz
        clear hz
        by_cases hzi : l.getD i 0 = 0
        · rw [hzi] at hci
          have HZI := Lib.hid hzi
          clear hzi
          go_wp2
          go_roundw
          case rel => exact ⟨i + 1, by omega, by omega, by go_num, fun j h1 h2 => by by_cases e : j < i; exact HZ.out j h1 e; rw [show j = i by omega]; exact HZI.out, by first | rfl | trivial⟩
          case measure => simp [intOf]; omega
        · have hbad : ¬ pdOk l := fun h => hzi (h i (by rw [← HM.out, ← HMM.out]; exact hiM) (by rw [← HM.out]; have := HE.out; omega))
          have HE3 := Lib.hid (HF2.out.1 hbad)
          have hne : (((l.getD i 0 : Nat) : Int) != 0) = true := by rw [bne_iff_ne]; omega
          clear hbad hzi
          generalize l.getD i 0 = y at *
          go_wp2
          refine dec_end (g := w.heap.size) rfl (set4 HBX3.out) ?_
          exact err_end (err := 3) HE3.out (by decide) (below4 HB5.out (Nat.le_refl _))
      · have HE0 := Lib.hid (HF2.out.2 (fun j h1 h2 => by
          rw [← HM.out, ← HMM.out] at h1
          rw [← HM.out] at h2
          exact hz j (by have := HE.out; omega) (by omega)))
        clear hz HF2 z0 z1 z2 z3 t0 t1 t2 t3
        go_wp2_with fail
        have SV8 := Lib.hid (fun W (hW : Below w.heap.size w W) => rvalue_any _ _ W (sl_below (sl_cut (w := w) (p := 8) (c := 8) HS.out.1 hnE.out.symm HCC.out.2 HCC.out.1 (by rw [hnE.out]; exact HC.out) (by have := HNM.out; have := HMB.out; omega)) hW) (by have := hnE.out; have := hsh; simp; omega) (by simp; omega))
        have SV4 := Lib.hid (fun W (hW : Below w.heap.size w W) => rvalue_any _ _ W (sl_below (sl_cut (w := w) (p := 4) (c := 4) HS.out.1 hnE.out.symm HCC.out.2 HCC.out.1 (by rw [hnE.out]; exact HC.out) (by have := HNM.out; have := HMB.out; omega)) hW) (by have := hnE.out; have := hsh; simp; omega) (by simp; omega))
        have SD := Lib.hid (fun W (hW : Below w.heap.size w W) => sl_below (sl_cut (w := w) (p := 20) (c := m) HS.out.1 hnE.out.symm HCC.out.2 HCC.out.1 (by rw [hnE.out]; exact HC.out) (by have := HNM.out; have := HMB.out; omega)) hW)
        rw [show m = E0 - 20 by have := HE.out.1; omega] at SD
        have C2 := Lib.hid (fun W (hW : Below w.heap.size w W) => (hW.cell (p := ⟨b, o + 2, none⟩) (block_lt_of_cell (HC.out 2 (by rw [← hnE.out]; omega)))).trans (HC.out 2 (by rw [← hnE.out]; omega)))
        rw [HY.out.2.2.1, P7.out] at C2
        have hx4 : valL ((l.drop 4).take 4) < 4294967296 := by
          have h1 := valL_lt _ (mem_seg HS.out.1 4 4)
          have h2 : ((l.drop 4).take 4).length ≤ 4 := by rw [List.length_take]; omega
          exact Nat.lt_of_lt_of_le h1 (by have := Nat.pow_le_pow_right (n := 256) (by decide) h2; simpa using this)
        have hx8 : valL ((l.drop 8).take 8) < 18446744073709551616 := by
          have h1 := valL_lt _ (mem_seg HS.out.1 8 8)
          have h2 : ((l.drop 8).take 8).length ≤ 8 := by rw [List.length_take]; omega
          exact Nat.lt_of_lt_of_le h1 (by have := Nat.pow_le_pow_right (n := 256) (by decide) h2; simpa using this)
        have HDX : Hid (decX l = ⟨valL ((l.drop 8).take 8), valL ((l.drop 4).take 4), decide (l.getD 2 0 = 1), (l.drop 20).take (E0 - 20)⟩ ∧ decN l = M) := by
          refine ⟨?_, ?_⟩
          · unfold decX
            rw [if_pos HE0.out, ← HM.out, show m = E0 - 20 by have := HE.out.1; omega]
          · unfold decN
            rw [if_pos HE0.out, ← HM.out, ← HMM.out]
        rw [HY.out.2.2.1, P7.out] at HDX
        have HLD : Hid (((l.drop 20).take (E0 - 20)).length ≤ 5000) := by show _ ≤ _; rw [List.length_take]; have := HE.out.1; omega
        have HX48 := Lib.hid (And.intro hx4 hx8)
        have HW4 : Hid (IntKind.u32.wrap ((valL ((l.drop 4).take 4) : Nat) : Int) = ((valL ((l.drop 4).take 4) : Nat) : Int)) := by
          show _ = _
          exact IntWalk.u32_in _ (by omega)
        have w1 : ¬ c = 8 := by omega
        have w2 : ¬ c = 4 := by omega
        have w3' : ¬ c = 20 := by have := HCC.out.1; have := HNM.out; have := HMB.out; omega
        have w4 : (8 : Int) ≤ (c : Int) ∧ (16 : Int) ≤ (c : Int) ∧ (4 : Int) ≤ (c : Int) ∧ (20 : Int) ≤ (E0 : Int) := by have := HE.out.1; omega
        have w5 : (2 : Int) < (n : Int) := by omega
        generalize valL ((l.drop 4).take 4) = X4 at *
        generalize valL ((l.drop 8).take 8) = X8 at *
        generalize (l.drop 20).take (E0 - 20) = DD at *
        clear hx4 hx8
        refine wp_onlyN ?_
        refine wp_region_headsS (fun w' => Below w.heap.size w w') [0, 1, 3, 4, 7, 8, 9, 10, 12, 13, 14, 17] 9 (by kernel_rfl) (fun _ _ _ _ _ h => h.elim) (by kernel_rfl) (by rfl) (by rfl) HB5.out.drew ?_
        simp only [pickOps, List.filterMap_cons, List.filterMap_nil, List.getElem?_toArray, List.getElem?_cons_zero, List.getElem?_cons_succ]
        refine wpHeads_step (fun K hK => ?_)
        go_simp
        refine ⟨_, fun _ _ => rfl, hK _ ?_⟩
        clear hK K
        refine wpHeads_step (fun K hK => ?_)
        go_simp
        refine ⟨_, fun _ _ => rfl, hK _ ?_⟩
        clear hK K
        refine wpHeads_step (fun K hK => ?_)
        go_simp
        refine ⟨_, fun _ _ => rfl, hK _ ?_⟩
        clear hK K
        refine wpHeads_step (fun K hK => ?_)
        go_simp
        refine ⟨_, fun _ _ => rfl, hK _ ?_⟩
        clear hK K
        refine wpHeads_step (fun K hK => ?_)
        go_simp
        refine ⟨_, fun _ _ => rfl, hK _ ?_⟩
        clear hK K
        refine wpHeads_step (fun K hK => ?_)
        go_simp
        refine ⟨_, fun _ _ => rfl, hK _ ?_⟩
        clear hK K
        refine wpHeads_step (fun K hK => ?_)
        go_simp
        refine ⟨.int .u8 1, fun w' hw' => by rw [C2.out w' hw']; rfl, hK _ ?_⟩
        clear hK K
        refine wpHeads_step (fun K hK => ?_)
        go_simp
        refine ⟨_, fun _ _ => rfl, hK _ ?_⟩
        clear hK K
        refine wpHeads_step (fun K hK => ?_)
        go_simp
        refine ⟨_, fun _ _ => rfl, hK _ ?_⟩
        clear hK K
        refine wpHeads_step (fun K hK => ?_)
        go_simp
        refine ⟨_, fun _ _ => rfl, hK _ ?_⟩
        clear hK K
        refine wpHeads_step (fun K hK => ?_)
        go_simp
        refine ⟨_, fun _ _ => rfl, hK _ ?_⟩
        clear hK K
        refine wpHeads_step (fun K hK => ?_)
        go_simp
        refine ⟨_, fun _ _ => rfl, hK _ ?_⟩
        clear hK K
        refine wpHeads_nil ?_
        have hbX := HB5.out.drew
        refine held_two 2 11 rfl rfl rfl rfl (by kernel_rfl) (fun K hK => ?_) (fun K hK => ?_)
        · go_simp
          go_at_call 50
          refine (SV8.out _ hbX).mono ?_
          rintro e Y ⟨rfl, rfl⟩
          refine hK _ _ hbX ?_
          clear hK K
          refine held_two 5 11 rfl rfl rfl rfl (by kernel_rfl) (fun K hK => ?_) (fun K hK => ?_)
          · go_simp
            go_at_call 50
            refine (SV4.out _ hbX).mono ?_
            rintro e Y ⟨rfl, rfl⟩
            refine hK _ _ hbX ?_
            clear hK K
            refine wpAnyH_take (i := 6) (v := .int .u32 (IntKind.u32.wrap (X4 : Int))) rfl (by kernel_rfl) (by kernel_rfl) (by kernel_rfl) (fun _ _ _ h => h) (Or.inl ⟨by rfl, fun w _ => by rfl⟩) hbX ?_
            refine held_one 11 rfl rfl (by kernel_rfl) fun K hK => ?_
            go_simp
            have hbY := (HB5.out.alloc HB5.out.size (.cells #[] 5)).drew
            have hoY := (own_empty wr (base := w.heap.size + 1) (by have := lt_of_some HBX3.out; exact this)).drew
            have hxY : (wr.alloc (.cells #[] 5)).drew.heap[w.heap.size]? = _ := (Below.heap_alloc wr _ _ (lt_of_some HBX3.out)).trans HBX3.out
            refine hK _ _ hbY ?_
            clear hK K
            generalize (wr.alloc (.cells #[] 5)).drew = Y1 at *
            refine held_one 15 rfl rfl (by kernel_rfl) fun K hK => ?_
            refine wp_app (l := []) (m := DD) rfl rfl hoY (SD.out _ hbY) (by have := HLD.out; simp; omega) (by have := lt_of_some hxY; omega) ?_
            intro v5 w5 ho5 hg5
            rw [List.nil_append] at ho5
            have hb5 := hbY.grown hg5 hbY.size fun q hq => by have := hoY.lt q hq; omega
            have hx5 := (hg5.block w.heap.size (lt_of_some hxY) fun e => by have := hoY.lt _ e.symm; omega).trans hxY
            refine hK _ _ hb5 ?_
            clear hK K
            obtain ⟨va, vn, vc, rfl, -⟩ := own_form ho5
            refine held_one 16 rfl rfl (by kernel_rfl) fun K hK => ?_
            go_simp
            rw [HW4.out]
            refine hK _ _ hb5 ?_
            clear hK K
            obtain ⟨t0, t1, t2, t3⟩ := bx_cell hx5
            have z0 := frozen_of_row w5 w.heap.size 0 _ _ hx5
            have z1 := frozen_of_row w5 w.heap.size 1 _ _ hx5
            have z2 := frozen_of_row w5 w.heap.size 2 _ _ hx5
            have z3 := frozen_of_row w5 w.heap.size 3 _ _ hx5
            refine held_one 18 rfl rfl (by kernel_rfl) fun K hK => ?_
            go_simp
            refine hK _ _ (below4 hb5 (Nat.le_refl _)) ?_
            clear hK K
            refine held_one 19 rfl rfl (by kernel_rfl) fun K hK => ?_
            go_simp
            refine hK _ _ (below4 hb5 (Nat.le_refl _)) ?_
            clear hK K
            refine held_one 20 rfl rfl (by kernel_rfl) fun K hK => ?_
            go_simp
            refine hK _ _ (below4 hb5 (Nat.le_refl _)) ?_
            clear hK K
            refine wpAnyH_done (by kernel_rfl) ?_ _
            unfold onlyN
            dsimp only
            go_wp2_with fail
            refine dec_end (g := w.heap.size) rfl (set4 hx5) ?_
            refine ⟨⟨_, by rw [HDX.out.2, HE0.out]; rfl, ?_⟩, below4 hb5 (Nat.le_refl _)⟩
            rw [HDX.out.1]
            exact ⟨_, rfl, HX48.out.2, HX48.out.1, own_weak (own4 ho5 (by omega)) (by omega)⟩
          · go_simp
            have hbY := (HB5.out.alloc HB5.out.size (.cells #[] 5)).drew
            have hoY := (own_empty wr (base := w.heap.size + 1) (by have := lt_of_some HBX3.out; exact this)).drew
            have hxY : (wr.alloc (.cells #[] 5)).drew.heap[w.heap.size]? = _ := (Below.heap_alloc wr _ _ (lt_of_some HBX3.out)).trans HBX3.out
            refine hK _ _ hbY ?_
            clear hK K
            generalize (wr.alloc (.cells #[] 5)).drew = Y1 at *
            refine held_one 5 rfl rfl (by kernel_rfl) fun K hK => ?_
            go_simp
            go_at_call 50
            refine (SV4.out _ hbY).mono ?_
            rintro e Y ⟨rfl, rfl⟩
            refine hK _ _ hbY ?_
            clear hK K
            refine wpAnyH_take (i := 6) (v := .int .u32 (IntKind.u32.wrap (X4 : Int))) rfl (by kernel_rfl) (by kernel_rfl) (by kernel_rfl) (fun _ _ _ h => h) (Or.inl ⟨by rfl, fun w _ => by rfl⟩) hbY ?_
            refine held_one 15 rfl rfl (by kernel_rfl) fun K hK => ?_
            refine wp_app (l := []) (m := DD) rfl rfl hoY (SD.out _ hbY) (by have := HLD.out; simp; omega) (by have := lt_of_some hxY; omega) ?_
            intro v5 w5 ho5 hg5
            rw [List.nil_append] at ho5
            have hb5 := hbY.grown hg5 hbY.size fun q hq => by have := hoY.lt q hq; omega
            have hx5 := (hg5.block w.heap.size (lt_of_some hxY) fun e => by have := hoY.lt _ e.symm; omega).trans hxY
            refine hK _ _ hb5 ?_
            clear hK K
            obtain ⟨va, vn, vc, rfl, -⟩ := own_form ho5
            refine held_one 16 rfl rfl (by kernel_rfl) fun K hK => ?_
            go_simp
            rw [HW4.out]
            refine hK _ _ hb5 ?_
            clear hK K
            obtain ⟨t0, t1, t2, t3⟩ := bx_cell hx5
            have z0 := frozen_of_row w5 w.heap.size 0 _ _ hx5
            have z1 := frozen_of_row w5 w.heap.size 1 _ _ hx5
            have z2 := frozen_of_row w5 w.heap.size 2 _ _ hx5
            have z3 := frozen_of_row w5 w.heap.size 3 _ _ hx5
            refine held_one 18 rfl rfl (by kernel_rfl) fun K hK => ?_
            go_simp
            refine hK _ _ (below4 hb5 (Nat.le_refl _)) ?_
            clear hK K
            refine held_one 19 rfl rfl (by kernel_rfl) fun K hK => ?_
            go_simp
            refine hK _ _ (below4 hb5 (Nat.le_refl _)) ?_
            clear hK K
            refine held_one 20 rfl rfl (by kernel_rfl) fun K hK => ?_
            go_simp
            refine hK _ _ (below4 hb5 (Nat.le_refl _)) ?_
            clear hK K
            refine wpAnyH_done (by kernel_rfl) ?_ _
            unfold onlyN
            dsimp only
            go_wp2_with fail
            refine dec_end (g := w.heap.size) rfl (set4 hx5) ?_
            refine ⟨⟨_, by rw [HDX.out.2, HE0.out]; rfl, ?_⟩, below4 hb5 (Nat.le_refl _)⟩
            rw [HDX.out.1]
            exact ⟨_, rfl, HX48.out.2, HX48.out.1, own_weak (own4 ho5 (by omega)) (by omega)⟩
        · go_simp
          have hbY := (HB5.out.alloc HB5.out.size (.cells #[] 5)).drew
          have hoY := (own_empty wr (base := w.heap.size + 1) (by have := lt_of_some HBX3.out; exact this)).drew
          have hxY : (wr.alloc (.cells #[] 5)).drew.heap[w.heap.size]? = _ := (Below.heap_alloc wr _ _ (lt_of_some HBX3.out)).trans HBX3.out
          refine hK _ _ hbY ?_
          clear hK K
          generalize (wr.alloc (.cells #[] 5)).drew = Y1 at *
          refine held_one 2 rfl rfl (by kernel_rfl) fun K hK => ?_
          go_simp
          go_at_call 50
          refine (SV8.out _ hbY).mono ?_
          rintro e Y ⟨rfl, rfl⟩
          refine hK _ _ hbY ?_
          clear hK K
          refine held_one 5 rfl rfl (by kernel_rfl) fun K hK => ?_
          go_simp
          go_at_call 50
          refine (SV4.out _ hbY).mono ?_
          rintro e Y ⟨rfl, rfl⟩
          refine hK _ _ hbY ?_
          clear hK K
          refine wpAnyH_take (i := 6) (v := .int .u32 (IntKind.u32.wrap (X4 : Int))) rfl (by kernel_rfl) (by kernel_rfl) (by kernel_rfl) (fun _ _ _ h => h) (Or.inl ⟨by rfl, fun w _ => by rfl⟩) hbY ?_
          refine held_one 15 rfl rfl (by kernel_rfl) fun K hK => ?_
          refine wp_app (l := []) (m := DD) rfl rfl hoY (SD.out _ hbY) (by have := HLD.out; simp; omega) (by have := lt_of_some hxY; omega) ?_
          intro v5 w5 ho5 hg5
          rw [List.nil_append] at ho5
          have hb5 := hbY.grown hg5 hbY.size fun q hq => by have := hoY.lt q hq; omega
          have hx5 := (hg5.block w.heap.size (lt_of_some hxY) fun e => by have := hoY.lt _ e.symm; omega).trans hxY
          refine hK _ _ hb5 ?_
          clear hK K
          obtain ⟨va, vn, vc, rfl, -⟩ := own_form ho5
          refine held_one 16 rfl rfl (by kernel_rfl) fun K hK => ?_
          go_simp
          rw [HW4.out]
          refine hK _ _ hb5 ?_
          clear hK K
          obtain ⟨t0, t1, t2, t3⟩ := bx_cell hx5
          have z0 := frozen_of_row w5 w.heap.size 0 _ _ hx5
          have z1 := frozen_of_row w5 w.heap.size 1 _ _ hx5
          have z2 := frozen_of_row w5 w.heap.size 2 _ _ hx5
          have z3 := frozen_of_row w5 w.heap.size 3 _ _ hx5
          refine held_one 18 rfl rfl (by kernel_rfl) fun K hK => ?_
          go_simp
          refine hK _ _ (below4 hb5 (Nat.le_refl _)) ?_
          clear hK K
          refine held_one 19 rfl rfl (by kernel_rfl) fun K hK => ?_
          go_simp
          refine hK _ _ (below4 hb5 (Nat.le_refl _)) ?_
          clear hK K
          refine held_one 20 rfl rfl (by kernel_rfl) fun K hK => ?_
          go_simp
          refine hK _ _ (below4 hb5 (Nat.le_refl _)) ?_
          clear hK K
          refine wpAnyH_done (by kernel_rfl) ?_ _
          unfold onlyN
          dsimp only
          go_wp2_with fail
          refine dec_end (g := w.heap.size) rfl (set4 hx5) ?_
          refine ⟨⟨_, by rw [HDX.out.2, HE0.out]; rfl, ?_⟩, below4 hb5 (Nat.le_refl _)⟩
          rw [HDX.out.1]
          exact ⟨_, rfl, HX48.out.2, HX48.out.1, own_weak (own4 ho5 (by omega)) (by omega)⟩
end Go.Proofs.YtlnccofanicihaaDoor.Gf
