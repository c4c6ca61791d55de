/- What is proved here: the reference's Open. No condition. -/
import Derived.Test.YtlnccofanicihaaDoorR9d
namespace Go.Proofs.YtlnccofanicihaaDoor.Gf
open Go Go.Joins Go.ChangeShapes Go.WideShapes Go.ChangeAt Go.RowKit Go.Deep Go.Proofs.YtlnccofanicihaaDoor.By Go.Proofs.YtlnccofanicihaaDoor.Crc Go.Proofs.YtlnccofanicihaaDoor.Qt

theorem results_rttt {P : Program} {fn : Func} {p q r s : Tmp} {S : TypeId} (h : fn.results = #[.cell p S, .tmp q, .tmp r, .tmp s]) (tmps : Array Value) (w : World) (g : Nat) (cs : Array Value) {d : TypeDesc}
    (hp : tmps.getD p undef = .pointer (some ⟨g, 0, none⟩)) (hg : w.heap[g]? = some (.cells cs S (0, 0)))
    (hu : P.underlying S = some d) (hd : (match d with | .struct _ | .array _ _ => true | _ => false) = true) (hi : (P.info? S).map (·.size) = some cs.size) :
    (results fn tmps).run P w = .ok (.tuple #[.agg cs, tmps.getD q undef, tmps.getD r undef, tmps.getD s undef]) w := by
  have hp' : tmps[p]?.getD undef = .pointer (some ⟨g, 0, none⟩) := by simpa using hp
  simp [results, h, hp', asAddr, run_loadVar_row w g S S cs (0, 0) d hg hu hd hi]
theorem opn_end {R : Ending → World → Prop} {W : World} {g : Nat} {tmps : Array Value} {k c d : Value} (hp : tmps.getD 2 undef = .pointer (some ⟨g, 0, none⟩)) (hg : W.heap[g]? = some (.cells #[k, c, d] 30 (0, 0)))
    (hR : R (.returned (.tuple #[.agg #[k, c, d], tmps.getD 3 undef, tmps.getD 4 undef, tmps.getD 5 undef])) W) : bodyPost Tryd.prog Tryd.f13 R .ret { tmps := tmps, defers := [] } W :=
  bodyPost_ret (results_rttt rfl _ _ g #[k, c, d] hp hg Tryd.underlying30 rfl info7) rfl hR
/-- What Open finds: the records and the end. -/
noncomputable def opL (l : List Nat) : List Rc × Nat := if dE7 l = 0 then recs l 16 else ([], 0)
/-- A call that opens a file. -/
def OO (T : TypeId) (w : World) (l : List Nat) (e : Ending) (w' : World) : Prop := (∃ v, e = .returned (.tuple #[dX7 l, v, .int .i64 (((opL l).2 : Nat) : Int), .int .i64 ((dE7 l : Nat) : Int)]) ∧ OwR T 0 w' w.heap.size v (opL l).1) ∧ Below w.heap.size w w'
set_option maxRecDepth 100000 in
set_option maxHeartbeats 6400000 in
theorem ropen_any (v : Value) (l : List Nat) (w : World) (s : Sl w v l) (hlen : l.length ≤ 100000000) : Calls Tryd.prog 13 #[v] w (OO 77 w l) := by
  have HLEN := Lib.hid hlen
  have S := Lib.hid s
  obtain ⟨al, cl, rfl, -, -⟩ := sl_form s
  generalize l.length = n at S
  clear s hlen
  have HB0 := Lib.hid ((Below.refl w.heap.size w).alloc (Nat.le_refl _) (.cells #[.int .i64 0, .int .i64 0, .int .i64 0] 30))
  have HG0 := Lib.hid (heap_alloc_new w (.cells #[.int .i64 0, .int .i64 0, .int .i64 0] 30))
  go_enter Tryd.func13, Tryd.ntmps13
  go_wp2_with fail
  refine (rdecode7_any _ l _ (sl_below S.out HB0.out)).mono ?_
  rintro e w1 ⟨rfl, hb1⟩
  have hG : w1.heap[w.heap.size]? = some (.cells #[.int .i64 0, .int .i64 0, .int .i64 0] 30 (0, 0)) := (hb1.block _ (by simp)).trans HG0.out
  have B1 := Lib.hid (bt HB0.out hb1)
  have HG := Lib.hid hG
  clear hb1 hG HG0 HB0
  by_cases he : dE7 l = 0
  · have H16 : Hid (16 ≤ l.length) := Lib.hid (by have := (d7_of he).1; omega)
    have HOP : Hid (opL l = recs l 16) := Lib.hid (by unfold opL; rw [if_pos he])
    have HE := Lib.hid he
    obtain ⟨a, b, c, hx⟩ : ∃ a b c : Int, dX7 l = .agg #[.int .i64 a, .int .i64 b, .int .i64 c] := by unfold dX7; rw [if_pos he]; exact ⟨_, _, _, rfl⟩
    rw [he, hx]
    have HX := Lib.hid hx
    clear he hx
    have HA := Lib.hid ((Below.refl w1.heap.size w1).alloc (Nat.le_refl _) (.cells #[.int .i64 a, .int .i64 b, .int .i64 c] 30))
    have HN := Lib.hid (heap_alloc_new w1 (.cells #[.int .i64 a, .int .i64 b, .int .i64 c] 30))
    go_wp2_with fail
    refine (rrecords_any _ l 16 _ (sl_below S.out (bt B1.out HA.out)) HLEN.out H16.out).mono ?_
    rintro e w2 ⟨⟨v2, rfl, ho2⟩, hb2⟩
    obtain ⟨a2, c2, rfl, -, -⟩ := owR_form ho2
    have hG2 : w2.heap[w.heap.size]? = some (.cells #[.int .i64 0, .int .i64 0, .int .i64 0] 30 (0, 0)) := ((HA.out.trans (hb2.mono HA.out.size)).block _ (by have := lt_of_some HG.out; omega)).trans HG.out
    have hN2 : w2.heap[w1.heap.size]? = some (.cells #[.int .i64 a, .int .i64 b, .int .i64 c] 30 (0, 0)) := (hb2.block _ (by simp)).trans HN.out
    have B2 := Lib.hid (bt (bt B1.out HA.out) hb2)
    have O2 := Lib.hid ho2
    have HSZ := Lib.hid (Nat.le_trans B1.out.size HA.out.size)
    obtain ⟨x0, x1, x2, z0', z1', z2'⟩ := bx3 hG2
    obtain ⟨y0, y1, y2, -, -, -⟩ := bx3 hN2
    have HG2 := Lib.hid hG2
    rw [← HOP.out] at O2 ⊢
    obtain ⟨RR, hRR⟩ : ∃ RR, RR = opL l := ⟨_, rfl⟩
    rw [← hRR] at O2 ⊢
    generalize RR.1.length = k at *
    have HRR := Lib.hid hRR
    clear ho2 hb2 hG2 hN2 hRR
    go_wp2
    refine opn_end (g := w.heap.size) rfl (set3 HG2.out) ?_
    refine ⟨⟨.slice a2 k c2, by rw [HX.out, ← HRR.out, HE.out]; rfl, ?_⟩, below3 B2.out (Nat.le_refl _)⟩
    rw [← HRR.out]
    have hlt := lt_of_some HG.out
    have hs1 := HA.out.size
    exact owR_base (owR_set (owR_set (owR_set O2.out (by omega) (Nat.zero_le _)) (by omega) (Nat.zero_le _)) (by omega) (Nat.zero_le _)) HSZ.out
  · have HOP : Hid (opL l = ([], 0)) := Lib.hid (by unfold opL; rw [if_neg he])
    have hx : dX7 l = .agg #[.int .i64 0, .int .i64 0, .int .i64 0] := by unfold dX7; rw [if_neg he]; rfl
    have g0 : ((((dE7 l : Nat) : Int)) != 0) = true := by rw [bne_iff_ne]; omega
    obtain ⟨E, hE⟩ : ∃ E, E = dE7 l := ⟨_, rfl⟩
    rw [← hE] at g0 ⊢
    rw [hx]
    have HX := Lib.hid hx
    have HE := Lib.hid hE
    clear he hE hx
    have HA := Lib.hid ((Below.refl w1.heap.size w1).alloc (Nat.le_refl _) (.cells #[.int .i64 0, .int .i64 0, .int .i64 0] 30))
    have hG2 := (HA.out.block _ (lt_of_some HG.out)).trans HG.out
    obtain ⟨x0, x1, x2, z0', z1', z2'⟩ := bx3 hG2
    have HG2 := Lib.hid hG2
    have B2 := Lib.hid (bt B1.out HA.out)
    clear hG2
    go_wp2
    refine opn_end (g := w.heap.size) rfl (set3 HG2.out) ?_
    exact ⟨⟨.slice none 0 0, by rw [HX.out, HOP.out, ← HE.out]; rfl, by rw [HOP.out]; exact owR_nil _ _ _ _⟩, below3 B2.out (Nat.le_refl _)⟩
end Go.Proofs.YtlnccofanicihaaDoor.Gf
