/- What is proved here: the contract of the program's Names. No condition but valid lengths of data. -/
import Derived.Test.YtpipgbjkkiheaaaK10H
namespace Go.Proofs.Ytpipgbjkkiheaaa.Gf
open Go Go.Joins Go.ChangeShapes Go.WideShapes Go.ChangeAt Go.RowKit Go.Deep Go.Proofs.Ytpipgbjkkiheaaa.By Go.Proofs.Ytpipgbjkkiheaaa.Qt

theorem infoPS : (Try.prog.info? 9).map (fun i => (i.zero, i.size, i.bytes)) = some (some (Value.string ⟨#[]⟩), 1, 16) := by kernel_rfl
set_option maxRecDepth 100000 in
/-- make([]string, 0, n). -/
theorem makeS0 {ops : Array Oper} {rest : List Oper} {dst : Option Tmp} {x y : Operand} {pos : String} {after : Array Edge} {ty : TypeId} {a : Act} {W : World} {Q : Exit → Act → World → Prop} {n : Nat}
    (hx : a.eval x = .int .i64 0) (hy : a.eval y = .int .i64 (n : Int)) (hn : n ≤ 100000)
    (h : ∀ cs : Array Value, cs.size = n * 1 → wpList Try.prog ops Q rest (a.put dst (.slice (some ⟨W.heap.size, 0, none⟩) 0 n)) (W.alloc (.cells cs 9))) : wpList Try.prog ops Q (⟨dst, .makeSlice 43 x y, ty, pos, after, none⟩ :: rest) a W := by
  refine wpList_plain rfl fun K hK => ?_
  obtain ⟨i, hi, hz0, hz1, hz2⟩ := info_parts infoPS
  have hr := run_make (P := Try.prog) W 43 9 i (.string ⟨#[]⟩) Try.underlying43 hi hz0 .i64 .i64 (0 : Int) (n : Int) (by omega) (by omega) (by rw [hz2]; omega) (by omega)
  simp only [Int.toNat_natCast, Int.toNat_zero, hz1] at hr
  unfold Oper.wp execOp
  simp only [hx, hy, Sem.run_bind, Sem.run_pure, hr, Result.andThen_ok]
  exact hK _ _ (h _ (by simp [madeCells, Value.cells]))
set_option maxRecDepth 100000 in
set_option maxHeartbeats 6400000 in
theorem pnames_any (v : Value) (d : Dk) (w : World) (hv : Dv w v d) (hsm : SmD d) : Calls Try.prog 27 #[v] w (NmO w (namesL d)) := by
  have hNM : namesL d = if validB d then d.2.2.map (·.1) else [] := rfl
  have HNM := Lib.hid hNM
  obtain ⟨fv, rfl, hr, sf⟩ := hv
  obtain ⟨af, cf, rfl, -, -⟩ := rd_sl sf
  have SF := Lib.hid sf
  have BX := Lib.hid (bel_al0 w (.cells #[.int .i64 d.1, .int .i64 d.2.1, .slice af d.2.2.length cf] 33))
  have HX := Lib.hid (heap_alloc_new w (.cells #[.int .i64 d.1, .int .i64 d.2.1, .slice af d.2.2.length cf] 33))
  have RV := Lib.hid (fun W (h : Below w.heap.size w W) => pvalid10_any _ d W (dv_below ⟨_, rfl, hr, sf⟩ h) hsm)
  have HVP := Lib.hid (fun h => valid_parts (d := d) h)
  generalize namesL d = NM at *
  generalize validB d = VB at *
  obtain ⟨cap, left, L⟩ := d
  dsimp only at SF HX BX RV HVP HNM ⊢
  obtain ⟨n, hn⟩ : ∃ z, z = L.length := ⟨_, rfl⟩
  rw [← hn] at SF HX BX RV HVP ⊢
  have HN := Lib.hid hn
  clear sf hn hr hsm hNM
  go_enter Try.func27, Try.ntmps27
  go_upto_region 1 with fail
  generalize w.alloc (.cells #[.int .i64 cap, .int .i64 left, .slice af n cf] 33) = W1 at *
  obtain ⟨x0, x1, x2⟩ := box3c HX.out
  go_wp2_with fail
  refine (RV.out _ BX.out).mono ?_
  rintro e w2 ⟨rfl, hb2⟩
  have HX2 := Lib.hid ((hb2.block _ (lt_of_some0 HX.out)).trans HX.out)
  have B2 := Lib.hid (btA BX.out hb2)
  clear x0 x1 x2 hb2 HX RV BX
  cases VB
  · have hc := HNM.out
    rw [if_neg (by simp)] at hc
    subst hc
    go_wp2
    go_ret
    exact ⟨⟨_, rfl, og_nil _ _ _ _ _⟩, B2.out⟩
  · have hc := HNM.out
    rw [if_pos rfl] at hc
    have HC := Lib.hid hc
    have HV := Lib.hid (HVP.out (by first | rfl | trivial))
    clear hc HNM HVP
    obtain ⟨x0, x1, x2⟩ := box3c HX2.out
    have hn5 : n ≤ 100000 := by have := HV.out.2.2.1; omega
    go_upto_region 3 with fail
    go_wp2_with ((with_reducible refine makeS0 (n := n) ?_ ?_ hn5 ?_); exact rfl; exact rfl; intro cs hcs; have OC := Lib.hid (og_cap (T := 9) .s (fun _ => True) w2 rfl (Nat.le_refl _) (by unfold maxLen; omega) hcs); have BC := Lib.hid (bel_al0 w2 (.cells cs 9)); have HXC := Lib.hid ((BC.out.block _ (lt_of_some0 HX2.out)).trans HX2.out); clear x0 x1 x2 hcs; generalize w2.alloc (.cells cs 9) = w5 at *; obtain ⟨x0, x1, x2⟩ := box3c HXC.out)
    go_loopw [3, 16] (fun t3 t16 wr => ∃ i : Nat, i ≤ n ∧ t16 = .int .i64 (i : Int) ∧ Hid (OwG 9 .s (fun _ => True) wr w2.heap.size t3 ((L.take i).map (·.1))) ∧ Hid (Below w2.heap.size w2 wr)) (fun _ t _ => n - (intOf t).toNat)
    case atStart => exact ⟨0, by omega, rfl, OC, BC⟩
    case round =>
      clear OC BC x0 x1 x2 HXC
      obtain ⟨i, hi, rfl, O, BB⟩ := hrel
      obtain ⟨m5, hm5⟩ : ∃ z, z = ((L.take i).map (·.1)).length := ⟨_, rfl⟩
      obtain ⟨ao, co, rfl, -, -⟩ := og_form O.out
      rw [← hm5] at O ⊢
      clear hm5
      by_cases hlt : i < n
      · have l1 : decide ((i : Int) < (n : Int)) = true := decide_eq_true (by omega)
        have p0 : (0 : Int) ≤ (i : Int) := by omega
        have p1 : (i : Int) < (n : Int) := by omega
        have BW := Lib.hid (btA B2.out BB.out)
        obtain ⟨b1, o1, c1, bv, pv, hv, k0, k1, k2, hsz, hb, hp⟩ := rd_fat (rd_oldB SF.out BW.out) (i := i) (by rw [← HN.out]; exact hlt)
        obtain ⟨rfl, -, -⟩ : af = some ⟨b1, o1, none⟩ ∧ n = L.length ∧ cf = c1 := by simpa using hv
        have HSN := Lib.hid (names_take (show i < L.length by rw [← HN.out]; exact hlt))
        obtain ⟨ab, cb, rfl, -, -⟩ := rd_sl hb
        obtain ⟨ap, cp, rfl, -, -⟩ := rd_sl hp
        clear hb hp hv
        generalize (L.getD i fl0).2.1.length = nb at *
        generalize (L.getD i fl0).2.2.length = np at *
        generalize (L.getD i fl0).1 = nm at *
        have q1 := bel_al0 wr (.cells #[.string nm, .slice ab nb cb, .slice ap np cp] 59)
        have HB6 := Lib.hid (heap_alloc_new wr (.cells #[.string nm, .slice ab nb cb, .slice ap np cp] 59))
        have O6 := Lib.hid (og_below O.out q1)
        have B6 := Lib.hid (btA BB.out q1)
        have HLT6 := Lib.hid (show wr.heap.size ≤ (wr.alloc (.cells #[.string nm, .slice ab nb cb, .slice ap np cp] 59)).heap.size from q1.size)
        go_upto_region 7 with fail
        clear k0 k1 k2 q1
        generalize wr.alloc (.cells #[.string nm, .slice ab nb cb, .slice ap np cp] 59) = w6 at *
        obtain ⟨z0, z1, z2⟩ := box3c HB6.out
        have q7 := bel_al0 w6 (.cells #[.string nm] 9)
        have O7 := Lib.hid (og_below O6.out q7)
        have B7 := Lib.hid (btA B6.out q7)
        have HSG := Lib.hid (rd_single (t := .s) (cs := [.string nm]) (B := fun b => True ∧ (Value.slice ao m5 co).ownBlock ≠ some b) (x := nm) ⟨hsz, rfl⟩ (heap_alloc_new w6 (.cells #[.string nm] 9)) ⟨trivial, fun e => by have := (og_lt O6.out _ e).2; omega⟩)
        have HLE7 : Hid (((L.take i).map (·.1)).length + [nm].length ≤ 100000000) := Lib.hid (by
          have h1 := HV.out.2.2.1
          rw [List.length_map, List.length_take]
          simp
          omega)
        clear q7 O O6 BB B6 hsz
        go_wp2_with (at_builtin; refine app_g lsS (dst := some 24) ?_ ?_ O7.out HSG.out HLE7.out B7.out.size ?_; exact rfl; exact rfl; intro v11 w11 ho11 hg11 hat11; rw [← HSN.out] at ho11; have O11 := Lib.hid ho11; have B11 := Lib.hid (below_grownG B7.out hg11 O7.out B7.out.size (Nat.le_refl _)); clear ho11 hg11 hat11 O7 HSG B7)
        go_roundw
        case rel => exact ⟨i + 1, by omega, by go_num, O11, B11⟩
        case measure => simp [intOf]; omega
      · have l1 : decide ((i : Int) < (n : Int)) = false := decide_eq_false (by omega)
        have hin : i = n := by omega
        subst hin
        have HT := Lib.hid (show (L.take i).map (·.1) = L.map (·.1) by rw [List.take_of_length_le (by have := HN.out; omega)])
        rw [HT.out, ← HC.out] at O
        go_wp2
        go_ret
        exact ⟨⟨_, rfl, og_base O.out B2.out.size⟩, btA B2.out BB.out⟩
end Go.Proofs.Ytpipgbjkkiheaaa.Gf
