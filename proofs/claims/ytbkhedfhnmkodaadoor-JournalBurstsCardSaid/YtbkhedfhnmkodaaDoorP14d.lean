/- What is proved here: the contract of the program's Decode of a journal (layer 14); what the laws ask of the program. Condition: the table nibbles holds its sixteen numbers. -/
import Derived.Test.YtbkhedfhnmkodaaDoorP14c
import Derived.Deep.MidRow
namespace Go.Proofs.YtbkhedfhnmkodaaDoor.Gf
open Go Go.Joins Go.ChangeShapes Go.WideShapes Go.ChangeAt Go.RowKit Go.Deep Go.Proofs.YtbkhedfhnmkodaaDoor.By Go.Proofs.YtbkhedfhnmkodaaDoor.Crc Go.Proofs.YtbkhedfhnmkodaaDoor.Qt

/-- The twelve bytes at place i are an entry exactly if they are that of their key. -/
theorem okJ_iff {l : List Nat} (hl : ∀ b ∈ l, b < 256) {i : Nat} (h : 12 * i + 12 ≤ l.length) : okJ l i ↔ (l.drop (12 * i)).take 12 = entJ (keyJ l i) := by
  obtain ⟨E, hE⟩ : ∃ E, E = (l.drop (12 * i)).take 12 := ⟨_, rfl⟩
  have hEl : E.length = 12 := by rw [hE, List.length_take, List.length_drop]; omega
  have hEb : ∀ b ∈ E, b < 256 := by rw [hE]; exact mem_take (mem_drop hl _) _
  have e8 : (l.drop (12 * i)).take 8 = E.take 8 := by rw [hE, List.take_take]; rfl
  have e4 : (l.drop (12 * i + 8)).take 4 = E.drop 8 := by rw [hE, ← List.drop_drop, List.take_drop]
  unfold okJ keyJ
  rw [← hE, e8, e4]
  have h8 : (E.take 8).length = 8 := by rw [List.length_take]; omega
  have hv : beL 8 (valL (E.take 8)) = E.take 8 := by
    have := beL_val (E.take 8) (mem_take hEb 8)
    rwa [h8] at this
  unfold entJ
  rw [hv]
  constructor
  · rintro ⟨-, h2⟩
    rw [h2, List.take_append_drop]
  · intro h2
    refine ⟨h, ?_⟩
    have h3 := congrArg (List.drop 8) h2
    rw [List.drop_left' h8] at h3
    exact h3.symm
theorem range12 {w : World} {b o n c A : Nat} {l : List Nat} (s : Sl w (.slice (some ⟨b, o, none⟩) n c) l) (hn : n = l.length) (hA : A + 12 ≤ n) : w.rangeAt b (o + A) (cellsOf ((l.drop A).take 12)) := fun j v hj => by
  obtain ⟨b2, o2, c2, hv2, -, -, hk⟩ := sl_cells s (by omega)
  obtain ⟨⟨rfl, rfl⟩, -, -⟩ : (b = b2 ∧ o = o2) ∧ n = l.length ∧ c = c2 := by simpa using hv2
  have hj2 : j < 12 := by
    have := (List.getElem?_eq_some_iff.1 hj).1
    rw [cellsOf_length, List.length_take, List.length_drop] at this
    omega
  have := hk (A + j) (by omega)
  rw [← Nat.add_assoc] at this
  rw [this]
  rw [← hj]
  unfold cellsOf
  rw [List.getElem?_map, List.getElem?_take, if_pos hj2, List.getElem?_drop, List.getElem?_eq_getElem (show A + j < l.length by omega), List.getD_eq_getElem?_getD, List.getElem?_eq_getElem (show A + j < l.length by omega)]
  rfl
/-- A load of a whole array, first of a region's operations. -/
theorem head_row {P : Program} {a : Act} {o : Oper} {S : World → Prop} (ty : TypeId) (x : Operand) (ho : o.op = .load ty x) (g : Nat) (hx : a.eval x = .pointer (some ⟨g, 0, none⟩)) (cs : Array Value) (d : TypeDesc) (hg : ∀ w, S w → w.heap[g]? = some (.cells cs ty (0, 0)))
    (hu : P.underlying ty = some d) (hd : (match d with | .struct _ | .array _ _ => true | _ => false) = true) (hi : (P.info? ty).map (·.size) = some cs.size) : ∀ w, S w → (execOp a.eval o).run P w = .ok (.value (.agg cs)) w := fun w hw => by
  unfold execOp
  simp only [ho, hx, Instr.loadAt, Instr.sureAddr, Sem.run_bind, Sem.run_pure, Result.andThen_ok, run_loadVar_row w g ty ty cs (0, 0) d (hg w hw) hu hd hi]
theorem meas14c (n i : Nat) (h : i < n) (hn : n ≤ 1000000) : n - (intOf (.int .i64 (wrap64 ((i : Int) + 1)))).toNat < n - (intOf (.int .i64 (i : Int))).toNat := by
  rw [w64s i (by omega)]
  show n - ((i : Int) + 1).toNat < n - (i : Int).toNat
  omega
/-- A load of a whole array out of the middle of a block. -/
theorem load12m {ops : Array Oper} {rest : List Oper} {dst : Option Tmp} {x : Operand} {pos : String} {after : Array Edge} {ty : TypeId} {a : Act} {w : World} {Q : Exit → Act → World → Prop} {b p : Nat} {E : List Nat} {CS : Array Value}
    (hx : a.eval x = .pointer (some ⟨b, p, none⟩)) (hg : w.rangeAt b p (cellsOf E)) (hs : E.length = 12) (hc : CS = (cellsOf E).toArray)
    (h : wpList Tryd.prog ops Q rest (a.put dst (.agg CS)) w) : wpList Tryd.prog ops Q (⟨dst, .load 39 x, ty, pos, after, none⟩ :: rest) a w := by
  subst hc
  exact wpList_load_mid rfl 39 x rfl b p hx _ _ hg Tryd.underlying39 rfl (by rw [info12, cellsOf_length, hs]) h
set_option maxRecDepth 100000 in
set_option maxHeartbeats 6400000 in
theorem pdecode14_any (v : Value) (l : List Nat) (w : World) (ht : Tab w) (s : Sl w v l) (hl : l.length ≤ 1000000) : Calls Tryd.prog 10 #[v] w (DO14 w l) := by
  obtain ⟨a, c, rfl, hc, hm⟩ := sl_form s
  obtain ⟨n, hn⟩ : ∃ n, n = l.length := ⟨_, rfl⟩
  have HN := Lib.hid (And.intro hn hl)
  have HC := Lib.hid (And.intro hc hm)
  have S := Lib.hid s
  have HT := Lib.hid ht
  rw [← hn] at S HC ⊢
  obtain ⟨q, hq⟩ : ∃ q, q = n / 12 := ⟨_, rfl⟩
  have q1 : (n : Int).tdiv 12 = (q : Int) := by rw [hq]; rfl
  have q2 : (n : Int) / 12 = (q : Int) := by omega
  have q3 : wrap64 (q : Int) = (q : Int) := by unfold wrap64; omega
  have HQ := Lib.hid hq
  clear hn hl s hc hm ht hq
  unfold DO14
  go_enter Tryd.func10, Tryd.ntmps10
  go_wp2_with fail
  rw [q3]
  clear q1 q2 q3
  go_loopw [2, 3, 4, 5, 9] (fun ks e _ _ t wr => ∃ i : Nat, i ≤ q ∧ t = .int .i64 (i : Int) ∧ e = .int .i64 ((12 * i : Nat) : Int) ∧ (∀ j, j < i → okJ l j) ∧ OwU wr w.heap.size ks (keysJ l i) ∧ Below w.heap.size w wr) (fun _ _ _ _ t _ => q - (intOf t).toNat)
  case atStart => exact ⟨0, by omega, rfl, rfl, fun j hj => absurd hj (Nat.not_lt_zero j), owu_nil w w.heap.size, Below.refl _ _⟩
  case round =>
    obtain ⟨i, hi, rfl, rfl, hok, hO, hB⟩ := hrel
    obtain ⟨oa, oc, rfl⟩ := owu_form hO
    rename World => wl
    obtain ⟨A, hA⟩ : ∃ A, A = 12 * i := ⟨_, rfl⟩
    rw [keysJ_length] at hO ⊢
    rw [← hA]
    have HOK := Lib.hid hok
    have HO := Lib.hid hO
    have HB := Lib.hid hB
    have HA := Lib.hid hA
    clear hok hO hB
    by_cases hiq : i < q
    case neg =>
      obtain rfl : i = q := by omega
      have l1 : decide ((i : Int) < (i : Int)) = false := decide_eq_false (by omega)
      clear hA hi hiq
      go_wp2_with fail
      go_ret2
      exact ⟨⟨i, _, by rw [HA.out]; rfl, ⟨HOK.out, fun h => by have := h.1; have := HQ.out; have := HN.out.1; omega⟩, HO.out⟩, HB.out⟩
    case pos =>
      have l1 : decide ((i : Int) < (q : Int)) = true := decide_eq_true (by omega)
      have l2 : decide (i < q) = true := decide_eq_true hiq
      have HG : Hid (A + 12 ≤ n) := by show _ ≤ _; have := HQ.out; omega
      have HI := Lib.hid hiq
      obtain ⟨b, o, cap, hv, hc1, hm1, hk⟩ := sl_cells S.out (by have := HG.out; have := HN.out.1; omega)
      obtain ⟨rfl, hn', rfl⟩ : a = some ⟨b, o, none⟩ ∧ n = l.length ∧ c = cap := by simpa using hv
      have SW := Lib.hid (sl_below S.out HB.out)
      have RG := Lib.hid (range12 SW.out HN.out.1 HG.out)
      have r0 : (0 : Int) ≤ (A : Int) := by omega
      have r1 : (A : Int) ≤ (n : Int) := by have := HG.out; omega
      have r2 : (n : Int) ≤ (c : Int) := by have := HC.out.1; omega
      have r5 : ¬ c = A := by have := HC.out.1; have := HG.out; omega
      have r6 : ¬ n - A < 12 := by have := HG.out; omega
      have aa : ∀ W : World, (Instr.arrayAt 39 (.slice (some ⟨b, o + A, none⟩) (n - A) (c - A))).run Tryd.prog W = .ok (.pointer (some ⟨b, o + A, none⟩)) W := fun W => by simp [Instr.arrayAt, run_underlying Tryd.underlying39, r6]
      clear hv hk hn' hc1 hm1 hA hiq hi r6
      have HOI : Hid (okJ l i ↔ (l.drop A).take 12 = entJ (keyJ l i)) := by show _ ↔ _; rw [HA.out]; exact okJ_iff SW.out.1 (by have := HA.out; have := HG.out; have := HN.out.1; omega)
      have HKV : Hid (keyJ l i = valL (((l.drop A).take 12).take 8)) := by show _ = _; unfold keyJ; rw [HA.out, List.take_take]; rfl
      have HEL : Hid (((l.drop A).take 12).length = 12) := by show _ = _; rw [List.length_take, List.length_drop]; have := HG.out; have := HN.out.1; omega
      have HEB : Hid (∀ x ∈ (l.drop A).take 12, x < 256) := mem_take (mem_drop SW.out.1 _) _
      generalize (l.drop A).take 12 = E at *
      have HKL : Hid (keyJ l i < 18446744073709551616) := by
        show _ < _
        rw [HKV.out]
        have h1 := valL_lt (E.take 8) (mem_take HEB.out 8)
        rw [show (E.take 8).length = 8 by rw [List.length_take, HEL.out]; rfl] at h1
        exact h1
      have HKS := Lib.hid (keysJ_succ l i)
      have FK := Lib.hid (fun W => pfirst_any E W HEL.out HEB.out)
      rw [← HKV.out] at FK
      have EN := Lib.hid (fun W (hW : Tab W) => pentry_any (keyJ l i) W HKL.out hW)
      generalize keyJ l i = k at *
      have HSE := Lib.hid (cells_size HEL.out)
      have HON := Lib.hid (cells_one E)
      have NE := Lib.hid (fun W => run_eq12 HEL.out (entJ_length k) W)
      obtain ⟨CS, hCS⟩ : ∃ c, c = (cellsOf E).toArray := ⟨_, rfl⟩
      have HCS := Lib.hid hCS
      rw [← hCS] at HSE HON FK NE
      clear hCS
      have BX := Lib.hid (below_setRow (bel_al14 wl (.cells #[.int .u8 0, .int .u8 0, .int .u8 0, .int .u8 0, .int .u8 0, .int .u8 0, .int .u8 0, .int .u8 0, .int .u8 0, .int .u8 0, .int .u8 0, .int .u8 0] 39)) (g := wl.heap.size) (Nat.le_refl _) CS)
      have HO2 := Lib.hid (owu_below HO.out BX.out)
      have HB2 := Lib.hid (bt HB.out BX.out)
      have HX2 := Lib.hid (setRow_heap _ _ _ CS _ _ (heap_alloc_new wl (.cells #[.int .u8 0, .int .u8 0, .int .u8 0, .int .u8 0, .int .u8 0, .int .u8 0, .int .u8 0, .int .u8 0, .int .u8 0, .int .u8 0, .int .u8 0, .int .u8 0] 39)))
      clear BX HO HB SW
      go_wp2_with (first | ((with_reducible refine load12m ?_ RG.out HEL.out HCS.out ?_); exact rfl) | ((with_reducible refine store12 wl.heap.size _ CS ?_ ?_ (heap_alloc_new _ _) z12_size HSE.out HON.out ?_); exact rfl; exact rfl) | ((with_reducible refine load12 wl.heap.size CS ?_ HX2.out HSE.out ?_); exact rfl))
      refine (FK.out _).mono ?_
      rintro e w3 ⟨rfl, hb3⟩
      have HO3 := Lib.hid (owu_below HO2.out hb3)
      have HB3 := Lib.hid (bt HB2.out hb3)
      have HX3 := Lib.hid ((hb3.block _ (lt_of_some HX2.out)).trans HX2.out)
      clear hb3 HO2 HB2 HX2 FK RG
      go_wp2_with fail
      refine wp_onlyN ?_
      refine wp_region_headsS (fun w' => Below w3.heap.size w3 w') [0, 1] 2 (by kernel_rfl) (fun _ _ _ _ _ h => h.elim) (by kernel_rfl) (by rfl) (by rfl) (Below.refl _ _).drew ?_
      simp only [pickOps, List.filterMap_cons, List.filterMap_nil, List.getElem?_toArray, List.getElem?_cons_zero, List.getElem?_cons_succ]
      refine wpHeads_step (fun K hK => ?_)
      rw [if_pos (by kernel_rfl)]
      refine ⟨_, head_row 39 (.tmp 4) rfl wl.heap.size rfl CS _ (fun w' hw' => (hw'.block _ (lt_of_some HX3.out)).trans HX3.out) Tryd.underlying39 rfl (by rw [info12, HSE.out]), hK _ ?_⟩
      clear hK K
      refine wpHeads_step (fun K hK => ?_)
      go_simp
      refine ⟨_, fun _ _ => rfl, hK _ ?_⟩
      clear hK K
      refine wpHeads_nil ?_
      refine held_gw 2 rfl (by kernel_rfl) (by kernel_rfl) fun K hK => ?_
      go_simp
      go_at_call 16
      refine (EN.out _ (tab_below HT.out HB3.out.drew)).mono ?_
      rintro e w4 ⟨rfl, hb4⟩
      have hb5 : Below w3.heap.size w3 w4 := (Below.refl w3.heap.size w3).drew.trans (hb4.mono (Nat.le_refl _))
      refine hK _ _ hb5 ?_
      clear hK K hb4
      have ne := NE.out w4
      refine held_gw 3 rfl (by kernel_rfl) (by kernel_rfl) fun K hK => ?_
      go_simp
      refine hK _ _ hb5 ?_
      clear hK K
      refine wpAnyH_done (by kernel_rfl) ?_ _
      unfold onlyN
      dsimp only
      have HO4 := Lib.hid (owu_below HO3.out hb5)
      have HB4 := Lib.hid (bt HB3.out hb5)
      clear HO3 HB3 HX3 hb5 ne NE EN
      by_cases hk : E = entJ k
      case neg =>
        rw [decide_eq_false hk]
        have HK := Lib.hid hk
        clear hk
        go_wp2_with fail
        go_ret2
        exact ⟨⟨i, _, by rw [HA.out]; rfl, ⟨HOK.out, fun h => HK.out (HOI.out.1 h)⟩, HO4.out⟩, HB4.out⟩
      case pos =>
        rw [decide_eq_true hk]
        have HOK2 : Hid (∀ j, j < i + 1 → okJ l j) := by
          intro j hj
          rcases Nat.lt_or_ge j i with h1 | h1
          · exact HOK.out j h1
          · obtain rfl : j = i := by omega
            exact HOI.out.2 hk
        clear hk
        obtain ⟨B, hB12⟩ : ∃ B, B = 12 * (i + 1) := ⟨_, rfl⟩
        have e12 := w64n A B 12 (by have := HA.out; omega) (by have := HG.out; have := HN.out; have := HA.out; omega)
        rw [show ((12 : Nat) : Int) = 12 from rfl] at e12
        obtain ⟨f12, g12⟩ := e12
        have HBE := Lib.hid hB12
        have HBa := Lib.hid (bt HB4.out (bel_al14 w4 (.cells #[.int .u64 (k : Int)] 37)))
        have HOa := Lib.hid (owu_below HO4.out (bel_al14 w4 (.cells #[.int .u64 (k : Int)] 37)))
        have HNE := Lib.hid (owu_ne HO4.out (Nat.le_refl _))
        have HKN : Hid ((keysJ l i).length + 1 ≤ 100000000) := by show _ ≤ _; rw [keysJ_length]; have := HA.out; have := HG.out; have := HN.out; omega
        have hw := w64s i (by have := HA.out; have := HG.out; have := HN.out; omega)
        clear HB4 HO4 hB12
        go_wp2_with (at_builtin; refine app_u1 (dst := some 25) ?_ ?_ HOa.out (heap_alloc_new _ _) HKL.out HNE.out HKN.out HBa.out.size ?_; exact rfl; exact rfl; intro v5 w5 ho5 hg5; rw [← HKS.out] at ho5; have HB5 := Lib.hid (below_grownG HBa.out hg5 HOa.out HBa.out.size (Nat.le_refl _)); obtain ⟨sa, sc, hv5⟩ := owu_form ho5; subst hv5; have HO5 := Lib.hid ho5; clear ho5 hg5)
        go_roundw
        case rel => exact ⟨i + 1, HI.out, by go_num, by rw [HBE.out], HOK2.out, HO5.out, HB5.out⟩
        case measure => exact meas14c q i HI.out (by have := HQ.out; have := HN.out; omega)
theorem pcs14 : PC14 Tab := ⟨tab_below, fun v l W ht s hl => pencode14_any v l W ht s hl, fun v l W ht s hl => pdecode14_any v l W ht s hl⟩
end Go.Proofs.YtbkhedfhnmkodaaDoor.Gf
