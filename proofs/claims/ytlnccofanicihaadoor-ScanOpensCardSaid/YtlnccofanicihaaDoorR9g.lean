/- What is proved here: the contract of the laws' file. No condition. -/
import Derived.Test.YtlnccofanicihaaDoorR9f
namespace Go.Proofs.YtlnccofanicihaaDoor.Gf
open Go Go.Joins Go.ChangeShapes Go.WideShapes Go.ChangeAt Go.RowKit Go.Deep Go.Proofs.YtlnccofanicihaaDoor.By Go.Proofs.YtlnccofanicihaaDoor.Crc Go.Proofs.YtlnccofanicihaaDoor.Qt

/-- Bytes of the call's own stay when a list of another type grows. -/
theorem own_other {w w' : World} {base b2 n k : Nat} {E : TypeId} {v x : Value} {xs : List Value} {l : List Nat} (h : Own w base x l) (hv : w.ownsRow b2 E k v n xs) (ne : (5 == E) = false) (hg : w.grownBy w' v.ownBlock) : Own w' base x l := by
  refine own_keep h fun k hk => ?_
  obtain ⟨_, _, ⟨rfl, _⟩ | ⟨q, _, cq, rfl, _, hq, _⟩⟩ := h
  · cases hk
  · cases hk
    refine hg.block q (Array.getElem?_eq_some_iff.1 hq).1 fun e => ?_
    obtain ⟨_, ⟨rfl, _⟩ | ⟨q2, _, cq2, rfl, _, hq2, _⟩⟩ := hv
    · cases e
    · cases e
      rw [hq] at hq2
      have e3 : 5 = E := by simp at hq2; exact hq2.2
      rw [← e3] at ne
      simp at ne
/-- A list of another type stays when bytes grow. -/
theorem row_other {w w' : World} {base b2 n k : Nat} {E : TypeId} {v x : Value} {xs : List Value} {l : List Nat} (hv : w.ownsRow b2 E k v n xs) (h : Own w base x l) (ne : (5 == E) = false) (hg : w.grownBy w' x.ownBlock) : w'.ownsRow b2 E k v n xs := by
  refine hv.kept hg ?_
  obtain ⟨_, ⟨rfl, _⟩ | ⟨q, _, cq, rfl, _, hq, _⟩⟩ := hv
  · exact Or.inl rfl
  · refine Or.inr fun e => ?_
    obtain ⟨_, _, ⟨rfl, _⟩ | ⟨q2, _, cq2, rfl, _, hq2, _⟩⟩ := h
    · cases e
    · cases e
      rw [hq] at hq2
      have e3 : E = 5 := by simp at hq2; exact hq2.2
      rw [e3] at ne
      simp at ne
theorem below_grown1 {B : Nat} {a w w' : World} {base n k : Nat} {E : TypeId} {v : Value} {xs : List Value} (h : Below B a w) (hg : w.grownBy w' v.ownBlock) (ho : w.ownsRow base E k v n xs) (hB : B ≤ w.heap.size) (hb : B ≤ base) : Below B a w' :=
  h.grown hg hB (fun k hk => Nat.le_trans hb (ho.lt k hk).1)
/-- A call that answers a file. -/
def FO (w : World) (L : List Ndl) (e : Ending) (w' : World) : Prop := (∃ s t, e = .returned (.tuple #[s, t]) ∧ Own w' w.heap.size s (filL L) ∧ w'.ownsRow w.heap.size 2 1 t L.length (endsV (endsL L L.length))) ∧ Below w.heap.size w w'
set_option maxRecDepth 100000 in
set_option maxHeartbeats 6400000 in
theorem file_any (v : Value) (L : List Ndl) (w : World) (s : Ns w v L) (hgood : GoodN L) (hlen : L.length ≤ 1000) : Calls Tryd.prog 10 #[v] w (FO w L) := by
  have HGOOD := Lib.hid hgood
  have HBL := Lib.hid (fun i => bodF_le (L.take i) fun x hx => hgood x (List.mem_of_mem_take hx))
  obtain ⟨al, cl, hv, -, -⟩ := ns_form s
  obtain ⟨n, hn⟩ : ∃ n, n = L.length := ⟨_, rfl⟩
  rw [← hn] at hv hlen
  subst hv
  have S := Lib.hid s
  have N := Lib.hid hn
  clear s hn hgood
  go_enter Tryd.func10, Tryd.ntmps10
  go_wp2_with fail
  refine (rencode7_ok 0 1 0 w (by decide)).mono ?_
  rintro e w1 ⟨⟨v1, rfl, ho1⟩, hb1⟩
  have O1 := Lib.hid ho1
  have B1 := Lib.hid hb1
  clear ho1 hb1
  go_wp2_with fail
  go_loopw [4, 6, 17] (fun b e t wr => ∃ i : Nat, i ≤ n ∧ t = .int .i64 (i : Int) ∧ Own wr w.heap.size b (filL (L.take i)) ∧ wr.ownsRow w.heap.size 2 1 e i (endsV (endsL L i)) ∧ Below w.heap.size w wr) (fun _ _ t _ => n - (intOf t).toNat)
  case atStart => exact ⟨0, by omega, rfl, by simpa [filL, bodF] using O1.out, World.ownsRow_nil _ _ _ _, B1.out⟩
  case round =>
    obtain ⟨i, hi, rfl, ho, hr, hB⟩ := hrel
    by_cases hin : i < n
    · have hl4 : decide ((i : Int) < (n : Int)) = true := decide_eq_true (by omega)
      have p0 : (0 : Int) ≤ (i : Int) := by omega
      have p1 : (i : Int) < (n : Int) := by omega
      have N' := N.out
      obtain ⟨b1, o1, c1', hv1, -, -, hk1⟩ := ns_cells S.out (by omega)
      obtain ⟨rfl, -, -⟩ : al = some ⟨b1, o1, none⟩ ∧ n = L.length ∧ cl = c1' := by simpa using hv1
      obtain ⟨d, C0⟩ := hk1 i (by omega)
      obtain ⟨f0, f1, f2, f3, okr, sd⟩ := C0.below hB
      have hs := filL_succ (L := L) (i := i) (by omega)
      have he := endsL_succ L i
      have hgx : NdOk (L.getD i nd0) ∧ encE (L.getD i nd0) = 0 := HGOOD.out _ (by rw [List.getD_eq_getElem?_getD, List.getElem?_eq_getElem (by omega)]; exact List.getElem_mem _)
      have HLF : Hid ((filL (L.take (i + 1))).length ≤ 50000000) := Lib.hid (by have h1 := HBL.out (i + 1); rw [List.length_take] at h1; unfold filL; rw [List.length_append, encS_length]; omega)
      have EN := Lib.hid (rencode_any _ (L.getD i nd0) wr ⟨d, rfl, okr.key, okr.ck, sd⟩)
      rw [hgx.2, show encL (L.getD i nd0) = recL (L.getD i nd0) by unfold encL; rw [if_pos hgx.2]] at EN
      rw [hs] at he HLF
      obtain ⟨E2, hE2⟩ : ∃ E2, E2 = endsL L (i + 1) := ⟨_, rfl⟩
      rw [← hE2] at he
      obtain ⟨F2, hF2⟩ : ∃ F2, F2 = filL (L.take (i + 1)) := ⟨_, rfl⟩
      rw [← hF2] at hs
      generalize filL (L.take i) = F at *
      generalize endsL L i = E at *
      generalize L.getD i nd0 = x at *
      obtain ⟨ad, cd, rfl, -, -⟩ := sl_form sd
      generalize x.data.length = nd at *
      obtain ⟨ab, cb, rfl, -, -⟩ := sl_form ho.sl
      obtain ⟨m4, hm4⟩ : ∃ m, m = F.length := ⟨_, rfl⟩
      rw [← hm4] at ho ⊢
      obtain ⟨ae, ne, ce, rfl⟩ : ∃ a n c, u6 = Value.slice a n c := by
        obtain ⟨_, ⟨h, _⟩ | ⟨g, cap, cur, h, _⟩⟩ := hr
        · exact ⟨_, _, _, h⟩
        · exact ⟨_, _, _, h⟩
      have HO := Lib.hid ho
      have HR := Lib.hid hr
      have HB := Lib.hid hB
      have HS := Lib.hid hs
      have HE := Lib.hid he
      have HE2 := Lib.hid hE2
      have HF2 := Lib.hid hF2
      clear ho hr hB hs he hE2 hF2 hk1 hv1 N' okr sd C0 hgx hm4
      go_wp2_with fail
      refine EN.out.mono ?_
      rintro e w2 ⟨⟨v2, rfl, ho2⟩, hb2⟩
      obtain ⟨a2, c2, rfl, -, -⟩ := sl_form ho2.sl
      obtain ⟨m2, hm2⟩ : ∃ m, m = (recL x).length := ⟨_, rfl⟩
      rw [← hm2] at ho2 ⊢
      have O2 := Lib.hid ho2
      have HO2 := Lib.hid (own_below' HO.out hb2)
      have HR2 := Lib.hid (ownsRow_mono HR.out hb2)
      have B2 := Lib.hid (bt HB.out hb2)
      clear ho2 hb2 f0 f1 f2 f3 hm2
      have hi3 : i ≤ 1000 := by omega
      have HI3 := Lib.hid hi3
      clear hi3
      go_wp2_with (first
        | (at_builtin; refine app_sl (dst := some 30) ?_ ?_ HO2.out O2.out.sl (by have := HLF.out; rw [List.length_append] at this; omega) B2.out.size ?_; exact rfl; exact rfl; intro v5 w5 ho5 hg5; rw [← HS.out] at ho5; obtain ⟨a5, c5, rfl, -, -⟩ := sl_form ho5.sl; obtain ⟨m5, hm5⟩ : ∃ m, m = F2.length := ⟨_, rfl⟩; rw [← hm5] at ho5 ⊢; have HM5 := Lib.hid hm5; have B5 := Lib.hid (below_grown B2.out hg5 HO2.out B2.out.size (Nat.le_refl _)); have HO5 := Lib.hid ho5; have HR5 := Lib.hid (row_other HR2.out HO2.out (by kernel_rfl) hg5); clear ho5 hg5 hm5; have HA5 := Lib.hid ((Below.refl w5.heap.size w5).alloc (Nat.le_refl _) (.cells #[.int .i64 (m5 : Int)] 2)); have HN5 := Lib.hid (heap_alloc_new w5 (.cells #[.int .i64 (m5 : Int)] 2)); have HR6 := Lib.hid (ownsRow_mono HR5.out HA5.out); have HO6 := Lib.hid (own_below' HO5.out HA5.out); have B6 := Lib.hid (bt B5.out HA5.out))
        | (at_builtin; refine app1 (dst := some 35) Tryd.underlying24 infoI9 rfl (by decide) ?_ ?_ HR6.out HN5.out rfl (by have := HI3.out; omega) B6.out.size ?_; exact rfl; exact rfl; intro v7 w7 ho7 hg7; have HO7 := Lib.hid (own_other HO6.out HR6.out (by kernel_rfl) hg7); have B7 := Lib.hid (below_grown1 B6.out hg7 HR6.out B6.out.size (Nat.le_refl _)); have HR7 := Lib.hid ho7; clear ho7 hg7))
      go_roundw
      case rel => exact ⟨i + 1, by omega, by go_num, by rw [← HF2.out]; exact HO7.out, by rw [← HE2.out, HE.out]; have h := HR7.out; rw [HM5.out, HS.out] at h; simpa [endsV] using h, B7.out⟩
      case measure => simp [intOf]; omega
    · obtain rfl : i = n := by omega
      have hl4 : decide ((i : Int) < (i : Int)) = false := decide_eq_false (by omega)
      rw [List.take_of_length_le (by have := N.out; omega)] at ho
      have HO := Lib.hid ho
      have HR := Lib.hid hr
      have HB := Lib.hid hB
      obtain ⟨ab, cb, rfl, -, -⟩ := sl_form ho.sl
      clear ho hr hB
      go_wp2
      go_ret2
      exact ⟨⟨_, _, rfl, HO.out, by rw [← N.out]; exact HR.out⟩, HB.out⟩
end Go.Proofs.YtlnccofanicihaaDoor.Gf
