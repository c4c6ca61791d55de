/- What is proved here: the program's Add of a generation, exact. -/
import Derived.Test.YtbmlpafbdbhaiaaGreatDoorGm5
import Derived.Test.YtbmlpafbdbhaiaaGreatDoorGt2
namespace Go.Proofs.YtbmlpafbdbhaiaaGreatDoor.Gf
open Go Go.Joins Go.ChangeShapes Go.WideShapes Go.ChangeAt Go.RowKit Go.Deep Go.Proofs.YtbmlpafbdbhaiaaGreatDoor.By Go.Proofs.YtbmlpafbdbhaiaaGreatDoor.Qt
set_option maxRecDepth 100000
set_option maxHeartbeats 204800000
def r0 : Rcd := ⟨0, 0, false, 0⟩
instance (x : Rcd) : Decidable (okR x) := by unfold okR; infer_instance
/-- Four cells are a needle. -/
def NX (w : World) (b o : Nat) (x : Rcd) : Prop := ∃ (da : Option Addr) (dn dc : Nat), x.sz = (dn : Int) ∧ dn ≤ maxLen ∧ x.key < 18446744073709551616 ∧ x.ck < 4294967296 ∧ w.cell? ⟨b, o, none⟩ = some (.int .u64 (x.key : Int)) ∧ w.cell? ⟨b, o + 1, none⟩ = some (.int .u32 (x.ck : Int)) ∧ w.cell? ⟨b, o + 2, none⟩ = some (.bool x.del) ∧ w.cell? ⟨b, o + 3, none⟩ = some (.slice da dn dc)
theorem nX_below {w w' : World} {b o : Nat} {x : Rcd} (h : NX w b o x) (hB : Below w.heap.size w w') : NX w' b o x := by
 obtain ⟨da, dn, dc, h1, h2, h3, h4, k0, k1, k2, k3⟩ := h
 have k : ∀ (p : Nat) (v : Value), w.cell? ⟨b, p, none⟩ = some v → w'.cell? ⟨b, p, none⟩ = some v := fun p v q => (hB.cell (p := ⟨b, p, none⟩) (block_lt_of_cell q)).trans q
 exact ⟨da, dn, dc, h1, h2, h3, h4, k _ _ k0, k _ _ k1, k _ _ k2, k _ _ k3⟩
/-- A list of needles in memory. -/
def Nx (w : World) (v : Value) (l : List Rcd) : Prop := ∃ a c, v = .slice a l.length c ∧ (0 < l.length → ∃ b off, a = some ⟨b, off, none⟩ ∧ ∀ i, i < l.length → NX w b (off + i * 4) (l.getD i r0))
theorem nx_below {w w' : World} {v : Value} {l : List Rcd} (h : Nx w v l) (hB : Below w.heap.size w w') : Nx w' v l := by
 obtain ⟨a, c, h1, h4⟩ := h
 refine ⟨a, c, h1, fun hp => ?_⟩
 obtain ⟨b, off, ha, hc⟩ := h4 hp
 exact ⟨b, off, ha, fun i hi => nX_below (hc i hi) hB⟩
theorem nx_at {w : World} {a : Option Addr} {n c i : Nat} {l : List Rcd} (h : Nx w (.slice a n c) l) (hi : i < n) : ∃ b off, a = some ⟨b, off, none⟩ ∧ NX w b (off + i * 4) (l.getD i r0) := by
 obtain ⟨a2, c2, h1, h4⟩ := h
 obtain ⟨rfl, rfl, rfl⟩ : a = a2 ∧ n = l.length ∧ c = c2 := by simpa using h1
 obtain ⟨b, off, ha, hc⟩ := h4 (by omega)
 exact ⟨b, off, ha, hc i hi⟩
theorem take_snocR {l : List Rcd} {i : Nat} (h : i < l.length) : l.take (i + 1) = l.take i ++ [l.getD i r0] := by
 rw [List.take_add_one, List.getElem?_eq_getElem h, Option.toList_some, List.getD_eq_getElem?_getD, List.getElem?_eq_getElem h]
 rfl
theorem getD_memR {l : List Rcd} {i : Nat} (h : i < l.length) : l.getD i r0 ∈ l := by
 rw [List.getD_eq_getElem?_getD, List.getElem?_eq_getElem h]
 exact List.getElem_mem _
theorem sumR_app (A B : List Rcd) : sumR (A ++ B) = sumR A + sumR B := by simp [sumR, List.sum_append]
theorem sumR_take (l : List Rcd) (i : Nat) : sumR (l.take i) ≤ sumR l := by
 have h := sumR_app (l.take i) (l.drop i)
 rw [List.take_append_drop] at h
 have := sumR_lo (l.drop i)
 omega
theorem mi_mono {P : Program} {k : TypeId} {w : World} {b n n' : Nat} {f : Nat → Option Itm} (h : MI P k w b n f) (hn : n ≤ n') : MI P k w b n' f := by
 obtain ⟨D, h1, h2⟩ := h
 exact ⟨D, h1.mono hn, h2⟩
open Classical in
noncomputable def okRb (l : List Rcd) : Bool := @decide (∀ x ∈ l, okR x) (Classical.propDecidable _)
theorem okRb_t {l : List Rcd} (h : ∀ x ∈ l, okR x) : okRb l = true := by unfold okRb; exact @decide_eq_true _ (Classical.propDecidable _) h
theorem okRb_f {l : List Rcd} (h : ¬ ∀ x ∈ l, okR x) : okRb l = false := by unfold okRb; exact @decide_eq_false _ (Classical.propDecidable _) h
theorem pnvalid_any (x : Rcd) (da : Option Addr) (dn dc : Nat) (w : World) (hs : x.sz = (dn : Int)) : Calls Tryz.prog 94 #[.agg #[.int .u64 (x.key : Int), .int .u32 (x.ck : Int), .bool x.del, .slice da dn dc]] w fun e w' => e = .returned (.bool (decide (okR x))) ∧ Below w.heap.size w w' := by
 have hb := bel_al w (.cells #[.int .u64 (x.key : Int), .int .u32 (x.ck : Int), .bool x.del, .slice da dn dc] 67)
 have HX := heap_alloc_new w (.cells #[.int .u64 (x.key : Int), .int .u32 (x.ck : Int), .bool x.del, .slice da dn dc] 67)
 have B0 := Lh hb
 obtain ⟨q, hq⟩ : ∃ q, q = decide (okR x) := ⟨_, rfl⟩
 rw [← hq]
 have HQ := Lh hq
 have HS := Lh hs
 obtain ⟨key, ck, del, sz⟩ := x
 clear hb hq hs
 go_enter Tryz.func94, Tryz.ntmps94
 go_upto_region 1 with fail
 generalize w.alloc (.cells #[.int .u64 (key : Int), .int .u32 (ck : Int), .bool del, .slice da dn dc] 67) = W0 at *
 obtain ⟨⟨y0, y1, y2, y3⟩, -⟩ := bx4 HX
 simp only at y0 y1 y2 y3 HS
 by_cases h1 : dn ≤ 4096
 case neg =>
  have d1 : decide ((dn : Int) ≤ 4096) = false := decide_eq_false (by omega)
  have d2 : decide (dn ≤ 4096) = false := decide_eq_false h1
  have HF := Lh (show q = false from by rw [HQ.out]; exact decide_eq_false (fun h => by have := h.2.1; have := HS.out; simp only at *; omega))
  clear h1
  go_wp2_with fail
  go_ret
  exact ⟨by rw [HF.out]; rfl, B0.out⟩
 have d1 : decide ((dn : Int) ≤ 4096) = true := decide_eq_true (by omega)
 have d2 : decide (dn ≤ 4096) = true := decide_eq_true h1
 have H1 := Lh h1
 clear h1
 cases del
 · have HF := Lh (show q = true from by rw [HQ.out]; exact decide_eq_true ⟨by have := HS.out; simp only at *; omega, by have := HS.out; have := H1.out; simp only at *; omega, fun h => by cases h⟩)
   go_wp2_with fail
   go_ret
   exact ⟨by rw [HF.out]; rfl, B0.out⟩
 · by_cases h2 : dn = 0
   · have d3 : decide ((dn : Int) = 0) = true := decide_eq_true (by omega)
     have d4 : ((dn : Int) == 0) = true := by simp [h2]
     have d5 : decide (dn = 0) = true := decide_eq_true h2
     have HF := Lh (show q = true from by rw [HQ.out]; exact decide_eq_true ⟨by have := HS.out; simp only at *; omega, by have := HS.out; have := H1.out; simp only at *; omega, fun _ => by have := HS.out; simp only at *; omega⟩)
     clear h2
     go_wp2_with fail
     go_ret
     exact ⟨by rw [HF.out]; rfl, B0.out⟩
   · have d3 : decide ((dn : Int) = 0) = false := decide_eq_false (by omega)
     have d4 : ((dn : Int) == 0) = false := by simp [h2]
     have d5 : decide (dn = 0) = false := decide_eq_false h2
     have HF := Lh (show q = false from by rw [HQ.out]; exact decide_eq_false (fun h => by have := h.2.2 rfl; have := HS.out; simp only at *; omega))
     clear h2
     go_wp2_with fail
     go_ret
     exact ⟨by rw [HF.out]; rfl, B0.out⟩
theorem pvneed_x (vk : Value) (l : List Rcd) (w : World) (hk : Nx w vk l) (hlen : l.length ≤ 10000) : Calls Tryz.prog 60 #[vk] w fun e w' => e = .returned (.bool (okRb l)) ∧ Below w.heap.size w w' := by
 have KX := Lh hk
 have HLN := Lh hlen
 obtain ⟨a, c, rfl, -⟩ := hk
 obtain ⟨n, hn⟩ : ∃ q, q = l.length := ⟨_, rfl⟩
 have HN := Lh hn
 rw [← hn] at KX ⊢
 clear hn hlen
 go_enter Tryz.func60, Tryz.ntmps60
 go_wp2_with fail
 go_loopw [7] (fun t wr => ∃ i : Nat, i ≤ n ∧ t = .int .i64 (i : Int) ∧ (∀ x ∈ l.take i, okR x) ∧ Below w.heap.size w wr) (fun t _ => n - (intOf t).toNat)
 case atStart => exact ⟨0, Nat.zero_le _, rfl, (fun x hx => by simp at hx), Below.refl _ _⟩
 case round =>
   obtain ⟨i, hi, rfl, hP, hB⟩ := hrel
   rename World => wl
   have HP := Lh hP
   have HB := Lh hB
   clear hP hB
   by_cases hlt : i < n
   case neg =>
     obtain rfl : i = n := by omega
     have d1 : decide ((i : Int) < (i : Int)) = false := decide_eq_false (by omega)
     have HALL := Lh (show ∀ x ∈ l, okR x from by
       have := HP.out
       rw [HN.out, List.take_length] at this
       exact this)
     clear hi hlt
     go_wp2_with fail
     go_ret
     exact ⟨by rw [okRb_t HALL.out]; rfl, HB.out⟩
   have d1 : decide ((i : Int) < (n : Int)) = true := decide_eq_true (by omega)
   have d2 : decide (i < n) = true := decide_eq_true hlt
   obtain ⟨b8, o8, rfl, hnx⟩ := nx_at (nx_below KX.out HB.out) hlt
   have HTK := Lh (take_snocR (show i < l.length by have := HN.out; omega))
   obtain ⟨x, hx⟩ : ∃ q, q = l.getD i r0 := ⟨_, rfl⟩
   have HXM := Lh (show x ∈ l from by rw [hx]; exact getD_memR (by have := HN.out; omega))
   rw [← hx] at hnx HTK
   obtain ⟨da, dn, dc, hsz, hdn, hk1, hk2, k0, k1, k2, k3⟩ := hnx
   have HXS := Lh hsz
   have HXB := Lh (And.intro hk1 hk2)
   have HDN := Lh (show J64 (dn : Int) from by unfold maxLen at hdn; unfold J64; omega)
   have HI := Lh hlt
   have p0 : (0 : Int) ≤ (i : Int) := by omega
   have p1 : (i : Int) < (n : Int) := by omega
   have hz := heap_alloc_new wl (.cells #[.int .u64 0, .int .u32 0, .bool false, .slice none 0 0] 67)
   clear hlt hi hx hsz hdn hk1 hk2
   go_upto_region 4 with ((with_reducible refine storeN wl.heap.size _ #[.int .u64 (x.key : Int), .int .u32 (x.ck : Int), .bool x.del, .slice da dn dc] ?_ ?_ hz rfl rfl (nv_one x.key x.ck x.del da dn dc) ?_); exact rfl; exact rfl)
   rw [World.setRow_alloc_new]
   clear k0 k1 k2 k3 p0 p1 d1 d2 hz
   have hb := bel_al wl (.cells #[.int .u64 (x.key : Int), .int .u32 (x.ck : Int), .bool x.del, .slice da dn dc] 67)
   have HNX := Lh (heap_alloc_new wl (.cells #[.int .u64 (x.key : Int), .int .u32 (x.ck : Int), .bool x.del, .slice da dn dc] 67))
   have HB1 := Lh (HB.out.trans (hb.mono HB.out.size))
   clear hb HB
   generalize wl.alloc (.cells #[.int .u64 (x.key : Int), .int .u32 (x.ck : Int), .bool x.del, .slice da dn dc] 67) = wa at *
   generalize wl.heap.size = gx at *
   obtain ⟨⟨y0, y1, y2, y3⟩, -⟩ := bx4 HNX.out
   obtain ⟨v, hv⟩ : ∃ v, v = decide (okR x) := ⟨_, rfl⟩
   have HV := Lh hv
   clear hv
   go_wp2_with fail
   clear y0 y1 y2 y3
   refine (pnvalid_any x da dn dc wa HXS.out).mono ?_
   rintro e W2 ⟨rfl, hb⟩
   rw [← HV.out]
   have HB2 := Lh (HB1.out.trans (hb.mono HB1.out.size))
   clear hb HB1
   cases v
   case false =>
     have HNO := Lh (show ¬ ∀ x ∈ l, okR x from fun h => of_decide_eq_false HV.out.symm (h x HXM.out))
     go_wp2_with fail
     go_ret
     exact ⟨by rw [okRb_f HNO.out]; rfl, HB2.out⟩
   have hw := w64s8 i (by have := HI.out; have := HLN.out; have := HN.out; omega)
   go_wp2_with fail
   go_roundw
   case rel => exact ⟨i + 1, HI.out, by go_num, (fun y hy => by
     rw [HTK.out] at hy
     rcases List.mem_append.1 hy with h | h
     · exact HP.out y h
     · obtain rfl := List.mem_singleton.1 h
       exact of_decide_eq_true HV.out.symm), HB2.out⟩
   case measure => exact meas8 n i HI.out (by have := HLN.out; have := HN.out; omega)
theorem plength_x (vk : Value) (l : List Rcd) (w : World) (hk : Nx w vk l) (hok : ∀ x ∈ l, okR x) (hlen : l.length ≤ 10000) : Calls Tryz.prog 61 #[vk] w fun e w' => e = .returned (.int .i64 (sumR l)) ∧ Below w.heap.size w w' := by
 have KX := Lh hk
 have HLN := Lh hlen
 have HOK := Lh hok
 obtain ⟨a, c, rfl, -⟩ := hk
 obtain ⟨n, hn⟩ : ∃ q, q = l.length := ⟨_, rfl⟩
 have HN := Lh hn
 rw [← hn] at KX ⊢
 clear hn hlen hok
 go_enter Tryz.func61, Tryz.ntmps61
 go_wp2_with fail
 go_loopw [3, 8] (fun s t wr => ∃ i : Nat, i ≤ n ∧ t = .int .i64 (i : Int) ∧ s = .int .i64 (sumR (l.take i)) ∧ Below w.heap.size w wr) (fun _ t _ => n - (intOf t).toNat)
 case atStart => exact ⟨0, Nat.zero_le _, rfl, rfl, Below.refl _ _⟩
 case round =>
   obtain ⟨i, hi, rfl, rfl, hB⟩ := hrel
   rename World => wl
   have HB := Lh hB
   clear hB
   by_cases hlt : i < n
   case neg =>
     obtain rfl : i = n := by omega
     have d1 : decide ((i : Int) < (i : Int)) = false := decide_eq_false (by omega)
     rw [show l.take i = l from by rw [HN.out, List.take_length]]
     clear hi hlt
     go_wp2_with fail
     go_ret
     exact ⟨rfl, HB.out⟩
   have d1 : decide ((i : Int) < (n : Int)) = true := decide_eq_true (by omega)
   have d2 : decide (i < n) = true := decide_eq_true hlt
   obtain ⟨b8, o8, rfl, hnx⟩ := nx_at (nx_below KX.out HB.out) hlt
   have HTK := Lh (take_snocR (show i < l.length by have := HN.out; omega))
   obtain ⟨x, hx⟩ : ∃ q, q = l.getD i r0 := ⟨_, rfl⟩
   have HXM := Lh (show x ∈ l from by rw [hx]; exact getD_memR (by have := HN.out; omega))
   rw [← hx] at hnx HTK
   obtain ⟨da, dn, dc, hsz, hdn, hk1, hk2, k0, k1, k2, k3⟩ := hnx
   have HXS := Lh hsz
   have HXB := Lh (And.intro hk1 hk2)
   have HDN := Lh (show J64 (dn : Int) from by unfold maxLen at hdn; unfold J64; omega)
   have HI := Lh hlt
   have p0 : (0 : Int) ≤ (i : Int) := by omega
   have p1 : (i : Int) < (n : Int) := by omega
   have hz := heap_alloc_new wl (.cells #[.int .u64 0, .int .u32 0, .bool false, .slice none 0 0] 67)
   clear hlt hi hx hsz hdn hk1 hk2
   go_upto_region 5 with ((with_reducible refine storeN wl.heap.size _ #[.int .u64 (x.key : Int), .int .u32 (x.ck : Int), .bool x.del, .slice da dn dc] ?_ ?_ hz rfl rfl (nv_one x.key x.ck x.del da dn dc) ?_); exact rfl; exact rfl)
   rw [World.setRow_alloc_new]
   clear k0 k1 k2 k3 p0 p1 d1 d2 hz
   have hb := bel_al wl (.cells #[.int .u64 (x.key : Int), .int .u32 (x.ck : Int), .bool x.del, .slice da dn dc] 67)
   have HNX := Lh (heap_alloc_new wl (.cells #[.int .u64 (x.key : Int), .int .u32 (x.ck : Int), .bool x.del, .slice da dn dc] 67))
   have HB1 := Lh (HB.out.trans (hb.mono HB.out.size))
   clear hb HB
   generalize wl.alloc (.cells #[.int .u64 (x.key : Int), .int .u32 (x.ck : Int), .bool x.del, .slice da dn dc] 67) = wa at *
   generalize wl.heap.size = gx at *
   obtain ⟨⟨y0, y1, y2, y3⟩, -⟩ := bx4 HNX.out
   obtain ⟨S, hS⟩ : ∃ S, S = sumR (l.take i) := ⟨_, rfl⟩
   obtain ⟨Z, hZ⟩ : ∃ Z, Z = szI6 x.sz := ⟨_, rfl⟩
   have HSN := Lh (show sumR (l.take (i + 1)) = S + Z from by rw [HTK.out, sumR_snoc, hS, hZ])
   have HWR := Lh (show wrap64 (S + Z) = S + Z from by
     have h1 := sumR_hi (l.take i)
     have h2 := sumR_lo (l.take i)
     have h3 := szI6_bd x.sz
     rw [← hS] at h1 h2
     rw [← hZ] at h3
     have h4 : (l.take i).length ≤ 10000 := by rw [List.length_take]; have := HLN.out; omega
     unfold wrap64
     omega)
   have HZ := Lh hZ
   rw [← hS]
   clear hS hZ
   go_wp2_with fail
   clear y0 y1 y2 y3
   refine (pgrec_any (dn : Int) (by rw [← HXS.out]; have := (HOK.out x HXM.out); unfold I64b; have := this.1; have := (HOK.out x HXM.out).2.1; omega) wa).mono ?_
   rintro e W2 ⟨rfl, rfl⟩
   rw [← HXS.out, ← HZ.out]
   have hw := w64s8 i (by have := HI.out; have := HLN.out; have := HN.out; omega)
   have hw2 := HWR.out
   go_wp2_with fail
   go_roundw
   case rel => exact ⟨i + 1, HI.out, by go_num, by rw [HSN.out, HWR.out], HB1.out⟩
   case measure => exact meas8 n i HI.out (by have := HLN.out; have := HN.out; omega)
open Classical in
noncomputable def addC (g : Ge) (l : List Rcd) : Int := if okGe g ∧ ∀ x ∈ l, okR x then (if g.mode = 1 then (if g.size + sumR l ≤ 1048576 then 0 else 9) else 12) else 1
noncomputable def addT (g : Ge) (l : List Rcd) : Ge := if addC g l = 0 then { g with size := g.size + sumR l, m := (addL g.m g.size l).1 } else g0
def AddO (g : Ge) (l : List Rcd) (w : World) (e : Ending) (w' : World) : Prop := (∃ v, e = .returned (.tuple #[v, .int .i64 (addC g l)]) ∧ Gv w' v (addT g l)) ∧ Below w.heap.size w w'
theorem addO_of {g T : Ge} {l : List Rcd} {C : Int} {w w' : World} {e : Ending} (h1 : addC g l = C) (h2 : addT g l = T) (q : (∃ v, e = .returned (.tuple #[v, .int .i64 C]) ∧ Gv w' v T) ∧ Below w.heap.size w w') : AddO g l w e w' := by
 unfold AddO
 rw [h1, h2]
 exact q
theorem addT_bad {g : Ge} {l : List Rcd} (h : addC g l ≠ 0) : addT g l = g0 := by unfold addT; rw [if_neg h]
theorem addO_bad {g : Ge} {l : List Rcd} {w w' : World} {e : Ending} (h : ¬ (okGe g ∧ ∀ x ∈ l, okR x)) (q : (∃ v, e = .returned (.tuple #[v, .int .i64 1]) ∧ Gv w' v g0) ∧ Below w.heap.size w w') : AddO g l w e w' := by
 have hc : addC g l = 1 := by unfold addC; rw [if_neg h]
 exact addO_of hc (addT_bad (by rw [hc]; decide)) q
theorem addO_state {g : Ge} {l : List Rcd} {w w' : World} {e : Ending} (h : okGe g) (h2 : ∀ x ∈ l, okR x) (hm : ¬ g.mode = 1) (q : (∃ v, e = .returned (.tuple #[v, .int .i64 12]) ∧ Gv w' v g0) ∧ Below w.heap.size w w') : AddO g l w e w' := by
 have hc : addC g l = 12 := by unfold addC; rw [if_pos ⟨h, h2⟩, if_neg hm]
 exact addO_of hc (addT_bad (by rw [hc]; decide)) q
theorem addO_full {g : Ge} {l : List Rcd} {w w' : World} {e : Ending} (h : okGe g) (h2 : ∀ x ∈ l, okR x) (hm : g.mode = 1) (hf : 1048576 < g.size + sumR l) (q : (∃ v, e = .returned (.tuple #[v, .int .i64 9]) ∧ Gv w' v g0) ∧ Below w.heap.size w w') : AddO g l w e w' := by
 have hc : addC g l = 9 := by unfold addC; rw [if_pos ⟨h, h2⟩, if_pos hm, if_neg (by omega)]
 exact addO_of hc (addT_bad (by rw [hc]; decide)) q
theorem addO_ok {g : Ge} {l : List Rcd} {E : Int} {M : Mp} {w w' : World} {e : Ending} (h : okGe g) (h2 : ∀ x ∈ l, okR x) (hm : g.mode = 1) (hf : g.size + sumR l ≤ 1048576) (hE : E = g.size + sumR l) (hM : M = (addL g.m g.size l).1) (q : (∃ v, e = .returned (.tuple #[v, .int .i64 0]) ∧ Gv w' v { g with size := E, m := M }) ∧ Below w.heap.size w w') : AddO g l w e w' := by
 have hc : addC g l = 0 := by unfold addC; rw [if_pos ⟨h, h2⟩, if_pos hm, if_pos hf]
 subst hE
 subst hM
 exact addO_of hc (by unfold addT; rw [if_pos hc]) q
theorem pgadd_x (s0 s1 s2 s3 s4 s5 s6 s7 : Value) (g : Ge) (vk : Value) (l : List Rcd) (w : World) (hms : Ms w [s0, s1, s2, s3, s4, s5, s6, s7] g.m) (hj : J64 g.num ∧ J64 g.rev ∧ J64 g.mode ∧ J64 g.size) (hlg : LGe g) (hk : Nx w vk l) (hlen : l.length ≤ 100) : Calls Tryz.prog 27 #[.agg #[.int .i64 g.num, .int .i64 g.rev, .int .i64 g.mode, .int .i64 g.size, s0, s1, s2, s3, s4, s5, s6, s7, .int .i64 g.m.live, .int .i64 g.m.garb], vk] w (AddO g l w) := by
 have q0 := al2 w (.cells #[.int .i64 g.num, .int .i64 g.rev, .int .i64 g.mode, .int .i64 g.size, s0, s1, s2, s3, s4, s5, s6, s7, .int .i64 g.m.live, .int .i64 g.m.garb] 50) (.cells #[.int .i64 0, .int .i64 0, .int .i64 0, .int .i64 0, .slice none 0 0, .slice none 0 0, .slice none 0 0, .slice none 0 0, .slice none 0 0, .slice none 0 0, .slice none 0 0, .slice none 0 0, .int .i64 0, .int .i64 0] 50)
 have HS := Lh q0.1
 have HZ := Lh q0.2.1
 have B0 := Lh q0.2.2
 have MS0 := Lh hms
 have MS := Lh (ms_below hms q0.2.2)
 have HJ := Lh hj
 have HLG := Lh hlg
 have PV := Lh (fun W (h : Gv W (.agg #[.int .i64 g.num, .int .i64 g.rev, .int .i64 g.mode, .int .i64 g.size, s0, s1, s2, s3, s4, s5, s6, s7, .int .i64 g.m.live, .int .i64 g.m.garb]) g) => pgvalid_any (.agg #[.int .i64 g.num, .int .i64 g.rev, .int .i64 g.mode, .int .i64 g.size, s0, s1, s2, s3, s4, s5, s6, s7, .int .i64 g.m.live, .int .i64 g.m.garb]) g W h hlg.1 (Nat.le_trans hlg.2 (by decide)))
 have KX := Lh hk
 have HLN := Lh hlen
 obtain ⟨a, c, rfl, -⟩ := hk
 obtain ⟨n, hn⟩ : ∃ q, q = l.length := ⟨_, rfl⟩
 have HN := Lh hn
 rw [← hn] at KX ⊢
 clear q0 hms hj hlg hlen hn
 go_enter Tryz.func27, Tryz.ntmps27
 go_upto_region 1 with fail
 generalize (w.alloc (.cells #[.int .i64 g.num, .int .i64 g.rev, .int .i64 g.mode, .int .i64 g.size, s0, s1, s2, s3, s4, s5, s6, s7, .int .i64 g.m.live, .int .i64 g.m.garb] 50)).alloc (.cells #[.int .i64 0, .int .i64 0, .int .i64 0, .int .i64 0, .slice none 0 0, .slice none 0 0, .slice none 0 0, .slice none 0 0, .slice none 0 0, .slice none 0 0, .slice none 0 0, .slice none 0 0, .int .i64 0, .int .i64 0] 50) = W0 at *
 obtain ⟨x0, x1, x2, x3, x4, x5, x6, x7, x8, x9, x10, x11, x12, x13⟩ := bx14 HS.out
 go_wp2_with fail
 clear x0 x1 x2 x3 x4 x5 x6 x7 x8 x9 x10 x11 x12 x13
 refine (PV.out W0 ⟨s0, s1, s2, s3, s4, s5, s6, s7, rfl, MS.out, HJ.out⟩).mono ?_
 rintro e W1 ⟨rfl, hb⟩
 have HS1 := Lh ((hb.block _ (lt_of_some HS.out)).trans HS.out)
 have HZ1 := Lh ((hb.block _ (lt_of_some HZ.out)).trans HZ.out)
 have B1 := Lh (B0.out.trans (hb.mono B0.out.size))
 clear hb HS HZ MS B0 PV
 rcases Classical.em (okGe g) with h1 | h1
 case inr =>
   rw [okGb_f h1]
   have HK := Lh h1
   clear h1
   go_wp2_with ((with_reducible refine storeG (w.heap.size + 1) _ #[.int .i64 0, .int .i64 0, .int .i64 0, .int .i64 0, .slice none 0 0, .slice none 0 0, .slice none 0 0, .slice none 0 0, .slice none 0 0, .slice none 0 0, .slice none 0 0, .slice none 0 0, .int .i64 0, .int .i64 0] ?_ ?_ HZ1.out rfl rfl zg_one ?_); exact rfl; exact rfl)
   refine bodyPost_ret (results_rt (S := 50) rfl _ _ (w.heap.size + 1) #[.int .i64 0, .int .i64 0, .int .i64 0, .int .i64 0, .slice none 0 0, .slice none 0 0, .slice none 0 0, .slice none 0 0, .slice none 0 0, .slice none 0 0, .slice none 0 0, .slice none 0 0, .int .i64 0, .int .i64 0] rfl (setRow_heap _ _ _ _ _ _ HZ1.out) Tryz.underlying50 rfl infoG14) rfl ?_
   exact addO_bad (fun h => HK.out h.1) ⟨⟨_, rfl, g0_v _⟩, below_setRowM B1.out (Nat.le_succ _) _⟩
 rw [okGb_t h1]
 have HK := Lh h1
 clear h1
 go_wp2_with fail
 refine (pvneed_x (.slice a n c) l W1 (nx_below KX.out B1.out) (by have := HLN.out; omega)).mono ?_
 rintro e W2 ⟨rfl, hb⟩
 have HS2 := Lh ((hb.block _ (lt_of_some HS1.out)).trans HS1.out)
 have HZ2 := Lh ((hb.block _ (lt_of_some HZ1.out)).trans HZ1.out)
 have B2 := Lh (B1.out.trans (hb.mono B1.out.size))
 clear hb HS1 HZ1 B1
 rcases Classical.em (∀ x ∈ l, okR x) with h1 | h1
 case inr =>
   rw [okRb_f h1]
   have HNR := Lh h1
   clear h1
   go_wp2_with ((with_reducible refine storeG (w.heap.size + 1) _ #[.int .i64 0, .int .i64 0, .int .i64 0, .int .i64 0, .slice none 0 0, .slice none 0 0, .slice none 0 0, .slice none 0 0, .slice none 0 0, .slice none 0 0, .slice none 0 0, .slice none 0 0, .int .i64 0, .int .i64 0] ?_ ?_ HZ2.out rfl rfl zg_one ?_); exact rfl; exact rfl)
   refine bodyPost_ret (results_rt (S := 50) rfl _ _ (w.heap.size + 1) #[.int .i64 0, .int .i64 0, .int .i64 0, .int .i64 0, .slice none 0 0, .slice none 0 0, .slice none 0 0, .slice none 0 0, .slice none 0 0, .slice none 0 0, .slice none 0 0, .slice none 0 0, .int .i64 0, .int .i64 0] rfl (setRow_heap _ _ _ _ _ _ HZ2.out) Tryz.underlying50 rfl infoG14) rfl ?_
   exact addO_bad (fun h => HNR.out h.2) ⟨⟨_, rfl, g0_v _⟩, below_setRowM B2.out (Nat.le_succ _) _⟩
 rw [okRb_t h1]
 have HOKR := Lh h1
 clear h1
 obtain ⟨x0, x1, x2, x3, x4, x5, x6, x7, x8, x9, x10, x11, x12, x13⟩ := bx14 HS2.out
 by_cases h2 : g.mode = 1
 case neg =>
   have d1 : decide (g.mode = 1) = false := decide_eq_false h2
   have d2 : (g.mode == 1) = false := beq_false_of_ne h2
   have d3 : (g.mode != 1) = true := by simp [h2]
   have HMO := Lh h2
   clear h2
   go_wp2_with ((with_reducible refine storeG (w.heap.size + 1) _ #[.int .i64 0, .int .i64 0, .int .i64 0, .int .i64 0, .slice none 0 0, .slice none 0 0, .slice none 0 0, .slice none 0 0, .slice none 0 0, .slice none 0 0, .slice none 0 0, .slice none 0 0, .int .i64 0, .int .i64 0] ?_ ?_ HZ2.out rfl rfl zg_one ?_); exact rfl; exact rfl)
   refine bodyPost_ret (results_rt (S := 50) rfl _ _ (w.heap.size + 1) #[.int .i64 0, .int .i64 0, .int .i64 0, .int .i64 0, .slice none 0 0, .slice none 0 0, .slice none 0 0, .slice none 0 0, .slice none 0 0, .slice none 0 0, .slice none 0 0, .slice none 0 0, .int .i64 0, .int .i64 0] rfl (setRow_heap _ _ _ _ _ _ HZ2.out) Tryz.underlying50 rfl infoG14) rfl ?_
   exact addO_state HK.out HOKR.out HMO.out ⟨⟨_, rfl, g0_v _⟩, below_setRowM B2.out (Nat.le_succ _) _⟩
 have d1 : decide (g.mode = 1) = true := decide_eq_true h2
 have d2 : (g.mode == 1) = true := beq_iff_eq.2 h2
 have d3 : (g.mode != 1) = false := by rw [h2]; rfl
 have HMO := Lh h2
 clear h2
 go_upto_region 5 with fail
 clear x0 x1 x2 x3 x4 x5 x6 x7 x8 x9 x10 x11 x12 x13 d1 d2 d3
 have KX2 := Lh (nx_below KX.out B2.out)
 obtain ⟨E, hE⟩ : ∃ E, E = g.size + sumR l := ⟨_, rfl⟩
 have HE := Lh (show wrap64 (g.size + sumR l) = E ∧ IntKind.i64.wrap (g.size + sumR l) = E from by
   have h1 := sumR_lo l
   have h2 := sumR_hi l
   have h3 := HLN.out
   have h4 := HK.out.hd.s0
   have h5 := HK.out.hd.s1
   rw [hE]
   exact ⟨by unfold wrap64; omega, IntWalk.i64_in _ (by omega)⟩)
 have HEE := Lh hE
 clear hE
 refine wp_onlyN ?_
 refine wp_region_headsS (fun W' => Below W2.heap.size W2 W') [0, 1, 2] 3 (by kernel_rfl) (fun _ _ _ _ _ h => h.elim) (by kernel_rfl) (by rfl) (by rfl) (Below.refl W2.heap.size W2).drew ?_
 simp only [pickOps, List.filterMap_cons, List.filterMap_nil, List.getElem?_toArray, List.getElem?_cons_zero, List.getElem?_cons_succ]
 refine wpHeads_step (fun K hK => ?_)
 go_simp
 refine ⟨_, fun _ _ => rfl, hK _ ?_⟩
 clear hK K
 refine wpHeads_step (fun K hK => ?_)
 go_simp
 refine ⟨.int .i64 g.size, fun w' hw' => by
   obtain ⟨x0, x1, x2, x3, x4, x5, x6, x7, x8, x9, x10, x11, x12, x13⟩ := bx14 ((hw'.block _ (lt_of_some HS2.out)).trans HS2.out)
   go_simp, hK _ ?_⟩
 clear hK K
 refine wpHeads_step (fun K hK => ?_)
 go_simp
 refine ⟨_, fun _ _ => rfl, hK _ ?_⟩
 clear hK K
 refine wpHeads_nil ?_
 have S0 := Lh (Below.refl W2.heap.size W2).drew
 generalize W2.drew = D0 at *
 refine gwq 3 fun K hK => ?_
 go_simp
 go_at_call 61
 refine (plength_x (.slice a n c) l D0 (nx_below KX2.out S0.out) HOKR.out (by have := HLN.out; omega)).mono ?_
 rintro e D1 ⟨rfl, hb⟩
 have S1 := Lh (S0.out.trans (hb.mono S0.out.size))
 refine hK _ _ S1.out ?_
 clear hK K hb S0
 have e1 := HE.out.1
 have e2 := HE.out.2
 refine gwq 4 fun K hK => ?_
 go_simp
 refine hK _ _ S1.out ?_
 clear hK K
 refine gwq 5 fun K hK => ?_
 go_simp
 refine hK _ _ S1.out ?_
 clear hK K
 clear e1 e2
 refine wpAnyH_done (by kernel_rfl) ?_ _
 unfold onlyN
 dsimp only
 have HS3 := Lh ((S1.out.block _ (lt_of_some HS2.out)).trans HS2.out)
 have HZ3 := Lh ((S1.out.block _ (lt_of_some HZ2.out)).trans HZ2.out)
 have B3 := Lh (B2.out.trans (S1.out.mono B2.out.size))
 have MS3 := Lh (ms_below MS0.out B3.out)
 clear S1 HS2 HZ2 B2 KX2
 generalize D1 = W3 at *
 by_cases h3 : 1048576 < E
 · have d1 : decide (1048576 < E) = true := decide_eq_true h3
   have HFU := Lh (show 1048576 < g.size + sumR l from by rw [← HEE.out]; exact h3)
   clear h3
   go_wp2_with ((with_reducible refine storeG (w.heap.size + 1) _ #[.int .i64 0, .int .i64 0, .int .i64 0, .int .i64 0, .slice none 0 0, .slice none 0 0, .slice none 0 0, .slice none 0 0, .slice none 0 0, .slice none 0 0, .slice none 0 0, .slice none 0 0, .int .i64 0, .int .i64 0] ?_ ?_ HZ3.out rfl rfl zg_one ?_); exact rfl; exact rfl)
   refine bodyPost_ret (results_rt (S := 50) rfl _ _ (w.heap.size + 1) #[.int .i64 0, .int .i64 0, .int .i64 0, .int .i64 0, .slice none 0 0, .slice none 0 0, .slice none 0 0, .slice none 0 0, .slice none 0 0, .slice none 0 0, .slice none 0 0, .slice none 0 0, .int .i64 0, .int .i64 0] rfl (setRow_heap _ _ _ _ _ _ HZ3.out) Tryz.underlying50 rfl infoG14) rfl ?_
   exact addO_full HK.out HOKR.out HMO.out HFU.out ⟨⟨_, rfl, g0_v _⟩, below_setRowM B3.out (Nat.le_succ _) _⟩
 have d1 : decide (1048576 < E) = false := decide_eq_false h3
 have HTOP := Lh (show g.size + sumR l ≤ 1048576 from by rw [← HEE.out]; omega)
 have HGS := Lh (okGe_gd HK.out MS3.out.1 HLG.out.2)
 clear h3
 go_upto_region 8 with fail
 clear d1
 refine wp_onlyN ?_
 refine wp_region_headsS (fun W' => Below W3.heap.size W3 W') [0, 1, 3, 4] 3 (by kernel_rfl) (fun _ _ _ _ _ h => h.elim) (by kernel_rfl) (by rfl) (by rfl) (Below.refl W3.heap.size W3).drew ?_
 simp only [pickOps, List.filterMap_cons, List.filterMap_nil, List.getElem?_toArray, List.getElem?_cons_zero, List.getElem?_cons_succ]
 refine wpHeads_step (fun K hK => ?_)
 go_simp
 refine ⟨_, fun _ _ => rfl, hK _ ?_⟩
 clear hK K
 refine wpHeads_step (fun K hK => ?_)
 go_simp
 refine ⟨.agg #[s0, s1, s2, s3, s4, s5, s6, s7, .int .i64 g.m.live, .int .i64 g.m.garb], fun w' hw' => by
   obtain ⟨x0, x1, x2, x3, x4, x5, x6, x7, x8, x9, x10, x11, x12, x13⟩ := bx14 ((hw'.block _ (lt_of_some HS3.out)).trans HS3.out)
   go_simp, hK _ ?_⟩
 clear hK K
 refine wpHeads_step (fun K hK => ?_)
 go_simp
 refine ⟨_, fun _ _ => rfl, hK _ ?_⟩
 clear hK K
 refine wpHeads_step (fun K hK => ?_)
 go_simp
 refine ⟨.int .i64 g.size, fun w' hw' => by
   obtain ⟨x0, x1, x2, x3, x4, x5, x6, x7, x8, x9, x10, x11, x12, x13⟩ := bx14 ((hw'.block _ (lt_of_some HS3.out)).trans HS3.out)
   go_simp, hK _ ?_⟩
 clear hK K
 refine wpHeads_nil ?_
 have S0 := Lh (Below.refl W3.heap.size W3).drew
 generalize W3.drew = D0 at *
 refine gwq 2 fun K hK => ?_
 go_simp
 go_at_call 62
 refine (ptable_x s0 s1 s2 s3 s4 s5 s6 s7 g.m 900 D0 (ms_below MS3.out S0.out) ⟨HK.out.ok, MS3.out.1, HLG.out.2⟩ (by decide)).mono ?_
 rintro e D1 ⟨⟨b, nn, rfl, hbb, hmi, hnn⟩, hb⟩
 have S1 := Lh (S0.out.trans (hb.mono S0.out.size))
 have HMI := Lh hmi
 have HNN := Lh hnn
 have HBB := Lh (show w.heap.size ≤ b from Nat.le_trans (Nat.le_trans B3.out.size S0.out.size) hbb)
 refine hK _ _ S1.out ?_
 clear hK K hb S0 hmi hnn hbb
 refine gwq 5 fun K hK => ?_
 go_simp
 refine hK _ _ S1.out ?_
 clear hK K
 refine gwq 6 fun K hK => ?_
 go_simp
 refine hK _ _ S1.out ?_
 clear hK K
 refine wpAnyH_done (by kernel_rfl) ?_ _
 unfold onlyN
 dsimp only
 have HS4 := Lh ((S1.out.block _ (lt_of_some HS3.out)).trans HS3.out)
 have HZ4 := Lh ((S1.out.block _ (lt_of_some HZ3.out)).trans HZ3.out)
 have B4 := Lh (B3.out.trans (S1.out.mono B3.out.size))
 clear S1 HS3 HZ3 B3 MS3
 generalize D1 = W4 at *
 rw [← HEE.out] at HTOP
 rw [HEE.out] at HTOP
 go_wp2_with fail
 go_loopw [8, 39] (fun s t wr => ∃ i : Nat, i ≤ n ∧ t = .int .i64 (i : Int) ∧ s = .int .i64 (g.size + sumR (l.take i)) ∧ MI Tryz.prog 53 wr b (nn + i) (gO (addL g.m g.size (l.take i)).1) ∧ wr.heap[w.heap.size]? = some (.cells #[.int .i64 g.num, .int .i64 g.rev, .int .i64 g.mode, .int .i64 g.size, s0, s1, s2, s3, s4, s5, s6, s7, .int .i64 g.m.live, .int .i64 g.m.garb] 50 (0, 0)) ∧ wr.heap[w.heap.size + 1]? = some (.cells #[.int .i64 0, .int .i64 0, .int .i64 0, .int .i64 0, .slice none 0 0, .slice none 0 0, .slice none 0 0, .slice none 0 0, .slice none 0 0, .slice none 0 0, .slice none 0 0, .slice none 0 0, .int .i64 0, .int .i64 0] 50 (0, 0)) ∧ Below w.heap.size w wr) (fun _ t _ => n - (intOf t).toNat)
 case atStart => exact ⟨0, Nat.zero_le _, rfl, by simp [sumR], HMI.out, HS4.out, HZ4.out, B4.out⟩
 case round =>
   obtain ⟨i, hi, rfl, rfl, hm, hs, hz, hB⟩ := hrel
   rename World => wl
   have HM1 := Lh hm
   have HS5 := Lh hs
   have HZ5 := Lh hz
   have B5 := Lh hB
   clear hm hs hz hB HS4 HZ4 B4 HMI
   by_cases hlt : i < n
   case neg =>
     obtain rfl : i = n := by omega
     have d1 : decide ((i : Int) < (i : Int)) = false := decide_eq_false (by omega)
     have MS5 := Lh (ms_below MS0.out B5.out)
     have HE2 := Lh (show l.take i = l from by rw [HN.out, List.take_length])
     rw [HE2.out] at HM1
     have HGA := Lh (gdS_addL l HGS.out (by have := HLN.out; omega) HK.out.hd.s8 HK.out.hd.s0 HOKR.out HTOP.out).1
     rw [← HEE.out] at HGA
     clear hi hlt
     obtain ⟨M, hM⟩ : ∃ M, M = (addL g.m g.size l).1 := ⟨_, rfl⟩
     have HMM := Lh hM
     rw [← hM] at HM1 HGA
     clear hM
     have HE16 := Lh (show 16 ≤ E from by rw [HEE.out]; have := sumR_lo l; have := HK.out.hd.s0; omega)
     obtain ⟨x0, x1, x2, x3, x4, x5, x6, x7, x8, x9, x10, x11, x12, x13⟩ := bx14 HS5.out
     go_wp2_with fail
     clear x0 x1 x2 x3 x4 x5 x6 x7 x8 x9 x10 x11 x12 x13 d1
     refine (pfilled_x s0 s1 s2 s3 s4 s5 s6 s7 g E b (nn + i) M (900 + l.length) wl MS5.out HJ.out HM1.out (by have := HNN.out; have := HLN.out; have := HN.out; omega) HGA.out HE16.out).mono ?_
     rintro e W6 ⟨⟨v, rfl, hgv⟩, hb⟩
     obtain ⟨r0, r1, r2, r3, r4, r5, r6, r7, rfl, hmr, hjr⟩ := hgv
     have HZ6 := Lh ((hb.block _ (lt_of_some HZ5.out)).trans HZ5.out)
     have B6 := Lh (B5.out.trans (hb.mono B5.out.size))
     have MR := Lh hmr
     have HJR := Lh hjr
     have ON := Lh (gc_one (g := { g with size := E, m := M }) hmr)
     clear hb hmr hjr HS5 HZ5 B5
     go_wp2_with ((with_reducible refine storeG (w.heap.size + 1) _ #[.int .i64 g.num, .int .i64 g.rev, .int .i64 g.mode, .int .i64 E, r0, r1, r2, r3, r4, r5, r6, r7, .int .i64 M.live, .int .i64 M.garb] ?_ ?_ HZ6.out rfl rfl ON.out ?_); exact rfl; exact rfl)
     refine bodyPost_ret (results_rt (S := 50) rfl _ _ (w.heap.size + 1) #[.int .i64 g.num, .int .i64 g.rev, .int .i64 g.mode, .int .i64 E, r0, r1, r2, r3, r4, r5, r6, r7, .int .i64 M.live, .int .i64 M.garb] rfl (setRow_heap _ _ _ _ _ _ HZ6.out) Tryz.underlying50 rfl infoG14) rfl ?_
     exact addO_ok HK.out HOKR.out HMO.out HTOP.out HEE.out HMM.out ⟨⟨_, rfl, r0, r1, r2, r3, r4, r5, r6, r7, rfl, ms_setRowF MR.out HZ6.out zeroG_u64, HJR.out⟩, below_setRowM B6.out (Nat.le_succ _) _⟩
   have d1 : decide ((i : Int) < (n : Int)) = true := decide_eq_true (by omega)
   have d2 : decide (i < n) = true := decide_eq_true hlt
   obtain ⟨b8, o8, rfl, hnx⟩ := nx_at (nx_below KX.out B5.out) hlt
   have HTK := Lh (take_snocR (show i < l.length by have := HN.out; omega))
   obtain ⟨x, hx⟩ : ∃ q, q = l.getD i r0 := ⟨_, rfl⟩
   have HXM := Lh (show x ∈ l from by rw [hx]; exact getD_memR (by have := HN.out; omega))
   rw [← hx] at hnx HTK
   obtain ⟨da, dn, dc, hsz, hdn, hk1, hk2, k0, k1, k2, k3⟩ := hnx
   have HXS := Lh hsz
   have HXB := Lh (And.intro hk1 hk2)
   have HDN := Lh (show J64 (dn : Int) from by unfold maxLen at hdn; unfold J64; omega)
   have HI := Lh hlt
   have p0 : (0 : Int) ≤ (i : Int) := by omega
   have p1 : (i : Int) < (n : Int) := by omega
   have hz := heap_alloc_new wl (.cells #[.int .u64 0, .int .u32 0, .bool false, .slice none 0 0] 67)
   clear hlt hi hx hsz hdn hk1 hk2
   go_upto_region 12 with ((with_reducible refine storeN wl.heap.size _ #[.int .u64 (x.key : Int), .int .u32 (x.ck : Int), .bool x.del, .slice da dn dc] ?_ ?_ hz rfl rfl (nv_one x.key x.ck x.del da dn dc) ?_); exact rfl; exact rfl)
   rw [World.setRow_alloc_new]
   clear k0 k1 k2 k3 p0 p1 d1 d2 hz
   have hb := bel_al wl (.cells #[.int .u64 (x.key : Int), .int .u32 (x.ck : Int), .bool x.del, .slice da dn dc] 67)
   have HNX := Lh (heap_alloc_new wl (.cells #[.int .u64 (x.key : Int), .int .u32 (x.ck : Int), .bool x.del, .slice da dn dc] 67))
   have HM2 := Lh (mi_below HM1.out hb)
   have HS6 := Lh ((hb.block _ (lt_of_some HS5.out)).trans HS5.out)
   have HZ6 := Lh ((hb.block _ (lt_of_some HZ5.out)).trans HZ5.out)
   have B6 := Lh (B5.out.trans (hb.mono B5.out.size))
   clear hb HM1 HS5 HZ5 B5
   generalize wl.alloc (.cells #[.int .u64 (x.key : Int), .int .u32 (x.ck : Int), .bool x.del, .slice da dn dc] 67) = wa at *
   generalize wl.heap.size = gx at *
   obtain ⟨⟨y0, y1, y2, y3⟩, -⟩ := bx4 HNX.out
   obtain ⟨F, hF⟩ : ∃ F : Int, F = g.size + sumR (l.take i) := ⟨_, rfl⟩
   obtain ⟨Z, hZ⟩ : ∃ Z, Z = szI6 x.sz := ⟨_, rfl⟩
   have HXR := Lh (HOKR.out x HXM.out)
   have HSL := Lh (show sumR (l.take i) + Z ≤ sumR l from by
     have h := sumR_take l (i + 1)
     rw [HTK.out, sumR_snoc, ← hZ] at h
     exact h)
   have HSN := Lh (show g.size + sumR (l.take (i + 1)) = F + Z from by rw [HTK.out, sumR_snoc, hF, hZ]; omega)
   have HGI := gdS_addL (l.take i) HGS.out (by rw [List.length_take]; have := HLN.out; omega) HK.out.hd.s8 HK.out.hd.s0 (fun y hy => HOKR.out y (List.mem_of_mem_take hy)) (by have := HSL.out; have := HTOP.out; have := (szI6_bd x.sz).1; omega)
   have HF16 := Lh (show 16 ≤ F ∧ F ≤ 1048576 from by rw [hF]; have := sumR_lo (l.take i); have := HK.out.hd.s0; have := HSL.out; have := HTOP.out; have := (szI6_bd x.sz).1; omega)
   rw [← hF] at HGI
   have HNX2 := (gdS_add HGI.1 (by rw [List.length_take]; have := HLN.out; have := HI.out; have := HN.out; omega) HGI.2.1 HF16.out.1 HXR.out (by rw [hF, ← hZ]; have := HSL.out; have := HTOP.out; omega)).2.2
   have HNXQ := Lh (show ∀ q, gO (addL g.m g.size (l.take (i + 1))).1 q = if x.key = q then (if x.del = true then none else some ⟨x.key, x.ck, F, x.sz⟩) else gO (addL g.m g.size (l.take i)).1 q from fun q => by
     rw [← HNX2 q, HTK.out, addL_snoc]
     have e : (addL g.m g.size (l.take i)).2 = F := by rw [addL_sz, hF]
     rw [← e])
   have HWR := Lh (show wrap64 (F + Z) = F + Z from by
     have h1 := HF16.out
     have h3 := szI6_bd x.sz
     rw [← hZ] at h3
     unfold wrap64
     omega)
   have HZZ := Lh hZ
   have HFE := Lh hF
   rw [← hF]
   clear hF hZ HGI HNX2
   have HNM := Lh (show nn + i < maxLen from by unfold maxLen; have := HNN.out; have := HI.out; have := HLN.out; have := HN.out; omega)
   obtain ⟨key, ck, del, sz⟩ := x
   simp only at HXS HXB HNX HNXQ HXR HZZ HTK ⊢
   have HSZ := HXS.out
   subst HSZ
   have hw := w64s8 i (by have := HI.out; have := HLN.out; have := HN.out; omega)
   have hw2 := HWR.out
   cases del
   · go_wp2_with (first | (at_mapUpdate; refine mi_put (y := ⟨key, ck, F, (dn : Int)⟩) Tryz.underlying53 Tryz.underlying107 rfl rfl HM2.out HNM.out ⟨HXB.out.1, HXB.out.2, (show J64 F from by have := HF16.out; unfold J64; omega), HDN.out⟩ rfl rfl rfl ?_; intro W7 hm7 hg7; have HM7 := Lh hm7; have HS7 := Lh (heap_mi HS6.out HM2.out hg7); have HZ7 := Lh (heap_mi HZ6.out HM2.out hg7); have B7 := Lh (B6.out.grown hg7 B6.out.size (fun j hj => by cases hj; exact HBB.out)); have HN7 := Lh (heap_mi HNX.out HM2.out hg7); clear hm7 hg7; clear y0 y1 y2 y3; obtain ⟨⟨y0, y1, y2, y3⟩, -⟩ := bx4 HN7.out) | (go_at_call 63; refine (pgrec_any (dn : Int) (by have := HXR.out.1; have := HXR.out.2.1; unfold I64b; simp only at *; omega) _).mono ?_; rintro e W8 ⟨rfl, rfl⟩; rw [← HZZ.out]))
     go_roundw
     case rel => exact ⟨i + 1, HI.out, by go_num, by rw [HSN.out, HWR.out], by
       have e : gO (addL g.m g.size (l.take (i + 1))).1 = (fun q => if key = q then some ⟨key, ck, F, (dn : Int)⟩ else gO (addL g.m g.size (l.take i)).1 q) := funext fun q => by rw [HNXQ.out q]; simp
       rw [e, ← Nat.add_assoc]
       exact HM7.out, HS7.out, HZ7.out, B7.out⟩
     case measure => exact meas8 n i HI.out (by have := HLN.out; have := HN.out; omega)
   · go_wp2_with (first | (at_delete; refine mi_del Tryz.underlying53 Tryz.underlying107 rfl rfl HM2.out HXB.out.1 rfl rfl ?_; intro W7 hm7 hg7; have HM7 := Lh (mi_mono hm7 (Nat.le_succ (nn + i))); have HS7 := Lh (heap_mi HS6.out HM2.out hg7); have HZ7 := Lh (heap_mi HZ6.out HM2.out hg7); have B7 := Lh (B6.out.grown hg7 B6.out.size (fun j hj => by cases hj; exact HBB.out)); have HN7 := Lh (heap_mi HNX.out HM2.out hg7); clear hm7 hg7; clear y0 y1 y2 y3; obtain ⟨⟨y0, y1, y2, y3⟩, -⟩ := bx4 HN7.out) | (go_at_call 63; refine (pgrec_any (dn : Int) (by have := HXR.out.1; have := HXR.out.2.1; unfold I64b; simp only at *; omega) _).mono ?_; rintro e W8 ⟨rfl, rfl⟩; rw [← HZZ.out]))
     go_roundw
     case rel => exact ⟨i + 1, HI.out, by go_num, by rw [HSN.out, HWR.out], by
       have e : gO (addL g.m g.size (l.take (i + 1))).1 = (fun q => if key = q then none else gO (addL g.m g.size (l.take i)).1 q) := funext fun q => by rw [HNXQ.out q]; simp
       rw [e, ← Nat.add_assoc]
       exact HM7.out, HS7.out, HZ7.out, B7.out⟩
     case measure => exact meas8 n i HI.out (by have := HLN.out; have := HN.out; omega)
end Go.Proofs.YtbmlpafbdbhaiaaGreatDoor.Gf
