/- What is proved here: Waste, Put, Delete of the reference. -/
import Derived.Test.YtlooldnaoooehaaP11w
import Derived.Test.YtlooldnaoooehaaP11r
import Derived.Test.YtlooldnaoooehaaP11v
namespace Go.Proofs.Ytlooldnaoooehaa.Gf
open Go Go.Joins Go.ChangeShapes Go.WideShapes Go.ChangeAt Go.RowKit Go.Deep Go.Proofs.Ytlooldnaoooehaa.By Go.Proofs.Ytlooldnaoooehaa.Qt

theorem al2 (w : World) (o1 o2 : Obj) : ((w.alloc o1).alloc o2).heap[w.heap.size]? = some o1 ∧ ((w.alloc o1).alloc o2).heap[w.heap.size + 1]? = some o2 ∧ Below w.heap.size w ((w.alloc o1).alloc o2) := by
  have q1 := bel_al w o1
  have q2 := bel_al (w.alloc o1) o2
  have h1 := heap_alloc_new w o1
  have h2 := heap_alloc_new (w.alloc o1) o2
  have hsz : (w.alloc o1).heap.size = w.heap.size + 1 := by simp
  rw [hsz] at h2
  exact ⟨(q2.block _ (lt_of_some h1)).trans h1, h2, q1.trans (q2.mono q1.size)⟩
theorem al3 (w : World) (o1 o2 o3 : Obj) : (((w.alloc o1).alloc o2).alloc o3).heap[w.heap.size]? = some o1 ∧ (((w.alloc o1).alloc o2).alloc o3).heap[w.heap.size + 1]? = some o2 ∧ (((w.alloc o1).alloc o2).alloc o3).heap[w.heap.size + 2]? = some o3 ∧ Below w.heap.size w (((w.alloc o1).alloc o2).alloc o3) := by
  obtain ⟨h1, h2, h3⟩ := al2 w o1 o2
  have q3 := bel_al ((w.alloc o1).alloc o2) o3
  have h4 := heap_alloc_new ((w.alloc o1).alloc o2) o3
  have hsz : ((w.alloc o1).alloc o2).heap.size = w.heap.size + 2 := by simp
  rw [hsz] at h4
  exact ⟨(q3.block _ (lt_of_some h1)).trans h1, (q3.block _ (lt_of_some h2)).trans h2, h4, h3.trans (q3.mono h3.size)⟩
theorem SBx.row {w a : World} {L : List (Nat × Obj)} {g : Nat} (h : SBx w L a) (hg : w.heap.size ≤ g) (hL : ∀ p ∈ L, p.1 ≠ g) (cs : Array Value) : SBx w L (a.setRow g cs) := ⟨below_setRowM h.bel hg cs, fun p hp => (setRow_other a g p.1 cs (hL p hp)).trans (h.box p hp)⟩
set_option maxRecDepth 100000 in
set_option maxHeartbeats 25600000 in
theorem rwaste_any (v : Value) (m : Mp) (n : Int) (w : World) (hv : Mv w v m) (hf : Few m) (_hn : J64 n) : Calls Try.prog 32 #[v, .int .i64 n] w (MO w (wasteM m n)) := by
  have PV := Lib.hid (fun W (h : Below w.heap.size w W) => rvalid11_any v m W (mv_below hv h) hf)
  obtain ⟨s0, s1, s2, s3, s4, s5, s6, s7, rfl, hms⟩ := hv
  have A2 := al2 w (.cells #[s0, s1, s2, s3, s4, s5, s6, s7, .int .i64 m.live, .int .i64 m.garb] 25) (.cells #[.slice none 0 0, .slice none 0 0, .slice none 0 0, .slice none 0 0, .slice none 0 0, .slice none 0 0, .slice none 0 0, .slice none 0 0, .int .i64 0, .int .i64 0] 25)
  have HM2 := Lib.hid A2.1
  have HZ2 := Lib.hid A2.2.1
  have B2 := Lib.hid A2.2.2
  have MS2 := Lib.hid (ms_below hms A2.2.2)
  clear hms A2
  go_enter Try.func32, Try.ntmps32
  go_upto_region 1 with fail
  generalize (w.alloc (.cells #[s0, s1, s2, s3, s4, s5, s6, s7, .int .i64 m.live, .int .i64 m.garb] 25)).alloc (.cells #[.slice none 0 0, .slice none 0 0, .slice none 0 0, .slice none 0 0, .slice none 0 0, .slice none 0 0, .slice none 0 0, .slice none 0 0, .int .i64 0, .int .i64 0] 25) = W2 at *
  have PV2 := Lib.hid (PV.out W2 B2.out)
  clear PV
  by_cases hok : okM m
  case neg =>
    rw [okMb_f hok] at PV2
    have HE := Lib.hid (show wasteM m n = m by unfold wasteM; rw [if_neg (fun h => hok h.1)])
    clear hok
    obtain ⟨x0, x1, x2, x3, x4, x5, x6, x7, x8, x9⟩ := bx10 HM2.out
    go_wp2_with fail
    clear x0 x1 x2 x3 x4 x5 x6 x7 x8 x9
    refine PV2.out.mono ?_
    rintro e w3 ⟨rfl, hb⟩
    have HM3 := Lib.hid ((hb.block _ (lt_of_some HM2.out)).trans HM2.out)
    have HZ3 := Lib.hid ((hb.block _ (lt_of_some HZ2.out)).trans HZ2.out)
    have MS3 := Lib.hid (ms_below MS2.out hb)
    have B3 := Lib.hid (B2.out.trans (hb.mono B2.out.size))
    clear hb B2 HM2 HZ2 MS2
    go_upto_region 3 with fail
    have ON := Lib.hid (ms_one MS3.out m.live m.garb)
    obtain ⟨x0, x1, x2, x3, x4, x5, x6, x7, x8, x9⟩ := bx10 HM3.out
    go_wp2_with ((with_reducible refine storeR (w.heap.size + 1) _ #[s0, s1, s2, s3, s4, s5, s6, s7, .int .i64 m.live, .int .i64 m.garb] ?_ ?_ HZ3.out rfl rfl ON.out ?_); exact rfl; exact rfl)
    refine ro_end (fn := Try.f32) rfl (w.heap.size + 1) rfl (setRow_heap _ _ _ _ _ _ HZ3.out) ?_
    rw [HE.out]
    exact ⟨⟨_, rfl, s0, s1, s2, s3, s4, s5, s6, s7, rfl, ms_setRowR MS3.out HZ3.out⟩, below_setRowM B3.out (Nat.le_succ w.heap.size) _⟩
  rw [okMb_t hok] at PV2
  have hlo := hok.lo
  have hhi := hok.hi
  obtain ⟨q1, hq1⟩ : ∃ q : Bool, q = decide (0 ≤ n) := ⟨_, rfl⟩
  obtain ⟨q2, hq2⟩ : ∃ q : Bool, q = decide (n ≤ 1099511627776 - m.garb) := ⟨_, rfl⟩
  have l1 : decide (0 ≤ n) = q1 := hq1.symm
  have l2 : decide (n ≤ 1099511627776 - m.garb) = q2 := hq2.symm
  have ew : wrap64 (1099511627776 - m.garb) = 1099511627776 - m.garb := by unfold wrap64; omega
  have HQ := Lib.hid (And.intro hq1 hq2)
  have HOK := Lib.hid hok
  clear hq1 hq2 hlo hhi hok
  obtain ⟨x0, x1, x2, x3, x4, x5, x6, x7, x8, x9⟩ := bx10 HM2.out
  go_wp2_with fail
  clear x0 x1 x2 x3 x4 x5 x6 x7 x8 x9
  refine PV2.out.mono ?_
  rintro e w3 ⟨rfl, hb⟩
  have HM3 := Lib.hid ((hb.block _ (lt_of_some HM2.out)).trans HM2.out)
  have HZ3 := Lib.hid ((hb.block _ (lt_of_some HZ2.out)).trans HZ2.out)
  have MS3 := Lib.hid (ms_below MS2.out hb)
  have B3 := Lib.hid (B2.out.trans (hb.mono B2.out.size))
  clear hb B2 HM2 HZ2 MS2
  obtain ⟨x0, x1, x2, x3, x4, x5, x6, x7, x8, x9⟩ := bx10 HM3.out
  cases q1
  case false =>
    have HE := Lib.hid (show wasteM m n = m by unfold wasteM; rw [if_neg (fun h => of_decide_eq_false HQ.out.1.symm h.2.1)])
    go_upto_region 3 with fail
    clear x0 x1 x2 x3 x4 x5 x6 x7 x8 x9
    clear l1 l2 ew
    have ON := Lib.hid (ms_one MS3.out m.live m.garb)
    obtain ⟨x0, x1, x2, x3, x4, x5, x6, x7, x8, x9⟩ := bx10 HM3.out
    go_wp2_with ((with_reducible refine storeR (w.heap.size + 1) _ #[s0, s1, s2, s3, s4, s5, s6, s7, .int .i64 m.live, .int .i64 m.garb] ?_ ?_ HZ3.out rfl rfl ON.out ?_); exact rfl; exact rfl)
    refine ro_end (fn := Try.f32) rfl (w.heap.size + 1) rfl (setRow_heap _ _ _ _ _ _ HZ3.out) ?_
    rw [HE.out]
    exact ⟨⟨_, rfl, s0, s1, s2, s3, s4, s5, s6, s7, rfl, ms_setRowR MS3.out HZ3.out⟩, below_setRowM B3.out (Nat.le_succ w.heap.size) _⟩
  cases q2
  case false =>
    have HE := Lib.hid (show wasteM m n = m by unfold wasteM G40; rw [if_neg (fun h => of_decide_eq_false HQ.out.2.symm h.2.2)])
    go_upto_region 3 with fail
    clear x0 x1 x2 x3 x4 x5 x6 x7 x8 x9
    clear l1 l2 ew
    have ON := Lib.hid (ms_one MS3.out m.live m.garb)
    obtain ⟨x0, x1, x2, x3, x4, x5, x6, x7, x8, x9⟩ := bx10 HM3.out
    go_wp2_with ((with_reducible refine storeR (w.heap.size + 1) _ #[s0, s1, s2, s3, s4, s5, s6, s7, .int .i64 m.live, .int .i64 m.garb] ?_ ?_ HZ3.out rfl rfl ON.out ?_); exact rfl; exact rfl)
    refine ro_end (fn := Try.f32) rfl (w.heap.size + 1) rfl (setRow_heap _ _ _ _ _ _ HZ3.out) ?_
    rw [HE.out]
    exact ⟨⟨_, rfl, s0, s1, s2, s3, s4, s5, s6, s7, rfl, ms_setRowR MS3.out HZ3.out⟩, below_setRowM B3.out (Nat.le_succ w.heap.size) _⟩
  have h0 : 0 ≤ n := of_decide_eq_true HQ.out.1.symm
  have h1 : n ≤ 1099511627776 - m.garb := of_decide_eq_true HQ.out.2.symm
  have HE := Lib.hid (show wasteM m n = ⟨m.st, m.live, m.garb + n⟩ by unfold wasteM G40; rw [if_pos ⟨HOK.out, h0, h1⟩])
  have ew2 : wrap64 (m.garb + n) = m.garb + n := by have := HOK.out.lo; unfold wrap64; omega
  have HJ := Lib.hid (show J64 (m.garb + n) by have := HOK.out.lo; unfold J64; omega)
  obtain ⟨-, -, -, -, -, -, -, -, -, f9⟩ := fz10 HM3.out
  clear h0 h1
  go_upto_region 3 with fail
  clear x0 x1 x2 x3 x4 x5 x6 x7 x8 x9
  clear l1 l2 ew ew2 f9
  have hs := heap_setCell_same w3 w.heap.size 9 _ _ (.int .i64 (m.garb + n)) HM3.out
  have HM4 := Lib.hid (show (w3.setCell ⟨w.heap.size, 9, none⟩ (.int .i64 (m.garb + n))).heap[w.heap.size]? = some (.cells #[s0, s1, s2, s3, s4, s5, s6, s7, .int .i64 m.live, .int .i64 (m.garb + n)] 25 (0, 0)) from hs)
  have HZ4 := Lib.hid (show (w3.setCell ⟨w.heap.size, 9, none⟩ (.int .i64 (m.garb + n))).heap[w.heap.size + 1]? = some (.cells #[.slice none 0 0, .slice none 0 0, .slice none 0 0, .slice none 0 0, .slice none 0 0, .slice none 0 0, .slice none 0 0, .slice none 0 0, .int .i64 0, .int .i64 0] 25 (0, 0)) by rw [heap_setCell_other _ _ _ _ (show w.heap.size + 1 ≠ w.heap.size by omega)]; exact HZ3.out)
  have B4 := Lib.hid (B3.out.setCell (p := ⟨w.heap.size, 9, none⟩) (Nat.le_refl _) (.int .i64 (m.garb + n)))
  have MS4 := Lib.hid (show Ms (w3.setCell ⟨w.heap.size, 9, none⟩ (.int .i64 (m.garb + n))) [s0, s1, s2, s3, s4, s5, s6, s7] ⟨m.st, m.live, m.garb + n⟩ from ⟨MS3.out.1, MS3.out.2.1, HJ.out, fun k hk => by
    obtain ⟨a, c, h1, h2⟩ := MS3.out.2.2.2 k hk
    exact ⟨a, c, h1, it_keepM h2 HM3.out (ms_u64 MS3.out m.live m.garb) fun b hb => heap_setCell_other _ _ _ _ hb⟩⟩)
  clear hs HM3 HZ3 B3 MS3
  generalize w3.setCell ⟨w.heap.size, 9, none⟩ (.int .i64 (m.garb + n)) = w4 at *
  have ON := Lib.hid (ms_one MS4.out m.live (m.garb + n))
  obtain ⟨x0, x1, x2, x3, x4, x5, x6, x7, x8, x9⟩ := bx10 HM4.out
  go_wp2_with ((with_reducible refine storeR (w.heap.size + 1) _ #[s0, s1, s2, s3, s4, s5, s6, s7, .int .i64 m.live, .int .i64 (m.garb + n)] ?_ ?_ HZ4.out rfl rfl ON.out ?_); exact rfl; exact rfl)
  refine ro_end (fn := Try.f32) rfl (w.heap.size + 1) rfl (setRow_heap _ _ _ _ _ _ HZ4.out) ?_
  rw [HE.out]
  exact ⟨⟨_, rfl, s0, s1, s2, s3, s4, s5, s6, s7, rfl, ms_setRowR MS4.out HZ4.out⟩, below_setRowM B4.out (Nat.le_succ _) _⟩
set_option maxRecDepth 100000 in
set_option maxHeartbeats 25600000 in
theorem rput11_any (v : Value) (m : Mp) (x : Itm) (w : World) (hv : Mv w v m) (hf : Few m) (hn : m.st.flatten.length ≤ 900) (hx : ItOk x) : Calls Try.prog 28 #[v, TV x] w (MO w (putM m x)) := by
  have PV := Lib.hid (fun W (h : Below w.heap.size w W) => rvalid11_any v m W (mv_below hv h) hf)
  have PG := Lib.hid (fun W (h : Below w.heap.size w W) => rget11_any v m x.key W (mv_below hv h) hf)
  have PJ := Lib.hid (fun W (h : Below w.heap.size w W) => ritems11_any v m W (mv_below hv h) hf)
  have PI := Lib.hid (fun W => rvitem_any x W)
  have HX := Lib.hid hx
  have HN := Lib.hid hn
  obtain ⟨s0, s1, s2, s3, s4, s5, s6, s7, rfl, hms⟩ := hv
  have A3 := al3 w (.cells #[s0, s1, s2, s3, s4, s5, s6, s7, .int .i64 m.live, .int .i64 m.garb] 25) (.cells #[.int .u64 (x.key : Int), .int .u32 (x.ck : Int), .int .i64 x.off, .int .i64 x.sz] 37) (.cells #[.slice none 0 0, .slice none 0 0, .slice none 0 0, .slice none 0 0, .slice none 0 0, .slice none 0 0, .slice none 0 0, .slice none 0 0, .int .i64 0, .int .i64 0] 25)
  have HM2 := Lib.hid A3.1
  have HI2 := Lib.hid A3.2.1
  have HZ2 := Lib.hid A3.2.2.1
  have B2 := Lib.hid A3.2.2.2
  have MS2 := Lib.hid (ms_below hms A3.2.2.2)
  clear hms A3 hf hx hn
  unfold TV at PI ⊢
  go_enter Try.func28, Try.ntmps28
  go_upto_region 1 with fail
  generalize ((w.alloc (.cells #[s0, s1, s2, s3, s4, s5, s6, s7, .int .i64 m.live, .int .i64 m.garb] 25)).alloc (.cells #[.int .u64 (x.key : Int), .int .u32 (x.ck : Int), .int .i64 x.off, .int .i64 x.sz] 37)).alloc (.cells #[.slice none 0 0, .slice none 0 0, .slice none 0 0, .slice none 0 0, .slice none 0 0, .slice none 0 0, .slice none 0 0, .slice none 0 0, .int .i64 0, .int .i64 0] 25) = W2 at *
  have PV2 := Lib.hid (PV.out W2 B2.out)
  clear PV
  by_cases hok : okM m
  case neg =>
    rw [okMb_f hok] at PV2
    have HE := Lib.hid (show putM m x = m by unfold putM; rw [if_neg (fun h => hok h.1)])
    clear hok
    obtain ⟨x0, x1, x2, x3, x4, x5, x6, x7, x8, x9⟩ := bx10 HM2.out
    go_wp2_with fail
    clear x0 x1 x2 x3 x4 x5 x6 x7 x8 x9
    refine PV2.out.mono ?_
    rintro e w3 ⟨rfl, hb⟩
    have HM3 := Lib.hid ((hb.block _ (lt_of_some HM2.out)).trans HM2.out)
    have HZ3 := Lib.hid ((hb.block _ (lt_of_some HZ2.out)).trans HZ2.out)
    have HI3 := Lib.hid ((hb.block _ (lt_of_some HI2.out)).trans HI2.out)
    have MS3 := Lib.hid (ms_below MS2.out hb)
    have B3 := Lib.hid (B2.out.trans (hb.mono B2.out.size))
    clear hb B2 HM2 HZ2 HI2 MS2
    go_upto_region 2 with fail
    have ON := Lib.hid (ms_one MS3.out m.live m.garb)
    obtain ⟨x0, x1, x2, x3, x4, x5, x6, x7, x8, x9⟩ := bx10 HM3.out
    go_wp2_with ((with_reducible refine storeR (w.heap.size + 2) _ #[s0, s1, s2, s3, s4, s5, s6, s7, .int .i64 m.live, .int .i64 m.garb] ?_ ?_ HZ3.out rfl rfl ON.out ?_); exact rfl; exact rfl)
    refine ro_end (fn := Try.f28) rfl (w.heap.size + 2) rfl (setRow_heap _ _ _ _ _ _ HZ3.out) ?_
    rw [HE.out]
    exact ⟨⟨_, rfl, s0, s1, s2, s3, s4, s5, s6, s7, rfl, ms_setRowR MS3.out HZ3.out⟩, below_setRowM B3.out (Nat.le_add_right w.heap.size 2) _⟩
  rw [okMb_t hok] at PV2
  have HOK := Lib.hid hok
  have HLEN := Lib.hid MS2.out.1
  obtain ⟨x0, x1, x2, x3, x4, x5, x6, x7, x8, x9⟩ := bx10 HM2.out
  clear hok
  go_wp2_with fail
  clear x0 x1 x2 x3 x4 x5 x6 x7 x8 x9
  refine PV2.out.mono ?_
  rintro e w3 ⟨rfl, hb⟩
  have HM3 := Lib.hid ((hb.block _ (lt_of_some HM2.out)).trans HM2.out)
  have HZ3 := Lib.hid ((hb.block _ (lt_of_some HZ2.out)).trans HZ2.out)
  have HI3 := Lib.hid ((hb.block _ (lt_of_some HI2.out)).trans HI2.out)
  have MS3 := Lib.hid (ms_below MS2.out hb)
  have B3 := Lib.hid (B2.out.trans (hb.mono B2.out.size))
  clear hb B2 HM2 HZ2 HI2 MS2
  clear PV2
  obtain ⟨⟨x0, x1, x2, x3⟩, -⟩ := bx4 HI3.out
  by_cases hi : okI x
  case neg =>
    have HE := Lib.hid (show putM m x = m by unfold putM; rw [if_neg (fun h => hi h.2)])
    rw [decide_eq_false hi] at PI
    clear hi
    go_wp2_with fail
    clear x0 x1 x2 x3
    refine (PI.out w3).mono ?_
    rintro e w4 ⟨rfl, hb⟩
    have HM4 := Lib.hid ((hb.block _ (lt_of_some HM3.out)).trans HM3.out)
    have HZ4 := Lib.hid ((hb.block _ (lt_of_some HZ3.out)).trans HZ3.out)
    have HI4 := Lib.hid ((hb.block _ (lt_of_some HI3.out)).trans HI3.out)
    have MS4 := Lib.hid (ms_below MS3.out hb)
    have B4 := Lib.hid (B3.out.trans (hb.mono B3.out.size))
    clear hb B3 HM3 HZ3 HI3 MS3
    go_upto_region 2 with fail
    have ON := Lib.hid (ms_one MS4.out m.live m.garb)
    obtain ⟨x0, x1, x2, x3, x4, x5, x6, x7, x8, x9⟩ := bx10 HM4.out
    go_wp2_with ((with_reducible refine storeR (w.heap.size + 2) _ #[s0, s1, s2, s3, s4, s5, s6, s7, .int .i64 m.live, .int .i64 m.garb] ?_ ?_ HZ4.out rfl rfl ON.out ?_); exact rfl; exact rfl)
    refine ro_end (fn := Try.f28) rfl (w.heap.size + 2) rfl (setRow_heap _ _ _ _ _ _ HZ4.out) ?_
    rw [HE.out]
    exact ⟨⟨_, rfl, s0, s1, s2, s3, s4, s5, s6, s7, rfl, ms_setRowR MS4.out HZ4.out⟩, below_setRowM B4.out (Nat.le_add_right w.heap.size 2) _⟩
  rw [decide_eq_true hi] at PI
  have HII := Lib.hid hi
  clear hi
  go_wp2_with fail
  clear x0 x1 x2 x3
  refine (PI.out w3).mono ?_
  rintro e w4 ⟨rfl, hb⟩
  have HM4 := Lib.hid ((hb.block _ (lt_of_some HM3.out)).trans HM3.out)
  have HZ4 := Lib.hid ((hb.block _ (lt_of_some HZ3.out)).trans HZ3.out)
  have HI4 := Lib.hid ((hb.block _ (lt_of_some HI3.out)).trans HI3.out)
  have MS4 := Lib.hid (ms_below MS3.out hb)
  have B4 := Lib.hid (B3.out.trans (hb.mono B3.out.size))
  clear hb B3 HM3 HZ3 HI3 MS3
  clear PI
  have PG2 := Lib.hid (PG.out w4 B4.out)
  rw [show itemsL m = iL m by unfold itemsL; rw [if_pos HOK.out]] at PG2
  unfold FD at PG2
  obtain ⟨y, hy⟩ : ∃ y, y = fnL (iL m) x.key := ⟨_, rfl⟩
  obtain ⟨q, hq⟩ : ∃ q, q = hasL (iL m) x.key := ⟨_, rfl⟩
  rw [← hy, ← hq] at PG2
  have HYQ := Lib.hid (And.intro hy hq)
  unfold TV at PG2
  clear PG hy hq
  go_upto_region 4 with fail
  obtain ⟨x0, x1, x2, x3, x4, x5, x6, x7, x8, x9⟩ := bx10 HM4.out
  obtain ⟨⟨y0, y1, y2, y3⟩, -⟩ := bx4 HI4.out
  go_wp2_with fail
  clear x0 x1 x2 x3 x4 x5 x6 x7 x8 x9
  clear y0 y1 y2 y3
  refine PG2.out.mono ?_
  rintro e w5 ⟨rfl, hb⟩
  have HM5 := Lib.hid ((hb.block _ (lt_of_some HM4.out)).trans HM4.out)
  have HZ5 := Lib.hid ((hb.block _ (lt_of_some HZ4.out)).trans HZ4.out)
  have HI5 := Lib.hid ((hb.block _ (lt_of_some HI4.out)).trans HI4.out)
  have MS5 := Lib.hid (ms_below MS4.out hb)
  have B5 := Lib.hid (B4.out.trans (hb.mono B4.out.size))
  clear hb B4 HM4 HZ4 HI4 MS4
  clear PG2
  go_upto_region 5 with fail
  have hb := bel_al w5 (.cells #[.int .u64 (y.key : Int), .int .u32 (y.ck : Int), .int .i64 y.off, .int .i64 y.sz] 37)
  have HY6 := Lib.hid (heap_alloc_new w5 (.cells #[.int .u64 (y.key : Int), .int .u32 (y.ck : Int), .int .i64 y.off, .int .i64 y.sz] 37))
  have HM6 := Lib.hid ((hb.block _ (lt_of_some HM5.out)).trans HM5.out)
  have HZ6 := Lib.hid ((hb.block _ (lt_of_some HZ5.out)).trans HZ5.out)
  have HI6 := Lib.hid ((hb.block _ (lt_of_some HI5.out)).trans HI5.out)
  have MS6 := Lib.hid (ms_below MS5.out hb)
  have B6 := Lib.hid (B5.out.trans (hb.mono B5.out.size))
  clear hb B5 HM5 HZ5 HI5 MS5
  generalize w5.alloc (.cells #[.int .u64 (y.key : Int), .int .u32 (y.ck : Int), .int .i64 y.off, .int .i64 y.sz] 37) = w6 at *
  generalize w5.heap.size = gy at *
  have HOB := Lib.hid (oldT_bd (iL m) x.key)
  have HGB := Lib.hid (And.intro HOK.out.lo HOK.out.hi)
  cases q
  case false =>
    have HO := Lib.hid (show oldT (iL m) x.key = 0 by
      have h1 := HYQ.out.2
      unfold hasL at h1
      unfold oldT
      cases h2 : lk (iL m) x.key with
      | none => rfl
      | some z => rw [h2] at h1; cases h1)
    obtain ⟨old, hold⟩ : ∃ z : Int, z = 0 := ⟨_, rfl⟩
    rw [← hold] at HO
    have HOLD := Lib.hid hold
    clear hold
    go_upto_region 7 with fail
    rw [← HOLD.out]
    have HOB2 := Lib.hid (show 0 ≤ old ∧ old ≤ 4200 by rw [← HO.out]; exact HOB.out)
    have ew : wrap64 (m.garb + old) = m.garb + old := by have h1 := HGB.out; have h2 := HOB2.out; unfold wrap64; omega
    obtain ⟨x0, x1, x2, x3, x4, x5, x6, x7, x8, x9⟩ := bx10 HM6.out
    by_cases hg : 1099511627776 < m.garb + old
    case pos =>
      have l1 : decide (1099511627776 < m.garb + old) = true := decide_eq_true hg
      have HE := Lib.hid (show putM m x = m by unfold putM G40; rw [if_pos ⟨HOK.out, HII.out⟩, if_pos (by rw [HO.out]; exact hg)])
      clear hg
      go_upto_region 8 with fail
      clear ew l1
      clear x0 x1 x2 x3 x4 x5 x6 x7 x8 x9
      have ON := Lib.hid (ms_one MS6.out m.live m.garb)
      obtain ⟨x0, x1, x2, x3, x4, x5, x6, x7, x8, x9⟩ := bx10 HM6.out
      go_wp2_with ((with_reducible refine storeR (w.heap.size + 2) _ #[s0, s1, s2, s3, s4, s5, s6, s7, .int .i64 m.live, .int .i64 m.garb] ?_ ?_ HZ6.out rfl rfl ON.out ?_); exact rfl; exact rfl)
      refine ro_end (fn := Try.f28) rfl (w.heap.size + 2) rfl (setRow_heap _ _ _ _ _ _ HZ6.out) ?_
      rw [HE.out]
      exact ⟨⟨_, rfl, s0, s1, s2, s3, s4, s5, s6, s7, rfl, ms_setRowR MS6.out HZ6.out⟩, below_setRowM B6.out (Nat.le_add_right w.heap.size 2) _⟩
    have l1 : decide (1099511627776 < m.garb + old) = false := decide_eq_false hg
    have HE := Lib.hid (show putM m x = fromL (putL (iL m) x) (m.garb + old) by unfold putM G40; rw [if_pos ⟨HOK.out, HII.out⟩, if_neg (by rw [HO.out]; exact hg), HO.out])
    have HJ := Lib.hid (show J64 (m.garb + old) by have h1 := HGB.out; have h2 := HOB2.out; unfold J64; omega)
    have EW := Lib.hid (show IntKind.i64.wrap (m.garb + old) = m.garb + old from (IntWalk.i64_left _).trans ew)
    clear hg
    go_upto_region 9 with fail
    clear x0 x1 x2 x3 x4 x5 x6 x7 x8 x9
    clear ew l1
    have S0 : SBx w [(w.heap.size, .cells #[s0, s1, s2, s3, s4, s5, s6, s7, .int .i64 m.live, .int .i64 m.garb] 25 (0, 0)), (w.heap.size + 1, .cells #[.int .u64 (x.key : Int), .int .u32 (x.ck : Int), .int .i64 x.off, .int .i64 x.sz] 37 (0, 0))] w6.drew := ⟨B6.out.drew, fun p hp => by
      rcases List.mem_cons.1 hp with rfl | hp
      · exact HM6.out
      · rw [List.mem_singleton.1 hp]; exact HI6.out⟩
    refine wp_onlyN ?_
    refine wp_region_headsS (SBx w [(w.heap.size, .cells #[s0, s1, s2, s3, s4, s5, s6, s7, .int .i64 m.live, .int .i64 m.garb] 25 (0, 0)), (w.heap.size + 1, .cells #[.int .u64 (x.key : Int), .int .u32 (x.ck : Int), .int .i64 x.off, .int .i64 x.sz] 37 (0, 0))]) [0, 2, 4, 5, 6, 7] 4 (by kernel_rfl) (fun _ _ _ _ _ h => h.elim) (by kernel_rfl) (by rfl) (by rfl) S0 ?_
    simp only [pickOps, List.filterMap_cons, List.filterMap_nil, List.getElem?_toArray, List.getElem?_cons_zero, List.getElem?_cons_succ]
    refine wpHeads_step (fun K hK => ?_)
    go_simp
    refine ⟨.agg #[s0, s1, s2, s3, s4, s5, s6, s7, .int .i64 m.live, .int .i64 m.garb], fun w' hw' => by
      obtain ⟨x0, x1, x2, x3, x4, x5, x6, x7, x8, x9⟩ := bx10 (hw'.box _ (List.mem_cons_self ..))
      go_simp, hK _ ?_⟩
    clear hK K
    refine wpHeads_step (fun K hK => ?_)
    go_simp
    refine ⟨.agg #[.int .u64 (x.key : Int), .int .u32 (x.ck : Int), .int .i64 x.off, .int .i64 x.sz], fun w' hw' => by
      obtain ⟨⟨y0, y1, y2, y3⟩, -⟩ := bx4 (hw'.box _ (List.mem_cons_of_mem _ (List.mem_cons_self ..)))
      go_simp, hK _ ?_⟩
    clear hK K
    refine wpHeads_step (fun K hK => ?_)
    go_simp
    refine ⟨_, fun _ _ => rfl, hK _ ?_⟩
    clear hK K
    refine wpHeads_step (fun K hK => ?_)
    go_simp
    refine ⟨.int .i64 m.garb, fun w' hw' => by
      obtain ⟨x0, x1, x2, x3, x4, x5, x6, x7, x8, x9⟩ := bx10 (hw'.box _ (List.mem_cons_self ..))
      go_simp, hK _ ?_⟩
    clear hK K
    refine wpHeads_step (fun K hK => ?_)
    go_simp
    refine ⟨_, fun _ _ => rfl, hK _ ?_⟩
    clear hK K
    refine wpHeads_step (fun K hK => ?_)
    go_simp
    refine ⟨.int .i64 (m.garb + old), fun w' hw' => by
      have e := EW.out
      go_simp, hK _ ?_⟩
    clear hK K
    refine wpHeads_nil ?_
    have SD := Lib.hid S0
    have HZD := Lib.hid (((Below.refl w6.heap.size w6).drew.block _ (lt_of_some HZ6.out)).trans HZ6.out)
    generalize w6.drew = WD at *
    have PJ2 := Lib.hid (PJ.out WD SD.out.bel)
    rw [show itemsL m = iL m by unfold itemsL; rw [if_pos HOK.out]] at PJ2
    clear S0 HZ6 HM6 HI6 MS6 B6 PJ HY6
    refine held_gw 1 rfl (by kernel_rfl) (by kernel_rfl) fun K hK => ?_
    go_simp
    go_at_call 22
    refine PJ2.out.mono ?_
    rintro e V1 ⟨⟨vi, rfl, hit⟩, hb⟩
    refine hK _ _ (SD.out.below hb) ?_
    clear hK K
    have S1 := Lib.hid (SD.out.below hb)
    have HZ7 := Lib.hid ((hb.block _ (lt_of_some HZD.out)).trans HZD.out)
    have HL := Lib.hid (show (iL m).length ≤ 900 from Nat.le_trans (length_sortL _) HN.out)
    have PR := Lib.hid (rput_any vi (iL m) x HX.out V1 hit (Nat.le_trans HL.out (by decide)))
    obtain ⟨ai, ci, rfl, -, -⟩ := it_form hit
    generalize hni : (iL m).length = ni at *
    unfold TV at PR
    clear hit hb SD HZD PJ2
    refine held_gw 3 rfl (by kernel_rfl) (by kernel_rfl) fun K hK => ?_
    go_simp
    go_at_call 52
    refine PR.out.mono ?_
    rintro e V3 ⟨⟨vp, rfl, hot⟩, hb⟩
    refine hK _ _ (S1.out.below hb) ?_
    clear hK K
    have S3 := Lib.hid (S1.out.below hb)
    have HZ8 := Lib.hid ((hb.block _ (lt_of_some HZ7.out)).trans HZ7.out)
    have PF := Lib.hid (rfrom_any vp (putL (iL m) x) (m.garb + old) V3 (owT_it hot) (by
      unfold putL
      have h1 := length_insL x (sortL (iL m))
      rw [sort_iL, hni] at h1
      rw [sort_iL]
      have := HL.out
      omega) HJ.out)
    obtain ⟨ap, cp, rfl, -, -⟩ := owT_form hot
    generalize (putL (iL m) x).length = np at *
    clear hot hb S1 HZ7 PR
    refine held_gw 8 rfl (by kernel_rfl) (by kernel_rfl) fun K hK => ?_
    go_simp
    go_at_call 11
    refine PF.out.mono ?_
    rintro e V5 ⟨⟨vf, rfl, hv5⟩, hb⟩
    refine hK _ _ (S3.out.below hb) ?_
    clear hK K
    have S5 := Lib.hid (S3.out.below hb)
    have HZ9 := Lib.hid ((hb.block _ (lt_of_some HZ8.out)).trans HZ8.out)
    rw [← HE.out] at hv5
    obtain ⟨R, hR⟩ : ∃ z, z = putM m x := ⟨_, rfl⟩
    rw [← hR] at hv5
    have HR := Lib.hid hR
    obtain ⟨t0, t1, t2, t3, t4, t5, t6, t7, rfl, hms5⟩ := hv5
    have ON := Lib.hid (ms_one hms5 R.live R.garb)
    have MS5 := Lib.hid hms5
    have S6 := Lib.hid (S5.out.row (Nat.le_add_right w.heap.size 2) (fun p hp => by
      rcases List.mem_cons.1 hp with rfl | hp
      · show w.heap.size ≠ w.heap.size + 2; omega
      · rw [List.mem_singleton.1 hp]; show w.heap.size + 1 ≠ w.heap.size + 2; omega) #[t0, t1, t2, t3, t4, t5, t6, t7, .int .i64 R.live, .int .i64 R.garb])
    clear hms5 hb S3 HZ8 PF hR
    refine held_gw 9 rfl (by kernel_rfl) (by kernel_rfl) fun K hK => ?_
    refine wp_store_row 25 _ _ rfl (w.heap.size + 2) #[t0, t1, t2, t3, t4, t5, t6, t7, .int .i64 R.live, .int .i64 R.garb] (by rfl) (by rfl) 25 _ HZ9.out infoR10 rfl ON.out ?_
    refine hK _ _ S6.out ?_
    clear hK K
    refine wpAnyH_done (by kernel_rfl) ?_ _
    unfold onlyN
    dsimp only
    go_wp2
    refine ro_end (fn := Try.f28) rfl (w.heap.size + 2) rfl (setRow_heap _ _ _ _ _ _ HZ9.out) ?_
    rw [← HR.out]
    exact ⟨⟨_, rfl, t0, t1, t2, t3, t4, t5, t6, t7, rfl, ms_setRowR MS5.out HZ9.out⟩, S6.out.bel⟩
  have HO := Lib.hid (show oldT (iL m) x.key = szI6 y.sz by
    have h1 := HYQ.out.2
    have h3 := HYQ.out.1
    unfold hasL at h1
    unfold fnL at h3
    unfold oldT
    cases h2 : lk (iL m) x.key with
    | none => rw [h2] at h1; cases h1
    | some z => rw [h2] at h3; rw [h3]; rfl)
  have HYO := Lib.hid (show J64 y.sz by
    have h1 := HYQ.out.2
    have h3 := HYQ.out.1
    unfold hasL at h1
    unfold fnL at h3
    cases h2 : lk (iL m) x.key with
    | none => rw [h2] at h1; cases h1
    | some z =>
      rw [h2] at h3
      have h4 := iL_ok HOK.out HLEN.out z (lk_some h2).1
      rw [h3]
      show J64 z.sz
      have h5 := h4.2.2.2
      unfold J64
      omega)
  go_upto_region 6 with fail
  obtain ⟨⟨y0, y1, y2, y3⟩, -⟩ := bx4 HY6.out
  go_wp2_with fail
  clear y0 y1 y2 y3
  refine (rsize6_any y.sz w6 HYO.out).mono ?_
  rintro e w6' ⟨rfl, rfl⟩
  obtain ⟨old, hold⟩ : ∃ z, z = szI6 y.sz := ⟨_, rfl⟩
  rw [← hold] at HO ⊢
  clear hold
  go_upto_region 7 with fail
  have HOB2 := Lib.hid (show 0 ≤ old ∧ old ≤ 4200 by rw [← HO.out]; exact HOB.out)
  have ew : wrap64 (m.garb + old) = m.garb + old := by have h1 := HGB.out; have h2 := HOB2.out; unfold wrap64; omega
  obtain ⟨x0, x1, x2, x3, x4, x5, x6, x7, x8, x9⟩ := bx10 HM6.out
  by_cases hg : 1099511627776 < m.garb + old
  case pos =>
    have l1 : decide (1099511627776 < m.garb + old) = true := decide_eq_true hg
    have HE := Lib.hid (show putM m x = m by unfold putM G40; rw [if_pos ⟨HOK.out, HII.out⟩, if_pos (by rw [HO.out]; exact hg)])
    clear hg
    go_upto_region 8 with fail
    clear ew l1
    clear x0 x1 x2 x3 x4 x5 x6 x7 x8 x9
    have ON := Lib.hid (ms_one MS6.out m.live m.garb)
    obtain ⟨x0, x1, x2, x3, x4, x5, x6, x7, x8, x9⟩ := bx10 HM6.out
    go_wp2_with ((with_reducible refine storeR (w.heap.size + 2) _ #[s0, s1, s2, s3, s4, s5, s6, s7, .int .i64 m.live, .int .i64 m.garb] ?_ ?_ HZ6.out rfl rfl ON.out ?_); exact rfl; exact rfl)
    refine ro_end (fn := Try.f28) rfl (w.heap.size + 2) rfl (setRow_heap _ _ _ _ _ _ HZ6.out) ?_
    rw [HE.out]
    exact ⟨⟨_, rfl, s0, s1, s2, s3, s4, s5, s6, s7, rfl, ms_setRowR MS6.out HZ6.out⟩, below_setRowM B6.out (Nat.le_add_right w.heap.size 2) _⟩
  have l1 : decide (1099511627776 < m.garb + old) = false := decide_eq_false hg
  have HE := Lib.hid (show putM m x = fromL (putL (iL m) x) (m.garb + old) by unfold putM G40; rw [if_pos ⟨HOK.out, HII.out⟩, if_neg (by rw [HO.out]; exact hg), HO.out])
  have HJ := Lib.hid (show J64 (m.garb + old) by have h1 := HGB.out; have h2 := HOB2.out; unfold J64; omega)
  have EW := Lib.hid (show IntKind.i64.wrap (m.garb + old) = m.garb + old from (IntWalk.i64_left _).trans ew)
  clear hg
  go_upto_region 9 with fail
  clear x0 x1 x2 x3 x4 x5 x6 x7 x8 x9
  clear ew l1
  have S0 : SBx w [(w.heap.size, .cells #[s0, s1, s2, s3, s4, s5, s6, s7, .int .i64 m.live, .int .i64 m.garb] 25 (0, 0)), (w.heap.size + 1, .cells #[.int .u64 (x.key : Int), .int .u32 (x.ck : Int), .int .i64 x.off, .int .i64 x.sz] 37 (0, 0))] w6.drew := ⟨B6.out.drew, fun p hp => by
    rcases List.mem_cons.1 hp with rfl | hp
    · exact HM6.out
    · rw [List.mem_singleton.1 hp]; exact HI6.out⟩
  refine wp_onlyN ?_
  refine wp_region_headsS (SBx w [(w.heap.size, .cells #[s0, s1, s2, s3, s4, s5, s6, s7, .int .i64 m.live, .int .i64 m.garb] 25 (0, 0)), (w.heap.size + 1, .cells #[.int .u64 (x.key : Int), .int .u32 (x.ck : Int), .int .i64 x.off, .int .i64 x.sz] 37 (0, 0))]) [0, 2, 4, 5, 6, 7] 4 (by kernel_rfl) (fun _ _ _ _ _ h => h.elim) (by kernel_rfl) (by rfl) (by rfl) S0 ?_
  simp only [pickOps, List.filterMap_cons, List.filterMap_nil, List.getElem?_toArray, List.getElem?_cons_zero, List.getElem?_cons_succ]
  refine wpHeads_step (fun K hK => ?_)
  go_simp
  refine ⟨.agg #[s0, s1, s2, s3, s4, s5, s6, s7, .int .i64 m.live, .int .i64 m.garb], fun w' hw' => by
    obtain ⟨x0, x1, x2, x3, x4, x5, x6, x7, x8, x9⟩ := bx10 (hw'.box _ (List.mem_cons_self ..))
    go_simp, hK _ ?_⟩
  clear hK K
  refine wpHeads_step (fun K hK => ?_)
  go_simp
  refine ⟨.agg #[.int .u64 (x.key : Int), .int .u32 (x.ck : Int), .int .i64 x.off, .int .i64 x.sz], fun w' hw' => by
    obtain ⟨⟨y0, y1, y2, y3⟩, -⟩ := bx4 (hw'.box _ (List.mem_cons_of_mem _ (List.mem_cons_self ..)))
    go_simp, hK _ ?_⟩
  clear hK K
  refine wpHeads_step (fun K hK => ?_)
  go_simp
  refine ⟨_, fun _ _ => rfl, hK _ ?_⟩
  clear hK K
  refine wpHeads_step (fun K hK => ?_)
  go_simp
  refine ⟨.int .i64 m.garb, fun w' hw' => by
    obtain ⟨x0, x1, x2, x3, x4, x5, x6, x7, x8, x9⟩ := bx10 (hw'.box _ (List.mem_cons_self ..))
    go_simp, hK _ ?_⟩
  clear hK K
  refine wpHeads_step (fun K hK => ?_)
  go_simp
  refine ⟨_, fun _ _ => rfl, hK _ ?_⟩
  clear hK K
  refine wpHeads_step (fun K hK => ?_)
  go_simp
  refine ⟨.int .i64 (m.garb + old), fun w' hw' => by
    have e := EW.out
    go_simp, hK _ ?_⟩
  clear hK K
  refine wpHeads_nil ?_
  have SD := Lib.hid S0
  have HZD := Lib.hid (((Below.refl w6.heap.size w6).drew.block _ (lt_of_some HZ6.out)).trans HZ6.out)
  generalize w6.drew = WD at *
  have PJ2 := Lib.hid (PJ.out WD SD.out.bel)
  rw [show itemsL m = iL m by unfold itemsL; rw [if_pos HOK.out]] at PJ2
  clear S0 HZ6 HM6 HI6 MS6 B6 PJ HY6
  refine held_gw 1 rfl (by kernel_rfl) (by kernel_rfl) fun K hK => ?_
  go_simp
  go_at_call 22
  refine PJ2.out.mono ?_
  rintro e V1 ⟨⟨vi, rfl, hit⟩, hb⟩
  refine hK _ _ (SD.out.below hb) ?_
  clear hK K
  have S1 := Lib.hid (SD.out.below hb)
  have HZ7 := Lib.hid ((hb.block _ (lt_of_some HZD.out)).trans HZD.out)
  have HL := Lib.hid (show (iL m).length ≤ 900 from Nat.le_trans (length_sortL _) HN.out)
  have PR := Lib.hid (rput_any vi (iL m) x HX.out V1 hit (Nat.le_trans HL.out (by decide)))
  obtain ⟨ai, ci, rfl, -, -⟩ := it_form hit
  generalize hni : (iL m).length = ni at *
  unfold TV at PR
  clear hit hb SD HZD PJ2
  refine held_gw 3 rfl (by kernel_rfl) (by kernel_rfl) fun K hK => ?_
  go_simp
  go_at_call 52
  refine PR.out.mono ?_
  rintro e V3 ⟨⟨vp, rfl, hot⟩, hb⟩
  refine hK _ _ (S1.out.below hb) ?_
  clear hK K
  have S3 := Lib.hid (S1.out.below hb)
  have HZ8 := Lib.hid ((hb.block _ (lt_of_some HZ7.out)).trans HZ7.out)
  have PF := Lib.hid (rfrom_any vp (putL (iL m) x) (m.garb + old) V3 (owT_it hot) (by
    unfold putL
    have h1 := length_insL x (sortL (iL m))
    rw [sort_iL, hni] at h1
    rw [sort_iL]
    have := HL.out
    omega) HJ.out)
  obtain ⟨ap, cp, rfl, -, -⟩ := owT_form hot
  generalize (putL (iL m) x).length = np at *
  clear hot hb S1 HZ7 PR
  refine held_gw 8 rfl (by kernel_rfl) (by kernel_rfl) fun K hK => ?_
  go_simp
  go_at_call 11
  refine PF.out.mono ?_
  rintro e V5 ⟨⟨vf, rfl, hv5⟩, hb⟩
  refine hK _ _ (S3.out.below hb) ?_
  clear hK K
  have S5 := Lib.hid (S3.out.below hb)
  have HZ9 := Lib.hid ((hb.block _ (lt_of_some HZ8.out)).trans HZ8.out)
  rw [← HE.out] at hv5
  obtain ⟨R, hR⟩ : ∃ z, z = putM m x := ⟨_, rfl⟩
  rw [← hR] at hv5
  have HR := Lib.hid hR
  obtain ⟨t0, t1, t2, t3, t4, t5, t6, t7, rfl, hms5⟩ := hv5
  have ON := Lib.hid (ms_one hms5 R.live R.garb)
  have MS5 := Lib.hid hms5
  have S6 := Lib.hid (S5.out.row (Nat.le_add_right w.heap.size 2) (fun p hp => by
    rcases List.mem_cons.1 hp with rfl | hp
    · show w.heap.size ≠ w.heap.size + 2; omega
    · rw [List.mem_singleton.1 hp]; show w.heap.size + 1 ≠ w.heap.size + 2; omega) #[t0, t1, t2, t3, t4, t5, t6, t7, .int .i64 R.live, .int .i64 R.garb])
  clear hms5 hb S3 HZ8 PF hR
  refine held_gw 9 rfl (by kernel_rfl) (by kernel_rfl) fun K hK => ?_
  refine wp_store_row 25 _ _ rfl (w.heap.size + 2) #[t0, t1, t2, t3, t4, t5, t6, t7, .int .i64 R.live, .int .i64 R.garb] (by rfl) (by rfl) 25 _ HZ9.out infoR10 rfl ON.out ?_
  refine hK _ _ S6.out ?_
  clear hK K
  refine wpAnyH_done (by kernel_rfl) ?_ _
  unfold onlyN
  dsimp only
  go_wp2
  refine ro_end (fn := Try.f28) rfl (w.heap.size + 2) rfl (setRow_heap _ _ _ _ _ _ HZ9.out) ?_
  rw [← HR.out]
  exact ⟨⟨_, rfl, t0, t1, t2, t3, t4, t5, t6, t7, rfl, ms_setRowR MS5.out HZ9.out⟩, S6.out.bel⟩
set_option maxRecDepth 100000 in
set_option maxHeartbeats 25600000 in
theorem rdelete11_any (v : Value) (m : Mp) (k : Nat) (w : World) (hv : Mv w v m) (hf : Few m) (hn : m.st.flatten.length ≤ 900) : Calls Try.prog 30 #[v, .int .u64 (k : Int)] w (MO w (delM m k)) := by
  have PG := Lib.hid (fun W (h : Below w.heap.size w W) => rget11_any v m k W (mv_below hv h) hf)
  have PJ := Lib.hid (fun W (h : Below w.heap.size w W) => ritems11_any v m W (mv_below hv h) hf)
  have HN := Lib.hid hn
  obtain ⟨s0, s1, s2, s3, s4, s5, s6, s7, rfl, hms⟩ := hv
  have A2 := al2 w (.cells #[s0, s1, s2, s3, s4, s5, s6, s7, .int .i64 m.live, .int .i64 m.garb] 25) (.cells #[.slice none 0 0, .slice none 0 0, .slice none 0 0, .slice none 0 0, .slice none 0 0, .slice none 0 0, .slice none 0 0, .slice none 0 0, .int .i64 0, .int .i64 0] 25)
  have HM2 := Lib.hid A2.1
  have HZ2 := Lib.hid A2.2.1
  have B2 := Lib.hid A2.2.2
  have MS2 := Lib.hid (ms_below hms A2.2.2)
  clear hms A2
  clear hf hn
  go_enter Try.func30, Try.ntmps30
  go_upto_region 1 with fail
  generalize (w.alloc (.cells #[s0, s1, s2, s3, s4, s5, s6, s7, .int .i64 m.live, .int .i64 m.garb] 25)).alloc (.cells #[.slice none 0 0, .slice none 0 0, .slice none 0 0, .slice none 0 0, .slice none 0 0, .slice none 0 0, .slice none 0 0, .slice none 0 0, .int .i64 0, .int .i64 0] 25) = W2 at *
  have PG2 := Lib.hid (PG.out W2 B2.out)
  have HLEN := Lib.hid MS2.out.1
  unfold FD at PG2
  obtain ⟨y, hy⟩ : ∃ y, y = fnL (itemsL m) k := ⟨_, rfl⟩
  obtain ⟨q, hq⟩ : ∃ q, q = hasL (itemsL m) k := ⟨_, rfl⟩
  rw [← hy, ← hq] at PG2
  have HYQ := Lib.hid (And.intro hy hq)
  unfold TV at PG2
  clear PG hy hq
  obtain ⟨x0, x1, x2, x3, x4, x5, x6, x7, x8, x9⟩ := bx10 HM2.out
  go_wp2_with fail
  clear x0 x1 x2 x3 x4 x5 x6 x7 x8 x9
  refine PG2.out.mono ?_
  rintro e w3 ⟨rfl, hb⟩
  have HM3 := Lib.hid ((hb.block _ (lt_of_some HM2.out)).trans HM2.out)
  have HZ3 := Lib.hid ((hb.block _ (lt_of_some HZ2.out)).trans HZ2.out)
  have MS3 := Lib.hid (ms_below MS2.out hb)
  have B3 := Lib.hid (B2.out.trans (hb.mono B2.out.size))
  clear hb B2 HM2 HZ2 MS2
  clear PG2
  go_upto_region 2 with fail
  have hb := bel_al w3 (.cells #[.int .u64 (y.key : Int), .int .u32 (y.ck : Int), .int .i64 y.off, .int .i64 y.sz] 37)
  have HY4 := Lib.hid (heap_alloc_new w3 (.cells #[.int .u64 (y.key : Int), .int .u32 (y.ck : Int), .int .i64 y.off, .int .i64 y.sz] 37))
  have HGY := Lib.hid (show w.heap.size + 1 < w3.heap.size from lt_of_some HZ3.out)
  have HM4 := Lib.hid ((hb.block _ (lt_of_some HM3.out)).trans HM3.out)
  have HZ4 := Lib.hid ((hb.block _ (lt_of_some HZ3.out)).trans HZ3.out)
  have MS4 := Lib.hid (ms_below MS3.out hb)
  have B4 := Lib.hid (B3.out.trans (hb.mono B3.out.size))
  clear hb B3 HM3 HZ3 MS3
  generalize w3.alloc (.cells #[.int .u64 (y.key : Int), .int .u32 (y.ck : Int), .int .i64 y.off, .int .i64 y.sz] 37) = w4 at *
  generalize w3.heap.size = gy at *
  cases q
  case false =>
    have HE := Lib.hid (show delM m k = m by
      unfold delM
      refine if_neg fun h => ?_
      have h1 := HYQ.out.2
      unfold hasL itemsL at h1
      rw [if_pos h.1] at h1
      rw [h.2] at h1
      cases h1)
    refine wp_onlyN ?_
    refine wp_region_headsS (fun W' => Below w4.heap.size w4 W') [0, 1, 2, 3, 4, 5, 6, 7, 8, 9, 10] 0 (by kernel_rfl) (fun _ _ _ _ _ h => h.elim) (by kernel_rfl) (by rfl) (by rfl) (Below.refl w4.heap.size w4).drew ?_
    simp only [pickOps, List.filterMap_cons, List.filterMap_nil, List.getElem?_toArray, List.getElem?_cons_zero, List.getElem?_cons_succ]
    refine wpHeads_step (fun K hK => ?_)
    go_simp
    refine ⟨_, fun _ _ => rfl, hK _ ?_⟩
    clear hK K
    refine wpHeads_step (fun K hK => ?_)
    go_simp
    refine ⟨_, fun _ _ => rfl, hK _ ?_⟩
    clear hK K
    refine wpHeads_step (fun K hK => ?_)
    go_simp
    refine ⟨_, fun _ _ => rfl, hK _ ?_⟩
    clear hK K
    refine wpHeads_step (fun K hK => ?_)
    go_simp
    refine hK _ ?_
    clear hK K
    refine wpHeads_step (fun K hK => ?_)
    go_simp
    refine hK _ ?_
    clear hK K
    refine wpHeads_step (fun K hK => ?_)
    go_simp
    refine hK _ ?_
    clear hK K
    refine wpHeads_step (fun K hK => ?_)
    go_simp
    refine hK _ ?_
    clear hK K
    refine wpHeads_step (fun K hK => ?_)
    go_simp
    refine hK _ ?_
    clear hK K
    refine wpHeads_step (fun K hK => ?_)
    go_simp
    refine hK _ ?_
    clear hK K
    refine wpHeads_step (fun K hK => ?_)
    go_simp
    refine hK _ ?_
    clear hK K
    refine wpHeads_step (fun K hK => ?_)
    go_simp
    refine ⟨_, fun _ _ => rfl, hK _ ?_⟩
    clear hK K
    refine wpHeads_nil ?_
    have hb := (Below.refl w4.heap.size w4).drew
    have HM5 := Lib.hid ((hb.block _ (lt_of_some HM4.out)).trans HM4.out)
    have HZ5 := Lib.hid ((hb.block _ (lt_of_some HZ4.out)).trans HZ4.out)
    have MS5 := Lib.hid (ms_below MS4.out hb)
    have B5 := Lib.hid (B4.out.trans (hb.mono B4.out.size))
    clear hb B4 HM4 HZ4 MS4
    generalize w4.drew = w5 at *
    refine wpAnyH_done (by kernel_rfl) ?_ _
    unfold onlyN
    dsimp only
    go_upto_region 3 with fail
    have ON := Lib.hid (ms_one MS5.out m.live m.garb)
    obtain ⟨x0, x1, x2, x3, x4, x5, x6, x7, x8, x9⟩ := bx10 HM5.out
    go_wp2_with ((with_reducible refine storeR (w.heap.size + 1) _ #[s0, s1, s2, s3, s4, s5, s6, s7, .int .i64 m.live, .int .i64 m.garb] ?_ ?_ HZ5.out rfl rfl ON.out ?_); exact rfl; exact rfl)
    refine ro_end (fn := Try.f30) rfl (w.heap.size + 1) rfl (setRow_heap _ _ _ _ _ _ HZ5.out) ?_
    rw [HE.out]
    exact ⟨⟨_, rfl, s0, s1, s2, s3, s4, s5, s6, s7, rfl, ms_setRowR MS5.out HZ5.out⟩, below_setRowM B5.out (Nat.le_succ w.heap.size) _⟩
  have hok : okM m := Classical.byContradiction fun h => by
    have h1 := HYQ.out.2
    unfold hasL itemsL at h1
    rw [if_neg h] at h1
    cases h1
  have HOK := Lib.hid hok
  rw [show itemsL m = iL m by unfold itemsL; rw [if_pos hok]] at HYQ
  have HS := Lib.hid (show (lk (iL m) k).isSome = true from HYQ.out.2.symm)
  have HO := Lib.hid (show oldT (iL m) k = szI6 y.sz by
    have h1 := HYQ.out.2
    have h3 := HYQ.out.1
    unfold hasL at h1
    unfold fnL at h3
    unfold oldT
    cases h2 : lk (iL m) k with
    | none => rw [h2] at h1; cases h1
    | some z => rw [h2] at h3; rw [h3]; rfl)
  have HYO := Lib.hid (show J64 y.sz by
    have h1 := HYQ.out.2
    have h3 := HYQ.out.1
    unfold hasL at h1
    unfold fnL at h3
    cases h2 : lk (iL m) k with
    | none => rw [h2] at h1; cases h1
    | some z =>
      rw [h2] at h3
      have h4 := iL_ok HOK.out HLEN.out z (lk_some h2).1
      rw [h3]
      show J64 z.sz
      have h5 := h4.2.2.2
      unfold J64
      omega)
  have HOB := Lib.hid (oldT_bd (iL m) k)
  have HGB := Lib.hid (And.intro HOK.out.lo HOK.out.hi)
  obtain ⟨old, hold⟩ : ∃ z, z = szI6 y.sz := ⟨_, rfl⟩
  have PS := Lib.hid (fun W => rsize6_any y.sz W HYO.out)
  rw [← hold] at HO PS
  have HOB2 := Lib.hid (show 0 ≤ old ∧ old ≤ 4200 by rw [← HO.out]; exact HOB.out)
  have EW := Lib.hid (show IntKind.i64.wrap (m.garb + old) = m.garb + old from (IntWalk.i64_left _).trans (by have h1 := HGB.out; have h2 := HOB2.out; unfold wrap64; omega))
  have HJ := Lib.hid (show J64 (m.garb + old) by have h1 := HGB.out; have h2 := HOB2.out; unfold J64; omega)
  obtain ⟨qg, hqg⟩ : ∃ z : Bool, z = decide (1099511627776 < m.garb + old) := ⟨_, rfl⟩
  have HQG := Lib.hid hqg
  clear hok hold hqg
  refine wp_onlyN ?_
  refine wp_region_headsS (fun W' => Below w4.heap.size w4 W') [0, 1, 2, 3, 4, 5, 6] 4 (by kernel_rfl) (fun _ _ _ _ _ h => h.elim) (by kernel_rfl) (by rfl) (by rfl) (Below.refl w4.heap.size w4).drew ?_
  simp only [pickOps, List.filterMap_cons, List.filterMap_nil, List.getElem?_toArray, List.getElem?_cons_zero, List.getElem?_cons_succ]
  refine wpHeads_step (fun K hK => ?_)
  go_simp
  refine ⟨_, fun _ _ => rfl, hK _ ?_⟩
  clear hK K
  refine wpHeads_step (fun K hK => ?_)
  go_simp
  refine ⟨_, fun _ _ => rfl, hK _ ?_⟩
  clear hK K
  refine wpHeads_step (fun K hK => ?_)
  go_simp
  refine ⟨_, fun _ _ => rfl, hK _ ?_⟩
  clear hK K
  refine wpHeads_step (fun K hK => ?_)
  go_simp
  refine ⟨_, fun _ _ => rfl, hK _ ?_⟩
  clear hK K
  refine wpHeads_step (fun K hK => ?_)
  go_simp
  refine ⟨.int .i64 m.garb, fun w' hw' => by
    obtain ⟨x0, x1, x2, x3, x4, x5, x6, x7, x8, x9⟩ := bx10 ((hw'.block _ (lt_of_some HM4.out)).trans HM4.out)
    go_simp, hK _ ?_⟩
  clear hK K
  refine wpHeads_step (fun K hK => ?_)
  go_simp
  refine ⟨_, fun _ _ => rfl, hK _ ?_⟩
  clear hK K
  refine wpHeads_step (fun K hK => ?_)
  go_simp
  refine ⟨.int .i64 y.sz, fun w' hw' => by
    obtain ⟨⟨y0, y1, y2, y3⟩, -⟩ := bx4 ((hw'.block _ (lt_of_some HY4.out)).trans HY4.out)
    go_simp, hK _ ?_⟩
  clear hK K
  refine wpHeads_nil ?_
  have hb := (Below.refl w4.heap.size w4).drew
  have SD := Lib.hid hb
  have HY5 := Lib.hid ((hb.block _ (lt_of_some HY4.out)).trans HY4.out)
  have HM5 := Lib.hid ((hb.block _ (lt_of_some HM4.out)).trans HM4.out)
  have HZ5 := Lib.hid ((hb.block _ (lt_of_some HZ4.out)).trans HZ4.out)
  have MS5 := Lib.hid (ms_below MS4.out hb)
  have B5 := Lib.hid (B4.out.trans (hb.mono B4.out.size))
  clear hb B4 HM4 HZ4 MS4
  generalize w4.drew = w5 at *
  refine held_gw 7 rfl (by kernel_rfl) (by kernel_rfl) fun K hK => ?_
  go_simp
  go_at_call 51
  refine (PS.out w5).mono ?_
  rintro e V1 ⟨rfl, rfl⟩
  refine hK _ _ SD.out ?_
  clear hK K
  have e1 := EW.out
  refine held_gw 8 rfl (by kernel_rfl) (by kernel_rfl) fun K hK => ?_
  go_simp
  refine hK _ _ SD.out ?_
  clear hK K
  have e2 := HQG.out.symm
  refine held_gw 9 rfl (by kernel_rfl) (by kernel_rfl) fun K hK => ?_
  go_simp
  refine hK _ _ SD.out ?_
  clear hK K
  refine held_gw 10 rfl (by kernel_rfl) (by kernel_rfl) fun K hK => ?_
  go_simp
  refine hK _ _ SD.out ?_
  clear hK K
  clear e1 e2
  refine wpAnyH_done (by kernel_rfl) ?_ _
  unfold onlyN
  dsimp only
  go_upto_if 23 with fail
  cases qg
  case true =>
    have HE := Lib.hid (show delM m k = m by unfold delM G40; rw [if_pos ⟨HOK.out, HS.out⟩, if_pos (by rw [HO.out]; exact of_decide_eq_true HQG.out.symm)])
    go_upto_region 3 with fail
    have ON := Lib.hid (ms_one MS5.out m.live m.garb)
    obtain ⟨x0, x1, x2, x3, x4, x5, x6, x7, x8, x9⟩ := bx10 HM5.out
    go_wp2_with ((with_reducible refine storeR (w.heap.size + 1) _ #[s0, s1, s2, s3, s4, s5, s6, s7, .int .i64 m.live, .int .i64 m.garb] ?_ ?_ HZ5.out rfl rfl ON.out ?_); exact rfl; exact rfl)
    refine ro_end (fn := Try.f30) rfl (w.heap.size + 1) rfl (setRow_heap _ _ _ _ _ _ HZ5.out) ?_
    rw [HE.out]
    exact ⟨⟨_, rfl, s0, s1, s2, s3, s4, s5, s6, s7, rfl, ms_setRowR MS5.out HZ5.out⟩, below_setRowM B5.out (Nat.le_succ w.heap.size) _⟩
  have HE := Lib.hid (show delM m k = fromL (dropL (iL m) k) (m.garb + old) by unfold delM G40; rw [if_pos ⟨HOK.out, HS.out⟩, if_neg (by rw [HO.out]; exact of_decide_eq_false HQG.out.symm), HO.out])
  go_upto_region 4 with fail
  have S0 : SBx w [(w.heap.size, .cells #[s0, s1, s2, s3, s4, s5, s6, s7, .int .i64 m.live, .int .i64 m.garb] 25 (0, 0)), (gy, .cells #[.int .u64 (y.key : Int), .int .u32 (y.ck : Int), .int .i64 y.off, .int .i64 y.sz] 37 (0, 0))] w5.drew := ⟨B5.out.drew, fun p hp => by
    rcases List.mem_cons.1 hp with rfl | hp
    · exact HM5.out
    · rw [List.mem_singleton.1 hp]; exact HY5.out⟩
  refine wp_onlyN ?_
  refine wp_region_headsS (SBx w [(w.heap.size, .cells #[s0, s1, s2, s3, s4, s5, s6, s7, .int .i64 m.live, .int .i64 m.garb] 25 (0, 0)), (gy, .cells #[.int .u64 (y.key : Int), .int .u32 (y.ck : Int), .int .i64 y.off, .int .i64 y.sz] 37 (0, 0))]) [0, 2, 4, 5, 6, 7] 6 (by kernel_rfl) (fun _ _ _ _ _ h => h.elim) (by kernel_rfl) (by rfl) (by rfl) S0 ?_
  simp only [pickOps, List.filterMap_cons, List.filterMap_nil, List.getElem?_toArray, List.getElem?_cons_zero, List.getElem?_cons_succ]
  refine wpHeads_step (fun K hK => ?_)
  go_simp
  refine ⟨.agg #[s0, s1, s2, s3, s4, s5, s6, s7, .int .i64 m.live, .int .i64 m.garb], fun w' hw' => by
    obtain ⟨x0, x1, x2, x3, x4, x5, x6, x7, x8, x9⟩ := bx10 (hw'.box _ (List.mem_cons_self ..))
    go_simp, hK _ ?_⟩
  clear hK K
  refine wpHeads_step (fun K hK => ?_)
  go_simp
  refine ⟨_, fun _ _ => rfl, hK _ ?_⟩
  clear hK K
  refine wpHeads_step (fun K hK => ?_)
  go_simp
  refine ⟨_, fun _ _ => rfl, hK _ ?_⟩
  clear hK K
  refine wpHeads_step (fun K hK => ?_)
  go_simp
  refine ⟨.int .i64 m.garb, fun w' hw' => by
    obtain ⟨x0, x1, x2, x3, x4, x5, x6, x7, x8, x9⟩ := bx10 (hw'.box _ (List.mem_cons_self ..))
    go_simp, hK _ ?_⟩
  clear hK K
  refine wpHeads_step (fun K hK => ?_)
  go_simp
  refine ⟨_, fun _ _ => rfl, hK _ ?_⟩
  clear hK K
  refine wpHeads_step (fun K hK => ?_)
  go_simp
  refine ⟨.int .i64 y.sz, fun w' hw' => by
    obtain ⟨⟨y0, y1, y2, y3⟩, -⟩ := bx4 (hw'.box _ (List.mem_cons_of_mem _ (List.mem_cons_self ..)))
    go_simp, hK _ ?_⟩
  clear hK K
  refine wpHeads_nil ?_
  have S0 := Lib.hid S0
  have HZD := Lib.hid (((Below.refl w5.heap.size w5).drew.block _ (lt_of_some HZ5.out)).trans HZ5.out)
  clear SD
  generalize w5.drew = WD at *
  have PJ2 := Lib.hid (PJ.out WD S0.out.bel)
  rw [show itemsL m = iL m by unfold itemsL; rw [if_pos HOK.out]] at PJ2
  clear HZ5 HM5 HY5 MS5 B5 PJ
  refine held_gw 1 rfl (by kernel_rfl) (by kernel_rfl) fun K hK => ?_
  go_simp
  go_at_call 22
  refine PJ2.out.mono ?_
  rintro e V1 ⟨⟨vi, rfl, hit⟩, hb⟩
  refine hK _ _ (S0.out.below hb) ?_
  clear hK K
  have S1 := Lib.hid (S0.out.below hb)
  have HZ7 := Lib.hid ((hb.block _ (lt_of_some HZD.out)).trans HZD.out)
  have HL := Lib.hid (show (iL m).length ≤ 900 from Nat.le_trans (length_sortL _) HN.out)
  have PR := Lib.hid (rdrop_any vi (iL m) k V1 hit (Nat.le_trans HL.out (by decide)))
  obtain ⟨ai, ci, rfl, -, -⟩ := it_form hit
  generalize hni : (iL m).length = ni at *
  clear hit hb S0 HZD PJ2
  refine held_gw 3 rfl (by kernel_rfl) (by kernel_rfl) fun K hK => ?_
  go_simp
  go_at_call 54
  refine PR.out.mono ?_
  rintro e V3 ⟨⟨vp, rfl, hot⟩, hb⟩
  refine hK _ _ (S1.out.below hb) ?_
  clear hK K
  have S3 := Lib.hid (S1.out.below hb)
  have HZ8 := Lib.hid ((hb.block _ (lt_of_some HZ7.out)).trans HZ7.out)
  have PF := Lib.hid (rfrom_any vp (dropL (iL m) k) (m.garb + old) V3 (owT_it hot) (by
    have h1 : (dropL (iL m) k).length ≤ (sortL (iL m)).length := List.length_filter_le _ _
    rw [sort_iL, hni] at h1
    have := HL.out
    omega) HJ.out)
  obtain ⟨ap, cp, rfl, -, -⟩ := owT_form hot
  generalize (dropL (iL m) k).length = np at *
  clear hot hb S1 HZ7 PR
  refine held_gw 8 rfl (by kernel_rfl) (by kernel_rfl) fun K hK => ?_
  go_simp
  go_at_call 51
  refine (PS.out V3).mono ?_
  rintro e V4 ⟨rfl, rfl⟩
  refine hK _ _ S3.out ?_
  clear hK K
  have e1 := EW.out
  refine held_gw 9 rfl (by kernel_rfl) (by kernel_rfl) fun K hK => ?_
  go_simp
  refine hK _ _ S3.out ?_
  clear hK K
  clear e1
  refine held_gw 10 rfl (by kernel_rfl) (by kernel_rfl) fun K hK => ?_
  go_simp
  go_at_call 11
  refine PF.out.mono ?_
  rintro e V5 ⟨⟨vf, rfl, hv5⟩, hb⟩
  refine hK _ _ (S3.out.below hb) ?_
  clear hK K
  have S5 := Lib.hid (S3.out.below hb)
  have HZ9 := Lib.hid ((hb.block _ (lt_of_some HZ8.out)).trans HZ8.out)
  rw [← HE.out] at hv5
  obtain ⟨R, hR⟩ : ∃ z, z = delM m k := ⟨_, rfl⟩
  rw [← hR] at hv5
  have HR := Lib.hid hR
  obtain ⟨t0, t1, t2, t3, t4, t5, t6, t7, rfl, hms5⟩ := hv5
  have ON := Lib.hid (ms_one hms5 R.live R.garb)
  have MS5 := Lib.hid hms5
  have S6 := Lib.hid (S5.out.row (Nat.le_succ w.heap.size) (fun p hp => by
    rcases List.mem_cons.1 hp with rfl | hp
    · show w.heap.size ≠ w.heap.size + 1; omega
    · rw [List.mem_singleton.1 hp]; show gy ≠ w.heap.size + 1; have := HGY.out; omega) #[t0, t1, t2, t3, t4, t5, t6, t7, .int .i64 R.live, .int .i64 R.garb])
  clear hms5 hb S3 HZ8 PF hR
  refine held_gw 11 rfl (by kernel_rfl) (by kernel_rfl) fun K hK => ?_
  refine wp_store_row 25 _ _ rfl (w.heap.size + 1) #[t0, t1, t2, t3, t4, t5, t6, t7, .int .i64 R.live, .int .i64 R.garb] (by rfl) (by rfl) 25 _ HZ9.out infoR10 rfl ON.out ?_
  refine hK _ _ S6.out ?_
  clear hK K
  refine wpAnyH_done (by kernel_rfl) ?_ _
  unfold onlyN
  dsimp only
  go_wp2
  refine ro_end (fn := Try.f30) rfl (w.heap.size + 1) rfl (setRow_heap _ _ _ _ _ _ HZ9.out) ?_
  rw [← HR.out]
  exact ⟨⟨_, rfl, t0, t1, t2, t3, t4, t5, t6, t7, rfl, ms_setRowR MS5.out HZ9.out⟩, S6.out.bel⟩
end Go.Proofs.Ytlooldnaoooehaa.Gf
