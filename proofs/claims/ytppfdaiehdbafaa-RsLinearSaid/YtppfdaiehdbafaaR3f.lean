/- What is proved here: the contract of the reference's Invert. -/
import Derived.Test.YtppfdaiehdbafaaIv
import Derived.Test.YtppfdaiehdbafaaR3d
import Derived.Test.YtppfdaiehdbafaaR3e
namespace Go.Proofs.Ytppfdaiehdbafaa.Gf
open Go Go.ChangeShapes Go.WideShapes Go.ChangeAt Go.RowKit Go.Proofs.Ytppfdaiehdbafaa.By

/-- What Invert answers to a matrix that is valid and square. -/
def InvPost (n : Nat) (M : Nat → Nat → Nat) (w : World) (e : Ending) (w' : World) : Prop :=
  (∃ X, Inv2 n M X ∧ MO w n n (flat n n X) 0 e w') ∨ (Sing n M ∧ MO w 0 0 [] 14 e w')
theorem mo_sing {n : Nat} {M : Nat → Nat → Nat} {w : World} {e : Ending} {w' : World} (h1 : Sing n M) (h2 : MO w 0 0 [] 14 e w') : InvPost n M w e w' := Or.inr ⟨h1, h2⟩
theorem unit_congr {n c : Nat} {L L' : Nat → Nat → Nat} (h : Eqm n n L L') (hc : c ≤ n) (hu : Unit' n c L) : Unit' n c L' := fun j hj i hi => (h i hi j (by omega)).symm.trans (hu j hj i hi)
theorem wrap_at {n i p : Nat} (hn : n ≤ 16) (hi : i < n) (hp : p = i * n) : (i : Int) * (n : Int) = (p : Int) ∧ p ≤ 256 := by
  have h : i * n ≤ 16 * 16 := Nat.mul_le_mul (by omega) hn
  have e : (i : Int) * (n : Int) = (p : Int) := by rw [hp]; simp
  exact ⟨e, by omega⟩
set_option maxRecDepth 100000 in
set_option maxHeartbeats 40000000 in
theorem rinvert_pos (n N : Nat) (b1 o1 c1 : Nat) (l : List Nat) (w : World) (hn : 1 ≤ n ∧ n ≤ 16) (hN : N = n * n) (hl : l.length = N) (s1 : Sl w (.slice (some ⟨b1, o1, none⟩) N c1) l) :
    Calls Try.prog 31 #[mv n n (.slice (some ⟨b1, o1, none⟩) N c1)] w (InvPost n (ent l n) w) := by
  obtain ⟨a1, ha1⟩ : ∃ a : Option Addr, a = some ⟨b1, o1, none⟩ := ⟨_, rfl⟩
  rw [← ha1] at s1 ⊢
  have hv1 := fun w => rvalid_any n n a1 N c1 w
  have hsz : Sized (n : Int) (n : Int) := ⟨by omega, by omega, by omega, by omega⟩
  rw [decide_eq_true (show Vd (n : Int) (n : Int) N from ⟨hsz, by rw [hN]; simp⟩)] at hv1
  have hid := fun w => rident_good n w hsz
  have HV1 := Lib.hid hv1
  have HID := Lib.hid hid
  have HM : Hid (Bd n n (ent l n)) := ent_bd s1.1
  have hN256 : N ≤ 256 := by rw [hN]; exact Nat.mul_le_mul hn.2 hn.2
  have HN := Lib.hid hN
  have HL := Lib.hid hl
  have S1 := Lib.hid s1
  obtain ⟨t1, t2, ts, tb⟩ := two w (.cells #[.int .i64 n, .int .i64 n, .slice a1 N c1] 26) (.cells #[.int .i64 0, .int .i64 0, .slice none 0 0] 26)
  have T1 := Lib.hid t1
  have T2 := Lib.hid t2
  have TS := Lib.hid ts
  have TB := Lib.hid tb
  clear hv1 hid hN hl s1 t1 t2 ts tb hsz ha1
  unfold mv at *
  go_enter Try.func31, Try.ntmps31
  go_wp2_with fail
  refine (HV1.out _).mono ?_
  generalize ((w.alloc (.cells #[.int .i64 n, .int .i64 n, .slice a1 N c1] 26)).alloc (.cells #[.int .i64 0, .int .i64 0, .slice none 0 0] 26)) = W0 at *
  rintro e w1 ⟨rfl, hB1⟩
  have r1 := (hB1.block w.heap.size (by rw [TS.out]; omega)).trans T1.out
  have r2 := (hB1.block (w.heap.size + 1) (by rw [TS.out]; omega)).trans T2.out
  have hs1 : w.heap.size + 2 ≤ w1.heap.size := by have := hB1.size; have := TS.out; omega
  have hw1 : Below w.heap.size w w1 := TB.out.trans (hB1.mono TB.out.size)
  obtain ⟨x0, x1, x2⟩ := row_cells r1
  have R2 := Lib.hid r2
  have HW1 := Lib.hid hw1
  clear r1 r2 hw1 hB1 T1 T2 TS TB HV1
  have S1' := Lib.hid (sl_below S1.out (HW1.out.alloc HW1.out.size (.cells #[] 5)))
  have HE := Lib.hid (own_empty w1 (Nat.le_refl w1.heap.size))
  have x2e : (w1.alloc (.cells #[] 5)).cell? ⟨w.heap.size, 2, none⟩ = some (.slice a1 N c1) := (((Below.refl w1.heap.size w1).alloc (Nat.le_refl _) (.cells #[] 5)).cell (p := ⟨w.heap.size, 2, none⟩) (show w.heap.size < w1.heap.size by omega)).trans x2
  have hne : ¬ w.heap.size = w1.heap.size := by omega
  go_wp2_with (at_builtin; refine app_sl (dst := some 30) ?_ ?_ HE.out S1'.out (by have := HL.out; simp; omega) (by simp) ?_; exact rfl; exact rfl; intro v1 w2 ho1 hg1; rw [List.nil_append] at ho1; obtain ⟨gl, cl, hv1, hgl, hgl2⟩ := own_some ho1 (by have := HL.out; have := HN.out; have := at_lt (show 0 < n by omega) (show 0 < n by omega); omega); rw [HL.out] at hv1; subst hv1; have HO1 := Lib.hid ho1; have HG1 := Lib.hid hg1; clear ho1 hg1 x2e)
  refine (HID.out w2).mono ?_
  unfold MO mv
  rintro e w3 ⟨⟨sr, rfl, ho2⟩, hB3⟩
  obtain ⟨gr, cr, hv2, hgr, hgr2⟩ := own_some ho2 (by rw [flat_length]; have := at_lt (show 0 < n by omega) (show 0 < n by omega); omega)
  rw [flat_length, ← HN.out] at hv2
  subst hv2
  have HO2 := Lib.hid ho2
  have HB3 := Lib.hid hB3
  clear ho2 hB3
  go_wp2_with fail
  have hb2 : Below w.heap.size w w2 := (HW1.out.alloc HW1.out.size (.cells #[] 5)).grown HG1.out (by simp; have := HW1.out.size; omega) (fun k hk => by have : w1.heap.size = k := Option.some.inj hk; omega)
  have hs2 : w1.heap.size + 1 ≤ w2.heap.size := by simpa using HG1.out.size
  have hs3 : w2.heap.size ≤ w3.heap.size := HB3.out.size
  have hb3 : Below w.heap.size w w3 := hb2.trans (HB3.out.mono hb2.size)
  have hw := hb3.alloc hb3.size (.cells #[.int .i64 n, .int .i64 n, .slice (some ⟨gr, 0, none⟩) N cr] 26)
  have r2 : w3.heap[w.heap.size + 1]? = some (.cells #[.int .i64 0, .int .i64 0, .slice none 0 0] 26 (0, 0)) := (HB3.out.block _ (by omega)).trans ((HG1.out.block _ (by simp; omega) (fun e => by have : w.heap.size + 1 = w1.heap.size := Option.some.inj e; omega)).trans ((heap_alloc_old _ _ (by omega)).trans R2.out))
  have r2' := (heap_alloc_old w3 (.cells #[.int .i64 n, .int .i64 n, .slice (some ⟨gr, 0, none⟩) N cr] 26) (show w.heap.size + 1 < w3.heap.size by omega)).trans r2
  have qm := heap_alloc_new w3 (.cells #[.int .i64 n, .int .i64 n, .slice (some ⟨gr, 0, none⟩) N cr] 26)
  have hws : (w3.alloc (.cells #[.int .i64 n, .int .i64 n, .slice (some ⟨gr, 0, none⟩) N cr] 26)).heap.size = w3.heap.size + 1 := by simp
  have hfl : flat n n (ent l n) = l := flat_ent (by rw [HL.out, HN.out])
  have hl1 : Own (w3.alloc (.cells #[.int .i64 n, .int .i64 n, .slice (some ⟨gr, 0, none⟩) N cr] 26)) w.heap.size (.slice (some ⟨gl, 0, none⟩) N cl) (flat n n (ent l n)) := by
    rw [hfl]
    exact own_base (by omega) ((own_below' HO1.out HB3.out).alloc _)
  have hr1 : Own (w3.alloc (.cells #[.int .i64 n, .int .i64 n, .slice (some ⟨gr, 0, none⟩) N cr] 26)) w.heap.size (.slice (some ⟨gr, 0, none⟩) N cr) (flat n n idm) := own_base (by omega) (HO2.out.alloc _)
  generalize w3.alloc (.cells #[.int .i64 n, .int .i64 n, .slice (some ⟨gr, 0, none⟩) N cr] 26) = W at *
  have IS0 : Hid (IS W W n gl gr N cl cr w.heap.size (ent l n) idm) := ⟨hl1, hr1, by omega, rfl, rfl, rfl, Nat.le_refl _, fun _ _ _ _ => rfl⟩
  have HW := Lib.hid hw
  have Q2 := Lib.hid r2'
  have QM := Lib.hid qm
  have HWS := Lib.hid hws
  have X2 : Hid (w3.heap.size < W.heap.size ∧ w3.heap.size ≠ gl ∧ w3.heap.size ≠ gr) := ⟨by omega, by omega, by omega⟩
  have X3 : Hid (w.heap.size + 1 < W.heap.size ∧ w.heap.size + 1 ≠ gl ∧ w.heap.size + 1 ≠ gr) := ⟨by omega, by omega, by omega⟩
  have X4 : Hid (w.heap.size ≤ gl ∧ w.heap.size ≤ gr) := ⟨by omega, by omega⟩
  clear hs1 hgl hgl2 hgr hgr2 hs2 hs3 hb2 hb3 hw r2 r2' qm hws hfl hl1 hr1 HO1 HO2 HB3 HG1 HE S1' R2 HW1 x0 x1 x2 hne S1
  go_loopw [8] (fun i wr => ∃ (c : Nat) (L R : Nat → Nat → Nat), c ≤ n ∧ i = .int .i64 (c : Int) ∧ IS W wr n gl gr N cl cr w.heap.size L R ∧ Rel n (ent l n) L R ∧ Unit' n c L) (fun i _ => n - (intOf i).toNat)
  case atStart => exact ⟨0, ent l n, idm, by omega, rfl, IS0.out, rel_start HM.out, fun j hj => by omega⟩
  case round =>
    clear IS0
    obtain ⟨c, L, R, hcn, rfl, his, hrel, hu⟩ := hrel
    have HIS := Lib.hid his
    have hRel := Lib.hid hrel
    have hUn := Lib.hid hu
    clear his hrel hu
    by_cases hc : c < n
    · by_cases h0 : L c c = 0
      · obtain ⟨cell0, hidx0⟩ := HIS.out.at HN.out hc hc
        obtain ⟨p, hp⟩ : ∃ p, p = c * n := ⟨_, rfl⟩
        have ⟨hw0, hp256⟩ := wrap_at hn.2 hc hp
        rw [← hp] at cell0 hidx0
        rw [h0] at cell0
        have H0 := Lib.hid h0
        clear hp h0
        go_wp2_with fail
        clear cell0 hw0 hidx0 hp256
        rename World => wr
        go_loop [9] (fun k => ∃ k' : Nat, c < k' ∧ k' ≤ n ∧ k = .int .i64 (k' : Int) ∧ ∀ r, c ≤ r → r < k' → L r c = 0) (fun k => n - (intOf k).toNat)
        case atStart => exact ⟨c + 1, by omega, by omega, by go_num, fun r h1 h2 => by rw [show r = c by omega]; exact H0.out⟩
        case round =>
          obtain ⟨k, hck, hkn, rfl, hz⟩ := hrel
          have HZ := Lib.hid hz
          clear hz
          by_cases hk : k < n
          · obtain ⟨cell1, hidx1⟩ := HIS.out.at HN.out hk hc
            obtain ⟨p1, hp1⟩ : ∃ p, p = k * n := ⟨_, rfl⟩
            have ⟨hw1', hp1256⟩ := wrap_at hn.2 hk hp1
            rw [← hp1] at cell1 hidx1
            clear hp1
            by_cases hz1 : L k c = 0
            · rw [hz1] at cell1
              have HZ1 := Lib.hid hz1
              clear hz1
              go_wp2_with fail
              go_round
              case rel => exact ⟨k + 1, by omega, by omega, by go_num, fun r h1 h2 => by
                by_cases e : r = k
                · rw [e]; exact HZ1.out
                · exact HZ.out r h1 (by omega)⟩
              case measure => simp [intOf]; omega
            · have hb1 : (((L k c : Nat) : Int) == 0) = false := beq_false_of_ne (by omega)
              have hkn' : ((k : Int) == (n : Int)) = false := beq_false_of_ne (by omega)
              have HPV1 := Lib.hid hz1
              have hLb := hRel.out.1
              have HR2 := Lib.hid (rel_radd HM.out hRel.out hc hk (by omega) (show 1 < 256 by decide))
              have HU2 := Lib.hid (unit_pivot hUn.out hc hk hck hLb)
              have HP2 : Hid (radd c k 1 L c c ≠ 0) := by
                have e := pivot_at H0.out hLb hc hk
                exact fun x => HPV1.out (e ▸ x)
              obtain ⟨m0, m1, m2⟩ := row_cells ((HIS.out.keep w3.heap.size X2.out.1 X2.out.2.1 X2.out.2.2).trans QM.out)
              have hRb := hRel.out.2.1
              generalize L k c = z1 at cell1 hb1
              clear hz1
              go_wp2_with fail
              refine (radd_any gl N cl n c k 1 w.heap.size L _ HN.out hn.2 hc hk (by decide) hLb HIS.out.l).mono ?_
              rintro e w4 ⟨rfl, ho4, hg4⟩
              have HIS4 := Lib.hid (HIS.out.left ho4 hg4)
              clear ho4 hg4 m0 m1 m2 cell1 hw1' hidx1 hp1256
              obtain ⟨m0, m1, m2⟩ := row_cells ((HIS4.out.keep w3.heap.size X2.out.1 X2.out.2.1 X2.out.2.2).trans QM.out)
              go_wp2_with fail
              refine (radd_any gr N cr n c k 1 w.heap.size R _ HN.out hn.2 hc hk (by decide) hRb HIS4.out.r).mono ?_
              rintro e w5 ⟨rfl, ho5, hg5⟩
              have HIS5 := Lib.hid (HIS4.out.right ho5 hg5)
              clear ho5 hg5 HIS4 HIS hLb hRb m0 m1 m2 hRel hUn H0 HPV1 HZ
              rename Hid (Rel n (ent l n) (radd c k 1 L) (radd c k 1 R)) => hRel
              rename Hid (Unit' n c (radd c k 1 L)) => hUn
              rename Hid (radd c k 1 L c c ≠ 0) => HPV
              rename Hid (IS W w5 n gl gr N cl cr w.heap.size (radd c k 1 L) (radd c k 1 R)) => HIS
              generalize radd c k 1 L = L at *
              generalize radd c k 1 R = R at *
              have hLb := hRel.out.1
              have hpv := HPV.out
              have hcc := hLb c hc c hc
              obtain ⟨cell0, hidx0⟩ := HIS.out.at HN.out hc hc
              obtain ⟨p, hp⟩ : ∃ p, p = c * n := ⟨_, rfl⟩
              have ⟨hw0, hp256⟩ := wrap_at hn.2 hc hp
              rw [← hp] at cell0 hidx0
              have hinv := fun w => rinv_pos (L c c) w hcc hpv
              have hiv := iv_lt (L c c)
              have hy : bits .xor .u8 ((iv (L c c) : Nat) : Int) 1 = ((iv (L c c) ^^^ 1 : Nat) : Int) := u8_xor_nat (iv (L c c)) 1 hiv (by decide)
              have hfl : iv (L c c) ^^^ 1 < 256 := xor_lt hiv (by decide)
              obtain ⟨f, hf⟩ : ∃ f, f = iv (L c c) ^^^ 1 := ⟨_, rfl⟩
              rw [← hf] at hy hfl
              have hiv0 : iv (L c c) ≠ 0 := ex_ne _
              have hrel2 := rel_rscale (i := c) HM.out hRel.out hiv hiv0
              have e1 := rscale_radd hLb hc hiv
              have e2 := rscale_radd hRel.out.2.1 hc hiv
              rw [← hf] at e1 e2
              have hrel3 := rel_congr hrel2 e1.symm e2.symm
              have hu3 := unit_congr e1.symm (Nat.le_of_lt hc) (unit_scale (s := iv (L c c)) hUn.out hc)
              have hcol3 : Col n c 0 (radd c c f L) := ⟨(e1 c hc c hc).trans (scale_at hLb hc hpv), fun r hr => by omega⟩
              have hmr := row_cells ((HIS.out.keep w3.heap.size X2.out.1 X2.out.2.1 X2.out.2.2).trans QM.out)
              obtain ⟨m0, m1, m2⟩ := hmr
              have HF := Lib.hid hf
              have HINV := Lib.hid hinv
              have HREL3 := Lib.hid hrel3
              have HU3 := Lib.hid hu3
              have HCOL3 := Lib.hid hcol3
              have hRb := hRel.out.2.1
              clear hp hf hinv e1 e2 hrel2 hrel3 hu3 hcol3 hpv hiv0 HPV
              generalize iv (L c c) = s at hy HINV hiv
              go_wp2_with fail
              refine (HINV.out _).mono ?_
              unfold Two
              rintro e w' ⟨rfl, rfl⟩
              go_wp2_with fail
              refine (radd_any gr N cr n c c f w.heap.size R _ HN.out hn.2 hc hc hfl hRb HIS.out.r).mono ?_
              rintro e w4 ⟨rfl, ho4, hg4⟩
              have HIS4 := Lib.hid (HIS.out.right ho4 hg4)
              clear ho4 hg4 m0 m1 m2 cell0
              go_wp2_with fail
              refine (radd_any gl N cl n c c f w.heap.size L _ HN.out hn.2 hc hc hfl hLb HIS4.out.l).mono ?_
              rintro e w5 ⟨rfl, ho5, hg5⟩
              have HIS5 := Lib.hid (HIS4.out.left ho5 hg5)
              clear ho5 hg5 HIS4 HIS hLb hRb hy HINV hcc hRel hUn
              generalize radd c c f L = L2 at *
              generalize radd c c f R = R2 at *
              clear HF
              go_wp2_with fail
              go_loopw [12] (fun i wr => ∃ (i' : Nat) (L R : Nat → Nat → Nat), i' ≤ n ∧ i = .int .i64 (i' : Int) ∧ IS W wr n gl gr N cl cr w.heap.size L R ∧ Rel n (ent l n) L R ∧ Unit' n c L ∧ Col n c i' L) (fun i _ => n - (intOf i).toNat)
              case atStart => exact ⟨0, L2, R2, by omega, rfl, HIS5.out, HREL3.out, HU3.out, HCOL3.out⟩
              case round =>
                clear HIS5 HREL3 HU3 HCOL3
                obtain ⟨i, L3, R3, hi, rfl, his, hrel, hu, hcol⟩ := hrel
                have HIS := Lib.hid his
                have HREL := Lib.hid hrel
                have HU := Lib.hid hu
                have HCOL := Lib.hid hcol
                clear his hrel hu hcol
                by_cases hin : i < n
                · obtain ⟨cell1, hidx1⟩ := HIS.out.at HN.out hin hc
                  obtain ⟨p1, hp1⟩ : ∃ p, p = i * n := ⟨_, rfl⟩
                  have ⟨hw1', hp1256⟩ := wrap_at hn.2 hin hp1
                  rw [← hp1] at cell1 hidx1
                  clear hp1
                  by_cases hic : i = c
                  · have hb : ((i : Int) != (c : Int)) = false := by rw [hic]; simp
                    have HC2 := Lib.hid (col_skip HCOL.out (Or.inl hic))
                    clear hic
                    generalize L3 i c = f1 at cell1
                    go_wp2_with fail
                    go_roundw
                    case rel => exact ⟨i + 1, L3, R3, by omega, by go_num, HIS.out, HREL.out, HU.out, HC2.out⟩
                    case measure => simp [intOf]; omega
                  · have hb : ((i : Int) != (c : Int)) = true := by rw [bne_iff_ne]; omega
                    have hLb := HREL.out.1
                    have hf1 := hLb i hin c hc
                    by_cases hz : L3 i c = 0
                    · have HC2 := Lib.hid (col_skip HCOL.out (Or.inr hz))
                      rw [hz] at cell1
                      clear hz
                      go_wp2_with fail
                      go_roundw
                      case rel => exact ⟨i + 1, L3, R3, by omega, by go_num, HIS.out, HREL.out, HU.out, HC2.out⟩
                      case measure => simp [intOf]; omega
                    · have hb2 : (((L3 i c : Nat) : Int) != 0) = true := by rw [bne_iff_ne]; omega
                      have HC2 := Lib.hid (col_clear HCOL.out hLb hc hin hic)
                      have HU2 := Lib.hid (unit_clear (f := L3 i c) HU.out hc hin)
                      have HR2 := Lib.hid (rel_radd HM.out HREL.out hin hc hic hf1)
                      obtain ⟨m0, m1, m2⟩ := row_cells ((HIS.out.keep w3.heap.size X2.out.1 X2.out.2.1 X2.out.2.2).trans QM.out)
                      generalize L3 i c = f1 at *
                      clear hz hic
                      have hRb := HREL.out.2.1
                      go_wp2_with fail
                      refine (radd_any gr N cr n i c f1 w.heap.size R3 _ HN.out hn.2 hin hc hf1 hRb HIS.out.r).mono ?_
                      rintro e w6 ⟨rfl, ho6, hg6⟩
                      have HIS6 := Lib.hid (HIS.out.right ho6 hg6)
                      clear ho6 hg6 m0 m1 m2 cell1
                      go_wp2_with fail
                      refine (radd_any gl N cl n i c f1 w.heap.size L3 _ HN.out hn.2 hin hc hf1 hLb HIS6.out.l).mono ?_
                      rintro e w7 ⟨rfl, ho7, hg7⟩
                      have HIS7 := Lib.hid (HIS6.out.left ho7 hg7)
                      clear ho7 hg7 HIS6
                      go_wp2_with fail
                      go_roundw
                      case rel => exact ⟨i + 1, _, _, by omega, by go_num, HIS7.out, HR2.out, HU2.out, HC2.out⟩
                      case measure => simp [intOf]; omega
                · obtain rfl : i = n := by omega
                  have HU2 := Lib.hid (col_unit HU.out HCOL.out)
                  go_wp2_with fail
                  go_roundw
                  case rel => exact ⟨c + 1, L3, R3, by omega, by go_num, HIS.out, HREL.out, HU2.out⟩
                  case measure => simp [intOf]; omega
          · obtain rfl : k = n := by omega
            have HSG := Lib.hid (rel_sing HM.out hRel.out hc hUn.out (fun i h1 h2 => HZ.out i h1 h2))
            have hbl := HIS.out.below HW.out X4.out.1 X4.out.2
            have zz := (HIS.out.keep (w.heap.size + 1) X3.out.1 X3.out.2.1 X3.out.2.2).trans Q2.out
            have ZZ := Lib.hid zz
            have HBL := Lib.hid hbl
            have hkk : ((k : Int) == (k : Int)) = true := by simp
            clear zz hbl
            go_wp2_with ((with_reducible refine storeM (w.heap.size + 1) (.int .i64 0) (.int .i64 0) (.slice none 0 0) ?_ ?_ ZZ.out ?_ ?_ ?_ ?_); exact rfl; exact rfl; exact rfl; exact rfl; exact rfl)
            exact bodyPost_ret (results_mx rfl _ _ (w.heap.size + 1) _ _ _ (0, 0) rfl (setRow_heap _ _ _ _ _ _ ZZ.out)) rfl (mo_sing HSG.out ⟨⟨_, rfl, own_nil _ _⟩, below_setRow HBL.out (by omega) _⟩)
      · have HPV := Lib.hid h0
        obtain ⟨cell9, hidx9⟩ := HIS.out.at HN.out hc hc
        obtain ⟨p9, hp9⟩ : ∃ p, p = c * n := ⟨_, rfl⟩
        have ⟨hw9, hp9256⟩ := wrap_at hn.2 hc hp9
        rw [← hp9] at cell9 hidx9
        have hb1 : (((L c c : Nat) : Int) == 0) = false := beq_false_of_ne (by omega)
        clear hp9 h0
        go_wp2_with fail
        clear cell9 hw9 hidx9 hp9256 hb1
        have hLb := hRel.out.1
        have hpv := HPV.out
        have hcc := hLb c hc c hc
        obtain ⟨cell0, hidx0⟩ := HIS.out.at HN.out hc hc
        obtain ⟨p, hp⟩ : ∃ p, p = c * n := ⟨_, rfl⟩
        have ⟨hw0, hp256⟩ := wrap_at hn.2 hc hp
        rw [← hp] at cell0 hidx0
        have hinv := fun w => rinv_pos (L c c) w hcc hpv
        have hiv := iv_lt (L c c)
        have hy : bits .xor .u8 ((iv (L c c) : Nat) : Int) 1 = ((iv (L c c) ^^^ 1 : Nat) : Int) := u8_xor_nat (iv (L c c)) 1 hiv (by decide)
        have hfl : iv (L c c) ^^^ 1 < 256 := xor_lt hiv (by decide)
        obtain ⟨f, hf⟩ : ∃ f, f = iv (L c c) ^^^ 1 := ⟨_, rfl⟩
        rw [← hf] at hy hfl
        have hiv0 : iv (L c c) ≠ 0 := ex_ne _
        have hrel2 := rel_rscale (i := c) HM.out hRel.out hiv hiv0
        have e1 := rscale_radd hLb hc hiv
        have e2 := rscale_radd hRel.out.2.1 hc hiv
        rw [← hf] at e1 e2
        have hrel3 := rel_congr hrel2 e1.symm e2.symm
        have hu3 := unit_congr e1.symm (Nat.le_of_lt hc) (unit_scale (s := iv (L c c)) hUn.out hc)
        have hcol3 : Col n c 0 (radd c c f L) := ⟨(e1 c hc c hc).trans (scale_at hLb hc hpv), fun r hr => by omega⟩
        have hmr := row_cells ((HIS.out.keep w3.heap.size X2.out.1 X2.out.2.1 X2.out.2.2).trans QM.out)
        obtain ⟨m0, m1, m2⟩ := hmr
        have HF := Lib.hid hf
        have HINV := Lib.hid hinv
        have HREL3 := Lib.hid hrel3
        have HU3 := Lib.hid hu3
        have HCOL3 := Lib.hid hcol3
        have hRb := hRel.out.2.1
        clear hp hf hinv e1 e2 hrel2 hrel3 hu3 hcol3 hpv hiv0 HPV
        generalize iv (L c c) = s at hy HINV hiv
        go_wp2_with fail
        refine (HINV.out _).mono ?_
        unfold Two
        rintro e w' ⟨rfl, rfl⟩
        go_wp2_with fail
        refine (radd_any gr N cr n c c f w.heap.size R _ HN.out hn.2 hc hc hfl hRb HIS.out.r).mono ?_
        rintro e w4 ⟨rfl, ho4, hg4⟩
        have HIS4 := Lib.hid (HIS.out.right ho4 hg4)
        clear ho4 hg4 m0 m1 m2 cell0
        go_wp2_with fail
        refine (radd_any gl N cl n c c f w.heap.size L _ HN.out hn.2 hc hc hfl hLb HIS4.out.l).mono ?_
        rintro e w5 ⟨rfl, ho5, hg5⟩
        have HIS5 := Lib.hid (HIS4.out.left ho5 hg5)
        clear ho5 hg5 HIS4 HIS hLb hRb hy HINV hcc hRel hUn
        generalize radd c c f L = L2 at *
        generalize radd c c f R = R2 at *
        clear HF
        go_wp2_with fail
        go_loopw [12] (fun i wr => ∃ (i' : Nat) (L R : Nat → Nat → Nat), i' ≤ n ∧ i = .int .i64 (i' : Int) ∧ IS W wr n gl gr N cl cr w.heap.size L R ∧ Rel n (ent l n) L R ∧ Unit' n c L ∧ Col n c i' L) (fun i _ => n - (intOf i).toNat)
        case atStart => exact ⟨0, L2, R2, by omega, rfl, HIS5.out, HREL3.out, HU3.out, HCOL3.out⟩
        case round =>
          clear HIS5 HREL3 HU3 HCOL3
          obtain ⟨i, L3, R3, hi, rfl, his, hrel, hu, hcol⟩ := hrel
          have HIS := Lib.hid his
          have HREL := Lib.hid hrel
          have HU := Lib.hid hu
          have HCOL := Lib.hid hcol
          clear his hrel hu hcol
          by_cases hin : i < n
          · obtain ⟨cell1, hidx1⟩ := HIS.out.at HN.out hin hc
            obtain ⟨p1, hp1⟩ : ∃ p, p = i * n := ⟨_, rfl⟩
            have ⟨hw1', hp1256⟩ := wrap_at hn.2 hin hp1
            rw [← hp1] at cell1 hidx1
            clear hp1
            by_cases hic : i = c
            · have hb : ((i : Int) != (c : Int)) = false := by rw [hic]; simp
              have HC2 := Lib.hid (col_skip HCOL.out (Or.inl hic))
              clear hic
              generalize L3 i c = f1 at cell1
              go_wp2_with fail
              go_roundw
              case rel => exact ⟨i + 1, L3, R3, by omega, by go_num, HIS.out, HREL.out, HU.out, HC2.out⟩
              case measure => simp [intOf]; omega
            · have hb : ((i : Int) != (c : Int)) = true := by rw [bne_iff_ne]; omega
              have hLb := HREL.out.1
              have hf1 := hLb i hin c hc
              by_cases hz : L3 i c = 0
              · have HC2 := Lib.hid (col_skip HCOL.out (Or.inr hz))
                rw [hz] at cell1
                clear hz
                go_wp2_with fail
                go_roundw
                case rel => exact ⟨i + 1, L3, R3, by omega, by go_num, HIS.out, HREL.out, HU.out, HC2.out⟩
                case measure => simp [intOf]; omega
              · have hb2 : (((L3 i c : Nat) : Int) != 0) = true := by rw [bne_iff_ne]; omega
                have HC2 := Lib.hid (col_clear HCOL.out hLb hc hin hic)
                have HU2 := Lib.hid (unit_clear (f := L3 i c) HU.out hc hin)
                have HR2 := Lib.hid (rel_radd HM.out HREL.out hin hc hic hf1)
                obtain ⟨m0, m1, m2⟩ := row_cells ((HIS.out.keep w3.heap.size X2.out.1 X2.out.2.1 X2.out.2.2).trans QM.out)
                generalize L3 i c = f1 at *
                clear hz hic
                have hRb := HREL.out.2.1
                go_wp2_with fail
                refine (radd_any gr N cr n i c f1 w.heap.size R3 _ HN.out hn.2 hin hc hf1 hRb HIS.out.r).mono ?_
                rintro e w6 ⟨rfl, ho6, hg6⟩
                have HIS6 := Lib.hid (HIS.out.right ho6 hg6)
                clear ho6 hg6 m0 m1 m2 cell1
                go_wp2_with fail
                refine (radd_any gl N cl n i c f1 w.heap.size L3 _ HN.out hn.2 hin hc hf1 hLb HIS6.out.l).mono ?_
                rintro e w7 ⟨rfl, ho7, hg7⟩
                have HIS7 := Lib.hid (HIS6.out.left ho7 hg7)
                clear ho7 hg7 HIS6
                go_wp2_with fail
                go_roundw
                case rel => exact ⟨i + 1, _, _, by omega, by go_num, HIS7.out, HR2.out, HU2.out, HC2.out⟩
                case measure => simp [intOf]; omega
          · obtain rfl : i = n := by omega
            have HU2 := Lib.hid (col_unit HU.out HCOL.out)
            go_wp2_with fail
            go_roundw
            case rel => exact ⟨c + 1, L3, R3, by omega, by go_num, HIS.out, HREL.out, HU2.out⟩
            case measure => simp [intOf]; omega
    · obtain rfl : c = n := by omega
      have HINV := Lib.hid (rel_end HM.out hRel.out (unit_full hUn.out))
      have hbl := HIS.out.below HW.out X4.out.1 X4.out.2
      have zz := (HIS.out.keep (w.heap.size + 1) X3.out.1 X3.out.2.1 X3.out.2.2).trans Q2.out
      have mm := (HIS.out.keep w3.heap.size X2.out.1 X2.out.2.1 X2.out.2.2).trans QM.out
      have ZZ := Lib.hid zz
      have MM := Lib.hid mm
      have HBL := Lib.hid hbl
      clear zz mm hbl
      go_wp2_with (first | ((with_reducible refine loadM w3.heap.size ?_ MM.out ?_); exact rfl) | ((with_reducible refine storeM (w.heap.size + 1) (.int .i64 c) (.int .i64 c) (.slice (some ⟨gr, 0, none⟩) N cr) ?_ ?_ ZZ.out ?_ ?_ ?_ ?_); exact rfl; exact rfl; exact rfl; exact rfl; exact rfl))
      refine bodyPost_ret (results_mx rfl _ _ (w.heap.size + 1) _ _ _ (0, 0) rfl (setRow_heap _ _ _ _ _ _ ZZ.out)) rfl (Or.inl ⟨R, HINV.out, ⟨_, rfl, ?_⟩, below_setRow HBL.out (by omega) _⟩)
      exact own_keep HIS.out.r fun q hq => setRow_other _ _ _ _ (by have h1 : gr = q := Option.some.inj hq; have h2 := X3.out.2.2; omega)
end Go.Proofs.Ytppfdaiehdbafaa.Gf
