/- What is proved here: the mathematics of the reference's writes: they are those of the lists sorted by names. No program text. -/
import Derived.Test.YtpipgbjkkiheaaaMN10
import Derived.Test.YtpipgbjkkiheaaaR10p
namespace Go.Proofs.Ytpipgbjkkiheaaa.Gf
open Go Go.Joins Go.ChangeShapes Go.WideShapes Go.ChangeAt Go.RowKit Go.Deep Go.Proofs.Ytpipgbjkkiheaaa.By Go.Proofs.Ytpipgbjkkiheaaa.Qt

theorem cont_write {x : Fl} (h : flB x.2.1 x.2.2 = true) {off : Nat} {b : List Nat} (ho : off ≤ (contL x).length) (hm : off + b.length ≤ 1048576) : (contL (x.1, x.2.1, x.2.2 ++ [((off : Int), b, false)])).length = max (contL x).length (off + b.length) := by
  have hx : contL x = apL x.2.1 x.2.2 := by unfold contL; rw [if_pos h]
  have hl := contL_le x
  rw [hx] at ho hl ⊢
  have hf := flB_write h (off := off) (x := b) ho (by omega)
  unfold contL
  rw [if_pos hf, apL_append, apL_one, apW_length, if_neg (by simp)]
  simp
theorem cont_trunc {x : Fl} (h : flB x.2.1 x.2.2 = true) {off : Nat} (ho : off ≤ (contL x).length) : (contL (x.1, x.2.1, x.2.2 ++ [((off : Int), [], true)])).length = off := by
  have hx : contL x = apL x.2.1 x.2.2 := by unfold contL; rw [if_pos h]
  rw [hx] at ho
  have hf := flB_trunc h (off := off) ho
  unfold contL
  rw [if_pos hf, apL_append, apL_one, apW_length, if_pos rfl]
  simp
  omega
theorem wRE_put {d : Dk} {x : Fl} (hd : 0 ≤ d.1) (h : flB x.2.1 x.2.2 = true) {off : Nat} {b : List Nat} (ho : off ≤ (contL x).length) : wRE d x ((off : Int), b, false) = wEx d x off b := by
  have hl := contL_le x
  unfold wRE wEx
  dsimp only
  rw [Int.toNat_natCast]
  by_cases c : 1048576 < off + b.length
  · rw [if_pos c, if_pos (by omega)]
  · rw [if_neg c, cont_write h ho (by omega), if_neg (show ¬ 1048576 < max (contL x).length (off + b.length) by omega)]
    by_cases c2 : d.1 ≠ 0 ∧ (contL x).length < max (contL x).length (off + b.length) ∧ d.1 < (totN d.2.2 : Int) - ((contL x).length : Int) + (max (contL x).length (off + b.length) : Nat)
    · rw [if_pos c2, if_pos ⟨by omega, c2.2.1, by omega⟩]
    · rw [if_neg c2, if_neg fun c3 => c2 ⟨by omega, c3.2.1, by omega⟩]
theorem wRE_trunc {d : Dk} {x : Fl} (h : flB x.2.1 x.2.2 = true) {off : Nat} (ho : off ≤ (contL x).length) : wRE d x ((off : Int), [], true) = 0 := by
  have hl := contL_le x
  unfold wRE
  dsimp only
  rw [Int.toNat_natCast, if_neg (by simp; omega), if_neg fun c => by have := c.2.1; rw [cont_trunc h ho] at this; omega]
theorem wRD_eq {d : Dk} {s : ByteArray} (h : atE d s = 0) (y : Wr) : wRD d (atI d s).toNat (fileAt d s) y = wDx d (fileAt d s) y := by
  obtain ⟨-, -, -, hn, hv, -, hi, hp⟩ := open_ok h
  unfold wRD wDx
  rw [set_put (valid_srt hv) (by rw [hn]; exact hp)]
  dsimp only
  rw [hn, hi]
theorem at_nat {d : Dk} {s : ByteArray} (h : atE d s = 0) : ∃ i : Nat, atI d s = (i : Int) ∧ i < d.2.2.length ∧ fileAt d s = d.2.2.getD i fl0 := by
  obtain ⟨h1, h2⟩ := at_ok h
  refine ⟨(atI d s).toNat, by omega, by omega, rfl⟩
theorem rwrite_at {B : Nat → Prop} (v : Value) (d : Dk) (s : ByteArray) (i : Nat) (dv : Value) (off : Nat) (b : List Nat) (cut : Bool) (w : World) (hv : DvB B w v d) (h0 : atE d s = 0) (hi : atI d s = (i : Int)) (k : Nat) (hpn : PnD d k) (hk : k ≤ 89990) (sd : Sl w dv b) (hoff : off ≤ 1048576) (hb : b.length ≤ 1099511627776) :
    Calls Try.prog 86 #[v, .int .i64 (i : Int), .agg #[.int .i64 (off : Int), dv, .bool cut]] w (DE (fun b => B b ∧ b < w.heap.size) w (if wRE d (fileAt d s) ((off : Int), b, cut) = 0 then wDx d (fileAt d s) ((off : Int), b, cut) else dk0) (wRE d (fileAt d s) ((off : Int), b, cut))) := by
  obtain ⟨-, hmem, -, -, hv2, -, -, -⟩ := open_ok h0
  have h2 := (at_ok h0).2
  have h := rwritten_any v d i (fileAt d s) dv off b cut w hv (by omega) (by unfold fileAt; rw [hi, Int.toNat_natCast]) (valid_parts hv2).2.2.1 (Nat.le_trans (hpn _ hmem) (by omega)) sd hoff hb
  have e := wRD_eq h0 ((off : Int), b, cut)
  rw [hi, Int.toNat_natCast] at e
  rwa [e] at h
theorem rwr_append {B : Nat → Prop} (v : Value) (d : Dk) (s : ByteArray) (i : Nat) (dv : Value) (b : List Nat) (w : World) (hv : DvB B w v d) (h0 : atE d s = 0) (hi : atI d s = (i : Int)) (k : Nat) (hpn : PnD d k) (hk : k ≤ 89990) (sd : Sl w dv b) (hb : b.length ≤ 1099511627776) :
    Calls Try.prog 86 #[v, .int .i64 (i : Int), .agg #[.int .i64 (((contL (fileAt d s)).length : Nat) : Int), dv, .bool false]] w (DE (fun b => B b ∧ b < w.heap.size) w (appendD d s b) (appendE d s b)) := by
  obtain ⟨-, -, hf, -, hv2, -, -, -⟩ := open_ok h0
  have h := rwrite_at v d s i dv (contL (fileAt d s)).length b false w hv h0 hi k hpn hk sd (contL_le _) hb
  have e : appendE d s b = wEx d (fileAt d s) (contL (fileAt d s)).length b := by unfold appendE; rw [if_pos h0]
  rw [wRE_put (valid_parts hv2).1 hf (Nat.le_refl _), ← e] at h
  exact h
theorem rwr_put {B : Nat → Prop} (v : Value) (d : Dk) (s : ByteArray) (i : Nat) (dv : Value) (off : Nat) (b : List Nat) (w : World) (hv : DvB B w v d) (h0 : atE d s = 0) (hi : atI d s = (i : Int)) (k : Nat) (hpn : PnD d k) (hk : k ≤ 89990) (sd : Sl w dv b) (ho : off ≤ (contL (fileAt d s)).length) (hb : b.length ≤ 1099511627776) :
    Calls Try.prog 86 #[v, .int .i64 (i : Int), .agg #[.int .i64 (off : Int), dv, .bool false]] w (DE (fun b => B b ∧ b < w.heap.size) w (putD d s (off : Int) b) (putE d s (off : Int) b)) := by
  obtain ⟨-, -, hf, -, hv2, -, -, -⟩ := open_ok h0
  have h := rwrite_at v d s i dv off b false w hv h0 hi k hpn hk sd (Nat.le_trans ho (contL_le _)) hb
  have e : putE d s (off : Int) b = wEx d (fileAt d s) off b := by unfold putE; rw [if_pos h0, if_neg (by omega), Int.toNat_natCast]
  rw [wRE_put (valid_parts hv2).1 hf ho, ← e] at h
  exact h
theorem rwr_trunc {B : Nat → Prop} (v : Value) (d : Dk) (s : ByteArray) (i : Nat) (off : Nat) (w : World) (hv : DvB B w v d) (h0 : atE d s = 0) (hi : atI d s = (i : Int)) (k : Nat) (hpn : PnD d k) (hk : k ≤ 89990) (ho : off ≤ (contL (fileAt d s)).length) :
    Calls Try.prog 86 #[v, .int .i64 (i : Int), .agg #[.int .i64 (off : Int), .slice none 0 0, .bool true]] w (DE (fun b => B b ∧ b < w.heap.size) w (truncD d s (off : Int)) (truncE d s (off : Int))) := by
  obtain ⟨-, -, hf, -, hv2, -, -, -⟩ := open_ok h0
  have h := rwrite_at v d s i (.slice none 0 0) off [] true w hv h0 hi k hpn hk (rd8_sl (rd_nil (fun _ => True) _ _)) (Nat.le_trans ho (contL_le _)) (by simp)
  have e : truncE d s (off : Int) = 0 := by unfold truncE; rw [if_pos h0, if_neg (by omega)]
  have e2 : truncD d s (off : Int) = wDx d (fileAt d s) ((off : Int), [], true) := by unfold truncD; rw [if_pos e]
  rw [wRE_trunc hf ho, if_pos rfl, ← e2] at h
  rw [e]
  exact h
end Go.Proofs.Ytpipgbjkkiheaaa.Gf
