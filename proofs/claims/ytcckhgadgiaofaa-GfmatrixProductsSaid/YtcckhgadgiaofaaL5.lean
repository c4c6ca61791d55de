/- What is proved here: the program's contracts as the laws use them, for matrices that fit. Condition: PC3. -/
import Derived.Test.YtcckhgadgiaofaaL4
import Derived.Test.YtcckhgadgiaofaaL3a
namespace Go.Proofs.Ytcckhgadgiaofaa.Gf
open Go Go.ChangeShapes Go.WideShapes Go.ChangeAt Go.RowKit Go.Sort Go.Proofs.Ytcckhgadgiaofaa.By Go.Proofs.Ytcckhgadgiaofaa.Qt

theorem i64_nat {n : Nat} (h : n ≤ 16) : I64 (n : Int) := by unfold I64; omega
theorem sized_nat {r c : Nat} (hr : 1 ≤ r ∧ r ≤ 16) (hc : 1 ≤ c ∧ c ≤ 16) : Sized (r : Int) (c : Int) := by unfold Sized; omega
theorem vd_flat {r c : Nat} (f : Nat → Nat → Nat) (hr : 1 ≤ r ∧ r ≤ 16) (hc : 1 ≤ c ∧ c ≤ 16) : Vd (r : Int) (c : Int) (flat r c f).length := ⟨sized_nat hr hc, by rw [flat_length]; simp⟩
section
variable {Ok : World → Prop} (P : PC3 Ok)
include P
theorem q_ident {r : Nat} (hr : 1 ≤ r ∧ r ≤ 16) (W : World) (ok : Ok W) : Calls Try.prog 14 #[.int .i64 (r : Int)] W (MS W r r (flat r r idm) 0) :=
  (P.ident r W (i64_nat hr.2) ok).mono fun e w' h => by
    unfold identPostS at h
    rw [if_pos (sized_nat hr hr)] at h
    exact h
theorem q_vander {r c : Nat} (hr : 1 ≤ r ∧ r ≤ 16) (hc : 1 ≤ c ∧ c ≤ 16) (W : World) (ok : Ok W) : Calls Try.prog 16 #[.int .i64 (r : Int), .int .i64 (c : Int)] W (MS W r c (flat r c pn) 0) :=
  (P.vander r c W (i64_nat hr.2) (i64_nat hc.2) ok).mono fun e w' h => by
    unfold vanderPostS at h
    rw [if_pos (sized_nat hr hc)] at h
    exact h
theorem q_mul {a b c : Nat} (A B : Nat → Nat → Nat) (ha : 1 ≤ a ∧ a ≤ 16) (hb : 1 ≤ b ∧ b ≤ 16) (hc : 1 ≤ c ∧ c ≤ 16) (W : World) (v1 v2 : Value) (s1 : Sl W v1 (flat a b A)) (s2 : Sl W v2 (flat b c B)) (ok : Ok W) :
    Calls Try.prog 22 #[mv a b v1, mv b c v2] W (MS W a c (flat a c (mm b A B)) 0) :=
  (P.mul a b b c v1 v2 _ _ W (i64_nat ha.2) (i64_nat hb.2) (i64_nat hb.2) (i64_nat hc.2) s1 s2 ok).mono fun e w' h => by
    unfold mulPostS at h
    rw [if_pos ⟨vd_flat A ha hb, vd_flat B hb hc, rfl⟩] at h
    simp only [Int.toNat_natCast] at h
    rw [flat_ext (mm_congr (ent_flat A) (ent_flat B))] at h
    exact h
theorem q_invert {r : Nat} (M : Nat → Nat → Nat) (hr : 1 ≤ r ∧ r ≤ 16) (W : World) (v : Value) (s : Sl W v (flat r r M)) (ok : Ok W) :
    Calls Try.prog 26 #[mv r r v] W fun e w' => (∃ X, Inv2 r M X ∧ MS W r r (flat r r X) 0 e w') ∨ (Sing r M ∧ MS W 0 0 [] 14 e w') :=
  (P.invert r r v _ W (i64_nat hr.2) (i64_nat hr.2) s ok).mono fun e w' h => by
    unfold invPostS at h
    rw [if_pos ⟨vd_flat M hr hr, rfl⟩] at h
    simp only [Int.toNat_natCast] at h
    rcases h with ⟨X, hX, hm⟩ | ⟨hs, hm⟩
    · exact Or.inl ⟨X, inv_congr (ent_flat M) Eqm.rfl' hX, hm⟩
    · exact Or.inr ⟨sing_congr (ent_flat M) hs, hm⟩
end
end Go.Proofs.Ytcckhgadgiaofaa.Gf
