/- What is proved here: the contracts of the reference's Size and Place, and of cut. No condition. -/
import Derived.Test.YtjpehjgcpnogiaaRo
import Derived.Test.YtjpehjgcpnogiaaM5
import Derived.OwnWalk
namespace Go.Proofs.Ytjpehjgcpnogiaa.Gf
open Go Go.Joins Go.ChangeShapes Go.WideShapes Go.ChangeAt Go.RowKit Go.Deep Go.Proofs.Ytjpehjgcpnogiaa.By

/-- Size of a volume. -/
def szI (n : Int) : Int := if n < 0 then 0 else (n + 255) / 256 * 64
theorem szI_nat (n : Nat) : szI (n : Int) = ((szN n : Nat) : Int) := by
  unfold szI szN
  rw [if_neg (by omega)]
  omega
theorem rsize5_any (n : Int) (w : World) (h : -9223372036854775808 ≤ n ∧ n ≤ 9223372036854775807) : Calls Try.prog 13 #[.int .i64 n] w fun e w' => e = .returned (.int .i64 (szI n)) ∧ w = w' := by
  by_cases h0 : n < 0
  · unfold szI
    rw [if_pos h0]
    go_enter Try.func13, Try.ntmps13
    go_wp2
    go_ret
    exact ⟨rfl, rfl⟩
  · have e1 : n.tdiv 256 = n / 256 := Int.tdiv_eq_ediv_of_nonneg (by omega)
    have e2 : n.tmod 256 = n % 256 := Int.tmod_eq_emod_of_nonneg (by omega)
    unfold szI
    rw [if_neg h0]
    obtain ⟨q, hq⟩ : ∃ q, n / 256 = q := ⟨_, rfl⟩
    obtain ⟨r, hr⟩ : ∃ r, n % 256 = r := ⟨_, rfl⟩
    have b1 : 0 ≤ q ∧ q ≤ 36028797018963967 := by omega
    have b2 : 0 ≤ r ∧ r < 256 := by omega
    by_cases h1 : 0 < r
    · have e3 : (n + 255) / 256 * 64 = (q + 1) * 64 := by omega
      rw [e3]
      rw [hq] at e1
      rw [hr] at e2
      clear hq hr e3
      go_enter Try.func13, Try.ntmps13
      go_wp2
      go_ret
      exact ⟨rfl, rfl⟩
    · have e3 : (n + 255) / 256 * 64 = q * 64 := by omega
      rw [e3]
      rw [hq] at e1
      rw [hr] at e2
      clear hq hr e3
      go_enter Try.func13, Try.ntmps13
      go_wp2
      go_ret
      exact ⟨rfl, rfl⟩
def plS (n : Int) : Int := if n < 0 then 0 else n / 64 % 4
def plA (n : Int) : Int := if n < 0 then 0 else n / 256 * 64 + n % 64
def plE (n : Int) : Int := if n < 0 then 1 else 0
theorem plS_nat (n : Nat) : plS (n : Int) = ((shOf n : Nat) : Int) := by
  unfold plS shOf
  rw [if_neg (by omega)]
  omega
theorem plA_nat (n : Nat) : plA (n : Int) = ((atOf n : Nat) : Int) := by
  unfold plA atOf
  rw [if_neg (by omega)]
  omega
theorem plE_nat (n : Nat) : plE (n : Int) = 0 := by
  unfold plE
  rw [if_neg (by omega)]
set_option maxRecDepth 100000 in
theorem rplace_any (n : Int) (w : World) (h : -9223372036854775808 ≤ n ∧ n ≤ 9223372036854775807) : Calls Try.prog 11 #[.int .i64 n] w fun e w' => e = .returned (.tuple #[.int .i64 (plS n), .int .i64 (plA n), .int .i64 (plE n)]) ∧ w = w' := by
  by_cases h0 : n < 0
  · unfold plS plA plE
    rw [if_pos h0, if_pos h0, if_pos h0]
    go_enter Try.func11, Try.ntmps11
    go_wp2
    go_ret3
    exact ⟨rfl, rfl⟩
  · have e1 : n.tdiv 64 = n / 64 := Int.tdiv_eq_ediv_of_nonneg (by omega)
    have e2 : n.tmod 64 = n % 64 := Int.tmod_eq_emod_of_nonneg (by omega)
    have e3 : (n / 64).tmod 4 = n / 64 % 4 := Int.tmod_eq_emod_of_nonneg (by omega)
    have e4 : (n / 64).tdiv 4 = n / 256 := by rw [Int.tdiv_eq_ediv_of_nonneg (by omega)]; omega
    unfold plS plA plE
    rw [if_neg h0, if_neg h0, if_neg h0]
    obtain ⟨q, hq⟩ : ∃ q, n / 64 = q := ⟨_, rfl⟩
    obtain ⟨q4, hq4⟩ : ∃ q, n / 256 = q := ⟨_, rfl⟩
    obtain ⟨r, hr⟩ : ∃ r, n % 64 = r := ⟨_, rfl⟩
    obtain ⟨s, hs⟩ : ∃ s, n / 64 % 4 = s := ⟨_, rfl⟩
    have b1 : 0 ≤ q ∧ q ≤ 144115188075855872 := by omega
    have b2 : 0 ≤ r ∧ r < 64 := by omega
    have b3 : 0 ≤ q4 ∧ q4 ≤ 36028797018963967 := by omega
    have b4 : 0 ≤ s ∧ s < 4 := by omega
    rw [hs] at e3
    rw [hq] at e1 e3 e4
    rw [hq4] at e4
    rw [hr] at e2
    rw [hs, hq4, hr]
    clear hq hq4 hr hs
    go_enter Try.func11, Try.ntmps11
    go_wp2
    go_ret3
    exact ⟨rfl, rfl⟩
end Go.Proofs.Ytjpehjgcpnogiaa.Gf
