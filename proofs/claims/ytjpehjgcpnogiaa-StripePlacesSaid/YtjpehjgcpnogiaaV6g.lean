/- What is proved here: the walk of the law StripePlaces, over what it asks of the program. No condition. -/
import Derived.Test.YtjpehjgcpnogiaaV5e
namespace Go.Proofs.Ytjpehjgcpnogiaa.Gf
open Go Go.Joins Go.ChangeShapes Go.WideShapes Go.ChangeAt Go.RowKit Go.Deep Go.Proofs.Ytjpehjgcpnogiaa.By

theorem places_math (a b : Nat) : (shOf a = shOf b ∧ atOf a = atOf b ↔ a = b) ∧ (a / 64 = b / 64 → shOf a = shOf b ∧ (atOf a : Int) - (atOf b : Int) = (a : Int) - (b : Int)) := by
  refine ⟨⟨fun h => place_inj h.1 h.2, fun h => by rw [h]; exact ⟨rfl, rfl⟩⟩, fun h => ?_⟩
  unfold shOf atOf
  omega
set_option maxRecDepth 100000 in
set_option maxHeartbeats 6400000 in
theorem places_walk (P : PC5) (a b : Nat) (ha : a < 4294967296) (hb : b < 4294967296) (w : World) : Calls Try.prog 9 #[.int .u32 (a : Int), .int .u32 (b : Int)] w fun e w' => e = .returned (.bool true) ∧ Below w.heap.size w w' := by
  have hpa := fun W => P.place (a : Int) W (by unfold I64b; omega)
  have hpb := fun W => P.place (b : Int) W (by unfold I64b; omega)
  simp only [plS_nat, plA_nat, plE_nat] at hpa hpb
  have PA := Lib.hid hpa
  have PB := Lib.hid hpb
  have AW := Lib.hid (awake5_any P)
  have hm := places_math a b
  have d1 : (a : Int).tdiv 64 = ((a / 64 : Nat) : Int) := by rw [Int.tdiv_eq_ediv_of_nonneg (by omega)]; omega
  have d2 : (b : Int).tdiv 64 = ((b / 64 : Nat) : Int) := by rw [Int.tdiv_eq_ediv_of_nonneg (by omega)]; omega
  have s1 := sh_lt a
  have s2 := sh_lt b
  have t1 : atOf a < 4294967296 := by unfold atOf; omega
  have t2 : atOf b < 4294967296 := by unfold atOf; omega
  have q1 : a / 64 < 67108864 := by omega
  have q2 : b / 64 < 67108864 := by omega
  clear P hpa hpb
  generalize shOf a = s at *
  generalize shOf b = t at *
  generalize atOf a = x at *
  generalize atOf b = y at *
  generalize a / 64 = u at *
  generalize b / 64 = v at *
  have k1 : decide ((s : Int) < 0) = false := decide_eq_false (by omega)
  have k2 : decide ((4 : Int) ≤ (s : Int)) = false := decide_eq_false (by omega)
  have k3 : decide ((x : Int) < 0) = false := decide_eq_false (by omega)
  go_enter Try.func9, Try.ntmps9
  by_cases hst : s = t
  · have c1 : ((s : Int) == (t : Int)) = true := by rw [beq_iff_eq]; omega
    by_cases hxy : x = y
    · have c2 : ((x : Int) == (y : Int)) = true := by rw [beq_iff_eq]; omega
      have hab := hm.1.1 ⟨hst, hxy⟩
      have c3 : ((a : Int) == (b : Int)) = true := by rw [beq_iff_eq]; omega
      by_cases huv : u = v
      · have c4 : ((u : Int) != (v : Int)) = false := by rw [bne_eq_false_iff_eq]; omega
        have c5 : ((x : Int) - (y : Int) == (a : Int) - (b : Int)) = true := by rw [beq_iff_eq]; omega
        clear hst hxy hab huv
        clear hm
        go_wp2_with fail
        refine (PA.out w).mono ?_
        rintro e w1 ⟨rfl, hb1⟩
        have B1 := Lib.hid hb1
        clear hb1
        go_wp2_with fail
        refine (PB.out w1).mono ?_
        rintro e w2 ⟨rfl, hb2⟩
        have B2 := Lib.hid (bt B1.out hb2)
        clear hb2
        go_wp2_with fail
        refine (AW.out w2).mono ?_
        rintro e w3 ⟨rfl, hb3⟩
        have hb := bt B2.out hb3
        go_wp2_with fail
        go_ret
        exact ⟨rfl, hb⟩
      · have c4 : ((u : Int) != (v : Int)) = true := by rw [bne_iff_ne]; omega
        clear hst hxy hab huv
        clear hm
        go_wp2_with fail
        refine (PA.out w).mono ?_
        rintro e w1 ⟨rfl, hb1⟩
        have B1 := Lib.hid hb1
        clear hb1
        go_wp2_with fail
        refine (PB.out w1).mono ?_
        rintro e w2 ⟨rfl, hb2⟩
        have B2 := Lib.hid (bt B1.out hb2)
        clear hb2
        go_wp2_with fail
        refine (AW.out w2).mono ?_
        rintro e w3 ⟨rfl, hb3⟩
        have hb := bt B2.out hb3
        go_wp2_with fail
        go_ret
        exact ⟨rfl, hb⟩
    · have c2 : ((x : Int) == (y : Int)) = false := beq_false_of_ne (by omega)
      have hab : a ≠ b := fun h => hxy (hm.1.2 h).2
      have c3 : ((a : Int) == (b : Int)) = false := beq_false_of_ne (by omega)
      by_cases huv : u = v
      · have c4 : ((u : Int) != (v : Int)) = false := by rw [bne_eq_false_iff_eq]; omega
        have c5 : ((x : Int) - (y : Int) == (a : Int) - (b : Int)) = true := by rw [beq_iff_eq]; exact (hm.2 huv).2
        clear hst hxy hab huv
        clear hm
        go_wp2_with fail
        refine (PA.out w).mono ?_
        rintro e w1 ⟨rfl, hb1⟩
        have B1 := Lib.hid hb1
        clear hb1
        go_wp2_with fail
        refine (PB.out w1).mono ?_
        rintro e w2 ⟨rfl, hb2⟩
        have B2 := Lib.hid (bt B1.out hb2)
        clear hb2
        go_wp2_with fail
        refine (AW.out w2).mono ?_
        rintro e w3 ⟨rfl, hb3⟩
        have hb := bt B2.out hb3
        go_wp2_with fail
        go_ret
        exact ⟨rfl, hb⟩
      · have c4 : ((u : Int) != (v : Int)) = true := by rw [bne_iff_ne]; omega
        clear hst hxy hab huv
        clear hm
        go_wp2_with fail
        refine (PA.out w).mono ?_
        rintro e w1 ⟨rfl, hb1⟩
        have B1 := Lib.hid hb1
        clear hb1
        go_wp2_with fail
        refine (PB.out w1).mono ?_
        rintro e w2 ⟨rfl, hb2⟩
        have B2 := Lib.hid (bt B1.out hb2)
        clear hb2
        go_wp2_with fail
        refine (AW.out w2).mono ?_
        rintro e w3 ⟨rfl, hb3⟩
        have hb := bt B2.out hb3
        go_wp2_with fail
        go_ret
        exact ⟨rfl, hb⟩
  · have c1 : ((s : Int) == (t : Int)) = false := beq_false_of_ne (by omega)
    have hab : a ≠ b := fun h => hst (hm.1.2 h).1
    have c3 : ((a : Int) == (b : Int)) = false := beq_false_of_ne (by omega)
    have huv : u ≠ v := fun h => hst (hm.2 h).1
    have c4 : ((u : Int) != (v : Int)) = true := by rw [bne_iff_ne]; omega
    clear hst hab huv
    clear hm
    go_wp2_with fail
    refine (PA.out w).mono ?_
    rintro e w1 ⟨rfl, hb1⟩
    have B1 := Lib.hid hb1
    clear hb1
    go_wp2_with fail
    refine (PB.out w1).mono ?_
    rintro e w2 ⟨rfl, hb2⟩
    have B2 := Lib.hid (bt B1.out hb2)
    clear hb2
    go_wp2_with fail
    refine (AW.out w2).mono ?_
    rintro e w3 ⟨rfl, hb3⟩
    have hb := bt B2.out hb3
    go_wp2_with fail
    go_ret
    exact ⟨rfl, hb⟩
end Go.Proofs.Ytjpehjgcpnogiaa.Gf
