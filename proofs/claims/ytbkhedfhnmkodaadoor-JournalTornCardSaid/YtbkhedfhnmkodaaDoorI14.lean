/- What is proved here: lists of keys in memory (layer 14): read, cut, compared (the reference's Same), cut by the law. No condition. -/
import Derived.Test.YtbkhedfhnmkodaaDoorGb
import Derived.Test.YtbkhedfhnmkodaaDoorM14
import Derived.Test.YtbkhedfhnmkodaaDoorQ6b
import Derived.BigQuiet
namespace Go.Proofs.YtbkhedfhnmkodaaDoor.Gf
open Go Go.ChangeShapes Go.WideShapes Go.ChangeAt Go.RowKit Go.Proofs.YtbkhedfhnmkodaaDoor.By Go.Proofs.YtbkhedfhnmkodaaDoor.Crc

/-- Keys as whole numbers. -/
def intsU (l : List Nat) : List Int := l.map fun (k : Nat) => (k : Int)
theorem intsU_length (l : List Nat) : (intsU l).length = l.length := List.length_map _
theorem intsU_app (a b : List Nat) : intsU (a ++ b) = intsU a ++ intsU b := List.map_append
/-- v reads as the keys l. -/
def UL (w : World) (v : Value) (l : List Nat) : Prop := Rd (fun _ => True) w (.sl (.i .u64)) [v] (intsU l)
/-- v is a list of the call's own with the keys l. -/
def OwU (w : World) (base : Nat) (v : Value) (l : List Nat) : Prop := OwG 37 (.i .u64) (fun _ => True) w base v (intsU l)
theorem ul_form {w : World} {v : Value} {l : List Nat} (h : UL w v l) : ∃ a c, v = .slice a l.length c ∧ l.length ≤ c ∧ c ≤ maxLen := by
  obtain ⟨a, c, h1, h2, h3⟩ := rd_sl h
  rw [intsU_length] at h1 h2
  exact ⟨a, c, h1, h2, h3⟩
theorem ul_below {w w' : World} {v : Value} {l : List Nat} (h : UL w v l) (hB : Below w.heap.size w w') : UL w' v l := rd_below h hB
theorem ul_nil (w : World) : UL w (.slice none 0 0) [] := rd_nil _ w _
theorem owu_ul {w : World} {base : Nat} {v : Value} {l : List Nat} (h : OwU w base v l) : UL w v l := og_rd h fun _ _ => trivial
theorem owu_nil (w : World) (base : Nat) : OwU w base (.slice none 0 0) [] := og_nil _ _ _ w base
theorem owu_form {w : World} {base : Nat} {v : Value} {l : List Nat} (h : OwU w base v l) : ∃ a c, v = .slice a l.length c := by
  obtain ⟨a, c, h1, -⟩ := ul_form (owu_ul h)
  exact ⟨a, c, h1⟩
theorem owu_below {w w' : World} {base : Nat} {v : Value} {l : List Nat} (h : OwU w base v l) (hB : Below w.heap.size w w') : OwU w' base v l := og_below h hB
theorem ul_at {w : World} {a : Option Addr} {n c : Nat} {l : List Nat} (h : UL w (.slice a n c) l) {j : Nat} (hj : j < l.length) : ∃ b o, a = some ⟨b, o, none⟩ ∧ w.cell? ⟨b, o + j, none⟩ = some (.int .u64 ((l.getD j 0 : Nat) : Int)) ∧ l.getD j 0 < 18446744073709551616 := by
  obtain ⟨b, o, cap, h1, -, -, -, hc⟩ := rd_cells h (by rw [intsU_length]; omega)
  obtain rfl : a = some ⟨b, o, none⟩ := by
    simp only [Value.slice.injEq] at h1
    exact h1.1
  have hx : (intsU l)[j]? = some ((l.getD j 0 : Nat) : Int) := by
    unfold intsU
    rw [List.getElem?_map, List.getElem?_eq_getElem hj, List.getD_eq_getElem?_getD, List.getElem?_eq_getElem hj]
    rfl
  obtain ⟨cs, hrd, hk⟩ := hc j _ hx
  obtain ⟨hr, rfl⟩ : (IntKind.u64.min ≤ ((l.getD j 0 : Nat) : Int) ∧ ((l.getD j 0 : Nat) : Int) ≤ IntKind.u64.max) ∧ cs = [.int .u64 ((l.getD j 0 : Nat) : Int)] := hrd
  have k0 := hk 0 (by decide)
  rw [show o + (j * (Ty.i .u64).n + 0) = o + j by show o + (j * 1 + 0) = _; omega] at k0
  refine ⟨b, o, rfl, k0, ?_⟩
  have : ((l.getD j 0 : Nat) : Int) ≤ 18446744073709551615 := hr.2
  omega
theorem ul_lt {w : World} {v : Value} {l : List Nat} (h : UL w v l) : ∀ k ∈ l, k < 18446744073709551616 := fun k hk => by
  obtain ⟨a, c, rfl, -, -⟩ := ul_form h
  obtain ⟨j, hj, rfl⟩ := List.getElem_of_mem hk
  obtain ⟨-, -, -, -, h2⟩ := ul_at h hj
  rw [List.getD_eq_getElem?_getD, List.getElem?_eq_getElem hj] at h2
  exact h2
theorem ul_take {w : World} {a : Option Addr} {n c m : Nat} {l : List Nat} (h : UL w (.slice a n c) l) (hm : m ≤ l.length) : UL w (.slice a m c) (l.take m) := by
  obtain ⟨L, a2, c2, h1, h2, h3, h4, h5, h6⟩ := h
  have h1' : a = a2 ∧ n = L.length ∧ c = c2 := by simpa using h1
  obtain ⟨rfl, rfl, rfl⟩ := h1'
  have hl : L.length = l.length := by
    have := congrArg List.length h2
    rwa [List.length_map, intsU_length] at this
  have ht : (L.take m).length = m := by rw [List.length_take]; omega
  refine ⟨L.take m, a, c, by rw [ht], by rw [List.map_take, h2]; unfold intsU; rw [List.map_take], by omega, h4, fun p hp => h5 p (List.mem_of_mem_take hp), fun hp => ?_⟩
  obtain ⟨b, off, e, hb, hk⟩ := h6 (by omega)
  refine ⟨b, off, e, hb, fun j u hj => hk j u ?_⟩
  have e2 : L.flatMap Prod.fst = (L.take m).flatMap Prod.fst ++ (L.drop m).flatMap Prod.fst := by rw [← List.flatMap_append, List.take_append_drop]
  rw [e2, List.getElem?_append_left (List.getElem?_eq_some_iff.1 hj).1]
  exact hj
theorem lsU : LsT Tryd.prog 22 37 (.i .u64) := lsT_of (z := .int .u64 0) (n := 1) (b := 8) Tryd.underlying22 (by kernel_rfl) rfl (by decide) rfl
theorem rd_u64 {B : Nat → Prop} {w : World} {k : Nat} (h : k < 18446744073709551616) : Rd B w (.i .u64) [.int .u64 (k : Int)] (k : Int) := ⟨⟨by show (0 : Int) ≤ _; omega, by show (k : Int) ≤ 18446744073709551615; omega⟩, rfl⟩
/-- The keys that the laws look at. -/
def cutL (l : List Nat) : List Nat := l.take 60
set_option maxRecDepth 100000 in
theorem cut_any (v : Value) (l : List Nat) (w : World) (h : UL w v l) : Calls Tryd.prog 8 #[v] w fun e w' => (∃ v2, e = .returned v2 ∧ UL w v2 (cutL l)) ∧ w = w' := by
  obtain ⟨a, c, rfl, hc, hm⟩ := ul_form h
  unfold cutL
  by_cases h60 : 60 < l.length
  · have HT := Lib.hid (ul_take h (m := 60) (by omega))
    have l1 : decide ((60 : Int) < (l.length : Int)) = true := decide_eq_true (by omega)
    have l2 : decide (60 < l.length) = true := decide_eq_true h60
    have HC := Lib.hid (show (60 : Int) ≤ (c : Int) by omega)
    obtain ⟨n, hn⟩ : ∃ n, n = l.length := ⟨_, rfl⟩
    rw [← hn] at l1 l2 ⊢
    clear hn h hm
    have hcc : (60 : Int) ≤ (c : Int) := HC.out
    go_enter Tryd.func8, Tryd.ntmps8
    go_wp2_with fail
    go_ret
    exact ⟨⟨_, rfl, HT.out⟩, rfl⟩
  · have l1 : decide ((60 : Int) < (l.length : Int)) = false := decide_eq_false (by omega)
    have l2 : decide (60 < l.length) = false := decide_eq_false h60
    have HT := Lib.hid h
    rw [List.take_of_length_le (by omega)]
    obtain ⟨n, hn⟩ : ∃ n, n = l.length := ⟨_, rfl⟩
    rw [← hn] at l1 l2 HT ⊢
    clear hn h hm hc
    go_enter Tryd.func8, Tryd.ntmps8
    go_wp2_with fail
    go_ret
    exact ⟨⟨_, rfl, HT.out⟩, rfl⟩
end Go.Proofs.YtbkhedfhnmkodaaDoor.Gf
