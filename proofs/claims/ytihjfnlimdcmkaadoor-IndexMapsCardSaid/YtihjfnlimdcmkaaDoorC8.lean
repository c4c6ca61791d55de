/- What is proved here: the plain mathematics of the bytes of lists of items. No program text. -/
import Derived.Test.YtihjfnlimdcmkaaDoorM8
import Derived.Test.YtihjfnlimdcmkaaDoorMath3
namespace Go.Proofs.YtihjfnlimdcmkaaDoor.Gf
open Go Go.Proofs.YtihjfnlimdcmkaaDoor.Crc

def bodT (x : Itm) : List Nat := beL 8 x.key ++ beL 4 x.ck ++ beL 4 x.off.toNat ++ beL 4 x.sz.toNat
def recT (x : Itm) : List Nat := bodT x ++ leL (ext 0 (bodT x))
def encT (L : List Itm) : List Nat := L.flatMap recT
theorem bodT_length (x : Itm) : (bodT x).length = 20 := by simp [bodT, beL_length]
theorem recT_length (x : Itm) : (recT x).length = 24 := by simp [recT, bodT_length, leL_length]
theorem encT_cons (x : Itm) (L : List Itm) : encT (x :: L) = recT x ++ encT L := by simp [encT]
theorem encT_append (L M : List Itm) : encT (L ++ M) = encT L ++ encT M := by simp [encT]
theorem encT_length : ∀ (L : List Itm), (encT L).length = 24 * L.length
  | [] => rfl
  | x :: L => by rw [encT_cons, List.length_append, recT_length, encT_length L, List.length_cons]; omega
theorem bodT_lt (x : Itm) : ∀ b ∈ bodT x, b < 256 := fun b hb => by
  simp only [bodT, List.mem_append] at hb
  rcases hb with ((h | h) | h) | h <;> exact beL_lt _ _ _ h
theorem recT_lt (x : Itm) : ∀ b ∈ recT x, b < 256 := fun b hb => by
  rcases List.mem_append.1 hb with hb | hb
  · exact bodT_lt x b hb
  · exact leL_lt _ b hb
theorem encT_lt (L : List Itm) : ∀ b ∈ encT L, b < 256 := fun b hb => by
  obtain ⟨x, -, hx⟩ := List.mem_flatMap.1 hb
  exact recT_lt x b hx
/-- The item that 24 bytes are. -/
def itO (c : List Nat) : Itm := ⟨valL (c.take 8), valL ((c.drop 8).take 4), (valL ((c.drop 12).take 4) : Int), (valL ((c.drop 16).take 4) : Int)⟩
def ckT (c : List Nat) : Prop := leL (ext 0 (c.take 20)) = (c.drop 20).take 4
instance (c : List Nat) : Decidable (ckT c) := by unfold ckT; infer_instance
def dcT : Nat → List Nat → Nat × List Itm
  | 0, _ => (0, [])
  | n + 1, l => if l = [] then (0, []) else if l.length < 24 then (4, []) else if ckT l then ((dcT n (l.drop 24)).1, itO l :: (dcT n (l.drop 24)).2) else (5, [])
theorem dcT_fuel : ∀ (n m : Nat) (l : List Nat), l.length ≤ n → l.length ≤ m → dcT n l = dcT m l
  | 0, m, l, h, _ => by
    obtain rfl : l = [] := List.eq_nil_of_length_eq_zero (by omega)
    cases m <;> simp [dcT]
  | n + 1, 0, l, _, h => by
    obtain rfl : l = [] := List.eq_nil_of_length_eq_zero (by omega)
    simp [dcT]
  | n + 1, m + 1, l, h1, h2 => by
    unfold dcT
    by_cases e1 : l = []
    · rw [if_pos e1, if_pos e1]
    · by_cases e2 : l.length < 24
      · rw [if_neg e1, if_neg e1, if_pos e2, if_pos e2]
      · rw [dcT_fuel n m (l.drop 24) (by rw [List.length_drop]; omega) (by rw [List.length_drop]; omega)]
theorem dcT_nil (n : Nat) : dcT n [] = (0, []) := by cases n <;> simp [dcT]
theorem dcT_short {n : Nat} {l : List Nat} (h0 : l ≠ []) (h1 : l.length < 24) (hn : l.length ≤ n) : dcT n l = (4, []) := by
  cases n with
  | zero => exact absurd (List.eq_nil_of_length_eq_zero (by omega)) h0
  | succ n => simp [dcT, h0, h1]
theorem dcT_bad {n : Nat} {l : List Nat} (h1 : ¬ l.length < 24) (h2 : ¬ ckT l) (hn : l.length ≤ n) : dcT n l = (5, []) := by
  cases n with
  | zero => omega
  | succ n =>
    have h0 : l ≠ [] := fun e => by subst e; simp at h1
    simp [dcT, h0, h1, h2]
theorem dcT_good {n : Nat} {l : List Nat} (h1 : ¬ l.length < 24) (h2 : ckT l) (hn : l.length ≤ n) : dcT n l = ((dcT n (l.drop 24)).1, itO l :: (dcT n (l.drop 24)).2) := by
  cases n with
  | zero => omega
  | succ n =>
    have h0 : l ≠ [] := fun e => by subst e; simp at h1
    rw [dcT_fuel (n + 1) n (l.drop 24) (by rw [List.length_drop]; omega) (by rw [List.length_drop]; omega)]
    simp [dcT, h0, h1, h2]
def dE8 (l : List Nat) : Nat := if (dcT l.length l).1 ≠ 0 then (dcT l.length l).1 else if okT (dcT l.length l).2 then 0 else 3
def dL8 (l : List Nat) : List Itm := if dE8 l = 0 then (dcT l.length l).2 else []
def eT (L : List Itm) : List Nat := if okT L then encT L else []
def eE (L : List Itm) : Nat := if okT L then 0 else 1
theorem take_pre' {A T : List Nat} {n : Nat} (h : A.length = n) : (A ++ T).take n = A := by rw [← h]; exact List.take_left
theorem drop_pre' {A T : List Nat} {n : Nat} (h : A.length = n) : (A ++ T).drop n = T := by rw [← h]; exact List.drop_left
/-- What is read of a record. -/
theorem rec_read {x : Itm} (hk : x.key < 18446744073709551616) (hc : x.ck < 4294967296) (ok : okI x) (T : List Nat) : ckT (recT x ++ T) ∧ itO (recT x ++ T) = x := by
  obtain ⟨o1, o2, -, s1, s2⟩ := ok
  have e0 : recT x ++ T = beL 8 x.key ++ (beL 4 x.ck ++ (beL 4 x.off.toNat ++ (beL 4 x.sz.toNat ++ (leL (ext 0 (bodT x)) ++ T)))) := by simp [recT, bodT]
  have e1 : (recT x ++ T).drop 8 = beL 4 x.ck ++ (beL 4 x.off.toNat ++ (beL 4 x.sz.toNat ++ (leL (ext 0 (bodT x)) ++ T))) := by rw [e0]; exact drop_pre' (beL_length _ _)
  have e2 : (recT x ++ T).drop 12 = beL 4 x.off.toNat ++ (beL 4 x.sz.toNat ++ (leL (ext 0 (bodT x)) ++ T)) := by
    rw [show 12 = 8 + 4 from rfl, ← List.drop_drop, e1]; exact drop_pre' (beL_length _ _)
  have e3 : (recT x ++ T).drop 16 = beL 4 x.sz.toNat ++ (leL (ext 0 (bodT x)) ++ T) := by
    rw [show 16 = 12 + 4 from rfl, ← List.drop_drop, e2]; exact drop_pre' (beL_length _ _)
  have e4 : (recT x ++ T).drop 20 = leL (ext 0 (bodT x)) ++ T := by
    rw [show 20 = 16 + 4 from rfl, ← List.drop_drop, e3]; exact drop_pre' (beL_length _ _)
  have e5 : (recT x ++ T).take 20 = bodT x := by
    unfold recT
    rw [List.append_assoc]
    exact take_pre' (bodT_length x)
  refine ⟨?_, ?_⟩
  · unfold ckT
    rw [e4, e5, take_pre' (leL_length _)]
  · unfold itO
    rw [e1, e2, e3, e0, take_pre' (beL_length _ _), take_pre' (beL_length _ _), take_pre' (beL_length _ _), take_pre' (beL_length _ _), val_beL 8 _ hk, val_beL 4 _ hc, val_beL 4 _ (by omega), val_beL 4 _ (by omega)]
    exact itm_ext rfl rfl (Int.toNat_of_nonneg (by omega)) (Int.toNat_of_nonneg s1)
structure ItR (x : Itm) : Prop where
  key : x.key < 18446744073709551616
  ck : x.ck < 4294967296
theorem dcT_enc : ∀ (L : List Itm), (∀ x ∈ L, ItR x) → (∀ x ∈ L, okI x) → ∀ n, (encT L).length ≤ n → dcT n (encT L) = (0, L)
  | [], _, _, n, _ => dcT_nil n
  | x :: L, h1, h2, n, hn => by
    have hx := h1 x (by simp)
    rw [encT_cons] at hn ⊢
    obtain ⟨a, b⟩ := rec_read hx.key hx.ck (h2 x (by simp)) (encT L)
    rw [dcT_good (by rw [List.length_append, recT_length]; omega) a hn, drop_pre' (recT_length x), b, dcT_enc L (fun y hy => h1 y (by simp [hy])) (fun y hy => h2 y (by simp [hy])) n (by rw [List.length_append] at hn; omega)]
theorem rec_of {l : List Nat} (hl : ∀ b ∈ l, b < 256) (h1 : ¬ l.length < 24) (h2 : ckT l) : recT (itO l) = l.take 24 := by
  have seg : ∀ p n, p + n ≤ l.length → beL n (valL ((l.drop p).take n)) = (l.drop p).take n := fun p n h => by
    have := beL_val ((l.drop p).take n) (mem_seg hl p n)
    rwa [show ((l.drop p).take n).length = n by rw [List.length_take, List.length_drop]; omega] at this
  have hb : bodT (itO l) = l.take 20 := by
    unfold bodT itO
    dsimp only
    rw [Int.toNat_natCast, Int.toNat_natCast, seg 8 4 (by omega), seg 12 4 (by omega), seg 16 4 (by omega)]
    have h8 := seg 0 8 (by omega)
    rw [List.drop_zero] at h8
    rw [h8, show 20 = 8 + 4 + 4 + 4 from rfl, List.take_add, List.take_add, List.take_add]
  unfold recT
  rw [hb, show leL (ext 0 (l.take 20)) = (l.drop 20).take 4 from h2, show 24 = 20 + 4 from rfl, List.take_add]
/-- What is accepted is what is written. -/
theorem enc_dcT : ∀ (n : Nat) (l : List Nat), l.length ≤ n → (∀ b ∈ l, b < 256) → (dcT n l).1 = 0 → encT (dcT n l).2 = l
  | 0, l, h, _, _ => by
    obtain rfl : l = [] := List.eq_nil_of_length_eq_zero (by omega)
    rfl
  | n + 1, l, h, hl, h0 => by
    by_cases e1 : l = []
    · subst e1; rw [dcT_nil]; rfl
    · by_cases e2 : l.length < 24
      · rw [dcT_short e1 e2 h] at h0; cases h0
      · by_cases e3 : ckT l
        · have hg := dcT_good e2 e3 h
          rw [hg] at h0 ⊢
          rw [dcT_fuel (n + 1) n (l.drop 24) (by rw [List.length_drop]; omega) (by rw [List.length_drop]; omega)] at h0 ⊢
          dsimp only at h0 ⊢
          rw [encT_cons, rec_of hl e2 e3, enc_dcT n (l.drop 24) (by rw [List.length_drop]; omega) (fun b hb => hl b (List.mem_of_mem_drop hb)) h0, List.take_append_drop]
        · rw [dcT_bad e2 e3 h] at h0; cases h0
theorem dcT_ranges : ∀ (n : Nat) (l : List Nat), (∀ b ∈ l, b < 256) → ∀ x ∈ (dcT n l).2, ItR x ∧ x.off < 4294967296 ∧ 0 ≤ x.off ∧ x.sz < 4294967296 ∧ 0 ≤ x.sz
  | 0, l, _, x, hx => by simp [dcT] at hx
  | n + 1, l, hl, x, hx => by
    unfold dcT at hx
    split at hx
    · cases hx
    split at hx
    · cases hx
    split at hx
    · rcases List.mem_cons.1 hx with rfl | hx
      · have v4 : ∀ p, valL ((l.drop p).take 4) < 4294967296 := fun p => by
          have h1 := valL_lt _ (mem_seg hl p 4)
          have h2 : ((l.drop p).take 4).length ≤ 4 := by rw [List.length_take]; omega
          exact Nat.lt_of_lt_of_le h1 (by have := Nat.pow_le_pow_right (n := 256) (by decide) h2; simpa using this)
        have v8 : valL (l.take 8) < 18446744073709551616 := by
          have h1 := valL_lt _ (fun b hb => hl b (List.mem_of_mem_take hb) : ∀ b ∈ l.take 8, b < 256)
          have h2 : (l.take 8).length ≤ 8 := by rw [List.length_take]; omega
          exact Nat.lt_of_lt_of_le h1 (by have := Nat.pow_le_pow_right (n := 256) (by decide) h2; simpa using this)
        have a := v4 8
        have b := v4 12
        have c := v4 16
        exact ⟨⟨v8, a⟩, by show ((valL ((l.drop 12).take 4) : Nat) : Int) < _; omega, by show (0 : Int) ≤ ((valL ((l.drop 12).take 4) : Nat) : Int); omega, by show ((valL ((l.drop 16).take 4) : Nat) : Int) < _; omega, by show (0 : Int) ≤ ((valL ((l.drop 16).take 4) : Nat) : Int); omega⟩
      · exact dcT_ranges n (l.drop 24) (fun b hb => hl b (List.mem_of_mem_drop hb)) x hx
    · cases hx
end Go.Proofs.YtihjfnlimdcmkaaDoor.Gf
