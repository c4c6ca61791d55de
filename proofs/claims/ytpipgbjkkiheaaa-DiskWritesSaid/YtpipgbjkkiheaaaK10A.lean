/- What is proved here: contracts of the reference (disk): names, contents, Valid, find, Size, Read. Conditions: see each. -/
import Derived.Test.YtpipgbjkkiheaaaGb
import Derived.Test.YtpipgbjkkiheaaaM10
import Derived.Test.YtpipgbjkkiheaaaQp
import Derived.Laws.Strings
import Derived.Lib.Strings
import Derived.Laws.CopyOwn
import Derived.Lib.MinMax
import Derived.BigQuiet
import Derived.Laws.Cover1
namespace Go.Proofs.Ytpipgbjkkiheaaa.Gf
open Go Go.Joins Go.ChangeShapes Go.WideShapes Go.ChangeAt Go.RowKit Go.Deep Go.Proofs.Ytpipgbjkkiheaaa.By Go.Proofs.Ytpipgbjkkiheaaa.Qt

theorem byteAt_eq {s : ByteArray} {i : Nat} (h : i < s.size) : (s[i]'h).toNat = byteAt s i := by
  unfold byteAt
  have hl : i < s.data.toList.length := by rw [← Lib.size_eq]; exact h
  rw [List.getD_eq_getElem?_getD, List.getElem?_eq_getElem hl]
  rfl
theorem byteAt_lt (s : ByteArray) (i : Nat) : byteAt s i < 256 := by
  unfold byteAt
  exact UInt8.toNat_lt _
set_option maxRecDepth 100000 in
set_option maxHeartbeats 6400000 in
theorem rname_any (s : ByteArray) (hs : s.size ≤ maxLen) (w : World) : Calls Try.prog 24 #[.string s] w fun e w' => e = .returned (.bool (nameB s)) ∧ w = w' := by
  obtain ⟨n, hn⟩ : ∃ z, z = s.size := ⟨_, rfl⟩
  have HN := Lib.hid hn
  have HS : Hid (n ≤ 9223372036854775807) := Lib.hid (by unfold maxLen at hs; omega)
  clear hs hn
  go_enter Try.func24, Try.ntmps24
  go_wp2_with fail
  go_loopw [3] (fun t wr => ∃ i : Nat, i ≤ n ∧ t = .int .i64 (i : Int) ∧ Hid (∀ j, j < i → chB (byteAt s j) = true) ∧ wr = w) (fun t _ => n - (intOf t).toNat)
  case atStart => exact ⟨0, by omega, rfl, Lib.hid (fun j hj => by omega), rfl⟩
  case round =>
    obtain ⟨i, hi, rfl, HC, hW⟩ := hrel
    subst hW
    have hs' := HS.out
    by_cases hin : i < n
    · have hin' : i < s.size := by rw [← HN.out]; exact hin
      have hsz : s.size = n := HN.out.symm
      have l1 : decide ((i : Int) < (n : Int)) = true := decide_eq_true (by omega)
      have p0 : (0 : Int) ≤ (i : Int) := by omega
      have p1 : (i : Int) < (n : Int) := by omega
      have hb := byteAt_eq hin'
      have hlt := byteAt_lt s i
      obtain ⟨c, hc⟩ : ∃ z, z = byteAt s i := ⟨_, rfl⟩
      rw [← hc] at hb hlt
      have HB := Lib.hid hc
      clear hc hin
      have hcs : (97 ≤ c ∧ c ≤ 122) ∨ (48 ≤ c ∧ c ≤ 57) ∨ c = 46 ∨ c = 45 ∨ c < 45 ∨ c = 47 ∨ (58 ≤ c ∧ c ≤ 96) ∨ 123 ≤ c := by omega
      rcases hcs with hq | hq | hq | hq | hq | hq | hq | hq
      · have e0 : decide ((c : Int) ≥ 97) = true := decide_eq_true (by omega)
        have e1 : decide (97 ≤ (c : Int)) = true := decide_eq_true (by omega)
        have e2 : decide ((c : Int) ≥ 48) = true := decide_eq_true (by omega)
        have e3 : decide (48 ≤ (c : Int)) = true := decide_eq_true (by omega)
        have e4 : decide ((c : Int) ≤ 122) = true := decide_eq_true (by omega)
        have e5 : decide ((c : Int) ≤ 57) = false := decide_eq_false (by omega)
        have e6 : decide ((c : Int) = 46) = false := decide_eq_false (by omega)
        have e7 : ((c : Int) == 46) = false := beq_false_of_ne (by omega)
        have e8 : decide ((c : Int) = 45) = false := decide_eq_false (by omega)
        have e9 : ((c : Int) == 45) = false := beq_false_of_ne (by omega)
        have HK : Hid (chB c = true) := Lib.hid (by unfold chB; simp; omega)
        clear hq hlt
        go_wp2
        go_roundw
        case rel =>
          refine ⟨i + 1, by omega, by go_num, Lib.hid (fun j hj => ?_), trivial⟩
          by_cases hji : j < i
          · exact HC.out j hji
          · obtain rfl : j = i := by omega
            rw [← HB.out]
            exact HK.out
        case measure => simp [intOf]; omega
      · have e0 : decide ((c : Int) ≥ 97) = false := decide_eq_false (by omega)
        have e1 : decide (97 ≤ (c : Int)) = false := decide_eq_false (by omega)
        have e2 : decide ((c : Int) ≥ 48) = true := decide_eq_true (by omega)
        have e3 : decide (48 ≤ (c : Int)) = true := decide_eq_true (by omega)
        have e4 : decide ((c : Int) ≤ 122) = true := decide_eq_true (by omega)
        have e5 : decide ((c : Int) ≤ 57) = true := decide_eq_true (by omega)
        have e6 : decide ((c : Int) = 46) = false := decide_eq_false (by omega)
        have e7 : ((c : Int) == 46) = false := beq_false_of_ne (by omega)
        have e8 : decide ((c : Int) = 45) = false := decide_eq_false (by omega)
        have e9 : ((c : Int) == 45) = false := beq_false_of_ne (by omega)
        have HK : Hid (chB c = true) := Lib.hid (by unfold chB; simp; omega)
        clear hq hlt
        go_wp2
        go_roundw
        case rel =>
          refine ⟨i + 1, by omega, by go_num, Lib.hid (fun j hj => ?_), trivial⟩
          by_cases hji : j < i
          · exact HC.out j hji
          · obtain rfl : j = i := by omega
            rw [← HB.out]
            exact HK.out
        case measure => simp [intOf]; omega
      · have e0 : decide ((c : Int) ≥ 97) = false := decide_eq_false (by omega)
        have e1 : decide (97 ≤ (c : Int)) = false := decide_eq_false (by omega)
        have e2 : decide ((c : Int) ≥ 48) = false := decide_eq_false (by omega)
        have e3 : decide (48 ≤ (c : Int)) = false := decide_eq_false (by omega)
        have e4 : decide ((c : Int) ≤ 122) = true := decide_eq_true (by omega)
        have e5 : decide ((c : Int) ≤ 57) = true := decide_eq_true (by omega)
        have e6 : decide ((c : Int) = 46) = true := decide_eq_true (by omega)
        have e7 : ((c : Int) == 46) = true := by rw [beq_iff_eq]; omega
        have e8 : decide ((c : Int) = 45) = false := decide_eq_false (by omega)
        have e9 : ((c : Int) == 45) = false := beq_false_of_ne (by omega)
        have HK : Hid (chB c = true) := Lib.hid (by unfold chB; simp; omega)
        clear hq hlt
        go_wp2
        go_roundw
        case rel =>
          refine ⟨i + 1, by omega, by go_num, Lib.hid (fun j hj => ?_), trivial⟩
          by_cases hji : j < i
          · exact HC.out j hji
          · obtain rfl : j = i := by omega
            rw [← HB.out]
            exact HK.out
        case measure => simp [intOf]; omega
      · have e0 : decide ((c : Int) ≥ 97) = false := decide_eq_false (by omega)
        have e1 : decide (97 ≤ (c : Int)) = false := decide_eq_false (by omega)
        have e2 : decide ((c : Int) ≥ 48) = false := decide_eq_false (by omega)
        have e3 : decide (48 ≤ (c : Int)) = false := decide_eq_false (by omega)
        have e4 : decide ((c : Int) ≤ 122) = true := decide_eq_true (by omega)
        have e5 : decide ((c : Int) ≤ 57) = true := decide_eq_true (by omega)
        have e6 : decide ((c : Int) = 46) = false := decide_eq_false (by omega)
        have e7 : ((c : Int) == 46) = false := beq_false_of_ne (by omega)
        have e8 : decide ((c : Int) = 45) = true := decide_eq_true (by omega)
        have e9 : ((c : Int) == 45) = true := by rw [beq_iff_eq]; omega
        have HK : Hid (chB c = true) := Lib.hid (by unfold chB; simp; omega)
        clear hq hlt
        go_wp2
        go_roundw
        case rel =>
          refine ⟨i + 1, by omega, by go_num, Lib.hid (fun j hj => ?_), trivial⟩
          by_cases hji : j < i
          · exact HC.out j hji
          · obtain rfl : j = i := by omega
            rw [← HB.out]
            exact HK.out
        case measure => simp [intOf]; omega
      · have e0 : decide ((c : Int) ≥ 97) = false := decide_eq_false (by omega)
        have e1 : decide (97 ≤ (c : Int)) = false := decide_eq_false (by omega)
        have e2 : decide ((c : Int) ≥ 48) = false := decide_eq_false (by omega)
        have e3 : decide (48 ≤ (c : Int)) = false := decide_eq_false (by omega)
        have e4 : decide ((c : Int) ≤ 122) = true := decide_eq_true (by omega)
        have e5 : decide ((c : Int) ≤ 57) = true := decide_eq_true (by omega)
        have e6 : decide ((c : Int) = 46) = false := decide_eq_false (by omega)
        have e7 : ((c : Int) == 46) = false := beq_false_of_ne (by omega)
        have e8 : decide ((c : Int) = 45) = false := decide_eq_false (by omega)
        have e9 : ((c : Int) == 45) = false := beq_false_of_ne (by omega)
        have HK : Hid (chB c = false) := Lib.hid (by unfold chB; simp; omega)
        clear hq hlt
        go_wp2
        go_ret
        have hne : nameB s = false := by
          unfold nameB chsB
          rw [decide_eq_false fun h => by have h2 := h i hin'; rw [← HB.out, HK.out] at h2; cases h2]
          rfl
        rw [hne]
        exact ⟨rfl, rfl⟩
      · have e0 : decide ((c : Int) ≥ 97) = false := decide_eq_false (by omega)
        have e1 : decide (97 ≤ (c : Int)) = false := decide_eq_false (by omega)
        have e2 : decide ((c : Int) ≥ 48) = false := decide_eq_false (by omega)
        have e3 : decide (48 ≤ (c : Int)) = false := decide_eq_false (by omega)
        have e4 : decide ((c : Int) ≤ 122) = true := decide_eq_true (by omega)
        have e5 : decide ((c : Int) ≤ 57) = true := decide_eq_true (by omega)
        have e6 : decide ((c : Int) = 46) = false := decide_eq_false (by omega)
        have e7 : ((c : Int) == 46) = false := beq_false_of_ne (by omega)
        have e8 : decide ((c : Int) = 45) = false := decide_eq_false (by omega)
        have e9 : ((c : Int) == 45) = false := beq_false_of_ne (by omega)
        have HK : Hid (chB c = false) := Lib.hid (by unfold chB; simp; omega)
        clear hq hlt
        go_wp2
        go_ret
        have hne : nameB s = false := by
          unfold nameB chsB
          rw [decide_eq_false fun h => by have h2 := h i hin'; rw [← HB.out, HK.out] at h2; cases h2]
          rfl
        rw [hne]
        exact ⟨rfl, rfl⟩
      · have e0 : decide ((c : Int) ≥ 97) = false := decide_eq_false (by omega)
        have e1 : decide (97 ≤ (c : Int)) = false := decide_eq_false (by omega)
        have e2 : decide ((c : Int) ≥ 48) = true := decide_eq_true (by omega)
        have e3 : decide (48 ≤ (c : Int)) = true := decide_eq_true (by omega)
        have e4 : decide ((c : Int) ≤ 122) = true := decide_eq_true (by omega)
        have e5 : decide ((c : Int) ≤ 57) = false := decide_eq_false (by omega)
        have e6 : decide ((c : Int) = 46) = false := decide_eq_false (by omega)
        have e7 : ((c : Int) == 46) = false := beq_false_of_ne (by omega)
        have e8 : decide ((c : Int) = 45) = false := decide_eq_false (by omega)
        have e9 : ((c : Int) == 45) = false := beq_false_of_ne (by omega)
        have HK : Hid (chB c = false) := Lib.hid (by unfold chB; simp; omega)
        clear hq hlt
        go_wp2
        go_ret
        have hne : nameB s = false := by
          unfold nameB chsB
          rw [decide_eq_false fun h => by have h2 := h i hin'; rw [← HB.out, HK.out] at h2; cases h2]
          rfl
        rw [hne]
        exact ⟨rfl, rfl⟩
      · have e0 : decide ((c : Int) ≥ 97) = true := decide_eq_true (by omega)
        have e1 : decide (97 ≤ (c : Int)) = true := decide_eq_true (by omega)
        have e2 : decide ((c : Int) ≥ 48) = true := decide_eq_true (by omega)
        have e3 : decide (48 ≤ (c : Int)) = true := decide_eq_true (by omega)
        have e4 : decide ((c : Int) ≤ 122) = false := decide_eq_false (by omega)
        have e5 : decide ((c : Int) ≤ 57) = false := decide_eq_false (by omega)
        have e6 : decide ((c : Int) = 46) = false := decide_eq_false (by omega)
        have e7 : ((c : Int) == 46) = false := beq_false_of_ne (by omega)
        have e8 : decide ((c : Int) = 45) = false := decide_eq_false (by omega)
        have e9 : ((c : Int) == 45) = false := beq_false_of_ne (by omega)
        have HK : Hid (chB c = false) := Lib.hid (by unfold chB; simp; omega)
        clear hq hlt
        go_wp2
        go_ret
        have hne : nameB s = false := by
          unfold nameB chsB
          rw [decide_eq_false fun h => by have h2 := h i hin'; rw [← HB.out, HK.out] at h2; cases h2]
          rfl
        rw [hne]
        exact ⟨rfl, rfl⟩
    · obtain rfl : i = n := by omega
      have hsz : s.size = i := HN.out.symm
      have l1 : decide ((i : Int) < (i : Int)) = false := decide_eq_false (by omega)
      have hch : chsB s = true := decide_eq_true (by rw [hsz]; exact HC.out)
      have hnb : nameB s = (decide (1 ≤ i) && decide (i ≤ 40)) := by unfold nameB; rw [hch, hsz]; simp
      have HNB := Lib.hid hnb
      clear hch hnb
      by_cases h1 : 1 ≤ i
      · by_cases h2 : i ≤ 40
        · have e1 : decide ((i : Int) ≥ 1) = true := decide_eq_true (by omega)
          have e2 : decide (1 ≤ (i : Int)) = true := decide_eq_true (by omega)
          have e3 : decide ((i : Int) ≤ 40) = true := decide_eq_true (by omega)
          rw [decide_eq_true h1, decide_eq_true h2] at HNB
          go_wp2
          go_ret
          rw [HNB.out]
          exact ⟨rfl, rfl⟩
        · have e1 : decide ((i : Int) ≥ 1) = true := decide_eq_true (by omega)
          have e2 : decide (1 ≤ (i : Int)) = true := decide_eq_true (by omega)
          have e3 : decide ((i : Int) ≤ 40) = false := decide_eq_false (by omega)
          rw [decide_eq_true h1, decide_eq_false h2] at HNB
          go_wp2
          go_ret
          rw [HNB.out]
          exact ⟨rfl, rfl⟩
      · have e1 : decide ((i : Int) ≥ 1) = false := decide_eq_false (by omega)
        have e2 : decide (1 ≤ (i : Int)) = false := decide_eq_false (by omega)
        rw [decide_eq_false h1] at HNB
        go_wp2
        go_ret
        rw [HNB.out]
        exact ⟨rfl, rfl⟩
end Go.Proofs.Ytpipgbjkkiheaaa.Gf
namespace Go.Proofs.Ytpipgbjkkiheaaa.Gf
open Go Go.Joins Go.ChangeShapes Go.WideShapes Go.ChangeAt Go.RowKit Go.Deep Go.Proofs.Ytpipgbjkkiheaaa.By Go.Proofs.Ytpipgbjkkiheaaa.Qt

theorem sizeB1 : (Try.prog.info? 5).map (·.size) = some 1 := by kernel_rfl
theorem copy_into {ops : Array Oper} {rest : List Oper} {dst : Option Tmp} {d s : Operand} {pos : String} {after : Array Edge} {ty : TypeId} {a : Act} {W : World} {Q : Exit → Act → World → Prop} {ax : Option Addr} {base g n c off dl dc k cx : Nat} {L R : List Nat}
    (hd : a.eval d = .slice (some ⟨g, off, none⟩) dl dc) (hs : a.eval s = .slice ax k cx) (hO : Own W base (.slice (some ⟨g, 0, none⟩) n c) L) (hn : L.length = n) (hS : Sl W (.slice ax k cx) R) (hk : R.length = k) (hk1 : 1 ≤ k) (hkd : k ≤ dl) (hfit : off + k ≤ n)
    (h : ∀ z w', Own w' base (.slice (some ⟨g, 0, none⟩) n c) (L.take off ++ (R ++ L.drop (off + k))) → W.grownBy w' (some g) → wpList Try.prog ops Q rest (a.put dst z) w') : wpList Try.prog ops Q (⟨dst, .call { callee := .builtin .copy, args := #[d, s], argTypes := #[52, 52] }, ty, pos, after, none⟩ :: rest) a W := by
  subst hn
  obtain ⟨b, o, cap, hv, -, -, hc⟩ := sl_cells hS (by omega)
  obtain ⟨rfl, -, rfl⟩ : ax = some ⟨b, o, none⟩ ∧ k = R.length ∧ cx = cap := by simpa using hv
  subst hk
  obtain ⟨hl, h1, h2⟩ := hO
  rcases h2 with ⟨h3, _⟩ | ⟨g2, cp, cur, h3, hg, hb, hnc, hm, hsz, ht⟩
  · cases h3
  cases h3
  rw [Nat.mul_one] at ht hsz
  have hcur : cur.toList = cellsOf L ++ cur.toList.drop L.length := by
    conv => lhs; rw [← List.take_append_drop L.length cur.toList]
    rw [ht]
  have hlen : (L.take off ++ (R ++ L.drop (off + R.length))).length = L.length := by simp; omega
  have hN : cur.toList.take off ++ (cellsOf R ++ cur.toList.drop (off + (cellsOf R).length)) = cellsOf (L.take off ++ (R ++ L.drop (off + R.length))) ++ cur.toList.drop L.length := by
    rw [cellsOf_length]
    conv => lhs; rw [hcur]
    rw [List.take_append_of_le_length (by rw [cellsOf_length]; omega), List.drop_append_of_le_length (by rw [cellsOf_length]; omega)]
    simp only [cellsOf, List.map_append, List.map_take, List.map_drop, List.append_assoc]
  refine wpList_copy_own rfl d s 52 52 rfl 5 Try.underlying52 sizeB1 g off dl dc ⟨b, o, none⟩ R.length cx hd hs cur 5 hb (cellsOf R) (by rw [cellsOf_length]; exact (Nat.min_eq_left hkd).symm) (fun j v hj => ?_) (by rw [cellsOf_length]; omega) (cellsOf_one _) (h _ _ ⟨?_, ?_⟩ ⟨rfl, rfl, rfl, by simp, fun q _ hq => setRow_other W g q _ (fun e => hq (by rw [e]))⟩)
  · have hj2 : j < R.length := by
      have := (List.getElem?_eq_some_iff.1 hj).1
      rwa [cellsOf_length] at this
    rw [Addr.add_lit, hc j hj2]
    simp only [cellsOf, List.getElem?_map] at hj
    simpa [List.getD, hj2] using hj
  · intro x hx
    rcases List.mem_append.1 hx with hx | hx
    · exact hl x (List.mem_of_mem_take hx)
    · rcases List.mem_append.1 hx with hx | hx
      · exact hS.1 x hx
      · exact hl x (List.mem_of_mem_drop hx)
  · rw [hlen, hN]
    refine ⟨by rw [cellsOf_length, hlen, Nat.mul_one], Or.inr ⟨g, c, _, rfl, hg, setRow_heap W g cur _ 5 _ hb, hnc, hm, ?_, ?_⟩⟩
    · simp only [List.size_toArray, List.length_append, cellsOf_length, hlen, List.length_drop, Array.length_toList]
      omega
    · rw [Nat.mul_one]
      have e : (cellsOf (L.take off ++ (R ++ L.drop (off + R.length)))).length = L.length := by rw [cellsOf_length, hlen]
      rw [← e]
      exact List.take_left

/-- The first bytes of a slice of the call's own. -/
theorem own_take {w : World} {base n k cap : Nat} {a : Option Addr} {l : List Nat} (h : Own w base (.slice a n cap) l) (hk : k ≤ n) : Own w base (.slice a k cap) (l.take k) := by
  obtain ⟨hb, h1, ⟨h2, h3⟩ | ⟨g, c, cur, h2, hg, hh, hn, hm, hsz, ht⟩⟩ := h
  · obtain ⟨rfl, rfl, rfl⟩ : a = none ∧ n = 0 ∧ cap = 0 := by simpa using h2
    obtain rfl : k = 0 := by omega
    exact own_nil _ _
  · obtain ⟨rfl, hnl, rfl⟩ : a = some ⟨g, 0, none⟩ ∧ n = l.length ∧ cap = c := by simpa using h2
    refine ⟨fun x hx => hb x (List.mem_of_mem_take hx), by rw [cellsOf_length]; simp, Or.inr ⟨g, cap, cur, by rw [List.length_take, Nat.min_eq_left (by omega)], hg, hh, by rw [List.length_take]; omega, hm, hsz, ?_⟩⟩
    rw [List.length_take, Nat.min_eq_left (by omega), Nat.mul_one]
    rw [Nat.mul_one] at ht
    have e : cur.toList.take k = (cur.toList.take l.length).take k := by rw [List.take_take, Nat.min_eq_left (by omega)]
    rw [e, ht]
    simp [cellsOf, List.map_take]
/-- copy of no bytes, as a step. -/
theorem copy_none {ops : Array Oper} {rest : List Oper} {dst : Option Tmp} {d s : Operand} {pos : String} {after : Array Edge} {ty : TypeId} {a : Act} {W : World} {Q : Exit → Act → World → Prop} {ad ax : Option Addr} {n c k cx : Nat}
    (hd : a.eval d = .slice ad n c) (hs : a.eval s = .slice ax k cx) (hk : k = 0) (h : wpList Try.prog ops Q rest (a.put dst (.int .i64 0)) W) : wpList Try.prog ops Q (⟨dst, .call { callee := .builtin .copy, args := #[d, s], argTypes := #[52, 52] }, ty, pos, after, none⟩ :: rest) a W := by
  subst hk
  obtain ⟨i, hi, hz0, hz1, hz2⟩ := info_parts infoB
  have hr : (Builtin.copy_ #[52, 52] ty #[.slice ad n c, .slice ax 0 cx]).run Try.prog W = .ok (.int .i64 0) W := by
    cases ad <;> cases ax <;> simp [Builtin.copy_, run_underlying Try.underlying52, sizeOf, typeInfo, hi, Builtin.lenOf, Builtin.firstCells, loadCells, loadCellsFrom, storeCells, goInt, Nat.min_def]
  refine wpList_plain rfl fun _ hK => ?_
  unfold Oper.wp execOp
  simp only [resolve, invoke, builtin, Sem.run_bind, Sem.run_pure, Result.andThen_ok, List.map_toArray, List.map_cons, List.map_nil, hd, hs, hr]
  exact hK _ _ h
def slLen : Value → Nat
  | .slice _ n _ => n
  | _ => 0
/-- A call that answers bytes of its own. -/
def BA (w : World) (l : List Nat) (e : Ending) (w' : World) : Prop := (∃ v, e = .returned v ∧ Own w' w.heap.size v l) ∧ Below w.heap.size w w'
theorem own_weak0 {w : World} {B C : Nat} {v : Value} {l : List Nat} (h : Own w B v l) (hb : C ≤ B) : Own w C v l := by
  obtain ⟨h0, h1, h2 | ⟨g, cap, cur, rfl, hg, h3⟩⟩ := h
  · exact ⟨h0, h1, Or.inl h2⟩
  · exact ⟨h0, h1, Or.inr ⟨g, cap, cur, rfl, by omega, h3⟩⟩
theorem bel_al0 (w : World) (o : Obj) : Below w.heap.size w (w.alloc o) := (Below.refl _ _).alloc (Nat.le_refl _) _
theorem box3c {w : World} {g : Nat} {a b c : Value} {T : TypeId} {fr : Nat × Nat} (h : w.heap[g]? = some (.cells #[a, b, c] T fr)) : w.cell? ⟨g, 0, none⟩ = some a ∧ w.cell? ⟨g, 1, none⟩ = some b ∧ w.cell? ⟨g, 2, none⟩ = some c :=
  ⟨cell_of_row w g 0 _ _ _ h, cell_of_row w g 1 _ _ _ h, cell_of_row w g 2 _ _ _ h⟩
theorem lt_of_some0 {w : World} {g : Nat} {o : Obj} (h : w.heap[g]? = some o) : g < w.heap.size := (Array.getElem?_eq_some_iff.1 h).1
theorem apW_long {b : List Nat} {o : Nat} {data : List Nat} (h : (padL b o).length ≤ o + data.length) : apW b ((o : Int), data, false) = (padL b o).take o ++ data := by
  unfold apW
  simp only [Int.toNat_natCast]
  rw [if_neg (by decide), List.drop_of_length_le h, List.append_nil]
theorem apW_cut (b : List Nat) (o : Nat) (data : List Nat) : apW b ((o : Int), data, true) = b.take (min b.length o) := by
  unfold apW
  simp only [Int.toNat_natCast, if_true]
  by_cases c : o ≤ b.length
  · rw [Nat.min_eq_right c]
  · rw [List.take_of_length_le (by omega), List.take_of_length_le (by omega)]
set_option maxRecDepth 100000 in
set_option maxHeartbeats 6400000 in
theorem rapplied_cut (v dv : Value) (b data : List Nat) (o : Nat) (w : World) (s : Sl w v b) (sd : Sl w dv data) (hb : b.length ≤ 1048576) (ho : o ≤ 1048576) (hd : data.length ≤ 1048576) : Calls Try.prog 53 #[v, .agg #[.int .i64 (o : Int), dv, .bool true]] w (BA w (apW b ((o : Int), data, true))) := by
  obtain ⟨al, cl, rfl, hc1, hc2⟩ := sl_form s
  obtain ⟨n, hn⟩ : ∃ z, z = b.length := ⟨_, rfl⟩
  rw [← hn] at s hb ⊢
  obtain ⟨ad, cd, rfl, -, -⟩ := sl_form sd
  obtain ⟨m, hm⟩ : ∃ z, z = data.length := ⟨_, rfl⟩
  rw [← hm] at sd hd ⊢
  have HN := Lib.hid hn
  have HM := Lib.hid hm
  have HB := Lib.hid (And.intro hb (And.intro ho hd))
  have S := Lib.hid s
  have SD := Lib.hid sd
  have BX := Lib.hid (bel_al0 w (.cells #[.int .i64 (o : Int), .slice ad m cd, .bool true] 94))
  have HX := Lib.hid (heap_alloc_new w (.cells #[.int .i64 (o : Int), .slice ad m cd, .bool true] 94))
  have OE := Lib.hid (own_empty (w.alloc (.cells #[.int .i64 (o : Int), .slice ad m cd, .bool true] 94)) (Nat.le_refl _))
  have BE := Lib.hid (bel_al0 (w.alloc (.cells #[.int .i64 (o : Int), .slice ad m cd, .bool true] 94)) (.cells #[] 5))
  have SZ : Hid ((w.alloc (.cells #[.int .i64 (o : Int), .slice ad m cd, .bool true] 94)).heap.size = w.heap.size + 1) := Lib.hid (by simp)
  rw [SZ.out] at OE
  clear s sd hn hm hb ho hd hc1 hc2
  go_enter Try.func53, Try.ntmps53
  go_wp2_with (at_builtin; refine app_sl (dst := some 9) ?_ ?_ OE.out (sl_below (sl_below S.out BX.out) BE.out) (by have h1 := HB.out; have h2 := HN.out; simp only [List.length_nil]; omega) (by simp) ?_; exact rfl; exact rfl; intro v5 w5 ho5 hg5; rw [List.nil_append] at ho5; have B5 := Lib.hid (BE.out.grown hg5 BE.out.size fun q hq => by have h1 := OE.out.lt q hq; have h2 := SZ.out; omega); have O5 := Lib.hid ho5; have HX5 := Lib.hid ((B5.out.block _ (lt_of_some0 HX.out)).trans HX.out); obtain ⟨x0, x1, x2⟩ := box3c HX5.out; obtain ⟨a5, c5, rfl, hq5, -⟩ := sl_form ho5.sl; rw [← HN.out] at O5 hq5 ⊢; have HQ5 := Lib.hid hq5; have q3 : (0 : Int) ≤ min (n : Int) (o : Int) := (by omega); have q4 : min (n : Int) (o : Int) ≤ (c5 : Int) := (by omega); clear ho5 hg5 hq5)
  obtain ⟨k, hk⟩ : ∃ z, z = min n o := ⟨_, rfl⟩
  have e1 : min (n : Int) (o : Int) = (k : Int) := by omega
  have q1 : (0 : Int) ≤ (k : Int) := by omega
  have q2 : (k : Int) ≤ (c5 : Int) := by have := HQ5.out; omega
  have HK := Lib.hid hk
  have E2 : Hid ((min (n : Int) (o : Int)).toNat = k) := Lib.hid (by rw [e1]; exact Int.toNat_natCast k)
  clear hk e1
  go_wp2
  go_ret
  have hle : k ≤ n := by have := HK.out; omega
  refine ⟨⟨.slice a5 k c5, by rw [← E2.out]; rfl, ?_⟩, (BX.out.trans (B5.out.mono (by have := SZ.out; omega)))⟩
  rw [apW_cut, ← HN.out, ← HK.out]
  exact own_weak0 (own_take O5.out hle) (Nat.le_succ _)
set_option maxRecDepth 100000 in
set_option maxHeartbeats 6400000 in
theorem rapplied_put (v dv : Value) (b data : List Nat) (o : Nat) (w : World) (s : Sl w v b) (sd : Sl w dv data) (hb : b.length ≤ 1048576) (ho : o ≤ 1048576) (hd : data.length ≤ 1048576) : Calls Try.prog 53 #[v, .agg #[.int .i64 (o : Int), dv, .bool false]] w (BA w (apW b ((o : Int), data, false))) := by
  obtain ⟨al, cl, rfl, hc1, hc2⟩ := sl_form s
  obtain ⟨n, hn⟩ : ∃ z, z = b.length := ⟨_, rfl⟩
  rw [← hn] at s hb ⊢
  obtain ⟨ad, cd, rfl, -, -⟩ := sl_form sd
  obtain ⟨m, hm⟩ : ∃ z, z = data.length := ⟨_, rfl⟩
  rw [← hm] at sd hd ⊢
  have HN := Lib.hid hn
  have HM := Lib.hid hm
  have HB := Lib.hid (And.intro hb (And.intro ho hd))
  have S := Lib.hid s
  have SD := Lib.hid sd
  have BX := Lib.hid (bel_al0 w (.cells #[.int .i64 (o : Int), .slice ad m cd, .bool false] 94))
  have HX := Lib.hid (heap_alloc_new w (.cells #[.int .i64 (o : Int), .slice ad m cd, .bool false] 94))
  have OE := Lib.hid (own_empty (w.alloc (.cells #[.int .i64 (o : Int), .slice ad m cd, .bool false] 94)) (Nat.le_refl _))
  have BE := Lib.hid (bel_al0 (w.alloc (.cells #[.int .i64 (o : Int), .slice ad m cd, .bool false] 94)) (.cells #[] 5))
  have SZ : Hid ((w.alloc (.cells #[.int .i64 (o : Int), .slice ad m cd, .bool false] 94)).heap.size = w.heap.size + 1) := Lib.hid (by simp)
  rw [SZ.out] at OE
  clear s sd hn hm hb ho hd hc1 hc2
  go_enter Try.func53, Try.ntmps53
  go_wp2_with (at_builtin; refine app_sl (dst := some 9) ?_ ?_ OE.out (sl_below (sl_below S.out BX.out) BE.out) (by have h1 := HB.out; have h2 := HN.out; simp only [List.length_nil]; omega) (by simp) ?_; exact rfl; exact rfl; intro v5 w5 ho5 hg5; rw [List.nil_append] at ho5; have B5 := Lib.hid (BE.out.grown hg5 BE.out.size fun q hq => by have h1 := OE.out.lt q hq; have h2 := SZ.out; omega); have O5 := Lib.hid ho5; have HX5 := Lib.hid ((B5.out.block _ (lt_of_some0 HX.out)).trans HX.out); obtain ⟨x0, x1, x2⟩ := box3c HX5.out; obtain ⟨a5, c5, rfl, hq5, -⟩ := sl_form ho5.sl; rw [← HN.out] at O5 hq5 ⊢; have HQ5 := Lib.hid hq5; have q3 : (0 : Int) ≤ min (n : Int) (o : Int) := (by omega); have q4 : min (n : Int) (o : Int) ≤ (c5 : Int) := (by omega); clear ho5 hg5 hq5)
  have W5 := Lib.hid (And.intro BX.out B5.out)
  go_loopw [5] (fun out wr => ∃ k : Nat, n + k ≤ max n o ∧ Hid (Own wr (w.heap.size + 1) out (b ++ List.replicate k 0)) ∧ Hid (wr.heap[w.heap.size]? = some (.cells #[.int .i64 (o : Int), .slice ad m cd, .bool false] 94 (0, 0))) ∧ Hid (Below w.heap.size w wr) ∧ Hid (w.heap.size + 1 ≤ wr.heap.size)) (fun out _ => o - slLen out)
  case atStart => exact ⟨0, by omega, by simpa using O5, HX5, Lib.hid (BX.out.trans (B5.out.mono (by have := SZ.out; omega))), Lib.hid (by have h1 := B5.out.size; have h2 := SZ.out; omega)⟩
  case round =>
    clear x0 x1 x2 HX5 O5 B5 W5 q3 q4
    obtain ⟨k, hk, HO, HG, HBB, HZ⟩ := hrel
    obtain ⟨ao, co, rfl, hqo, -⟩ := sl_form HO.out.sl
    have hlen : (b ++ List.replicate k 0).length = n + k := by rw [List.length_append, List.length_replicate, HN.out]
    rw [hlen] at HO hqo ⊢
    obtain ⟨x0, x1, x2⟩ := box3c HG.out
    obtain ⟨N, hN⟩ : ∃ z, z = n + k := ⟨_, rfl⟩
    rw [← hN] at HO ⊢ hk
    have HNK := Lib.hid hN
    have HQO : Hid (N ≤ co) := Lib.hid (by omega)
    have hb1 := HB.out
    clear hqo
    by_cases hlt : N < o
    · have l1 : decide ((N : Int) < (o : Int)) = true := decide_eq_true (by omega)
      have HA := Lib.hid (bel_al0 wr (.cells #[.int .u8 0] 5))
      have SO := Lib.hid (sl_one (w := wr.alloc (.cells #[.int .u8 0] 5)) (z := 0) (by decide) (heap_alloc_new wr (.cells #[.int .u8 ((0 : Nat) : Int)] 5)))
      have HOA := Lib.hid (own_below' HO.out HA.out)
      have HLB := Lib.hid (show N ≤ 1048576 by omega)
      have HLT := Lib.hid hlt
      have HKK := Lib.hid hk
      clear hb1 hN hk hlen hlt
      go_wp2_with (at_builtin; refine app_sl (dst := some 26) ?_ ?_ HOA.out SO.out (by have h1 := HLB.out; have h2 := HNK.out; rw [List.length_append, List.length_replicate, ← HN.out]; simp only [List.length_singleton]; omega) (by have h1 := HZ.out; have h2 := HA.out.size; omega) ?_; exact rfl; exact rfl; intro v6 w6 ho6 hg6; have B6 := Lib.hid (below_grown (HBB.out.trans (HA.out.mono HBB.out.size)) hg6 HOA.out (by have h1 := HBB.out.size; have h2 := HA.out.size; omega) (Nat.le_succ _)); have HG6 := Lib.hid ((hg6.block _ (lt_of_some0 ((HA.out.block _ (lt_of_some0 HG.out)).trans HG.out)) fun e => by have h1 := HOA.out.lt _ e.symm; omega).trans ((HA.out.block _ (lt_of_some0 HG.out)).trans HG.out)); have HZ6 := Lib.hid (show w.heap.size + 1 ≤ w6.heap.size from (by have h1 := lt_of_some0 HG6.out; omega)); have O6 := Lib.hid ho6; clear ho6 hg6; obtain ⟨a6, c6, rfl, -, -⟩ := sl_form O6.out.sl; obtain ⟨N6, hN6⟩ : ∃ z, z = (b ++ List.replicate k 0 ++ [0]).length := ⟨_, rfl⟩; rw [← hN6] at O6 ⊢; have HN6 := Lib.hid hN6; clear hN6)
      have hl6 : N6 = N + 1 := by rw [HN6.out, List.length_append, List.length_append, List.length_replicate, List.length_singleton, ← HN.out, HNK.out]
      subst hl6
      rw [List.append_assoc, show List.replicate k 0 ++ [0] = List.replicate (k + 1) 0 from List.replicate_succ'.symm] at O6
      have h3 := HLT.out
      exact ⟨⟨k + 1, by have h1 := HKK.out; have h2 := HNK.out; omega, O6, HG6, B6, HZ6⟩, by simp only [slLen]; omega⟩
    · have hkk : k = o - n := by omega
      have hP : b ++ List.replicate k 0 = padL b o := by unfold padL; rw [hkk, HN.out]
      rw [hP] at HO
      have hPl : (padL b o).length = N := by rw [← hP, hlen]; exact hN.symm
      have l1 : decide ((N : Int) < (o : Int)) = false := decide_eq_false (by omega)
      have l2 : ¬ N < o := hlt
      obtain ⟨E, hE⟩ : ∃ z, z = o + m := ⟨_, rfl⟩
      have HW : Hid (wrap64 ((o : Int) + (m : Int)) = (E : Int)) := Lib.hid (by unfold wrap64; omega)
      have HE := Lib.hid hE
      have HP := Lib.hid hPl
      have HLT := Lib.hid hlt
      have HNB := Lib.hid (show N ≤ 1048576 by omega)
      clear hE hkk hP hlen hN hk
      by_cases hgt : N < E
      · have l3 : decide ((E : Int) > (N : Int)) = true := decide_eq_true (by omega)
        have l4 : decide ((N : Int) < (E : Int)) = true := decide_eq_true (by omega)
        have q1 : (0 : Int) ≤ (o : Int) := by omega
        have q2 : (o : Int) ≤ (co : Int) := by have := HQO.out; omega
        have HGT := Lib.hid hgt
        clear hb1 hlt hPl
        have hw := HW.out
        go_wp2_with fail
        rw [hw]
        clear hw
        go_still_tail 6, (by kernel_rfl)
        change wpList _ _ _ _ _ wr.drew
        refine app_sl (dst := some 43) ?_ ?_ (own_take HO.out (Nat.le_of_not_lt HLT.out)).drew (sl_drew (sl_below SD.out HBB.out)) (by have h1 := HB.out; have h2 := HM.out; rw [List.length_take]; omega) (by have h1 := HZ.out; simpa using h1) ?_
        · exact rfl
        · exact rfl
        intro v7 w7 ho7 hg7
        have B7 := Lib.hid (below_grown (show Below w.heap.size w wr.drew from HBB.out.drew) hg7 (own_take HO.out (Nat.le_of_not_lt HLT.out)).drew (by have h1 := HBB.out.size; simpa using h1) (Nat.le_succ _))
        have O7 := Lib.hid ho7
        clear ho7 hg7
        go_wp2
        go_ret
        exact ⟨⟨v7, rfl, by rw [apW_long (by have h1 := HGT.out; have h2 := HP.out; have h3 := HE.out; have h4 := HM.out; omega)]; exact own_weak0 O7.out (Nat.le_succ _)⟩, B7.out⟩
      · have l3 : decide ((E : Int) > (N : Int)) = false := decide_eq_false (by omega)
        have l4 : decide ((N : Int) < (E : Int)) = false := decide_eq_false (by omega)
        have q1 : (0 : Int) ≤ (o : Int) := by omega
        have q2 : (o : Int) ≤ (E : Int) := by have := HE.out; omega
        have q3 : (E : Int) ≤ (co : Int) := by have := HQO.out; omega
        have HGT := Lib.hid hgt
        have hEo : E - o = m := by have := HE.out; omega
        have HEO := Lib.hid hEo
        clear hb1 hlt hPl
        by_cases hm0 : m = 0
        · have HM0 := Lib.hid hm0
          clear hm0
          have hw := HW.out
          go_wp2_with fail
          rw [hw]
          clear hw
          have e2 : apW b ((o : Int), data, false) = padL b o := by
            have h0 : data = [] := List.eq_nil_of_length_eq_zero (by rw [← HM.out, HM0.out])
            unfold apW
            simp only [Int.toNat_natCast]
            rw [if_neg (by decide), h0, List.nil_append, List.length_nil, Nat.add_zero, List.take_append_drop]
          have E2 := Lib.hid e2
          clear e2
          by_cases hco : co = o
          · subst hco
            go_still_tail 7, (by kernel_rfl)
            change wpList _ _ _ _ _ wr.drew
            refine copy_none (dst := some 51) (by first | exact rfl | go_simp) (by exact rfl) HM0.out ?_
            go_wp2
            go_ret
            exact ⟨⟨_, rfl, by rw [E2.out]; exact own_weak0 HO.out.drew (Nat.le_succ _)⟩, HBB.out.drew⟩
          · go_still_tail 7, (by kernel_rfl)
            change wpList _ _ _ _ _ wr.drew
            refine copy_none (dst := some 51) (by first | exact rfl | go_simp) (by exact rfl) HM0.out ?_
            go_wp2
            go_ret
            exact ⟨⟨_, rfl, by rw [E2.out]; exact own_weak0 HO.out.drew (Nat.le_succ _)⟩, HBB.out.drew⟩
        · have hne : ¬ co = o := by have h1 := HQO.out; have h2 := HE.out; omega
          have hpos : 0 < (padL b o).length := by have h1 := HP.out; have h2 := HE.out; omega
          have HM0 := Lib.hid hm0
          obtain ⟨g, cg, hv, hgb⟩ : ∃ g c, Value.slice ao N co = .slice (some ⟨g, 0, none⟩) N c ∧ w.heap.size + 1 ≤ g := by
            obtain ⟨_, _, ⟨h1, h2⟩ | ⟨g, cap, cur, h1, hg, _⟩⟩ := HO.out
            · have h3 := HP.out
              have h4 : N = 0 := by simp at h1; exact h1.2.1
              omega
            · refine ⟨g, cap, ?_, hg⟩
              rw [h1, HP.out]
          obtain ⟨rfl, rfl⟩ : ao = some ⟨g, 0, none⟩ ∧ co = cg := by simpa using hv
          have HGB := Lib.hid hgb
          clear hv hm0 hgb
          have hw := HW.out
          go_wp2_with fail
          rw [hw]
          clear hw
          go_still_tail 7, (by kernel_rfl)
          change wpList _ _ _ _ _ wr.drew
          refine copy_into (dst := some 51) (off := o) (k := m) (dl := E - o) (dc := co - o) (n := N) (R := data) ?_ ?_ HO.out.drew HP.out (sl_drew (sl_below SD.out HBB.out)) HM.out.symm (by have := HM0.out; omega) (by have := HEO.out; omega) (by have := HE.out; have := HGT.out; omega) ?_
          · first | exact rfl | go_simp
          · exact rfl
          intro z7 w7 ho7 hg7
          have B7 := Lib.hid ((show Below w.heap.size w wr.drew from HBB.out.drew).grown hg7 (by have h1 := HBB.out.size; simpa using h1) (fun q hq => by cases hq; have := HGB.out; omega))
          have O7 := Lib.hid ho7
          clear ho7 hg7
          go_wp2
          go_ret
          refine ⟨⟨_, rfl, ?_⟩, B7.out⟩
          have e : apW b ((o : Int), data, false) = (padL b o).take o ++ (data ++ (padL b o).drop (o + m)) := by unfold apW; simp only [Int.toNat_natCast]; rw [if_neg (by decide), HM.out]
          rw [e]
          exact own_weak0 O7.out (Nat.le_succ _)
end Go.Proofs.Ytpipgbjkkiheaaa.Gf
namespace Go.Proofs.Ytpipgbjkkiheaaa.Gf
open Go Go.Joins Go.ChangeShapes Go.WideShapes Go.ChangeAt Go.RowKit Go.Deep Go.Proofs.Ytpipgbjkkiheaaa.By Go.Proofs.Ytpipgbjkkiheaaa.Qt

theorem btA {w w1 w2 : World} (h : Below w.heap.size w w1) (h2 : Below w1.heap.size w1 w2) : Below w.heap.size w w2 := h.trans (h2.mono h.size)
theorem okP_split {b : List Nat} {p : List Wr} {i : Nat} (hi : i < p.length) : okP b p = (okP b (p.take i) && (wOk (p.getD i wr0) && decide ((apW (apL b (p.take i)) (p.getD i wr0)).length ≤ 1048576) && okP (apW (apL b (p.take i)) (p.getD i wr0)) (p.drop (i + 1)))) := by
  have e := okP_append (p.take i) (p.drop i) b
  rw [List.take_append_drop] at e
  rw [e, List.drop_eq_getElem_cons hi, okP]
  have e2 : p.getD i wr0 = p[i] := by
    rw [List.getD_eq_getElem?_getD, List.getElem?_eq_getElem hi]
    rfl
  rw [e2]
theorem okP_bad1 {b : List Nat} {p : List Wr} {i : Nat} (hi : i < p.length) (h : wOk (p.getD i wr0) = false) : okP b p = false := by
  rw [okP_split hi, h]
  simp
theorem okP_bad2 {b : List Nat} {p : List Wr} {i : Nat} (hi : i < p.length) (h : ¬ (apW (apL b (p.take i)) (p.getD i wr0)).length ≤ 1048576) : okP b p = false := by
  rw [okP_split hi, decide_eq_false h]
  simp
theorem apL_take {b : List Nat} {p : List Wr} {i : Nat} (hi : i < p.length) : apL b (p.take (i + 1)) = apW (apL b (p.take i)) (p.getD i wr0) := by
  rw [take_snocW hi, apL_append]
  rfl
theorem okP_next {b : List Nat} {p : List Wr} {i : Nat} (hi : i < p.length) (h : okP b (p.take i) = true) (h1 : wOk (p.getD i wr0) = true) (h2 : (apW (apL b (p.take i)) (p.getD i wr0)).length ≤ 1048576) : okP b (p.take (i + 1)) = true := by
  rw [take_snocW hi, okP_append, h, okP, h1, decide_eq_true h2, okP]
  rfl
/-- The cells of a write. -/
theorem rd_w {B : Nat → Prop} {w : World} {cs : List Value} {x : Wr} (h : Rd B w tyW cs x) : ∃ dv, cs = [.int .i64 x.1, dv, .bool x.2.2] ∧ (-9223372036854775808 ≤ x.1 ∧ x.1 ≤ 9223372036854775807) ∧ Rd B w (.sl .u8) [dv] x.2.1 := by
  obtain ⟨c, d, rfl, ⟨h1, rfl⟩, c2, d2, rfl, h2, h3⟩ := h
  obtain ⟨L, a, cap, h4, -⟩ := id h2
  subst h4
  have h5 : d2 = [.bool x.2.2] := h3
  subst h5
  exact ⟨_, rfl, h1, h2⟩
/-- The cells of the i-th write. -/
theorem rd_wat {B : Nat → Prop} {w : World} {v : Value} {p : List Wr} (h : Rd B w (.sl tyW) [v] p) {i : Nat} (hi : i < p.length) : ∃ b off cap dv, v = .slice (some ⟨b, off, none⟩) p.length cap ∧ w.cell? ⟨b, off + i * 3, none⟩ = some (.int .i64 (p.getD i wr0).1) ∧ w.cell? ⟨b, off + i * 3 + 1, none⟩ = some dv ∧ w.cell? ⟨b, off + i * 3 + 2, none⟩ = some (.bool (p.getD i wr0).2.2) ∧ (-9223372036854775808 ≤ (p.getD i wr0).1 ∧ (p.getD i wr0).1 ≤ 9223372036854775807) ∧ Rd B w (.sl .u8) [dv] (p.getD i wr0).2.1 := by
  obtain ⟨b, off, cap, e, _, _, _, hc⟩ := rd_cells h (by omega)
  have hg : p[i]? = some (p.getD i wr0) := by
    rw [List.getD_eq_getElem?_getD, List.getElem?_eq_getElem hi]
    rfl
  obtain ⟨c, hr, hk⟩ := hc i _ hg
  obtain ⟨dv, rfl, h1, h2⟩ := rd_w hr
  have k0 := hk 0 (by decide)
  have k1 := hk 1 (by decide)
  have k2 := hk 2 (by decide)
  rw [show off + (i * tyW.n + 0) = off + i * 3 by show off + (i * 3 + 0) = _; omega] at k0
  rw [show off + (i * tyW.n + 1) = off + i * 3 + 1 by show off + (i * 3 + 1) = _; omega] at k1
  rw [show off + (i * tyW.n + 2) = off + i * 3 + 2 by show off + (i * 3 + 2) = _; omega] at k2
  exact ⟨b, off, cap, dv, e, k0, k1, k2, h1, h2⟩
theorem rapplied_w (v dv : Value) (b : List Nat) (x : Wr) (w : World) (s : Sl w v b) (sd : Sl w dv x.2.1) (hb : b.length ≤ 1048576) (hx : wOk x = true) : Calls Try.prog 53 #[v, .agg #[.int .i64 x.1, dv, .bool x.2.2]] w (BA w (apW b x)) := by
  obtain ⟨off, data, cut⟩ := x
  simp [wOk] at hx
  obtain ⟨o, rfl⟩ : ∃ o : Nat, off = (o : Int) := ⟨off.toNat, by omega⟩
  cases cut
  · exact rapplied_put v dv b data o w s sd hb (by omega) (by omega)
  · exact rapplied_cut v dv b data o w s sd hb (by omega) (by omega)
set_option maxRecDepth 100000 in
set_option maxHeartbeats 6400000 in
theorem rvfile_any (s : ByteArray) (bv pv : Value) (b : List Nat) (p : List Wr) (w : World) (hs : s.size ≤ maxLen) (sb : Sl w bv b) (sp : Rd (fun _ => True) w (.sl tyW) [pv] p) : Calls Try.prog 47 #[.agg #[.string s, bv, pv]] w fun e w' => e = .returned (.bool (nameB s && flB b p)) ∧ Below w.heap.size w w' := by
  have RN := Lib.hid (rname_any s hs)
  obtain ⟨ab, cb, rfl, -, -⟩ := sl_form sb
  obtain ⟨ap, cp, rfl, hp1, hp2⟩ := rd_sl sp
  obtain ⟨nb, hnb⟩ : ∃ z, z = b.length := ⟨_, rfl⟩
  obtain ⟨np, hnp⟩ : ∃ z, z = p.length := ⟨_, rfl⟩
  rw [← hnb] at sb ⊢
  rw [← hnp] at sp hp1 ⊢
  have HNB := Lib.hid hnb
  have HNP := Lib.hid hnp
  have SB := Lib.hid sb
  have SP := Lib.hid sp
  have HCP : Hid (np ≤ 9223372036854775807) := Lib.hid (by unfold maxLen at hp2; omega)
  have BX := Lib.hid (bel_al0 w (.cells #[.string s, .slice ab nb cb, .slice ap np cp] 63))
  have HX := Lib.hid (heap_alloc_new w (.cells #[.string s, .slice ab nb cb, .slice ap np cp] 63))
  obtain ⟨x0, x1, x2⟩ := box3c HX.out
  clear sb sp hnb hnp hp1 hp2
  obtain ⟨NB, hNB⟩ : ∃ z, z = nameB s := ⟨_, rfl⟩
  rw [← hNB] at RN ⊢
  clear hNB hs
  go_enter Try.func47, Try.ntmps47
  go_wp2_with fail
  refine (RN.out _).mono ?_
  rintro e w2 ⟨rfl, rfl⟩
  cases NB
  · go_wp2
    go_ret
    exact ⟨rfl, BX.out⟩
  by_cases hbl : 1048576 < nb
  · have l1 : decide ((nb : Int) > 1048576) = true := decide_eq_true (by omega)
    have l2 : decide (1048576 < (nb : Int)) = true := decide_eq_true (by omega)
    have HF : Hid (flB b p = false) := Lib.hid (by unfold flB; rw [← HNB.out, decide_eq_false (by omega)]; rfl)
    clear hbl
    go_wp2
    go_ret
    rw [HF.out]
    exact ⟨rfl, BX.out⟩
  have l1 : decide ((nb : Int) > 1048576) = false := decide_eq_false (by omega)
  have l2 : decide (1048576 < (nb : Int)) = false := decide_eq_false (by omega)
  have HBL := Lib.hid hbl
  have HF : Hid (flB b p = okP b p) := Lib.hid (by unfold flB; rw [← HNB.out, decide_eq_true (by omega)]; rfl)
  clear hbl
  go_wp2_with fail
  clear l1 l2 x0 x1 x2
  go_loopw [3, 4] (fun out t wr => ∃ i : Nat, i ≤ np ∧ t = .int .i64 (i : Int) ∧ Hid (Sl wr out (apL b (p.take i))) ∧ Hid (okP b (p.take i) = true) ∧ Hid ((apL b (p.take i)).length ≤ 1048576) ∧ Hid (wr.heap[w.heap.size]? = some (.cells #[.string s, .slice ab nb cb, .slice ap np cp] 63 (0, 0))) ∧ Hid (Below w.heap.size w wr)) (fun _ t _ => np - (intOf t).toNat)
  case atStart => exact ⟨0, by omega, rfl, Lib.hid (sl_below SB.out BX.out), Lib.hid rfl, Lib.hid (by have h1 := HBL.out; have h2 := HNB.out; show b.length ≤ _; omega), HX, BX⟩
  case round =>
    obtain ⟨i, hi, rfl, HS, HO, HL, HG, HBB⟩ := hrel
    obtain ⟨x0, x1, x2⟩ := box3c HG.out
    have hcp := HCP.out
    by_cases hin : i < np
    · have l1 : decide ((i : Int) < (np : Int)) = true := decide_eq_true (by omega)
      have p0 : (0 : Int) ≤ (i : Int) := by omega
      have p1 : (i : Int) < (np : Int) := by omega
      have hip : i < p.length := by rw [← HNP.out]; exact hin
      obtain ⟨b1, o1, c1, dv, hv, k0, k1, k2, hr, hd⟩ := rd_wat (rd_below SP.out HBB.out) hip
      obtain ⟨rfl, -, -⟩ : ap = some ⟨b1, o1, none⟩ ∧ np = p.length ∧ cp = c1 := by simpa using hv
      have SD := Lib.hid (rd8_sl hd)
      have H1 := Lib.hid (okP_bad1 (b := b) hip)
      have H2 := Lib.hid (okP_bad2 (b := b) hip)
      have H3 := Lib.hid (okP_next (b := b) hip HO.out)
      have H4 := Lib.hid (apL_take (b := b) hip)
      obtain ⟨x, hx⟩ : ∃ z, z = p.getD i wr0 := ⟨_, rfl⟩
      rw [← hx] at k0 k2 hr SD H1 H2 H3 H4
      obtain ⟨off, data, cut⟩ := x
      dsimp only at k0 k2 hr SD
      obtain ⟨ad, cd, rfl, -, -⟩ := sl_form SD.out
      obtain ⟨nd, hnd⟩ : ∃ z, z = data.length := ⟨_, rfl⟩
      rw [← hnd] at SD k1
      have HND := Lib.hid hnd
      have BA1 := Lib.hid (bel_al0 wr (.cells #[.int .i64 off, .slice ad nd cd, .bool cut] 94))
      have HB1 := Lib.hid (heap_alloc_new wr (.cells #[.int .i64 off, .slice ad nd cd, .bool cut] 94))
      obtain ⟨y0, y1, y2⟩ := box3c HB1.out
      have HI := Lib.hid hin
      have HR := Lib.hid hr
      have B7 := Lib.hid (btA HBB.out BA1.out)
      obtain ⟨ao, co, rfl, -, -⟩ := sl_form HS.out
      obtain ⟨no, hno⟩ : ∃ z, z = (apL b (p.take i)).length := ⟨_, rfl⟩
      rw [← hno] at HS ⊢ HL
      have HNO := Lib.hid hno
      clear hip hv hr hd hx hnd hin hno
      by_cases h1 : off < 0
      · have e1 : decide (off < 0) = true := decide_eq_true h1
        go_wp2
        go_ret
        have hok := H1.out (by unfold wOk; dsimp only; rw [decide_eq_false (by omega : ¬ 0 ≤ off)]; rfl)
        rw [HF.out, hok]
        exact ⟨rfl, B7.out⟩
      have e1 : decide (off < 0) = false := decide_eq_false h1
      by_cases h2 : 1048576 < off
      · have e2 : decide (off > 1048576) = true := decide_eq_true h2
        have e3 : decide (1048576 < off) = true := decide_eq_true h2
        clear h1
        go_wp2
        go_ret
        have hok := H1.out (by unfold wOk; dsimp only; rw [decide_eq_false (by omega : ¬ off ≤ 1048576)]; simp)
        rw [HF.out, hok]
        exact ⟨rfl, B7.out⟩
      have e2 : decide (off > 1048576) = false := decide_eq_false h2
      have e3 : decide (1048576 < off) = false := decide_eq_false h2
      have HOF := Lib.hid (And.intro h1 h2)
      clear h1 h2
      by_cases h3 : 1048576 < nd
      · have e4 : decide ((nd : Int) > 1048576) = true := decide_eq_true (by omega)
        have e5 : decide (1048576 < (nd : Int)) = true := decide_eq_true (by omega)
        have e6 : decide ((nd : Int) > 0) = true := decide_eq_true (by omega)
        have e7 : decide (0 < (nd : Int)) = true := decide_eq_true (by omega)
        have e8 : 0 < nd := by omega
        have HOK := Lib.hid (H1.out (by unfold wOk; dsimp only; rw [← HND.out, decide_eq_false (by omega : ¬ nd ≤ 1048576)]; simp))
        clear h3
        cases cut
        all_goals
          go_wp2
          go_ret
          rw [HF.out, HOK.out]
          exact ⟨rfl, B7.out⟩
      have e4 : decide ((nd : Int) > 1048576) = false := decide_eq_false (by omega)
      have e5 : decide (1048576 < (nd : Int)) = false := decide_eq_false (by omega)
      have H3D := Lib.hid h3
      clear h3
      cases cut
      · have HW : Hid (wOk (off, data, false) = true) := Lib.hid (by have h1 := HOF.out; have h2 := H3D.out; have h3 := HND.out; simp [wOk]; omega)
        go_wp2_with fail
        refine (rapplied_w (.slice ao no co) (.slice ad nd cd) (apL b (p.take i)) (off, data, false) _ (sl_below HS.out BA1.out) (sl_below SD.out BA1.out) (by rw [← HNO.out]; exact HL.out) HW.out).mono ?_
        rintro e w6 ⟨⟨v6, rfl, ho6⟩, hb6⟩
        have O6 := Lib.hid ho6.sl
        have B8 := Lib.hid (btA B7.out hb6)
        have HG6 := Lib.hid ((hb6.block _ (lt_of_some0 ((BA1.out.block _ (lt_of_some0 HG.out)).trans HG.out))).trans ((BA1.out.block _ (lt_of_some0 HG.out)).trans HG.out))
        obtain ⟨a6, c6, rfl, -, -⟩ := sl_form ho6.sl
        obtain ⟨n6, hn6⟩ : ∃ z, z = (apW (apL b (p.take i)) (off, data, false)).length := ⟨_, rfl⟩
        rw [← hn6] at O6 ⊢
        have HN6 := Lib.hid hn6
        clear ho6 hb6 hn6
        by_cases h6 : 1048576 < n6
        · have f1 : decide ((n6 : Int) > 1048576) = true := decide_eq_true (by omega)
          have f2 : decide (1048576 < (n6 : Int)) = true := decide_eq_true (by omega)
          have hok := H2.out (by rw [← HN6.out]; omega)
          have HOK := Lib.hid hok
          clear h6 hok
          go_wp2
          go_ret
          rw [HF.out, HOK.out]
          exact ⟨rfl, B8.out⟩
        · have f1 : decide ((n6 : Int) > 1048576) = false := decide_eq_false (by omega)
          have f2 : decide (1048576 < (n6 : Int)) = false := decide_eq_false (by omega)
          have HN7 := Lib.hid h6
          clear h6
          go_wp2
          go_roundw
          case rel =>
            have hi2 := HI.out
            have hn7 := HN7.out
            exact ⟨i + 1, by omega, by go_num, Lib.hid (by rw [H4.out]; exact O6.out), Lib.hid (H3.out HW.out (by rw [← HN6.out]; omega)), Lib.hid (by rw [H4.out, ← HN6.out]; omega), HG6, B8⟩
          case measure =>
            have hi2 := HI.out
            simp [intOf]
            omega
      · by_cases h0 : 0 < nd
        · have e6 : decide ((nd : Int) > 0) = true := decide_eq_true (by omega)
          have e7 : decide (0 < (nd : Int)) = true := decide_eq_true (by omega)
          have HOK := Lib.hid (H1.out (by unfold wOk; dsimp only; rw [← HND.out, decide_eq_true h0]; simp))
          go_wp2
          go_ret
          rw [HF.out, HOK.out]
          exact ⟨rfl, B7.out⟩
        have e6 : decide ((nd : Int) > 0) = false := decide_eq_false (by omega)
        have e7 : decide (0 < (nd : Int)) = false := decide_eq_false (by omega)
        have H0 := Lib.hid h0
        have HW : Hid (wOk (off, data, true) = true) := Lib.hid (by have h1 := HOF.out; have h2 := H3D.out; have h3 := HND.out; have h4 := H0.out; unfold wOk; dsimp only; rw [← h3]; simp; omega)
        go_wp2_with fail
        refine (rapplied_w (.slice ao no co) (.slice ad nd cd) (apL b (p.take i)) (off, data, true) _ (sl_below HS.out BA1.out) (sl_below SD.out BA1.out) (by rw [← HNO.out]; exact HL.out) HW.out).mono ?_
        rintro e w6 ⟨⟨v6, rfl, ho6⟩, hb6⟩
        have O6 := Lib.hid ho6.sl
        have B8 := Lib.hid (btA B7.out hb6)
        have HG6 := Lib.hid ((hb6.block _ (lt_of_some0 ((BA1.out.block _ (lt_of_some0 HG.out)).trans HG.out))).trans ((BA1.out.block _ (lt_of_some0 HG.out)).trans HG.out))
        obtain ⟨a6, c6, rfl, -, -⟩ := sl_form ho6.sl
        obtain ⟨n6, hn6⟩ : ∃ z, z = (apW (apL b (p.take i)) (off, data, true)).length := ⟨_, rfl⟩
        rw [← hn6] at O6 ⊢
        have HN6 := Lib.hid hn6
        clear ho6 hb6 hn6
        by_cases h6 : 1048576 < n6
        · have f1 : decide ((n6 : Int) > 1048576) = true := decide_eq_true (by omega)
          have f2 : decide (1048576 < (n6 : Int)) = true := decide_eq_true (by omega)
          have hok := H2.out (by rw [← HN6.out]; omega)
          have HOK := Lib.hid hok
          clear h6 hok
          go_wp2
          go_ret
          rw [HF.out, HOK.out]
          exact ⟨rfl, B8.out⟩
        · have f1 : decide ((n6 : Int) > 1048576) = false := decide_eq_false (by omega)
          have f2 : decide (1048576 < (n6 : Int)) = false := decide_eq_false (by omega)
          have HN7 := Lib.hid h6
          clear h6
          go_wp2
          go_roundw
          case rel =>
            have hi2 := HI.out
            have hn7 := HN7.out
            exact ⟨i + 1, by omega, by go_num, Lib.hid (by rw [H4.out]; exact O6.out), Lib.hid (H3.out HW.out (by rw [← HN6.out]; omega)), Lib.hid (by rw [H4.out, ← HN6.out]; omega), HG6, B8⟩
          case measure =>
            have hi2 := HI.out
            simp [intOf]
            omega
    · obtain rfl : i = np := by omega
      have l1 : decide ((i : Int) < (i : Int)) = false := decide_eq_false (by omega)
      have ht : p.take i = p := List.take_of_length_le (by rw [HNP.out]; exact Nat.le_refl _)
      rw [ht] at HO
      clear ht
      obtain ⟨ao, co, rfl, -, -⟩ := sl_form HS.out
      generalize (apL b (p.take i)).length = no at *
      go_wp2
      go_ret
      rw [HF.out, HO.out]
      exact ⟨rfl, HBB.out⟩
end Go.Proofs.Ytpipgbjkkiheaaa.Gf
namespace Go.Proofs.Ytpipgbjkkiheaaa.Gf
open Go Go.Joins Go.ChangeShapes Go.WideShapes Go.ChangeAt Go.RowKit Go.Deep Go.Proofs.Ytpipgbjkkiheaaa.By Go.Proofs.Ytpipgbjkkiheaaa.Qt

/-- The cells of a file. -/
theorem rd_f {B : Nat → Prop} {w : World} {cs : List Value} {x : Fl} (h : Rd B w tyF cs x) : ∃ bv pv, cs = [.string x.1, bv, pv] ∧ x.1.size ≤ maxLen ∧ Rd B w (.sl .u8) [bv] x.2.1 ∧ Rd B w (.sl tyW) [pv] x.2.2 := by
  obtain ⟨c, d, rfl, ⟨h1, rfl⟩, c2, d2, rfl, h2, h3⟩ := h
  obtain ⟨L, a, cap, h4, -⟩ := id h2
  obtain ⟨L3, a3, cap3, h5, -⟩ := id h3
  subst h4
  subst h5
  exact ⟨_, _, rfl, h1, h2, h3⟩
/-- The cells of the i-th file. -/
theorem rd_fat {B : Nat → Prop} {w : World} {v : Value} {p : List Fl} (h : Rd B w (.sl tyF) [v] p) {i : Nat} (hi : i < p.length) : ∃ b off cap bv pv, v = .slice (some ⟨b, off, none⟩) p.length cap ∧ w.cell? ⟨b, off + i * 3, none⟩ = some (.string (p.getD i fl0).1) ∧ w.cell? ⟨b, off + i * 3 + 1, none⟩ = some bv ∧ w.cell? ⟨b, off + i * 3 + 2, none⟩ = some pv ∧ (p.getD i fl0).1.size ≤ maxLen ∧ Rd B w (.sl .u8) [bv] (p.getD i fl0).2.1 ∧ Rd B w (.sl tyW) [pv] (p.getD i fl0).2.2 := by
  obtain ⟨b, off, cap, e, _, _, _, hc⟩ := rd_cells h (by omega)
  have hg : p[i]? = some (p.getD i fl0) := by
    rw [List.getD_eq_getElem?_getD, List.getElem?_eq_getElem hi]
    rfl
  obtain ⟨c, hr, hk⟩ := hc i _ hg
  obtain ⟨bv, pv, rfl, h1, h2, h3⟩ := rd_f hr
  have k0 := hk 0 (by decide)
  have k1 := hk 1 (by decide)
  have k2 := hk 2 (by decide)
  rw [show off + (i * tyF.n + 0) = off + i * 3 by show off + (i * 3 + 0) = _; omega] at k0
  rw [show off + (i * tyF.n + 1) = off + i * 3 + 1 by show off + (i * 3 + 1) = _; omega] at k1
  rw [show off + (i * tyF.n + 2) = off + i * 3 + 2 by show off + (i * 3 + 2) = _; omega] at k2
  exact ⟨b, off, cap, bv, pv, e, k0, k1, k2, h1, h2, h3⟩
/-- A disk as a value. -/
def Dv (w : World) (v : Value) (d : Dk) : Prop := ∃ fv, v = .agg #[.int .i64 d.1, .int .i64 d.2.1, fv] ∧ ((-9223372036854775808 ≤ d.1 ∧ d.1 ≤ 9223372036854775807) ∧ (-9223372036854775808 ≤ d.2.1 ∧ d.2.1 ≤ 9223372036854775807)) ∧ Rd (fun _ => True) w (.sl tyF) [fv] d.2.2
theorem dv_below {w w' : World} {v : Value} {d : Dk} (h : Dv w v d) (hB : Below w.heap.size w w') : Dv w' v d := by
  obtain ⟨fv, h1, h2, h3⟩ := h
  exact ⟨fv, h1, h2, rd_below h3 hB⟩
theorem name_x : nameB ⟨#[120]⟩ = true := by
  have h : chsB ⟨#[120]⟩ = true := decide_eq_true fun i hi => by
    have hs : (⟨#[120]⟩ : ByteArray).size = 1 := rfl
    obtain rfl : i = 0 := by omega
    rfl
  unfold nameB
  rw [h]
  rfl
theorem apL_take_le {b : List Nat} {p : List Wr} {i : Nat} (h : okP b p = true) (hb : b.length ≤ 1048576) : (apL b (p.take i)).length ≤ 1048576 := okP_le _ _ (okP_take h) hb
theorem wOk_at {b : List Nat} {p : List Wr} {i : Nat} (h : okP b p = true) (hi : i < p.length) : wOk (p.getD i wr0) = true := by
  rw [okP_split hi] at h
  simp only [Bool.and_eq_true] at h
  exact h.2.1.1
set_option maxRecDepth 100000 in
set_option maxHeartbeats 6400000 in
theorem rcontent_any (s : ByteArray) (bv pv : Value) (b : List Nat) (p : List Wr) (w : World) (sb : Sl w bv b) (sp : Rd (fun _ => True) w (.sl tyW) [pv] p) : Calls Try.prog 34 #[.agg #[.string s, bv, pv]] w (BA w (contL (s, b, p))) := by
  obtain ⟨ab, cb, rfl, -, -⟩ := sl_form sb
  obtain ⟨ap, cp, rfl, hp1, hp2⟩ := rd_sl sp
  obtain ⟨nb, hnb⟩ : ∃ z, z = b.length := ⟨_, rfl⟩
  obtain ⟨np, hnp⟩ : ∃ z, z = p.length := ⟨_, rfl⟩
  rw [← hnb] at sb ⊢
  rw [← hnp] at sp hp1 ⊢
  have HNB := Lib.hid hnb
  have HNP := Lib.hid hnp
  have SB := Lib.hid sb
  have SP := Lib.hid sp
  have HCP : Hid (np ≤ 9223372036854775807) := Lib.hid (by unfold maxLen at hp2; omega)
  have BX1 := Lib.hid (bel_al0 w (.cells #[.string ⟨#[120]⟩, .slice ab nb cb, .slice ap np cp] 63))
  have HG1 := Lib.hid (heap_alloc_new w (.cells #[.string ⟨#[120]⟩, .slice ab nb cb, .slice ap np cp] 63))
  obtain ⟨x0, x1, x2⟩ := box3c HG1.out
  clear sb sp hnb hnp hp1 hp2
  go_enter Try.func34, Try.ntmps34
  go_wp2_with fail
  refine (rvfile_any ⟨#[120]⟩ _ _ b p _ (by unfold maxLen; decide) (sl_below SB.out BX1.out) (rd_below SP.out BX1.out)).mono ?_
  rintro e w2 ⟨rfl, hb2⟩
  have HG2 := Lib.hid ((hb2.block _ (lt_of_some0 HG1.out)).trans HG1.out)
  have B2 := Lib.hid (btA BX1.out hb2)
  clear x0 x1 x2 hb2 BX1 HG1
  rw [name_x, Bool.true_and]
  obtain ⟨x0, x1, x2⟩ := box3c HG2.out
  by_cases hf : flB b p = true
  · have hok : okP b p = true := by unfold flB at hf; rw [Bool.and_eq_true] at hf; exact hf.2
    have hbl : b.length ≤ 1048576 := by unfold flB at hf; rw [Bool.and_eq_true] at hf; simpa using hf.1
    have HC : Hid (contL (s, b, p) = apL b p) := Lib.hid (by unfold contL; rw [if_pos hf])
    rw [hf]
    have HOK := Lib.hid hok
    have HBL := Lib.hid hbl
    clear hf hok hbl
    go_wp2_with fail
    clear x0 x1 x2
    go_loopw [3, 4] (fun out t wr => ∃ i : Nat, i ≤ np ∧ t = .int .i64 (i : Int) ∧ Hid (Sl wr out (apL b (p.take i))) ∧ Hid (wr.heap[w.heap.size]? = some (.cells #[.string ⟨#[120]⟩, .slice ab nb cb, .slice ap np cp] 63 (0, 0))) ∧ Hid (Below w.heap.size w wr)) (fun _ t _ => np - (intOf t).toNat)
    case atStart => exact ⟨0, by omega, rfl, Lib.hid (sl_below SB.out B2.out), Lib.hid (by simpa using HG2.out), B2⟩
    case round =>
      obtain ⟨i, hi, rfl, HS, HG, HBB⟩ := hrel
      obtain ⟨x0, x1, x2⟩ := box3c HG.out
      have hcp := HCP.out
      by_cases hin : i < np
      · have l1 : decide ((i : Int) < (np : Int)) = true := decide_eq_true (by omega)
        have p0 : (0 : Int) ≤ (i : Int) := by omega
        have p1 : (i : Int) < (np : Int) := by omega
        have hip : i < p.length := by rw [← HNP.out]; exact hin
        obtain ⟨b1, o1, c1, dv, hv, k0, k1, k2, hr, hd⟩ := rd_wat (rd_below SP.out HBB.out) hip
        obtain ⟨rfl, -, -⟩ : ap = some ⟨b1, o1, none⟩ ∧ np = p.length ∧ cp = c1 := by simpa using hv
        have SD := Lib.hid (rd8_sl hd)
        have H4 := Lib.hid (apL_take (b := b) hip)
        have HW := Lib.hid (wOk_at HOK.out hip)
        have RA := Lib.hid (fun ov (so : Sl wr ov (apL b (p.take i))) => rapplied_w ov dv (apL b (p.take i)) (p.getD i wr0) wr so SD.out (apL_take_le HOK.out HBL.out) HW.out)
        generalize p.getD i wr0 = x at *
        obtain ⟨off, data, cut⟩ := x
        dsimp only at k0 k2 hr SD RA
        obtain ⟨ad, cd, rfl, -, -⟩ := sl_form SD.out
        generalize data.length = nd at *
        obtain ⟨ao, co, rfl, -, -⟩ := sl_form HS.out
        have RA1 := Lib.hid (RA.out _ HS.out)
        generalize (apL b (p.take i)).length = no at *
        have HI := Lib.hid hin
        clear hip hv hr hd hin RA
        go_wp2_with fail
        refine RA1.out.mono ?_
        rintro e w6 ⟨⟨v6, rfl, ho6⟩, hb6⟩
        have O6 := Lib.hid ho6.sl
        have B8 := Lib.hid (btA HBB.out hb6)
        have HG6 := Lib.hid ((hb6.block _ (lt_of_some0 HG.out)).trans HG.out)
        obtain ⟨a6, c6, rfl, -, -⟩ := sl_form ho6.sl
        clear ho6 hb6 x0 x1 x2 k0 k1 k2
        generalize (apW (apL b (p.take i)) (off, data, cut)).length = n6 at *
        go_wp2
        go_roundw
        case rel =>
          have hi2 := HI.out
          exact ⟨i + 1, by omega, by go_num, Lib.hid (by rw [H4.out]; exact O6.out), HG6, B8⟩
        case measure =>
          have hi2 := HI.out
          simp [intOf]
          omega
      · obtain rfl : i = np := by omega
        have l1 : decide ((i : Int) < (i : Int)) = false := decide_eq_false (by omega)
        have ht : p.take i = p := List.take_of_length_le (by rw [HNP.out]; exact Nat.le_refl _)
        rw [ht] at HS
        have HLE : Hid ((apL b p).length ≤ 1048576) := Lib.hid (okP_le _ _ HOK.out HBL.out)
        clear ht hcp
        obtain ⟨ao, co, rfl, -, -⟩ := sl_form HS.out
        obtain ⟨no, hno⟩ : ∃ z, z = (apL b p).length := ⟨_, rfl⟩
        rw [← hno] at HS ⊢
        have HNO := Lib.hid hno
        have OE := Lib.hid (own_empty wr (Nat.le_refl _))
        have BE := Lib.hid (bel_al0 wr (.cells #[] 5))
        clear hno
        go_wp2_with (at_builtin; refine app_sl (dst := some 27) ?_ ?_ OE.out (sl_below HS.out BE.out) (by have h1 := HLE.out; simp only [List.length_nil]; omega) (by simp) ?_; exact rfl; exact rfl; intro v5 w5 ho5 hg5; rw [List.nil_append] at ho5; have B5 := Lib.hid (BE.out.grown hg5 BE.out.size fun q hq => OE.out.lt q hq); have O5 := Lib.hid ho5; clear ho5 hg5; obtain ⟨a5, c5, rfl, -, -⟩ := sl_form O5.out.sl)
        go_ret
        exact ⟨⟨_, rfl, by rw [HC.out]; exact own_weak0 O5.out HBB.out.size⟩, btA HBB.out B5.out⟩
  · have hf' : flB b p = false := by simpa using hf
    have HC : Hid (contL (s, b, p) = []) := Lib.hid (by unfold contL; rw [if_neg hf])
    rw [hf']
    clear hf hf'
    go_wp2
    go_ret
    exact ⟨⟨_, rfl, by rw [HC.out]; exact own_nil _ _⟩, B2.out⟩
end Go.Proofs.Ytpipgbjkkiheaaa.Gf
namespace Go.Proofs.Ytpipgbjkkiheaaa.Gf
open Go Go.Joins Go.ChangeShapes Go.WideShapes Go.ChangeAt Go.RowKit Go.Deep Go.Proofs.Ytpipgbjkkiheaaa.By Go.Proofs.Ytpipgbjkkiheaaa.Qt Go.Sort

theorem regrown_bel0 {P : Program} {f : FuncId} {args : Array Value} {w : World} {v : Value} (h : ∀ w', Below w.heap.size w w' → Calls P f args w' fun e w'' => e = .returned v ∧ Below w'.heap.size w' w'') : ∀ d os, Calls P f args (grow (redrawn w d) os) fun e w'' => e = .returned v ∧ ∃ p : Regrown, w'' = grow (redrawn w p.d) p.os := fun d os => Calls.regrown_of (h _ (below_regrown w d os))
theorem filesOk_succ {L : List Fl} {i : Nat} (h : FilesOk L i) (h1 : fileB (L.getD i fl0) = true) (h2 : 0 < i → nmLe (L.getD i fl0).1 (L.getD (i - 1) fl0).1 = false) : FilesOk L (i + 1) := fun j hj => by
  by_cases c : j < i
  · exact h j c
  · obtain rfl : j = i := by omega
    exact ⟨h1, h2⟩
theorem validB_bad {d : Dk} {i : Nat} (hi : i < d.2.2.length) (h : ¬ (fileB (d.2.2.getD i fl0) = true ∧ (0 < i → nmLe (d.2.2.getD i fl0).1 (d.2.2.getD (i - 1) fl0).1 = false))) : validB d = false := by
  unfold validB
  rw [decide_eq_false fun h2 : FilesOk d.2.2 d.2.2.length => h (h2 i hi)]
  simp
set_option maxRecDepth 100000 in
set_option maxHeartbeats 6400000 in
theorem rvalid10_any (v : Value) (d : Dk) (w : World) (s : Dv w v d) : Calls Try.prog 18 #[v] w fun e w' => e = .returned (.bool (validB d)) ∧ Below w.heap.size w w' := by
  obtain ⟨fv, rfl, ⟨hr1, hr2⟩, sf⟩ := s
  obtain ⟨af, cf, rfl, hc1, hc2⟩ := rd_sl sf
  obtain ⟨cap, left, L⟩ := d
  dsimp only at hr1 hr2 sf hc1 ⊢
  obtain ⟨n, hn⟩ : ∃ z, z = L.length := ⟨_, rfl⟩
  rw [← hn] at sf hc1 ⊢
  have HN := Lib.hid hn
  have SF := Lib.hid sf
  have BX := Lib.hid (bel_al0 w (.cells #[.int .i64 cap, .int .i64 left, .slice af n cf] 24))
  have HX := Lib.hid (heap_alloc_new w (.cells #[.int .i64 cap, .int .i64 left, .slice af n cf] 24))
  have BAD := Lib.hid (fun i => validB_bad (d := (cap, left, L)) (i := i))
  obtain ⟨x0, x1, x2⟩ := box3c HX.out
  clear sf hn hc1 hc2 hr1 hr2
  go_enter Try.func18, Try.ntmps18
  by_cases h1 : cap < 0
  · have e1 : decide (cap < 0) = true := decide_eq_true h1
    have HV : Hid (validB (cap, left, L) = false) := Lib.hid (by unfold validB; rw [decide_eq_false (show ¬ 0 ≤ cap by omega)]; rfl)
    clear h1
    go_wp2
    go_ret
    rw [HV.out]
    exact ⟨rfl, BX.out⟩
  have e1 : decide (cap < 0) = false := decide_eq_false h1
  by_cases h2 : left < -1
  · have e2 : decide (left < -1) = true := decide_eq_true h2
    have HV : Hid (validB (cap, left, L) = false) := Lib.hid (by unfold validB; dsimp only; rw [decide_eq_false (show ¬ -1 ≤ left by omega)]; simp)
    clear h1 h2
    go_wp2
    go_ret
    rw [HV.out]
    exact ⟨rfl, BX.out⟩
  have e2 : decide (left < -1) = false := decide_eq_false h2
  by_cases h3 : 256 < n
  · have e3 : decide ((n : Int) > 256) = true := decide_eq_true (by omega)
    have e4 : decide (256 < (n : Int)) = true := decide_eq_true (by omega)
    have HV : Hid (validB (cap, left, L) = false) := Lib.hid (by unfold validB; dsimp only; rw [← HN.out, decide_eq_false (show ¬ n ≤ 256 by omega)]; simp)
    clear h1 h2 h3
    go_wp2
    go_ret
    rw [HV.out]
    exact ⟨rfl, BX.out⟩
  have e3 : decide ((n : Int) > 256) = false := decide_eq_false (by omega)
  have e4 : decide (256 < (n : Int)) = false := decide_eq_false (by omega)
  have HV : Hid (FilesOk L n → validB (cap, left, L) = true) := Lib.hid fun h => by
    unfold validB
    dsimp only
    rw [← HN.out, decide_eq_true h, decide_eq_true (show 0 ≤ cap by omega), decide_eq_true (show -1 ≤ left by omega), decide_eq_true (show n ≤ 256 by omega)]
    rfl
  have HN256 := Lib.hid h3
  clear h1 h2 h3
  go_wp2_with fail
  clear x0 x1 x2 e1 e2 e3 e4
  go_loopw [3] (fun t wr => ∃ i : Nat, i ≤ n ∧ t = .int .i64 (i : Int) ∧ Hid (FilesOk L i) ∧ Hid (wr.heap[w.heap.size]? = some (.cells #[.int .i64 cap, .int .i64 left, .slice af n cf] 24 (0, 0))) ∧ Hid (Below w.heap.size w wr)) (fun t _ => n - (intOf t).toNat)
  case atStart => exact ⟨0, by omega, rfl, Lib.hid (fun j hj => by omega), HX, BX⟩
  case round =>
    obtain ⟨i, hi, rfl, HF, HG, HBB⟩ := hrel
    obtain ⟨x0, x1, x2⟩ := box3c HG.out
    have hn256 := HN256.out
    by_cases hin : i < n
    · have l1 : decide ((i : Int) < (n : Int)) = true := decide_eq_true (by omega)
      have p0 : (0 : Int) ≤ (i : Int) := by omega
      have p1 : (i : Int) < (n : Int) := by omega
      have hip : i < L.length := by rw [← HN.out]; exact hin
      obtain ⟨b1, o1, c1, bv, pv, hv, k0, k1, k2, hsz, hb, hp⟩ := rd_fat (rd_below SF.out HBB.out) hip
      obtain ⟨rfl, -, -⟩ : af = some ⟨b1, o1, none⟩ ∧ n = L.length ∧ cf = c1 := by simpa using hv
      have RV := Lib.hid (regrown_bel0 (w := wr) fun W (hW : Below wr.heap.size wr W) => rvfile_any (L.getD i fl0).1 bv pv (L.getD i fl0).2.1 (L.getD i fl0).2.2 W hsz (sl_below (rd8_sl hb) hW) (rd_below hp hW))
      have BADI := Lib.hid (BAD.out i hip)
      have NXT := Lib.hid (filesOk_succ HF.out)
      have hfb : (nameB (L.getD i fl0).1 && flB (L.getD i fl0).2.1 (L.getD i fl0).2.2) = fileB (L.getD i fl0) := rfl
      rw [hfb] at RV
      clear hfb
      obtain ⟨fb, hfb⟩ : ∃ z, z = fileB (L.getD i fl0) := ⟨_, rfl⟩
      rw [← hfb] at RV BADI NXT
      obtain ⟨sa, hsa⟩ : ∃ z, z = (L.getD i fl0).1 := ⟨_, rfl⟩
      rw [← hsa] at RV BADI NXT k0
      obtain ⟨ab, cb, rfl, -, -⟩ := sl_form (rd8_sl hb)
      obtain ⟨ap, cp, rfl, -, -⟩ := rd_sl hp
      generalize (L.getD i fl0).2.1.length = nb at *
      generalize (L.getD i fl0).2.2.length = np at *
      have HI := Lib.hid hin
      have w1 : wrap64 ((i : Int) + 1) = ((i + 1 : Nat) : Int) := by unfold wrap64; omega
      have W1 := Lib.hid w1
      have c0 := cells_regrown k0
      have c1' := cells_regrown k1
      have c2 := cells_regrown k2
      have d2 := cells_regrown x2
      clear w1 hv hip hb hp hsz hfb hsa x0 x1
      cases fb
      · have HB0 := Lib.hid (BADI.out (by simp))
        clear BADI NXT
        go_wp2_with fail
        clear k0 k1 k2 x2
        refine wp_region_bl (by kernel_rfl) (by kernel_rfl) ?_
        repeat (go_big_quiet_step (fail))
        go_big_quiet_step ((go_at_call 47; with_reducible exact RV.out _ _))
        repeat (go_big_quiet_step (fail))
        refine wpQuiet_nil ?_
        intro w9 hb9
        go_wp2
        go_ret
        rw [HB0.out]
        exact ⟨rfl, btA HBB.out hb9⟩
      · by_cases hi0 : i = 0
        · have l2 : decide ((i : Int) > 0) = false := decide_eq_false (by omega)
          have l3 : decide (0 < (i : Int)) = false := decide_eq_false (by omega)
          have l4 : ¬ 0 < i := by omega
          have HF1 := Lib.hid (NXT.out rfl (fun h => absurd h l4))
          clear hi0 BADI NXT
          go_wp2_with fail
          clear k0 k1 k2 x2
          refine wp_region_bl (by kernel_rfl) (by kernel_rfl) ?_
          repeat (go_big_quiet_step (fail))
          go_big_quiet_step ((go_at_call 47; with_reducible exact RV.out _ _))
          repeat (go_big_quiet_step (fail))
          refine wpQuiet_nil ?_
          intro w9 hb9
          have HG9 := Lib.hid ((hb9.block _ (lt_of_some0 HG.out)).trans HG.out)
          have B9 := Lib.hid (btA HBB.out hb9)
          clear c0 c1' c2 d2 l2 l3 l4 hb9
          go_wp2
          go_roundw
          case rel => exact ⟨i + 1, by omega, by go_num, HF1, HG9, B9⟩
          case measure => simp [intOf]; omega
        · have l2 : decide ((i : Int) > 0) = true := decide_eq_true (by omega)
          have l3 : decide (0 < (i : Int)) = true := decide_eq_true (by omega)
          have l4 : 0 < i := by omega
          obtain ⟨b2, o2, c3, bv2, pv2, hv2, m0, -, -, -, -, -⟩ := rd_fat (rd_below SF.out HBB.out) (i := i - 1) (by have := HN.out; omega)
          obtain ⟨⟨rfl, rfl⟩, -, -⟩ : (b1 = b2 ∧ o1 = o2) ∧ n = L.length ∧ cf = c3 := by simpa using hv2
          have c4 := cells_regrown m0
          have p2 : (0 : Int) ≤ (i : Int) - 1 := by omega
          have p3 : (i : Int) - 1 < (n : Int) := by omega
          have p4 : wrap64 ((i : Int) - 1) = (i : Int) - 1 := by unfold wrap64; omega
          have p5 : IntKind.i64.wrap ((i : Int) - 1) = (i : Int) - 1 := IntWalk.i64_in _ (by clear p4; omega)
          have p6 : ((i : Int) - 1).toNat = i - 1 := by clear p4 p5; omega
          generalize (L.getD (i - 1) fl0).1 = sb at *
          have hle : (Op.bytesLess sa.toList sb.toList || sa.toList == sb.toList) = nmLe sa sb := rfl
          obtain ⟨le, hLE⟩ : ∃ z, z = nmLe sa sb := ⟨_, rfl⟩
          rw [← hLE] at hle BADI NXT
          have hrun : ∀ W, (binOp .leq 9 (.string sa) (.string sb)).run Try.prog W = .ok (.bool le) W := fun W => by rw [binOp_string_leq, hle]; rfl
          clear hv2 hi0 hLE
          cases le
          · have HF1 := Lib.hid (NXT.out rfl fun _ => rfl)
            clear BADI NXT
            go_wp2_with fail
            clear k0 k1 k2 x2 m0
            refine wp_region_bl (by kernel_rfl) (by kernel_rfl) ?_
            repeat (go_big_quiet_step (fail))
            go_big_quiet_step ((go_at_call 47; with_reducible exact RV.out _ _))
            repeat (go_big_quiet_step (fail))
            refine wpQuiet_nil ?_
            intro w9 hb9
            have HG9 := Lib.hid ((hb9.block _ (lt_of_some0 HG.out)).trans HG.out)
            have B9 := Lib.hid (btA HBB.out hb9)
            clear c0 c1' c2 d2 l2 l3 l4 c4 p2 p3 p4 p5 p6 hb9
            go_wp2
            go_roundw
            case rel => exact ⟨i + 1, by omega, by go_num, HF1, HG9, B9⟩
            case measure => simp [intOf]; omega
          · have HB0 := Lib.hid (BADI.out (by simp [l4]))
            clear BADI NXT
            go_wp2_with fail
            clear k0 k1 k2 x2 m0
            refine wp_region_bl (by kernel_rfl) (by kernel_rfl) ?_
            repeat (go_big_quiet_step (fail))
            go_big_quiet_step ((go_at_call 47; with_reducible exact RV.out _ _))
            repeat (go_big_quiet_step (fail))
            refine wpQuiet_nil ?_
            intro w9 hb9
            clear c0 c1' c2 d2 l2 l3 l4 c4 p2 p3 p4 p5 p6
            go_wp2
            go_ret
            rw [HB0.out]
            exact ⟨rfl, btA HBB.out hb9⟩
    · obtain rfl : i = n := by omega
      have l1 : decide ((i : Int) < (i : Int)) = false := decide_eq_false (by omega)
      go_wp2
      go_ret
      rw [HV.out HF.out]
      exact ⟨rfl, HBB.out⟩
end Go.Proofs.Ytpipgbjkkiheaaa.Gf
namespace Go.Proofs.Ytpipgbjkkiheaaa.Gf
open Go Go.Joins Go.ChangeShapes Go.WideShapes Go.ChangeAt Go.RowKit Go.Deep Go.Proofs.Ytpipgbjkkiheaaa.By Go.Proofs.Ytpipgbjkkiheaaa.Qt

theorem getD_F {L : List Fl} {i : Nat} (h : i < L.length) : L.getD i fl0 = L[i] := by
  rw [List.getD_eq_getElem?_getD, List.getElem?_eq_getElem h]
  rfl
theorem fnd_at {L : List Fl} {s : ByteArray} {i : Nat} (hi : i < L.length) (h : ∀ j, j < i → nmEq (L.getD j fl0).1 s = false) (h2 : nmEq (L.getD i fl0).1 s = true) : fndL L s = (i : Int) := by
  have e : L.findIdx? (fun f => nmEq f.1 s) = some i := List.findIdx?_eq_some_iff_getElem.2 ⟨hi, by rw [← getD_F hi]; exact h2, fun j hj => by
    have := h j hj
    rw [getD_F (by omega)] at this
    simp [this]⟩
  unfold fndL
  rw [e]
theorem fnd_none {L : List Fl} {s : ByteArray} (h : ∀ j, j < L.length → nmEq (L.getD j fl0).1 s = false) : fndL L s = -1 := by
  have e : L.findIdx? (fun f => nmEq f.1 s) = none := List.findIdx?_eq_none_iff.2 fun x hx => by
    obtain ⟨j, hj, rfl⟩ := List.getElem_of_mem hx
    have := h j hj
    rwa [getD_F hj] at this
  unfold fndL
  rw [e]
theorem fnd_lt (L : List Fl) (s : ByteArray) : -1 ≤ fndL L s ∧ fndL L s < L.length := by
  unfold fndL
  cases e : L.findIdx? (fun f => nmEq f.1 s) with
  | none => exact ⟨Int.le_refl _, by show (-1 : Int) < _; omega⟩
  | some i =>
    obtain ⟨hi, _⟩ := List.findIdx?_eq_some_iff_getElem.1 e
    exact ⟨by show -1 ≤ (i : Int); omega, by show (i : Int) < _; omega⟩
set_option maxRecDepth 100000 in
set_option maxHeartbeats 6400000 in
theorem rfind10_any (v : Value) (d : Dk) (s : ByteArray) (w : World) (hv : Dv w v d) : Calls Try.prog 80 #[v, .string s] w fun e w' => e = .returned (.int .i64 (fndL d.2.2 s)) ∧ Below w.heap.size w w' := by
  obtain ⟨fv, rfl, -, sf⟩ := hv
  obtain ⟨af, cf, rfl, hc1, hc2⟩ := rd_sl sf
  obtain ⟨cap, left, L⟩ := d
  dsimp only at sf hc1 ⊢
  obtain ⟨n, hn⟩ : ∃ z, z = L.length := ⟨_, rfl⟩
  rw [← hn] at sf hc1 ⊢
  have HN := Lib.hid hn
  have SF := Lib.hid sf
  have HCP : Hid (n ≤ 9223372036854775807) := Lib.hid (by unfold maxLen at hc2; omega)
  have BX := Lib.hid (bel_al0 w (.cells #[.int .i64 cap, .int .i64 left, .slice af n cf] 24))
  have HX := Lib.hid (heap_alloc_new w (.cells #[.int .i64 cap, .int .i64 left, .slice af n cf] 24))
  clear sf hn hc1 hc2
  go_enter Try.func80, Try.ntmps80
  go_wp2_with fail
  go_loopw [5] (fun t wr => ∃ i : Nat, i ≤ n ∧ t = .int .i64 (i : Int) ∧ Hid (∀ j, j < i → nmEq (L.getD j fl0).1 s = false) ∧ wr = w.alloc (.cells #[.int .i64 cap, .int .i64 left, .slice af n cf] 24)) (fun t _ => n - (intOf t).toNat)
  case atStart => exact ⟨0, by omega, rfl, Lib.hid (fun j hj => by omega), rfl⟩
  case round =>
    obtain ⟨i, hi, rfl, HF, hW⟩ := hrel
    have HBB : Hid (Below w.heap.size w wr) := Lib.hid (by rw [hW]; exact BX.out)
    have HG : Hid (wr.heap[w.heap.size]? = some (.cells #[.int .i64 cap, .int .i64 left, .slice af n cf] 24 (0, 0))) := Lib.hid (by rw [hW]; exact HX.out)
    have HW := Lib.hid hW
    clear hW
    obtain ⟨x0, x1, x2⟩ := box3c HG.out
    have hcp := HCP.out
    by_cases hin : i < n
    · have l1 : decide ((i : Int) < (n : Int)) = true := decide_eq_true (by omega)
      have p0 : (0 : Int) ≤ (i : Int) := by omega
      have p1 : (i : Int) < (n : Int) := by omega
      have hip : i < L.length := by rw [← HN.out]; exact hin
      obtain ⟨b1, o1, c1, bv, pv, hv, k0, -, -, -, -, -⟩ := rd_fat (rd_below SF.out HBB.out) hip
      obtain ⟨rfl, -, -⟩ : af = some ⟨b1, o1, none⟩ ∧ n = L.length ∧ cf = c1 := by simpa using hv
      have AT := Lib.hid (fnd_at (s := s) hip HF.out)
      obtain ⟨sa, hsa⟩ : ∃ z, z = (L.getD i fl0).1 := ⟨_, rfl⟩
      rw [← hsa] at k0 AT
      have HSA := Lib.hid hsa
      have heq : (sa.toList == s.toList) = nmEq sa s := rfl
      obtain ⟨eb, hEB⟩ : ∃ z, z = nmEq sa s := ⟨_, rfl⟩
      rw [← hEB] at heq AT
      have HEB := Lib.hid hEB
      have HI := Lib.hid hin
      clear hv hip hsa hEB
      cases eb
      · have hne : ¬ sa.toList = s.toList := by simpa using heq
        go_wp2
        go_roundw
        case rel =>
          have hi2 := HI.out
          refine ⟨i + 1, by omega, by go_num, Lib.hid (fun j hj => ?_), HW.out⟩
          by_cases c : j < i
          · exact HF.out j c
          · obtain rfl : j = i := by omega
            rw [← HSA.out]
            exact HEB.out.symm
        case measure =>
          have hi2 := HI.out
          simp [intOf]
          omega
      · have hne : sa.toList = s.toList := by simpa using heq
        have HNE := Lib.hid hne
        clear hne
        go_wp2
        go_ret
        rw [AT.out trivial]
        exact ⟨rfl, HBB.out⟩
    · obtain rfl : i = n := by omega
      have l1 : decide ((i : Int) < (i : Int)) = false := decide_eq_false (by omega)
      go_wp2
      go_ret
      rw [fnd_none (by rw [← HN.out]; exact HF.out)]
      exact ⟨rfl, HBB.out⟩
set_option maxRecDepth 100000 in
set_option maxHeartbeats 6400000 in
theorem rready_any (v : Value) (d : Dk) (s : ByteArray) (hs : s.size ≤ maxLen) (w : World) (hv : Dv w v d) : Calls Try.prog 79 #[v, .string s] w fun e w' => e = .returned (.int .i64 ((readyE d s : Nat) : Int)) ∧ Below w.heap.size w w' := by
  have HV := Lib.hid hv
  have RN := Lib.hid (rname_any s hs)
  obtain ⟨fv, rfl, -, sf⟩ := hv
  obtain ⟨af, cf, rfl, -, -⟩ := rd_sl sf
  have hE : readyE d s = if !(validB d && nameB s) then 1 else if d.2.1 = 0 then 13 else 0 := rfl
  have RV := Lib.hid (rvalid10_any _ d _ (dv_below HV.out (bel_al0 w (.cells #[.int .i64 d.1, .int .i64 d.2.1, .slice af d.2.2.length cf] 24))))
  obtain ⟨E, hEE⟩ : ∃ z, z = readyE d s := ⟨_, rfl⟩
  rw [← hEE] at hE ⊢
  generalize nameB s = NB at *
  generalize validB d = VB at *
  obtain ⟨cap, left, L⟩ := d
  dsimp only at RV hE ⊢
  generalize L.length = n at *
  have BX := Lib.hid (bel_al0 w (.cells #[.int .i64 cap, .int .i64 left, .slice af n cf] 24))
  have HX := Lib.hid (heap_alloc_new w (.cells #[.int .i64 cap, .int .i64 left, .slice af n cf] 24))
  obtain ⟨x0, x1, x2⟩ := box3c HX.out
  have HE := Lib.hid hE
  clear sf hEE hE HV
  go_enter Try.func79, Try.ntmps79
  go_wp2_with fail
  refine RV.out.mono ?_
  rintro e w2 ⟨rfl, hb2⟩
  have HX2 := Lib.hid ((hb2.block _ (lt_of_some0 HX.out)).trans HX.out)
  have B2 := Lib.hid (btA BX.out hb2)
  clear x0 x1 x2 hb2 RV
  obtain ⟨x0, x1, x2⟩ := box3c HX2.out
  cases VB
  · obtain rfl : E = 1 := by rw [HE.out]; rfl
    go_wp2
    go_ret
    exact ⟨rfl, B2.out⟩
  go_wp2_with fail
  refine (RN.out _).mono ?_
  rintro e w3 ⟨rfl, rfl⟩
  cases NB
  · obtain rfl : E = 1 := by rw [HE.out]; rfl
    go_wp2
    go_ret
    exact ⟨rfl, B2.out⟩
  by_cases h0 : left = 0
  · obtain rfl : E = 13 := by rw [HE.out, if_pos h0]; rfl
    subst h0
    go_wp2
    go_ret
    exact ⟨rfl, B2.out⟩
  · obtain rfl : E = 0 := by rw [HE.out, if_neg h0]; rfl
    have e1 : (left == 0) = false := beq_false_of_ne h0
    go_wp2
    go_ret
    exact ⟨rfl, B2.out⟩
set_option maxRecDepth 100000 in
set_option maxHeartbeats 6400000 in
theorem rat_any (v : Value) (d : Dk) (s : ByteArray) (hs : s.size ≤ maxLen) (w : World) (hv : Dv w v d) : Calls Try.prog 51 #[v, .string s] w fun e w' => e = .returned (.tuple #[.int .i64 (atI d s), .int .i64 ((atE d s : Nat) : Int)]) ∧ Below w.heap.size w w' := by
  have HV := Lib.hid hv
  have hR := fnd_lt d.2.2 s
  obtain ⟨fv, rfl, -, sf⟩ := hv
  obtain ⟨af, cf, rfl, -, -⟩ := rd_sl sf
  have BX := Lib.hid (bel_al0 w (.cells #[.int .i64 d.1, .int .i64 d.2.1, .slice af d.2.2.length cf] 24))
  have HX := Lib.hid (heap_alloc_new w (.cells #[.int .i64 d.1, .int .i64 d.2.1, .slice af d.2.2.length cf] 24))
  have RR := Lib.hid (rready_any _ d s hs _ (dv_below HV.out BX.out))
  have RF := Lib.hid (fun W (h : Below w.heap.size w W) => rfind10_any _ d s W (dv_below HV.out h))
  have hE : atE d s = if readyE d s = 0 then (if fndL d.2.2 s < 0 then 6 else 0) else readyE d s := rfl
  have hI : atI d s = if readyE d s = 0 then fndL d.2.2 s else -1 := rfl
  have hR0 : atI d s = if readyE d s = 0 then fndL d.2.2 s else -1 := rfl
  generalize atE d s = E at *
  generalize atI d s = I at *
  generalize readyE d s = R at *
  generalize fndL d.2.2 s = F at *
  obtain ⟨cap, left, L⟩ := d
  dsimp only at RR RF HX BX hR ⊢
  generalize L.length = n at *
  obtain ⟨x0, x1, x2⟩ := box3c HX.out
  have HE := Lib.hid hE
  have HI := Lib.hid hI
  clear sf hE hI HV hR0
  go_enter Try.func51, Try.ntmps51
  go_wp2_with fail
  refine RR.out.mono ?_
  rintro e w2 ⟨rfl, hb2⟩
  have HX2 := Lib.hid ((hb2.block _ (lt_of_some0 HX.out)).trans HX.out)
  have B2 := Lib.hid (btA BX.out hb2)
  clear x0 x1 x2 hb2 RR
  obtain ⟨x0, x1, x2⟩ := box3c HX2.out
  by_cases hR0 : R = 0
  · subst hR0
    rw [if_pos rfl] at HE HI
    go_wp2_with fail
    refine (RF.out _ B2.out).mono ?_
    rintro e w3 ⟨rfl, hb3⟩
    have B3 := Lib.hid (btA B2.out hb3)
    clear hb3 x0 x1 x2 RF
    by_cases hF : F < 0
    · have e1 : decide (F < 0) = true := decide_eq_true hF
      rw [if_pos hF] at HE
      obtain rfl : F = -1 := by omega
      clear hF hR
      go_wp2
      go_ret2
      rw [HE.out, HI.out]
      exact ⟨rfl, B3.out⟩
    · have e1 : decide (F < 0) = false := decide_eq_false hF
      rw [if_neg hF] at HE
      clear hF hR
      go_wp2
      go_ret2
      rw [HE.out, HI.out]
      exact ⟨rfl, B3.out⟩
  · rw [if_neg hR0] at HE HI
    have e1 : ((R : Int) != 0) = true := by rw [bne_iff_ne]; omega
    clear hR0 hR
    go_wp2
    go_ret2
    rw [HE.out, HI.out]
    exact ⟨rfl, B2.out⟩
end Go.Proofs.Ytpipgbjkkiheaaa.Gf
namespace Go.Proofs.Ytpipgbjkkiheaaa.Gf
open Go Go.Joins Go.ChangeShapes Go.WideShapes Go.ChangeAt Go.RowKit Go.Deep Go.Proofs.Ytpipgbjkkiheaaa.By Go.Proofs.Ytpipgbjkkiheaaa.Qt

/-- The file that a call is about. -/
def fileAt (d : Dk) (s : ByteArray) : Fl := d.2.2.getD (atI d s).toNat fl0
theorem at_ok {d : Dk} {s : ByteArray} (h : atE d s = 0) : 0 ≤ atI d s ∧ atI d s < d.2.2.length := by
  have hl := fnd_lt d.2.2 s
  unfold atE at h
  unfold atI
  by_cases c : readyE d s = 0
  · rw [if_pos c] at h ⊢
    by_cases c2 : fndL d.2.2 s < 0
    · rw [if_pos c2] at h
      cases h
    · omega
  · rw [if_neg c] at h
    exact absurd h c
def sizeD (d : Dk) (s : ByteArray) : Int := if atE d s = 0 then (((contL (fileAt d s)).length : Nat) : Int) else 0
def readE (d : Dk) (s : ByteArray) (off n : Int) : Nat := if atE d s = 0 then (if off < 0 ∨ n < 0 ∨ (((contL (fileAt d s)).length : Nat) : Int) < off + n then 2 else 0) else atE d s
def readL (d : Dk) (s : ByteArray) (off n : Int) : List Nat := if readE d s off n = 0 then ((contL (fileAt d s)).drop off.toNat).take n.toNat else []
/-- The cells of the file of a call. -/
theorem dv_at {B : Nat → Prop} {w : World} {af : Option Addr} {n cf : Nat} {L : List Fl} (h : Rd B w (.sl tyF) [.slice af n cf] L) {i : Nat} (hi : i < L.length) : ∃ b off bv pv, af = some ⟨b, off, none⟩ ∧ n = L.length ∧ w.cell? ⟨b, off + i * 3, none⟩ = some (.string (L.getD i fl0).1) ∧ w.cell? ⟨b, off + i * 3 + 1, none⟩ = some bv ∧ w.cell? ⟨b, off + i * 3 + 2, none⟩ = some pv ∧ (L.getD i fl0).1.size ≤ maxLen ∧ Rd B w (.sl .u8) [bv] (L.getD i fl0).2.1 ∧ Rd B w (.sl tyW) [pv] (L.getD i fl0).2.2 := by
  obtain ⟨b1, o1, c1, bv, pv, hv, k0, k1, k2, hsz, hb, hp⟩ := rd_fat h hi
  obtain ⟨rfl, hn, -⟩ : af = some ⟨b1, o1, none⟩ ∧ n = L.length ∧ cf = c1 := by simpa using hv
  exact ⟨b1, o1, bv, pv, rfl, hn, k0, k1, k2, hsz, hb, hp⟩
/-- What lies behind the l-th byte. -/
theorem sl_from {W : World} {a : Option Addr} {n cap p : Nat} {l : List Nat} (h : Sl W (.slice a n cap) l) (hp : p ≤ n) : Sl W (.slice (if cap = p then a else a.map (·.add p)) (n - p) (cap - p)) (l.drop p) := by
  obtain ⟨a', cap', hv, h2, h3⟩ := sl_form h
  obtain ⟨rfl, rfl, rfl⟩ : a = a' ∧ n = l.length ∧ cap = cap' := by simpa using hv
  by_cases e : p = l.length
  · rw [List.drop_of_length_le (by omega), show l.length - p = 0 by omega]
    exact ⟨by simp, by simp, Or.inl ⟨_, _, rfl, rfl, by omega⟩⟩
  · obtain ⟨b, o, c, hv', h4, h5, hk⟩ := sl_cells h (by omega)
    obtain ⟨rfl, -⟩ : a = some ⟨b, o, none⟩ ∧ cap = c := by simpa using hv'
    have hc := sl_cut (w := W) (p := p) (c := l.length - p) h.1 rfl h3 h2 hk (by omega)
    rw [List.take_of_length_le (by rw [List.length_drop]; exact Nat.le_refl _)] at hc
    rw [if_neg (by omega)]
    simpa [add_none] using hc
theorem sl_sub {W : World} {a : Option Addr} {n cap lo k : Nat} {l : List Nat} (h : Sl W (.slice a n cap) l) (hk : lo + k ≤ n) : Sl W (.slice (if cap = lo then a else a.map (·.add lo)) k (cap - lo)) ((l.drop lo).take k) := by
  have h1 := sl_from h (p := lo) (by omega)
  have hl : (l.drop lo).length = n - lo := by
    obtain ⟨a9, c9, e9, -, -⟩ := sl_form h
    have : n = l.length := by simp at e9; exact e9.2.1
    rw [List.length_drop, this]
  exact sl_take (show Sl W (.slice _ (l.drop lo).length _) (l.drop lo) by rw [hl]; exact h1) (by omega)
/-- A call that answers bytes and an error. -/
def RDO (w : World) (l : List Nat) (E : Nat) (e : Ending) (w' : World) : Prop := (∃ v, e = .returned (.tuple #[v, .int .i64 (E : Int)]) ∧ Sl w' v l) ∧ Below w.heap.size w w'
set_option maxRecDepth 100000 in
set_option maxHeartbeats 6400000 in
theorem rsize_any (v : Value) (d : Dk) (s : ByteArray) (hs : s.size ≤ maxLen) (w : World) (hv : Dv w v d) : Calls Try.prog 30 #[v, .string s] w fun e w' => e = .returned (.tuple #[.int .i64 (sizeD d s), .int .i64 ((atE d s : Nat) : Int)]) ∧ Below w.heap.size w w' := by
  have HV := Lib.hid hv
  obtain ⟨fv, rfl, -, sf⟩ := hv
  obtain ⟨af, cf, rfl, -, -⟩ := rd_sl sf
  have SF := Lib.hid sf
  have BX := Lib.hid (bel_al0 w (.cells #[.int .i64 d.1, .int .i64 d.2.1, .slice af d.2.2.length cf] 24))
  have HX := Lib.hid (heap_alloc_new w (.cells #[.int .i64 d.1, .int .i64 d.2.1, .slice af d.2.2.length cf] 24))
  have RA := Lib.hid (rat_any _ d s hs _ (dv_below HV.out BX.out))
  have OK := Lib.hid (at_ok (d := d) (s := s))
  have hS : sizeD d s = if atE d s = 0 then (((contL (d.2.2.getD (atI d s).toNat fl0)).length : Nat) : Int) else 0 := rfl
  generalize sizeD d s = S at *
  generalize atE d s = E at *
  generalize atI d s = I at *
  obtain ⟨cap, left, L⟩ := d
  dsimp only at RA HX BX hS SF OK ⊢
  obtain ⟨n, hn⟩ : ∃ z, z = L.length := ⟨_, rfl⟩
  rw [← hn] at RA HX BX SF OK ⊢
  have HN := Lib.hid hn
  obtain ⟨x0, x1, x2⟩ := box3c HX.out
  have HS := Lib.hid hS
  clear sf hS HV hn
  go_enter Try.func30, Try.ntmps30
  go_wp2_with fail
  refine RA.out.mono ?_
  rintro e w2 ⟨rfl, hb2⟩
  have HX2 := Lib.hid ((hb2.block _ (lt_of_some0 HX.out)).trans HX.out)
  have B2 := Lib.hid (btA BX.out hb2)
  clear x0 x1 x2 hb2 RA
  obtain ⟨x0, x1, x2⟩ := box3c HX2.out
  by_cases hE0 : E = 0
  · subst hE0
    rw [if_pos rfl] at HS
    obtain ⟨hI0, hI1⟩ := OK.out rfl
    obtain ⟨i, rfl⟩ : ∃ i : Nat, I = (i : Int) := ⟨I.toNat, by omega⟩
    rw [Int.toNat_natCast] at HS
    have hip : i < L.length := by have := HN.out; omega
    obtain ⟨b1, o1, bv, pv, rfl, -, k0, k1, k2, hsz, hb, hp⟩ := dv_at (rd_below SF.out B2.out) hip
    obtain ⟨ab, cb, rfl, -, -⟩ := sl_form (rd8_sl hb)
    obtain ⟨ap, cp, rfl, -, -⟩ := rd_sl hp
    have RC := Lib.hid (rcontent_any (L.getD i fl0).1 _ _ _ _ w2 (rd8_sl hb) hp)
    rw [show ((L.getD i fl0).1, (L.getD i fl0).2.1, (L.getD i fl0).2.2) = L.getD i fl0 from rfl] at RC
    generalize (L.getD i fl0).2.1.length = nb at *
    generalize (L.getD i fl0).2.2.length = np at *
    generalize (L.getD i fl0).1 = sa at *
    generalize contL (L.getD i fl0) = C at *
    clear hb hp hsz hip OK
    go_wp2_with fail
    refine RC.out.mono ?_
    rintro e w3 ⟨⟨v3, rfl, ho3⟩, hb3⟩
    obtain ⟨a3, c3, rfl, -, -⟩ := sl_form ho3.sl
    have B3 := Lib.hid (btA B2.out hb3)
    clear ho3 hb3
    go_wp2
    go_ret2
    rw [HS.out]
    exact ⟨rfl, B3.out⟩
  · rw [if_neg hE0] at HS
    have e1 : ((E : Int) != 0) = true := by rw [bne_iff_ne]; omega
    clear hE0 OK
    go_wp2
    go_ret2
    rw [HS.out]
    exact ⟨rfl, B2.out⟩
set_option maxRecDepth 100000 in
set_option maxHeartbeats 6400000 in
theorem rread_any (v : Value) (d : Dk) (s : ByteArray) (hs : s.size ≤ maxLen) (w : World) (hv : Dv w v d) (off n0 : Int) (ho : -9223372036854775808 ≤ off ∧ off ≤ 9223372036854775807) (hn0 : -9223372036854775808 ≤ n0 ∧ n0 ≤ 9223372036854775807) : Calls Try.prog 32 #[v, .string s, .int .i64 off, .int .i64 n0] w (RDO w (readL d s off n0) (readE d s off n0)) := by
  have HV := Lib.hid hv
  obtain ⟨fv, rfl, -, sf⟩ := hv
  obtain ⟨af, cf, rfl, -, -⟩ := rd_sl sf
  have SF := Lib.hid sf
  have BX := Lib.hid (bel_al0 w (.cells #[.int .i64 d.1, .int .i64 d.2.1, .slice af d.2.2.length cf] 24))
  have HX := Lib.hid (heap_alloc_new w (.cells #[.int .i64 d.1, .int .i64 d.2.1, .slice af d.2.2.length cf] 24))
  have RA := Lib.hid (rat_any _ d s hs _ (dv_below HV.out BX.out))
  have OK := Lib.hid (at_ok (d := d) (s := s))
  have hS : readE d s off n0 = if atE d s = 0 then (if off < 0 ∨ n0 < 0 ∨ (((contL (d.2.2.getD (atI d s).toNat fl0)).length : Nat) : Int) < off + n0 then 2 else 0) else atE d s := rfl
  have hL : readL d s off n0 = if readE d s off n0 = 0 then ((contL (d.2.2.getD (atI d s).toNat fl0)).drop off.toNat).take n0.toNat else [] := rfl
  generalize readL d s off n0 = RL at *
  generalize readE d s off n0 = S at *
  generalize atE d s = E at *
  generalize atI d s = I at *
  obtain ⟨cap, left, L⟩ := d
  dsimp only at RA HX BX hS hL SF OK ⊢
  obtain ⟨n, hn⟩ : ∃ z, z = L.length := ⟨_, rfl⟩
  rw [← hn] at RA HX BX SF OK ⊢
  have HN := Lib.hid hn
  obtain ⟨x0, x1, x2⟩ := box3c HX.out
  have HS := Lib.hid hS
  have HL := Lib.hid hL
  clear sf hS hL HV hn
  go_enter Try.func32, Try.ntmps32
  go_wp2_with fail
  refine RA.out.mono ?_
  rintro e w2 ⟨rfl, hb2⟩
  have HX2 := Lib.hid ((hb2.block _ (lt_of_some0 HX.out)).trans HX.out)
  have B2 := Lib.hid (btA BX.out hb2)
  clear x0 x1 x2 hb2 RA
  obtain ⟨x0, x1, x2⟩ := box3c HX2.out
  by_cases hE0 : E = 0
  · subst hE0
    rw [if_pos rfl] at HS
    obtain ⟨hI0, hI1⟩ := OK.out rfl
    obtain ⟨i, rfl⟩ : ∃ i : Nat, I = (i : Int) := ⟨I.toNat, by omega⟩
    rw [Int.toNat_natCast] at HS HL
    have hip : i < L.length := by have := HN.out; omega
    obtain ⟨b1, o1, bv, pv, rfl, -, k0, k1, k2, hsz, hb, hp⟩ := dv_at (rd_below SF.out B2.out) hip
    obtain ⟨ab, cb, rfl, -, -⟩ := sl_form (rd8_sl hb)
    obtain ⟨ap, cp, rfl, -, -⟩ := rd_sl hp
    have RC := Lib.hid (rcontent_any (L.getD i fl0).1 _ _ _ _ w2 (rd8_sl hb) hp)
    rw [show ((L.getD i fl0).1, (L.getD i fl0).2.1, (L.getD i fl0).2.2) = L.getD i fl0 from rfl] at RC
    generalize (L.getD i fl0).2.1.length = nb at *
    generalize (L.getD i fl0).2.2.length = np at *
    generalize (L.getD i fl0).1 = sa at *
    clear hb hp hsz hip OK
    have hcl := contL_le (L.getD i fl0)
    generalize contL (L.getD i fl0) = C at *
    go_wp2_with fail
    refine RC.out.mono ?_
    rintro e w3 ⟨⟨v3, rfl, ho3⟩, hb3⟩
    obtain ⟨a3, c3, rfl, hq3, -⟩ := sl_form ho3.sl
    have B3 := Lib.hid (btA B2.out hb3)
    have S3 := Lib.hid ho3.sl
    obtain ⟨nc, hnc⟩ : ∃ z, z = C.length := ⟨_, rfl⟩
    rw [← hnc] at HS S3 hcl hq3 ⊢
    have HNC := Lib.hid hnc
    clear ho3 hb3 RC x0 x1 x2 k0 k1 k2 hnc
    by_cases h1 : off < 0
    · have e1 : decide (off < 0) = true := decide_eq_true h1
      have HS1 : Hid (S = 2) := Lib.hid (by rw [HS.out, if_pos (Or.inl h1)])
      clear h1 hcl hq3
      go_wp2
      go_ret2
      refine ⟨⟨_, by rw [HS1.out]; rfl, ?_⟩, B3.out⟩
      rw [HL.out, HS1.out]
      exact sl_nil _
    have e1 : decide (off < 0) = false := decide_eq_false h1
    by_cases h2 : n0 < 0
    · have e2 : decide (n0 < 0) = true := decide_eq_true h2
      have HS1 : Hid (S = 2) := Lib.hid (by rw [HS.out, if_pos (Or.inr (Or.inl h2))])
      clear h1 h2 hcl hq3
      go_wp2
      go_ret2
      refine ⟨⟨_, by rw [HS1.out]; rfl, ?_⟩, B3.out⟩
      rw [HL.out, HS1.out]
      exact sl_nil _
    have e2 : decide (n0 < 0) = false := decide_eq_false h2
    obtain ⟨o, rfl⟩ : ∃ o : Nat, off = (o : Int) := ⟨off.toNat, by omega⟩
    obtain ⟨m, rfl⟩ : ∃ m : Nat, n0 = (m : Int) := ⟨n0.toNat, by omega⟩
    by_cases h3 : nc < o
    · have e3 : decide ((o : Int) > (nc : Int)) = true := decide_eq_true (by omega)
      have e4 : decide ((nc : Int) < (o : Int)) = true := decide_eq_true (by omega)
      have e9 : nc < o := h3
      have HS1 : Hid (S = 2) := Lib.hid (by rw [HS.out, if_pos (Or.inr (Or.inr (by omega)))])
      clear h1 h2 hcl hq3
      go_wp2
      go_ret2
      refine ⟨⟨_, by rw [HS1.out]; rfl, ?_⟩, B3.out⟩
      rw [HL.out, HS1.out]
      exact sl_nil _
    have e3 : decide ((o : Int) > (nc : Int)) = false := decide_eq_false (by omega)
    have e4 : decide ((nc : Int) < (o : Int)) = false := decide_eq_false (by omega)
    have e9 : o ≤ nc := by omega
    obtain ⟨df, hdf⟩ : ∃ z, z = nc - o := ⟨_, rfl⟩
    by_cases h4 : df < m
    · have e5 : decide ((m : Int) > (df : Int)) = true := decide_eq_true (by omega)
      have e6 : decide ((df : Int) < (m : Int)) = true := decide_eq_true (by omega)
      have e7 : decide ((m : Int) > (nc : Int) - (o : Int)) = true := decide_eq_true (by omega)
      have e8 : decide ((nc : Int) - (o : Int) < (m : Int)) = true := decide_eq_true (by omega)
      have HS1 : Hid (S = 2) := Lib.hid (by rw [HS.out, if_pos (Or.inr (Or.inr (by omega)))])
      have hw : wrap64 ((nc : Int) - (o : Int)) = (nc : Int) - (o : Int) := by unfold wrap64; omega
      clear h1 h2 hcl hq3 hdf
      go_wp2
      go_ret2
      refine ⟨⟨_, by rw [HS1.out]; rfl, ?_⟩, B3.out⟩
      rw [HL.out, HS1.out]
      exact sl_nil _
    have e5 : decide ((m : Int) > (df : Int)) = false := decide_eq_false (by omega)
    have e6 : decide ((df : Int) < (m : Int)) = false := decide_eq_false (by omega)
    have e7 : decide ((m : Int) > (nc : Int) - (o : Int)) = false := decide_eq_false (by omega)
    have e8 : decide ((nc : Int) - (o : Int) < (m : Int)) = false := decide_eq_false (by omega)
    have HS1 : Hid (S = 0) := Lib.hid (by rw [HS.out, if_neg (by omega)])
    have q0 : (0 : Int) ≤ (o : Int) := by omega
    have q1 : (o : Int) ≤ (o : Int) + (m : Int) := by omega
    have q2 : (o : Int) + (m : Int) ≤ (c3 : Int) := by omega
    have HSUB := Lib.hid (sl_sub (k := m) (lo := o) S3.out (by omega))
    have hw : wrap64 ((nc : Int) - (o : Int)) = (nc : Int) - (o : Int) := by unfold wrap64; omega
    have HW2 : Hid (wrap64 ((o : Int) + (m : Int)) = (o : Int) + (m : Int)) := Lib.hid (by clear hw; unfold wrap64; omega)
    have hw2 := HW2.out
    have HTN : Hid (((o : Int) + (m : Int)).toNat - o = m) := Lib.hid (by clear hw hw2; omega)
    clear h1 h2 hcl hq3 hdf h3 h4
    by_cases hco : c3 = o
    · have hsub := HSUB.out
      rw [if_pos hco] at hsub
      have HSUB2 := Lib.hid hsub
      subst hco
      clear hsub HSUB
      go_wp2
      go_ret2
      refine ⟨⟨_, by rw [HS1.out]; rfl, ?_⟩, B3.out⟩
      rw [HL.out, HS1.out, if_pos rfl, Int.toNat_natCast, Int.toNat_natCast]
      have hm : m = 0 := by clear hw hw2; omega
      have h := HSUB2.out
      rw [hm, Nat.sub_self] at h
      rw [hm]
      exact h
    · have hsub := HSUB.out
      rw [if_neg hco] at hsub
      have HSUB2 := Lib.hid hsub
      clear hsub HSUB
      go_wp2
      go_ret2
      refine ⟨⟨_, by rw [HS1.out]; rfl, ?_⟩, B3.out⟩
      rw [HL.out, HS1.out, if_pos rfl, Int.toNat_natCast, Int.toNat_natCast]
      show Sl w3 (.slice (a3.map (·.add o)) (o + m - o) (c3 - o)) _
      rw [Nat.add_sub_cancel_left]
      exact HSUB2.out
  · rw [if_neg hE0] at HS
    have e1 : ((E : Int) != 0) = true := by rw [bne_iff_ne]; omega
    have HSE := Lib.hid hE0
    clear hE0 OK
    go_wp2
    go_ret2
    refine ⟨⟨_, by rw [HS.out]; rfl, ?_⟩, B2.out⟩
    rw [HL.out, HS.out, if_neg HSE.out]
    exact sl_nil _
end Go.Proofs.Ytpipgbjkkiheaaa.Gf
