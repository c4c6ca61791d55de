/- What is proved here: copy into a slice of the call's own. No condition. -/
import Derived.Test.YtekdnloabhnngaaDoorQ7h
import Derived.Laws.CopyOwn
namespace Go.Proofs.YtekdnloabhnngaaDoor.Gf
open Go Go.Joins Go.ChangeShapes Go.WideShapes Go.ChangeAt Go.RowKit Go.Deep Go.Proofs.YtekdnloabhnngaaDoor.By Go.Proofs.YtekdnloabhnngaaDoor.Crc Go.Proofs.YtekdnloabhnngaaDoor.Qt

theorem sizeB1 : (Tryd.prog.info? 5).map (·.size) = some 1 := by kernel_rfl
theorem copy_into {ops : Array Oper} {rest : List Oper} {dst : Option Tmp} {d s : Operand} {pos : String} {after : Array Edge} {ty : TypeId} {a : Act} {W : World} {Q : Exit → Act → World → Prop} {ax : Option Addr} {base g n c off dl dc k cx : Nat} {L R : List Nat}
    (hd : a.eval d = .slice (some ⟨g, off, none⟩) dl dc) (hs : a.eval s = .slice ax k cx) (hO : Own W base (.slice (some ⟨g, 0, none⟩) n c) L) (hn : L.length = n) (hS : Sl W (.slice ax k cx) R) (hk : R.length = k) (hk1 : 1 ≤ k) (hkd : k ≤ dl) (hfit : off + k ≤ n)
    (h : ∀ z w', Own w' base (.slice (some ⟨g, 0, none⟩) n c) (L.take off ++ (R ++ L.drop (off + k))) → W.grownBy w' (some g) → wpList Tryd.prog ops Q rest (a.put dst z) w') : wpList Tryd.prog ops Q (⟨dst, .call { callee := .builtin .copy, args := #[d, s], argTypes := #[26, 26] }, ty, pos, after, none⟩ :: rest) a W := by
  subst hn
  obtain ⟨b, o, cap, hv, -, -, hc⟩ := sl_cells hS (by omega)
  obtain ⟨rfl, -, rfl⟩ : ax = some ⟨b, o, none⟩ ∧ k = R.length ∧ cx = cap := by simpa using hv
  subst hk
  obtain ⟨hl, h1, h2⟩ := hO
  rcases h2 with ⟨h3, _⟩ | ⟨g2, cp, cur, h3, hg, hb, hnc, hm, hsz, ht⟩
  · cases h3
  cases h3
  rw [Nat.mul_one] at ht hsz
  have hcur : cur.toList = cellsOf L ++ cur.toList.drop L.length := by
    conv => lhs; rw [← List.take_append_drop L.length cur.toList]
    rw [ht]
  have hlen : (L.take off ++ (R ++ L.drop (off + R.length))).length = L.length := by simp; omega
  have hN : cur.toList.take off ++ (cellsOf R ++ cur.toList.drop (off + (cellsOf R).length)) = cellsOf (L.take off ++ (R ++ L.drop (off + R.length))) ++ cur.toList.drop L.length := by
    rw [cellsOf_length]
    conv => lhs; rw [hcur]
    rw [List.take_append_of_le_length (by rw [cellsOf_length]; omega), List.drop_append_of_le_length (by rw [cellsOf_length]; omega)]
    simp only [cellsOf, List.map_append, List.map_take, List.map_drop, List.append_assoc]
  refine wpList_copy_own rfl d s 26 26 rfl 5 Tryd.underlying26 sizeB1 g off dl dc ⟨b, o, none⟩ R.length cx hd hs cur 5 hb (cellsOf R) (by rw [cellsOf_length]; exact (Nat.min_eq_left hkd).symm) (fun j v hj => ?_) (by rw [cellsOf_length]; omega) (cellsOf_one _) (h _ _ ⟨?_, ?_⟩ ⟨rfl, rfl, rfl, by simp, fun q _ hq => setRow_other W g q _ (fun e => hq (by rw [e]))⟩)
  · have hj2 : j < R.length := by
      have := (List.getElem?_eq_some_iff.1 hj).1
      rwa [cellsOf_length] at this
    rw [Addr.add_lit, hc j hj2]
    simp only [cellsOf, List.getElem?_map] at hj
    simpa [List.getD, hj2] using hj
  · intro x hx
    rcases List.mem_append.1 hx with hx | hx
    · exact hl x (List.mem_of_mem_take hx)
    · rcases List.mem_append.1 hx with hx | hx
      · exact hS.1 x hx
      · exact hl x (List.mem_of_mem_drop hx)
  · rw [hlen, hN]
    refine ⟨by rw [cellsOf_length, hlen, Nat.mul_one], Or.inr ⟨g, c, _, rfl, hg, setRow_heap W g cur _ 5 _ hb, hnc, hm, ?_, ?_⟩⟩
    · simp only [List.size_toArray, List.length_append, cellsOf_length, hlen, List.length_drop, Array.length_toList]
      omega
    · rw [Nat.mul_one]
      have e : (cellsOf (L.take off ++ (R ++ L.drop (off + R.length)))).length = L.length := by rw [cellsOf_length, hlen]
      rw [← e]
      exact List.take_left
end Go.Proofs.YtekdnloabhnngaaDoor.Gf
