/- What is proved here: the laws' volume file. No condition. -/
import Derived.Test.YtlnccofanicihaaDoorR9e
import Derived.Test.YtlnccofanicihaaDoorN9
namespace Go.Proofs.YtlnccofanicihaaDoor.Gf
open Go Go.Joins Go.ChangeShapes Go.WideShapes Go.ChangeAt Go.RowKit Go.Deep Go.Proofs.YtlnccofanicihaaDoor.By Go.Proofs.YtlnccofanicihaaDoor.Crc Go.Proofs.YtlnccofanicihaaDoor.Qt

theorem infoI9 : (Tryd.prog.info? 2).map (fun i => (i.zero, i.size, i.bytes)) = some (some (.int .i64 0), 1, 8) := by kernel_rfl
theorem C4n.below {w w' : World} {b o : Nat} {r : Ndl} {d : Value} (h : C4n w b o r d) (hB : Below w.heap.size w w') : C4n w' b o r d :=
  ⟨(hB.cell (block_lt_of_cell h.c0)).trans h.c0, (hB.cell (block_lt_of_cell h.c1)).trans h.c1, (hB.cell (block_lt_of_cell h.c2)).trans h.c2, (hB.cell (block_lt_of_cell h.c3)).trans h.c3, h.ok, sl_below h.sl hB⟩
theorem take_snocN {L : List Ndl} {i : Nat} (h : i < L.length) : L.take (i + 1) = L.take i ++ [L.getD i nd0] := by
  rw [List.take_add_one, List.getElem?_eq_getElem h, List.getD_eq_getElem?_getD, List.getElem?_eq_getElem h]
  rfl
/-- A volume file with needles, and where each of its records ends. -/
def filL (L : List Ndl) : List Nat := encS 0 1 0 ++ bodF L
def endsL (L : List Ndl) (i : Nat) : List Nat := (List.range i).map fun k => (filL (L.take (k + 1))).length
theorem endsL_succ (L : List Ndl) (i : Nat) : endsL L (i + 1) = endsL L i ++ [(filL (L.take (i + 1))).length] := by
  unfold endsL
  rw [List.range_succ, List.map_append]
  rfl
theorem filL_succ {L : List Ndl} {i : Nat} (h : i < L.length) : filL (L.take (i + 1)) = filL (L.take i) ++ recL (L.getD i nd0) := by
  unfold filL
  rw [take_snocN h, bodF_append, List.append_assoc]
  simp [bodF]
def endsV (l : List Nat) : List Value := l.map fun (p : Nat) => Value.int .i64 (p : Int)
theorem bodF_le : ∀ (L : List Ndl), GoodN L → (bodF L).length ≤ 4128 * L.length
  | [], _ => by simp [bodF]
  | x :: L, h => by
    have h1 := bodF_le L fun y hy => h y (List.mem_cons_of_mem _ hy)
    have h2 := (enc_ok (h x (List.mem_cons_self ..)).2).1
    have h3 := szR_lt x.data.length
    rw [bodF_cons, List.length_append, recL_length, List.length_cons]
    omega
end Go.Proofs.YtlnccofanicihaaDoor.Gf
