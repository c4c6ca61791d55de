/- What is proved here: the plain mathematics of disks: names, contents, what operations make of a disk. No program text. -/
import Derived.Test.YtpipgbjkkiheaaaGn
namespace Go.Proofs.Ytpipgbjkkiheaaa.Gf
open Go

abbrev tyW : Ty := .pr (.i .i64) (.pr (.sl .u8) .b)
abbrev tyF : Ty := .pr .s (.pr (.sl .u8) (.sl tyW))
abbrev tyD : Ty := .pr (.i .i64) (.pr (.i .i64) (.sl tyF))
abbrev tyK : Ty := .pr .s (.pr (.i .i64) (.i .i64))
/-- A write: where, what, and whether it cuts. -/
abbrev Wr : Type := Int × List Nat × Bool
/-- A file: its name, what is durable, what is pending. -/
abbrev Fl : Type := ByteArray × List Nat × List Wr
/-- A disk: limit, power, files. -/
abbrev Dk : Type := Int × Int × List Fl
abbrev Kep : Type := ByteArray × Int × Int
/-- A character of a name. -/
def chB (c : Nat) : Bool := (decide (97 ≤ c) && decide (c ≤ 122)) || (decide (48 ≤ c) && decide (c ≤ 57)) || decide (c = 46) || decide (c = 45)
def byteAt (s : ByteArray) (i : Nat) : Nat := (s.data.toList.getD i 0).toNat
def chsB (s : ByteArray) : Bool := decide (∀ i, i < s.size → chB (byteAt s i) = true)
def nameB (s : ByteArray) : Bool := chsB s && decide (1 ≤ s.size) && decide (s.size ≤ 40)
def nmEq (a b : ByteArray) : Bool := a.toList == b.toList
def nmLe (a b : ByteArray) : Bool := Op.bytesLess a.toList b.toList || a.toList == b.toList
/-- Bytes, filled up with bytes 0 to a length. -/
def padL (b : List Nat) (n : Nat) : List Nat := b ++ List.replicate (n - b.length) 0
/-- Bytes after a write. -/
def apW (b : List Nat) (w : Wr) : List Nat := if w.2.2 then b.take w.1.toNat else (padL b w.1.toNat).take w.1.toNat ++ (w.2.1 ++ (padL b w.1.toNat).drop (w.1.toNat + w.2.1.length))
def wOk (w : Wr) : Bool := decide (0 ≤ w.1) && decide (w.1 ≤ 1048576) && !(w.2.2 && decide (0 < w.2.1.length)) && decide (w.2.1.length ≤ 1048576)
def okP : List Nat → List Wr → Bool
  | _, [] => true
  | b, w :: r => wOk w && decide ((apW b w).length ≤ 1048576) && okP (apW b w) r
def apL (b : List Nat) (p : List Wr) : List Nat := p.foldl apW b
def flB (b : List Nat) (p : List Wr) : Bool := decide (b.length ≤ 1048576) && okP b p
def contL (f : Fl) : List Nat := if flB f.2.1 f.2.2 then apL f.2.1 f.2.2 else []
def fileB (f : Fl) : Bool := nameB f.1 && flB f.2.1 f.2.2
def wr0 : Wr := (0, [], false)
def fl0 : Fl := (ByteArray.empty, [], [])
def FilesOk (L : List Fl) (n : Nat) : Prop := ∀ i, i < n → fileB (L.getD i fl0) = true ∧ (0 < i → nmLe (L.getD i fl0).1 (L.getD (i - 1) fl0).1 = false)
instance (L : List Fl) (n : Nat) : Decidable (FilesOk L n) := inferInstanceAs (Decidable (∀ i, i < n → fileB (L.getD i fl0) = true ∧ (0 < i → nmLe (L.getD i fl0).1 (L.getD (i - 1) fl0).1 = false)))
def validB (d : Dk) : Bool := decide (0 ≤ d.1) && decide (-1 ≤ d.2.1) && decide (d.2.2.length ≤ 256) && decide (FilesOk d.2.2 d.2.2.length)
theorem padL_length (b : List Nat) (n : Nat) : (padL b n).length = max b.length n := by
  unfold padL
  rw [List.length_append, List.length_replicate]
  omega
theorem apW_length (b : List Nat) (w : Wr) : (apW b w).length = if w.2.2 then min b.length w.1.toNat else max b.length (w.1.toNat + w.2.1.length) := by
  unfold apW
  split
  · rw [List.length_take, Nat.min_comm]
  · rw [List.length_append, List.length_append, List.length_take, List.length_drop, padL_length]
    omega
theorem apW_lt {b : List Nat} {w : Wr} (hb : ∀ x ∈ b, x < 256) (hw : ∀ x ∈ w.2.1, x < 256) : ∀ x ∈ apW b w, x < 256 := by
  have hp : ∀ x ∈ padL b w.1.toNat, x < 256 := fun x hx => by
    rcases List.mem_append.1 hx with h | h
    · exact hb x h
    · rw [(List.mem_replicate.1 h).2]; decide
  intro x hx
  unfold apW at hx
  split at hx
  · exact hb x (List.mem_of_mem_take hx)
  · rcases List.mem_append.1 hx with h | h
    · exact hp x (List.mem_of_mem_take h)
    · rcases List.mem_append.1 h with h | h
      · exact hw x h
      · exact hp x (List.mem_of_mem_drop h)
theorem apL_nil (b : List Nat) : apL b [] = b := rfl
theorem apL_cons (b : List Nat) (w : Wr) (p : List Wr) : apL b (w :: p) = apL (apW b w) p := rfl
theorem apL_append (b : List Nat) (p q : List Wr) : apL b (p ++ q) = apL (apL b p) q := by simp [apL]
theorem okP_append : ∀ (p q : List Wr) (b : List Nat), okP b (p ++ q) = (okP b p && okP (apL b p) q)
  | [], q, b => by simp [okP, apL]
  | w :: p, q, b => by
    rw [List.cons_append, okP, okP_append p q (apW b w), okP, apL_cons, Bool.and_assoc, Bool.and_assoc, Bool.and_assoc]
theorem okP_le : ∀ (p : List Wr) (b : List Nat), okP b p = true → b.length ≤ 1048576 → (apL b p).length ≤ 1048576
  | [], _, _, h => h
  | w :: p, b, h, _ => by
    rw [okP, Bool.and_eq_true, Bool.and_eq_true] at h
    exact okP_le p (apW b w) h.2 (by simpa using h.1.2)
/-- The checks of the first writes. -/
theorem okP_take {b : List Nat} {p : List Wr} {i : Nat} (h : okP b p = true) : okP b (p.take i) = true := by
  have e := okP_append (p.take i) (p.drop i) b
  rw [List.take_append_drop, h] at e
  have e2 : (okP b (p.take i) && okP (apL b (p.take i)) (p.drop i)) = true := e.symm
  rw [Bool.and_eq_true] at e2
  exact e2.1
theorem contL_le (f : Fl) : (contL f).length ≤ 1048576 := by
  unfold contL
  split
  · rename_i h
    unfold flB at h
    rw [Bool.and_eq_true] at h
    exact okP_le _ _ h.2 (by simpa using h.1)
  · simp
theorem take_snocW {p : List Wr} {i : Nat} (h : i < p.length) : p.take (i + 1) = p.take i ++ [p.getD i wr0] := by
  rw [List.take_add_one, List.getElem?_eq_getElem h, List.getD_eq_getElem?_getD, List.getElem?_eq_getElem h]
  rfl
/-- The places of names. -/
def fndL (L : List Fl) (s : ByteArray) : Int := match L.findIdx? (fun f => nmEq f.1 s) with | some i => (i : Int) | none => -1
def readyE (d : Dk) (s : ByteArray) : Nat := if !(validB d && nameB s) then 1 else if d.2.1 = 0 then 13 else 0
def atE (d : Dk) (s : ByteArray) : Nat := if readyE d s = 0 then (if fndL d.2.2 s < 0 then 6 else 0) else readyE d s
def atI (d : Dk) (s : ByteArray) : Int := if readyE d s = 0 then fndL d.2.2 s else -1
def leftN (x : Int) : Int := if 0 < x then x - 1 else x
end Go.Proofs.Ytpipgbjkkiheaaa.Gf
