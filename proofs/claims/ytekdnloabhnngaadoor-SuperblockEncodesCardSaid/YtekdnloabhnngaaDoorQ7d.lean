/- What is proved here: what the laws of layer 7 ask of the program; the contract of awake. No condition. -/
import Derived.Test.YtekdnloabhnngaaDoorQ7c
namespace Go.Proofs.YtekdnloabhnngaaDoor.Gf
open Go Go.ChangeShapes Go.WideShapes Go.ChangeAt Go.RowKit Go.Proofs.YtekdnloabhnngaaDoor.By Go.Proofs.YtekdnloabhnngaaDoor.Crc Go.Proofs.YtekdnloabhnngaaDoor.Qt

def enV (s g r : Int) : List Nat := if okS s g r = true then encS s.toNat g.toNat r.toNat else []
def enE (s g r : Int) : Int := if okS s g r = true then 0 else 1
/-- A call that answers bytes and an error. -/
def EW (w : World) (l : List Nat) (err : Int) (e : Ending) (w' : World) : Prop := (∃ v, e = .returned (.tuple #[v, .int .i64 err]) ∧ Sl w' v l) ∧ Below w.heap.size w w'
theorem rencode7_any (s g r : Int) (w : World) : Calls Tryd.prog 10 #[SV s g r] w (EO w (enV s g r) (enE s g r)) := by
  unfold enV enE
  cases h : okS s g r
  · rw [if_neg (by decide), if_neg (by decide)]
    exact rencode7_bad s g r w h
  · rw [if_pos rfl, if_pos rfl]
    obtain ⟨h1, h2, h3, h4, h5, h6⟩ := okS_iff.1 h
    obtain ⟨a, rfl⟩ := Int.eq_ofNat_of_zero_le h1
    obtain ⟨b, rfl⟩ := Int.eq_ofNat_of_zero_le (show 0 ≤ g by omega)
    obtain ⟨c, rfl⟩ := Int.eq_ofNat_of_zero_le h5
    exact rencode7_ok a b c w h
/-- What the laws ask of the program, in the worlds that are Ok. -/
structure PC7 (Ok : World → Prop) : Prop where
  st : ∀ {w w' : World}, Ok w → Below w.heap.size w w' → Ok w'
  valid : ∀ s g r W, Ok W → J64 s → J64 g → J64 r → Calls Tryd.prog 13 #[SV s g r] W fun e w' => e = .returned (.bool (okS s g r)) ∧ Below W.heap.size W w'
  enc : ∀ s g r W, Ok W → J64 s → J64 g → J64 r → Calls Tryd.prog 9 #[SV s g r] W (EW W (enV s g r) (enE s g r))
  dec : ∀ v l W, Ok W → Sl W v l → Calls Tryd.prog 17 #[v] W (DS W (dX7 l) (dE7 l))
  next : ∀ s g r W, Ok W → J64 s → J64 g → J64 r → Calls Tryd.prog 11 #[SV s g r] W fun e w' => e = .returned (.tuple #[nxV s g r, .int .i64 (nxE s g r)]) ∧ Below W.heap.size W w'
set_option maxRecDepth 100000 in
theorem awake7_any {Ok : World → Prop} (P : PC7 Ok) (w : World) (hw : Ok w) : Calls Tryd.prog 15 #[] w fun e w' => e = .returned (.bool true) ∧ Below w.heap.size w w' := by
  have E := Lib.hid (P.enc 0 0 0 w hw (by unfold J64; decide) (by unfold J64; decide) (by unfold J64; decide))
  have NX := Lib.hid (fun W (h : Ok W) => P.next 1 1 0 W h (by unfold J64; decide) (by unfold J64; decide) (by unfold J64; decide))
  have ST := Lib.hid (fun (W W' : World) => P.st (w := W) (w' := W'))
  unfold EW at E
  rw [show enE 0 0 0 = 1 from rfl, show enV 0 0 0 = [] from rfl] at E
  rw [show nxE 1 1 0 = 0 from rfl, show nxV 1 1 0 = SV 1 1 1 from rfl] at NX
  unfold SV at E NX
  clear P
  go_enter Tryd.func15, Tryd.ntmps15
  go_wp2_with fail
  refine E.out.mono ?_
  rintro e w1 ⟨⟨v1, rfl, -⟩, hb1⟩
  have hw1 := Lib.hid (ST.out _ _ hw hb1)
  have B1 := Lib.hid hb1
  clear hb1 E
  go_wp2_with fail
  refine (NX.out _ hw1.out).mono ?_
  rintro e w2 ⟨rfl, hb2⟩
  have B2 := Lib.hid (bt B1.out hb2)
  clear hb2
  go_wp2
  go_ret
  exact ⟨rfl, B2.out.alloc B2.out.size _⟩
end Go.Proofs.YtekdnloabhnngaaDoor.Gf
