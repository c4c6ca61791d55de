/- What is proved here: small facts for SlotChanges; the reference's Seal; append of rows onto a list that is full. -/
import Derived.Test.YtimoinfjinmamaaGreatGs38
import Derived.Test.YtimoinfjinmamaaGreatVu
import Derived.ArgAppend
import Derived.Test.YtimoinfjinmamaaGreatEy
namespace Go.Proofs.YtimoinfjinmamaaGreat.Gf
open Joins ChangeShapes WideShapes ChangeAt RowKit Deep By Qt
set_option maxRecDepth 100000
set_option maxHeartbeats 204800000
theorem rseal_any (v : Value) (g : Ge) (w : World) (hv : Gv w v g) (hf : Few g.m) (hn : g.m.st.flatten.length ≤ 1000) : Calls Tryz.prog 16 #[v] w (ModO g 2 3 w) := by
 obtain ⟨s0, s1, s2, s3, s4, s5, s6, s7, rfl, hm, hj⟩ := hv;have q0 := al2 w (.cells #[.int .i64 g.num, .int .i64 g.rev, .int .i64 g.mode, .int .i64 g.size, s0, s1, s2, s3, s4, s5, s6, s7, .int .i64 g.m.live, .int .i64 g.m.garb] 31) (.cells #[.int .i64 0, .int .i64 0, .int .i64 0, .int .i64 0, .slice none 0 0, .slice none 0 0, .slice none 0 0, .slice none 0 0, .slice none 0 0, .slice none 0 0, .slice none 0 0, .slice none 0 0, .int .i64 0, .int .i64 0] 31);have HS := Lh q0.1;have HZ := Lh q0.2.1;have B0 := Lh q0.2.2;have PV := Lh (rmoded_any (.agg #[.int .i64 g.num, .int .i64 g.rev, .int .i64 g.mode, .int .i64 g.size, s0, s1, s2, s3, s4, s5, s6, s7, .int .i64 g.m.live, .int .i64 g.m.garb]) g 2 3 (by unfold J64; decide) _ ⟨s0, s1, s2, s3, s4, s5, s6, s7, rfl, jqf hm q0.2.2, hj⟩ hf hn);clear q0 hm hj hf hn
 go_enter Tryz.func16, Tryz.ntmps16
 go_upto_region 1 with fail
 generalize (w.alloc (.cells #[.int .i64 g.num, .int .i64 g.rev, .int .i64 g.mode, .int .i64 g.size, s0, s1, s2, s3, s4, s5, s6, s7, .int .i64 g.m.live, .int .i64 g.m.garb] 31)).alloc (.cells #[.int .i64 0, .int .i64 0, .int .i64 0, .int .i64 0, .slice none 0 0, .slice none 0 0, .slice none 0 0, .slice none 0 0, .slice none 0 0, .slice none 0 0, .slice none 0 0, .slice none 0 0, .int .i64 0, .int .i64 0] 31) = W0 at *;obtain ⟨x0, x1, x2, x3, x4, x5, x6, x7, x8, x9, x10, x11, x12, x13⟩ := bx14 HS.out;go_wp2_with fail
 clear x0 x1 x2 x3 x4 x5 x6 x7 x8 x9 x10 x11 x12 x13;refine PV.out.mono ?_;rintro e W1 ⟨⟨v1, rfl, hv1⟩, hb⟩;obtain ⟨t0, t1, t2, t3, t4, t5, t6, t7, rfl, hm1, hj1⟩ := hv1;have HZ1 := Lh ((hb.block _ (jqb HZ.out)).trans HZ.out);have B1 := Lh (B0.out.trans (hb.mono B0.out.size));have ON := Lh (jwj hm1);have MS1 := Lh hm1;have HJ1 := Lh hj1;generalize hT : modG g 2 3 = T at *;generalize hC : modC g 2 = C at *;have HT := Lh hT;have HC := Lh hC;clear hT hC;clear hb HZ B0 PV hm1 hj1;go_wp2_with ((with_reducible refine jwv (w.heap.size + 1) _ #[.int .i64 T.num, .int .i64 T.rev, .int .i64 T.mode, .int .i64 T.size, t0, t1, t2, t3, t4, t5, t6, t7, .int .i64 T.m.live, .int .i64 T.m.garb] ?_ ?_ HZ1.out rfl rfl ON.out ?_); exact rfl; exact rfl)
 refine bodyPost_ret (jqn (S := 31) rfl _ _ (w.heap.size + 1) #[.int .i64 T.num, .int .i64 T.rev, .int .i64 T.mode, .int .i64 T.size, t0, t1, t2, t3, t4, t5, t6, t7, .int .i64 T.m.live, .int .i64 T.m.garb] rfl (setRow_heap _ _ _ _ _ _ HZ1.out) Tryz.underlying31 rfl jwb) rfl ?_;exact modO_of HT.out HC.out ⟨⟨_, rfl, t0, t1, t2, t3, t4, t5, t6, t7, rfl, jqv MS1.out HZ1.out jwg, HJ1.out⟩, jqd B1.out (Nat.le_succ _) _⟩
theorem app_gv {P : Program} {S T : TypeId} {z : Nat} (ty : LsV P S T z) {ops : Array Oper} {rest : List Oper} {dst : Option Tmp} {s x : Operand} {pos : String} {after : Array Edge} {r : TypeId} {a : Act} {W : World} {Q : Exit → Act → World → Prop}
 {b off n cap b2 off2 m c : Nat} {V M : List (List Value)} (hs : a.eval s = .slice (some ⟨b, off, none⟩) n cap) (hx : a.eval x = .slice (some ⟨b2, off2, none⟩) m c) (hn : n = V.length) (hm : m = M.length) (r1 : Rows z V) (r2 : Rows z M) (h1 : SrcV z W b off V) (h2 : SrcV z W b2 off2 M) (hg : cap < n + m) (hlm : V.length + M.length ≤ 100000000)
 (h : ∀ v' w', OwV T z w' W.heap.size v' (V ++ M) → Below W.heap.size W w' → wpList P ops Q rest (a.put dst v') w') : wpList P ops Q (⟨dst, .call { callee := .builtin .append, args := #[s, x], argTypes := #[S, S] }, r, pos, after, none⟩ :: rest) a W := by
 subst hn;subst hm;obtain ⟨i, z0, hi, hz0, hz1, hz2, hz3⟩ := ty.info;obtain ⟨v', w', hr, ho, hgr⟩ := run_append_arg_grows (P := P) W S r T i z0 z i.bytes ty.und hi hz0 hz1 rfl hz3 ty.pos ⟨b, off, none⟩ V.length cap V.flatten (rows_len r1) (src_flat ty.pos r1 h1) ⟨b2, off2, none⟩ M.length c M.flatten (rows_len r2) (src_flat ty.pos r2 h2) hg (by unfold maxLen; omega) (by
  have := Nat.mul_le_mul (show V.length + M.length ≤ 100000000 by omega) hz2;omega)
 refine wpList_plain rfl fun _ hK => ?_;unfold Oper.wp execOp;simp only [resolve, invoke, builtin, Sem.run_bind, Sem.run_pure, Result.andThen_ok, List.map_toArray, List.map_cons, List.map_nil, hs, hx, hr];exact hK _ _ (h v' w' ⟨rows_append r1 r2, by rw [List.length_append, List.flatten_append]; exact ho⟩ ((Below.refl _ _).grown hgr (Nat.le_refl _) (fun k hk => by cases hk)))
theorem src_cells {z b : Nat} {w : World} {M : List (List Value)} {cs : Array Value} {T : TypeId} {fr : Nat × Nat} (hr : Rows z M) (h : w.heap[b]? = some (.cells cs T fr)) (hc : cs.toList = M.flatten) : SrcV z w b 0 M := fun k u hk hu => by
 rw [Nat.zero_add, cell_of_row w b _ cs T fr h, ← rows_at hr k u hk hu, ← hc];simp
theorem rotT_len (s : Slt) : (rotT s).gens.length ≤ 10000 := by
 unfold rotT;split
 case isFalse => exact Nat.zero_le _
 case isTrue h =>
  have hk : okS s := by
   unfold rotC at h;split at h
   case isTrue h1 => exact okS_of h1
   case isFalse => cases h
  rw [rotL_len hk.n1];have := hk.n8;omega
theorem chgT_len {s : Slt} {g : Ge} (h : s.gens.length ≤ 10000) : (chgT s g).gens.length ≤ 10000 := by
 unfold chgT;split
 ·show (repL s.gens g).length ≤ 10000
  rw [jx5];exact h
 ·exact Nat.zero_le _
theorem modG_fl {g : Ge} {fr tm : Int} {n : Nat} (h : g.m.st.flatten.length ≤ n) : (modG g fr tm).m.st.flatten.length ≤ n := by
 unfold modG;split
 ·exact h
 ·exact Nat.zero_le _
def Bx4 (W : World) (p : Nat) (T : TypeId) : Prop := ∃ (i l : Int) (r : Bool) (a : Option Addr) (n c : Nat), W.heap[p]? = some (.cells #[.int .i64 i, .int .i64 l, .bool r, .slice a n c] T (0, 0))
theorem Bx4.below {W W' : World} {p : Nat} {T : TypeId} (h : Bx4 W p T) (hb : Below W.heap.size W W') : Bx4 W' p T := by
 obtain ⟨i, l, r, a, n, c, h⟩ := h;exact ⟨i, l, r, a, n, c, (hb.block _ (jqb h)).trans h⟩
structure Lp2 (wl : World) (g12 g13 g15 : Nat) (S1 : Array Value) (lv : Value) (LG : List Ge) (W : World) : Prop where
 b : Below wl.heap.size wl W
 x : W.heap[g12]? = some (.cells S1 24 (0, 0))
 p : Bx4 W g13 39
 r : Bx4 W g15 24
 l : Gl W lv LG
theorem Lp2.below {wl W W' : World} {g12 g13 g15 : Nat} {S1 : Array Value} {lv : Value} {LG : List Ge} (h : Lp2 wl g12 g13 g15 S1 lv LG W) (hb : Below W.heap.size W W') : Lp2 wl g12 g13 g15 S1 lv LG W' :=
 ⟨h.b.trans (hb.mono h.b.size), (hb.block _ (jqb h.x)).trans h.x, h.p.below hb, h.r.below hb, jqj h.l hb⟩
theorem bx4_row {W : World} {p : Nat} {T : TypeId} {i l : Int} {r : Bool} {a : Option Addr} {n c : Nat} (h : Bx4 W p T) : Bx4 (W.setRow p #[.int .i64 i, .int .i64 l, .bool r, .slice a n c]) p T := by
 obtain ⟨_, _, _, _, _, _, h⟩ := h;exact ⟨i, l, r, a, n, c, setRow_heap _ _ _ _ _ _ h⟩
theorem bx4_other {W : World} {p q : Nat} {T : TypeId} (h : Bx4 W q T) (hn : q ≠ p) (cs : Array Value) : Bx4 (W.setRow p cs) q T := by
 obtain ⟨i, l, r, a, n, c, h⟩ := h;exact ⟨i, l, r, a, n, c, (setRow_other W p q cs hn).trans h⟩
theorem bx4_gl {W : World} {p : Nat} {T : TypeId} {v : Value} {L : List Ge} (h : Gl W v L) (hp : Bx4 W p T) (cs : Array Value) : Gl (W.setRow p cs) v L := by
 obtain ⟨i, l, r, a, n, c, hz⟩ := hp;exact gl_setRow h hz (by show (4 : Nat) ≤ 13; decide) jwq
theorem Lp2.setP {wl W : World} {g12 g13 g15 : Nat} {S1 : Array Value} {lv : Value} {LG : List Ge} {i l : Int} {r : Bool} {a : Option Addr} {n c : Nat} (h : Lp2 wl g12 g13 g15 S1 lv LG W) (o : wl.heap.size ≤ g12 ∧ g12 < g13 ∧ g13 < g15) : Lp2 wl g12 g13 g15 S1 lv LG (W.setRow g13 #[.int .i64 i, .int .i64 l, .bool r, .slice a n c]) :=
 ⟨jqd h.b (by omega) _, (setRow_other W _ _ _ (by omega)).trans h.x, bx4_row h.p, bx4_other h.r (by omega) _, bx4_gl h.l h.p _⟩
theorem Lp2.setR {wl W : World} {g12 g13 g15 : Nat} {S1 : Array Value} {lv : Value} {LG : List Ge} {i l : Int} {r : Bool} {a : Option Addr} {n c : Nat} (h : Lp2 wl g12 g13 g15 S1 lv LG W) (o : wl.heap.size ≤ g12 ∧ g12 < g13 ∧ g13 < g15) : Lp2 wl g12 g13 g15 S1 lv LG (W.setRow g15 #[.int .i64 i, .int .i64 l, .bool r, .slice a n c]) :=
 ⟨jqd h.b (by omega) _, (setRow_other W _ _ _ (by omega)).trans h.x, bx4_other h.p (by omega) _, bx4_row h.r, bx4_gl h.l h.r _⟩
end Go.Proofs.YtimoinfjinmamaaGreat.Gf
