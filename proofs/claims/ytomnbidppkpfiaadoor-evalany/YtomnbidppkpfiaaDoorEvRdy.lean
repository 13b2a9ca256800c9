/- A table, a store: what Place, Eval, Holds answer there. -/
import Derived.Test.YtomnbidppkpfiaaDoorEvSto
import Derived.Test.YtomnbidppkpfiaaDoorPlainKn9
import Derived.Test.YtomnbidppkpfiaaDoorBaseAll
import Derived.Test.YtomnbidppkpfiaaDoorTellsA
namespace Go.Proofs.YtomnbidppkpfiaaDoor.Line
open Go.ChangeShapes Go.WideShapes Go.ChangeAt Go.RowKit
open Ex (E)
open Ev (Sy Res)
set_option linter.unusedVariables false

theorem tab_same (n : Int) : tabN n = Ev.tabN n := rfl
/-- a table in its box, a store -/
structure Rdy (w W : World) (tb : Nat) (sv stv : Value) (c n : Int) (s : List Int) : Prop where
  t0 : W.cell? ⟨tb, 0, none⟩ = some sv
  t1 : W.cell? ⟨tb, 1, none⟩ = some (.int .i64 c)
  syms : Syms W sv (Ev.tabN n)
  ints : Ints W stv s
  old : Below w.heap.size w W
  n1 : 1 ≤ n
  n2 : n ≤ 1000
  few : s.length ≤ 1000000
theorem Rdy.below {w W W' : World} {tb : Nat} {sv stv : Value} {c n : Int} {s : List Int} (h : Rdy w W tb sv stv c n s) (hb : Below W.heap.size W W') : Rdy w W' tb sv stv c n s :=
  ⟨(hb.cell (p := ⟨tb, 0, none⟩) (cell_lt h.t0)).trans h.t0, (hb.cell (p := ⟨tb, 1, none⟩) (cell_lt h.t1)).trans h.t1, h.syms.below hb, h.ints.below hb, bthen h.old hb, h.n1, h.n2, h.few⟩
theorem Rdy.eval {w W : World} {tb : Nat} {sv stv : Value} {c n : Int} {s : List Int} (h : Rdy w W tb sv stv c n s) (x : E) (sx : Value) (hx : Forest W (fun _ => True) x.a sx) (hn : Ev.sz x ≤ 45000) :
    Calls Tryd.prog 11 #[.agg #[sv, .int .i64 c], stv, treeV x sx] W fun e w' => ∃ f, e = .returned (.tuple #[.int .i64 (Ev.ev (Ev.tabN n) s x).v, f]) ∧ Says 0 w' f (Ev.ev (Ev.tabN n) s x).word (Ev.ev (Ev.tabN n) s x).at_ (Ev.ev (Ev.tabN n) s x).err ∧ Below W.heap.size W w' := by
  refine (eval_any W sv c (Ev.tabN n) stv s x sx h.syms (Ev.tabN_fine n h.n1 h.n2) h.ints h.few hx (by omega)).mono ?_
  rintro e w' ⟨f, h1, h2, h3⟩
  exact ⟨f, h1, says_mono h2 (Nat.zero_le _), h3⟩
theorem Rdy.place {w W : World} {tb : Nat} {sv stv : Value} {c n : Int} {s : List Int} (h : Rdy w W tb sv stv c n s) (x : E) (sx : Value) (hx : Forest W (fun _ => True) x.a sx) (hn : Ev.sz x ≤ 45000) :
    Calls Tryd.prog 15 #[.agg #[sv, .int .i64 c], stv, treeV x sx] W fun e w' => ∃ f, e = .returned (.tuple #[.int .i64 (placeP (Ev.tabN n) s x).v, f]) ∧ Says 0 w' f (placeP (Ev.tabN n) s x).word (placeP (Ev.tabN n) s x).at_ (placeP (Ev.tabN n) s x).err ∧ Below W.heap.size W w' := by
  refine (place_any W sv c (Ev.tabN n) stv s x sx h.syms (Ev.tabN_fine n h.n1 h.n2) h.ints h.few hx (by omega)).mono ?_
  rintro e w' ⟨f, h1, h2, h3⟩
  exact ⟨f, h1, says_mono h2 (Nat.zero_le _), h3⟩
theorem Rdy.holds {w W : World} {tb : Nat} {sv stv : Value} {c n : Int} {s : List Int} (h : Rdy w W tb sv stv c n s) (k : Nat) (hk : k < 6) (x y : E) (sx sy : Value) (hx : Forest W (fun _ => True) x.a sx) (hy : Forest W (fun _ => True) y.a sy) (hn : Ev.sz x + Ev.sz y ≤ 45000) :
    Calls Tryd.prog 17 #[.agg #[sv, .int .i64 c], stv, condV (opT k) x sx y sy] W fun e w' => ∃ f, e = .returned (.tuple #[.bool (holdsP (Ev.tabN n) s k x y).1, f]) ∧ Says 0 w' f (holdsP (Ev.tabN n) s k x y).2.word (holdsP (Ev.tabN n) s k x y).2.at_ (holdsP (Ev.tabN n) s k x y).2.err ∧ Below W.heap.size W w' := by
  refine (holds_any W sv c (Ev.tabN n) stv s k hk x y sx sy h.syms (Ev.tabN_fine n h.n1 h.n2) h.ints h.few hx hy (by omega)).mono ?_
  rintro e w' ⟨f, h1, h2, h3⟩
  exact ⟨f, h1, says_mono h2 (Nat.zero_le _), h3⟩
theorem says_ok {B : Nat} {w : World} {f : Value} {word : List UInt8} {k : Nat} (h : Says B w f word k 0) : f = .nilIface := by
  rcases h with ⟨_, h⟩ | ⟨h, _⟩
  · exact h
  · exact absurd rfl h
theorem Rdy.eval_ok {w W : World} {tb : Nat} {sv stv : Value} {c n : Int} {s : List Int} (h : Rdy w W tb sv stv c n s) (x : E) (sx : Value) (hx : Forest W (fun _ => True) x.a sx) (hn : Ev.sz x ≤ 45000) (v : Int) (he : Ev.ev (Ev.tabN n) s x = .ok v) :
    Calls Tryd.prog 11 #[.agg #[sv, .int .i64 c], stv, treeV x sx] W fun e w' => e = .returned (.tuple #[.int .i64 v, .nilIface]) ∧ Below W.heap.size W w' := by
  refine (h.eval x sx hx hn).mono ?_
  rw [he]
  rintro e w' ⟨f, h1, h2, h3⟩
  rw [says_ok h2] at h1
  exact ⟨h1, h3⟩
theorem Rdy.eval_bad {w W : World} {tb : Nat} {sv stv : Value} {c n : Int} {s : List Int} (h : Rdy w W tb sv stv c n s) (x : E) (sx : Value) (hx : Forest W (fun _ => True) x.a sx) (hn : Ev.sz x ≤ 45000) (word : List UInt8) (k er : Nat) (h0 : er ≠ 0) (he : Ev.ev (Ev.tabN n) s x = .bad word k er) :
    Calls Tryd.prog 11 #[.agg #[sv, .int .i64 c], stv, treeV x sx] W fun e w' => ∃ q, e = .returned (.tuple #[.int .i64 0, .iface 73 (.pointer (some ⟨q, 0, none⟩))]) ∧ Says 0 w' (.iface 73 (.pointer (some ⟨q, 0, none⟩))) word k er ∧ Below W.heap.size W w' := by
  refine (h.eval x sx hx hn).mono ?_
  rw [he]
  rintro e w' ⟨f, h1, h2, h3⟩
  have h2' := h2
  rcases h2 with ⟨h9, _⟩ | ⟨_, q, _, rfl, _⟩
  · exact absurd h9 h0
  · exact ⟨q, h1, h2', h3⟩
theorem Rdy.place_ok {w W : World} {tb : Nat} {sv stv : Value} {c n : Int} {s : List Int} (h : Rdy w W tb sv stv c n s) (x : E) (sx : Value) (hx : Forest W (fun _ => True) x.a sx) (hn : Ev.sz x ≤ 45000) (v : Int) (he : placeP (Ev.tabN n) s x = .ok v) :
    Calls Tryd.prog 15 #[.agg #[sv, .int .i64 c], stv, treeV x sx] W fun e w' => e = .returned (.tuple #[.int .i64 v, .nilIface]) ∧ Below W.heap.size W w' := by
  refine (h.place x sx hx hn).mono ?_
  rw [he]
  rintro e w' ⟨f, h1, h2, h3⟩
  rw [says_ok h2] at h1
  exact ⟨h1, h3⟩
theorem Rdy.holds_ok {w W : World} {tb : Nat} {sv stv : Value} {c n : Int} {s : List Int} (h : Rdy w W tb sv stv c n s) (k : Nat) (hk : k < 6) (x y : E) (sx sy : Value) (hx : Forest W (fun _ => True) x.a sx) (hy : Forest W (fun _ => True) y.a sy) (hn : Ev.sz x + Ev.sz y ≤ 45000) (b : Bool) (he : holdsP (Ev.tabN n) s k x y = (b, .ok 0)) :
    Calls Tryd.prog 17 #[.agg #[sv, .int .i64 c], stv, condV (opT k) x sx y sy] W fun e w' => e = .returned (.tuple #[.bool b, .nilIface]) ∧ Below W.heap.size W w' := by
  refine (h.holds k hk x y sx sy hx hy hn).mono ?_
  rw [he]
  rintro e w' ⟨f, h1, h2, h3⟩
  rw [says_ok h2] at h1
  exact ⟨h1, h3⟩
theorem Rdy.holds_bad {w W : World} {tb : Nat} {sv stv : Value} {c n : Int} {s : List Int} (h : Rdy w W tb sv stv c n s) (k : Nat) (hk : k < 6) (x y : E) (sx sy : Value) (hx : Forest W (fun _ => True) x.a sx) (hy : Forest W (fun _ => True) y.a sy) (hn : Ev.sz x + Ev.sz y ≤ 45000) (word : List UInt8) (j er : Nat) (h0 : er ≠ 0) (he : holdsP (Ev.tabN n) s k x y = (false, .bad word j er)) :
    Calls Tryd.prog 17 #[.agg #[sv, .int .i64 c], stv, condV (opT k) x sx y sy] W fun e w' => ∃ q, e = .returned (.tuple #[.bool false, .iface 73 (.pointer (some ⟨q, 0, none⟩))]) ∧ Says 0 w' (.iface 73 (.pointer (some ⟨q, 0, none⟩))) word j er ∧ Below W.heap.size W w' := by
  refine (h.holds k hk x y sx sy hx hy hn).mono ?_
  rw [he]
  rintro e w' ⟨f, h1, h2, h3⟩
  have h2' := h2
  rcases h2 with ⟨h9, _⟩ | ⟨_, q, _, rfl, _⟩
  · exact absurd h9 h0
  · exact ⟨q, h1, h2', h3⟩
/-- a tree in a box of its own -/
theorem At.of_alloc (w : World) (x : E) (sx : Value) (t : TypeId) {q : Nat} (hq : w.heap.size = q) : At (w.alloc (.cells #[.int .i64 x.kind, .int .i64 x.n, .string ⟨x.name.toArray⟩, sx] t)) q 0 x sx := by
  subst hq; exact box_new w x sx t
end Go.Proofs.YtomnbidppkpfiaaDoor.Line
