/- The contracts of eval.compared, Holds. -/
import Derived.Test.YtomnbidppkpfiaaDoorEvTop
namespace Go.Proofs.YtomnbidppkpfiaaDoor.Line
open Go.ChangeShapes Go.WideShapes Go.ChangeAt Go.RowKit
open Ex (E)
open Ev (Sy Res)
set_option linter.unusedVariables false

abbrev CndT : TypeId := 58
abbrev condV (op : List UInt8) (x : E) (sx : Value) (y : E) (sy : Value) : Value := .agg #[.string ⟨op.toArray⟩, .int .i64 x.kind, .int .i64 x.n, .string ⟨x.name.toArray⟩, sx, .int .i64 y.kind, .int .i64 y.n, .string ⟨y.name.toArray⟩, sy]
def opT : Nat → List UInt8
  | 0 => [60]
  | 1 => [60, 61]
  | 2 => [62]
  | 3 => [62, 61]
  | 4 => [61, 61]
  | _ => [47, 61]
def cmpK (k : Nat) (a b : Int) : Bool :=
  match k with
  | 0 => decide (a < b)
  | 1 => decide (a ≤ b)
  | 2 => decide (b < a)
  | 3 => decide (b ≤ a)
  | 4 => a == b
  | _ => a != b
set_option maxHeartbeats 4000000 in
theorem compared_any (w : World) (k : Nat) (hk : k < 6) (a b : Int) : Calls Tryd.prog 28 #[.string ⟨(opT k).toArray⟩, .int .i64 a, .int .i64 b] w fun e w' => e = .returned (.bool (cmpK k a b)) ∧ w' = w := by
  have : k = 0 ∨ k = 1 ∨ k = 2 ∨ k = 3 ∨ k = 4 ∨ k = 5 := by omega
  clear hk
  rcases this with rfl | rfl | rfl | rfl | rfl | rfl
  all_goals
    simp only [opT, cmpK]
    go_enter Tryd.func28, Tryd.ntmps28
    go_wp2
    go_ret
    first | exact ⟨rfl, rfl⟩ | exact ⟨ret_bool (by first | rfl | simp [bne, BEq.comm] | (rw [Bool.eq_iff_iff]; simp; omega)), rfl⟩
/-- what Holds answers -/
def holdsP (T : List Sy) (s : List Int) (k : Nat) (x y : E) : Bool × Res := match Ev.evs T s [x, y] with | .inl r => (false, r) | .inr l => (cmpK k (Ev.nth l 0) (Ev.nth l 1), .ok 0)
set_option maxHeartbeats 8000000 in
set_option maxRecDepth 100000 in
theorem holds_any (w : World) (sv : Value) (c : Int) (T : List Sy) (stv : Value) (s : List Int) (k : Nat) (hk : k < 6) (x y : E) (sx sy : Value) (hs : Syms w sv T) (ht : Ev.Fine T) (hst : Ints w stv s) (hsl : s.length ≤ 1000000) (hx : Forest w (fun _ => True) x.a sx) (hy : Forest w (fun _ => True) y.a sy) (hn : 2 * Ev.sz x + 2 * Ev.sz y ≤ 90000) :
    Calls Tryd.prog 17 #[.agg #[sv, .int .i64 c], stv, condV (opT k) x sx y sy] w fun e w' => ∃ f, e = .returned (.tuple #[.bool (holdsP T s k x y).1, f]) ∧ Says w.heap.size w' f (holdsP T s k x y).2.word (holdsP T s k x y).2.at_ (holdsP T s k x y).2.err ∧ Below w.heap.size w w' := by
  have a1 := alloc_below w (.cells #[sv, .int .i64 c] TbT)
  have z1 : (w.alloc (.cells #[sv, .int .i64 c] TbT)).heap.size = w.heap.size + 1 := by simp
  have a2 := alloc_below (w.alloc (.cells #[sv, .int .i64 c] TbT)) (.cells #[.string ⟨(opT k).toArray⟩, .int .i64 x.kind, .int .i64 x.n, .string ⟨x.name.toArray⟩, sx, .int .i64 y.kind, .int .i64 y.n, .string ⟨y.name.toArray⟩, sy] CndT)
  have b2 := bthen a1 a2
  have z2 : ((w.alloc (.cells #[sv, .int .i64 c] TbT)).alloc (.cells #[.string ⟨(opT k).toArray⟩, .int .i64 x.kind, .int .i64 x.n, .string ⟨x.name.toArray⟩, sx, .int .i64 y.kind, .int .i64 y.n, .string ⟨y.name.toArray⟩, sy] CndT)).heap.size = w.heap.size + 2 := by simp
  have k0 : ((w.alloc (.cells #[sv, .int .i64 c] TbT)).alloc (.cells #[.string ⟨(opT k).toArray⟩, .int .i64 x.kind, .int .i64 x.n, .string ⟨x.name.toArray⟩, sx, .int .i64 y.kind, .int .i64 y.n, .string ⟨y.name.toArray⟩, sy] CndT)).cell? ⟨w.heap.size + 1, 0, none⟩ = some (.string ⟨(opT k).toArray⟩) := by
    have : ∀ (W : World) (h : W.heap.size = w.heap.size + 1) (l : List Value) (v : Value), (W.alloc (.cells (v :: l).toArray CndT)).cell? ⟨w.heap.size + 1, 0, none⟩ = some v := fun W h l v => by rw [← h]; simp
    exact this _ z1 _ _
  have hf2 := forest_two (t := PET) (hx.old b2) (hy.old b2) trivial
  have a3 := alloc_below ((w.alloc (.cells #[sv, .int .i64 c] TbT)).alloc (.cells #[.string ⟨(opT k).toArray⟩, .int .i64 x.kind, .int .i64 x.n, .string ⟨x.name.toArray⟩, sx, .int .i64 y.kind, .int .i64 y.n, .string ⟨y.name.toArray⟩, sy] CndT)) (.cells #[.int .i64 x.kind, .int .i64 x.n, .string ⟨x.name.toArray⟩, sx, .int .i64 y.kind, .int .i64 y.n, .string ⟨y.name.toArray⟩, sy] PET)
  have b3 := bthen b2 a3
  have hvv := values_any _ sv c T stv s _ [x, y] (hs.below b3) ht (hst.below b3) hsl hf2 (by rw [Ev.szs, Ev.szs, Ev.szs]; omega) (by simp)
  have k3 := (a3.cell (p := ⟨w.heap.size + 1, 0, none⟩) (by show w.heap.size + 1 < _; omega)).trans k0
  have HV := hide (hvv.mono (R' := fun e w' => ∃ dv f, e = Ending.returned (.tuple #[dv, f]) ∧ VlsOk (Ev.evs T s [x, y]) w w' dv f ∧ Below w.heap.size w w' ∧ w'.cell? ⟨w.heap.size + 1, 0, none⟩ = some (.string ⟨(opT k).toArray⟩)) (by
    rintro e w' ⟨dv, f, h1, h2, h3⟩
    exact ⟨dv, f, h1, vls_mono h2 b3.size, bthen b3 h3, (h3.cell (p := ⟨w.heap.size + 1, 0, none⟩) (cell_lt k3)).trans k3⟩))
  rw [z2] at HV
  have HL := hide (Ev.evs_len T s [x, y])
  have HR : Hid (holdsP T s k x y = match Ev.evs T s [x, y] with | .inl r => (false, r) | .inr l => (cmpK k (Ev.nth l 0) (Ev.nth l 1), .ok 0)) := hide rfl
  have HCP := hide (fun W a b => compared_any W k hk a b)
  obtain ⟨sa, sc, rfl⟩ := hs.shape
  obtain ⟨ta, tc, rfl⟩ := hst.shape
  obtain ⟨xa, xc, rfl⟩ := hx.shape
  obtain ⟨ya, yc, rfl⟩ := hy.shape
  clear hvv a1 a2 a3 b2 b3 hf2 hs ht hst hx hy z1 z2 k0 k3
  generalize Ev.evs T s [x, y] = RR at *
  generalize holdsP T s k x y = R at *
  generalize opT k = op at *
  generalize hTn : T.length = tn at *
  generalize hsn : s.length = sn at *
  generalize hxn : x.a.length = xn at *
  generalize hyn : y.a.length = yn at *
  go_enter Tryd.func17, Tryd.ntmps17
  go_wp2_with fail
  refine (unhide HV).mono ?_
  rintro ev w5 ⟨dv, f, rfl, hvl, hb5, ho5⟩
  have HB5 := hide hb5
  clear hb5
  cases hRR : RR with
  | inl r =>
    rw [hRR] at hvl HR
    obtain ⟨rfl, h0, hsy⟩ := hvl
    have HR2 : Hid (R = (false, r)) := hide (unhide HR)
    have HS := hide hsy
    clear hRR HR
    rcases hsy with ⟨h9, _⟩ | ⟨_, bb, _, rfl, _, _, _⟩
    · exact absurd h9 h0
    go_wp2_with fail
    go_ret2
    exact ⟨_, by rw [unhide HR2]; rfl, by rw [unhide HR2]; exact unhide HS, unhide HB5⟩
  | inr l =>
    rw [hRR] at hvl HR
    obtain ⟨rfl, hi⟩ := hvl
    have hll := unhide HL l hRR
    have hl2 : l.length = 2 := hll
    have HR2 : Hid (R = (cmpK k (Ev.nth l 0) (Ev.nth l 1), .ok 0)) := hide (unhide HR)
    obtain ⟨ib, io, ic, rfl, h1, h2, hcl⟩ := hi.at (by omega)
    have hl0 : 0 < l.length := by omega
    have hl1 : 1 < l.length := by omega
    have c0 := hcl 0 hl0
    have c1 := hcl 1 hl1
    have e0 := Ev.nth_zero l hl0
    have e1 := Ev.nth_one l hl1
    rw [e0, e1] at HR2
    rw [Nat.add_zero] at c0
    clear hRR hll hcl hi e0 e1 HR HL
    generalize l[0] = a at *
    generalize l[1] = b at *
    rw [hl2] at h1 ⊢
    clear hl2 h2 hl0 hl1
    go_wp2_with fail
    go_quiet ((go_at_call 28; exact Calls.quiet_of_same (unhide HCP _ _ _)))
    go_wp2
    go_ret2
    exact ⟨_, by rw [unhide HR2]; rfl, by rw [unhide HR2]; exact says_none _ _ _ _, below_drewN (unhide HB5) _⟩
end Go.Proofs.YtomnbidppkpfiaaDoor.Line
