/- The contract of the reference's Decimal, of a number that is not below 0.
   The contract of the reference's Eval at sums and products of numbers.
   Rows of numbers and signs (plain): their text in words, how it is read, what it comes to.
   ExprOrder, walked.
   An argument that is a slice of bytes, as ExprOrder's walk takes it. -/
import Derived.Test.YtbpmfkikhackfaaGreatDoorMemB
import Derived.Test.YtbpmfkikhackfaaGreatDoorPlainTokMore
import Derived.Test.YtbpmfkikhackfaaGreatDoorExprRp
import Derived.Deep.RegionHeld3
import Derived.Deep.RegionLaw
import Derived.Deep.DeepCutAuto
import Derived.Test.YtbpmfkikhackfaaGreatDoorPlainExpr
import Derived.Test.YtbpmfkikhackfaaGreatDoorPlainSm
import Derived.Test.YtbpmfkikhackfaaGreatDoorKnAll
import Derived.Lay
import Derived.ChangeSlices
namespace Go.Proofs.YtbpmfkikhackfaaGreatDoor.Line
open Go.ChangeShapes Go.WideShapes Go.ChangeAt Go.RowKit
set_option linter.unusedVariables false

def dg (d : Nat) : UInt8 := UInt8.ofNat (48 + d)
theorem dec_first (n : Nat) : Words.dec n = Words.digs (n / 10) ++ [dg (n % 10)] := by
  unfold Words.dec
  by_cases h : n = 0
  · subst h; rw [if_pos rfl, Nat.zero_div, Words.digs_zero]; rfl
  · rw [if_neg h, Words.digs_pos h]; rfl
theorem dec_next (m : Nat) (s : List UInt8) (h : 10 ≤ m) : Words.digs (m / 10) ++ s = Words.digs (m / 10 / 10) ++ ([dg (m / 10 % 10)] ++ s) := by
  rw [Words.digs_pos (n := m / 10) (by omega), List.append_assoc]; rfl
/-- a byte that was put into a row of one, as a text -/
theorem byte_text (w : World) (d : Nat) (hd : d < 10) (k : Int) (hk : k = 48 + (d : Int)) : (convert 60 9 (.slice (some ⟨w.heap.size, 0, none⟩) 1 1)).run Tryz.prog (w.alloc (.cells #[.int .u8 k] 5)) = .ok (.string ⟨[dg d].toArray⟩) (w.alloc (.cells #[.int .u8 k] 5)) := by
  have := run_convert_bytes_back (P := Tryz.prog) (w.alloc (.cells #[.int .u8 k] 5)) 60 9 5 ⟨w.heap.size, 0, none⟩ 1 [dg d] Tryz.underlying60 Tryz.underlying5 Tryz.underlying9 (fun j hj => by
    obtain rfl : j = 0 := by simpa using hj
    subst hk
    have h1 : (dg d).toNat = 48 + d := Words.dig_toNat d hd
    simp [Addr.add, h1])
  exact this
set_option maxHeartbeats 4000000 in
set_option maxRecDepth 100000 in
theorem decimal_any (n : Nat) (hn : n ≤ 9223372036854775807) (w : World) : Calls Tryz.prog 22 #[.int .i64 n] w fun e w' => e = .returned (.string ⟨(Words.dec n).toArray⟩) ∧ Below w.heap.size w w' := by
  have hd := hide (dec_first n)
  have HLEN : Hid ((Words.dec n).length ≤ 30) := hide (by
    unfold Words.dec
    split
    · decide
    · exact Nat.le_trans (Words.digs_len 20 n (by omega)) (by decide))
  generalize Words.dec n = DN at *
  have g1 : ¬ (n : Int) = -9223372036854775808 := by omega
  have g2 : ¬ (n : Int) < 0 := by omega
  go_enter Tryz.func22, Tryz.ntmps22
  have r1 := byte_text w (n % 10) (by omega) (48 + (n : Int) % 10) (by omega)
  go_wp2_with fail
  have HB := hide (alloc_below w (.cells #[.int .u8 (48 + (n : Int) % 10)] 5))
  generalize w.alloc (.cells #[.int .u8 (48 + (n : Int) % 10)] 5) = W1 at *
  clear r1
  go_loopw [0, 3] (fun x s wr => ∃ (m : Nat) (t : List UInt8), x = .int .i64 m ∧ s = .string ⟨t.toArray⟩ ∧ m ≤ 9223372036854775807 ∧ Hid (DN = Words.digs (m / 10) ++ t ∧ Below w.heap.size w wr)) (fun x _ _ => (intOf x).toNat)
  case atStart => exact ⟨n, [dg (n % 10)], rfl, rfl, hn, hide ⟨unhide hd, unhide HB⟩⟩
  case round =>
    obtain ⟨m, t, rfl, rfl, hm, HI⟩ := hrel
    by_cases hlt : 10 ≤ m
    · have hlt2 : (10 : Int) ≤ m := by omega
      have em : (m : Int) / 10 = ((m / 10 : Nat) : Int) := by omega
      have r2 := byte_text wr (m / 10 % 10) (by omega) (48 + ((m / 10 : Nat) : Int) % 10) (by omega)
      have HB2 := hide (bthen (unhide HI).2 (alloc_below wr (.cells #[.int .u8 (48 + ((m / 10 : Nat) : Int) % 10)] 5)))
      have HD2 := hide ((unhide HI).1.trans (dec_next m t hlt))
      have HL : Hid (t.length ≤ 30) := hide (by
        have h1 := (unhide HI).1
        have h2 := congrArg List.length h1
        have h3 := unhide HLEN
        rw [List.length_append] at h2
        omega)
      have hq : m / 10 ≤ 9223372036854775807 := by omega
      have hq2 : m / 10 < m := by omega
      generalize m / 10 = q at *
      have c2 : (⟨[dg (q % 10)].toArray⟩ : ByteArray) ++ ⟨t.toArray⟩ = ⟨([dg (q % 10)] ++ t).toArray⟩ := cat2 _ _
      have hl : t.length ≤ 30 := unhide HL
      go_wp2_with fail
      go_roundw
      case rel => exact ⟨q, [dg (q % 10)] ++ t, rfl, rfl, hq, hide ⟨unhide HD2, unhide HB2⟩⟩
      case measure => simp [intOf]; omega
    · have hlt2 : ¬ (10 : Int) ≤ m := by omega
      have he := (unhide HI).1
      rw [show m / 10 = 0 by omega, Words.digs_zero, List.nil_append] at he
      subst he
      have HB3 := hide (unhide HI).2
      clear HI
      go_wp2
      go_ret
      exact ⟨rfl, unhide HB3⟩
end Go.Proofs.YtbpmfkikhackfaaGreatDoor.Line

namespace Go.Proofs.YtbpmfkikhackfaaGreatDoor.Line
open Go.ChangeShapes Go.WideShapes Go.ChangeAt Go.RowKit
open Ex (E St)
set_option linter.unusedVariables false

/-- what sums and products of numbers come to, going round at 64 bits -/
inductive Ev : E → Int → Prop
  | num (n : Int) : Ev (.mk 1 n [] []) n
  | add (x y : E) (a b : Int) (hx : Ev x a) (hy : Ev y b) : Ev (.mk 5 0 [] [x, y]) (wrap64 (a + b))
  | sub (x y : E) (a b : Int) (hx : Ev x a) (hy : Ev y b) : Ev (.mk 6 0 [] [x, y]) (wrap64 (a - b))
  | mul (x y : E) (a b : Int) (hx : Ev x a) (hy : Ev y b) : Ev (.mk 7 0 [] [x, y]) (wrap64 (a * b))
abbrev TbT : TypeId := 69
abbrev zWr : Value := .agg #[.slice none 0 0, .int .i64 0]
def EvalOk (x : E) (v : Int) : Prop := ∀ (w : World) (S : Nat → Prop) (sx : Value), Forest w S x.a sx → Calls Tryz.prog 24 #[.agg #[.slice none 0 0, .int .i64 0], .slice none 0 0, treeV x sx] w fun e w' => e = .returned (.tuple #[.int .i64 v, zWr]) ∧ Below w.heap.size w w'
set_option maxHeartbeats 4000000 in
set_option maxRecDepth 100000 in
theorem eval_num (n : Int) : EvalOk (.mk 1 n [] []) n := by
  intro w S sx hx
  obtain ⟨xa, xc, rfl⟩ := hx.shape
  clear hx
  show Calls Tryz.prog 24 #[.agg #[.slice none 0 0, .int .i64 0], .slice none 0 0, .agg #[.int .i64 1, .int .i64 n, .string ⟨#[]⟩, .slice xa 0 xc]] w _
  go_enter Tryz.func24, Tryz.ntmps24
  go_wp2
  exact bodyPost_ret (v := .tuple #[.int .i64 n, zWr]) (by simp [results, Tryz.results24, go_sem]) rfl ⟨rfl, (((Below.refl _ _).alloc (Nat.le_refl _) _).alloc (by simp) _).alloc (by simp; omega) _⟩
theorem box2_at {U w5 : World} {z0 z1 : Value} {t : TypeId} (hb : Below (U.alloc (.cells #[z0, z1] t)).heap.size (U.alloc (.cells #[z0, z1] t)) w5) : w5.cell? ⟨U.heap.size, 0, none⟩ = some z0 ∧ w5.cell? ⟨U.heap.size, 1, none⟩ = some z1 ∧ w5.frozen? ⟨U.heap.size, 0, none⟩ = false ∧ w5.frozen? ⟨U.heap.size, 1, none⟩ = false ∧ U.heap.size < w5.heap.size := by
  have h0 : (U.alloc (.cells #[z0, z1] t)).heap.size = U.heap.size + 1 := by simp
  have hs := hb.size
  have hc : ∀ o, w5.cell? ⟨U.heap.size, o, none⟩ = (U.alloc (.cells #[z0, z1] t)).cell? ⟨U.heap.size, o, none⟩ := fun o => hb.cell (p := ⟨U.heap.size, o, none⟩) (show U.heap.size < _ by omega)
  have hf : ∀ o, w5.frozen? ⟨U.heap.size, o, none⟩ = (U.alloc (.cells #[z0, z1] t)).frozen? ⟨U.heap.size, o, none⟩ := fun o => hb.frozen (p := ⟨U.heap.size, o, none⟩) (show U.heap.size < _ by omega)
  exact ⟨(hc 0).trans (by simp), (hc 1).trans (by simp), (hf 0).trans (by simp), (hf 1).trans (by simp), by omega⟩
theorem drew_below (W : World) : Below W.heap.size W W.drew := below_drewN (Below.refl _ _) 1
theorem box2_drew {W w5 : World} {z0 z1 : Value} {t : TypeId} (hb : Below (W.alloc (.cells #[z0, z1] t)).drew.heap.size (W.alloc (.cells #[z0, z1] t)).drew w5) : w5.cell? ⟨W.heap.size, 0, none⟩ = some z0 ∧ w5.cell? ⟨W.heap.size, 1, none⟩ = some z1 ∧ w5.frozen? ⟨W.heap.size, 0, none⟩ = false ∧ w5.frozen? ⟨W.heap.size, 1, none⟩ = false ∧ W.heap.size < w5.heap.size ∧ Below W.heap.size W w5 := by
  have hb' := bthen (drew_below _) hb
  obtain ⟨h0, h1, h2, h3, h4⟩ := box2_at hb'
  exact ⟨h0, h1, h2, h3, h4, bthen (alloc_below W _) hb'⟩
/-- the three boxes of a call -/
structure EvS (w W : World) (k : Int) (pb po cp : Nat) : Prop where
  t0 : W.cell? ⟨w.heap.size, 0, none⟩ = some (.slice none 0 0)
  t1 : W.cell? ⟨w.heap.size, 1, none⟩ = some (.int .i64 0)
  x0 : W.cell? ⟨w.heap.size + 1, 0, none⟩ = some (.int .i64 k)
  x3 : W.cell? ⟨w.heap.size + 1, 3, none⟩ = some (.slice (some ⟨pb, po, none⟩) 2 cp)
  r0 : W.cell? ⟨w.heap.size + 1 + 1, 0, none⟩ = some (.slice none 0 0)
  r1 : W.cell? ⟨w.heap.size + 1 + 1, 1, none⟩ = some (.int .i64 0)
  f0 : W.frozen? ⟨w.heap.size + 1 + 1, 0, none⟩ = false
  f1 : W.frozen? ⟨w.heap.size + 1 + 1, 1, none⟩ = false
  old : Below w.heap.size w W
  sz : w.heap.size + 1 + 1 < W.heap.size
theorem evS_start (w : World) (k : Int) (pb po cp : Nat) : EvS w (((w.alloc (.cells #[.slice none 0 0, .int .i64 0] 69)).alloc (.cells #[.int .i64 k, .int .i64 0, .string ⟨#[]⟩, .slice (some ⟨pb, po, none⟩) 2 cp] 40)).alloc (.cells #[.slice none 0 0, .int .i64 0] 26)) k pb po cp := by
  refine ⟨?_, ?_, ?_, ?_, ?_, ?_, ?_, ?_, (((Below.refl _ _).alloc (Nat.le_refl _) _).alloc (by simp) _).alloc (by simp; omega) _, by simp⟩ <;> simp [go_sem]
theorem EvS.below {w W W' : World} {k : Int} {pb po cp : Nat} (h : EvS w W k pb po cp) (hb : Below W.heap.size W W') : EvS w W' k pb po cp := by
  have hs := h.sz
  have hc : ∀ {b o : Nat} {v : Value}, W.cell? ⟨b, o, none⟩ = some v → W'.cell? ⟨b, o, none⟩ = some v := fun {b o v} h => (hb.cell (p := ⟨b, o, none⟩) (cell_lt h)).trans h
  have hf : ∀ o, W'.frozen? ⟨w.heap.size + 1 + 1, o, none⟩ = W.frozen? ⟨w.heap.size + 1 + 1, o, none⟩ := fun o => hb.frozen (p := ⟨w.heap.size + 1 + 1, o, none⟩) hs
  exact ⟨hc h.t0, hc h.t1, hc h.x0, hc h.x3, hc h.r0, hc h.r1, (hf 0).trans h.f0, (hf 1).trans h.f1, bthen h.old hb, Nat.lt_of_lt_of_le hs hb.size⟩
theorem ev_two {w : World} {x : E} {sl : Value} {a : Int} (W1 : World) (HX : ∀ W, Hid (Below w.heap.size w W) → Calls Tryz.prog 24 #[.agg #[.slice none 0 0, .int .i64 0], .slice none 0 0, treeV x sl] W fun e w' => e = .returned (.tuple #[.int .i64 a, zWr]) ∧ Below W.heap.size W w') (ho : Below w.heap.size w W1) :
    Hid (Calls Tryz.prog 24 #[.agg #[.slice none 0 0, .int .i64 0], .slice none 0 0, treeV x sl] W1.drew fun e w' => e = .returned (.tuple #[.int .i64 a, zWr]) ∧ Below W1.heap.size W1 w') ∧
    Hid (∀ z0 z1 t, Calls Tryz.prog 24 #[.agg #[.slice none 0 0, .int .i64 0], .slice none 0 0, treeV x sl] (W1.alloc (.cells #[z0, z1] t)).drew fun e w' => e = .returned (.tuple #[.int .i64 a, zWr]) ∧ w'.cell? ⟨W1.heap.size, 0, none⟩ = some z0 ∧ w'.cell? ⟨W1.heap.size, 1, none⟩ = some z1 ∧ w'.frozen? ⟨W1.heap.size, 0, none⟩ = false ∧ w'.frozen? ⟨W1.heap.size, 1, none⟩ = false ∧ W1.heap.size < w'.heap.size ∧ Below W1.heap.size W1 w') :=
  ⟨hide ((HX _ (hide (bthen ho (drew_below W1)))).mono (fun _ _ h => ⟨h.1, bthen (drew_below W1) h.2⟩)), hide (fun _ _ _ => (HX _ (hide (bthen (bthen ho (alloc_below W1 _)) (drew_below _)))).mono (fun _ _ h => ⟨h.1, box2_drew h.2⟩))⟩
theorem ev_set {w5 : World} {B : Nat} {u v z : Value} (h : w5.cell? ⟨B, 1, none⟩ = some z) : ((w5.setCell ⟨B, 0, none⟩ u).setCell ⟨B, 1, none⟩ v).cell? ⟨B, 1, none⟩ = some v := by
  exact World.cell?_setCell_same' _ _ _ (by rw [World.cell?_setCell_other w5 ⟨B, 0, none⟩ ⟨B, 1, none⟩ u (by intro h; cases h), h]; rfl)
set_option maxHeartbeats 4000000 in
set_option maxRecDepth 100000 in
theorem eval_op (k : Int) (x y : E) (a b v : Int) (hk : k = 5 ∧ v = wrap64 (a + b) ∨ k = 6 ∧ v = wrap64 (a - b) ∨ k = 7 ∧ v = wrap64 (a * b)) (hx : EvalOk x a) (hy : EvalOk y b) : EvalOk (.mk k 0 [] [x, y]) v := by
  intro w S sx hf
  obtain ⟨pb, po, cp, sl, rfl, hcap, hmax, hcell, hfor⟩ := hf.at (by show 0 < 2; decide)
  change 2 ≤ cp at hcap
  obtain ⟨d0, d1, d2, d3⟩ := hcell 0 (by show 0 < 2; decide)
  obtain ⟨e0, e1, e2, e3⟩ := hcell 1 (by show 1 < 2; decide)
  have hf0 := hfor 0 (by show 0 < 2; decide)
  have hf1 := hfor 1 (by show 1 < 2; decide)
  change Forest w S x.a (sl 0) at hf0
  change Forest w S y.a (sl 1) at hf1
  generalize sl 0 = sx at *
  generalize sl 1 = sy at *
  obtain ⟨xa, xc, hsx⟩ := hf0.shape
  obtain ⟨ya, yc, hsy⟩ := hf1.shape
  change w.cell? ⟨pb, po, none⟩ = some (.int .i64 x.kind) at d0
  change w.cell? ⟨pb, po + 1, none⟩ = some (.int .i64 x.n) at d1
  change w.cell? ⟨pb, po + 2, none⟩ = some (.string ⟨x.name.toArray⟩) at d2
  change w.cell? ⟨pb, po + 3, none⟩ = some sx at d3
  change w.cell? ⟨pb, po + 4, none⟩ = some (.int .i64 y.kind) at e0
  change w.cell? ⟨pb, po + 4 + 1, none⟩ = some (.int .i64 y.n) at e1
  change w.cell? ⟨pb, po + 4 + 2, none⟩ = some (.string ⟨y.name.toArray⟩) at e2
  change w.cell? ⟨pb, po + 4 + 3, none⟩ = some sy at e3
  generalize hxl : x.a.length = xl at *
  generalize hyl : y.a.length = yl at *
  subst hsx hsy
  have HX : Hid (∀ W, Hid (Below w.heap.size w W) → Calls Tryz.prog 24 #[.agg #[.slice none 0 0, .int .i64 0], .slice none 0 0, treeV x (.slice xa xl xc)] W fun e w' => e = .returned (.tuple #[.int .i64 a, zWr]) ∧ Below W.heap.size W w') := hide (fun W h => hx W S _ (hf0.old (unhide h)))
  have HY : Hid (∀ W, Hid (Below w.heap.size w W) → Calls Tryz.prog 24 #[.agg #[.slice none 0 0, .int .i64 0], .slice none 0 0, treeV y (.slice ya yl yc)] W fun e w' => e = .returned (.tuple #[.int .i64 b, zWr]) ∧ Below W.heap.size W w') := hide (fun W h => hy W S _ (hf1.old (unhide h)))
  have hpl := cell_lt d0
  have HD : Hid (w.cell? ⟨pb, po, none⟩ = some (.int .i64 x.kind) ∧ w.cell? ⟨pb, po + 1, none⟩ = some (.int .i64 x.n) ∧ w.cell? ⟨pb, po + 2, none⟩ = some (.string ⟨x.name.toArray⟩) ∧ w.cell? ⟨pb, po + 3, none⟩ = some (.slice xa xl xc) ∧ w.cell? ⟨pb, po + 4, none⟩ = some (.int .i64 y.kind) ∧ w.cell? ⟨pb, po + 4 + 1, none⟩ = some (.int .i64 y.n) ∧ w.cell? ⟨pb, po + 4 + 2, none⟩ = some (.string ⟨y.name.toArray⟩) ∧ w.cell? ⟨pb, po + 4 + 3, none⟩ = some (.slice ya yl yc)) := hide ⟨d0, d1, d2, d3, e0, e1, e2, e3⟩
  clear hx hy hf hf0 hf1 hcell hfor hxl hyl d0 d1 d2 d3 e0 e1 e2 e3
  have k1 : ¬ k = 1 := by omega
  have k2 : ¬ k = 2 := by omega
  have k3 : ¬ k = 3 := by omega
  have k4 : ¬ k = 4 := by omega
  have kb1 : (k == 1) = false := beq_eq_false_iff_ne.2 k1
  have kb2 : (k == 2) = false := beq_eq_false_iff_ne.2 k2
  have kb3 : (k == 3) = false := beq_eq_false_iff_ne.2 k3
  have kb4 : (k == 4) = false := beq_eq_false_iff_ne.2 k4
  show Calls Tryz.prog 24 #[.agg #[.slice none 0 0, .int .i64 0], .slice none 0 0, .agg #[.int .i64 k, .int .i64 0, .string ⟨#[]⟩, .slice (some ⟨pb, po, none⟩) 2 cp]] w _
  have HS : Hid (∀ W, W = ((w.alloc (.cells #[.slice none 0 0, .int .i64 0] 69)).alloc (.cells #[.int .i64 k, .int .i64 0, .string ⟨#[]⟩, .slice (some ⟨pb, po, none⟩) 2 cp] 40)).alloc (.cells #[.slice none 0 0, .int .i64 0] 26) → EvS w W k pb po cp) := hide (by rintro W rfl; exact evS_start w k pb po cp)
  go_enter Tryz.func24, Tryz.ntmps24
  go_wp2_with fail
  have hS := unhide HS _ rfl
  generalize ((w.alloc (.cells #[.slice none 0 0, .int .i64 0] 69)).alloc (.cells #[.int .i64 k, .int .i64 0, .string ⟨#[]⟩, .slice (some ⟨pb, po, none⟩) 2 cp] 40)).alloc (.cells #[.slice none 0 0, .int .i64 0] 26) = W1 at *
  clear HS
  have HS1 := hide hS
  clear hS
  go_cut [10, 11] (fun s10 s11 wx => s10 = .int .i64 a ∧ ∃ q, s11 = .pointer (some ⟨q, 0, none⟩) ∧ wx.cell? ⟨q, 1, none⟩ = some (.int .i64 0) ∧ Hid (EvS w wx k pb po cp))
  case first =>
    have hdc : ∀ {o : Nat} {u : Value}, w.cell? ⟨pb, o, none⟩ = some u → W1.cell? ⟨pb, o, none⟩ = some u := fun {o u} h => ((unhide HS1).old.cell (p := ⟨pb, o, none⟩) (cell_lt h)).trans h
    obtain ⟨d0, d1, d2, d3, -, -, -, -⟩ := unhide HD
    replace d0 := hdc d0
    replace d1 := hdc d1
    replace d2 := hdc d2
    replace d3 := hdc d3
    have hp1 : pb < W1.heap.size := cell_lt d0
    obtain ⟨t0, t1, -, x3, -, -, -, -, ho, hz⟩ := unhide HS1
    have hz0 : w.heap.size < W1.heap.size := by omega
    have hz1 : w.heap.size + 1 < W1.heap.size := by omega
    obtain ⟨HXa, HXb⟩ := ev_two W1 (unhide HX) ho
    clear ho hdc
    go_region_law (first
      | (go_simp; go_at_call 24; with_reducible refine (unhide HXa).mono ?_; rintro ev w5 ⟨rfl, hb6⟩; replace hb6 := hide hb6; dsimp only)
      | (go_simp; go_at_call 24; with_reducible refine (unhide HXb _ _ _).mono ?_; rintro ev w5 ⟨rfl, q0, q1, q2, q3, q4, hb6⟩; replace hb6 := hide hb6; dsimp only))
    all_goals (
      go_wp2_with fail
      go_meet
      case rel => first
        | exact ⟨rfl, w5.heap.size, rfl, by simp, hide ((unhide HS1).below (bthen (unhide hb6) (alloc_below w5 _)))⟩
        | exact ⟨rfl, W1.heap.size, rfl, ev_set q1, hide ((unhide HS1).below (((unhide hb6).setCell (p := ⟨W1.heap.size, 0, none⟩) (Nat.le_refl _) _).setCell (p := ⟨W1.heap.size, 1, none⟩) (Nat.le_refl _) _))⟩)
  case rest =>
    obtain ⟨rfl, q, rfl, hq1, HS2⟩ := hcut
    clear HS1
    have x0 := (unhide HS2).x0
    go_upto_region 15 with fail
    generalize wc = W2 at *
    clear x0 hq1
    go_cut [12, 13] (fun s12 s13 wx => s12 = .int .i64 b ∧ ∃ q, s13 = .pointer (some ⟨q, 0, none⟩) ∧ wx.cell? ⟨q, 1, none⟩ = some (.int .i64 0) ∧ Hid (EvS w wx k pb po cp))
    case first =>
      have hdc : ∀ {o : Nat} {u : Value}, w.cell? ⟨pb, o, none⟩ = some u → W2.cell? ⟨pb, o, none⟩ = some u := fun {o u} h => ((unhide HS2).old.cell (p := ⟨pb, o, none⟩) (cell_lt h)).trans h
      obtain ⟨-, -, -, -, d0, d1, d2, d3⟩ := unhide HD
      replace d0 := hdc d0
      replace d1 := hdc d1
      replace d2 := hdc d2
      replace d3 := hdc d3
      have hp1 : pb < W2.heap.size := cell_lt d0
      obtain ⟨t0, t1, -, x3, -, -, -, -, ho, hz⟩ := unhide HS2
      have hz0 : w.heap.size < W2.heap.size := by omega
      have hz1 : w.heap.size + 1 < W2.heap.size := by omega
      obtain ⟨HXa, HXb⟩ := ev_two W2 (unhide HY) ho
      clear ho hdc
      go_region_law (first
        | (go_simp; go_at_call 24; with_reducible refine (unhide HXa).mono ?_; rintro ev w5 ⟨rfl, hb6⟩; replace hb6 := hide hb6; dsimp only)
        | (go_simp; go_at_call 24; with_reducible refine (unhide HXb _ _ _).mono ?_; rintro ev w5 ⟨rfl, q0, q1, q2, q3, q4, hb6⟩; replace hb6 := hide hb6; dsimp only))
      all_goals (
        go_wp2_with fail
        go_meet
        case rel => first
          | exact ⟨rfl, w5.heap.size, rfl, by simp, hide ((unhide HS2).below (bthen (unhide hb6) (alloc_below w5 _)))⟩
          | exact ⟨rfl, W2.heap.size, rfl, ev_set q1, hide ((unhide HS2).below (((unhide hb6).setCell (p := ⟨W2.heap.size, 0, none⟩) (Nat.le_refl _) _).setCell (p := ⟨W2.heap.size, 1, none⟩) (Nat.le_refl _) _))⟩)
    case rest =>
      obtain ⟨rfl, q5, rfl, hq5, HS3⟩ := hcut
      obtain ⟨-, -, x0, -, r0, r1, f0, f1, ho, hz⟩ := unhide HS3
      clear HS2
      have he : Below w.heap.size w ((wc.setCell ⟨w.heap.size + 1 + 1, 0, none⟩ (.slice none 0 0)).setCell ⟨w.heap.size + 1 + 1, 1, none⟩ (.int .i64 0)) := (ho.setCell (p := ⟨w.heap.size + 1 + 1, 0, none⟩) (show w.heap.size ≤ w.heap.size + 1 + 1 by omega) _).setCell (p := ⟨w.heap.size + 1 + 1, 1, none⟩) (show w.heap.size ≤ w.heap.size + 1 + 1 by omega) _
      have HE := hide he
      clear he ho
      rcases hk with ⟨rfl, rfl⟩ | ⟨rfl, rfl⟩ | ⟨rfl, rfl⟩
      · go_wp2
        exact bodyPost_ret (v := .tuple #[.int .i64 (wrap64 (a + b)), zWr]) (by simp [results, Tryz.results24, go_sem, r0, r1]) rfl ⟨rfl, unhide HE⟩
      · go_wp2
        exact bodyPost_ret (v := .tuple #[.int .i64 (wrap64 (a - b)), zWr]) (by simp [results, Tryz.results24, go_sem, r0, r1]) rfl ⟨rfl, unhide HE⟩
      · go_wp2
        exact bodyPost_ret (v := .tuple #[.int .i64 (wrap64 (a * b)), zWr]) (by simp [results, Tryz.results24, go_sem, r0, r1]) rfl ⟨rfl, unhide HE⟩
theorem eval_any {x : E} {v : Int} (h : Ev x v) : EvalOk x v := by
  induction h with
  | num n => exact eval_num n
  | add x y a b _ _ ihx ihy => exact eval_op 5 x y a b _ (.inl ⟨rfl, rfl⟩) ihx ihy
  | sub x y a b _ _ ihx ihy => exact eval_op 6 x y a b _ (.inr (.inl ⟨rfl, rfl⟩)) ihx ihy
  | mul x y a b _ _ ihx ihy => exact eval_op 7 x y a b _ (.inr (.inr ⟨rfl, rfl⟩)) ihx ihy
end Go.Proofs.YtbpmfkikhackfaaGreatDoor.Line

namespace Go.Proofs.YtbpmfkikhackfaaGreatDoor.Line
open Go.RowKit
open Ex (E St)
open Words (T)
set_option linter.unusedVariables false

theorem dec_all (n : Nat) : ∀ c ∈ Words.dec n, Words.digitB c = true := by
  unfold Words.dec
  split
  · intro c hc; obtain rfl := List.mem_singleton.1 hc; decide
  · exact Words.digs_all n
theorem dec_num (n : Nat) : Words.num (Words.dec n) = n := by
  unfold Words.dec
  split
  · rename_i h; subst h; decide
  · exact Words.num_digs n
theorem dec_ne (n : Nat) : Words.dec n ≠ [] := by
  unfold Words.dec
  split
  · simp
  · rename_i h; rw [Words.digs_pos h]; simp
theorem step_dec (n : Nat) (r : List UInt8) (hn : n ≤ Words.big) (hr : Words.headIs Words.digitB r = false) (hl : Words.headIs Words.letterB r = false) : Words.step (Words.dec n ++ r) = .tok 2 n (Words.dec n).length := by
  have h0 := dec_ne n
  have ha := dec_all n
  have hnum := dec_num n
  generalize Words.dec n = d at *
  cases d with
  | nil => exact absurd rfl h0
  | cons c e =>
    have hc := ha c (List.mem_cons_self ..)
    obtain ⟨h1, h2⟩ := Words.digit_not c hc
    have hw : (c :: e ++ r).takeWhile Words.digitB = c :: e := Words.takeWhile_stop (Words.takeWhile_all ha) hr
    unfold Words.step
    rw [show Words.headIs Words.blankB (c :: e ++ r) = false from h1, show Words.headIs Words.letterB (c :: e ++ r) = false from h2, show Words.headIs Words.digitB (c :: e ++ r) = true from hc, if_neg (by decide), if_neg (by decide), if_pos rfl, hw, hnum, if_neg (by omega), List.drop_left, hl, if_neg (by decide)]
def sgO (b : Nat) : List UInt8 := if b % 4 = 0 then [32, 43, 32] else if b % 4 = 1 then [32, 45, 32] else [42]
def cO (b : Nat) : List UInt8 := if b % 4 = 0 then [43] else if b % 4 = 1 then [45] else [42]
def txO : List Nat → List UInt8
  | [] => []
  | b :: r => sgO b ++ (Words.dec (b / 4) ++ txO r)
inductive TokO : List Nat → List T → Prop
  | nil : TokO [] []
  | cons (b : Nat) (r : List Nat) (t u : T) (l : List T) (h1 : t.kind = 3) (h2 : t.text = cO b) (h3 : u.kind = 2) (h4 : u.n = b / 4) (h : TokO r l) : TokO (b :: r) (t :: u :: l)
theorem txO_head (l : List Nat) : Words.headIs Words.digitB (txO l) = false ∧ Words.headIs Words.letterB (txO l) = false := by
  cases l with
  | nil => exact ⟨rfl, rfl⟩
  | cons b r =>
    show Words.headIs Words.digitB (sgO b ++ _) = false ∧ Words.headIs Words.letterB (sgO b ++ _) = false
    unfold sgO
    split
    · exact ⟨rfl, rfl⟩
    · split
      · exact ⟨rfl, rfl⟩
      · exact ⟨rfl, rfl⟩
theorem scan_num (n : Nat) (r : List Nat) (p : Nat) (hn : n ≤ Words.big) (ih : ∀ p, ∃ L, Words.scan (txO r).length (txO r) p = (L, 0, 0) ∧ TokO r L) : ∃ u L, Words.scan (Words.dec n ++ txO r).length (Words.dec n ++ txO r) p = (u :: L, 0, 0) ∧ u.kind = 2 ∧ u.n = n ∧ TokO r L := by
  obtain ⟨h1, h2⟩ := txO_head r
  have hs := step_dec n (txO r) hn h1 h2
  obtain ⟨L, e, hL⟩ := ih (p + (Words.dec n).length)
  refine ⟨⟨2, Words.dec n, p, n⟩, L, ?_, rfl, rfl, hL⟩
  rw [Words.scan_step hs, List.drop_left, List.take_left, e]
  rfl
theorem step_sign (c : UInt8) (X : List UInt8) (h : c = 43 ∨ c = 45 ∨ c = 42) : Words.step (c :: X) = .tok 3 0 1 := by
  rcases h with rfl | rfl | rfl <;> rfl
theorem scan_sign (c : UInt8) (X : List UInt8) (p : Nat) (h : c = 43 ∨ c = 45 ∨ c = 42) : Words.scan (c :: X).length (c :: X) p = Words.also [⟨3, [c], p, 0⟩] (Words.scan X.length X (p + 1)) := by
  rw [Words.scan_step (step_sign c X h)]
  rfl
theorem scan_blank1 (X : List UInt8) (p : Nat) : Words.scan (32 :: X).length (32 :: X) p = Words.scan X.length X (p + 1) := Words.scan_blanks [32] X (by intro c hc; obtain rfl := List.mem_singleton.1 hc; decide) p
theorem scan_txO : ∀ (l : List Nat), (∀ b ∈ l, b < 256) → ∀ p, ∃ L, Words.scan (txO l).length (txO l) p = (L, 0, 0) ∧ TokO l L := by
  intro l
  induction l with
  | nil => intro _ p; exact ⟨[], rfl, .nil⟩
  | cons b r ih =>
    intro hb p
    have hb0 := hb b (List.mem_cons_self ..)
    have ih' := ih (fun x hx => hb x (List.mem_cons_of_mem _ hx))
    have hbig : b / 4 ≤ Words.big := by unfold Words.big; omega
    by_cases h0 : b % 4 = 0
    · obtain ⟨u, L, e, k1, k2, hL⟩ := scan_num (b / 4) r (p + 1 + 1 + 1) hbig ih'
      have et : txO (b :: r) = 32 :: 43 :: 32 :: (Words.dec (b / 4) ++ txO r) := by show sgO b ++ _ = _; unfold sgO; rw [if_pos h0]; rfl
      refine ⟨⟨3, [43], p + 1, 0⟩ :: u :: L, ?_, .cons _ _ _ _ _ rfl (by unfold cO; rw [if_pos h0]) k1 k2 hL⟩
      rw [et, scan_blank1, scan_sign 43 _ _ (.inl rfl), scan_blank1, e]
      rfl
    · by_cases h1 : b % 4 = 1
      · obtain ⟨u, L, e, k1, k2, hL⟩ := scan_num (b / 4) r (p + 1 + 1 + 1) hbig ih'
        have et : txO (b :: r) = 32 :: 45 :: 32 :: (Words.dec (b / 4) ++ txO r) := by show sgO b ++ _ = _; unfold sgO; rw [if_neg h0, if_pos h1]; rfl
        refine ⟨⟨3, [45], p + 1, 0⟩ :: u :: L, ?_, .cons _ _ _ _ _ rfl (by unfold cO; rw [if_neg h0, if_pos h1]) k1 k2 hL⟩
        rw [et, scan_blank1, scan_sign 45 _ _ (.inr (.inl rfl)), scan_blank1, e]
        rfl
      · obtain ⟨u, L, e, k1, k2, hL⟩ := scan_num (b / 4) r (p + 1) hbig ih'
        have et : txO (b :: r) = 42 :: (Words.dec (b / 4) ++ txO r) := by show sgO b ++ _ = _; unfold sgO; rw [if_neg h0, if_neg h1]; rfl
        refine ⟨⟨3, [42], p, 0⟩ :: u :: L, ?_, .cons _ _ _ _ _ rfl (by unfold cO; rw [if_neg h0, if_neg h1]) k1 k2 hL⟩
        rw [et, scan_sign 42 _ _ (.inr (.inr rfl)), e]
        rfl
theorem toks_txO (b : Nat) (r : List Nat) (h : ∀ x ∈ b :: r, x < 256) : ∃ u L, Words.toks (Words.dec (b / 4) ++ txO r) = (u :: L, 0, 0) ∧ u.kind = 2 ∧ u.n = b / 4 ∧ TokO r L := by
  have hb := h b (List.mem_cons_self ..)
  obtain ⟨u, L, e, h1, h2, h3⟩ := scan_num (b / 4) r 0 (by unfold Words.big; omega) (scan_txO r (fun x hx => h x (List.mem_cons_of_mem _ hx)))
  refine ⟨u, L, ?_, h1, h2, h3⟩
  unfold Words.toks Words.scanAt
  rw [List.drop_zero, Nat.sub_zero]
  exact e
/-- the tree so far, with what stands ahead of the term -/
def closeO : Option (Int × E) → E → E
  | none, t => t
  | some (k, a), t => .mk k 0 [] [a, t]
def goO : List Nat → Option (Int × E) → E → E
  | [], acc, t => closeO acc t
  | b :: r, acc, t => if b % 4 = 0 then goO r (some (5, closeO acc t)) (.mk 1 (b / 4 : Nat) [] []) else if b % 4 = 1 then goO r (some (6, closeO acc t)) (.mk 1 (b / 4 : Nat) [] []) else goO r acc (.mk 7 0 [] [t, .mk 1 (b / 4 : Nat) [] []])
theorem sign_at (pre l : List T) (t : T) (c : List UInt8) (h1 : t.kind = 3) : Ex.isSign (pre ++ t :: l) ⟨pre.length, 0, 0⟩ c = decide (t.text = c) := by
  simp [Ex.isSign, h1]
theorem sign_out (pre : List T) (c : List UInt8) : Ex.isSign pre ⟨pre.length, 0, 0⟩ c = false := by
  simp [Ex.isSign]
theorem fac_at (pre l : List T) (t u : T) (h3 : u.kind = 2) (k : Nat) (h4 : u.n = k) : Ex.RFactor (pre ++ t :: u :: l) 0 (St.next ⟨pre.length, 0, 0⟩) (.mk 1 k [] [], ⟨(pre ++ [t, u]).length, 0, 0⟩) := by
  have hlt : (St.next ⟨pre.length, 0, 0⟩).pos < (pre ++ t :: u :: l).length := by show pre.length + 1 < _; simp
  have hg : (pre ++ t :: u :: l)[(St.next ⟨pre.length, 0, 0⟩).pos] = u := by
    have : (pre ++ t :: u :: l)[pre.length + 1]? = some u := by rw [List.getElem?_append_right (by omega)]; simp
    exact (List.getElem?_eq_some_iff.1 this).2
  have := Ex.rFactor_num (l := pre ++ t :: u :: l) (d := 0) (s := St.next ⟨pre.length, 0, 0⟩) rfl hlt (by rw [hg]; exact h3)
  rw [hg, h4] at this
  have e : St.next (St.next ⟨pre.length, 0, 0⟩) = ⟨(pre ++ [t, u]).length, 0, 0⟩ := by simp [St.next]
  rw [e] at this
  exact this
theorem readO : ∀ (r : List Nat) (l : List T), TokO r l → ∀ (pre : List T) (t : E), ∃ t' s', Ex.RProds (pre ++ l) 0 t ⟨pre.length, 0, 0⟩ (t', s') ∧ ∀ acc, Ex.RSums (pre ++ l) 0 (closeO acc t') s' (goO r acc t, ⟨(pre ++ l).length, 0, 0⟩) := by
  intro r l h
  induction h with
  | nil =>
    intro pre t
    rw [List.append_nil]
    exact ⟨t, _, Ex.rProds_end (sign_out pre _) (sign_out pre _), fun acc => Ex.rSums_end (sign_out pre _) (sign_out pre _)⟩
  | cons b r tk u l h1 h2 h3 h4 h ih =>
    intro pre t
    have hf := fac_at pre l tk u h3 (b / 4) h4
    have ea : pre ++ tk :: u :: l = (pre ++ [tk, u]) ++ l := by simp
    have sg : ∀ c, Ex.isSign (pre ++ tk :: u :: l) ⟨pre.length, 0, 0⟩ c = decide (cO b = c) := fun c => by rw [sign_at _ _ _ _ h1, h2]
    by_cases h0 : b % 4 = 0
    · have hc : cO b = [43] := by unfold cO; rw [if_pos h0]
      obtain ⟨t2, s2, hp, hs⟩ := ih (pre ++ [tk, u]) (.mk 1 (b / 4 : Nat) [] [])
      rw [← ea] at hp hs
      refine ⟨t, _, Ex.rProds_end (by rw [sg, hc]; decide) (by rw [sg, hc]; decide), fun acc => ?_⟩
      have := hs (some (5, closeO acc t))
      rw [show goO (b :: r) acc t = goO r (some (5, closeO acc t)) (.mk 1 (b / 4 : Nat) [] []) by show (if _ then _ else _) = _; rw [if_pos h0]]
      exact Ex.rSums_add (by rw [sg, hc]; decide) (Ex.rTerm hf hp) this
    · by_cases h01 : b % 4 = 1
      · have hc : cO b = [45] := by unfold cO; rw [if_neg h0, if_pos h01]
        obtain ⟨t2, s2, hp, hs⟩ := ih (pre ++ [tk, u]) (.mk 1 (b / 4 : Nat) [] [])
        rw [← ea] at hp hs
        refine ⟨t, _, Ex.rProds_end (by rw [sg, hc]; decide) (by rw [sg, hc]; decide), fun acc => ?_⟩
        have := hs (some (6, closeO acc t))
        rw [show goO (b :: r) acc t = goO r (some (6, closeO acc t)) (.mk 1 (b / 4 : Nat) [] []) by show (if _ then _ else _) = _; rw [if_neg h0, if_pos h01]]
        exact Ex.rSums_sub (by rw [sg, hc]; decide) (by rw [sg, hc]; decide) (Ex.rTerm hf hp) this
      · have hc : cO b = [42] := by unfold cO; rw [if_neg h0, if_neg h01]
        obtain ⟨t2, s2, hp, hs⟩ := ih (pre ++ [tk, u]) (.mk 7 0 [] [t, .mk 1 (b / 4 : Nat) [] []])
        rw [← ea] at hp hs
        refine ⟨t2, s2, Ex.rProds_mul (by rw [sg, hc]; decide) hf hp, fun acc => ?_⟩
        rw [show goO (b :: r) acc t = goO r acc (.mk 7 0 [] [t, .mk 1 (b / 4 : Nat) [] []]) by show (if _ then _ else _) = _; rw [if_neg h0, if_neg h01]]
        exact hs acc
theorem read_txO (b : Nat) (r : List Nat) (u : T) (L : List T) (h1 : u.kind = 2) (h2 : u.n = b / 4) (h : TokO r L) : Ex.RExpr (u :: L) 0 ⟨0, 0, 0⟩ (goO r none (.mk 1 (b / 4 : Nat) [] []), ⟨(u :: L).length, 0, 0⟩) := by
  obtain ⟨t', s', hp, hs⟩ := readO r L h [u] (.mk 1 (b / 4 : Nat) [] [])
  have hf : Ex.RFactor (u :: L) 0 ⟨0, 0, 0⟩ (.mk 1 (b / 4 : Nat) [] [], ⟨1, 0, 0⟩) := by
    have := Ex.rFactor_num (l := u :: L) (d := 0) (s := ⟨0, 0, 0⟩) rfl (by simp) h1
    rw [show (u :: L)[(⟨0, 0, 0⟩ : St).pos].n = b / 4 from h2] at this
    exact this
  exact Ex.rExpr (Ex.rTerm hf hp) (hs none)
theorem num_sm (n : Int) : Ex.Sm (.mk 1 n [] []) := .mk _ (by simp [E.a]) (fun y hy => by simp [E.a] at hy)
theorem two_sm (k : Int) {x y : E} (hx : Ex.Sm x) (hy : Ex.Sm y) : Ex.Sm (.mk k 0 [] [x, y]) := .mk _ (by simp [E.a]) (fun z hz => by
  simp only [E.a, List.mem_cons, List.not_mem_nil, or_false] at hz
  rcases hz with rfl | rfl
  · exact hx
  · exact hy)
theorem wrap64_id (n : Int) (h1 : -9223372036854775808 ≤ n) (h2 : n ≤ 9223372036854775807) : wrap64 n = n := by unfold wrap64; omega
theorem wrap64_rng (n : Int) : -9223372036854775808 ≤ wrap64 n ∧ wrap64 n ≤ 9223372036854775807 := by unfold wrap64; omega
/-- what the law reckons beside: the sum so far, the sign and the number of the term -/
def AccO (acc : Option (Int × E)) (sm sg : Int) : Prop := (acc = none ∧ sm = 0 ∧ sg = 1) ∨ (∃ a, acc = some (5, a) ∧ Ev a sm ∧ sg = 1) ∨ (∃ a, acc = some (6, a) ∧ Ev a sm ∧ sg = -1)
theorem close_ev {acc : Option (Int × E)} {sm sg tm : Int} {t : E} (h : AccO acc sm sg) (ht : Ev t tm) (h1 : -9223372036854775808 ≤ tm) (h2 : tm ≤ 9223372036854775807) : Ev (closeO acc t) (wrap64 (sm + wrap64 (sg * tm))) := by
  rcases h with ⟨rfl, rfl, rfl⟩ | ⟨a, rfl, ha, rfl⟩ | ⟨a, rfl, ha, rfl⟩
  · have e : wrap64 (0 + wrap64 (1 * tm)) = tm := by rw [Int.one_mul, wrap64_id tm h1 h2, Int.zero_add, wrap64_id tm h1 h2]
    rw [e]; exact ht
  · rw [Int.one_mul, wrap64_id tm h1 h2]; exact .add _ _ _ _ ha ht
  · have e : wrap64 (sm + wrap64 (-1 * tm)) = wrap64 (sm - tm) := by unfold wrap64; omega
    rw [e]; exact .sub _ _ _ _ ha ht
end Go.Proofs.YtbpmfkikhackfaaGreatDoor.Line

namespace Go.Proofs.YtbpmfkikhackfaaGreatDoor.Line
open Go.ChangeShapes Go.WideShapes Go.ChangeAt Go.RowKit
open Ex (E St)
set_option linter.unusedVariables false

/-- a slice of bytes that is only read, as numbers -/
def BtsN (w : World) (v : Value) (bs : List Nat) : Prop := (∃ a cap, v = .slice a 0 cap ∧ bs = []) ∨ (∃ b off cap, v = .slice (some ⟨b, off, none⟩) bs.length cap ∧ bs.length ≤ cap ∧ ∀ i (h : i < bs.length), w.cell? ⟨b, off + i, none⟩ = some (.int .u8 (bs[i] : Int)))
theorem dec_len (n : Nat) (h : n < 1000) : (Words.dec n).length ≤ 3 := by
  unfold Words.dec
  split
  · decide
  · exact Words.digs_len 3 n h
theorem sgO_len (b : Nat) : (sgO b).length ≤ 3 := by
  unfold sgO
  split
  · decide
  · split <;> decide
theorem txO_len : ∀ (l : List Nat), (∀ b ∈ l, b < 256) → (txO l).length ≤ 6 * l.length := by
  intro l
  induction l with
  | nil => intro _; exact Nat.le_refl _
  | cons b r ih =>
    intro h
    have h1 := ih (fun x hx => h x (List.mem_cons_of_mem _ hx))
    have h2 := h b (List.mem_cons_self ..)
    have h3 := dec_len (b / 4) (by omega)
    have h4 := sgO_len b
    show (sgO b ++ (Words.dec (b / 4) ++ txO r)).length ≤ _
    rw [List.length_append, List.length_append, List.length_cons]
    omega
theorem txO_snoc (l : List Nat) (b : Nat) : txO (l ++ [b]) = txO l ++ sgO b ++ Words.dec (b / 4) := by
  induction l with
  | nil => simp [txO]
  | cons c r ih =>
    show sgO c ++ (Words.dec (c / 4) ++ txO (r ++ [b])) = sgO c ++ (Words.dec (c / 4) ++ txO r) ++ sgO b ++ Words.dec (b / 4)
    rw [ih]
    simp
theorem box4_drew {W w5 : World} {z0 z1 z2 z3 : Value} {t : TypeId} (hb : Below (W.alloc (.cells #[z0, z1, z2, z3] t)).drew.heap.size (W.alloc (.cells #[z0, z1, z2, z3] t)).drew w5) : w5.cell? ⟨W.heap.size, 0, none⟩ = some z0 ∧ w5.cell? ⟨W.heap.size, 1, none⟩ = some z1 ∧ w5.cell? ⟨W.heap.size, 2, none⟩ = some z2 ∧ w5.cell? ⟨W.heap.size, 3, none⟩ = some z3 ∧ Below W.heap.size W w5 := by
  have hb' := bthen (drew_below _) hb
  have h0 : (W.alloc (.cells #[z0, z1, z2, z3] t)).heap.size = W.heap.size + 1 := by simp
  have hc : ∀ o, w5.cell? ⟨W.heap.size, o, none⟩ = (W.alloc (.cells #[z0, z1, z2, z3] t)).cell? ⟨W.heap.size, o, none⟩ := fun o => hb'.cell (p := ⟨W.heap.size, o, none⟩) (show W.heap.size < _ by omega)
  exact ⟨(hc 0).trans (by simp), (hc 1).trans (by simp), (hc 2).trans (by simp), (hc 3).trans (by simp), bthen (alloc_below W _) hb'⟩
/-- in the midst of the loop: i numbers are through -/
structure MidN (L : List Nat) (b0 : Nat) (X : E) (i : Nat) (s : List UInt8) (sm tm sg : Int) : Prop where
  txt : ∃ M, s = Words.dec (b0 / 4) ++ txO M ∧ M ++ L.drop i = L.drop 1
  tree : ∃ acc t, AccO acc sm sg ∧ Ev t tm ∧ Ex.Sm (closeO acc t) ∧ goO (L.drop i) acc t = X
  lo : -9223372036854775808 ≤ tm
  hi : tm ≤ 9223372036854775807
  pos : 1 ≤ i
  len : s.length ≤ 100
theorem midN_end {L : List Nat} {b0 i : Nat} {X : E} {s : List UInt8} {sm tm sg : Int} (h : MidN L b0 X i s sm tm sg) (hi : L.length ≤ i) : s = Words.dec (b0 / 4) ++ txO (L.drop 1) ∧ Ev X (wrap64 (sm + wrap64 (sg * tm))) ∧ Ex.Sm X := by
  have hd : L.drop i = [] := List.drop_of_length_le hi
  obtain ⟨M, h1, h2⟩ := h.txt
  obtain ⟨acc, t, h3, h4, h5, h6⟩ := h.tree
  rw [hd, List.append_nil] at h2
  rw [hd] at h6
  subst h2
  have h7 : closeO acc t = X := h6
  rw [← h7]
  exact ⟨h1, close_ev h3 h4 h.lo h.hi, h5⟩
theorem midN_start (L : List Nat) (b0 : Nat) (r : List Nat) (hL : L = b0 :: r) (hb : b0 < 256) : MidN L b0 (goO r none (.mk 1 (b0 / 4 : Nat) [] [])) 1 (Words.dec (b0 / 4)) 0 ((b0 / 4 : Nat) : Int) 1 := by
  subst hL
  refine ⟨⟨[], by simp [txO], by simp⟩, ⟨none, .mk 1 (b0 / 4 : Nat) [] [], .inl ⟨rfl, rfl, rfl⟩, .num _, num_sm _, rfl⟩, by omega, by omega, Nat.le_refl _, ?_⟩
  have := dec_len (b0 / 4) (by omega)
  omega
theorem closeO_sm {acc : Option (Int × E)} {t : E} (h : Ex.Sm (closeO acc t)) : Ex.Sm t ∧ ∀ y, Ex.Sm y → Ex.Sm (closeO acc y) := by
  cases acc with
  | none => exact ⟨h, fun y hy => hy⟩
  | some a =>
    obtain ⟨k, a⟩ := a
    have h1 : Ex.Sm (.mk k 0 [] [a, t]) := h
    exact ⟨h1.part t (by simp [E.a]), fun y hy => two_sm k (h1.part a (by simp [E.a])) hy⟩
theorem midN_next {L : List Nat} {b0 i : Nat} {X : E} {s : List UInt8} {sm tm sg : Int} (h : MidN L b0 X i s sm tm sg) (hi : i < L.length) (h12 : L.length ≤ 12) (hb0 : b0 < 256) (hL : ∀ b ∈ L, b < 256) :
    (2 ≤ L[i] % 4 → MidN L b0 X (i + 1) (s ++ sgO L[i] ++ Words.dec (L[i] / 4)) sm (wrap64 (tm * ((L[i] / 4 : Nat) : Int))) sg) ∧
    (¬ 2 ≤ L[i] % 4 → MidN L b0 X (i + 1) (s ++ sgO L[i] ++ Words.dec (L[i] / 4)) (wrap64 (sm + wrap64 (sg * tm))) ((L[i] / 4 : Nat) : Int) (1 - 2 * ((L[i] % 4 : Nat) : Int))) := by
  have hm := hL L[i] (List.getElem_mem hi)
  obtain ⟨M, h1, h2⟩ := h.txt
  obtain ⟨acc, t, h3, h4, h5, h6⟩ := h.tree
  have hd : L.drop i = L[i] :: L.drop (i + 1) := List.drop_eq_getElem_cons hi
  have ht : s ++ sgO L[i] ++ Words.dec (L[i] / 4) = Words.dec (b0 / 4) ++ txO (M ++ [L[i]]) := by rw [txO_snoc, h1]; simp
  have hM : (M ++ [L[i]]) ++ L.drop (i + 1) = L.drop 1 := by rw [← h2, hd]; simp
  have hlen : (s ++ sgO L[i] ++ Words.dec (L[i] / 4)).length ≤ 100 := by
    rw [ht, List.length_append]
    have e1 := dec_len (b0 / 4) (by omega)
    have hsub : ∀ b ∈ M ++ [L[i]], b < 256 := fun b hb => hL b (List.mem_of_mem_drop (i := 1) (by rw [← hM]; exact List.mem_append_left _ hb))
    have e2 := txO_len _ hsub
    have e3 := congrArg List.length hM
    rw [List.length_append, List.length_drop, List.length_drop] at e3
    omega
  rw [hd] at h6
  obtain ⟨q1, q2⟩ := closeO_sm h5
  refine ⟨fun hge => ?_, fun hlt => ?_⟩
  · have hg : goO (L[i] :: L.drop (i + 1)) acc t = goO (L.drop (i + 1)) acc (.mk 7 0 [] [t, .mk 1 (L[i] / 4 : Nat) [] []]) := by
      show (if _ then _ else _) = _
      rw [if_neg (by omega), if_neg (by omega)]
    rw [hg] at h6
    exact ⟨⟨_, ht, hM⟩, ⟨acc, _, h3, .mul _ _ _ _ h4 (.num _), q2 _ (two_sm 7 q1 (num_sm _)), h6⟩, (wrap64_rng _).1, (wrap64_rng _).2, by omega, hlen⟩
  · have hc := close_ev h3 h4 h.lo h.hi
    by_cases h0 : L[i] % 4 = 0
    · have hg : goO (L[i] :: L.drop (i + 1)) acc t = goO (L.drop (i + 1)) (some (5, closeO acc t)) (.mk 1 (L[i] / 4 : Nat) [] []) := by
        show (if _ then _ else _) = _
        rw [if_pos h0]
      rw [hg] at h6
      rw [h0]
      exact ⟨⟨_, ht, hM⟩, ⟨_, _, .inr (.inl ⟨_, rfl, hc, rfl⟩), .num _, two_sm 5 h5 (num_sm _), h6⟩, by omega, by omega, by omega, hlen⟩
    · have h1' : L[i] % 4 = 1 := by omega
      have hg : goO (L[i] :: L.drop (i + 1)) acc t = goO (L.drop (i + 1)) (some (6, closeO acc t)) (.mk 1 (L[i] / 4 : Nat) [] []) := by
        show (if _ then _ else _) = _
        rw [if_neg h0, if_pos h1']
      rw [hg] at h6
      rw [h1']
      exact ⟨⟨_, ht, hM⟩, ⟨_, _, .inr (.inr ⟨_, rfl, hc, rfl⟩), .num _, two_sm 6 h5 (num_sm _), h6⟩, by omega, by omega, by omega, hlen⟩
set_option maxHeartbeats 8000000 in
set_option maxRecDepth 100000 in
theorem exprOrder_walk (HKNOWN : KnownTSpec) (L : List Nat) (v : Value) (w : World) (hv : BtsN w v L) (hlm : L.length ≤ 9223372036854775807) (hL : ∀ b ∈ L, b < 256) (hG : Glob w) (hT : Tab w) :
    Calls Tryz.prog 5 #[v] w fun e w' => e = .returned (.bool true) ∧ Below w.heap.size w w' := by
  have HKN := hide (HKNOWN w hG hT)
  have HV := hide hv
  have HLL := hide hL
  obtain ⟨va, vc, hvs⟩ : ∃ a c, v = .slice a L.length c := by
    rcases hv with ⟨a, c, rfl, rfl⟩ | ⟨b, o, c, rfl, _⟩
    · exact ⟨a, c, rfl⟩
    · exact ⟨_, c, rfl⟩
  subst hvs
  clear hv hG hT HKNOWN hL
  by_cases hshort : L.length < 1
  · have h1 : (L.length : Int) < 1 := by omega
    go_enter Tryz.func5, Tryz.ntmps5
    go_wp2_with fail
    refine (unhide HKN).mono ?_
    rintro e w1 ⟨rfl, hb1⟩
    have H1 := hide hb1
    clear hb1
    go_wp2
    go_ret
    exact ⟨rfl, unhide H1⟩
  by_cases hlong : 12 < L.length
  · have h1 : ¬ (L.length : Int) < 1 := by omega
    have h2 : (12 : Int) < L.length := by omega
    go_enter Tryz.func5, Tryz.ntmps5
    go_wp2_with fail
    refine (unhide HKN).mono ?_
    rintro e w1 ⟨rfl, hb1⟩
    have H1 := hide hb1
    clear hb1
    go_wp2
    go_ret
    exact ⟨rfl, unhide H1⟩
  obtain ⟨b, o, c, hval, hcap, hcell⟩ : ∃ b o c, Value.slice va L.length vc = .slice (some ⟨b, o, none⟩) L.length c ∧ L.length ≤ c ∧ ∀ i (h : i < L.length), w.cell? ⟨b, o + i, none⟩ = some (.int .u8 (L[i] : Int)) := by
    rcases unhide HV with ⟨a, c, h1, h2⟩ | ⟨b, o, c, h1, h2, h3⟩
    · subst h2; exact absurd (Nat.zero_lt_one) hshort
    · exact ⟨b, o, c, h1, h2, h3⟩
  injection hval with e1 e2 e3
  subst e1 e3
  clear e2 HV
  have h1 : ¬ (L.length : Int) < 1 := by omega
  have h2 : ¬ (12 : Int) < L.length := by omega
  have HC := hide hcell
  have hn0 : 0 < L.length := by omega
  obtain ⟨b0, r, hbr⟩ : ∃ b0 r, L = b0 :: r := by
    cases L with
    | nil => simp at hn0
    | cons x y => exact ⟨x, y, rfl⟩
  have hb0 : b0 < 256 := (unhide HLL) b0 (by rw [hbr]; exact List.mem_cons_self ..)
  have HM := hide (midN_start L b0 r hbr hb0)
  have hc0 := hcell 0 hn0
  have hg0 : L[0] = b0 := by simp [hbr]
  rw [hg0] at hc0
  simp only [Nat.add_zero] at hc0
  obtain ⟨u0, T0, ht0, hk0, hn00, hTO⟩ := toks_txO b0 r (by rw [← hbr]; exact unhide HLL)
  have HRD := hide (And.intro ht0 (read_txO b0 r u0 T0 hk0 hn00 hTO))
  generalize goO r none (.mk 1 (b0 / 4 : Nat) [] []) = X at *
  have hdr : L.drop 1 = r := by simp [hbr]
  have HDR := hide hdr
  clear hcell hg0 ht0 hk0 hn00 hTO hdr hbr
  have HD0 := hide (decimal_any (b0 / 4) (by omega))
  have hq0 : ((b0 : Int) / 4) = ((b0 / 4 : Nat) : Int) := by omega
  generalize hqq : b0 / 4 = q0 at *
  go_enter Tryz.func5, Tryz.ntmps5
  go_wp2_with fail
  refine (unhide HKN).mono ?_
  rintro e w1 ⟨rfl, hb1⟩
  have H1 := hide hb1
  have hc1 := (hb1.cell (p := ⟨b, o, none⟩) (cell_lt hc0)).trans hc0
  clear hb1 HKN
  go_wp2_with fail
  refine (unhide HD0 w1).mono ?_
  rintro e w2 ⟨rfl, hb2⟩
  have H2 := hide (bthen (unhide H1) hb2)
  have hc2 := (hb2.cell (p := ⟨b, o, none⟩) (cell_lt hc1)).trans hc1
  clear hb2
  go_wp2_with fail
  clear hc0 hc1 hc2
  go_loopw [3, 4, 5, 6, 7] (fun s3 s4 s5 s6 s7 wr => ∃ (i : Nat) (s : List UInt8) (sm tm sg : Int), i ≤ L.length ∧ s.length ≤ 100 ∧ s3 = .string ⟨s.toArray⟩ ∧ s4 = .int .i64 sm ∧ s5 = .int .i64 tm ∧ s6 = .int .i64 sg ∧ s7 = .int .i64 i ∧ Hid (MidN L b0 X i s sm tm sg ∧ Below w.heap.size w wr)) (fun _ _ _ _ s7 _ => L.length - (intOf s7).toNat)
  case atStart => exact ⟨1, Words.dec q0, 0, q0, 1, by omega, by have := (unhide HM).len; omega, rfl, rfl, rfl, rfl, rfl, hide ⟨unhide HM, unhide H2⟩⟩
  case round =>
    obtain ⟨i, s, sm, tm, sg, hi, hsl, rfl, rfl, rfl, rfl, rfl, HI⟩ := hrel
    by_cases hlt : i < L.length
    · have hlt2 : (i : Int) < L.length := by omega
      have hci := ((unhide HI).2.cell (p := ⟨b, o + i, none⟩) (cell_lt (unhide HC i hlt))).trans (unhide HC i hlt)
      obtain ⟨hmA, hmB⟩ := midN_next (unhide HI).1 hlt (by omega) hb0 (unhide HLL)
      have hm256 := unhide HLL L[i] (List.getElem_mem hlt)
      have HMA := hide hmA
      have HMB := hide hmB
      clear hmA hmB
      generalize L[i] = m at *
      have e4 : ((m : Int) / 4) = ((m / 4 : Nat) : Int) := by omega
      have e5 : ((m : Int) % 4) = ((m % 4 : Nat) : Int) := by omega
      have hd4 := dec_len (m / 4) (by omega)
      have hsg := sgO_len m
      have HDC := hide (decimal_any (m / 4) (by omega))
      have hmq : m / 4 < 64 := by omega
      have hmr : m % 4 < 4 := by omega
      have HSG : Hid (sgO m = sgO (m % 4)) := hide (by unfold sgO; rw [Nat.mod_mod])
      generalize m / 4 = q at *
      generalize m % 4 = c at *
      go_wp2_with fail
      generalize hDq : Words.dec q = D at *
      have HDq := hide hDq
      have hbl : b < wr.heap.size := cell_lt hci
      have HW := hide (unhide HI).2
      clear hDq
      obtain ⟨t2, ht2⟩ : ∃ t2, t2 = s ++ sgO m ++ D := ⟨_, rfl⟩
      have HT2 := hide ht2
      clear ht2
      go_cut [3] (fun s3 wx => s3 = .string ⟨t2.toArray⟩ ∧ Hid (Below wr.heap.size wr wx))
      case first =>
        have HXa : Hid (Calls Tryz.prog 22 #[.int .i64 q] wr.drew fun e w' => e = .returned (.string ⟨D.toArray⟩) ∧ w'.cell? ⟨b, o + i, none⟩ = some (.int .u8 (m : Int)) ∧ b < w'.heap.size ∧ Below wr.heap.size wr w') := hide ((unhide HDC _).mono (fun e w' h => by have hb := bthen (drew_below wr) h.2; exact ⟨h.1, (hb.cell (p := ⟨b, o + i, none⟩) hbl).trans hci, Nat.lt_of_lt_of_le hbl hb.size, hb⟩))
        have HXb : Hid (∀ z0 z1 z2 z3 t, Calls Tryz.prog 22 #[.int .i64 q] (wr.alloc (.cells #[z0, z1, z2, z3] t)).drew fun e w' => e = .returned (.string ⟨D.toArray⟩) ∧ w'.cell? ⟨b, o + i, none⟩ = some (.int .u8 (m : Int)) ∧ w'.cell? ⟨wr.heap.size, 0, none⟩ = some z0 ∧ w'.cell? ⟨wr.heap.size, 1, none⟩ = some z1 ∧ w'.cell? ⟨wr.heap.size, 2, none⟩ = some z2 ∧ w'.cell? ⟨wr.heap.size, 3, none⟩ = some z3 ∧ Below wr.heap.size wr w') := hide (fun z0 z1 z2 z3 t => (unhide HDC _).mono (fun e w' h => by obtain ⟨k0, k1, k2, k3, hb⟩ := box4_drew h.2; exact ⟨h.1, (hb.cell (p := ⟨b, o + i, none⟩) hbl).trans hci, k0, k1, k2, k3, hb⟩))
        have hDl : D.length ≤ 3 := hd4
        rcases (show c = 0 ∨ c = 1 ∨ c = 2 ∨ c = 3 by omega) with rfl | rfl | rfl | rfl
        · have e6 : (m : Int) % 4 = 0 := by omega
          have e7 : (m : Int).tmod 4 = 0 := by rw [Int.tmod_eq_emod_of_nonneg (by omega)]; exact e6
          clear e5
          have cs1 : (⟨s.toArray⟩ : ByteArray) ++ ⟨#[32, 43, 32]⟩ = ⟨(s ++ [32, 43, 32]).toArray⟩ := cat2 _ [32, 43, 32]
          have cs2 : (⟨(s ++ [32, 43, 32]).toArray⟩ : ByteArray) ++ ⟨D.toArray⟩ = ⟨t2.toArray⟩ := by rw [unhide HT2, unhide HSG]; exact cat2 _ _
          have b1 : ¬ 9223372036854775807 < s.length + 3 := by omega
          have b2 : ¬ 9223372036854775807 < (s ++ [32, 43, 32]).length + D.length := by rw [List.length_append]; simp; omega
          generalize s ++ [32, 43, 32] = t1 at *
          go_region_law (first
            | (go_simp; go_at_call 22; with_reducible refine (unhide HXa).mono ?_; rintro ev w5 ⟨rfl, q0, q4, hb6⟩; replace hb6 := hide hb6; dsimp only)
            | (go_simp; go_at_call 22; with_reducible refine (unhide HXb _ _ _ _ _).mono ?_; rintro ev w5 ⟨rfl, q0, q1, q2, q3, q4, hb6⟩; replace hb6 := hide hb6; dsimp only))
          all_goals (
            go_wp2_with fail
            go_meet
            case rel => first
              | exact ⟨rfl, hide (bthen (unhide hb6) (alloc_below w5 _))⟩
              | exact ⟨rfl, hb6⟩)
        · have e6 : (m : Int) % 4 = 1 := by omega
          have e7 : (m : Int).tmod 4 = 1 := by rw [Int.tmod_eq_emod_of_nonneg (by omega)]; exact e6
          clear e5
          have cs1 : (⟨s.toArray⟩ : ByteArray) ++ ⟨#[32, 45, 32]⟩ = ⟨(s ++ [32, 45, 32]).toArray⟩ := cat2 _ [32, 45, 32]
          have cs2 : (⟨(s ++ [32, 45, 32]).toArray⟩ : ByteArray) ++ ⟨D.toArray⟩ = ⟨t2.toArray⟩ := by rw [unhide HT2, unhide HSG]; exact cat2 _ _
          have b1 : ¬ 9223372036854775807 < s.length + 3 := by omega
          have b2 : ¬ 9223372036854775807 < (s ++ [32, 45, 32]).length + D.length := by rw [List.length_append]; simp; omega
          generalize s ++ [32, 45, 32] = t1 at *
          go_region_law (first
            | (go_simp; go_at_call 22; with_reducible refine (unhide HXa).mono ?_; rintro ev w5 ⟨rfl, q0, q4, hb6⟩; replace hb6 := hide hb6; dsimp only)
            | (go_simp; go_at_call 22; with_reducible refine (unhide HXb _ _ _ _ _).mono ?_; rintro ev w5 ⟨rfl, q0, q1, q2, q3, q4, hb6⟩; replace hb6 := hide hb6; dsimp only))
          all_goals (
            go_wp2_with fail
            go_meet
            case rel => first
              | exact ⟨rfl, hide (bthen (unhide hb6) (alloc_below w5 _))⟩
              | exact ⟨rfl, hb6⟩)
        · have e6 : (m : Int) % 4 = 2 := by omega
          have e7 : (m : Int).tmod 4 = 2 := by rw [Int.tmod_eq_emod_of_nonneg (by omega)]; exact e6
          clear e5
          have cs1 : (⟨s.toArray⟩ : ByteArray) ++ ⟨#[42]⟩ = ⟨(s ++ [42]).toArray⟩ := cat2 _ [42]
          have cs2 : (⟨(s ++ [42]).toArray⟩ : ByteArray) ++ ⟨D.toArray⟩ = ⟨t2.toArray⟩ := by rw [unhide HT2, unhide HSG]; exact cat2 _ _
          have b1 : ¬ 9223372036854775807 < s.length + 1 := by omega
          have b2 : ¬ 9223372036854775807 < (s ++ [42]).length + D.length := by rw [List.length_append]; simp; omega
          generalize s ++ [42] = t1 at *
          go_region_law (first
            | (go_simp; go_at_call 22; with_reducible refine (unhide HXa).mono ?_; rintro ev w5 ⟨rfl, q0, q4, hb6⟩; replace hb6 := hide hb6; dsimp only)
            | (go_simp; go_at_call 22; with_reducible refine (unhide HXb _ _ _ _ _).mono ?_; rintro ev w5 ⟨rfl, q0, q1, q2, q3, q4, hb6⟩; replace hb6 := hide hb6; dsimp only))
          all_goals (
            go_wp2_with fail
            go_meet
            case rel => first
              | exact ⟨rfl, hide (bthen (unhide hb6) (alloc_below w5 _))⟩
              | exact ⟨rfl, hb6⟩)
        · have e6 : (m : Int) % 4 = 3 := by omega
          have e7 : (m : Int).tmod 4 = 3 := by rw [Int.tmod_eq_emod_of_nonneg (by omega)]; exact e6
          clear e5
          have cs1 : (⟨s.toArray⟩ : ByteArray) ++ ⟨#[42]⟩ = ⟨(s ++ [42]).toArray⟩ := cat2 _ [42]
          have cs2 : (⟨(s ++ [42]).toArray⟩ : ByteArray) ++ ⟨D.toArray⟩ = ⟨t2.toArray⟩ := by rw [unhide HT2, unhide HSG]; exact cat2 _ _
          have b1 : ¬ 9223372036854775807 < s.length + 1 := by omega
          have b2 : ¬ 9223372036854775807 < (s ++ [42]).length + D.length := by rw [List.length_append]; simp; omega
          generalize s ++ [42] = t1 at *
          go_region_law (first
            | (go_simp; go_at_call 22; with_reducible refine (unhide HXa).mono ?_; rintro ev w5 ⟨rfl, q0, q4, hb6⟩; replace hb6 := hide hb6; dsimp only)
            | (go_simp; go_at_call 22; with_reducible refine (unhide HXb _ _ _ _ _).mono ?_; rintro ev w5 ⟨rfl, q0, q1, q2, q3, q4, hb6⟩; replace hb6 := hide hb6; dsimp only))
          all_goals (
            go_wp2_with fail
            go_meet
            case rel => first
              | exact ⟨rfl, hide (bthen (unhide hb6) (alloc_below w5 _))⟩
              | exact ⟨rfl, hb6⟩)
      case rest =>
        obtain ⟨rfl, HB3⟩ := hcut
        have hci3 := ((unhide HB3).cell (p := ⟨b, o + i, none⟩) hbl).trans hci
        have e7 : (m : Int).tmod 4 = c := by rw [Int.tmod_eq_emod_of_nonneg (by omega)]; exact e5
        have HW3 := hide (bthen (unhide HW) (unhide HB3))
        clear hci
        have hl2 : t2.length ≤ 103 + 3 := by rw [unhide HT2, List.length_append, List.length_append]; omega
        by_cases hc2 : 2 ≤ c
        · have hc3 : (2 : Int) ≤ c := by omega
          have hM := unhide HMA hc2
          rw [← unhide HT2] at hM
          have HM3 := hide hM
          clear hM
          go_wp2_with fail
          go_roundw
          case rel => exact ⟨i + 1, t2, sm, _, sg, by omega, (unhide HM3).len, rfl, rfl, rfl, rfl, by go_num, hide ⟨unhide HM3, unhide HW3⟩⟩
          case measure => simp [intOf]; omega
        · have hc3 : ¬ (2 : Int) ≤ c := by omega
          have hM := unhide HMB hc2
          rw [← unhide HT2] at hM
          have HM3 := hide hM
          clear hM
          go_wp2_with fail
          go_roundw
          case rel => exact ⟨i + 1, t2, _, _, _, by omega, (unhide HM3).len, rfl, rfl, rfl, rfl, by go_num, hide ⟨unhide HM3, unhide HW3⟩⟩
          case measure => simp [intOf]; omega
    · have hlt2 : ¬ (i : Int) < L.length := by omega
      obtain ⟨he, hev, hsm⟩ := midN_end (unhide HI).1 (by omega)
      rw [unhide HDR, hqq] at he
      subst he
      have HR := hide (readL_any _ _ X 0 wr (by omega) (unhide HRD).1 (unhide HRD).2)
      have HEV := hide (And.intro hev (And.intro hsm (unhide HI).2))
      clear hev hsm HI HM
      generalize Words.dec q0 ++ txO r = ss at *
      go_wp2_with fail
      refine (unhide HR).mono ?_
      rintro e w5 ⟨sx, rfl, hfx, hb5⟩
      obtain ⟨xa, xc, hsx⟩ := hfx.shape
      generalize hxl : X.a.length = xl at hsx
      subst hsx
      have hA5 := alloc_below w5 (.cells #[.int .i64 X.kind, .int .i64 X.n, .string ⟨X.name.toArray⟩, .slice xa xl xc] PET)
      have hbx := box_new w5 X (.slice xa xl xc) PET
      have H5 := hide (And.intro (hfx.old hA5) (bthen (unhide HEV).2.2 (bthen hb5 hA5)))
      obtain ⟨x0, x1, x2, x3, -, -, -, -, -⟩ := hbx
      clear hfx hxl hA5 hb5 HR
      go_wp2_with fail
      generalize w5.alloc (.cells #[.int .i64 X.kind, .int .i64 X.n, .string ⟨X.name.toArray⟩, .slice xa xl xc] PET) = W5 at *
      clear x0 x1 x2 x3
      refine (of_any X W5 _ _ (unhide H5).1 (unhide HEV).2.1).mono ?_
      rintro e w6 ⟨sy, rfl, hf6, hb6⟩
      obtain ⟨ya, yc, hsy⟩ := hf6.shape
      generalize hyl : X.a.length = yl at hsy
      subst hsy
      have HE6 := hide (eval_any (unhide HEV).1 w6 _ _ hf6)
      have H6 := hide (bthen (unhide H5).2 hb6)
      clear hf6 hb6 hyl H5 HEV
      generalize hww : wrap64 (sm + wrap64 (sg * tm)) = ww at *
      go_wp2_with fail
      refine (unhide HE6).mono ?_
      rintro e w7 ⟨rfl, hb7⟩
      have H7 := hide (bthen (bthen (unhide H6) hb7) (alloc_below w7 (.cells #[.slice none 0 0, .int .i64 0] 26)))
      clear hb7
      go_wp2
      go_ret
      exact ⟨rfl, unhide H7⟩
end Go.Proofs.YtbpmfkikhackfaaGreatDoor.Line

namespace Go.Proofs.YtbpmfkikhackfaaGreatDoor.Line
open Go.ChangeShapes Go.WideShapes Go.ChangeAt Go.RowKit Go.ChangeMaps
set_option linter.unusedVariables false

theorem cellsByte : Tryz.prog.cellsOf 5 = 1 := by kernel_rfl
set_option maxRecDepth 100000 in
theorem arg_bts {H : Type} {enc : TypeId × Value → H} {W : World} {v : Value} {d : DataW H} {p : List MemPlace} {base : Nat} (hv : Value.okWide Tryz.prog W .any base 60 v) (h : DataW.Trod enc Tryz.prog W 0 (fun _ => true) true 60 v d p) :
    ∃ bs, BtsN W v bs ∧ bs.length ≤ 9223372036854775807 ∧ ∀ b ∈ bs, b < 256 := by
  obtain ⟨a, len, cap, rfl⟩ := okWide_slice Tryz.underlying60 hv
  obtain ⟨fuel, hf⟩ := h
  have h2 := open_ints Tryz.underlying60 Tryz.underlying5 cellsByte hf
  rcases h2 with ⟨hcs, _⟩ | ⟨x, l, c, zs, hcs, _, hl, hm, hz, _, hcell, hwf⟩
  · simp [Value.cells] at hcs
    obtain ⟨rfl, rfl, rfl⟩ := hcs
    exact ⟨[], .inl ⟨_, _, rfl, rfl⟩, by simp, by simp⟩
  · simp [Value.cells] at hcs
    obtain ⟨rfl, rfl, rfl⟩ := hcs
    simp only [if_true] at hz
    by_cases h0 : len = 0
    · subst h0
      exact ⟨[], .inl ⟨_, _, rfl, rfl⟩, by simp, by simp⟩
    · obtain ⟨b, off, spot⟩ := x
      have hspot : spot = none := by simpa [Addr.add] using World.cell?_spot (hcell 0 (by omega))
      subst hspot
      have hll : ((zs.take len).map fun z => z.toNat).length = len := by rw [List.length_map, List.length_take]; omega
      refine ⟨(zs.take len).map fun z => z.toNat, .inr ⟨b, off, cap, by rw [hll], by rw [hll]; exact hl, fun i hi => ?_⟩, by rw [hll]; unfold maxLen at hm; omega, fun y hy => ?_⟩
      · rw [hll] at hi
        have hiz : i < zs.length := by omega
        have hc := hcell i hiz
        rw [Go.WideShapes.add_plain] at hc
        rw [hc]
        have hb := bounds_u8 (hwf _ (List.getElem_mem hiz))
        have hg : zs.getD i 0 = zs[i] := by rw [List.getD_eq_getElem?_getD, List.getElem?_eq_getElem hiz]; rfl
        rw [List.getElem_map, List.getElem_take, hg]
        congr 2
        omega
      · obtain ⟨z, hz1, rfl⟩ := List.mem_map.1 hy
        have hb := bounds_u8 (hwf z (List.mem_of_mem_take hz1))
        omega
theorem laidOut : laidOutB Tryz.prog = true := by kernel_rfl
theorem trod_lt {H : Type} {enc : TypeId × Value → H} {W : World} {v : Value} {d : DataW H} {p : List MemPlace} {t : TypeId} (h : DataW.Trod enc Tryz.prog W 0 (fun _ => true) true t v d p) : ∀ x ∈ p, x.block < W.heap.size := by
  obtain ⟨m, hm⟩ := h
  exact DataW.trod_lt m _ _ _ hm
end Go.Proofs.YtbpmfkikhackfaaGreatDoor.Line
