/- The reader of statements in its block (SR); what is wrong with a line, in memory (Se); what keeps them.
   The contracts of the statement reader's small methods: sees, seesKind, takes, fail, must, name, number, ended, step, end.
   The contract of the statement reader's kind, a case a theorem.
   The contracts of the statement reader's took, step.
   Parts of a row of words.
   A reading stays within its words, and so does the place of what is wrong. -/
import Derived.Test.YtdpjipphbhomkaaGreatDoorExprPa
import Derived.Deep.QuietTactic
import Derived.BigQuiet
import Derived.Test.YtdpjipphbhomkaaGreatDoorAsB
import Derived.Test.YtdpjipphbhomkaaGreatDoorGlobB
import Derived.Deep.RegionLaw
import Derived.Test.YtdpjipphbhomkaaGreatDoorTokMem
import Derived.Test.YtdpjipphbhomkaaGreatDoorPlainMach
namespace Go.Proofs.YtdpjipphbhomkaaGreatDoor.Line
open Go.ChangeShapes Go.WideShapes Go.ChangeAt Go.RowKit
open Ex (E St)
set_option linter.unusedVariables false

/-- what is wrong: nothing; a word; a word of an expression (of so many words ahead) -/
inductive SE
  | ok
  | leaf (at_ e : Nat)
  | sub (at_ k e : Nat)
deriving DecidableEq
abbrev wStmt : List UInt8 := [115, 116, 109, 116]
abbrev FPT : TypeId := 77
abbrev FST : TypeId := 79
abbrev ENT : TypeId := 93
abbrev SRT : TypeId := 81
/-- a Fault that wraps a plain error -/
def Leaf (w : World) (b : Nat) (word : List UInt8) (at_ e : Nat) : Prop := w.cell? ⟨b, 0, none⟩ = some (.string ⟨word.toArray⟩) ∧ w.cell? ⟨b, 1, none⟩ = some (.int .i64 at_) ∧ w.cell? ⟨b, 2, none⟩ = some (.iface ENT (.int .i64 e))
theorem Leaf.lt {w : World} {b : Nat} {word : List UInt8} {at_ e : Nat} (h : Leaf w b word at_ e) : b < w.heap.size := cell_lt h.1
theorem Leaf.keep {w w' : World} {b : Nat} {word : List UInt8} {at_ e : Nat} (h : Leaf w b word at_ e) (hb : w'.heap[b]? = w.heap[b]?) : Leaf w' b word at_ e := by
  have hc : ∀ o, w'.cell? ⟨b, o, none⟩ = w.cell? ⟨b, o, none⟩ := fun o => World.cell?_of_block (a := ⟨b, o, none⟩) hb
  exact ⟨(hc 0).trans h.1, (hc 1).trans h.2.1, (hc 2).trans h.2.2⟩
def Se (B : Nat) (w : World) (g : Value) : SE → Prop
  | .ok => g = .nilIface
  | .leaf p e => ∃ b, B ≤ b ∧ g = .iface FPT (.pointer (some ⟨b, 0, none⟩)) ∧ Leaf w b wStmt p e
  | .sub p k e => ∃ b b2, B ≤ b ∧ B ≤ b2 ∧ g = .iface FPT (.pointer (some ⟨b, 0, none⟩)) ∧ (w.cell? ⟨b, 0, none⟩ = some (.string ⟨wStmt.toArray⟩) ∧ w.cell? ⟨b, 1, none⟩ = some (.int .i64 p) ∧ w.cell? ⟨b, 2, none⟩ = some (.iface FPT (.pointer (some ⟨b2, 0, none⟩)))) ∧ Leaf w b2 wExpr k e
theorem Se.keep {B : Nat} {w w' : World} {g : Value} {er : SE} (h : Se B w g er) (hk : ∀ b, B ≤ b → b < w.heap.size → w'.heap[b]? = w.heap[b]?) : Se B w' g er := by
  cases er with
  | ok => exact h
  | leaf p e =>
    obtain ⟨b, hb, hg, hl⟩ := h
    exact ⟨b, hb, hg, hl.keep (hk b hb hl.lt)⟩
  | sub p k e =>
    obtain ⟨b, b2, hb, hb2, hg, ⟨h0, h1, h2⟩, hl⟩ := h
    have hc : ∀ o, w'.cell? ⟨b, o, none⟩ = w.cell? ⟨b, o, none⟩ := fun o => World.cell?_of_block (a := ⟨b, o, none⟩) (hk b hb (cell_lt h0))
    exact ⟨b, b2, hb, hb2, hg, ⟨(hc 0).trans h0, (hc 1).trans h1, (hc 2).trans h2⟩, hl.keep (hk b2 hb2 hl.lt)⟩
theorem Se.shape {B : Nat} {w : World} {g : Value} {er : SE} (h : Se B w g er) : (er = .ok ∧ g = .nilIface) ∨ (er ≠ .ok ∧ ∃ b, g = .iface FPT (.pointer (some ⟨b, 0, none⟩))) := by
  cases er with
  | ok => exact .inl ⟨rfl, h⟩
  | leaf p e => obtain ⟨b, _, hg, _⟩ := h; exact .inr ⟨by simp, b, hg⟩
  | sub p k e => obtain ⟨b, b2, _, _, hg, _⟩ := h; exact .inr ⟨by simp, b, hg⟩
structure SR (T : List Words.T) (L : Value) (rb : Nat) (w : World) (p : Nat) (er : SE) : Prop where
  c0 : w.cell? ⟨rb, 0, none⟩ = some L
  c1 : w.cell? ⟨rb, 1, none⟩ = some (.int .i64 p)
  ce : ∃ g, w.cell? ⟨rb, 2, none⟩ = some g ∧ Se (rb + 1) w g er
  f1 : w.frozen? ⟨rb, 1, none⟩ = false
  f2 : w.frozen? ⟨rb, 2, none⟩ = false
  lt : rb < w.heap.size
  tks : Tks w L T
  own : L.ownBlock ≠ some rb
  lw : ∀ q, L.ownBlock = some q → q < w.heap.size
  hp : p ≤ T.length
  ht : T.length ≤ 100000
theorem SR.below {T : List Words.T} {L : Value} {rb : Nat} {w w' : World} {p : Nat} {er : SE} (h : SR T L rb w p er) (hb : Below w.heap.size w w') : SR T L rb w' p er := by
  have hc : ∀ o, w'.cell? ⟨rb, o, none⟩ = w.cell? ⟨rb, o, none⟩ := fun o => hb.cell (p := ⟨rb, o, none⟩) h.lt
  have hf : ∀ o, w'.frozen? ⟨rb, o, none⟩ = w.frozen? ⟨rb, o, none⟩ := fun o => hb.frozen (p := ⟨rb, o, none⟩) h.lt
  obtain ⟨g, hg, hs⟩ := h.ce
  exact ⟨(hc 0).trans h.c0, (hc 1).trans h.c1, ⟨g, (hc 2).trans hg, hs.keep (fun b _ hl => hb.block b hl)⟩, (hf 1).trans h.f1, (hf 2).trans h.f2, Nat.lt_of_lt_of_le h.lt hb.size, h.tks.below hb, h.own, fun q hq => Nat.lt_of_lt_of_le (h.lw q hq) hb.size, h.hp, h.ht⟩
theorem set_cell {w : World} {rb i j : Nat} {u v : Value} (h : w.cell? ⟨rb, i, none⟩ = some u) : (w.setCell ⟨rb, j, none⟩ v).cell? ⟨rb, i, none⟩ = some (if i = j then v else u) := by
  by_cases e : i = j
  · subst e; rw [if_pos rfl]; exact World.cell?_setCell_same' _ _ _ (by rw [h]; rfl)
  · rw [if_neg e, World.cell?_setCell_other w ⟨rb, j, none⟩ ⟨rb, i, none⟩ v (by intro h; injection h with _ h2 _; exact e h2.symm)]
    exact h
theorem set_but (rb : Nat) (w : World) (j : Nat) (v : Value) : But rb w (w.setCell ⟨rb, j, none⟩ v) := (but_refl rb w).set (.inr rfl) v
theorem SR.at1 {T : List Words.T} {L : Value} {rb : Nat} {w : World} {p p' : Nat} {er : SE} (h : SR T L rb w p er) (hp' : p' ≤ T.length) : SR T L rb (w.setCell ⟨rb, 1, none⟩ (.int .i64 p')) p' er := by
  obtain ⟨g, hg, hs⟩ := h.ce
  have hb := set_but rb w 1 (.int .i64 (p' : Int))
  have hf : ∀ o, (w.setCell ⟨rb, 1, none⟩ (.int .i64 (p' : Int))).frozen? ⟨rb, o, none⟩ = w.frozen? ⟨rb, o, none⟩ := fun o => by simp [go_sem]
  exact ⟨set_cell (i := 0) (j := 1) h.c0, set_cell (i := 1) (j := 1) h.c1, ⟨g, set_cell (i := 2) (j := 1) hg, hs.keep (fun b hB hl => hb.block b hl (fun e => by injection e with e; omega))⟩, (hf 1).trans h.f1, (hf 2).trans h.f2, Nat.lt_of_lt_of_le h.lt hb.size, h.tks.but hb h.own, h.own, fun q hq => Nat.lt_of_lt_of_le (h.lw q hq) hb.size, hp', h.ht⟩
theorem SR.er2 {T : List Words.T} {L : Value} {rb : Nat} {w : World} {p : Nat} {er er' : SE} {g : Value} (h : SR T L rb w p er) (hs : Se (rb + 1) w g er') : SR T L rb (w.setCell ⟨rb, 2, none⟩ g) p er' := by
  obtain ⟨g0, hg0, _⟩ := h.ce
  have hb := set_but rb w 2 g
  have hf : ∀ o, (w.setCell ⟨rb, 2, none⟩ g).frozen? ⟨rb, o, none⟩ = w.frozen? ⟨rb, o, none⟩ := fun o => by simp [go_sem]
  exact ⟨set_cell (i := 0) (j := 2) h.c0, set_cell (i := 1) (j := 2) h.c1, ⟨g, set_cell (i := 2) (j := 2) hg0, hs.keep (fun b hB hl => hb.block b hl (fun e => by injection e with e; omega))⟩, (hf 1).trans h.f1, (hf 2).trans h.f2, Nat.lt_of_lt_of_le h.lt hb.size, h.tks.but hb h.own, h.own, fun q hq => Nat.lt_of_lt_of_le (h.lw q hq) hb.size, h.hp, h.ht⟩
def failE (er : SE) (p e : Nat) : SE := if er = .ok then .leaf p e else er
def isNext (T : List Words.T) (p : Nat) (er : SE) (c : List UInt8) : Bool := decide (er = .ok) && (match T[p]? with | some t => t.text == c | none => false)
def isKind (T : List Words.T) (p : Nat) (er : SE) (k : Nat) : Bool := decide (er = .ok) && (match T[p]? with | some t => t.kind == k | none => false)
def nextP (b : Bool) (p : Nat) : Nat := if b then p + 1 else p
theorem isNext_lt {T : List Words.T} {p : Nat} {er : SE} {c : List UInt8} (h : isNext T p er c = true) : p < T.length := by
  unfold isNext at h
  rw [Bool.and_eq_true] at h
  rcases Nat.lt_or_ge p T.length with hl | hl
  · exact hl
  · rw [List.getElem?_eq_none hl] at h; cases h.2
theorem isKind_lt {T : List Words.T} {p : Nat} {er : SE} {k : Nat} (h : isKind T p er k = true) : p < T.length := by
  unfold isKind at h
  rw [Bool.and_eq_true] at h
  rcases Nat.lt_or_ge p T.length with hl | hl
  · exact hl
  · rw [List.getElem?_eq_none hl] at h; cases h.2
theorem SR.fail {T : List Words.T} {L : Value} {rb : Nat} {w : World} {p e : Nat} (h : SR T L rb w p .ok) : SR T L rb ((w.alloc (.cells #[.string ⟨#[115, 116, 109, 116]⟩, .int .i64 p, .iface ENT (.int .i64 e)] FST)).setCell ⟨rb, 2, none⟩ (.iface FPT (.pointer (some ⟨w.heap.size, 0, none⟩)))) p (.leaf p e) ∧ But rb w ((w.alloc (.cells #[.string ⟨#[115, 116, 109, 116]⟩, .int .i64 p, .iface ENT (.int .i64 e)] FST)).setCell ⟨rb, 2, none⟩ (.iface FPT (.pointer (some ⟨w.heap.size, 0, none⟩)))) := by
  have hb := alloc_below w (.cells #[.string ⟨#[115, 116, 109, 116]⟩, .int .i64 p, .iface ENT (.int .i64 e)] FST)
  have hl := h.lt
  refine ⟨(h.below hb).er2 ⟨w.heap.size, by omega, rfl, by simp, by simp, by simp⟩, ((but_refl rb w).alloc _).trans (set_but rb _ 2 _)⟩
end Go.Proofs.YtdpjipphbhomkaaGreatDoor.Line

namespace Go.Proofs.YtdpjipphbhomkaaGreatDoor.Line
open Go.ChangeShapes Go.WideShapes Go.ChangeAt Go.RowKit
open Ex (E St)
set_option linter.unusedVariables false

theorem Tks.word {w : World} {L : Value} {T : List Words.T} (h : Tks w L T) {p : Nat} (hp : p < T.length) : ∃ b o c, L = .slice (some ⟨b, o, none⟩) T.length c ∧ w.cell? ⟨b, o + p * 4, none⟩ = some (.int .i64 T[p].kind) ∧ w.cell? ⟨b, o + p * 4 + 1, none⟩ = some (.string ⟨T[p].text.toArray⟩) ∧ w.cell? ⟨b, o + p * 4 + 3, none⟩ = some (.int .i64 T[p].n) := by
  rcases h with ⟨a, c, rfl, rfl⟩ | ⟨b, o, c, rfl, hc, h⟩
  · simp at hp
  · obtain ⟨h0, h1, _, h3⟩ := h p hp
    exact ⟨b, o, c, rfl, h0, h1, h3⟩
set_option maxHeartbeats 4000000 in
set_option maxRecDepth 100000 in
theorem sees_any (T : List Words.T) (L : Value) (rb : Nat) (w : World) (p : Nat) (er : SE) (c : List UInt8) (h : SR T L rb w p er) : Calls Tryz.prog 128 #[.pointer (some ⟨rb, 0, none⟩), .string ⟨c.toArray⟩] w fun e w' => e = .returned (.bool (isNext T p er c)) ∧ ∃ n, w' = w.drewN n := by
  obtain ⟨g, hg, hs⟩ := h.ce
  obtain ⟨la, lc, hL⟩ := h.tks.shape
  have c0 := h.c0
  have c1 := h.c1
  have hp := h.hp
  have ht := h.ht
  rcases hs.shape with ⟨rfl, rfl⟩ | ⟨hne, b, rfl⟩
  · by_cases hlt : p < T.length
    · obtain ⟨b, o, k, rfl, w0, w1, w3⟩ := h.tks.word hlt
      have hlt2 : (p : Int) < T.length := by omega
      have q0 : decide (p < T.length) = true := decide_eq_true hlt
      have hv : isNext T p .ok c = (T[p].text == c) := by unfold isNext; rw [List.getElem?_eq_getElem hlt]; rfl
      rw [hv]
      generalize T[p].text = tx at *
      clear h hs hv w0 w3 hL
      go_enter Tryz.func128, Tryz.ntmps128
      go_wp2_with fail
      go_quiet (fail)
      go_wp2
      go_ret
      exact ⟨rfl, nq, rfl⟩
    · subst hL
      have hlt2 : ¬ (p : Int) < T.length := by omega
      have q0 : decide (p < T.length) = false := decide_eq_false hlt
      have hv : isNext T p .ok c = false := by unfold isNext; rw [List.getElem?_eq_none (by omega)]; rfl
      rw [hv]
      clear h hs hv
      go_enter Tryz.func128, Tryz.ntmps128
      go_wp2_with fail
      go_quiet (fail)
      go_wp2
      go_ret
      exact ⟨rfl, nq, rfl⟩
  · subst hL
    have hv : isNext T p er c = false := by unfold isNext; rw [decide_eq_false hne]; rfl
    rw [hv]
    clear h hs hv hne
    go_enter Tryz.func128, Tryz.ntmps128
    go_wp2_with fail
    go_quiet (fail)
    go_wp2
    go_ret
    exact ⟨rfl, nq, rfl⟩
set_option maxHeartbeats 4000000 in
set_option maxRecDepth 100000 in
theorem seesKind_any (T : List Words.T) (L : Value) (rb : Nat) (w : World) (p : Nat) (er : SE) (k : Nat) (h : SR T L rb w p er) : Calls Tryz.prog 98 #[.pointer (some ⟨rb, 0, none⟩), .int .i64 k] w fun e w' => e = .returned (.bool (isKind T p er k)) ∧ ∃ n, w' = w.drewN n := by
  obtain ⟨g, hg, hs⟩ := h.ce
  obtain ⟨la, lc, hL⟩ := h.tks.shape
  have c0 := h.c0
  have c1 := h.c1
  have hp := h.hp
  have ht := h.ht
  rcases hs.shape with ⟨rfl, rfl⟩ | ⟨hne, b, rfl⟩
  · by_cases hlt : p < T.length
    · obtain ⟨b, o, cc, rfl, w0, w1, w3⟩ := h.tks.word hlt
      have hlt2 : (p : Int) < T.length := by omega
      have q0 : decide (p < T.length) = true := decide_eq_true hlt
      have hv : isKind T p .ok k = ((T[p].kind : Int) == (k : Int)) := by unfold isKind; rw [List.getElem?_eq_getElem hlt]; rw [Bool.eq_iff_iff]; simp; omega
      rw [hv]
      generalize T[p].kind = tx at *
      clear h hs hv w1 w3 hL
      go_enter Tryz.func98, Tryz.ntmps98
      go_wp2_with fail
      go_quiet (fail)
      go_wp2
      go_ret
      exact ⟨rfl, nq, rfl⟩
    · subst hL
      have hlt2 : ¬ (p : Int) < T.length := by omega
      have q0 : decide (p < T.length) = false := decide_eq_false hlt
      have hv : isKind T p .ok k = false := by unfold isKind; rw [List.getElem?_eq_none (by omega)]; rfl
      rw [hv]
      clear h hs hv
      go_enter Tryz.func98, Tryz.ntmps98
      go_wp2_with fail
      go_quiet (fail)
      go_wp2
      go_ret
      exact ⟨rfl, nq, rfl⟩
  · subst hL
    have hv : isKind T p er k = false := by unfold isKind; rw [decide_eq_false hne]; rfl
    rw [hv]
    clear h hs hv hne
    go_enter Tryz.func98, Tryz.ntmps98
    go_wp2_with fail
    go_quiet (fail)
    go_wp2
    go_ret
    exact ⟨rfl, nq, rfl⟩
theorem set_alloc {w : World} {rb i : Nat} {v : Value} {o : Obj} (h : rb < w.heap.size) : (w.alloc o).setCell ⟨rb, i, none⟩ v = (w.setCell ⟨rb, i, none⟩ v).alloc o := by
  simp [go_sem, h]
theorem SR.drewN {T : List Words.T} {L : Value} {rb : Nat} {w : World} {p : Nat} {er : SE} (h : SR T L rb w p er) (n : Nat) : SR T L rb (w.drewN n) p er := h.below (below_drewN (Below.refl _ _) n)
set_option maxHeartbeats 4000000 in
set_option maxRecDepth 100000 in
theorem takes_any (T : List Words.T) (L : Value) (rb : Nat) (w : World) (p : Nat) (er : SE) (c : List UInt8) (h : SR T L rb w p er) : Calls Tryz.prog 95 #[.pointer (some ⟨rb, 0, none⟩), .string ⟨c.toArray⟩] w fun e w' => e = .returned (.bool (isNext T p er c)) ∧ SR T L rb w' (nextP (isNext T p er c) p) er ∧ But rb w w' := by
  have HS := hide (sees_any T L rb w p er c h)
  have H0 := hide h
  have hp := h.hp
  have ht := h.ht
  have HL : Hid (isNext T p er c = true → p < T.length) := hide isNext_lt
  generalize isNext T p er c = bb at *
  clear h
  go_enter Tryz.func95, Tryz.ntmps95
  go_wp2_with fail
  refine (unhide HS).mono ?_
  rintro e w1 ⟨rfl, n, rfl⟩
  have H1 := hide ((unhide H0).drewN n)
  have HB := hide ((but_refl rb w).drewN n)
  generalize w.drewN n = W1 at *
  cases bb with
  | false =>
    go_wp2
    go_ret
    exact ⟨rfl, unhide H1, unhide HB⟩
  | true =>
    have hlt := unhide HL rfl
    have c1 := (unhide H1).c1
    have f1 := (unhide H1).f1
    have H2 := hide ((unhide H1).at1 (p' := p + 1) hlt)
    go_wp2
    go_ret
    exact ⟨rfl, unhide H2, (unhide HB).trans (set_but rb _ 1 _)⟩
set_option maxHeartbeats 4000000 in
set_option maxRecDepth 100000 in
theorem fail_any (T : List Words.T) (L : Value) (rb : Nat) (w : World) (p : Nat) (er : SE) (k : Nat) (h : SR T L rb w p er) : Calls Tryz.prog 60 #[.pointer (some ⟨rb, 0, none⟩), .iface ENT (.int .i64 k)] w fun e w' => e = .returned (.tuple #[]) ∧ SR T L rb w' p (failE er p k) ∧ But rb w w' := by
  obtain ⟨g, hg, hs⟩ := h.ce
  have c1 := h.c1
  have f2 := h.f2
  have hl := h.lt
  rcases hs.shape with ⟨rfl, rfl⟩ | ⟨hne, b, rfl⟩
  · have HF := hide (h.fail (e := k))
    have e0 : failE .ok p k = .leaf p k := if_pos rfl
    rw [e0]
    rw [set_alloc hl] at HF
    clear h hs
    go_enter Tryz.func60, Tryz.ntmps60
    go_wp2
    go_end0
    exact ⟨rfl, (unhide HF).1, (unhide HF).2⟩
  · have e0 : failE er p k = er := if_neg hne
    rw [e0]
    have H0 := hide h
    clear h hs hne
    go_enter Tryz.func60, Tryz.ntmps60
    go_wp2
    go_end0
    exact ⟨rfl, unhide H0, but_refl rb w⟩
theorem SR.failSub {T : List Words.T} {L : Value} {rb : Nat} {w : World} {p b2 k e : Nat} (h : SR T L rb w p .ok) (hl2 : Leaf w b2 wExpr k e) (hb2 : rb + 1 ≤ b2) : SR T L rb ((w.alloc (.cells #[.string ⟨#[115, 116, 109, 116]⟩, .int .i64 p, .iface FPT (.pointer (some ⟨b2, 0, none⟩))] FST)).setCell ⟨rb, 2, none⟩ (.iface FPT (.pointer (some ⟨w.heap.size, 0, none⟩)))) p (.sub p k e) ∧ But rb w ((w.alloc (.cells #[.string ⟨#[115, 116, 109, 116]⟩, .int .i64 p, .iface FPT (.pointer (some ⟨b2, 0, none⟩))] FST)).setCell ⟨rb, 2, none⟩ (.iface FPT (.pointer (some ⟨w.heap.size, 0, none⟩)))) := by
  have hb := alloc_below w (.cells #[.string ⟨#[115, 116, 109, 116]⟩, .int .i64 p, .iface FPT (.pointer (some ⟨b2, 0, none⟩))] FST)
  have hl := h.lt
  refine ⟨(h.below hb).er2 ⟨w.heap.size, b2, by omega, hb2, rfl, ⟨by simp, by simp, by simp⟩, hl2.keep (hb.block b2 hl2.lt)⟩, ((but_refl rb w).alloc _).trans (set_but rb _ 2 _)⟩
set_option maxHeartbeats 4000000 in
set_option maxRecDepth 100000 in
theorem failSub_any (T : List Words.T) (L : Value) (rb : Nat) (w : World) (p b2 k e : Nat) (h : SR T L rb w p .ok) (hl2 : Leaf w b2 wExpr k e) (hb2 : rb + 1 ≤ b2) : Calls Tryz.prog 60 #[.pointer (some ⟨rb, 0, none⟩), .iface FPT (.pointer (some ⟨b2, 0, none⟩))] w fun e' w' => e' = .returned (.tuple #[]) ∧ SR T L rb w' p (.sub p k e) ∧ But rb w w' := by
  obtain ⟨g, hg, hs⟩ := h.ce
  have c1 := h.c1
  have f2 := h.f2
  have hl := h.lt
  have HF := hide (h.failSub hl2 hb2)
  rw [set_alloc hl] at HF
  obtain rfl : g = .nilIface := hs
  clear h hl2
  go_enter Tryz.func60, Tryz.ntmps60
  go_wp2
  go_end0
  exact ⟨rfl, (unhide HF).1, (unhide HF).2⟩
def mustE (b : Bool) (er : SE) (p : Nat) : SE := if b then er else failE er p 2
set_option maxHeartbeats 4000000 in
set_option maxRecDepth 100000 in
theorem must_any (T : List Words.T) (L : Value) (rb : Nat) (w : World) (p : Nat) (er : SE) (c : List UInt8) (h : SR T L rb w p er) : Calls Tryz.prog 55 #[.pointer (some ⟨rb, 0, none⟩), .string ⟨c.toArray⟩] w fun e w' => e = .returned (.tuple #[]) ∧ SR T L rb w' (nextP (isNext T p er c) p) (mustE (isNext T p er c) er p) ∧ But rb w w' := by
  have HS := hide (takes_any T L rb w p er c h)
  generalize isNext T p er c = bb at *
  clear h
  go_enter Tryz.func55, Tryz.ntmps55
  go_wp2_with fail
  refine (unhide HS).mono ?_
  rintro e w1 ⟨rfl, h1, hb1⟩
  have H1 := hide (And.intro h1 hb1)
  clear h1 hb1 HS
  cases bb with
  | true =>
    go_wp2
    go_end0
    exact ⟨rfl, unhide H1⟩
  | false =>
    go_wp2_with fail
    refine (fail_any T L rb w1 p er 2 (unhide H1).1).mono ?_
    rintro e w2 ⟨rfl, h2, hb2⟩
    have H2 := hide (And.intro h2 ((unhide H1).2.trans hb2))
    clear h2 hb2
    go_wp2
    go_end0
    exact ⟨rfl, unhide H2⟩
def nameAt (T : List Words.T) (p : Nat) (b : Bool) : List UInt8 := if b then (match T[p]? with | some t => t.text | none => []) else []
def numAt (T : List Words.T) (p : Nat) (b : Bool) : Nat := if b then (match T[p]? with | some t => t.n | none => 0) else 0
set_option maxHeartbeats 4000000 in
set_option maxRecDepth 100000 in
theorem name_any (T : List Words.T) (L : Value) (rb : Nat) (w : World) (p : Nat) (er : SE) (h : SR T L rb w p er) : Calls Tryz.prog 54 #[.pointer (some ⟨rb, 0, none⟩)] w fun e w' => e = .returned (.string ⟨(nameAt T p (isKind T p er 1)).toArray⟩) ∧ SR T L rb w' (nextP (isKind T p er 1) p) (mustE (isKind T p er 1) er p) ∧ But rb w w' := by
  have HS := hide (seesKind_any T L rb w p er 1 h)
  have H0 := hide h
  have HL : Hid (isKind T p er 1 = true → p < T.length) := hide isKind_lt
  have hp := h.hp
  have ht := h.ht
  generalize isKind T p er 1 = bb at *
  clear h
  cases bb with
  | false =>
    have hv : nameAt T p false = [] := rfl
    rw [hv]
    go_enter Tryz.func54, Tryz.ntmps54
    go_wp2_with fail
    refine (unhide HS).mono ?_
    rintro e w1 ⟨rfl, n, rfl⟩
    have H1 := hide ((unhide H0).drewN n)
    have HB := hide ((but_refl rb w).drewN n)
    generalize w.drewN n = W1 at *
    go_wp2_with fail
    refine (fail_any T L rb W1 p er 2 (unhide H1)).mono ?_
    rintro e w2 ⟨rfl, h2, hb2⟩
    have H2 := hide (And.intro h2 ((unhide HB).trans hb2))
    clear h2 hb2
    go_wp2
    go_ret
    exact ⟨rfl, unhide H2⟩
  | true =>
    have hlt := unhide HL rfl
    have hlt2 : (p : Int) < T.length := by omega
    have hlt3 : ((p : Int) + 1) - 1 = p := by omega
    have hv : nameAt T p true = T[p].text := by unfold nameAt; rw [if_pos rfl, List.getElem?_eq_getElem hlt]
    obtain ⟨tx, htx⟩ : ∃ tx, T[p].text = tx := ⟨_, rfl⟩
    have HTX := hide htx
    rw [hv, htx]
    clear htx
    go_enter Tryz.func54, Tryz.ntmps54
    go_wp2_with fail
    refine (unhide HS).mono ?_
    rintro e w1 ⟨rfl, n, rfl⟩
    have H1 := hide ((unhide H0).drewN n)
    have HB := hide ((but_refl rb w).drewN n)
    generalize w.drewN n = W1 at *
    have c1 := (unhide H1).c1
    have f1 := (unhide H1).f1
    have H2 := hide ((unhide H1).at1 (p' := p + 1) hlt)
    have HB2 := hide ((unhide HB).trans (set_but rb W1 1 (.int .i64 ((p : Int) + 1))))
    have e1 : ((p + 1 : Nat) : Int) = (p : Int) + 1 := by omega
    rw [e1] at H2
    go_upto_region 5 with fail
    obtain ⟨b, o, k, hLe, w0, w1, w3⟩ := (unhide H2).tks.word hlt
    subst hLe
    have d0 := (unhide H2).c0
    have d1 := (unhide H2).c1
    rw [e1] at d1
    rw [unhide HTX] at w1
    clear c1 f1 w0 w3 e1
    generalize W1.setCell ⟨rb, 1, none⟩ (.int .i64 ((p : Int) + 1)) = W2 at *
    go_quiet (fail)
    go_wp2
    go_ret
    exact ⟨rfl, (unhide H2).drewN nq, (unhide HB2).drewN nq⟩
set_option maxHeartbeats 4000000 in
set_option maxRecDepth 100000 in
theorem number_any (T : List Words.T) (L : Value) (rb : Nat) (w : World) (p : Nat) (er : SE) (h : SR T L rb w p er) : Calls Tryz.prog 101 #[.pointer (some ⟨rb, 0, none⟩)] w fun e w' => e = .returned (.int .i64 (numAt T p (isKind T p er 2))) ∧ SR T L rb w' (nextP (isKind T p er 2) p) (mustE (isKind T p er 2) er p) ∧ But rb w w' := by
  have HS := hide (seesKind_any T L rb w p er 2 h)
  have H0 := hide h
  have HL : Hid (isKind T p er 2 = true → p < T.length) := hide isKind_lt
  have hp := h.hp
  have ht := h.ht
  generalize isKind T p er 2 = bb at *
  clear h
  cases bb with
  | false =>
    have hv : numAt T p false = 0 := rfl
    rw [hv]
    go_enter Tryz.func101, Tryz.ntmps101
    go_wp2_with fail
    refine (unhide HS).mono ?_
    rintro e w1 ⟨rfl, n, rfl⟩
    have H1 := hide ((unhide H0).drewN n)
    have HB := hide ((but_refl rb w).drewN n)
    generalize w.drewN n = W1 at *
    go_wp2_with fail
    refine (fail_any T L rb W1 p er 2 (unhide H1)).mono ?_
    rintro e w2 ⟨rfl, h2, hb2⟩
    have H2 := hide (And.intro h2 ((unhide HB).trans hb2))
    clear h2 hb2
    go_wp2
    go_ret
    exact ⟨rfl, unhide H2⟩
  | true =>
    have hlt := unhide HL rfl
    have hlt2 : (p : Int) < T.length := by omega
    have hlt3 : ((p : Int) + 1) - 1 = p := by omega
    have hv : numAt T p true = T[p].n := by unfold numAt; rw [if_pos rfl, List.getElem?_eq_getElem hlt]
    obtain ⟨tx, htx⟩ : ∃ tx, T[p].n = tx := ⟨_, rfl⟩
    have HTX := hide htx
    rw [hv, htx]
    clear htx
    go_enter Tryz.func101, Tryz.ntmps101
    go_wp2_with fail
    refine (unhide HS).mono ?_
    rintro e w1 ⟨rfl, n, rfl⟩
    have H1 := hide ((unhide H0).drewN n)
    have HB := hide ((but_refl rb w).drewN n)
    generalize w.drewN n = W1 at *
    have c1 := (unhide H1).c1
    have f1 := (unhide H1).f1
    have H2 := hide ((unhide H1).at1 (p' := p + 1) hlt)
    have HB2 := hide ((unhide HB).trans (set_but rb W1 1 (.int .i64 ((p : Int) + 1))))
    have e1 : ((p + 1 : Nat) : Int) = (p : Int) + 1 := by omega
    rw [e1] at H2
    go_upto_region 5 with fail
    obtain ⟨b, o, k, hLe, w0, w1, w3⟩ := (unhide H2).tks.word hlt
    subst hLe
    have d0 := (unhide H2).c0
    have d1 := (unhide H2).c1
    rw [e1] at d1
    rw [unhide HTX] at w3
    clear c1 f1 w0 w1 e1
    generalize W1.setCell ⟨rb, 1, none⟩ (.int .i64 ((p : Int) + 1)) = W2 at *
    go_quiet (fail)
    go_wp2
    go_ret
    exact ⟨rfl, (unhide H2).drewN nq, (unhide HB2).drewN nq⟩
set_option maxHeartbeats 4000000 in
set_option maxRecDepth 100000 in
theorem ended_any (T : List Words.T) (L : Value) (rb : Nat) (w : World) (p : Nat) (er : SE) (h : SR T L rb w p er) : Calls Tryz.prog 96 #[.pointer (some ⟨rb, 0, none⟩)] w fun e w' => ∃ (k : Int) (p' : Nat) (er' : SE), e = .returned (.int .i64 k) ∧ SR T L rb w' p' er' ∧ But rb w w' ∧ ((isNext T p er [100, 111] = true ∧ k = 4 ∧ p' = p + 1 ∧ er' = er) ∨ (isNext T p er [100, 111] = false ∧ k = 7 ∧ p' = nextP (isNext T p er [105, 102]) p ∧ er' = mustE (isNext T p er [105, 102]) er p)) := by
  have HS := hide (takes_any T L rb w p er [100, 111] h)
  generalize hbb : isNext T p er [100, 111] = bb at *
  clear h hbb
  cases bb with
  | true =>
    go_enter Tryz.func96, Tryz.ntmps96
    go_wp2_with fail
    refine (unhide HS).mono ?_
    rintro e w1 ⟨rfl, h1, hb1⟩
    have H1 := hide (And.intro h1 hb1)
    clear h1 hb1
    go_wp2
    go_ret
    exact ⟨4, _, er, rfl, (unhide H1).1, (unhide H1).2, .inl ⟨trivial, rfl, rfl, rfl⟩⟩
  | false =>
    go_enter Tryz.func96, Tryz.ntmps96
    go_wp2_with fail
    refine (unhide HS).mono ?_
    rintro e w1 ⟨rfl, h1, hb1⟩
    have H1 := hide (And.intro h1 hb1)
    clear h1 hb1
    go_wp2_with fail
    refine (must_any T L rb w1 p er [105, 102] (unhide H1).1).mono ?_
    rintro e w2 ⟨rfl, h2, hb2⟩
    have H2 := hide (And.intro h2 ((unhide H1).2.trans hb2))
    clear h2 hb2
    go_wp2
    go_ret
    exact ⟨7, _, _, rfl, (unhide H2).1, (unhide H2).2, .inr ⟨trivial, rfl, rfl, rfl⟩⟩
set_option maxHeartbeats 4000000 in
set_option maxRecDepth 100000 in
theorem endS_any (T : List Words.T) (L : Value) (rb : Nat) (w : World) (p : Nat) (er : SE) (h : SR T L rb w p er) : Calls Tryz.prog 22 #[.pointer (some ⟨rb, 0, none⟩)] w fun e w' => e = .returned (.tuple #[]) ∧ SR T L rb w' p (if p < T.length then failE er p 2 else er) ∧ But rb w w' := by
  obtain ⟨la, lc, hL⟩ := h.tks.shape
  subst hL
  have c0 := h.c0
  have c1 := h.c1
  have hp := h.hp
  have ht := h.ht
  have H0 := hide h
  clear h
  by_cases hlt : p < T.length
  · have q0 : decide (p < T.length) = true := decide_eq_true hlt
    rw [if_pos hlt]
    go_enter Tryz.func22, Tryz.ntmps22
    go_wp2_with fail
    go_quiet (fail)
    have H1 := hide ((unhide H0).drewN nq)
    have HB := hide ((but_refl rb w).drewN nq)
    generalize w.drewN nq = W1 at *
    go_wp2_with fail
    refine (fail_any T _ rb W1 p er 2 (unhide H1)).mono ?_
    rintro e w2 ⟨rfl, h2, hb2⟩
    have H2 := hide (And.intro h2 ((unhide HB).trans hb2))
    clear h2 hb2
    go_wp2
    go_end0
    exact ⟨rfl, unhide H2⟩
  · have q0 : decide (p < T.length) = false := decide_eq_false hlt
    rw [if_neg hlt]
    go_enter Tryz.func22, Tryz.ntmps22
    go_wp2_with fail
    go_quiet (fail)
    go_wp2
    go_end0
    exact ⟨rfl, (unhide H0).drewN nq, (but_refl rb w).drewN nq⟩
end Go.Proofs.YtdpjipphbhomkaaGreatDoor.Line

namespace Go.Proofs.YtdpjipphbhomkaaGreatDoor.Line
open Go.ChangeShapes Go.WideShapes Go.ChangeAt Go.RowKit
open Ex (E St)
set_option linter.unusedVariables false

theorem takesT (T : List Words.T) (L : Value) (rb : Nat) (w : World) (p : Nat) (er : SE) (c : List UInt8) (h : SR T L rb w p er) (hc : isNext T p er c = true) : Calls Tryz.prog 95 #[.pointer (some ⟨rb, 0, none⟩), .string ⟨c.toArray⟩] w fun e w' => e = .returned (.bool true) ∧ SR T L rb w' (p + 1) er ∧ But rb w w' := by
  have := takes_any T L rb w p er c h
  rw [hc] at this
  exact this
theorem takesF (T : List Words.T) (L : Value) (rb : Nat) (w : World) (p : Nat) (er : SE) (c : List UInt8) (h : SR T L rb w p er) (hc : isNext T p er c = false) : Calls Tryz.prog 95 #[.pointer (some ⟨rb, 0, none⟩), .string ⟨c.toArray⟩] w fun e w' => e = .returned (.bool false) ∧ SR T L rb w' p er ∧ But rb w w' := by
  have := takes_any T L rb w p er c h
  rw [hc] at this
  exact this
set_option maxHeartbeats 4000000 in
set_option maxRecDepth 100000 in
theorem kind_none (T : List Words.T) (L : Value) (rb : Nat) (w : World) (p : Nat) (er : SE) (h : SR T L rb w p er) (h0 : T.length = 0) : Calls Tryz.prog 52 #[.pointer (some ⟨rb, 0, none⟩)] w fun e w' => e = .returned (.int .i64 0) ∧ SR T L rb w' p er ∧ But rb w w' := by
  obtain ⟨la, lc, hL⟩ := h.tks.shape
  rw [h0] at hL
  subst hL
  have c0 := h.c0
  have H0 := hide h
  clear h
  go_enter Tryz.func52, Tryz.ntmps52
  go_wp2
  go_ret
  exact ⟨rfl, unhide H0, but_refl rb w⟩
set_option maxHeartbeats 4000000 in
set_option maxRecDepth 100000 in
theorem kind_integer (T : List Words.T) (L : Value) (rb : Nat) (w : World) (p : Nat) (er : SE) (h : SR T L rb w p er) (hn : 0 < T.length)  (q0 : isNext T p er [105, 110, 116, 101, 103, 101, 114] = true) : Calls Tryz.prog 52 #[.pointer (some ⟨rb, 0, none⟩)] w fun e w' => e = .returned (.int .i64 1) ∧ SR T L rb w' (p + 1) er ∧ But rb w w' := by
  obtain ⟨la, lc, hL⟩ := h.tks.shape
  have c0 := h.c0
  have ht := h.ht
  have HB0 := hide (but_refl rb w)
  have H0 := hide h
  clear h
  subst hL
  have hn1 : ¬ T.length = 0 := by omega
  have hn2 : ((T.length : Int) == 0) = false := by rw [beq_eq_false_iff_ne]; omega
  have hn3 : ¬ (T.length : Int) = 0 := by omega
  go_enter Tryz.func52, Tryz.ntmps52
  go_wp2_with fail
  refine (takesT T _ rb w p er [105, 110, 116, 101, 103, 101, 114] (unhide H0) q0).mono ?_
  rintro e w1 ⟨rfl, h1, hb1⟩
  have H1 := hide h1
  have HB1 := hide ((unhide HB0).trans hb1)
  clear h1 hb1
  go_wp2
  go_ret
  exact ⟨rfl, unhide H1, unhide HB1⟩
set_option maxHeartbeats 4000000 in
set_option maxRecDepth 100000 in
theorem kind_do (T : List Words.T) (L : Value) (rb : Nat) (w : World) (p : Nat) (er : SE) (h : SR T L rb w p er) (hn : 0 < T.length) (q0 : isNext T p er [105, 110, 116, 101, 103, 101, 114] = false) (q1 : isNext T p er [100, 111] = true) : Calls Tryz.prog 52 #[.pointer (some ⟨rb, 0, none⟩)] w fun e w' => e = .returned (.int .i64 3) ∧ SR T L rb w' (p + 1) er ∧ But rb w w' := by
  obtain ⟨la, lc, hL⟩ := h.tks.shape
  have c0 := h.c0
  have ht := h.ht
  have HB0 := hide (but_refl rb w)
  have H0 := hide h
  clear h
  subst hL
  have hn1 : ¬ T.length = 0 := by omega
  have hn2 : ((T.length : Int) == 0) = false := by rw [beq_eq_false_iff_ne]; omega
  have hn3 : ¬ (T.length : Int) = 0 := by omega
  go_enter Tryz.func52, Tryz.ntmps52
  go_wp2_with fail
  refine (takesF T _ rb w p er [105, 110, 116, 101, 103, 101, 114] (unhide H0) q0).mono ?_
  rintro e w1 ⟨rfl, h1, hb1⟩
  have H1 := hide h1
  have HB1 := hide ((unhide HB0).trans hb1)
  clear h1 hb1
  go_wp2_with fail
  refine (takesT T _ rb w1 p er [100, 111] (unhide H1) q1).mono ?_
  rintro e w2 ⟨rfl, h1, hb1⟩
  have H2 := hide h1
  have HB2 := hide ((unhide HB1).trans hb1)
  clear h1 hb1
  go_wp2
  go_ret
  exact ⟨rfl, unhide H2, unhide HB2⟩
set_option maxHeartbeats 4000000 in
set_option maxRecDepth 100000 in
theorem kind_end (T : List Words.T) (L : Value) (rb : Nat) (w : World) (p : Nat) (er : SE) (h : SR T L rb w p er) (hn : 0 < T.length) (q0 : isNext T p er [105, 110, 116, 101, 103, 101, 114] = false) (q1 : isNext T p er [100, 111] = false) (q2 : isNext T p er [101, 110, 100] = true) : Calls Tryz.prog 52 #[.pointer (some ⟨rb, 0, none⟩)] w fun e w' => ∃ k p' er', e = .returned (.int .i64 k) ∧ SR T L rb w' p' er' ∧ But rb w w' ∧ ((isNext T (p + 1) er [100, 111] = true ∧ k = 4 ∧ p' = p + 1 + 1 ∧ er' = er) ∨ (isNext T (p + 1) er [100, 111] = false ∧ k = 7 ∧ p' = nextP (isNext T (p + 1) er [105, 102]) (p + 1) ∧ er' = mustE (isNext T (p + 1) er [105, 102]) er (p + 1))) := by
  obtain ⟨la, lc, hL⟩ := h.tks.shape
  have c0 := h.c0
  have ht := h.ht
  have HB0 := hide (but_refl rb w)
  have H0 := hide h
  clear h
  subst hL
  have hn1 : ¬ T.length = 0 := by omega
  have hn2 : ((T.length : Int) == 0) = false := by rw [beq_eq_false_iff_ne]; omega
  have hn3 : ¬ (T.length : Int) = 0 := by omega
  go_enter Tryz.func52, Tryz.ntmps52
  go_wp2_with fail
  refine (takesF T _ rb w p er [105, 110, 116, 101, 103, 101, 114] (unhide H0) q0).mono ?_
  rintro e w1 ⟨rfl, h1, hb1⟩
  have H1 := hide h1
  have HB1 := hide ((unhide HB0).trans hb1)
  clear h1 hb1
  go_wp2_with fail
  refine (takesF T _ rb w1 p er [100, 111] (unhide H1) q1).mono ?_
  rintro e w2 ⟨rfl, h1, hb1⟩
  have H2 := hide h1
  have HB2 := hide ((unhide HB1).trans hb1)
  clear h1 hb1
  go_wp2_with fail
  refine (takesT T _ rb w2 p er [101, 110, 100] (unhide H2) q2).mono ?_
  rintro e w3 ⟨rfl, h1, hb1⟩
  have H3 := hide h1
  have HB3 := hide ((unhide HB2).trans hb1)
  clear h1 hb1
  go_wp2_with fail
  refine (ended_any T _ rb w3 (p + 1) er (unhide H3)).mono ?_
  rintro e w9 ⟨k, p', er', rfl, h9, hb9, hr⟩
  have H9 := hide (And.intro h9 (And.intro ((unhide HB3).trans hb9) hr))
  clear h9 hb9 hr
  go_wp2
  go_ret
  exact ⟨k, p', er', rfl, (unhide H9).1, (unhide H9).2.1, (unhide H9).2.2⟩
set_option maxHeartbeats 4000000 in
set_option maxRecDepth 100000 in
theorem kind_if (T : List Words.T) (L : Value) (rb : Nat) (w : World) (p : Nat) (er : SE) (h : SR T L rb w p er) (hn : 0 < T.length) (q0 : isNext T p er [105, 110, 116, 101, 103, 101, 114] = false) (q1 : isNext T p er [100, 111] = false) (q2 : isNext T p er [101, 110, 100] = false) (q3 : isNext T p er [105, 102] = true) : Calls Tryz.prog 52 #[.pointer (some ⟨rb, 0, none⟩)] w fun e w' => e = .returned (.int .i64 5) ∧ SR T L rb w' (p + 1) er ∧ But rb w w' := by
  obtain ⟨la, lc, hL⟩ := h.tks.shape
  have c0 := h.c0
  have ht := h.ht
  have HB0 := hide (but_refl rb w)
  have H0 := hide h
  clear h
  subst hL
  have hn1 : ¬ T.length = 0 := by omega
  have hn2 : ((T.length : Int) == 0) = false := by rw [beq_eq_false_iff_ne]; omega
  have hn3 : ¬ (T.length : Int) = 0 := by omega
  go_enter Tryz.func52, Tryz.ntmps52
  go_wp2_with fail
  refine (takesF T _ rb w p er [105, 110, 116, 101, 103, 101, 114] (unhide H0) q0).mono ?_
  rintro e w1 ⟨rfl, h1, hb1⟩
  have H1 := hide h1
  have HB1 := hide ((unhide HB0).trans hb1)
  clear h1 hb1
  go_wp2_with fail
  refine (takesF T _ rb w1 p er [100, 111] (unhide H1) q1).mono ?_
  rintro e w2 ⟨rfl, h1, hb1⟩
  have H2 := hide h1
  have HB2 := hide ((unhide HB1).trans hb1)
  clear h1 hb1
  go_wp2_with fail
  refine (takesF T _ rb w2 p er [101, 110, 100] (unhide H2) q2).mono ?_
  rintro e w3 ⟨rfl, h1, hb1⟩
  have H3 := hide h1
  have HB3 := hide ((unhide HB2).trans hb1)
  clear h1 hb1
  go_wp2_with fail
  refine (takesT T _ rb w3 p er [105, 102] (unhide H3) q3).mono ?_
  rintro e w4 ⟨rfl, h1, hb1⟩
  have H4 := hide h1
  have HB4 := hide ((unhide HB3).trans hb1)
  clear h1 hb1
  go_wp2
  go_ret
  exact ⟨rfl, unhide H4, unhide HB4⟩
set_option maxHeartbeats 4000000 in
set_option maxRecDepth 100000 in
theorem kind_else (T : List Words.T) (L : Value) (rb : Nat) (w : World) (p : Nat) (er : SE) (h : SR T L rb w p er) (hn : 0 < T.length) (q0 : isNext T p er [105, 110, 116, 101, 103, 101, 114] = false) (q1 : isNext T p er [100, 111] = false) (q2 : isNext T p er [101, 110, 100] = false) (q3 : isNext T p er [105, 102] = false) (q4 : isNext T p er [101, 108, 115, 101] = true) : Calls Tryz.prog 52 #[.pointer (some ⟨rb, 0, none⟩)] w fun e w' => e = .returned (.int .i64 6) ∧ SR T L rb w' (p + 1) er ∧ But rb w w' := by
  obtain ⟨la, lc, hL⟩ := h.tks.shape
  have c0 := h.c0
  have ht := h.ht
  have HB0 := hide (but_refl rb w)
  have H0 := hide h
  clear h
  subst hL
  have hn1 : ¬ T.length = 0 := by omega
  have hn2 : ((T.length : Int) == 0) = false := by rw [beq_eq_false_iff_ne]; omega
  have hn3 : ¬ (T.length : Int) = 0 := by omega
  go_enter Tryz.func52, Tryz.ntmps52
  go_wp2_with fail
  refine (takesF T _ rb w p er [105, 110, 116, 101, 103, 101, 114] (unhide H0) q0).mono ?_
  rintro e w1 ⟨rfl, h1, hb1⟩
  have H1 := hide h1
  have HB1 := hide ((unhide HB0).trans hb1)
  clear h1 hb1
  go_wp2_with fail
  refine (takesF T _ rb w1 p er [100, 111] (unhide H1) q1).mono ?_
  rintro e w2 ⟨rfl, h1, hb1⟩
  have H2 := hide h1
  have HB2 := hide ((unhide HB1).trans hb1)
  clear h1 hb1
  go_wp2_with fail
  refine (takesF T _ rb w2 p er [101, 110, 100] (unhide H2) q2).mono ?_
  rintro e w3 ⟨rfl, h1, hb1⟩
  have H3 := hide h1
  have HB3 := hide ((unhide HB2).trans hb1)
  clear h1 hb1
  go_wp2_with fail
  refine (takesF T _ rb w3 p er [105, 102] (unhide H3) q3).mono ?_
  rintro e w4 ⟨rfl, h1, hb1⟩
  have H4 := hide h1
  have HB4 := hide ((unhide HB3).trans hb1)
  clear h1 hb1
  go_wp2_with fail
  refine (takesT T _ rb w4 p er [101, 108, 115, 101] (unhide H4) q4).mono ?_
  rintro e w5 ⟨rfl, h1, hb1⟩
  have H5 := hide h1
  have HB5 := hide ((unhide HB4).trans hb1)
  clear h1 hb1
  go_wp2
  go_ret
  exact ⟨rfl, unhide H5, unhide HB5⟩
set_option maxHeartbeats 4000000 in
set_option maxRecDepth 100000 in
theorem kind_read (T : List Words.T) (L : Value) (rb : Nat) (w : World) (p : Nat) (er : SE) (h : SR T L rb w p er) (hn : 0 < T.length) (q0 : isNext T p er [105, 110, 116, 101, 103, 101, 114] = false) (q1 : isNext T p er [100, 111] = false) (q2 : isNext T p er [101, 110, 100] = false) (q3 : isNext T p er [105, 102] = false) (q4 : isNext T p er [101, 108, 115, 101] = false) (q5 : isNext T p er [114, 101, 97, 100] = true) : Calls Tryz.prog 52 #[.pointer (some ⟨rb, 0, none⟩)] w fun e w' => e = .returned (.int .i64 8) ∧ SR T L rb w' (p + 1) er ∧ But rb w w' := by
  obtain ⟨la, lc, hL⟩ := h.tks.shape
  have c0 := h.c0
  have ht := h.ht
  have HB0 := hide (but_refl rb w)
  have H0 := hide h
  clear h
  subst hL
  have hn1 : ¬ T.length = 0 := by omega
  have hn2 : ((T.length : Int) == 0) = false := by rw [beq_eq_false_iff_ne]; omega
  have hn3 : ¬ (T.length : Int) = 0 := by omega
  go_enter Tryz.func52, Tryz.ntmps52
  go_wp2_with fail
  refine (takesF T _ rb w p er [105, 110, 116, 101, 103, 101, 114] (unhide H0) q0).mono ?_
  rintro e w1 ⟨rfl, h1, hb1⟩
  have H1 := hide h1
  have HB1 := hide ((unhide HB0).trans hb1)
  clear h1 hb1
  go_wp2_with fail
  refine (takesF T _ rb w1 p er [100, 111] (unhide H1) q1).mono ?_
  rintro e w2 ⟨rfl, h1, hb1⟩
  have H2 := hide h1
  have HB2 := hide ((unhide HB1).trans hb1)
  clear h1 hb1
  go_wp2_with fail
  refine (takesF T _ rb w2 p er [101, 110, 100] (unhide H2) q2).mono ?_
  rintro e w3 ⟨rfl, h1, hb1⟩
  have H3 := hide h1
  have HB3 := hide ((unhide HB2).trans hb1)
  clear h1 hb1
  go_wp2_with fail
  refine (takesF T _ rb w3 p er [105, 102] (unhide H3) q3).mono ?_
  rintro e w4 ⟨rfl, h1, hb1⟩
  have H4 := hide h1
  have HB4 := hide ((unhide HB3).trans hb1)
  clear h1 hb1
  go_wp2_with fail
  refine (takesF T _ rb w4 p er [101, 108, 115, 101] (unhide H4) q4).mono ?_
  rintro e w5 ⟨rfl, h1, hb1⟩
  have H5 := hide h1
  have HB5 := hide ((unhide HB4).trans hb1)
  clear h1 hb1
  go_wp2_with fail
  refine (takesT T _ rb w5 p er [114, 101, 97, 100] (unhide H5) q5).mono ?_
  rintro e w6 ⟨rfl, h1, hb1⟩
  have H6 := hide h1
  have HB6 := hide ((unhide HB5).trans hb1)
  clear h1 hb1
  go_wp2
  go_ret
  exact ⟨rfl, unhide H6, unhide HB6⟩
set_option maxHeartbeats 4000000 in
set_option maxRecDepth 100000 in
theorem kind_print (T : List Words.T) (L : Value) (rb : Nat) (w : World) (p : Nat) (er : SE) (h : SR T L rb w p er) (hn : 0 < T.length) (q0 : isNext T p er [105, 110, 116, 101, 103, 101, 114] = false) (q1 : isNext T p er [100, 111] = false) (q2 : isNext T p er [101, 110, 100] = false) (q3 : isNext T p er [105, 102] = false) (q4 : isNext T p er [101, 108, 115, 101] = false) (q5 : isNext T p er [114, 101, 97, 100] = false) (q6 : isNext T p er [112, 114, 105, 110, 116] = true) : Calls Tryz.prog 52 #[.pointer (some ⟨rb, 0, none⟩)] w fun e w' => e = .returned (.int .i64 9) ∧ SR T L rb w' (p + 1) er ∧ But rb w w' := by
  obtain ⟨la, lc, hL⟩ := h.tks.shape
  have c0 := h.c0
  have ht := h.ht
  have HB0 := hide (but_refl rb w)
  have H0 := hide h
  clear h
  subst hL
  have hn1 : ¬ T.length = 0 := by omega
  have hn2 : ((T.length : Int) == 0) = false := by rw [beq_eq_false_iff_ne]; omega
  have hn3 : ¬ (T.length : Int) = 0 := by omega
  go_enter Tryz.func52, Tryz.ntmps52
  go_wp2_with fail
  refine (takesF T _ rb w p er [105, 110, 116, 101, 103, 101, 114] (unhide H0) q0).mono ?_
  rintro e w1 ⟨rfl, h1, hb1⟩
  have H1 := hide h1
  have HB1 := hide ((unhide HB0).trans hb1)
  clear h1 hb1
  go_wp2_with fail
  refine (takesF T _ rb w1 p er [100, 111] (unhide H1) q1).mono ?_
  rintro e w2 ⟨rfl, h1, hb1⟩
  have H2 := hide h1
  have HB2 := hide ((unhide HB1).trans hb1)
  clear h1 hb1
  go_wp2_with fail
  refine (takesF T _ rb w2 p er [101, 110, 100] (unhide H2) q2).mono ?_
  rintro e w3 ⟨rfl, h1, hb1⟩
  have H3 := hide h1
  have HB3 := hide ((unhide HB2).trans hb1)
  clear h1 hb1
  go_wp2_with fail
  refine (takesF T _ rb w3 p er [105, 102] (unhide H3) q3).mono ?_
  rintro e w4 ⟨rfl, h1, hb1⟩
  have H4 := hide h1
  have HB4 := hide ((unhide HB3).trans hb1)
  clear h1 hb1
  go_wp2_with fail
  refine (takesF T _ rb w4 p er [101, 108, 115, 101] (unhide H4) q4).mono ?_
  rintro e w5 ⟨rfl, h1, hb1⟩
  have H5 := hide h1
  have HB5 := hide ((unhide HB4).trans hb1)
  clear h1 hb1
  go_wp2_with fail
  refine (takesF T _ rb w5 p er [114, 101, 97, 100] (unhide H5) q5).mono ?_
  rintro e w6 ⟨rfl, h1, hb1⟩
  have H6 := hide h1
  have HB6 := hide ((unhide HB5).trans hb1)
  clear h1 hb1
  go_wp2_with fail
  refine (takesT T _ rb w6 p er [112, 114, 105, 110, 116] (unhide H6) q6).mono ?_
  rintro e w7 ⟨rfl, h1, hb1⟩
  have H7 := hide h1
  have HB7 := hide ((unhide HB6).trans hb1)
  clear h1 hb1
  go_wp2
  go_ret
  exact ⟨rfl, unhide H7, unhide HB7⟩
set_option maxHeartbeats 4000000 in
set_option maxRecDepth 100000 in
theorem kind_set (T : List Words.T) (L : Value) (rb : Nat) (w : World) (p : Nat) (er : SE) (h : SR T L rb w p er) (hn : 0 < T.length) (q0 : isNext T p er [105, 110, 116, 101, 103, 101, 114] = false) (q1 : isNext T p er [100, 111] = false) (q2 : isNext T p er [101, 110, 100] = false) (q3 : isNext T p er [105, 102] = false) (q4 : isNext T p er [101, 108, 115, 101] = false) (q5 : isNext T p er [114, 101, 97, 100] = false) (q6 : isNext T p er [112, 114, 105, 110, 116] = false) : Calls Tryz.prog 52 #[.pointer (some ⟨rb, 0, none⟩)] w fun e w' => e = .returned (.int .i64 2) ∧ SR T L rb w' p er ∧ But rb w w' := by
  obtain ⟨la, lc, hL⟩ := h.tks.shape
  have c0 := h.c0
  have ht := h.ht
  have HB0 := hide (but_refl rb w)
  have H0 := hide h
  clear h
  subst hL
  have hn1 : ¬ T.length = 0 := by omega
  have hn2 : ((T.length : Int) == 0) = false := by rw [beq_eq_false_iff_ne]; omega
  have hn3 : ¬ (T.length : Int) = 0 := by omega
  go_enter Tryz.func52, Tryz.ntmps52
  go_wp2_with fail
  refine (takesF T _ rb w p er [105, 110, 116, 101, 103, 101, 114] (unhide H0) q0).mono ?_
  rintro e w1 ⟨rfl, h1, hb1⟩
  have H1 := hide h1
  have HB1 := hide ((unhide HB0).trans hb1)
  clear h1 hb1
  go_wp2_with fail
  refine (takesF T _ rb w1 p er [100, 111] (unhide H1) q1).mono ?_
  rintro e w2 ⟨rfl, h1, hb1⟩
  have H2 := hide h1
  have HB2 := hide ((unhide HB1).trans hb1)
  clear h1 hb1
  go_wp2_with fail
  refine (takesF T _ rb w2 p er [101, 110, 100] (unhide H2) q2).mono ?_
  rintro e w3 ⟨rfl, h1, hb1⟩
  have H3 := hide h1
  have HB3 := hide ((unhide HB2).trans hb1)
  clear h1 hb1
  go_wp2_with fail
  refine (takesF T _ rb w3 p er [105, 102] (unhide H3) q3).mono ?_
  rintro e w4 ⟨rfl, h1, hb1⟩
  have H4 := hide h1
  have HB4 := hide ((unhide HB3).trans hb1)
  clear h1 hb1
  go_wp2_with fail
  refine (takesF T _ rb w4 p er [101, 108, 115, 101] (unhide H4) q4).mono ?_
  rintro e w5 ⟨rfl, h1, hb1⟩
  have H5 := hide h1
  have HB5 := hide ((unhide HB4).trans hb1)
  clear h1 hb1
  go_wp2_with fail
  refine (takesF T _ rb w5 p er [114, 101, 97, 100] (unhide H5) q5).mono ?_
  rintro e w6 ⟨rfl, h1, hb1⟩
  have H6 := hide h1
  have HB6 := hide ((unhide HB5).trans hb1)
  clear h1 hb1
  go_wp2_with fail
  refine (takesF T _ rb w6 p er [112, 114, 105, 110, 116] (unhide H6) q6).mono ?_
  rintro e w7 ⟨rfl, h1, hb1⟩
  have H7 := hide h1
  have HB7 := hide ((unhide HB6).trans hb1)
  clear h1 hb1
  go_wp2_with fail
  go_ret
  exact ⟨rfl, unhide H7, unhide HB7⟩
end Go.Proofs.YtdpjipphbhomkaaGreatDoor.Line

namespace Go.Proofs.YtdpjipphbhomkaaGreatDoor.Line
open Go.ChangeShapes Go.WideShapes Go.ChangeAt Go.RowKit
open Ex (E St)
set_option linter.unusedVariables false

set_option maxHeartbeats 4000000 in
set_option maxRecDepth 100000 in
theorem tookOk_any (T : List Words.T) (L : Value) (rb : Nat) (w : World) (p n : Nat) (er : SE) (h : SR T L rb w p er) (hn : p + n ≤ T.length) : Calls Tryz.prog 100 #[.pointer (some ⟨rb, 0, none⟩), .int .i64 n, .nilIface] w fun e w' => e = .returned (.tuple #[]) ∧ SR T L rb w' (p + n) er ∧ But rb w w' := by
  have c1 := h.c1
  have f1 := h.f1
  have ht := h.ht
  have H2 := hide (h.at1 (p' := p + n) hn)
  clear h
  have e1 : ((p + n : Nat) : Int) = (p : Int) + n := by omega
  rw [e1] at H2
  clear e1
  go_enter Tryz.func100, Tryz.ntmps100
  go_wp2
  exact bodyPost_ret (v := .tuple #[]) (by simp [results, Tryz.results100, go_sem]) rfl ⟨rfl, unhide H2, set_but rb _ 1 _⟩
set_option maxHeartbeats 4000000 in
set_option maxRecDepth 100000 in
theorem tookErr_any (T : List Words.T) (L : Value) (rb : Nat) (w : World) (p n b2 k e : Nat) (h : SR T L rb w p .ok) (hG : Glob w) (hl2 : Leaf w b2 wExpr k e) (hb2 : rb + 1 ≤ b2) (hk : p + k ≤ T.length) : Calls Tryz.prog 100 #[.pointer (some ⟨rb, 0, none⟩), .int .i64 n, .iface FPT (.pointer (some ⟨b2, 0, none⟩))] w fun e' w' => e' = .returned (.tuple #[]) ∧ SR T L rb w' (p + k) (.sub (p + k) k e) ∧ But rb w w' := by
  have ht := h.ht
  have hlt := h.lt
  have ba := alloc_below w (.cells #[.pointer none] FPT)
  have hz : (w.alloc (.cells #[.pointer none] FPT)).heap.size = w.heap.size + 1 := by simp
  have t0 : (w.alloc (.cells #[.pointer none] FPT)).cell? ⟨w.heap.size, 0, none⟩ = some (.pointer none) := by simp
  have t1 : (w.alloc (.cells #[.pointer none] FPT)).frozen? ⟨w.heap.size, 0, none⟩ = false := by simp
  have H1 := hide (And.intro (h.below ba) (And.intro (hG.below ba) (And.intro (hl2.keep (ba.block b2 hl2.lt)) ba)))
  have HA := hide (Err.as_hit45 ⟨b2, 0, none⟩ ⟨w.heap.size, 0, none⟩ (.pointer none) _ (hG.below ba) t0 t1)
  have hbl := hl2.lt
  have H0 := hide (And.intro h hl2)
  clear h hl2 ba t0 t1 hG
  have e1 : ((p + k : Nat) : Int) = (p : Int) + k := by omega
  go_enter Tryz.func100, Tryz.ntmps100
  go_wp2_with fail
  refine (unhide HA).mono ?_
  rintro ev w2 ⟨rfl, x0, hB2, hS2⟩
  have hB3 : Below w.heap.size w w2 := (unhide H1).2.2.2.trans hB2
  have hS3 : w.heap.size + 1 ≤ w2.heap.size := by rw [← hz]; exact hS2
  have H3 := hide (And.intro ((unhide H0).1.below hB3) (And.intro ((unhide H0).2.keep (hB3.block b2 hbl)) hB3))
  have d1 := (unhide H3).1.c1
  have g1 := (unhide H3).1.f1
  have l1 := (unhide H3).2.1.2.1
  have H4 := hide ((unhide H3).1.at1 (p' := p + k) hk)
  have HL4 := hide ((unhide H3).2.1.keep ((set_but rb w2 1 (.int .i64 ((p + k : Nat) : Int))).block b2 (Nat.lt_of_lt_of_le hbl hB3.size) (fun e => by injection e with e; omega)))
  rw [e1] at H4 HL4
  clear hB2 hB3 H1 HA
  go_wp2_with fail
  go_region
  all_goals (
    go_wp2_with fail
    refine (failSub_any T L rb _ (p + k) b2 k e ((unhide H4).drewN 1) ((unhide HL4).keep rfl) hb2).mono ?_
    rintro ev w5 ⟨rfl, h5, hb5⟩
    have H5 := hide (And.intro h5 ((((but_below (unhide H3).2.2).trans (set_but rb w2 1 _)).drewN 1).trans hb5))
    clear h5 hb5
    go_wp2
    go_end0
    exact ⟨rfl, unhide H5⟩)
/-- how a step is read: its number, the place behind, what is wrong -/
def stepR (T : List Words.T) (p : Nat) (er : SE) : Int × Nat × SE :=
  if isNext T p er [44] then
    (if isNext T (p + 1) er [45] then (-(numAt T (p + 2) (isKind T (p + 2) er 2) : Int), nextP (isKind T (p + 2) er 2) (p + 2), mustE (isKind T (p + 2) er 2) er (p + 2))
     else ((numAt T (p + 1) (isKind T (p + 1) er 2) : Int), nextP (isKind T (p + 1) er 2) (p + 1), mustE (isKind T (p + 1) er 2) er (p + 1)))
  else (1, p, er)
def NumOk (T : List Words.T) : Prop := ∀ t ∈ T, t.n ≤ 9223372036854775807
theorem numAt_le {T : List Words.T} (h : NumOk T) (p : Nat) (b : Bool) : numAt T p b ≤ 9223372036854775807 := by
  unfold numAt
  cases b with
  | false => exact Nat.zero_le _
  | true =>
    rw [if_pos rfl]
    split
    · rename_i t ht
      exact h t (List.mem_of_getElem? ht)
    · exact Nat.zero_le _
set_option maxHeartbeats 4000000 in
set_option maxRecDepth 100000 in
theorem step_any (T : List Words.T) (L : Value) (rb : Nat) (w : World) (p : Nat) (er : SE) (h : SR T L rb w p er) (hN : NumOk T) : Calls Tryz.prog 57 #[.pointer (some ⟨rb, 0, none⟩)] w fun e w' => e = .returned (.int .i64 (stepR T p er).1) ∧ SR T L rb w' (stepR T p er).2.1 (stepR T p er).2.2 ∧ But rb w w' := by
  have HS := hide (takes_any T L rb w p er [44] h)
  unfold stepR
  cases hbb : isNext T p er [44] with
  | false =>
    rw [hbb] at HS
    rw [if_neg (by decide)]
    clear h hbb
    go_enter Tryz.func57, Tryz.ntmps57
    go_wp2_with fail
    refine (unhide HS).mono ?_
    rintro e w1 ⟨rfl, h1, hb1⟩
    have H1 := hide (And.intro h1 hb1)
    clear h1 hb1
    go_wp2
    go_ret
    exact ⟨rfl, unhide H1⟩
  | true =>
    rw [hbb] at HS
    rw [if_pos rfl]
    clear h hbb
    have HS2 : Hid (∀ W, SR T L rb W (p + 1) er → _) := hide (fun W hW => takes_any T L rb W (p + 1) er [45] hW)
    cases hb2 : isNext T (p + 1) er [45] with
    | true =>
      rw [hb2] at HS2
      rw [if_pos rfl]
      have hnl := numAt_le hN (p + 2) (isKind T (p + 2) er 2)
      have HN2 := hide (fun W hW => number_any T L rb W (p + 2) er hW)
      generalize numAt T (p + 2) (isKind T (p + 2) er 2) = m at *
      clear hb2
      go_enter Tryz.func57, Tryz.ntmps57
      go_wp2_with fail
      refine (unhide HS).mono ?_
      rintro e w1 ⟨rfl, h1, hb1⟩
      have H1 := hide (And.intro h1 hb1)
      clear h1 hb1
      go_wp2_with fail
      refine (unhide HS2 w1 (unhide H1).1).mono ?_
      rintro e w2 ⟨rfl, h2, hb2⟩
      have H2 := hide (And.intro h2 ((unhide H1).2.trans hb2))
      clear h2 hb2
      go_wp2_with fail
      refine (unhide HN2 w2 (unhide H2).1).mono ?_
      rintro e w3 ⟨rfl, h3, hb3⟩
      have H3 := hide (And.intro h3 ((unhide H2).2.trans hb3))
      clear h3 hb3
      go_wp2
      go_ret
      exact ⟨rfl, unhide H3⟩
    | false =>
      rw [hb2] at HS2
      rw [if_neg (by decide)]
      have HN2 := hide (fun W hW => number_any T L rb W (p + 1) er hW)
      generalize numAt T (p + 1) (isKind T (p + 1) er 2) = m at *
      clear hb2
      go_enter Tryz.func57, Tryz.ntmps57
      go_wp2_with fail
      refine (unhide HS).mono ?_
      rintro e w1 ⟨rfl, h1, hb1⟩
      have H1 := hide (And.intro h1 hb1)
      clear h1 hb1
      go_wp2_with fail
      refine (unhide HS2 w1 (unhide H1).1).mono ?_
      rintro e w2 ⟨rfl, h2, hb2⟩
      have H2 := hide (And.intro h2 ((unhide H1).2.trans hb2))
      clear h2 hb2
      go_wp2_with fail
      refine (unhide HN2 w2 (unhide H2).1).mono ?_
      rintro e w3 ⟨rfl, h3, hb3⟩
      have H3 := hide (And.intro h3 ((unhide H2).2.trans hb3))
      clear h3 hb3
      go_wp2
      go_ret
      exact ⟨rfl, unhide H3⟩
end Go.Proofs.YtdpjipphbhomkaaGreatDoor.Line

namespace Go.Proofs.YtdpjipphbhomkaaGreatDoor.Line
open Go.ChangeShapes Go.WideShapes Go.ChangeAt Go.RowKit
set_option linter.unusedVariables false

theorem runT_slice2 {w : World} (a : Option Addr) (n cap lo hi : Nat) (h1 : lo ≤ hi) (h2 : hi ≤ cap) : (Instr.slice 74 (.slice a n cap) (some (.int .i64 lo)) (some (.int .i64 hi)) none).run Tryz.prog w = .ok (.slice (if cap = lo then a else a.map (·.add (lo * 4))) (hi - lo) (cap - lo)) w := by
  obtain ⟨i0, hi0, hz0, hz1, hz2⟩ := info_parts infoTok
  simp [Instr.slice, run_underlying Tryz.underlying74, sizeOf, typeInfo, hi0, hz1, Instr.sliceBounds, Instr.sliceBound, asIntOf, h1, h2]
theorem runT_slice1 {w : World} (a : Option Addr) (n cap lo : Nat) (h1 : lo ≤ n) (h2 : n ≤ cap) : (Instr.slice 74 (.slice a n cap) (some (.int .i64 lo)) none none).run Tryz.prog w = .ok (.slice (if cap = lo then a else a.map (·.add (lo * 4))) (n - lo) (cap - lo)) w := by
  obtain ⟨i0, hi0, hz0, hz1, hz2⟩ := info_parts infoTok
  simp [Instr.slice, run_underlying Tryz.underlying74, sizeOf, typeInfo, hi0, hz1, Instr.sliceBounds, Instr.sliceBound, asIntOf, h1]
theorem add_at (b off k : Nat) : (⟨b, off, none⟩ : Addr).add k = ⟨b, off + k, none⟩ := by
  unfold Addr.add
  by_cases h : k = 0
  · simp [h]
  · simp [h]
/-- words lo to hi of a row -/
theorem Tks.cut {w : World} {L : Value} {T : List Words.T} (h : Tks w L T) (lo hi : Nat) (h1 : lo ≤ hi) (h2 : hi ≤ T.length) :
    ∃ a cap, L = .slice a T.length cap ∧ T.length ≤ cap ∧ Tks w (.slice (if cap = lo then a else a.map (·.add (lo * 4))) (hi - lo) (cap - lo)) ((T.drop lo).take (hi - lo)) ∧ (∀ q, (Value.slice (if cap = lo then a else a.map (·.add (lo * 4))) (hi - lo) (cap - lo)).ownBlock = some q → L.ownBlock = some q) := by
  rcases h with ⟨a, cap, rfl, rfl⟩ | ⟨b, off, cap, rfl, hc, h⟩
  · obtain rfl : hi = 0 := by simpa using h2
    obtain rfl : lo = 0 := by omega
    refine ⟨a, cap, rfl, by simp, .inl ⟨_, _, rfl, by simp⟩, fun q hq => ?_⟩
    split at hq
    · exact hq
    · cases a with
      | none => exact hq
      | some x => exact hq
  · refine ⟨_, cap, rfl, hc, ?_, fun q hq => ?_⟩
    · by_cases hcap : cap = lo
      · rw [if_pos hcap]
        have : hi - lo = 0 := by omega
        rw [this]
        exact .inl ⟨_, _, rfl, by simp⟩
      · rw [if_neg hcap]
        show Tks w (.slice (some ((⟨b, off, none⟩ : Addr).add (lo * 4))) _ _) _
        rw [add_at]
        have hl : ((T.drop lo).take (hi - lo)).length = hi - lo := by rw [List.length_take, List.length_drop]; omega
        refine .inr ⟨b, off + lo * 4, cap - lo, by rw [hl], by rw [hl]; omega, fun i hi' => ?_⟩
        rw [hl] at hi'
        have hg : ((T.drop lo).take (hi - lo))[i]'(by rw [hl]; exact hi') = T[lo + i]'(by omega) := by simp
        rw [hg]
        have := h (lo + i) (by omega)
        rw [show off + lo * 4 + i * 4 = off + (lo + i) * 4 by omega]
        exact this
    · split at hq
      · exact hq
      · rw [Option.map_some, add_at] at hq
        exact hq
end Go.Proofs.YtdpjipphbhomkaaGreatDoor.Line

namespace Go.Proofs.YtdpjipphbhomkaaGreatDoor.Ex
set_option linter.unusedVariables false
open Words (T)

def In (l : List T) (s : St) : Prop := s.pos ≤ l.length ∧ s.bad ≤ l.length
theorem In.fail {l : List T} {s : St} (h : In l s) (e : Nat) : In l (s.fail s.pos e) := by
  unfold St.fail
  split
  · exact ⟨h.1, h.1⟩
  · exact h
theorem In.next {l : List T} {s : St} (h : In l s) (hl : s.pos < l.length) : In l s.next := ⟨hl, h.2⟩
theorem In.sign {l : List T} {s : St} {c : List UInt8} (h : In l s) (hc : isSign l s c = true) : In l s.next := h.next (isSign_lt hc).2
theorem In.close {l : List T} {s : St} (h : In l s) : In l (if isSign l s [41] then s.next else s.fail s.pos 2) := by
  cases c : isSign l s [41]
  · exact h.fail 2
  · exact h.sign c
structure Ps (l : List T) (f : Nat) : Prop where
  fac : ∀ d s x s1, In l s → pFactor l f d s = some (x, s1) → In l s1
  prods : ∀ d e s x s1, In l s → pProds l f d e s = some (x, s1) → In l s1
  term : ∀ d s x s1, In l s → pTerm l f d s = some (x, s1) → In l s1
  sums : ∀ d e s x s1, In l s → pSums l f d e s = some (x, s1) → In l s1
  exp : ∀ d s x s1, In l s → pExpr l f d s = some (x, s1) → In l s1
  subs : ∀ d s xs s1, In l s → pSubs l f d s = some (xs, s1) → In l s1
  more : ∀ d xs s ys s1, In l s → pMore l f d xs s = some (ys, s1) → In l s1
theorem pos_all (l : List T) : ∀ f, Ps l f := by
  intro f
  induction f with
  | zero => refine ⟨?_, ?_, ?_, ?_, ?_, ?_, ?_⟩ <;> intros <;> rename_i h <;> simp_all [pFactor, pProds, pTerm, pSums, pExpr, pSubs, pMore]
  | succ f ih =>
    refine ⟨?_, ?_, ?_, ?_, ?_, ?_, ?_⟩
    · intro d s x s1 hi h
      rw [pFactor] at h
      split at h
      · obtain ⟨rfl, rfl⟩ := Prod.mk.inj (Option.some.inj h)
        exact hi
      · cases ht : l[s.pos]? with
        | none =>
          rw [ht] at h
          obtain ⟨rfl, rfl⟩ := Prod.mk.inj (Option.some.inj h)
          exact hi.fail 2
        | some t =>
          rw [ht] at h
          have hlt : s.pos < l.length := (List.getElem?_eq_some_iff.1 ht).1
          simp only at h
          split at h
          · obtain ⟨rfl, rfl⟩ := Prod.mk.inj (Option.some.inj h)
            exact hi.next hlt
          · split at h
            · split at h
              · rename_i hc
                cases h2 : pSubs l f d s.next.next with
                | none => rw [h2] at h; cases h
                | some q =>
                  rw [h2] at h
                  obtain ⟨rfl, rfl⟩ := Prod.mk.inj (Option.some.inj h)
                  exact ih.subs _ _ _ _ ((hi.next hlt).sign hc) h2
              · obtain ⟨rfl, rfl⟩ := Prod.mk.inj (Option.some.inj h)
                exact hi.next hlt
            · split at h
              · split at h
                · obtain ⟨rfl, rfl⟩ := Prod.mk.inj (Option.some.inj h)
                  exact hi.fail 4
                · split at h
                  · cases h2 : pFactor l f (d + 1) s.next with
                    | none => rw [h2] at h; cases h
                    | some q =>
                      rw [h2] at h
                      obtain ⟨rfl, rfl⟩ := Prod.mk.inj (Option.some.inj h)
                      exact ih.fac _ _ _ _ (hi.next hlt) h2
                  · cases h2 : pExpr l f (d + 1) s.next with
                    | none => rw [h2] at h; cases h
                    | some q =>
                      rw [h2] at h
                      obtain ⟨rfl, rfl⟩ := Prod.mk.inj (Option.some.inj h)
                      exact (ih.exp _ _ _ _ (hi.next hlt) h2).close
              · obtain ⟨rfl, rfl⟩ := Prod.mk.inj (Option.some.inj h)
                exact hi.fail 2
    · intro d e s x s1 hi h
      rw [pProds] at h
      split at h
      · rename_i hc
        cases h2 : pFactor l f d s.next with
        | none => rw [h2] at h; cases h
        | some q => rw [h2] at h; exact ih.prods _ _ _ _ _ (ih.fac _ _ _ _ (hi.sign hc) h2) h
      · split at h
        · rename_i hc
          cases h2 : pFactor l f d s.next with
          | none => rw [h2] at h; cases h
          | some q => rw [h2] at h; exact ih.prods _ _ _ _ _ (ih.fac _ _ _ _ (hi.sign hc) h2) h
        · obtain ⟨rfl, rfl⟩ := Prod.mk.inj (Option.some.inj h)
          exact hi
    · intro d s x s1 hi h
      rw [pTerm] at h
      cases h2 : pFactor l f d s with
      | none => rw [h2] at h; cases h
      | some q => rw [h2] at h; exact ih.prods _ _ _ _ _ (ih.fac _ _ _ _ hi h2) h
    · intro d e s x s1 hi h
      rw [pSums] at h
      split at h
      · rename_i hc
        cases h2 : pTerm l f d s.next with
        | none => rw [h2] at h; cases h
        | some q => rw [h2] at h; exact ih.sums _ _ _ _ _ (ih.term _ _ _ _ (hi.sign hc) h2) h
      · split at h
        · rename_i hc
          cases h2 : pTerm l f d s.next with
          | none => rw [h2] at h; cases h
          | some q => rw [h2] at h; exact ih.sums _ _ _ _ _ (ih.term _ _ _ _ (hi.sign hc) h2) h
        · obtain ⟨rfl, rfl⟩ := Prod.mk.inj (Option.some.inj h)
          exact hi
    · intro d s x s1 hi h
      rw [pExpr] at h
      cases h2 : pTerm l f d s with
      | none => rw [h2] at h; cases h
      | some q => rw [h2] at h; exact ih.sums _ _ _ _ _ (ih.term _ _ _ _ hi h2) h
    · intro d s xs s1 hi h
      rw [pSubs] at h
      cases h2 : pExpr l f d s with
      | none => rw [h2] at h; cases h
      | some q => rw [h2] at h; exact ih.more _ _ _ _ _ (ih.exp _ _ _ _ hi h2) h
    · intro d xs s ys s1 hi h
      rw [pMore] at h
      split at h
      · rename_i hc
        split at h
        · obtain ⟨rfl, rfl⟩ := Prod.mk.inj (Option.some.inj h)
          exact hi.fail 4
        · cases h2 : pExpr l f d s.next with
          | none => rw [h2] at h; cases h
          | some q => rw [h2] at h; exact ih.more _ _ _ _ _ (ih.exp _ _ _ _ (hi.sign hc) h2) h
      · obtain ⟨rfl, rfl⟩ := Prod.mk.inj (Option.some.inj h)
        exact hi.close
theorem RExpr.inn {l : List T} {d : Nat} {s s1 : St} {x : E} (h : RExpr l d s (x, s1)) (hi : In l s) : In l s1 := by
  obtain ⟨f, hf⟩ := h
  exact (pos_all l f).exp _ _ _ _ hi hf
end Go.Proofs.YtdpjipphbhomkaaGreatDoor.Ex
