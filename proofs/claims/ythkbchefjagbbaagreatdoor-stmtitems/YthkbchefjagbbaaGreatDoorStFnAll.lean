/- The reader of statements in its block (SR); what is wrong with a line, in memory (Se); what keeps them.
   The contracts of the statement reader's small methods: sees, seesKind, takes, fail, must, name, number, ended, step, end.
   The contract of the statement reader's kind, a case a theorem. -/
import Derived.Test.YthkbchefjagbbaaGreatDoorExRd
import Derived.Deep.QuietTactic
import Derived.BigQuiet
namespace Go.Proofs.YthkbchefjagbbaaGreatDoor.Line
open Go.ChangeShapes Go.WideShapes Go.ChangeAt Go.RowKit
open Ex (E St)
set_option linter.unusedVariables false

/-- what is wrong: nothing; a word; a word of an expression (of so many words ahead) -/
inductive SE
  | ok
  | leaf (at_ e : Nat)
  | sub (at_ k e : Nat)
deriving DecidableEq
abbrev wStmt : List UInt8 := [115, 116, 109, 116]
abbrev FPT : TypeId := 137
abbrev FST : TypeId := 139
abbrev ENT : TypeId := 147
abbrev SRT : TypeId := 141
/-- a Fault that wraps a plain error -/
def Leaf (w : World) (b : Nat) (word : List UInt8) (at_ e : Nat) : Prop := w.cell? ⟨b, 0, none⟩ = some (.string ⟨word.toArray⟩) ∧ w.cell? ⟨b, 1, none⟩ = some (.int .i64 at_) ∧ w.cell? ⟨b, 2, none⟩ = some (.iface ENT (.int .i64 e))
theorem Leaf.lt {w : World} {b : Nat} {word : List UInt8} {at_ e : Nat} (h : Leaf w b word at_ e) : b < w.heap.size := cell_lt h.1
theorem Leaf.keep {w w' : World} {b : Nat} {word : List UInt8} {at_ e : Nat} (h : Leaf w b word at_ e) (hb : w'.heap[b]? = w.heap[b]?) : Leaf w' b word at_ e := by
  have hc : ∀ o, w'.cell? ⟨b, o, none⟩ = w.cell? ⟨b, o, none⟩ := fun o => World.cell?_of_block (a := ⟨b, o, none⟩) hb
  exact ⟨(hc 0).trans h.1, (hc 1).trans h.2.1, (hc 2).trans h.2.2⟩
def Se (B : Nat) (w : World) (g : Value) : SE → Prop
  | .ok => g = .nilIface
  | .leaf p e => ∃ b, B ≤ b ∧ g = .iface FPT (.pointer (some ⟨b, 0, none⟩)) ∧ Leaf w b wStmt p e
  | .sub p k e => ∃ b b2, B ≤ b ∧ B ≤ b2 ∧ g = .iface FPT (.pointer (some ⟨b, 0, none⟩)) ∧ (w.cell? ⟨b, 0, none⟩ = some (.string ⟨wStmt.toArray⟩) ∧ w.cell? ⟨b, 1, none⟩ = some (.int .i64 p) ∧ w.cell? ⟨b, 2, none⟩ = some (.iface FPT (.pointer (some ⟨b2, 0, none⟩)))) ∧ Leaf w b2 wExpr k e
theorem Se.keep {B : Nat} {w w' : World} {g : Value} {er : SE} (h : Se B w g er) (hk : ∀ b, B ≤ b → b < w.heap.size → w'.heap[b]? = w.heap[b]?) : Se B w' g er := by
  cases er with
  | ok => exact h
  | leaf p e =>
    obtain ⟨b, hb, hg, hl⟩ := h
    exact ⟨b, hb, hg, hl.keep (hk b hb hl.lt)⟩
  | sub p k e =>
    obtain ⟨b, b2, hb, hb2, hg, ⟨h0, h1, h2⟩, hl⟩ := h
    have hc : ∀ o, w'.cell? ⟨b, o, none⟩ = w.cell? ⟨b, o, none⟩ := fun o => World.cell?_of_block (a := ⟨b, o, none⟩) (hk b hb (cell_lt h0))
    exact ⟨b, b2, hb, hb2, hg, ⟨(hc 0).trans h0, (hc 1).trans h1, (hc 2).trans h2⟩, hl.keep (hk b2 hb2 hl.lt)⟩
theorem Se.shape {B : Nat} {w : World} {g : Value} {er : SE} (h : Se B w g er) : (er = .ok ∧ g = .nilIface) ∨ (er ≠ .ok ∧ ∃ b, g = .iface FPT (.pointer (some ⟨b, 0, none⟩))) := by
  cases er with
  | ok => exact .inl ⟨rfl, h⟩
  | leaf p e => obtain ⟨b, _, hg, _⟩ := h; exact .inr ⟨by simp, b, hg⟩
  | sub p k e => obtain ⟨b, b2, _, _, hg, _⟩ := h; exact .inr ⟨by simp, b, hg⟩
structure SR (T : List Words.T) (L : Value) (rb : Nat) (w : World) (p : Nat) (er : SE) : Prop where
  c0 : w.cell? ⟨rb, 0, none⟩ = some L
  c1 : w.cell? ⟨rb, 1, none⟩ = some (.int .i64 p)
  ce : ∃ g, w.cell? ⟨rb, 2, none⟩ = some g ∧ Se (rb + 1) w g er
  f1 : w.frozen? ⟨rb, 1, none⟩ = false
  f2 : w.frozen? ⟨rb, 2, none⟩ = false
  lt : rb < w.heap.size
  tks : Tks w L T
  own : L.ownBlock ≠ some rb
  lw : ∀ q, L.ownBlock = some q → q < w.heap.size
  hp : p ≤ T.length
  ht : T.length ≤ 100000
theorem SR.below {T : List Words.T} {L : Value} {rb : Nat} {w w' : World} {p : Nat} {er : SE} (h : SR T L rb w p er) (hb : Below w.heap.size w w') : SR T L rb w' p er := by
  have hc : ∀ o, w'.cell? ⟨rb, o, none⟩ = w.cell? ⟨rb, o, none⟩ := fun o => hb.cell (p := ⟨rb, o, none⟩) h.lt
  have hf : ∀ o, w'.frozen? ⟨rb, o, none⟩ = w.frozen? ⟨rb, o, none⟩ := fun o => hb.frozen (p := ⟨rb, o, none⟩) h.lt
  obtain ⟨g, hg, hs⟩ := h.ce
  exact ⟨(hc 0).trans h.c0, (hc 1).trans h.c1, ⟨g, (hc 2).trans hg, hs.keep (fun b _ hl => hb.block b hl)⟩, (hf 1).trans h.f1, (hf 2).trans h.f2, Nat.lt_of_lt_of_le h.lt hb.size, h.tks.below hb, h.own, fun q hq => Nat.lt_of_lt_of_le (h.lw q hq) hb.size, h.hp, h.ht⟩
theorem set_cell {w : World} {rb i j : Nat} {u v : Value} (h : w.cell? ⟨rb, i, none⟩ = some u) : (w.setCell ⟨rb, j, none⟩ v).cell? ⟨rb, i, none⟩ = some (if i = j then v else u) := by
  by_cases e : i = j
  · subst e; rw [if_pos rfl]; exact World.cell?_setCell_same' _ _ _ (by rw [h]; rfl)
  · rw [if_neg e, World.cell?_setCell_other w ⟨rb, j, none⟩ ⟨rb, i, none⟩ v (by intro h; injection h with _ h2 _; exact e h2.symm)]
    exact h
theorem set_but (rb : Nat) (w : World) (j : Nat) (v : Value) : But rb w (w.setCell ⟨rb, j, none⟩ v) := (but_refl rb w).set (.inr rfl) v
theorem SR.at1 {T : List Words.T} {L : Value} {rb : Nat} {w : World} {p p' : Nat} {er : SE} (h : SR T L rb w p er) (hp' : p' ≤ T.length) : SR T L rb (w.setCell ⟨rb, 1, none⟩ (.int .i64 p')) p' er := by
  obtain ⟨g, hg, hs⟩ := h.ce
  have hb := set_but rb w 1 (.int .i64 (p' : Int))
  have hf : ∀ o, (w.setCell ⟨rb, 1, none⟩ (.int .i64 (p' : Int))).frozen? ⟨rb, o, none⟩ = w.frozen? ⟨rb, o, none⟩ := fun o => by simp [go_sem]
  exact ⟨set_cell (i := 0) (j := 1) h.c0, set_cell (i := 1) (j := 1) h.c1, ⟨g, set_cell (i := 2) (j := 1) hg, hs.keep (fun b hB hl => hb.block b hl (fun e => by injection e with e; omega))⟩, (hf 1).trans h.f1, (hf 2).trans h.f2, Nat.lt_of_lt_of_le h.lt hb.size, h.tks.but hb h.own, h.own, fun q hq => Nat.lt_of_lt_of_le (h.lw q hq) hb.size, hp', h.ht⟩
theorem SR.er2 {T : List Words.T} {L : Value} {rb : Nat} {w : World} {p : Nat} {er er' : SE} {g : Value} (h : SR T L rb w p er) (hs : Se (rb + 1) w g er') : SR T L rb (w.setCell ⟨rb, 2, none⟩ g) p er' := by
  obtain ⟨g0, hg0, _⟩ := h.ce
  have hb := set_but rb w 2 g
  have hf : ∀ o, (w.setCell ⟨rb, 2, none⟩ g).frozen? ⟨rb, o, none⟩ = w.frozen? ⟨rb, o, none⟩ := fun o => by simp [go_sem]
  exact ⟨set_cell (i := 0) (j := 2) h.c0, set_cell (i := 1) (j := 2) h.c1, ⟨g, set_cell (i := 2) (j := 2) hg0, hs.keep (fun b hB hl => hb.block b hl (fun e => by injection e with e; omega))⟩, (hf 1).trans h.f1, (hf 2).trans h.f2, Nat.lt_of_lt_of_le h.lt hb.size, h.tks.but hb h.own, h.own, fun q hq => Nat.lt_of_lt_of_le (h.lw q hq) hb.size, h.hp, h.ht⟩
def failE (er : SE) (p e : Nat) : SE := if er = .ok then .leaf p e else er
def isNext (T : List Words.T) (p : Nat) (er : SE) (c : List UInt8) : Bool := decide (er = .ok) && (match T[p]? with | some t => t.text == c | none => false)
def isKind (T : List Words.T) (p : Nat) (er : SE) (k : Nat) : Bool := decide (er = .ok) && (match T[p]? with | some t => t.kind == k | none => false)
def nextP (b : Bool) (p : Nat) : Nat := if b then p + 1 else p
theorem isNext_lt {T : List Words.T} {p : Nat} {er : SE} {c : List UInt8} (h : isNext T p er c = true) : p < T.length := by
  unfold isNext at h
  rw [Bool.and_eq_true] at h
  rcases Nat.lt_or_ge p T.length with hl | hl
  · exact hl
  · rw [List.getElem?_eq_none hl] at h; cases h.2
theorem isKind_lt {T : List Words.T} {p : Nat} {er : SE} {k : Nat} (h : isKind T p er k = true) : p < T.length := by
  unfold isKind at h
  rw [Bool.and_eq_true] at h
  rcases Nat.lt_or_ge p T.length with hl | hl
  · exact hl
  · rw [List.getElem?_eq_none hl] at h; cases h.2
theorem SR.fail {T : List Words.T} {L : Value} {rb : Nat} {w : World} {p e : Nat} (h : SR T L rb w p .ok) : SR T L rb ((w.alloc (.cells #[.string ⟨#[115, 116, 109, 116]⟩, .int .i64 p, .iface ENT (.int .i64 e)] FST)).setCell ⟨rb, 2, none⟩ (.iface FPT (.pointer (some ⟨w.heap.size, 0, none⟩)))) p (.leaf p e) ∧ But rb w ((w.alloc (.cells #[.string ⟨#[115, 116, 109, 116]⟩, .int .i64 p, .iface ENT (.int .i64 e)] FST)).setCell ⟨rb, 2, none⟩ (.iface FPT (.pointer (some ⟨w.heap.size, 0, none⟩)))) := by
  have hb := alloc_below w (.cells #[.string ⟨#[115, 116, 109, 116]⟩, .int .i64 p, .iface ENT (.int .i64 e)] FST)
  have hl := h.lt
  refine ⟨(h.below hb).er2 ⟨w.heap.size, by omega, rfl, by simp, by simp, by simp⟩, ((but_refl rb w).alloc _).trans (set_but rb _ 2 _)⟩
end Go.Proofs.YthkbchefjagbbaaGreatDoor.Line

namespace Go.Proofs.YthkbchefjagbbaaGreatDoor.Line
open Go.ChangeShapes Go.WideShapes Go.ChangeAt Go.RowKit
open Ex (E St)
set_option linter.unusedVariables false

theorem Tks.word {w : World} {L : Value} {T : List Words.T} (h : Tks w L T) {p : Nat} (hp : p < T.length) : ∃ b o c, L = .slice (some ⟨b, o, none⟩) T.length c ∧ w.cell? ⟨b, o + p * 4, none⟩ = some (.int .i64 T[p].kind) ∧ w.cell? ⟨b, o + p * 4 + 1, none⟩ = some (.string ⟨T[p].text.toArray⟩) ∧ w.cell? ⟨b, o + p * 4 + 3, none⟩ = some (.int .i64 T[p].n) := by
  rcases h with ⟨a, c, rfl, rfl⟩ | ⟨b, o, c, rfl, hc, h⟩
  · simp at hp
  · obtain ⟨h0, h1, _, h3⟩ := h p hp
    exact ⟨b, o, c, rfl, h0, h1, h3⟩
set_option maxHeartbeats 4000000 in
set_option maxRecDepth 100000 in
theorem sees_any (T : List Words.T) (L : Value) (rb : Nat) (w : World) (p : Nat) (er : SE) (c : List UInt8) (h : SR T L rb w p er) : Calls Tryz.prog 185 #[.pointer (some ⟨rb, 0, none⟩), .string ⟨c.toArray⟩] w fun e w' => e = .returned (.bool (isNext T p er c)) ∧ ∃ n, w' = w.drewN n := by
  obtain ⟨g, hg, hs⟩ := h.ce
  obtain ⟨la, lc, hL⟩ := h.tks.shape
  have c0 := h.c0
  have c1 := h.c1
  have hp := h.hp
  have ht := h.ht
  rcases hs.shape with ⟨rfl, rfl⟩ | ⟨hne, b, rfl⟩
  · by_cases hlt : p < T.length
    · obtain ⟨b, o, k, rfl, w0, w1, w3⟩ := h.tks.word hlt
      have hlt2 : (p : Int) < T.length := by omega
      have q0 : decide (p < T.length) = true := decide_eq_true hlt
      have hv : isNext T p .ok c = (T[p].text == c) := by unfold isNext; rw [List.getElem?_eq_getElem hlt]; rfl
      rw [hv]
      generalize T[p].text = tx at *
      clear h hs hv w0 w3 hL
      go_enter Tryz.func185, Tryz.ntmps185
      go_wp2_with fail
      go_quiet (fail)
      go_wp2
      go_ret
      exact ⟨rfl, nq, rfl⟩
    · subst hL
      have hlt2 : ¬ (p : Int) < T.length := by omega
      have q0 : decide (p < T.length) = false := decide_eq_false hlt
      have hv : isNext T p .ok c = false := by unfold isNext; rw [List.getElem?_eq_none (by omega)]; rfl
      rw [hv]
      clear h hs hv
      go_enter Tryz.func185, Tryz.ntmps185
      go_wp2_with fail
      go_quiet (fail)
      go_wp2
      go_ret
      exact ⟨rfl, nq, rfl⟩
  · subst hL
    have hv : isNext T p er c = false := by unfold isNext; rw [decide_eq_false hne]; rfl
    rw [hv]
    clear h hs hv hne
    go_enter Tryz.func185, Tryz.ntmps185
    go_wp2_with fail
    go_quiet (fail)
    go_wp2
    go_ret
    exact ⟨rfl, nq, rfl⟩
set_option maxHeartbeats 4000000 in
set_option maxRecDepth 100000 in
theorem seesKind_any (T : List Words.T) (L : Value) (rb : Nat) (w : World) (p : Nat) (er : SE) (k : Nat) (h : SR T L rb w p er) : Calls Tryz.prog 152 #[.pointer (some ⟨rb, 0, none⟩), .int .i64 k] w fun e w' => e = .returned (.bool (isKind T p er k)) ∧ ∃ n, w' = w.drewN n := by
  obtain ⟨g, hg, hs⟩ := h.ce
  obtain ⟨la, lc, hL⟩ := h.tks.shape
  have c0 := h.c0
  have c1 := h.c1
  have hp := h.hp
  have ht := h.ht
  rcases hs.shape with ⟨rfl, rfl⟩ | ⟨hne, b, rfl⟩
  · by_cases hlt : p < T.length
    · obtain ⟨b, o, cc, rfl, w0, w1, w3⟩ := h.tks.word hlt
      have hlt2 : (p : Int) < T.length := by omega
      have q0 : decide (p < T.length) = true := decide_eq_true hlt
      have hv : isKind T p .ok k = ((T[p].kind : Int) == (k : Int)) := by unfold isKind; rw [List.getElem?_eq_getElem hlt]; rw [Bool.eq_iff_iff]; simp; omega
      rw [hv]
      generalize T[p].kind = tx at *
      clear h hs hv w1 w3 hL
      go_enter Tryz.func152, Tryz.ntmps152
      go_wp2_with fail
      go_quiet (fail)
      go_wp2
      go_ret
      exact ⟨rfl, nq, rfl⟩
    · subst hL
      have hlt2 : ¬ (p : Int) < T.length := by omega
      have q0 : decide (p < T.length) = false := decide_eq_false hlt
      have hv : isKind T p .ok k = false := by unfold isKind; rw [List.getElem?_eq_none (by omega)]; rfl
      rw [hv]
      clear h hs hv
      go_enter Tryz.func152, Tryz.ntmps152
      go_wp2_with fail
      go_quiet (fail)
      go_wp2
      go_ret
      exact ⟨rfl, nq, rfl⟩
  · subst hL
    have hv : isKind T p er k = false := by unfold isKind; rw [decide_eq_false hne]; rfl
    rw [hv]
    clear h hs hv hne
    go_enter Tryz.func152, Tryz.ntmps152
    go_wp2_with fail
    go_quiet (fail)
    go_wp2
    go_ret
    exact ⟨rfl, nq, rfl⟩
theorem set_alloc {w : World} {rb i : Nat} {v : Value} {o : Obj} (h : rb < w.heap.size) : (w.alloc o).setCell ⟨rb, i, none⟩ v = (w.setCell ⟨rb, i, none⟩ v).alloc o := by
  simp [go_sem, h]
theorem SR.drewN {T : List Words.T} {L : Value} {rb : Nat} {w : World} {p : Nat} {er : SE} (h : SR T L rb w p er) (n : Nat) : SR T L rb (w.drewN n) p er := h.below (below_drewN (Below.refl _ _) n)
set_option maxHeartbeats 4000000 in
set_option maxRecDepth 100000 in
theorem takes_any (T : List Words.T) (L : Value) (rb : Nat) (w : World) (p : Nat) (er : SE) (c : List UInt8) (h : SR T L rb w p er) : Calls Tryz.prog 149 #[.pointer (some ⟨rb, 0, none⟩), .string ⟨c.toArray⟩] w fun e w' => e = .returned (.bool (isNext T p er c)) ∧ SR T L rb w' (nextP (isNext T p er c) p) er ∧ But rb w w' := by
  have HS := hide (sees_any T L rb w p er c h)
  have H0 := hide h
  have hp := h.hp
  have ht := h.ht
  have HL : Hid (isNext T p er c = true → p < T.length) := hide isNext_lt
  generalize isNext T p er c = bb at *
  clear h
  go_enter Tryz.func149, Tryz.ntmps149
  go_wp2_with fail
  refine (unhide HS).mono ?_
  rintro e w1 ⟨rfl, n, rfl⟩
  have H1 := hide ((unhide H0).drewN n)
  have HB := hide ((but_refl rb w).drewN n)
  generalize w.drewN n = W1 at *
  cases bb with
  | false =>
    go_wp2
    go_ret
    exact ⟨rfl, unhide H1, unhide HB⟩
  | true =>
    have hlt := unhide HL rfl
    have c1 := (unhide H1).c1
    have f1 := (unhide H1).f1
    have H2 := hide ((unhide H1).at1 (p' := p + 1) hlt)
    go_wp2
    go_ret
    exact ⟨rfl, unhide H2, (unhide HB).trans (set_but rb _ 1 _)⟩
set_option maxHeartbeats 4000000 in
set_option maxRecDepth 100000 in
theorem fail_any (T : List Words.T) (L : Value) (rb : Nat) (w : World) (p : Nat) (er : SE) (k : Nat) (h : SR T L rb w p er) : Calls Tryz.prog 106 #[.pointer (some ⟨rb, 0, none⟩), .iface ENT (.int .i64 k)] w fun e w' => e = .returned (.tuple #[]) ∧ SR T L rb w' p (failE er p k) ∧ But rb w w' := by
  obtain ⟨g, hg, hs⟩ := h.ce
  have c1 := h.c1
  have f2 := h.f2
  have hl := h.lt
  rcases hs.shape with ⟨rfl, rfl⟩ | ⟨hne, b, rfl⟩
  · have HF := hide (h.fail (e := k))
    have e0 : failE .ok p k = .leaf p k := if_pos rfl
    rw [e0]
    rw [set_alloc hl] at HF
    clear h hs
    go_enter Tryz.func106, Tryz.ntmps106
    go_wp2
    go_end0
    exact ⟨rfl, (unhide HF).1, (unhide HF).2⟩
  · have e0 : failE er p k = er := if_neg hne
    rw [e0]
    have H0 := hide h
    clear h hs hne
    go_enter Tryz.func106, Tryz.ntmps106
    go_wp2
    go_end0
    exact ⟨rfl, unhide H0, but_refl rb w⟩
theorem SR.failSub {T : List Words.T} {L : Value} {rb : Nat} {w : World} {p b2 k e : Nat} (h : SR T L rb w p .ok) (hl2 : Leaf w b2 wExpr k e) (hb2 : rb + 1 ≤ b2) : SR T L rb ((w.alloc (.cells #[.string ⟨#[115, 116, 109, 116]⟩, .int .i64 p, .iface FPT (.pointer (some ⟨b2, 0, none⟩))] FST)).setCell ⟨rb, 2, none⟩ (.iface FPT (.pointer (some ⟨w.heap.size, 0, none⟩)))) p (.sub p k e) ∧ But rb w ((w.alloc (.cells #[.string ⟨#[115, 116, 109, 116]⟩, .int .i64 p, .iface FPT (.pointer (some ⟨b2, 0, none⟩))] FST)).setCell ⟨rb, 2, none⟩ (.iface FPT (.pointer (some ⟨w.heap.size, 0, none⟩)))) := by
  have hb := alloc_below w (.cells #[.string ⟨#[115, 116, 109, 116]⟩, .int .i64 p, .iface FPT (.pointer (some ⟨b2, 0, none⟩))] FST)
  have hl := h.lt
  refine ⟨(h.below hb).er2 ⟨w.heap.size, b2, by omega, hb2, rfl, ⟨by simp, by simp, by simp⟩, hl2.keep (hb.block b2 hl2.lt)⟩, ((but_refl rb w).alloc _).trans (set_but rb _ 2 _)⟩
set_option maxHeartbeats 4000000 in
set_option maxRecDepth 100000 in
theorem failSub_any (T : List Words.T) (L : Value) (rb : Nat) (w : World) (p b2 k e : Nat) (h : SR T L rb w p .ok) (hl2 : Leaf w b2 wExpr k e) (hb2 : rb + 1 ≤ b2) : Calls Tryz.prog 106 #[.pointer (some ⟨rb, 0, none⟩), .iface FPT (.pointer (some ⟨b2, 0, none⟩))] w fun e' w' => e' = .returned (.tuple #[]) ∧ SR T L rb w' p (.sub p k e) ∧ But rb w w' := by
  obtain ⟨g, hg, hs⟩ := h.ce
  have c1 := h.c1
  have f2 := h.f2
  have hl := h.lt
  have HF := hide (h.failSub hl2 hb2)
  rw [set_alloc hl] at HF
  obtain rfl : g = .nilIface := hs
  clear h hl2
  go_enter Tryz.func106, Tryz.ntmps106
  go_wp2
  go_end0
  exact ⟨rfl, (unhide HF).1, (unhide HF).2⟩
def mustE (b : Bool) (er : SE) (p : Nat) : SE := if b then er else failE er p 2
set_option maxHeartbeats 4000000 in
set_option maxRecDepth 100000 in
theorem must_any (T : List Words.T) (L : Value) (rb : Nat) (w : World) (p : Nat) (er : SE) (c : List UInt8) (h : SR T L rb w p er) : Calls Tryz.prog 101 #[.pointer (some ⟨rb, 0, none⟩), .string ⟨c.toArray⟩] w fun e w' => e = .returned (.tuple #[]) ∧ SR T L rb w' (nextP (isNext T p er c) p) (mustE (isNext T p er c) er p) ∧ But rb w w' := by
  have HS := hide (takes_any T L rb w p er c h)
  generalize isNext T p er c = bb at *
  clear h
  go_enter Tryz.func101, Tryz.ntmps101
  go_wp2_with fail
  refine (unhide HS).mono ?_
  rintro e w1 ⟨rfl, h1, hb1⟩
  have H1 := hide (And.intro h1 hb1)
  clear h1 hb1 HS
  cases bb with
  | true =>
    go_wp2
    go_end0
    exact ⟨rfl, unhide H1⟩
  | false =>
    go_wp2_with fail
    refine (fail_any T L rb w1 p er 2 (unhide H1).1).mono ?_
    rintro e w2 ⟨rfl, h2, hb2⟩
    have H2 := hide (And.intro h2 ((unhide H1).2.trans hb2))
    clear h2 hb2
    go_wp2
    go_end0
    exact ⟨rfl, unhide H2⟩
def nameAt (T : List Words.T) (p : Nat) (b : Bool) : List UInt8 := if b then (match T[p]? with | some t => t.text | none => []) else []
def numAt (T : List Words.T) (p : Nat) (b : Bool) : Nat := if b then (match T[p]? with | some t => t.n | none => 0) else 0
set_option maxHeartbeats 4000000 in
set_option maxRecDepth 100000 in
theorem name_any (T : List Words.T) (L : Value) (rb : Nat) (w : World) (p : Nat) (er : SE) (h : SR T L rb w p er) : Calls Tryz.prog 100 #[.pointer (some ⟨rb, 0, none⟩)] w fun e w' => e = .returned (.string ⟨(nameAt T p (isKind T p er 1)).toArray⟩) ∧ SR T L rb w' (nextP (isKind T p er 1) p) (mustE (isKind T p er 1) er p) ∧ But rb w w' := by
  have HS := hide (seesKind_any T L rb w p er 1 h)
  have H0 := hide h
  have HL : Hid (isKind T p er 1 = true → p < T.length) := hide isKind_lt
  have hp := h.hp
  have ht := h.ht
  generalize isKind T p er 1 = bb at *
  clear h
  cases bb with
  | false =>
    have hv : nameAt T p false = [] := rfl
    rw [hv]
    go_enter Tryz.func100, Tryz.ntmps100
    go_wp2_with fail
    refine (unhide HS).mono ?_
    rintro e w1 ⟨rfl, n, rfl⟩
    have H1 := hide ((unhide H0).drewN n)
    have HB := hide ((but_refl rb w).drewN n)
    generalize w.drewN n = W1 at *
    go_wp2_with fail
    refine (fail_any T L rb W1 p er 2 (unhide H1)).mono ?_
    rintro e w2 ⟨rfl, h2, hb2⟩
    have H2 := hide (And.intro h2 ((unhide HB).trans hb2))
    clear h2 hb2
    go_wp2
    go_ret
    exact ⟨rfl, unhide H2⟩
  | true =>
    have hlt := unhide HL rfl
    have hlt2 : (p : Int) < T.length := by omega
    have hlt3 : ((p : Int) + 1) - 1 = p := by omega
    have hv : nameAt T p true = T[p].text := by unfold nameAt; rw [if_pos rfl, List.getElem?_eq_getElem hlt]
    obtain ⟨tx, htx⟩ : ∃ tx, T[p].text = tx := ⟨_, rfl⟩
    have HTX := hide htx
    rw [hv, htx]
    clear htx
    go_enter Tryz.func100, Tryz.ntmps100
    go_wp2_with fail
    refine (unhide HS).mono ?_
    rintro e w1 ⟨rfl, n, rfl⟩
    have H1 := hide ((unhide H0).drewN n)
    have HB := hide ((but_refl rb w).drewN n)
    generalize w.drewN n = W1 at *
    have c1 := (unhide H1).c1
    have f1 := (unhide H1).f1
    have H2 := hide ((unhide H1).at1 (p' := p + 1) hlt)
    have HB2 := hide ((unhide HB).trans (set_but rb W1 1 (.int .i64 ((p : Int) + 1))))
    have e1 : ((p + 1 : Nat) : Int) = (p : Int) + 1 := by omega
    rw [e1] at H2
    go_upto_region 5 with fail
    obtain ⟨b, o, k, hLe, w0, w1, w3⟩ := (unhide H2).tks.word hlt
    subst hLe
    have d0 := (unhide H2).c0
    have d1 := (unhide H2).c1
    rw [e1] at d1
    rw [unhide HTX] at w1
    clear c1 f1 w0 w3 e1
    generalize W1.setCell ⟨rb, 1, none⟩ (.int .i64 ((p : Int) + 1)) = W2 at *
    go_quiet (fail)
    go_wp2
    go_ret
    exact ⟨rfl, (unhide H2).drewN nq, (unhide HB2).drewN nq⟩
set_option maxHeartbeats 4000000 in
set_option maxRecDepth 100000 in
theorem number_any (T : List Words.T) (L : Value) (rb : Nat) (w : World) (p : Nat) (er : SE) (h : SR T L rb w p er) : Calls Tryz.prog 154 #[.pointer (some ⟨rb, 0, none⟩)] w fun e w' => e = .returned (.int .i64 (numAt T p (isKind T p er 2))) ∧ SR T L rb w' (nextP (isKind T p er 2) p) (mustE (isKind T p er 2) er p) ∧ But rb w w' := by
  have HS := hide (seesKind_any T L rb w p er 2 h)
  have H0 := hide h
  have HL : Hid (isKind T p er 2 = true → p < T.length) := hide isKind_lt
  have hp := h.hp
  have ht := h.ht
  generalize isKind T p er 2 = bb at *
  clear h
  cases bb with
  | false =>
    have hv : numAt T p false = 0 := rfl
    rw [hv]
    go_enter Tryz.func154, Tryz.ntmps154
    go_wp2_with fail
    refine (unhide HS).mono ?_
    rintro e w1 ⟨rfl, n, rfl⟩
    have H1 := hide ((unhide H0).drewN n)
    have HB := hide ((but_refl rb w).drewN n)
    generalize w.drewN n = W1 at *
    go_wp2_with fail
    refine (fail_any T L rb W1 p er 2 (unhide H1)).mono ?_
    rintro e w2 ⟨rfl, h2, hb2⟩
    have H2 := hide (And.intro h2 ((unhide HB).trans hb2))
    clear h2 hb2
    go_wp2
    go_ret
    exact ⟨rfl, unhide H2⟩
  | true =>
    have hlt := unhide HL rfl
    have hlt2 : (p : Int) < T.length := by omega
    have hlt3 : ((p : Int) + 1) - 1 = p := by omega
    have hv : numAt T p true = T[p].n := by unfold numAt; rw [if_pos rfl, List.getElem?_eq_getElem hlt]
    obtain ⟨tx, htx⟩ : ∃ tx, T[p].n = tx := ⟨_, rfl⟩
    have HTX := hide htx
    rw [hv, htx]
    clear htx
    go_enter Tryz.func154, Tryz.ntmps154
    go_wp2_with fail
    refine (unhide HS).mono ?_
    rintro e w1 ⟨rfl, n, rfl⟩
    have H1 := hide ((unhide H0).drewN n)
    have HB := hide ((but_refl rb w).drewN n)
    generalize w.drewN n = W1 at *
    have c1 := (unhide H1).c1
    have f1 := (unhide H1).f1
    have H2 := hide ((unhide H1).at1 (p' := p + 1) hlt)
    have HB2 := hide ((unhide HB).trans (set_but rb W1 1 (.int .i64 ((p : Int) + 1))))
    have e1 : ((p + 1 : Nat) : Int) = (p : Int) + 1 := by omega
    rw [e1] at H2
    go_upto_region 5 with fail
    obtain ⟨b, o, k, hLe, w0, w1, w3⟩ := (unhide H2).tks.word hlt
    subst hLe
    have d0 := (unhide H2).c0
    have d1 := (unhide H2).c1
    rw [e1] at d1
    rw [unhide HTX] at w3
    clear c1 f1 w0 w1 e1
    generalize W1.setCell ⟨rb, 1, none⟩ (.int .i64 ((p : Int) + 1)) = W2 at *
    go_quiet (fail)
    go_wp2
    go_ret
    exact ⟨rfl, (unhide H2).drewN nq, (unhide HB2).drewN nq⟩
set_option maxHeartbeats 4000000 in
set_option maxRecDepth 100000 in
theorem ended_any (T : List Words.T) (L : Value) (rb : Nat) (w : World) (p : Nat) (er : SE) (h : SR T L rb w p er) : Calls Tryz.prog 150 #[.pointer (some ⟨rb, 0, none⟩)] w fun e w' => ∃ (k : Int) (p' : Nat) (er' : SE), e = .returned (.int .i64 k) ∧ SR T L rb w' p' er' ∧ But rb w w' ∧ ((isNext T p er [100, 111] = true ∧ k = 4 ∧ p' = p + 1 ∧ er' = er) ∨ (isNext T p er [100, 111] = false ∧ k = 7 ∧ p' = nextP (isNext T p er [105, 102]) p ∧ er' = mustE (isNext T p er [105, 102]) er p)) := by
  have HS := hide (takes_any T L rb w p er [100, 111] h)
  generalize hbb : isNext T p er [100, 111] = bb at *
  clear h hbb
  cases bb with
  | true =>
    go_enter Tryz.func150, Tryz.ntmps150
    go_wp2_with fail
    refine (unhide HS).mono ?_
    rintro e w1 ⟨rfl, h1, hb1⟩
    have H1 := hide (And.intro h1 hb1)
    clear h1 hb1
    go_wp2
    go_ret
    exact ⟨4, _, er, rfl, (unhide H1).1, (unhide H1).2, .inl ⟨trivial, rfl, rfl, rfl⟩⟩
  | false =>
    go_enter Tryz.func150, Tryz.ntmps150
    go_wp2_with fail
    refine (unhide HS).mono ?_
    rintro e w1 ⟨rfl, h1, hb1⟩
    have H1 := hide (And.intro h1 hb1)
    clear h1 hb1
    go_wp2_with fail
    refine (must_any T L rb w1 p er [105, 102] (unhide H1).1).mono ?_
    rintro e w2 ⟨rfl, h2, hb2⟩
    have H2 := hide (And.intro h2 ((unhide H1).2.trans hb2))
    clear h2 hb2
    go_wp2
    go_ret
    exact ⟨7, _, _, rfl, (unhide H2).1, (unhide H2).2, .inr ⟨trivial, rfl, rfl, rfl⟩⟩
set_option maxHeartbeats 4000000 in
set_option maxRecDepth 100000 in
theorem endS_any (T : List Words.T) (L : Value) (rb : Nat) (w : World) (p : Nat) (er : SE) (h : SR T L rb w p er) : Calls Tryz.prog 66 #[.pointer (some ⟨rb, 0, none⟩)] w fun e w' => e = .returned (.tuple #[]) ∧ SR T L rb w' p (if p < T.length then failE er p 2 else er) ∧ But rb w w' := by
  obtain ⟨la, lc, hL⟩ := h.tks.shape
  subst hL
  have c0 := h.c0
  have c1 := h.c1
  have hp := h.hp
  have ht := h.ht
  have H0 := hide h
  clear h
  by_cases hlt : p < T.length
  · have q0 : decide (p < T.length) = true := decide_eq_true hlt
    rw [if_pos hlt]
    go_enter Tryz.func66, Tryz.ntmps66
    go_wp2_with fail
    go_quiet (fail)
    have H1 := hide ((unhide H0).drewN nq)
    have HB := hide ((but_refl rb w).drewN nq)
    generalize w.drewN nq = W1 at *
    go_wp2_with fail
    refine (fail_any T _ rb W1 p er 2 (unhide H1)).mono ?_
    rintro e w2 ⟨rfl, h2, hb2⟩
    have H2 := hide (And.intro h2 ((unhide HB).trans hb2))
    clear h2 hb2
    go_wp2
    go_end0
    exact ⟨rfl, unhide H2⟩
  · have q0 : decide (p < T.length) = false := decide_eq_false hlt
    rw [if_neg hlt]
    go_enter Tryz.func66, Tryz.ntmps66
    go_wp2_with fail
    go_quiet (fail)
    go_wp2
    go_end0
    exact ⟨rfl, (unhide H0).drewN nq, (but_refl rb w).drewN nq⟩
end Go.Proofs.YthkbchefjagbbaaGreatDoor.Line

namespace Go.Proofs.YthkbchefjagbbaaGreatDoor.Line
open Go.ChangeShapes Go.WideShapes Go.ChangeAt Go.RowKit
open Ex (E St)
set_option linter.unusedVariables false

theorem takesT (T : List Words.T) (L : Value) (rb : Nat) (w : World) (p : Nat) (er : SE) (c : List UInt8) (h : SR T L rb w p er) (hc : isNext T p er c = true) : Calls Tryz.prog 149 #[.pointer (some ⟨rb, 0, none⟩), .string ⟨c.toArray⟩] w fun e w' => e = .returned (.bool true) ∧ SR T L rb w' (p + 1) er ∧ But rb w w' := by
  have := takes_any T L rb w p er c h
  rw [hc] at this
  exact this
theorem takesF (T : List Words.T) (L : Value) (rb : Nat) (w : World) (p : Nat) (er : SE) (c : List UInt8) (h : SR T L rb w p er) (hc : isNext T p er c = false) : Calls Tryz.prog 149 #[.pointer (some ⟨rb, 0, none⟩), .string ⟨c.toArray⟩] w fun e w' => e = .returned (.bool false) ∧ SR T L rb w' p er ∧ But rb w w' := by
  have := takes_any T L rb w p er c h
  rw [hc] at this
  exact this
set_option maxHeartbeats 4000000 in
set_option maxRecDepth 100000 in
theorem kind_none (T : List Words.T) (L : Value) (rb : Nat) (w : World) (p : Nat) (er : SE) (h : SR T L rb w p er) (h0 : T.length = 0) : Calls Tryz.prog 98 #[.pointer (some ⟨rb, 0, none⟩)] w fun e w' => e = .returned (.int .i64 0) ∧ SR T L rb w' p er ∧ But rb w w' := by
  obtain ⟨la, lc, hL⟩ := h.tks.shape
  rw [h0] at hL
  subst hL
  have c0 := h.c0
  have H0 := hide h
  clear h
  go_enter Tryz.func98, Tryz.ntmps98
  go_wp2
  go_ret
  exact ⟨rfl, unhide H0, but_refl rb w⟩
set_option maxHeartbeats 4000000 in
set_option maxRecDepth 100000 in
theorem kind_integer (T : List Words.T) (L : Value) (rb : Nat) (w : World) (p : Nat) (er : SE) (h : SR T L rb w p er) (hn : 0 < T.length)  (q0 : isNext T p er [105, 110, 116, 101, 103, 101, 114] = true) : Calls Tryz.prog 98 #[.pointer (some ⟨rb, 0, none⟩)] w fun e w' => e = .returned (.int .i64 1) ∧ SR T L rb w' (p + 1) er ∧ But rb w w' := by
  obtain ⟨la, lc, hL⟩ := h.tks.shape
  have c0 := h.c0
  have ht := h.ht
  have HB0 := hide (but_refl rb w)
  have H0 := hide h
  clear h
  subst hL
  have hn1 : ¬ T.length = 0 := by omega
  have hn2 : ((T.length : Int) == 0) = false := by rw [beq_eq_false_iff_ne]; omega
  have hn3 : ¬ (T.length : Int) = 0 := by omega
  go_enter Tryz.func98, Tryz.ntmps98
  go_wp2_with fail
  refine (takesT T _ rb w p er [105, 110, 116, 101, 103, 101, 114] (unhide H0) q0).mono ?_
  rintro e w1 ⟨rfl, h1, hb1⟩
  have H1 := hide h1
  have HB1 := hide ((unhide HB0).trans hb1)
  clear h1 hb1
  go_wp2
  go_ret
  exact ⟨rfl, unhide H1, unhide HB1⟩
set_option maxHeartbeats 4000000 in
set_option maxRecDepth 100000 in
theorem kind_do (T : List Words.T) (L : Value) (rb : Nat) (w : World) (p : Nat) (er : SE) (h : SR T L rb w p er) (hn : 0 < T.length) (q0 : isNext T p er [105, 110, 116, 101, 103, 101, 114] = false) (q1 : isNext T p er [100, 111] = true) : Calls Tryz.prog 98 #[.pointer (some ⟨rb, 0, none⟩)] w fun e w' => e = .returned (.int .i64 3) ∧ SR T L rb w' (p + 1) er ∧ But rb w w' := by
  obtain ⟨la, lc, hL⟩ := h.tks.shape
  have c0 := h.c0
  have ht := h.ht
  have HB0 := hide (but_refl rb w)
  have H0 := hide h
  clear h
  subst hL
  have hn1 : ¬ T.length = 0 := by omega
  have hn2 : ((T.length : Int) == 0) = false := by rw [beq_eq_false_iff_ne]; omega
  have hn3 : ¬ (T.length : Int) = 0 := by omega
  go_enter Tryz.func98, Tryz.ntmps98
  go_wp2_with fail
  refine (takesF T _ rb w p er [105, 110, 116, 101, 103, 101, 114] (unhide H0) q0).mono ?_
  rintro e w1 ⟨rfl, h1, hb1⟩
  have H1 := hide h1
  have HB1 := hide ((unhide HB0).trans hb1)
  clear h1 hb1
  go_wp2_with fail
  refine (takesT T _ rb w1 p er [100, 111] (unhide H1) q1).mono ?_
  rintro e w2 ⟨rfl, h1, hb1⟩
  have H2 := hide h1
  have HB2 := hide ((unhide HB1).trans hb1)
  clear h1 hb1
  go_wp2
  go_ret
  exact ⟨rfl, unhide H2, unhide HB2⟩
set_option maxHeartbeats 4000000 in
set_option maxRecDepth 100000 in
theorem kind_end (T : List Words.T) (L : Value) (rb : Nat) (w : World) (p : Nat) (er : SE) (h : SR T L rb w p er) (hn : 0 < T.length) (q0 : isNext T p er [105, 110, 116, 101, 103, 101, 114] = false) (q1 : isNext T p er [100, 111] = false) (q2 : isNext T p er [101, 110, 100] = true) : Calls Tryz.prog 98 #[.pointer (some ⟨rb, 0, none⟩)] w fun e w' => ∃ k p' er', e = .returned (.int .i64 k) ∧ SR T L rb w' p' er' ∧ But rb w w' ∧ ((isNext T (p + 1) er [100, 111] = true ∧ k = 4 ∧ p' = p + 1 + 1 ∧ er' = er) ∨ (isNext T (p + 1) er [100, 111] = false ∧ k = 7 ∧ p' = nextP (isNext T (p + 1) er [105, 102]) (p + 1) ∧ er' = mustE (isNext T (p + 1) er [105, 102]) er (p + 1))) := by
  obtain ⟨la, lc, hL⟩ := h.tks.shape
  have c0 := h.c0
  have ht := h.ht
  have HB0 := hide (but_refl rb w)
  have H0 := hide h
  clear h
  subst hL
  have hn1 : ¬ T.length = 0 := by omega
  have hn2 : ((T.length : Int) == 0) = false := by rw [beq_eq_false_iff_ne]; omega
  have hn3 : ¬ (T.length : Int) = 0 := by omega
  go_enter Tryz.func98, Tryz.ntmps98
  go_wp2_with fail
  refine (takesF T _ rb w p er [105, 110, 116, 101, 103, 101, 114] (unhide H0) q0).mono ?_
  rintro e w1 ⟨rfl, h1, hb1⟩
  have H1 := hide h1
  have HB1 := hide ((unhide HB0).trans hb1)
  clear h1 hb1
  go_wp2_with fail
  refine (takesF T _ rb w1 p er [100, 111] (unhide H1) q1).mono ?_
  rintro e w2 ⟨rfl, h1, hb1⟩
  have H2 := hide h1
  have HB2 := hide ((unhide HB1).trans hb1)
  clear h1 hb1
  go_wp2_with fail
  refine (takesT T _ rb w2 p er [101, 110, 100] (unhide H2) q2).mono ?_
  rintro e w3 ⟨rfl, h1, hb1⟩
  have H3 := hide h1
  have HB3 := hide ((unhide HB2).trans hb1)
  clear h1 hb1
  go_wp2_with fail
  refine (ended_any T _ rb w3 (p + 1) er (unhide H3)).mono ?_
  rintro e w9 ⟨k, p', er', rfl, h9, hb9, hr⟩
  have H9 := hide (And.intro h9 (And.intro ((unhide HB3).trans hb9) hr))
  clear h9 hb9 hr
  go_wp2
  go_ret
  exact ⟨k, p', er', rfl, (unhide H9).1, (unhide H9).2.1, (unhide H9).2.2⟩
set_option maxHeartbeats 4000000 in
set_option maxRecDepth 100000 in
theorem kind_if (T : List Words.T) (L : Value) (rb : Nat) (w : World) (p : Nat) (er : SE) (h : SR T L rb w p er) (hn : 0 < T.length) (q0 : isNext T p er [105, 110, 116, 101, 103, 101, 114] = false) (q1 : isNext T p er [100, 111] = false) (q2 : isNext T p er [101, 110, 100] = false) (q3 : isNext T p er [105, 102] = true) : Calls Tryz.prog 98 #[.pointer (some ⟨rb, 0, none⟩)] w fun e w' => e = .returned (.int .i64 5) ∧ SR T L rb w' (p + 1) er ∧ But rb w w' := by
  obtain ⟨la, lc, hL⟩ := h.tks.shape
  have c0 := h.c0
  have ht := h.ht
  have HB0 := hide (but_refl rb w)
  have H0 := hide h
  clear h
  subst hL
  have hn1 : ¬ T.length = 0 := by omega
  have hn2 : ((T.length : Int) == 0) = false := by rw [beq_eq_false_iff_ne]; omega
  have hn3 : ¬ (T.length : Int) = 0 := by omega
  go_enter Tryz.func98, Tryz.ntmps98
  go_wp2_with fail
  refine (takesF T _ rb w p er [105, 110, 116, 101, 103, 101, 114] (unhide H0) q0).mono ?_
  rintro e w1 ⟨rfl, h1, hb1⟩
  have H1 := hide h1
  have HB1 := hide ((unhide HB0).trans hb1)
  clear h1 hb1
  go_wp2_with fail
  refine (takesF T _ rb w1 p er [100, 111] (unhide H1) q1).mono ?_
  rintro e w2 ⟨rfl, h1, hb1⟩
  have H2 := hide h1
  have HB2 := hide ((unhide HB1).trans hb1)
  clear h1 hb1
  go_wp2_with fail
  refine (takesF T _ rb w2 p er [101, 110, 100] (unhide H2) q2).mono ?_
  rintro e w3 ⟨rfl, h1, hb1⟩
  have H3 := hide h1
  have HB3 := hide ((unhide HB2).trans hb1)
  clear h1 hb1
  go_wp2_with fail
  refine (takesT T _ rb w3 p er [105, 102] (unhide H3) q3).mono ?_
  rintro e w4 ⟨rfl, h1, hb1⟩
  have H4 := hide h1
  have HB4 := hide ((unhide HB3).trans hb1)
  clear h1 hb1
  go_wp2
  go_ret
  exact ⟨rfl, unhide H4, unhide HB4⟩
set_option maxHeartbeats 4000000 in
set_option maxRecDepth 100000 in
theorem kind_else (T : List Words.T) (L : Value) (rb : Nat) (w : World) (p : Nat) (er : SE) (h : SR T L rb w p er) (hn : 0 < T.length) (q0 : isNext T p er [105, 110, 116, 101, 103, 101, 114] = false) (q1 : isNext T p er [100, 111] = false) (q2 : isNext T p er [101, 110, 100] = false) (q3 : isNext T p er [105, 102] = false) (q4 : isNext T p er [101, 108, 115, 101] = true) : Calls Tryz.prog 98 #[.pointer (some ⟨rb, 0, none⟩)] w fun e w' => e = .returned (.int .i64 6) ∧ SR T L rb w' (p + 1) er ∧ But rb w w' := by
  obtain ⟨la, lc, hL⟩ := h.tks.shape
  have c0 := h.c0
  have ht := h.ht
  have HB0 := hide (but_refl rb w)
  have H0 := hide h
  clear h
  subst hL
  have hn1 : ¬ T.length = 0 := by omega
  have hn2 : ((T.length : Int) == 0) = false := by rw [beq_eq_false_iff_ne]; omega
  have hn3 : ¬ (T.length : Int) = 0 := by omega
  go_enter Tryz.func98, Tryz.ntmps98
  go_wp2_with fail
  refine (takesF T _ rb w p er [105, 110, 116, 101, 103, 101, 114] (unhide H0) q0).mono ?_
  rintro e w1 ⟨rfl, h1, hb1⟩
  have H1 := hide h1
  have HB1 := hide ((unhide HB0).trans hb1)
  clear h1 hb1
  go_wp2_with fail
  refine (takesF T _ rb w1 p er [100, 111] (unhide H1) q1).mono ?_
  rintro e w2 ⟨rfl, h1, hb1⟩
  have H2 := hide h1
  have HB2 := hide ((unhide HB1).trans hb1)
  clear h1 hb1
  go_wp2_with fail
  refine (takesF T _ rb w2 p er [101, 110, 100] (unhide H2) q2).mono ?_
  rintro e w3 ⟨rfl, h1, hb1⟩
  have H3 := hide h1
  have HB3 := hide ((unhide HB2).trans hb1)
  clear h1 hb1
  go_wp2_with fail
  refine (takesF T _ rb w3 p er [105, 102] (unhide H3) q3).mono ?_
  rintro e w4 ⟨rfl, h1, hb1⟩
  have H4 := hide h1
  have HB4 := hide ((unhide HB3).trans hb1)
  clear h1 hb1
  go_wp2_with fail
  refine (takesT T _ rb w4 p er [101, 108, 115, 101] (unhide H4) q4).mono ?_
  rintro e w5 ⟨rfl, h1, hb1⟩
  have H5 := hide h1
  have HB5 := hide ((unhide HB4).trans hb1)
  clear h1 hb1
  go_wp2
  go_ret
  exact ⟨rfl, unhide H5, unhide HB5⟩
set_option maxHeartbeats 4000000 in
set_option maxRecDepth 100000 in
theorem kind_read (T : List Words.T) (L : Value) (rb : Nat) (w : World) (p : Nat) (er : SE) (h : SR T L rb w p er) (hn : 0 < T.length) (q0 : isNext T p er [105, 110, 116, 101, 103, 101, 114] = false) (q1 : isNext T p er [100, 111] = false) (q2 : isNext T p er [101, 110, 100] = false) (q3 : isNext T p er [105, 102] = false) (q4 : isNext T p er [101, 108, 115, 101] = false) (q5 : isNext T p er [114, 101, 97, 100] = true) : Calls Tryz.prog 98 #[.pointer (some ⟨rb, 0, none⟩)] w fun e w' => e = .returned (.int .i64 8) ∧ SR T L rb w' (p + 1) er ∧ But rb w w' := by
  obtain ⟨la, lc, hL⟩ := h.tks.shape
  have c0 := h.c0
  have ht := h.ht
  have HB0 := hide (but_refl rb w)
  have H0 := hide h
  clear h
  subst hL
  have hn1 : ¬ T.length = 0 := by omega
  have hn2 : ((T.length : Int) == 0) = false := by rw [beq_eq_false_iff_ne]; omega
  have hn3 : ¬ (T.length : Int) = 0 := by omega
  go_enter Tryz.func98, Tryz.ntmps98
  go_wp2_with fail
  refine (takesF T _ rb w p er [105, 110, 116, 101, 103, 101, 114] (unhide H0) q0).mono ?_
  rintro e w1 ⟨rfl, h1, hb1⟩
  have H1 := hide h1
  have HB1 := hide ((unhide HB0).trans hb1)
  clear h1 hb1
  go_wp2_with fail
  refine (takesF T _ rb w1 p er [100, 111] (unhide H1) q1).mono ?_
  rintro e w2 ⟨rfl, h1, hb1⟩
  have H2 := hide h1
  have HB2 := hide ((unhide HB1).trans hb1)
  clear h1 hb1
  go_wp2_with fail
  refine (takesF T _ rb w2 p er [101, 110, 100] (unhide H2) q2).mono ?_
  rintro e w3 ⟨rfl, h1, hb1⟩
  have H3 := hide h1
  have HB3 := hide ((unhide HB2).trans hb1)
  clear h1 hb1
  go_wp2_with fail
  refine (takesF T _ rb w3 p er [105, 102] (unhide H3) q3).mono ?_
  rintro e w4 ⟨rfl, h1, hb1⟩
  have H4 := hide h1
  have HB4 := hide ((unhide HB3).trans hb1)
  clear h1 hb1
  go_wp2_with fail
  refine (takesF T _ rb w4 p er [101, 108, 115, 101] (unhide H4) q4).mono ?_
  rintro e w5 ⟨rfl, h1, hb1⟩
  have H5 := hide h1
  have HB5 := hide ((unhide HB4).trans hb1)
  clear h1 hb1
  go_wp2_with fail
  refine (takesT T _ rb w5 p er [114, 101, 97, 100] (unhide H5) q5).mono ?_
  rintro e w6 ⟨rfl, h1, hb1⟩
  have H6 := hide h1
  have HB6 := hide ((unhide HB5).trans hb1)
  clear h1 hb1
  go_wp2
  go_ret
  exact ⟨rfl, unhide H6, unhide HB6⟩
set_option maxHeartbeats 4000000 in
set_option maxRecDepth 100000 in
theorem kind_print (T : List Words.T) (L : Value) (rb : Nat) (w : World) (p : Nat) (er : SE) (h : SR T L rb w p er) (hn : 0 < T.length) (q0 : isNext T p er [105, 110, 116, 101, 103, 101, 114] = false) (q1 : isNext T p er [100, 111] = false) (q2 : isNext T p er [101, 110, 100] = false) (q3 : isNext T p er [105, 102] = false) (q4 : isNext T p er [101, 108, 115, 101] = false) (q5 : isNext T p er [114, 101, 97, 100] = false) (q6 : isNext T p er [112, 114, 105, 110, 116] = true) : Calls Tryz.prog 98 #[.pointer (some ⟨rb, 0, none⟩)] w fun e w' => e = .returned (.int .i64 9) ∧ SR T L rb w' (p + 1) er ∧ But rb w w' := by
  obtain ⟨la, lc, hL⟩ := h.tks.shape
  have c0 := h.c0
  have ht := h.ht
  have HB0 := hide (but_refl rb w)
  have H0 := hide h
  clear h
  subst hL
  have hn1 : ¬ T.length = 0 := by omega
  have hn2 : ((T.length : Int) == 0) = false := by rw [beq_eq_false_iff_ne]; omega
  have hn3 : ¬ (T.length : Int) = 0 := by omega
  go_enter Tryz.func98, Tryz.ntmps98
  go_wp2_with fail
  refine (takesF T _ rb w p er [105, 110, 116, 101, 103, 101, 114] (unhide H0) q0).mono ?_
  rintro e w1 ⟨rfl, h1, hb1⟩
  have H1 := hide h1
  have HB1 := hide ((unhide HB0).trans hb1)
  clear h1 hb1
  go_wp2_with fail
  refine (takesF T _ rb w1 p er [100, 111] (unhide H1) q1).mono ?_
  rintro e w2 ⟨rfl, h1, hb1⟩
  have H2 := hide h1
  have HB2 := hide ((unhide HB1).trans hb1)
  clear h1 hb1
  go_wp2_with fail
  refine (takesF T _ rb w2 p er [101, 110, 100] (unhide H2) q2).mono ?_
  rintro e w3 ⟨rfl, h1, hb1⟩
  have H3 := hide h1
  have HB3 := hide ((unhide HB2).trans hb1)
  clear h1 hb1
  go_wp2_with fail
  refine (takesF T _ rb w3 p er [105, 102] (unhide H3) q3).mono ?_
  rintro e w4 ⟨rfl, h1, hb1⟩
  have H4 := hide h1
  have HB4 := hide ((unhide HB3).trans hb1)
  clear h1 hb1
  go_wp2_with fail
  refine (takesF T _ rb w4 p er [101, 108, 115, 101] (unhide H4) q4).mono ?_
  rintro e w5 ⟨rfl, h1, hb1⟩
  have H5 := hide h1
  have HB5 := hide ((unhide HB4).trans hb1)
  clear h1 hb1
  go_wp2_with fail
  refine (takesF T _ rb w5 p er [114, 101, 97, 100] (unhide H5) q5).mono ?_
  rintro e w6 ⟨rfl, h1, hb1⟩
  have H6 := hide h1
  have HB6 := hide ((unhide HB5).trans hb1)
  clear h1 hb1
  go_wp2_with fail
  refine (takesT T _ rb w6 p er [112, 114, 105, 110, 116] (unhide H6) q6).mono ?_
  rintro e w7 ⟨rfl, h1, hb1⟩
  have H7 := hide h1
  have HB7 := hide ((unhide HB6).trans hb1)
  clear h1 hb1
  go_wp2
  go_ret
  exact ⟨rfl, unhide H7, unhide HB7⟩
set_option maxHeartbeats 4000000 in
set_option maxRecDepth 100000 in
theorem kind_set (T : List Words.T) (L : Value) (rb : Nat) (w : World) (p : Nat) (er : SE) (h : SR T L rb w p er) (hn : 0 < T.length) (q0 : isNext T p er [105, 110, 116, 101, 103, 101, 114] = false) (q1 : isNext T p er [100, 111] = false) (q2 : isNext T p er [101, 110, 100] = false) (q3 : isNext T p er [105, 102] = false) (q4 : isNext T p er [101, 108, 115, 101] = false) (q5 : isNext T p er [114, 101, 97, 100] = false) (q6 : isNext T p er [112, 114, 105, 110, 116] = false) : Calls Tryz.prog 98 #[.pointer (some ⟨rb, 0, none⟩)] w fun e w' => e = .returned (.int .i64 2) ∧ SR T L rb w' p er ∧ But rb w w' := by
  obtain ⟨la, lc, hL⟩ := h.tks.shape
  have c0 := h.c0
  have ht := h.ht
  have HB0 := hide (but_refl rb w)
  have H0 := hide h
  clear h
  subst hL
  have hn1 : ¬ T.length = 0 := by omega
  have hn2 : ((T.length : Int) == 0) = false := by rw [beq_eq_false_iff_ne]; omega
  have hn3 : ¬ (T.length : Int) = 0 := by omega
  go_enter Tryz.func98, Tryz.ntmps98
  go_wp2_with fail
  refine (takesF T _ rb w p er [105, 110, 116, 101, 103, 101, 114] (unhide H0) q0).mono ?_
  rintro e w1 ⟨rfl, h1, hb1⟩
  have H1 := hide h1
  have HB1 := hide ((unhide HB0).trans hb1)
  clear h1 hb1
  go_wp2_with fail
  refine (takesF T _ rb w1 p er [100, 111] (unhide H1) q1).mono ?_
  rintro e w2 ⟨rfl, h1, hb1⟩
  have H2 := hide h1
  have HB2 := hide ((unhide HB1).trans hb1)
  clear h1 hb1
  go_wp2_with fail
  refine (takesF T _ rb w2 p er [101, 110, 100] (unhide H2) q2).mono ?_
  rintro e w3 ⟨rfl, h1, hb1⟩
  have H3 := hide h1
  have HB3 := hide ((unhide HB2).trans hb1)
  clear h1 hb1
  go_wp2_with fail
  refine (takesF T _ rb w3 p er [105, 102] (unhide H3) q3).mono ?_
  rintro e w4 ⟨rfl, h1, hb1⟩
  have H4 := hide h1
  have HB4 := hide ((unhide HB3).trans hb1)
  clear h1 hb1
  go_wp2_with fail
  refine (takesF T _ rb w4 p er [101, 108, 115, 101] (unhide H4) q4).mono ?_
  rintro e w5 ⟨rfl, h1, hb1⟩
  have H5 := hide h1
  have HB5 := hide ((unhide HB4).trans hb1)
  clear h1 hb1
  go_wp2_with fail
  refine (takesF T _ rb w5 p er [114, 101, 97, 100] (unhide H5) q5).mono ?_
  rintro e w6 ⟨rfl, h1, hb1⟩
  have H6 := hide h1
  have HB6 := hide ((unhide HB5).trans hb1)
  clear h1 hb1
  go_wp2_with fail
  refine (takesF T _ rb w6 p er [112, 114, 105, 110, 116] (unhide H6) q6).mono ?_
  rintro e w7 ⟨rfl, h1, hb1⟩
  have H7 := hide h1
  have HB7 := hide ((unhide HB6).trans hb1)
  clear h1 hb1
  go_wp2_with fail
  go_ret
  exact ⟨rfl, unhide H7, unhide HB7⟩
end Go.Proofs.YthkbchefjagbbaaGreatDoor.Line
