/- The contract of the project's reader: read.
   The contracts of the project's Parse, ParseCond.
   The contract of the project's ParseCond. -/
import Derived.Test.YtepnafnljfjeoaaGreatDoorRdFinM
import Derived.Test.YtepnafnljfjeoaaGreatDoorRdBegin
import Derived.Test.YtepnafnljfjeoaaGreatDoorExRef
import Derived.Test.YtepnafnljfjeoaaGreatDoorRdFinish
import Derived.Test.YtepnafnljfjeoaaGreatDoorPlainAll
namespace Go.Proofs.YtepnafnljfjeoaaGreatDoor.Line
open Go.ChangeShapes Go.WideShapes Go.ChangeAt Go.RowKit
open Ex (E St M Cfg Res)
set_option linter.unusedVariables false

/-- what read does: the tree and the place behind it, or the fault -/
def ReadPost (T : List Words.T) (w : World) (from_ : Nat) (e : Ending) (w' : World) : Prop :=
  (∃ (z : E) (p' : Nat) (sz : Value), e = .returned (.tuple #[treeV z sz, .int .i64 p', .nilIface]) ∧ Forest w' (fun b => w.heap.size ≤ b) z.a sz ∧ M T (.B from_ [] 0) (.ok z p') ∧ p' ≤ T.length ∧ Below w.heap.size w w') ∨
  (∃ (er p' : Nat) (g : Value), e = .returned (.tuple #[treeV E.none (.slice none 0 0), .int .i64 0, g]) ∧ er ≠ 0 ∧ M T (.B from_ [] 0) (.bad er p') ∧ Says w.heap.size w' g wExpr p' er ∧ Below w.heap.size w w')
/-- in the midst of read -/
structure MidR (T : List Words.T) (L : Value) (w : World) (wr : World) (p d : Nat) (v : Value) (K : List (E × Value)) (hi : Nat) : Prop where
  rd : Rd wr (w.heap.size + 1 + 1) (w.heap.size + 1) (fun _ => False) L p d v K hi
  tks : Tks wr L T
  res : Box wr w.heap.size E.none (.slice none 0 0)
  old : Below w.heap.size w wr
theorem kept_below {rb base : Nat} {X : Nat → Prop} {w a b : World} (h : Below w.heap.size w a) (k : Kept rb base X a b) (hb : w.heap.size ≤ rb) (hbb : rb < base) : Below w.heap.size w b := ⟨k.os.trans h.os, k.tape.trans h.tape, k.output.trans h.output, by have := h.size; have := k.size; omega, fun i hi => (k.block i (by have := h.size; omega) (by omega) (.inl (by omega))).trans (h.block i hi)⟩
theorem midR_start {T : List Words.T} {L : Value} {w : World} {p : Nat} (hT : Tks w L T) : MidR T L w ((w.alloc (.cells zeroE PET)).alloc (.cells #[L, .int .i64 p, .slice none 0 0, .int .i64 0] 116)) p 0 (.slice none 0 0) [] (w.heap.size + 1 + 1) := by
  have hb1 := alloc_below w (.cells zeroE PET)
  have hz1 : (w.alloc (.cells zeroE PET)).heap.size = w.heap.size + 1 := by simp
  have hb2 := alloc_below (w.alloc (.cells zeroE PET)) (.cells #[L, .int .i64 p, .slice none 0 0, .int .i64 0] 116)
  have hz2 : ((w.alloc (.cells zeroE PET)).alloc (.cells #[L, .int .i64 p, .slice none 0 0, .int .i64 0] 116)).heap.size = w.heap.size + 1 + 1 := by simp
  have hb := bthen hb1 hb2
  have hnew := alloc_new (w.alloc (.cells zeroE PET)) #[L, .int .i64 p, .slice none 0 0, .int .i64 0] 116
  rw [hz1] at hnew
  have hc : ∀ o u, (#[L, .int .i64 p, .slice none 0 0, .int .i64 0] : Array Value)[o]? = some u → ((w.alloc (.cells zeroE PET)).alloc (.cells #[L, .int .i64 p, .slice none 0 0, .int .i64 0] 116)).cell? ⟨w.heap.size + 1, o, none⟩ = some u := fun o u hu => by
    rw [cell_of_row _ _ _ _ _ (0, 0) hnew]
    simpa using hu
  have k1 := box_new w E.none (.slice none 0 0) PET
  refine ⟨⟨hc 0 _ rfl, hc 1 _ rfl, hc 2 _ rfl, hc 3 _ rfl, fun o => frozen_of_row _ _ o _ _ hnew, by omega, by omega, World.ownsRow_nil _ _ _ _, fun k hk => (by cases hk), .nil _ (Nat.le_refl _), by omega, fun b hb => hb.elim, rfl, Nat.zero_le _, fun y hy => by cases hy⟩, hT.below hb, k1.keep (hb2.block _ (by omega)) hb2.size, hb⟩
theorem MidR.below {T : List Words.T} {L : Value} {w wr w2 : World} {p d : Nat} {v : Value} {K : List (E × Value)} {hi : Nat} (h : MidR T L w wr p d v K hi) (hb : Below wr.heap.size wr w2) : MidR T L w w2 p d v K hi :=
  ⟨h.rd.below hb, h.tks.below hb, h.res.keep (hb.block _ h.res.lt) hb.size, bthen h.old hb⟩
theorem below_set4 {B p : Nat} {a w : World} (h : Below B a w) (hp : B ≤ p) (x y z u : Value) : Below B a ((((w.setCell ⟨p, 0, none⟩ x).setCell ⟨p, 1, none⟩ y).setCell ⟨p, 2, none⟩ z).setCell ⟨p, 3, none⟩ u) := (((h.setCell (p := ⟨p, 0, none⟩) hp _).setCell (p := ⟨p, 1, none⟩) hp _).setCell (p := ⟨p, 2, none⟩) hp _).setCell (p := ⟨p, 3, none⟩) hp _
theorem below_drew1 {B : Nat} {a w : World} (h : Below B a w) : Below B a w.drew := h.trans ⟨rfl, rfl, rfl, Nat.le_refl _, fun _ _ => rfl⟩
theorem says_new {U : World} {B n p er : Nat} (hs : U.heap.size = n) (hB : B ≤ n) (he : er ≠ 0) : Says B (U.alloc (.cells #[.string ⟨#[101, 120, 112, 114]⟩, .int .i64 p, .iface 95 (.int .i64 er)] 98)).drew (.iface 96 (.pointer (some ⟨n, 0, none⟩))) wExpr p er := by
  subst hs
  exact .inr ⟨he, U.heap.size, hB, rfl, by simp, by simp, by simp⟩
theorem below_at {w a b : World} (h : Below w.heap.size w a) (h1 : b.os = a.os) (h2 : b.tape = a.tape) (h3 : b.output = a.output) (hs : a.heap.size ≤ b.heap.size) (hb : ∀ i, i < w.heap.size → b.heap[i]? = a.heap[i]?) : Below w.heap.size w b := ⟨h1.trans h.os, h2.trans h.tape, h3.trans h.output, Nat.le_trans h.size hs, fun i hi => (hb i hi).trans (h.block i hi)⟩
set_option maxHeartbeats 8000000 in
set_option maxRecDepth 100000 in
theorem read_of (HFIN : FinishSpec) (T : List Words.T) (L : Value) (w : World) (p0 : Nat) (hT : Tks w L T) (hL : ∀ q, L.ownBlock = some q → q < w.heap.size) (hl : T.length ≤ 1000000) (hp0 : p0 ≤ T.length) : Calls Tryz.prog 40 #[L, .int .i64 p0] w fun e w' => ReadPost T w p0 e w' := by
  have HM := hide (midR_start (p := p0) hT)
  have HL : Hid (∀ q, L.ownBlock = some q → q < w.heap.size + 1 + 1 ∧ q ≠ w.heap.size + 1) := hide (fun q hq => by have := hL q hq; omega)
  have HF := hide HFIN
  obtain ⟨la, lc, hLs⟩ := hT.shape
  clear hT hL HFIN
  subst hLs
  go_enter Tryz.func40, Tryz.ntmps40
  go_wp2_with fail
  generalize (w.alloc (.cells zeroE PET)).alloc (.cells #[.slice la T.length lc, .int .i64 p0, .slice none 0 0, .int .i64 0] 116) = W0 at *
  go_loopw [10] (fun _ wr => ∃ (p d : Nat) (v : Value) (K : List (E × Value)) (hi : Nat), p ≤ T.length ∧ d ≤ 20 ∧ Hid (MidR T (.slice la T.length lc) w wr p d v K hi) ∧ Hid (∀ r, M T (.B p (K.map (·.1)) d) r → M T (.B p0 [] 0) r)) (fun _ wr => T.length - posOf (w.heap.size + 1) wr)
  case atStart => exact ⟨p0, 0, _, [], _, hp0, by omega, HM, hide (fun r h => h)⟩
  case round =>
    obtain ⟨p, d, v, K, hi, hp, hd, HMM, HRS⟩ := hrel
    have HPW : Hid (posOf (w.heap.size + 1) wr = p) := hide (unhide HMM).rd.pos1
    have HB := hide (begin_any T _ wr _ _ _ p d v K hi (unhide HMM).rd (unhide HMM).tks (unhide HL) hl hp hd)
    go_wp2_with fail
    refine (unhide HB).mono ?_
    rintro ev W1 (⟨x, p1, d1, v1, K1, hi1, rfl, hxa, hR1, hM1, hp1, hp1', hd1, hk1⟩ | ⟨er, p1, rfl, her, hM1, hat, hk1⟩)
    · have hal1 := alloc_below W1 (.cells #[.int .i64 x.kind, .int .i64 x.n, .string ⟨x.name.toArray⟩, .slice none 0 0] PET)
      have hz1 : (W1.alloc (.cells #[.int .i64 x.kind, .int .i64 x.n, .string ⟨x.name.toArray⟩, .slice none 0 0] PET)).heap.size = W1.heap.size + 1 := by simp
      have hB2 := box_new W1 x (.slice none 0 0) PET
      have hR2 : Rd (W1.alloc (.cells #[.int .i64 x.kind, .int .i64 x.n, .string ⟨x.name.toArray⟩, .slice none 0 0] PET)) (w.heap.size + 1 + 1) (w.heap.size + 1) (fun b => b = W1.heap.size) (.slice la T.length lc) p1 d1 v1 K1 hi1 := (hR1.below hal1).excl (fun b _ h2 _ h4 => by have := hR1.hi_le; omega) (fun k hk h4 => by have := (hR1.row.lt k hk).2; omega) (fun b h4 => by omega)
      have hT1 := (unhide HMM).tks.kept hk1 (unhide HL)
      have hres1 := (unhide HMM).res.keep (hk1.block _ (unhide HMM).res.lt (by omega) (.inl (by omega))) hk1.size
      have hold1 := kept_below (unhide HMM).old hk1 (by omega) (by omega)
      have HFC := hide (unhide HF T _ _ _ _ _ p1 d1 v1 K1 hi1 x (.slice none 0 0) hR2 (by rw [hxa]; exact .nil none 0) (hT1.below hal1) (unhide HL) hl hp1' hd1)
      have HG2 := hide (And.intro hB2 (And.intro (hT1.below hal1) (And.intro (hres1.keep (hal1.block _ hres1.lt) hal1.size) (bthen hold1 hal1))))
      have hqr : w.heap.size + 1 + 1 ≤ W1.heap.size := hR1.bs
      have HRS1 : Hid (∀ r, M T (.F p1 (K1.map (·.1)) d1 x) r → M T (.B p0 [] 0) r) := hide (fun r hr => unhide HRS r (hM1 r hr))
      obtain ⟨b0, b1, b2, b3, -, -, -, -, -⟩ := hB2
      clear hR1 hM1 hk1 hal1 hT1 hres1 hold1 hR2 HB
      go_wp2_with fail
      generalize (W1.alloc (.cells #[.int .i64 x.kind, .int .i64 x.n, .string ⟨x.name.toArray⟩, .slice none 0 0] PET)) = W2 at *
      generalize W1.heap.size = q at *
      refine (unhide HFC).mono ?_
      rintro ev W3 (⟨z, p3, sz, rfl, hf3, hM3, hat3, hp3, hk3⟩ | ⟨p3, d3, v3, K3, hi3, rfl, hR3, hM3, hp3, hp3', hd3, hk3⟩ | ⟨er, p3, rfl, her, hM3, hat3, hk3⟩)
      · obtain ⟨za, zc, hsz⟩ := hf3.shape
        generalize hzl : z.a.length = zl at *
        subst hsz
        have hB3 := (unhide HG2).1.keep (hk3.block _ (unhide HG2).1.lt (by omega) (.inr rfl)) hk3.size
        have hH3 := (unhide HG2).2.2.1.keep (hk3.block _ (unhide HG2).2.2.1.lt (by omega) (.inl (by omega))) hk3.size
        have HO3 := hide (kept_below (unhide HG2).2.2.2 hk3 (by omega) (by omega))
        have HF3 := hide hf3
        clear b0 b1 b2 b3
        obtain ⟨b0, b1, b2, b3, g0, g1, g2, g3, hbl⟩ := hB3
        obtain ⟨e0, e1, e2, e3, f0, f1, f2, f3, hfl⟩ := hH3
        have hqH : ¬ q = w.heap.size := by omega
        have hqH' : ¬ w.heap.size = q := by omega
        have hqR : ¬ q = w.heap.size + 1 := by omega
        have hqR' : ¬ w.heap.size + 1 = q := by omega
        go_wp2_with fail
        go_region
        go_wp2
        refine bodyPost_ret (v := .tuple #[treeV z (.slice za zl zc), .int .i64 p3, .nilIface]) (by simp [results, Tryz.results40, go_sem, e0, e1, e2, e3]) rfl ?_
        have hkk : ∀ b, b ≠ q → b ≠ w.heap.size → ((((((((W3.setCell ⟨q, 0, none⟩ (.int .i64 z.kind)).setCell ⟨q, 1, none⟩ (.int .i64 z.n)).setCell ⟨q, 2, none⟩ (.string ⟨z.name.toArray⟩)).setCell ⟨q, 3, none⟩ (.slice za zl zc)).setCell ⟨w.heap.size, 0, none⟩ (.int .i64 z.kind)).setCell ⟨w.heap.size, 1, none⟩ (.int .i64 z.n)).setCell ⟨w.heap.size, 2, none⟩ (.string ⟨z.name.toArray⟩)).setCell ⟨w.heap.size, 3, none⟩ (.slice za zl zc)).drew.heap[b]? = W3.heap[b]? := fun b h1 h2 => (heap_drew _ b).trans ((heap_set4 _ _ _ _ _ _ _ h2).trans (heap_set4 _ _ _ _ _ _ _ h1))
        exact .inl ⟨z, p3, _, rfl, (unhide HF3).keep (fun b hs _ => hkk b hs.2 (by omega)) (fun b hs _ => by omega), unhide HRS1 _ hM3, hp3, below_drew1 (below_set4 (below_set4 (unhide HO3) (by omega) _ _ _ _) (Nat.le_refl _) _ _ _ _)⟩
      · have hB3 := (unhide HG2).1.keep (hk3.block _ (unhide HG2).1.lt (by omega) (.inr rfl)) hk3.size
        have hH3 := (unhide HG2).2.2.1.keep (hk3.block _ (unhide HG2).2.2.1.lt (by omega) (.inl (by omega))) hk3.size
        have hO3 := kept_below (unhide HG2).2.2.2 hk3 (by omega) (by omega)
        have hT3 := (unhide HG2).2.1.kept hk3 (unhide HL)
        clear b0 b1 b2 b3
        have hkk : ∀ b, b ≠ q → ((((W3.setCell ⟨q, 0, none⟩ (.int .i64 0)).setCell ⟨q, 1, none⟩ (.int .i64 0)).setCell ⟨q, 2, none⟩ (.string ⟨#[]⟩)).setCell ⟨q, 3, none⟩ (.slice none 0 0)).heap[b]? = W3.heap[b]? := fun b h1 => heap_set4 _ _ _ _ _ _ _ h1
        have hss := size_set4 W3 q (.int .i64 0) (.int .i64 0) (.string ⟨#[]⟩) (.slice none 0 0)
        have HM4 : Hid (MidR T (.slice la T.length lc) w ((((W3.setCell ⟨q, 0, none⟩ (.int .i64 0)).setCell ⟨q, 1, none⟩ (.int .i64 0)).setCell ⟨q, 2, none⟩ (.string ⟨#[]⟩)).setCell ⟨q, 3, none⟩ (.slice none 0 0)) p3 d3 v3 K3 hi3) := hide ⟨(hR3.write (q := q) rfl (by omega) hss hkk).excl (fun _ _ _ _ h => h) (fun _ _ h => h) (fun _ h => h.elim), hT3.kept (rb := w.heap.size + 1) (base := w.heap.size + 1 + 1) (X := fun _ => False) ⟨rfl, rfl, rfl, by omega, fun b hb hr hx => hkk b (hx.elim (fun h e => by omega) (fun h => h.elim))⟩ (unhide HL), hH3.keep (hkk _ (by omega)) (by omega), below_set4 hO3 (by omega) _ _ _ _⟩
        have HP4 := hide (unhide HM4).rd.pos1
        have HRN : Hid (∀ r, M T (.B p3 (K3.map (·.1)) d3) r → M T (.B p0 [] 0) r) := hide (fun r hr => unhide HRS1 r (hM3 r hr))
        clear hR3 hM3 hk3 hH3 hO3 hT3 hkk hss
        obtain ⟨b0, b1, b2, b3, g0, g1, g2, g3, hbl⟩ := hB3
        go_wp2
        go_roundw
        case rel => exact ⟨p3, d3, v3, K3, hi3, hp3', hd3, HM4, HRN⟩
        case measure => rw [unhide HPW]; refine Nat.lt_of_le_of_lt (Nat.le_of_eq (congrArg (fun m => T.length - m) (unhide HP4))) (by omega)
      · have hB3 := (unhide HG2).1.keep (hk3.block _ (unhide HG2).1.lt (by omega) (.inr rfl)) hk3.size
        have hH3 := (unhide HG2).2.2.1.keep (hk3.block _ (unhide HG2).2.2.1.lt (by omega) (.inl (by omega))) hk3.size
        have HO3 := hide (kept_below (unhide HG2).2.2.2 hk3 (by omega) (by omega))
        clear b0 b1 b2 b3
        obtain ⟨b0, b1, b2, b3, g0, g1, g2, g3, hbl⟩ := hB3
        obtain ⟨e0, e1, e2, e3, f0, f1, f2, f3, hfl⟩ := hH3
        have hqH : ¬ q = w.heap.size := by omega
        have hqH' : ¬ w.heap.size = q := by omega
        have hqR : ¬ q = w.heap.size + 1 := by omega
        have hqR' : ¬ w.heap.size + 1 = q := by omega
        have hrl3 := cell_lt hat3
        go_wp2_with fail
        go_region
        go_wp2
        refine bodyPost_ret (v := .tuple #[.agg #[.int .i64 0, .int .i64 0, .string ⟨#[]⟩, .slice none 0 0], .int .i64 0, .iface 96 (.pointer (some ⟨W3.heap.size, 0, none⟩))]) (by simp [results, Tryz.results40, go_sem, e0, e1, e2, e3, hfl]) rfl ?_
        have hsz : ((((((((W3.setCell ⟨q, 0, none⟩ (.int .i64 E.none.kind)).setCell ⟨q, 1, none⟩ (.int .i64 E.none.n)).setCell ⟨q, 2, none⟩ (.string ⟨E.none.name.toArray⟩)).setCell ⟨q, 3, none⟩ (.slice none 0 0)).setCell ⟨w.heap.size, 0, none⟩ (.int .i64 0)).setCell ⟨w.heap.size, 1, none⟩ (.int .i64 0)).setCell ⟨w.heap.size, 2, none⟩ (.string ⟨#[]⟩)).setCell ⟨w.heap.size, 3, none⟩ (.slice none 0 0)).heap.size = W3.heap.size := (size_set4 _ _ _ _ _ _).trans (size_set4 _ _ _ _ _ _)
        have hbb := below_set4 (below_set4 (unhide HO3) (show w.heap.size ≤ q by omega) (.int .i64 E.none.kind) (.int .i64 E.none.n) (.string ⟨E.none.name.toArray⟩) (.slice none 0 0)) (Nat.le_refl _) (.int .i64 0) (.int .i64 0) (.string ⟨#[]⟩) (.slice none 0 0)
        exact .inr ⟨er, p3, _, rfl, her, unhide HRS1 _ hM3, says_new hsz (by have := (unhide HO3).size; omega) her, below_drew1 (bthen hbb (alloc_below _ _))⟩
    · have hal1 := alloc_below W1 (.cells zeroE PET)
      have hres1 := (unhide HMM).res.keep (hk1.block _ (unhide HMM).res.lt (by omega) (.inl (by omega))) hk1.size
      have HO1 := hide (kept_below (unhide HMM).old hk1 (by omega) (by omega))
      obtain ⟨e0, e1, e2, e3, f0, f1, f2, f3, hfl⟩ := hres1
      have hrl3 := cell_lt hat
      have hHl : w.heap.size < W1.heap.size := hfl
      clear hal1 hk1
      go_wp2_with fail
      go_region
      go_wp2
      refine bodyPost_ret (v := .tuple #[.agg #[.int .i64 0, .int .i64 0, .string ⟨#[]⟩, .slice none 0 0], .int .i64 0, .iface 96 (.pointer (some ⟨W1.heap.size + 1, 0, none⟩))]) (by simp [results, Tryz.results40, go_sem, e0, e1, e2, e3, hHl, Nat.lt_succ_of_lt hHl]) rfl ?_
      have hbb := below_set4 (unhide HO1) (Nat.le_refl _) (.int .i64 0) (.int .i64 0) (.string ⟨#[]⟩) (.slice none 0 0)
      have hsz : (((((W1.setCell ⟨w.heap.size, 0, none⟩ (.int .i64 0)).setCell ⟨w.heap.size, 1, none⟩ (.int .i64 0)).setCell ⟨w.heap.size, 2, none⟩ (.string ⟨#[]⟩)).setCell ⟨w.heap.size, 3, none⟩ (.slice none 0 0)).alloc (.cells #[.int .i64 E.none.kind, .int .i64 E.none.n, .string ⟨E.none.name.toArray⟩, .slice none 0 0] 24)).heap.size = W1.heap.size + 1 := by
        have := size_set4 W1 w.heap.size (.int .i64 0) (.int .i64 0) (.string ⟨#[]⟩) (.slice none 0 0)
        generalize ((((W1.setCell ⟨w.heap.size, 0, none⟩ (.int .i64 0)).setCell ⟨w.heap.size, 1, none⟩ (.int .i64 0)).setCell ⟨w.heap.size, 2, none⟩ (.string ⟨#[]⟩)).setCell ⟨w.heap.size, 3, none⟩ (.slice none 0 0)) = U at *
        rw [← this]
        simp
      exact .inr ⟨er, p1, _, rfl, her, unhide HRS _ hM1, says_new hsz (by omega) her, below_drew1 (bthen (bthen hbb (alloc_below _ _)) (alloc_below _ _))⟩
end Go.Proofs.YtepnafnljfjeoaaGreatDoor.Line

namespace Go.Proofs.YtepnafnljfjeoaaGreatDoor.Line
open Go.ChangeShapes Go.WideShapes Go.ChangeAt Go.RowKit
open Ex (E St M Cfg Res)
set_option linter.unusedVariables false

theorem Says.keep {B B' : Nat} {w w' : World} {f : Value} {word : List UInt8} {at_ err : Nat} (h : Says B w f word at_ err) (hk : ∀ b, B ≤ b → b < w.heap.size → w'.heap[b]? = w.heap[b]?) (hB : B' ≤ B) : Says B' w' f word at_ err := by
  rcases h with h | ⟨h0, b, h1, h2, h3, h4, h5⟩
  · exact .inl h
  · have hh := hk b h1 (cell_lt h3)
    exact .inr ⟨h0, b, by omega, h2, (World.cell?_of_block (a := ⟨b, 0, none⟩) hh).trans h3, (World.cell?_of_block (a := ⟨b, 1, none⟩) hh).trans h4, (World.cell?_of_block (a := ⟨b, 2, none⟩) hh).trans h5⟩
theorem finish_spec : FinishSpec := fun T L w base rb X p0 d0 v0 K0 hi0 x0 sx0 h1 h2 h3 h4 h5 h6 h7 => finish_any T L w base rb X p0 d0 v0 K0 hi0 x0 sx0 h1 h2 h3 h4 h5 h6 h7
theorem read_any (T : List Words.T) (L : Value) (w : World) (p0 : Nat) (hT : Tks w L T) (hL : ∀ q, L.ownBlock = some q → q < w.heap.size) (hl : T.length ≤ 1000000) (hp0 : p0 ≤ T.length) : Calls Tryz.prog 40 #[L, .int .i64 p0] w fun e w' => ∃ x s sl g, Ex.RExpr T 0 ⟨p0, 0, 0⟩ (x, s) ∧ e = .returned (.tuple #[treeV (ansE x s) sl, .int .i64 (ansN s), g]) ∧ Forest w' (fun b => w.heap.size ≤ b) (ansE x s).a sl ∧ Says w.heap.size w' g wExpr s.bad s.err ∧ Below w.heap.size w w' ∧ (s.err = 0 → s.pos ≤ T.length) := by
  refine (read_of finish_spec T L w p0 hT hL hl hp0).mono ?_
  rintro e w' (⟨z, p', sz, rfl, hf, hM, hp, hb⟩ | ⟨er, p', g, rfl, her, hM, hs, hb⟩)
  · obtain ⟨x, s, hr, h⟩ := Ex.mach hM
    rcases h with ⟨h0, h⟩ | ⟨h0, h⟩
    · injection h with h1 h2
      subst h1 h2
      exact ⟨z, s, sz, .nilIface, hr, by unfold ansE ansN; rw [if_pos h0, if_pos h0], by unfold ansE; rw [if_pos h0]; exact hf, .inl ⟨h0, rfl⟩, hb, fun _ => hp⟩
    · cases h
  · obtain ⟨x, s, hr, h⟩ := Ex.mach hM
    rcases h with ⟨h0, h⟩ | ⟨h0, h⟩
    · cases h
    · injection h with h1 h2
      subst h1 h2
      exact ⟨x, s, .slice none 0 0, g, hr, by unfold ansE ansN; rw [if_neg h0, if_neg h0]; rfl, by unfold ansE; rw [if_neg h0]; exact .nil none 0, hs, hb, fun k => absurd k h0⟩
set_option maxHeartbeats 4000000 in
set_option maxRecDepth 100000 in
theorem parse_spec : ParseSpec := by
  intro T L w hl hT hL
  have hb0 := alloc_below w (.cells zeroE PET)
  have hz0 : (w.alloc (.cells zeroE PET)).heap.size = w.heap.size + 1 := by simp
  have HC := hide (read_any T L (w.alloc (.cells zeroE PET)) 0 (hT.below hb0) (fun q hq => by have := hL q hq; omega) hl (Nat.zero_le _))
  have HB := hide (And.intro hb0 (And.intro hz0 (box_new w E.none (.slice none 0 0) PET)))
  clear hb0 hz0 hT hL
  go_enter Tryz.func12, Tryz.ntmps12
  go_wp2_with fail
  refine (unhide HC).mono ?_
  rintro ev w1 ⟨x, s, sl, g, hr, rfl, hf, hs, hb, hp⟩
  have hB1 := (unhide HB).2.2.keep (hb.block _ (unhide HB).2.2.lt) hb.size
  have HF := hide (And.intro hf (And.intro hs (bthen (unhide HB).1 hb)))
  have HZ := hide (unhide HB).2.1
  obtain ⟨la, lc, hsl⟩ := hf.shape
  generalize hln : (ansE x s).a.length = ln at *
  subst hsl
  obtain ⟨e0, e1, e2, e3, f0, f1, f2, f3, hfl⟩ := hB1
  clear hf hs hb HC HB
  have HR : Hid (Ex.RExpr T 0 ⟨0, 0, 0⟩ (x, s)) := hide hr
  generalize hz : ansE x s = z at *
  generalize han : ansN s = an at *
  have HZZ := hide (And.intro hz han)
  clear hz han hr
  go_wp2
  refine bodyPost_ret (v := .tuple #[treeV z (.slice la ln lc), .int .i64 an, g]) (by simp [results, Tryz.results12, go_sem, e0, e1, e2, e3]) rfl ?_
  obtain ⟨hz, han⟩ := unhide HZZ
  have hzz := unhide HZ
  refine ⟨x, s, .slice la ln lc, g, unhide HR, by rw [hz, han], ?_, (unhide HF).2.1.keep (fun b hb _ => heap_set4 _ _ _ _ _ _ _ (by omega)) (by omega), below_set4 (unhide HF).2.2 (Nat.le_refl _) _ _ _ _⟩
  rw [hz]
  exact (unhide HF).1.keep (fun b hb _ => heap_set4 _ _ _ _ _ _ _ (by omega)) (fun b hb _ => by omega)
set_option maxHeartbeats 4000000 in
theorem compares_any (c : List UInt8) (w : World) : Calls Tryz.prog 45 #[.string ⟨c.toArray⟩] w fun e w' => e = .returned (.bool (isRel c)) ∧ w' = w := by
  by_cases h : c ∈ rels
  · have h1 : isRel c = true := by unfold isRel; simpa using h
    rw [h1]
    simp only [rels, List.mem_cons, List.not_mem_nil, or_false] at h
    clear h1
    rcases h with rfl | rfl | rfl | rfl | rfl | rfl
    all_goals (
      go_enter Tryz.func45, Tryz.ntmps45
      go_wp2
      go_ret
      exact ⟨rfl, rfl⟩)
  · have h1 : isRel c = false := by unfold isRel; simpa using h
    rw [h1]
    simp only [rels, List.mem_cons, List.not_mem_nil, or_false, not_or] at h
    obtain ⟨g1, g2, g3, g4, g5, g6⟩ := h
    have k1 : (c == [60]) = false := beq_eq_false_iff_ne.2 g1
    have k2 : (c == [60, 61]) = false := beq_eq_false_iff_ne.2 g2
    have k3 : (c == [62]) = false := beq_eq_false_iff_ne.2 g3
    have k4 : (c == [62, 61]) = false := beq_eq_false_iff_ne.2 g4
    have k5 : (c == [61, 61]) = false := beq_eq_false_iff_ne.2 g5
    have k6 : (c == [47, 61]) = false := beq_eq_false_iff_ne.2 g6
    clear g1 g2 g3 g4 g5 g6 h1
    go_enter Tryz.func45, Tryz.ntmps45
    go_wp2
    go_ret
    exact ⟨rfl, rfl⟩
theorem rel_sg (T : List Words.T) (p : Nat) : relAt T p = isRel (Ex.sg T p) := by
  unfold relAt Ex.sg
  cases T[p]? with
  | none => rfl
  | some t =>
    by_cases k : t.kind = 3
    · simp [k]
    · show (decide (t.kind = 3) && isRel t.text) = isRel (if t.kind = 3 then t.text else [])
      rw [if_neg k, decide_eq_false k]
      rfl
end Go.Proofs.YtepnafnljfjeoaaGreatDoor.Line

namespace Go.Proofs.YtepnafnljfjeoaaGreatDoor.Line
open Go.ChangeShapes Go.WideShapes Go.ChangeAt Go.RowKit
open Ex (E St M Cfg Res)
set_option linter.unusedVariables false

abbrev PCT : TypeId := 55
theorem below_set9 {B p : Nat} {a w : World} (h : Below B a w) (hp : B ≤ p) (a0 a1 a2 a3 a4 a5 a6 a7 a8 : Value) : Below B a (((((((((w.setCell ⟨p, 0, none⟩ a0).setCell ⟨p, 1, none⟩ a1).setCell ⟨p, 2, none⟩ a2).setCell ⟨p, 3, none⟩ a3).setCell ⟨p, 4, none⟩ a4).setCell ⟨p, 5, none⟩ a5).setCell ⟨p, 6, none⟩ a6).setCell ⟨p, 7, none⟩ a7).setCell ⟨p, 8, none⟩ a8) :=
  ((((((((h.setCell (p := ⟨p, 0, none⟩) hp _).setCell (p := ⟨p, 1, none⟩) hp _).setCell (p := ⟨p, 2, none⟩) hp _).setCell (p := ⟨p, 3, none⟩) hp _).setCell (p := ⟨p, 4, none⟩) hp _).setCell (p := ⟨p, 5, none⟩) hp _).setCell (p := ⟨p, 6, none⟩) hp _).setCell (p := ⟨p, 7, none⟩) hp _).setCell (p := ⟨p, 8, none⟩) hp _
theorem heap_set9 (w : World) (p : Nat) (a0 a1 a2 a3 a4 a5 a6 a7 a8 : Value) (k : Nat) (h : k ≠ p) : (((((((((w.setCell ⟨p, 0, none⟩ a0).setCell ⟨p, 1, none⟩ a1).setCell ⟨p, 2, none⟩ a2).setCell ⟨p, 3, none⟩ a3).setCell ⟨p, 4, none⟩ a4).setCell ⟨p, 5, none⟩ a5).setCell ⟨p, 6, none⟩ a6).setCell ⟨p, 7, none⟩ a7).setCell ⟨p, 8, none⟩ a8).heap[k]? = w.heap[k]? := by
  rw [heap_set1 _ _ _ _ _ h, heap_set1 _ _ _ _ _ h, heap_set1 _ _ _ _ _ h, heap_set1 _ _ _ _ _ h, heap_set1 _ _ _ _ _ h, heap_set1 _ _ _ _ _ h, heap_set1 _ _ _ _ _ h, heap_set1 _ _ _ _ _ h, heap_set1 _ _ _ _ _ h]
theorem size_set9 (w : World) (p : Nat) (a0 a1 a2 a3 a4 a5 a6 a7 a8 : Value) : (((((((((w.setCell ⟨p, 0, none⟩ a0).setCell ⟨p, 1, none⟩ a1).setCell ⟨p, 2, none⟩ a2).setCell ⟨p, 3, none⟩ a3).setCell ⟨p, 4, none⟩ a4).setCell ⟨p, 5, none⟩ a5).setCell ⟨p, 6, none⟩ a6).setCell ⟨p, 7, none⟩ a7).setCell ⟨p, 8, none⟩ a8).heap.size = w.heap.size := by
  rw [size_set1, size_set1, size_set1, size_set1, size_set1, size_set1, size_set1, size_set1, size_set1]
theorem says_new1 {U : World} {B n p er : Nat} (hs : U.heap.size = n) (hB : B ≤ n) (he : er ≠ 0) : Says B (U.alloc (.cells #[.string ⟨#[101, 120, 112, 114]⟩, .int .i64 p, .iface 95 (.int .i64 er)] 98)) (.iface 96 (.pointer (some ⟨n, 0, none⟩))) wExpr p er := by
  subst hs
  exact .inr ⟨he, U.heap.size, hB, rfl, by simp, by simp, by simp⟩
theorem says_iface {B : Nat} {w : World} {g : Value} {word : List UInt8} {p er : Nat} (h : Says B w g word p er) (he : er ≠ 0) : ∃ b, g = .iface 96 (.pointer (some ⟨b, 0, none⟩)) := by
  rcases h with ⟨h0, _⟩ | ⟨_, b, _, rfl, _⟩
  · exact absurd h0 he
  · exact ⟨b, rfl⟩
theorem says_nil {B : Nat} {w : World} {g : Value} {word : List UInt8} {p er : Nat} (h : Says B w g word p er) (he : er = 0) : g = .nilIface := by
  rcases h with ⟨_, h0⟩ | ⟨h0, _⟩
  · exact h0
  · exact absurd he h0
set_option maxHeartbeats 4000000 in
set_option maxRecDepth 100000 in
theorem cond_spec : CondSpec := by
  intro T L w hl hT hL
  have hb0 := alloc_below w (.cells zeroC PCT)
  have hz0 : (w.alloc (.cells zeroC PCT)).heap.size = w.heap.size + 1 := by simp
  have HC := hide (read_any T L (w.alloc (.cells zeroC PCT)) 0 (hT.below hb0) (fun q hq => by have := hL q hq; omega) hl (Nat.zero_le _))
  have HB := hide (And.intro hb0 (And.intro hz0 (And.intro (boxC_new w [] E.none (.slice none 0 0) E.none (.slice none 0 0) PCT) (And.intro hT hL))))
  obtain ⟨wa, wc, hLs⟩ := hT.shape
  clear hb0 hz0 hT hL
  subst hLs
  go_enter Tryz.func18, Tryz.ntmps18
  go_wp2_with fail
  refine (unhide HC).mono ?_
  rintro ev w1 ⟨x1, s1, sl, g, hr1, rfl, hf1, hs1, hb1, hp1⟩
  have hB1 := (unhide HB).2.2.1.keep (hb1.block _ (unhide HB).2.2.1.lt) hb1.size
  have hbw := bthen (unhide HB).1 hb1
  have hz0 := (unhide HB).2.1
  have hs1z := hb1.size
  rw [hz0] at hs1z
  obtain ⟨la, lc, hsl⟩ := hf1.shape
  generalize hln : (ansE x1 s1).a.length = ln at *
  subst hsl
  have hA := alloc_below w1 (.cells #[.int .i64 (ansE x1 s1).kind, .int .i64 (ansE x1 s1).n, .string ⟨(ansE x1 s1).name.toArray⟩, .slice la ln lc] PET)
  have hzA : (w1.alloc (.cells #[.int .i64 (ansE x1 s1).kind, .int .i64 (ansE x1 s1).n, .string ⟨(ansE x1 s1).name.toArray⟩, .slice la ln lc] PET)).heap.size = w1.heap.size + 1 := by simp
  by_cases h1 : s1.err = 0
  · obtain rfl := says_nil hs1 h1
    have hansE : ansE x1 s1 = x1 := by unfold ansE; rw [if_pos h1]
    have hansN : ansN s1 = s1.pos := by unfold ansN; rw [if_pos h1]
    have hpp := hp1 h1
    have HBX := hide (box_new w1 x1 (.slice la ln lc) PET)
    rw [hansE] at hf1 hA hzA ⊢
    rw [hansN]
    have hTA : Tks (w1.alloc (.cells #[.int .i64 x1.kind, .int .i64 x1.n, .string ⟨x1.name.toArray⟩, .slice la ln lc] PET)) (.slice wa T.length wc) T := ((unhide HB).2.2.2.1.below hbw).below hA
    have HSG := hide (signAt_any T _ (w1.alloc (.cells #[.int .i64 x1.kind, .int .i64 x1.n, .string ⟨x1.name.toArray⟩, .slice la ln lc] PET)) s1.pos hTA hl (by omega))
    have HRL := hide (rel_sg T s1.pos)
    have HG := hide (And.intro hTA (And.intro hf1 (And.intro (bthen hbw hA) (And.intro (hB1.keep (hA.block _ hB1.lt) hA.size) hr1))))
    clear hs1 hp1 hTA hf1 hB1 hr1 HC hansE hansN hbw hb1
    generalize hsg : Ex.sg T s1.pos = c at *
    have HSGE := hide hsg
    clear hsg
    go_wp2_with fail
    refine (unhide HSG).mono ?_
    rintro ev w2 ⟨rfl, hw2⟩
    have hw2 := hw2.symm
    subst hw2
    go_wp2_with fail
    refine (compares_any c _).mono ?_
    rintro ev w2 ⟨rfl, hw2⟩
    have hw2 := hw2.symm
    subst hw2
    have HAA := hide hA
    generalize hWA : (w1.alloc (.cells #[.int .i64 x1.kind, .int .i64 x1.n, .string ⟨x1.name.toArray⟩, .slice la ln lc] PET)) = WA at *
    have HZA := hide hzA
    clear hzA hA hWA
    cases hrel : isRel c
    · obtain ⟨m0, m1, m2, m3, m4, m5, m6, m7, m8, z0, z1, z2, z3, z4, z5, z6, z7, z8, hHl⟩ := (unhide HG).2.2.2.1
      have HRA : Hid (relAt T s1.pos = false) := hide (by rw [rel_sg, unhide HSGE]; exact hrel)
      go_wp2
      refine bodyPost_ret (v := .tuple #[condV [] E.none (.slice none 0 0) E.none (.slice none 0 0), .int .i64 0, .iface 96 (.pointer (some ⟨WA.heap.size, 0, none⟩))]) (by simp [results, Tryz.results18, go_sem, m0, m1, m2, m3, m4, m5, m6, m7, m8, hHl, E.none, E.kind, E.n, E.name]) rfl ?_
      have hfail : s1.fail s1.pos 2 = ⟨s1.pos, 2, s1.pos⟩ := by unfold St.fail; rw [if_pos h1]
      refine ⟨[], E.none, E.none, ⟨s1.pos, 2, s1.pos⟩, .slice none 0 0, .slice none 0 0, _, ⟨x1, s1, (unhide HG).2.2.2.2, .inr (.inl ⟨h1, unhide HRA, hfail.symm, rfl, rfl, rfl⟩)⟩, rfl, .nil none 0, .nil none 0, says_new1 (size_set9 _ _ _ _ _ _ _ _ _ _ _) (by omega) (by decide), bthen (below_set9 (unhide HG).2.2.1 (Nat.le_refl _) _ _ _ _ _ _ _ _ _) (alloc_below _ _)⟩
    · have HRA : Hid (relAt T s1.pos = true) := hide (by rw [rel_sg, unhide HSGE]; exact hrel)
      have hlt : s1.pos < T.length := by
        rcases Nat.lt_or_ge s1.pos T.length with h | h
        · exact h
        · have := unhide HSGE; rw [sg_out (by omega)] at this; subst this; exact absurd hrel (by decide)
      have HCT : Hid (∃ h : s1.pos < T.length, c = T[s1.pos].text) := hide ⟨hlt, by
        have := unhide HSGE
        rw [sg_at hlt] at this
        by_cases k : T[s1.pos].kind = 3
        · rw [if_pos k] at this; exact this.symm
        · rw [if_neg k] at this; subst this; exact absurd hrel (by decide)⟩
      have HR2 := hide (read_any T _ WA (s1.pos + 1) (unhide HG).1 (fun q hq => by have h5 := (unhide HB).2.2.2.2 q hq; have h6 := (unhide HG).2.2.1.size; omega) hl (by omega))
      go_wp2_with fail
      refine (unhide HR2).mono ?_
      rintro ev w3 ⟨y1, s3, sl3, g3, hr3, rfl, hf3, hs3, hb3, hp3⟩
      rw [← Ex.RExpr.next0 (unhide HG).2.2.2.2 h1] at hr3
      obtain ⟨la3, lc3, hsl3⟩ := hf3.shape
      generalize hln3 : (ansE y1 s3).a.length = ln3 at *
      subst hsl3
      have hbx := (unhide HBX).keep (hb3.block _ (unhide HBX).lt) hb3.size
      have hBC := (unhide HG).2.2.2.1.keep (hb3.block _ (unhide HG).2.2.2.1.lt) hb3.size
      have HF3 := hide (And.intro ((unhide HG).2.1.old ((unhide HAA).trans (hb3.mono (unhide HAA).size))) (And.intro hf3 (And.intro hs3 (bthen (unhide HG).2.2.1 hb3))))
      have hsz3 := hb3.size
      rw [unhide HZA] at hsz3
      have HZ3 := hide (And.intro hsz3 (unhide HZA))
      by_cases h3 : s3.err = 0
      · obtain rfl := says_nil hs3 h3
        have hE3 : ansE y1 s3 = y1 := by unfold ansE; rw [if_pos h3]
        rw [hE3] at HF3 ⊢
        obtain ⟨b0, b1, b2, b3, -, -, -, -, hbl⟩ := hbx
        obtain ⟨m0, m1, m2, m3, m4, m5, m6, m7, m8, z0, z1, z2, z3, z4, z5, z6, z7, z8, hHl⟩ := hBC
        have HCD : Hid (RCond T c x1 y1 s3) := hide ⟨x1, s1, (unhide HG).2.2.2.2, .inr (.inr ⟨h1, unhide HRA, y1, s3, hr3, .inr ⟨h3, rfl, unhide HCT, rfl, rfl⟩⟩)⟩
        have hqw : w.heap.size < w1.heap.size := by omega
        have hne1 : ¬ w1.heap.size = w.heap.size := by omega
        have hne2 : ¬ w.heap.size = w1.heap.size := by omega
        clear hf3 hs3 hb3 hr3 hp3 hsz3 HR2 HSG hE3
        generalize han3 : ansN s3 = an3 at *
        have HAN := hide han3
        clear han3
        go_wp2
        refine bodyPost_ret (v := .tuple #[condV c x1 (.slice la ln lc) y1 (.slice la3 ln3 lc3), .int .i64 an3, .nilIface]) (by simp [results, Tryz.results18, go_sem, m0, m1, m2, m3, m4, m5, m6, m7, m8, hHl]) rfl ?_
        have hz3 := unhide HZ3
        have hzb := (unhide HB).2.1
        have hkeep : ∀ b, b ≠ w.heap.size → b < w3.heap.size → ((((((((((w3.setCell ⟨w.heap.size, 0, none⟩ (.string ⟨c.toArray⟩)).setCell ⟨w.heap.size, 1, none⟩ (.int .i64 x1.kind)).setCell ⟨w.heap.size, 2, none⟩ (.int .i64 x1.n)).setCell ⟨w.heap.size, 3, none⟩ (.string ⟨x1.name.toArray⟩)).setCell ⟨w.heap.size, 4, none⟩ (.slice la ln lc)).setCell ⟨w.heap.size, 5, none⟩ (.int .i64 y1.kind)).setCell ⟨w.heap.size, 6, none⟩ (.int .i64 y1.n)).setCell ⟨w.heap.size, 7, none⟩ (.string ⟨y1.name.toArray⟩)).setCell ⟨w.heap.size, 8, none⟩ (.slice la3 ln3 lc3)).alloc (.cells #[.int .i64 y1.kind, .int .i64 y1.n, .string ⟨y1.name.toArray⟩, .slice la3 ln3 lc3] 24)).heap[b]? = w3.heap[b]? := fun b h1 h2 => ((alloc_below _ _).block b (by rw [size_set9]; exact h2)).trans (heap_set9 _ _ _ _ _ _ _ _ _ _ _ _ h1)
        exact ⟨c, x1, y1, s3, _, _, _, unhide HCD, by rw [unhide HAN], (unhide HF3).1.keep (fun b hs hl => hkeep b (by omega) hl) (fun b hs _ => by omega), (unhide HF3).2.1.keep (fun b hs hl => hkeep b (by omega) hl) (fun b hs _ => by omega), .inl ⟨h3, rfl⟩, bthen (below_set9 (unhide HF3).2.2.2 (Nat.le_refl _) _ _ _ _ _ _ _ _ _) (alloc_below _ _)⟩
      · obtain ⟨fb, rfl⟩ := says_iface hs3 h3
        have hE3 : ansE y1 s3 = E.none := by unfold ansE; rw [if_neg h3]
        have hN3 : ansN s3 = 0 := by unfold ansN; rw [if_neg h3]
        have HCD : Hid (RCond T [] E.none E.none s3) := hide ⟨x1, s1, (unhide HG).2.2.2.2, .inr (.inr ⟨h1, unhide HRA, y1, s3, hr3, .inl ⟨h3, rfl, rfl, rfl, rfl⟩⟩)⟩
        obtain ⟨m0, m1, m2, m3, m4, m5, m6, m7, m8, z0, z1, z2, z3, z4, z5, z6, z7, z8, hHl⟩ := hBC
        clear hf3 hs3 hb3 hr3 hp3 hsz3 HR2 HSG
        generalize ansE y1 s3 = zz at *
        go_wp2
        refine bodyPost_ret (v := .tuple #[condV [] E.none (.slice none 0 0) E.none (.slice none 0 0), .int .i64 0, .iface 96 (.pointer (some ⟨fb, 0, none⟩))]) (by simp [results, Tryz.results18, go_sem, m0, m1, m2, m3, m4, m5, m6, m7, m8, hHl, E.none, E.kind, E.n, E.name]) rfl ?_
        have hz3 := unhide HZ3
        have hzb := (unhide HB).2.1
        refine ⟨[], E.none, E.none, s3, .slice none 0 0, .slice none 0 0, _, unhide HCD, by rw [hN3]; rfl, .nil none 0, .nil none 0, (unhide HF3).2.2.1.keep (fun b hs hl => ((alloc_below _ _).block b (by rw [size_set9]; exact hl)).trans (heap_set9 _ _ _ _ _ _ _ _ _ _ _ _ (by omega))) (by omega), bthen (below_set9 (unhide HF3).2.2.2 (Nat.le_refl _) _ _ _ _ _ _ _ _ _) (alloc_below _ _)⟩
  · obtain ⟨fb, rfl⟩ := says_iface hs1 h1
    have hE3 : ansE x1 s1 = E.none := by unfold ansE; rw [if_neg h1]
    have hN3 : ansN s1 = 0 := by unfold ansN; rw [if_neg h1]
    have HCD : Hid (RCond T [] E.none E.none s1) := hide ⟨x1, s1, hr1, .inl ⟨h1, rfl, rfl, rfl, rfl⟩⟩
    have HS1 := hide (And.intro hs1 hbw)
    obtain ⟨m0, m1, m2, m3, m4, m5, m6, m7, m8, z0, z1, z2, z3, z4, z5, z6, z7, z8, hHl⟩ := hB1
    clear hf1 hs1 hb1 hr1 hp1 HC hzA hA hbw
    generalize ansE x1 s1 = zz at *
    go_wp2
    refine bodyPost_ret (v := .tuple #[condV [] E.none (.slice none 0 0) E.none (.slice none 0 0), .int .i64 0, .iface 96 (.pointer (some ⟨fb, 0, none⟩))]) (by simp [results, Tryz.results18, go_sem, m0, m1, m2, m3, m4, m5, m6, m7, m8, hHl, E.none, E.kind, E.n, E.name]) rfl ?_
    refine ⟨[], E.none, E.none, s1, .slice none 0 0, .slice none 0 0, _, unhide HCD, by rw [hN3]; rfl, .nil none 0, .nil none 0, (unhide HS1).1.keep (fun b hs hl => ((alloc_below _ _).block b (by rw [size_set9]; exact hl)).trans (heap_set9 _ _ _ _ _ _ _ _ _ _ _ _ (by omega))) (by omega), bthen (below_set9 (unhide HS1).2 (Nat.le_refl _) _ _ _ _ _ _ _ _ _) (alloc_below _ _)⟩
end Go.Proofs.YtepnafnljfjeoaaGreatDoor.Line
