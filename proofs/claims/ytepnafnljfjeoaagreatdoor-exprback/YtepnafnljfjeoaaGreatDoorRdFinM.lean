/- In the midst of the project's finish: its memory. -/
import Derived.Test.YtepnafnljfjeoaaGreatDoorRdCommaA
import Derived.Test.YtepnafnljfjeoaaGreatDoorRdEnd
namespace Go.Proofs.YtepnafnljfjeoaaGreatDoor.Line
open Go.ChangeShapes Go.WideShapes Go.ChangeAt Go.RowKit
open Ex (E St M Cfg Res)
set_option linter.unusedVariables false

abbrev X2 (w : World) (X : Nat → Prop) : Nat → Prop := fun b => X b ∨ b = w.heap.size ∨ b = w.heap.size + 1
theorem Kept.to2 {rb base : Nat} {X X' : Nat → Prop} {w w' : World} (h : Kept rb base X' w w') (hx : ∀ b, X b → X' b) : Kept rb base X w w' := h.mono (fun b _ h => h.imp id (hx b))
/-- a block that is left out is written -/
theorem Rd.write {w W : World} {base rb q : Nat} {X : Nat → Prop} {L : Value} {p d : Nat} {v : Value} {K : List (E × Value)} {hi : Nat} (h : Rd w base rb X L p d v K hi) (hq : X q) (hqr : q ≠ rb) (hs : W.heap.size = w.heap.size) (hk : ∀ b, b ≠ q → W.heap[b]? = w.heap[b]?) : Rd W base rb X L p d v K hi := by
  have hr := hk rb (Ne.symm hqr)
  have hc : ∀ o, W.cell? ⟨rb, o, none⟩ = w.cell? ⟨rb, o, none⟩ := fun o => World.cell?_of_block (a := ⟨rb, o, none⟩) hr
  exact ⟨(hc 0).trans h.c0, (hc 1).trans h.c1, (hc 2).trans h.c2, (hc 3).trans h.c3, fun o => (World.frozen?_of_block (a := ⟨rb, o, none⟩) hr).trans (h.fr o), h.lt, by rw [hs]; exact h.bs, ownsRow_keep h.row (fun k hk' => hk k (fun e => h.gx k hk' (by rw [e]; exact hq))), h.gx, h.stk.keep (fun b _ _ h4 => hk b (fun e => h4 (.inr (by rw [e]; exact hq)))) (fun _ _ _ k => k) (Nat.le_refl _), by rw [hs]; exact h.hi_le, fun b hx => by rw [hs]; exact h.xl b hx, h.dp, h.kl, h.al⟩
structure MidFin (T : List Words.T) (L : Value) (w : World) (base rb : Nat) (X : Nat → Prop) (wr : World) (p d : Nat) (v : Value) (K : List (E × Value)) (hi : Nat) (x : E) (sx : Value) : Prop where
  rd : Rd wr base rb (X2 w X) L p d v K hi
  tks : Tks wr L T
  own : ∀ q, L.ownBlock = some q → q < base ∧ q ≠ rb
  box : Box wr w.heap.size x sx
  res : Box wr (w.heap.size + 1) E.none (.slice none 0 0)
  fo : Forest wr (fun b => hi ≤ b ∧ ¬ (some b = v.ownBlock ∨ X2 w X b)) x.a sx
  kept : Kept rb base X w wr
  bl : base ≤ w.heap.size
theorem MidFin.below {T : List Words.T} {L : Value} {w : World} {base rb : Nat} {X : Nat → Prop} {wr w2 : World} {p d : Nat} {v : Value} {K : List (E × Value)} {hi : Nat} {x : E} {sx : Value} (h : MidFin T L w base rb X wr p d v K hi x sx) (hb : Below wr.heap.size wr w2) : MidFin T L w base rb X w2 p d v K hi x sx :=
  ⟨h.rd.below hb, h.tks.below hb, h.own, h.box.keep (hb.block _ h.box.lt) hb.size, h.res.keep (hb.block _ h.res.lt) hb.size, h.fo.old hb, h.kept.trans (Kept.of hb), h.bl⟩
theorem midFin_start {T : List Words.T} {L : Value} {w : World} {base rb : Nat} {X : Nat → Prop} {p d : Nat} {v : Value} {K : List (E × Value)} {hi : Nat} {x : E} {sx : Value} (hR : Rd w base rb X L p d v K hi) (hx : Forest w (fun b => hi ≤ b ∧ ¬ (some b = v.ownBlock ∨ X b)) x.a sx) (hT : Tks w L T) (hL : ∀ q, L.ownBlock = some q → q < base ∧ q ≠ rb) : MidFin T L w base rb X ((w.alloc (.cells (cellsE x sx) PET)).alloc (.cells zeroE PET)) p d v K hi x sx := by
  have hb1 := alloc_below w (.cells (cellsE x sx) PET)
  have hb2 := alloc_below (w.alloc (.cells (cellsE x sx) PET)) (.cells zeroE PET)
  have hz1 : (w.alloc (.cells (cellsE x sx) PET)).heap.size = w.heap.size + 1 := by simp
  have hz2 : ((w.alloc (.cells (cellsE x sx) PET)).alloc (.cells zeroE PET)).heap.size = w.heap.size + 1 + 1 := by simp
  have hb := bthen hb1 hb2
  have k1 := box_new w x sx PET
  have k2 := box_new (w.alloc (.cells (cellsE x sx) PET)) E.none (.slice none 0 0) PET
  rw [hz1] at k2
  refine ⟨(hR.below hb).excl (fun b h1 h2 h3 h4 => h4.elim h3 (fun e => by have := hR.hi_le; omega)) (fun k hk h4 => h4.elim (hR.gx k hk) (fun e => by have := (hR.row.lt k hk).2; omega)) (fun b h4 => h4.elim (fun e => by have := hR.xl b e; omega) (fun e => by omega)), hT.below hb, hL, k1.keep (hb2.block _ (by omega)) hb2.size, k2, (hx.mono (fun b hs hl => ⟨hs.1, fun e => e.elim (fun e => hs.2 (.inl e)) (fun e => e.elim (fun e => hs.2 (.inr e)) (fun e => by omega))⟩)).old hb, Kept.of hb, hR.bs⟩
/-- a call has ended one that was open; the tree is laid down -/
theorem MidFin.step {T : List Words.T} {L : Value} {w : World} {base rb : Nat} {X : Nat → Prop} {wr w2 W : World} {p d p2 d2 : Nat} {v v2 : Value} {K K2 : List (E × Value)} {hi hi2 : Nat} {x z : E} {sx sz : Value} (h : MidFin T L w base rb X wr p d v K hi x sx) (hk : Kept rb base (X2 w X) wr w2) (hR : Rd w2 base rb (X2 w X) L p2 d2 v2 K2 hi2) (hf : Forest w2 (fun b => hi2 ≤ b ∧ ¬ (some b = v2.ownBlock ∨ X2 w X b)) z.a sz)
    (hW : W = ((((w2.setCell ⟨w.heap.size, 0, none⟩ (.int .i64 z.kind)).setCell ⟨w.heap.size, 1, none⟩ (.int .i64 z.n)).setCell ⟨w.heap.size, 2, none⟩ (.string ⟨z.name.toArray⟩)).setCell ⟨w.heap.size, 3, none⟩ sz)) : MidFin T L w base rb X W p2 d2 v2 K2 hi2 z sz := by
  have hrb := h.rd.lt
  have hbl := h.bl
  have hkH : ∀ b, w.heap.size ≤ b → b < wr.heap.size → X2 w X b → w2.heap[b]? = wr.heap[b]? := fun b h1 h2 h3 => hk.block b h2 (by omega) (.inr h3)
  have hB := h.box.keep (hkH _ (by omega) h.box.lt (.inr (.inl rfl))) hk.size
  have hB2 := h.res.keep (hkH _ (by omega) h.res.lt (.inr (.inr rfl))) hk.size
  have hB' := box_set hB z sz
  have hks : ∀ b, b ≠ w.heap.size → ((((w2.setCell ⟨w.heap.size, 0, none⟩ (.int .i64 z.kind)).setCell ⟨w.heap.size, 1, none⟩ (.int .i64 z.n)).setCell ⟨w.heap.size, 2, none⟩ (.string ⟨z.name.toArray⟩)).setCell ⟨w.heap.size, 3, none⟩ sz).heap[b]? = w2.heap[b]? := fun b hb => heap_set4 _ _ _ _ _ _ _ hb
  have hss := size_set4 w2 w.heap.size (.int .i64 z.kind) (.int .i64 z.n) (.string ⟨z.name.toArray⟩) sz
  have hT2 := h.tks.kept hk h.own
  have hkp := h.kept.trans (hk.to2 (X := X) (fun b h => .inl h))
  have hWo : W.os = w2.os ∧ W.tape = w2.tape ∧ W.output = w2.output := by rw [hW]; exact ⟨rfl, rfl, rfl⟩
  rw [← hW] at hB' hks hss
  have hkept : Kept rb base X w W := hkp.by hWo.1 hWo.2.1 hWo.2.2 (by omega) (fun b hb _ _ => hks b (by omega))
  refine ⟨hR.write (q := w.heap.size) (.inr (.inl rfl)) (by omega) hss hks, ?_, h.own, hB', hB2.keep (hks _ (by omega)) (by omega), hf.keep (fun b hs _ => hks b (fun e => hs.2 (.inr (.inr (.inl e))))) (fun _ h _ => h), hkept, hbl⟩
  exact hT2.kept (rb := rb) (base := base) (X := fun _ => False) ⟨hWo.1, hWo.2.1, hWo.2.2, by omega, fun b hb hr hx => hks b (by
    rcases hx with hx | hx
    · omega
    · exact hx.elim)⟩ h.own
def openOf (rb : Nat) (w : World) : Nat := match w.cell? ⟨rb, 2, none⟩ with
  | some (.slice _ n _) => n
  | _ => 0
theorem Rd.openOf {w : World} {base rb : Nat} {X : Nat → Prop} {L : Value} {p d : Nat} {v : Value} {K : List (E × Value)} {hi : Nat} (h : Rd w base rb X L p d v K hi) : Line.openOf rb w = K.length := by
  obtain ⟨a, c, hv⟩ := h.shape
  unfold Line.openOf
  rw [h.c2, hv]
theorem Rd.pos1 {w : World} {base rb : Nat} {X : Nat → Prop} {L : Value} {pos d : Nat} {v : Value} {K : List (E × Value)} {hi : Nat} (h : Rd w base rb X L pos d v K hi) : Line.posOf rb w = pos := by unfold Line.posOf; rw [h.c1]; simp
/-- the result is laid down -/
theorem MidFin.done {T : List Words.T} {L : Value} {w : World} {base rb : Nat} {X : Nat → Prop} {wr W : World} {p d : Nat} {v : Value} {K : List (E × Value)} {hi : Nat} {x : E} {sx : Value} (h : MidFin T L w base rb X wr p d v K hi x sx) {a b c e : Value} (hW : W = (((wr.setCell ⟨w.heap.size + 1, 0, none⟩ a).setCell ⟨w.heap.size + 1, 1, none⟩ b).setCell ⟨w.heap.size + 1, 2, none⟩ c).setCell ⟨w.heap.size + 1, 3, none⟩ e) (hX : ∀ b, X b → b < w.heap.size) :
    Rd W base rb X L p d v K hi ∧ Kept rb base X w W ∧ Forest W (fun b => hi ≤ b ∧ ¬ (some b = v.ownBlock ∨ X b)) x.a sx := by
  have hrb := h.rd.lt
  have hbl := h.bl
  have hk : ∀ b', b' ≠ w.heap.size + 1 → ((((wr.setCell ⟨w.heap.size + 1, 0, none⟩ a).setCell ⟨w.heap.size + 1, 1, none⟩ b).setCell ⟨w.heap.size + 1, 2, none⟩ c).setCell ⟨w.heap.size + 1, 3, none⟩ e).heap[b']? = wr.heap[b']? := fun b' hb => heap_set4 _ _ _ _ _ _ _ hb
  have hs := size_set4 wr (w.heap.size + 1) a b c e
  have hWo : W.os = wr.os ∧ W.tape = wr.tape ∧ W.output = wr.output := by rw [hW]; exact ⟨rfl, rfl, rfl⟩
  rw [← hW] at hk hs
  refine ⟨(h.rd.write (q := w.heap.size + 1) (.inr (.inr rfl)) (by omega) hs hk).excl (fun b _ _ h3 h4 => h3 (.inl h4)) (fun k hk' h4 => h.rd.gx k hk' (.inl h4)) (fun b h4 => by have := hX b h4; have := h.kept.size; omega), h.kept.by hWo.1 hWo.2.1 hWo.2.2 (by omega) (fun b hb _ _ => hk b (by omega)), ?_⟩
  exact h.fo.keep (fun b hs _ => hk b (fun e => hs.2 (.inr (.inr (.inr e))))) (fun b hs _ => ⟨hs.1, fun e => hs.2 (e.imp id .inl)⟩)
/-- behind another call: the result's block, and the result laid down -/
theorem MidFin.after {T : List Words.T} {L : Value} {w : World} {base rb : Nat} {X : Nat → Prop} {wr w2 : World} {p d : Nat} {v : Value} {K : List (E × Value)} {hi : Nat} {x : E} {sx : Value} (h : MidFin T L w base rb X wr p d v K hi x sx) (hk : Kept rb base (X2 w X) wr w2) : Box w2 (w.heap.size + 1) E.none (.slice none 0 0) := by
  have hrb := h.rd.lt
  have hbl := h.bl
  exact h.res.keep (hk.block _ h.res.lt (by omega) (.inr (.inr (.inr rfl)))) hk.size
theorem MidFin.leave {T : List Words.T} {L : Value} {w : World} {base rb : Nat} {X : Nat → Prop} {wr w2 W : World} {p d : Nat} {v : Value} {K : List (E × Value)} {hi : Nat} {x : E} {sx : Value} (h : MidFin T L w base rb X wr p d v K hi x sx) (hk : Kept rb base (X2 w X) wr w2) {a b c e : Value} (hW : W = (((w2.setCell ⟨w.heap.size + 1, 0, none⟩ a).setCell ⟨w.heap.size + 1, 1, none⟩ b).setCell ⟨w.heap.size + 1, 2, none⟩ c).setCell ⟨w.heap.size + 1, 3, none⟩ e) :
    Kept rb base X w W ∧ (∀ o, W.cell? ⟨rb, o, none⟩ = w2.cell? ⟨rb, o, none⟩) ∧ ((∀ b, X b → b < w.heap.size) → ∀ p2 d2 v2 K2 hi2, Rd w2 base rb (X2 w X) L p2 d2 v2 K2 hi2 → Rd W base rb X L p2 d2 v2 K2 hi2) := by
  have hrb := h.rd.lt
  have hbl := h.bl
  have hkk : ∀ b', b' ≠ w.heap.size + 1 → ((((w2.setCell ⟨w.heap.size + 1, 0, none⟩ a).setCell ⟨w.heap.size + 1, 1, none⟩ b).setCell ⟨w.heap.size + 1, 2, none⟩ c).setCell ⟨w.heap.size + 1, 3, none⟩ e).heap[b']? = w2.heap[b']? := fun b' hb => heap_set4 _ _ _ _ _ _ _ hb
  have hs := size_set4 w2 (w.heap.size + 1) a b c e
  have hWo : W.os = w2.os ∧ W.tape = w2.tape ∧ W.output = w2.output := by rw [hW]; exact ⟨rfl, rfl, rfl⟩
  rw [← hW] at hkk hs
  have hkp := h.kept.trans (hk.to2 (X := X) (fun b h => .inl h))
  refine ⟨hkp.by hWo.1 hWo.2.1 hWo.2.2 (by omega) (fun b hb _ _ => hkk b (by omega)), fun o => World.cell?_of_block (a := ⟨rb, o, none⟩) (hkk rb (by omega)), fun hX p2 d2 v2 K2 hi2 hR => (hR.write (q := w.heap.size + 1) (.inr (.inr rfl)) (by omega) hs hkk).excl (fun b _ _ h3 h4 => h3 (.inl h4)) (fun k hk' h4 => hR.gx k hk' (.inl h4)) (fun b h4 => by have := hX b h4; have := hkp.size; omega)⟩
theorem MidFin.move1 {T : List Words.T} {L : Value} {w : World} {base rb : Nat} {X : Nat → Prop} {wr : World} {p d : Nat} {v : Value} {K : List (E × Value)} {hi : Nat} {x : E} {sx : Value} (h : MidFin T L w base rb X wr p d v K hi x sx) : MidFin T L w base rb X (wr.setCell ⟨rb, 1, none⟩ (.int .i64 ((p : Int) + 1))) (p + 1) d v K hi x sx := by
  have hrb := h.rd.lt
  have hbl := h.bl
  have hk : ∀ b, b ≠ rb → (wr.setCell ⟨rb, 1, none⟩ (.int .i64 ((p : Int) + 1))).heap[b]? = wr.heap[b]? := fun b hb => Below.heap_setCell _ _ _ _ (show b ≠ rb from hb)
  have hs : (wr.setCell ⟨rb, 1, none⟩ (.int .i64 ((p : Int) + 1))).heap.size = wr.heap.size := size_set1 _ _ _
  have hkk := (Kept.refl rb base X wr).rb 1 (.int .i64 ((p : Int) + 1))
  refine ⟨h.rd.moveI, h.tks.kept hkk h.own, h.own, h.box.keep (hk _ (by omega)) (by omega), h.res.keep (hk _ (by omega)) (by omega), h.fo.keep (fun b hb _ => hk b (by have := h.rd.stk.le; omega)) (fun _ h _ => h), h.kept.trans hkk, hbl⟩
def FinishPost (T : List Words.T) (L : Value) (w : World) (base rb : Nat) (X : Nat → Prop) (p d : Nat) (K : List (E × Value)) (x : E) (e : Ending) (w' : World) : Prop :=
  (∃ z p' sz, e = .returned (.tuple #[treeV z sz, .bool true, .nilIface]) ∧ Forest w' (fun b => base ≤ b ∧ ¬ X b) z.a sz ∧ M T (.F p (K.map (·.1)) d x) (.ok z p') ∧ w'.cell? ⟨rb, 1, none⟩ = some (.int .i64 p') ∧ p' ≤ T.length ∧ Kept rb base X w w') ∨
  (∃ p' d' v' K' hi', e = .returned (.tuple #[treeV E.none (.slice none 0 0), .bool false, .nilIface]) ∧ Rd w' base rb X L p' d' v' K' hi' ∧ (∀ r, M T (.B p' (K'.map (·.1)) d') r → M T (.F p (K.map (·.1)) d x) r) ∧ p ≤ p' ∧ p' ≤ T.length ∧ d' ≤ 20 ∧ Kept rb base X w w') ∨
  (∃ (er p' : Nat), e = .returned (.tuple #[treeV E.none (.slice none 0 0), .bool false, .iface 95 (.int .i64 er)]) ∧ er ≠ 0 ∧ M T (.F p (K.map (·.1)) d x) (.bad er p') ∧ w'.cell? ⟨rb, 1, none⟩ = some (.int .i64 p') ∧ Kept rb base X w w')
def FinishSpec : Prop := ∀ (T : List Words.T) (L : Value) (w : World) (base rb : Nat) (X : Nat → Prop) (p0 d0 : Nat) (v0 : Value) (K0 : List (E × Value)) (hi0 : Nat) (x0 : E) (sx0 : Value), Rd w base rb X L p0 d0 v0 K0 hi0 → Forest w (fun b => hi0 ≤ b ∧ ¬ (some b = v0.ownBlock ∨ X b)) x0.a sx0 → Tks w L T → (∀ q, L.ownBlock = some q → q < base ∧ q ≠ rb) → T.length ≤ 1000000 → p0 ≤ T.length → d0 ≤ 20 →
    Calls Tryz.prog 54 #[.pointer (some ⟨rb, 0, none⟩), treeV x0 sx0] w fun e w' => FinishPost T L w base rb X p0 d0 K0 x0 e w'
end Go.Proofs.YtepnafnljfjeoaaGreatDoor.Line
