/- The contract of the project's reader: begin. -/
import Derived.Test.YtepnafnljfjeoaaGreatDoorRdPushA
import Derived.Deep.RegionWith
namespace Go.Proofs.YtepnafnljfjeoaaGreatDoor.Line
open Go.ChangeShapes Go.WideShapes Go.ChangeAt Go.RowKit
open Ex (E St M Cfg Res)
set_option linter.unusedVariables false

/-- in the midst: the reader, its words, the block of the result -/
structure MidB (T : List Words.T) (L : Value) (w : World) (base rb : Nat) (X : Nat → Prop) (wr : World) (p d : Nat) (v : Value) (K : List (E × Value)) (hi : Nat) : Prop where
  rd : Rd wr base rb (fun b => X b ∨ b = w.heap.size) L p d v K hi
  tks : Tks wr L T
  own : ∀ q, L.ownBlock = some q → q < base ∧ q ≠ rb
  box : Box wr w.heap.size E.none (.slice none 0 0)
  kept : Kept rb base X w wr
  bl : base ≤ w.heap.size
theorem Kept.to {rb base : Nat} {X X' : Nat → Prop} {w w' : World} (h : Kept rb base X' w w') (hx : ∀ b, X b → X' b) : Kept rb base X w w' := h.mono (fun b _ h => h.imp id (hx b))
theorem MidB.below {T : List Words.T} {L : Value} {w : World} {base rb : Nat} {X : Nat → Prop} {wr w2 : World} {p d : Nat} {v : Value} {K : List (E × Value)} {hi : Nat} (h : MidB T L w base rb X wr p d v K hi) (hb : Below wr.heap.size wr w2) : MidB T L w base rb X w2 p d v K hi :=
  ⟨h.rd.below hb, h.tks.below hb, h.own, h.box.keep (hb.block _ h.box.lt) hb.size, h.kept.trans (Kept.of hb), h.bl⟩
theorem MidB.step {T : List Words.T} {L : Value} {w : World} {base rb : Nat} {X : Nat → Prop} {wr w2 : World} {p d p2 d2 : Nat} {v v2 : Value} {K K2 : List (E × Value)} {hi hi2 : Nat} (h : MidB T L w base rb X wr p d v K hi) (hk : Kept rb base (fun b => X b ∨ b = w.heap.size) wr w2) (hR : Rd w2 base rb (fun b => X b ∨ b = w.heap.size) L p2 d2 v2 K2 hi2) : MidB T L w base rb X w2 p2 d2 v2 K2 hi2 :=
  ⟨hR, h.tks.kept hk h.own, h.own, h.box.keep (hk.block _ h.box.lt (by have := h.rd.lt; have := h.bl; omega) (.inr (.inr rfl))) hk.size, h.kept.trans (hk.to (fun b h => .inl h)), h.bl⟩
theorem MidB.move {T : List Words.T} {L : Value} {w : World} {base rb : Nat} {X : Nat → Prop} {wr : World} {p d : Nat} {v : Value} {K : List (E × Value)} {hi : Nat} (h : MidB T L w base rb X wr p d v K hi) (k : Nat) : MidB T L w base rb X (wr.setCell ⟨rb, 1, none⟩ (.int .i64 ((p + k : Nat) : Int))) (p + k) d v K hi :=
  h.step ⟨rfl, rfl, rfl, by simp [World.setCell], fun b _ hne _ => Below.heap_setCell _ _ _ _ (show b ≠ rb from hne)⟩ (h.rd.move k)
theorem MidB.move1 {T : List Words.T} {L : Value} {w : World} {base rb : Nat} {X : Nat → Prop} {wr : World} {p d : Nat} {v : Value} {K : List (E × Value)} {hi : Nat} (h : MidB T L w base rb X wr p d v K hi) : MidB T L w base rb X (wr.setCell ⟨rb, 1, none⟩ (.int .i64 ((p : Int) + 1))) (p + 1) d v K hi := h.move 1
theorem MidB.move2 {T : List Words.T} {L : Value} {w : World} {base rb : Nat} {X : Nat → Prop} {wr : World} {p d : Nat} {v : Value} {K : List (E × Value)} {hi : Nat} (h : MidB T L w base rb X wr p d v K hi) : MidB T L w base rb X (wr.setCell ⟨rb, 1, none⟩ (.int .i64 ((p : Int) + 2))) (p + 2) d v K hi := h.move 2
theorem midB_start {T : List Words.T} {L : Value} {w : World} {base rb : Nat} {X : Nat → Prop} {p d : Nat} {v : Value} {K : List (E × Value)} {hi : Nat} (hR : Rd w base rb X L p d v K hi) (hT : Tks w L T) (hL : ∀ q, L.ownBlock = some q → q < base ∧ q ≠ rb) : MidB T L w base rb X (w.alloc (.cells zeroE PET)) p d v K hi := by
  have hb := alloc_below w (.cells zeroE PET)
  have hz : (w.alloc (.cells zeroE PET)).heap.size = w.heap.size + 1 := by simp
  refine ⟨(hR.below hb).excl (fun b h1 h2 h3 h4 => h4.elim h3 (fun e => by have := hR.hi_le; omega)) (fun k hk h4 => h4.elim (hR.gx k hk) (fun e => by have := (hR.row.lt k hk).2; omega)) (fun b h4 => h4.elim (fun e => by have := hR.xl b e; omega) (fun e => by omega)), hT.below hb, hL, box_new w E.none (.slice none 0 0) PET, Kept.of hb, hR.bs⟩
/-- the result is laid down -/
theorem MidB.done {T : List Words.T} {L : Value} {w : World} {base rb : Nat} {X : Nat → Prop} {wr W : World} {p d : Nat} {v : Value} {K : List (E × Value)} {hi : Nat} (h : MidB T L w base rb X wr p d v K hi) {a b c e : Value} (hW : W = (((wr.setCell ⟨w.heap.size, 0, none⟩ a).setCell ⟨w.heap.size, 1, none⟩ b).setCell ⟨w.heap.size, 2, none⟩ c).setCell ⟨w.heap.size, 3, none⟩ e) (hX : ∀ b, X b → b < w.heap.size) : Rd W base rb X L p d v K hi ∧ Kept rb base X w W := by
  have hrb := h.rd.lt
  have hbl := h.bl
  subst hW
  have hk : ∀ b', b' ≠ w.heap.size → ((((wr.setCell ⟨w.heap.size, 0, none⟩ a).setCell ⟨w.heap.size, 1, none⟩ b).setCell ⟨w.heap.size, 2, none⟩ c).setCell ⟨w.heap.size, 3, none⟩ e).heap[b']? = wr.heap[b']? := fun b' hb => heap_set4 _ _ _ _ _ _ _ hb
  have hs : ((((wr.setCell ⟨w.heap.size, 0, none⟩ a).setCell ⟨w.heap.size, 1, none⟩ b).setCell ⟨w.heap.size, 2, none⟩ c).setCell ⟨w.heap.size, 3, none⟩ e).heap.size = wr.heap.size := size_set4 _ _ _ _ _ _
  have h1 : ((((wr.setCell ⟨w.heap.size, 0, none⟩ a).setCell ⟨w.heap.size, 1, none⟩ b).setCell ⟨w.heap.size, 2, none⟩ c).setCell ⟨w.heap.size, 3, none⟩ e).os = wr.os := rfl
  have h2 : ((((wr.setCell ⟨w.heap.size, 0, none⟩ a).setCell ⟨w.heap.size, 1, none⟩ b).setCell ⟨w.heap.size, 2, none⟩ c).setCell ⟨w.heap.size, 3, none⟩ e).tape = wr.tape := rfl
  have h3 : ((((wr.setCell ⟨w.heap.size, 0, none⟩ a).setCell ⟨w.heap.size, 1, none⟩ b).setCell ⟨w.heap.size, 2, none⟩ c).setCell ⟨w.heap.size, 3, none⟩ e).output = wr.output := rfl
  generalize ((((wr.setCell ⟨w.heap.size, 0, none⟩ a).setCell ⟨w.heap.size, 1, none⟩ b).setCell ⟨w.heap.size, 2, none⟩ c).setCell ⟨w.heap.size, 3, none⟩ e) = W at *
  have hR := h.rd
  have hr := hk rb (by omega)
  have hc : ∀ o, W.cell? ⟨rb, o, none⟩ = wr.cell? ⟨rb, o, none⟩ := fun o => World.cell?_of_block (a := ⟨rb, o, none⟩) hr
  refine ⟨⟨(hc 0).trans hR.c0, (hc 1).trans hR.c1, (hc 2).trans hR.c2, (hc 3).trans hR.c3, fun o => (World.frozen?_of_block (a := ⟨rb, o, none⟩) hr).trans (hR.fr o), hR.lt, by rw [hs]; exact hR.bs, ?_, fun k hk' => fun hx => hR.gx k hk' (.inl hx), hR.stk.keep (fun b' _ _ h4 => hk b' (fun e => h4 (.inr (.inr e)))) (fun b' _ _ h4 h5 => h4 (h5.imp id .inl)) (Nat.le_refl _), by rw [hs]; exact hR.hi_le, fun b' hx => by have := hX b' hx; have := h.kept.size; omega, hR.dp, hR.kl, hR.al⟩, h.kept.by h1 h2 h3 (by omega) (fun b' hb _ _ => hk b' (by omega))⟩
  refine ⟨hR.row.1, ?_⟩
  rcases hR.row.2 with h5 | ⟨g, cap, cur, hv, hg, hh, r⟩
  · exact .inl h5
  · refine .inr ⟨g, cap, cur, hv, hg, ?_, r⟩
    rw [hk g (fun e => hR.gx g (by rw [hv]; rfl) (.inr e))]
    exact hh
theorem Rd.posOf {w : World} {base rb : Nat} {X : Nat → Prop} {L : Value} {pos d : Nat} {v : Value} {K : List (E × Value)} {hi : Nat} (h : Rd w base rb X L pos d v K hi) : Line.posOf rb w = pos := by unfold Line.posOf; rw [h.c1]; simp
/-- one more that has no part yet -/
theorem Rd.push_at {w : World} {base rb : Nat} {X : Nat → Prop} {L : Value} {pos d : Nat} {v : Value} {K : List (E × Value)} {hi : Nat} (h : Rd w base rb X L pos d v K hi) (y : E) (hya : y.a = []) (hd : d = cnt ((y, .slice none 0 0) :: K)) (hk : K.length + 1 ≤ pos) (hp1 : pos ≤ 1000001) :
    ∃ g9 c9 w9, (Builtin.append_ #[PES, PES] PES #[v, .slice (some ⟨w.heap.size, 0, none⟩) 1 1]).run Tryz.prog (w.drew.alloc (.cells zeroE PET)) = .ok (.slice (some ⟨g9, 0, none⟩) (K.length + 1) c9) w9 ∧ ¬ rb = g9 ∧ ¬ g9 = rb ∧ w9.cell? ⟨rb, 2, none⟩ = some v ∧ w9.frozen? ⟨rb, 2, none⟩ = false ∧
      (w9.cell? ⟨g9, K.length * 4, none⟩ = some (.int .i64 0) ∧ w9.cell? ⟨g9, K.length * 4 + 1, none⟩ = some (.int .i64 0) ∧ w9.cell? ⟨g9, K.length * 4 + 2, none⟩ = some (.string ⟨#[]⟩) ∧ w9.cell? ⟨g9, K.length * 4 + 3, none⟩ = some (.slice none 0 0)) ∧ (∀ o, w9.frozen? ⟨g9, o, none⟩ = false) ∧
      (∀ Wf, (Wf = (((((w9.setCell ⟨g9, K.length * 4, none⟩ (.int .i64 y.kind)).setCell ⟨g9, K.length * 4 + 1, none⟩ (.int .i64 y.n)).setCell ⟨g9, K.length * 4 + 2, none⟩ (.string ⟨y.name.toArray⟩)).setCell ⟨g9, K.length * 4 + 3, none⟩ (.slice none 0 0)).setCell ⟨rb, 2, none⟩ (.slice (some ⟨g9, 0, none⟩) (K.length + 1) c9)) ∨
        Wf = (((((w9.setCell ⟨rb, 2, none⟩ (.slice (some ⟨g9, 0, none⟩) (K.length + 1) c9)).setCell ⟨g9, K.length * 4, none⟩ (.int .i64 y.kind)).setCell ⟨g9, K.length * 4 + 1, none⟩ (.int .i64 y.n)).setCell ⟨g9, K.length * 4 + 2, none⟩ (.string ⟨y.name.toArray⟩)).setCell ⟨g9, K.length * 4 + 3, none⟩ (.slice none 0 0))) →
        Rd Wf base rb X L pos d (.slice (some ⟨g9, 0, none⟩) (K.length + 1) c9) ((y, .slice none 0 0) :: K) Wf.heap.size ∧ Kept rb base X w Wf) := by
  have hrl : rb < w.heap.size := by have := h.lt; have := h.bs; omega
  have hA := alloc_below w.drew (.cells zeroE PET)
  have hz := alloc_new w.drew zeroE PET
  rw [size_drew] at hA hz
  have hr := (hA.block rb hrl).trans (heap_drew w rb)
  have hc : ∀ o, (w.drew.alloc (.cells zeroE PET)).cell? ⟨rb, o, none⟩ = w.cell? ⟨rb, o, none⟩ := fun o => World.cell?_of_block (a := ⟨rb, o, none⟩) hr
  have hf : ∀ o, (w.drew.alloc (.cells zeroE PET)).frozen? ⟨rb, o, none⟩ = false := fun o => (World.frozen?_of_block (a := ⟨rb, o, none⟩) hr).trans (h.fr o)
  have hsz := hA.size
  rw [size_drew] at hsz
  obtain ⟨g9, c9, w9, r1, r2, r3, r4, r5, r6, r7, r8⟩ := push_mem (W := w.drew.alloc (.cells zeroE PET)) (z := w.heap.size) (pos' := pos) (d' := d) (m := hi) (y := y) (yv := .slice none 0 0) (ps := []) h rfl rfl rfl hsz (fun b hb _ => (hA.block b hb).trans (heap_drew w b)) hz ((hc 0).trans h.c0) ((hc 1).trans h.c1) ((hc 2).trans h.c2) ((hc 3).trans h.c3) hf (Nat.le_refl _) (by have := h.hi_le; omega) (by rw [hya]; rfl) (OwnF.nil _ _ _ _) (fun k hk => by cases hk) hd hk (by rw [hya]; simp) hp1
  exact ⟨g9, c9, w9, r1, r2, r3, r4, r5, r6, r7, fun Wf hW => ⟨(r8 Wf hW).1, (r8 Wf hW).2.1⟩⟩
/-- what begin does -/
def BeginPost (T : List Words.T) (L : Value) (w : World) (base rb : Nat) (X : Nat → Prop) (p d : Nat) (K : List (E × Value)) (e : Ending) (w' : World) : Prop :=
  (∃ x p' d' v' K' hi', e = .returned (.tuple #[treeV x (.slice none 0 0), .nilIface]) ∧ x.a = [] ∧ Rd w' base rb X L p' d' v' K' hi' ∧ (∀ r, M T (.F p' (K'.map (·.1)) d' x) r → M T (.B p (K.map (·.1)) d) r) ∧ p < p' ∧ p' ≤ T.length ∧ d' ≤ 20 ∧ Kept rb base X w w') ∨
  (∃ (er p' : Nat), e = .returned (.tuple #[treeV E.none (.slice none 0 0), .iface 95 (.int .i64 er)]) ∧ er ≠ 0 ∧ M T (.B p (K.map (·.1)) d) (.bad er p') ∧ w'.cell? ⟨rb, 1, none⟩ = some (.int .i64 p') ∧ Kept rb base X w w')
set_option maxHeartbeats 8000000 in
set_option maxRecDepth 100000 in
theorem begin_any (T : List Words.T) (L : Value) (w : World) (base rb : Nat) (X : Nat → Prop) (p0 d0 : Nat) (v0 : Value) (K0 : List (E × Value)) (hi0 : Nat) (hR : Rd w base rb X L p0 d0 v0 K0 hi0) (hT : Tks w L T) (hL : ∀ q, L.ownBlock = some q → q < base ∧ q ≠ rb) (hl : T.length ≤ 1000000) (hp0 : p0 ≤ T.length) (hd0 : d0 ≤ 20) :
    Calls Tryz.prog 53 #[.pointer (some ⟨rb, 0, none⟩)] w fun e w' => BeginPost T L w base rb X p0 d0 K0 e w' := by
  have HM := hide (midB_start hR hT hL)
  have hrl : rb < w.heap.size := by have := hR.lt; have := hR.bs; omega
  have hneH : ¬ rb = w.heap.size := by omega
  have hneH' : ¬ w.heap.size = rb := by omega
  have HXL := hide hR.xl
  obtain ⟨la, lc, hLs⟩ := hT.shape
  clear hR hT hL
  subst hLs
  go_enter Tryz.func53, Tryz.ntmps53
  go_wp2_with fail
  generalize w.alloc (.cells zeroE PET) = W0 at *
  go_loopw [5] (fun _ wr => ∃ (p d : Nat) (v : Value) (K : List (E × Value)) (hi : Nat), p0 ≤ p ∧ p ≤ T.length ∧ d ≤ 20 ∧ Hid (MidB T (.slice la T.length lc) w base rb X wr p d v K hi) ∧ Hid (∀ r, M T (.B p (K.map (·.1)) d) r → M T (.B p0 (K0.map (·.1)) d0) r)) (fun _ wr => T.length - posOf rb wr)
  case atStart => exact ⟨p0, d0, v0, K0, hi0, Nat.le_refl _, hp0, hd0, HM, hide (fun r h => h)⟩
  case round =>
    obtain ⟨p, d, v, K, hi, hp1, hp2, hd, HMM, HRS⟩ := hrel
    have a0 := (unhide HMM).rd.c0
    have a1 := (unhide HMM).rd.c1
    have HPW := hide (unhide HMM).rd.posOf
    by_cases hlt : p < T.length
    · have hlt2 : (p : Int) < T.length := by omega
      have q1 : decide (p < T.length) = true := decide_eq_true hlt
      go_wp2_with fail
      go_quiet (fail)
      have HM1 := hide ((unhide HMM).below (below_drewN (Below.refl _ _) nq))
      generalize wr.drewN nq = W1 at *
      clear a0 a1
      have a0 := (unhide HM1).rd.c0
      have a1 := (unhide HM1).rd.c1
      rcases (unhide HM1).tks with ⟨_, _, _, hnil⟩ | ⟨lb, lo, lc', hLe, hcap, hcells⟩
      · exact absurd hlt (by rw [hnil]; simp)
      injection hLe with e1 e2 e3
      subst e1 e3
      obtain ⟨t0, t1, t2, t3⟩ := hcells p hlt
      clear hcells e2
      have hlW := cell_lt t0
      have hrW := cell_lt a0
      go_wp2_with fail
      go_region
      have hB2 : Below W1.heap.size W1 (W1.alloc (.cells #[.int .i64 T[p].kind, .string ⟨T[p].text.toArray⟩, .int .i64 T[p].pos, .int .i64 T[p].n] 90)).drew := (alloc_below W1 _).trans ⟨rfl, rfl, rfl, Nat.le_refl _, fun _ _ => rfl⟩
      have HM2 := hide ((unhide HM1).below hB2)
      have k0 : (W1.alloc (.cells #[.int .i64 T[p].kind, .string ⟨T[p].text.toArray⟩, .int .i64 T[p].pos, .int .i64 T[p].n] 90)).drew.cell? ⟨W1.heap.size, 0, none⟩ = some (.int .i64 T[p].kind) := by simp
      have k1 : (W1.alloc (.cells #[.int .i64 T[p].kind, .string ⟨T[p].text.toArray⟩, .int .i64 T[p].pos, .int .i64 T[p].n] 90)).drew.cell? ⟨W1.heap.size, 1, none⟩ = some (.string ⟨T[p].text.toArray⟩) := by simp
      have k3 : (W1.alloc (.cells #[.int .i64 T[p].kind, .string ⟨T[p].text.toArray⟩, .int .i64 T[p].pos, .int .i64 T[p].n] 90)).drew.cell? ⟨W1.heap.size, 3, none⟩ = some (.int .i64 T[p].n) := by simp
      have HQ : Hid (base ≤ W1.heap.size) := hide (unhide HM1).rd.bs
      have HQH : Hid (¬ W1.heap.size = w.heap.size) := hide (by have := (unhide HM1).box.lt; omega)
      generalize (W1.alloc (.cells #[.int .i64 T[p].kind, .string ⟨T[p].text.toArray⟩, .int .i64 T[p].pos, .int .i64 T[p].n] 90)).drew = W2 at *
      have HTP : Hid (T[p]? = some T[p]) := hide (List.getElem?_eq_getElem hlt)
      clear t0 t1 t2 t3 a0 a1 hB2 HM1 HMM
      generalize T[p] = t at *
      have hqr : ¬ rb = W1.heap.size := by omega
      have hqr' : ¬ W1.heap.size = rb := by omega
      have hqH := unhide HQH
      have hqH' : ¬ w.heap.size = W1.heap.size := fun e => unhide HQH e.symm
      generalize W1.heap.size = q at *
      have a1 := (unhide HM2).rd.c1
      have f1 := (unhide HM2).rd.fr 1
      obtain ⟨b0, b1, b2, b3, g0, g1, g2, g3, hbl⟩ := (unhide HM2).box
      by_cases c2 : t.kind = 2
      · have c2' : (t.kind : Int) = 2 := by omega
        rw [c2'] at k0
        have HM3 := hide (unhide HM2).move1
        go_wp2
        refine bodyPost_ret (v := .tuple #[.agg #[.int .i64 1, .int .i64 t.n, .string ⟨#[]⟩, .slice none 0 0], .nilIface]) (by simp [results, Tryz.results53, go_sem, b0, b1, b2, b3]) rfl ?_
        obtain ⟨r1, r2⟩ := (unhide HM3).done rfl (unhide HXL)
        exact .inl ⟨.mk 1 t.n [] [], p + 1, d, v, K, hi, rfl, rfl, r1, fun r hr => unhide HRS r (Ex.m_step (by simp only [Ex.step]; rw [unhide HTP]; simp only; rw [if_pos c2]) hr), by omega, by omega, hd, r2⟩
      · have c2n : ((t.kind : Int) == 2) = false := by rw [beq_eq_false_iff_ne]; omega
        have HC2 := hide c2
        clear c2
        by_cases c1 : t.kind = 1
        · have c1' : (t.kind : Int) = 1 := by omega
          have HC1 := hide c1
          rw [c1'] at k0 c2n
          clear c1 c1'
          have HC8 : Hid (∀ m, Calls Tryz.prog 44 #[.slice (some ⟨lb, lo, none⟩) T.length lc, .int .i64 ((p : Int) + 1)] (W2.drewN m) fun e w' => e = .returned (.string ⟨(Ex.sg T (p + 1)).toArray⟩) ∧ w' = W2.drewN m) := hide (fun m => signAt_any T _ (W2.drewN m) (p + 1) ((unhide HM2).tks.drewN m) hl (by omega))
          have a0 := (unhide HM2).rd.c0
          by_cases c4 : Ex.sg T (p + 1) = [40]
          · rw [c4] at HC8
            have hp2' : p + 1 < T.length := by
              rcases Nat.lt_or_ge (p + 1) T.length with h | h
              · exact h
              · rw [sg_out (by omega)] at c4; cases c4
            have HC4 := hide c4
            clear c4
            go_wp2_with fail
            go_quiet ((go_at_call 44; refine Calls.quiet_of_same (unhide HC8 _)))
            have HM3 := hide ((unhide HM2).below (below_drewN (Below.refl _ _) nq))
            have k1' : (W2.drewN nq).cell? ⟨q, 1, none⟩ = some (.string ⟨t.text.toArray⟩) := k1
            generalize W2.drewN nq = W3 at *
            have a1' := (unhide HM3).rd.c1
            have f1' := (unhide HM3).rd.fr 1
            have HM4 := hide (unhide HM3).move2
            have k1'' : (W3.setCell ⟨rb, 1, none⟩ (.int .i64 ((p : Int) + 2))).cell? ⟨q, 1, none⟩ = some (.string ⟨t.text.toArray⟩) := (World.cell?_of_block (a := ⟨q, 1, none⟩) (Below.heap_setCell _ _ _ _ (show q ≠ rb from hqr'))).trans k1'
            clear k1 k3 k0 a1 f1 HM2 HC8 a0
            go_upto_region 10 with (fail)
            generalize W3.setCell ⟨rb, 1, none⟩ (.int .i64 ((p : Int) + 2)) = W4 at *
            have hkl : K.length ≤ p := by have := (unhide HM3).rd.kl; omega
            obtain ⟨g9, c9, w9, hr9, hne9, hne9', z2, zf, ⟨y0, y1, y2, y3⟩, xf, hfin⟩ := (unhide HM4).rd.push_at (.mk 3 0 t.text []) rfl (by have := (unhide HM4).rd.dp; simp only [cnt]; rw [if_neg (by simp [E.kind]), ← this]; omega) (by omega) (by omega)
            obtain ⟨va, vc, hv⟩ := (unhide HM4).rd.shape
            subst hv
            have a2 := (unhide HM4).rd.c2
            have x0 := xf (K.length * 4)
            have x1 := xf (K.length * 4 + 1)
            have x2 := xf (K.length * 4 + 2)
            have x3 := xf (K.length * 4 + 3)
            have HR9 := hide hr9
            dsimp only [E.kind, E.n, E.name] at hfin
            have HFI := hide hfin
            clear hr9 hfin xf HM3 a1' f1' k1'
            generalize hn : K.length = n at *
            have hnn : (n : Int) < n + 1 := by omega
            have hqW : q < W4.heap.size := cell_lt k1''
            have hrW4 : rb < W4.heap.size := cell_lt a2
            go_region_law (refine step_append_runP rfl _ _ rfl rfl _ _ rfl rfl _ _ (unhide HR9) ?_)
            all_goals (
              go_wp2
              go_roundw
              case rel =>
                refine ⟨p + 2, d, _, _, _, by omega, by omega, hd, hide ((unhide HM4).step (unhide HFI _ ?_).2 (unhide HFI _ ?_).1), hide (fun r hr => unhide HRS r (Ex.m_step (by simp only [Ex.step]; rw [unhide HTP]; simp only; rw [if_neg (unhide HC2), if_pos (unhide HC1), if_pos (unhide HC4)]; rfl) hr))⟩
                all_goals first | exact .inl (by with_reducible rfl) | exact .inr (by with_reducible rfl)
              case measure =>
                rw [unhide HPW]
                refine Nat.lt_of_le_of_lt (Nat.le_of_eq (congrArg (fun m => T.length - m) (unhide HFI _ ?_).1.posOf)) (by omega)
                first | exact .inl (by with_reducible rfl) | exact .inr (by with_reducible rfl))
          · have hx : (Ex.sg T (p + 1) == [40]) = false := beq_eq_false_iff_ne.2 c4
            have HSE : Hid (Ex.step T (.B p (K.map (·.1)) d) = .inl (.F (p + 1) (K.map (·.1)) d (.mk 2 0 t.text []))) := hide (by simp only [Ex.step]; rw [unhide HTP]; simp only; rw [if_neg (unhide HC2), if_pos (unhide HC1), if_neg c4])
            clear c4
            generalize Ex.sg T (p + 1) = sx at *
            go_wp2_with fail
            go_quiet ((go_at_call 44; refine Calls.quiet_of_same (unhide HC8 _)))
            have HM3 := hide (((unhide HM2).below (below_drewN (Below.refl _ _) nq)).move1)
            go_wp2
            refine bodyPost_ret (v := .tuple #[.agg #[.int .i64 2, .int .i64 0, .string ⟨t.text.toArray⟩, .slice none 0 0], .nilIface]) (by simp [results, Tryz.results53, go_sem, b0, b1, b2, b3]) rfl ?_
            obtain ⟨r1, r2⟩ := (unhide HM3).done rfl (unhide HXL)
            exact .inl ⟨.mk 2 0 t.text [], p + 1, d, v, K, hi, rfl, rfl, r1, fun r hr => unhide HRS r (Ex.m_step (unhide HSE) hr), by omega, by omega, hd, r2⟩
        · have c1n : ((t.kind : Int) == 1) = false := by rw [beq_eq_false_iff_ne]; omega
          have HC1 := hide c1
          clear c1
          go_wp2_with fail
          go_quiet (fail)
          have HM2b := hide ((unhide HM2).below (below_drewN (Below.refl _ _) nq))
          have k0b : (W2.drewN nq).cell? ⟨q, 0, none⟩ = some (.int .i64 t.kind) := k0
          clear k0 k1 k3 b0 b1 b2 b3 g0 g1 g2 g3 hbl a1 f1
          generalize W2.drewN nq = W2b at *
          have HS1 := hide (rsign_any T _ W2b base rb _ p d v K hi (unhide HM2b).rd (unhide HM2b).tks hl (by omega))
          by_cases c5 : Ex.sg T p = [45]
          · rw [c5] at HS1
            have HC5 := hide c5
            clear c5
            go_wp2_with fail
            refine (unhide HS1).mono ?_
            rintro ev W3 ⟨rfl, n3, rfl⟩
            have HM3 := hide ((unhide HM2b).below (below_drewN (Below.refl _ _) n3))
            generalize W2b.drewN n3 = W3 at *
            have HN := hide (nest_any _ W3 base rb _ p d v K hi 4 (unhide HM3).rd (by omega) (.inr rfl) hd)
            clear HS1
            go_wp2_with fail
            refine (unhide HN).mono ?_
            rintro ev W4 (⟨h20, rfl, rfl⟩ | ⟨h20, rfl, v4, hi4, hR4, hk4⟩)
            · obtain ⟨b0, b1, b2, b3, g0, g1, g2, g3, hbl⟩ := (unhide HM3).box
              go_wp2
              refine bodyPost_ret (v := .tuple #[.agg #[.int .i64 0, .int .i64 0, .string ⟨#[]⟩, .slice none 0 0], .iface 95 (.int .i64 4)]) (by simp [results, Tryz.results53, go_sem, b0, b1, b2, b3]) rfl ?_
              obtain ⟨r1, r2⟩ := (unhide HM3).done rfl (unhide HXL)
              exact .inr ⟨4, p, rfl, by decide, unhide HRS _ (Ex.m_stop (by simp only [Ex.step]; rw [unhide HTP]; simp only; rw [if_neg (unhide HC2), if_neg (unhide HC1), if_pos (unhide HC5), if_pos h20])), r1.c1, r2⟩
            · have HM4 := hide ((unhide HM3).step hk4 hR4)
              have HPO := hide hR4.posOf
              clear hR4 hk4
              go_wp2
              go_roundw
              case rel => exact ⟨p + 1, d + 1, _, _, _, by omega, by omega, by omega, HM4, hide (fun r hr => unhide HRS r (Ex.m_step (by simp only [Ex.step]; rw [unhide HTP]; simp only; rw [if_neg (unhide HC2), if_neg (unhide HC1), if_pos (unhide HC5), if_neg h20]; rfl) hr))⟩
              case measure => rw [unhide HPW, unhide HPO]; omega
          · have HC5 := hide c5
            have hx5 : (Ex.sg T p == [45]) = false := beq_eq_false_iff_ne.2 c5
            clear c5
            by_cases c6 : Ex.sg T p = [40]
            · rw [c6] at HS1 hx5
              have HC6 := hide c6
              clear c6
              go_wp2_with fail
              refine (unhide HS1).mono ?_
              rintro ev W3 ⟨rfl, n3, rfl⟩
              have HM3 := hide ((unhide HM2b).below (below_drewN (Below.refl _ _) n3))
              generalize W2b.drewN n3 = W3 at *
              have HS2 := hide (rsign_any T _ W3 base rb _ p d v K hi (unhide HM3).rd (unhide HM3).tks hl (by omega))
              rw [unhide HC6] at HS2
              clear HS1
              go_wp2_with fail
              refine (unhide HS2).mono ?_
              rintro ev W3' ⟨rfl, n3', rfl⟩
              have HM3' := hide ((unhide HM3).below (below_drewN (Below.refl _ _) n3'))
              generalize W3.drewN n3' = W3b at *
              have HN := hide (nest_any _ W3b base rb _ p d v K hi 0 (unhide HM3').rd (by omega) (.inl rfl) hd)
              clear HS2
              go_wp2_with fail
              refine (unhide HN).mono ?_
              rintro ev W4 (⟨h20, rfl, rfl⟩ | ⟨h20, rfl, v4, hi4, hR4, hk4⟩)
              · obtain ⟨b0, b1, b2, b3, g0, g1, g2, g3, hbl⟩ := (unhide HM3').box
                go_wp2
                refine bodyPost_ret (v := .tuple #[.agg #[.int .i64 0, .int .i64 0, .string ⟨#[]⟩, .slice none 0 0], .iface 95 (.int .i64 4)]) (by simp [results, Tryz.results53, go_sem, b0, b1, b2, b3]) rfl ?_
                obtain ⟨r1, r2⟩ := (unhide HM3').done rfl (unhide HXL)
                exact .inr ⟨4, p, rfl, by decide, unhide HRS _ (Ex.m_stop (by simp only [Ex.step]; rw [unhide HTP]; simp only; rw [if_neg (unhide HC2), if_neg (unhide HC1), if_neg (unhide HC5), if_pos (unhide HC6), if_pos h20])), r1.c1, r2⟩
              · have HM4 := hide ((unhide HM3').step hk4 hR4)
                have HPO := hide hR4.posOf
                clear hR4 hk4
                go_wp2
                go_roundw
                case rel => exact ⟨p + 1, d + 1, _, _, _, by omega, by omega, by omega, HM4, hide (fun r hr => unhide HRS r (Ex.m_step (by simp only [Ex.step]; rw [unhide HTP]; simp only; rw [if_neg (unhide HC2), if_neg (unhide HC1), if_neg (unhide HC5), if_pos (unhide HC6), if_neg h20]; rfl) hr))⟩
                case measure => rw [unhide HPW, unhide HPO]; omega
            · have HC6 := hide c6
              have hx6 : (Ex.sg T p == [40]) = false := beq_eq_false_iff_ne.2 c6
              clear c6
              have HNO : Hid (Ex.step T (.B p (K.map (·.1)) d) = .inr (.bad 2 p)) := hide (by simp only [Ex.step]; rw [unhide HTP]; simp only; rw [if_neg (unhide HC2), if_neg (unhide HC1), if_neg (unhide HC5), if_neg (unhide HC6)])
              clear HC5 HC6
              have HSA : Hid (∀ W, Rd W base rb (fun b => X b ∨ b = w.heap.size) (.slice (some ⟨lb, lo, none⟩) T.length lc) p d v K hi → Tks W (.slice (some ⟨lb, lo, none⟩) T.length lc) T → Calls Tryz.prog 74 #[.pointer (some ⟨rb, 0, none⟩)] W fun e w' => e = .returned (.string ⟨(Ex.sg T p).toArray⟩) ∧ ∃ n, w' = W.drewN n) := hide (fun W h1 h2 => rsign_any T _ W base rb _ p d v K hi h1 h2 hl (by omega))
              generalize Ex.sg T p = sx at *
              go_wp2_with fail
              refine (unhide HS1).mono ?_
              rintro ev W3 ⟨rfl, n3, rfl⟩
              have HM3 := hide ((unhide HM2b).below (below_drewN (Below.refl _ _) n3))
              generalize W2b.drewN n3 = W3 at *
              have HS2 := hide (unhide HSA W3 (unhide HM3).rd (unhide HM3).tks)
              clear HS1
              go_wp2_with fail
              refine (unhide HS2).mono ?_
              rintro ev W3' ⟨rfl, n3', rfl⟩
              have HM3' := hide ((unhide HM3).below (below_drewN (Below.refl _ _) n3'))
              generalize W3.drewN n3' = W3b at *
              obtain ⟨b0, b1, b2, b3, g0, g1, g2, g3, hbl⟩ := (unhide HM3').box
              go_wp2
              refine bodyPost_ret (v := .tuple #[.agg #[.int .i64 0, .int .i64 0, .string ⟨#[]⟩, .slice none 0 0], .iface 95 (.int .i64 2)]) (by simp [results, Tryz.results53, go_sem, b0, b1, b2, b3]) rfl ?_
              obtain ⟨r1, r2⟩ := (unhide HM3').done rfl (unhide HXL)
              exact .inr ⟨2, p, rfl, by decide, unhide HRS _ (Ex.m_stop (unhide HNO)), r1.c1, r2⟩
    · have q1 : decide (p < T.length) = false := decide_eq_false hlt
      obtain ⟨b0, b1, b2, b3, g0, g1, g2, g3, hbl⟩ := (unhide HMM).box
      go_wp2_with fail
      go_quiet (fail)
      have HM1 := hide ((unhide HMM).below (below_drewN (Below.refl _ _) nq))
      go_wp2
      refine bodyPost_ret (v := .tuple #[.agg #[.int .i64 0, .int .i64 0, .string ⟨#[]⟩, .slice none 0 0], .iface 95 (.int .i64 2)]) (by simp [results, Tryz.results53, go_sem, b0, b1, b2, b3]) rfl ?_
      obtain ⟨r1, r2⟩ := (unhide HM1).done rfl (unhide HXL)
      exact .inr ⟨2, p, rfl, by decide, unhide HRS _ (Ex.m_stop (by simp only [Ex.step]; rw [List.getElem?_eq_none (by omega)])), r1.c1, r2⟩
end Go.Proofs.YtepnafnljfjeoaaGreatDoor.Line
