/- The contract of the reference's reader: factor; then all four, by how many words are left.
   The contract of the reference's ParseExpr.
   The contract of the reference's Rel and ParseCond.
   What stage 5's walks ask of the project's Parse, ParseCond, of known and of Tells. -/
import Derived.Test.YtepnafnljfjeoaaGreatDoorExSu
import Derived.Deep.CutRange
import Derived.Test.YtepnafnljfjeoaaGreatDoorBaseAll
import Derived.Test.YtepnafnljfjeoaaGreatDoorPlainAll
namespace Go.Proofs.YtepnafnljfjeoaaGreatDoor.Line
open Go.ChangeShapes Go.WideShapes Go.ChangeAt Go.RowKit
open Ex (E St)
set_option linter.unusedVariables false

/-- in the midst of a factor -/
structure MidF (T : List Words.T) (L : Value) (w : World) (S : Nat → Prop) (rb : Nat) (wr : World) (s : St) : Prop where
  box4 : Box wr w.heap.size E.none (.slice none 0 0)
  rdr : Rdr wr (fun b => S b ∧ b ≠ w.heap.size) wExpr rb L s
  tks : Tks wr L T
  but : But rb w wr
  rbl : rb < w.heap.size
theorem MidF.step {T : List Words.T} {L : Value} {w : World} {S : Nat → Prop} {rb : Nat} {wr w3 : World} {s s3 : St} (h : MidF T L w S rb wr s) (hL : L.ownBlock ≠ some rb) (hb : But rb wr w3) (hR : Rdr w3 (fun b => S b ∧ b ≠ w.heap.size) wExpr rb L s3) : MidF T L w S rb w3 s3 := by
  have h2 := h.rbl
  exact ⟨h.box4.but hb (by omega), hR, h.tks.but hb hL, h.but.trans hb, h2⟩
theorem MidF.done {T : List Words.T} {L : Value} {w : World} {S : Nat → Prop} {rb : Nat} {wr : World} {s : St} (h : MidF T L w S rb wr s) {x : E} {sl : Value} (hf : Forest wr (fun b => w.heap.size < b) x.a sl) {W : World} (hW : W = (((wr.setCell ⟨w.heap.size, 0, none⟩ (.int .i64 x.kind)).setCell ⟨w.heap.size, 1, none⟩ (.int .i64 x.n)).setCell ⟨w.heap.size, 2, none⟩ (.string ⟨x.name.toArray⟩)).setCell ⟨w.heap.size, 3, none⟩ sl) :
    Forest W (fun b => w.heap.size ≤ b) x.a sl ∧ Rdr W S wExpr rb L s ∧ But rb w W := by
  have h2 := h.rbl
  subst hW
  refine ⟨?_, ?_, ?_⟩
  · exact hf.keep (fun b hs _ => heap_set4 _ _ _ _ _ _ _ (by omega)) (fun b hs _ => by omega)
  · exact h.rdr.keep (heap_set4 _ _ _ _ _ _ _ (by omega)) (by rw [size_set4]; exact Nat.le_refl _) (fun b hs _ => heap_set4 _ _ _ _ _ _ _ hs.2) (fun _ h _ => h.1)
  · exact But.set (p := ⟨w.heap.size, 3, none⟩) (But.set (p := ⟨w.heap.size, 2, none⟩) (But.set (p := ⟨w.heap.size, 1, none⟩) (But.set (p := ⟨w.heap.size, 0, none⟩) h.but (.inl (Nat.le_refl _)) _) (.inl (Nat.le_refl _)) _) (.inl (Nat.le_refl _)) _) (.inl (Nat.le_refl _)) _
theorem fail_pos (s : St) (k e : Nat) : (s.fail k e).pos = s.pos := by unfold St.fail; split <;> rfl

theorem MidF.start {T : List Words.T} {L : Value} {w w0 : World} {S : Nat → Prop} {rb : Nat} {s : St} (hR : Rdr w0 S wExpr rb L s) (hT : Tks w0 L T) (hb : But rb w w0) (hz : w0.heap.size = w.heap.size) : MidF T L w S rb (w0.alloc (.cells zeroE ET)) s := by
  have hrb := hR.lt
  have hB := box_new w0 E.none (.slice none 0 0) ET
  rw [hz] at hB
  exact ⟨hB, (hR.mono (S' := (fun b => S b ∧ b ≠ w.heap.size)) (fun b hs hl => ⟨hs, by omega⟩)).below (alloc_below w0 (.cells zeroE ET)), hT.below (alloc_below w0 (.cells zeroE ET)), hb.alloc _, by omega⟩
theorem MidF.alloc {T : List Words.T} {L : Value} {w wr : World} {S : Nat → Prop} {rb : Nat} {s : St} (h : MidF T L w S rb wr s) (hL : L.ownBlock ≠ some rb) (o : Obj) : MidF T L w S rb (wr.alloc o) s := h.step hL ((but_refl _ _).alloc o) (h.rdr.below (alloc_below _ _))
theorem MidF.drewN {T : List Words.T} {L : Value} {w wr : World} {S : Nat → Prop} {rb : Nat} {s : St} (h : MidF T L w S rb wr s) (hL : L.ownBlock ≠ some rb) (n : Nat) : MidF T L w S rb (wr.drewN n) s := h.step hL ((but_refl _ _).drewN n) (h.rdr.drewN n)
theorem MidF.done1 {T : List Words.T} {L : Value} {w : World} {S : Nat → Prop} {rb : Nat} {wr : World} {s : St} (h : MidF T L w S rb wr s) {x : E} {sx : Value} (hf : Forest wr (fun b => w.heap.size < b) x.a sx) (k : Int) {W : World} (hW : W = ((((wr.setCell ⟨w.heap.size, 0, none⟩ (.int .i64 k)).setCell ⟨w.heap.size, 1, none⟩ (.int .i64 0)).setCell ⟨w.heap.size, 2, none⟩ (.string ⟨#[]⟩)).setCell ⟨w.heap.size, 3, none⟩ (.slice (some ⟨wr.heap.size, 0, none⟩) 1 1)).alloc (.cells #[.int .i64 x.kind, .int .i64 x.n, .string ⟨x.name.toArray⟩, sx] ET)) :
    Forest W (fun b => w.heap.size ≤ b) [x] (.slice (some ⟨wr.heap.size, 0, none⟩) 1 1) ∧ Rdr W S wExpr rb L s ∧ But rb w W := by
  have h2 := h.rbl
  have h3 := h.box4.lt
  have hk4 : ∀ b, b ≠ w.heap.size → ((((wr.setCell ⟨w.heap.size, 0, none⟩ (.int .i64 k)).setCell ⟨w.heap.size, 1, none⟩ (.int .i64 0)).setCell ⟨w.heap.size, 2, none⟩ (.string ⟨#[]⟩)).setCell ⟨w.heap.size, 3, none⟩ (.slice (some ⟨wr.heap.size, 0, none⟩) 1 1)).heap[b]? = wr.heap[b]? := fun b hb => heap_set4 _ _ _ _ _ _ _ hb
  have hz4 := size_set4 wr w.heap.size (.int .i64 k) (.int .i64 0) (.string ⟨#[]⟩) (.slice (some ⟨wr.heap.size, 0, none⟩) 1 1)
  have hbt : But rb w ((((wr.setCell ⟨w.heap.size, 0, none⟩ (.int .i64 k)).setCell ⟨w.heap.size, 1, none⟩ (.int .i64 0)).setCell ⟨w.heap.size, 2, none⟩ (.string ⟨#[]⟩)).setCell ⟨w.heap.size, 3, none⟩ (.slice (some ⟨wr.heap.size, 0, none⟩) 1 1)) := But.set (p := ⟨w.heap.size, 3, none⟩) (But.set (p := ⟨w.heap.size, 2, none⟩) (But.set (p := ⟨w.heap.size, 1, none⟩) (But.set (p := ⟨w.heap.size, 0, none⟩) h.but (.inl (Nat.le_refl _)) _) (.inl (Nat.le_refl _)) _) (.inl (Nat.le_refl _)) _) (.inl (Nat.le_refl _)) _
  subst hW
  generalize (((wr.setCell ⟨w.heap.size, 0, none⟩ (.int .i64 k)).setCell ⟨w.heap.size, 1, none⟩ (.int .i64 0)).setCell ⟨w.heap.size, 2, none⟩ (.string ⟨#[]⟩)).setCell ⟨w.heap.size, 3, none⟩ (.slice (some ⟨wr.heap.size, 0, none⟩) 1 1) = W at *
  have hfo : Forest (W.alloc (.cells #[.int .i64 x.kind, .int .i64 x.n, .string ⟨x.name.toArray⟩, sx] ET)) (fun b => w.heap.size ≤ b) [x] (.slice (some ⟨W.heap.size, 0, none⟩) 1 1) := forest_one (hf.keep (fun b hs _ => hk4 b (by omega)) (fun b hs _ => by omega)) (by omega)
  rw [hz4] at hfo
  exact ⟨hfo, (h.rdr.keep (hk4 _ (by omega)) (by omega) (fun b hs _ => hk4 b hs.2) (fun _ h _ => h.1)).below (alloc_below _ _), hbt.alloc _⟩

set_option maxHeartbeats 8000000 in
set_option maxRecDepth 100000 in
theorem rdFactor_of (T : List Words.T) (L : Value) (hl : T.length ≤ 1000000) (n : Nat) (HE : ∀ m, m < n → Reads T L 39 Ex.RExpr m) (HF : ∀ m, m < n → Reads T L 72 Ex.RFactor m) (HU : ∀ m, m < n → ReadsL T L 91 m) : Reads T L 72 Ex.RFactor n := by
  intro w S rb d s hR hT hL hS hN hp hn hd
  have hrb := hR.lt
  have hM : MidF T L w S rb (w.alloc (.cells zeroE ET)) s := ⟨box_new w E.none (.slice none 0 0) ET, (hR.mono (S' := fun b => S b ∧ b ≠ w.heap.size) (fun b hs hl => ⟨hs, by omega⟩)).below (alloc_below w (.cells zeroE ET)), hT.below (alloc_below w (.cells zeroE ET)), (but_refl _ _).alloc _, hrb⟩
  have hsz0 : (w.alloc (.cells zeroE ET)).heap.size = w.heap.size + 1 := by simp
  have HLR : Hid (L.ownBlock ≠ some rb) := hide (fun h => (hL rb h).2 rfl)
  have HRE := hide (And.intro HE (And.intro HF HU))
  have H4 := hide (And.intro hN (And.intro hL hS))
  have HM := hide hM
  have HR0 := hide (And.intro hR hT)
  have HSZ := hide hsz0
  have g0 := hM.rdr.words
  have g1 := hM.rdr.pos
  have g3 := hM.rdr.err
  clear HE HF HU hN hL hS hR hT hsz0
  by_cases h0 : s.err = 0
  · by_cases hlt : s.pos < T.length
    · rcases hM.tks with ⟨_, _, _, hnil⟩ | ⟨tb, off, cap, rfl, hcap, hcells⟩
      · exact absurd hlt (by rw [hnil]; simp)
      obtain ⟨d0, d1, d2, d3⟩ := hcells s.pos hlt
      rw [h0] at g3
      have g3' : (w.alloc (.cells zeroE ET)).cell? ⟨rb, 3, none⟩ = some (.int .i64 0) := g3
      have q1 : decide (T.length ≤ s.pos) = false := decide_eq_false (by omega)
      have hlt2 : (s.pos : Int) < T.length := by omega
      have hsp : s.pos ≤ 1000000 := by omega
      have z1 := hM.rdr.fr.2.1
      clear g3 hcells
      by_cases k2 : T[s.pos].kind = 2
      · have HRR := hide (Ex.rFactor_num (d := d) h0 hlt k2)
        rw [k2] at d0
        have d0' : (w.alloc (.cells zeroE ET)).cell? ⟨tb, off + s.pos * 4, none⟩ = some (.int .i64 2) := d0
        clear hM d0
        generalize T[s.pos].text = tx at *
        generalize T[s.pos].pos = tp at *
        generalize T[s.pos].n = tn at *
        go_enter Tryz.func72, Tryz.ntmps72
        go_wp2
        refine bodyPost_ret (v := treeV (.mk 1 tn [] []) (.slice none 0 0)) (by simp [results, Tryz.results72, go_sem, E.kind, E.n, E.name]) rfl ⟨_, _, _, rfl, unhide HRR, Forest.nil none 0, ?_, ?_, hlt, Nat.le_succ _⟩
        · exact (((unhide HR0).1.nextI (unhide H4).2.2).below (alloc_below _ _)).below (alloc_below _ _)
        · exact ((But.set (p := ⟨rb, 1, none⟩) (but_refl rb w) (.inr rfl) _).alloc _).alloc _
      · by_cases k1 : T[s.pos].kind = 1
        · have HRV := hide (fun c => Ex.rFactor_var (d := d) h0 hlt k1 c)
          have HRL := hide (fun xs s1 c h => Ex.rFactor_elem (d := d) (xs := xs) (s1 := s1) h0 hlt k1 c h)
          rw [k1] at d0
          have d0' : (w.alloc (.cells zeroE ET)).cell? ⟨tb, off + s.pos * 4, none⟩ = some (.int .i64 1) := d0
          clear hM d0
          generalize T[s.pos].text = tx at *
          generalize T[s.pos].pos = tp at *
          generalize T[s.pos].n = tn at *
          have hM3 : MidF T (.slice (some ⟨tb, off, none⟩) T.length cap) w S rb (((w.setCell ⟨rb, 1, none⟩ (.int .i64 ((s.pos : Int) + 1))).alloc (.cells zeroE ET)).alloc (.cells #[.int .i64 1, .string ⟨tx.toArray⟩, .int .i64 tp, .int .i64 tn] 81)) s.next := (MidF.start (w0 := w.setCell ⟨rb, 1, none⟩ (.int .i64 ((s.pos : Int) + 1))) ((unhide HR0).1.nextI (unhide H4).2.2) ((unhide HR0).2.but (But.set (p := ⟨rb, 1, none⟩) (but_refl rb w) (.inr rfl) _) (unhide HLR)) (But.set (p := ⟨rb, 1, none⟩) (but_refl rb w) (.inr rfl) _) (by simp [World.setCell])).alloc (unhide HLR) _
          have hx3 : (((w.setCell ⟨rb, 1, none⟩ (.int .i64 ((s.pos : Int) + 1))).alloc (.cells zeroE ET)).alloc (.cells #[.int .i64 1, .string ⟨tx.toArray⟩, .int .i64 tp, .int .i64 tn] 81)).cell? ⟨w.heap.size + 1, 1, none⟩ = some (.string ⟨tx.toArray⟩) := cell_alloc_one _ _ _ _ _ _ (by simp [World.setCell])
          have hz3 : w.heap.size + 1 < (((w.setCell ⟨rb, 1, none⟩ (.int .i64 ((s.pos : Int) + 1))).alloc (.cells zeroE ET)).alloc (.cells #[.int .i64 1, .string ⟨tx.toArray⟩, .int .i64 tp, .int .i64 tn] 81)).heap.size := by simp [World.setCell]
          have HT1 := hide (rdTook_any T (.slice (some ⟨tb, off, none⟩) T.length cap) (((w.setCell ⟨rb, 1, none⟩ (.int .i64 ((s.pos : Int) + 1))).alloc (.cells zeroE ET)).alloc (.cells #[.int .i64 1, .string ⟨tx.toArray⟩, .int .i64 tp, .int .i64 tn] 81)) (fun b => S b ∧ b ≠ w.heap.size) rb s.next [40] hM3.rdr hM3.tks hl (fun h => (unhide H4).2.2 h.1))
          have HM3 := hide (And.intro hM3 (And.intro hx3 hz3))
          clear hM3 hx3 hz3
          cases hc : Ex.isSign T s.next [40]
          · rw [hc] at HT1
            have HRR := hide (unhide HRV hc)
            clear hc HRV HRL
            go_enter Tryz.func72, Tryz.ntmps72
            go_wp2_with fail
            refine (unhide HT1).mono ?_
            rintro ev w4 ⟨rfl, hR4, hb4, hz4⟩
            have hM4 : MidF T (.slice (some ⟨tb, off, none⟩) T.length cap) w S rb w4 s.next := (unhide HM3).1.step (unhide HLR) hb4 hR4
            have HM4 := hide hM4
            have k4 := (hb4.cell (p := ⟨w.heap.size + 1, 1, none⟩) (unhide HM3).2.2 (by show w.heap.size + 1 ≠ rb; omega)).trans (unhide HM3).2.1
            obtain ⟨b0, b1, b2, b3, f0, f1, f2, f3, hg⟩ := hM4.box4
            clear hR4 hb4 hM4 HT1
            go_wp2
            refine bodyPost_ret (v := treeV (.mk 2 0 tx []) (.slice none 0 0)) (by simp [results, Tryz.results72, go_sem, b0, b1, b2, b3, E.kind, E.n, E.name]) rfl ⟨_, _, _, rfl, unhide HRR, ?_⟩
            obtain ⟨r1, r2, r3⟩ := (unhide HM4).done (x := .mk 2 0 tx []) (Forest.nil none 0) rfl
            exact ⟨r1, r2, r3, hlt, Nat.le_succ _⟩
          · have hlt1 : s.pos + 1 < T.length := by
              rcases Nat.lt_or_ge (s.pos + 1) T.length with h1 | h1
              · exact h1
              · rw [isSign_out (by show ¬ s.pos + 1 < T.length; omega)] at hc; cases hc
            rw [hc] at HT1
            have HRL2 := hide (fun xs s1 h => unhide HRL xs s1 hc h)
            clear hc HRV HRL
            go_enter Tryz.func72, Tryz.ntmps72
            go_wp2_with fail
            refine (unhide HT1).mono ?_
            rintro ev w4 ⟨rfl, hR4, hb4, hz4⟩
            have hM4 : MidF T (.slice (some ⟨tb, off, none⟩) T.length cap) w S rb w4 s.next.next := (unhide HM3).1.step (unhide HLR) hb4 hR4
            have HM4 := hide hM4
            have k4 := (hb4.cell (p := ⟨w.heap.size + 1, 1, none⟩) (unhide HM3).2.2 (by show w.heap.size + 1 ≠ rb; omega)).trans (unhide HM3).2.1
            have hq4 : w.heap.size + 1 < w4.heap.size := by have := (unhide HM3).2.2; omega
            have HFC : Hid (∀ m, Calls Tryz.prog 91 #[.pointer (some ⟨rb, 0, none⟩), .int .i64 d] (w4.drewN m) fun e w' => ∃ xs s' v, e = .returned v ∧ Ex.RSubs T d s.next.next (xs, s') ∧ Forest w' (fun b => w4.heap.size ≤ b) xs v ∧ Rdr w' (fun b => S b ∧ b ≠ w.heap.size) wExpr rb (.slice (some ⟨tb, off, none⟩) T.length cap) s' ∧ But rb w4 w' ∧ s'.pos ≤ T.length ∧ s.next.next.pos ≤ s'.pos) := hide (fun m => by
              have := (unhide HRE).2.2 (n - 1) (by omega) (w4.drewN m) (fun b => S b ∧ b ≠ w.heap.size) rb d s.next.next (hM4.rdr.drewN m) (hM4.tks.drewN m) (fun p h => ⟨by have := ((unhide H4).2.1 p h).1; have := hM4.but.size; show p < w4.heap.size; omega, ((unhide H4).2.1 p h).2⟩) (fun h => (unhide H4).2.2 h.1) (fun b hb => by
                have hb : w4.heap.size ≤ b := hb
                exact ⟨(unhide H4).1 b (by omega), by omega⟩) (by show s.pos + 1 + 1 ≤ T.length; omega) (by show T.length - (s.pos + 1 + 1) ≤ n - 1; omega) hd
              refine this.mono ?_
              rintro ev w' ⟨x, s', sl, h1, h2, h3, h4, h5, h6, h7⟩
              exact ⟨x, s', sl, h1, h2, h3, h4, ((but_refl rb w4).drewN m).trans h5, h6, h7⟩)
            clear hR4 hb4 hM4 HT1
            go_wp2_with fail
            go_region_with (go_at_call 91; refine (unhide HFC _).mono ?_; rintro ev w5 ⟨xs5, s5, sl5, rfl, hr5, hf5, hR5, hb5, hp5, hp6⟩; obtain ⟨la5, lc5, hsl⟩ := hf5.shape; generalize hln : xs5.length = ln5 at hsl; subst hsl; clear hln; have k5 := (hb5.cell (p := ⟨w.heap.size + 1, 1, none⟩) hq4 (by show w.heap.size + 1 ≠ rb; omega)).trans k4; have hM5 : MidF T (.slice (some ⟨tb, off, none⟩) T.length cap) w S rb w5 s5 := (unhide HM4).step (unhide HLR) hb5 hR5; obtain ⟨b0, b1, b2, b3, f0, f1, f2, f3, hg⟩ := hM5.box4; have HX := hide (And.intro hr5 (And.intro hf5 hM5)); clear hr5 hf5 hR5 hb5 hM5)
            all_goals (
              go_wp2
              refine bodyPost_ret (v := treeV (.mk 3 0 tx xs5) (.slice la5 ln5 lc5)) (by simp [results, Tryz.results72, go_sem, b0, b1, b2, b3, E.kind, E.n, E.name]) rfl ⟨.mk 3 0 tx xs5, s5, _, rfl, unhide HRL2 _ _ (unhide HX).1, ?_⟩
              obtain ⟨r1, r2, r3⟩ := (unhide HX).2.2.done (x := .mk 3 0 tx xs5) ((unhide HX).2.1.mono (fun b hs _ => by omega)) rfl
              exact ⟨r1, r2, r3, hp5, by have : s.next.next.pos = s.pos + 1 + 1 := rfl; omega⟩)
        · have HRG := hide (And.intro (fun (hd2 : 20 ≤ d) (c : Ex.isSign T s [45] = true ∨ Ex.isSign T s [40] = true) => Ex.rFactor_long (d := d) h0 hlt k1 k2 c hd2) (And.intro (fun x s1 c hd2 h => Ex.rFactor_neg (d := d) (x := x) (s1 := s1) h0 hlt k1 k2 c hd2 h) (And.intro (fun x s1 c c3 hd2 h => Ex.rFactor_round (d := d) (x := x) (s1 := s1) h0 hlt k1 k2 c c3 hd2 h) (fun c c3 => Ex.rFactor_none (d := d) h0 hlt k1 k2 c c3))))
          generalize T[s.pos].kind = tk at *
          generalize T[s.pos].text = tx at *
          generalize T[s.pos].pos = tp at *
          generalize T[s.pos].n = tn at *
          have e1 : ((tk : Int) == 1) = false := by rw [beq_eq_false_iff_ne]; omega
          have e2 : ((tk : Int) == 2) = false := by rw [beq_eq_false_iff_ne]; omega
          have hM2 : MidF T (.slice (some ⟨tb, off, none⟩) T.length cap) w S rb ((w.alloc (.cells zeroE ET)).alloc (.cells #[.int .i64 tk, .string ⟨tx.toArray⟩, .int .i64 tp, .int .i64 tn] 81)) s := hM.alloc (unhide HLR) _
          have HS1 := hide (rdSign_any T (.slice (some ⟨tb, off, none⟩) T.length cap) ((w.alloc (.cells zeroE ET)).alloc (.cells #[.int .i64 tk, .string ⟨tx.toArray⟩, .int .i64 tp, .int .i64 tn] 81)) (fun b => S b ∧ b ≠ w.heap.size) rb s [45] hM2.rdr hM2.tks hl)
          have HM2 := hide hM2
          clear hM2 hM k1 k2 h0
          cases hc1 : Ex.isSign T s [45]
          · rw [hc1] at HS1
            have HC1 := hide hc1
            clear hc1
            have HS2 := hide (fun m => rdSign_any T (.slice (some ⟨tb, off, none⟩) T.length cap) (((w.alloc (.cells zeroE ET)).alloc (.cells #[.int .i64 tk, .string ⟨tx.toArray⟩, .int .i64 tp, .int .i64 tn] 81)).drewN m) (fun b => S b ∧ b ≠ w.heap.size) rb s [40] ((unhide HM2).drewN (unhide HLR) m).rdr ((unhide HM2).drewN (unhide HLR) m).tks hl)
            cases hc2 : Ex.isSign T s [40]
            · rw [hc2] at HS2
              have HRR := hide ((unhide HRG).2.2.2 (unhide HC1) hc2)
              clear hc2 HRG
              go_enter Tryz.func72, Tryz.ntmps72
              go_wp2_with fail
              refine (unhide HS1).mono ?_
              rintro ev w3 ⟨rfl, n3, rfl⟩
              go_wp2_with fail
              refine (unhide HS2 n3).mono ?_
              rintro ev w3 ⟨rfl, n4, rfl⟩
              have hM3 : MidF T (.slice (some ⟨tb, off, none⟩) T.length cap) w S rb ((((w.alloc (.cells zeroE ET)).alloc (.cells #[.int .i64 tk, .string ⟨tx.toArray⟩, .int .i64 tp, .int .i64 tn] 81)).drewN n3).drewN n4) s := ((unhide HM2).drewN (unhide HLR) n3).drewN (unhide HLR) n4
              have HM3 := hide hM3
              have HFA := hide (rdFail_any (.slice (some ⟨tb, off, none⟩) T.length cap) ((((w.alloc (.cells zeroE ET)).alloc (.cells #[.int .i64 tk, .string ⟨tx.toArray⟩, .int .i64 tp, .int .i64 tn] 81)).drewN n3).drewN n4) (fun b => S b ∧ b ≠ w.heap.size) rb s s.pos 2 hM3.rdr (fun h => (unhide H4).2.2 h.1) (fun b hb => ⟨(unhide H4).1 b (by have := hM3.but.size; omega), by have := hM3.box4.lt; omega⟩) (by decide))
              clear hM3 HS1 HS2
              generalize (((w.alloc (.cells zeroE ET)).alloc (.cells #[.int .i64 tk, .string ⟨tx.toArray⟩, .int .i64 tp, .int .i64 tn] 81)).drewN n3).drewN n4 = W3 at *
              go_wp2_with fail
              refine (unhide HFA).mono ?_
              rintro ev w4 ⟨rfl, hR4, hb4⟩
              have hM4 : MidF T (.slice (some ⟨tb, off, none⟩) T.length cap) w S rb w4 (s.fail s.pos 2) := (unhide HM3).step (unhide HLR) hb4 hR4
              have HM4 := hide hM4
              obtain ⟨b0, b1, b2, b3, f0, f1, f2, f3, hg⟩ := hM4.box4
              clear hR4 hb4 hM4 HFA
              go_wp2
              refine bodyPost_ret (v := treeV E.none (.slice none 0 0)) (by simp [results, Tryz.results72, go_sem, b0, b1, b2, b3, E.none, E.kind, E.n, E.name]) rfl ⟨_, _, _, rfl, unhide HRR, ?_⟩
              obtain ⟨r1, r2, r3⟩ := (unhide HM4).done (x := E.none) (Forest.nil none 0) rfl
              exact ⟨r1, r2, r3, by rw [fail_pos]; exact hp, by rw [fail_pos]; exact Nat.le_refl _⟩
            · rw [hc2] at HS2
              have HC2 := hide hc2
              clear hc2
              go_enter Tryz.func72, Tryz.ntmps72
              go_wp2_with fail
              refine (unhide HS1).mono ?_
              rintro ev w3 ⟨rfl, n3, rfl⟩
              go_wp2_with fail
              refine (unhide HS2 n3).mono ?_
              rintro ev w3 ⟨rfl, n4, rfl⟩
              have hM3 : MidF T (.slice (some ⟨tb, off, none⟩) T.length cap) w S rb ((((w.alloc (.cells zeroE ET)).alloc (.cells #[.int .i64 tk, .string ⟨tx.toArray⟩, .int .i64 tp, .int .i64 tn] 81)).drewN n3).drewN n4) s := ((unhide HM2).drewN (unhide HLR) n3).drewN (unhide HLR) n4
              have HM3 := hide hM3
              clear HS1 HS2
              generalize (((w.alloc (.cells zeroE ET)).alloc (.cells #[.int .i64 tk, .string ⟨tx.toArray⟩, .int .i64 tp, .int .i64 tn] 81)).drewN n3).drewN n4 = W3 at *
              by_cases hd2 : 20 ≤ d
              · have q2 : decide (20 ≤ d) = true := decide_eq_true hd2
                have HFA := hide (rdFail_any (.slice (some ⟨tb, off, none⟩) T.length cap) W3 (fun b => S b ∧ b ≠ w.heap.size) rb s s.pos 4 hM3.rdr (fun h => (unhide H4).2.2 h.1) (fun b hb => ⟨(unhide H4).1 b (by have := hM3.but.size; omega), by have := hM3.box4.lt; omega⟩) (by decide))
                have HRR := hide ((unhide HRG).1 hd2 (.inr (unhide HC2)))
                clear hM3 HRG
                go_wp2_with fail
                refine (unhide HFA).mono ?_
                rintro ev w4 ⟨rfl, hR4, hb4⟩
                have hM4 : MidF T (.slice (some ⟨tb, off, none⟩) T.length cap) w S rb w4 (s.fail s.pos 4) := (unhide HM3).step (unhide HLR) hb4 hR4
                have HM4 := hide hM4
                obtain ⟨b0, b1, b2, b3, f0, f1, f2, f3, hg⟩ := hM4.box4
                clear hR4 hb4 hM4 HFA
                go_wp2
                refine bodyPost_ret (v := treeV E.none (.slice none 0 0)) (by simp [results, Tryz.results72, go_sem, b0, b1, b2, b3, E.none, E.kind, E.n, E.name]) rfl ⟨_, _, _, rfl, unhide HRR, ?_⟩
                obtain ⟨r1, r2, r3⟩ := (unhide HM4).done (x := E.none) (Forest.nil none 0) rfl
                exact ⟨r1, r2, r3, by rw [fail_pos]; exact hp, by rw [fail_pos]; exact Nat.le_refl _⟩
              · have q2 : decide (20 ≤ d) = false := decide_eq_false hd2
                have HT1 := hide (rdTook_any T (.slice (some ⟨tb, off, none⟩) T.length cap) W3 (fun b => S b ∧ b ≠ w.heap.size) rb s [45] hM3.rdr hM3.tks hl (fun h => (unhide H4).2.2 h.1))
                rw [unhide HC1] at HT1
                clear hM3
                go_wp2_with fail
                refine (unhide HT1).mono ?_
                rintro ev w4 ⟨rfl, hR4, hb4, hz4⟩
                have hM4 : MidF T (.slice (some ⟨tb, off, none⟩) T.length cap) w S rb w4 s := (unhide HM3).step (unhide HLR) hb4 hR4
                have y1 := hM4.rdr.pos
                have y2 := hM4.rdr.fr.2.1
                have hM5 : MidF T (.slice (some ⟨tb, off, none⟩) T.length cap) w S rb (w4.setCell ⟨rb, 1, none⟩ (.int .i64 ((s.pos : Int) + 1))) s.next := hM4.step (unhide HLR) (But.set (p := ⟨rb, 1, none⟩) (but_refl _ _) (.inr rfl) _) (hM4.rdr.nextI (fun h => (unhide H4).2.2 h.1))
                have HM5 := hide hM5
                have HFC : Hid (Calls Tryz.prog 39 #[.pointer (some ⟨rb, 0, none⟩), .int .i64 ((d : Int) + 1)] (w4.setCell ⟨rb, 1, none⟩ (.int .i64 ((s.pos : Int) + 1))) fun e w' => ∃ x s' sl, e = .returned (treeV x sl) ∧ Ex.RExpr T (d + 1) s.next (x, s') ∧ Forest w' (fun b => (w4.setCell ⟨rb, 1, none⟩ (.int .i64 ((s.pos : Int) + 1))).heap.size ≤ b) x.a sl ∧ Rdr w' (fun b => S b ∧ b ≠ w.heap.size) wExpr rb (.slice (some ⟨tb, off, none⟩) T.length cap) s' ∧ But rb (w4.setCell ⟨rb, 1, none⟩ (.int .i64 ((s.pos : Int) + 1))) w' ∧ s'.pos ≤ T.length ∧ s.next.pos ≤ s'.pos) := hide ((unhide HRE).1 (n - 1) (by omega) (w4.setCell ⟨rb, 1, none⟩ (.int .i64 ((s.pos : Int) + 1))) (fun b => S b ∧ b ≠ w.heap.size) rb (d + 1) s.next hM5.rdr hM5.tks (fun p h => ⟨by have := ((unhide H4).2.1 p h).1; have := hM5.but.size; omega, ((unhide H4).2.1 p h).2⟩) (fun h => (unhide H4).2.2 h.1) (fun b hb => ⟨(unhide H4).1 b (by have := hM5.but.size; omega), by have := hM5.box4.lt; omega⟩) (by show s.pos + 1 ≤ T.length; omega) (by show T.length - (s.pos + 1) ≤ n - 1; omega) (by omega))
                clear hR4 hb4 hM4 hM5 HT1
                go_wp2_with fail
                refine (unhide HFC).mono ?_
                rintro ev w7 ⟨x7, s7, sl7, rfl, hr7, hf7, hR7, hb7, hp7, hp8⟩
                obtain ⟨la7, lc7, hsl⟩ := hf7.shape
                generalize hln : x7.a.length = ln7 at hsl
                subst hsl
                clear hln
                have hM7 : MidF T (.slice (some ⟨tb, off, none⟩) T.length cap) w S rb w7 s7 := (unhide HM5).step (unhide HLR) hb7 hR7
                have hM8 : MidF T (.slice (some ⟨tb, off, none⟩) T.length cap) w S rb (w7.alloc (.cells #[.int .i64 x7.kind, .int .i64 x7.n, .string ⟨x7.name.toArray⟩, .slice la7 ln7 lc7] ET)) s7 := hM7.alloc (unhide HLR) _
                have hBx : Box (w7.alloc (.cells #[.int .i64 x7.kind, .int .i64 x7.n, .string ⟨x7.name.toArray⟩, .slice la7 ln7 lc7] ET)) w7.heap.size x7 (.slice la7 ln7 lc7) := box_new _ _ _ _
                have hfo : Forest (w7.alloc (.cells #[.int .i64 x7.kind, .int .i64 x7.n, .string ⟨x7.name.toArray⟩, .slice la7 ln7 lc7] ET)) (fun b => w.heap.size < b) x7.a (.slice la7 ln7 lc7) := (hf7.mono (fun b hs _ => by have := (unhide HM5).box4.lt; omega)).old (alloc_below _ _)
                have hq7 : rb < w7.heap.size := by have := hM7.but.size; omega
                have hq8 : w.heap.size < w7.heap.size := hM7.box4.lt
                have HT2 := hide (rdTook_any T (.slice (some ⟨tb, off, none⟩) T.length cap) _ (fun b => S b ∧ b ≠ w.heap.size) rb s7 [41] hM8.rdr hM8.tks hl (fun h => (unhide H4).2.2 h.1))
                have HM8 := hide (And.intro hM8 (And.intro hBx hfo))
                have HRX := hide ((unhide HRG).2.2.1 x7 s7 (unhide HC1) (unhide HC2) hd2 hr7)
                clear hr7 hf7 hR7 hb7 hM7 hM8 hBx hfo HFC HRG
                go_wp2_with fail
                generalize hq : w7.heap.size = q at *
                generalize w7.alloc (.cells #[.int .i64 x7.kind, .int .i64 x7.n, .string ⟨x7.name.toArray⟩, .slice la7 ln7 lc7] ET) = W8 at *
                clear hq
                have hfp : s.next.pos = s.pos + 1 := rfl
                cases hc3 : Ex.isSign T s7 [41]
                · rw [hc3] at HT2
                  have HRR : Hid (Ex.RFactor T d s (x7, s7.fail s7.pos 2)) := hide (by have := unhide HRX; rw [hc3] at this; simpa using this)
                  clear hc3
                  refine (unhide HT2).mono ?_
                  rintro ev w9 ⟨rfl, hR9, hb9, hz9⟩
                  have hM9 : MidF T (.slice (some ⟨tb, off, none⟩) T.length cap) w S rb w9 s7 := (unhide HM8).1.step (unhide HLR) hb9 hR9
                  have y3 := hM9.rdr.pos
                  have HFA := hide (rdFail_any (.slice (some ⟨tb, off, none⟩) T.length cap) w9 (fun b => S b ∧ b ≠ w.heap.size) rb s7 s7.pos 2 hM9.rdr (fun h => (unhide H4).2.2 h.1) (fun b hb => ⟨(unhide H4).1 b (by have := hM9.but.size; omega), by have := hM9.box4.lt; omega⟩) (by decide))
                  have HM9 := hide (And.intro hM9 (And.intro ((unhide HM8).2.1.but hb9 (by omega)) ((unhide HM8).2.2.but hb9 (fun b hs => by omega))))
                  clear hR9 hb9 hM9 HT2
                  go_wp2_with fail
                  refine (unhide HFA).mono ?_
                  rintro ev wA ⟨rfl, hRA, hbA⟩
                  have hMA : MidF T (.slice (some ⟨tb, off, none⟩) T.length cap) w S rb wA (s7.fail s7.pos 2) := (unhide HM9).1.step (unhide HLR) hbA hRA
                  have hBA := (unhide HM9).2.1.but hbA (by omega)
                  have HMA := hide (And.intro hMA ((unhide HM9).2.2.but hbA (fun b hs => by omega)))
                  obtain ⟨d0, d1, d2, d3, -, -, -, -, -⟩ := hBA
                  obtain ⟨b0, b1, b2, b3, f0, f1, f2, f3, hg⟩ := hMA.box4
                  clear hRA hbA hMA HFA
                  go_wp2
                  refine bodyPost_ret (v := treeV x7 (.slice la7 ln7 lc7)) (by simp [results, Tryz.results72, go_sem, b0, b1, b2, b3]) rfl ⟨x7, _, _, rfl, unhide HRR, ?_⟩
                  obtain ⟨r1, r2, r3⟩ := (unhide HMA).1.done (x := x7) (unhide HMA).2 rfl
                  exact ⟨r1, r2, r3, by rw [fail_pos]; exact hp7, by rw [fail_pos]; omega⟩
                · have hlt7 : s7.pos < T.length := by
                    rcases Nat.lt_or_ge s7.pos T.length with h1 | h1
                    · exact h1
                    · rw [isSign_out (by omega)] at hc3; cases hc3
                  rw [hc3] at HT2
                  have HRR : Hid (Ex.RFactor T d s (x7, s7.next)) := hide (by have := unhide HRX; rw [hc3] at this; simpa using this)
                  clear hc3
                  refine (unhide HT2).mono ?_
                  rintro ev w9 ⟨rfl, hR9, hb9, hz9⟩
                  have hM9 : MidF T (.slice (some ⟨tb, off, none⟩) T.length cap) w S rb w9 s7.next := (unhide HM8).1.step (unhide HLR) hb9 hR9
                  have hB9 := (unhide HM8).2.1.but hb9 (by omega)
                  have HM9 := hide (And.intro hM9 ((unhide HM8).2.2.but hb9 (fun b hs => by omega)))
                  obtain ⟨d0, d1, d2, d3, -, -, -, -, -⟩ := hB9
                  obtain ⟨b0, b1, b2, b3, f0, f1, f2, f3, hg⟩ := hM9.box4
                  clear hR9 hb9 hM9 HT2
                  go_wp2
                  refine bodyPost_ret (v := treeV x7 (.slice la7 ln7 lc7)) (by simp [results, Tryz.results72, go_sem, b0, b1, b2, b3]) rfl ⟨x7, _, _, rfl, unhide HRR, ?_⟩
                  obtain ⟨r1, r2, r3⟩ := (unhide HM9).1.done (x := x7) (unhide HM9).2 rfl
                  have hfp7 : s7.next.pos = s7.pos + 1 := rfl
                  exact ⟨r1, r2, r3, by omega, by omega⟩
          · rw [hc1] at HS1
            have HC1 := hide hc1
            clear hc1
            go_enter Tryz.func72, Tryz.ntmps72
            go_wp2_with fail
            refine (unhide HS1).mono ?_
            rintro ev w3 ⟨rfl, n3, rfl⟩
            have hM3 : MidF T (.slice (some ⟨tb, off, none⟩) T.length cap) w S rb (((w.alloc (.cells zeroE ET)).alloc (.cells #[.int .i64 tk, .string ⟨tx.toArray⟩, .int .i64 tp, .int .i64 tn] 81)).drewN n3) s := (unhide HM2).drewN (unhide HLR) n3
            have HM3 := hide hM3
            clear HS1
            generalize ((w.alloc (.cells zeroE ET)).alloc (.cells #[.int .i64 tk, .string ⟨tx.toArray⟩, .int .i64 tp, .int .i64 tn] 81)).drewN n3 = W3 at *
            by_cases hd2 : 20 ≤ d
            · have q2 : decide (20 ≤ d) = true := decide_eq_true hd2
              have HFA := hide (rdFail_any (.slice (some ⟨tb, off, none⟩) T.length cap) W3 (fun b => S b ∧ b ≠ w.heap.size) rb s s.pos 4 hM3.rdr (fun h => (unhide H4).2.2 h.1) (fun b hb => ⟨(unhide H4).1 b (by have := hM3.but.size; omega), by have := hM3.box4.lt; omega⟩) (by decide))
              have HRR := hide ((unhide HRG).1 hd2 (.inl (unhide HC1)))
              clear hM3 HRG
              go_wp2_with fail
              refine (unhide HFA).mono ?_
              rintro ev w4 ⟨rfl, hR4, hb4⟩
              have hM4 : MidF T (.slice (some ⟨tb, off, none⟩) T.length cap) w S rb w4 (s.fail s.pos 4) := (unhide HM3).step (unhide HLR) hb4 hR4
              have HM4 := hide hM4
              obtain ⟨b0, b1, b2, b3, f0, f1, f2, f3, hg⟩ := hM4.box4
              clear hR4 hb4 hM4 HFA
              go_wp2
              refine bodyPost_ret (v := treeV E.none (.slice none 0 0)) (by simp [results, Tryz.results72, go_sem, b0, b1, b2, b3, E.none, E.kind, E.n, E.name]) rfl ⟨_, _, _, rfl, unhide HRR, ?_⟩
              obtain ⟨r1, r2, r3⟩ := (unhide HM4).done (x := E.none) (Forest.nil none 0) rfl
              exact ⟨r1, r2, r3, by rw [fail_pos]; exact hp, by rw [fail_pos]; exact Nat.le_refl _⟩
            · have q2 : decide (20 ≤ d) = false := decide_eq_false hd2
              have HT1 := hide (rdTook_any T (.slice (some ⟨tb, off, none⟩) T.length cap) W3 (fun b => S b ∧ b ≠ w.heap.size) rb s [45] hM3.rdr hM3.tks hl (fun h => (unhide H4).2.2 h.1))
              rw [unhide HC1] at HT1
              clear hM3
              go_wp2_with fail
              refine (unhide HT1).mono ?_
              rintro ev w4 ⟨rfl, hR4, hb4, hz4⟩
              have hM4 : MidF T (.slice (some ⟨tb, off, none⟩) T.length cap) w S rb w4 s.next := (unhide HM3).step (unhide HLR) hb4 hR4
              have HM4 := hide hM4
              have HFC : Hid (Calls Tryz.prog 72 #[.pointer (some ⟨rb, 0, none⟩), .int .i64 ((d : Int) + 1)] w4 fun e w' => ∃ x s' sl, e = .returned (treeV x sl) ∧ Ex.RFactor T (d + 1) s.next (x, s') ∧ Forest w' (fun b => w4.heap.size ≤ b) x.a sl ∧ Rdr w' (fun b => S b ∧ b ≠ w.heap.size) wExpr rb (.slice (some ⟨tb, off, none⟩) T.length cap) s' ∧ But rb w4 w' ∧ s'.pos ≤ T.length ∧ s.next.pos ≤ s'.pos) := hide ((unhide HRE).2.1 (n - 1) (by omega) w4 (fun b => S b ∧ b ≠ w.heap.size) rb (d + 1) s.next hM4.rdr hM4.tks (fun p h => ⟨by have := ((unhide H4).2.1 p h).1; have := hM4.but.size; omega, ((unhide H4).2.1 p h).2⟩) (fun h => (unhide H4).2.2 h.1) (fun b hb => ⟨(unhide H4).1 b (by have := hM4.but.size; omega), by have := hM4.box4.lt; omega⟩) (by show s.pos + 1 ≤ T.length; omega) (by show T.length - (s.pos + 1) ≤ n - 1; omega) (by omega))
              clear hR4 hb4 hM4 HT1
              go_wp2_with fail
              refine (unhide HFC).mono ?_
              rintro ev w7 ⟨x7, s7, sl7, rfl, hr7, hf7, hR7, hb7, hp7, hp8⟩
              obtain ⟨la7, lc7, hsl⟩ := hf7.shape
              generalize hln : x7.a.length = ln7 at hsl
              subst hsl
              clear hln
              have hM7 : MidF T (.slice (some ⟨tb, off, none⟩) T.length cap) w S rb w7 s7 := (unhide HM4).step (unhide HLR) hb7 hR7
              obtain ⟨b0, b1, b2, b3, f0, f1, f2, f3, hg⟩ := hM7.box4
              have HRR := hide ((unhide HRG).2.1 x7 s7 (unhide HC1) hd2 hr7)
              have HM7 := hide (And.intro hM7 (hf7.mono (S' := fun b => w.heap.size < b) (fun b hs _ => by have := (unhide HM4).box4.lt; omega)))
              have hfp : s.next.pos = s.pos + 1 := rfl
              clear hr7 hf7 hR7 hb7 hM7 HFC HRG
              go_wp2
              refine bodyPost_ret (v := treeV (.mk 4 0 [] [x7]) (.slice (some ⟨w7.heap.size, 0, none⟩) 1 1)) (by
                have hBX := (box_set (y := .mk 4 0 [] [x7]) (unhide HM7).1.box4 (.slice (some ⟨w7.heap.size, 0, none⟩) 1 1)).keep ((alloc_below _ (.cells #[.int .i64 x7.kind, .int .i64 x7.n, .string ⟨x7.name.toArray⟩, .slice la7 ln7 lc7] ET)).block _ (by rw [size_set4]; exact hg)) (alloc_below _ _).size
                have m0 := hBX.c0
                have m1 := hBX.c1
                have m2 := hBX.c2
                have m3 := hBX.c3
                simp only [E.kind, E.n, E.name] at m0 m1 m2 m3
                clear hBX
                generalize World.alloc _ _ = WW at *
                simp [results, Tryz.results72, go_sem, m0, m1, m2, m3, E.kind, E.n, E.name]) rfl ⟨.mk 4 0 [] [x7], _, _, rfl, unhide HRR, ?_⟩
              obtain ⟨r1, r2, r3⟩ := (unhide HM7).1.done1 (unhide HM7).2 4 rfl
              exact ⟨r1, r2, r3, hp7, by omega⟩
    · obtain ⟨ta, tc, rfl⟩ := hM.tks.shape
      have q1 : decide (T.length ≤ s.pos) = true := decide_eq_true (by omega)
      rw [h0] at g3
      have g3' : (w.alloc (.cells zeroE ET)).cell? ⟨rb, 3, none⟩ = some (.int .i64 0) := g3
      clear g3
      have HFA := hide (rdFail_any (.slice ta T.length tc) (w.alloc (.cells zeroE ET)) (fun b => S b ∧ b ≠ w.heap.size) rb s s.pos 2 hM.rdr (fun h => (unhide H4).2.2 h.1) (fun b hb => ⟨(unhide H4).1 b (by have := unhide HSZ; omega), by have := unhide HSZ; omega⟩) (by decide))
      have HRR := hide (Ex.rFactor_out (l := T) (d := d) h0 (by omega))
      clear hM
      go_enter Tryz.func72, Tryz.ntmps72
      go_wp2_with fail
      refine (unhide HFA).mono ?_
      rintro ev w4 ⟨rfl, hR4, hb4⟩
      have hM4 : MidF T (.slice ta T.length tc) w S rb w4 (s.fail s.pos 2) := (unhide HM).step (unhide HLR) hb4 hR4
      have HM4 := hide hM4
      obtain ⟨b0, b1, b2, b3, f0, f1, f2, f3, hg⟩ := hM4.box4
      clear hR4 hb4 hM4 HFA
      go_wp2
      refine bodyPost_ret (v := treeV E.none (.slice none 0 0)) (by simp [results, Tryz.results72, go_sem, b0, b1, b2, b3, E.none, E.kind, E.n, E.name]) rfl ⟨_, _, _, rfl, unhide HRR, ?_⟩
      obtain ⟨r1, r2, r3⟩ := (unhide HM4).done (x := E.none) (Forest.nil none 0) rfl
      exact ⟨r1, r2, r3, by rw [fail_pos]; exact hp, by rw [fail_pos]; exact Nat.le_refl _⟩
  · have k1 : ((s.err : Int) != 0) = true := by rw [bne_iff_ne]; omega
    have k2 : ¬ (s.err : Int) = 0 := by omega
    have HFA := hide (rdFail_any L (w.alloc (.cells zeroE ET)) (fun b => S b ∧ b ≠ w.heap.size) rb s s.pos 2 hM.rdr (fun h => (unhide H4).2.2 h.1) (fun b hb => ⟨(unhide H4).1 b (by have := unhide HSZ; omega), by have := unhide HSZ; omega⟩) (by decide))
    have HRR : Hid (Ex.RFactor T d s (E.none, s.fail s.pos 2)) := hide (by have := Ex.rFactor_bad (l := T) (d := d) h0; unfold St.fail; rw [if_neg h0]; exact this)
    clear hM h0
    go_enter Tryz.func72, Tryz.ntmps72
    go_wp2_with fail
    refine (unhide HFA).mono ?_
    rintro ev w4 ⟨rfl, hR4, hb4⟩
    have hM4 : MidF T L w S rb w4 (s.fail s.pos 2) := (unhide HM).step (unhide HLR) hb4 hR4
    have HM4 := hide hM4
    obtain ⟨b0, b1, b2, b3, f0, f1, f2, f3, hg⟩ := hM4.box4
    clear hR4 hb4 hM4 HFA
    go_wp2
    refine bodyPost_ret (v := treeV E.none (.slice none 0 0)) (by simp [results, Tryz.results72, go_sem, b0, b1, b2, b3, E.none, E.kind, E.n, E.name]) rfl ⟨_, _, _, rfl, unhide HRR, ?_⟩
    obtain ⟨r1, r2, r3⟩ := (unhide HM4).done (x := E.none) (Forest.nil none 0) rfl
    exact ⟨r1, r2, r3, by rw [fail_pos]; exact hp, by rw [fail_pos]; exact Nat.le_refl _⟩
theorem rdAll (T : List Words.T) (L : Value) (hl : T.length ≤ 1000000) : ∀ n, Reads T L 72 Ex.RFactor n ∧ Reads T L 39 Ex.RExpr n ∧ ReadsL T L 91 n := by
  intro n
  induction n using Nat.strongRecOn with
  | ind n ih =>
    have h1 := rdFactor_of T L hl n (fun m hm => (ih m hm).2.1) (fun m hm => (ih m hm).1) (fun m hm => (ih m hm).2.2)
    have h2 := rdExpr_of T L hl n (rdTerm_of T L hl n h1)
    exact ⟨h1, h2, rdSubs_of T L hl n h2⟩
end Go.Proofs.YtepnafnljfjeoaaGreatDoor.Line

namespace Go.Proofs.YtepnafnljfjeoaaGreatDoor.Line
open Go.ChangeShapes Go.WideShapes Go.ChangeAt Go.RowKit
open Ex (E St)
set_option linter.unusedVariables false

abbrev s00 : St := ⟨0, 0, 0⟩
/-- what a reading answers: the tree, or none -/
def ansE (x : E) (s : St) : E := if s.err = 0 then x else E.none
def ansN (s : St) : Nat := if s.err = 0 then s.pos else 0
abbrev WrT : TypeId := 37
abbrev RdT : TypeId := 87
/-- the block of a Wrong -/
structure BoxW (w : World) (p : Nat) (a : Value) (e : Int) : Prop where
  c0 : w.cell? ⟨p, 0, none⟩ = some a
  c1 : w.cell? ⟨p, 1, none⟩ = some (.int .i64 e)
  f0 : w.frozen? ⟨p, 0, none⟩ = false
  f1 : w.frozen? ⟨p, 1, none⟩ = false
  lt : p < w.heap.size
theorem BoxW.keep {w w' : World} {p : Nat} {a : Value} {e : Int} (h : BoxW w p a e) (hp : w'.heap[p]? = w.heap[p]?) (hs : w.heap.size ≤ w'.heap.size) : BoxW w' p a e := by
  have hc : ∀ o, w'.cell? ⟨p, o, none⟩ = w.cell? ⟨p, o, none⟩ := fun o => World.cell?_of_block (a := ⟨p, o, none⟩) hp
  have hf : ∀ o, w'.frozen? ⟨p, o, none⟩ = w.frozen? ⟨p, o, none⟩ := fun o => World.frozen?_of_block (a := ⟨p, o, none⟩) hp
  exact ⟨(hc 0).trans h.c0, (hc 1).trans h.c1, (hf 0).trans h.f0, (hf 1).trans h.f1, by have := h.lt; omega⟩
theorem Bad.told {w : World} {S : Nat → Prop} {word : List UInt8} {sl : Value} {s : St} {B : Nat} (h : Bad w S word sl s) (hS : ∀ b, S b → B ≤ b) : Told B w (.agg #[sl, .int .i64 s.err]) word s.bad s.err := by
  rcases h with ⟨h0, rfl⟩ | ⟨h0, bb, hb, rfl, h1, h2⟩
  · exact .inl ⟨h0, by rw [h0]; rfl⟩
  · exact .inr ⟨h0, bb, hS bb hb, rfl, h1, h2⟩
theorem rdr_new (w : World) (L : Value) (S : Nat → Prop) (t : TypeId) : Rdr (w.alloc (.cells #[L, .int .i64 0, .slice none 0 0, .int .i64 0] t)) S wExpr w.heap.size L s00 := by
  refine ⟨by simp, by simp, ⟨.slice none 0 0, by simp, .inl ⟨rfl, rfl⟩⟩, by simp, ⟨by simp, by simp, by simp, by simp⟩, by simp⟩
theorem boxW_new (w : World) (a : Value) (e : Int) (t : TypeId) : BoxW (w.alloc (.cells #[a, .int .i64 e] t)) w.heap.size a e := by
  refine ⟨?_, ?_, ?_, ?_, ?_⟩ <;> simp
abbrev start3 (w : World) (L : Value) : World := ((w.alloc (.cells zeroE ET)).alloc (.cells #[.slice none 0 0, .int .i64 0] WrT)).alloc (.cells #[L, .int .i64 0, .slice none 0 0, .int .i64 0] RdT)
theorem start3_ok (w : World) (L : Value) : Box (start3 w L) w.heap.size E.none (.slice none 0 0) ∧ BoxW (start3 w L) (w.heap.size + 1) (.slice none 0 0) 0 ∧ Rdr (start3 w L) (fun b => w.heap.size + 3 ≤ b) wExpr (w.heap.size + 2) L s00 ∧ (start3 w L).heap.size = w.heap.size + 3 ∧ Below w.heap.size w (start3 w L) := by
  have z1 : (w.alloc (.cells zeroE ET)).heap.size = w.heap.size + 1 := by simp
  have z2 : ((w.alloc (.cells zeroE ET)).alloc (.cells #[.slice none 0 0, .int .i64 0] WrT)).heap.size = w.heap.size + 2 := by simp
  have b1 := alloc_below (w.alloc (.cells zeroE ET)) (.cells #[.slice none 0 0, .int .i64 0] WrT)
  have b2 := alloc_below ((w.alloc (.cells zeroE ET)).alloc (.cells #[.slice none 0 0, .int .i64 0] WrT)) (.cells #[L, .int .i64 0, .slice none 0 0, .int .i64 0] RdT)
  refine ⟨?_, ?_, ?_, by simp, ?_⟩
  · have h := box_new w E.none (.slice none 0 0) ET
    exact (h.keep (b1.block _ (by omega)) b1.size).keep (b2.block _ (by omega)) b2.size
  · have h := boxW_new (w.alloc (.cells zeroE ET)) (.slice none 0 0) 0 WrT
    rw [z1] at h
    exact h.keep (b2.block _ (by omega)) b2.size
  · have h := rdr_new ((w.alloc (.cells zeroE ET)).alloc (.cells #[.slice none 0 0, .int .i64 0] WrT)) L (fun b => w.heap.size + 3 ≤ b) RdT
    rw [z2] at h
    exact h
  · exact ((alloc_below w _).trans (b1.mono (by omega))).trans (b2.mono (by omega))
/-- six cells of two blocks are set, a draw: other blocks stay -/
theorem heap_set2 (w : World) (q : Nat) (e f : Value) (k : Nat) (h2 : k ≠ q) : ((w.setCell ⟨q, 0, none⟩ e).setCell ⟨q, 1, none⟩ f).heap[k]? = w.heap[k]? := (Below.heap_setCell _ ⟨q, 1, none⟩ f k h2).trans (Below.heap_setCell _ ⟨q, 0, none⟩ e k h2)
theorem heap_drew (w : World) (k : Nat) : w.drew.heap[k]? = w.heap[k]? := rfl
theorem heap_set6 (w : World) (p q : Nat) (a b c d e f : Value) (k : Nat) (h : k ≠ p) (h2 : k ≠ q) : (((((((w.setCell ⟨p, 0, none⟩ a).setCell ⟨p, 1, none⟩ b).setCell ⟨p, 2, none⟩ c).setCell ⟨p, 3, none⟩ d).setCell ⟨q, 0, none⟩ e).setCell ⟨q, 1, none⟩ f).drew).heap[k]? = w.heap[k]? := by
  have h4 := heap_set4 w p a b c d k h
  generalize (((w.setCell ⟨p, 0, none⟩ a).setCell ⟨p, 1, none⟩ b).setCell ⟨p, 2, none⟩ c).setCell ⟨p, 3, none⟩ d = W at *
  exact ((heap_drew _ k).trans (heap_set2 W q e f k h2)).trans h4
theorem below_set6 {w w' : World} (h : Below w.heap.size w w') (a b c d e f : Value) : Below w.heap.size w ((((((w'.setCell ⟨w.heap.size, 0, none⟩ a).setCell ⟨w.heap.size, 1, none⟩ b).setCell ⟨w.heap.size, 2, none⟩ c).setCell ⟨w.heap.size, 3, none⟩ d).setCell ⟨w.heap.size + 1, 0, none⟩ e).setCell ⟨w.heap.size + 1, 1, none⟩ f).drew := by
  have h1 := h.setCell (p := ⟨w.heap.size, 0, none⟩) (Nat.le_refl _) a
  have h2 := h1.setCell (p := ⟨w.heap.size, 1, none⟩) (Nat.le_refl _) b
  have h3 := h2.setCell (p := ⟨w.heap.size, 2, none⟩) (Nat.le_refl _) c
  have h4 := h3.setCell (p := ⟨w.heap.size, 3, none⟩) (Nat.le_refl _) d
  have h5 := h4.setCell (p := ⟨w.heap.size + 1, 0, none⟩) (Nat.le_succ _) e
  have h6 := h5.setCell (p := ⟨w.heap.size + 1, 1, none⟩) (Nat.le_succ _) f
  exact h6.drew
def RefParseSpec : Prop := ∀ (T : List Words.T) (L : Value) (w : World), T.length ≤ 1000000 → Tks w L T → (∀ p, L.ownBlock = some p → p < w.heap.size) → Calls Tryz.prog 11 #[L] w fun e w' => ∃ x s sl g, Ex.RExpr T 0 s00 (x, s) ∧ e = .returned (.tuple #[treeV (ansE x s) sl, .int .i64 (ansN s), g]) ∧ Forest w' (fun b => w.heap.size ≤ b) (ansE x s).a sl ∧ Told w.heap.size w' g wExpr s.bad s.err ∧ Below w.heap.size w w' ∧ s.pos ≤ T.length
set_option maxHeartbeats 8000000 in
set_option maxRecDepth 100000 in
theorem refParse_any : RefParseSpec := by
  intro T L w hl hT hL
  obtain ⟨hb2, hb4, hR, hz, hB⟩ := start3_ok w L
  have HC := hide ((rdAll T L hl T.length).2.1 (start3 w L) (fun b => w.heap.size + 3 ≤ b) (w.heap.size + 2) 0 s00 hR (hT.below hB) (fun p h => by have := hL p h; exact ⟨by omega, by omega⟩) (by omega) (fun b hb => by omega) (Nat.zero_le _) (by show T.length - 0 ≤ T.length; omega) (by omega))
  obtain ⟨ta, tc, rfl⟩ := hT.shape
  have HB := hide (And.intro hb2 (And.intro hb4 (And.intro hz hB)))
  clear hb2 hb4 hR hz hB hT hL
  go_enter Tryz.func11, Tryz.ntmps11
  go_wp2_with fail
  refine (unhide HC).mono ?_
  rintro ev w1 ⟨x, s1, sl, rfl, hr1, hf1, hR1, hb1, hp1, hp2⟩
  obtain ⟨la, lc, hsl⟩ := hf1.shape
  generalize hln : x.a.length = ln at hsl
  subst hsl
  clear hln
  obtain ⟨hb2, hb4, hz, hB⟩ := unhide HB
  have hz1 := hb1.size
  have ba := alloc_below w1 (.cells #[.int .i64 x.kind, .int .i64 x.n, .string ⟨x.name.toArray⟩, .slice la ln lc] ET)
  have hx2 := (hb2.but hb1 (by omega)).keep (ba.block _ (by omega)) ba.size
  have hx4 := (hb4.keep (hb1.block _ hb4.lt (by intro e; injection e with e; omega)) hb1.size).keep (ba.block _ (by omega)) ba.size
  have hx6 := box_new w1 x (.slice la ln lc) ET
  have hfo : Forest (w1.alloc (.cells #[.int .i64 x.kind, .int .i64 x.n, .string ⟨x.name.toArray⟩, .slice la ln lc] ET)) (fun b => w.heap.size + 3 ≤ b ∧ b ≠ w1.heap.size) x.a (.slice la ln lc) := (hf1.mono (fun b hs hl => ⟨by omega, by omega⟩)).old ba
  have hRR := hR1.below ba
  have hbb : Below w.heap.size w (w1.alloc (.cells #[.int .i64 x.kind, .int .i64 x.n, .string ⟨x.name.toArray⟩, .slice la ln lc] ET)) := (hB.trans (hb1.below (by omega) (by omega))).trans (ba.mono (by omega))
  obtain ⟨d0, d1, d2, d3, -, -, -, -, -⟩ := hx6
  obtain ⟨a0, a1, a2, a3, f0, f1, f2, f3, hg2⟩ := hx2
  obtain ⟨c0, c1, e0, e1, hg4⟩ := hx4
  obtain ⟨-, r1, ⟨bs, r2, hbad⟩, r3, -, -⟩ := hRR
  have hq : w.heap.size + 3 ≤ w1.heap.size := by omega
  have hbs : ∃ a n, bs = .slice a n n := by
    rcases hbad with ⟨_, rfl⟩ | ⟨_, bb, _, rfl, _⟩
    · exact ⟨_, _, rfl⟩
    · exact ⟨_, _, rfl⟩
  obtain ⟨ba1, bn, rfl⟩ := hbs
  have H1 := hide (And.intro hr1 (And.intro hfo (And.intro hbad hbb)))
  clear hr1 hf1 hR1 hb1 hb2 hb4 hz hB ba hfo hbad hbb HC HB hz1
  by_cases h0 : s1.err = 0
  · rw [h0] at r3
    have r3' : (w1.alloc (.cells #[.int .i64 x.kind, .int .i64 x.n, .string ⟨x.name.toArray⟩, .slice la ln lc] ET)).cell? ⟨w.heap.size + 2, 3, none⟩ = some (.int .i64 0) := r3
    have HA : Hid (ansE x s1 = x ∧ ansN s1 = s1.pos) := hide ⟨by unfold ansE; rw [if_pos h0], by unfold ansN; rw [if_pos h0]⟩
    have H0 := hide h0
    clear r3 h0
    go_wp2_with fail
    generalize hqq : w1.heap.size = q at *
    generalize w1.alloc (.cells #[.int .i64 x.kind, .int .i64 x.n, .string ⟨x.name.toArray⟩, .slice la ln lc] ET) = W1 at *
    clear hqq
    go_region
    go_wp2
    refine bodyPost_ret (v := .tuple #[treeV x (.slice la ln lc), .int .i64 s1.pos, .agg #[.slice none 0 0, .int .i64 0]]) (by simp [results, Tryz.results11, go_sem, a0, a1, a2, a3, c0, c1]) rfl ⟨x, s1, .slice la ln lc, .agg #[.slice none 0 0, .int .i64 0], (unhide H1).1, by rw [(unhide HA).1, (unhide HA).2], ?_, ?_, below_set6 (unhide H1).2.2.2 _ _ _ _ _ _, hp1⟩
    · rw [(unhide HA).1]
      exact (unhide H1).2.1.keep (fun b hs _ => heap_set6 _ _ _ _ _ _ _ _ _ b (by omega) (by omega)) (fun b hs _ => by omega)
    · exact .inl ⟨unhide H0, rfl⟩
  · have k1 : ((s1.err : Int) != 0) = true := by rw [bne_iff_ne]; omega
    have k2 : ¬ (s1.err : Int) = 0 := by omega
    have HA : Hid (ansE x s1 = E.none ∧ ansN s1 = 0) := hide ⟨by unfold ansE; rw [if_neg h0], by unfold ansN; rw [if_neg h0]⟩
    clear h0
    go_wp2_with fail
    generalize hqq : w1.heap.size = q at *
    generalize w1.alloc (.cells #[.int .i64 x.kind, .int .i64 x.n, .string ⟨x.name.toArray⟩, .slice la ln lc] ET) = W1 at *
    clear hqq
    go_region
    go_wp2
    refine bodyPost_ret (v := .tuple #[treeV E.none (.slice none 0 0), .int .i64 0, .agg #[.slice ba1 bn bn, .int .i64 s1.err]]) (by simp [results, Tryz.results11, go_sem, a0, a1, a2, a3, c0, c1, E.none, E.kind, E.n, E.name]) rfl ⟨x, s1, .slice none 0 0, .agg #[.slice ba1 bn bn, .int .i64 s1.err], (unhide H1).1, by rw [(unhide HA).1, (unhide HA).2]; rfl, ?_, ?_, below_set6 (unhide H1).2.2.2 _ _ _ _ _ _, hp1⟩
    · rw [(unhide HA).1]
      exact .nil none 0
    · exact ((unhide H1).2.2.1.keep (S' := fun b => w.heap.size ≤ b) (fun b hs _ => heap_set6 _ _ _ _ _ _ _ _ _ b (by omega) (by omega)) (fun b hs _ => by omega)).told (fun b hs => hs)
end Go.Proofs.YtepnafnljfjeoaaGreatDoor.Line

namespace Go.Proofs.YtepnafnljfjeoaaGreatDoor.Line
open Go.ChangeShapes Go.WideShapes Go.ChangeAt Go.RowKit
open Ex (E St)
set_option linter.unusedVariables false

/-- the signs of a comparison -/
def rels : List (List UInt8) := [[60], [60, 61], [62], [62, 61], [61, 61], [47, 61]]
def isRel (s : List UInt8) : Bool := rels.contains s
/-- a comparison's sign at a place -/
def relAt (T : List Words.T) (p : Nat) : Bool := match T[p]? with
  | some t => decide (t.kind = 3) && isRel t.text
  | none => false
/-- how a comparison is read: its sign, its two sides, where the reading ends -/
def RCond (T : List Words.T) (c : List UInt8) (x y : E) (s : St) : Prop := ∃ x1 s1, Ex.RExpr T 0 s00 (x1, s1) ∧
  ((s1.err ≠ 0 ∧ s = s1 ∧ c = [] ∧ x = E.none ∧ y = E.none) ∨ (s1.err = 0 ∧ relAt T s1.pos = false ∧ s = s1.fail s1.pos 2 ∧ c = [] ∧ x = E.none ∧ y = E.none) ∨
   (s1.err = 0 ∧ relAt T s1.pos = true ∧ ∃ y1 s3, Ex.RExpr T 0 s1.next (y1, s3) ∧ ((s3.err ≠ 0 ∧ s = s3 ∧ c = [] ∧ x = E.none ∧ y = E.none) ∨ (s3.err = 0 ∧ s = s3 ∧ (∃ h : s1.pos < T.length, c = T[s1.pos].text) ∧ x = x1 ∧ y = y1))))
theorem RCond.det {T : List Words.T} {c c' : List UInt8} {x x' y y' : E} {s s' : St} (h : RCond T c x y s) (h' : RCond T c' x' y' s') : c = c' ∧ x = x' ∧ y = y' ∧ s = s' := by
  obtain ⟨x1, s1, h1, h⟩ := h
  obtain ⟨x1', s1', h1', h'⟩ := h'
  have e := h1.det h1'
  injection e with e1 e2
  subst e1
  subst e2
  rcases h with ⟨a, rfl, rfl, rfl, rfl⟩ | ⟨a, b, rfl, rfl, rfl, rfl⟩ | ⟨a, b, y1, s3, h3, h⟩
  · rcases h' with ⟨a', rfl, rfl, rfl, rfl⟩ | ⟨a', _⟩ | ⟨a', _⟩
    · exact ⟨rfl, rfl, rfl, rfl⟩
    · exact absurd a' a
    · exact absurd a' a
  · rcases h' with ⟨a', _⟩ | ⟨a', b', rfl, rfl, rfl, rfl⟩ | ⟨a', b', _⟩
    · exact absurd a a'
    · exact ⟨rfl, rfl, rfl, rfl⟩
    · rw [b] at b'; cases b'
  · rcases h' with ⟨a', _⟩ | ⟨a', b', _⟩ | ⟨a', b', y1', s3', h3', h'⟩
    · exact absurd a a'
    · rw [b] at b'; cases b'
    · have e := h3.det h3'
      injection e with e1 e2
      subst e1
      subst e2
      rcases h with ⟨a, rfl, rfl, rfl, rfl⟩ | ⟨a, rfl, ⟨hp, rfl⟩, rfl, rfl⟩
      · rcases h' with ⟨a', rfl, rfl, rfl, rfl⟩ | ⟨a', _⟩
        · exact ⟨rfl, rfl, rfl, rfl⟩
        · exact absurd a' a
      · rcases h' with ⟨a', _⟩ | ⟨a', rfl, ⟨hp', rfl⟩, rfl, rfl⟩
        · exact absurd a a'
        · exact ⟨rfl, rfl, rfl, rfl⟩
abbrev condV (op : List UInt8) (x : E) (sx : Value) (y : E) (sy : Value) : Value := .agg #[.string ⟨op.toArray⟩, .int .i64 x.kind, .int .i64 x.n, .string ⟨x.name.toArray⟩, sx, .int .i64 y.kind, .int .i64 y.n, .string ⟨y.name.toArray⟩, sy]
/-- the block of a variable that holds a comparison -/
structure BoxC (w : World) (p : Nat) (op : List UInt8) (x : E) (sx : Value) (y : E) (sy : Value) : Prop where
  c0 : w.cell? ⟨p, 0, none⟩ = some (.string ⟨op.toArray⟩)
  c1 : w.cell? ⟨p, 1, none⟩ = some (.int .i64 x.kind)
  c2 : w.cell? ⟨p, 2, none⟩ = some (.int .i64 x.n)
  c3 : w.cell? ⟨p, 3, none⟩ = some (.string ⟨x.name.toArray⟩)
  c4 : w.cell? ⟨p, 4, none⟩ = some sx
  c5 : w.cell? ⟨p, 5, none⟩ = some (.int .i64 y.kind)
  c6 : w.cell? ⟨p, 6, none⟩ = some (.int .i64 y.n)
  c7 : w.cell? ⟨p, 7, none⟩ = some (.string ⟨y.name.toArray⟩)
  c8 : w.cell? ⟨p, 8, none⟩ = some sy
  f0 : w.frozen? ⟨p, 0, none⟩ = false
  f1 : w.frozen? ⟨p, 1, none⟩ = false
  f2 : w.frozen? ⟨p, 2, none⟩ = false
  f3 : w.frozen? ⟨p, 3, none⟩ = false
  f4 : w.frozen? ⟨p, 4, none⟩ = false
  f5 : w.frozen? ⟨p, 5, none⟩ = false
  f6 : w.frozen? ⟨p, 6, none⟩ = false
  f7 : w.frozen? ⟨p, 7, none⟩ = false
  f8 : w.frozen? ⟨p, 8, none⟩ = false
  lt : p < w.heap.size
theorem BoxC.keep {w w' : World} {p : Nat} {op : List UInt8} {x y : E} {sx sy : Value} (h : BoxC w p op x sx y sy) (hp : w'.heap[p]? = w.heap[p]?) (hs : w.heap.size ≤ w'.heap.size) : BoxC w' p op x sx y sy := by
  have hc : ∀ o, w'.cell? ⟨p, o, none⟩ = w.cell? ⟨p, o, none⟩ := fun o => World.cell?_of_block (a := ⟨p, o, none⟩) hp
  have hf : ∀ o, w'.frozen? ⟨p, o, none⟩ = w.frozen? ⟨p, o, none⟩ := fun o => World.frozen?_of_block (a := ⟨p, o, none⟩) hp
  exact ⟨(hc 0).trans h.c0, (hc 1).trans h.c1, (hc 2).trans h.c2, (hc 3).trans h.c3, (hc 4).trans h.c4, (hc 5).trans h.c5, (hc 6).trans h.c6, (hc 7).trans h.c7, (hc 8).trans h.c8, (hf 0).trans h.f0, (hf 1).trans h.f1, (hf 2).trans h.f2, (hf 3).trans h.f3, (hf 4).trans h.f4, (hf 5).trans h.f5, (hf 6).trans h.f6, (hf 7).trans h.f7, (hf 8).trans h.f8, by have := h.lt; omega⟩
theorem BoxC.but {w w' : World} {p rb : Nat} {op : List UInt8} {x y : E} {sx sy : Value} (h : BoxC w p op x sx y sy) (hb : But rb w w') (hne : p ≠ rb) : BoxC w' p op x sx y sy := h.keep (hb.block p h.lt (fun e => hne (by injection e))) hb.size
theorem boxC_new (w : World) (op : List UInt8) (x : E) (sx : Value) (y : E) (sy : Value) (t : TypeId) : BoxC (w.alloc (.cells #[.string ⟨op.toArray⟩, .int .i64 x.kind, .int .i64 x.n, .string ⟨x.name.toArray⟩, sx, .int .i64 y.kind, .int .i64 y.n, .string ⟨y.name.toArray⟩, sy] t)) w.heap.size op x sx y sy := by
  refine ⟨?_, ?_, ?_, ?_, ?_, ?_, ?_, ?_, ?_, ?_, ?_, ?_, ?_, ?_, ?_, ?_, ?_, ?_, ?_⟩ <;> simp
abbrev zeroC : Array Value := #[.string ⟨#[]⟩, .int .i64 0, .int .i64 0, .string ⟨#[]⟩, .slice none 0 0, .int .i64 0, .int .i64 0, .string ⟨#[]⟩, .slice none 0 0]
theorem heap_set1 (w : World) (p o : Nat) (a : Value) (k : Nat) (h : k ≠ p) : (w.setCell ⟨p, o, none⟩ a).heap[k]? = w.heap[k]? := Below.heap_setCell _ ⟨p, o, none⟩ a k h
theorem heap_set11 (w : World) (p q : Nat) (a0 a1 a2 a3 a4 a5 a6 a7 a8 e f : Value) (k : Nat) (h : k ≠ p) (h2 : k ≠ q) : (((((((((((w.setCell ⟨p, 0, none⟩ a0).setCell ⟨p, 1, none⟩ a1).setCell ⟨p, 2, none⟩ a2).setCell ⟨p, 3, none⟩ a3).setCell ⟨p, 4, none⟩ a4).setCell ⟨p, 5, none⟩ a5).setCell ⟨p, 6, none⟩ a6).setCell ⟨p, 7, none⟩ a7).setCell ⟨p, 8, none⟩ a8).setCell ⟨q, 0, none⟩ e).setCell ⟨q, 1, none⟩ f).drew.heap[k]? = w.heap[k]? := by
  have key : ∀ (W : World), W.heap[k]? = w.heap[k]? → ∀ (o : Nat) (a : Value), (W.setCell ⟨p, o, none⟩ a).heap[k]? = w.heap[k]? := fun W hW o a => (heap_set1 W p o a k h).trans hW
  have key2 : ∀ (W : World), W.heap[k]? = w.heap[k]? → ∀ (o : Nat) (a : Value), (W.setCell ⟨q, o, none⟩ a).heap[k]? = w.heap[k]? := fun W hW o a => (heap_set1 W q o a k h2).trans hW
  exact (heap_drew _ k).trans (key2 _ (key2 _ (key _ (key _ (key _ (key _ (key _ (key _ (key _ (key _ (key _ rfl 0 a0) 1 a1) 2 a2) 3 a3) 4 a4) 5 a5) 6 a6) 7 a7) 8 a8) 0 e) 1 f)
theorem below_set11 {w w2 : World} (hb : Below w.heap.size w w2) (a0 a1 a2 a3 a4 a5 a6 a7 a8 e f : Value) : Below w.heap.size w (((((((((((w2.setCell ⟨w.heap.size, 0, none⟩ a0).setCell ⟨w.heap.size, 1, none⟩ a1).setCell ⟨w.heap.size, 2, none⟩ a2).setCell ⟨w.heap.size, 3, none⟩ a3).setCell ⟨w.heap.size, 4, none⟩ a4).setCell ⟨w.heap.size, 5, none⟩ a5).setCell ⟨w.heap.size, 6, none⟩ a6).setCell ⟨w.heap.size, 7, none⟩ a7).setCell ⟨w.heap.size, 8, none⟩ a8).setCell ⟨w.heap.size + 1, 0, none⟩ e).setCell ⟨w.heap.size + 1, 1, none⟩ f).drew := by
  have key : ∀ (W : World), Below w.heap.size w W → ∀ (o : Nat) (a : Value), Below w.heap.size w (W.setCell ⟨w.heap.size, o, none⟩ a) := fun W hW o a => hW.setCell (p := ⟨w.heap.size, o, none⟩) (Nat.le_refl _) a
  have key2 : ∀ (W : World), Below w.heap.size w W → ∀ (o : Nat) (a : Value), Below w.heap.size w (W.setCell ⟨w.heap.size + 1, o, none⟩ a) := fun W hW o a => hW.setCell (p := ⟨w.heap.size + 1, o, none⟩) (Nat.le_succ _) a
  exact (key2 _ (key2 _ (key _ (key _ (key _ (key _ (key _ (key _ (key _ (key _ (key _ hb 0 a0) 1 a1) 2 a2) 3 a3) 4 a4) 5 a5) 6 a6) 7 a7) 8 a8) 0 e) 1 f).drew
theorem BoxC.setOp {w : World} {p : Nat} {op : List UInt8} {x y : E} {sx sy : Value} (h : BoxC w p op x sx y sy) (op2 : List UInt8) : BoxC (w.setCell ⟨p, 0, none⟩ (.string ⟨op2.toArray⟩)) p op2 x sx y sy := by
  obtain ⟨c0, c1, c2, c3, c4, c5, c6, c7, c8, f0, f1, f2, f3, f4, f5, f6, f7, f8, hl⟩ := h
  exact ⟨by simp [go_sem, c0], by simp [go_sem, c1], by simp [go_sem, c2], by simp [go_sem, c3], by simp [go_sem, c4], by simp [go_sem, c5], by simp [go_sem, c6], by simp [go_sem, c7], by simp [go_sem, c8], by simp [go_sem, f0], by simp [go_sem, f1], by simp [go_sem, f2], by simp [go_sem, f3], by simp [go_sem, f4], by simp [go_sem, f5], by simp [go_sem, f6], by simp [go_sem, f7], by simp [go_sem, f8], by simp [World.setCell]; omega⟩
theorem BoxC.setB {w : World} {p : Nat} {op : List UInt8} {x y : E} {sx sy : Value} (h : BoxC w p op x sx y sy) (z : E) (sz : Value) : BoxC ((((w.setCell ⟨p, 5, none⟩ (.int .i64 z.kind)).setCell ⟨p, 6, none⟩ (.int .i64 z.n)).setCell ⟨p, 7, none⟩ (.string ⟨z.name.toArray⟩)).setCell ⟨p, 8, none⟩ sz) p op x sx z sz := by
  obtain ⟨c0, c1, c2, c3, c4, c5, c6, c7, c8, f0, f1, f2, f3, f4, f5, f6, f7, f8, hl⟩ := h
  exact ⟨by simp [go_sem, c0], by simp [go_sem, c1], by simp [go_sem, c2], by simp [go_sem, c3], by simp [go_sem, c4], by simp [go_sem, c5], by simp [go_sem, c6], by simp [go_sem, c7], by simp [go_sem, c8], by simp [go_sem, f0], by simp [go_sem, f1], by simp [go_sem, f2], by simp [go_sem, f3], by simp [go_sem, f4], by simp [go_sem, f5], by simp [go_sem, f6], by simp [go_sem, f7], by simp [go_sem, f8], by simp [World.setCell]; omega⟩
theorem heap_setB (w : World) (p : Nat) (a b c d : Value) (k : Nat) (h : k ≠ p) : ((((w.setCell ⟨p, 5, none⟩ a).setCell ⟨p, 6, none⟩ b).setCell ⟨p, 7, none⟩ c).setCell ⟨p, 8, none⟩ d).heap[k]? = w.heap[k]? := by
  have key : ∀ (W : World), W.heap[k]? = w.heap[k]? → ∀ (o : Nat) (a : Value), (W.setCell ⟨p, o, none⟩ a).heap[k]? = w.heap[k]? := fun W hW o a => (heap_set1 W p o a k h).trans hW
  exact key _ (key _ (key _ (key _ rfl 5 a) 6 b) 7 c) 8 d
end Go.Proofs.YtepnafnljfjeoaaGreatDoor.Line

namespace Go.Proofs.YtepnafnljfjeoaaGreatDoor.Line
open Go.ChangeShapes Go.WideShapes Go.ChangeAt Go.RowKit
open Ex (E St)
set_option linter.unusedVariables false

def ParseSpec : Prop := ∀ (T : List Words.T) (L : Value) (w : World), T.length ≤ 1000000 → Tks w L T → (∀ p, L.ownBlock = some p → p < w.heap.size) → Calls Tryz.prog 12 #[L] w fun e w' => ∃ x s sl g, Ex.RExpr T 0 s00 (x, s) ∧ e = .returned (.tuple #[treeV (ansE x s) sl, .int .i64 (ansN s), g]) ∧ Forest w' (fun b => w.heap.size ≤ b) (ansE x s).a sl ∧ Says w.heap.size w' g wExpr s.bad s.err ∧ Below w.heap.size w w'
def CondSpec : Prop := ∀ (T : List Words.T) (L : Value) (w : World), T.length ≤ 1000000 → Tks w L T → (∀ p, L.ownBlock = some p → p < w.heap.size) → Calls Tryz.prog 18 #[L] w fun e w' => ∃ c x y s sx sy g, RCond T c x y s ∧ e = .returned (.tuple #[condV c x sx y sy, .int .i64 (ansN s), g]) ∧ Forest w' (fun b => w.heap.size ≤ b) x.a sx ∧ Forest w' (fun b => w.heap.size ≤ b) y.a sy ∧ Says w.heap.size w' g wExpr s.bad s.err ∧ Below w.heap.size w w'
def Known5Spec : Prop := ∀ w, Glob w → Calls Tryz.prog 4 #[] w fun e w' => e = .returned (.bool true) ∧ Below w.heap.size w w'
def TellsESpec : Prop := ∀ (w : World) (f g : Value) (k err B B' : Nat), Glob w → Says B w f wExpr k err → Told B' w g wExpr k err → Calls Tryz.prog 19 #[f, g] w fun e w' => e = .returned (.bool true) ∧ Below w.heap.size w w'
theorem rexpr_smA {l : List Words.T} {d : Nat} {s s1 : St} {x : E} (h : Ex.RExpr l d s (x, s1)) : Ex.Sm (ansE x s1) := by
  unfold ansE
  split
  · exact Ex.RExpr.sm h
  · exact Ex.sm_leaf _ _ _
theorem RCond.sm {T : List Words.T} {c : List UInt8} {x y : E} {s : St} (h : RCond T c x y s) : Ex.Sm x ∧ Ex.Sm y := by
  obtain ⟨x1, s1, h1, h⟩ := h
  rcases h with ⟨_, _, _, rfl, rfl⟩ | ⟨_, _, _, _, rfl, rfl⟩ | ⟨_, _, y1, s3, h3, h⟩
  · exact ⟨Ex.sm_leaf _ _ _, Ex.sm_leaf _ _ _⟩
  · exact ⟨Ex.sm_leaf _ _ _, Ex.sm_leaf _ _ _⟩
  · rcases h with ⟨_, _, _, rfl, rfl⟩ | ⟨_, _, _, rfl, rfl⟩
    · exact ⟨Ex.sm_leaf _ _ _, Ex.sm_leaf _ _ _⟩
    · exact ⟨Ex.RExpr.sm h1, Ex.RExpr.sm h3⟩
theorem OwnT.ownLt {T : TypeId} {base : Nat} {w : World} {v : Value} {l : List Words.T} (h : OwnT T base w v l) : ∀ p, v.ownBlock = some p → p < w.heap.size := fun p hp => (World.ownsRow.lt h p hp).2
end Go.Proofs.YtepnafnljfjeoaaGreatDoor.Line
