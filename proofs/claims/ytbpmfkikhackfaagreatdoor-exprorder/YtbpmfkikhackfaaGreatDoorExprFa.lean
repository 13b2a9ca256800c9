/- The contract of the reference's reader: factor; then all four, by how many words are left. -/
import Derived.Test.YtbpmfkikhackfaaGreatDoorExprSu
namespace Go.Proofs.YtbpmfkikhackfaaGreatDoor.Line
open Go.ChangeShapes Go.WideShapes Go.ChangeAt Go.RowKit
open Ex (E St)
set_option linter.unusedVariables false

/-- in the midst of a factor -/
structure MidF (T : List Words.T) (L : Value) (w : World) (S : Nat → Prop) (rb : Nat) (wr : World) (s : St) : Prop where
  box4 : Box wr w.heap.size E.none (.slice none 0 0)
  rdr : Rdr wr (fun b => S b ∧ b ≠ w.heap.size) wExpr rb L s
  tks : Tks wr L T
  but : But rb w wr
  rbl : rb < w.heap.size
theorem MidF.step {T : List Words.T} {L : Value} {w : World} {S : Nat → Prop} {rb : Nat} {wr w3 : World} {s s3 : St} (h : MidF T L w S rb wr s) (hL : L.ownBlock ≠ some rb) (hb : But rb wr w3) (hR : Rdr w3 (fun b => S b ∧ b ≠ w.heap.size) wExpr rb L s3) : MidF T L w S rb w3 s3 := by
  have h2 := h.rbl
  exact ⟨h.box4.but hb (by omega), hR, h.tks.but hb hL, h.but.trans hb, h2⟩
theorem MidF.done {T : List Words.T} {L : Value} {w : World} {S : Nat → Prop} {rb : Nat} {wr : World} {s : St} (h : MidF T L w S rb wr s) {x : E} {sl : Value} (hf : Forest wr (fun b => w.heap.size < b) x.a sl) {W : World} (hW : W = (((wr.setCell ⟨w.heap.size, 0, none⟩ (.int .i64 x.kind)).setCell ⟨w.heap.size, 1, none⟩ (.int .i64 x.n)).setCell ⟨w.heap.size, 2, none⟩ (.string ⟨x.name.toArray⟩)).setCell ⟨w.heap.size, 3, none⟩ sl) :
    Forest W (fun b => w.heap.size ≤ b) x.a sl ∧ Rdr W S wExpr rb L s ∧ But rb w W := by
  have h2 := h.rbl
  subst hW
  refine ⟨?_, ?_, ?_⟩
  · exact hf.keep (fun b hs _ => heap_set4 _ _ _ _ _ _ _ (by omega)) (fun b hs _ => by omega)
  · exact h.rdr.keep (heap_set4 _ _ _ _ _ _ _ (by omega)) (by rw [size_set4]; exact Nat.le_refl _) (fun b hs _ => heap_set4 _ _ _ _ _ _ _ hs.2) (fun _ h _ => h.1)
  · exact But.set (p := ⟨w.heap.size, 3, none⟩) (But.set (p := ⟨w.heap.size, 2, none⟩) (But.set (p := ⟨w.heap.size, 1, none⟩) (But.set (p := ⟨w.heap.size, 0, none⟩) h.but (.inl (Nat.le_refl _)) _) (.inl (Nat.le_refl _)) _) (.inl (Nat.le_refl _)) _) (.inl (Nat.le_refl _)) _
theorem fail_pos (s : St) (k e : Nat) : (s.fail k e).pos = s.pos := by unfold St.fail; split <;> rfl

theorem MidF.start {T : List Words.T} {L : Value} {w w0 : World} {S : Nat → Prop} {rb : Nat} {s : St} (hR : Rdr w0 S wExpr rb L s) (hT : Tks w0 L T) (hb : But rb w w0) (hz : w0.heap.size = w.heap.size) : MidF T L w S rb (w0.alloc (.cells zeroE ET)) s := by
  have hrb := hR.lt
  have hB := box_new w0 E.none (.slice none 0 0) ET
  rw [hz] at hB
  exact ⟨hB, (hR.mono (S' := (fun b => S b ∧ b ≠ w.heap.size)) (fun b hs hl => ⟨hs, by omega⟩)).below (alloc_below w0 (.cells zeroE ET)), hT.below (alloc_below w0 (.cells zeroE ET)), hb.alloc _, by omega⟩
theorem MidF.alloc {T : List Words.T} {L : Value} {w wr : World} {S : Nat → Prop} {rb : Nat} {s : St} (h : MidF T L w S rb wr s) (hL : L.ownBlock ≠ some rb) (o : Obj) : MidF T L w S rb (wr.alloc o) s := h.step hL ((but_refl _ _).alloc o) (h.rdr.below (alloc_below _ _))
theorem MidF.drewN {T : List Words.T} {L : Value} {w wr : World} {S : Nat → Prop} {rb : Nat} {s : St} (h : MidF T L w S rb wr s) (hL : L.ownBlock ≠ some rb) (n : Nat) : MidF T L w S rb (wr.drewN n) s := h.step hL ((but_refl _ _).drewN n) (h.rdr.drewN n)
theorem MidF.done1 {T : List Words.T} {L : Value} {w : World} {S : Nat → Prop} {rb : Nat} {wr : World} {s : St} (h : MidF T L w S rb wr s) {x : E} {sx : Value} (hf : Forest wr (fun b => w.heap.size < b) x.a sx) (k : Int) {W : World} (hW : W = ((((wr.setCell ⟨w.heap.size, 0, none⟩ (.int .i64 k)).setCell ⟨w.heap.size, 1, none⟩ (.int .i64 0)).setCell ⟨w.heap.size, 2, none⟩ (.string ⟨#[]⟩)).setCell ⟨w.heap.size, 3, none⟩ (.slice (some ⟨wr.heap.size, 0, none⟩) 1 1)).alloc (.cells #[.int .i64 x.kind, .int .i64 x.n, .string ⟨x.name.toArray⟩, sx] ET)) :
    Forest W (fun b => w.heap.size ≤ b) [x] (.slice (some ⟨wr.heap.size, 0, none⟩) 1 1) ∧ Rdr W S wExpr rb L s ∧ But rb w W := by
  have h2 := h.rbl
  have h3 := h.box4.lt
  have hk4 : ∀ b, b ≠ w.heap.size → ((((wr.setCell ⟨w.heap.size, 0, none⟩ (.int .i64 k)).setCell ⟨w.heap.size, 1, none⟩ (.int .i64 0)).setCell ⟨w.heap.size, 2, none⟩ (.string ⟨#[]⟩)).setCell ⟨w.heap.size, 3, none⟩ (.slice (some ⟨wr.heap.size, 0, none⟩) 1 1)).heap[b]? = wr.heap[b]? := fun b hb => heap_set4 _ _ _ _ _ _ _ hb
  have hz4 := size_set4 wr w.heap.size (.int .i64 k) (.int .i64 0) (.string ⟨#[]⟩) (.slice (some ⟨wr.heap.size, 0, none⟩) 1 1)
  have hbt : But rb w ((((wr.setCell ⟨w.heap.size, 0, none⟩ (.int .i64 k)).setCell ⟨w.heap.size, 1, none⟩ (.int .i64 0)).setCell ⟨w.heap.size, 2, none⟩ (.string ⟨#[]⟩)).setCell ⟨w.heap.size, 3, none⟩ (.slice (some ⟨wr.heap.size, 0, none⟩) 1 1)) := But.set (p := ⟨w.heap.size, 3, none⟩) (But.set (p := ⟨w.heap.size, 2, none⟩) (But.set (p := ⟨w.heap.size, 1, none⟩) (But.set (p := ⟨w.heap.size, 0, none⟩) h.but (.inl (Nat.le_refl _)) _) (.inl (Nat.le_refl _)) _) (.inl (Nat.le_refl _)) _) (.inl (Nat.le_refl _)) _
  subst hW
  generalize (((wr.setCell ⟨w.heap.size, 0, none⟩ (.int .i64 k)).setCell ⟨w.heap.size, 1, none⟩ (.int .i64 0)).setCell ⟨w.heap.size, 2, none⟩ (.string ⟨#[]⟩)).setCell ⟨w.heap.size, 3, none⟩ (.slice (some ⟨wr.heap.size, 0, none⟩) 1 1) = W at *
  have hfo : Forest (W.alloc (.cells #[.int .i64 x.kind, .int .i64 x.n, .string ⟨x.name.toArray⟩, sx] ET)) (fun b => w.heap.size ≤ b) [x] (.slice (some ⟨W.heap.size, 0, none⟩) 1 1) := forest_one (hf.keep (fun b hs _ => hk4 b (by omega)) (fun b hs _ => by omega)) (by omega)
  rw [hz4] at hfo
  exact ⟨hfo, (h.rdr.keep (hk4 _ (by omega)) (by omega) (fun b hs _ => hk4 b hs.2) (fun _ h _ => h.1)).below (alloc_below _ _), hbt.alloc _⟩

set_option maxHeartbeats 8000000 in
set_option maxRecDepth 100000 in
theorem rdFactor_of (T : List Words.T) (L : Value) (hl : T.length ≤ 1000000) (n : Nat) (HE : ∀ m, m < n → Reads T L 36 Ex.RExpr m) (HF : ∀ m, m < n → Reads T L 84 Ex.RFactor m) (HU : ∀ m, m < n → ReadsL T L 98 m) : Reads T L 84 Ex.RFactor n := by
  intro w S rb d s hR hT hL hS hN hp hn hd
  have hrb := hR.lt
  have hM : MidF T L w S rb (w.alloc (.cells zeroE ET)) s := ⟨box_new w E.none (.slice none 0 0) ET, (hR.mono (S' := fun b => S b ∧ b ≠ w.heap.size) (fun b hs hl => ⟨hs, by omega⟩)).below (alloc_below w (.cells zeroE ET)), hT.below (alloc_below w (.cells zeroE ET)), (but_refl _ _).alloc _, hrb⟩
  have hsz0 : (w.alloc (.cells zeroE ET)).heap.size = w.heap.size + 1 := by simp
  have HLR : Hid (L.ownBlock ≠ some rb) := hide (fun h => (hL rb h).2 rfl)
  have HRE := hide (And.intro HE (And.intro HF HU))
  have H4 := hide (And.intro hN (And.intro hL hS))
  have HM := hide hM
  have HR0 := hide (And.intro hR hT)
  have HSZ := hide hsz0
  have g0 := hM.rdr.words
  have g1 := hM.rdr.pos
  have g3 := hM.rdr.err
  clear HE HF HU hN hL hS hR hT hsz0
  by_cases h0 : s.err = 0
  · by_cases hlt : s.pos < T.length
    · rcases hM.tks with ⟨_, _, _, hnil⟩ | ⟨tb, off, cap, rfl, hcap, hcells⟩
      · exact absurd hlt (by rw [hnil]; simp)
      obtain ⟨d0, d1, d2, d3⟩ := hcells s.pos hlt
      rw [h0] at g3
      have g3' : (w.alloc (.cells zeroE ET)).cell? ⟨rb, 3, none⟩ = some (.int .i64 0) := g3
      have q1 : decide (T.length ≤ s.pos) = false := decide_eq_false (by omega)
      have hlt2 : (s.pos : Int) < T.length := by omega
      have hsp : s.pos ≤ 1000000 := by omega
      have z1 := hM.rdr.fr.2.1
      clear g3 hcells
      by_cases k2 : T[s.pos].kind = 2
      · have HRR := hide (Ex.rFactor_num (d := d) h0 hlt k2)
        rw [k2] at d0
        have d0' : (w.alloc (.cells zeroE ET)).cell? ⟨tb, off + s.pos * 4, none⟩ = some (.int .i64 2) := d0
        clear hM d0
        generalize T[s.pos].text = tx at *
        generalize T[s.pos].pos = tp at *
        generalize T[s.pos].n = tn at *
        go_enter Tryz.func84, Tryz.ntmps84
        go_wp2
        refine bodyPost_ret (v := treeV (.mk 1 tn [] []) (.slice none 0 0)) (by simp [results, Tryz.results84, go_sem, E.kind, E.n, E.name]) rfl ⟨_, _, _, rfl, unhide HRR, Forest.nil none 0, ?_, ?_, hlt, Nat.le_succ _⟩
        · exact (((unhide HR0).1.nextI (unhide H4).2.2).below (alloc_below _ _)).below (alloc_below _ _)
        · exact ((But.set (p := ⟨rb, 1, none⟩) (but_refl rb w) (.inr rfl) _).alloc _).alloc _
      · by_cases k1 : T[s.pos].kind = 1
        · have HRV := hide (fun c => Ex.rFactor_var (d := d) h0 hlt k1 c)
          have HRL := hide (fun xs s1 c h => Ex.rFactor_elem (d := d) (xs := xs) (s1 := s1) h0 hlt k1 c h)
          rw [k1] at d0
          have d0' : (w.alloc (.cells zeroE ET)).cell? ⟨tb, off + s.pos * 4, none⟩ = some (.int .i64 1) := d0
          clear hM d0
          generalize T[s.pos].text = tx at *
          generalize T[s.pos].pos = tp at *
          generalize T[s.pos].n = tn at *
          have hM3 : MidF T (.slice (some ⟨tb, off, none⟩) T.length cap) w S rb (((w.setCell ⟨rb, 1, none⟩ (.int .i64 ((s.pos : Int) + 1))).alloc (.cells zeroE ET)).alloc (.cells #[.int .i64 1, .string ⟨tx.toArray⟩, .int .i64 tp, .int .i64 tn] 80)) s.next := (MidF.start (w0 := w.setCell ⟨rb, 1, none⟩ (.int .i64 ((s.pos : Int) + 1))) ((unhide HR0).1.nextI (unhide H4).2.2) ((unhide HR0).2.but (But.set (p := ⟨rb, 1, none⟩) (but_refl rb w) (.inr rfl) _) (unhide HLR)) (But.set (p := ⟨rb, 1, none⟩) (but_refl rb w) (.inr rfl) _) (by simp [World.setCell])).alloc (unhide HLR) _
          have hx3 : (((w.setCell ⟨rb, 1, none⟩ (.int .i64 ((s.pos : Int) + 1))).alloc (.cells zeroE ET)).alloc (.cells #[.int .i64 1, .string ⟨tx.toArray⟩, .int .i64 tp, .int .i64 tn] 80)).cell? ⟨w.heap.size + 1, 1, none⟩ = some (.string ⟨tx.toArray⟩) := cell_alloc_one _ _ _ _ _ _ (by simp [World.setCell])
          have hz3 : w.heap.size + 1 < (((w.setCell ⟨rb, 1, none⟩ (.int .i64 ((s.pos : Int) + 1))).alloc (.cells zeroE ET)).alloc (.cells #[.int .i64 1, .string ⟨tx.toArray⟩, .int .i64 tp, .int .i64 tn] 80)).heap.size := by simp [World.setCell]
          have HT1 := hide (rdTook_any T (.slice (some ⟨tb, off, none⟩) T.length cap) (((w.setCell ⟨rb, 1, none⟩ (.int .i64 ((s.pos : Int) + 1))).alloc (.cells zeroE ET)).alloc (.cells #[.int .i64 1, .string ⟨tx.toArray⟩, .int .i64 tp, .int .i64 tn] 80)) (fun b => S b ∧ b ≠ w.heap.size) rb s.next [40] hM3.rdr hM3.tks hl (fun h => (unhide H4).2.2 h.1))
          have HM3 := hide (And.intro hM3 (And.intro hx3 hz3))
          clear hM3 hx3 hz3
          cases hc : Ex.isSign T s.next [40]
          · rw [hc] at HT1
            have HRR := hide (unhide HRV hc)
            clear hc HRV HRL
            go_enter Tryz.func84, Tryz.ntmps84
            go_wp2_with fail
            refine (unhide HT1).mono ?_
            rintro ev w4 ⟨rfl, hR4, hb4, hz4⟩
            have hM4 : MidF T (.slice (some ⟨tb, off, none⟩) T.length cap) w S rb w4 s.next := (unhide HM3).1.step (unhide HLR) hb4 hR4
            have HM4 := hide hM4
            have k4 := (hb4.cell (p := ⟨w.heap.size + 1, 1, none⟩) (unhide HM3).2.2 (by show w.heap.size + 1 ≠ rb; omega)).trans (unhide HM3).2.1
            obtain ⟨b0, b1, b2, b3, f0, f1, f2, f3, hg⟩ := hM4.box4
            clear hR4 hb4 hM4 HT1
            go_wp2
            refine bodyPost_ret (v := treeV (.mk 2 0 tx []) (.slice none 0 0)) (by simp [results, Tryz.results84, go_sem, b0, b1, b2, b3, E.kind, E.n, E.name]) rfl ⟨_, _, _, rfl, unhide HRR, ?_⟩
            obtain ⟨r1, r2, r3⟩ := (unhide HM4).done (x := .mk 2 0 tx []) (Forest.nil none 0) rfl
            exact ⟨r1, r2, r3, hlt, Nat.le_succ _⟩
          · have hlt1 : s.pos + 1 < T.length := by
              rcases Nat.lt_or_ge (s.pos + 1) T.length with h1 | h1
              · exact h1
              · rw [isSign_out (by show ¬ s.pos + 1 < T.length; omega)] at hc; cases hc
            rw [hc] at HT1
            have HRL2 := hide (fun xs s1 h => unhide HRL xs s1 hc h)
            clear hc HRV HRL
            go_enter Tryz.func84, Tryz.ntmps84
            go_wp2_with fail
            refine (unhide HT1).mono ?_
            rintro ev w4 ⟨rfl, hR4, hb4, hz4⟩
            have hM4 : MidF T (.slice (some ⟨tb, off, none⟩) T.length cap) w S rb w4 s.next.next := (unhide HM3).1.step (unhide HLR) hb4 hR4
            have HM4 := hide hM4
            have k4 := (hb4.cell (p := ⟨w.heap.size + 1, 1, none⟩) (unhide HM3).2.2 (by show w.heap.size + 1 ≠ rb; omega)).trans (unhide HM3).2.1
            have hq4 : w.heap.size + 1 < w4.heap.size := by have := (unhide HM3).2.2; omega
            have HFC : Hid (∀ m, Calls Tryz.prog 98 #[.pointer (some ⟨rb, 0, none⟩), .int .i64 d] (w4.drewN m) fun e w' => ∃ xs s' v, e = .returned v ∧ Ex.RSubs T d s.next.next (xs, s') ∧ Forest w' (fun b => w4.heap.size ≤ b) xs v ∧ Rdr w' (fun b => S b ∧ b ≠ w.heap.size) wExpr rb (.slice (some ⟨tb, off, none⟩) T.length cap) s' ∧ But rb w4 w' ∧ s'.pos ≤ T.length ∧ s.next.next.pos ≤ s'.pos) := hide (fun m => by
              have := (unhide HRE).2.2 (n - 1) (by omega) (w4.drewN m) (fun b => S b ∧ b ≠ w.heap.size) rb d s.next.next (hM4.rdr.drewN m) (hM4.tks.drewN m) (fun p h => ⟨by have := ((unhide H4).2.1 p h).1; have := hM4.but.size; show p < w4.heap.size; omega, ((unhide H4).2.1 p h).2⟩) (fun h => (unhide H4).2.2 h.1) (fun b hb => by
                have hb : w4.heap.size ≤ b := hb
                exact ⟨(unhide H4).1 b (by omega), by omega⟩) (by show s.pos + 1 + 1 ≤ T.length; omega) (by show T.length - (s.pos + 1 + 1) ≤ n - 1; omega) hd
              refine this.mono ?_
              rintro ev w' ⟨x, s', sl, h1, h2, h3, h4, h5, h6, h7⟩
              exact ⟨x, s', sl, h1, h2, h3, h4, ((but_refl rb w4).drewN m).trans h5, h6, h7⟩)
            clear hR4 hb4 hM4 HT1
            go_wp2_with fail
            go_region_with (go_at_call 98; refine (unhide HFC _).mono ?_; rintro ev w5 ⟨xs5, s5, sl5, rfl, hr5, hf5, hR5, hb5, hp5, hp6⟩; obtain ⟨la5, lc5, hsl⟩ := hf5.shape; generalize hln : xs5.length = ln5 at hsl; subst hsl; clear hln; have k5 := (hb5.cell (p := ⟨w.heap.size + 1, 1, none⟩) hq4 (by show w.heap.size + 1 ≠ rb; omega)).trans k4; have hM5 : MidF T (.slice (some ⟨tb, off, none⟩) T.length cap) w S rb w5 s5 := (unhide HM4).step (unhide HLR) hb5 hR5; obtain ⟨b0, b1, b2, b3, f0, f1, f2, f3, hg⟩ := hM5.box4; have HX := hide (And.intro hr5 (And.intro hf5 hM5)); clear hr5 hf5 hR5 hb5 hM5)
            all_goals (
              go_wp2
              refine bodyPost_ret (v := treeV (.mk 3 0 tx xs5) (.slice la5 ln5 lc5)) (by simp [results, Tryz.results84, go_sem, b0, b1, b2, b3, E.kind, E.n, E.name]) rfl ⟨.mk 3 0 tx xs5, s5, _, rfl, unhide HRL2 _ _ (unhide HX).1, ?_⟩
              obtain ⟨r1, r2, r3⟩ := (unhide HX).2.2.done (x := .mk 3 0 tx xs5) ((unhide HX).2.1.mono (fun b hs _ => by omega)) rfl
              exact ⟨r1, r2, r3, hp5, by have : s.next.next.pos = s.pos + 1 + 1 := rfl; omega⟩)
        · have HRG := hide (And.intro (fun (hd2 : 20 ≤ d) (c : Ex.isSign T s [45] = true ∨ Ex.isSign T s [40] = true) => Ex.rFactor_long (d := d) h0 hlt k1 k2 c hd2) (And.intro (fun x s1 c hd2 h => Ex.rFactor_neg (d := d) (x := x) (s1 := s1) h0 hlt k1 k2 c hd2 h) (And.intro (fun x s1 c c3 hd2 h => Ex.rFactor_round (d := d) (x := x) (s1 := s1) h0 hlt k1 k2 c c3 hd2 h) (fun c c3 => Ex.rFactor_none (d := d) h0 hlt k1 k2 c c3))))
          generalize T[s.pos].kind = tk at *
          generalize T[s.pos].text = tx at *
          generalize T[s.pos].pos = tp at *
          generalize T[s.pos].n = tn at *
          have e1 : ((tk : Int) == 1) = false := by rw [beq_eq_false_iff_ne]; omega
          have e2 : ((tk : Int) == 2) = false := by rw [beq_eq_false_iff_ne]; omega
          have hM2 : MidF T (.slice (some ⟨tb, off, none⟩) T.length cap) w S rb ((w.alloc (.cells zeroE ET)).alloc (.cells #[.int .i64 tk, .string ⟨tx.toArray⟩, .int .i64 tp, .int .i64 tn] 80)) s := hM.alloc (unhide HLR) _
          have HS1 := hide (rdSign_any T (.slice (some ⟨tb, off, none⟩) T.length cap) ((w.alloc (.cells zeroE ET)).alloc (.cells #[.int .i64 tk, .string ⟨tx.toArray⟩, .int .i64 tp, .int .i64 tn] 80)) (fun b => S b ∧ b ≠ w.heap.size) rb s [45] hM2.rdr hM2.tks hl)
          have HM2 := hide hM2
          clear hM2 hM k1 k2 h0
          cases hc1 : Ex.isSign T s [45]
          · rw [hc1] at HS1
            have HC1 := hide hc1
            clear hc1
            have HS2 := hide (fun m => rdSign_any T (.slice (some ⟨tb, off, none⟩) T.length cap) (((w.alloc (.cells zeroE ET)).alloc (.cells #[.int .i64 tk, .string ⟨tx.toArray⟩, .int .i64 tp, .int .i64 tn] 80)).drewN m) (fun b => S b ∧ b ≠ w.heap.size) rb s [40] ((unhide HM2).drewN (unhide HLR) m).rdr ((unhide HM2).drewN (unhide HLR) m).tks hl)
            cases hc2 : Ex.isSign T s [40]
            · rw [hc2] at HS2
              have HRR := hide ((unhide HRG).2.2.2 (unhide HC1) hc2)
              clear hc2 HRG
              go_enter Tryz.func84, Tryz.ntmps84
              go_wp2_with fail
              refine (unhide HS1).mono ?_
              rintro ev w3 ⟨rfl, n3, rfl⟩
              go_wp2_with fail
              refine (unhide HS2 n3).mono ?_
              rintro ev w3 ⟨rfl, n4, rfl⟩
              have hM3 : MidF T (.slice (some ⟨tb, off, none⟩) T.length cap) w S rb ((((w.alloc (.cells zeroE ET)).alloc (.cells #[.int .i64 tk, .string ⟨tx.toArray⟩, .int .i64 tp, .int .i64 tn] 80)).drewN n3).drewN n4) s := ((unhide HM2).drewN (unhide HLR) n3).drewN (unhide HLR) n4
              have HM3 := hide hM3
              have HFA := hide (rdFail_any (.slice (some ⟨tb, off, none⟩) T.length cap) ((((w.alloc (.cells zeroE ET)).alloc (.cells #[.int .i64 tk, .string ⟨tx.toArray⟩, .int .i64 tp, .int .i64 tn] 80)).drewN n3).drewN n4) (fun b => S b ∧ b ≠ w.heap.size) rb s s.pos 2 hM3.rdr (fun h => (unhide H4).2.2 h.1) (fun b hb => ⟨(unhide H4).1 b (by have := hM3.but.size; omega), by have := hM3.box4.lt; omega⟩) (by decide))
              clear hM3 HS1 HS2
              generalize (((w.alloc (.cells zeroE ET)).alloc (.cells #[.int .i64 tk, .string ⟨tx.toArray⟩, .int .i64 tp, .int .i64 tn] 80)).drewN n3).drewN n4 = W3 at *
              go_wp2_with fail
              refine (unhide HFA).mono ?_
              rintro ev w4 ⟨rfl, hR4, hb4⟩
              have hM4 : MidF T (.slice (some ⟨tb, off, none⟩) T.length cap) w S rb w4 (s.fail s.pos 2) := (unhide HM3).step (unhide HLR) hb4 hR4
              have HM4 := hide hM4
              obtain ⟨b0, b1, b2, b3, f0, f1, f2, f3, hg⟩ := hM4.box4
              clear hR4 hb4 hM4 HFA
              go_wp2
              refine bodyPost_ret (v := treeV E.none (.slice none 0 0)) (by simp [results, Tryz.results84, go_sem, b0, b1, b2, b3, E.none, E.kind, E.n, E.name]) rfl ⟨_, _, _, rfl, unhide HRR, ?_⟩
              obtain ⟨r1, r2, r3⟩ := (unhide HM4).done (x := E.none) (Forest.nil none 0) rfl
              exact ⟨r1, r2, r3, by rw [fail_pos]; exact hp, by rw [fail_pos]; exact Nat.le_refl _⟩
            · rw [hc2] at HS2
              have HC2 := hide hc2
              clear hc2
              go_enter Tryz.func84, Tryz.ntmps84
              go_wp2_with fail
              refine (unhide HS1).mono ?_
              rintro ev w3 ⟨rfl, n3, rfl⟩
              go_wp2_with fail
              refine (unhide HS2 n3).mono ?_
              rintro ev w3 ⟨rfl, n4, rfl⟩
              have hM3 : MidF T (.slice (some ⟨tb, off, none⟩) T.length cap) w S rb ((((w.alloc (.cells zeroE ET)).alloc (.cells #[.int .i64 tk, .string ⟨tx.toArray⟩, .int .i64 tp, .int .i64 tn] 80)).drewN n3).drewN n4) s := ((unhide HM2).drewN (unhide HLR) n3).drewN (unhide HLR) n4
              have HM3 := hide hM3
              clear HS1 HS2
              generalize (((w.alloc (.cells zeroE ET)).alloc (.cells #[.int .i64 tk, .string ⟨tx.toArray⟩, .int .i64 tp, .int .i64 tn] 80)).drewN n3).drewN n4 = W3 at *
              by_cases hd2 : 20 ≤ d
              · have q2 : decide (20 ≤ d) = true := decide_eq_true hd2
                have HFA := hide (rdFail_any (.slice (some ⟨tb, off, none⟩) T.length cap) W3 (fun b => S b ∧ b ≠ w.heap.size) rb s s.pos 4 hM3.rdr (fun h => (unhide H4).2.2 h.1) (fun b hb => ⟨(unhide H4).1 b (by have := hM3.but.size; omega), by have := hM3.box4.lt; omega⟩) (by decide))
                have HRR := hide ((unhide HRG).1 hd2 (.inr (unhide HC2)))
                clear hM3 HRG
                go_wp2_with fail
                refine (unhide HFA).mono ?_
                rintro ev w4 ⟨rfl, hR4, hb4⟩
                have hM4 : MidF T (.slice (some ⟨tb, off, none⟩) T.length cap) w S rb w4 (s.fail s.pos 4) := (unhide HM3).step (unhide HLR) hb4 hR4
                have HM4 := hide hM4
                obtain ⟨b0, b1, b2, b3, f0, f1, f2, f3, hg⟩ := hM4.box4
                clear hR4 hb4 hM4 HFA
                go_wp2
                refine bodyPost_ret (v := treeV E.none (.slice none 0 0)) (by simp [results, Tryz.results84, go_sem, b0, b1, b2, b3, E.none, E.kind, E.n, E.name]) rfl ⟨_, _, _, rfl, unhide HRR, ?_⟩
                obtain ⟨r1, r2, r3⟩ := (unhide HM4).done (x := E.none) (Forest.nil none 0) rfl
                exact ⟨r1, r2, r3, by rw [fail_pos]; exact hp, by rw [fail_pos]; exact Nat.le_refl _⟩
              · have q2 : decide (20 ≤ d) = false := decide_eq_false hd2
                have HT1 := hide (rdTook_any T (.slice (some ⟨tb, off, none⟩) T.length cap) W3 (fun b => S b ∧ b ≠ w.heap.size) rb s [45] hM3.rdr hM3.tks hl (fun h => (unhide H4).2.2 h.1))
                rw [unhide HC1] at HT1
                clear hM3
                go_wp2_with fail
                refine (unhide HT1).mono ?_
                rintro ev w4 ⟨rfl, hR4, hb4, hz4⟩
                have hM4 : MidF T (.slice (some ⟨tb, off, none⟩) T.length cap) w S rb w4 s := (unhide HM3).step (unhide HLR) hb4 hR4
                have y1 := hM4.rdr.pos
                have y2 := hM4.rdr.fr.2.1
                have hM5 : MidF T (.slice (some ⟨tb, off, none⟩) T.length cap) w S rb (w4.setCell ⟨rb, 1, none⟩ (.int .i64 ((s.pos : Int) + 1))) s.next := hM4.step (unhide HLR) (But.set (p := ⟨rb, 1, none⟩) (but_refl _ _) (.inr rfl) _) (hM4.rdr.nextI (fun h => (unhide H4).2.2 h.1))
                have HM5 := hide hM5
                have HFC : Hid (Calls Tryz.prog 36 #[.pointer (some ⟨rb, 0, none⟩), .int .i64 ((d : Int) + 1)] (w4.setCell ⟨rb, 1, none⟩ (.int .i64 ((s.pos : Int) + 1))) fun e w' => ∃ x s' sl, e = .returned (treeV x sl) ∧ Ex.RExpr T (d + 1) s.next (x, s') ∧ Forest w' (fun b => (w4.setCell ⟨rb, 1, none⟩ (.int .i64 ((s.pos : Int) + 1))).heap.size ≤ b) x.a sl ∧ Rdr w' (fun b => S b ∧ b ≠ w.heap.size) wExpr rb (.slice (some ⟨tb, off, none⟩) T.length cap) s' ∧ But rb (w4.setCell ⟨rb, 1, none⟩ (.int .i64 ((s.pos : Int) + 1))) w' ∧ s'.pos ≤ T.length ∧ s.next.pos ≤ s'.pos) := hide ((unhide HRE).1 (n - 1) (by omega) (w4.setCell ⟨rb, 1, none⟩ (.int .i64 ((s.pos : Int) + 1))) (fun b => S b ∧ b ≠ w.heap.size) rb (d + 1) s.next hM5.rdr hM5.tks (fun p h => ⟨by have := ((unhide H4).2.1 p h).1; have := hM5.but.size; omega, ((unhide H4).2.1 p h).2⟩) (fun h => (unhide H4).2.2 h.1) (fun b hb => ⟨(unhide H4).1 b (by have := hM5.but.size; omega), by have := hM5.box4.lt; omega⟩) (by show s.pos + 1 ≤ T.length; omega) (by show T.length - (s.pos + 1) ≤ n - 1; omega) (by omega))
                clear hR4 hb4 hM4 hM5 HT1
                go_wp2_with fail
                refine (unhide HFC).mono ?_
                rintro ev w7 ⟨x7, s7, sl7, rfl, hr7, hf7, hR7, hb7, hp7, hp8⟩
                obtain ⟨la7, lc7, hsl⟩ := hf7.shape
                generalize hln : x7.a.length = ln7 at hsl
                subst hsl
                clear hln
                have hM7 : MidF T (.slice (some ⟨tb, off, none⟩) T.length cap) w S rb w7 s7 := (unhide HM5).step (unhide HLR) hb7 hR7
                have hM8 : MidF T (.slice (some ⟨tb, off, none⟩) T.length cap) w S rb (w7.alloc (.cells #[.int .i64 x7.kind, .int .i64 x7.n, .string ⟨x7.name.toArray⟩, .slice la7 ln7 lc7] ET)) s7 := hM7.alloc (unhide HLR) _
                have hBx : Box (w7.alloc (.cells #[.int .i64 x7.kind, .int .i64 x7.n, .string ⟨x7.name.toArray⟩, .slice la7 ln7 lc7] ET)) w7.heap.size x7 (.slice la7 ln7 lc7) := box_new _ _ _ _
                have hfo : Forest (w7.alloc (.cells #[.int .i64 x7.kind, .int .i64 x7.n, .string ⟨x7.name.toArray⟩, .slice la7 ln7 lc7] ET)) (fun b => w.heap.size < b) x7.a (.slice la7 ln7 lc7) := (hf7.mono (fun b hs _ => by have := (unhide HM5).box4.lt; omega)).old (alloc_below _ _)
                have hq7 : rb < w7.heap.size := by have := hM7.but.size; omega
                have hq8 : w.heap.size < w7.heap.size := hM7.box4.lt
                have HT2 := hide (rdTook_any T (.slice (some ⟨tb, off, none⟩) T.length cap) _ (fun b => S b ∧ b ≠ w.heap.size) rb s7 [41] hM8.rdr hM8.tks hl (fun h => (unhide H4).2.2 h.1))
                have HM8 := hide (And.intro hM8 (And.intro hBx hfo))
                have HRX := hide ((unhide HRG).2.2.1 x7 s7 (unhide HC1) (unhide HC2) hd2 hr7)
                clear hr7 hf7 hR7 hb7 hM7 hM8 hBx hfo HFC HRG
                go_wp2_with fail
                generalize hq : w7.heap.size = q at *
                generalize w7.alloc (.cells #[.int .i64 x7.kind, .int .i64 x7.n, .string ⟨x7.name.toArray⟩, .slice la7 ln7 lc7] ET) = W8 at *
                clear hq
                have hfp : s.next.pos = s.pos + 1 := rfl
                cases hc3 : Ex.isSign T s7 [41]
                · rw [hc3] at HT2
                  have HRR : Hid (Ex.RFactor T d s (x7, s7.fail s7.pos 2)) := hide (by have := unhide HRX; rw [hc3] at this; simpa using this)
                  clear hc3
                  refine (unhide HT2).mono ?_
                  rintro ev w9 ⟨rfl, hR9, hb9, hz9⟩
                  have hM9 : MidF T (.slice (some ⟨tb, off, none⟩) T.length cap) w S rb w9 s7 := (unhide HM8).1.step (unhide HLR) hb9 hR9
                  have y3 := hM9.rdr.pos
                  have HFA := hide (rdFail_any (.slice (some ⟨tb, off, none⟩) T.length cap) w9 (fun b => S b ∧ b ≠ w.heap.size) rb s7 s7.pos 2 hM9.rdr (fun h => (unhide H4).2.2 h.1) (fun b hb => ⟨(unhide H4).1 b (by have := hM9.but.size; omega), by have := hM9.box4.lt; omega⟩) (by decide))
                  have HM9 := hide (And.intro hM9 (And.intro ((unhide HM8).2.1.but hb9 (by omega)) ((unhide HM8).2.2.but hb9 (fun b hs => by omega))))
                  clear hR9 hb9 hM9 HT2
                  go_wp2_with fail
                  refine (unhide HFA).mono ?_
                  rintro ev wA ⟨rfl, hRA, hbA⟩
                  have hMA : MidF T (.slice (some ⟨tb, off, none⟩) T.length cap) w S rb wA (s7.fail s7.pos 2) := (unhide HM9).1.step (unhide HLR) hbA hRA
                  have hBA := (unhide HM9).2.1.but hbA (by omega)
                  have HMA := hide (And.intro hMA ((unhide HM9).2.2.but hbA (fun b hs => by omega)))
                  obtain ⟨d0, d1, d2, d3, -, -, -, -, -⟩ := hBA
                  obtain ⟨b0, b1, b2, b3, f0, f1, f2, f3, hg⟩ := hMA.box4
                  clear hRA hbA hMA HFA
                  go_wp2
                  refine bodyPost_ret (v := treeV x7 (.slice la7 ln7 lc7)) (by simp [results, Tryz.results84, go_sem, b0, b1, b2, b3]) rfl ⟨x7, _, _, rfl, unhide HRR, ?_⟩
                  obtain ⟨r1, r2, r3⟩ := (unhide HMA).1.done (x := x7) (unhide HMA).2 rfl
                  exact ⟨r1, r2, r3, by rw [fail_pos]; exact hp7, by rw [fail_pos]; omega⟩
                · have hlt7 : s7.pos < T.length := by
                    rcases Nat.lt_or_ge s7.pos T.length with h1 | h1
                    · exact h1
                    · rw [isSign_out (by omega)] at hc3; cases hc3
                  rw [hc3] at HT2
                  have HRR : Hid (Ex.RFactor T d s (x7, s7.next)) := hide (by have := unhide HRX; rw [hc3] at this; simpa using this)
                  clear hc3
                  refine (unhide HT2).mono ?_
                  rintro ev w9 ⟨rfl, hR9, hb9, hz9⟩
                  have hM9 : MidF T (.slice (some ⟨tb, off, none⟩) T.length cap) w S rb w9 s7.next := (unhide HM8).1.step (unhide HLR) hb9 hR9
                  have hB9 := (unhide HM8).2.1.but hb9 (by omega)
                  have HM9 := hide (And.intro hM9 ((unhide HM8).2.2.but hb9 (fun b hs => by omega)))
                  obtain ⟨d0, d1, d2, d3, -, -, -, -, -⟩ := hB9
                  obtain ⟨b0, b1, b2, b3, f0, f1, f2, f3, hg⟩ := hM9.box4
                  clear hR9 hb9 hM9 HT2
                  go_wp2
                  refine bodyPost_ret (v := treeV x7 (.slice la7 ln7 lc7)) (by simp [results, Tryz.results84, go_sem, b0, b1, b2, b3]) rfl ⟨x7, _, _, rfl, unhide HRR, ?_⟩
                  obtain ⟨r1, r2, r3⟩ := (unhide HM9).1.done (x := x7) (unhide HM9).2 rfl
                  have hfp7 : s7.next.pos = s7.pos + 1 := rfl
                  exact ⟨r1, r2, r3, by omega, by omega⟩
          · rw [hc1] at HS1
            have HC1 := hide hc1
            clear hc1
            go_enter Tryz.func84, Tryz.ntmps84
            go_wp2_with fail
            refine (unhide HS1).mono ?_
            rintro ev w3 ⟨rfl, n3, rfl⟩
            have hM3 : MidF T (.slice (some ⟨tb, off, none⟩) T.length cap) w S rb (((w.alloc (.cells zeroE ET)).alloc (.cells #[.int .i64 tk, .string ⟨tx.toArray⟩, .int .i64 tp, .int .i64 tn] 80)).drewN n3) s := (unhide HM2).drewN (unhide HLR) n3
            have HM3 := hide hM3
            clear HS1
            generalize ((w.alloc (.cells zeroE ET)).alloc (.cells #[.int .i64 tk, .string ⟨tx.toArray⟩, .int .i64 tp, .int .i64 tn] 80)).drewN n3 = W3 at *
            by_cases hd2 : 20 ≤ d
            · have q2 : decide (20 ≤ d) = true := decide_eq_true hd2
              have HFA := hide (rdFail_any (.slice (some ⟨tb, off, none⟩) T.length cap) W3 (fun b => S b ∧ b ≠ w.heap.size) rb s s.pos 4 hM3.rdr (fun h => (unhide H4).2.2 h.1) (fun b hb => ⟨(unhide H4).1 b (by have := hM3.but.size; omega), by have := hM3.box4.lt; omega⟩) (by decide))
              have HRR := hide ((unhide HRG).1 hd2 (.inl (unhide HC1)))
              clear hM3 HRG
              go_wp2_with fail
              refine (unhide HFA).mono ?_
              rintro ev w4 ⟨rfl, hR4, hb4⟩
              have hM4 : MidF T (.slice (some ⟨tb, off, none⟩) T.length cap) w S rb w4 (s.fail s.pos 4) := (unhide HM3).step (unhide HLR) hb4 hR4
              have HM4 := hide hM4
              obtain ⟨b0, b1, b2, b3, f0, f1, f2, f3, hg⟩ := hM4.box4
              clear hR4 hb4 hM4 HFA
              go_wp2
              refine bodyPost_ret (v := treeV E.none (.slice none 0 0)) (by simp [results, Tryz.results84, go_sem, b0, b1, b2, b3, E.none, E.kind, E.n, E.name]) rfl ⟨_, _, _, rfl, unhide HRR, ?_⟩
              obtain ⟨r1, r2, r3⟩ := (unhide HM4).done (x := E.none) (Forest.nil none 0) rfl
              exact ⟨r1, r2, r3, by rw [fail_pos]; exact hp, by rw [fail_pos]; exact Nat.le_refl _⟩
            · have q2 : decide (20 ≤ d) = false := decide_eq_false hd2
              have HT1 := hide (rdTook_any T (.slice (some ⟨tb, off, none⟩) T.length cap) W3 (fun b => S b ∧ b ≠ w.heap.size) rb s [45] hM3.rdr hM3.tks hl (fun h => (unhide H4).2.2 h.1))
              rw [unhide HC1] at HT1
              clear hM3
              go_wp2_with fail
              refine (unhide HT1).mono ?_
              rintro ev w4 ⟨rfl, hR4, hb4, hz4⟩
              have hM4 : MidF T (.slice (some ⟨tb, off, none⟩) T.length cap) w S rb w4 s.next := (unhide HM3).step (unhide HLR) hb4 hR4
              have HM4 := hide hM4
              have HFC : Hid (Calls Tryz.prog 84 #[.pointer (some ⟨rb, 0, none⟩), .int .i64 ((d : Int) + 1)] w4 fun e w' => ∃ x s' sl, e = .returned (treeV x sl) ∧ Ex.RFactor T (d + 1) s.next (x, s') ∧ Forest w' (fun b => w4.heap.size ≤ b) x.a sl ∧ Rdr w' (fun b => S b ∧ b ≠ w.heap.size) wExpr rb (.slice (some ⟨tb, off, none⟩) T.length cap) s' ∧ But rb w4 w' ∧ s'.pos ≤ T.length ∧ s.next.pos ≤ s'.pos) := hide ((unhide HRE).2.1 (n - 1) (by omega) w4 (fun b => S b ∧ b ≠ w.heap.size) rb (d + 1) s.next hM4.rdr hM4.tks (fun p h => ⟨by have := ((unhide H4).2.1 p h).1; have := hM4.but.size; omega, ((unhide H4).2.1 p h).2⟩) (fun h => (unhide H4).2.2 h.1) (fun b hb => ⟨(unhide H4).1 b (by have := hM4.but.size; omega), by have := hM4.box4.lt; omega⟩) (by show s.pos + 1 ≤ T.length; omega) (by show T.length - (s.pos + 1) ≤ n - 1; omega) (by omega))
              clear hR4 hb4 hM4 HT1
              go_wp2_with fail
              refine (unhide HFC).mono ?_
              rintro ev w7 ⟨x7, s7, sl7, rfl, hr7, hf7, hR7, hb7, hp7, hp8⟩
              obtain ⟨la7, lc7, hsl⟩ := hf7.shape
              generalize hln : x7.a.length = ln7 at hsl
              subst hsl
              clear hln
              have hM7 : MidF T (.slice (some ⟨tb, off, none⟩) T.length cap) w S rb w7 s7 := (unhide HM4).step (unhide HLR) hb7 hR7
              obtain ⟨b0, b1, b2, b3, f0, f1, f2, f3, hg⟩ := hM7.box4
              have HRR := hide ((unhide HRG).2.1 x7 s7 (unhide HC1) hd2 hr7)
              have HM7 := hide (And.intro hM7 (hf7.mono (S' := fun b => w.heap.size < b) (fun b hs _ => by have := (unhide HM4).box4.lt; omega)))
              have hfp : s.next.pos = s.pos + 1 := rfl
              clear hr7 hf7 hR7 hb7 hM7 HFC HRG
              go_wp2
              refine bodyPost_ret (v := treeV (.mk 4 0 [] [x7]) (.slice (some ⟨w7.heap.size, 0, none⟩) 1 1)) (by
                have hBX := (box_set (y := .mk 4 0 [] [x7]) (unhide HM7).1.box4 (.slice (some ⟨w7.heap.size, 0, none⟩) 1 1)).keep ((alloc_below _ (.cells #[.int .i64 x7.kind, .int .i64 x7.n, .string ⟨x7.name.toArray⟩, .slice la7 ln7 lc7] ET)).block _ (by rw [size_set4]; exact hg)) (alloc_below _ _).size
                have m0 := hBX.c0
                have m1 := hBX.c1
                have m2 := hBX.c2
                have m3 := hBX.c3
                simp only [E.kind, E.n, E.name] at m0 m1 m2 m3
                clear hBX
                generalize World.alloc _ _ = WW at *
                simp [results, Tryz.results84, go_sem, m0, m1, m2, m3, E.kind, E.n, E.name]) rfl ⟨.mk 4 0 [] [x7], _, _, rfl, unhide HRR, ?_⟩
              obtain ⟨r1, r2, r3⟩ := (unhide HM7).1.done1 (unhide HM7).2 4 rfl
              exact ⟨r1, r2, r3, hp7, by omega⟩
    · obtain ⟨ta, tc, rfl⟩ := hM.tks.shape
      have q1 : decide (T.length ≤ s.pos) = true := decide_eq_true (by omega)
      rw [h0] at g3
      have g3' : (w.alloc (.cells zeroE ET)).cell? ⟨rb, 3, none⟩ = some (.int .i64 0) := g3
      clear g3
      have HFA := hide (rdFail_any (.slice ta T.length tc) (w.alloc (.cells zeroE ET)) (fun b => S b ∧ b ≠ w.heap.size) rb s s.pos 2 hM.rdr (fun h => (unhide H4).2.2 h.1) (fun b hb => ⟨(unhide H4).1 b (by have := unhide HSZ; omega), by have := unhide HSZ; omega⟩) (by decide))
      have HRR := hide (Ex.rFactor_out (l := T) (d := d) h0 (by omega))
      clear hM
      go_enter Tryz.func84, Tryz.ntmps84
      go_wp2_with fail
      refine (unhide HFA).mono ?_
      rintro ev w4 ⟨rfl, hR4, hb4⟩
      have hM4 : MidF T (.slice ta T.length tc) w S rb w4 (s.fail s.pos 2) := (unhide HM).step (unhide HLR) hb4 hR4
      have HM4 := hide hM4
      obtain ⟨b0, b1, b2, b3, f0, f1, f2, f3, hg⟩ := hM4.box4
      clear hR4 hb4 hM4 HFA
      go_wp2
      refine bodyPost_ret (v := treeV E.none (.slice none 0 0)) (by simp [results, Tryz.results84, go_sem, b0, b1, b2, b3, E.none, E.kind, E.n, E.name]) rfl ⟨_, _, _, rfl, unhide HRR, ?_⟩
      obtain ⟨r1, r2, r3⟩ := (unhide HM4).done (x := E.none) (Forest.nil none 0) rfl
      exact ⟨r1, r2, r3, by rw [fail_pos]; exact hp, by rw [fail_pos]; exact Nat.le_refl _⟩
  · have k1 : ((s.err : Int) != 0) = true := by rw [bne_iff_ne]; omega
    have k2 : ¬ (s.err : Int) = 0 := by omega
    have HFA := hide (rdFail_any L (w.alloc (.cells zeroE ET)) (fun b => S b ∧ b ≠ w.heap.size) rb s s.pos 2 hM.rdr (fun h => (unhide H4).2.2 h.1) (fun b hb => ⟨(unhide H4).1 b (by have := unhide HSZ; omega), by have := unhide HSZ; omega⟩) (by decide))
    have HRR : Hid (Ex.RFactor T d s (E.none, s.fail s.pos 2)) := hide (by have := Ex.rFactor_bad (l := T) (d := d) h0; unfold St.fail; rw [if_neg h0]; exact this)
    clear hM h0
    go_enter Tryz.func84, Tryz.ntmps84
    go_wp2_with fail
    refine (unhide HFA).mono ?_
    rintro ev w4 ⟨rfl, hR4, hb4⟩
    have hM4 : MidF T L w S rb w4 (s.fail s.pos 2) := (unhide HM).step (unhide HLR) hb4 hR4
    have HM4 := hide hM4
    obtain ⟨b0, b1, b2, b3, f0, f1, f2, f3, hg⟩ := hM4.box4
    clear hR4 hb4 hM4 HFA
    go_wp2
    refine bodyPost_ret (v := treeV E.none (.slice none 0 0)) (by simp [results, Tryz.results84, go_sem, b0, b1, b2, b3, E.none, E.kind, E.n, E.name]) rfl ⟨_, _, _, rfl, unhide HRR, ?_⟩
    obtain ⟨r1, r2, r3⟩ := (unhide HM4).done (x := E.none) (Forest.nil none 0) rfl
    exact ⟨r1, r2, r3, by rw [fail_pos]; exact hp, by rw [fail_pos]; exact Nat.le_refl _⟩
theorem rdAll (T : List Words.T) (L : Value) (hl : T.length ≤ 1000000) : ∀ n, Reads T L 84 Ex.RFactor n ∧ Reads T L 36 Ex.RExpr n ∧ ReadsL T L 98 n := by
  intro n
  induction n using Nat.strongRecOn with
  | ind n ih =>
    have h1 := rdFactor_of T L hl n (fun m hm => (ih m hm).2.1) (fun m hm => (ih m hm).1) (fun m hm => (ih m hm).2.2)
    have h2 := rdExpr_of T L hl n (rdTerm_of T L hl n h1)
    exact ⟨h1, h2, rdSubs_of T L hl n h2⟩
end Go.Proofs.YtbpmfkikhackfaaGreatDoor.Line
