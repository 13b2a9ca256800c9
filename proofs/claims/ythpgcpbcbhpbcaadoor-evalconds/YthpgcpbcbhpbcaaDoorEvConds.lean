/- EvalConds, walked. -/
import Derived.Test.YthpgcpbcbhpbcaaDoorEvKnown
import Derived.Test.YthpgcpbcbhpbcaaDoorEvStore
import Derived.Test.YthpgcpbcbhpbcaaDoorEvAdd
namespace Go.Proofs.YthpgcpbcbhpbcaaDoor.Line
open Go.ChangeShapes Go.WideShapes Go.ChangeAt Go.RowKit
open Ex (E)
open Ev (Sy Res)
set_option linter.unusedVariables false

def numE (a : Int) : E := .mk 1 a [] []
def badA (a : Int) : E := .mk 8 0 [] [numE a, numE 0]
/-- a comparison's nine cells -/
structure CdAt (w : World) (cb : Nat) (op : List UInt8) (x : E) (sx : Value) (y : E) (sy : Value) : Prop where
  c0 : w.cell? ⟨cb, 0, none⟩ = some (.string ⟨op.toArray⟩)
  c1 : w.cell? ⟨cb, 1, none⟩ = some (.int .i64 x.kind)
  c2 : w.cell? ⟨cb, 2, none⟩ = some (.int .i64 x.n)
  c3 : w.cell? ⟨cb, 3, none⟩ = some (.string ⟨x.name.toArray⟩)
  c4 : w.cell? ⟨cb, 4, none⟩ = some sx
  c5 : w.cell? ⟨cb, 5, none⟩ = some (.int .i64 y.kind)
  c6 : w.cell? ⟨cb, 6, none⟩ = some (.int .i64 y.n)
  c7 : w.cell? ⟨cb, 7, none⟩ = some (.string ⟨y.name.toArray⟩)
  c8 : w.cell? ⟨cb, 8, none⟩ = some sy
theorem CdAt.below {w w' : World} {cb : Nat} {op : List UInt8} {x y : E} {sx sy : Value} (h : CdAt w cb op x sx y sy) (hb : Below w.heap.size w w') : CdAt w' cb op x sx y sy := by
  have hk : ∀ o, w'.cell? ⟨cb, o, none⟩ = w.cell? ⟨cb, o, none⟩ := fun o => hb.cell (p := ⟨cb, o, none⟩) (cell_lt h.c0)
  exact ⟨(hk _).trans h.c0, (hk _).trans h.c1, (hk _).trans h.c2, (hk _).trans h.c3, (hk _).trans h.c4, (hk _).trans h.c5, (hk _).trans h.c6, (hk _).trans h.c7, (hk _).trans h.c8⟩
abbrev setA (w : World) (b : Nat) (x : E) (sx : Value) : World := (((w.setCell ⟨b, 1, none⟩ (.int .i64 x.kind)).setCell ⟨b, 2, none⟩ (.int .i64 x.n)).setCell ⟨b, 3, none⟩ (.string ⟨x.name.toArray⟩)).setCell ⟨b, 4, none⟩ sx
abbrev setB (w : World) (b : Nat) (x : E) (sx : Value) : World := (((w.setCell ⟨b, 5, none⟩ (.int .i64 x.kind)).setCell ⟨b, 6, none⟩ (.int .i64 x.n)).setCell ⟨b, 7, none⟩ (.string ⟨x.name.toArray⟩)).setCell ⟨b, 8, none⟩ sx
theorem setA_alloc (w : World) (o : Obj) (b : Nat) (x : E) (sx : Value) (h : b < w.heap.size) : setA (w.alloc o) b x sx = (setA w b x sx).alloc o := by
  unfold setA
  rw [World.setCell_alloc_past _ _ _ _ h, World.setCell_alloc_past _ _ _ _ (by simpa [World.setCell] using h), World.setCell_alloc_past _ _ _ _ (by simpa [World.setCell] using h), World.setCell_alloc_past _ _ _ _ (by simpa [World.setCell] using h)]
theorem setB_alloc (w : World) (o : Obj) (b : Nat) (x : E) (sx : Value) (h : b < w.heap.size) : setB (w.alloc o) b x sx = (setB w b x sx).alloc o := by
  unfold setB
  rw [World.setCell_alloc_past _ _ _ _ h, World.setCell_alloc_past _ _ _ _ (by simpa [World.setCell] using h), World.setCell_alloc_past _ _ _ _ (by simpa [World.setCell] using h), World.setCell_alloc_past _ _ _ _ (by simpa [World.setCell] using h)]
theorem CdAt.setA {w : World} {cb : Nat} {op : List UInt8} {x y : E} {sx sy : Value} (h : CdAt w cb op x sx y sy) (x2 : E) (sx2 : Value) : CdAt (setA w cb x2 sx2) cb op x2 sx2 y sy := by
  obtain ⟨c0, c1, c2, c3, c4, c5, c6, c7, c8⟩ := h
  exact ⟨by simp [go_sem, c0], by simp [go_sem, c1], by simp [go_sem, c2], by simp [go_sem, c3], by simp [go_sem, c4], by simp [go_sem, c5], by simp [go_sem, c6], by simp [go_sem, c7], by simp [go_sem, c8]⟩
theorem CdAt.setB {w : World} {cb : Nat} {op : List UInt8} {x y : E} {sx sy : Value} (h : CdAt w cb op x sx y sy) (y2 : E) (sy2 : Value) : CdAt (setB w cb y2 sy2) cb op x sx y2 sy2 := by
  obtain ⟨c0, c1, c2, c3, c4, c5, c6, c7, c8⟩ := h
  exact ⟨by simp [go_sem, c0], by simp [go_sem, c1], by simp [go_sem, c2], by simp [go_sem, c3], by simp [go_sem, c4], by simp [go_sem, c5], by simp [go_sem, c6], by simp [go_sem, c7], by simp [go_sem, c8]⟩
theorem setA_other (w : World) (b : Nat) (x : E) (sx : Value) {q : Nat} (h : q ≠ b) : (setA w b x sx).heap[q]? = w.heap[q]? := heap_set4 _ _ _ _ _ _ _ _ _ _ h h h h
theorem setB_other (w : World) (b : Nat) (x : E) (sx : Value) {q : Nat} (h : q ≠ b) : (setB w b x sx).heap[q]? = w.heap[q]? := heap_set4 _ _ _ _ _ _ _ _ _ _ h h h h
/-- the table's box, the comparison -/
structure KM (w W2 W : World) (tb cb : Nat) (sv : Value) (k : Nat) (x y : E) (sx sy : Value) : Prop where
  t0 : W2.cell? ⟨tb, 0, none⟩ = some sv
  t1 : W2.cell? ⟨tb, 1, none⟩ = some (.int .i64 13)
  sy2 : Syms W2 sv (Ev.tabN 2)
  old : Below w.heap.size w W2
  old2 : Below W2.heap.size W2 W
  cbe : W2.heap.size ≤ cb
  cd : CdAt W cb (opT k) x sx y sy
  fr : ∀ o, W.frozen? ⟨cb, o, none⟩ = false
  fx : Forest W (fun b => b ≠ cb) x.a sx
  fy : Forest W (fun b => b ≠ cb) y.a sy
theorem KM.below {w W2 W W' : World} {tb cb : Nat} {sv : Value} {k : Nat} {x y : E} {sx sy : Value} (h : KM w W2 W tb cb sv k x y sx sy) (hb : Below W.heap.size W W') : KM w W2 W' tb cb sv k x y sx sy :=
  ⟨h.t0, h.t1, h.sy2, h.old, bthen h.old2 hb, h.cbe, h.cd.below hb, fun o => (hb.frozen (p := ⟨cb, o, none⟩) (cell_lt h.cd.c0)).trans (h.fr o), h.fx.old hb, h.fy.old hb⟩
theorem below_setA {B : Nat} {w W : World} (h : Below B w W) {b : Nat} (hb : B ≤ b) (x : E) (sx : Value) : Below B w (setA W b x sx) :=
  (((h.setCell (p := ⟨b, 1, none⟩) hb _).setCell (p := ⟨b, 2, none⟩) hb _).setCell (p := ⟨b, 3, none⟩) hb _).setCell (p := ⟨b, 4, none⟩) hb _
theorem below_setB {B : Nat} {w W : World} (h : Below B w W) {b : Nat} (hb : B ≤ b) (x : E) (sx : Value) : Below B w (setB W b x sx) :=
  (((h.setCell (p := ⟨b, 5, none⟩) hb _).setCell (p := ⟨b, 6, none⟩) hb _).setCell (p := ⟨b, 7, none⟩) hb _).setCell (p := ⟨b, 8, none⟩) hb _
theorem KM.setA {w W2 W : World} {tb cb : Nat} {sv : Value} {k : Nat} {x y : E} {sx sy : Value} (h : KM w W2 W tb cb sv k x y sx sy) (x2 : E) (sx2 : Value) (hf : Forest W (fun b => b ≠ cb) x2.a sx2) : KM w W2 (Line.setA W cb x2 sx2) tb cb sv k x2 y sx2 sy :=
  ⟨h.t0, h.t1, h.sy2, h.old, below_setA h.old2 h.cbe _ _, h.cbe, h.cd.setA x2 sx2, fun o => by simp [h.fr o], hf.keep (fun b hb _ => setA_other _ _ _ _ hb) (fun _ h _ => h), h.fy.keep (fun b hb _ => setA_other _ _ _ _ hb) (fun _ h _ => h)⟩
theorem KM.setB {w W2 W : World} {tb cb : Nat} {sv : Value} {k : Nat} {x y : E} {sx sy : Value} (h : KM w W2 W tb cb sv k x y sx sy) (y2 : E) (sy2 : Value) (hf : Forest W (fun b => b ≠ cb) y2.a sy2) : KM w W2 (Line.setB W cb y2 sy2) tb cb sv k x y2 sx sy2 :=
  ⟨h.t0, h.t1, h.sy2, h.old, below_setB h.old2 h.cbe _ _, h.cbe, h.cd.setB y2 sy2, fun o => by simp [h.fr o], h.fx.keep (fun b hb _ => setB_other _ _ _ _ hb) (fun _ h _ => h), hf.keep (fun b hb _ => setB_other _ _ _ _ hb) (fun _ h _ => h)⟩
theorem KM.tc {w W2 W : World} {tb cb : Nat} {sv : Value} {k : Nat} {x y : E} {sx sy : Value} (h : KM w W2 W tb cb sv k x y sx sy) : W.cell? ⟨tb, 0, none⟩ = some sv ∧ W.cell? ⟨tb, 1, none⟩ = some (.int .i64 13) := ⟨(h.old2.cell (p := ⟨tb, 0, none⟩) (cell_lt h.t0)).trans h.t0, (h.old2.cell (p := ⟨tb, 1, none⟩) (cell_lt h.t1)).trans h.t1⟩
/-- To, store, Holds in a row, whichever of the first two goes first -/
theorem KM.holds {w W2 W : World} {tb cb : Nat} {sv : Value} {k : Nat} {x y : E} {sx sy : Value} (h : KM w W2 W tb cb sv k x y sx sy) (hk : k < 6) (hn : Ev.sz x + Ev.sz y ≤ 45000) (sv2 : Value) (q : Nat) (hs : Syms W sv2 (Ev.tabN 2)) (hi : Ints W (.slice (some ⟨q, 0, none⟩) 13 13) (stoP 13 [])) :
    Calls Tryd.prog 20 #[.agg #[sv2, .int .i64 13], .slice (some ⟨q, 0, none⟩) 13 13, condV (opT k) x sx y sy] W fun e w' => ∃ f, e = .returned (.tuple #[.bool (holdsP (Ev.tabN 2) (stoP 13 []) k x y).1, f]) ∧ Says 0 w' f (holdsP (Ev.tabN 2) (stoP 13 []) k x y).2.word (holdsP (Ev.tabN 2) (stoP 13 []) k x y).2.at_ (holdsP (Ev.tabN 2) (stoP 13 []) k x y).2.err ∧ Below W.heap.size W w' := by
  refine (holds_any W sv2 13 (Ev.tabN 2) _ (stoP 13 []) k hk x y sx sy hs (Ev.tabN_fine 2 (by omega) (by omega)) hi (by rw [stoP_len]; omega) (h.fx.mono (fun _ _ _ => trivial)) (h.fy.mono (fun _ _ _ => trivial)) (by omega)).mono ?_
  rintro e w' ⟨f, h1, h2, h3⟩
  exact ⟨f, h1, says_mono h2 (Nat.zero_le _), h3⟩
theorem cd_none (k : Nat) (a b : Int) : holdsP (Ev.tabN 2) (stoP 13 []) k (numE a) (numE b) = (cmpK k a b, .ok 0) := rfl
theorem cd_badA (k : Nat) (a : Int) (y : E) : holdsP (Ev.tabN 2) (stoP 13 []) k (badA a) y = (false, .bad Ev.wDiv 0 13) := rfl
theorem cd_badB (k : Nat) (a : Int) : holdsP (Ev.tabN 2) (stoP 13 []) k (numE a) (Ev.aE 9) = (false, .bad Ev.wSub 0 14) := rfl
set_option maxHeartbeats 8000000 in
set_option maxRecDepth 100000 in
theorem evalConds_walk (a b : Int) (op bad : Nat) (w : World) (a1 : -9223372036854775808 ≤ a) (a2 : a ≤ 9223372036854775807) (b1 : -9223372036854775808 ≤ b) (b2 : b ≤ 9223372036854775807) (ho : op ≤ 255) (hbd : bad ≤ 255) (hG : Glob w) :
    Calls Tryd.prog 4 #[.int .i64 a, .int .i64 b, .int .u8 op, .int .u8 bad] w fun e w' => e = .returned (.bool true) ∧ Below w.heap.size w w' := by
  have HK := hide (known9_any w hG)
  have HG := hide hG
  obtain ⟨k, hk⟩ : ∃ k : Nat, (op : Int) % 6 = k := Int.eq_ofNat_of_zero_le (by omega)
  have hk6 : k < 6 := by omega
  have hk6' : (k : Int) < 6 := by omega
  clear hG
  go_enter Tryd.func4, Tryd.ntmps4
  go_wp2_with (go_at_call 7; refine (unhide HK).mono ?_; rintro ev w0 ⟨rfl, hb0⟩; have HB0 := hide hb0; clear hb0)
  refine (table_any 2 w0 (by omega) (by omega)).mono ?_
  rintro ev w1 ⟨sv1, rfl, hs1, hb1⟩
  obtain ⟨sa, sc, rfl⟩ : ∃ a c, sv1 = .slice a 7 c := hs1.shape
  have c1 := alloc_below w1 (.cells #[.slice sa 7 sc, .int .i64 13] RTb)
  have z1 : (w1.alloc (.cells #[.slice sa 7 sc, .int .i64 13] RTb)).heap.size = w1.heap.size + 1 := by simp
  have c2 := alloc_below (w1.alloc (.cells #[.slice sa 7 sc, .int .i64 13] RTb)) (.cells #[.string ⟨#[60]⟩, .string ⟨#[60, 61]⟩, .string ⟨#[62]⟩, .string ⟨#[62, 61]⟩, .string ⟨#[61, 61]⟩, .string ⟨#[47, 61]⟩] 9)
  have hst : ((w1.alloc (.cells #[.slice sa 7 sc, .int .i64 13] RTb)).alloc (.cells #[.string ⟨#[60]⟩, .string ⟨#[60, 61]⟩, .string ⟨#[62]⟩, .string ⟨#[62, 61]⟩, .string ⟨#[61, 61]⟩, .string ⟨#[47, 61]⟩] 9)).cell? ⟨w1.heap.size + 1, k, none⟩ = some (.string ⟨(opT k).toArray⟩) := by
    have : k = 0 ∨ k = 1 ∨ k = 2 ∨ k = 3 ∨ k = 4 ∨ k = 5 := by omega
    rcases this with rfl | rfl | rfl | rfl | rfl | rfl <;> simp [opT, go_sem]
  have k0 : ((w1.alloc (.cells #[.slice sa 7 sc, .int .i64 13] RTb)).alloc (.cells #[.string ⟨#[60]⟩, .string ⟨#[60, 61]⟩, .string ⟨#[62]⟩, .string ⟨#[62, 61]⟩, .string ⟨#[61, 61]⟩, .string ⟨#[47, 61]⟩] 9)).cell? ⟨w1.heap.size, 0, none⟩ = some (.slice sa 7 sc) := by simp [go_sem]
  have k1 : ((w1.alloc (.cells #[.slice sa 7 sc, .int .i64 13] RTb)).alloc (.cells #[.string ⟨#[60]⟩, .string ⟨#[60, 61]⟩, .string ⟨#[62]⟩, .string ⟨#[62, 61]⟩, .string ⟨#[61, 61]⟩, .string ⟨#[47, 61]⟩] 9)).cell? ⟨w1.heap.size, 1, none⟩ = some (.int .i64 13) := by simp [go_sem]
  have HS2 := hide (And.intro (hs1.below (bthen c1 c2)) (bthen (bthen (unhide HB0) hb1) (bthen c1 c2)))
  clear hs1 hb1 c1 c2 z1 HK HB0
  go_upto_region 5 with fail
  generalize ((w1.alloc (.cells #[.slice sa 7 sc, .int .i64 13] RTb)).alloc (.cells #[.string ⟨#[60]⟩, .string ⟨#[60, 61]⟩, .string ⟨#[62]⟩, .string ⟨#[62, 61]⟩, .string ⟨#[61, 61]⟩, .string ⟨#[47, 61]⟩] 9)) = W2 at *
  generalize w1.heap.size + 1 = lb at *
  generalize w1.heap.size = tb at *
  -- FROM HERE
  have cc := alloc_below W2 (.cells #[.string ⟨(opT k).toArray⟩, .int .i64 1, .int .i64 a, .string ⟨#[]⟩, .slice none 0 0, .int .i64 1, .int .i64 b, .string ⟨#[]⟩, .slice none 0 0] CndT)
  have HM0 : Hid (KM w W2 (W2.alloc (.cells #[.string ⟨(opT k).toArray⟩, .int .i64 1, .int .i64 a, .string ⟨#[]⟩, .slice none 0 0, .int .i64 1, .int .i64 b, .string ⟨#[]⟩, .slice none 0 0] CndT)) tb W2.heap.size (.slice sa 7 sc) k (numE a) (numE b) (.slice none 0 0) (.slice none 0 0)) := hide ⟨k0, k1, (unhide HS2).1, (unhide HS2).2, cc, Nat.le_refl _, ⟨by simp [go_sem], by simp [go_sem, numE, E.kind], by simp [go_sem, numE, E.n], by simp [go_sem, numE, E.name], by simp [go_sem], by simp [go_sem, numE, E.kind], by simp [go_sem, numE, E.n], by simp [go_sem, numE, E.name], by simp [go_sem]⟩, fun o => World.frozen?_alloc_at _ _ _ _ rfl, .nil _ _, .nil _ _⟩
  clear cc k0 k1 HS2
  go_upto_region 6 with fail
  generalize (W2.alloc (.cells #[.string ⟨(opT k).toArray⟩, .int .i64 1, .int .i64 a, .string ⟨#[]⟩, .slice none 0 0, .int .i64 1, .int .i64 b, .string ⟨#[]⟩, .slice none 0 0] CndT)) = W3 at *
  generalize W2.heap.size = cb at *
  clear hst
  have hcbl : cb < W3.heap.size := cell_lt (unhide HM0).cd.c0
  by_cases g1 : (bad : Int) % 2 = 1
  · have h1 : ((bad : Int) % 2 == 1) = true := by rw [beq_iff_eq]; exact g1
    by_cases g2 : (bad : Int) / 2 % 2 = 1
    · have h2 : ((bad : Int) / 2 % 2 == 1) = true := by rw [beq_iff_eq]; exact g2
      clear g1 g2
      have al := alloc_below W3 (.cells #[.int .i64 1, .int .i64 a, .string ⟨#[]⟩, .slice none 0 0, .int .i64 1, .int .i64 0, .string ⟨#[]⟩, .slice none 0 0] PET)
      have f2 : Forest (W3.alloc (.cells #[.int .i64 1, .int .i64 a, .string ⟨#[]⟩, .slice none 0 0, .int .i64 1, .int .i64 0, .string ⟨#[]⟩, .slice none 0 0] PET)) (fun b => b ≠ cb) (badA a).a (.slice (some ⟨W3.heap.size, 0, none⟩) 2 2) := forest_two (x := numE a) (y := numE 0) (t := PET) (.nil _ _) (.nil _ _) (by show W3.heap.size ≠ cb; omega)
      have hMA := ((unhide HM0).below al).setA (badA a) (.slice (some ⟨W3.heap.size, 0, none⟩) 2 2) f2
      rw [setA_alloc _ _ _ _ _ hcbl] at hMA
      have HMA := hide hMA
      clear hMA
      clear al f2
      obtain ⟨m0, m1, m2, m3, m4, m5, m6, m7, m8⟩ := (unhide HM0).cd
      simp only [numE, E.kind, E.n, E.name] at m1 m2 m3 m5 m6 m7
      have fr1 := (unhide HM0).fr 1
      have fr2 := (unhide HM0).fr 2
      have fr3 := (unhide HM0).fr 3
      have fr4 := (unhide HM0).fr 4
      go_upto_region 8 with fail
      clear m0 m1 m2 m3 m4 m5 m6 m7 m8 fr1 fr2 fr3 fr4
      have HM' : Hid (KM w W2 (((((W3.setCell ⟨cb, 1, none⟩ (.int .i64 8)).setCell ⟨cb, 2, none⟩ (.int .i64 0)).setCell ⟨cb, 3, none⟩ (.string ⟨#[]⟩)).setCell ⟨cb, 4, none⟩ (.slice (some ⟨W3.heap.size, 0, none⟩) 2 2)).alloc (.cells #[.int .i64 1, .int .i64 a, .string ⟨#[]⟩, .slice none 0 0, .int .i64 1, .int .i64 0, .string ⟨#[]⟩, .slice none 0 0] PET)) tb cb (.slice sa 7 sc) k (badA a) (numE b) (.slice (some ⟨W3.heap.size, 0, none⟩) 2 2) (.slice none 0 0)) := HMA
      clear HMA
      generalize (((((W3.setCell ⟨cb, 1, none⟩ (.int .i64 8)).setCell ⟨cb, 2, none⟩ (.int .i64 0)).setCell ⟨cb, 3, none⟩ (.string ⟨#[]⟩)).setCell ⟨cb, 4, none⟩ (.slice (some ⟨W3.heap.size, 0, none⟩) 2 2)).alloc (.cells #[.int .i64 1, .int .i64 a, .string ⟨#[]⟩, .slice none 0 0, .int .i64 1, .int .i64 0, .string ⟨#[]⟩, .slice none 0 0] PET)) = W4 at *
      have HM4 := HM'
      clear HM0 HM'
      have hcb4 : cb < W4.heap.size := cell_lt (unhide HM4).cd.c0
      have al := alloc_below W4 (.cells #[.int .i64 1, .int .i64 9, .string ⟨#[]⟩, .slice none 0 0] PET)
      have f1 : Forest (W4.alloc (.cells #[.int .i64 1, .int .i64 9, .string ⟨#[]⟩, .slice none 0 0] PET)) (fun b => b ≠ cb) (Ev.aE 9).a (.slice (some ⟨W4.heap.size, 0, none⟩) 1 1) := forest_one (x := numE 9) (t := PET) (.nil _ _) (by show W4.heap.size ≠ cb; omega)
      have hMA := ((unhide HM4).below al).setB (Ev.aE 9) (.slice (some ⟨W4.heap.size, 0, none⟩) 1 1) f1
      rw [setB_alloc _ _ _ _ _ hcb4] at hMA
      have HMA := hide hMA
      clear hMA
      clear al f1
      obtain ⟨m0, m1, m2, m3, m4, m5, m6, m7, m8⟩ := (unhide HM4).cd
      simp only [numE, badA, E.kind, E.n, E.name] at m1 m2 m3 m5 m6 m7
      have fr5 := (unhide HM4).fr 5
      have fr6 := (unhide HM4).fr 6
      have fr7 := (unhide HM4).fr 7
      have fr8 := (unhide HM4).fr 8
      go_upto_region 10 with fail
      clear m0 m1 m2 m3 m4 m5 m6 m7 m8 fr5 fr6 fr7 fr8
      have HM' : Hid (KM w W2 (((((W4.setCell ⟨cb, 5, none⟩ (.int .i64 3)).setCell ⟨cb, 6, none⟩ (.int .i64 0)).setCell ⟨cb, 7, none⟩ (.string ⟨#[97]⟩)).setCell ⟨cb, 8, none⟩ (.slice (some ⟨W4.heap.size, 0, none⟩) 1 1)).alloc (.cells #[.int .i64 1, .int .i64 9, .string ⟨#[]⟩, .slice none 0 0] PET)) tb cb (.slice sa 7 sc) k (badA a) (Ev.aE 9) (.slice (some ⟨W3.heap.size, 0, none⟩) 2 2) (.slice (some ⟨W4.heap.size, 0, none⟩) 1 1)) := HMA
      clear HMA
      generalize (((((W4.setCell ⟨cb, 5, none⟩ (.int .i64 3)).setCell ⟨cb, 6, none⟩ (.int .i64 0)).setCell ⟨cb, 7, none⟩ (.string ⟨#[97]⟩)).setCell ⟨cb, 8, none⟩ (.slice (some ⟨W4.heap.size, 0, none⟩) 1 1)).alloc (.cells #[.int .i64 1, .int .i64 9, .string ⟨#[]⟩, .slice none 0 0] PET)) = W at *
      have HM := HM'
      clear HM4 HM'
      obtain ⟨t0, t1⟩ := (unhide HM).tc
      obtain ⟨d0, d1, d2, d3, d4, d5, d6, d7, d8⟩ := (unhide HM).cd
      have hS0 : W.cell? ⟨tb, 0, none⟩ = some (.slice sa 7 sc) ∧ W.cell? ⟨tb, 1, none⟩ = some (.int .i64 13) ∧ W.cell? ⟨cb, 0, none⟩ = some (.string ⟨(opT k).toArray⟩) ∧ W.cell? ⟨cb, 1, none⟩ = some (.int .i64 8) ∧ W.cell? ⟨cb, 2, none⟩ = some (.int .i64 0) ∧ W.cell? ⟨cb, 3, none⟩ = some (.string ⟨#[]⟩) ∧ W.cell? ⟨cb, 4, none⟩ = some (.slice (some ⟨W3.heap.size, 0, none⟩) 2 2) ∧ W.cell? ⟨cb, 5, none⟩ = some (.int .i64 3) ∧ W.cell? ⟨cb, 6, none⟩ = some (.int .i64 0) ∧ W.cell? ⟨cb, 7, none⟩ = some (.string ⟨#[97]⟩) ∧ W.cell? ⟨cb, 8, none⟩ = some (.slice (some ⟨W4.heap.size, 0, none⟩) 1 1) := ⟨t0, t1, d0, d1, d2, d3, d4, d5, d6, d7, d8⟩
      have HSB : Hid (∀ W', Below W.heap.size W W' → W'.cell? ⟨tb, 0, none⟩ = some (.slice sa 7 sc) ∧ W'.cell? ⟨tb, 1, none⟩ = some (.int .i64 13) ∧ W'.cell? ⟨cb, 0, none⟩ = some (.string ⟨(opT k).toArray⟩) ∧ W'.cell? ⟨cb, 1, none⟩ = some (.int .i64 8) ∧ W'.cell? ⟨cb, 2, none⟩ = some (.int .i64 0) ∧ W'.cell? ⟨cb, 3, none⟩ = some (.string ⟨#[]⟩) ∧ W'.cell? ⟨cb, 4, none⟩ = some (.slice (some ⟨W3.heap.size, 0, none⟩) 2 2) ∧ W'.cell? ⟨cb, 5, none⟩ = some (.int .i64 3) ∧ W'.cell? ⟨cb, 6, none⟩ = some (.int .i64 0) ∧ W'.cell? ⟨cb, 7, none⟩ = some (.string ⟨#[97]⟩) ∧ W'.cell? ⟨cb, 8, none⟩ = some (.slice (some ⟨W4.heap.size, 0, none⟩) 1 1)) := hide (fun W' h => by
        have hk : ∀ b o (v : Value), W.cell? ⟨b, o, none⟩ = some v → W'.cell? ⟨b, o, none⟩ = some v := fun b o v hv => (h.cell (p := ⟨b, o, none⟩) (cell_lt hv)).trans hv
        exact ⟨hk _ _ _ t0, hk _ _ _ t1, hk _ _ _ d0, hk _ _ _ d1, hk _ _ _ d2, hk _ _ _ d3, hk _ _ _ d4, hk _ _ _ d5, hk _ _ _ d6, hk _ _ _ d7, hk _ _ _ d8⟩)
      clear t0 t1 d0 d1 d2 d3 d4 d5 d6 d7 d8
      refine wp_regionE (fun W => W.cell? ⟨tb, 0, none⟩ = some (.slice sa 7 sc) ∧ W.cell? ⟨tb, 1, none⟩ = some (.int .i64 13) ∧ W.cell? ⟨cb, 0, none⟩ = some (.string ⟨(opT k).toArray⟩) ∧ W.cell? ⟨cb, 1, none⟩ = some (.int .i64 8) ∧ W.cell? ⟨cb, 2, none⟩ = some (.int .i64 0) ∧ W.cell? ⟨cb, 3, none⟩ = some (.string ⟨#[]⟩) ∧ W.cell? ⟨cb, 4, none⟩ = some (.slice (some ⟨W3.heap.size, 0, none⟩) 2 2) ∧ W.cell? ⟨cb, 5, none⟩ = some (.int .i64 3) ∧ W.cell? ⟨cb, 6, none⟩ = some (.int .i64 0) ∧ W.cell? ⟨cb, 7, none⟩ = some (.string ⟨#[97]⟩) ∧ W.cell? ⟨cb, 8, none⟩ = some (.slice (some ⟨W4.heap.size, 0, none⟩) 1 1)) (fun j => decide (j < 11)) (by kernel_rfl) hS0 (fun hS => ?_)
      clear hS0
      have hd : Below W.heap.size W W.drew := below_drewN (Below.refl _ _) 1
      refine anyE_take 0 (v := ?_) rfl (by kernel_rfl) (by kernel_rfl) (by kernel_rfl) (by kernel_rfl) (fun _ _ _ h => h) hS (Or.inl ⟨by rfl, ?_⟩) ?_
      rotate_left
      · intro w' hS'
        obtain ⟨e0, e1, e2, e3, e4, e5, e6, e7, e8, e9, e10⟩ := hS'
        go_simp
        try with_reducible rfl
      try simp only [List.getElem_toArray, List.getElem_cons_zero, Act.put, List.setIfInBounds_toArray, List.set_cons_zero, List.set_cons_succ]
      refine anyE_take 2 (v := ?_) rfl (by kernel_rfl) (by kernel_rfl) (by kernel_rfl) (by kernel_rfl) (fun _ _ _ h => h) hS (Or.inl ⟨by rfl, ?_⟩) ?_
      rotate_left
      · intro w' hS'
        obtain ⟨e0, e1, e2, e3, e4, e5, e6, e7, e8, e9, e10⟩ := hS'
        go_simp
        try with_reducible rfl
      try simp only [List.getElem_toArray, List.getElem_cons_succ, List.getElem_cons_zero, Act.put, List.setIfInBounds_toArray, List.set_cons_zero, List.set_cons_succ]
      refine anyE_take 4 (v := ?_) rfl (by kernel_rfl) (by kernel_rfl) (by kernel_rfl) (by kernel_rfl) (fun _ _ _ h => h) hS (Or.inl ⟨by rfl, ?_⟩) ?_
      rotate_left
      · intro w' hS'
        obtain ⟨e0, e1, e2, e3, e4, e5, e6, e7, e8, e9, e10⟩ := hS'
        go_simp
        try with_reducible rfl
      try simp only [List.getElem_toArray, List.getElem_cons_succ, List.getElem_cons_zero, Act.put, List.setIfInBounds_toArray, List.set_cons_zero, List.set_cons_succ]
      refine anyE_ready [1] (by kernel_rfl) (by simp) (ReadyE.cons rfl (fun K' hK => ?_) ReadyE.nil)
      go_simp
      go_at_call 15
      refine (toTab_any W.drew (.slice sa 7 sc) 13 _ ((unhide HM).sy2.below (bthen (unhide HM).old2 hd)) (by simp [Ev.tabN])).mono ?_
      rintro ev w5 ⟨sv5, rfl, hs5, hb5⟩
      have hb5' := hd.trans hb5
      have HS5 := hide (unhide HSB _ hb5')
      obtain ⟨sa5, sc5, rfl⟩ : ∃ a c, sv5 = .slice a 7 c := hs5.shape
      dsimp only
      try go_simp
      refine hK _ _ (fun _ => unhide HS5) ?_
      clear hK K'
      try simp only [List.getElem_toArray, List.getElem_cons_succ, List.getElem_cons_zero, Act.put, List.setIfInBounds_toArray, List.set_cons_zero, List.set_cons_succ]
      refine anyE_ready [3] (by kernel_rfl) (by simp) (ReadyE.cons rfl (fun K' hK => ?_) ReadyE.nil)
      go_simp
      go_at_call 13
      refine (store_any w5 (.slice sa 7 sc) 13 (.slice none 0 0) [] (by omega) (Ints.nil _) ⟨_, _, _, rfl⟩).mono ?_
      rintro ev w6 ⟨q6, rfl, hi6, hb6⟩
      have hb6' := bthen hb5' hb6
      have HS6 := hide (unhide HSB _ hb6')
      dsimp only
      try go_simp
      refine hK _ _ (fun _ => unhide HS6) ?_
      clear hK K'
      try simp only [List.getElem_toArray, List.getElem_cons_succ, List.getElem_cons_zero, Act.put, List.setIfInBounds_toArray, List.set_cons_zero, List.set_cons_succ]
      have hh := ((unhide HM).below hb6').holds hk6 (by simp [Ev.sz, Ev.szs, numE, badA, Ev.aE]) _ _ (hs5.below hb6) hi6
      rw [cd_badA k a _] at hh
      have HH := hide hh
      clear hh
      refine anyE_ready [5] (by kernel_rfl) (by simp) (ReadyE.cons rfl (fun K' hK => ?_) ReadyE.nil)
      go_simp
      go_at_call 20
      refine (unhide HH).mono ?_
      rintro ev w7 ⟨f7, rfl, hf7, hb7⟩
      have HF7 := hide hf7
      have HB7 := hide (bthen hb6' hb7)
      have HS7a := hide (unhide HSB _ (unhide HB7))
      clear hf7 hb7
      dsimp only
      try go_simp
      refine hK _ _ (fun _ => unhide HS7a) ?_
      clear hK K'
      try simp only [List.getElem_toArray, List.getElem_cons_succ, List.getElem_cons_zero, Act.put, List.setIfInBounds_toArray, List.set_cons_zero, List.set_cons_succ]
      have hS := unhide HS7a
      refine anyE_take 6 (v := ?_) rfl (by kernel_rfl) (by kernel_rfl) (by kernel_rfl) (by kernel_rfl) (fun _ _ _ h => h) hS (Or.inl ⟨by rfl, ?_⟩) ?_
      rotate_left
      · intro w' hS'
        obtain ⟨e0, e1, e2, e3, e4, e5, e6, e7, e8, e9, e10⟩ := hS'
        go_simp
        try with_reducible rfl
      try simp only [List.getElem_toArray, List.getElem_cons_succ, List.getElem_cons_zero, Act.put, List.setIfInBounds_toArray, List.set_cons_zero, List.set_cons_succ]
      refine anyE_take 7 (v := ?_) rfl (by kernel_rfl) (by kernel_rfl) (by kernel_rfl) (by kernel_rfl) (fun _ _ _ h => h) hS (Or.inl ⟨by rfl, ?_⟩) ?_
      rotate_left
      · intro w' hS'
        obtain ⟨e0, e1, e2, e3, e4, e5, e6, e7, e8, e9, e10⟩ := hS'
        go_simp
        try with_reducible rfl
      try simp only [List.getElem_toArray, List.getElem_cons_succ, List.getElem_cons_zero, Act.put, List.setIfInBounds_toArray, List.set_cons_zero, List.set_cons_succ]
      refine anyE_take 8 (v := ?_) rfl (by kernel_rfl) (by kernel_rfl) (by kernel_rfl) (by kernel_rfl) (fun _ _ _ h => h) hS (Or.inl ⟨by rfl, ?_⟩) ?_
      rotate_left
      · intro w' hS'
        obtain ⟨e0, e1, e2, e3, e4, e5, e6, e7, e8, e9, e10⟩ := hS'
        go_simp
        try with_reducible rfl
      try simp only [List.getElem_toArray, List.getElem_cons_succ, List.getElem_cons_zero, Act.put, List.setIfInBounds_toArray, List.set_cons_zero, List.set_cons_succ]
      refine anyE_take 9 (v := ?_) rfl (by kernel_rfl) (by kernel_rfl) (by kernel_rfl) (by kernel_rfl) (fun _ _ _ h => h) hS (Or.inl ⟨by rfl, ?_⟩) ?_
      rotate_left
      · intro w' hS'
        obtain ⟨e0, e1, e2, e3, e4, e5, e6, e7, e8, e9, e10⟩ := hS'
        go_simp
        try with_reducible rfl
      try simp only [List.getElem_toArray, List.getElem_cons_succ, List.getElem_cons_zero, Act.put, List.setIfInBounds_toArray, List.set_cons_zero, List.set_cons_succ]
      refine anyE_take 10 (v := ?_) rfl (by kernel_rfl) (by kernel_rfl) (by kernel_rfl) (by kernel_rfl) (fun _ _ _ h => h) hS (Or.inl ⟨by rfl, ?_⟩) ?_
      rotate_left
      · intro w' hS'
        obtain ⟨e0, e1, e2, e3, e4, e5, e6, e7, e8, e9, e10⟩ := hS'
        go_simp
        try with_reducible rfl
      try simp only [List.getElem_toArray, List.getElem_cons_succ, List.getElem_cons_zero, Act.put, List.setIfInBounds_toArray, List.set_cons_zero, List.set_cons_succ]
      refine anyE_done (by kernel_rfl) ?_ _
      clear hS HS7a HSB HH
      have hf7 := unhide HF7
      have HS7 : Hid (Says 0 w7 f7 Ev.wDiv 0 13) := HF7
      rcases hf7 with ⟨h9, _⟩ | ⟨_, q7, _, rfl, _⟩
      · exact absurd h9 (by decide)
      have HAT := hide (at_any Ev.wDiv 0 13 w7)
      have HO7 := hide (bthen (unhide HM).old (bthen (unhide HM).old2 (unhide HB7)))
      clear HF7 HB7 HM
      go_wp2_with fail
      refine (unhide HAT).mono ?_
      rintro ev w8 ⟨q8, rfl, hq8, u0, u1, hb8⟩
      have HTE := hide (tells_any w8 _ _ Ev.wDiv 0 13 ((unhide HG).below (bthen (unhide HO7) hb8)) ((unhide HS7).below hb8) (.inr ⟨by decide, q8, hq8, rfl, u0, u1⟩))
      have HB8 := hide hb8
      clear hb8 u0 u1 HAT
      go_wp2_with (go_at_call 17; refine (unhide HTE).mono ?_; rintro ev w9 ⟨rfl, hb9⟩; have HB9 := hide hb9; clear hb9)
      go_ret
      exact ⟨rfl, bthen (bthen (unhide HO7) (unhide HB8)) (unhide HB9)⟩
    · have h2 : ((bad : Int) / 2 % 2 == 1) = false := beq_eq_false_iff_ne.2 g2
      clear g1 g2
      have al := alloc_below W3 (.cells #[.int .i64 1, .int .i64 a, .string ⟨#[]⟩, .slice none 0 0, .int .i64 1, .int .i64 0, .string ⟨#[]⟩, .slice none 0 0] PET)
      have f2 : Forest (W3.alloc (.cells #[.int .i64 1, .int .i64 a, .string ⟨#[]⟩, .slice none 0 0, .int .i64 1, .int .i64 0, .string ⟨#[]⟩, .slice none 0 0] PET)) (fun b => b ≠ cb) (badA a).a (.slice (some ⟨W3.heap.size, 0, none⟩) 2 2) := forest_two (x := numE a) (y := numE 0) (t := PET) (.nil _ _) (.nil _ _) (by show W3.heap.size ≠ cb; omega)
      have hMA := ((unhide HM0).below al).setA (badA a) (.slice (some ⟨W3.heap.size, 0, none⟩) 2 2) f2
      rw [setA_alloc _ _ _ _ _ hcbl] at hMA
      have HMA := hide hMA
      clear hMA
      clear al f2
      obtain ⟨m0, m1, m2, m3, m4, m5, m6, m7, m8⟩ := (unhide HM0).cd
      simp only [numE, E.kind, E.n, E.name] at m1 m2 m3 m5 m6 m7
      have fr1 := (unhide HM0).fr 1
      have fr2 := (unhide HM0).fr 2
      have fr3 := (unhide HM0).fr 3
      have fr4 := (unhide HM0).fr 4
      go_upto_region 10 with fail
      clear m0 m1 m2 m3 m4 m5 m6 m7 m8 fr1 fr2 fr3 fr4
      have HM' : Hid (KM w W2 (((((W3.setCell ⟨cb, 1, none⟩ (.int .i64 8)).setCell ⟨cb, 2, none⟩ (.int .i64 0)).setCell ⟨cb, 3, none⟩ (.string ⟨#[]⟩)).setCell ⟨cb, 4, none⟩ (.slice (some ⟨W3.heap.size, 0, none⟩) 2 2)).alloc (.cells #[.int .i64 1, .int .i64 a, .string ⟨#[]⟩, .slice none 0 0, .int .i64 1, .int .i64 0, .string ⟨#[]⟩, .slice none 0 0] PET)) tb cb (.slice sa 7 sc) k (badA a) (numE b) (.slice (some ⟨W3.heap.size, 0, none⟩) 2 2) (.slice none 0 0)) := HMA
      clear HMA
      generalize (((((W3.setCell ⟨cb, 1, none⟩ (.int .i64 8)).setCell ⟨cb, 2, none⟩ (.int .i64 0)).setCell ⟨cb, 3, none⟩ (.string ⟨#[]⟩)).setCell ⟨cb, 4, none⟩ (.slice (some ⟨W3.heap.size, 0, none⟩) 2 2)).alloc (.cells #[.int .i64 1, .int .i64 a, .string ⟨#[]⟩, .slice none 0 0, .int .i64 1, .int .i64 0, .string ⟨#[]⟩, .slice none 0 0] PET)) = W at *
      have HM := HM'
      clear HM0 HM'
      obtain ⟨t0, t1⟩ := (unhide HM).tc
      obtain ⟨d0, d1, d2, d3, d4, d5, d6, d7, d8⟩ := (unhide HM).cd
      have hS0 : W.cell? ⟨tb, 0, none⟩ = some (.slice sa 7 sc) ∧ W.cell? ⟨tb, 1, none⟩ = some (.int .i64 13) ∧ W.cell? ⟨cb, 0, none⟩ = some (.string ⟨(opT k).toArray⟩) ∧ W.cell? ⟨cb, 1, none⟩ = some (.int .i64 8) ∧ W.cell? ⟨cb, 2, none⟩ = some (.int .i64 0) ∧ W.cell? ⟨cb, 3, none⟩ = some (.string ⟨#[]⟩) ∧ W.cell? ⟨cb, 4, none⟩ = some (.slice (some ⟨W3.heap.size, 0, none⟩) 2 2) ∧ W.cell? ⟨cb, 5, none⟩ = some (.int .i64 1) ∧ W.cell? ⟨cb, 6, none⟩ = some (.int .i64 b) ∧ W.cell? ⟨cb, 7, none⟩ = some (.string ⟨#[]⟩) ∧ W.cell? ⟨cb, 8, none⟩ = some (.slice none 0 0) := ⟨t0, t1, d0, d1, d2, d3, d4, d5, d6, d7, d8⟩
      have HSB : Hid (∀ W', Below W.heap.size W W' → W'.cell? ⟨tb, 0, none⟩ = some (.slice sa 7 sc) ∧ W'.cell? ⟨tb, 1, none⟩ = some (.int .i64 13) ∧ W'.cell? ⟨cb, 0, none⟩ = some (.string ⟨(opT k).toArray⟩) ∧ W'.cell? ⟨cb, 1, none⟩ = some (.int .i64 8) ∧ W'.cell? ⟨cb, 2, none⟩ = some (.int .i64 0) ∧ W'.cell? ⟨cb, 3, none⟩ = some (.string ⟨#[]⟩) ∧ W'.cell? ⟨cb, 4, none⟩ = some (.slice (some ⟨W3.heap.size, 0, none⟩) 2 2) ∧ W'.cell? ⟨cb, 5, none⟩ = some (.int .i64 1) ∧ W'.cell? ⟨cb, 6, none⟩ = some (.int .i64 b) ∧ W'.cell? ⟨cb, 7, none⟩ = some (.string ⟨#[]⟩) ∧ W'.cell? ⟨cb, 8, none⟩ = some (.slice none 0 0)) := hide (fun W' h => by
        have hk : ∀ b o (v : Value), W.cell? ⟨b, o, none⟩ = some v → W'.cell? ⟨b, o, none⟩ = some v := fun b o v hv => (h.cell (p := ⟨b, o, none⟩) (cell_lt hv)).trans hv
        exact ⟨hk _ _ _ t0, hk _ _ _ t1, hk _ _ _ d0, hk _ _ _ d1, hk _ _ _ d2, hk _ _ _ d3, hk _ _ _ d4, hk _ _ _ d5, hk _ _ _ d6, hk _ _ _ d7, hk _ _ _ d8⟩)
      clear t0 t1 d0 d1 d2 d3 d4 d5 d6 d7 d8
      refine wp_regionE (fun W => W.cell? ⟨tb, 0, none⟩ = some (.slice sa 7 sc) ∧ W.cell? ⟨tb, 1, none⟩ = some (.int .i64 13) ∧ W.cell? ⟨cb, 0, none⟩ = some (.string ⟨(opT k).toArray⟩) ∧ W.cell? ⟨cb, 1, none⟩ = some (.int .i64 8) ∧ W.cell? ⟨cb, 2, none⟩ = some (.int .i64 0) ∧ W.cell? ⟨cb, 3, none⟩ = some (.string ⟨#[]⟩) ∧ W.cell? ⟨cb, 4, none⟩ = some (.slice (some ⟨W3.heap.size, 0, none⟩) 2 2) ∧ W.cell? ⟨cb, 5, none⟩ = some (.int .i64 1) ∧ W.cell? ⟨cb, 6, none⟩ = some (.int .i64 b) ∧ W.cell? ⟨cb, 7, none⟩ = some (.string ⟨#[]⟩) ∧ W.cell? ⟨cb, 8, none⟩ = some (.slice none 0 0)) (fun j => decide (j < 11)) (by kernel_rfl) hS0 (fun hS => ?_)
      clear hS0
      have hd : Below W.heap.size W W.drew := below_drewN (Below.refl _ _) 1
      refine anyE_take 0 (v := ?_) rfl (by kernel_rfl) (by kernel_rfl) (by kernel_rfl) (by kernel_rfl) (fun _ _ _ h => h) hS (Or.inl ⟨by rfl, ?_⟩) ?_
      rotate_left
      · intro w' hS'
        obtain ⟨e0, e1, e2, e3, e4, e5, e6, e7, e8, e9, e10⟩ := hS'
        go_simp
        try with_reducible rfl
      try simp only [List.getElem_toArray, List.getElem_cons_zero, Act.put, List.setIfInBounds_toArray, List.set_cons_zero, List.set_cons_succ]
      refine anyE_take 2 (v := ?_) rfl (by kernel_rfl) (by kernel_rfl) (by kernel_rfl) (by kernel_rfl) (fun _ _ _ h => h) hS (Or.inl ⟨by rfl, ?_⟩) ?_
      rotate_left
      · intro w' hS'
        obtain ⟨e0, e1, e2, e3, e4, e5, e6, e7, e8, e9, e10⟩ := hS'
        go_simp
        try with_reducible rfl
      try simp only [List.getElem_toArray, List.getElem_cons_succ, List.getElem_cons_zero, Act.put, List.setIfInBounds_toArray, List.set_cons_zero, List.set_cons_succ]
      refine anyE_take 4 (v := ?_) rfl (by kernel_rfl) (by kernel_rfl) (by kernel_rfl) (by kernel_rfl) (fun _ _ _ h => h) hS (Or.inl ⟨by rfl, ?_⟩) ?_
      rotate_left
      · intro w' hS'
        obtain ⟨e0, e1, e2, e3, e4, e5, e6, e7, e8, e9, e10⟩ := hS'
        go_simp
        try with_reducible rfl
      try simp only [List.getElem_toArray, List.getElem_cons_succ, List.getElem_cons_zero, Act.put, List.setIfInBounds_toArray, List.set_cons_zero, List.set_cons_succ]
      refine anyE_ready [1] (by kernel_rfl) (by simp) (ReadyE.cons rfl (fun K' hK => ?_) ReadyE.nil)
      go_simp
      go_at_call 15
      refine (toTab_any W.drew (.slice sa 7 sc) 13 _ ((unhide HM).sy2.below (bthen (unhide HM).old2 hd)) (by simp [Ev.tabN])).mono ?_
      rintro ev w5 ⟨sv5, rfl, hs5, hb5⟩
      have hb5' := hd.trans hb5
      have HS5 := hide (unhide HSB _ hb5')
      obtain ⟨sa5, sc5, rfl⟩ : ∃ a c, sv5 = .slice a 7 c := hs5.shape
      dsimp only
      try go_simp
      refine hK _ _ (fun _ => unhide HS5) ?_
      clear hK K'
      try simp only [List.getElem_toArray, List.getElem_cons_succ, List.getElem_cons_zero, Act.put, List.setIfInBounds_toArray, List.set_cons_zero, List.set_cons_succ]
      refine anyE_ready [3] (by kernel_rfl) (by simp) (ReadyE.cons rfl (fun K' hK => ?_) ReadyE.nil)
      go_simp
      go_at_call 13
      refine (store_any w5 (.slice sa 7 sc) 13 (.slice none 0 0) [] (by omega) (Ints.nil _) ⟨_, _, _, rfl⟩).mono ?_
      rintro ev w6 ⟨q6, rfl, hi6, hb6⟩
      have hb6' := bthen hb5' hb6
      have HS6 := hide (unhide HSB _ hb6')
      dsimp only
      try go_simp
      refine hK _ _ (fun _ => unhide HS6) ?_
      clear hK K'
      try simp only [List.getElem_toArray, List.getElem_cons_succ, List.getElem_cons_zero, Act.put, List.setIfInBounds_toArray, List.set_cons_zero, List.set_cons_succ]
      have hh := ((unhide HM).below hb6').holds hk6 (by simp [Ev.sz, Ev.szs, numE, badA]) _ _ (hs5.below hb6) hi6
      rw [cd_badA k a _] at hh
      have HH := hide hh
      clear hh
      refine anyE_ready [5] (by kernel_rfl) (by simp) (ReadyE.cons rfl (fun K' hK => ?_) ReadyE.nil)
      go_simp
      go_at_call 20
      refine (unhide HH).mono ?_
      rintro ev w7 ⟨f7, rfl, hf7, hb7⟩
      have HF7 := hide hf7
      have HB7 := hide (bthen hb6' hb7)
      have HS7a := hide (unhide HSB _ (unhide HB7))
      clear hf7 hb7
      dsimp only
      try go_simp
      refine hK _ _ (fun _ => unhide HS7a) ?_
      clear hK K'
      try simp only [List.getElem_toArray, List.getElem_cons_succ, List.getElem_cons_zero, Act.put, List.setIfInBounds_toArray, List.set_cons_zero, List.set_cons_succ]
      have hS := unhide HS7a
      refine anyE_take 6 (v := ?_) rfl (by kernel_rfl) (by kernel_rfl) (by kernel_rfl) (by kernel_rfl) (fun _ _ _ h => h) hS (Or.inl ⟨by rfl, ?_⟩) ?_
      rotate_left
      · intro w' hS'
        obtain ⟨e0, e1, e2, e3, e4, e5, e6, e7, e8, e9, e10⟩ := hS'
        go_simp
        try with_reducible rfl
      try simp only [List.getElem_toArray, List.getElem_cons_succ, List.getElem_cons_zero, Act.put, List.setIfInBounds_toArray, List.set_cons_zero, List.set_cons_succ]
      refine anyE_take 7 (v := ?_) rfl (by kernel_rfl) (by kernel_rfl) (by kernel_rfl) (by kernel_rfl) (fun _ _ _ h => h) hS (Or.inl ⟨by rfl, ?_⟩) ?_
      rotate_left
      · intro w' hS'
        obtain ⟨e0, e1, e2, e3, e4, e5, e6, e7, e8, e9, e10⟩ := hS'
        go_simp
        try with_reducible rfl
      try simp only [List.getElem_toArray, List.getElem_cons_succ, List.getElem_cons_zero, Act.put, List.setIfInBounds_toArray, List.set_cons_zero, List.set_cons_succ]
      refine anyE_take 8 (v := ?_) rfl (by kernel_rfl) (by kernel_rfl) (by kernel_rfl) (by kernel_rfl) (fun _ _ _ h => h) hS (Or.inl ⟨by rfl, ?_⟩) ?_
      rotate_left
      · intro w' hS'
        obtain ⟨e0, e1, e2, e3, e4, e5, e6, e7, e8, e9, e10⟩ := hS'
        go_simp
        try with_reducible rfl
      try simp only [List.getElem_toArray, List.getElem_cons_succ, List.getElem_cons_zero, Act.put, List.setIfInBounds_toArray, List.set_cons_zero, List.set_cons_succ]
      refine anyE_take 9 (v := ?_) rfl (by kernel_rfl) (by kernel_rfl) (by kernel_rfl) (by kernel_rfl) (fun _ _ _ h => h) hS (Or.inl ⟨by rfl, ?_⟩) ?_
      rotate_left
      · intro w' hS'
        obtain ⟨e0, e1, e2, e3, e4, e5, e6, e7, e8, e9, e10⟩ := hS'
        go_simp
        try with_reducible rfl
      try simp only [List.getElem_toArray, List.getElem_cons_succ, List.getElem_cons_zero, Act.put, List.setIfInBounds_toArray, List.set_cons_zero, List.set_cons_succ]
      refine anyE_take 10 (v := ?_) rfl (by kernel_rfl) (by kernel_rfl) (by kernel_rfl) (by kernel_rfl) (fun _ _ _ h => h) hS (Or.inl ⟨by rfl, ?_⟩) ?_
      rotate_left
      · intro w' hS'
        obtain ⟨e0, e1, e2, e3, e4, e5, e6, e7, e8, e9, e10⟩ := hS'
        go_simp
        try with_reducible rfl
      try simp only [List.getElem_toArray, List.getElem_cons_succ, List.getElem_cons_zero, Act.put, List.setIfInBounds_toArray, List.set_cons_zero, List.set_cons_succ]
      refine anyE_done (by kernel_rfl) ?_ _
      clear hS HS7a HSB HH
      have hf7 := unhide HF7
      have HS7 : Hid (Says 0 w7 f7 Ev.wDiv 0 13) := HF7
      rcases hf7 with ⟨h9, _⟩ | ⟨_, q7, _, rfl, _⟩
      · exact absurd h9 (by decide)
      have HAT := hide (at_any Ev.wDiv 0 13 w7)
      have HO7 := hide (bthen (unhide HM).old (bthen (unhide HM).old2 (unhide HB7)))
      clear HF7 HB7 HM
      go_wp2_with fail
      refine (unhide HAT).mono ?_
      rintro ev w8 ⟨q8, rfl, hq8, u0, u1, hb8⟩
      have HTE := hide (tells_any w8 _ _ Ev.wDiv 0 13 ((unhide HG).below (bthen (unhide HO7) hb8)) ((unhide HS7).below hb8) (.inr ⟨by decide, q8, hq8, rfl, u0, u1⟩))
      have HB8 := hide hb8
      clear hb8 u0 u1 HAT
      go_wp2_with (go_at_call 17; refine (unhide HTE).mono ?_; rintro ev w9 ⟨rfl, hb9⟩; have HB9 := hide hb9; clear hb9)
      go_ret
      exact ⟨rfl, bthen (bthen (unhide HO7) (unhide HB8)) (unhide HB9)⟩
  · have h1 : ((bad : Int) % 2 == 1) = false := beq_eq_false_iff_ne.2 g1
    by_cases g2 : (bad : Int) / 2 % 2 = 1
    · have h2 : ((bad : Int) / 2 % 2 == 1) = true := by rw [beq_iff_eq]; exact g2
      clear g1 g2
      have al := alloc_below W3 (.cells #[.int .i64 1, .int .i64 9, .string ⟨#[]⟩, .slice none 0 0] PET)
      have f1 : Forest (W3.alloc (.cells #[.int .i64 1, .int .i64 9, .string ⟨#[]⟩, .slice none 0 0] PET)) (fun b => b ≠ cb) (Ev.aE 9).a (.slice (some ⟨W3.heap.size, 0, none⟩) 1 1) := forest_one (x := numE 9) (t := PET) (.nil _ _) (by show W3.heap.size ≠ cb; omega)
      have hMA := ((unhide HM0).below al).setB (Ev.aE 9) (.slice (some ⟨W3.heap.size, 0, none⟩) 1 1) f1
      rw [setB_alloc _ _ _ _ _ hcbl] at hMA
      have HMA := hide hMA
      clear hMA
      clear al f1
      obtain ⟨m0, m1, m2, m3, m4, m5, m6, m7, m8⟩ := (unhide HM0).cd
      simp only [numE, E.kind, E.n, E.name] at m1 m2 m3 m5 m6 m7
      have fr5 := (unhide HM0).fr 5
      have fr6 := (unhide HM0).fr 6
      have fr7 := (unhide HM0).fr 7
      have fr8 := (unhide HM0).fr 8
      go_upto_region 10 with fail
      clear m0 m1 m2 m3 m4 m5 m6 m7 m8 fr5 fr6 fr7 fr8
      have HM' : Hid (KM w W2 (((((W3.setCell ⟨cb, 5, none⟩ (.int .i64 3)).setCell ⟨cb, 6, none⟩ (.int .i64 0)).setCell ⟨cb, 7, none⟩ (.string ⟨#[97]⟩)).setCell ⟨cb, 8, none⟩ (.slice (some ⟨W3.heap.size, 0, none⟩) 1 1)).alloc (.cells #[.int .i64 1, .int .i64 9, .string ⟨#[]⟩, .slice none 0 0] PET)) tb cb (.slice sa 7 sc) k (numE a) (Ev.aE 9) (.slice none 0 0) (.slice (some ⟨W3.heap.size, 0, none⟩) 1 1)) := HMA
      clear HMA
      generalize (((((W3.setCell ⟨cb, 5, none⟩ (.int .i64 3)).setCell ⟨cb, 6, none⟩ (.int .i64 0)).setCell ⟨cb, 7, none⟩ (.string ⟨#[97]⟩)).setCell ⟨cb, 8, none⟩ (.slice (some ⟨W3.heap.size, 0, none⟩) 1 1)).alloc (.cells #[.int .i64 1, .int .i64 9, .string ⟨#[]⟩, .slice none 0 0] PET)) = W at *
      have HM := HM'
      clear HM0 HM'
      obtain ⟨t0, t1⟩ := (unhide HM).tc
      obtain ⟨d0, d1, d2, d3, d4, d5, d6, d7, d8⟩ := (unhide HM).cd
      have hS0 : W.cell? ⟨tb, 0, none⟩ = some (.slice sa 7 sc) ∧ W.cell? ⟨tb, 1, none⟩ = some (.int .i64 13) ∧ W.cell? ⟨cb, 0, none⟩ = some (.string ⟨(opT k).toArray⟩) ∧ W.cell? ⟨cb, 1, none⟩ = some (.int .i64 1) ∧ W.cell? ⟨cb, 2, none⟩ = some (.int .i64 a) ∧ W.cell? ⟨cb, 3, none⟩ = some (.string ⟨#[]⟩) ∧ W.cell? ⟨cb, 4, none⟩ = some (.slice none 0 0) ∧ W.cell? ⟨cb, 5, none⟩ = some (.int .i64 3) ∧ W.cell? ⟨cb, 6, none⟩ = some (.int .i64 0) ∧ W.cell? ⟨cb, 7, none⟩ = some (.string ⟨#[97]⟩) ∧ W.cell? ⟨cb, 8, none⟩ = some (.slice (some ⟨W3.heap.size, 0, none⟩) 1 1) := ⟨t0, t1, d0, d1, d2, d3, d4, d5, d6, d7, d8⟩
      have HSB : Hid (∀ W', Below W.heap.size W W' → W'.cell? ⟨tb, 0, none⟩ = some (.slice sa 7 sc) ∧ W'.cell? ⟨tb, 1, none⟩ = some (.int .i64 13) ∧ W'.cell? ⟨cb, 0, none⟩ = some (.string ⟨(opT k).toArray⟩) ∧ W'.cell? ⟨cb, 1, none⟩ = some (.int .i64 1) ∧ W'.cell? ⟨cb, 2, none⟩ = some (.int .i64 a) ∧ W'.cell? ⟨cb, 3, none⟩ = some (.string ⟨#[]⟩) ∧ W'.cell? ⟨cb, 4, none⟩ = some (.slice none 0 0) ∧ W'.cell? ⟨cb, 5, none⟩ = some (.int .i64 3) ∧ W'.cell? ⟨cb, 6, none⟩ = some (.int .i64 0) ∧ W'.cell? ⟨cb, 7, none⟩ = some (.string ⟨#[97]⟩) ∧ W'.cell? ⟨cb, 8, none⟩ = some (.slice (some ⟨W3.heap.size, 0, none⟩) 1 1)) := hide (fun W' h => by
        have hk : ∀ b o (v : Value), W.cell? ⟨b, o, none⟩ = some v → W'.cell? ⟨b, o, none⟩ = some v := fun b o v hv => (h.cell (p := ⟨b, o, none⟩) (cell_lt hv)).trans hv
        exact ⟨hk _ _ _ t0, hk _ _ _ t1, hk _ _ _ d0, hk _ _ _ d1, hk _ _ _ d2, hk _ _ _ d3, hk _ _ _ d4, hk _ _ _ d5, hk _ _ _ d6, hk _ _ _ d7, hk _ _ _ d8⟩)
      clear t0 t1 d0 d1 d2 d3 d4 d5 d6 d7 d8
      refine wp_regionE (fun W => W.cell? ⟨tb, 0, none⟩ = some (.slice sa 7 sc) ∧ W.cell? ⟨tb, 1, none⟩ = some (.int .i64 13) ∧ W.cell? ⟨cb, 0, none⟩ = some (.string ⟨(opT k).toArray⟩) ∧ W.cell? ⟨cb, 1, none⟩ = some (.int .i64 1) ∧ W.cell? ⟨cb, 2, none⟩ = some (.int .i64 a) ∧ W.cell? ⟨cb, 3, none⟩ = some (.string ⟨#[]⟩) ∧ W.cell? ⟨cb, 4, none⟩ = some (.slice none 0 0) ∧ W.cell? ⟨cb, 5, none⟩ = some (.int .i64 3) ∧ W.cell? ⟨cb, 6, none⟩ = some (.int .i64 0) ∧ W.cell? ⟨cb, 7, none⟩ = some (.string ⟨#[97]⟩) ∧ W.cell? ⟨cb, 8, none⟩ = some (.slice (some ⟨W3.heap.size, 0, none⟩) 1 1)) (fun j => decide (j < 11)) (by kernel_rfl) hS0 (fun hS => ?_)
      clear hS0
      have hd : Below W.heap.size W W.drew := below_drewN (Below.refl _ _) 1
      refine anyE_take 0 (v := ?_) rfl (by kernel_rfl) (by kernel_rfl) (by kernel_rfl) (by kernel_rfl) (fun _ _ _ h => h) hS (Or.inl ⟨by rfl, ?_⟩) ?_
      rotate_left
      · intro w' hS'
        obtain ⟨e0, e1, e2, e3, e4, e5, e6, e7, e8, e9, e10⟩ := hS'
        go_simp
        try with_reducible rfl
      try simp only [List.getElem_toArray, List.getElem_cons_zero, Act.put, List.setIfInBounds_toArray, List.set_cons_zero, List.set_cons_succ]
      refine anyE_take 2 (v := ?_) rfl (by kernel_rfl) (by kernel_rfl) (by kernel_rfl) (by kernel_rfl) (fun _ _ _ h => h) hS (Or.inl ⟨by rfl, ?_⟩) ?_
      rotate_left
      · intro w' hS'
        obtain ⟨e0, e1, e2, e3, e4, e5, e6, e7, e8, e9, e10⟩ := hS'
        go_simp
        try with_reducible rfl
      try simp only [List.getElem_toArray, List.getElem_cons_succ, List.getElem_cons_zero, Act.put, List.setIfInBounds_toArray, List.set_cons_zero, List.set_cons_succ]
      refine anyE_take 4 (v := ?_) rfl (by kernel_rfl) (by kernel_rfl) (by kernel_rfl) (by kernel_rfl) (fun _ _ _ h => h) hS (Or.inl ⟨by rfl, ?_⟩) ?_
      rotate_left
      · intro w' hS'
        obtain ⟨e0, e1, e2, e3, e4, e5, e6, e7, e8, e9, e10⟩ := hS'
        go_simp
        try with_reducible rfl
      try simp only [List.getElem_toArray, List.getElem_cons_succ, List.getElem_cons_zero, Act.put, List.setIfInBounds_toArray, List.set_cons_zero, List.set_cons_succ]
      refine anyE_ready [1] (by kernel_rfl) (by simp) (ReadyE.cons rfl (fun K' hK => ?_) ReadyE.nil)
      go_simp
      go_at_call 15
      refine (toTab_any W.drew (.slice sa 7 sc) 13 _ ((unhide HM).sy2.below (bthen (unhide HM).old2 hd)) (by simp [Ev.tabN])).mono ?_
      rintro ev w5 ⟨sv5, rfl, hs5, hb5⟩
      have hb5' := hd.trans hb5
      have HS5 := hide (unhide HSB _ hb5')
      obtain ⟨sa5, sc5, rfl⟩ : ∃ a c, sv5 = .slice a 7 c := hs5.shape
      dsimp only
      try go_simp
      refine hK _ _ (fun _ => unhide HS5) ?_
      clear hK K'
      try simp only [List.getElem_toArray, List.getElem_cons_succ, List.getElem_cons_zero, Act.put, List.setIfInBounds_toArray, List.set_cons_zero, List.set_cons_succ]
      refine anyE_ready [3] (by kernel_rfl) (by simp) (ReadyE.cons rfl (fun K' hK => ?_) ReadyE.nil)
      go_simp
      go_at_call 13
      refine (store_any w5 (.slice sa 7 sc) 13 (.slice none 0 0) [] (by omega) (Ints.nil _) ⟨_, _, _, rfl⟩).mono ?_
      rintro ev w6 ⟨q6, rfl, hi6, hb6⟩
      have hb6' := bthen hb5' hb6
      have HS6 := hide (unhide HSB _ hb6')
      dsimp only
      try go_simp
      refine hK _ _ (fun _ => unhide HS6) ?_
      clear hK K'
      try simp only [List.getElem_toArray, List.getElem_cons_succ, List.getElem_cons_zero, Act.put, List.setIfInBounds_toArray, List.set_cons_zero, List.set_cons_succ]
      have hh := ((unhide HM).below hb6').holds hk6 (by simp [Ev.sz, Ev.szs, numE, Ev.aE]) _ _ (hs5.below hb6) hi6
      rw [cd_badB k a] at hh
      have HH := hide hh
      clear hh
      refine anyE_ready [5] (by kernel_rfl) (by simp) (ReadyE.cons rfl (fun K' hK => ?_) ReadyE.nil)
      go_simp
      go_at_call 20
      refine (unhide HH).mono ?_
      rintro ev w7 ⟨f7, rfl, hf7, hb7⟩
      have HF7 := hide hf7
      have HB7 := hide (bthen hb6' hb7)
      have HS7a := hide (unhide HSB _ (unhide HB7))
      clear hf7 hb7
      dsimp only
      try go_simp
      refine hK _ _ (fun _ => unhide HS7a) ?_
      clear hK K'
      try simp only [List.getElem_toArray, List.getElem_cons_succ, List.getElem_cons_zero, Act.put, List.setIfInBounds_toArray, List.set_cons_zero, List.set_cons_succ]
      have hS := unhide HS7a
      refine anyE_take 6 (v := ?_) rfl (by kernel_rfl) (by kernel_rfl) (by kernel_rfl) (by kernel_rfl) (fun _ _ _ h => h) hS (Or.inl ⟨by rfl, ?_⟩) ?_
      rotate_left
      · intro w' hS'
        obtain ⟨e0, e1, e2, e3, e4, e5, e6, e7, e8, e9, e10⟩ := hS'
        go_simp
        try with_reducible rfl
      try simp only [List.getElem_toArray, List.getElem_cons_succ, List.getElem_cons_zero, Act.put, List.setIfInBounds_toArray, List.set_cons_zero, List.set_cons_succ]
      refine anyE_take 7 (v := ?_) rfl (by kernel_rfl) (by kernel_rfl) (by kernel_rfl) (by kernel_rfl) (fun _ _ _ h => h) hS (Or.inl ⟨by rfl, ?_⟩) ?_
      rotate_left
      · intro w' hS'
        obtain ⟨e0, e1, e2, e3, e4, e5, e6, e7, e8, e9, e10⟩ := hS'
        go_simp
        try with_reducible rfl
      try simp only [List.getElem_toArray, List.getElem_cons_succ, List.getElem_cons_zero, Act.put, List.setIfInBounds_toArray, List.set_cons_zero, List.set_cons_succ]
      refine anyE_take 8 (v := ?_) rfl (by kernel_rfl) (by kernel_rfl) (by kernel_rfl) (by kernel_rfl) (fun _ _ _ h => h) hS (Or.inl ⟨by rfl, ?_⟩) ?_
      rotate_left
      · intro w' hS'
        obtain ⟨e0, e1, e2, e3, e4, e5, e6, e7, e8, e9, e10⟩ := hS'
        go_simp
        try with_reducible rfl
      try simp only [List.getElem_toArray, List.getElem_cons_succ, List.getElem_cons_zero, Act.put, List.setIfInBounds_toArray, List.set_cons_zero, List.set_cons_succ]
      refine anyE_take 9 (v := ?_) rfl (by kernel_rfl) (by kernel_rfl) (by kernel_rfl) (by kernel_rfl) (fun _ _ _ h => h) hS (Or.inl ⟨by rfl, ?_⟩) ?_
      rotate_left
      · intro w' hS'
        obtain ⟨e0, e1, e2, e3, e4, e5, e6, e7, e8, e9, e10⟩ := hS'
        go_simp
        try with_reducible rfl
      try simp only [List.getElem_toArray, List.getElem_cons_succ, List.getElem_cons_zero, Act.put, List.setIfInBounds_toArray, List.set_cons_zero, List.set_cons_succ]
      refine anyE_take 10 (v := ?_) rfl (by kernel_rfl) (by kernel_rfl) (by kernel_rfl) (by kernel_rfl) (fun _ _ _ h => h) hS (Or.inl ⟨by rfl, ?_⟩) ?_
      rotate_left
      · intro w' hS'
        obtain ⟨e0, e1, e2, e3, e4, e5, e6, e7, e8, e9, e10⟩ := hS'
        go_simp
        try with_reducible rfl
      try simp only [List.getElem_toArray, List.getElem_cons_succ, List.getElem_cons_zero, Act.put, List.setIfInBounds_toArray, List.set_cons_zero, List.set_cons_succ]
      refine anyE_done (by kernel_rfl) ?_ _
      clear hS HS7a HSB HH
      have hf7 := unhide HF7
      have HS7 : Hid (Says 0 w7 f7 Ev.wSub 0 14) := HF7
      rcases hf7 with ⟨h9, _⟩ | ⟨_, q7, _, rfl, _⟩
      · exact absurd h9 (by decide)
      have HAT := hide (at_any Ev.wSub 0 14 w7)
      have HO7 := hide (bthen (unhide HM).old (bthen (unhide HM).old2 (unhide HB7)))
      clear HF7 HB7 HM
      go_wp2_with fail
      refine (unhide HAT).mono ?_
      rintro ev w8 ⟨q8, rfl, hq8, u0, u1, hb8⟩
      have HTE := hide (tells_any w8 _ _ Ev.wSub 0 14 ((unhide HG).below (bthen (unhide HO7) hb8)) ((unhide HS7).below hb8) (.inr ⟨by decide, q8, hq8, rfl, u0, u1⟩))
      have HB8 := hide hb8
      clear hb8 u0 u1 HAT
      go_wp2_with (go_at_call 17; refine (unhide HTE).mono ?_; rintro ev w9 ⟨rfl, hb9⟩; have HB9 := hide hb9; clear hb9)
      go_ret
      exact ⟨rfl, bthen (bthen (unhide HO7) (unhide HB8)) (unhide HB9)⟩
    · have h2 : ((bad : Int) / 2 % 2 == 1) = false := beq_eq_false_iff_ne.2 g2
      clear g1 g2
      obtain ⟨m0, m1, m2, m3, m4, m5, m6, m7, m8⟩ := (unhide HM0).cd
      simp only [numE, E.kind, E.n, E.name] at m1 m2 m3 m5 m6 m7
      go_upto_region 10 with fail
      clear m0 m1 m2 m3 m4 m5 m6 m7 m8
      generalize W3 = W at *
      have HM := HM0
      obtain ⟨t0, t1⟩ := (unhide HM).tc
      obtain ⟨d0, d1, d2, d3, d4, d5, d6, d7, d8⟩ := (unhide HM).cd
      have hS0 : W.cell? ⟨tb, 0, none⟩ = some (.slice sa 7 sc) ∧ W.cell? ⟨tb, 1, none⟩ = some (.int .i64 13) ∧ W.cell? ⟨cb, 0, none⟩ = some (.string ⟨(opT k).toArray⟩) ∧ W.cell? ⟨cb, 1, none⟩ = some (.int .i64 1) ∧ W.cell? ⟨cb, 2, none⟩ = some (.int .i64 a) ∧ W.cell? ⟨cb, 3, none⟩ = some (.string ⟨#[]⟩) ∧ W.cell? ⟨cb, 4, none⟩ = some (.slice none 0 0) ∧ W.cell? ⟨cb, 5, none⟩ = some (.int .i64 1) ∧ W.cell? ⟨cb, 6, none⟩ = some (.int .i64 b) ∧ W.cell? ⟨cb, 7, none⟩ = some (.string ⟨#[]⟩) ∧ W.cell? ⟨cb, 8, none⟩ = some (.slice none 0 0) := ⟨t0, t1, d0, d1, d2, d3, d4, d5, d6, d7, d8⟩
      have HSB : Hid (∀ W', Below W.heap.size W W' → W'.cell? ⟨tb, 0, none⟩ = some (.slice sa 7 sc) ∧ W'.cell? ⟨tb, 1, none⟩ = some (.int .i64 13) ∧ W'.cell? ⟨cb, 0, none⟩ = some (.string ⟨(opT k).toArray⟩) ∧ W'.cell? ⟨cb, 1, none⟩ = some (.int .i64 1) ∧ W'.cell? ⟨cb, 2, none⟩ = some (.int .i64 a) ∧ W'.cell? ⟨cb, 3, none⟩ = some (.string ⟨#[]⟩) ∧ W'.cell? ⟨cb, 4, none⟩ = some (.slice none 0 0) ∧ W'.cell? ⟨cb, 5, none⟩ = some (.int .i64 1) ∧ W'.cell? ⟨cb, 6, none⟩ = some (.int .i64 b) ∧ W'.cell? ⟨cb, 7, none⟩ = some (.string ⟨#[]⟩) ∧ W'.cell? ⟨cb, 8, none⟩ = some (.slice none 0 0)) := hide (fun W' h => by
        have hk : ∀ b o (v : Value), W.cell? ⟨b, o, none⟩ = some v → W'.cell? ⟨b, o, none⟩ = some v := fun b o v hv => (h.cell (p := ⟨b, o, none⟩) (cell_lt hv)).trans hv
        exact ⟨hk _ _ _ t0, hk _ _ _ t1, hk _ _ _ d0, hk _ _ _ d1, hk _ _ _ d2, hk _ _ _ d3, hk _ _ _ d4, hk _ _ _ d5, hk _ _ _ d6, hk _ _ _ d7, hk _ _ _ d8⟩)
      clear t0 t1 d0 d1 d2 d3 d4 d5 d6 d7 d8
      refine wp_regionE (fun W => W.cell? ⟨tb, 0, none⟩ = some (.slice sa 7 sc) ∧ W.cell? ⟨tb, 1, none⟩ = some (.int .i64 13) ∧ W.cell? ⟨cb, 0, none⟩ = some (.string ⟨(opT k).toArray⟩) ∧ W.cell? ⟨cb, 1, none⟩ = some (.int .i64 1) ∧ W.cell? ⟨cb, 2, none⟩ = some (.int .i64 a) ∧ W.cell? ⟨cb, 3, none⟩ = some (.string ⟨#[]⟩) ∧ W.cell? ⟨cb, 4, none⟩ = some (.slice none 0 0) ∧ W.cell? ⟨cb, 5, none⟩ = some (.int .i64 1) ∧ W.cell? ⟨cb, 6, none⟩ = some (.int .i64 b) ∧ W.cell? ⟨cb, 7, none⟩ = some (.string ⟨#[]⟩) ∧ W.cell? ⟨cb, 8, none⟩ = some (.slice none 0 0)) (fun j => decide (j < 11)) (by kernel_rfl) hS0 (fun hS => ?_)
      clear hS0
      have hd : Below W.heap.size W W.drew := below_drewN (Below.refl _ _) 1
      refine anyE_take 0 (v := ?_) rfl (by kernel_rfl) (by kernel_rfl) (by kernel_rfl) (by kernel_rfl) (fun _ _ _ h => h) hS (Or.inl ⟨by rfl, ?_⟩) ?_
      rotate_left
      · intro w' hS'
        obtain ⟨e0, e1, e2, e3, e4, e5, e6, e7, e8, e9, e10⟩ := hS'
        go_simp
        try with_reducible rfl
      try simp only [List.getElem_toArray, List.getElem_cons_zero, Act.put, List.setIfInBounds_toArray, List.set_cons_zero, List.set_cons_succ]
      refine anyE_take 2 (v := ?_) rfl (by kernel_rfl) (by kernel_rfl) (by kernel_rfl) (by kernel_rfl) (fun _ _ _ h => h) hS (Or.inl ⟨by rfl, ?_⟩) ?_
      rotate_left
      · intro w' hS'
        obtain ⟨e0, e1, e2, e3, e4, e5, e6, e7, e8, e9, e10⟩ := hS'
        go_simp
        try with_reducible rfl
      try simp only [List.getElem_toArray, List.getElem_cons_succ, List.getElem_cons_zero, Act.put, List.setIfInBounds_toArray, List.set_cons_zero, List.set_cons_succ]
      refine anyE_take 4 (v := ?_) rfl (by kernel_rfl) (by kernel_rfl) (by kernel_rfl) (by kernel_rfl) (fun _ _ _ h => h) hS (Or.inl ⟨by rfl, ?_⟩) ?_
      rotate_left
      · intro w' hS'
        obtain ⟨e0, e1, e2, e3, e4, e5, e6, e7, e8, e9, e10⟩ := hS'
        go_simp
        try with_reducible rfl
      try simp only [List.getElem_toArray, List.getElem_cons_succ, List.getElem_cons_zero, Act.put, List.setIfInBounds_toArray, List.set_cons_zero, List.set_cons_succ]
      refine anyE_ready [1] (by kernel_rfl) (by simp) (ReadyE.cons rfl (fun K' hK => ?_) ReadyE.nil)
      go_simp
      go_at_call 15
      refine (toTab_any W.drew (.slice sa 7 sc) 13 _ ((unhide HM).sy2.below (bthen (unhide HM).old2 hd)) (by simp [Ev.tabN])).mono ?_
      rintro ev w5 ⟨sv5, rfl, hs5, hb5⟩
      have hb5' := hd.trans hb5
      have HS5 := hide (unhide HSB _ hb5')
      obtain ⟨sa5, sc5, rfl⟩ : ∃ a c, sv5 = .slice a 7 c := hs5.shape
      dsimp only
      try go_simp
      refine hK _ _ (fun _ => unhide HS5) ?_
      clear hK K'
      try simp only [List.getElem_toArray, List.getElem_cons_succ, List.getElem_cons_zero, Act.put, List.setIfInBounds_toArray, List.set_cons_zero, List.set_cons_succ]
      refine anyE_ready [3] (by kernel_rfl) (by simp) (ReadyE.cons rfl (fun K' hK => ?_) ReadyE.nil)
      go_simp
      go_at_call 13
      refine (store_any w5 (.slice sa 7 sc) 13 (.slice none 0 0) [] (by omega) (Ints.nil _) ⟨_, _, _, rfl⟩).mono ?_
      rintro ev w6 ⟨q6, rfl, hi6, hb6⟩
      have hb6' := bthen hb5' hb6
      have HS6 := hide (unhide HSB _ hb6')
      dsimp only
      try go_simp
      refine hK _ _ (fun _ => unhide HS6) ?_
      clear hK K'
      try simp only [List.getElem_toArray, List.getElem_cons_succ, List.getElem_cons_zero, Act.put, List.setIfInBounds_toArray, List.set_cons_zero, List.set_cons_succ]
      have hh := ((unhide HM).below hb6').holds hk6 (by simp [Ev.sz, Ev.szs, numE]) _ _ (hs5.below hb6) hi6
      rw [cd_none k a b] at hh
      have HH := hide hh
      clear hh
      refine anyE_ready [5] (by kernel_rfl) (by simp) (ReadyE.cons rfl (fun K' hK => ?_) ReadyE.nil)
      go_simp
      go_at_call 20
      refine (unhide HH).mono ?_
      rintro ev w7 ⟨f7, rfl, hf7, hb7⟩
      have HF7 := hide hf7
      have HB7 := hide (bthen hb6' hb7)
      have HS7a := hide (unhide HSB _ (unhide HB7))
      clear hf7 hb7
      dsimp only
      try go_simp
      refine hK _ _ (fun _ => unhide HS7a) ?_
      clear hK K'
      try simp only [List.getElem_toArray, List.getElem_cons_succ, List.getElem_cons_zero, Act.put, List.setIfInBounds_toArray, List.set_cons_zero, List.set_cons_succ]
      have hS := unhide HS7a
      refine anyE_take 6 (v := ?_) rfl (by kernel_rfl) (by kernel_rfl) (by kernel_rfl) (by kernel_rfl) (fun _ _ _ h => h) hS (Or.inl ⟨by rfl, ?_⟩) ?_
      rotate_left
      · intro w' hS'
        obtain ⟨e0, e1, e2, e3, e4, e5, e6, e7, e8, e9, e10⟩ := hS'
        go_simp
        try with_reducible rfl
      try simp only [List.getElem_toArray, List.getElem_cons_succ, List.getElem_cons_zero, Act.put, List.setIfInBounds_toArray, List.set_cons_zero, List.set_cons_succ]
      refine anyE_take 7 (v := ?_) rfl (by kernel_rfl) (by kernel_rfl) (by kernel_rfl) (by kernel_rfl) (fun _ _ _ h => h) hS (Or.inl ⟨by rfl, ?_⟩) ?_
      rotate_left
      · intro w' hS'
        obtain ⟨e0, e1, e2, e3, e4, e5, e6, e7, e8, e9, e10⟩ := hS'
        go_simp
        try with_reducible rfl
      try simp only [List.getElem_toArray, List.getElem_cons_succ, List.getElem_cons_zero, Act.put, List.setIfInBounds_toArray, List.set_cons_zero, List.set_cons_succ]
      refine anyE_take 8 (v := ?_) rfl (by kernel_rfl) (by kernel_rfl) (by kernel_rfl) (by kernel_rfl) (fun _ _ _ h => h) hS (Or.inl ⟨by rfl, ?_⟩) ?_
      rotate_left
      · intro w' hS'
        obtain ⟨e0, e1, e2, e3, e4, e5, e6, e7, e8, e9, e10⟩ := hS'
        go_simp
        try with_reducible rfl
      try simp only [List.getElem_toArray, List.getElem_cons_succ, List.getElem_cons_zero, Act.put, List.setIfInBounds_toArray, List.set_cons_zero, List.set_cons_succ]
      refine anyE_take 9 (v := ?_) rfl (by kernel_rfl) (by kernel_rfl) (by kernel_rfl) (by kernel_rfl) (fun _ _ _ h => h) hS (Or.inl ⟨by rfl, ?_⟩) ?_
      rotate_left
      · intro w' hS'
        obtain ⟨e0, e1, e2, e3, e4, e5, e6, e7, e8, e9, e10⟩ := hS'
        go_simp
        try with_reducible rfl
      try simp only [List.getElem_toArray, List.getElem_cons_succ, List.getElem_cons_zero, Act.put, List.setIfInBounds_toArray, List.set_cons_zero, List.set_cons_succ]
      refine anyE_take 10 (v := ?_) rfl (by kernel_rfl) (by kernel_rfl) (by kernel_rfl) (by kernel_rfl) (fun _ _ _ h => h) hS (Or.inl ⟨by rfl, ?_⟩) ?_
      rotate_left
      · intro w' hS'
        obtain ⟨e0, e1, e2, e3, e4, e5, e6, e7, e8, e9, e10⟩ := hS'
        go_simp
        try with_reducible rfl
      try simp only [List.getElem_toArray, List.getElem_cons_succ, List.getElem_cons_zero, Act.put, List.setIfInBounds_toArray, List.set_cons_zero, List.set_cons_succ]
      refine anyE_done (by kernel_rfl) ?_ _
      clear hS HS7a HSB HH
      obtain rfl := says_ok (unhide HF7)
      have HO7 := hide (bthen (unhide HM).old (bthen (unhide HM).old2 (unhide HB7)))
      have hkk : k = 0 ∨ k = 1 ∨ k = 2 ∨ k = 3 ∨ k = 4 ∨ k = 5 := by omega
      clear HF7 HB7 HM
      rcases hkk with rfl | rfl | rfl | rfl | rfl | rfl
      all_goals
        go_wp2
        go_ret
        exact ⟨ret_bool (by simp [cmpK]), bthen (unhide HO7) (alloc_below _ _)⟩
end Go.Proofs.YthpgcpbcbhpbcaaDoor.Line
