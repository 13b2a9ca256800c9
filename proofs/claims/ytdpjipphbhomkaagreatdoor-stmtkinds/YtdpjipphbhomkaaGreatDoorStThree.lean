/- The contract of the statement reader's statement: declarations, heads of loops, settings.
   The contract of the statement reader's statement: settings, reads, prints.
   The contract of the statement reader's statement: reads, prints.
   The contract of the statement reader's cond, over that of the project's ParseCond.
   The contract of the statement reader's statement: if.
   The contract of the project's stmt.Parse, over one of statement, where the line has words.
   The contract of the project's stmt.Parse, over one of statement, whatever is wrong. -/
import Derived.Test.YtdpjipphbhomkaaGreatDoorStTwo
import Derived.Test.YtdpjipphbhomkaaGreatDoorExprAll
import Derived.Test.YtdpjipphbhomkaaGreatDoorTokAll
import Derived.Laws.ResultCell
import Derived.Deep.RegionLaw
namespace Go.Proofs.YtdpjipphbhomkaaGreatDoor.Line
open Go.ChangeShapes Go.WideShapes Go.ChangeAt Go.RowKit
open Ex (E St)
set_option linter.unusedVariables false

theorem itemsMono {base base' : Nat} {w : World} {v : Value} {m : List Itm} (h : ItemsAt base' w v m) (hb : base ≤ base') : ItemsAt base w v m := by
  refine ⟨?_, fun x hx => (h.dims x hx).mono hb⟩
  obtain ⟨h1, h2⟩ := h.own
  refine ⟨h1, ?_⟩
  rcases h2 with h2 | ⟨g, cap, cur, hv, hg, r⟩
  · exact .inl h2
  · exact .inr ⟨g, cap, cur, hv, Nat.le_trans hb hg, r⟩
def KindIs (T : List Words.T) (L : Value) (rb : Nat) (w : World) (k : Int) (p : Nat) (er : SE) : Prop := ∀ W, Below w.heap.size w W → Calls Tryz.prog 52 #[.pointer (some ⟨rb, 0, none⟩)] W fun e w' => e = .returned (.int .i64 k) ∧ SR T L rb w' p er ∧ But rb W w'
set_option maxHeartbeats 8000000 in
set_option maxRecDepth 100000 in
theorem stmt_decl (T : List Words.T) (L : Value) (rb : Nat) (w : World) (p : Nat) (er : SE) (hl : rb < w.heap.size) (hlw : ∀ q, L.ownBlock = some q → q < w.heap.size) (hN : NumOk T) (HK : KindIs T L rb w 1 p er) : Calls Tryz.prog 21 #[.pointer (some ⟨rb, 0, none⟩)] w fun e w' => ∃ v m, e = .returned (.agg ((stZ 1).setIfInBounds 1 v)) ∧ (∃ a n c, v = .slice a n c) ∧ ItemsAt (w.heap.size + 1) w' v m ∧ plainI m = (itemsR T (T.length + 1) [] p er).1 ∧ SR T L rb w' (itemsR T (T.length + 1) [] p er).2.1 (itemsR T (T.length + 1) [] p er).2.2 ∧ But rb w w' := by
  have ba := alloc_below w (.cells (stZ 0) STT)
  have HKA := hide (HK _ ba)
  have HLW := hide hlw
  have HN := hide hN
  clear HK ba hlw hN
  go_enter Tryz.func21, Tryz.ntmps21
  go_wp2_with fail
  refine (unhide HKA).mono ?_
  rintro e w3 ⟨rfl, h3, hb3⟩
  have HM := hide (midSt_start 1 h3 hb3 hl (unhide HLW))
  clear h3 hb3
  go_wp2_with (refine wpList_storeNew rfl _ _ rfl _ _ rfl rfl rfl rfl (by kernel_rfl) ?_)
  generalize w3.alloc (.cells (stZ 1) STT) = W4 at *
  generalize w3.heap.size = q at *
  refine (items_any T L rb W4 p er (unhide HM).rd (unhide HN)).mono ?_
  rintro e w5 ⟨v, m, rfl, hi5, hp5, h5, hb5⟩
  obtain ⟨a, c, hv⟩ := hi5.own.shape
  generalize m.length = n at hv
  subst hv
  have HM5 := hide ((unhide HM).call h5 hb5)
  have HM6 := hide ((unhide HM5).set 1 (.slice a n c) (fun _ => ⟨a, n, c, rfl⟩))
  have d1 := (unhide HM5).var.cell 1 (.slice none 0 0) rfl
  have f1 := (unhide HM5).var.frozen 1
  have hq := (unhide HM).qq
  have hqs := (unhide HM).var.lt
  have hi6 : ItemsAt (w.heap.size + 1) (w5.setCell ⟨q, 1, none⟩ (.slice a n c)) (.slice a n c) m := by
    have hb6 := ((unhide HM5).var.set 1 (.slice a n c)).2
    exact itemsMono (hi5.but hb6 hqs) (by omega)
  have H6 := hide (And.intro hi6 hp5)
  clear h5 hb5 hi5 hp5 hi6
  go_upto_region 24 with fail
  generalize w5.setCell ⟨q, 1, none⟩ (.slice a n c) = W6 at *
  clear d1 f1
  obtain ⟨z1, z2, z3, z4⟩ := (unhide HM6).done
  have HZ := hide (And.intro z1 (And.intro z2 (And.intro z3 ((unhide H6).1.but z4 (by omega)))))
  clear z1 z2 z3 z4
  have hone : ((stZ 1).setIfInBounds 1 (.slice a n c)).all (·.oneCell') = true := by kernel_rfl
  have hsz : ((stZ 1).setIfInBounds 1 (.slice a n c)).size = 29 := rfl
  generalize hcs : (stZ 1).setIfInBounds 1 (.slice a n c) = cs at *
  go_wp2_with (first | (refine wpList_loadRow rfl _ rfl _ _ rfl (unhide HM6).var ?_) | (refine wpList_storeRow rfl _ _ rfl _ _ _ rfl rfl (unhide HM6).res hsz hone ?_))
  exact bodyPost_ret (results_cell_row rfl _ _ w.heap.size STT cs (0, 0) _ rfl (unhide HZ).1.1 Tryz.underlying30 rfl (by rw [hsz]; exact infoS)) rfl ⟨.slice a n c, m, by rw [hcs], ⟨a, n, c, rfl⟩, (unhide HZ).2.2.2, (unhide H6).2, (unhide HZ).2.1, (unhide HZ).2.2.1⟩
theorem but_setc4 (q : Nat) (w : World) (i : Nat) (a b c d : Value) : But q w ((((w.setCell ⟨q, i, none⟩ a).setCell ⟨q, i + 1, none⟩ b).setCell ⟨q, i + 2, none⟩ c).setCell ⟨q, i + 3, none⟩ d) := (((set_but q w i a).trans (set_but q _ (i + 1) b)).trans (set_but q _ (i + 2) c)).trans (set_but q _ (i + 3) d)
theorem MidSt.glob {T : List Words.T} {L : Value} {rb : Nat} {w W : World} {q : Nat} {cs : Array Value} {p : Nat} {er : SE} (h : MidSt T L rb w W q cs p er) (hG : Glob w) (hr : 0 < rb) : Glob W := (h.old.cell (p := ⟨0, 0, none⟩) (cell_lt hG) (show 0 ≠ rb by omega)).trans hG
theorem forestBut {w w' : World} {l : List E} {v : Value} {q g : Nat} (h : Forest w (fun b => q < b) l v) (hb : But g w w') (hg : g ≤ q) : Forest w' (fun b => q < b) l v := h.keep (fun b hS hl => hb.block b hl (fun e => by injection e with e; omega)) (fun b hS hl => hS)
abbrev doV (nm : List UInt8) (x : E) (sx : Value) (y : E) (sy : Value) (st : Int) : Array Value := #[.int .i64 3, .slice none 0 0, .int .i64 0, .int .i64 0, .string ⟨#[]⟩, .slice none 0 0, .int .i64 0, .int .i64 0, .string ⟨#[]⟩, .slice none 0 0, .string ⟨#[]⟩, .int .i64 0, .int .i64 0, .string ⟨#[]⟩, .slice none 0 0, .int .i64 0, .int .i64 0, .string ⟨#[]⟩, .slice none 0 0, .string ⟨nm.toArray⟩, .int .i64 x.kind, .int .i64 x.n, .string ⟨x.name.toArray⟩, sx, .int .i64 y.kind, .int .i64 y.n, .string ⟨y.name.toArray⟩, sy, .int .i64 st]
abbrev do1 (nm : List UInt8) (x : E) (sx : Value) : Array Value := #[.int .i64 3, .slice none 0 0, .int .i64 0, .int .i64 0, .string ⟨#[]⟩, .slice none 0 0, .int .i64 0, .int .i64 0, .string ⟨#[]⟩, .slice none 0 0, .string ⟨#[]⟩, .int .i64 0, .int .i64 0, .string ⟨#[]⟩, .slice none 0 0, .int .i64 0, .int .i64 0, .string ⟨#[]⟩, .slice none 0 0, .string ⟨nm.toArray⟩, .int .i64 x.kind, .int .i64 x.n, .string ⟨x.name.toArray⟩, sx, .int .i64 0, .int .i64 0, .string ⟨#[]⟩, .slice none 0 0, .int .i64 0]
theorem do1_eq (nm : List UInt8) (x : E) (sx : Value) : (((((stZ 3).setIfInBounds 19 (.string ⟨nm.toArray⟩)).setIfInBounds 20 (.int .i64 x.kind)).setIfInBounds (20 + 1) (.int .i64 x.n)).setIfInBounds (20 + 2) (.string ⟨x.name.toArray⟩)).setIfInBounds (20 + 3) sx = do1 nm x sx := rfl
theorem do2_eq (nm : List UInt8) (x : E) (sx : Value) (y : E) (sy : Value) : ((((do1 nm x sx).setIfInBounds 24 (.int .i64 y.kind)).setIfInBounds (24 + 1) (.int .i64 y.n)).setIfInBounds (24 + 2) (.string ⟨y.name.toArray⟩)).setIfInBounds (24 + 3) sy = doV nm x sx y sy 0 := rfl
theorem do3_eq (nm : List UInt8) (x : E) (sx : Value) (y : E) (sy : Value) (st : Int) : (doV nm x sx y sy 0).setIfInBounds 28 (.int .i64 st) = doV nm x sx y sy st := rfl
def DoR (T : List Words.T) (p : Nat) (er : SE) (nm : List UInt8) (x y : E) (st : Int) (p' : Nat) (er' : SE) : Prop :=
  nm = nameAt T p (isKind T p er 1) ∧ ∃ p1 e1 pa ea p2 e2 pb eb p4 e4, p1 = nextP (isKind T p er 1) p ∧ e1 = mustE (isKind T p er 1) er p ∧ pa = nextP (isNext T p1 e1 [61]) p1 ∧ ea = mustE (isNext T p1 e1 [61]) e1 p1 ∧ XR T pa T.length ea x p2 e2 ∧ pb = nextP (isNext T p2 e2 [44]) p2 ∧ eb = mustE (isNext T p2 e2 [44]) e2 p2 ∧ XR T pb T.length eb y p4 e4 ∧ (st, p', er') = stepR T p4 e4
set_option maxHeartbeats 16000000 in
set_option maxRecDepth 100000 in
theorem stmt_do (HPARSE : ParseSpec) (T : List Words.T) (L : Value) (rb : Nat) (w : World) (p : Nat) (er : SE) (hl : rb < w.heap.size) (h0 : 0 < rb) (hlw : ∀ q, L.ownBlock = some q → q < w.heap.size) (hN : NumOk T) (hG : Glob w) (HK : KindIs T L rb w 3 p er) : Calls Tryz.prog 21 #[.pointer (some ⟨rb, 0, none⟩)] w fun e w' => ∃ nm x y st a n c a' n' c' p' er', DoR T p er nm x y st p' er' ∧ e = .returned (.agg (doV nm x (.slice a n c) y (.slice a' n' c') st)) ∧ Forest w' (fun b => w.heap.size < b) x.a (.slice a n c) ∧ Forest w' (fun b => w.heap.size < b) y.a (.slice a' n' c') ∧ SR T L rb w' p' er' ∧ But rb w w' := by
  have ba := alloc_below w (.cells (stZ 0) STT)
  have HKA := hide (HK _ ba)
  have HLW := hide hlw
  have HN := hide hN
  have HG := hide hG
  have HPA := hide HPARSE
  clear HK ba hlw hN hG HPARSE
  go_enter Tryz.func21, Tryz.ntmps21
  go_wp2_with fail
  refine (unhide HKA).mono ?_
  rintro e w3 ⟨rfl, h3, hb3⟩
  have HM := hide (midSt_start 3 h3 hb3 hl (unhide HLW))
  clear h3 hb3 HKA
  go_wp2_with (refine wpList_storeNew rfl _ _ rfl _ _ rfl rfl rfl rfl (by kernel_rfl) ?_)
  generalize w3.alloc (.cells (stZ 3) STT) = W4 at *
  generalize w3.heap.size = q at *
  refine (name_any T L rb W4 p er (unhide HM).rd).mono ?_
  rintro e w5 ⟨rfl, h5, hb5⟩
  have HR0 : Hid ((nameAt T p (isKind T p er 1)) = (nameAt T p (isKind T p er 1)) ∧ nextP (isKind T p er 1) p = nextP (isKind T p er 1) p ∧ mustE (isKind T p er 1) er p = mustE (isKind T p er 1) er p) := hide ⟨rfl, rfl, rfl⟩
  generalize hnm : nameAt T p (isKind T p er 1) = nm at *
  generalize hp1 : nextP (isKind T p er 1) p = p1 at *
  generalize he1 : mustE (isKind T p er 1) er p = e1 at *
  have HM5 := hide ((unhide HM).call h5 hb5)
  have HM6 := hide ((unhide HM5).set 19 (.string ⟨nm.toArray⟩) (fun e => by omega))
  have d1 := (unhide HM5).var.cell 19 (.string ⟨#[]⟩) rfl
  have f1 := (unhide HM5).var.frozen 19
  have HE0 := hide (And.intro hnm (And.intro hp1 he1))
  clear h5 hb5 hnm hp1 he1 HR0
  go_wp2_with fail
  generalize w5.setCell ⟨q, 19, none⟩ (.string ⟨nm.toArray⟩) = W6 at *
  clear d1 f1 HM5 HM
  refine (must_any T L rb W6 p1 e1 [61] (unhide HM6).rd).mono ?_
  rintro e w7 ⟨rfl, h7, hb7⟩
  generalize hpa : nextP (isNext T p1 e1 [61]) p1 = pa at *
  generalize hea : mustE (isNext T p1 e1 [61]) e1 p1 = ea at *
  have HM7 := hide ((unhide HM6).call h7 hb7)
  have HE1 := hide (And.intro hpa hea)
  clear h7 hb7 hpa hea HM6
  have HX7 := hide (expr_any (unhide HPA) T L rb w7 pa T.length ea (unhide HM7).rd ((unhide HM7).glob (unhide HG) h0) (unhide HM7).rd.hp (Nat.le_refl _))
  obtain ⟨la, lc, hLe⟩ := (unhide HM7).rd.tks.shape
  have c0 := (unhide HM7).rd.c0
  have hT := (unhide HM7).rd.ht
  rw [hLe] at c0
  go_wp2_with fail
  refine (unhide HX7).mono ?_
  rintro e w8 ⟨x, a, n, c, p2, e2, hx8, rfl, hf8, h8, hb8⟩
  have HM8 := hide ((unhide HM7).call h8 hb8)
  have hq7 := (unhide HM7).var.lt
  have hf8' : Forest w8 (fun b => q < b) x.a (.slice a n c) := hf8.mono (fun b hS _ => by omega)
  have HM9 := hide ((unhide HM8).set4 20 (by decide) (.int .i64 x.kind) (.int .i64 x.n) (.string ⟨x.name.toArray⟩) (.slice a n c))
  rw [do1_eq] at HM9
  have hb9 := but_setc4 q w8 20 (.int .i64 x.kind) (.int .i64 x.n) (.string ⟨x.name.toArray⟩) (.slice a n c)
  have HF9 := hide (forestBut hf8' hb9 (Nat.le_refl _))
  have HE2 := hide hx8
  have d1 := (unhide HM8).var.cell 20 (.int .i64 0) rfl
  have d2 := (unhide HM8).var.cell 21 (.int .i64 0) rfl
  have d3 := (unhide HM8).var.cell 22 (.string ⟨#[]⟩) rfl
  have d4 := (unhide HM8).var.cell 23 (.slice none 0 0) rfl
  have f1 := (unhide HM8).var.frozen 20
  have f2 := (unhide HM8).var.frozen 21
  have f3 := (unhide HM8).var.frozen 22
  have f4 := (unhide HM8).var.frozen 23
  clear h8 hb8 hf8 hf8' hb9 hx8 c0 HX7 HM7
  go_wp2_with fail
  generalize (((w8.setCell ⟨q, 20, none⟩ (.int .i64 x.kind)).setCell ⟨q, 21, none⟩ (.int .i64 x.n)).setCell ⟨q, 22, none⟩ (.string ⟨x.name.toArray⟩)).setCell ⟨q, 23, none⟩ (.slice a n c) = W9 at *
  clear d1 d2 d3 d4 f1 f2 f3 f4 HM8
  refine (must_any T L rb W9 p2 e2 [44] (unhide HM9).rd).mono ?_
  rintro e w10 ⟨rfl, h10, hb10⟩
  generalize hpb : nextP (isNext T p2 e2 [44]) p2 = pb at *
  generalize heb : mustE (isNext T p2 e2 [44]) e2 p2 = eb at *
  have hqq := (unhide HM9).qq
  have HM10 := hide ((unhide HM9).call h10 hb10)
  have HF10 := hide (forestBut (unhide HF9) hb10 (by omega))
  have HE3 := hide (And.intro hpb heb)
  clear h10 hb10 hpb heb HM9 HF9
  have HX10 := hide (expr_any (unhide HPA) T L rb w10 pb T.length eb (unhide HM10).rd ((unhide HM10).glob (unhide HG) h0) (unhide HM10).rd.hp (Nat.le_refl _))
  have c0 := (unhide HM10).rd.c0
  rw [hLe] at c0
  go_wp2_with fail
  refine (unhide HX10).mono ?_
  rintro e w11 ⟨y, a', n', c', p4, e4, hx11, rfl, hf11, h11, hb11⟩
  have HM11 := hide ((unhide HM10).call h11 hb11)
  have hq10 := (unhide HM10).var.lt
  have hf11' : Forest w11 (fun b => q < b) y.a (.slice a' n' c') := hf11.mono (fun b hS _ => by omega)
  have HM12 := hide ((unhide HM11).set4 24 (by decide) (.int .i64 y.kind) (.int .i64 y.n) (.string ⟨y.name.toArray⟩) (.slice a' n' c'))
  rw [do2_eq] at HM12
  have hb12 := but_setc4 q w11 24 (.int .i64 y.kind) (.int .i64 y.n) (.string ⟨y.name.toArray⟩) (.slice a' n' c')
  have HF12 := hide (And.intro (forestBut (forestBut (unhide HF10) hb11 (by omega)) hb12 (Nat.le_refl _)) (forestBut hf11' hb12 (Nat.le_refl _)))
  have HE4 := hide hx11
  have d1 := (unhide HM11).var.cell 24 (.int .i64 0) rfl
  have d2 := (unhide HM11).var.cell 25 (.int .i64 0) rfl
  have d3 := (unhide HM11).var.cell 26 (.string ⟨#[]⟩) rfl
  have d4 := (unhide HM11).var.cell 27 (.slice none 0 0) rfl
  have f1 := (unhide HM11).var.frozen 24
  have f2 := (unhide HM11).var.frozen 25
  have f3 := (unhide HM11).var.frozen 26
  have f4 := (unhide HM11).var.frozen 27
  clear h11 hb11 hf11 hf11' hb12 hx11 c0 HX10 HM10 HF10
  go_wp2_with fail
  generalize (((w11.setCell ⟨q, 24, none⟩ (.int .i64 y.kind)).setCell ⟨q, 25, none⟩ (.int .i64 y.n)).setCell ⟨q, 26, none⟩ (.string ⟨y.name.toArray⟩)).setCell ⟨q, 27, none⟩ (.slice a' n' c') = W12 at *
  clear d1 d2 d3 d4 f1 f2 f3 f4 HM11
  have hst := step_any T L rb W12 p4 e4 (unhide HM12).rd (unhide HN)
  obtain ⟨⟨st, p', er'⟩, hR⟩ : ∃ R, stepR T p4 e4 = R := ⟨_, rfl⟩
  rw [hR] at hst
  have HST : Hid (Calls Tryz.prog 57 #[.pointer (some ⟨rb, 0, none⟩)] W12 fun e w' => e = .returned (.int .i64 st) ∧ SR T L rb w' p' er' ∧ But rb W12 w') := hide hst
  have HE5 := hide hR.symm
  clear hst
  refine (unhide HST).mono ?_
  rintro e w13 ⟨rfl, h13, hb13⟩
  have HM13 := hide ((unhide HM12).call h13 hb13)
  have HM14 := hide ((unhide HM13).set 28 (.int .i64 st) (fun e => by omega))
  rw [do3_eq] at HM14
  have hb14 := set_but q w13 28 (.int .i64 st)
  have HF14 := hide (And.intro (forestBut (forestBut (unhide HF12).1 hb13 (by omega)) hb14 (Nat.le_refl _)) (forestBut (forestBut (unhide HF12).2 hb13 (by omega)) hb14 (Nat.le_refl _)))
  have d1 := (unhide HM13).var.cell 28 (.int .i64 0) rfl
  have f1 := (unhide HM13).var.frozen 28
  clear h13 hb13 hb14 hR HM12 HF12
  go_upto_region 24 with fail
  generalize w13.setCell ⟨q, 28, none⟩ (.int .i64 st) = W14 at *
  clear d1 f1 HM13
  obtain ⟨z1, z2, z3, z4⟩ := (unhide HM14).done
  have HZ := hide (And.intro z1 (And.intro z2 (And.intro z3 (And.intro ((forestBut (unhide HF14).1 z4 (by omega)).mono (S' := fun b => w.heap.size < b) (fun b hS _ => by omega)) ((forestBut (unhide HF14).2 z4 (by omega)).mono (S' := fun b => w.heap.size < b) (fun b hS _ => by omega))))))
  clear z1 z2 z3 z4 HF14
  have HDR : Hid (DoR T p er nm x y st p' er') := hide ⟨(unhide HE0).1.symm, p1, e1, pa, ea, p2, e2, pb, eb, p4, e4, (unhide HE0).2.1.symm, (unhide HE0).2.2.symm, (unhide HE1).1.symm, (unhide HE1).2.symm, unhide HE2, (unhide HE3).1.symm, (unhide HE3).2.symm, unhide HE4, unhide HE5⟩
  have hone : (doV nm x (.slice a n c) y (.slice a' n' c') st).all (·.oneCell') = true := by kernel_rfl
  have hsz : (doV nm x (.slice a n c) y (.slice a' n' c') st).size = 29 := rfl
  go_wp2_with (first | (refine wpList_loadRow rfl _ rfl _ _ rfl (unhide HM14).var ?_) | (refine wpList_storeRow rfl _ _ rfl _ _ _ rfl rfl (unhide HM14).res hsz hone ?_))
  exact bodyPost_ret (results_cell_row rfl _ _ w.heap.size STT (doV nm x (.slice a n c) y (.slice a' n' c') st) (0, 0) _ rfl (unhide HZ).1.1 Tryz.underlying30 rfl infoS) rfl ⟨nm, x, y, st, a, n, c, a', n', c', p', er', unhide HDR, rfl, (unhide HZ).2.2.2.1, (unhide HZ).2.2.2.2, (unhide HZ).2.1, (unhide HZ).2.2.1⟩
end Go.Proofs.YtdpjipphbhomkaaGreatDoor.Line

namespace Go.Proofs.YtdpjipphbhomkaaGreatDoor.Line
open Go.ChangeShapes Go.WideShapes Go.ChangeAt Go.RowKit
open Ex (E St)
set_option linter.unusedVariables false

abbrev toV (k : Int) (x : E) (sx : Value) : Array Value := #[.int .i64 k, .slice none 0 0, .int .i64 x.kind, .int .i64 x.n, .string ⟨x.name.toArray⟩, sx, .int .i64 0, .int .i64 0, .string ⟨#[]⟩, .slice none 0 0, .string ⟨#[]⟩, .int .i64 0, .int .i64 0, .string ⟨#[]⟩, .slice none 0 0, .int .i64 0, .int .i64 0, .string ⟨#[]⟩, .slice none 0 0, .string ⟨#[]⟩, .int .i64 0, .int .i64 0, .string ⟨#[]⟩, .slice none 0 0, .int .i64 0, .int .i64 0, .string ⟨#[]⟩, .slice none 0 0, .int .i64 0]
abbrev setV (k : Int) (x : E) (sx : Value) (y : E) (sy : Value) : Array Value := #[.int .i64 k, .slice none 0 0, .int .i64 x.kind, .int .i64 x.n, .string ⟨x.name.toArray⟩, sx, .int .i64 y.kind, .int .i64 y.n, .string ⟨y.name.toArray⟩, sy, .string ⟨#[]⟩, .int .i64 0, .int .i64 0, .string ⟨#[]⟩, .slice none 0 0, .int .i64 0, .int .i64 0, .string ⟨#[]⟩, .slice none 0 0, .string ⟨#[]⟩, .int .i64 0, .int .i64 0, .string ⟨#[]⟩, .slice none 0 0, .int .i64 0, .int .i64 0, .string ⟨#[]⟩, .slice none 0 0, .int .i64 0]
theorem to_eq (k : Int) (x : E) (sx : Value) : ((((stZ k).setIfInBounds 2 (.int .i64 x.kind)).setIfInBounds (2 + 1) (.int .i64 x.n)).setIfInBounds (2 + 2) (.string ⟨x.name.toArray⟩)).setIfInBounds (2 + 3) sx = toV k x sx := rfl
theorem set_eq (k : Int) (x : E) (sx : Value) (y : E) (sy : Value) : ((((toV k x sx).setIfInBounds 6 (.int .i64 y.kind)).setIfInBounds (6 + 1) (.int .i64 y.n)).setIfInBounds (6 + 2) (.string ⟨y.name.toArray⟩)).setIfInBounds (6 + 3) sy = setV k x sx y sy := rfl
def SetR (T : List Words.T) (p : Nat) (er : SE) (x y : E) (p' : Nat) (er' : SE) : Prop :=
  ∃ p1 e1 pa ea, TR T p er x p1 e1 ∧ pa = nextP (isNext T p1 e1 [61]) p1 ∧ ea = mustE (isNext T p1 e1 [61]) e1 p1 ∧ XR T pa T.length ea y p' er'
set_option maxHeartbeats 16000000 in
set_option maxRecDepth 100000 in
theorem stmt_set (HPARSE : ParseSpec) (T : List Words.T) (L : Value) (rb : Nat) (w : World) (p : Nat) (er : SE) (hl : rb < w.heap.size) (h0 : 0 < rb) (hlw : ∀ q, L.ownBlock = some q → q < w.heap.size) (hG : Glob w) (HK : KindIs T L rb w 2 p er) : Calls Tryz.prog 21 #[.pointer (some ⟨rb, 0, none⟩)] w fun e w' => ∃ x y a n c a' n' c' p' er', SetR T p er x y p' er' ∧ e = .returned (.agg (setV 2 x (.slice a n c) y (.slice a' n' c'))) ∧ Forest w' (fun b => w.heap.size < b) x.a (.slice a n c) ∧ Forest w' (fun b => w.heap.size < b) y.a (.slice a' n' c') ∧ SR T L rb w' p' er' ∧ But rb w w' := by
  have ba := alloc_below w (.cells (stZ 0) STT)
  have HKA := hide (HK _ ba)
  have HLW := hide hlw
  have HG := hide hG
  have HPA := hide HPARSE
  clear HK ba hlw hG HPARSE
  go_enter Tryz.func21, Tryz.ntmps21
  go_wp2_with fail
  refine (unhide HKA).mono ?_
  rintro e w3 ⟨rfl, h3, hb3⟩
  have HM := hide (midSt_start 2 h3 hb3 hl (unhide HLW))
  clear h3 hb3 HKA
  go_wp2_with (refine wpList_storeNew rfl _ _ rfl _ _ rfl rfl rfl rfl (by kernel_rfl) ?_)
  generalize w3.alloc (.cells (stZ 2) STT) = W4 at *
  generalize w3.heap.size = q at *
  refine (target_any (unhide HPA) T L rb W4 p er (unhide HM).rd ((unhide HM).glob (unhide HG) h0)).mono ?_
  rintro e w8 ⟨x, a, n, c, p2, e2, hx8, rfl, hf8, h8, hb8⟩
  have HM8 := hide ((unhide HM).call h8 hb8)
  have hq7 := (unhide HM).var.lt
  have hf8' : Forest w8 (fun b => q < b) x.a (.slice a n c) := hf8.mono (fun b hS _ => by omega)
  have HM9 := hide ((unhide HM8).set4 2 (by decide) (.int .i64 x.kind) (.int .i64 x.n) (.string ⟨x.name.toArray⟩) (.slice a n c))
  rw [to_eq] at HM9
  have hb9 := but_setc4 q w8 2 (.int .i64 x.kind) (.int .i64 x.n) (.string ⟨x.name.toArray⟩) (.slice a n c)
  have HF9 := hide (forestBut hf8' hb9 (Nat.le_refl _))
  have HE2 := hide hx8
  have d1 := (unhide HM8).var.cell 2 (.int .i64 0) rfl
  have d2 := (unhide HM8).var.cell 3 (.int .i64 0) rfl
  have d3 := (unhide HM8).var.cell 4 (.string ⟨#[]⟩) rfl
  have d4 := (unhide HM8).var.cell 5 (.slice none 0 0) rfl
  have f1 := (unhide HM8).var.frozen 2
  have f2 := (unhide HM8).var.frozen 3
  have f3 := (unhide HM8).var.frozen 4
  have f4 := (unhide HM8).var.frozen 5
  clear h8 hb8 hf8 hf8' hb9 hx8 HM
  go_wp2_with fail
  generalize (((w8.setCell ⟨q, 2, none⟩ (.int .i64 x.kind)).setCell ⟨q, 3, none⟩ (.int .i64 x.n)).setCell ⟨q, 4, none⟩ (.string ⟨x.name.toArray⟩)).setCell ⟨q, 5, none⟩ (.slice a n c) = W9 at *
  clear d1 d2 d3 d4 f1 f2 f3 f4 HM8
  refine (must_any T L rb W9 p2 e2 [61] (unhide HM9).rd).mono ?_
  rintro e w10 ⟨rfl, h10, hb10⟩
  generalize hpb : nextP (isNext T p2 e2 [61]) p2 = pb at *
  generalize heb : mustE (isNext T p2 e2 [61]) e2 p2 = eb at *
  have hqq := (unhide HM9).qq
  have HM10 := hide ((unhide HM9).call h10 hb10)
  have HF10 := hide (forestBut (unhide HF9) hb10 (by omega))
  have HE3 := hide (And.intro hpb heb)
  clear h10 hb10 hpb heb HM9 HF9
  have HX10 := hide (expr_any (unhide HPA) T L rb w10 pb T.length eb (unhide HM10).rd ((unhide HM10).glob (unhide HG) h0) (unhide HM10).rd.hp (Nat.le_refl _))
  obtain ⟨la, lc, hLe⟩ := (unhide HM10).rd.tks.shape
  have c0 := (unhide HM10).rd.c0
  have hT := (unhide HM10).rd.ht
  rw [hLe] at c0
  go_wp2_with fail
  refine (unhide HX10).mono ?_
  rintro e w11 ⟨y, a', n', c', p4, e4, hx11, rfl, hf11, h11, hb11⟩
  have HM11 := hide ((unhide HM10).call h11 hb11)
  have hq10 := (unhide HM10).var.lt
  have hf11' : Forest w11 (fun b => q < b) y.a (.slice a' n' c') := hf11.mono (fun b hS _ => by omega)
  have HM12 := hide ((unhide HM11).set4 6 (by decide) (.int .i64 y.kind) (.int .i64 y.n) (.string ⟨y.name.toArray⟩) (.slice a' n' c'))
  rw [set_eq] at HM12
  have hb12 := but_setc4 q w11 6 (.int .i64 y.kind) (.int .i64 y.n) (.string ⟨y.name.toArray⟩) (.slice a' n' c')
  have HF12 := hide (And.intro (forestBut (forestBut (unhide HF10) hb11 (by omega)) hb12 (Nat.le_refl _)) (forestBut hf11' hb12 (Nat.le_refl _)))
  have HE4 := hide hx11
  have d1 := (unhide HM11).var.cell 6 (.int .i64 0) rfl
  have d2 := (unhide HM11).var.cell 7 (.int .i64 0) rfl
  have d3 := (unhide HM11).var.cell 8 (.string ⟨#[]⟩) rfl
  have d4 := (unhide HM11).var.cell 9 (.slice none 0 0) rfl
  have f1 := (unhide HM11).var.frozen 6
  have f2 := (unhide HM11).var.frozen 7
  have f3 := (unhide HM11).var.frozen 8
  have f4 := (unhide HM11).var.frozen 9
  clear h11 hb11 hf11 hf11' hb12 hx11 c0 HX10 HM10 HF10
  go_upto_region 24 with fail
  generalize (((w11.setCell ⟨q, 6, none⟩ (.int .i64 y.kind)).setCell ⟨q, 7, none⟩ (.int .i64 y.n)).setCell ⟨q, 8, none⟩ (.string ⟨y.name.toArray⟩)).setCell ⟨q, 9, none⟩ (.slice a' n' c') = W14 at *
  clear d1 d2 d3 d4 f1 f2 f3 f4 HM11
  obtain ⟨z1, z2, z3, z4⟩ := (unhide HM12).done
  have HZ := hide (And.intro z1 (And.intro z2 (And.intro z3 (And.intro ((forestBut (unhide HF12).1 z4 (by omega)).mono (S' := fun b => w.heap.size < b) (fun b hS _ => by omega)) ((forestBut (unhide HF12).2 z4 (by omega)).mono (S' := fun b => w.heap.size < b) (fun b hS _ => by omega))))))
  clear z1 z2 z3 z4 HF12
  have HDR : Hid (SetR T p er x y p4 e4) := hide ⟨p2, e2, pb, eb, unhide HE2, (unhide HE3).1.symm, (unhide HE3).2.symm, unhide HE4⟩
  have hone : (setV 2 x (.slice a n c) y (.slice a' n' c')).all (·.oneCell') = true := by kernel_rfl
  have hsz : (setV 2 x (.slice a n c) y (.slice a' n' c')).size = 29 := rfl
  go_wp2_with (first | (refine wpList_loadRow rfl _ rfl _ _ rfl (unhide HM12).var ?_) | (refine wpList_storeRow rfl _ _ rfl _ _ _ rfl rfl (unhide HM12).res hsz hone ?_))
  exact bodyPost_ret (results_cell_row rfl _ _ w.heap.size STT (setV 2 x (.slice a n c) y (.slice a' n' c')) (0, 0) _ rfl (unhide HZ).1.1 Tryz.underlying30 rfl infoS) rfl ⟨x, y, a, n, c, a', n', c', p4, e4, unhide HDR, rfl, (unhide HZ).2.2.2.1, (unhide HZ).2.2.2.2, (unhide HZ).2.1, (unhide HZ).2.2.1⟩
end Go.Proofs.YtdpjipphbhomkaaGreatDoor.Line

namespace Go.Proofs.YtdpjipphbhomkaaGreatDoor.Line
open Go.ChangeShapes Go.WideShapes Go.ChangeAt Go.RowKit
open Ex (E St)
set_option linter.unusedVariables false

abbrev prV (k : Int) (y : E) (sy : Value) : Array Value := #[.int .i64 k, .slice none 0 0, .int .i64 0, .int .i64 0, .string ⟨#[]⟩, .slice none 0 0, .int .i64 y.kind, .int .i64 y.n, .string ⟨y.name.toArray⟩, sy, .string ⟨#[]⟩, .int .i64 0, .int .i64 0, .string ⟨#[]⟩, .slice none 0 0, .int .i64 0, .int .i64 0, .string ⟨#[]⟩, .slice none 0 0, .string ⟨#[]⟩, .int .i64 0, .int .i64 0, .string ⟨#[]⟩, .slice none 0 0, .int .i64 0, .int .i64 0, .string ⟨#[]⟩, .slice none 0 0, .int .i64 0]
theorem pr_eq (k : Int) (y : E) (sy : Value) : ((((stZ k).setIfInBounds 6 (.int .i64 y.kind)).setIfInBounds (6 + 1) (.int .i64 y.n)).setIfInBounds (6 + 2) (.string ⟨y.name.toArray⟩)).setIfInBounds (6 + 3) sy = prV k y sy := rfl
set_option maxHeartbeats 16000000 in
set_option maxRecDepth 100000 in
theorem stmt_read (HPARSE : ParseSpec) (T : List Words.T) (L : Value) (rb : Nat) (w : World) (p : Nat) (er : SE) (hl : rb < w.heap.size) (h0 : 0 < rb) (hlw : ∀ q, L.ownBlock = some q → q < w.heap.size) (hG : Glob w) (HK : KindIs T L rb w 8 p er) : Calls Tryz.prog 21 #[.pointer (some ⟨rb, 0, none⟩)] w fun e w' => ∃ x a n c p' er', TR T p er x p' er' ∧ e = .returned (.agg (toV 8 x (.slice a n c))) ∧ Forest w' (fun b => w.heap.size < b) x.a (.slice a n c) ∧ SR T L rb w' p' er' ∧ But rb w w' := by
  have ba := alloc_below w (.cells (stZ 0) STT)
  have HKA := hide (HK _ ba)
  have HLW := hide hlw
  have HG := hide hG
  have HPA := hide HPARSE
  clear HK ba hlw hG HPARSE
  go_enter Tryz.func21, Tryz.ntmps21
  go_wp2_with fail
  refine (unhide HKA).mono ?_
  rintro e w3 ⟨rfl, h3, hb3⟩
  have HM := hide (midSt_start 8 h3 hb3 hl (unhide HLW))
  clear h3 hb3 HKA
  go_wp2_with (refine wpList_storeNew rfl _ _ rfl _ _ rfl rfl rfl rfl (by kernel_rfl) ?_)
  generalize w3.alloc (.cells (stZ 8) STT) = W4 at *
  generalize w3.heap.size = q at *
  refine (target_any (unhide HPA) T L rb W4 p er (unhide HM).rd ((unhide HM).glob (unhide HG) h0)).mono ?_
  rintro e w8 ⟨x, a, n, c, p2, e2, hx8, rfl, hf8, h8, hb8⟩
  have HM8 := hide ((unhide HM).call h8 hb8)
  have hq7 := (unhide HM).var.lt
  have hf8' : Forest w8 (fun b => q < b) x.a (.slice a n c) := hf8.mono (fun b hS _ => by omega)
  have HM9 := hide ((unhide HM8).set4 2 (by decide) (.int .i64 x.kind) (.int .i64 x.n) (.string ⟨x.name.toArray⟩) (.slice a n c))
  rw [to_eq] at HM9
  have hb9 := but_setc4 q w8 2 (.int .i64 x.kind) (.int .i64 x.n) (.string ⟨x.name.toArray⟩) (.slice a n c)
  have HF9 := hide (forestBut hf8' hb9 (Nat.le_refl _))
  have HE2 := hide hx8
  have d1 := (unhide HM8).var.cell 2 (.int .i64 0) rfl
  have d2 := (unhide HM8).var.cell 3 (.int .i64 0) rfl
  have d3 := (unhide HM8).var.cell 4 (.string ⟨#[]⟩) rfl
  have d4 := (unhide HM8).var.cell 5 (.slice none 0 0) rfl
  have f1 := (unhide HM8).var.frozen 2
  have f2 := (unhide HM8).var.frozen 3
  have f3 := (unhide HM8).var.frozen 4
  have f4 := (unhide HM8).var.frozen 5
  clear h8 hb8 hf8 hf8' hb9 hx8 HM
  go_upto_region 24 with fail
  generalize (((w8.setCell ⟨q, 2, none⟩ (.int .i64 x.kind)).setCell ⟨q, 3, none⟩ (.int .i64 x.n)).setCell ⟨q, 4, none⟩ (.string ⟨x.name.toArray⟩)).setCell ⟨q, 5, none⟩ (.slice a n c) = W9 at *
  clear d1 d2 d3 d4 f1 f2 f3 f4 HM8
  have hqq := (unhide HM9).qq
  obtain ⟨z1, z2, z3, z4⟩ := (unhide HM9).done
  have HZ := hide (And.intro z1 (And.intro z2 (And.intro z3 ((forestBut (unhide HF9) z4 (by omega)).mono (S' := fun b => w.heap.size < b) (fun b hS _ => by omega)))))
  clear z1 z2 z3 z4 HF9
  have hone : (toV 8 x (.slice a n c)).all (·.oneCell') = true := by kernel_rfl
  have hsz : (toV 8 x (.slice a n c)).size = 29 := rfl
  go_wp2_with (first | (refine wpList_loadRow rfl _ rfl _ _ rfl (unhide HM9).var ?_) | (refine wpList_storeRow rfl _ _ rfl _ _ _ rfl rfl (unhide HM9).res hsz hone ?_))
  exact bodyPost_ret (results_cell_row rfl _ _ w.heap.size STT (toV 8 x (.slice a n c)) (0, 0) _ rfl (unhide HZ).1.1 Tryz.underlying30 rfl infoS) rfl ⟨x, a, n, c, p2, e2, unhide HE2, rfl, (unhide HZ).2.2.2, (unhide HZ).2.1, (unhide HZ).2.2.1⟩
set_option maxHeartbeats 16000000 in
set_option maxRecDepth 100000 in
theorem stmt_print (HPARSE : ParseSpec) (T : List Words.T) (L : Value) (rb : Nat) (w : World) (p : Nat) (er : SE) (hl : rb < w.heap.size) (h0 : 0 < rb) (hlw : ∀ q, L.ownBlock = some q → q < w.heap.size) (hG : Glob w) (HK : KindIs T L rb w 9 p er) : Calls Tryz.prog 21 #[.pointer (some ⟨rb, 0, none⟩)] w fun e w' => ∃ y a n c p' er', XR T p T.length er y p' er' ∧ e = .returned (.agg (prV 9 y (.slice a n c))) ∧ Forest w' (fun b => w.heap.size < b) y.a (.slice a n c) ∧ SR T L rb w' p' er' ∧ But rb w w' := by
  have ba := alloc_below w (.cells (stZ 0) STT)
  have HKA := hide (HK _ ba)
  have HLW := hide hlw
  have HG := hide hG
  have HPA := hide HPARSE
  clear HK ba hlw hG HPARSE
  go_enter Tryz.func21, Tryz.ntmps21
  go_wp2_with fail
  refine (unhide HKA).mono ?_
  rintro e w3 ⟨rfl, h3, hb3⟩
  have HM := hide (midSt_start 9 h3 hb3 hl (unhide HLW))
  clear h3 hb3 HKA
  go_upto_region 23 with (refine wpList_storeNew rfl _ _ rfl _ _ rfl rfl rfl rfl (by kernel_rfl) ?_)
  generalize w3.alloc (.cells (stZ 9) STT) = W4 at *
  generalize w3.heap.size = q at *
  have HX10 := hide (expr_any (unhide HPA) T L rb W4 p T.length er (unhide HM).rd ((unhide HM).glob (unhide HG) h0) (unhide HM).rd.hp (Nat.le_refl _))
  obtain ⟨la, lc, hLe⟩ := (unhide HM).rd.tks.shape
  have c0 := (unhide HM).rd.c0
  have hT := (unhide HM).rd.ht
  have hqq := (unhide HM).qq
  rw [hLe] at c0
  go_wp2_with fail
  refine (unhide HX10).mono ?_
  rintro e w11 ⟨y, a, n, c, p4, e4, hx11, rfl, hf11, h11, hb11⟩
  have HM11 := hide ((unhide HM).call h11 hb11)
  have hq10 := (unhide HM).var.lt
  have hf11' : Forest w11 (fun b => q < b) y.a (.slice a n c) := hf11.mono (fun b hS _ => by omega)
  have HM12 := hide ((unhide HM11).set4 6 (by decide) (.int .i64 y.kind) (.int .i64 y.n) (.string ⟨y.name.toArray⟩) (.slice a n c))
  rw [pr_eq] at HM12
  have hb12 := but_setc4 q w11 6 (.int .i64 y.kind) (.int .i64 y.n) (.string ⟨y.name.toArray⟩) (.slice a n c)
  have HF12 := hide (forestBut hf11' hb12 (Nat.le_refl _))
  have HE4 := hide hx11
  have d1 := (unhide HM11).var.cell 6 (.int .i64 0) rfl
  have d2 := (unhide HM11).var.cell 7 (.int .i64 0) rfl
  have d3 := (unhide HM11).var.cell 8 (.string ⟨#[]⟩) rfl
  have d4 := (unhide HM11).var.cell 9 (.slice none 0 0) rfl
  have f1 := (unhide HM11).var.frozen 6
  have f2 := (unhide HM11).var.frozen 7
  have f3 := (unhide HM11).var.frozen 8
  have f4 := (unhide HM11).var.frozen 9
  clear h11 hb11 hf11 hf11' hb12 hx11 c0 HX10 HM
  go_upto_region 24 with fail
  generalize (((w11.setCell ⟨q, 6, none⟩ (.int .i64 y.kind)).setCell ⟨q, 7, none⟩ (.int .i64 y.n)).setCell ⟨q, 8, none⟩ (.string ⟨y.name.toArray⟩)).setCell ⟨q, 9, none⟩ (.slice a n c) = W14 at *
  clear d1 d2 d3 d4 f1 f2 f3 f4 HM11
  obtain ⟨z1, z2, z3, z4⟩ := (unhide HM12).done
  have HZ := hide (And.intro z1 (And.intro z2 (And.intro z3 ((forestBut (unhide HF12) z4 (by omega)).mono (S' := fun b => w.heap.size < b) (fun b hS _ => by omega)))))
  clear z1 z2 z3 z4 HF12
  have hone : (prV 9 y (.slice a n c)).all (·.oneCell') = true := by kernel_rfl
  have hsz : (prV 9 y (.slice a n c)).size = 29 := rfl
  go_wp2_with (first | (refine wpList_loadRow rfl _ rfl _ _ rfl (unhide HM12).var ?_) | (refine wpList_storeRow rfl _ _ rfl _ _ _ rfl rfl (unhide HM12).res hsz hone ?_))
  exact bodyPost_ret (results_cell_row rfl _ _ w.heap.size STT (prV 9 y (.slice a n c)) (0, 0) _ rfl (unhide HZ).1.1 Tryz.underlying30 rfl infoS) rfl ⟨y, a, n, c, p4, e4, unhide HE4, rfl, (unhide HZ).2.2.2, (unhide HZ).2.1, (unhide HZ).2.2.1⟩
end Go.Proofs.YtdpjipphbhomkaaGreatDoor.Line

namespace Go.Proofs.YtdpjipphbhomkaaGreatDoor.Line
open Go.ChangeShapes Go.WideShapes Go.ChangeAt Go.RowKit
open Ex (E St)
set_option linter.unusedVariables false

theorem RCond.inn {T : List Words.T} {c : List UInt8} {x y : E} {s : St} (h : RCond T c x y s) : Ex.In T s := by
  obtain ⟨x1, s1, h1, h⟩ := h
  have i1 := Ex.RExpr.inn h1 ⟨Nat.zero_le _, Nat.zero_le _⟩
  rcases h with ⟨_, rfl, _⟩ | ⟨_, _, rfl, _⟩ | ⟨_, hr, y1, s3, h3, h⟩
  · exact i1
  · exact i1.fail 2
  · have hlt : s1.pos < T.length := by
      rcases Nat.lt_or_ge s1.pos T.length with h | h
      · exact h
      · unfold relAt at hr
        rw [List.getElem?_eq_none h] at hr
        cases hr
    have i3 := Ex.RExpr.inn h3 (i1.next hlt)
    rcases h with ⟨_, rfl, _⟩ | ⟨_, rfl, _⟩ <;> exact i3
theorem behC_le {T : List Words.T} {p : Nat} {c : List UInt8} {x y : E} {s : St} (h : RCond ((T.drop p).take (T.length - p)) c x y s) (hp : p ≤ T.length) : p + s.pos ≤ T.length ∧ p + s.bad ≤ T.length := by
  have h1 := h.inn
  have hl : ((T.drop p).take (T.length - p)).length = T.length - p := by rw [List.length_take, List.length_drop]; omega
  unfold Ex.In at h1
  rw [hl] at h1
  omega
theorem Se.otherC {B q : Nat} {w w' : World} {g : Value} {er : SE} {k : IntKind} {v : Int} (h : Se B w g er) (hb : But q w w') (hq : w.cell? ⟨q, 2, none⟩ = some (.int k v)) : Se B w' g er := by
  have hne : ∀ {b : Nat} {t : TypeId} {u : Value}, w.cell? ⟨b, 2, none⟩ = some (.iface t u) → b ≠ q := fun {b t u} h e => by subst e; rw [hq] at h; cases h
  cases er with
  | ok => exact h
  | leaf p e =>
    obtain ⟨b, hB, hg, hl⟩ := h
    exact ⟨b, hB, hg, hl.keep (hb.block b hl.lt (fun e => hne hl.2.2 (by injection e)))⟩
  | sub p k e =>
    obtain ⟨b, b2, hB, hb2, hg, ⟨h0, h1, h2⟩, hl⟩ := h
    have hc : ∀ o, w'.cell? ⟨b, o, none⟩ = w.cell? ⟨b, o, none⟩ := fun o => hb.cell (p := ⟨b, o, none⟩) (cell_lt h0) (hne h2)
    exact ⟨b, b2, hB, hb2, hg, ⟨(hc 0).trans h0, (hc 1).trans h1, (hc 2).trans h2⟩, hl.keep (hb.block b2 hl.lt (fun e => hne hl.2.2 (by injection e)))⟩
theorem SR.otherC {T : List Words.T} {L : Value} {rb q : Nat} {w w' : World} {p : Nat} {er : SE} {k : IntKind} {v : Int} (h : SR T L rb w p er) (hb : But q w w') (hne : rb ≠ q) (hL : L.ownBlock ≠ some q) (hq : w.cell? ⟨q, 2, none⟩ = some (.int k v)) : SR T L rb w' p er := by
  have hk := hb.block rb h.lt (fun e => hne (by injection e))
  have hc : ∀ o, w'.cell? ⟨rb, o, none⟩ = w.cell? ⟨rb, o, none⟩ := fun o => World.cell?_of_block (a := ⟨rb, o, none⟩) hk
  have hf : ∀ o, w'.frozen? ⟨rb, o, none⟩ = w.frozen? ⟨rb, o, none⟩ := fun o => World.frozen?_of_block (a := ⟨rb, o, none⟩) hk
  obtain ⟨g, hg, hs⟩ := h.ce
  exact ⟨(hc 0).trans h.c0, (hc 1).trans h.c1, ⟨g, (hc 2).trans hg, hs.otherC hb hq⟩, (hf 1).trans h.f1, (hf 2).trans h.f2, Nat.lt_of_lt_of_le h.lt hb.size, h.tks.but hb hL, h.own, fun q hq => Nat.lt_of_lt_of_le (h.lw q hq) hb.size, h.hp, h.ht⟩
abbrev s9 (w : World) (q : Nat) (a0 a1 a2 a3 a4 a5 a6 a7 a8 : Value) : World := ((((((((w.setCell ⟨q, 0, none⟩ a0).setCell ⟨q, 1, none⟩ a1).setCell ⟨q, 2, none⟩ a2).setCell ⟨q, 3, none⟩ a3).setCell ⟨q, 4, none⟩ a4).setCell ⟨q, 5, none⟩ a5).setCell ⟨q, 6, none⟩ a6).setCell ⟨q, 7, none⟩ a7).setCell ⟨q, 8, none⟩ a8
theorem but_s9 (q : Nat) (w : World) (a0 a1 a2 a3 a4 a5 a6 a7 a8 : Value) : But q w (s9 w q a0 a1 a2 a3 a4 a5 a6 a7 a8) := ((((((((set_but q w 0 a0).trans (set_but q _ 1 a1)).trans (set_but q _ 2 a2)).trans (set_but q _ 3 a3)).trans (set_but q _ 4 a4)).trans (set_but q _ 5 a5)).trans (set_but q _ 6 a6)).trans (set_but q _ 7 a7)).trans (set_but q _ 8 a8)
theorem box9_at {W w5 : World} {z0 z1 z2 z3 z4 z5 z6 z7 z8 : Value} {t : TypeId} (hb : Below (W.alloc (.cells #[z0, z1, z2, z3, z4, z5, z6, z7, z8] t)).drew.heap.size (W.alloc (.cells #[z0, z1, z2, z3, z4, z5, z6, z7, z8] t)).drew w5) : (w5.cell? ⟨W.heap.size, 0, none⟩ = some z0 ∧ w5.cell? ⟨W.heap.size, 1, none⟩ = some z1 ∧ w5.cell? ⟨W.heap.size, 2, none⟩ = some z2 ∧ w5.cell? ⟨W.heap.size, 3, none⟩ = some z3 ∧ w5.cell? ⟨W.heap.size, 4, none⟩ = some z4 ∧ w5.cell? ⟨W.heap.size, 5, none⟩ = some z5 ∧ w5.cell? ⟨W.heap.size, 6, none⟩ = some z6 ∧ w5.cell? ⟨W.heap.size, 7, none⟩ = some z7 ∧ w5.cell? ⟨W.heap.size, 8, none⟩ = some z8) ∧ (w5.frozen? ⟨W.heap.size, 0, none⟩ = false ∧ w5.frozen? ⟨W.heap.size, 1, none⟩ = false ∧ w5.frozen? ⟨W.heap.size, 2, none⟩ = false ∧ w5.frozen? ⟨W.heap.size, 3, none⟩ = false ∧ w5.frozen? ⟨W.heap.size, 4, none⟩ = false ∧ w5.frozen? ⟨W.heap.size, 5, none⟩ = false ∧ w5.frozen? ⟨W.heap.size, 6, none⟩ = false ∧ w5.frozen? ⟨W.heap.size, 7, none⟩ = false ∧ w5.frozen? ⟨W.heap.size, 8, none⟩ = false) ∧ W.heap.size < w5.heap.size ∧ Below W.heap.size W w5 := by
  have hb' := bthen (drew_belowS _) hb
  have h0 : (W.alloc (.cells #[z0, z1, z2, z3, z4, z5, z6, z7, z8] t)).heap.size = W.heap.size + 1 := by simp
  have hs := hb'.size
  have hc : ∀ o, w5.cell? ⟨W.heap.size, o, none⟩ = (W.alloc (.cells #[z0, z1, z2, z3, z4, z5, z6, z7, z8] t)).cell? ⟨W.heap.size, o, none⟩ := fun o => hb'.cell (p := ⟨W.heap.size, o, none⟩) (show W.heap.size < _ by omega)
  have hf : ∀ o, w5.frozen? ⟨W.heap.size, o, none⟩ = (W.alloc (.cells #[z0, z1, z2, z3, z4, z5, z6, z7, z8] t)).frozen? ⟨W.heap.size, o, none⟩ := fun o => hb'.frozen (p := ⟨W.heap.size, o, none⟩) (show W.heap.size < _ by omega)
  exact ⟨⟨(hc 0).trans (by simp), (hc 1).trans (by simp), (hc 2).trans (by simp), (hc 3).trans (by simp), (hc 4).trans (by simp), (hc 5).trans (by simp), (hc 6).trans (by simp), (hc 7).trans (by simp), (hc 8).trans (by simp)⟩, ⟨(hf 0).trans (by simp), (hf 1).trans (by simp), (hf 2).trans (by simp), (hf 3).trans (by simp), (hf 4).trans (by simp), (hf 5).trans (by simp), (hf 6).trans (by simp), (hf 7).trans (by simp), (hf 8).trans (by simp)⟩, by omega, bthen (alloc_below W _) hb'⟩
theorem boxC_s9 {w : World} {q : Nat} {z0 z1 z2 z3 z4 z5 z6 z7 z8 : Value} (c : List UInt8) (x : E) (sx : Value) (y : E) (sy : Value) (hc : w.cell? ⟨q, 0, none⟩ = some z0 ∧ w.cell? ⟨q, 1, none⟩ = some z1 ∧ w.cell? ⟨q, 2, none⟩ = some z2 ∧ w.cell? ⟨q, 3, none⟩ = some z3 ∧ w.cell? ⟨q, 4, none⟩ = some z4 ∧ w.cell? ⟨q, 5, none⟩ = some z5 ∧ w.cell? ⟨q, 6, none⟩ = some z6 ∧ w.cell? ⟨q, 7, none⟩ = some z7 ∧ w.cell? ⟨q, 8, none⟩ = some z8) (hf : w.frozen? ⟨q, 0, none⟩ = false ∧ w.frozen? ⟨q, 1, none⟩ = false ∧ w.frozen? ⟨q, 2, none⟩ = false ∧ w.frozen? ⟨q, 3, none⟩ = false ∧ w.frozen? ⟨q, 4, none⟩ = false ∧ w.frozen? ⟨q, 5, none⟩ = false ∧ w.frozen? ⟨q, 6, none⟩ = false ∧ w.frozen? ⟨q, 7, none⟩ = false ∧ w.frozen? ⟨q, 8, none⟩ = false) : BoxC (s9 w q (.string ⟨c.toArray⟩) (.int .i64 x.kind) (.int .i64 x.n) (.string ⟨x.name.toArray⟩) sx (.int .i64 y.kind) (.int .i64 y.n) (.string ⟨y.name.toArray⟩) sy) q c x sx y sy := by
  obtain ⟨c0, c1, c2, c3, c4, c5, c6, c7, c8⟩ := hc
  obtain ⟨f0, f1, f2, f3, f4, f5, f6, f7, f8⟩ := hf
  have hfz : ∀ (u : World) (j o : Nat) (v : Value), (u.setCell ⟨q, j, none⟩ v).frozen? ⟨q, o, none⟩ = u.frozen? ⟨q, o, none⟩ := fun u j o v => by simp [go_sem]
  have hs := (but_s9 q w (.string ⟨c.toArray⟩) (.int .i64 x.kind) (.int .i64 x.n) (.string ⟨x.name.toArray⟩) sx (.int .i64 y.kind) (.int .i64 y.n) (.string ⟨y.name.toArray⟩) sy).size
  exact ⟨set_cell (i := 0) (j := 8) (set_cell (i := 0) (j := 7) (set_cell (i := 0) (j := 6) (set_cell (i := 0) (j := 5) (set_cell (i := 0) (j := 4) (set_cell (i := 0) (j := 3) (set_cell (i := 0) (j := 2) (set_cell (i := 0) (j := 1) (set_cell (i := 0) (j := 0) c0)))))))),
    set_cell (i := 1) (j := 8) (set_cell (i := 1) (j := 7) (set_cell (i := 1) (j := 6) (set_cell (i := 1) (j := 5) (set_cell (i := 1) (j := 4) (set_cell (i := 1) (j := 3) (set_cell (i := 1) (j := 2) (set_cell (i := 1) (j := 1) (set_cell (i := 1) (j := 0) c1)))))))),
    set_cell (i := 2) (j := 8) (set_cell (i := 2) (j := 7) (set_cell (i := 2) (j := 6) (set_cell (i := 2) (j := 5) (set_cell (i := 2) (j := 4) (set_cell (i := 2) (j := 3) (set_cell (i := 2) (j := 2) (set_cell (i := 2) (j := 1) (set_cell (i := 2) (j := 0) c2)))))))),
    set_cell (i := 3) (j := 8) (set_cell (i := 3) (j := 7) (set_cell (i := 3) (j := 6) (set_cell (i := 3) (j := 5) (set_cell (i := 3) (j := 4) (set_cell (i := 3) (j := 3) (set_cell (i := 3) (j := 2) (set_cell (i := 3) (j := 1) (set_cell (i := 3) (j := 0) c3)))))))),
    set_cell (i := 4) (j := 8) (set_cell (i := 4) (j := 7) (set_cell (i := 4) (j := 6) (set_cell (i := 4) (j := 5) (set_cell (i := 4) (j := 4) (set_cell (i := 4) (j := 3) (set_cell (i := 4) (j := 2) (set_cell (i := 4) (j := 1) (set_cell (i := 4) (j := 0) c4)))))))),
    set_cell (i := 5) (j := 8) (set_cell (i := 5) (j := 7) (set_cell (i := 5) (j := 6) (set_cell (i := 5) (j := 5) (set_cell (i := 5) (j := 4) (set_cell (i := 5) (j := 3) (set_cell (i := 5) (j := 2) (set_cell (i := 5) (j := 1) (set_cell (i := 5) (j := 0) c5)))))))),
    set_cell (i := 6) (j := 8) (set_cell (i := 6) (j := 7) (set_cell (i := 6) (j := 6) (set_cell (i := 6) (j := 5) (set_cell (i := 6) (j := 4) (set_cell (i := 6) (j := 3) (set_cell (i := 6) (j := 2) (set_cell (i := 6) (j := 1) (set_cell (i := 6) (j := 0) c6)))))))),
    set_cell (i := 7) (j := 8) (set_cell (i := 7) (j := 7) (set_cell (i := 7) (j := 6) (set_cell (i := 7) (j := 5) (set_cell (i := 7) (j := 4) (set_cell (i := 7) (j := 3) (set_cell (i := 7) (j := 2) (set_cell (i := 7) (j := 1) (set_cell (i := 7) (j := 0) c7)))))))),
    set_cell (i := 8) (j := 8) (set_cell (i := 8) (j := 7) (set_cell (i := 8) (j := 6) (set_cell (i := 8) (j := 5) (set_cell (i := 8) (j := 4) (set_cell (i := 8) (j := 3) (set_cell (i := 8) (j := 2) (set_cell (i := 8) (j := 1) (set_cell (i := 8) (j := 0) c8)))))))),
    by rw [hfz, hfz, hfz, hfz, hfz, hfz, hfz, hfz, hfz]; exact f0, by rw [hfz, hfz, hfz, hfz, hfz, hfz, hfz, hfz, hfz]; exact f1, by rw [hfz, hfz, hfz, hfz, hfz, hfz, hfz, hfz, hfz]; exact f2, by rw [hfz, hfz, hfz, hfz, hfz, hfz, hfz, hfz, hfz]; exact f3, by rw [hfz, hfz, hfz, hfz, hfz, hfz, hfz, hfz, hfz]; exact f4, by rw [hfz, hfz, hfz, hfz, hfz, hfz, hfz, hfz, hfz]; exact f5, by rw [hfz, hfz, hfz, hfz, hfz, hfz, hfz, hfz, hfz]; exact f6, by rw [hfz, hfz, hfz, hfz, hfz, hfz, hfz, hfz, hfz]; exact f7, by rw [hfz, hfz, hfz, hfz, hfz, hfz, hfz, hfz, hfz]; exact f8, Nat.lt_of_lt_of_le (cell_lt c0) hs⟩
def CondPost (T : List Words.T) (L : Value) (rb : Nat) (w : World) (p : Nat) (e : Ending) (w' : World) : Prop :=
  ∃ c x y s a n k a' n' k', RCond ((T.drop p).take (T.length - p)) c x y s ∧ e = .returned (condV c x (.slice a n k) y (.slice a' n' k')) ∧ Forest w' (fun b => w.heap.size ≤ b) x.a (.slice a n k) ∧ Forest w' (fun b => w.heap.size ≤ b) y.a (.slice a' n' k') ∧ SR T L rb w' (behP p s) (behE p s) ∧ But rb w w'
structure MidC (T : List Words.T) (L : Value) (rb : Nat) (w wx : World) (p q : Nat) (c : List UInt8) (x y : E) (s : St) (sx sy g : Value) : Prop where
  red : RCond ((T.drop p).take (T.length - p)) c x y s
  box : BoxC wx q c x sx y sy
  res : BoxC wx w.heap.size [] E.none (.slice none 0 0) E.none (.slice none 0 0)
  qq : w.heap.size < q
  fx : Forest wx (fun b => w.heap.size < b) x.a sx
  fy : Forest wx (fun b => w.heap.size < b) y.a sy
  say : Says (w.heap.size + 1) wx g wExpr s.bad s.err
  rd : SR T L rb wx p .ok
  old : Below w.heap.size w wx
structure PrC (T : List Words.T) (L : Value) (rb : Nat) (w w1 w5 : World) (p : Nat) (c : List UInt8) (x y : E) (s : St) (sx sy g : Value) : Prop where
  red : RCond ((T.drop p).take (T.length - p)) c x y s
  fx : Forest w5 (fun b => w1.heap.size ≤ b) x.a sx
  fy : Forest w5 (fun b => w1.heap.size ≤ b) y.a sy
  say : Says w1.heap.size w5 g wExpr s.bad s.err
  rd : SR T L rb w5 p .ok
  res : BoxC w5 w.heap.size [] E.none (.slice none 0 0) E.none (.slice none 0 0)
  bel : Below w1.heap.size w1 w5
  old : Below w.heap.size w w1
  sz : w.heap.size < w1.heap.size
theorem PrC.late {T : List Words.T} {L : Value} {rb : Nat} {w w1 w5 : World} {p : Nat} {c : List UInt8} {x y : E} {s : St} {sx sy g : Value} (h : PrC T L rb w w1 w5 p c x y s sx sy g) (t : TypeId) : MidC T L rb w (w5.alloc (.cells #[.string ⟨c.toArray⟩, .int .i64 x.kind, .int .i64 x.n, .string ⟨x.name.toArray⟩, sx, .int .i64 y.kind, .int .i64 y.n, .string ⟨y.name.toArray⟩, sy] t)) p w5.heap.size c x y s sx sy g := by
  have hb := alloc_below w5 (.cells #[.string ⟨c.toArray⟩, .int .i64 x.kind, .int .i64 x.n, .string ⟨x.name.toArray⟩, sx, .int .i64 y.kind, .int .i64 y.n, .string ⟨y.name.toArray⟩, sy] t)
  have h1 := h.sz
  have h2 := h.bel.size
  refine ⟨h.red, boxC_new w5 c x sx y sy t, h.res.keep (hb.block _ h.res.lt) hb.size, by omega, (h.fx.old hb).mono (fun b hb _ => by omega), (h.fy.old hb).mono (fun b hb _ => by omega), ?_, h.rd.below hb, bthen (bthen h.old h.bel) hb⟩
  rcases h.say.below hb with h0 | ⟨h0, b, hb0, hr⟩
  · exact .inl h0
  · exact .inr ⟨h0, b, by omega, hr⟩
theorem PrC.early {T : List Words.T} {L : Value} {rb : Nat} {w w1 w5 : World} {p : Nat} {c : List UInt8} {x y : E} {s : St} {sx sy g : Value} {w0 : World} {z0 z1 z2 z3 z4 z5 z6 z7 z8 : Value} (h : PrC T L rb w w1 w5 p c x y s sx sy g) (hw0 : w0.heap.size < w1.heap.size) (hw : w.heap.size < w0.heap.size) (hL : L.ownBlock ≠ some w0.heap.size) (hrb : rb < w.heap.size) (hc : w5.cell? ⟨w0.heap.size, 0, none⟩ = some z0 ∧ w5.cell? ⟨w0.heap.size, 1, none⟩ = some z1 ∧ w5.cell? ⟨w0.heap.size, 2, none⟩ = some z2 ∧ w5.cell? ⟨w0.heap.size, 3, none⟩ = some z3 ∧ w5.cell? ⟨w0.heap.size, 4, none⟩ = some z4 ∧ w5.cell? ⟨w0.heap.size, 5, none⟩ = some z5 ∧ w5.cell? ⟨w0.heap.size, 6, none⟩ = some z6 ∧ w5.cell? ⟨w0.heap.size, 7, none⟩ = some z7 ∧ w5.cell? ⟨w0.heap.size, 8, none⟩ = some z8) (hf : w5.frozen? ⟨w0.heap.size, 0, none⟩ = false ∧ w5.frozen? ⟨w0.heap.size, 1, none⟩ = false ∧ w5.frozen? ⟨w0.heap.size, 2, none⟩ = false ∧ w5.frozen? ⟨w0.heap.size, 3, none⟩ = false ∧ w5.frozen? ⟨w0.heap.size, 4, none⟩ = false ∧ w5.frozen? ⟨w0.heap.size, 5, none⟩ = false ∧ w5.frozen? ⟨w0.heap.size, 6, none⟩ = false ∧ w5.frozen? ⟨w0.heap.size, 7, none⟩ = false ∧ w5.frozen? ⟨w0.heap.size, 8, none⟩ = false) : MidC T L rb w (s9 w5 w0.heap.size (.string ⟨c.toArray⟩) (.int .i64 x.kind) (.int .i64 x.n) (.string ⟨x.name.toArray⟩) sx (.int .i64 y.kind) (.int .i64 y.n) (.string ⟨y.name.toArray⟩) sy) p w0.heap.size c x y s sx sy g := by
  have hb := but_s9 w0.heap.size w5 (.string ⟨c.toArray⟩) (.int .i64 x.kind) (.int .i64 x.n) (.string ⟨x.name.toArray⟩) sx (.int .i64 y.kind) (.int .i64 y.n) (.string ⟨y.name.toArray⟩) sy
  have h1 := h.sz
  have h2 := h.bel.size
  refine ⟨h.red, boxC_s9 c x sx y sy hc hf, h.res.but hb (by omega), hw, (h.fx.keep (fun b hS hl => hb.block b hl (fun e => by injection e with e; omega)) (fun b hS hl => by omega)), (h.fy.keep (fun b hS hl => hb.block b hl (fun e => by injection e with e; omega)) (fun b hS hl => by omega)), ?_, h.rd.other hb (by omega) hL, (bthen h.old h.bel).trans (hb.below (by omega) (by have := h.old.size; omega))⟩
  rcases h.say with h0 | ⟨h0, b, hb0, hg, k0, k1, k2⟩
  · exact .inl h0
  · have hc : ∀ o, _ = w5.cell? ⟨b, o, none⟩ := fun o => hb.cell (p := ⟨b, o, none⟩) (cell_lt k0) (show b ≠ w0.heap.size by omega)
    exact .inr ⟨h0, b, by omega, hg, (hc 0).trans k0, (hc 1).trans k1, (hc 2).trans k2⟩
set_option maxHeartbeats 8000000 in
set_option maxRecDepth 100000 in
theorem condBad_any (T : List Words.T) (L : Value) (rb : Nat) (w : World) (p : Nat) (er : SE) (h : SR T L rb w p er) (he : er ≠ .ok) : Calls Tryz.prog 58 #[.pointer (some ⟨rb, 0, none⟩)] w fun e w' => e = .returned (condV [] E.none (.slice none 0 0) E.none (.slice none 0 0)) ∧ SR T L rb w' p er ∧ But rb w w' := by
  obtain ⟨g, hg, hs⟩ := h.ce
  have hl := h.lt
  obtain ⟨b, rfl⟩ : ∃ b, g = .iface FPT (.pointer (some ⟨b, 0, none⟩)) := by
    rcases hs.shape with ⟨h0, _⟩ | ⟨_, b, hb⟩
    · exact absurd h0 he
    · exact ⟨b, hb⟩
  have ba := alloc_below w (.cells zeroC 28)
  have H1 := hide (And.intro (h.below ba) ba)
  clear h hs ba he
  go_enter Tryz.func58, Tryz.ntmps58
  go_wp2
  exact bodyPost_ret (v := condV [] E.none (.slice none 0 0) E.none (.slice none 0 0)) (by simp [results, Tryz.results58, go_sem]; exact ⟨rfl, rfl, rfl, rfl, rfl, rfl⟩) rfl ⟨rfl, (unhide H1).1, but_below (unhide H1).2⟩
set_option maxHeartbeats 8000000 in
set_option maxRecDepth 100000 in
theorem condOk_any (HCOND : CondSpec) (T : List Words.T) (L : Value) (rb : Nat) (w : World) (p : Nat) (h : SR T L rb w p .ok) (hG : Glob w) : Calls Tryz.prog 58 #[.pointer (some ⟨rb, 0, none⟩)] w fun e w' => CondPost T L rb w p e w' := by
  have hl := h.lt
  have ht := h.ht
  have h1 := h.hp
  obtain ⟨la, lc, hLe, hlc, htk, hob⟩ := h.tks.cut p T.length h1 (Nat.le_refl _)
  have hsl : ∀ W, (Instr.slice 74 (.slice la T.length lc) (some (.int .i64 p)) none none).run Tryz.prog W = .ok (.slice (if lc = p then la else la.map (·.add (p * 4))) (T.length - p) (lc - p)) W := fun W => runT_slice1 (w := W) la T.length lc p h1 hlc
  have hlen : ((T.drop p).take (T.length - p)).length = T.length - p := by rw [List.length_take, List.length_drop]; omega
  have ba := alloc_below w (.cells zeroC 28)
  have hz : (w.alloc (.cells zeroC 28)).heap.size = w.heap.size + 1 := by simp
  have hr1 : BoxC (w.alloc (.cells zeroC 28)) w.heap.size [] E.none (.slice none 0 0) E.none (.slice none 0 0) := boxC_new w [] E.none (.slice none 0 0) E.none (.slice none 0 0) 28
  have H1 := hide (And.intro (h.below ba) (And.intro (hG.below ba) ba))
  have HGW := hide hG
  have HOB : Hid (∀ q, (Value.slice (if lc = p then la else la.map (·.add (p * 4))) (T.length - p) (lc - p)).ownBlock = some q → q < w.heap.size) := hide (fun q hq => h.lw q (hob q hq))
  have HTK := hide htk
  have HLW := hide h.lw
  obtain ⟨g, hg, hs⟩ := (h.below ba).ce
  obtain rfl : g = .nilIface := hs
  have c0 := (h.below ba).c0
  have c1 := (h.below ba).c1
  generalize hsa : (if lc = p then la else la.map (·.add (p * 4))) = sa at *
  generalize hsn : T.length - p = sn at *
  generalize hsc : lc - p = sc at *
  clear hob htk ba hG h hsa hsc
  have HR1 := hide hr1
  clear hr1
  subst hLe
  go_enter Tryz.func58, Tryz.ntmps58
  go_wp2_with fail
  generalize hW1 : (w.alloc (.cells zeroC 28)) = W1 at *
  have HW1 := hide hW1
  clear hW1
  go_cut [3, 4, 5] (fun s3 s4 s5 wx => ∃ c x y s sx sy q, s3 = .pointer (some ⟨q, 0, none⟩) ∧ s4 = .int .i64 (ansN s) ∧ Hid (MidC T (.slice la T.length lc) rb w wx p q c x y s sx sy s5))
  case first =>
    have hne : (Value.slice la T.length lc).ownBlock ≠ some W1.heap.size := fun e => by have := unhide HLW _ e; omega
    have HP : Hid (∀ W, Below W1.heap.size W1 W → Calls Tryz.prog 102 #[.slice sa sn sc] W fun e w' => ∃ c x y s sa5 sn5 sc5 ta5 tn5 tc5 g, e = .returned (.tuple #[condV c x (.slice sa5 sn5 sc5) y (.slice ta5 tn5 tc5), .int .i64 (ansN s), g]) ∧ PrC T (.slice la T.length lc) rb w W w' p c x y s (.slice sa5 sn5 sc5) (.slice ta5 tn5 tc5) g ∧ Below W.heap.size W w') := hide (fun W hW => by
      have hb0 := bthen (unhide H1).2.2 hW
      refine (HCOND _ _ W (by rw [hlen]; omega) ((unhide HTK).below hb0) (fun q hq => Nat.lt_of_lt_of_le (unhide HOB q hq) hb0.size)).mono ?_
      rintro e w' ⟨c, x, y, s, sx, sy, g, hr, rfl, hfx, hfy, hs, hb⟩
      obtain ⟨a5, c5, rfl⟩ := hfx.shape
      obtain ⟨a6, c6, rfl⟩ := hfy.shape
      have hzz := hW.size
      exact ⟨c, x, y, s, _, _, _, _, _, _, g, rfl, ⟨by rw [hsn]; exact hr, hfx, hfy, hs, ((unhide H1).1.below hW).below hb, ((unhide HR1).keep (hW.block _ (unhide HR1).lt) hW.size).keep (hb.block _ (by omega)) hb.size, hb, hb0, by omega⟩, hb⟩)
    have HXa := hide (unhide HP W1.drew (drew_belowS W1))
    have HXb : Hid (∀ z0 z1 z2 z3 z4 z5 z6 z7 z8 t, Calls Tryz.prog 102 #[.slice sa sn sc] (W1.alloc (.cells #[z0, z1, z2, z3, z4, z5, z6, z7, z8] t)).drew fun e w' => ∃ c x y s sa5 sn5 sc5 ta5 tn5 tc5 g, e = .returned (.tuple #[condV c x (.slice sa5 sn5 sc5) y (.slice ta5 tn5 tc5), .int .i64 (ansN s), g]) ∧ (w'.cell? ⟨W1.heap.size, 0, none⟩ = some z0 ∧ w'.cell? ⟨W1.heap.size, 1, none⟩ = some z1 ∧ w'.cell? ⟨W1.heap.size, 2, none⟩ = some z2 ∧ w'.cell? ⟨W1.heap.size, 3, none⟩ = some z3 ∧ w'.cell? ⟨W1.heap.size, 4, none⟩ = some z4 ∧ w'.cell? ⟨W1.heap.size, 5, none⟩ = some z5 ∧ w'.cell? ⟨W1.heap.size, 6, none⟩ = some z6 ∧ w'.cell? ⟨W1.heap.size, 7, none⟩ = some z7 ∧ w'.cell? ⟨W1.heap.size, 8, none⟩ = some z8) ∧ (w'.frozen? ⟨W1.heap.size, 0, none⟩ = false ∧ w'.frozen? ⟨W1.heap.size, 1, none⟩ = false ∧ w'.frozen? ⟨W1.heap.size, 2, none⟩ = false ∧ w'.frozen? ⟨W1.heap.size, 3, none⟩ = false ∧ w'.frozen? ⟨W1.heap.size, 4, none⟩ = false ∧ w'.frozen? ⟨W1.heap.size, 5, none⟩ = false ∧ w'.frozen? ⟨W1.heap.size, 6, none⟩ = false ∧ w'.frozen? ⟨W1.heap.size, 7, none⟩ = false ∧ w'.frozen? ⟨W1.heap.size, 8, none⟩ = false) ∧ MidC T (.slice la T.length lc) rb w (s9 w' W1.heap.size (.string ⟨c.toArray⟩) (.int .i64 x.kind) (.int .i64 x.n) (.string ⟨x.name.toArray⟩) (.slice sa5 sn5 sc5) (.int .i64 y.kind) (.int .i64 y.n) (.string ⟨y.name.toArray⟩) (.slice ta5 tn5 tc5)) p W1.heap.size c x y s (.slice sa5 sn5 sc5) (.slice ta5 tn5 tc5) g) := hide (fun z0 z1 z2 z3 z4 z5 z6 z7 z8 t => (unhide HP _ (bthen (alloc_below W1 _) (drew_belowS _))).mono (by
      rintro e w' ⟨c, x, y, s, sa5, sn5, sc5, ta5, tn5, tc5, g, he, hpr, hb⟩
      obtain ⟨hc, hf, hlt, hbb⟩ := box9_at hb
      have hs1 : (W1.alloc (.cells #[z0, z1, z2, z3, z4, z5, z6, z7, z8] t)).drew.heap.size = W1.heap.size + 1 := by show (W1.alloc _).heap.size = _; simp
      exact ⟨c, x, y, s, sa5, sn5, sc5, ta5, tn5, tc5, g, he, hc, hf, hpr.early (w0 := W1) (by omega) (by omega) hne (by omega) hc hf⟩))
    clear HP
    have hW1s : rb < W1.heap.size := by omega
    clear hz
    go_region_law (first
      | (go_simp; go_at_call 102; with_reducible refine (unhide HXa).mono ?_; rintro ev w5 ⟨c5, x5, y5, s5, sa5, sn5, sc5, ta5, tn5, tc5, g5, rfl, hpr, hb5⟩; replace hpr := hide hpr; clear hb5; dsimp only)
      | (go_simp; go_at_call 102; with_reducible refine (unhide HXb _ _ _ _ _ _ _ _ _ _).mono ?_; rintro ev w5 ⟨c5, x5, y5, s5, sa5, sn5, sc5, ta5, tn5, tc5, g5, rfl, ⟨q0, q1, q2, q3, q4, q5, q6, q7, q8⟩, ⟨k0, k1, k2, k3, k4, k5, k6, k7, k8⟩, hmx⟩; replace hmx := hide hmx; dsimp only))
    all_goals (
      go_wp2_with fail
      go_meet
      case rel => first
        | exact ⟨c5, x5, y5, s5, _, _, _, rfl, rfl, hide ((unhide hpr).late 28)⟩
        | exact ⟨c5, x5, y5, s5, _, _, _, rfl, rfl, hmx⟩)
  case rest =>
    obtain ⟨c, x, y, s, sx, sy, q, rfl, rfl, HM⟩ := hcut
    have hbl := behC_le (unhide HM).red h1
    have hqq := (unhide HM).qq
    obtain ⟨xa, xc, hxs⟩ := (unhide HM).fx.shape
    generalize hxl : x.a.length = xl at hxs
    subst hxs
    clear hxl
    obtain ⟨ya, yc, hys⟩ := (unhide HM).fy.shape
    generalize hyl : y.a.length = yl at hys
    subst hys
    clear hyl
    have HPOST : Hid (∀ w6, SR T (.slice la T.length lc) rb w6 (behP p s) (behE p s) → But rb wc w6 → BoxC w6 q c x (.slice xa xl xc) y (.slice ya yl yc) ∧ BoxC w6 w.heap.size [] E.none (.slice none 0 0) E.none (.slice none 0 0) ∧ (SR T (.slice la T.length lc) rb (s9 w6 w.heap.size (.string ⟨c.toArray⟩) (.int .i64 x.kind) (.int .i64 x.n) (.string ⟨x.name.toArray⟩) (.slice xa xl xc) (.int .i64 y.kind) (.int .i64 y.n) (.string ⟨y.name.toArray⟩) (.slice ya yl yc)) (behP p s) (behE p s) ∧ Forest (s9 w6 w.heap.size (.string ⟨c.toArray⟩) (.int .i64 x.kind) (.int .i64 x.n) (.string ⟨x.name.toArray⟩) (.slice xa xl xc) (.int .i64 y.kind) (.int .i64 y.n) (.string ⟨y.name.toArray⟩) (.slice ya yl yc)) (fun b => w.heap.size ≤ b) x.a (.slice xa xl xc) ∧ Forest (s9 w6 w.heap.size (.string ⟨c.toArray⟩) (.int .i64 x.kind) (.int .i64 x.n) (.string ⟨x.name.toArray⟩) (.slice xa xl xc) (.int .i64 y.kind) (.int .i64 y.n) (.string ⟨y.name.toArray⟩) (.slice ya yl yc)) (fun b => w.heap.size ≤ b) y.a (.slice ya yl yc) ∧ But rb w (s9 w6 w.heap.size (.string ⟨c.toArray⟩) (.int .i64 x.kind) (.int .i64 x.n) (.string ⟨x.name.toArray⟩) (.slice xa xl xc) (.int .i64 y.kind) (.int .i64 y.n) (.string ⟨y.name.toArray⟩) (.slice ya yl yc)))) := hide (by
      intro w6 hs6 hb6
      have hbs := but_s9 w.heap.size w6 (.string ⟨c.toArray⟩) (.int .i64 x.kind) (.int .i64 x.n) (.string ⟨x.name.toArray⟩) (.slice xa xl xc) (.int .i64 y.kind) (.int .i64 y.n) (.string ⟨y.name.toArray⟩) (.slice ya yl yc)
      have hsz := (unhide HM).old.size
      have hbx := (unhide HM).box.but hb6 (by omega)
      have hrs := (unhide HM).res.but hb6 (by omega)
      have hne : (Value.slice la T.length lc).ownBlock ≠ some w.heap.size := fun e => by have := unhide HLW _ e; omega
      have h6s := hb6.size
      refine ⟨hbx, hrs, hs6.otherC hbs (by omega) hne hrs.c2, ?_, ?_, ?_⟩
      · have hf6 : Forest w6 (fun b => w.heap.size < b) x.a (.slice xa xl xc) := (unhide HM).fx.keep (fun b hS hl => hb6.block b hl (fun e => by injection e with e; omega)) (fun b hS hl => hS)
        exact hf6.keep (fun b hS hl => hbs.block b hl (fun e => by injection e with e; omega)) (fun b hS hl => by omega)
      · have hf6 : Forest w6 (fun b => w.heap.size < b) y.a (.slice ya yl yc) := (unhide HM).fy.keep (fun b hS hl => hb6.block b hl (fun e => by injection e with e; omega)) (fun b hS hl => hS)
        exact hf6.keep (fun b hS hl => hbs.block b hl (fun e => by injection e with e; omega)) (fun b hS hl => by omega)
      · refine ⟨hbs.os.trans (hb6.os.trans (unhide HM).old.os), hbs.tape.trans (hb6.tape.trans (unhide HM).old.tape), hbs.output.trans (hb6.output.trans (unhide HM).old.output), Nat.le_trans hsz (Nat.le_trans h6s hbs.size), fun i hi hne => ?_⟩
        exact (hbs.block i (by omega) (fun e => by injection e with e; omega)).trans ((hb6.block i (by omega) hne).trans ((unhide HM).old.block i hi)))
    have HRED := hide (unhide HM).red
    by_cases he : s.err = 0
    · have hP : behP p s = p + s.pos := if_pos he
      have hE : behE p s = .ok := if_pos he
      have hN : ansN s = s.pos := if_pos he
      obtain rfl := says_nilS (unhide HM).say he
      have HT := hide (tookOk_any T (.slice la T.length lc) rb wc p s.pos .ok (unhide HM).rd hbl.1)
      rw [hN]
      rw [← hP] at HT
      have HOK : Hid (SE.ok = behE p s) := hide hE.symm
      rw [unhide HOK] at HT
      clear hP hE hN he
      generalize s.pos = sp at *
      go_wp2_with fail
      refine (unhide HT).mono ?_
      rintro ev w6 ⟨rfl, h6, hb6⟩
      obtain ⟨hbx, hrs, hpost⟩ := unhide HPOST w6 h6 hb6
      have HP6 := hide hpost
      obtain ⟨m0, m1, m2, m3, m4, m5, m6, m7, m8, -, -, -, -, -, -, -, -, -, -⟩ := hbx
      obtain ⟨r0, r1, r2, r3, r4, r5, r6, r7, r8, z0, z1, z2, z3, z4, z5, z6, z7, z8, hrl⟩ := hrs
      clear h6 hb6 hpost
      have hqne : ¬ q = w.heap.size := by omega
      have hqne2 : ¬ w.heap.size = q := by omega
      go_wp2
      exact bodyPost_ret (v := condV c x (.slice xa xl xc) y (.slice ya yl yc)) (by simp [results, Tryz.results58, go_sem, r0, r1, r2, r3, r4, r5, r6, r7, r8]) rfl ⟨c, x, y, s, _, _, _, _, _, _, unhide HRED, rfl, (unhide HP6).2.1, (unhide HP6).2.2.1, (unhide HP6).1, (unhide HP6).2.2.2⟩
    · have hP : behP p s = p + s.bad := if_neg he
      have hE : behE p s = .sub (p + s.bad) s.bad s.err := if_neg he
      obtain ⟨b2, hb2, hgg, hl2⟩ := says_leaf (unhide HM).say he
      subst hgg
      have hGc := (unhide HGW).below (unhide HM).old
      have HT := hide (tookErr_any T (.slice la T.length lc) rb wc p (ansN s) b2 s.bad s.err (unhide HM).rd hGc hl2 (by omega) hbl.2)
      rw [← hP] at HT
      have HOK : Hid (SE.sub (behP p s) s.bad s.err = behE p s) := hide (by rw [hE, hP])
      rw [unhide HOK] at HT
      clear hP hE he hl2 hb2
      go_wp2_with fail
      refine (unhide HT).mono ?_
      rintro ev w6 ⟨rfl, h6, hb6⟩
      obtain ⟨hbx, hrs, hpost⟩ := unhide HPOST w6 h6 hb6
      have HP6 := hide hpost
      obtain ⟨m0, m1, m2, m3, m4, m5, m6, m7, m8, -, -, -, -, -, -, -, -, -, -⟩ := hbx
      obtain ⟨r0, r1, r2, r3, r4, r5, r6, r7, r8, z0, z1, z2, z3, z4, z5, z6, z7, z8, hrl⟩ := hrs
      clear h6 hb6 hpost
      have hqne : ¬ q = w.heap.size := by omega
      have hqne2 : ¬ w.heap.size = q := by omega
      go_wp2
      exact bodyPost_ret (v := condV c x (.slice xa xl xc) y (.slice ya yl yc)) (by simp [results, Tryz.results58, go_sem, r0, r1, r2, r3, r4, r5, r6, r7, r8]) rfl ⟨c, x, y, s, _, _, _, _, _, _, unhide HRED, rfl, (unhide HP6).2.1, (unhide HP6).2.2.1, (unhide HP6).1, (unhide HP6).2.2.2⟩
end Go.Proofs.YtdpjipphbhomkaaGreatDoor.Line

namespace Go.Proofs.YtdpjipphbhomkaaGreatDoor.Line
open Go.ChangeShapes Go.WideShapes Go.ChangeAt Go.RowKit
open Ex (E St)
set_option linter.unusedVariables false

/-- how a condition is read -/
def CR (T : List Words.T) (p : Nat) (er : SE) (c : List UInt8) (x y : E) (p' : Nat) (er' : SE) : Prop := (er ≠ .ok ∧ c = [] ∧ x = E.none ∧ y = E.none ∧ p' = p ∧ er' = er) ∨ (er = .ok ∧ ∃ s, RCond ((T.drop p).take (T.length - p)) c x y s ∧ p' = behP p s ∧ er' = behE p s)
theorem cond_any (HCOND : CondSpec) (T : List Words.T) (L : Value) (rb : Nat) (w : World) (p : Nat) (er : SE) (h : SR T L rb w p er) (hG : Glob w) : Calls Tryz.prog 58 #[.pointer (some ⟨rb, 0, none⟩)] w fun e w' => ∃ c x y a n m a' n' m' p' er', CR T p er c x y p' er' ∧ e = .returned (condV c x (.slice a n m) y (.slice a' n' m')) ∧ Forest w' (fun b => w.heap.size ≤ b) x.a (.slice a n m) ∧ Forest w' (fun b => w.heap.size ≤ b) y.a (.slice a' n' m') ∧ SR T L rb w' p' er' ∧ But rb w w' := by
  by_cases he : er = .ok
  · subst he
    refine (condOk_any HCOND T L rb w p h hG).mono ?_
    rintro e w' ⟨c, x, y, s, a, n, m, a', n', m', hr, rfl, hx, hy, hs, hb⟩
    exact ⟨c, x, y, a, n, m, a', n', m', _, _, .inr ⟨rfl, s, hr, rfl, rfl⟩, rfl, hx, hy, hs, hb⟩
  · refine (condBad_any T L rb w p er h he).mono ?_
    rintro e w' ⟨rfl, hs, hb⟩
    exact ⟨[], E.none, E.none, none, 0, 0, none, 0, 0, p, er, .inl ⟨he, rfl, rfl, rfl, rfl, rfl⟩, rfl, .nil none 0, .nil none 0, hs, hb⟩
abbrev ifH (k : Int) (c : List UInt8) (x : E) (sx : Value) : Array Value := #[.int .i64 k, .slice none 0 0, .int .i64 0, .int .i64 0, .string ⟨#[]⟩, .slice none 0 0, .int .i64 0, .int .i64 0, .string ⟨#[]⟩, .slice none 0 0, .string ⟨c.toArray⟩, .int .i64 x.kind, .int .i64 x.n, .string ⟨x.name.toArray⟩, sx, .int .i64 0, .int .i64 0, .string ⟨#[]⟩, .slice none 0 0, .string ⟨#[]⟩, .int .i64 0, .int .i64 0, .string ⟨#[]⟩, .slice none 0 0, .int .i64 0, .int .i64 0, .string ⟨#[]⟩, .slice none 0 0, .int .i64 0]
abbrev ifV (k : Int) (c : List UInt8) (x : E) (sx : Value) (y : E) (sy : Value) : Array Value := #[.int .i64 k, .slice none 0 0, .int .i64 0, .int .i64 0, .string ⟨#[]⟩, .slice none 0 0, .int .i64 0, .int .i64 0, .string ⟨#[]⟩, .slice none 0 0, .string ⟨c.toArray⟩, .int .i64 x.kind, .int .i64 x.n, .string ⟨x.name.toArray⟩, sx, .int .i64 y.kind, .int .i64 y.n, .string ⟨y.name.toArray⟩, sy, .string ⟨#[]⟩, .int .i64 0, .int .i64 0, .string ⟨#[]⟩, .slice none 0 0, .int .i64 0, .int .i64 0, .string ⟨#[]⟩, .slice none 0 0, .int .i64 0]
theorem ifH_eq (k : Int) (c : List UInt8) (x : E) (sx : Value) : ((((((stZ k).setIfInBounds 10 (.string ⟨c.toArray⟩)).setIfInBounds 11 (.int .i64 x.kind)).setIfInBounds 12 (.int .i64 x.n)).setIfInBounds 13 (.string ⟨x.name.toArray⟩)).setIfInBounds 14 sx) = ifH k c x sx := rfl
theorem ifV_eq (k : Int) (c : List UInt8) (x : E) (sx : Value) (y : E) (sy : Value) : (((((ifH k c x sx).setIfInBounds 15 (.int .i64 y.kind)).setIfInBounds 16 (.int .i64 y.n)).setIfInBounds 17 (.string ⟨y.name.toArray⟩)).setIfInBounds 18 sy) = ifV k c x sx y sy := rfl
theorem but_c9 (q : Nat) (w : World) (a0 a1 a2 a3 a4 a5 a6 a7 a8 : Value) : But q w (((((((((w.setCell ⟨q, 10, none⟩ a0).setCell ⟨q, 11, none⟩ a1).setCell ⟨q, 12, none⟩ a2).setCell ⟨q, 13, none⟩ a3).setCell ⟨q, 14, none⟩ a4).setCell ⟨q, 15, none⟩ a5).setCell ⟨q, 16, none⟩ a6).setCell ⟨q, 17, none⟩ a7).setCell ⟨q, 18, none⟩ a8) := ((((((((set_but q w 10 a0).trans (set_but q _ 11 a1)).trans (set_but q _ 12 a2)).trans (set_but q _ 13 a3)).trans (set_but q _ 14 a4)).trans (set_but q _ 15 a5)).trans (set_but q _ 16 a6)).trans (set_but q _ 17 a7)).trans (set_but q _ 18 a8)
theorem MidSt.set9 {T : List Words.T} {L : Value} {rb : Nat} {w W : World} {q : Nat} {k : Int} {p : Nat} {er : SE} (h : MidSt T L rb w W q (stZ k) p er) (c : List UInt8) (x : E) (sx : Value) (y : E) (sy : Value) : MidSt T L rb w (((((((((W.setCell ⟨q, 10, none⟩ (.string ⟨c.toArray⟩)).setCell ⟨q, 11, none⟩ (.int .i64 x.kind)).setCell ⟨q, 12, none⟩ (.int .i64 x.n)).setCell ⟨q, 13, none⟩ (.string ⟨x.name.toArray⟩)).setCell ⟨q, 14, none⟩ sx).setCell ⟨q, 15, none⟩ (.int .i64 y.kind)).setCell ⟨q, 16, none⟩ (.int .i64 y.n)).setCell ⟨q, 17, none⟩ (.string ⟨y.name.toArray⟩)).setCell ⟨q, 18, none⟩ sy) q (ifV k c x sx y sy) p er := by
  have h5 := ((((h.set 10 (.string ⟨c.toArray⟩) (fun e => by omega)).set 11 (.int .i64 x.kind) (fun e => by omega)).set 12 (.int .i64 x.n) (fun e => by omega)).set 13 (.string ⟨x.name.toArray⟩) (fun e => by omega)).set 14 sx (fun e => by omega)
  rw [ifH_eq] at h5
  have h9 := (((h5.set 15 (.int .i64 y.kind) (fun e => by omega)).set 16 (.int .i64 y.n) (fun e => by omega)).set 17 (.string ⟨y.name.toArray⟩) (fun e => by omega)).set 18 sy (fun e => by omega)
  rw [ifV_eq] at h9
  exact h9
def IfR (T : List Words.T) (p : Nat) (er : SE) (c : List UInt8) (x y : E) (p' : Nat) (er' : SE) : Prop :=
  ∃ pa ea p1 e1 pb eb, pa = nextP (isNext T p er [40]) p ∧ ea = mustE (isNext T p er [40]) er p ∧ CR T pa ea c x y p1 e1 ∧ pb = nextP (isNext T p1 e1 [41]) p1 ∧ eb = mustE (isNext T p1 e1 [41]) e1 p1 ∧ p' = nextP (isNext T pb eb [116, 104, 101, 110]) pb ∧ er' = mustE (isNext T pb eb [116, 104, 101, 110]) eb pb
set_option maxHeartbeats 16000000 in
set_option maxRecDepth 100000 in
theorem stmt_if (HCOND : CondSpec) (T : List Words.T) (L : Value) (rb : Nat) (w : World) (p : Nat) (er : SE) (hl : rb < w.heap.size) (h0 : 0 < rb) (hlw : ∀ q, L.ownBlock = some q → q < w.heap.size) (hG : Glob w) (HK : KindIs T L rb w 5 p er) : Calls Tryz.prog 21 #[.pointer (some ⟨rb, 0, none⟩)] w fun e w' => ∃ c x y a n m a' n' m' p' er', IfR T p er c x y p' er' ∧ e = .returned (.agg (ifV 5 c x (.slice a n m) y (.slice a' n' m'))) ∧ Forest w' (fun b => w.heap.size < b) x.a (.slice a n m) ∧ Forest w' (fun b => w.heap.size < b) y.a (.slice a' n' m') ∧ SR T L rb w' p' er' ∧ But rb w w' := by
  have ba := alloc_below w (.cells (stZ 0) STT)
  have HKA := hide (HK _ ba)
  have HLW := hide hlw
  have HG := hide hG
  have HCO := hide HCOND
  clear HK ba hlw hG HCOND
  go_enter Tryz.func21, Tryz.ntmps21
  go_wp2_with fail
  refine (unhide HKA).mono ?_
  rintro e w3 ⟨rfl, h3, hb3⟩
  have HM := hide (midSt_start 5 h3 hb3 hl (unhide HLW))
  clear h3 hb3 HKA
  go_wp2_with (refine wpList_storeNew rfl _ _ rfl _ _ rfl rfl rfl rfl (by kernel_rfl) ?_)
  generalize w3.alloc (.cells (stZ 5) STT) = W4 at *
  generalize w3.heap.size = q at *
  refine (must_any T L rb W4 p er [40] (unhide HM).rd).mono ?_
  rintro e w6 ⟨rfl, h6, hb6⟩
  generalize hpa : nextP (isNext T p er [40]) p = pa at *
  generalize hea : mustE (isNext T p er [40]) er p = ea at *
  have HM6 := hide ((unhide HM).call h6 hb6)
  have HE1 := hide (And.intro hpa hea)
  clear h6 hb6 hpa hea HM
  go_wp2_with fail
  refine (cond_any (unhide HCO) T L rb w6 pa ea (unhide HM6).rd ((unhide HM6).glob (unhide HG) h0)).mono ?_
  rintro e w8 ⟨c, x, y, a, n, m, a', n', m', p2, e2, hx8, rfl, hfx, hfy, h8, hb8⟩
  have HM8 := hide ((unhide HM6).call h8 hb8)
  have hq7 := (unhide HM6).var.lt
  have hfx' : Forest w8 (fun b => q < b) x.a (.slice a n m) := hfx.mono (fun b hS _ => by omega)
  have hfy' : Forest w8 (fun b => q < b) y.a (.slice a' n' m') := hfy.mono (fun b hS _ => by omega)
  have HM9 := hide ((unhide HM8).set9 c x (.slice a n m) y (.slice a' n' m'))
  have hb9 := but_c9 q w8 (.string ⟨c.toArray⟩) (.int .i64 x.kind) (.int .i64 x.n) (.string ⟨x.name.toArray⟩) (.slice a n m) (.int .i64 y.kind) (.int .i64 y.n) (.string ⟨y.name.toArray⟩) (.slice a' n' m')
  have HF9 := hide (And.intro (forestBut hfx' hb9 (Nat.le_refl _)) (forestBut hfy' hb9 (Nat.le_refl _)))
  have HE2 := hide hx8
  have d0 := (unhide HM8).var.cell 10 (.string ⟨#[]⟩) rfl
  have f0 := (unhide HM8).var.frozen 10
  have d1 := (unhide HM8).var.cell 11 (.int .i64 0) rfl
  have f1 := (unhide HM8).var.frozen 11
  have d2 := (unhide HM8).var.cell 12 (.int .i64 0) rfl
  have f2 := (unhide HM8).var.frozen 12
  have d3 := (unhide HM8).var.cell 13 (.string ⟨#[]⟩) rfl
  have f3 := (unhide HM8).var.frozen 13
  have d4 := (unhide HM8).var.cell 14 (.slice none 0 0) rfl
  have f4 := (unhide HM8).var.frozen 14
  have d5 := (unhide HM8).var.cell 15 (.int .i64 0) rfl
  have f5 := (unhide HM8).var.frozen 15
  have d6 := (unhide HM8).var.cell 16 (.int .i64 0) rfl
  have f6 := (unhide HM8).var.frozen 16
  have d7 := (unhide HM8).var.cell 17 (.string ⟨#[]⟩) rfl
  have f7 := (unhide HM8).var.frozen 17
  have d8 := (unhide HM8).var.cell 18 (.slice none 0 0) rfl
  have f8 := (unhide HM8).var.frozen 18
  clear h8 hb8 hfx hfy hfx' hfy' hb9 hx8 HM6
  go_wp2_with fail
  generalize ((((((((w8.setCell ⟨q, 10, none⟩ (.string ⟨c.toArray⟩)).setCell ⟨q, 11, none⟩ (.int .i64 x.kind)).setCell ⟨q, 12, none⟩ (.int .i64 x.n)).setCell ⟨q, 13, none⟩ (.string ⟨x.name.toArray⟩)).setCell ⟨q, 14, none⟩ (.slice a n m)).setCell ⟨q, 15, none⟩ (.int .i64 y.kind)).setCell ⟨q, 16, none⟩ (.int .i64 y.n)).setCell ⟨q, 17, none⟩ (.string ⟨y.name.toArray⟩)).setCell ⟨q, 18, none⟩ (.slice a' n' m') = W9 at *
  clear d0 f0 d1 f1 d2 f2 d3 f3 d4 f4 d5 f5 d6 f6 d7 f7 d8 f8 HM8
  refine (must_any T L rb W9 p2 e2 [41] (unhide HM9).rd).mono ?_
  rintro e w10 ⟨rfl, h10, hb10⟩
  generalize hpb : nextP (isNext T p2 e2 [41]) p2 = pb at *
  generalize heb : mustE (isNext T p2 e2 [41]) e2 p2 = eb at *
  have hqq := (unhide HM9).qq
  have HM10 := hide ((unhide HM9).call h10 hb10)
  have HF10 := hide (And.intro (forestBut (unhide HF9).1 hb10 (by omega)) (forestBut (unhide HF9).2 hb10 (by omega)))
  have HE3 := hide (And.intro hpb heb)
  clear h10 hb10 hpb heb HM9 HF9
  go_wp2_with fail
  refine (must_any T L rb w10 pb eb [116, 104, 101, 110] (unhide HM10).rd).mono ?_
  rintro e w12 ⟨rfl, h12, hb12⟩
  generalize hpc : nextP (isNext T pb eb [116, 104, 101, 110]) pb = pc at *
  generalize hec : mustE (isNext T pb eb [116, 104, 101, 110]) eb pb = ec at *
  have HM12 := hide ((unhide HM10).call h12 hb12)
  have HF12 := hide (And.intro (forestBut (unhide HF10).1 hb12 (by omega)) (forestBut (unhide HF10).2 hb12 (by omega)))
  have HE4 := hide (And.intro hpc hec)
  clear h12 hb12 hpc hec HM10 HF10
  go_upto_region 24 with fail
  obtain ⟨z1, z2, z3, z4⟩ := (unhide HM12).done
  have HZ := hide (And.intro z1 (And.intro z2 (And.intro z3 (And.intro ((forestBut (unhide HF12).1 z4 (by omega)).mono (S' := fun b => w.heap.size < b) (fun b hS _ => by omega)) ((forestBut (unhide HF12).2 z4 (by omega)).mono (S' := fun b => w.heap.size < b) (fun b hS _ => by omega))))))
  clear z1 z2 z3 z4 HF12
  have HDR : Hid (IfR T p er c x y pc ec) := hide ⟨pa, ea, p2, e2, pb, eb, (unhide HE1).1.symm, (unhide HE1).2.symm, unhide HE2, (unhide HE3).1.symm, (unhide HE3).2.symm, (unhide HE4).1.symm, (unhide HE4).2.symm⟩
  have hone : (ifV 5 c x (.slice a n m) y (.slice a' n' m')).all (·.oneCell') = true := by kernel_rfl
  have hsz : (ifV 5 c x (.slice a n m) y (.slice a' n' m')).size = 29 := rfl
  go_wp2_with (first | (refine wpList_loadRow rfl _ rfl _ _ rfl (unhide HM12).var ?_) | (refine wpList_storeRow rfl _ _ rfl _ _ _ rfl rfl (unhide HM12).res hsz hone ?_))
  exact bodyPost_ret (results_cell_row rfl _ _ w.heap.size STT (ifV 5 c x (.slice a n m) y (.slice a' n' m')) (0, 0) _ rfl (unhide HZ).1.1 Tryz.underlying30 rfl infoS) rfl ⟨c, x, y, a, n, m, a', n', m', pc, ec, unhide HDR, rfl, (unhide HZ).2.2.2.1, (unhide HZ).2.2.2.2, (unhide HZ).2.1, (unhide HZ).2.2.1⟩
end Go.Proofs.YtdpjipphbhomkaaGreatDoor.Line

namespace Go.Proofs.YtdpjipphbhomkaaGreatDoor.Line
open Go.ChangeShapes Go.WideShapes Go.ChangeAt Go.RowKit
open Ex (E St)
set_option linter.unusedVariables false

/-- what a statement's fields say, in blocks behind B alone -/
def Far (B : Nat) (RES : Array Value → Nat → SE → World → Prop) : Prop := ∀ cs p er W W', RES cs p er W → (∀ b, B < b → b < W.heap.size → W'.heap[b]? = W.heap[b]?) → RES cs p er W'
def StmtSpec (T : List Words.T) (B : Nat) (RES : Array Value → Nat → SE → World → Prop) : Prop := ∀ (L : Value) (rb : Nat) (W : World), W.heap.size = B → SR T L rb W 0 .ok → rb < W.heap.size → 0 < rb → (∀ q, L.ownBlock = some q → q < W.heap.size) → Glob W →
  Calls Tryz.prog 21 #[.pointer (some ⟨rb, 0, none⟩)] W fun e w' => ∃ cs p er, e = .returned (.agg cs) ∧ cs.size = 29 ∧ cs.all (·.oneCell') = true ∧ SR T L rb w' p er ∧ But rb W w' ∧ RES cs p er w'
def endE (T : List Words.T) (p : Nat) (er : SE) : SE := if p < T.length then failE er p 2 else er
theorem seMono {B B' : Nat} {w : World} {g : Value} {er : SE} (h : Se B' w g er) (hb : B ≤ B') : Se B w g er := by
  cases er with
  | ok => exact h
  | leaf p e => obtain ⟨b, h1, h2⟩ := h; exact ⟨b, Nat.le_trans hb h1, h2⟩
  | sub p k e => obtain ⟨b, b2, h1, h2, h3⟩ := h; exact ⟨b, b2, Nat.le_trans hb h1, Nat.le_trans hb h2, h3⟩
theorem res_st {fn : Func} {p u : Tmp} (h : fn.results = #[.cell p STT, .tmp u]) (tmps : Array Value) (W : World) (r : Nat) (cs : Array Value) (hp : tmps.getD p undef = .pointer (some ⟨r, 0, none⟩)) (hs : StAt W r cs) (g : Value) (hg : tmps.getD u undef = g) : (results fn tmps).run Tryz.prog W = .ok (.tuple #[.agg cs, g]) W := by
  rw [results_cell_tmp h, hp, hg]
  simp only [asAddr, Sem.run_pure, Result.andThen_ok]
  rw [run_loadVar_row (P := Tryz.prog) W r STT STT cs (0, 0) _ hs.1 Tryz.underlying30 rfl (by rw [hs.2]; exact infoS)]
  rfl
theorem step_storeRow {ops : Array Oper} {op : Oper} {a : Act} {w : World} {K : Act → World → Prop} {Q : Exit → Act → World → Prop} {P : Prop} (hgd : op.guard = none) (x y : Operand) (ho : op.op = .store STT x y) (g : Nat) (c c' : Array Value)
    (hx : a.eval x = .pointer (some ⟨g, 0, none⟩)) (hy : a.eval y = .agg c') (hs : StAt w g c) (hc' : c'.size = 29) (h1 : c'.all (·.oneCell') = true)
    (h : K (a.put op.dst undef) (w.setRow g c')) : if Region.wanted op (yielded ops a.tmps) = true then Oper.wp Tryz.prog op a w K Q else P := by
  have hw : Region.wanted op (yielded ops a.tmps) = true := by simp [Region.wanted, hgd]
  rw [if_pos hw]
  unfold Oper.wp execOp
  simp only [ho, hx, hy, Instr.storeAt, Instr.sureAddr, Sem.run_bind, Sem.run_pure, Result.andThen_ok, run_storeVar_row (P := Tryz.prog) w g STT STT c c' hs.1 (by rw [hc']; exact infoS) (by rw [hs.2, hc']) h1]
  exact h
set_option maxHeartbeats 16000000 in
set_option maxRecDepth 100000 in
theorem parse_ok (s : List UInt8) (T : List Words.T) (w : World) (hs : s.length ≤ 65536) (hT : Words.toks (Plain.bodyOf s) = (T, 0, 0)) (hTl : T.length ≤ 100000) (hbl : (Plain.bodyOf s).length ≤ 65536) (hG : Glob w) (hw0 : 0 < w.heap.size) (RES : Nat → Array Value → Nat → SE → World → Prop) (hfar : ∀ B, Far B (RES B)) (HST : ∀ B, StmtSpec T B (RES B)) (hokk : ∀ B cs p er W, RES B cs p er W → endE T p er = .ok) :
    Calls Tryz.prog 8 #[.string ⟨s.toArray⟩] w fun e w' => ∃ B cs p er, w.heap.size < B ∧ RES B cs p er w' ∧ Below w.heap.size w w' ∧ e = .returned (.tuple #[.agg cs, .nilIface]) := by
  have ba := alloc_below w (.cells (stZ 0) STT)
  have hz1 : (w.alloc (.cells (stZ 0) STT)).heap.size = w.heap.size + 1 := by simp
  have HP : Hid (Calls Tryz.prog 19 #[.string ⟨s.toArray⟩] (w.alloc (.cells (stZ 0) STT)) fun e w' => e = .returned (.tuple #[.string ⟨(Plain.bodyOf s).toArray⟩, .string ⟨(Plain.noteOf s).toArray⟩, .string ⟨(Plain.endOf s).toArray⟩]) ∧ ∃ n, w' = (w.alloc (.cells (stZ 0) STT)).drewN n) := hide (part_any s (w.alloc (.cells (stZ 0) STT)) hs)
  have H1 := hide (And.intro ba (And.intro (StAt.new w (stZ 0) rfl) (hG.below ba)))
  have HLN := hide (line_any (Plain.bodyOf s))
  rw [hT] at HLN
  generalize Plain.bodyOf s = body at *
  have HF := hide (And.intro hfar HST)
  have HOK := hide hokk
  clear ba hT hfar HST hG hokk
  go_enter Tryz.func8, Tryz.ntmps8
  go_wp2_with fail
  generalize (w.alloc (.cells (stZ 0) STT)) = W1 at *
  refine (unhide HP).mono ?_
  rintro e w2 ⟨rfl, n, rfl⟩
  have hd := below_drewN (Below.refl W1.heap.size W1) n
  have hzd : (W1.drewN n).heap.size = W1.heap.size := rfl
  have H2 := hide (And.intro (bthen (unhide H1).1 hd) (And.intro ((unhide H1).2.1.keep (hd.block _ (unhide H1).2.1.lt)) ((unhide H1).2.2.below hd)))
  rw [hz1] at hzd
  clear hd HP hz1
  generalize hW2 : W1.drewN n = W2 at *
  clear hW2
  go_wp2_with fail
  refine (unhide HLN W2 (by omega)).mono ?_
  rintro e w3 ⟨u, g, err, rfl, hu, hg, hn, hb3⟩
  obtain rfl : err = 0 := by
    rcases hn with h | ⟨h, _⟩
    · exact h
    · exact absurd h (by decide)
  obtain rfl := says_nilS hg rfl
  have H3 := hide (And.intro hu (And.intro (bthen (unhide H2).1 hb3) (And.intro ((unhide H2).2.1.keep (hb3.block _ (unhide H2).2.1.lt)) ((unhide H2).2.2.below hb3))))
  have hs3 := hb3.size
  obtain ⟨ua, uc, hus⟩ := hu.tks.shape
  subst hus
  clear hu hg hn hb3 HLN
  have bar := alloc_below w3 (.cells #[.slice ua T.length uc, .int .i64 0, .nilIface] SRT)
  have hzr : (w3.alloc (.cells #[.slice ua T.length uc, .int .i64 0, .nilIface] SRT)).heap.size = w3.heap.size + 1 := by simp
  have hown := (unhide H3).1.ownLt
  have HSR : Hid (SR T (.slice ua T.length uc) w3.heap.size (w3.alloc (.cells #[.slice ua T.length uc, .int .i64 0, .nilIface] SRT)) 0 .ok) := hide ⟨by simp, by simp, ⟨.nilIface, by simp, rfl⟩, by simp, by simp, by omega, (unhide H3).1.tks.below bar, fun e => by have := hown _ e; omega, fun q hq => by have := hown q hq; omega, Nat.zero_le _, hTl⟩
  have H4 := hide (And.intro (bthen (unhide H3).2.1 bar) (And.intro ((unhide H3).2.2.1.keep (bar.block _ (unhide H3).2.2.1.lt)) (And.intro ((unhide H3).2.2.2.below bar) (fun q hq => Nat.lt_of_lt_of_le (hown q hq) bar.size))))
  clear bar hown
  go_wp2_with fail
  generalize (w3.alloc (.cells #[.slice ua T.length uc, .int .i64 0, .nilIface] SRT)) = W4 at *
  generalize w3.heap.size = rb at *
  have HSB := hide ((unhide HF).2 W4.heap.size (.slice ua T.length uc) rb W4 rfl (unhide HSR) (unhide HSR).lt (by omega) (unhide H4).2.2.2 (unhide H4).2.2.1)
  refine (unhide HSB).mono ?_
  rintro e w5 ⟨cs, p, er, rfl, hcs, hone, h5, hb5, hres⟩
  have hzz := (unhide H4).1.size
  have HOW := hide (unhide H3).1.ownLt
  have hrl := (unhide H4).2.1.lt
  have hrb : w.heap.size < rb := by have := (unhide H2).2.1.lt; omega
  have b6 := alloc_below w5 (.cells cs STT)
  have hres5 := (unhide H4).2.1.keep (hb5.block _ hrl (fun e => by injection e with e; omega))
  have hm6 := And.intro (h5.below b6) (And.intro (hres5.keep (b6.block _ hres5.lt)) (And.intro (StAt.new w5 cs hcs) (And.intro ((unhide HF).1 _ cs p er _ _ hres (fun b _ hl => b6.block b hl)) ((but_below (rb := rb) (unhide H4).1).trans (hb5.trans (but_below b6))))))
  have hs5 := hb5.size
  have HM6 := hide hm6
  clear h5 hb5 hres b6 hres5 hm6 HSB
  go_wp2_with (refine wpList_storeNew rfl _ _ rfl _ _ rfl rfl rfl hcs hone ?_)
  generalize w5.alloc (.cells cs STT) = W6 at *
  generalize hq : w5.heap.size = q at *
  refine (endS_any T _ rb W6 p er (unhide HM6).1).mono ?_
  rintro e w7 ⟨rfl, h7, hb7⟩
  have hE : (if p < T.length then failE er p 2 else er) = endE T p er := rfl
  rw [hE] at h7
  obtain ⟨g, hg, hse⟩ := h7.ce
  have hqq : W4.heap.size ≤ q := by omega
  have hv7 := (unhide HM6).2.2.1.keep (hb7.block _ (unhide HM6).2.2.1.lt (fun e => by injection e with e; omega))
  have hr7 := (unhide HM6).2.1.keep (hb7.block _ (unhide HM6).2.1.lt (fun e => by injection e with e; omega))
  have hres7 := (unhide HF).1 _ cs p er _ _ (unhide HM6).2.2.2.1 (fun b hB hl => hb7.block b hl (fun e => by injection e with e; omega))
  have HM7 := hide (And.intro hv7 (And.intro hr7 (And.intro hres7 (And.intro ((unhide HM6).2.2.2.2.trans hb7) (And.intro h7 hse)))))
  clear hb7 h7 hv7 hr7 hres7 HM6 hE
  rcases hse.shape with ⟨hok, rfl⟩ | ⟨hbad, b, rfl⟩
  · obtain ⟨z1, z2⟩ := (unhide HM7).2.1.setRow (c' := cs) hcs
    have HZ := hide (And.intro z1 (And.intro ((unhide HF).1 _ cs p er _ _ (unhide HM7).2.2.1 (fun b hB hl => z2.block b hl (fun e => by injection e with e; omega))) ((stBut (unhide HM7).2.2.2.1 z2 (Nat.le_refl _)).below (show w.heap.size ≤ rb by omega) (Nat.le_refl _))))
    clear z1 z2 hse
    go_wp2_with (first | (refine wpList_loadRow rfl _ rfl _ _ rfl (unhide HM7).1 ?_) | (refine wpList_storeRow rfl _ _ rfl _ _ _ rfl rfl (unhide HM7).2.1 hcs hone ?_))
    exact bodyPost_ret (res_st rfl _ _ w.heap.size cs rfl (unhide HZ).1 _ rfl) rfl ⟨W4.heap.size, cs, p, er, by omega, (unhide HZ).2.1, (unhide HZ).2.2, rfl⟩
  · exact absurd (unhide HOK _ _ _ _ _ (unhide HM7).2.2.1) hbad
end Go.Proofs.YtdpjipphbhomkaaGreatDoor.Line

namespace Go.Proofs.YtdpjipphbhomkaaGreatDoor.Line
open Go.ChangeShapes Go.WideShapes Go.ChangeAt Go.RowKit
open Ex (E St)
set_option linter.unusedVariables false

set_option maxHeartbeats 16000000 in
set_option maxRecDepth 100000 in
theorem parse_of (s : List UInt8) (T : List Words.T) (w : World) (hs : s.length ≤ 65536) (hT : Words.toks (Plain.bodyOf s) = (T, 0, 0)) (hTl : T.length ≤ 100000) (hbl : (Plain.bodyOf s).length ≤ 65536) (hG : Glob w) (hw0 : 0 < w.heap.size) (RES : Nat → Array Value → Nat → SE → World → Prop) (hfar : ∀ B, Far B (RES B)) (HST : ∀ B, StmtSpec T B (RES B)) :
    Calls Tryz.prog 8 #[.string ⟨s.toArray⟩] w fun e w' => ∃ B cs p er, w.heap.size < B ∧ RES B cs p er w' ∧ Below w.heap.size w w' ∧ ((endE T p er = .ok ∧ e = .returned (.tuple #[.agg cs, .nilIface])) ∨ (endE T p er ≠ .ok ∧ ∃ g, e = .returned (.tuple #[.agg (stZ 0), g]) ∧ Se (w.heap.size + 1) w' g (endE T p er))) := by
  have ba := alloc_below w (.cells (stZ 0) STT)
  have hz1 : (w.alloc (.cells (stZ 0) STT)).heap.size = w.heap.size + 1 := by simp
  have HP : Hid (Calls Tryz.prog 19 #[.string ⟨s.toArray⟩] (w.alloc (.cells (stZ 0) STT)) fun e w' => e = .returned (.tuple #[.string ⟨(Plain.bodyOf s).toArray⟩, .string ⟨(Plain.noteOf s).toArray⟩, .string ⟨(Plain.endOf s).toArray⟩]) ∧ ∃ n, w' = (w.alloc (.cells (stZ 0) STT)).drewN n) := hide (part_any s (w.alloc (.cells (stZ 0) STT)) hs)
  have H1 := hide (And.intro ba (And.intro (StAt.new w (stZ 0) rfl) (hG.below ba)))
  have HLN := hide (line_any (Plain.bodyOf s))
  rw [hT] at HLN
  generalize Plain.bodyOf s = body at *
  have HF := hide (And.intro hfar HST)
  clear ba hT hfar HST hG
  go_enter Tryz.func8, Tryz.ntmps8
  go_wp2_with fail
  generalize (w.alloc (.cells (stZ 0) STT)) = W1 at *
  refine (unhide HP).mono ?_
  rintro e w2 ⟨rfl, n, rfl⟩
  have hd := below_drewN (Below.refl W1.heap.size W1) n
  have hzd : (W1.drewN n).heap.size = W1.heap.size := rfl
  have H2 := hide (And.intro (bthen (unhide H1).1 hd) (And.intro ((unhide H1).2.1.keep (hd.block _ (unhide H1).2.1.lt)) ((unhide H1).2.2.below hd)))
  rw [hz1] at hzd
  clear hd HP hz1
  generalize hW2 : W1.drewN n = W2 at *
  clear hW2
  go_wp2_with fail
  refine (unhide HLN W2 (by omega)).mono ?_
  rintro e w3 ⟨u, g, err, rfl, hu, hg, hn, hb3⟩
  obtain rfl : err = 0 := by
    rcases hn with h | ⟨h, _⟩
    · exact h
    · exact absurd h (by decide)
  obtain rfl := says_nilS hg rfl
  have H3 := hide (And.intro hu (And.intro (bthen (unhide H2).1 hb3) (And.intro ((unhide H2).2.1.keep (hb3.block _ (unhide H2).2.1.lt)) ((unhide H2).2.2.below hb3))))
  have hs3 := hb3.size
  obtain ⟨ua, uc, hus⟩ := hu.tks.shape
  subst hus
  clear hu hg hn hb3 HLN
  have bar := alloc_below w3 (.cells #[.slice ua T.length uc, .int .i64 0, .nilIface] SRT)
  have hzr : (w3.alloc (.cells #[.slice ua T.length uc, .int .i64 0, .nilIface] SRT)).heap.size = w3.heap.size + 1 := by simp
  have hown := (unhide H3).1.ownLt
  have HSR : Hid (SR T (.slice ua T.length uc) w3.heap.size (w3.alloc (.cells #[.slice ua T.length uc, .int .i64 0, .nilIface] SRT)) 0 .ok) := hide ⟨by simp, by simp, ⟨.nilIface, by simp, rfl⟩, by simp, by simp, by omega, (unhide H3).1.tks.below bar, fun e => by have := hown _ e; omega, fun q hq => by have := hown q hq; omega, Nat.zero_le _, hTl⟩
  have H4 := hide (And.intro (bthen (unhide H3).2.1 bar) (And.intro ((unhide H3).2.2.1.keep (bar.block _ (unhide H3).2.2.1.lt)) (And.intro ((unhide H3).2.2.2.below bar) (fun q hq => Nat.lt_of_lt_of_le (hown q hq) bar.size))))
  clear bar hown
  go_wp2_with fail
  generalize (w3.alloc (.cells #[.slice ua T.length uc, .int .i64 0, .nilIface] SRT)) = W4 at *
  generalize w3.heap.size = rb at *
  have HSB := hide ((unhide HF).2 W4.heap.size (.slice ua T.length uc) rb W4 rfl (unhide HSR) (unhide HSR).lt (by omega) (unhide H4).2.2.2 (unhide H4).2.2.1)
  refine (unhide HSB).mono ?_
  rintro e w5 ⟨cs, p, er, rfl, hcs, hone, h5, hb5, hres⟩
  have hzz := (unhide H4).1.size
  have HOW := hide (unhide H3).1.ownLt
  have hrl := (unhide H4).2.1.lt
  have hrb : w.heap.size < rb := by have := (unhide H2).2.1.lt; omega
  have b6 := alloc_below w5 (.cells cs STT)
  have hres5 := (unhide H4).2.1.keep (hb5.block _ hrl (fun e => by injection e with e; omega))
  have hm6 := And.intro (h5.below b6) (And.intro (hres5.keep (b6.block _ hres5.lt)) (And.intro (StAt.new w5 cs hcs) (And.intro ((unhide HF).1 _ cs p er _ _ hres (fun b _ hl => b6.block b hl)) ((but_below (rb := rb) (unhide H4).1).trans (hb5.trans (but_below b6))))))
  have hs5 := hb5.size
  have HM6 := hide hm6
  clear h5 hb5 hres b6 hres5 hm6 HSB
  go_wp2_with (refine wpList_storeNew rfl _ _ rfl _ _ rfl rfl rfl hcs hone ?_)
  generalize w5.alloc (.cells cs STT) = W6 at *
  generalize hq : w5.heap.size = q at *
  refine (endS_any T _ rb W6 p er (unhide HM6).1).mono ?_
  rintro e w7 ⟨rfl, h7, hb7⟩
  have hE : (if p < T.length then failE er p 2 else er) = endE T p er := rfl
  rw [hE] at h7
  obtain ⟨g, hg, hse⟩ := h7.ce
  have hqq : W4.heap.size ≤ q := by omega
  have hv7 := (unhide HM6).2.2.1.keep (hb7.block _ (unhide HM6).2.2.1.lt (fun e => by injection e with e; omega))
  have hr7 := (unhide HM6).2.1.keep (hb7.block _ (unhide HM6).2.1.lt (fun e => by injection e with e; omega))
  have hres7 := (unhide HF).1 _ cs p er _ _ (unhide HM6).2.2.2.1 (fun b hB hl => hb7.block b hl (fun e => by injection e with e; omega))
  have HM7 := hide (And.intro hv7 (And.intro hr7 (And.intro hres7 (And.intro ((unhide HM6).2.2.2.2.trans hb7) (And.intro h7 hse)))))
  clear hb7 h7 hv7 hr7 hres7 HM6 hE
  rcases hse.shape with ⟨hok, rfl⟩ | ⟨hbad, b, rfl⟩
  · obtain ⟨z1, z2⟩ := (unhide HM7).2.1.setRow (c' := cs) hcs
    have HZ := hide (And.intro z1 (And.intro ((unhide HF).1 _ cs p er _ _ (unhide HM7).2.2.1 (fun b hB hl => z2.block b hl (fun e => by injection e with e; omega))) ((stBut (unhide HM7).2.2.2.1 z2 (Nat.le_refl _)).below (show w.heap.size ≤ rb by omega) (Nat.le_refl _))))
    clear z1 z2 hse
    go_wp2_with (first | (refine wpList_loadRow rfl _ rfl _ _ rfl (unhide HM7).1 ?_) | (refine wpList_storeRow rfl _ _ rfl _ _ _ rfl rfl (unhide HM7).2.1 hcs hone ?_))
    exact bodyPost_ret (res_st rfl _ _ w.heap.size cs rfl (unhide HZ).1 _ rfl) rfl ⟨W4.heap.size, cs, p, er, by omega, (unhide HZ).2.1, (unhide HZ).2.2, .inl ⟨hok, rfl⟩⟩
  · have hdr : Below w7.heap.size w7 w7.drew := below_drewN (Below.refl _ _) 1
    have hst := (unhide HM7).2.1.keep (w' := w7.drew) rfl
    obtain ⟨z1, z2⟩ := hst.setRow (c' := stZ 0) rfl
    have hse2 : Se (w.heap.size + 1) (w7.drew.setRow w.heap.size (stZ 0)) (.iface FPT (.pointer (some ⟨b, 0, none⟩))) (endE T p er) := by
      have h1 : Se (rb + 1) w7.drew (.iface FPT (.pointer (some ⟨b, 0, none⟩))) (endE T p er) := hse.keep (fun b _ hl => hdr.block b hl)
      have h2 := h1.keep (w' := w7.drew.setRow w.heap.size (stZ 0)) (fun b hB hl => z2.block b hl (fun e => by injection e with e; omega))
      exact seMono h2 (by omega)
    have HZ := hide (And.intro z1 (And.intro ((unhide HF).1 _ cs p er _ _ (unhide HM7).2.2.1 (fun b hB hl => (z2.block b hl (fun e => by injection e with e; omega)).trans (hdr.block b hl))) (And.intro ((stBut ((unhide HM7).2.2.2.1.trans (but_below hdr)) z2 (Nat.le_refl _)).below (show w.heap.size ≤ rb by omega) (Nat.le_refl _)) hse2)))
    have HST7 := hide hst
    clear z1 z2 hse hse2 hdr hst
    have hg2 : (w7.drew.setRow w.heap.size (stZ 0)).cell? ⟨rb, 2, none⟩ = some (.iface FPT (.pointer (some ⟨b, 0, none⟩))) := (((unhide HST7).setRow (c' := stZ 0) rfl).2.cell (p := ⟨rb, 2, none⟩) (show rb < w7.heap.size from cell_lt hg) (show rb ≠ w.heap.size by omega)).trans hg
    go_wp2_with fail
    refine wp_region_any (by kernel_rfl) ?_
    change wpAny _ _ _ _ _ _ _ (World.drew _)
    refine wpAny_take (i := 0) (v := .agg (stZ 0)) rfl (by kernel_rfl) (by kernel_rfl) (by kernel_rfl) (fun _ _ _ h => h) (Or.inl ⟨by rfl, ?_⟩) ?_
    · intro W
      go_simp
    refine wpAny_take (i := 1) (v := .pointer (some ⟨rb, 2, none⟩)) rfl (by kernel_rfl) (by kernel_rfl) (by kernel_rfl) (fun _ _ _ h => h) (Or.inl ⟨by rfl, ?_⟩) ?_
    · intro W
      go_simp
    simp only [List.getElem_toArray, List.getElem_cons_succ, List.getElem_cons_zero, Act.put, List.setIfInBounds_toArray, List.set_cons_zero, List.set_cons_succ]
    refine wpAny_ready (rs := [2, 3]) (by kernel_rfl) (by simp) ?_
    refine AllReady.cons rfl (fun K hK => ?_) ?_
    · go_simp
      refine hK _ _ ?_
      clear hK K
      try simp only [List.getElem_toArray, List.getElem_cons_succ, List.getElem_cons_zero, Act.put, List.setIfInBounds_toArray, List.set_cons_zero, List.set_cons_succ]
      refine wpAny_ready (rs := [3]) (by kernel_rfl) (by simp) ?_
      refine AllReady.cons rfl (fun K hK => ?_) AllReady.nil
      refine step_storeRow rfl _ _ rfl _ _ _ rfl rfl (unhide HST7) rfl (by kernel_rfl) ?_
      refine hK _ _ ?_
      clear hK K
      try simp only [List.getElem_toArray, List.getElem_cons_succ, List.getElem_cons_zero, Act.put]
      refine wpAny_take (i := 4) (v := .iface FPT (.pointer (some ⟨b, 0, none⟩))) rfl (by kernel_rfl) (by kernel_rfl) (by kernel_rfl) (fun _ _ _ h => h) (Or.inl ⟨by rfl, ?_⟩) ?_
      · intro W
        go_simp
      refine wpAny_done (by kernel_rfl) ?_ _
      try simp only [List.getElem_toArray, List.getElem_cons_succ, List.getElem_cons_zero, Act.put, List.setIfInBounds_toArray, List.set_cons_zero, List.set_cons_succ]
      rename_i K1 a1 K2 a2
      refine a2 _ _ ?_
      go_wp2_with fail
      exact bodyPost_ret (res_st rfl _ _ w.heap.size (stZ 0) rfl (unhide HZ).1 (.iface FPT (.pointer (some ⟨b, 0, none⟩))) rfl) rfl ⟨W4.heap.size, cs, p, er, by omega, (unhide HZ).2.1, (unhide HZ).2.2.1, .inr ⟨hbad, _, rfl, (unhide HZ).2.2.2⟩⟩
    · refine AllReady.cons rfl (fun K hK => ?_) AllReady.nil
      refine step_storeRow rfl _ _ rfl _ _ _ rfl rfl (unhide HST7) rfl (by kernel_rfl) ?_
      refine hK _ _ ?_
      clear hK K
      try simp only [List.getElem_toArray, List.getElem_cons_succ, List.getElem_cons_zero, Act.put]
      refine wpAny_ready (rs := [2]) (by kernel_rfl) (by simp) ?_
      refine AllReady.cons rfl (fun K hK => ?_) AllReady.nil
      go_simp
      refine hK _ _ ?_
      clear hK K
      try simp only [List.getElem_toArray, List.getElem_cons_succ, List.getElem_cons_zero, Act.put, List.setIfInBounds_toArray, List.set_cons_zero, List.set_cons_succ]
      refine wpAny_take (i := 4) (v := .iface FPT (.pointer (some ⟨b, 0, none⟩))) rfl (by kernel_rfl) (by kernel_rfl) (by kernel_rfl) (fun _ _ _ h => h) (Or.inl ⟨by rfl, ?_⟩) ?_
      · intro W
        go_simp
      refine wpAny_done (by kernel_rfl) ?_ _
      try simp only [List.getElem_toArray, List.getElem_cons_succ, List.getElem_cons_zero, Act.put, List.setIfInBounds_toArray, List.set_cons_zero, List.set_cons_succ]
      rename_i K1 a1 K2 a2
      refine a2 _ _ ?_
      go_wp2_with fail
      exact bodyPost_ret (res_st rfl _ _ w.heap.size (stZ 0) rfl (unhide HZ).1 (.iface FPT (.pointer (some ⟨b, 0, none⟩))) rfl) rfl ⟨W4.heap.size, cs, p, er, by omega, (unhide HZ).2.1, (unhide HZ).2.2.1, .inr ⟨hbad, _, rfl, (unhide HZ).2.2.2⟩⟩
end Go.Proofs.YtdpjipphbhomkaaGreatDoor.Line
