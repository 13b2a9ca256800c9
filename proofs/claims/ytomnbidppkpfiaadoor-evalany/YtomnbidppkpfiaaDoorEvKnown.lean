/- The law's known(): its examples come to what they come to. -/
import Derived.Test.YtomnbidppkpfiaaDoorEvRdy
namespace Go.Proofs.YtomnbidppkpfiaaDoor.Line
open Go.ChangeShapes Go.WideShapes Go.ChangeAt Go.RowKit
open Ex (E)
open Ev (Sy Res)
set_option linter.unusedVariables false

set_option maxHeartbeats 8000000 in
set_option maxRecDepth 100000 in
theorem known9_any (w : World) (hG : Glob w) : Calls Tryd.prog 4 #[] w fun e w' => e = .returned (.bool true) ∧ Below w.heap.size w w' := by
  have HT := hide (table_any 4 w (by omega) (by omega))
  have HG := hide hG
  clear hG
  go_enter Tryd.func4, Tryd.ntmps4
  go_wp2_with fail
  refine (unhide HT).mono ?_
  rintro ev w1 ⟨sv1, rfl, hs1, hb1⟩
  have HTO := hide (toTab_any w1 sv1 15 _ hs1 (by simp [tabN]))
  obtain ⟨sa1, sc1, hsv1⟩ : ∃ a c, sv1 = .slice a 7 c := hs1.shape
  subst hsv1
  have HB1 := hide hb1
  clear hs1 hb1 HT
  go_wp2_with fail
  refine (unhide HTO).mono ?_
  rintro ev w2 ⟨sv2, rfl, hs2, hb2⟩
  have hb2' := bthen (unhide HB1) hb2
  obtain ⟨sa2, sc2, hsv2⟩ : ∃ a c, sv2 = .slice a 7 c := hs2.shape
  subst hsv2
  have al := alloc_below w2 (.cells #[.slice sa2 7 sc2, .int .i64 15] TbT)
  obtain ⟨Z, hr, hI, hfz⟩ := make_store (w2.alloc (.cells #[.slice sa2 7 sc2, .int .i64 15] TbT)) 15 (by omega)
  have hz : (w2.alloc (.cells #[.slice sa2 7 sc2, .int .i64 15] TbT)).heap.size = w2.heap.size + 1 := by simp
  have al2 := alloc_below (w2.alloc (.cells #[.slice sa2 7 sc2, .int .i64 15] TbT)) (.cells Z INT)
  have k0 : ((w2.alloc (.cells #[.slice sa2 7 sc2, .int .i64 15] TbT)).alloc (.cells Z INT)).cell? ⟨w2.heap.size, 0, none⟩ = some (.slice sa2 7 sc2) := (al2.cell (p := ⟨w2.heap.size, 0, none⟩) (by show w2.heap.size < _; omega)).trans (by simp)
  have k1 : ((w2.alloc (.cells #[.slice sa2 7 sc2, .int .i64 15] TbT)).alloc (.cells Z INT)).cell? ⟨w2.heap.size, 1, none⟩ = some (.int .i64 15) := (al2.cell (p := ⟨w2.heap.size, 1, none⟩) (by show w2.heap.size < _; omega)).trans (by simp)
  rw [hz] at hr hI hfz
  have hr' : (Instr.makeSlice STO (.int .i64 15) (.int .i64 15)).run Tryd.prog (w2.alloc (.cells #[.slice sa2 7 sc2, .int .i64 15] TbT)) = .ok (.slice (some ⟨w2.heap.size + 1, 0, none⟩) 15 15) ((w2.alloc (.cells #[.slice sa2 7 sc2, .int .i64 15] TbT)).alloc (.cells Z INT)) := hr
  have hb4 : Below w.heap.size w ((w2.alloc (.cells #[.slice sa2 7 sc2, .int .i64 15] TbT)).alloc (.cells Z INT)) := bthen hb2' (bthen al al2)
  have hbl := bthen al al2
  have hsz4 : w2.heap.size + 1 < ((w2.alloc (.cells #[.slice sa2 7 sc2, .int .i64 15] TbT)).alloc (.cells Z INT)).heap.size := by simp
  generalize ((w2.alloc (.cells #[.slice sa2 7 sc2, .int .i64 15] TbT)).alloc (.cells Z INT)) = W4 at *
  obtain ⟨hI9, hc9⟩ := ints_set hI 9 (by omega) 7
  have hf9 := hfz 9
  -- the store's cell is set: nothing else has turned
  have hR : Rdy w (W4.setCell ⟨w2.heap.size + 1, 9, none⟩ (.int .i64 7)) w2.heap.size (.slice sa2 7 sc2) (.slice (some ⟨w2.heap.size + 1, 0, none⟩) 15 15) 15 4 Ev.s15 := ⟨by simp [go_sem, k0], by simp [go_sem, k1], hs2.below (hbl.setCell (p := ⟨w2.heap.size + 1, 9, none⟩) (by show w2.heap.size ≤ w2.heap.size + 1; omega) _), hI9, hb4.setCell (p := ⟨w2.heap.size + 1, 9, none⟩) (by have := hb2'.size; show w.heap.size ≤ w2.heap.size + 1; omega) _, by omega, by omega, by decide⟩
  clear hb2 hs2 al al2 hr hI hfz HTO HB1 hz
  have hz5 : (W4.setCell ⟨w2.heap.size + 1, 9, none⟩ (.int .i64 7)).heap.size = W4.heap.size := by simp [World.setCell]
  have hA : ∀ W5 : World, W5.heap.size = W4.heap.size → Rdy w W5 w2.heap.size (.slice sa2 7 sc2) (.slice (some ⟨w2.heap.size + 1, 0, none⟩) 15 15) 15 4 Ev.s15 → Rdy w ((W5.alloc (.cells #[.int .i64 1, .int .i64 3, .string ⟨#[]⟩, .slice none 0 0, .int .i64 1, .int .i64 2, .string ⟨#[]⟩, .slice none 0 0] PET)).alloc (.cells #[.int .i64 3, .int .i64 0, .string ⟨#[98]⟩, .slice (some ⟨W4.heap.size, 0, none⟩) 2 2] PET)) w2.heap.size (.slice sa2 7 sc2) (.slice (some ⟨w2.heap.size + 1, 0, none⟩) 15 15) 15 4 Ev.s15 ∧ Forest ((W5.alloc (.cells #[.int .i64 1, .int .i64 3, .string ⟨#[]⟩, .slice none 0 0, .int .i64 1, .int .i64 2, .string ⟨#[]⟩, .slice none 0 0] PET)).alloc (.cells #[.int .i64 3, .int .i64 0, .string ⟨#[98]⟩, .slice (some ⟨W4.heap.size, 0, none⟩) 2 2] PET)) (fun _ => True) Ev.bE.a (.slice (some ⟨W4.heap.size, 0, none⟩) 2 2) ∧ At ((W5.alloc (.cells #[.int .i64 1, .int .i64 3, .string ⟨#[]⟩, .slice none 0 0, .int .i64 1, .int .i64 2, .string ⟨#[]⟩, .slice none 0 0] PET)).alloc (.cells #[.int .i64 3, .int .i64 0, .string ⟨#[98]⟩, .slice (some ⟨W4.heap.size, 0, none⟩) 2 2] PET)) (W4.heap.size + 1) 0 Ev.bE (.slice (some ⟨W4.heap.size, 0, none⟩) 2 2) := fun W5 h5 hR => by
    have a1 := alloc_below W5 (.cells #[.int .i64 1, .int .i64 3, .string ⟨#[]⟩, .slice none 0 0, .int .i64 1, .int .i64 2, .string ⟨#[]⟩, .slice none 0 0] PET)
    have a2 := alloc_below (W5.alloc (.cells #[.int .i64 1, .int .i64 3, .string ⟨#[]⟩, .slice none 0 0, .int .i64 1, .int .i64 2, .string ⟨#[]⟩, .slice none 0 0] PET)) (.cells #[.int .i64 3, .int .i64 0, .string ⟨#[98]⟩, .slice (some ⟨W4.heap.size, 0, none⟩) 2 2] PET)
    have hf : Forest (W5.alloc (.cells #[.int .i64 1, .int .i64 3, .string ⟨#[]⟩, .slice none 0 0, .int .i64 1, .int .i64 2, .string ⟨#[]⟩, .slice none 0 0] PET)) (fun _ => True) Ev.bE.a (.slice (some ⟨W5.heap.size, 0, none⟩) 2 2) := forest_two (w := W5) (S := fun _ => True) (x := .mk 1 3 [] []) (y := .mk 1 2 [] []) (sx := .slice none 0 0) (sy := .slice none 0 0) (t := PET) (.nil _ _) (.nil _ _) trivial
    rw [h5] at hf
    exact ⟨hR.below (bthen a1 a2), hf.old a2, At.of_alloc _ Ev.bE _ PET (by simp [h5])⟩
  obtain ⟨hR7, hF7, hA7⟩ := hA _ hz5 hR
  clear hA hR
  have HZ5 := hide hz5
  clear hz5
  go_upto_region 7 with fail
  generalize (((W4.setCell ⟨w2.heap.size + 1, 9, none⟩ (.int .i64 7)).alloc (.cells #[.int .i64 1, .int .i64 3, .string ⟨#[]⟩, .slice none 0 0, .int .i64 1, .int .i64 2, .string ⟨#[]⟩, .slice none 0 0] PET)).alloc (.cells #[.int .i64 3, .int .i64 0, .string ⟨#[98]⟩, .slice (some ⟨W4.heap.size, 0, none⟩) 2 2] PET)) = W7 at *
  generalize W4.heap.size + 1 = qb at *
  generalize W4.heap.size = qr at *
  generalize w2.heap.size + 1 = qs at *
  generalize w2.heap.size = tb at *
  have t0 := hR7.t0
  have t1 := hR7.t1
  have a0 : W7.cell? ⟨qb, 0, none⟩ = some (.int .i64 3) := hA7.c0
  have a1 : W7.cell? ⟨qb, 1, none⟩ = some (.int .i64 0) := hA7.c1
  have a2 : W7.cell? ⟨qb, 2, none⟩ = some (.string ⟨#[98]⟩) := hA7.c2
  have a3 : W7.cell? ⟨qb, 3, none⟩ = some (.slice (some ⟨qr, 0, none⟩) 2 2) := hA7.c3
  have HP := hide (hR7.place_ok Ev.bE _ hF7 (by decide) 9 ((place_inr Ev.kn_cell.1).trans Ev.kn_cell.2))
  have HK7 := hide (And.intro hR7 (And.intro hF7 hA7))
  clear hR7 hF7 hA7
  go_upto_region 8 with (go_at_call 15; refine (unhide HP).mono ?_; rintro ev w9 ⟨rfl, hb9⟩; have HB9 := hide hb9; clear hb9)
  clear t0 t1 a0 a1 a2 a3 HP
  have HK9 := hide (And.intro ((unhide HK7).1.below (unhide HB9)) (And.intro ((unhide HK7).2.1.old (unhide HB9)) ((unhide HK7).2.2.below (unhide HB9))))
  obtain ⟨hR, hF, hA⟩ := unhide HK9
  have t0 := hR.t0
  have t1 := hR.t1
  have a0 : w9.cell? ⟨qb, 0, none⟩ = some (.int .i64 3) := hA.c0
  have a1 : w9.cell? ⟨qb, 1, none⟩ = some (.int .i64 0) := hA.c1
  have a2 : w9.cell? ⟨qb, 2, none⟩ = some (.string ⟨#[98]⟩) := hA.c2
  have a3 : w9.cell? ⟨qb, 3, none⟩ = some (.slice (some ⟨qr, 0, none⟩) 2 2) := hA.c3
  have al1 := alloc_below w9 (.cells #[.int .i64 3, .int .i64 0, .string ⟨#[98]⟩, .slice (some ⟨qr, 0, none⟩) 2 2] PET)
  have hz1 : (w9.alloc (.cells #[.int .i64 3, .int .i64 0, .string ⟨#[98]⟩, .slice (some ⟨qr, 0, none⟩) 2 2] PET)).heap.size = w9.heap.size + 1 := by simp
  have al2 := alloc_below (w9.alloc (.cells #[.int .i64 3, .int .i64 0, .string ⟨#[98]⟩, .slice (some ⟨qr, 0, none⟩) 2 2] PET)) (.cells #[.int .i64 4, .int .i64 0, .string ⟨#[]⟩, .slice (some ⟨w9.heap.size, 0, none⟩) 1 1, .int .i64 1, .int .i64 2, .string ⟨#[]⟩, .slice none 0 0] PET)
  have f1 : Forest (w9.alloc (.cells #[.int .i64 3, .int .i64 0, .string ⟨#[98]⟩, .slice (some ⟨qr, 0, none⟩) 2 2] PET)) (fun _ => True) Ev.negE.a (.slice (some ⟨w9.heap.size, 0, none⟩) 1 1) := forest_one (x := Ev.bE) (t := PET) hF trivial
  have f2 : Forest ((w9.alloc (.cells #[.int .i64 3, .int .i64 0, .string ⟨#[98]⟩, .slice (some ⟨qr, 0, none⟩) 2 2] PET)).alloc (.cells #[.int .i64 4, .int .i64 0, .string ⟨#[]⟩, .slice (some ⟨w9.heap.size, 0, none⟩) 1 1, .int .i64 1, .int .i64 2, .string ⟨#[]⟩, .slice none 0 0] PET)) (fun _ => True) Ev.divE.a (.slice (some ⟨(w9.alloc (.cells #[.int .i64 3, .int .i64 0, .string ⟨#[98]⟩, .slice (some ⟨qr, 0, none⟩) 2 2] PET)).heap.size, 0, none⟩) 2 2) := forest_two (x := Ev.negE) (y := Ev.twoE) (t := PET) f1 (.nil _ _) trivial
  rw [hz1] at f2
  have HB10 := hide (bthen al1 al2)
  have HP := hide ((hR.below (bthen al1 al2)).eval_ok Ev.divE _ f2 (by decide) (-3) Ev.kn_div)
  clear hR hF hA al1 al2 hz1 f1 f2
  go_upto_region 9 with (go_at_call 11; refine (unhide HP).mono ?_; rintro ev w10 ⟨rfl, hb10⟩; replace HB10 := hide (bthen (unhide HB10) hb10); clear hb10)
  clear t0 t1 a0 a1 a2 a3 HP
  have HK10 := hide (And.intro ((unhide HK9).1.below (unhide HB10)) (And.intro ((unhide HK9).2.1.old (unhide HB10)) ((unhide HK9).2.2.below (unhide HB10))))
  obtain ⟨hR, hF, hA⟩ := unhide HK10
  have t0 := hR.t0
  have t1 := hR.t1
  have a0 : w10.cell? ⟨qb, 0, none⟩ = some (.int .i64 3) := hA.c0
  have a1 : w10.cell? ⟨qb, 1, none⟩ = some (.int .i64 0) := hA.c1
  have a2 : w10.cell? ⟨qb, 2, none⟩ = some (.string ⟨#[98]⟩) := hA.c2
  have a3 : w10.cell? ⟨qb, 3, none⟩ = some (.slice (some ⟨qr, 0, none⟩) 2 2) := hA.c3
  have al1 := alloc_below w10 (.cells #[.int .i64 1, .int .i64 5, .string ⟨#[]⟩, .slice none 0 0] PET)
  have f1 : Forest (w10.alloc (.cells #[.int .i64 1, .int .i64 5, .string ⟨#[]⟩, .slice none 0 0] PET)) (fun _ => True) (Ev.aE 5).a (.slice (some ⟨w10.heap.size, 0, none⟩) 1 1) := forest_one (x := .mk 1 5 [] []) (t := PET) (.nil _ _) trivial
  have HB11 := hide al1
  have HP := hide ((hR.below al1).eval_bad (Ev.aE 5) _ f1 (by decide) _ _ _ (by decide) Ev.kn_bad)
  clear hR hF hA al1 f1
  go_upto_region 10 with (go_at_call 11; refine (unhide HP).mono ?_; rintro ev w11 ⟨q11, rfl, hs11, hb11⟩; replace HB11 := hide (bthen (unhide HB11) hb11); have HS11 := hide hs11; clear hb11 hs11)
  clear t0 t1 a0 a1 a2 a3 HP
  have HK11 := hide (And.intro ((unhide HK10).1.below (unhide HB11)) (And.intro ((unhide HK10).2.1.old (unhide HB11)) ((unhide HK10).2.2.below (unhide HB11))))
  obtain ⟨hR, hF, hA⟩ := unhide HK11
  have t0 := hR.t0
  have t1 := hR.t1
  have a0 : w11.cell? ⟨qb, 0, none⟩ = some (.int .i64 3) := hA.c0
  have a1 : w11.cell? ⟨qb, 1, none⟩ = some (.int .i64 0) := hA.c1
  have a2 : w11.cell? ⟨qb, 2, none⟩ = some (.string ⟨#[98]⟩) := hA.c2
  have a3 : w11.cell? ⟨qb, 3, none⟩ = some (.slice (some ⟨qr, 0, none⟩) 2 2) := hA.c3
  have HP := hide (hR.holds_ok 0 (by omega) Ev.xE Ev.bE (.slice none 0 0) _ (.nil _ _) hF (by decide) true (by unfold holdsP; rw [Ev.kn_two]; rfl))
  clear hR hF hA
  go_upto_region 11 with (go_at_call 17; refine (unhide HP).mono ?_; rintro ev w12 ⟨rfl, hb12⟩; have HB12 := hide hb12; clear hb12)
  have HAT := hide (at_any Ev.wSub 0 14 w12)
  have HS12 := hide ((unhide HS11).below (unhide HB12))
  have HOL := hide (bthen (unhide HK11).1.old (unhide HB12))
  clear t0 t1 a0 a1 a2 a3 HP HK7 HK9 HK10 HK11
  go_wp2_with fail
  refine (unhide HAT).mono ?_
  rintro ev w13 ⟨q13, rfl, hq13, e0, e1, hb13⟩
  have HTE := hide (tells_any w13 _ _ Ev.wSub 0 14 ((unhide HG).below (bthen (unhide HOL) hb13)) ((unhide HS12).below hb13) (.inr ⟨by decide, q13, hq13, rfl, e0, e1⟩))
  have HB13 := hide hb13
  clear hb13 e0 e1 HAT
  go_wp2_with (go_at_call 14; refine (unhide HTE).mono ?_; rintro ev w14 ⟨rfl, hb14⟩; have HB14 := hide hb14; clear hb14)
  go_ret
  exact ⟨rfl, bthen (bthen (unhide HOL) (unhide HB13)) (unhide HB14)⟩
end Go.Proofs.YtomnbidppkpfiaaDoor.Line
