/- The contract of the reference's Same, of one and the same tree. -/
import Derived.Test.YtepnafnljfjeoaaGreatDoorExRd
import Derived.Deep.RegionWith
namespace Go.Proofs.YtepnafnljfjeoaaGreatDoor.Line
open Go.ChangeShapes Go.WideShapes Go.ChangeAt Go.RowKit
open Ex (E St)
set_option linter.unusedVariables false

set_option maxHeartbeats 8000000 in
set_option maxRecDepth 100000 in
theorem refSame_true : ∀ (x : E) (w : World) (S S' : Nat → Prop) (sx sy : Value), Forest w S x.a sx → Forest w S' x.a sy → Calls Tryz.prog 14 #[treeV x sx, treeV x sy] w fun e w' => e = .returned (.bool true) ∧ Below w.heap.size w w' := by
  refine E.ind _ ?_
  intro x ih w S S' sx sy hx hy
  have hln := hx.len
  have b1 := alloc_below w (.cells #[.int .i64 x.kind, .int .i64 x.n, .string ⟨x.name.toArray⟩, sx] ET)
  have b2 := alloc_below (w.alloc (.cells #[.int .i64 x.kind, .int .i64 x.n, .string ⟨x.name.toArray⟩, sx] ET)) (.cells #[.int .i64 x.kind, .int .i64 x.n, .string ⟨x.name.toArray⟩, sy] ET)
  have z1 : (w.alloc (.cells #[.int .i64 x.kind, .int .i64 x.n, .string ⟨x.name.toArray⟩, sx] ET)).heap.size = w.heap.size + 1 := by simp
  have hbx := (box_new w x sx ET).keep (b2.block _ (by omega)) b2.size
  have hby := box_new (w.alloc (.cells #[.int .i64 x.kind, .int .i64 x.n, .string ⟨x.name.toArray⟩, sx] ET)) x sy ET
  rw [z1] at hby
  have hfx := (hx.old b1).old b2
  have hfy := (hy.old b1).old b2
  have hB := bthen b1 b2
  obtain ⟨xa, xc, hsx⟩ := hx.shape
  obtain ⟨ya, yc, hsy⟩ := hy.shape
  have IH := hide ih
  clear ih b1 b2 z1 hx hy
  have hne : ∀ y : List UInt8, (y != y) = false := fun y => by simp
  generalize hn : x.a.length = n at *
  subst hsx
  subst hsy
  have H2 := hide (And.intro hbx (And.intro hby (And.intro hfx (And.intro hfy (And.intro hB hn)))))
  clear hbx hby hfx hfy hB hn
  go_enter Tryz.func14, Tryz.ntmps14
  go_wp2_with fail
  generalize ((w.alloc (.cells #[.int .i64 x.kind, .int .i64 x.n, .string ⟨x.name.toArray⟩, .slice xa n xc] ET)).alloc (.cells #[.int .i64 x.kind, .int .i64 x.n, .string ⟨x.name.toArray⟩, .slice ya n yc] ET)) = W2 at *
  go_loopw [5] (fun q wr => ∃ i : Nat, i ≤ n ∧ q = .int .i64 i ∧ Hid (Below W2.heap.size W2 wr)) (fun q _ => n - (intOf q).toNat)
  case atStart => exact ⟨0, Nat.zero_le _, rfl, hide (Below.refl _ _)⟩
  case round =>
    obtain ⟨i, hi, rfl, HBW⟩ := hrel
    have hb2 := (unhide H2).1.keep ((unhide HBW).block _ (unhide H2).1.lt) (unhide HBW).size
    have hb3 := (unhide H2).2.1.keep ((unhide HBW).block _ (unhide H2).2.1.lt) (unhide HBW).size
    obtain ⟨-, -, -, g3, -, -, -, -, -⟩ := hb2
    obtain ⟨-, -, -, k3, -, -, -, -, -⟩ := hb3
    by_cases hlt : i < n
    · have hlt' : i < x.a.length := by rw [(unhide H2).2.2.2.2.2]; exact hlt
      obtain ⟨bx, ox, cx, fx, hvx, hcx, hmx, hcellx, hforx⟩ := ((unhide H2).2.2.1.old (unhide HBW)).at (by omega)
      obtain ⟨by_, oy, cy, fy, hvy, hcy, hmy, hcelly, hfory⟩ := ((unhide H2).2.2.2.1.old (unhide HBW)).at (by omega)
      injection hvx with hvx1 hvx2 hvx3
      injection hvy with hvy1 hvy2 hvy3
      subst hvx1
      subst hvy1
      clear hvx2 hvy2 hvx3 hvy3 hcx hcy hmx hmy
      obtain ⟨d0, d1, d2, d3⟩ := hcellx i hlt'
      obtain ⟨e0, e1, e2, e3⟩ := hcelly i hlt'
      have hsx := hforx i hlt'
      have hsy := hfory i hlt'
      have HCA : Hid (∀ m, Calls Tryz.prog 14 #[treeV (x.a[i]) (fx i), treeV (x.a[i]) (fy i)] (wr.drewN m) fun e w' => e = .returned (.bool true) ∧ Below wr.heap.size wr w') := hide (fun m => by
        refine (unhide IH _ (List.getElem_mem hlt') (wr.drewN m) S S' (fx i) (fy i) (hsx.old (below_drewN (Below.refl _ _) m)) (hsy.old (below_drewN (Below.refl _ _) m))).mono ?_
        rintro e w' ⟨h1, h2⟩
        exact ⟨h1, (below_drewN (Below.refl _ _) m).trans h2⟩)
      obtain ⟨va, vc, hva⟩ := hsx.shape
      obtain ⟨ua, uc, hua⟩ := hsy.shape
      rw [hva] at d3 HCA
      rw [hua] at e3 HCA
      clear hcellx hcelly hforx hfory hsx hsy hva hua
      generalize x.a[i].a.length = m2 at *
      have hlt2 : (i : Int) < n := by omega
      go_wp2_with fail
      go_region_with (go_at_call 14; refine (unhide HCA _).mono ?_; rintro ev w5 ⟨rfl, hb5⟩; have HB5 := hide ((unhide HBW).trans (hb5.mono (unhide HBW).size)); clear hb5)
      all_goals (
        go_wp2
        go_roundw
        case rel => exact ⟨i + 1, by omega, by go_num, HB5⟩
        case measure => simp [intOf]; omega)
    · have q1 : decide (i < n) = false := decide_eq_false hlt
      have HB5 := hide (bthen (unhide H2).2.2.2.2.1 (unhide HBW))
      go_wp2
      go_ret
      exact ⟨rfl, unhide HB5⟩
end Go.Proofs.YtepnafnljfjeoaaGreatDoor.Line
