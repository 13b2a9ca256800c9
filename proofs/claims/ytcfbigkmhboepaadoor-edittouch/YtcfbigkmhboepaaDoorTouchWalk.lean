/- EditTouch, walked: at any four numbers it answers true. -/
import Derived.Test.YtcfbigkmhboepaaDoorKnownD
import Derived.Test.YtcfbigkmhboepaaDoorTellsAnyB
namespace Go.Proofs.YtcfbigkmhboepaaDoor.Line
open Go.ChangeShapes Go.WideShapes Go.ChangeAt Go.RowKit
set_option linter.unusedVariables false

set_option maxHeartbeats 1000000 in
theorem tells_edit {B : Nat} (w : World) (f : Value) (hG : Glob w) (hs : Says B w f wEdit 1 7) : Calls Tryd.prog 23 #[f] w fun e w' => e = .returned (.bool true) ∧ Below w.heap.size w w' := by
  have HG := hide hG
  have HS := hide hs
  have HA := hide (at_any wEdit 1 7 w)
  clear hG hs
  go_enter Tryd.func23, Tryd.ntmps23
  go_wp2_with fail
  refine (unhide HA).mono ?_
  rintro e w1 ⟨b, rfl, hb, h0, h1, hB⟩
  have H1 := hide (And.intro hb (And.intro h0 (And.intro h1 hB)))
  clear hb h0 h1 hB
  go_wp2_with fail
  obtain ⟨hb, h0, h1, hB⟩ := unhide H1
  refine (tells_any (B' := w.heap.size) w1 _ _ wEdit 1 7 ((unhide HG).below hB) ((unhide HS).below hB) (.inr ⟨by decide, b, hb, rfl, h0, h1⟩)).mono ?_
  rintro e w2 ⟨rfl, hb2⟩
  have H2 := hide (bthen hB hb2)
  clear hb h0 h1 hB hb2
  go_wp2
  go_ret
  exact ⟨rfl, unhide H2⟩
theorem eds_two (w : World) (P Q R S : Int) : Eds (w.alloc (.cells #[.int .i64 P, .int .i64 Q, .slice none 0 0, .int .i64 R, .int .i64 S, .slice none 0 0] 50)) (.slice (some ⟨w.heap.size, 0, none⟩) 2 2) [⟨P, Q, []⟩, ⟨R, S, []⟩] :=
  OwnE.eds (T := 50) (base := w.heap.size) ⟨[(⟨P, Q, []⟩, .slice none 0 0), (⟨R, S, []⟩, .slice none 0 0)], rfl, World.ownsRow_lit w #[.int .i64 P, .int .i64 Q, .slice none 0 0, .int .i64 R, .int .i64 S, .slice none 0 0] 2 (Nat.le_refl _) (by decide) rfl, fun c hc => by
    simp at hc
    rcases hc with rfl | rfl
    · exact .inl ⟨_, _, rfl, rfl⟩
    · exact .inl ⟨_, _, rfl, rfl⟩⟩
theorem err_two (P Q R S : Int) (h1 : 0 ≤ P) (h2 : P ≤ Q) (h3 : Q ≤ 20) (h4 : 0 ≤ R) (h5 : R ≤ S) (h6 : S ≤ 20) : Edits.errE (20 : Int) ([⟨P, Q, []⟩, ⟨R, S, []⟩] : List RawE) = if Q < R then (0, 0) else (7, 1) := by
  have b0 : Edits.badI (20 : Int) ([⟨P, Q, []⟩, ⟨R, S, []⟩] : List RawE) 0 = 0 := Edits.badI_first _ _ (by simp) (by simp; omega)
  have b1 := Edits.badI_next (20 : Int) ([⟨P, Q, []⟩, ⟨R, S, []⟩] : List RawE) 0 (by simp) (by simp; omega)
  simp only [Nat.zero_add, List.getElem_cons_succ, List.getElem_cons_zero] at b1
  by_cases h : Q < R
  · rw [if_pos h]
    rw [if_neg (by omega)] at b1
    refine Edits.errE_none _ _ (by omega) (fun j hj => ?_)
    have hj' : j < 2 := by simpa using hj
    rcases Nat.lt_or_ge j 1 with g | g
    · obtain rfl : j = 0 := by omega
      exact b0
    · obtain rfl : j = 1 := by omega
      exact b1
  · rw [if_neg h]
    rw [if_pos (by omega)] at b1
    have := Edits.errE_at (20 : Int) ([⟨P, Q, []⟩, ⟨R, S, []⟩] : List RawE) (by omega) 1 (by simp) (fun j hj => by
      obtain rfl : j = 0 := by omega
      exact b0) (by rw [b1]; decide)
    rw [this, b1]

set_option maxHeartbeats 4000000 in
theorem editTouch_any (a b c d : Int) (w : World) (a0 : 0 ≤ a) (a1 : a ≤ 255) (b0 : 0 ≤ b) (b1 : b ≤ 255) (c0 : 0 ≤ c) (c1 : c ≤ 255) (d0 : 0 ≤ d) (d1 : d ≤ 255) (hG : Glob w) : Calls Tryd.prog 8 #[.int .u8 a, .int .u8 b, .int .u8 c, .int .u8 d] w fun e w' => e = .returned (.bool true) ∧ Below w.heap.size w w' := by
  have HG := hide hG
  clear hG
  go_enter Tryd.func8, Tryd.ntmps8
  go_wp2_with fail
  refine (known_any w (unhide HG)).mono ?_
  rintro e w1 ⟨rfl, hb1⟩
  have H1 := hide hb1
  clear hb1
  go_wp2_with fail
  have p1 : 0 ≤ a % 8 ∧ a % 8 < 8 := by omega
  have p2 : 0 ≤ b % 4 ∧ b % 4 < 4 := by omega
  have p3 : 0 ≤ c % 14 ∧ c % 14 < 14 := by omega
  have p4 : 0 ≤ d % 4 ∧ d % 4 < 4 := by omega
  generalize a % 8 = P at *
  generalize b % 4 = Q at *
  generalize c % 14 = R at *
  generalize d % 4 = S at *
  refine (check_any 20 _ _ _ (eds_two w1 P (P + Q) R (R + S)) (by simp)).mono ?_
  rintro e w2 ⟨g, rfl, hs, hb2⟩
  rw [err_two P (P + Q) R (R + S) (by omega) (by omega) (by omega) (by omega) (by omega) (by omega)] at hs
  have y2 : Below w.heap.size w w2 := bthen (bthen (unhide H1) (alloc_below _ _)) hb2
  by_cases h : P + Q < R
  · rw [if_pos h] at hs
    obtain rfl : g = .nilIface := by
      rcases hs with ⟨_, h⟩ | ⟨h, _⟩
      · exact h
      · exact absurd rfl h
    have H2 := hide y2
    clear hs hb2 y2
    go_wp2
    go_ret
    exact ⟨rfl, unhide H2⟩
  · rw [if_neg h] at hs
    have H2 := hide (And.intro hs y2)
    clear hs hb2 y2
    go_wp2_with fail
    refine (tells_edit w2 _ ((unhide HG).below (unhide H2).2) (unhide H2).1).mono ?_
    rintro e w3 ⟨rfl, hb3⟩
    have H3 := hide (bthen (unhide H2).2 hb3)
    clear hb3
    go_wp2
    go_ret
    exact ⟨rfl, unhide H3⟩
end Go.Proofs.YtcfbigkmhboepaaDoor.Line
