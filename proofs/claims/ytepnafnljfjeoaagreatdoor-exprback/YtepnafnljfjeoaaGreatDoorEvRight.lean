/- The law's own questions about trees: are they made as a reading makes them, are all names there. -/
import Derived.Test.YtepnafnljfjeoaaGreatDoorEvFew
import Derived.Test.YtepnafnljfjeoaaGreatDoorPlainRx
import Derived.Test.YtepnafnljfjeoaaGreatDoorTokRef
import Derived.BigQuiet
import Derived.Deep.CutRange
namespace Go.Proofs.YtepnafnljfjeoaaGreatDoor.Line
open Go.ChangeShapes Go.WideShapes Go.ChangeAt Go.RowKit
open Ex (E)
set_option linter.unusedVariables false

/-- it answers yes or no; yes only where P -/
def Yes (e : Ending) (P : Prop) : Prop := ∃ b : Bool, e = .returned (.bool b) ∧ (b = true → P)
theorem Yes.no (P : Prop) : Yes (.returned (.bool false)) P := ⟨false, rfl, fun h => by cases h⟩
theorem Yes.yes {P : Prop} (h : P) : Yes (.returned (.bool true)) P := ⟨true, rfl, fun _ => h⟩
theorem told_shape {B : Nat} {w : World} {g : Value} {word : List UInt8} {k err : Nat} (h : Told B w g word k err) : ∃ a n c, g = .agg #[.slice a n c, .int .i64 err] := by
  rcases h with ⟨h0, rfl⟩ | ⟨_, b, _, rfl, _⟩
  · exact ⟨none, 0, 0, by rw [h0]; rfl⟩
  · exact ⟨_, 1, 1, rfl⟩
set_option maxHeartbeats 4000000 in
theorem rIsName_any (l : List UInt8) (hl : l.length ≤ 100000) (w : World) : Calls Tryz.prog 24 #[.string ⟨l.toArray⟩] w fun e w' => Yes e (IsNm l) ∧ Below w.heap.size w w' := by
  have HN := hide (show IsNm l = (∃ t, (Words.toks l).1 = [t] ∧ (Words.toks l).2.1 = 0 ∧ t.kind = 1 ∧ t.text = l) from rfl)
  have HT := hide (refToks_any l hl w)
  generalize Words.toks l = R at *
  obtain ⟨T, er, at_⟩ := R
  go_enter Tryz.func24, Tryz.ntmps24
  go_wp2_with fail
  refine (unhide HT).mono ?_
  rintro ev w1 ⟨u, g, rfl, hu, hg, hb⟩
  try simp only at hu hg
  obtain ⟨ga, gn, gc, rfl⟩ := told_shape hg
  have HU := hide (hu.tks.below (alloc_below w1 (.cells #[.slice ga gn gc, .int .i64 er] WrT)))
  have HB := hide (bthen hb (alloc_below w1 (.cells #[.slice ga gn gc, .int .i64 er] WrT)))
  obtain ⟨ua, uc, hus⟩ := (unhide HU).shape
  clear hu hg hb HT
  go_upto_region 2 with fail
  have e1 : (w1.alloc (.cells #[.slice ga gn gc, .int .i64 er] WrT)).cell? ⟨w1.heap.size, 1, none⟩ = some (.int .i64 er) := by simp [go_sem]
  generalize (w1.alloc (.cells #[.slice ga gn gc, .int .i64 er] WrT)) = W at *
  subst hus
  by_cases h1 : er = 0
  · subst h1
    by_cases h2 : T.length = 1
    · obtain ⟨t, rfl⟩ := List.length_eq_one_iff.1 h2
      rcases unhide HU with ⟨a, cap, hv, h⟩ | ⟨b, off, cap, hv, hc, hcell⟩
      · cases h
      obtain ⟨d0, d1, d2, d3⟩ := hcell 0 (by simp)
      injection hv with hv1 hv2 hv3
      subst hv1
      simp only [Nat.zero_mul, Nat.add_zero, List.getElem_cons_zero] at d0 d1 d2 d3
      simp only [List.length_cons, List.length_nil, Nat.zero_add] at *
      have hu1 : 1 ≤ uc := by omega
      clear hcell hc hv3
      by_cases h3 : t.kind = 1
      · rw [h3] at d0
        have HK := hide h3
        clear h3
        go_wp2
        go_ret
        refine ⟨⟨_, rfl, fun h => ?_⟩, unhide HB⟩
        rw [unhide HN]
        exact ⟨t, rfl, (by simp), unhide HK, by simpa using h⟩
      · go_wp2
        go_ret
        exact ⟨by first | exact Yes.no _ | (simp; exact Yes.no _), unhide HB⟩
    · have h2' : ¬ (T.length : Int) = 1 := by omega
      go_wp2
      go_ret
      exact ⟨by first | exact Yes.no _ | (simp; exact Yes.no _), unhide HB⟩
  · have h1' : ¬ (er : Int) = 0 := by omega
    go_wp2
    go_ret
    exact ⟨by first | exact Yes.no _ | (simp; exact Yes.no _), unhide HB⟩
set_option maxHeartbeats 8000000 in
set_option maxRecDepth 100000 in
theorem right5_any : ∀ (x : E) (w : World) (sx : Value), Nice x → Forest w (fun _ => True) x.a sx → Calls Tryz.prog 6 #[treeV x sx] w fun e w' => Yes e (RX x) ∧ Below w.heap.size w w' := by
  refine E.ind _ ?_
  intro x ih w sx hni hx
  have HX := hide hx
  have HB := hide (bx_new w x sx ET)
  have AL := hide (alloc_below w (.cells #[.int .i64 x.kind, .int .i64 x.n, .string ⟨x.name.toArray⟩, sx] ET))
  obtain ⟨xa, xc, rfl⟩ := hx.shape
  have IH := hide ih
  have HNI := hide hni
  have n8 := hni.few
  have n40 := hni.short
  generalize hn : x.a.length = n at *
  have HN := hide hn
  clear hx ih hn hni
  go_enter Tryz.func6, Tryz.ntmps6
  go_upto_region 1 with fail
  generalize (w.alloc (.cells #[.int .i64 x.kind, .int .i64 x.n, .string ⟨x.name.toArray⟩, .slice xa n xc] ET)) = W at *
  obtain ⟨a0, a1, a2, a3, -, -, -, -, hlt⟩ := unhide HB
  by_cases k1 : x.kind = 1
  · rw [k1] at a0
    have HK := hide k1
    clear k1
    cases hs : x.name with
    | cons c r =>
      rw [hs] at a2
      go_wp2
      go_ret
      exact ⟨Yes.no _, unhide AL⟩
    | nil =>
      rw [hs] at a2
      by_cases h0 : n = 0
      · subst h0
        go_wp2
        go_ret
        exact ⟨Yes.yes (.num x (unhide HK) hs (List.length_eq_zero_iff.1 (unhide HN))), unhide AL⟩
      · have h0' : ¬ (n : Int) = 0 := by omega
        have h0'' : ((n : Int) == 0) = false := by simpa using h0'
        go_wp2
        go_ret
        exact ⟨Yes.no _, unhide AL⟩
  by_cases k2 : x.kind = 2
  · rw [k2] at a0
    have HK := hide k2
    clear k1 k2
    by_cases hn0 : x.n = 0
    · rw [hn0] at a1
      have HN0 := hide hn0
      clear hn0
      by_cases h0 : n = 0
      · subst h0
        have HCI := hide (rIsName_any x.name (by omega) W)
        go_wp2_with fail
        refine (unhide HCI).mono ?_
        rintro ev w2 ⟨⟨b, rfl, hb⟩, hbe⟩
        have HBB := hide hb
        go_wp2
        go_ret
        exact ⟨⟨b, rfl, fun h => .var x (unhide HK) (unhide HN0) (unhide HBB h) (List.length_eq_zero_iff.1 (unhide HN))⟩, bthen (unhide AL) hbe⟩
      · have h0' : ¬ (n : Int) = 0 := by omega
        go_wp2
        go_ret
        exact ⟨Yes.no _, unhide AL⟩
    · 
      go_wp2
      go_ret
      exact ⟨Yes.no _, unhide AL⟩
  by_cases k3 : x.kind = 3
  · rw [k3] at a0
    have HK := hide k3
    clear k1 k2 k3
    by_cases hn0 : x.n = 0
    · rw [hn0] at a1
      have HN0 := hide hn0
      clear hn0
      have HCI := hide (rIsName_any x.name (by omega) W)
      go_wp2_with fail
      refine (unhide HCI).mono ?_
      rintro ev wz ⟨⟨b, rfl, hb⟩, hbe⟩
      have HBB := hide hb
      have a0' := (hbe.cell (p := ⟨w.heap.size, 0, none⟩) hlt).trans a0
      have a1' := (hbe.cell (p := ⟨w.heap.size, 1, none⟩) hlt).trans a1
      have a3' := (hbe.cell (p := ⟨w.heap.size, 3, none⟩) hlt).trans a3
      clear a0 a1 a2 a3 hb
      have a0 := a0'
      have a1 := a1'
      have a3 := a3'
      clear a0' a1' a3'
      have AL2 := hide (bthen (unhide AL) hbe)
      clear hbe
      cases b with
      | false =>
        go_wp2
        go_ret
        exact ⟨Yes.no _, unhide AL2⟩
      | true =>
        by_cases h1 : n < 1
        · have h1' : (n : Int) < 1 := by omega
          go_wp2
          go_ret
          exact ⟨Yes.no _, unhide AL2⟩
        have h1' : ¬ (n : Int) < 1 := by omega
        by_cases h4 : 4 < n
        · have h4' : (4 : Int) < n := by omega
          go_wp2
          go_ret
          exact ⟨Yes.no _, unhide AL2⟩
        have h4' : ¬ (4 : Int) < n := by omega
        have h0' : ¬ (n : Int) = 0 := by omega
        have h0'' : ((n : Int) == 0) = false := by simpa using h0'
        have HF := hide (And.intro h1 h4)
        clear h1 h4 HCI
        go_wp2_with fail
        go_loopw [4] (fun q wr => ∃ (i : Nat), i ≤ n ∧ q = .int .i64 i ∧ Hid ((∀ z ∈ x.a.take i, RX z) ∧ Below wz.heap.size wz wr)) (fun q _ => n - (intOf q).toNat)
        case atStart => exact ⟨0, Nat.zero_le _, rfl, hide ⟨fun z hz => by simp at hz, Below.refl _ _⟩⟩
        case round =>
          obtain ⟨i, hi, rfl, HI⟩ := hrel
          have b3 : wr.cell? ⟨w.heap.size, 3, none⟩ = some (.slice xa n xc) := ((unhide HI).2.cell (p := ⟨w.heap.size, 3, none⟩) (cell_lt a3)).trans a3
          by_cases hin : i < n
          · have hin' : (i : Int) < n := by omega
            have hix : i < x.a.length := by rw [unhide HN]; exact hin
            obtain ⟨bx, ox, cx, fx, hvx, hcx, hmx, hcellx, hforx⟩ := ((unhide HX).old (bthen (unhide AL2) (unhide HI).2)).at (by omega)
            injection hvx with hvx1 hvx2 hvx3
            subst hvx1
            obtain ⟨d0, d1, d2, d3⟩ := hcellx i hix
            have hsx := hforx i hix
            obtain ⟨ua, uc, hua⟩ := hsx.shape
            rw [hua] at d3 hsx
            have HCA := hide (unhide IH _ (List.getElem_mem hix) wr _ ((unhide HNI).part _ (List.getElem_mem hix)) hsx)
            clear hcellx hforx hsx hua hvx2 hvx3 hcx hmx
            go_wp2_with fail
            refine (unhide HCA).mono ?_
            rintro ev w2 ⟨⟨b, rfl, hb⟩, hbe⟩
            cases b with
            | false =>
              go_wp2
              go_ret
              exact ⟨Yes.no _, bthen (unhide AL2) (bthen (unhide HI).2 hbe)⟩
            | true =>
              go_wp2
              go_roundw
              case rel =>
                refine ⟨i + 1, by omega, by go_num, hide ⟨fun z hz => ?_, bthen (unhide HI).2 hbe⟩⟩
                rw [List.take_succ_eq_append_getElem hix] at hz
                rcases List.mem_append.1 hz with hz | hz
                · exact (unhide HI).1 z hz
                · rw [List.mem_singleton.1 hz]; exact hb (by simp)
              case measure => simp [intOf]; omega
          · have hin' : ¬ (i : Int) < n := by omega
            obtain rfl : i = n := by omega
            go_wp2
            go_ret
            refine ⟨Yes.yes ?_, bthen (unhide AL2) (unhide HI).2⟩
            have h6 := (unhide HI).1
            rw [List.take_of_length_le (by rw [unhide HN]; exact Nat.le_refl _)] at h6
            exact .elem x (unhide HK) (unhide HN0) (unhide HBB (by simp)) (by rw [unhide HN]; have := (unhide HF).1; omega) (by rw [unhide HN]; have := (unhide HF).2; omega) h6
    · 
      go_wp2
      go_ret
      exact ⟨Yes.no _, unhide AL⟩
  by_cases k4 : x.kind = 4
  · rw [k4] at a0
    have HK := hide k4
    clear k1 k2 k3 k4
    by_cases hm : n = 1
    · subst hm
      by_cases hn0 : x.n = 0
      · rw [hn0] at a1
        have HN0 := hide hn0
        clear hn0
        cases hs : x.name with
        | cons c r =>
          rw [hs] at a2
          go_wp2
          go_ret
          exact ⟨Yes.no _, unhide AL⟩
        | nil =>
          rw [hs] at a2
          have HS := hide hs
          clear hs
          go_wp2_with fail
          go_loopw [4] (fun q wr => ∃ (i : Nat), i ≤ 1 ∧ q = .int .i64 i ∧ Hid ((∀ z ∈ x.a.take i, RX z) ∧ Below W.heap.size W wr)) (fun q _ => 1 - (intOf q).toNat)
          case atStart => exact ⟨0, Nat.zero_le _, rfl, hide ⟨fun z hz => by simp at hz, Below.refl _ _⟩⟩
          case round =>
            obtain ⟨i, hi, rfl, HI⟩ := hrel
            have b3 : wr.cell? ⟨w.heap.size, 3, none⟩ = some (.slice xa 1 xc) := ((unhide HI).2.cell (p := ⟨w.heap.size, 3, none⟩) (cell_lt a3)).trans a3
            by_cases hin : i < 1
            · have hin' : (i : Int) < 1 := by omega
              have hix : i < x.a.length := by rw [unhide HN]; exact hin
              obtain ⟨bx, ox, cx, fx, hvx, hcx, hmx, hcellx, hforx⟩ := ((unhide HX).old (bthen (unhide AL) (unhide HI).2)).at (by omega)
              injection hvx with hvx1 hvx2 hvx3
              subst hvx1
              obtain ⟨d0, d1, d2, d3⟩ := hcellx i hix
              have hsx := hforx i hix
              obtain ⟨ua, uc, hua⟩ := hsx.shape
              rw [hua] at d3 hsx
              have HCA := hide (unhide IH _ (List.getElem_mem hix) wr _ ((unhide HNI).part _ (List.getElem_mem hix)) hsx)
              clear hcellx hforx hsx hua hvx2 hvx3 hcx hmx
              go_wp2_with fail
              refine (unhide HCA).mono ?_
              rintro ev w2 ⟨⟨b, rfl, hb⟩, hbe⟩
              cases b with
              | false =>
                go_wp2
                go_ret
                exact ⟨Yes.no _, bthen (unhide AL) (bthen (unhide HI).2 hbe)⟩
              | true =>
                go_wp2
                go_roundw
                case rel =>
                  refine ⟨i + 1, by omega, by go_num, hide ⟨fun z hz => ?_, bthen (unhide HI).2 hbe⟩⟩
                  rw [List.take_succ_eq_append_getElem hix] at hz
                  rcases List.mem_append.1 hz with hz | hz
                  · exact (unhide HI).1 z hz
                  · rw [List.mem_singleton.1 hz]; exact hb (by simp)
                case measure => simp [intOf]; omega
            · have hin' : ¬ (i : Int) < 1 := by omega
              obtain rfl : i = 1 := by omega
              go_wp2
              go_ret
              refine ⟨Yes.yes ?_, bthen (unhide AL) (unhide HI).2⟩
              have h6 := (unhide HI).1
              rw [List.take_of_length_le (by rw [unhide HN]; exact Nat.le_refl _)] at h6
              exact .neg x (unhide HK) (unhide HN0) (unhide HS) (unhide HN) h6
      · 
        go_wp2
        go_ret
        exact ⟨Yes.no _, unhide AL⟩
    · have hm' : ¬ (n : Int) = 1 := by omega
      go_wp2
      go_ret
      exact ⟨Yes.no _, unhide AL⟩
  by_cases k5 : x.kind = 5
  · rw [k5] at a0
    have HK := hide k5
    clear k1 k2 k3 k4 k5
    by_cases hm : n = 2
    · subst hm
      by_cases hn0 : x.n = 0
      · rw [hn0] at a1
        have HN0 := hide hn0
        clear hn0
        cases hs : x.name with
        | cons c r =>
          rw [hs] at a2
          go_wp2
          go_ret
          exact ⟨Yes.no _, unhide AL⟩
        | nil =>
          rw [hs] at a2
          have HS := hide hs
          clear hs
          go_wp2_with fail
          go_loopw [4] (fun q wr => ∃ (i : Nat), i ≤ 2 ∧ q = .int .i64 i ∧ Hid ((∀ z ∈ x.a.take i, RX z) ∧ Below W.heap.size W wr)) (fun q _ => 2 - (intOf q).toNat)
          case atStart => exact ⟨0, Nat.zero_le _, rfl, hide ⟨fun z hz => by simp at hz, Below.refl _ _⟩⟩
          case round =>
            obtain ⟨i, hi, rfl, HI⟩ := hrel
            have b3 : wr.cell? ⟨w.heap.size, 3, none⟩ = some (.slice xa 2 xc) := ((unhide HI).2.cell (p := ⟨w.heap.size, 3, none⟩) (cell_lt a3)).trans a3
            by_cases hin : i < 2
            · have hin' : (i : Int) < 2 := by omega
              have hix : i < x.a.length := by rw [unhide HN]; exact hin
              obtain ⟨bx, ox, cx, fx, hvx, hcx, hmx, hcellx, hforx⟩ := ((unhide HX).old (bthen (unhide AL) (unhide HI).2)).at (by omega)
              injection hvx with hvx1 hvx2 hvx3
              subst hvx1
              obtain ⟨d0, d1, d2, d3⟩ := hcellx i hix
              have hsx := hforx i hix
              obtain ⟨ua, uc, hua⟩ := hsx.shape
              rw [hua] at d3 hsx
              have HCA := hide (unhide IH _ (List.getElem_mem hix) wr _ ((unhide HNI).part _ (List.getElem_mem hix)) hsx)
              clear hcellx hforx hsx hua hvx2 hvx3 hcx hmx
              go_wp2_with fail
              refine (unhide HCA).mono ?_
              rintro ev w2 ⟨⟨b, rfl, hb⟩, hbe⟩
              cases b with
              | false =>
                go_wp2
                go_ret
                exact ⟨Yes.no _, bthen (unhide AL) (bthen (unhide HI).2 hbe)⟩
              | true =>
                go_wp2
                go_roundw
                case rel =>
                  refine ⟨i + 1, by omega, by go_num, hide ⟨fun z hz => ?_, bthen (unhide HI).2 hbe⟩⟩
                  rw [List.take_succ_eq_append_getElem hix] at hz
                  rcases List.mem_append.1 hz with hz | hz
                  · exact (unhide HI).1 z hz
                  · rw [List.mem_singleton.1 hz]; exact hb (by simp)
                case measure => simp [intOf]; omega
            · have hin' : ¬ (i : Int) < 2 := by omega
              obtain rfl : i = 2 := by omega
              go_wp2
              go_ret
              refine ⟨Yes.yes ?_, bthen (unhide AL) (unhide HI).2⟩
              have h6 := (unhide HI).1
              rw [List.take_of_length_le (by rw [unhide HN]; exact Nat.le_refl _)] at h6
              exact .two x (by have := unhide HK; omega) (unhide HN0) (unhide HS) (unhide HN) h6
      · 
        go_wp2
        go_ret
        exact ⟨Yes.no _, unhide AL⟩
    · have hm' : ¬ (n : Int) = 2 := by omega
      go_wp2
      go_ret
      exact ⟨Yes.no _, unhide AL⟩
  by_cases k6 : x.kind = 6
  · rw [k6] at a0
    have HK := hide k6
    clear k1 k2 k3 k4 k5 k6
    by_cases hm : n = 2
    · subst hm
      by_cases hn0 : x.n = 0
      · rw [hn0] at a1
        have HN0 := hide hn0
        clear hn0
        cases hs : x.name with
        | cons c r =>
          rw [hs] at a2
          go_wp2
          go_ret
          exact ⟨Yes.no _, unhide AL⟩
        | nil =>
          rw [hs] at a2
          have HS := hide hs
          clear hs
          go_wp2_with fail
          go_loopw [4] (fun q wr => ∃ (i : Nat), i ≤ 2 ∧ q = .int .i64 i ∧ Hid ((∀ z ∈ x.a.take i, RX z) ∧ Below W.heap.size W wr)) (fun q _ => 2 - (intOf q).toNat)
          case atStart => exact ⟨0, Nat.zero_le _, rfl, hide ⟨fun z hz => by simp at hz, Below.refl _ _⟩⟩
          case round =>
            obtain ⟨i, hi, rfl, HI⟩ := hrel
            have b3 : wr.cell? ⟨w.heap.size, 3, none⟩ = some (.slice xa 2 xc) := ((unhide HI).2.cell (p := ⟨w.heap.size, 3, none⟩) (cell_lt a3)).trans a3
            by_cases hin : i < 2
            · have hin' : (i : Int) < 2 := by omega
              have hix : i < x.a.length := by rw [unhide HN]; exact hin
              obtain ⟨bx, ox, cx, fx, hvx, hcx, hmx, hcellx, hforx⟩ := ((unhide HX).old (bthen (unhide AL) (unhide HI).2)).at (by omega)
              injection hvx with hvx1 hvx2 hvx3
              subst hvx1
              obtain ⟨d0, d1, d2, d3⟩ := hcellx i hix
              have hsx := hforx i hix
              obtain ⟨ua, uc, hua⟩ := hsx.shape
              rw [hua] at d3 hsx
              have HCA := hide (unhide IH _ (List.getElem_mem hix) wr _ ((unhide HNI).part _ (List.getElem_mem hix)) hsx)
              clear hcellx hforx hsx hua hvx2 hvx3 hcx hmx
              go_wp2_with fail
              refine (unhide HCA).mono ?_
              rintro ev w2 ⟨⟨b, rfl, hb⟩, hbe⟩
              cases b with
              | false =>
                go_wp2
                go_ret
                exact ⟨Yes.no _, bthen (unhide AL) (bthen (unhide HI).2 hbe)⟩
              | true =>
                go_wp2
                go_roundw
                case rel =>
                  refine ⟨i + 1, by omega, by go_num, hide ⟨fun z hz => ?_, bthen (unhide HI).2 hbe⟩⟩
                  rw [List.take_succ_eq_append_getElem hix] at hz
                  rcases List.mem_append.1 hz with hz | hz
                  · exact (unhide HI).1 z hz
                  · rw [List.mem_singleton.1 hz]; exact hb (by simp)
                case measure => simp [intOf]; omega
            · have hin' : ¬ (i : Int) < 2 := by omega
              obtain rfl : i = 2 := by omega
              go_wp2
              go_ret
              refine ⟨Yes.yes ?_, bthen (unhide AL) (unhide HI).2⟩
              have h6 := (unhide HI).1
              rw [List.take_of_length_le (by rw [unhide HN]; exact Nat.le_refl _)] at h6
              exact .two x (by have := unhide HK; omega) (unhide HN0) (unhide HS) (unhide HN) h6
      · 
        go_wp2
        go_ret
        exact ⟨Yes.no _, unhide AL⟩
    · have hm' : ¬ (n : Int) = 2 := by omega
      go_wp2
      go_ret
      exact ⟨Yes.no _, unhide AL⟩
  by_cases k7 : x.kind = 7
  · rw [k7] at a0
    have HK := hide k7
    clear k1 k2 k3 k4 k5 k6 k7
    by_cases hm : n = 2
    · subst hm
      by_cases hn0 : x.n = 0
      · rw [hn0] at a1
        have HN0 := hide hn0
        clear hn0
        cases hs : x.name with
        | cons c r =>
          rw [hs] at a2
          go_wp2
          go_ret
          exact ⟨Yes.no _, unhide AL⟩
        | nil =>
          rw [hs] at a2
          have HS := hide hs
          clear hs
          go_wp2_with fail
          go_loopw [4] (fun q wr => ∃ (i : Nat), i ≤ 2 ∧ q = .int .i64 i ∧ Hid ((∀ z ∈ x.a.take i, RX z) ∧ Below W.heap.size W wr)) (fun q _ => 2 - (intOf q).toNat)
          case atStart => exact ⟨0, Nat.zero_le _, rfl, hide ⟨fun z hz => by simp at hz, Below.refl _ _⟩⟩
          case round =>
            obtain ⟨i, hi, rfl, HI⟩ := hrel
            have b3 : wr.cell? ⟨w.heap.size, 3, none⟩ = some (.slice xa 2 xc) := ((unhide HI).2.cell (p := ⟨w.heap.size, 3, none⟩) (cell_lt a3)).trans a3
            by_cases hin : i < 2
            · have hin' : (i : Int) < 2 := by omega
              have hix : i < x.a.length := by rw [unhide HN]; exact hin
              obtain ⟨bx, ox, cx, fx, hvx, hcx, hmx, hcellx, hforx⟩ := ((unhide HX).old (bthen (unhide AL) (unhide HI).2)).at (by omega)
              injection hvx with hvx1 hvx2 hvx3
              subst hvx1
              obtain ⟨d0, d1, d2, d3⟩ := hcellx i hix
              have hsx := hforx i hix
              obtain ⟨ua, uc, hua⟩ := hsx.shape
              rw [hua] at d3 hsx
              have HCA := hide (unhide IH _ (List.getElem_mem hix) wr _ ((unhide HNI).part _ (List.getElem_mem hix)) hsx)
              clear hcellx hforx hsx hua hvx2 hvx3 hcx hmx
              go_wp2_with fail
              refine (unhide HCA).mono ?_
              rintro ev w2 ⟨⟨b, rfl, hb⟩, hbe⟩
              cases b with
              | false =>
                go_wp2
                go_ret
                exact ⟨Yes.no _, bthen (unhide AL) (bthen (unhide HI).2 hbe)⟩
              | true =>
                go_wp2
                go_roundw
                case rel =>
                  refine ⟨i + 1, by omega, by go_num, hide ⟨fun z hz => ?_, bthen (unhide HI).2 hbe⟩⟩
                  rw [List.take_succ_eq_append_getElem hix] at hz
                  rcases List.mem_append.1 hz with hz | hz
                  · exact (unhide HI).1 z hz
                  · rw [List.mem_singleton.1 hz]; exact hb (by simp)
                case measure => simp [intOf]; omega
            · have hin' : ¬ (i : Int) < 2 := by omega
              obtain rfl : i = 2 := by omega
              go_wp2
              go_ret
              refine ⟨Yes.yes ?_, bthen (unhide AL) (unhide HI).2⟩
              have h6 := (unhide HI).1
              rw [List.take_of_length_le (by rw [unhide HN]; exact Nat.le_refl _)] at h6
              exact .two x (by have := unhide HK; omega) (unhide HN0) (unhide HS) (unhide HN) h6
      · 
        go_wp2
        go_ret
        exact ⟨Yes.no _, unhide AL⟩
    · have hm' : ¬ (n : Int) = 2 := by omega
      go_wp2
      go_ret
      exact ⟨Yes.no _, unhide AL⟩
  by_cases k8 : x.kind = 8
  · rw [k8] at a0
    have HK := hide k8
    clear k1 k2 k3 k4 k5 k6 k7 k8
    by_cases hm : n = 2
    · subst hm
      by_cases hn0 : x.n = 0
      · rw [hn0] at a1
        have HN0 := hide hn0
        clear hn0
        cases hs : x.name with
        | cons c r =>
          rw [hs] at a2
          go_wp2
          go_ret
          exact ⟨Yes.no _, unhide AL⟩
        | nil =>
          rw [hs] at a2
          have HS := hide hs
          clear hs
          go_wp2_with fail
          go_loopw [4] (fun q wr => ∃ (i : Nat), i ≤ 2 ∧ q = .int .i64 i ∧ Hid ((∀ z ∈ x.a.take i, RX z) ∧ Below W.heap.size W wr)) (fun q _ => 2 - (intOf q).toNat)
          case atStart => exact ⟨0, Nat.zero_le _, rfl, hide ⟨fun z hz => by simp at hz, Below.refl _ _⟩⟩
          case round =>
            obtain ⟨i, hi, rfl, HI⟩ := hrel
            have b3 : wr.cell? ⟨w.heap.size, 3, none⟩ = some (.slice xa 2 xc) := ((unhide HI).2.cell (p := ⟨w.heap.size, 3, none⟩) (cell_lt a3)).trans a3
            by_cases hin : i < 2
            · have hin' : (i : Int) < 2 := by omega
              have hix : i < x.a.length := by rw [unhide HN]; exact hin
              obtain ⟨bx, ox, cx, fx, hvx, hcx, hmx, hcellx, hforx⟩ := ((unhide HX).old (bthen (unhide AL) (unhide HI).2)).at (by omega)
              injection hvx with hvx1 hvx2 hvx3
              subst hvx1
              obtain ⟨d0, d1, d2, d3⟩ := hcellx i hix
              have hsx := hforx i hix
              obtain ⟨ua, uc, hua⟩ := hsx.shape
              rw [hua] at d3 hsx
              have HCA := hide (unhide IH _ (List.getElem_mem hix) wr _ ((unhide HNI).part _ (List.getElem_mem hix)) hsx)
              clear hcellx hforx hsx hua hvx2 hvx3 hcx hmx
              go_wp2_with fail
              refine (unhide HCA).mono ?_
              rintro ev w2 ⟨⟨b, rfl, hb⟩, hbe⟩
              cases b with
              | false =>
                go_wp2
                go_ret
                exact ⟨Yes.no _, bthen (unhide AL) (bthen (unhide HI).2 hbe)⟩
              | true =>
                go_wp2
                go_roundw
                case rel =>
                  refine ⟨i + 1, by omega, by go_num, hide ⟨fun z hz => ?_, bthen (unhide HI).2 hbe⟩⟩
                  rw [List.take_succ_eq_append_getElem hix] at hz
                  rcases List.mem_append.1 hz with hz | hz
                  · exact (unhide HI).1 z hz
                  · rw [List.mem_singleton.1 hz]; exact hb (by simp)
                case measure => simp [intOf]; omega
            · have hin' : ¬ (i : Int) < 2 := by omega
              obtain rfl : i = 2 := by omega
              go_wp2
              go_ret
              refine ⟨Yes.yes ?_, bthen (unhide AL) (unhide HI).2⟩
              have h6 := (unhide HI).1
              rw [List.take_of_length_le (by rw [unhide HN]; exact Nat.le_refl _)] at h6
              exact .two x (by have := unhide HK; omega) (unhide HN0) (unhide HS) (unhide HN) h6
      · 
        go_wp2
        go_ret
        exact ⟨Yes.no _, unhide AL⟩
    · have hm' : ¬ (n : Int) = 2 := by omega
      go_wp2
      go_ret
      exact ⟨Yes.no _, unhide AL⟩
  have m1 : (x.kind == 1) = false := by simp [k1]
  have m2 : (x.kind == 2) = false := by simp [k2]
  have m3 : (x.kind == 3) = false := by simp [k3]
  have m4 : (x.kind == 4) = false := by simp [k4]
  have m5 : (x.kind == 5) = false := by simp [k5]
  have m6 : (x.kind == 6) = false := by simp [k6]
  have m7 : (x.kind == 7) = false := by simp [k7]
  have m8 : (x.kind == 8) = false := by simp [k8]
  go_wp2
  go_ret
  exact ⟨Yes.no _, unhide AL⟩
end Go.Proofs.YtepnafnljfjeoaaGreatDoor.Line
