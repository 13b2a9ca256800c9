/- The law's own question: are all names of a tree there. -/
import Derived.Test.YtomnbidppkpfiaaDoorEvRight
import Derived.Deep.RegionWith
namespace Go.Proofs.YtomnbidppkpfiaaDoor.Line
open Go.ChangeShapes Go.WideShapes Go.ChangeAt Go.RowKit
open Ex (E)
open Ev (Sy Res)
set_option linter.unusedVariables false

inductive RD (T : List Sy) : E → Prop
  | mk (x : E) (h : x.kind = 2 ∨ x.kind = 3 → ∃ y, Ev.find T x.name = some y ∧ y.dims.length = x.a.length) (h2 : ∀ z ∈ x.a, RD T z) : RD T x
theorem RD.name {T : List Sy} {x : E} (h : RD T x) : x.kind = 2 ∨ x.kind = 3 → ∃ y, Ev.find T x.name = some y ∧ y.dims.length = x.a.length := by cases h; assumption
theorem RD.part {T : List Sy} {x : E} (h : RD T x) : ∀ z ∈ x.a, RD T z := by cases h; assumption
theorem rw_of {T : List Sy} : ∀ x : E, RX x → RD T x → Ev.RW T x := by
  intro x h
  induction h with
  | num x hk hs ha => exact fun _ => .num x hk
  | var x hk hn hs ha =>
    intro hd
    obtain ⟨y, hf, hl⟩ := hd.name (.inl hk)
    exact .var x hk y hf (List.length_eq_zero_iff.1 (by rw [hl, ha]; rfl)) ha
  | elem x hk hn hs h1 h4 h ih =>
    intro hd
    obtain ⟨y, hf, hl⟩ := hd.name (.inr hk)
    exact .elem x hk y hf hl (by omega) (fun z hz => ih z hz (hd.part z hz))
  | neg x hk hn hs h1 h ih => exact fun hd => .neg x hk h1 (fun z hz => ih z hz (hd.part z hz))
  | two x hk hn hs h1 h ih => exact fun hd => .two x hk h1 (fun z hz => ih z hz (hd.part z hz))
set_option maxHeartbeats 8000000 in
set_option maxRecDepth 100000 in
theorem right9_any (T : List Sy) : ∀ (x : E) (w : World) (sx sv : Value) (c : Int), Nice x → Syms w sv T → Forest w (fun _ => True) x.a sx → Calls Tryd.prog 9 #[.agg #[sv, .int .i64 c], treeV x sx] w fun e w' => Yes e (RD T x) ∧ Below w.heap.size w w' := by
  refine E.ind _ ?_
  intro x ih w sx sv c hni hs hx
  have al1 := alloc_below w (.cells #[sv, .int .i64 c] RTb)
  have z1 : (w.alloc (.cells #[sv, .int .i64 c] RTb)).heap.size = w.heap.size + 1 := by simp
  have al2 := alloc_below (w.alloc (.cells #[sv, .int .i64 c] RTb)) (.cells #[.int .i64 x.kind, .int .i64 x.n, .string ⟨x.name.toArray⟩, sx] ET)
  have hbx := bx_new (w.alloc (.cells #[sv, .int .i64 c] RTb)) x sx ET
  rw [z1] at hbx
  have HB := hide hbx
  have HX := hide hx
  have HS := hide hs
  have AL := hide (bthen al1 al2)
  have HFD := hide (rfind_any _ sv c T x.name (hs.below (bthen al1 al2)))
  have t0 : ((w.alloc (.cells #[sv, .int .i64 c] RTb)).alloc (.cells #[.int .i64 x.kind, .int .i64 x.n, .string ⟨x.name.toArray⟩, sx] ET)).cell? ⟨w.heap.size, 0, none⟩ = some sv := by simp [go_sem]
  have t1 : ((w.alloc (.cells #[sv, .int .i64 c] RTb)).alloc (.cells #[.int .i64 x.kind, .int .i64 x.n, .string ⟨x.name.toArray⟩, sx] ET)).cell? ⟨w.heap.size, 1, none⟩ = some (.int .i64 c) := by simp [go_sem]
  obtain ⟨xa, xc, rfl⟩ := hx.shape
  obtain ⟨sa, sc, rfl⟩ := hs.shape
  have IH := hide ih
  have HNI := hide hni
  have n8 := hni.few
  generalize hn : x.a.length = n at *
  generalize T.length = tn at *
  have HN := hide hn
  clear hx ih hn hni hs al1 al2 z1 hbx
  go_enter Tryd.func9, Tryd.ntmps9
  go_upto_region 1 with fail
  generalize ((w.alloc (.cells #[.slice sa tn sc, .int .i64 c] RTb)).alloc (.cells #[.int .i64 x.kind, .int .i64 x.n, .string ⟨x.name.toArray⟩, .slice xa n xc] ET)) = W at *
  obtain ⟨a0, a1, a2, a3, -, -, -, -, hlt⟩ := unhide HB
  by_cases k2 : x.kind = 2
  · rw [k2] at a0
    have HK := hide k2
    clear k2
    go_wp2_with fail
    refine (unhide HFD).mono ?_
    rintro ev wz ⟨dv, rfl, hd, hbe⟩
    clear HFD
    cases hfd : Ev.find T x.name with
    | none =>
      rw [hfd] at hd
      simp only [Option.getD, Option.isSome] at *
      obtain ⟨da, dc, rfl⟩ := hd.shape
      have AL2 := hide (bthen (unhide AL) (bthen hbe (alloc_below wz (.cells #[.string ⟨Ev.zSy.name.toArray⟩, .slice da Ev.zSy.dims.length dc, .int .i64 Ev.zSy.at_, .int .i64 Ev.zSy.size] RSy))))
      go_wp2
      go_ret
      exact ⟨Yes.no _, unhide AL2⟩
    | some y =>
      rw [hfd] at hd
      simp only [Option.getD, Option.isSome] at *
      obtain ⟨da, dc, rfl⟩ := hd.shape
      have HFY := hide hfd
      have hb2 := bthen hbe (alloc_below wz (.cells #[.string ⟨y.name.toArray⟩, .slice da y.dims.length dc, .int .i64 y.at_, .int .i64 y.size] RSy))
      have AL2 := hide (bthen (unhide AL) hb2)
      have a3' := (hb2.cell (p := ⟨w.heap.size + 1, 3, none⟩) (cell_lt a3)).trans a3
      have t0' := (hb2.cell (p := ⟨w.heap.size, 0, none⟩) (cell_lt t0)).trans t0
      have t1' := (hb2.cell (p := ⟨w.heap.size, 1, none⟩) (cell_lt t1)).trans t1
      have y1 : (wz.alloc (.cells #[.string ⟨y.name.toArray⟩, .slice da y.dims.length dc, .int .i64 y.at_, .int .i64 y.size] RSy)).cell? ⟨wz.heap.size, 1, none⟩ = some (.slice da y.dims.length dc) := by simp [go_sem]
      clear a0 a1 a2 a3 t0 t1 hd hbe hb2 hfd
      go_upto_region 3 with fail
      generalize (wz.alloc (.cells #[.string ⟨y.name.toArray⟩, .slice da y.dims.length dc, .int .i64 y.at_, .int .i64 y.size] RSy)) = W2 at *
      have a3 := a3'
      have t0 := t0'
      have t1 := t1'
      clear a3' t0' t1'
      by_cases hl : y.dims.length = n
      · rw [hl] at y1
        have HL := hide hl
        clear hl
        go_wp2_with fail
        go_loopw [7] (fun q wr => ∃ (i : Nat), i ≤ n ∧ q = .int .i64 i ∧ Hid ((∀ z ∈ x.a.take i, RD T z) ∧ Below W2.heap.size W2 wr)) (fun q _ => n - (intOf q).toNat)
        case atStart => exact ⟨0, Nat.zero_le _, rfl, hide ⟨fun z hz => by simp at hz, Below.refl _ _⟩⟩
        case round =>
          obtain ⟨i, hi, rfl, HI⟩ := hrel
          have b3 : wr.cell? ⟨w.heap.size + 1, 3, none⟩ = some (.slice xa n xc) := ((unhide HI).2.cell (p := ⟨w.heap.size + 1, 3, none⟩) (cell_lt a3)).trans a3
          have s0 : wr.cell? ⟨w.heap.size, 0, none⟩ = some (.slice sa tn sc) := ((unhide HI).2.cell (p := ⟨w.heap.size, 0, none⟩) (cell_lt t0)).trans t0
          have s1 : wr.cell? ⟨w.heap.size, 1, none⟩ = some (.int .i64 c) := ((unhide HI).2.cell (p := ⟨w.heap.size, 1, none⟩) (cell_lt t1)).trans t1
          by_cases hin : i < n
          · have hin' : (i : Int) < n := by omega
            have hix : i < x.a.length := by rw [unhide HN]; exact hin
            obtain ⟨bx, ox, cx, fx, hvx, hcx, hmx, hcellx, hforx⟩ := ((unhide HX).old (bthen (unhide AL2) (unhide HI).2)).at (by omega)
            injection hvx with hvx1 hvx2 hvx3
            subst hvx1
            obtain ⟨d0, d1, d2, d3⟩ := hcellx i hix
            have hsx := hforx i hix
            obtain ⟨ua, uc, hua⟩ := hsx.shape
            rw [hua] at d3 hsx
            have HCA := hide (fun m => unhide IH _ (List.getElem_mem hix) (wr.drewN m) _ (.slice sa tn sc) c ((unhide HNI).part _ (List.getElem_mem hix)) ((unhide HS).below (bthen (unhide AL2) (bthen (unhide HI).2 (below_drewN (Below.refl _ _) m)))) (hsx.old (below_drewN (Below.refl _ _) m)))
            clear hcellx hforx hsx hua hvx2 hvx3 hcx hmx
            go_wp2_with fail
            go_region_with (go_at_call 9; refine (unhide HCA _).mono ?_; rintro ev w2 ⟨⟨b, rfl, hb⟩, hbe⟩; have HBB := hide hb; have HBE := hide hbe; clear hb hbe)
            all_goals (
              cases b with
              | false =>
                go_wp2
                go_ret
                exact ⟨Yes.no _, bthen (unhide AL2) (bthen (unhide HI).2 (bthen (below_drewN (Below.refl _ _) _) (unhide HBE)))⟩
              | true =>
                go_wp2
                go_roundw
                case rel =>
                  refine ⟨i + 1, by omega, by go_num, hide ⟨fun z hz => ?_, bthen (unhide HI).2 (bthen (below_drewN (Below.refl _ _) _) (unhide HBE))⟩⟩
                  rw [List.take_succ_eq_append_getElem hix] at hz
                  rcases List.mem_append.1 hz with hz | hz
                  · exact (unhide HI).1 z hz
                  · rw [List.mem_singleton.1 hz]; exact unhide HBB (by simp)
                case measure => simp [intOf]; omega)
          · have hin' : ¬ (i : Int) < n := by omega
            obtain rfl : i = n := by omega
            go_wp2
            go_ret
            refine ⟨Yes.yes ?_, bthen (unhide AL2) (unhide HI).2⟩
            have h6 := (unhide HI).1
            rw [List.take_of_length_le (by rw [unhide HN]; exact Nat.le_refl _)] at h6
            exact .mk x (fun _ => ⟨y, unhide HFY, by rw [unhide HL, unhide HN]⟩) h6
      · have hl' : ¬ (y.dims.length : Int) = n := by omega
        go_wp2
        go_ret
        exact ⟨Yes.no _, unhide AL2⟩
  by_cases k3 : x.kind = 3
  · rw [k3] at a0
    have HK := hide k3
    clear k2 k3
    go_wp2_with fail
    refine (unhide HFD).mono ?_
    rintro ev wz ⟨dv, rfl, hd, hbe⟩
    clear HFD
    cases hfd : Ev.find T x.name with
    | none =>
      rw [hfd] at hd
      simp only [Option.getD, Option.isSome] at *
      obtain ⟨da, dc, rfl⟩ := hd.shape
      have AL2 := hide (bthen (unhide AL) (bthen hbe (alloc_below wz (.cells #[.string ⟨Ev.zSy.name.toArray⟩, .slice da Ev.zSy.dims.length dc, .int .i64 Ev.zSy.at_, .int .i64 Ev.zSy.size] RSy))))
      go_wp2
      go_ret
      exact ⟨Yes.no _, unhide AL2⟩
    | some y =>
      rw [hfd] at hd
      simp only [Option.getD, Option.isSome] at *
      obtain ⟨da, dc, rfl⟩ := hd.shape
      have HFY := hide hfd
      have hb2 := bthen hbe (alloc_below wz (.cells #[.string ⟨y.name.toArray⟩, .slice da y.dims.length dc, .int .i64 y.at_, .int .i64 y.size] RSy))
      have AL2 := hide (bthen (unhide AL) hb2)
      have a3' := (hb2.cell (p := ⟨w.heap.size + 1, 3, none⟩) (cell_lt a3)).trans a3
      have t0' := (hb2.cell (p := ⟨w.heap.size, 0, none⟩) (cell_lt t0)).trans t0
      have t1' := (hb2.cell (p := ⟨w.heap.size, 1, none⟩) (cell_lt t1)).trans t1
      have y1 : (wz.alloc (.cells #[.string ⟨y.name.toArray⟩, .slice da y.dims.length dc, .int .i64 y.at_, .int .i64 y.size] RSy)).cell? ⟨wz.heap.size, 1, none⟩ = some (.slice da y.dims.length dc) := by simp [go_sem]
      clear a0 a1 a2 a3 t0 t1 hd hbe hb2 hfd
      go_upto_region 3 with fail
      generalize (wz.alloc (.cells #[.string ⟨y.name.toArray⟩, .slice da y.dims.length dc, .int .i64 y.at_, .int .i64 y.size] RSy)) = W2 at *
      have a3 := a3'
      have t0 := t0'
      have t1 := t1'
      clear a3' t0' t1'
      by_cases hl : y.dims.length = n
      · rw [hl] at y1
        have HL := hide hl
        clear hl
        go_wp2_with fail
        go_loopw [7] (fun q wr => ∃ (i : Nat), i ≤ n ∧ q = .int .i64 i ∧ Hid ((∀ z ∈ x.a.take i, RD T z) ∧ Below W2.heap.size W2 wr)) (fun q _ => n - (intOf q).toNat)
        case atStart => exact ⟨0, Nat.zero_le _, rfl, hide ⟨fun z hz => by simp at hz, Below.refl _ _⟩⟩
        case round =>
          obtain ⟨i, hi, rfl, HI⟩ := hrel
          have b3 : wr.cell? ⟨w.heap.size + 1, 3, none⟩ = some (.slice xa n xc) := ((unhide HI).2.cell (p := ⟨w.heap.size + 1, 3, none⟩) (cell_lt a3)).trans a3
          have s0 : wr.cell? ⟨w.heap.size, 0, none⟩ = some (.slice sa tn sc) := ((unhide HI).2.cell (p := ⟨w.heap.size, 0, none⟩) (cell_lt t0)).trans t0
          have s1 : wr.cell? ⟨w.heap.size, 1, none⟩ = some (.int .i64 c) := ((unhide HI).2.cell (p := ⟨w.heap.size, 1, none⟩) (cell_lt t1)).trans t1
          by_cases hin : i < n
          · have hin' : (i : Int) < n := by omega
            have hix : i < x.a.length := by rw [unhide HN]; exact hin
            obtain ⟨bx, ox, cx, fx, hvx, hcx, hmx, hcellx, hforx⟩ := ((unhide HX).old (bthen (unhide AL2) (unhide HI).2)).at (by omega)
            injection hvx with hvx1 hvx2 hvx3
            subst hvx1
            obtain ⟨d0, d1, d2, d3⟩ := hcellx i hix
            have hsx := hforx i hix
            obtain ⟨ua, uc, hua⟩ := hsx.shape
            rw [hua] at d3 hsx
            have HCA := hide (fun m => unhide IH _ (List.getElem_mem hix) (wr.drewN m) _ (.slice sa tn sc) c ((unhide HNI).part _ (List.getElem_mem hix)) ((unhide HS).below (bthen (unhide AL2) (bthen (unhide HI).2 (below_drewN (Below.refl _ _) m)))) (hsx.old (below_drewN (Below.refl _ _) m)))
            clear hcellx hforx hsx hua hvx2 hvx3 hcx hmx
            go_wp2_with fail
            go_region_with (go_at_call 9; refine (unhide HCA _).mono ?_; rintro ev w2 ⟨⟨b, rfl, hb⟩, hbe⟩; have HBB := hide hb; have HBE := hide hbe; clear hb hbe)
            all_goals (
              cases b with
              | false =>
                go_wp2
                go_ret
                exact ⟨Yes.no _, bthen (unhide AL2) (bthen (unhide HI).2 (bthen (below_drewN (Below.refl _ _) _) (unhide HBE)))⟩
              | true =>
                go_wp2
                go_roundw
                case rel =>
                  refine ⟨i + 1, by omega, by go_num, hide ⟨fun z hz => ?_, bthen (unhide HI).2 (bthen (below_drewN (Below.refl _ _) _) (unhide HBE))⟩⟩
                  rw [List.take_succ_eq_append_getElem hix] at hz
                  rcases List.mem_append.1 hz with hz | hz
                  · exact (unhide HI).1 z hz
                  · rw [List.mem_singleton.1 hz]; exact unhide HBB (by simp)
                case measure => simp [intOf]; omega)
          · have hin' : ¬ (i : Int) < n := by omega
            obtain rfl : i = n := by omega
            go_wp2
            go_ret
            refine ⟨Yes.yes ?_, bthen (unhide AL2) (unhide HI).2⟩
            have h6 := (unhide HI).1
            rw [List.take_of_length_le (by rw [unhide HN]; exact Nat.le_refl _)] at h6
            exact .mk x (fun _ => ⟨y, unhide HFY, by rw [unhide HL, unhide HN]⟩) h6
      · have hl' : ¬ (y.dims.length : Int) = n := by omega
        go_wp2
        go_ret
        exact ⟨Yes.no _, unhide AL2⟩
  have m2 : (x.kind == 2) = false := by simp [k2]
  have m3 : (x.kind == 3) = false := by simp [k3]
  have HK2 := hide k2
  have HK3 := hide k3
  clear HFD
  go_wp2_with fail
  go_loopw [7] (fun q wr => ∃ (i : Nat), i ≤ n ∧ q = .int .i64 i ∧ Hid ((∀ z ∈ x.a.take i, RD T z) ∧ Below W.heap.size W wr)) (fun q _ => n - (intOf q).toNat)
  case atStart => exact ⟨0, Nat.zero_le _, rfl, hide ⟨fun z hz => by simp at hz, Below.refl _ _⟩⟩
  case round =>
    obtain ⟨i, hi, rfl, HI⟩ := hrel
    have b3 : wr.cell? ⟨w.heap.size + 1, 3, none⟩ = some (.slice xa n xc) := ((unhide HI).2.cell (p := ⟨w.heap.size + 1, 3, none⟩) (cell_lt a3)).trans a3
    have s0 : wr.cell? ⟨w.heap.size, 0, none⟩ = some (.slice sa tn sc) := ((unhide HI).2.cell (p := ⟨w.heap.size, 0, none⟩) (cell_lt t0)).trans t0
    have s1 : wr.cell? ⟨w.heap.size, 1, none⟩ = some (.int .i64 c) := ((unhide HI).2.cell (p := ⟨w.heap.size, 1, none⟩) (cell_lt t1)).trans t1
    by_cases hin : i < n
    · have hin' : (i : Int) < n := by omega
      have hix : i < x.a.length := by rw [unhide HN]; exact hin
      obtain ⟨bx, ox, cx, fx, hvx, hcx, hmx, hcellx, hforx⟩ := ((unhide HX).old (bthen (unhide AL) (unhide HI).2)).at (by omega)
      injection hvx with hvx1 hvx2 hvx3
      subst hvx1
      obtain ⟨d0, d1, d2, d3⟩ := hcellx i hix
      have hsx := hforx i hix
      obtain ⟨ua, uc, hua⟩ := hsx.shape
      rw [hua] at d3 hsx
      have HCA := hide (fun m => unhide IH _ (List.getElem_mem hix) (wr.drewN m) _ (.slice sa tn sc) c ((unhide HNI).part _ (List.getElem_mem hix)) ((unhide HS).below (bthen (unhide AL) (bthen (unhide HI).2 (below_drewN (Below.refl _ _) m)))) (hsx.old (below_drewN (Below.refl _ _) m)))
      clear hcellx hforx hsx hua hvx2 hvx3 hcx hmx
      go_wp2_with fail
      go_region_with (go_at_call 9; refine (unhide HCA _).mono ?_; rintro ev w2 ⟨⟨b, rfl, hb⟩, hbe⟩; have HBB := hide hb; have HBE := hide hbe; clear hb hbe)
      all_goals (
        cases b with
        | false =>
          go_wp2
          go_ret
          exact ⟨Yes.no _, bthen (unhide AL) (bthen (unhide HI).2 (bthen (below_drewN (Below.refl _ _) _) (unhide HBE)))⟩
        | true =>
          go_wp2
          go_roundw
          case rel =>
            refine ⟨i + 1, by omega, by go_num, hide ⟨fun z hz => ?_, bthen (unhide HI).2 (bthen (below_drewN (Below.refl _ _) _) (unhide HBE))⟩⟩
            rw [List.take_succ_eq_append_getElem hix] at hz
            rcases List.mem_append.1 hz with hz | hz
            · exact (unhide HI).1 z hz
            · rw [List.mem_singleton.1 hz]; exact unhide HBB (by simp)
          case measure => simp [intOf]; omega)
    · have hin' : ¬ (i : Int) < n := by omega
      obtain rfl : i = n := by omega
      go_wp2
      go_ret
      refine ⟨Yes.yes ?_, bthen (unhide AL) (unhide HI).2⟩
      have h6 := (unhide HI).1
      rw [List.take_of_length_le (by rw [unhide HN]; exact Nat.le_refl _)] at h6
      exact .mk x (fun h => by rcases h with h | h; exact absurd h (unhide HK2); exact absurd h (unhide HK3)) h6
end Go.Proofs.YtomnbidppkpfiaaDoor.Line
