/- The law's own questions about trees: few nodes. -/
import Derived.Test.YtepnafnljfjeoaaGreatDoorEvBx
import Derived.Test.YtepnafnljfjeoaaGreatDoorPlainEv
import Derived.Deep.CutRange
namespace Go.Proofs.YtepnafnljfjeoaaGreatDoor.Line
open Go.ChangeShapes Go.WideShapes Go.ChangeAt Go.RowKit
open Ex (E)
set_option linter.unusedVariables false

inductive Nice : E → Prop
  | mk (x : E) (h1 : x.a.length ≤ 8) (h2 : x.name.length ≤ 40) (h3 : ∀ z ∈ x.a, Nice z) : Nice x
theorem Nice.few {x : E} (h : Nice x) : x.a.length ≤ 8 := by cases h; assumption
theorem Nice.short {x : E} (h : Nice x) : x.name.length ≤ 40 := by cases h; assumption
theorem Nice.part {x : E} (h : Nice x) : ∀ z ∈ x.a, Nice z := by cases h; assumption
theorem sz_eq (x : E) : Ev.sz x = 1 + Ev.szs x.a := by cases x; rw [Ev.sz]; rfl
theorem szs_snoc (l : List E) (x : E) : Ev.szs (l ++ [x]) = Ev.szs l + Ev.sz x := by
  induction l with
  | nil => simp [Ev.szs]
  | cons y r ih => rw [List.cons_append, Ev.szs, ih, Ev.szs]; omega
set_option maxHeartbeats 8000000 in
set_option maxRecDepth 100000 in
theorem budget_any : ∀ (x : E) (w : World) (sx : Value) (d l : Nat), d ≤ 60 → l ≤ 300 → Forest w (fun _ => True) x.a sx → Calls Tryz.prog 23 #[treeV x sx, .int .i64 d, .int .i64 l] w fun e w' => ∃ b : Nat, b ≤ l ∧ e = .returned (.int .i64 b) ∧ (0 < b → Ev.sz x + b ≤ l ∧ Nice x) ∧ Below w.heap.size w w' := by
  refine E.ind _ ?_
  intro x ih w sx d l hd hl hx
  have HX := hide hx
  have HB := hide (bx_new w x sx PET)
  have AL := hide (alloc_below w (.cells #[.int .i64 x.kind, .int .i64 x.n, .string ⟨x.name.toArray⟩, sx] PET))
  obtain ⟨xa, xc, rfl⟩ := hx.shape
  have IH := hide ih
  generalize hn : x.a.length = n at *
  have HN := hide hn
  clear hx ih hn
  have hsz : ((⟨x.name.toArray⟩ : ByteArray).size : Int) = x.name.length := rfl
  go_enter Tryz.func23, Tryz.ntmps23
  go_upto_region 1 with fail
  generalize (w.alloc (.cells #[.int .i64 x.kind, .int .i64 x.n, .string ⟨x.name.toArray⟩, .slice xa n xc] PET)) = W at *
  obtain ⟨a0, a1, a2, a3, -, -, -, -, hlt⟩ := unhide HB
  by_cases h1 : l = 0
  · subst h1
    go_wp2
    go_ret
    exact ⟨0, Nat.le_refl _, rfl, fun h => absurd h (Nat.lt_irrefl _), unhide AL⟩
  have h1' : ¬ (l : Int) ≤ 0 := by omega
  by_cases h2 : d = 0
  · subst h2
    go_wp2
    go_ret
    exact ⟨0, Nat.zero_le _, rfl, fun h => absurd h (Nat.lt_irrefl _), unhide AL⟩
  have h2' : ¬ (d : Int) ≤ 0 := by omega
  by_cases h3 : 8 < n
  · have h3' : (8 : Int) < n := by omega
    go_wp2
    go_ret
    exact ⟨0, Nat.zero_le _, rfl, fun h => absurd h (Nat.lt_irrefl _), unhide AL⟩
  have h3' : ¬ (8 : Int) < n := by omega
  by_cases h4 : 40 < x.name.length
  · have h4' : (40 : Int) < x.name.length := by omega
    go_wp2
    go_ret
    exact ⟨0, Nat.zero_le _, rfl, fun h => absurd h (Nat.lt_irrefl _), unhide AL⟩
  have h4' : ¬ (40 : Int) < x.name.length := by omega
  have hl1 : (l : Int) - 1 = ((l - 1 : Nat) : Int) := by omega
  go_wp2_with fail
  have hn8 : n ≤ 8 := by omega
  have HF := hide (And.intro h1 (And.intro h3 (And.intro h4 h2)))
  clear h1 h1' h2 h2' h3 h3' h4 h4'
  go_loopw [2, 7] (fun lv q wr => ∃ (i c : Nat), i ≤ n ∧ c ≤ l - 1 ∧ q = .int .i64 i ∧ lv = .int .i64 c ∧ Hid ((0 < c → Ev.szs (x.a.take i) + c ≤ l - 1 ∧ ∀ z ∈ x.a.take i, Nice z) ∧ Below W.heap.size W wr)) (fun _ q _ => n - (intOf q).toNat)
  case atStart => exact ⟨0, l - 1, Nat.zero_le _, Nat.le_refl _, rfl, rfl, hide ⟨fun _ => ⟨by simp [Ev.szs], fun z hz => by simp at hz⟩, Below.refl _ _⟩⟩
  case round => 
    obtain ⟨i, c, hi, hc, rfl, rfl, HI⟩ := hrel
    have b3 : wr.cell? ⟨w.heap.size, 3, none⟩ = some (.slice xa n xc) := ((unhide HI).2.cell (p := ⟨w.heap.size, 3, none⟩) hlt).trans a3
    by_cases hin : i < n
    · have hin' : (i : Int) < n := by omega
      by_cases hc0 : c = 0
      · subst hc0
        go_wp2
        go_ret
        exact ⟨0, Nat.zero_le _, rfl, fun h => absurd h (Nat.lt_irrefl _), bthen (unhide AL) (unhide HI).2⟩
      · have hc0' : (0 : Int) < c := by omega
        have hix : i < x.a.length := by rw [unhide HN]; exact hin
        obtain ⟨bx, ox, cx, fx, hvx, hcx, hmx, hcellx, hforx⟩ := ((unhide HX).old (bthen (unhide AL) (unhide HI).2)).at (by omega)
        injection hvx with hvx1 hvx2 hvx3
        subst hvx1
        obtain ⟨d0, d1, d2, d3⟩ := hcellx i hix
        have hsx := hforx i hix
        obtain ⟨ua, uc, hua⟩ := hsx.shape
        rw [hua] at d3 hsx
        have hd1 : (d : Int) - 1 = ((d - 1 : Nat) : Int) := by have := (unhide HF).2.2.2; omega
        have HCA := hide (unhide IH _ (List.getElem_mem hix) wr _ (d - 1) c (by omega) (by omega) hsx)
        clear hcellx hforx hsx hua hvx2 hvx3 hcx hmx
        go_wp2_with fail
        refine (unhide HCA).mono ?_
        rintro ev w2 ⟨b, hb, rfl, hbb, hbe⟩
        go_wp2
        go_roundw
        case rel =>
          refine ⟨i + 1, b, by omega, by omega, by go_num, rfl, hide ⟨fun h => ?_, bthen (unhide HI).2 hbe⟩⟩
          obtain ⟨g1, g2⟩ := hbb h
          obtain ⟨g3, g4⟩ := (unhide HI).1 (by omega)
          rw [List.take_succ_eq_append_getElem hix, szs_snoc]
          refine ⟨by omega, fun z hz => ?_⟩
          rcases List.mem_append.1 hz with hz | hz
          · exact g4 z hz
          · rw [List.mem_singleton.1 hz]; exact g2
        case measure => simp [intOf]; omega
    · have hin' : ¬ (i : Int) < n := by omega
      obtain rfl : i = n := by omega
      go_wp2
      go_ret
      refine ⟨c, by omega, rfl, fun h => ?_, bthen (unhide AL) (unhide HI).2⟩
      obtain ⟨h5, h6⟩ := (unhide HI).1 h
      rw [List.take_of_length_le (by rw [unhide HN]; exact Nat.le_refl _)] at h5 h6
      refine ⟨by rw [sz_eq]; have := (unhide HF).1; omega, .mk _ (by rw [unhide HN]; have := (unhide HF).2.1; omega) (by have := (unhide HF).2.2.1; omega) h6⟩
theorem few_any (x : E) (w : World) (sx : Value) (hx : Forest w (fun _ => True) x.a sx) : Calls Tryz.prog 5 #[treeV x sx] w fun e w' => ∃ b, e = .returned (.bool b) ∧ (b = true → Ev.sz x ≤ 300 ∧ Nice x) ∧ Below w.heap.size w w' := by
  have al := alloc_below w (.cells #[.int .i64 x.kind, .int .i64 x.n, .string ⟨x.name.toArray⟩, sx] PET)
  have HC := hide (budget_any x _ sx 60 300 (Nat.le_refl _) (Nat.le_refl _) (hx.old al))
  have AL := hide al
  obtain ⟨xa, xc, rfl⟩ := hx.shape
  generalize x.a.length = n at *
  clear hx al
  go_enter Tryz.func5, Tryz.ntmps5
  go_wp2_with fail
  refine (unhide HC).mono ?_
  rintro ev w2 ⟨b, hb, rfl, hbb, hbe⟩
  by_cases h0 : 0 < b
  · have h0' : (0 : Int) < b := by omega
    go_wp2
    go_ret
    exact ⟨true, rfl, fun _ => by have := hbb h0; exact ⟨by omega, this.2⟩, bthen (unhide AL) hbe⟩
  · have h0' : ¬ (0 : Int) < b := by omega
    go_wp2
    go_ret
    exact ⟨false, rfl, fun h => (by cases h), bthen (unhide AL) hbe⟩
end Go.Proofs.YtepnafnljfjeoaaGreatDoor.Line
