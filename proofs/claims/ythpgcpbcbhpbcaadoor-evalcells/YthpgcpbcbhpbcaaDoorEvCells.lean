/- EvalCells, walked. -/
import Derived.Test.YthpgcpbcbhpbcaaDoorEvKnown
namespace Go.Proofs.YthpgcpbcbhpbcaaDoor.Line
open Go.ChangeShapes Go.WideShapes Go.ChangeAt Go.RowKit
open Ex (E)
open Ev (Sy Res)
set_option linter.unusedVariables false

def tabPq (p q : Int) : List Sy := [⟨[120], [], 0, 1⟩, ⟨[97], [p, q], 1, p * q⟩]
def subE (i j : Int) : E := .mk 3 0 [97] [.mk 1 i [] [], .mk 1 j [] []]
theorem pq_bounds {p q : Int} (p1 : 1 ≤ p) (p2 : p ≤ 8) (q1 : 1 ≤ q) (q2 : q ≤ 8) : 1 ≤ p * q ∧ p * q ≤ 64 := by
  have h1 := Int.mul_le_mul p1 q1 (by omega) (by omega)
  have h2 := Int.mul_le_mul p2 q2 (by omega) (by omega)
  omega
theorem tabPq_fine {p q : Int} (p1 : 1 ≤ p) (p2 : p ≤ 8) (q1 : 1 ≤ q) (q2 : q ≤ 8) : Ev.Fine (tabPq p q) := by
  have h := pq_bounds p1 p2 q1 q2
  intro x hx
  simp only [tabPq, List.mem_cons, List.not_mem_nil, or_false] at hx
  rcases hx with rfl | rfl
  · exact Ev.leaf_fine _ _ (by omega) (by omega)
  · refine ⟨by simp, fun d hd => ?_, ?_, by simp, by simp⟩
    · simp only [List.mem_cons, List.not_mem_nil, or_false] at hd
      rcases hd with rfl | rfl <;> omega
    · simp only [Ev.prod, Int.mul_one]; omega
theorem sub_cell {p q i j : Int} (s : List Int) (i1 : 1 ≤ i) (i2 : i ≤ p) (j1 : 1 ≤ j) (j2 : j ≤ q) : placeP (tabPq p q) s (subE i j) = .ok (1 + (j - 1) * p + (i - 1)) := by
  have h1 : Ev.evs (tabPq p q) s (Ev.parts (subE i j)) = .inr [i, j] := rfl
  rw [place_inr h1]
  show Ev.cellGo 0 [i, j] [p, q] 1 1 = _
  rw [Ev.cellGo_in _ _ _ _ _ _ _ (by omega) (by omega), Ev.cellGo_in _ _ _ _ _ _ _ (by omega) (by omega), Ev.cellGo_end _ _ _ _ _ (.inl rfl)]
  rw [show 1 + (i - 1) * 1 + (j - 1) * (1 * p) = 1 + (j - 1) * p + (i - 1) by rw [Int.one_mul, Int.mul_one]; omega]
/-- the table, the store -/
structure CM (w W : World) (tb : Nat) (sv stv : Value) (p q : Int) (s : List Int) : Prop where
  t0 : W.cell? ⟨tb, 0, none⟩ = some sv
  t1 : W.cell? ⟨tb, 1, none⟩ = some (.int .i64 (p * q + 1))
  syms : Syms W sv (tabPq p q)
  ints : Ints W stv s
  old : Below w.heap.size w W
theorem CM.below {w W W' : World} {tb : Nat} {sv stv : Value} {p q : Int} {s : List Int} (h : CM w W tb sv stv p q s) (hb : Below W.heap.size W W') : CM w W' tb sv stv p q s :=
  ⟨(hb.cell (p := ⟨tb, 0, none⟩) (cell_lt h.t0)).trans h.t0, (hb.cell (p := ⟨tb, 1, none⟩) (cell_lt h.t1)).trans h.t1, h.syms.below hb, h.ints.below hb, bthen h.old hb⟩
theorem CM.place {w W : World} {tb : Nat} {sv stv : Value} {p q : Int} {s : List Int} (h : CM w W tb sv stv p q s) (p1 : 1 ≤ p) (p2 : p ≤ 8) (q1 : 1 ≤ q) (q2 : q ≤ 8) (hs : s.length ≤ 1000000) (i j : Int) (i1 : 1 ≤ i) (i2 : i ≤ p) (j1 : 1 ≤ j) (j2 : j ≤ q) :
    Calls Tryd.prog 18 #[.agg #[sv, .int .i64 (p * q + 1)], stv, .agg #[.int .i64 3, .int .i64 0, .string ⟨#[97]⟩, .slice (some ⟨W.heap.size, 0, none⟩) 2 2]] (W.alloc (.cells #[.int .i64 1, .int .i64 i, .string ⟨#[]⟩, .slice none 0 0, .int .i64 1, .int .i64 j, .string ⟨#[]⟩, .slice none 0 0] PET)) fun e w' => e = .returned (.tuple #[.int .i64 (1 + (j - 1) * p + (i - 1)), .nilIface]) ∧ Below W.heap.size W w' := by
  have al := alloc_below W (.cells #[.int .i64 1, .int .i64 i, .string ⟨#[]⟩, .slice none 0 0, .int .i64 1, .int .i64 j, .string ⟨#[]⟩, .slice none 0 0] PET)
  have f2 : Forest (W.alloc (.cells #[.int .i64 1, .int .i64 i, .string ⟨#[]⟩, .slice none 0 0, .int .i64 1, .int .i64 j, .string ⟨#[]⟩, .slice none 0 0] PET)) (fun _ => True) (subE i j).a (.slice (some ⟨W.heap.size, 0, none⟩) 2 2) := forest_two (x := .mk 1 i [] []) (y := .mk 1 j [] []) (t := PET) (.nil _ _) (.nil _ _) trivial
  have h' := h.below al
  refine (place_any _ sv (p * q + 1) (tabPq p q) stv s (subE i j) _ h'.syms (tabPq_fine p1 p2 q1 q2) h'.ints hs f2 (show 2 * 3 ≤ 90000 by decide)).mono ?_
  rw [sub_cell s i1 i2 j1 j2]
  rintro e w' ⟨f, h1, h2, h3⟩
  rw [says_ok h2] at h1
  exact ⟨h1, bthen al h3⟩
set_option maxHeartbeats 8000000 in
set_option maxRecDepth 100000 in
theorem evalCells_walk (n m : Nat) (w : World) (hn : n ≤ 255) (hm : m ≤ 255) (hG : Glob w) :
    Calls Tryd.prog 5 #[.int .u8 n, .int .u8 m] w fun e w' => e = .returned (.bool true) ∧ Below w.heap.size w w' := by
  have HK := hide (known9_any w hG)
  have n0 : 0 ≤ (n : Int) % 8 := by omega
  have n1 : (n : Int) % 8 ≤ 7 := by omega
  have m0 : 0 ≤ (m : Int) % 8 := by omega
  have m1 : (m : Int) % 8 ≤ 7 := by omega
  clear hG
  go_enter Tryd.func5, Tryd.ntmps5
  go_upto_region 5 with (go_at_call 7; refine (unhide HK).mono ?_; rintro ev w0 ⟨rfl, hb0⟩; have HB0 := hide hb0; clear hb0)
  have p1 : 1 ≤ 1 + (n : Int) % 8 := by omega
  have p2 : 1 + (n : Int) % 8 ≤ 8 := by omega
  have q1 : 1 ≤ 1 + (m : Int) % 8 := by omega
  have q2 : 1 + (m : Int) % 8 ≤ 8 := by omega
  generalize 1 + (n : Int) % 8 = p at *
  generalize 1 + (m : Int) % 8 = q at *
  clear n0 n1 m0 m1 HK
  obtain ⟨hpq1, hpq2⟩ := pq_bounds p1 p2 q1 q2
  have c1 := alloc_below w0 (.cells #[.int .i64 p, .int .i64 q] INT)
  have z1 : (w0.alloc (.cells #[.int .i64 p, .int .i64 q] INT)).heap.size = w0.heap.size + 1 := by simp
  have hI : Ints (w0.alloc (.cells #[.int .i64 p, .int .i64 q] INT)) (.slice (some ⟨w0.heap.size, 0, none⟩) 2 2) [p, q] := ⟨_, 2, rfl, Nat.le_refl _, by decide, .inr ⟨_, 0, rfl, fun j hj => by
    have : j = 0 ∨ j = 1 := by simp at hj; omega
    rcases this with rfl | rfl <;> simp⟩⟩
  have c2 := alloc_below (w0.alloc (.cells #[.int .i64 p, .int .i64 q] INT)) (.cells #[.string ⟨#[120]⟩, .slice none 0 0, .int .i64 0, .int .i64 1, .string ⟨#[97]⟩, .slice (some ⟨w0.heap.size, 0, none⟩) 2 2, .int .i64 1, .int .i64 (p * q)] SyT)
  have hS : Syms ((w0.alloc (.cells #[.int .i64 p, .int .i64 q] INT)).alloc (.cells #[.string ⟨#[120]⟩, .slice none 0 0, .int .i64 0, .int .i64 1, .string ⟨#[97]⟩, .slice (some ⟨w0.heap.size, 0, none⟩) 2 2, .int .i64 1, .int .i64 (p * q)] SyT)) (.slice (some ⟨w0.heap.size + 1, 0, none⟩) 2 2) (tabPq p q) := by
    refine ⟨_, 2, rfl, Nat.le_refl _, by decide, .inr ⟨_, 0, fun i => if i = 0 then .slice none 0 0 else .slice (some ⟨w0.heap.size, 0, none⟩) 2 2, rfl, fun i hi => ?_⟩⟩
    have : i = 0 ∨ i = 1 := by simp [tabPq] at hi; omega
    rcases this with rfl | rfl
    · exact ⟨by simp [tabPq, go_sem], Ints.nil _⟩
    · exact ⟨by simp [tabPq, go_sem], hI.below c2⟩
  have c3 := alloc_below ((w0.alloc (.cells #[.int .i64 p, .int .i64 q] INT)).alloc (.cells #[.string ⟨#[120]⟩, .slice none 0 0, .int .i64 0, .int .i64 1, .string ⟨#[97]⟩, .slice (some ⟨w0.heap.size, 0, none⟩) 2 2, .int .i64 1, .int .i64 (p * q)] SyT)) (.cells #[.slice (some ⟨w0.heap.size + 1, 0, none⟩) 2 2, .int .i64 (p * q + 1)] TbT)
  have k0 : (((w0.alloc (.cells #[.int .i64 p, .int .i64 q] INT)).alloc (.cells #[.string ⟨#[120]⟩, .slice none 0 0, .int .i64 0, .int .i64 1, .string ⟨#[97]⟩, .slice (some ⟨w0.heap.size, 0, none⟩) 2 2, .int .i64 1, .int .i64 (p * q)] SyT)).alloc (.cells #[.slice (some ⟨w0.heap.size + 1, 0, none⟩) 2 2, .int .i64 (p * q + 1)] TbT)).cell? ⟨w0.heap.size + 1 + 1, 0, none⟩ = some (.slice (some ⟨w0.heap.size + 1, 0, none⟩) 2 2) := by simp [go_sem]
  have k1 : (((w0.alloc (.cells #[.int .i64 p, .int .i64 q] INT)).alloc (.cells #[.string ⟨#[120]⟩, .slice none 0 0, .int .i64 0, .int .i64 1, .string ⟨#[97]⟩, .slice (some ⟨w0.heap.size, 0, none⟩) 2 2, .int .i64 1, .int .i64 (p * q)] SyT)).alloc (.cells #[.slice (some ⟨w0.heap.size + 1, 0, none⟩) 2 2, .int .i64 (p * q + 1)] TbT)).cell? ⟨w0.heap.size + 1 + 1, 1, none⟩ = some (.int .i64 (p * q + 1)) := by simp [go_sem]
  have hS3 := hS.below c3
  have hB3 := bthen (unhide HB0) (bthen c1 (bthen c2 c3))
  have HS3 := hide (And.intro hS3 hB3)
  clear c1 z1 hI c2 hS c3 hS3 hB3 HB0
  go_upto_region 6 with fail
  generalize (((w0.alloc (.cells #[.int .i64 p, .int .i64 q] INT)).alloc (.cells #[.string ⟨#[120]⟩, .slice none 0 0, .int .i64 0, .int .i64 1, .string ⟨#[97]⟩, .slice (some ⟨w0.heap.size, 0, none⟩) 2 2, .int .i64 1, .int .i64 (p * q)] SyT)).alloc (.cells #[.slice (some ⟨w0.heap.size + 1, 0, none⟩) 2 2, .int .i64 (p * q + 1)] TbT)) = W3 at *
  generalize w0.heap.size + 1 + 1 = tb at *
  generalize w0.heap.size + 1 = sb at *
  obtain ⟨N, hN⟩ := Int.eq_ofNat_of_zero_le (show 0 ≤ p * q + 1 by omega)
  obtain ⟨Z, hr, hI, -⟩ := make_store W3 N (by omega)
  rw [← hN] at hr
  have al := alloc_below W3 (.cells Z INT)
  have HM : Hid (CM w (W3.alloc (.cells Z INT)) tb (.slice (some ⟨sb, 0, none⟩) 2 2) (.slice (some ⟨W3.heap.size, 0, none⟩) N N) p q (List.replicate N 0)) := hide ⟨(al.cell (p := ⟨tb, 0, none⟩) (cell_lt k0)).trans k0, (al.cell (p := ⟨tb, 1, none⟩) (cell_lt k1)).trans k1, (unhide HS3).1.below al, hI, bthen (unhide HS3).2 al⟩
  have HNN : Hid (N ≤ 1000000) := hide (by omega)
  clear hI al HS3 hN
  go_wp2_with fail
  generalize (W3.alloc (.cells Z INT)) = W4 at *
  generalize W3.heap.size = qs at *
  clear hr k0 k1
  go_loopw [9, 10] (fun wt jj wr => ∃ (j : Nat) (t : Int), 1 ≤ j ∧ (j : Int) ≤ q + 1 ∧ jj = .int .i64 j ∧ wt = .int .i64 t ∧ Hid (t = 1 + ((j : Int) - 1) * p) ∧ 0 ≤ t ∧ t ≤ 1000 ∧ Hid (CM w wr tb (.slice (some ⟨sb, 0, none⟩) 2 2) (.slice (some ⟨qs, 0, none⟩) N N) p q (List.replicate N 0))) (fun _ jj _ => (q + 1 - intOf jj).toNat)
  case atStart => exact ⟨1, 1, by omega, by omega, rfl, rfl, hide (by simp), by omega, by omega, HM⟩
  case round =>
    obtain ⟨j, t, hj1, hj2, rfl, rfl, HT, ht0, ht1, HMM⟩ := hrel
    by_cases hlt : (j : Int) ≤ q
    · go_wp2_with fail
      go_loopw [9, 11] (fun wt ii wr => ∃ (i : Nat) (t : Int), 1 ≤ i ∧ (i : Int) ≤ p + 1 ∧ ii = .int .i64 i ∧ wt = .int .i64 t ∧ Hid (t = 1 + ((j : Int) - 1) * p + ((i : Int) - 1)) ∧ 0 ≤ t ∧ t ≤ 1000 ∧ Hid (CM w wr tb (.slice (some ⟨sb, 0, none⟩) 2 2) (.slice (some ⟨qs, 0, none⟩) N N) p q (List.replicate N 0))) (fun _ ii _ => (p + 1 - intOf ii).toNat)
      case atStart => exact ⟨1, t, by omega, by omega, rfl, rfl, hide (by rw [unhide HT]; simp), ht0, ht1, HMM⟩
      case round =>
        obtain ⟨i, u, hi1, hi2, rfl, rfl, HU, hu0, hu1, HMI⟩ := hrel
        by_cases hlt2 : (i : Int) ≤ p
        · have t0 := (unhide HMI).t0
          have t1 := (unhide HMI).t1
          have hp := (unhide HMI).place p1 p2 q1 q2 (by rw [List.length_replicate]; exact unhide HNN) i j (by omega) hlt2 (by omega) hlt
          rw [← unhide HU] at hp
          have HP := hide hp
          have hub : 1 + ((j : Int) - 1) * p + ((i : Int) - 1) ≤ 64 := by
            have h1 : ((j : Int) - 1) * p ≤ (q - 1) * p := Int.mul_le_mul_of_nonneg_right (by omega) (by omega)
            have h2 : (q - 1) * p = p * q - p := by rw [Int.sub_mul, Int.one_mul, Int.mul_comm]
            omega
          have hu64 : u ≤ 64 := by rw [unhide HU]; exact hub
          clear hp hub
          go_wp2_with fail
          refine (unhide HP).mono ?_
          rintro ev w9 ⟨rfl, hb9⟩
          have HM9 := hide ((unhide HMI).below hb9)
          clear hb9 HP t0 t1
          go_wp2_with fail
          go_roundw
          case rel => exact ⟨i + 1, u + 1, by omega, by omega, by go_num, rfl, hide (by rw [unhide HU]; omega), by omega, by omega, HM9⟩
          case measure => simp [intOf]; omega
        · have hu3 : u = 1 + (((j + 1 : Nat) : Int) - 1) * p := by
            rw [unhide HU, show ((j + 1 : Nat) : Int) - 1 = ((j : Int) - 1) + 1 by omega, Int.add_mul, Int.one_mul]
            omega
          have HU3 := hide hu3
          clear hu3
          go_wp2_with fail
          go_roundw
          case rel => exact ⟨j + 1, u, by omega, by omega, by go_num, rfl, HU3, hu0, hu1, HMI⟩
          case measure => simp [intOf]; omega
    · have HO := hide (unhide HMM).old
      go_wp2
      go_ret
      exact ⟨rfl, unhide HO⟩
end Go.Proofs.YthpgcpbcbhpbcaaDoor.Line
