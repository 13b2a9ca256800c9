/- TreeOpen, walked. -/
import Derived.Test.YthkbchefjagbbaaGreatDoorTrLn
namespace Go.Proofs.YthkbchefjagbbaaGreatDoor.Line
open Go.ChangeShapes Go.WideShapes Go.ChangeAt Go.RowKit
open Ex (E St)
set_option linter.unusedVariables false

def opQ (k m : Nat) : List LP := List.replicate k (lA, psA) ++ List.replicate m (lC, .plain 4)
theorem op_lines (k m : Nat) : ∀ q ∈ opQ k m, LineIs q.1 q.2 := fun q hq => by
  rcases List.mem_append.1 hq with hq | hq
  · rw [List.eq_of_mem_replicate hq]; exact is_A
  · rw [List.eq_of_mem_replicate hq]; exact is_C
theorem op_map (k m : Nat) : (opQ k m).map (·.1) = List.replicate k lA ++ List.replicate m lC := by simp [opQ]
def openB (k m : Nat) : Bool := match runQ (opQ k m) 0 Bl.start with
  | .ok b => match b.opn with
    | [] => m == k && b.done.length == 1
    | r :: _ => decide (m < k) && r.line == k - 1 - m
  | .error (j, e) => decide (k < m) && j == 2 * k && e == 12
theorem open_all : ((List.range 9).all fun k => (List.range 10).all fun m => k == 0 || openB k m) = true := by kernel_rfl
theorem open_at {k m : Nat} (h1 : 1 ≤ k) (h2 : k ≤ 8) (hm : m ≤ 9) : openB k m = true := by
  have h := List.all_eq_true.1 (List.all_eq_true.1 open_all k (List.mem_range.2 (by omega))) m (List.mem_range.2 (by omega))
  rw [Bool.or_eq_true] at h
  rcases h with h | h
  · rw [beq_iff_eq] at h; omega
  · exact h
/-- what Of tells of them -/
theorem open_post {B : Nat} {k m : Nat} {e : Ending} {w' : World} (h1 : 1 ≤ k) (h2 : k ≤ 8) (hm : m ≤ 9) (h : OfPost B (List.replicate k lA ++ List.replicate m lC) e w') :
    (m < k ∧ ∃ g, e = .returned (.tuple #[.slice none 0 0, g]) ∧ Says B w' g wLine (k - 1 - m) 11) ∨ (k < m ∧ ∃ g, e = .returned (.tuple #[.slice none 0 0, g]) ∧ Says B w' g wLine (2 * k) 12) ∨ (m = k ∧ ∃ a c, e = .returned (.tuple #[.slice a 1 c, .nilIface])) := by
  rw [← op_map] at h
  have hb := open_at h1 h2 hm
  unfold openB at hb
  cases hr : runQ (opQ k m) 0 Bl.start with
  | ok b =>
    rw [hr] at hb
    have hg := runQ_ok _ _ _ _ (op_lines k m) hr
    cases ho : b.opn with
    | nil =>
      dsimp only at hb
      rw [ho] at hb
      simp only [Bool.and_eq_true, beq_iff_eq] at hb
      obtain ⟨nv, he, hn⟩ := of_ok h hg ho
      obtain ⟨a, c, hv⟩ := hn.shape
      refine .inr (.inr ⟨hb.1, a, c, ?_⟩)
      rw [he, hv, hb.2]
    | cons r rest =>
      dsimp only at hb
      rw [ho] at hb
      simp only [Bool.and_eq_true, beq_iff_eq, decide_eq_true_eq] at hb
      obtain ⟨g, he, hs⟩ := of_open h hg ho
      rw [hb.2] at hs
      exact .inl ⟨hb.1, g, he, hs⟩
  | error x =>
    obtain ⟨j, er⟩ := x
    rw [hr] at hb
    simp only [Bool.and_eq_true, beq_iff_eq, decide_eq_true_eq] at hb
    obtain ⟨⟨h3, rfl⟩, rfl⟩ := hb
    obtain ⟨g, he, hs⟩ := of_own h (runQ_bad _ _ _ _ _ (op_lines k m) hr)
    exact .inr (.inl ⟨h3, g, he, hs⟩)
set_option maxHeartbeats 16000000 in
set_option maxRecDepth 100000 in
theorem treeOpen_walk (u v : Nat) (hu : u ≤ 255) (hv : v ≤ 255) (w : World) (hG : Glob w) : Calls Tryz.prog 7 #[.int .u8 u, .int .u8 v] w fun e w' => e = .returned (.bool true) ∧ Below w.heap.size w w' := by
  have HKN := hide (known7_any w hG)
  have HG := hide hG
  clear hG
  go_enter Tryz.func7, Tryz.ntmps7
  go_wp2_with fail
  refine (unhide HKN).mono ?_
  rintro e w1 ⟨rfl, hb1⟩
  have HB1 := hide hb1
  clear hb1
  go_wp2_with fail
  have e1 : (1 + (u : Int) % 8) = ((1 + u % 8 : Nat) : Int) := by omega
  have e2 : ((v : Int) % 10) = ((v % 10 : Nat) : Int) := by omega
  have e3 : ((u : Int) % 8) = ((u % 8 : Nat) : Int) := by omega
  rw [e1, e2, e3]
  have hk1 : 1 ≤ 1 + u % 8 := by omega
  have hk2 : 1 + u % 8 ≤ 8 := by omega
  have hm : v % 10 ≤ 9 := by omega
  generalize 1 + u % 8 = k at *
  generalize v % 10 = m at *
  generalize u % 8 = u8 at *
  clear e1 e2 e3
  go_loopw [7, 8] (fun l i wr => ∃ (j : Nat) (lv : Value), l = lv ∧ i = .int .i64 j ∧ j ≤ k ∧ Hid (Own w1.heap.size wr lv (List.replicate j lA) ∧ Below w1.heap.size w1 wr)) (fun _ i _ => k - (intOf i).toNat)
  case atStart => exact ⟨0, _, rfl, rfl, Nat.zero_le _, hide ⟨Own.nil _ _, Below.refl _ _⟩⟩
  case round =>
    obtain ⟨j, lv, hlv, rfl, hj, HI⟩ := hrel
    subst hlv
    by_cases hlt : j < k
    · obtain ⟨v', w2, hr2, ho2, hb2⟩ := push1 (unhide HI).1 (unhide HI).2.size lA (by rw [List.length_replicate]; omega)
      obtain ⟨sa, sc, hsv⟩ := (unhide HI).1.shape
      rw [List.length_replicate] at hsv
      have HN : Hid (Own w1.heap.size w2 v' (List.replicate (j + 1) lA) ∧ Below w1.heap.size w1 w2) := hide ⟨by rw [List.replicate_succ']; exact ho2, (unhide HI).2.trans hb2⟩
      have HR2 := hide hr2
      have i1 : (j : Int) < k := by omega
      have i2 : (j : Int) ≤ 8 := by omega
      clear hr2 ho2 hb2 HI
      go_wp2_with (at_builtin; refine wpList_append_runG SGS rfl _ _ rfl rfl _ _ rfl rfl _ _ (unhide HR2) ?_)
      go_roundw
      case rel => exact ⟨j + 1, v', rfl, by go_num, by omega, HN⟩
      case measure => simp [intOf]; omega
    · have hjk : j = k := by omega
      subst hjk
      have hlt2 : ¬ (j : Int) < j := by omega
      go_wp2
      go_loopw [7, 9] (fun l i wr => ∃ (t : Nat) (lv : Value), l = lv ∧ i = .int .i64 t ∧ t ≤ m ∧ Hid (Own w1.heap.size wr lv (List.replicate j lA ++ List.replicate t lC) ∧ Below w1.heap.size w1 wr)) (fun _ i _ => m - (intOf i).toNat)
      case atStart => exact ⟨0, _, rfl, rfl, Nat.zero_le _, hide ⟨by simpa using (unhide HI).1, (unhide HI).2⟩⟩
      case round =>
        clear HI
        obtain ⟨t, lv, hlv, rfl, ht, HI⟩ := hrel
        subst hlv
        by_cases hlt : t < m
        · obtain ⟨v', w2, hr2, ho2, hb2⟩ := push1 (unhide HI).1 (unhide HI).2.size lC (by rw [List.length_append, List.length_replicate, List.length_replicate]; omega)
          have HN : Hid (Own w1.heap.size w2 v' (List.replicate j lA ++ List.replicate (t + 1) lC) ∧ Below w1.heap.size w1 w2) := hide ⟨by rw [List.replicate_succ', ← List.append_assoc]; exact ho2, (unhide HI).2.trans hb2⟩
          have HR2 := hide hr2
          have i1 : (t : Int) < m := by omega
          have i2 : (t : Int) ≤ 9 := by omega
          clear hr2 ho2 hb2 HI
          go_wp2_with (at_builtin; refine wpList_append_runG SGS rfl _ _ rfl rfl _ _ rfl rfl _ _ (unhide HR2) ?_)
          go_roundw
          case rel => exact ⟨t + 1, v', rfl, by go_num, by omega, HN⟩
          case measure => simp [intOf]; omega
        · have htm : t = m := by omega
          subst htm
          have hlt3 : ¬ (t : Int) < t := by omega
          have HB2 : Hid (Below w.heap.size w wr) := hide (bthen (unhide HB1) (unhide HI).2)
          have HOF := hide (of_tree _ _ wr (unhide HI).1.row (fun s hs => by
            rcases List.mem_append.1 hs with hs | hs
            · rw [List.eq_of_mem_replicate hs]; decide
            · rw [List.eq_of_mem_replicate hs]; decide) (by rw [List.length_append, List.length_replicate, List.length_replicate]; omega) ((unhide HG).below (unhide HB2)))
          clear HI
          go_wp2_with fail
          refine (unhide HOF).mono ?_
          rintro e w3 ⟨hb3, hp3⟩
          have HB3 : Hid (Below w.heap.size w w3) := hide (bthen (unhide HB2) hb3)
          clear hb3
          rcases open_post hk1 hk2 hm hp3 with ⟨hmk, g, rfl, hs⟩ | ⟨hmk, g, rfl, hs⟩ | ⟨hmk, a, c, rfl⟩
          · have HS := hide hs
            clear hs hp3
            have i3 : (t : Int) < j := by omega
            have i4 : (j : Int) ≤ 8 := by omega
            have e5 : (j : Int) - 1 - t = ((j - 1 - t : Nat) : Int) := by omega
            have HA := hide (at_any [108, 105, 110, 101] (j - 1 - t) 11 w3)
            go_wp2_with fail
            refine (unhide HA).mono ?_
            rintro e w4 ⟨tb, rfl, htb, ht0, ht1, hb4⟩
            have HB4 : Hid (Below w.heap.size w w4) := hide (bthen (unhide HB3) hb4)
            have HT := hide (tells_any (B' := 0) w4 g _ _ _ _ ((unhide HG).below (unhide HB4)) ((unhide HS).below hb4) (.inr ⟨by decide, tb, Nat.zero_le _, rfl, ht0, ht1⟩))
            clear hb4 ht0 ht1
            go_wp2_with fail
            refine (unhide HT).mono ?_
            rintro e w5 ⟨rfl, hb5⟩
            have HB5 : Hid (Below w.heap.size w w5) := hide (bthen (unhide HB4) hb5)
            clear hb5
            go_wp2
            go_ret
            exact ⟨rfl, unhide HB5⟩
          · have HS := hide hs
            clear hs hp3
            have i3 : ¬ (t : Int) < j := by omega
            have i3' : (j : Int) < t := by omega
            have i4 : (j : Int) ≤ 8 := by omega
            have e5 : IntKind.i64.wrap ((2 : Int) * j) = ((2 * j : Nat) : Int) := by rw [IntKind.wrap_i64]; omega
            have HA := hide (at_any [108, 105, 110, 101] (2 * j) 12 w3)
            go_wp2_with fail
            refine (unhide HA).mono ?_
            rintro e w4 ⟨tb, rfl, htb, ht0, ht1, hb4⟩
            have HB4 : Hid (Below w.heap.size w w4) := hide (bthen (unhide HB3) hb4)
            have HT := hide (tells_any (B' := 0) w4 g _ _ _ _ ((unhide HG).below (unhide HB4)) ((unhide HS).below hb4) (.inr ⟨by decide, tb, Nat.zero_le _, rfl, ht0, ht1⟩))
            clear hb4 ht0 ht1
            go_wp2_with fail
            refine (unhide HT).mono ?_
            rintro e w5 ⟨rfl, hb5⟩
            have HB5 : Hid (Below w.heap.size w w5) := hide (bthen (unhide HB4) hb5)
            clear hb5
            go_wp2
            go_ret
            exact ⟨rfl, unhide HB5⟩
          · clear hp3
            subst hmk
            have i3 : ¬ (t : Int) < t := by omega
            go_wp2
            go_ret
            exact ⟨rfl, unhide HB3⟩
end Go.Proofs.YthkbchefjagbbaaGreatDoor.Line
