/- TreeChoices, walked. -/
import Derived.Test.YthkbchefjagbbaaGreatDoorTrLn
namespace Go.Proofs.YthkbchefjagbbaaGreatDoor.Line
open Go.ChangeShapes Go.WideShapes Go.ChangeAt Go.RowKit
open Ex (E St)
set_option linter.unusedVariables false

abbrev chP : List UInt8 := [112, 114, 105, 110, 116, 32, 49, 10]
abbrev chQ : List UInt8 := [112, 114, 105, 110, 116, 32, 50, 10]
abbrev chN : List UInt8 := [10]
abbrev chE : List UInt8 := [101, 108, 115, 101, 10]
def psP (k : Nat) : PS := .pr (.mk 1 k [] [])
theorem is_P : LineIs chP (psP 1) := line_of 2 (by kernel_rfl)
theorem is_Q : LineIs chQ (psP 2) := line_of 2 (by kernel_rfl)
theorem is_N : LineIs chN (.plain 0) := line_of 0 (by kernel_rfl)
theorem is_E : LineIs chE (.plain 6) := line_of 1 (by kernel_rfl)
/-- the second side: a statement and a line without one, so many times -/
def side2 : Nat → List LP
  | 0 => []
  | k + 1 => side2 k ++ [(chQ, psP 2), (chN, .plain 0)]
def side2L (k : Nat) : List (List UInt8) := (side2 k).map (·.1)
def chLP (p q : Nat) (both : Bool) : List LP := ([(chF, psF)] ++ List.replicate p (chP, psP 1)) ++ (if both then [(chE, .plain 6)] ++ side2 q else []) ++ [(chI, .plain 7)]
theorem side2_lines (k : Nat) : ∀ z ∈ side2 k, LineIs z.1 z.2 := by
  induction k with
  | zero => intro z hz; cases hz
  | succ k ih =>
    intro z hz
    rcases List.mem_append.1 hz with hz | hz
    · exact ih z hz
    · simp only [List.mem_cons, List.not_mem_nil, or_false] at hz
      rcases hz with rfl | rfl
      · exact is_Q
      · exact is_N
theorem ch_lines (p q : Nat) (both : Bool) : ∀ z ∈ chLP p q both, LineIs z.1 z.2 := fun z hz => by
  rcases List.mem_append.1 hz with hz | hz
  · rcases List.mem_append.1 hz with hz | hz
    · rcases List.mem_append.1 hz with hz | hz
      · rw [List.mem_singleton.1 hz]; exact is_F
      · rw [List.eq_of_mem_replicate hz]; exact is_P
    · cases both
      · cases hz
      · rcases List.mem_append.1 hz with hz | hz
        · rw [List.mem_singleton.1 hz]; exact is_E
        · exact side2_lines q z hz
  · rw [List.mem_singleton.1 hz]; exact is_I
theorem ch_map1 (p q : Nat) : (chLP p q true).map (·.1) = ([chF] ++ List.replicate p chP ++ [chE] ++ side2L q) ++ [chI] := by simp [chLP, side2L]
theorem ch_map0 (p q : Nat) : (chLP p q false).map (·.1) = ([chF] ++ List.replicate p chP) ++ [chI] := by simp [chLP]
theorem side2L_succ (k : Nat) : side2L (k + 1) = side2L k ++ [chQ, chN] := by simp [side2L, side2]
theorem side2L_len (k : Nat) : (side2L k).length = 2 * k := by
  induction k with
  | zero => rfl
  | succ k ih => rw [side2L_succ, List.length_append, ih]; show 2 * k + 2 = _; omega
theorem side2L_short (k : Nat) : ∀ s ∈ side2L k, s.length ≤ 65536 := by
  induction k with
  | zero => intro s hs; cases hs
  | succ k ih =>
    intro s hs
    rw [side2L_succ] at hs
    rcases List.mem_append.1 hs with hs | hs
    · exact ih s hs
    · simp only [List.mem_cons, List.not_mem_nil, or_false] at hs
      rcases hs with rfl | rfl <;> decide
def chB (p q : Nat) (both : Bool) : Bool := match runQ (chLP p q both) 0 Bl.start with
  | .ok b => match b.opn, b.done with
    | [], [n] => if both then n.body.length == p && n.els.length == q && decide (n.mid = p + 1) && n.en == p + 2 + 2 * q else n.body.length == p && n.els.length == 0 && decide (n.mid = -1) && n.en == p + 1
    | _, _ => false
  | .error _ => false
theorem ch_all : ((List.range 6).all fun p => (List.range 6).all fun q => chB p q true && chB p q false) = true := by kernel_rfl
theorem ch_at {p q : Nat} (hp : p < 6) (hq : q < 6) (both : Bool) : chB p q both = true := by
  have h := List.all_eq_true.1 (List.all_eq_true.1 ch_all p (List.mem_range.2 hp)) q (List.mem_range.2 hq)
  rw [Bool.and_eq_true] at h
  cases both
  · exact h.2
  · exact h.1
/-- what Of tells of them -/
theorem ch_post {B p q : Nat} {both : Bool} {e : Ending} {w' : World} (hp : p < 6) (hq : q < 6) (h : OfPost B ((chLP p q both).map (·.1)) e w') :
    ∃ n nv, e = .returned (.tuple #[nv, .nilIface]) ∧ Nodes w' (fun q => B ≤ q) [n] nv ∧ n.body.length = p ∧ n.els.length = (if both then q else 0) ∧ n.mid = (if both then (p : Int) + 1 else -1) ∧ (n.en : Int) = if both then (p : Int) + 2 + 2 * q else (p : Int) + 1 := by
  have hb := ch_at hp hq both
  unfold chB at hb
  cases hr : runQ (chLP p q both) 0 Bl.start with
  | error x => rw [hr] at hb; cases hb
  | ok b =>
    rw [hr] at hb
    have hg := runQ_ok _ _ _ _ (ch_lines p q both) hr
    obtain ⟨D, O⟩ := b
    dsimp only at hb
    cases O with
    | cons r rest => cases hb
    | nil =>
      obtain ⟨nv, he, hn⟩ := of_ok h hg rfl
      cases D with
      | nil => cases hb
      | cons n D =>
        cases D with
        | cons m D => cases hb
        | nil =>
          refine ⟨n, nv, he, hn, ?_⟩
          dsimp only at hb
          cases both
          · simp only [Bool.false_eq_true, if_false, Bool.and_eq_true, beq_iff_eq, decide_eq_true_eq] at hb ⊢
            exact ⟨hb.1.1.1, hb.1.1.2, hb.1.2, by omega⟩
          · simp only [if_true, Bool.and_eq_true, beq_iff_eq, decide_eq_true_eq] at hb ⊢
            exact ⟨hb.1.1.1, hb.1.1.2, hb.1.2, by omega⟩
theorem own_lit1 (w : World) (a : List UInt8) : Own w.heap.size (w.alloc (.cells #[.string ⟨a.toArray⟩] SGT)) (.slice (some ⟨w.heap.size, 0, none⟩) 1 1) [a] := World.ownsRow_lit w #[.string ⟨a.toArray⟩] 1 (Nat.le_refl _) (by decide) rfl
set_option maxHeartbeats 16000000 in
set_option maxRecDepth 100000 in
theorem treeChoices_walk (u v : Nat) (bo : Bool) (hu : u ≤ 255) (hv : v ≤ 255) (w : World) (hG : Glob w) : Calls Tryz.prog 8 #[.int .u8 u, .int .u8 v, .bool bo] w fun e w' => e = .returned (.bool true) ∧ Below w.heap.size w w' := by
  have HKN := hide (known7_any w hG)
  have HG := hide hG
  clear hG
  go_enter Tryz.func8, Tryz.ntmps8
  go_wp2_with fail
  refine (unhide HKN).mono ?_
  rintro e w1 ⟨rfl, hb1⟩
  have HB1 := hide hb1
  clear hb1
  go_wp2_with fail
  have e1 : ((u : Int) % 6) = ((u % 6 : Nat) : Int) := by omega
  have e2 : ((v : Int) % 6) = ((v % 6 : Nat) : Int) := by omega
  rw [e1, e2]
  have hp : u % 6 < 6 := by omega
  have hq : v % 6 < 6 := by omega
  generalize u % 6 = p at *
  generalize v % 6 = q at *
  clear e1 e2
  have HO1 := hide (And.intro (own_lit1 w1 chF) (alloc_below w1 (.cells #[.string ⟨chF.toArray⟩] SGT)))
  generalize w1.alloc (.cells #[.string ⟨chF.toArray⟩] SGT) = W1 at *
  go_loopw [9, 10] (fun l i wr => ∃ (j : Nat) (lv : Value), l = lv ∧ i = .int .i64 j ∧ j ≤ p ∧ Hid (Own w1.heap.size wr lv ([chF] ++ List.replicate j chP) ∧ Below w1.heap.size w1 wr)) (fun _ i _ => p - (intOf i).toNat)
  case atStart => exact ⟨0, _, rfl, rfl, Nat.zero_le _, HO1⟩
  case round =>
    obtain ⟨j, lv, hlv, rfl, hj, HI⟩ := hrel
    subst hlv
    by_cases hlt : j < p
    · obtain ⟨v', w2, hr2, ho2, hb2⟩ := push1 (unhide HI).1 (unhide HI).2.size chP (by rw [List.length_append, List.length_replicate]; simp; omega)
      have HN : Hid (Own w1.heap.size w2 v' ([chF] ++ List.replicate (j + 1) chP) ∧ Below w1.heap.size w1 w2) := hide ⟨by rw [List.replicate_succ', ← List.append_assoc]; exact ho2, (unhide HI).2.trans hb2⟩
      have HR2 := hide hr2
      have i1 : (j : Int) < p := by omega
      have i2 : (j : Int) ≤ 8 := by omega
      clear hr2 ho2 hb2 HI
      go_wp2_with (at_builtin; refine wpList_append_runG SGS rfl _ _ rfl rfl _ _ rfl rfl _ _ (unhide HR2) ?_)
      go_roundw
      case rel => exact ⟨j + 1, v', rfl, by go_num, by omega, HN⟩
      case measure => simp [intOf]; omega
    · have hjk : j = p := by omega
      subst hjk
      have hlt2 : ¬ (j : Int) < j := by omega
      cases bo with
      | false =>
        obtain ⟨v', w2, hr2, ho2, hb2⟩ := push1 (unhide HI).1 (unhide HI).2.size chI (by rw [List.length_append, List.length_replicate]; simp; omega)
        have HB2 : Hid (Below w.heap.size w w2) := hide (bthen (unhide HB1) ((unhide HI).2.trans hb2))
        have HOF := hide (of_tree _ _ w2 ho2.row (fun s hs => by
          rcases List.mem_append.1 hs with hs | hs
          · rcases List.mem_append.1 hs with hs | hs
            · rw [List.mem_singleton.1 hs]; decide
            · rw [List.eq_of_mem_replicate hs]; decide
          · rw [List.mem_singleton.1 hs]; decide) (by rw [List.length_append, List.length_append, List.length_replicate]; simp; omega) ((unhide HG).below (unhide HB2)))
        have HR2 := hide hr2
        clear hr2 ho2 hb2 HI
        go_wp2_with (at_builtin; refine wpList_append_runG SGS rfl _ _ rfl rfl _ _ rfl rfl _ _ (unhide HR2) ?_)
        refine (unhide HOF).mono ?_
        rintro e w3 ⟨hb3, hp3⟩
        have HB3 : Hid (Below w.heap.size w w3) := hide (bthen (unhide HB2) hb3)
        rw [← ch_map0 j q] at hp3
        obtain ⟨n, nv, rfl, hn, hnb, hne, hnm, hnn⟩ := ch_post hp hq hp3
        obtain ⟨gb, go, gc, c, rfl, hgc, hgm, _, hgl, hrg, hn1⟩ := hn.head
        have hcl := NC.len hn1.st.size.1
        have hone := all_oneCell_toArray hn1.one
        obtain ⟨a1, c1, a2, c2, _, _, k1, _, k31, k32, k33⟩ := box_says hn1 NDT
        rw [hnb] at k31
        rw [hne] at k32
        rw [hnm] at k33
        rw [hnn] at k1
        simp only [Bool.false_eq_true, if_false] at k1 k32 k33
        have hgc : 1 ≤ gc := hgc
        have HBA : Hid (Below w.heap.size w (w3.alloc (.cells c.cells.toArray NDT))) := hide ((unhide HB3).alloc (unhide HB3).size _)
        clear hb3 hp3 hn hnb hne hnm hnn hn1
        go_wp2_with (first | (refine wpListN_load rfl _ rfl _ _ rfl _ hcl hrg ?_) | (refine wpListN_storeNew rfl _ _ rfl _ _ w3.heap.size rfl rfl rfl rfl (by simpa using hcl) hone ?_))
        go_ret
        exact ⟨rfl, unhide HBA⟩
      | true =>
        obtain ⟨v', w2, hr2, ho2, hb2⟩ := push1 (unhide HI).1 (unhide HI).2.size chE (by rw [List.length_append, List.length_replicate]; simp; omega)
        have HO2 : Hid (Own w1.heap.size w2 v' ([chF] ++ List.replicate j chP ++ [chE]) ∧ Below w1.heap.size w1 w2) := hide ⟨ho2, (unhide HI).2.trans hb2⟩
        have HR2 := hide hr2
        clear hr2 ho2 hb2 HI
        go_wp2_with (at_builtin; refine wpList_append_runG SGS rfl _ _ rfl rfl _ _ rfl rfl _ _ (unhide HR2) ?_)
        go_loopw [9, 11] (fun l i wr => ∃ (t : Nat) (lv : Value), l = lv ∧ i = .int .i64 t ∧ t ≤ q ∧ Hid (Own w1.heap.size wr lv ([chF] ++ List.replicate j chP ++ [chE] ++ side2L t) ∧ Below w1.heap.size w1 wr)) (fun _ i _ => q - (intOf i).toNat)
        case atStart => exact ⟨0, _, rfl, rfl, Nat.zero_le _, hide ⟨by simpa [side2L, side2] using (unhide HO2).1, (unhide HO2).2⟩⟩
        case round =>
          clear HO2 HR2
          obtain ⟨t, lv, hlv, rfl, ht, HI⟩ := hrel
          subst hlv
          by_cases hlt : t < q
          · obtain ⟨v', w2, hr2, ho2, hb2⟩ := push2 (unhide HI).1 (unhide HI).2.size chQ chN (by simp [side2L_len]; omega)
            have HN : Hid (Own w1.heap.size w2 v' ([chF] ++ List.replicate j chP ++ [chE] ++ side2L (t + 1)) ∧ Below w1.heap.size w1 w2) := hide ⟨by rw [side2L_succ, ← List.append_assoc]; exact ho2, (unhide HI).2.trans hb2⟩
            have HR2 := hide hr2
            have i1 : (t : Int) < q := by omega
            have i2 : (t : Int) ≤ 9 := by omega
            clear hr2 ho2 hb2 HI
            go_wp2_with (at_builtin; refine wpList_append_runG SGS rfl _ _ rfl rfl _ _ rfl rfl _ _ (unhide HR2) ?_)
            go_roundw
            case rel => exact ⟨t + 1, v', rfl, by go_num, by omega, HN⟩
            case measure => simp [intOf]; omega
          · have htm : t = q := by omega
            subst htm
            have hlt3 : ¬ (t : Int) < t := by omega
            obtain ⟨v', w2, hr2, ho2, hb2⟩ := push1 (unhide HI).1 (unhide HI).2.size chI (by simp [side2L_len]; omega)
            have HB2 : Hid (Below w.heap.size w w2) := hide (bthen (unhide HB1) ((unhide HI).2.trans hb2))
            have HOF := hide (of_tree _ _ w2 ho2.row (fun s hs => by
              rcases List.mem_append.1 hs with hs | hs
              · rcases List.mem_append.1 hs with hs | hs
                · rcases List.mem_append.1 hs with hs | hs
                  · rcases List.mem_append.1 hs with hs | hs
                    · rw [List.mem_singleton.1 hs]; decide
                    · rw [List.eq_of_mem_replicate hs]; decide
                  · rw [List.mem_singleton.1 hs]; decide
                · exact side2L_short t s hs
              · rw [List.mem_singleton.1 hs]; decide) (by simp [side2L_len]; omega) ((unhide HG).below (unhide HB2)))
            have HR2 := hide hr2
            clear hr2 ho2 hb2 HI
            go_wp2_with (at_builtin; refine wpList_append_runG SGS rfl _ _ rfl rfl _ _ rfl rfl _ _ (unhide HR2) ?_)
            refine (unhide HOF).mono ?_
            rintro e w3 ⟨hb3, hp3⟩
            have HB3 : Hid (Below w.heap.size w w3) := hide (bthen (unhide HB2) hb3)
            rw [← ch_map1 j t] at hp3
            obtain ⟨n, nv, rfl, hn, hnb, hne, hnm, hnn⟩ := ch_post hp hq hp3
            obtain ⟨gb, go, gc, c, rfl, hgc, hgm, _, hgl, hrg, hn1⟩ := hn.head
            have hcl := NC.len hn1.st.size.1
            have hone := all_oneCell_toArray hn1.one
            obtain ⟨a1, c1, a2, c2, _, _, k1, _, k31, k32, k33⟩ := box_says hn1 NDT
            rw [hnb] at k31
            rw [hne] at k32
            rw [hnm] at k33
            rw [hnn] at k1
            simp only [if_true] at k1 k32 k33
            have hgc : 1 ≤ gc := hgc
            have HBA : Hid (Below w.heap.size w (w3.alloc (.cells c.cells.toArray NDT))) := hide ((unhide HB3).alloc (unhide HB3).size _)
            clear hb3 hp3 hn hnb hne hnm hnn hn1
            go_wp2_with (first | (refine wpListN_load rfl _ rfl _ _ rfl _ hcl hrg ?_) | (refine wpListN_storeNew rfl _ _ rfl _ _ w3.heap.size rfl rfl rfl rfl (by simpa using hcl) hone ?_))
            go_ret
            exact ⟨rfl, unhide HBA⟩
end Go.Proofs.YthkbchefjagbbaaGreatDoor.Line
