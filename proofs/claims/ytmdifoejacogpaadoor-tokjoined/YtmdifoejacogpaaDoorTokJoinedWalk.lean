/- TokJoined, walked, over contracts of the project's Line and of known. -/
import Derived.Test.YtmdifoejacogpaaDoorTokSpec
import Derived.Test.YtmdifoejacogpaaDoorPlainTokMore
namespace Go.Proofs.YtmdifoejacogpaaDoor.Line
open Go.ChangeShapes Go.WideShapes Go.ChangeAt Go.RowKit
set_option linter.unusedVariables false

abbrev signCells : Array Value := #[.string ⟨#[60]⟩, .string ⟨#[62]⟩, .string ⟨#[61]⟩, .string ⟨#[47]⟩, .string ⟨#[43]⟩, .string ⟨#[45]⟩, .string ⟨#[42]⟩, .string ⟨#[40]⟩, .string ⟨#[41]⟩, .string ⟨#[44]⟩]
/-- do two signs join? -/
def joins (x y : UInt8) : Bool := y == 61 && (x == 60 || x == 62 || x == 61 || x == 47)
def joinFact (x y : UInt8) (R : List Words.T × Nat × Nat) : Prop :=
  R.2.1 = 0 ∧ (if joins x y then ∃ t0 t1 t2 : Words.T, R.1 = [t0, t1, t2] ∧ t1.text = [x, y] ∧ t2.n = 7 ∧ t2.pos = 3 else ∃ t0 t1 t2 t3 : Words.T, R.1 = [t0, t1, t2, t3] ∧ t1.text = [x] ∧ t2.text = [y] ∧ t3.n = 7 ∧ t1.kind = 3 ∧ t3.pos = 3)
def okR (x y : UInt8) (R : List Words.T × Nat × Nat) : Bool :=
  R.2.1 == 0 && (match joins x y, R.1 with
    | true, [_, t1, t2] => t1.text == [x, y] && t2.n == 7 && t2.pos == 3
    | false, [_, t1, t2, t3] => t1.text == [x] && t2.text == [y] && t3.n == 7 && t1.kind == 3 && t3.pos == 3
    | _, _ => false)
theorem okR_fact {x y : UInt8} {R : List Words.T × Nat × Nat} (h : okR x y R = true) : joinFact x y R := by
  obtain ⟨l, e, p⟩ := R
  unfold okR at h
  simp only [Bool.and_eq_true, beq_iff_eq] at h
  obtain ⟨h1, h2⟩ := h
  refine ⟨h1, ?_⟩
  cases hj : joins x y with
  | true =>
    rw [hj] at h2
    rw [if_pos rfl]
    match l, h2 with
    | [t0, t1, t2], h2 =>
      simp only [Bool.and_eq_true, beq_iff_eq] at h2
      exact ⟨t0, t1, t2, rfl, h2.1.1, h2.1.2, h2.2⟩
    | [], h2 => cases h2
    | [_], h2 => cases h2
    | [_, _], h2 => cases h2
    | _ :: _ :: _ :: _ :: _, h2 => cases h2
  | false =>
    rw [hj] at h2
    rw [if_neg (by decide)]
    match l, h2 with
    | [t0, t1, t2, t3], h2 =>
      simp only [Bool.and_eq_true, beq_iff_eq] at h2
      exact ⟨t0, t1, t2, t3, rfl, h2.1.1.1.1, h2.1.1.1.2, h2.1.1.2, h2.1.2, h2.2⟩
    | [], h2 => cases h2
    | [_], h2 => cases h2
    | [_, _], h2 => cases h2
    | [_, _, _], h2 => cases h2
    | _ :: _ :: _ :: _ :: _ :: _, h2 => cases h2
theorem okR_all : ∀ a b : Fin 10, okR (Words.signs10[a.val]'a.isLt) (Words.signs10[b.val]'b.isLt) (Words.toks [105, Words.signs10[a.val]'a.isLt, Words.signs10[b.val]'b.isLt, 55]) = true := by decide +kernel
theorem join_facts (a b : Fin 10) : ∃ x y, Words.signs10[a.val]? = some x ∧ Words.signs10[b.val]? = some y ∧ joinFact x y (Words.toks [105, x, y, 55]) :=
  ⟨_, _, List.getElem?_eq_getElem a.isLt, List.getElem?_eq_getElem b.isLt, okR_fact (okR_all a b)⟩
theorem sign_cell (w : World) (i : Nat) (x : UInt8) (h : Words.signs10[i]? = some x) : (w.alloc (.cells signCells 9)).cell? ⟨w.heap.size, i, none⟩ = some (.string ⟨#[x]⟩) := by
  have hi : i < 10 := (List.getElem?_eq_some_iff.1 h).1
  have key : ∀ j : Fin 10, ∀ y, Words.signs10[j.val]? = some y → signCells[j.val]? = some (.string ⟨#[y]⟩) := by
    intro j y hy
    match j, hy with
    | ⟨0, _⟩, hy => cases hy; rfl
    | ⟨1, _⟩, hy => cases hy; rfl
    | ⟨2, _⟩, hy => cases hy; rfl
    | ⟨3, _⟩, hy => cases hy; rfl
    | ⟨4, _⟩, hy => cases hy; rfl
    | ⟨5, _⟩, hy => cases hy; rfl
    | ⟨6, _⟩, hy => cases hy; rfl
    | ⟨7, _⟩, hy => cases hy; rfl
    | ⟨8, _⟩, hy => cases hy; rfl
    | ⟨9, _⟩, hy => cases hy; rfl
  have := key ⟨i, hi⟩ x h
  have hb : (w.alloc (.cells signCells 9)).heap[w.heap.size]? = some (.cells signCells 9 (0, 0)) := by
    show (w.heap.push _)[w.heap.size]? = _
    exact Array.getElem?_push_size
  simp only [World.cell?, hb]
  exact this

set_option maxHeartbeats 8000000 in
set_option maxRecDepth 100000 in
theorem tokJoined_walk (HLINE : LineSpec) (HKNOWN : KnownSpec) (a b : Int) (w : World) (a0 : 0 ≤ a) (a1 : a ≤ 255) (b0 : 0 ≤ b) (b1 : b ≤ 255) : Calls Tryd.prog 7 #[.int .u8 a, .int .u8 b] w fun e w' => e = .returned (.bool true) ∧ Below w.heap.size w w' := by
  have HLN := hide HLINE
  have HKN := hide (HKNOWN w)
  clear HLINE HKNOWN
  obtain ⟨A, hA⟩ : ∃ A : Nat, a % 10 = A := ⟨(a % 10).toNat, by omega⟩
  obtain ⟨B, hB⟩ : ∃ B : Nat, b % 10 = B := ⟨(b % 10).toNat, by omega⟩
  have hA10 : A < 10 := by omega
  have hB10 : B < 10 := by omega
  obtain ⟨x, y, hx, hy, hJ⟩ := join_facts ⟨A, hA10⟩ ⟨B, hB10⟩
  have HJ := hide hJ
  clear hJ
  go_enter Tryd.func7, Tryd.ntmps7
  go_wp2_with fail
  refine (unhide HKN).mono ?_
  rintro e w1 ⟨rfl, hb1⟩
  have H1 := hide hb1
  have cx := sign_cell w1 A x hx
  have cy := sign_cell w1 B y hy
  clear hb1 hx hy
  obtain ⟨X1, hX1⟩ : ∃ X, [105, x] = X := ⟨_, rfl⟩
  obtain ⟨X2, hX2⟩ : ∃ X, [105, x, y] = X := ⟨_, rfl⟩
  obtain ⟨X3, hX3⟩ : ∃ X, [105, x, y, 55] = X := ⟨_, rfl⟩
  obtain ⟨XY, hXY⟩ : ∃ X, [x, y] = X := ⟨_, rfl⟩
  have e1 : (⟨#[105]⟩ : ByteArray) ++ ⟨#[x]⟩ = ⟨X1.toArray⟩ := by rw [← hX1]; exact cat2 [105] [x]
  have e2 : (⟨X1.toArray⟩ : ByteArray) ++ ⟨#[y]⟩ = ⟨X2.toArray⟩ := by rw [← hX1, ← hX2]; exact cat2 [105, x] [y]
  have e3 : (⟨X2.toArray⟩ : ByteArray) ++ ⟨#[55]⟩ = ⟨X3.toArray⟩ := by rw [← hX2, ← hX3]; exact cat2 [105, x, y] [55]
  have e4 : (⟨#[x]⟩ : ByteArray) ++ ⟨#[y]⟩ = ⟨XY.toArray⟩ := by rw [← hXY]; exact cat2 [x] [y]
  have l1 : X1.length ≤ 2 := by rw [← hX1]; simp
  have l2 : X2.length ≤ 3 := by rw [← hX2]; simp
  have l3 : X3.length ≤ 4 := by rw [← hX3]; simp
  have HX := hide (And.intro hX3 hXY)
  clear hX1 hX2 hX3 hXY
  go_wp2_with fail
  have ba := alloc_below w1 (.cells signCells 9)
  refine (unhide HLN X3 _ (by omega)).mono ?_
  rintro e w2 ⟨u, g, er, rfl, ho, hs, hn, hb2⟩
  have HB := hide (bthen (bthen (unhide H1) ba) hb2)
  obtain ⟨j1, j2⟩ := unhide HJ
  rw [(unhide HX).1] at j1 j2
  obtain rfl := hn.same (by rw [j1]; decide)
  obtain rfl : g = .nilIface := by
    rcases hs with ⟨_, h⟩ | ⟨h, _⟩
    · exact h
    · exact absurd j1 h
  clear hs hn hb2 j1 cx cy ba e1 e2 e3 l1 l2 l3
  by_cases hj : joins x y = true
  · rw [if_pos hj] at j2
    obtain ⟨t0, t1, t2, hR, k1, k2, k3⟩ := j2
    rw [hR] at ho
    rcases ho.tks with ⟨_, _, _, hnil⟩ | ⟨b5, off5, cap5, rfl, hcap5, hcells⟩
    · cases hnil
    obtain ⟨-, d1, -, -⟩ := hcells 1 (by simp)
    obtain ⟨-, -, d4, d5⟩ := hcells 2 (by simp)
    simp only [List.getElem_cons_zero, List.getElem_cons_succ, Nat.one_mul] at d1 d4 d5
    rw [k1, (unhide HX).2] at d1
    rw [k3] at d4
    rw [k2] at d5
    clear ho hcells hcap5 hR k1 k2 k3
    unfold joins at hj
    simp only [Bool.and_eq_true, Bool.or_eq_true, beq_iff_eq] at hj
    obtain ⟨rfl, hx4⟩ := hj
    clear HJ
    rcases hx4 with ((rfl | rfl) | rfl) | rfl
    all_goals (
      go_wp2
      go_ret
      exact ⟨rfl, unhide HB⟩)
  · rw [if_neg hj] at j2
    obtain ⟨t0, t1, t2, t3, hR, k1, k2, k3, k4, k5⟩ := j2
    rw [hR] at ho
    rcases ho.tks with ⟨_, _, _, hnil⟩ | ⟨b5, off5, cap5, rfl, hcap5, hcells⟩
    · cases hnil
    obtain ⟨d0, d1, -, -⟩ := hcells 1 (by simp)
    obtain ⟨-, d2, -, -⟩ := hcells 2 (by simp)
    obtain ⟨-, -, d4, d5⟩ := hcells 3 (by simp)
    simp only [List.getElem_cons_zero, List.getElem_cons_succ, Nat.one_mul] at d0 d1 d2 d4 d5
    rw [k4] at d0
    rw [k1] at d1
    rw [k2] at d2
    rw [k5] at d4
    rw [k3] at d5
    clear ho hcells hcap5 hR k1 k2 k3 k4 k5 HJ
    have hcase : ¬ y = 61 ∨ (y = 61 ∧ ¬ x = 60 ∧ ¬ x = 62 ∧ ¬ x = 61 ∧ ¬ x = 47) := by
      by_cases h1 : y = 61
      · refine .inr ⟨h1, ?_⟩
        unfold joins at hj
        simp only [Bool.and_eq_true, Bool.or_eq_true, beq_iff_eq, not_and, not_or] at hj
        have := hj h1
        exact ⟨this.1.1.1, this.1.1.2, this.1.2, this.2⟩
      · exact .inl h1
    clear hj
    rcases hcase with hy | ⟨rfl, n1, n2, n3, n4⟩
    · go_wp2
      go_ret
      exact ⟨rfl, unhide HB⟩
    · have m1 : (x == 60) = false := beq_eq_false_iff_ne.2 n1
      have m2 : (x == 62) = false := beq_eq_false_iff_ne.2 n2
      have m3 : (x == 61) = false := beq_eq_false_iff_ne.2 n3
      have m4 : (x == 47) = false := beq_eq_false_iff_ne.2 n4
      go_wp2
      go_ret
      exact ⟨rfl, unhide HB⟩
end Go.Proofs.YtmdifoejacogpaaDoor.Line
