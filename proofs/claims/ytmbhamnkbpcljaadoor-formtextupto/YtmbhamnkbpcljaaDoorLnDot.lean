/- Linear forms of small numbers, plain: their value is the sum of the products; sums and products of forms. -/
import Derived.Test.YtmbhamnkbpcljaaDoorLnAt
namespace Go.Proofs.YtmbhamnkbpcljaaDoor.Line
set_option linter.unusedVariables false

def dot : List Int → List Int → Int
  | c :: cs, x :: xs => c * x + dot cs xs
  | _, _ => 0
theorem dot_small (CB XB : Nat) : ∀ (c x : List Int), (∀ y ∈ c, y.natAbs ≤ CB) → (∀ y ∈ x, y.natAbs ≤ XB) → (dot c x).natAbs ≤ c.length * (CB * XB)
  | [], _, _, _ => by simp [dot]
  | c :: cs, [], _, _ => by simp [dot]
  | c :: cs, x :: xs, hc, hx => by
    have h1 := dot_small CB XB cs xs (fun y hy => hc y (List.mem_cons_of_mem _ hy)) (fun y hy => hx y (List.mem_cons_of_mem _ hy))
    have h2 : (c * x).natAbs ≤ CB * XB := by rw [Int.natAbs_mul]; exact Nat.mul_le_mul (hc c (List.mem_cons_self ..)) (hx x (List.mem_cons_self ..))
    simp only [dot, List.length_cons, Nat.add_mul, Nat.one_mul]
    omega
theorem atGo_dot (CB XB : Nat) : ∀ (c x : List Int) (s : Int), c.length = x.length → (∀ y ∈ c, y.natAbs ≤ CB) → (∀ y ∈ x, y.natAbs ≤ XB) → s.natAbs + c.length * (CB * XB) ≤ 9223372036854775807 → atGo s c x = some (s + dot c x)
  | [], [], s, _, _, _, _ => by simp [atGo, dot]
  | [], x :: xs, s, h, _, _, _ => by simp at h
  | c :: cs, [], s, h, _, _, _ => by simp at h
  | c :: cs, x :: xs, s, h, hc, hx, hb => by
    have h2 : (c * x).natAbs ≤ CB * XB := by rw [Int.natAbs_mul]; exact Nat.mul_le_mul (hc c (List.mem_cons_self ..)) (hx x (List.mem_cons_self ..))
    simp only [List.length_cons, Nat.add_mul, Nat.one_mul] at hb
    have f1 : fitO (c * x) = true := fitO_iff.2 ⟨by omega, by omega⟩
    have f2 : fitO (s + c * x) = true := fitO_iff.2 ⟨by omega, by omega⟩
    rw [atGo, f1, f2]
    simp only [Bool.and_self, if_true]
    rw [atGo_dot CB XB cs xs (s + c * x) (by simpa using h) (fun y hy => hc y (List.mem_cons_of_mem _ hy)) (fun y hy => hx y (List.mem_cons_of_mem _ hy)) (by omega)]
    simp only [dot, Option.some.injEq]
    omega
theorem atP_dot (CB XB : Nat) (c x : List Int) (k : Int) (h : c.length = x.length) (hc : ∀ y ∈ c, y.natAbs ≤ CB) (hx : ∀ y ∈ x, y.natAbs ≤ XB) (hb : k.natAbs + c.length * (CB * XB) ≤ 9223372036854775807) : atP c x k = some (dot c x + k) := by
  have h1 := atGo_dot CB XB c x 0 h hc hx (by simp only [Int.natAbs_zero]; omega)
  have h2 := dot_small CB XB c x hc hx
  unfold atP
  rw [h1, Int.zero_add]
  have f : fitO (dot c x + k) = true := fitO_iff.2 ⟨by omega, by omega⟩
  simp [f]
theorem dot_sum : ∀ (a b x : List Int), a.length = b.length → a.length = x.length → dot (sumL a b) x = dot a x + dot b x
  | [], [], _, _, _ => by simp [sumL, dot]
  | a :: as_, b :: bs, x :: xs, h, g => by
    simp only [sumL, dot]
    rw [dot_sum as_ bs xs (by simpa using h) (by simpa using g), Int.add_mul]
    omega
  | [], b :: bs, _, h, _ => by simp at h
  | a :: as_, [], _, h, _ => by simp at h
  | a :: as_, b :: bs, [], _, g => by simp at g
theorem dot_mul : ∀ (a x : List Int) (k : Int), dot (mulL a k) x = k * dot a x
  | [], _, _ => by simp [mulL, dot]
  | a :: as_, [], k => by simp [mulL, dot]
  | a :: as_, x :: xs, k => by
    have h := dot_mul as_ xs k
    simp only [mulL, List.map_cons, dot] at *
    rw [h, Int.mul_add, Int.mul_comm a k, Int.mul_assoc]
theorem sum_comm : ∀ (a b : List Int), sumL a b = sumL b a
  | [], [] => rfl
  | [], b :: bs => rfl
  | a :: as_, [] => rfl
  | a :: as_, b :: bs => by simp only [sumL]; rw [sum_comm as_ bs, Int.add_comm]
theorem mul_sum : ∀ (a b : List Int) (k : Int), mulL (sumL a b) k = sumL (mulL a k) (mulL b k)
  | [], [], _ => rfl
  | [], b :: bs, _ => rfl
  | a :: as_, [], _ => rfl
  | a :: as_, b :: bs, k => by
    have h := mul_sum as_ bs k
    simp only [mulL, sumL, List.map_cons] at *
    rw [h, Int.add_mul]
theorem allF_small {l : List Int} (B : Nat) (hB : B ≤ 9223372036854775807) (h : ∀ y ∈ l, y.natAbs ≤ B) : allF l = true := List.all_eq_true.2 fun y hy => fitO_iff.2 (by have := h y hy; exact ⟨by omega, by omega⟩)
end Go.Proofs.YtmbhamnkbpcljaaDoor.Line
