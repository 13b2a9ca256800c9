/- A small box, point by point, plain: the order of the points, the next one, the corners. -/
import Derived.Test.YtmbhamnkbpcljaaDoorLnDot
namespace Go.Proofs.YtmbhamnkbpcljaaDoor.Line
set_option linter.unusedVariables false

def InB : List Int → List Int → List Int → Prop
  | [], [], [] => True
  | a :: as_, b :: bs, x :: xs => a ≤ x ∧ x ≤ b ∧ InB as_ bs xs
  | _, _, _ => False
def rankB : List Int → List Int → List Int → Int
  | a :: as_, b :: bs, x :: xs => (x - a) + (b - a + 1) * rankB as_ bs xs
  | _, _, _ => 0
def nextB : List Int → List Int → List Int → Option (List Int)
  | a :: as_, b :: bs, x :: xs => if x < b then some ((x + 1) :: xs) else (nextB as_ bs xs).map (a :: ·)
  | _, _, _ => none
theorem InB.len : ∀ {a b x : List Int}, InB a b x → x.length = a.length ∧ b.length = a.length
  | [], [], [], _ => ⟨rfl, rfl⟩
  | a :: as_, b :: bs, x :: xs, h => by
    have := InB.len h.2.2
    simp only [List.length_cons]
    omega
theorem InB.at : ∀ {a b x : List Int}, InB a b x → ∀ i (h : i < x.length) (ha : i < a.length) (hb : i < b.length), a[i] ≤ x[i] ∧ x[i] ≤ b[i]
  | [], [], [], _, i, h, _, _ => by simp at h
  | a :: as_, b :: bs, x :: xs, h, 0, _, _, _ => ⟨h.1, h.2.1⟩
  | a :: as_, b :: bs, x :: xs, h, i + 1, h1, h2, h3 => by
    simp only [List.getElem_cons_succ]
    exact InB.at h.2.2 i (by simpa using h1) (by simpa using h2) (by simpa using h3)
theorem InB.of_at : ∀ {a b x : List Int}, x.length = a.length → b.length = a.length → (∀ i (h : i < x.length) (ha : i < a.length) (hb : i < b.length), a[i] ≤ x[i] ∧ x[i] ≤ b[i]) → InB a b x
  | [], [], [], _, _, _ => trivial
  | a :: as_, b :: bs, x :: xs, h1, h2, h => by
    have h0 := h 0 (by simp) (by simp) (by simp)
    exact ⟨h0.1, h0.2, InB.of_at (by simpa using h1) (by simpa using h2) (fun i h3 h4 h5 => by
      have := h (i + 1) (by simpa using h3) (by simpa using h4) (by simpa using h5)
      simpa using this)⟩
  | [], [], x :: xs, h, _, _ => by simp at h
  | [], b :: bs, _, _, h, _ => by simp at h
  | a :: as_, [], _, _, h, _ => by simp at h
  | a :: as_, b :: bs, [], h, _, _ => by simp at h
theorem rank_nonneg : ∀ {a b x : List Int}, InB a b x → 0 ≤ rankB a b x
  | [], [], [], _ => Int.le_refl _
  | a :: as_, b :: bs, x :: xs, h => by
    have h1 := rank_nonneg h.2.2
    have h2 := h.1
    have h3 := h.2.1
    have h4 : 0 ≤ (b - a + 1) * rankB as_ bs xs := Int.mul_nonneg (by omega) h1
    simp only [rankB]
    omega
theorem rank_self : ∀ {a b : List Int}, rankB a b a = 0
  | [], _ => rfl
  | a :: as_, [] => rfl
  | a :: as_, b :: bs => by simp only [rankB]; rw [rank_self]; omega
theorem rank_inj : ∀ {a b x y : List Int}, InB a b x → InB a b y → rankB a b x = rankB a b y → x = y
  | [], [], [], [], _, _, _ => rfl
  | a :: as_, b :: bs, x :: xs, y :: ys, h, g, e => by
    obtain ⟨h1, h2, h3⟩ := h
    obtain ⟨g1, g2, g3⟩ := g
    simp only [rankB] at e
    have hm : 0 ≤ b - a + 1 := by omega
    rcases Int.lt_trichotomy (rankB as_ bs xs) (rankB as_ bs ys) with hlt | heq | hgt
    · have := Int.mul_le_mul_of_nonneg_left (show rankB as_ bs xs + 1 ≤ rankB as_ bs ys by omega) hm
      rw [Int.mul_add, Int.mul_one] at this
      omega
    · rw [heq] at e
      rw [rank_inj h3 g3 heq, show x = y by omega]
    · have := Int.mul_le_mul_of_nonneg_left (show rankB as_ bs ys + 1 ≤ rankB as_ bs xs by omega) hm
      rw [Int.mul_add, Int.mul_one] at this
      omega
theorem rank_le : ∀ {a b y : List Int}, InB a b y → rankB a b y ≤ rankB a b b
  | [], [], [], _ => Int.le_refl _
  | a :: as_, b :: bs, y :: ys, h => by
    have h1 := rank_le h.2.2
    have h2 := h.1
    have h3 := h.2.1
    have := Int.mul_le_mul_of_nonneg_left h1 (show 0 ≤ b - a + 1 by omega)
    simp only [rankB]
    omega
theorem next_some : ∀ {a b x y : List Int}, InB a b x → nextB a b x = some y → InB a b y ∧ rankB a b y = rankB a b x + 1
  | [], [], [], y, _, e => by simp [nextB] at e
  | a :: as_, b :: bs, x :: xs, y, h, e => by
    obtain ⟨h1, h2, h3⟩ := h
    simp only [nextB] at e
    split at e
    · rename_i hlt
      injection e with e
      subst e
      refine ⟨⟨by omega, by omega, h3⟩, ?_⟩
      simp only [rankB]
      omega
    · rename_i hge
      obtain ⟨z, hz, rfl⟩ := Option.map_eq_some_iff.1 e
      obtain ⟨k1, k2⟩ := next_some h3 hz
      refine ⟨⟨Int.le_refl _, by omega, k1⟩, ?_⟩
      simp only [rankB]
      rw [k2, Int.mul_add, Int.mul_one]
      omega
theorem next_none : ∀ {a b x : List Int}, InB a b x → nextB a b x = none → x = b
  | [], [], [], _, _ => rfl
  | a :: as_, b :: bs, x :: xs, h, e => by
    obtain ⟨h1, h2, h3⟩ := h
    simp only [nextB] at e
    split at e
    · cases e
    · rename_i hge
      have e' := Option.map_eq_none_iff.1 e
      rw [next_none h3 e', show x = b by omega]
/-- the next point, found behind the first i places -/
theorem next_at {a b x : List Int} (h : InB a b x) : ∀ i, i < x.length → ∀ (hx : i < x.length) (hb : i < b.length) (ha : i < a.length), nextB (a.drop i) (b.drop i) (x.drop i) = if x[i] < b[i] then some ((x[i] + 1) :: x.drop (i + 1)) else (nextB (a.drop (i + 1)) (b.drop (i + 1)) (x.drop (i + 1))).map (a[i] :: ·) := by
  intro i _ hx hb ha
  rw [List.drop_eq_getElem_cons ha, List.drop_eq_getElem_cons hb, List.drop_eq_getElem_cons hx]
  rfl
theorem low_in : ∀ {c a b : List Int}, InB a b a → c.length = a.length → InB a b (lowL c a b) ∧ InB a b (lowL c b a)
  | [], [], [], _, _ => ⟨trivial, trivial⟩
  | c :: cs, a :: as_, b :: bs, h, e => by
    obtain ⟨h1, h2, h3⟩ := h
    obtain ⟨k1, k2⟩ := low_in h3 (by simpa using e)
    simp only [lowL]
    constructor
    · split
      · exact ⟨by omega, Int.le_refl _, k1⟩
      · exact ⟨Int.le_refl _, by omega, k1⟩
    · split
      · exact ⟨Int.le_refl _, by omega, k2⟩
      · exact ⟨by omega, Int.le_refl _, k2⟩
  | [], a :: as_, _, _, e => by simp at e
  | c :: cs, [], _, _, e => by simp at e
  | c :: cs, a :: as_, [], h, _ => h.elim
  | [], [], b :: bs, h, _ => h.elim
theorem low_le : ∀ {c a b x : List Int}, InB a b x → c.length = a.length → dot c (lowL c a b) ≤ dot c x ∧ dot c x ≤ dot c (lowL c b a)
  | [], [], [], [], _, _ => ⟨Int.le_refl _, Int.le_refl _⟩
  | c :: cs, a :: as_, b :: bs, x :: xs, h, e => by
    obtain ⟨h1, h2, h3⟩ := h
    obtain ⟨k1, k2⟩ := low_le h3 (show cs.length = as_.length by simpa using e)
    simp only [lowL, dot]
    by_cases hc : c < 0
    · have m1 := Int.mul_le_mul_of_nonpos_left (show c ≤ 0 by omega) h2
      have m2 := Int.mul_le_mul_of_nonpos_left (show c ≤ 0 by omega) h1
      rw [if_pos hc, if_pos hc]
      omega
    · have m1 := Int.mul_le_mul_of_nonneg_left h1 (show 0 ≤ c by omega)
      have m2 := Int.mul_le_mul_of_nonneg_left h2 (show 0 ≤ c by omega)
      rw [if_neg hc, if_neg hc]
      omega
  | [], a :: as_, _, _, _, e => by simp at e
  | c :: cs, [], _, _, _, e => by simp at e
  | c :: cs, a :: as_, [], _, h, _ => h.elim
  | c :: cs, a :: as_, b :: bs, [], h, _ => h.elim
  | [], [], b :: bs, _, h, _ => h.elim
  | [], [], [], x :: xs, h, _ => h.elim
/-- what was seen of the points ahead of rank r -/
structure Seen (c a b : List Int) (k r least most : Int) : Prop where
  l1 : dot c (lowL c a b) + k ≤ least
  l2 : rankB a b (lowL c a b) < r → least ≤ dot c (lowL c a b) + k
  m1 : most ≤ dot c (lowL c b a) + k
  m2 : rankB a b (lowL c b a) < r → dot c (lowL c b a) + k ≤ most
theorem Seen.start {c a b : List Int} {k least most : Int} (hb : InB a b a) (e : c.length = a.length) (h1 : dot c (lowL c a b) + k ≤ least) (h2 : most ≤ dot c (lowL c b a) + k) : Seen c a b k (rankB a b a) least most := by
  obtain ⟨k1, k2⟩ := low_in hb e
  have r1 := rank_nonneg k1
  have r2 := rank_nonneg k2
  rw [rank_self]
  exact ⟨h1, fun h => by omega, h2, fun h => by omega⟩
theorem Seen.step {c a b x : List Int} {k least most : Int} (h : Seen c a b k (rankB a b x) least most) (hb : InB a b a) (hx : InB a b x) (e : c.length = a.length) : Seen c a b k (rankB a b x + 1) (min least (dot c x + k)) (max most (dot c x + k)) := by
  obtain ⟨k1, k2⟩ := low_in hb e
  obtain ⟨d1, d2⟩ := low_le hx e
  obtain ⟨l1, l2, m1, m2⟩ := h
  refine ⟨by omega, fun hr => ?_, by omega, fun hr => ?_⟩
  · by_cases he : rankB a b (lowL c a b) = rankB a b x
    · have := rank_inj k1 hx he
      rw [this]
      omega
    · have := l2 (by omega)
      omega
  · by_cases he : rankB a b (lowL c b a) = rankB a b x
    · have := rank_inj k2 hx he
      rw [this]
      omega
    · have := m2 (by omega)
      omega
theorem Seen.last {c a b : List Int} {k least most : Int} (h : Seen c a b k (rankB a b b + 1) least most) (hb : InB a b a) (e : c.length = a.length) : least = dot c (lowL c a b) + k ∧ most = dot c (lowL c b a) + k := by
  obtain ⟨k1, k2⟩ := low_in hb e
  have r1 := rank_le k1
  have r2 := rank_le k2
  have := h.l1
  have := h.m1
  have := h.l2 (by omega)
  have := h.m2 (by omega)
  omega
end Go.Proofs.YtmbhamnkbpcljaaDoor.Line
