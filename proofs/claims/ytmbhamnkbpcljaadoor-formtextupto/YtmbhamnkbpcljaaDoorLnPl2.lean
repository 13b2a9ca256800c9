/- Linear forms, plain: sums, scaled, at a point, the same. -/
import Derived.Test.YtmbhamnkbpcljaaDoorLnPl
import Derived.Test.YtmbhamnkbpcljaaDoorLnMem
namespace Go.Proofs.YtmbhamnkbpcljaaDoor.Line
set_option linter.unusedVariables false

theorem fitV_eq {x : Int} (h : fitO x = true) : fitV x = x := by
  unfold fitO at h; unfold fitV; rw [if_pos (of_decide_eq_true h)]
theorem fitV_in64 (x : Int) : In64 (fitV x) := by
  unfold fitV In64; split <;> omega
theorem fitO_iff {x : Int} : fitO x = true ↔ In64 x := by unfold fitO In64; exact decide_eq_true_iff
theorem fitO_zero : fitO 0 = true := by decide
/-- the sums, C by C -/
def sumL : List Int → List Int → List Int
  | x :: a, y :: b => (x + y) :: sumL a b
  | _, _ => []
theorem sumL_len : ∀ (a b : List Int), a.length = b.length → (sumL a b).length = a.length
  | [], [], _ => rfl
  | x :: a, y :: b, h => by simp only [sumL, List.length_cons]; rw [sumL_len a b (by simpa using h)]
  | [], y :: b, h => by simp at h
  | x :: a, [], h => by simp at h
theorem sumL_at : ∀ (a b : List Int) (i : Nat) (h : a.length = b.length) (hi : i < a.length), (sumL a b)[i]'(by rw [sumL_len a b h]; exact hi) = a[i] + b[i]'(h ▸ hi)
  | x :: a, y :: b, 0, h, hi => rfl
  | x :: a, y :: b, i + 1, h, hi => by simp only [sumL, List.getElem_cons_succ]; exact sumL_at a b i (by simpa using h) (by simpa using hi)
  | [], _, _, _, hi => by simp at hi
  | x :: a, [], _, h, hi => by simp at h
def mulL (a : List Int) (k : Int) : List Int := a.map (· * k)
theorem mulL_len (a : List Int) (k : Int) : (mulL a k).length = a.length := by simp [mulL]
theorem mulL_at (a : List Int) (k : Int) (i : Nat) (hi : i < a.length) : (mulL a k)[i]'(by rw [mulL_len]; exact hi) = a[i] * k := by simp [mulL]
/-- do all of these fit 64 bits? -/
def allF (l : List Int) : Bool := l.all fitO
theorem allF_take {l : List Int} (i : Nat) (h : i < l.length) : allF (l.take (i + 1)) = (allF (l.take i) && fitO l[i]) := by
  unfold allF
  rw [List.take_succ_eq_append_getElem h, List.all_append]
  simp
theorem allF_false {l : List Int} (i : Nat) (h : i < l.length) (hf : fitO l[i] = false) : allF l = false := by
  unfold allF
  rw [List.all_eq_false]
  exact ⟨_, List.getElem_mem h, by rw [hf]; simp⟩
theorem allF_mem {l : List Int} (h : allF l = true) {x : Int} (hx : x ∈ l) : fitO x = true := List.all_eq_true.1 h x hx
theorem allF_rng {l : List Int} (h : allF l = true) : Rng l := fun x hx => fitO_iff.1 (allF_mem h hx)
theorem map_fitV {l : List Int} (h : allF l = true) : l.map fitV = l := by
  apply List.ext_getElem (by simp)
  intro i h1 h2
  rw [List.getElem_map]
  exact fitV_eq (allF_mem h (List.getElem_mem h2))
/-- what is wrong with a sum: 1 not alike many, 5 too great, 0 nothing -/
def addE (a b : List Int) (ka kb : Int) : Nat := if a.length ≠ b.length then 1 else if allF (sumL a b) && fitO (ka + kb) then 0 else 5
def mulE (a : List Int) (ka k : Int) : Nat := if allF (mulL a k) && fitO (ka * k) then 0 else 5
/-- the products, one after the other, onto s; none: something was too great -/
def atGo : Int → List Int → List Int → Option Int
  | s, c :: cs, x :: xs => if fitO (c * x) && fitO (s + c * x) then atGo (s + c * x) cs xs else none
  | s, _, _ => some s
def atP (c x : List Int) (k : Int) : Option Int := (atGo 0 c x).bind fun s => if fitO (s + k) then some (s + k) else none
def atE (c x : List Int) (k : Int) : Nat := if c.length ≠ x.length then 1 else match atP c x k with | some _ => 0 | none => 5
def atV (c x : List Int) (k : Int) : Int := if c.length ≠ x.length then 0 else (atP c x k).getD 0
theorem atGo_step {s : Int} {c x : List Int} (i : Nat) (hc : i < c.length) (hx : i < x.length) : atGo s (c.drop i) (x.drop i) = if fitO (c[i] * x[i]) && fitO (s + c[i] * x[i]) then atGo (s + c[i] * x[i]) (c.drop (i + 1)) (x.drop (i + 1)) else none := by
  rw [List.drop_eq_getElem_cons hc, List.drop_eq_getElem_cons hx]
  rfl
theorem atGo_end {s : Int} {c x : List Int} (i : Nat) (h : c.length ≤ i) : atGo s (c.drop i) (x.drop i) = some s := by
  rw [List.drop_of_length_le h]; rfl
theorem atGo_in64 : ∀ (c x : List Int) (s t : Int), In64 s → atGo s c x = some t → In64 t
  | [], _, s, t, hs, h => by simp only [atGo, Option.some.injEq] at h; exact h ▸ hs
  | c :: cs, [], s, t, hs, h => by simp only [atGo, Option.some.injEq] at h; exact h ▸ hs
  | c :: cs, x :: xs, s, t, hs, h => by
    rw [atGo] at h
    split at h
    · rename_i hf
      rw [Bool.and_eq_true] at hf
      exact atGo_in64 cs xs _ t (fitO_iff.1 hf.2) h
    · cases h
/-- the ends at which a form is least (or greatest) -/
def lowL : List Int → List Int → List Int → List Int
  | c :: cs, a :: r1, b :: r2 => (if c < 0 then b else a) :: lowL cs r1 r2
  | _, _, _ => []
theorem lowL_len : ∀ (c a b : List Int), c.length = a.length → a.length = b.length → (lowL c a b).length = c.length
  | [], _, _, _, _ => rfl
  | c :: cs, [], _, h, _ => by simp at h
  | c :: cs, a :: r1, [], _, h => by simp at h
  | c :: cs, a :: r1, b :: r2, h, g => by simp only [lowL, List.length_cons]; rw [lowL_len cs r1 r2 (by simpa using h) (by simpa using g)]
theorem lowL_at : ∀ (c a b : List Int) (i : Nat) (h : c.length = a.length) (g : a.length = b.length) (hi : i < c.length), (lowL c a b)[i]'(by rw [lowL_len c a b h g]; exact hi) = if c[i] < 0 then b[i]'(by omega) else a[i]'(by omega)
  | c :: cs, a :: r1, b :: r2, 0, _, _, _ => rfl
  | c :: cs, a :: r1, b :: r2, i + 1, h, g, hi => by simp only [lowL, List.getElem_cons_succ]; exact lowL_at cs r1 r2 i (by simpa using h) (by simpa using g) (by simpa using hi)
  | [], _, _, _, _, _, hi => by simp at hi
  | c :: cs, [], _, _, h, _, _ => by simp at h
  | c :: cs, a :: r1, [], _, _, g, _ => by simp at g
/-- is it a box of n variables? -/
def boxP (n : Nat) (lo hi : List Int) : Bool := decide (lo.length = n ∧ hi.length = n) && (List.range n).all fun i => decide (lo.getD i 0 ≤ hi.getD i 0)
def rngE (c lo hi : List Int) (k : Int) : Nat := if boxP c.length lo hi = false then 1 else if (atP c (lowL c lo hi) k).isSome && (atP c (lowL c hi lo) k).isSome then 0 else 5
def rngV (c lo hi : List Int) (k : Int) : Int × Int := if rngE c lo hi k = 0 then ((atP c (lowL c lo hi) k).getD 0, (atP c (lowL c hi lo) k).getD 0) else (0, 0)
/-- are two forms the same? -/
def sameP (a b : List Int) (ka kb : Int) : Bool := ((List.range (max a.length b.length)).all fun i => decide (a.getD i 0 = b.getD i 0)) && decide (ka = kb)
theorem sameP_refl (a : List Int) (k : Int) : sameP a a k k = true := by unfold sameP; simp
theorem sameP_false (a b : List Int) (ka kb : Int) (i : Nat) (h : i < max a.length b.length) (hne : a.getD i 0 ≠ b.getD i 0) : sameP a b ka kb = false := by
  unfold sameP
  rw [Bool.and_eq_false_iff]
  left
  rw [List.all_eq_false]
  exact ⟨i, List.mem_range.2 h, by simpa using hne⟩
theorem sameP_end (a b : List Int) (ka kb : Int) (h : ∀ j, j < max a.length b.length → a.getD j 0 = b.getD j 0) : sameP a b ka kb = decide (ka = kb) := by
  unfold sameP
  have : ((List.range (max a.length b.length)).all fun i => decide (a.getD i 0 = b.getD i 0)) = true := List.all_eq_true.2 fun i hi => decide_eq_true (h i (List.mem_range.1 hi))
  rw [this, Bool.true_and]
end Go.Proofs.YtmbhamnkbpcljaaDoor.Line
