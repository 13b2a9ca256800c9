/- Plain facts more: edits with counts for numbers may be as they may be with numbers; what edits make is not long; the edit between two rows makes the second of the first. -/
import Derived.Test.YtcfbigkmhboepaaDoorApplyE
import Derived.Test.YtcfbigkmhboepaaDoorBacks
namespace Go.Proofs.YtcfbigkmhboepaaDoor.Line
set_option linter.unusedVariables false
open Edits

theorem vld_each {N : Nat} (F : List (Ed (List UInt8))) : ∀ lo, Vld N lo F → ∀ j (h : j < F.length), F[j].f ≤ F[j].t ∧ F[j].t ≤ N ∧ (∀ h1 : j + 1 < F.length, F[j].t + 1 ≤ F[j + 1].f) := by
  induction F with
  | nil => intro lo _ j h; simp at h
  | cons e es ih =>
    intro lo hv j h
    obtain ⟨h1, h2, h3, h4⟩ := hv
    cases j with
    | zero =>
      refine ⟨h2, h3, fun g => ?_⟩
      cases es with
      | nil => simp at g
      | cons e' es' => exact h4.1
    | succ j =>
      have := ih _ h4 j (by simpa using h)
      refine ⟨this.1, this.2.1, fun g => this.2.2 (by simpa using g)⟩
theorem errE_raw {N : Nat} (F : List (Ed (List UInt8))) (hv : Vld N 0 F) : errE (N : Int) (F.map raw) = (0, 0) := by
  refine errE_none _ _ (by omega) (fun j hj => ?_)
  have hj' : j < F.length := by simpa using hj
  have hok : ∀ i (hi : i < (F.map raw).length), ¬ ((F.map raw)[i].f < 0 ∨ (F.map raw)[i].t < (F.map raw)[i].f ∨ (N : Int) < (F.map raw)[i].t) := by
    intro i hi
    have hi' : i < F.length := by simpa using hi
    have := vld_each F 0 hv i hi'
    rw [List.getElem_map]
    show ¬ ((F[i].f : Int) < 0 ∨ (F[i].t : Int) < (F[i].f : Int) ∨ (N : Int) < (F[i].t : Int))
    omega
  cases j with
  | zero => exact badI_first _ _ hj (hok 0 hj)
  | succ j =>
    rw [badI_next _ _ j hj (hok (j + 1) hj)]
    have := (vld_each F 0 hv j (by omega)).2.2 hj'
    rw [if_neg]
    rw [List.getElem_map, List.getElem_map]
    show ¬ ((F[j + 1].f : Int) ≤ (F[j].t : Int))
    omega
theorem nat_raw (F : List (Ed (List UInt8))) : (F.map raw).map nat = F := by
  rw [List.map_map]
  conv => rhs; rw [← List.map_id F]
  apply List.map_congr_left
  intro e _
  rfl
theorem made_raw (L : List (List UInt8)) (F : List (Ed (List UInt8))) (hv : Vld L.length 0 F) : made L (F.map raw) = ap L 0 F := by
  unfold made
  rw [errE_raw F hv, nat_raw]
  rfl
theorem backs_raw (L : List (List UInt8)) (F : List (Ed (List UInt8))) (hv : Vld L.length 0 F) : backs L (F.map raw) = (bk L 0 0 F).map raw := by
  unfold backs
  rw [errE_raw F hv, nat_raw]
  rfl
theorem ap_len (L : List (List UInt8)) (K : Nat) (F : List (Ed (List UInt8))) (h : ∀ e ∈ F, e.n.length ≤ K) : ∀ a, (ap L a F).length ≤ (F.length + 1) * (L.length + K) := by
  induction F with
  | nil => intro a; show (L.drop a).length ≤ _; simp; omega
  | cons e es ih =>
    intro a
    have h1 := ih (fun x hx => h x (List.mem_cons_of_mem _ hx)) e.t
    have h2 := h e (List.mem_cons_self ..)
    show ((L.drop a).take (e.f - a) ++ e.n ++ ap L e.t es).length ≤ _
    simp only [List.length_append, List.length_take, List.length_drop, List.length_cons]
    rw [show es.length + 1 + 1 = (es.length + 1) + 1 from rfl, Nat.add_mul (es.length + 1) 1]
    omega
theorem made_len {L : List (List UInt8)} {E : List RawE} (h1 : L.length ≤ 1000) (h2 : E.length ≤ 20) (h3 : ∀ i (h : i < E.length), E[i].n.length ≤ 20) : (made L E).length ≤ 1000000 := by
  unfold made
  split
  · have := ap_len L 20 (E.map nat) (fun e he => by
      obtain ⟨x, hx, rfl⟩ := List.mem_map.1 he
      obtain ⟨i, hi, rfl⟩ := List.getElem_of_mem hx
      exact h3 i hi) 0
    rw [List.length_map] at this
    have h4 : (E.length + 1) * (L.length + 20) ≤ 21 * 1020 := Nat.mul_le_mul (by omega) (by omega)
    omega
  · simp
end Go.Proofs.YtcfbigkmhboepaaDoor.Line
