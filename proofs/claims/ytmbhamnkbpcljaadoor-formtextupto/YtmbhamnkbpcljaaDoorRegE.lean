/- A region that draws its order: a load may be taken first as long as whatever could come ahead of it leaves what it reads. (What waits for it need not.) -/
import Derived.Test.YtmbhamnkbpcljaaDoorBaseAll
import Derived.OrdersHeld
import Derived.RegionTactic
import Derived.Deep.RegionLaw
namespace Go.Proofs.YtmbhamnkbpcljaaDoor.Line
open Go.ChangeShapes Go.WideShapes Go.ChangeAt Go.RowKit
set_option linter.unusedVariables false

section
variable {P : Program} {ops : Array Oper} {Q : Exit → Act → World → Prop} {md : Region.Mode} {S : World → Prop} {E : Nat → Bool}
/-- whatever order is picked from here on; behind the operations of E alone S is to hold -/
def anyE (P : Program) (md : Region.Mode) (ops : Array Oper) (Q : Exit → Act → World → Prop) (S : World → Prop) (E : Nat → Bool) : Nat → Array Bool → Act → World → Prop
  | 0, listed, a, w => Region.ready md ops listed = [] ∧ Q .normal a w
  | fuel + 1, listed, a, w => (Region.ready md ops listed = [] → Q .normal a w) ∧ ∀ i ∈ Region.ready md ops listed, wpOp P ops Q i (fun a' w' => (E i = true → S w') ∧ anyE P md ops Q S E fuel (listed.setIfInBounds i true) a' w') a w
theorem anyE_any : ∀ (fuel : Nat) (listed : Array Bool) (a : Act) (w : World), anyE P md ops Q S E fuel listed a w → wpAny P md ops Q fuel listed a w
  | 0, _, _, _, h => h
  | fuel + 1, _, _, _, h => ⟨h.1, fun i hi => wpOp_mono (fun a' w' h' => anyE_any fuel _ a' w' h'.2) (h.2 i hi)⟩
theorem any_anyE : ∀ (fuel : Nat) (listed : Array Bool) (a : Act) (w : World), wpAny P md ops Q fuel listed a w → anyE P md ops Q (fun _ => True) E fuel listed a w
  | 0, _, _, _, h => h
  | fuel + 1, _, _, _, h => ⟨h.1, fun i hi => wpOp_mono (fun a' w' h' => ⟨fun _ => trivial, any_anyE fuel _ a' w' h'⟩) (h.2 i hi)⟩
/-- all but those of E wait for i -/
def waitsB (md : Region.Mode) (ops : Array Oper) (E : Nat → Bool) (i : Nat) : Bool := (List.range ops.size).all fun j => j == i || E j || (match ops[j]? with | none => true | some o => o.after.any fun e => Region.binds md e && e.on == i)
theorem waits_of {i : Nat} (h : waitsB md ops E i = true) : ∀ j oj, ops[j]? = some oj → j ≠ i → E j = false → ∃ e ∈ oj.after, Region.binds md e = true ∧ e.on = i := fun j oj hj hne hE => by
  have hlt : j < ops.size := (Array.getElem?_eq_some_iff.1 hj).1
  have h1 := List.all_eq_true.1 h j (List.mem_range.2 hlt)
  rw [hj, hE, beq_eq_false_iff_ne.2 hne, Bool.false_or, Bool.false_or] at h1
  obtain ⟨k, hk, h2⟩ := Array.any_eq_true.1 h1
  rw [Bool.and_eq_true, beq_iff_eq] at h2
  exact ⟨_, Array.getElem_mem hk, h2.1, h2.2⟩
theorem anyE_first {i : Nat} {oi : Oper} {v : Value} (hi : ops[i]? = some oi) (hsel : ∀ (j : Nat) (o : Oper) cs b, ops[j]? = some o → o.op ≠ .select cs b) (hQ : ∀ c a w, Q (.panic c) (a.put oi.dst v) w → Q (.panic c) a w)
    (hE : ∀ j oj, ops[j]? = some oj → j ≠ i → E j = false → ∃ e ∈ oj.after, Region.binds md e = true ∧ e.on = i) :
    ∀ (fuel : Nat) (listed : Array Bool) (a : Act) (w : World),
      (∀ j oj, ops[j]? = some oj → j ≠ i → listed.getD j true = false → (∀ e ∈ oj.after, Region.binds md e = true → e.on ≠ i) → oi.apart ops oj = true) →
      i ∈ Region.ready md ops listed → YieldsIf P ops S oi v a → S w → anyE P md ops Q S E fuel (listed.setIfInBounds i true) (a.put oi.dst v) w → anyE P md ops Q S E (fuel + 1) listed a w := by
  intro fuel
  induction fuel with
  | zero =>
    intro listed a w _ hr hy hS H
    refine ⟨fun h => (by rw [h] at hr; cases hr), fun j hj => ?_⟩
    by_cases hji : j = i
    · subst hji
      exact hy.wpOp hi hS ⟨fun _ => hS, H⟩
    · have := ready_mono hj hji
      rw [H.1] at this
      cases this
  | succ fuel ih =>
    intro listed a w hfree hr hy hS H
    refine ⟨fun h => (by rw [h] at hr; cases hr), fun j hj => ?_⟩
    by_cases hji : j = i
    · subst hji
      exact hy.wpOp hi hS ⟨fun _ => hS, H⟩
    · have h1 := H.2 j (ready_mono hj hji)
      obtain ⟨hjun, oj, hoj, hall⟩ := mem_ready.1 hj
      have hnot : ∀ e ∈ oj.after, Region.binds md e = true → e.on ≠ i := fun e he hb heq => by
        have k1 := hall e he hb
        have k0 := (mem_ready.1 hr).1
        rw [heq] at k1
        rcases Nat.lt_or_ge i listed.size with h' | h'
        · simp [h'] at k0 k1; rw [k0] at k1; cases k1
        · simp [Array.getElem?_eq_none h'] at k1
      have hEj : E j = true := by
        cases hx : E j with
        | true => rfl
        | false =>
          obtain ⟨e, he, hb, ho⟩ := hE j oj hoj hji hx
          exact absurd ho (hnot e he hb)
      have h2 := wpOp_putIf hoj (hfree j oj hoj hji hjun hnot) (fun cs b => hsel i oi cs b hi) (fun cs b => hsel j oj cs b hoj) hQ hy h1
      refine wpOp_mono (fun a' w' h3 => ⟨fun _ => h3.2.1 hEj, ih (listed.setIfInBounds j true) a' w' (fun k ok hk hki hun hno => hfree k ok hk hki ?_ hno) (ready_mono hr (Ne.symm hji)) h3.1 (h3.2.1 hEj) ?_⟩) h2
      · by_cases hjk : j = k
        · subst hjk; exact hjun
        · rw [getD_set_ne true hjk] at hun; exact hun
      · rw [Array.setIfInBounds_comm _ _ hji]
        exact h3.2.2
/-- operation i is taken first -/
theorem anyE_take (i : Nat) {oi : Oper} {v : Value} {fuel : Nat} {listed : Array Bool} {a : Act} {w : World} (hi : ops[i]? = some oi) (hs : Region.noSelect ops = true) (hf : Region.free md ops listed i = true) (hr : (Region.ready md ops listed).contains i = true) (hE : waitsB md ops E i = true)
    (hQ : ∀ c a w, Q (.panic c) (a.put oi.dst v) w → Q (.panic c) a w) (hS : S w) (hy : YieldsIf P ops S oi v a) (h : anyE P md ops Q S E fuel (listed.setIfInBounds i true) (a.put oi.dst v) w) : anyE P md ops Q S E (fuel + 1) listed a w :=
  anyE_first hi (Region.noSelect_spec hs) hQ (waits_of hE) fuel listed a w (Region.free_spec hi hf) (by simpa using hr) hy hS h
def allListed (E : Nat → Bool) (listed : Array Bool) : Bool := (List.range listed.size).all fun j => !E j || listed.getD j true
theorem allListed_of {listed : Array Bool} (h : allListed E listed = true) : ∀ j, E j = true → listed.getD j true = true := fun j hj => by
  rcases Nat.lt_or_ge j listed.size with h' | h'
  · have := List.all_eq_true.1 h j (List.mem_range.2 h')
    rw [hj, Bool.not_true, Bool.false_or] at this
    exact this
  · simp [Array.getElem?_eq_none h']
theorem any_to_E' : ∀ (fuel : Nat) (listed : Array Bool) (a : Act) (w : World), (∀ j, E j = true → listed.getD j true = true) → wpAny P md ops Q fuel listed a w → anyE P md ops Q S E fuel listed a w
  | 0, _, _, _, _, h => h
  | fuel + 1, listed, a, w, hall, h => by
    refine ⟨h.1, fun i hi => wpOp_mono (fun a' w' h' => ⟨fun hEi => ?_, any_to_E' fuel _ a' w' (fun j hj => ?_) h'⟩) (h.2 i hi)⟩
    · have h1 := hall i hEi
      have h0 := (mem_ready.1 hi).1
      rw [h1] at h0
      cases h0
    · by_cases hij : i = j
      · subst hij
        rcases Nat.lt_or_ge i listed.size with h2 | h2
        · simp [h2]
        · simp
      · rw [getD_set_ne true hij]; exact hall j hj
/-- all of E have come up: S is of no more use -/
theorem any_to_E {fuel : Nat} {listed : Array Bool} {a : Act} {w : World} (hall : allListed E listed = true) (h : wpAny P md ops Q fuel listed a w) : anyE P md ops Q S E fuel listed a w := any_to_E' fuel listed a w (allListed_of hall) h
def ReadyE (P : Program) (md : Region.Mode) (ops : Array Oper) (Q : Exit → Act → World → Prop) (S : World → Prop) (E : Nat → Bool) (fuel : Nat) (listed : Array Bool) (a : Act) (w : World) (rs : List Nat) : Prop := ∀ i ∈ rs, wpOp P ops Q i (fun a' w' => (E i = true → S w') ∧ anyE P md ops Q S E fuel (listed.setIfInBounds i true) a' w') a w
theorem ReadyE.nil {fuel : Nat} {listed : Array Bool} {a : Act} {w : World} : ReadyE P md ops Q S E fuel listed a w [] := fun _ h => by cases h
theorem ReadyE.cons {fuel : Nat} {listed : Array Bool} {a : Act} {w : World} {i : Nat} {o : Oper} {rs : List Nat} (ho : ops[i]? = some o)
    (h : ∀ K' : Act → World → Prop, (∀ a w, (E i = true → S w) → anyE P md ops Q S E fuel (listed.setIfInBounds i true) a w → K' a w) → if Region.wanted o (yielded ops a.tmps) = true then Oper.wp P o a w K' Q else K' (a.put o.dst undef) w)
    (hs : ReadyE P md ops Q S E fuel listed a w rs) : ReadyE P md ops Q S E fuel listed a w (i :: rs) := fun j hj => by
  rcases List.mem_cons.1 hj with rfl | hj
  · exact wpOp_step ho (fun K' hK => h K' (fun a w h1 h2 => hK a w ⟨h1, h2⟩))
  · exact hs j hj
theorem anyE_ready (rs : List Nat) {fuel : Nat} {listed : Array Bool} {a : Act} {w : World} (hr : Region.ready md ops listed = rs) (hne : rs ≠ []) (h : ReadyE P md ops Q S E fuel listed a w rs) : anyE P md ops Q S E (fuel + 1) listed a w :=
  ⟨fun h0 => absurd (hr ▸ h0) hne, hr ▸ h⟩
theorem anyE_done {listed : Array Bool} {a : Act} {w : World} (hr : Region.ready md ops listed = []) (h : Q .normal a w) : ∀ fuel, anyE P md ops Q S E fuel listed a w
  | 0 => ⟨hr, h⟩
  | _ + 1 => ⟨fun _ => h, by rw [hr]; simp⟩
theorem wp_regionE (S : World → Prop) (E : Nat → Bool) {id : Nat} {a : Act} {w : World} (hm : P.follows .mixedOrders = true) (hS : S w.drew) (h : S w.drew → anyE P .any ops Q S E ops.size (Array.replicate ops.size false) a w.drew) : (Code.region id ops true).wp P Q a w :=
  wp_region_any hm (anyE_any _ _ _ _ (h hS))
end
end Go.Proofs.YtmbhamnkbpcljaaDoor.Line
