/- Plain: trees that are right over names and cells: each name is there with as many Dims, each cell too. Nothing of the program is named. -/
import Derived.Test.YtomnbidppkpfiaaDoorPlainEz
namespace Go.Proofs.YtomnbidppkpfiaaDoor.Ev
open Go.RowKit
open Ex (E)
set_option linter.unusedVariables false

/-- a tree that is right -/
inductive RW (T : List Sy) : E → Prop
  | num (x : E) (hk : x.kind = 1) : RW T x
  | var (x : E) (hk : x.kind = 2) (y : Sy) (hf : find T x.name = some y) (hd : y.dims = []) (ha : x.a = []) : RW T x
  | elem (x : E) (hk : x.kind = 3) (y : Sy) (hf : find T x.name = some y) (hd : y.dims.length = x.a.length) (hl : x.a.length ≤ 1000) (hs : ∀ z ∈ x.a, RW T z) : RW T x
  | neg (x : E) (hk : x.kind = 4) (ha : x.a.length = 1) (hs : ∀ z ∈ x.a, RW T z) : RW T x
  | two (x : E) (hk : x.kind = 5 ∨ x.kind = 6 ∨ x.kind = 7 ∨ x.kind = 8) (ha : x.a.length = 2) (hs : ∀ z ∈ x.a, RW T z) : RW T x
/-- all cells are there -/
def Within (T : List Sy) (N : Nat) : Prop := ∀ y ∈ T, 0 ≤ y.at_ ∧ y.at_ + prod y.dims ≤ N
theorem cellGo_range : ∀ (ss ds : List Int) (k : Nat) (a p : Int), ss.length = ds.length → (∀ d ∈ ds, 1 ≤ d) → 1 ≤ p → (cellGo k ss ds a p).err = 0 → a ≤ (cellGo k ss ds a p).v ∧ (cellGo k ss ds a p).v ≤ a + p * prod ds - p
  | [], [], k, a, p, _, _, hp, h => by
    rw [cellGo]
    simp only [Res.ok, prod, Int.mul_one]
    omega
  | [], d :: ds, k, a, p, hl, _, _, _ => by simp at hl
  | s :: ss, [], k, a, p, hl, _, _, _ => by simp at hl
  | s :: ss, d :: ds, k, a, p, hl, hd, hp, h => by
    by_cases hb : s < 1 ∨ d < s
    · rw [cellGo_out _ _ _ _ _ _ _ hb] at h
      exact absurd h (show ¬ ((14 : Nat) = 0) by decide)
    · rw [cellGo_in _ _ _ _ _ _ _ (by omega) (by omega)] at h ⊢
      have hd1 := hd d (by simp)
      have hpd : 1 ≤ p * d := by have := Int.mul_le_mul hp hd1 (by omega) (by omega); omega
      have ih := cellGo_range ss ds (k + 1) (a + (s - 1) * p) (p * d) (by simpa using hl) (fun z hz => hd z (by simp [hz])) hpd h
      have h6 : 0 ≤ (s - 1) * p := Int.mul_nonneg (by omega) (by omega)
      have h7 : (s - 1) * p ≤ (d - 1) * p := Int.mul_le_mul_of_nonneg_right (by omega) (by omega)
      have h8 : (d - 1) * p = p * d - p := by rw [Int.sub_mul, Int.one_mul, Int.mul_comm]
      have h9 : p * prod (d :: ds) = p * d * prod ds := by rw [prod, Int.mul_assoc]
      rw [h9]
      omega
theorem held_in {T : List Sy} {N : Nat} {s : List Int} {name : List UInt8} {y : Sy} {l : List Int} (hT : Fine T) (hw : Within T N) (hs : s.length = N) (hf : find T name = some y) (hl : l.length = y.dims.length) (h0 : (cellP T name l).err = 0) :
    ∃ k : Nat, (cellP T name l).v = k ∧ ∃ h : k < s.length, heldP T s name l = .ok s[k] := by
  have hy := find_mem hf
  obtain ⟨_, h2, _, _, _⟩ := hT y hy
  obtain ⟨w1, w2⟩ := hw y hy
  have hc : cellP T name l = cellGo 0 l y.dims y.at_ 1 := by unfold cellP; rw [hf]; rfl
  have hr := cellGo_range l y.dims 0 y.at_ 1 hl h2 (by omega) (by rw [← hc]; exact h0)
  rw [← hc, Int.one_mul] at hr
  obtain ⟨k, hk⟩ := Int.eq_ofNat_of_zero_le (show 0 ≤ (cellP T name l).v by omega)
  have hkl : k < s.length := by omega
  refine ⟨k, hk, hkl, ?_⟩
  unfold heldP
  rw [if_neg (by omega), if_neg (by omega), hk]
  simp [hkl]
theorem held_bad {T : List Sy} {s : List Int} {name : List UInt8} {l : List Int} (h : (cellP T name l).err ≠ 0) : heldP T s name l = .bad (cellP T name l).word (cellP T name l).at_ (cellP T name l).err := if_pos h
theorem cellP_zero (T : List Sy) (name : List UInt8) (l : List Int) (h : (cellP T name l).err ≠ 0) : (cellP T name l).v = 0 := cellGo_zero _ _ _ _ _ h
end Go.Proofs.YtomnbidppkpfiaaDoor.Ev
