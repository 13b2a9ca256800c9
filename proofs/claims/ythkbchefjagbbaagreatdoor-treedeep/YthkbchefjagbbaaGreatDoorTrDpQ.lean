/- TreeDeep: all its lines, reckoned. -/
import Derived.Test.YthkbchefjagbbaaGreatDoorTrDpP
namespace Go.Proofs.YthkbchefjagbbaaGreatDoor.Line
open Ex (E St)
set_option linter.unusedVariables false

theorem dp_all : ((List.range 12).all fun k => (List.range 256).all fun v => dpB k v) = true := by kernel_rfl
theorem dp_at {k v : Nat} (hk : k < 12) (hv : v < 256) : dpB k v = true :=
  List.all_eq_true.1 (List.all_eq_true.1 dp_all k (List.mem_range.2 hk)) v (List.mem_range.2 hv)
/-- what Of tells of them -/
theorem dp_post {B k v : Nat} {e : Ending} {w' : World} (hk : k < 12) (hv : v < 256) (h : OfPost B (dpL k v k) e w') :
    (8 < k ∧ ∃ g, e = .returned (.tuple #[.slice none 0 0, g]) ∧ Says B w' g wLine 8 4) ∨ (k ≤ 8 ∧ ∃ D nv, e = .returned (.tuple #[nv, .nilIface]) ∧ Nodes w' (fun q => B ≤ q) D nv ∧ (preL D 0).map (fun x => (x.1.line, x.1.en)) = (List.range k).map (fun i => (i, 2 * k - 1 - i)) ∧ FitN.FitNs D) := by
  have hb := dp_at hk hv
  unfold dpB at hb
  cases hr : runQ (dpLP k v k) 0 Bl.start with
  | error x =>
    obtain ⟨j, er⟩ := x
    rw [hr] at hb
    simp only [Bool.and_eq_true, beq_iff_eq, decide_eq_true_eq] at hb
    obtain ⟨⟨h3, rfl⟩, rfl⟩ := hb
    obtain ⟨g, he, hs⟩ := of_own h (runQ_bad _ _ _ _ _ (dp_lines k v k) hr)
    exact .inl ⟨h3, g, he, hs⟩
  | ok b =>
    rw [hr] at hb
    have hg := runQ_ok _ _ _ _ (dp_lines k v k) hr
    obtain ⟨D, O⟩ := b
    simp only [Bool.and_eq_true, decide_eq_true_eq] at hb
    obtain ⟨⟨ho, h8⟩, hpre⟩ := hb
    have ho : O = [] := by simpa using ho
    subst ho
    obtain ⟨nv, he, hn⟩ := of_ok h hg rfl
    refine .inr ⟨h8, D, nv, he, hn, hpre, (fit_grows hg (fun s hs ps hl => ?_) ⟨trivial, trivial⟩).1⟩
    obtain ⟨z, hz, rfl⟩ := List.mem_map.1 hs
    obtain rfl := (dp_lines k v k z hz).det hl
    exact dp_fit k v k z hz
theorem dp_find {B k : Nat} {D : List PN} {S : Nat → Prop} {e : Ending} {w' : World} (hp : (preL D 0).map (fun x => (x.1.line, x.1.en)) = (List.range k).map (fun i => (i, 2 * k - 1 - i))) {i : Nat} (hi : i ≤ k) (h : FindPost B D i S e w') :
    (i < k ∧ ∃ n c, e = .returned (.tuple #[.agg c.cells.toArray, .bool true]) ∧ Node1 w' (fun b => S b ∨ B ≤ b) c n ∧ n.line = i ∧ n.en = 2 * k - 1 - i) ∨ (i = k ∧ e = .returned (.tuple #[.agg zeroND, .bool false])) := by
  rcases h with ⟨front, n, d, rest, c, hpre, hf, hl, he, hn⟩ | ⟨hno, he⟩
  · rw [hpre, List.map_append, List.map_cons] at hp
    have h1 : ((front.map fun x => (x.1.line, x.1.en)) ++ (n.line, n.en) :: (rest.map fun x => (x.1.line, x.1.en)))[front.length]? = some (n.line, n.en) := by
      rw [List.getElem?_append_right (by rw [List.length_map]; exact Nat.le_refl _), List.length_map, Nat.sub_self]; rfl
    rw [hp, List.getElem?_map] at h1
    have hlt : front.length < k := by
      rcases Nat.lt_or_ge front.length k with h | h
      · exact h
      · rw [List.getElem?_eq_none (by rw [List.length_range]; exact h)] at h1; cases h1
    rw [List.getElem?_range hlt] at h1
    have h2 := Option.some.inj h1
    injection h2 with h2 h3
    have hl : n.line = i := by omega
    refine .inl ⟨by omega, n, c, he, hn, hl, by omega⟩
  · refine .inr ⟨?_, he⟩
    rcases Nat.lt_or_ge i k with hlt | hge
    · have h1 : ((List.range k).map (fun i => (i, 2 * k - 1 - i)))[i]? = some (i, 2 * k - 1 - i) := by rw [List.getElem?_map, List.getElem?_range hlt]; rfl
      rw [← hp, List.getElem?_map] at h1
      obtain ⟨x, hx, hxe⟩ := Option.map_eq_some_iff.1 h1
      injection hxe with h2 h3
      have := hno x (List.mem_of_getElem? hx)
      rw [h2] at this
      exact (this rfl).elim
    · omega
theorem dp_count {k : Nat} {D : List PN} (hp : (preL D 0).map (fun x => (x.1.line, x.1.en)) = (List.range k).map (fun i => (i, 2 * k - 1 - i))) : (preL D 0).length = k := by
  have := congrArg List.length hp
  simpa using this
end Go.Proofs.YthkbchefjagbbaaGreatDoor.Line
