/- Names in a row of a call's own; the contract of the law's add. -/
import Derived.Test.YtomnbidppkpfiaaDoorEvFind
import Derived.Test.YtomnbidppkpfiaaDoorRegE
namespace Go.Proofs.YtomnbidppkpfiaaDoor.Line
open Go.ChangeShapes Go.WideShapes Go.ChangeAt Go.RowKit
open Ex (E)
open Ev (Sy Res)
set_option linter.unusedVariables false

abbrev SyV : Type := Sy × Value
def flatS (L : List SyV) : List Value := L.flatMap fun p => symC p.1 p.2
theorem flatS_length (L : List SyV) : (flatS L).length = L.length * 4 := by
  induction L with
  | nil => rfl
  | cons t l ih => show (symC t.1 t.2 ++ flatS l).length = _; rw [List.length_append, ih, List.length_cons]; show 4 + l.length * 4 = _; omega
theorem flatS_append (l m : List SyV) : flatS (l ++ m) = flatS l ++ flatS m := by simp [flatS]
theorem flatS_at (l : List SyV) : ∀ (i : Nat) (h : i < l.length), (flatS l)[i * 4]? = some (.string ⟨l[i].1.name.toArray⟩) ∧ (flatS l)[i * 4 + 1]? = some l[i].2 ∧ (flatS l)[i * 4 + 2]? = some (.int .i64 l[i].1.at_) ∧ (flatS l)[i * 4 + 3]? = some (.int .i64 l[i].1.size) := by
  induction l with
  | nil => intro i h; simp at h
  | cons t l ih =>
    intro i h
    have e : flatS (t :: l) = .string ⟨t.1.name.toArray⟩ :: t.2 :: .int .i64 t.1.at_ :: .int .i64 t.1.size :: flatS l := rfl
    cases i with
    | zero => rw [e]; exact ⟨rfl, rfl, rfl, rfl⟩
    | succ i =>
      have := ih i (by simpa using h)
      rw [e]
      rw [show (i + 1) * 4 = i * 4 + 4 by omega, show i * 4 + 4 + 1 = (i * 4 + 1) + 4 by omega, show i * 4 + 4 + 2 = (i * 4 + 2) + 4 by omega, show i * 4 + 4 + 3 = (i * 4 + 3) + 4 by omega]
      simpa using this
/-- names, with where their Dims lie -/
theorem syms_list {w : World} {v : Value} {T : List Sy} (h : Syms w v T) : ∃ L : List SyV, L.map (·.1) = T ∧ (∀ p ∈ L, Ints w p.2 p.1.dims) ∧ (T ≠ [] → ∃ b off cap, v = .slice (some ⟨b, off, none⟩) T.length cap ∧ ∀ j u, (flatS L)[j]? = some u → w.cell? ⟨b, off + j, none⟩ = some u) := by
  by_cases h0 : T = []
  · subst h0
    exact ⟨[], rfl, (fun p hp => by cases hp), fun h => absurd rfl h⟩
  · have hl : 0 < T.length := List.length_pos_iff.2 h0
    obtain ⟨b, off, cap, dv, rfl, hc, hm, hcell⟩ := h.at hl
    let L : List SyV := T.mapIdx fun i x => (x, dv i)
    have hLl : L.length = T.length := by simp [L]
    have hLi : ∀ i (h : i < L.length) (h2 : i < T.length), L[i] = (T[i], dv i) := fun i h h2 => by simp [L]
    refine ⟨L, ?_, ?_, fun _ => ⟨b, off, cap, rfl, ?_⟩⟩
    · apply List.ext_getElem
      · simp [L]
      · intro i h1 h2; simp [L]
    · intro p hp
      obtain ⟨i, hi, rfl⟩ := List.mem_iff_getElem.1 hp
      rw [hLi i hi (by omega)]
      exact (hcell i (by omega)).2
    · intro j u hu
      have hj : j < (flatS L).length := by
        rcases Nat.lt_or_ge j (flatS L).length with h | h
        · exact h
        · rw [List.getElem?_eq_none h] at hu; cases hu
      rw [flatS_length, hLl] at hj
      obtain ⟨i, r, hr, rfl⟩ : ∃ i r, r < 4 ∧ j = i * 4 + r := ⟨j / 4, j % 4, by omega, by omega⟩
      have hi : i < T.length := by omega
      obtain ⟨f0, f1, f2, f3⟩ := flatS_at L i (by omega)
      rw [hLi i (by omega) hi] at f0 f1 f2 f3
      obtain ⟨⟨c0, c1, c2, c3⟩, _⟩ := hcell i hi
      have : r = 0 ∨ r = 1 ∨ r = 2 ∨ r = 3 := by omega
      rcases this with rfl | rfl | rfl | rfl
      · rw [Nat.add_zero] at hu; rw [f0] at hu; rw [← hu]; exact c0
      · rw [f1] at hu; rw [← hu]; exact c1
      · rw [f2] at hu; rw [← hu]; exact c2
      · rw [f3] at hu; rw [← hu]; exact c3
def OwnSy (t : TypeId) (base : Nat) (w : World) (v : Value) (L : List SyV) : Prop := w.ownsRow base t 4 v L.length (flatS L)
theorem OwnSy.syms {t : TypeId} {base : Nat} {w : World} {v : Value} {L : List SyV} (h : OwnSy t base w v L) (hd : ∀ p ∈ L, Ints w p.2 p.1.dims) : Syms w v (L.map (·.1)) := by
  have h' : w.ownsRow base t 4 v L.length (flatS L) := h
  rcases h'.2 with ⟨rfl, h5⟩ | ⟨g, cap, cur, rfl, hg, hh, hc, hm, r⟩
  · rw [List.length_eq_zero_iff.1 h5]; exact ⟨none, 0, rfl, Nat.le_refl _, by decide, .inl rfl⟩
  · refine ⟨_, cap, by rw [List.length_map], by rw [List.length_map]; exact hc, hm, .inr ⟨g, 0, fun i => (L[i]?.map (·.2)).getD .nilIface, rfl, fun i hi => ?_⟩⟩
    rw [List.length_map] at hi
    obtain ⟨f0, f1, f2, f3⟩ := flatS_at L i hi
    have c0 := World.ownsRow.cellAt h' (i * 4) (by omega)
    have c1 := World.ownsRow.cellAt h' (i * 4 + 1) (by omega)
    have c2 := World.ownsRow.cellAt h' (i * 4 + 2) (by omega)
    have c3 := World.ownsRow.cellAt h' (i * 4 + 3) (by omega)
    simp only [Nat.zero_add, List.getElem_map, List.getElem?_eq_getElem hi, Option.map_some, Option.getD_some]
    exact ⟨⟨c0.trans f0, c1.trans f1, c2.trans f2, c3.trans f3⟩, hd _ (List.getElem_mem hi)⟩
theorem OwnSy.shape {t : TypeId} {base : Nat} {w : World} {v : Value} {L : List SyV} (h : OwnSy t base w v L) : ∃ a cap, v = .slice a L.length cap := by
  rcases h.2 with ⟨rfl, h5⟩ | ⟨g, cap, cur, rfl, _⟩
  · exact ⟨none, 0, by rw [h5]⟩
  · exact ⟨_, _, rfl⟩
theorem flatS_one {L : List SyV} (hv : ∀ p ∈ L, ∃ a n c, p.2 = .slice a n c) : ∀ u ∈ flatS L, u.oneCell' = true := by
  intro u hu
  obtain ⟨p, hp, hu⟩ := List.mem_flatMap.1 hu
  obtain ⟨a, n, c, e⟩ := hv p hp
  simp only [symC, e, List.mem_cons, List.not_mem_nil, or_false] at hu
  rcases hu with rfl | rfl | rfl | rfl <;> rfl
/-- names more -/
theorem append_syms {t st : TypeId} (hinfo : (Tryd.prog.info? t).map (fun i => (i.zero, i.size, i.bytes)) = some (some (.agg #[.string ⟨#[]⟩, .slice none 0 0, .int .i64 0, .int .i64 0]), 4, 56)) (hund : Tryd.prog.underlying st = some (.slice t))
    {base : Nat} {w : World} {v : Value} {L M : List SyV} (hs : OwnSy t base w v L) (hb : base ≤ w.heap.size) (hl : L.length + M.length ≤ 100000) (b off cap : Nat) (hM : ∀ j u, (flatS M)[j]? = some u → w.cell? ⟨b, off + j, none⟩ = some u) (hv : ∀ p ∈ M, ∃ a n c, p.2 = .slice a n c) :
    ∃ v' w', (Builtin.append_ #[st, st] st #[v, .slice (some ⟨b, off, none⟩) M.length cap]).run Tryd.prog w = .ok v' w' ∧ OwnSy t base w' v' (L ++ M) ∧ w.grownBy w' v.ownBlock ∧ (v'.ownBlock = v.ownBlock ∨ v'.ownBlock = some w.heap.size) := by
  obtain ⟨i0, hi, hz0, hz1, hz2⟩ := info_parts hinfo
  obtain ⟨v', w', hr, ho, hgr, _, hat⟩ := run_append_own_at (P := Tryd.prog) w base st st t i0 _ 4 56 hund hi hz0 hz1 hz2 rfl (by decide) v L.length (flatS L) hs ⟨b, off, none⟩ M.length cap (flatS M) (flatS_length M)
    (fun j u hu => by rw [Addr.add_mid]; exact hM j u hu) (flatS_one hv) (by unfold maxLen; omega) (by omega) hb
  refine ⟨v', w', hr, ?_, hgr, hat⟩
  unfold OwnSy
  rw [flatS_append, List.length_append]
  exact ho
theorem grown_none (w : World) {r : Option Nat} : w.grownBy w r := ⟨rfl, rfl, rfl, Nat.le_refl _, fun _ _ _ => rfl⟩
abbrev RSy : TypeId := 65
abbrev RSys : TypeId := 27
abbrev RTb : TypeId := 29
abbrev PSys : TypeId := 44
theorem infoRSy : (Tryd.prog.info? RSy).map (fun i => (i.zero, i.size, i.bytes)) = some (some (.agg #[.string ⟨#[]⟩, .slice none 0 0, .int .i64 0, .int .i64 0]), 4, 56) := by kernel_rfl
theorem infoPSy : (Tryd.prog.info? SyT).map (fun i => (i.zero, i.size, i.bytes)) = some (some (.agg #[.string ⟨#[]⟩, .slice none 0 0, .int .i64 0, .int .i64 0]), 4, 56) := by kernel_rfl
end Go.Proofs.YtomnbidppkpfiaaDoor.Line
