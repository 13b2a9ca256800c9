/- The contracts of tree.own: a row of one s own, its cells those of the row that was handed in.
   Trees whose rows are copied one by one: what they say stays the same (CF).
   The memory of tree.ownParts: which trees are still to be copied (PInv).
   The contract of tree.ownParts: trees are copied, row by row.
   The contract of tree.ownStmt: a statement's items and trees are copied where it stands. -/
import Derived.Test.YthkbchefjagbbaaGreatDoorWkA
import Derived.Test.YthkbchefjagbbaaGreatDoorTrAddA
import Derived.Deep.LoopGhost
import Derived.Test.YthkbchefjagbbaaGreatDoorRegE
namespace Go.Proofs.YthkbchefjagbbaaGreatDoor.Line
open Go.ChangeShapes Go.WideShapes Go.ChangeAt Go.RowKit
open Ex (E St)
set_option linter.unusedVariables false

/-- the cells of a slice's elements -/
def SliceHas (w : World) (a : Option Addr) (n : Nat) (news : List Value) : Prop := n = 0 ∨ ∃ b o, a = some ⟨b, o, none⟩ ∧ w.rangeAt b o news
theorem SliceHas.below {w w' : World} {a : Option Addr} {n : Nat} {news : List Value} (h : SliceHas w a n news) (hn : n ≠ 0 → news ≠ []) (hb : Below w.heap.size w w') : SliceHas w' a n news := by
  rcases h with h | ⟨b, o, h1, h2⟩
  · exact .inl h
  · by_cases h0 : n = 0
    · exact .inl h0
    · refine .inr ⟨b, o, h1, range_keep h2 (hb.block b ?_)⟩
      have hne := hn h0
      cases news with
      | nil => exact absurd rfl hne
      | cons x r => exact cell_lt (h2 0 x rfl)
theorem infoOwN : (Tryz.prog.info? 85).map (fun i => (i.zero, i.size, i.bytes)) = some (some (.agg zeroND), 34, 480) := by kernel_rfl
theorem owRunN (w : World) (a : Option Addr) (n c : Nat) (news : List Value) (hl : news.length = n * 34) (hs : SliceHas w a n news) (h1 : ∀ u ∈ news, u.oneCell' = true) (hn : n ≤ 1000000) : ∃ v' w', (Builtin.append_ #[82, 82] 82 #[.slice none 0 0, .slice a n c]).run Tryz.prog w = .ok v' w' ∧ w'.ownsRow w.heap.size 85 34 v' n news ∧ Below w.heap.size w w' := by
  obtain ⟨i0, hi, hz0, hz1, hz2⟩ := info_parts infoOwN
  by_cases h0 : n = 0
  · subst h0
    have hnil : news = [] := List.length_eq_zero_iff.1 (by omega)
    subst hnil
    refine ⟨.slice none 0 0, w, ?_, World.ownsRow_nil _ _ _ _, Below.refl _ _⟩
    cases a <;> simp [Builtin.append_, run_underlying Tryz.underlying82, sizeOf, typeInfo, hi, Builtin.lenOf, Builtin.firstCells, loadCells, loadCellsFrom]
  · rcases hs with hs | ⟨b, o, rfl, hr⟩
    · exact absurd hs h0
    · obtain ⟨v', w', hrun, ho, hg, _, _⟩ := run_append_own_at (P := Tryz.prog) w w.heap.size 82 82 85 i0 _ 34 480 Tryz.underlying82 hi hz0 hz1 hz2 rfl (by decide) (.slice none 0 0) 0 [] (World.ownsRow_nil _ _ _ _) ⟨b, o, none⟩ n c news hl (fun j u hu => by rw [Addr.add_mid]; exact hr j u hu) h1 (by unfold maxLen; omega) (by omega) (Nat.le_refl _)
      rw [Nat.zero_add, List.nil_append] at ho
      exact ⟨v', w', hrun, ho, ⟨hg.os, hg.tape, hg.output, hg.size, fun q hq => hg.block q hq (fun e => by cases e)⟩⟩
set_option maxHeartbeats 1000000 in
theorem ownN_any (w : World) (a : Option Addr) (n c : Nat) (news : List Value) (hl : news.length = n * 34) (hs : SliceHas w a n news) (h1 : ∀ u ∈ news, u.oneCell' = true) (hn : n ≤ 1000000) :
    Calls Tryz.prog 120 #[.slice a n c] w fun e w' => ∃ v', e = .returned v' ∧ w'.ownsRow w.heap.size 85 34 v' n news ∧ Below w.heap.size w w' := by
  obtain ⟨v', w', hr, ho, hb⟩ := owRunN w a n c news hl hs h1 hn
  have HR := hide hr
  have HO := hide (And.intro ho hb)
  clear hr ho hb hs h1 hl
  go_enter Tryz.func120, Tryz.ntmps120
  go_wp2_with (at_builtin; refine wpList_append_runG 82 rfl _ _ rfl rfl _ _ rfl rfl _ _ (unhide HR) ?_)
  go_ret
  exact ⟨v', rfl, unhide HO⟩
theorem infoOwI : (Tryz.prog.info? 132).map (fun i => (i.zero, i.size, i.bytes)) = some (some (.agg #[.string ⟨#[]⟩, .slice none 0 0]), 2, 40) := by kernel_rfl
theorem owRunI (w : World) (a : Option Addr) (n c : Nat) (news : List Value) (hl : news.length = n * 2) (hs : SliceHas w a n news) (h1 : ∀ u ∈ news, u.oneCell' = true) (hn : n ≤ 1000000) : ∃ v' w', (Builtin.append_ #[63, 63] 63 #[.slice none 0 0, .slice a n c]).run Tryz.prog w = .ok v' w' ∧ w'.ownsRow w.heap.size 132 2 v' n news ∧ Below w.heap.size w w' := by
  obtain ⟨i0, hi, hz0, hz1, hz2⟩ := info_parts infoOwI
  by_cases h0 : n = 0
  · subst h0
    have hnil : news = [] := List.length_eq_zero_iff.1 (by omega)
    subst hnil
    refine ⟨.slice none 0 0, w, ?_, World.ownsRow_nil _ _ _ _, Below.refl _ _⟩
    cases a <;> simp [Builtin.append_, run_underlying Tryz.underlying63, sizeOf, typeInfo, hi, Builtin.lenOf, Builtin.firstCells, loadCells, loadCellsFrom]
  · rcases hs with hs | ⟨b, o, rfl, hr⟩
    · exact absurd hs h0
    · obtain ⟨v', w', hrun, ho, hg, _, _⟩ := run_append_own_at (P := Tryz.prog) w w.heap.size 63 63 132 i0 _ 2 40 Tryz.underlying63 hi hz0 hz1 hz2 rfl (by decide) (.slice none 0 0) 0 [] (World.ownsRow_nil _ _ _ _) ⟨b, o, none⟩ n c news hl (fun j u hu => by rw [Addr.add_mid]; exact hr j u hu) h1 (by unfold maxLen; omega) (by omega) (Nat.le_refl _)
      rw [Nat.zero_add, List.nil_append] at ho
      exact ⟨v', w', hrun, ho, ⟨hg.os, hg.tape, hg.output, hg.size, fun q hq => hg.block q hq (fun e => by cases e)⟩⟩
set_option maxHeartbeats 1000000 in
theorem ownI_any (w : World) (a : Option Addr) (n c : Nat) (news : List Value) (hl : news.length = n * 2) (hs : SliceHas w a n news) (h1 : ∀ u ∈ news, u.oneCell' = true) (hn : n ≤ 1000000) :
    Calls Tryz.prog 171 #[.slice a n c] w fun e w' => ∃ v', e = .returned v' ∧ w'.ownsRow w.heap.size 132 2 v' n news ∧ Below w.heap.size w w' := by
  obtain ⟨v', w', hr, ho, hb⟩ := owRunI w a n c news hl hs h1 hn
  have HR := hide hr
  have HO := hide (And.intro ho hb)
  clear hr ho hb hs h1 hl
  go_enter Tryz.func171, Tryz.ntmps171
  go_wp2_with (at_builtin; refine wpList_append_runG 63 rfl _ _ rfl rfl _ _ rfl rfl _ _ (unhide HR) ?_)
  go_ret
  exact ⟨v', rfl, unhide HO⟩
theorem infoOwZ : (Tryz.prog.info? 2).map (fun i => (i.zero, i.size, i.bytes)) = some (some (.int .i64 0), 1, 8) := by kernel_rfl
theorem owRunZ (w : World) (a : Option Addr) (n c : Nat) (news : List Value) (hl : news.length = n * 1) (hs : SliceHas w a n news) (h1 : ∀ u ∈ news, u.oneCell' = true) (hn : n ≤ 1000000) : ∃ v' w', (Builtin.append_ #[58, 58] 58 #[.slice none 0 0, .slice a n c]).run Tryz.prog w = .ok v' w' ∧ w'.ownsRow w.heap.size 2 1 v' n news ∧ Below w.heap.size w w' := by
  obtain ⟨i0, hi, hz0, hz1, hz2⟩ := info_parts infoOwZ
  by_cases h0 : n = 0
  · subst h0
    have hnil : news = [] := List.length_eq_zero_iff.1 (by omega)
    subst hnil
    refine ⟨.slice none 0 0, w, ?_, World.ownsRow_nil _ _ _ _, Below.refl _ _⟩
    cases a <;> simp [Builtin.append_, run_underlying Tryz.underlying58, sizeOf, typeInfo, hi, Builtin.lenOf, Builtin.firstCells, loadCells, loadCellsFrom]
  · rcases hs with hs | ⟨b, o, rfl, hr⟩
    · exact absurd hs h0
    · obtain ⟨v', w', hrun, ho, hg, _, _⟩ := run_append_own_at (P := Tryz.prog) w w.heap.size 58 58 2 i0 _ 1 8 Tryz.underlying58 hi hz0 hz1 hz2 rfl (by decide) (.slice none 0 0) 0 [] (World.ownsRow_nil _ _ _ _) ⟨b, o, none⟩ n c news hl (fun j u hu => by rw [Addr.add_mid]; exact hr j u hu) h1 (by unfold maxLen; omega) (by omega) (Nat.le_refl _)
      rw [Nat.zero_add, List.nil_append] at ho
      exact ⟨v', w', hrun, ho, ⟨hg.os, hg.tape, hg.output, hg.size, fun q hq => hg.block q hq (fun e => by cases e)⟩⟩
set_option maxHeartbeats 1000000 in
theorem ownZ_any (w : World) (a : Option Addr) (n c : Nat) (news : List Value) (hl : news.length = n * 1) (hs : SliceHas w a n news) (h1 : ∀ u ∈ news, u.oneCell' = true) (hn : n ≤ 1000000) :
    Calls Tryz.prog 172 #[.slice a n c] w fun e w' => ∃ v', e = .returned v' ∧ w'.ownsRow w.heap.size 2 1 v' n news ∧ Below w.heap.size w w' := by
  obtain ⟨v', w', hr, ho, hb⟩ := owRunZ w a n c news hl hs h1 hn
  have HR := hide hr
  have HO := hide (And.intro ho hb)
  clear hr ho hb hs h1 hl
  go_enter Tryz.func172, Tryz.ntmps172
  go_wp2_with (at_builtin; refine wpList_append_runG 58 rfl _ _ rfl rfl _ _ rfl rfl _ _ (unhide HR) ?_)
  go_ret
  exact ⟨v', rfl, unhide HO⟩
theorem infoOwX : (Tryz.prog.info? 24).map (fun i => (i.zero, i.size, i.bytes)) = some (some (.agg #[.int .i64 0, .int .i64 0, .string ⟨#[]⟩, .slice none 0 0]), 4, 56) := by kernel_rfl
theorem owRunX (w : World) (a : Option Addr) (n c : Nat) (news : List Value) (hl : news.length = n * 4) (hs : SliceHas w a n news) (h1 : ∀ u ∈ news, u.oneCell' = true) (hn : n ≤ 1000000) : ∃ v' w', (Builtin.append_ #[22, 22] 22 #[.slice none 0 0, .slice a n c]).run Tryz.prog w = .ok v' w' ∧ w'.ownsRow w.heap.size 24 4 v' n news ∧ Below w.heap.size w w' := by
  obtain ⟨i0, hi, hz0, hz1, hz2⟩ := info_parts infoOwX
  by_cases h0 : n = 0
  · subst h0
    have hnil : news = [] := List.length_eq_zero_iff.1 (by omega)
    subst hnil
    refine ⟨.slice none 0 0, w, ?_, World.ownsRow_nil _ _ _ _, Below.refl _ _⟩
    cases a <;> simp [Builtin.append_, run_underlying Tryz.underlying22, sizeOf, typeInfo, hi, Builtin.lenOf, Builtin.firstCells, loadCells, loadCellsFrom]
  · rcases hs with hs | ⟨b, o, rfl, hr⟩
    · exact absurd hs h0
    · obtain ⟨v', w', hrun, ho, hg, _, _⟩ := run_append_own_at (P := Tryz.prog) w w.heap.size 22 22 24 i0 _ 4 56 Tryz.underlying22 hi hz0 hz1 hz2 rfl (by decide) (.slice none 0 0) 0 [] (World.ownsRow_nil _ _ _ _) ⟨b, o, none⟩ n c news hl (fun j u hu => by rw [Addr.add_mid]; exact hr j u hu) h1 (by unfold maxLen; omega) (by omega) (Nat.le_refl _)
      rw [Nat.zero_add, List.nil_append] at ho
      exact ⟨v', w', hrun, ho, ⟨hg.os, hg.tape, hg.output, hg.size, fun q hq => hg.block q hq (fun e => by cases e)⟩⟩
set_option maxHeartbeats 1000000 in
theorem ownX_any (w : World) (a : Option Addr) (n c : Nat) (news : List Value) (hl : news.length = n * 4) (hs : SliceHas w a n news) (h1 : ∀ u ∈ news, u.oneCell' = true) (hn : n ≤ 1000000) :
    Calls Tryz.prog 199 #[.slice a n c] w fun e w' => ∃ v', e = .returned v' ∧ w'.ownsRow w.heap.size 24 4 v' n news ∧ Below w.heap.size w w' := by
  obtain ⟨v', w', hr, ho, hb⟩ := owRunX w a n c news hl hs h1 hn
  have HR := hide hr
  have HO := hide (And.intro ho hb)
  clear hr ho hb hs h1 hl
  go_enter Tryz.func199, Tryz.ntmps199
  go_wp2_with (at_builtin; refine wpList_append_runG 22 rfl _ _ rfl rfl _ _ rfl rfl _ _ (unhide HR) ?_)
  go_ret
  exact ⟨v', rfl, unhide HO⟩
end Go.Proofs.YthkbchefjagbbaaGreatDoor.Line

namespace Go.Proofs.YthkbchefjagbbaaGreatDoor.Line
open Go.ChangeShapes Go.WideShapes Go.ChangeAt Go.RowKit
open Ex (E St)
set_option linter.unusedVariables false

/-- trees of which some rows are copies (in blocks of Nn, from their beginning on), the others as they were (in blocks of Stb) -/
inductive CF (W : World) (Nn Stb : Nat → Prop) : List E → Value → Prop
  | nil (a : Option Addr) (cap : Nat) : CF W Nn Stb [] (.slice a 0 cap)
  | old (l : List E) (v : Value) (h : Forest W Stb l v) : CF W Nn Stb l v
  | row (l : List E) (b cap : Nat) (sl : Nat → Value) (hN : Nn b) (hcap : l.length ≤ cap) (hmax : cap ≤ maxLen) (hl : 0 < l.length)
      (hc : ∀ i (h : i < l.length), W.cell? ⟨b, i * 4, none⟩ = some (.int .i64 l[i].kind) ∧ W.cell? ⟨b, i * 4 + 1, none⟩ = some (.int .i64 l[i].n) ∧ W.cell? ⟨b, i * 4 + 2, none⟩ = some (.string ⟨l[i].name.toArray⟩) ∧ W.cell? ⟨b, i * 4 + 3, none⟩ = some (sl i))
      (hf : ∀ i (h : i < l.length), CF W Nn Stb l[i].a (sl i)) : CF W Nn Stb l (.slice (some ⟨b, 0, none⟩) l.length cap)
theorem CF.keep {W W' : World} {Nn Stb Nn' Stb' : Nat → Prop} {l : List E} {v : Value} (h : CF W Nn Stb l v) (hk : ∀ b, Nn b ∨ Stb b → b < W.heap.size → W'.heap[b]? = W.heap[b]?) (hn : ∀ b, Nn b → b < W.heap.size → Nn' b) (hs : ∀ b, Stb b → b < W.heap.size → Stb' b) : CF W' Nn' Stb' l v := by
  induction h with
  | nil a cap => exact .nil a cap
  | old l v h => exact .old l v (h.keep (fun b hb hl => hk b (.inr hb) hl) hs)
  | row l b cap sl hN hcap hmax hl hc hf ih =>
    have hlt := cell_lt (hc 0 hl).1
    have hb := hk b (.inl hN) hlt
    have hcell : ∀ o, W'.cell? ⟨b, o, none⟩ = W.cell? ⟨b, o, none⟩ := fun o => World.cell?_of_block (a := ⟨b, o, none⟩) hb
    exact .row l b cap sl (hn b hN hlt) hcap hmax hl (fun i hi => by
      obtain ⟨h1, h2, h3, h4⟩ := hc i hi
      exact ⟨(hcell _).trans h1, (hcell _).trans h2, (hcell _).trans h3, (hcell _).trans h4⟩) ih
theorem CF.shape {W : World} {Nn Stb : Nat → Prop} {l : List E} {v : Value} (h : CF W Nn Stb l v) : ∃ a cap, v = .slice a l.length cap := by
  cases h with
  | nil a cap => exact ⟨a, cap, rfl⟩
  | old l v h => exact h.shape
  | row _ b cap sl hN hcap hmax hl hc hf => exact ⟨_, _, rfl⟩
/-- at the end all may be read -/
theorem CF.forest {W : World} {Nn Stb S : Nat → Prop} {l : List E} {v : Value} (h : CF W Nn Stb l v) (hn : ∀ b, Nn b → S b) (hs : ∀ b, Stb b → S b) : Forest W S l v := by
  induction h with
  | nil a cap => exact .nil a cap
  | old l v h => exact h.mono (fun b hb _ => hs b hb)
  | row l b cap sl hN hcap hmax hl hc hf ih =>
    refine .row l b 0 cap sl (hn b hN) hcap hmax (fun i hi => ?_) ih
    simp only [Nat.zero_add]
    exact hc i hi
theorem set_other {W : World} {b o g p : Nat} {u : Value} (h : b ≠ g ∨ o ≠ p) : (W.setCell ⟨g, p, none⟩ u).cell? ⟨b, o, none⟩ = W.cell? ⟨b, o, none⟩ := World.cell?_setCell_other _ _ _ _ (fun e => by
  injection e with e1 e2
  rcases h with h | h
  · exact h e1.symm
  · exact h e2.symm)
/-- a row's slice is turned to a copy: what is said stays the same -/
theorem CF.swap {W : World} {Nn Stb : Nat → Prop} {g k : Nat} {v0 u : Value} {l : List E} {v : Value} (hg : Nn g) (hns : ¬ Stb g) (h0 : W.cell? ⟨g, k * 4 + 3, none⟩ = some v0) (hu : ∀ l0, CF (W.setCell ⟨g, k * 4 + 3, none⟩ u) Nn Stb l0 v0 → CF (W.setCell ⟨g, k * 4 + 3, none⟩ u) Nn Stb l0 u) (h : CF W Nn Stb l v) : CF (W.setCell ⟨g, k * 4 + 3, none⟩ u) Nn Stb l v := by
  induction h with
  | nil a cap => exact .nil a cap
  | old l v h => exact .old l v (h.keep (fun b hb _ => set_heap (fun e => hns (e ▸ hb))) (fun _ h _ => h))
  | row l b cap sl hN hcap hmax hl hc hf ih =>
    by_cases hb : b = g
    · subst hb
      refine .row l b cap (fun i => if i = k then u else sl i) hN hcap hmax hl (fun i hi => ?_) (fun i hi => ?_)
      · obtain ⟨h1, h2, h3, h4⟩ := hc i hi
        refine ⟨(set_other (.inr (by omega))).trans h1, (set_other (.inr (by omega))).trans h2, (set_other (.inr (by omega))).trans h3, ?_⟩
        by_cases hik : i = k
        · subst hik
          rw [if_pos rfl]
          exact World.cell?_setCell_same _ _ _ h0
        · rw [if_neg hik]
          exact (set_other (.inr (by omega))).trans h4
      · by_cases hik : i = k
        · subst hik
          rw [if_pos rfl]
          refine hu _ ?_
          have h4 := (hc i hi).2.2.2
          rw [h0] at h4
          injection h4 with h4
          rw [h4]
          exact ih i hi
        · rw [if_neg hik]
          exact ih i hi
    · refine .row l b cap sl hN hcap hmax hl (fun i hi => ?_) ih
      obtain ⟨h1, h2, h3, h4⟩ := hc i hi
      exact ⟨(set_other (.inl hb)).trans h1, (set_other (.inl hb)).trans h2, (set_other (.inl hb)).trans h3, (set_other (.inl hb)).trans h4⟩
/-- a copy says what the row says -/
theorem CF.copy {W : World} {Nn Stb : Nat → Prop} {l0 : List E} {b o n c g cap : Nat} (h : CF W Nn Stb l0 (.slice (some ⟨b, o, none⟩) n c)) (hg : Nn g) (hcap : n ≤ cap) (hmax : cap ≤ maxLen) (he : ∀ j, j < n * 4 → W.cell? ⟨g, j, none⟩ = W.cell? ⟨b, o + j, none⟩) : CF W Nn Stb l0 (.slice (some ⟨g, 0, none⟩) n cap) := by
  have hlen : l0.length = n := by
    obtain ⟨a, c', e⟩ := h.shape
    injection e with _ e _
    exact e.symm
  by_cases hn : n = 0
  · rw [List.length_eq_zero_iff.1 (hlen.trans hn), hn]; exact .nil _ _
  · rw [← hlen] at hcap he ⊢
    have key : ∃ sl : Nat → Value, (∀ i (h : i < l0.length), W.cell? ⟨b, o + i * 4, none⟩ = some (.int .i64 l0[i].kind) ∧ W.cell? ⟨b, o + i * 4 + 1, none⟩ = some (.int .i64 l0[i].n) ∧ W.cell? ⟨b, o + i * 4 + 2, none⟩ = some (.string ⟨l0[i].name.toArray⟩) ∧ W.cell? ⟨b, o + i * 4 + 3, none⟩ = some (sl i)) ∧ (∀ i (h : i < l0.length), CF W Nn Stb l0[i].a (sl i)) := by
      cases h with
      | nil a cap => simp at hn
      | old l v h =>
        cases h with
        | nil a cap => simp at hn
        | row _ _ _ _ sl hS hcap2 hmax2 hc hf => exact ⟨sl, hc, fun i hi => .old _ _ (hf i hi)⟩
      | row _ _ _ sl hN hcap2 hmax2 hl hc hf => exact ⟨sl, fun i hi => by simp only [Nat.zero_add]; exact hc i hi, hf⟩
    obtain ⟨sl, hc, hf⟩ := key
    refine .row l0 g cap sl hg hcap hmax (by omega) (fun i hi => ?_) hf
    obtain ⟨h1, h2, h3, h4⟩ := hc i hi
    exact ⟨(he _ (by omega)).trans h1, (he _ (by omega)).trans h2, (he _ (by omega)).trans h3, (he _ (by omega)).trans h4⟩
mutual
def szE : E → Nat
  | .mk _ _ _ a => 1 + szL a
def szL : List E → Nat
  | [] => 0
  | x :: l => szE x + szL l
end
theorem szL_cons (x : E) (l : List E) : szL (x :: l) = 1 + szL x.a + szL l := by cases x; rw [szL, szE]; rfl
theorem szL_take (l : List E) (i : Nat) (h : i < l.length) : szL (l.take (i + 1)) = szL (l.take i) + (1 + szL l[i].a) := by
  induction l generalizing i with
  | nil => simp at h
  | cons x l ih =>
    cases i with
    | zero => simp only [List.take_succ_cons, List.take_zero, List.getElem_cons_zero]; rw [szL_cons]; simp [szL]
    | succ i =>
      have := ih i (by simpa using h)
      simp only [List.take_succ_cons, List.getElem_cons_succ]
      rw [szL_cons, szL_cons, this]
      omega
/-- but for the cells of X, and new blocks, nothing has turned -/
structure UpdC (X : Nat → Nat → Prop) (w w' : World) : Prop where
  os : w'.os = w.os
  tape : w'.tape = w.tape
  output : w'.output = w.output
  size : w.heap.size ≤ w'.heap.size
  same : ∀ b, b < w.heap.size → (∀ o, ¬ X b o) → w'.heap[b]? = w.heap[b]?
  cells : ∀ b C t fr, w.heap[b]? = some (.cells C t fr) → (∃ o, ¬ X b o) → ∃ C', w'.heap[b]? = some (.cells C' t fr) ∧ C'.size = C.size ∧ ∀ o, ¬ X b o → C'[o]? = C[o]?
theorem UpdC.refl (X : Nat → Nat → Prop) (w : World) : UpdC X w w := ⟨rfl, rfl, rfl, Nat.le_refl _, fun _ _ _ => rfl, fun b C t fr h _ => ⟨C, h, rfl, fun _ _ => rfl⟩⟩
theorem UpdC.trans {X : Nat → Nat → Prop} {a b c : World} (h : UpdC X a b) (k : UpdC X b c) : UpdC X a c :=
  ⟨k.os.trans h.os, k.tape.trans h.tape, k.output.trans h.output, Nat.le_trans h.size k.size, fun i h1 h2 => (k.same i (Nat.lt_of_lt_of_le h1 h.size) h2).trans (h.same i h1 h2), fun i C t fr hc hx => by
    obtain ⟨C', h1, h2, h3⟩ := h.cells i C t fr hc hx
    obtain ⟨C2, k1, k2, k3⟩ := k.cells i C' t fr h1 hx
    exact ⟨C2, k1, k2.trans h2, fun o ho => (k3 o ho).trans (h3 o ho)⟩⟩
theorem UpdC.mono {X Y : Nat → Nat → Prop} {w w' : World} (h : UpdC X w w') (hxy : ∀ b o, b < w.heap.size → X b o → Y b o) : UpdC Y w w' :=
  ⟨h.os, h.tape, h.output, h.size, fun b h1 h2 => h.same b h1 (fun o hx => h2 o (hxy b o h1 hx)), fun b C t fr hc hx => by
    have hb : b < w.heap.size := (Array.getElem?_eq_some_iff.1 hc).1
    obtain ⟨C', h1, h2, h3⟩ := h.cells b C t fr hc (hx.imp fun o ho hx => ho (hxy b o hb hx))
    exact ⟨C', h1, h2, fun o ho => h3 o (fun hx => ho (hxy b o hb hx))⟩⟩
theorem UpdC.below {X : Nat → Nat → Prop} {w w' : World} (h : Below w.heap.size w w') : UpdC X w w' := ⟨h.os, h.tape, h.output, h.size, fun b h1 _ => h.block b h1, fun b C t fr hc _ => ⟨C, (h.block b (Array.getElem?_eq_some_iff.1 hc).1).trans hc, rfl, fun _ _ => rfl⟩⟩
theorem UpdC.set {X : Nat → Nat → Prop} (w : World) (b o : Nat) (u : Value) (hx : X b o) : UpdC X w (w.setCell ⟨b, o, none⟩ u) :=
  ⟨rfl, rfl, rfl, by simp [World.setCell], fun q h1 h2 => set_heap (fun e => h2 o (e ▸ hx)), fun q C t fr hc _ => by
    by_cases hq : q = b
    · subst hq
      refine ⟨C.setIfInBounds o u, ?_, by simp, fun o' ho => ?_⟩
      · simp [World.setCell, Array.getElem?_modify, hc]
      · have hne : ¬ o = o' := fun e => ho (e ▸ hx)
        simp [hne]
    · exact ⟨C, (set_heap hq).trans hc, rfl, fun _ _ => rfl⟩⟩
theorem UpdC.upd {X : Nat → Nat → Prop} {Y : Nat → Prop} {w w' : World} (h : UpdC X w w') (hxy : ∀ b o, X b o → Y b) : Upd Y w w' := ⟨h.os, h.tape, h.output, h.size, fun b h1 h2 => h.same b h1 (fun o hx => h2 (hxy b o hx))⟩
theorem UpdC.cell {X : Nat → Nat → Prop} {w w' : World} (h : UpdC X w w') {b o : Nat} {v : Value} (hc : w.cell? ⟨b, o, none⟩ = some v) (hx : ¬ X b o) : w'.cell? ⟨b, o, none⟩ = some v := by
  have hb := cell_lt hc
  cases hh : w.heap[b]? with
  | none => simp [World.cell?, hh] at hc
  | some ob =>
    cases ob with
    | cells C t fr =>
      obtain ⟨C', h1, h2, h3⟩ := h.cells b C t fr hh ⟨o, hx⟩
      rw [cell_of_row w b o C t fr hh] at hc
      rw [cell_of_row w' b o C' t fr h1, h3 o hx]
      exact hc
    | _ => simp [World.cell?, hh] at hc
theorem UpdC.frozen {X : Nat → Nat → Prop} {w w' : World} (h : UpdC X w w') {b o : Nat} {v : Value} (hc : w.cell? ⟨b, o, none⟩ = some v) (hx : ∃ o, ¬ X b o) : w'.frozen? ⟨b, o, none⟩ = w.frozen? ⟨b, o, none⟩ := by
  cases hh : w.heap[b]? with
  | none => simp [World.cell?, hh] at hc
  | some ob =>
    cases ob with
    | cells C t fr =>
      obtain ⟨C', h1, h2, h3⟩ := h.cells b C t fr hh hx
      simp [World.frozen?, hh, h1]
    | _ => simp [World.cell?, hh] at hc
end Go.Proofs.YthkbchefjagbbaaGreatDoor.Line

namespace Go.Proofs.YthkbchefjagbbaaGreatDoor.Line
open Go.ChangeShapes Go.WideShapes Go.ChangeAt Go.RowKit
open Ex (E St)
set_option linter.unusedVariables false

abbrev EXT : TypeId := 24
abbrev PPT : TypeId := 276
abbrev PPS : TypeId := 299
theorem infoPP : (Tryz.prog.info? PPT).map (fun i => (i.zero, i.size, i.bytes)) = some (some (.pointer none), 1, 8) := by kernel_rfl
/-- a place, and the trees that are told there -/
abbrev Hole : Type := Nat × Nat × List E
def ptrV (x : Hole) : Value := .pointer (some ⟨x.1, x.2.1, none⟩)
/-- a tree's row as a list of cells -/
theorem forest_news {W : World} {S : Nat → Prop} {l : List E} {v : Value} (h : Forest W S l v) : ∃ a c ys, v = .slice a l.length c ∧ SliceHas W a l.length (flatF ys) ∧ ys.map (·.1) = l ∧ (∀ y ∈ ys, Forest W S y.1.a y.2) ∧ (∀ u ∈ flatF ys, u.oneCell' = true) ∧ (∀ b o, a = some ⟨b, o, none⟩ → 0 < l.length → S b) := by
  cases h with
  | nil a cap => exact ⟨a, cap, [], rfl, .inl rfl, rfl, (fun y hy => by cases hy), (fun u hu => by cases hu), (fun _ _ _ h => absurd h (Nat.lt_irrefl 0))⟩
  | row _ b off cap sl hS hcap hmax hc hf =>
    have hmem : ∀ y ∈ List.ofFn (fun i : Fin l.length => (l[i], sl i)), ∃ i, ∃ h : i < l.length, y = (l[i], sl i) := fun y hy => by
      obtain ⟨i, rfl⟩ := List.mem_ofFn.1 hy
      exact ⟨i.1, i.2, rfl⟩
    refine ⟨some ⟨b, off, none⟩, cap, List.ofFn (fun i : Fin l.length => (l[i], sl i)), rfl, .inr ⟨b, off, rfl, fun j v hv => ?_⟩, ?_, fun y hy => ?_, fun u hu => ?_, fun b' o' e _ => ?_⟩
    · have hj := (List.getElem?_eq_some_iff.1 hv).1
      rw [flatF_length, List.length_ofFn] at hj
      have hi : j / 4 < l.length := by omega
      obtain ⟨f0, f1, f2, f3⟩ := flatF_at (List.ofFn (fun i : Fin l.length => (l[i], sl i))) (j / 4) (by rw [List.length_ofFn]; exact hi)
      simp only [List.getElem_ofFn] at f0 f1 f2 f3
      obtain ⟨c0, c1, c2, c3⟩ := hc (j / 4) hi
      have h4 : j % 4 = 0 ∨ j % 4 = 1 ∨ j % 4 = 2 ∨ j % 4 = 3 := by omega
      rcases h4 with h4 | h4 | h4 | h4
      · rw [show j = j / 4 * 4 by omega] at hv ⊢
        rw [f0] at hv; rw [← hv]; exact c0
      · rw [show j = j / 4 * 4 + 1 by omega] at hv ⊢
        rw [f1] at hv; rw [← hv]; exact c1
      · rw [show j = j / 4 * 4 + 2 by omega] at hv ⊢
        rw [f2] at hv; rw [← hv]; exact c2
      · rw [show j = j / 4 * 4 + 3 by omega] at hv ⊢
        rw [f3] at hv; rw [← hv]; exact c3
    · apply List.ext_getElem
      · rw [List.length_map, List.length_ofFn]
      · intro i h1 h2
        simp
    · obtain ⟨i, hi, rfl⟩ := hmem y hy
      exact hf i hi
    · obtain ⟨y, hy, hu⟩ := List.mem_flatMap.1 hu
      obtain ⟨i, hi, rfl⟩ := hmem y hy
      obtain ⟨a', c', e⟩ := (hf i hi).shape
      simp only [treeC, List.mem_cons, List.not_mem_nil, or_false] at hu
      rw [e] at hu
      rcases hu with rfl | rfl | rfl | rfl <;> rfl
    · injection e with e
      injection e with e
      exact e ▸ hS
/-- the trees of roots R are copied: those of P are still to be -/
structure PInv (w wr : World) (base : Nat) (Stb : Nat → Prop) (R : List Hole) (lv : Value) (P : List Hole) (Nn : Nat → Prop) : Prop where
  row : wr.ownsRow base PPT 1 lv P.length (P.map ptrV)
  pend : ∀ x ∈ P, ∃ v, wr.cell? ⟨x.1, x.2.1, none⟩ = some v ∧ Forest wr Stb x.2.2 v ∧ wr.frozen? ⟨x.1, x.2.1, none⟩ = false ∧ ((Nn x.1 ∧ x.2.1 % 4 = 3) ∨ (∃ y ∈ R, y.1 = x.1 ∧ y.2.1 = x.2.1))
  roots : ∀ x ∈ R, ∃ v, wr.cell? ⟨x.1, x.2.1, none⟩ = some v ∧ CF wr Nn Stb x.2.2 v ∧ wr.frozen? ⟨x.1, x.2.1, none⟩ = false
  dist : (P.map fun x => (x.1, x.2.1)).Nodup
  rblk : ∀ x ∈ R, x.1 < base ∧ ¬ Stb x.1
  nn : ∀ b, Nn b → w.heap.size ≤ b ∧ b < wr.heap.size ∧ some b ≠ lv.ownBlock
  stb : ∀ b, Stb b → b < base
  hb : base ≤ w.heap.size
  upd : UpdC (fun b o => base ≤ b ∨ ∃ x ∈ R, x.1 = b ∧ x.2.1 = o) w wr
theorem PInv.top {w wr : World} {base : Nat} {Stb : Nat → Prop} {R : List Hole} {lv : Value} {P : List Hole} {x : Hole} {Nn : Nat → Prop} (h : PInv w wr base Stb R lv (P ++ [x]) Nn) : ∃ q cap, lv = .slice (some ⟨q, 0, none⟩) (P.length + 1) cap ∧ P.length + 1 ≤ cap ∧ wr.cell? ⟨q, P.length, none⟩ = some (ptrV x) ∧ base ≤ q ∧ q < wr.heap.size := by
  have hrow := h.row
  rw [List.length_append, List.length_singleton] at hrow
  rcases hrow.2 with ⟨e, h5⟩ | ⟨q, cap, cur, e, hg, hh, hc, _⟩
  · exact absurd h5 (Nat.succ_ne_zero _)
  · subst e
    refine ⟨q, cap, rfl, hc, ?_, hg, (hrow.lt q rfl).2⟩
    rw [World.ownsRow.cellAt hrow _ (by omega), List.map_append, List.getElem?_append_right (by simp), List.length_map, Nat.sub_self]
    rfl
theorem PInv.pop {w wr : World} {base : Nat} {Stb : Nat → Prop} {R : List Hole} {q cap : Nat} {P : List Hole} {x : Hole} {Nn : Nat → Prop} (h : PInv w wr base Stb R (.slice (some ⟨q, 0, none⟩) (P.length + 1) cap) (P ++ [x]) Nn) : PInv w wr base Stb R (.slice (some ⟨q, 0, none⟩) P.length cap) P Nn := by
  have hrow := h.row
  rw [List.length_append, List.length_singleton, List.map_append] at hrow
  exact ⟨row_shrink hrow (by simp), fun y hy => h.pend y (List.mem_append_left _ hy), h.roots, by have := h.dist; rw [List.map_append] at this; exact (List.nodup_append.1 this).1, h.rblk, h.nn, h.stb, h.hb, h.upd⟩
/-- one row is copied, and its copy stored -/
theorem PInv.put {w wr w1 : World} {base : Nat} {Stb : Nat → Prop} {R : List Hole} {q cap : Nat} {P : List Hole} {x : Hole} {Nn : Nat → Prop} {v v' : Value} {ys : List (E × Value)} (h : PInv w wr base Stb R (.slice (some ⟨q, 0, none⟩) P.length cap) P Nn)
    (hxP : ∀ z ∈ P, ¬ (z.1 = x.1 ∧ z.2.1 = x.2.1)) (hx : (Nn x.1 ∧ x.2.1 % 4 = 3) ∨ (∃ y ∈ R, y.1 = x.1 ∧ y.2.1 = x.2.1)) (hc : wr.cell? ⟨x.1, x.2.1, none⟩ = some v) (hF : Forest wr Stb x.2.2 v) (hq : q < wr.heap.size) {a : Option Addr} {c : Nat} (hv : v = .slice a x.2.2.length c) (hs : SliceHas wr a x.2.2.length (flatF ys)) (hy : ys.map (·.1) = x.2.2) (hyf : ∀ y ∈ ys, Forest wr Stb y.1.a y.2) (haS : ∀ b o, a = some ⟨b, o, none⟩ → 0 < x.2.2.length → Stb b)
    (ho : w1.ownsRow wr.heap.size EXT 4 v' x.2.2.length (flatF ys)) (hb : Below wr.heap.size wr w1) :
    PInv w (w1.setCell ⟨x.1, x.2.1, none⟩ v') base Stb R (.slice (some ⟨q, 0, none⟩) P.length cap) P (fun b => Nn b ∨ some b = v'.ownBlock) ∧ (w1.setCell ⟨x.1, x.2.1, none⟩ v').cell? ⟨x.1, x.2.1, none⟩ = some v' ∧ (w1.setCell ⟨x.1, x.2.1, none⟩ v').ownsRow wr.heap.size EXT 4 v' x.2.2.length (flatF ys) := by
  have hxl := cell_lt hc
  have hsz := hb.size
  have hws := h.upd.size
  have hbb := h.hb
  have hlen : ys.length = x.2.2.length := by rw [← hy, List.length_map]
  have hn1 : ∀ b, some b = v'.ownBlock → wr.heap.size ≤ b ∧ b < w1.heap.size := fun b e => ho.lt b e.symm
  have hxS : ¬ Stb x.1 := fun hS => by
    have := h.stb _ hS
    rcases hx with ⟨h1, _⟩ | ⟨y, hy, h1, _⟩
    · have := (h.nn _ h1).1; omega
    · exact (h.rblk y hy).2 (h1 ▸ hS)
  have hxq : x.1 ≠ q := fun e => by
    rcases h.row.2 with ⟨e2, _⟩ | ⟨g, cp, cur, e2, hg, _⟩
    · cases e2
    · injection e2 with e2 _ _
      injection e2 with e2
      injection e2 with e2
      rcases hx with ⟨h1, _⟩ | ⟨y, hy, h1, _⟩
      · exact (h.nn _ h1).2.2 (by rw [e]; rfl)
      · have := (h.rblk y hy).1; omega
  have hN2 : ∀ b, Stb b → ¬ some b = v'.ownBlock := fun b hS e => by have := (hn1 b e).1; have := h.stb b hS; omega
  -- the new row, behind the store
  have hrow2 : (w1.setCell ⟨x.1, x.2.1, none⟩ v').ownsRow wr.heap.size EXT 4 v' x.2.2.length (flatF ys) := ownsRow_of ho (fun k hk => set_heap (by have := (hn1 k hk.symm).1; omega))
  -- what lay there is as it was
  have hst : ∀ b, Stb b → b < wr.heap.size → (w1.setCell ⟨x.1, x.2.1, none⟩ v').heap[b]? = wr.heap[b]? := fun b hS hl => (set_heap (fun e => hxS (by rw [← e]; exact hS))).trans (hb.block b hl)
  have hfor : ∀ {l : List E} {u : Value}, Forest wr Stb l u → Forest (w1.setCell ⟨x.1, x.2.1, none⟩ v') Stb l u := fun h => h.keep (fun b hS hl => hst b hS hl) (fun _ h _ => h)
  -- the copy says what the row says
  have hcopy : ∀ l0, CF (w1.setCell ⟨x.1, x.2.1, none⟩ v') (fun b => Nn b ∨ some b = v'.ownBlock) Stb l0 v → CF (w1.setCell ⟨x.1, x.2.1, none⟩ v') (fun b => Nn b ∨ some b = v'.ownBlock) Stb l0 v' := by
    intro l0 h0
    by_cases hn : x.2.2.length = 0
    · obtain ⟨a0, c0, e0⟩ := h0.shape
      rw [hv] at e0
      injection e0 with _ e0 _
      have : l0 = [] := List.length_eq_zero_iff.1 (by omega)
      subst this
      rcases ho.2 with ⟨e, _⟩ | ⟨g, cp, cur, e, _⟩
      · rw [e]; exact .nil _ _
      · rw [e, hn]; exact .nil _ _
    · rcases hs with hs | ⟨b, o, ea, hr⟩
      · exact absurd hs hn
      · rcases hrow2.2 with ⟨_, e⟩ | ⟨g, cp, cur, e, hg, hh, hcp, hmx, _⟩
        · exact absurd e hn
        · rw [hv, ea] at h0
          have hbS : Stb b := haS b o ea (by omega)
          have hjl : ∀ j, j < x.2.2.length * 4 → j < (flatF ys).length := fun j hj => by rw [flatF_length, hlen]; exact hj
          have h9 := h0.copy (g := g) (cap := cp) (.inr (by rw [e]; rfl)) hcp hmx (fun j hj => by
            have h1 : (w1.setCell ⟨x.1, x.2.1, none⟩ v').cell? ⟨b, o + j, none⟩ = some ((flatF ys)[j]'(hjl j hj)) := (World.cell?_of_block (a := ⟨b, o + j, none⟩) (hst b hbS (cell_lt (hr j _ (List.getElem?_eq_getElem (hjl j hj)))))).trans (hr j _ (List.getElem?_eq_getElem (hjl j hj)))
            have h2 : (w1.setCell ⟨x.1, x.2.1, none⟩ v').cell? ⟨g, j, none⟩ = some ((flatF ys)[j]'(hjl j hj)) := (World.ownsRow.cells hrow2 (by rw [e]; rfl) j _ (List.getElem?_eq_getElem (hjl j hj)) |> fun h => by rw [Addr.add_mid, Nat.zero_add] at h; exact h)
            rw [h1, h2])
          rw [← e] at h9
          exact h9
  have hCF : ∀ {l : List E} {u : Value}, CF wr Nn Stb l u → CF (w1.setCell ⟨x.1, x.2.1, none⟩ v') (fun b => Nn b ∨ some b = v'.ownBlock) Stb l u := fun {l u} h0 => by
    have h1 : CF w1 (fun b => Nn b ∨ some b = v'.ownBlock) Stb l u := h0.keep (fun b _ hl => hb.block b hl) (fun b hN _ => .inl hN) (fun _ h _ => h)
    rcases hx with ⟨hN, hm⟩ | ⟨y, hy, e1, e2⟩
    · have e : x.2.1 = x.2.1 / 4 * 4 + 3 := by omega
      rw [e] at hcopy ⊢
      refine h1.swap (.inl hN) hxS ?_ hcopy
      rw [← e]
      exact (hb.cell (p := ⟨x.1, x.2.1, none⟩) hxl).trans hc
    · refine h1.keep (fun b hb2 hl => set_heap (fun e => ?_)) (fun _ h _ => h) (fun _ h _ => h)
      have hrb := h.rblk y hy
      rcases hb2 with (hN | hN) | hS
      · have := (h.nn b hN).1; omega
      · have := (hn1 b hN).1; omega
      · exact hxS (by rw [← e]; exact hS)
  have hcell : (w1.setCell ⟨x.1, x.2.1, none⟩ v').cell? ⟨x.1, x.2.1, none⟩ = some v' := World.cell?_setCell_same _ _ _ ((hb.cell (p := ⟨x.1, x.2.1, none⟩) hxl).trans hc)
  have hfrz : ∀ b o, b < wr.heap.size → (w1.setCell ⟨x.1, x.2.1, none⟩ v').frozen? ⟨b, o, none⟩ = wr.frozen? ⟨b, o, none⟩ := fun b o hl => by
    rw [World.frozen?_setCell]; exact hb.frozen (p := ⟨b, o, none⟩) hl
  have hsame : ∀ b o u, wr.cell? ⟨b, o, none⟩ = some u → ¬ (b = x.1 ∧ o = x.2.1) → (w1.setCell ⟨x.1, x.2.1, none⟩ v').cell? ⟨b, o, none⟩ = some u := fun b o u h1 h2 => by
    rw [set_other (by by_cases hb2 : b = x.1 <;> by_cases ho2 : o = x.2.1 <;> simp_all)]
    exact (hb.cell (p := ⟨b, o, none⟩) (cell_lt h1)).trans h1
  refine ⟨⟨ownsRow_of h.row (fun k hk => ?_), fun z hz => ?_, fun z hz => ?_, h.dist, h.rblk, fun b hN => ?_, h.stb, h.hb, h.upd.trans ((UpdC.below hb).trans (UpdC.set _ _ _ _ ?_))⟩, hcell, hrow2⟩
  · have : q = k := Option.some.inj hk
    subst this
    exact (set_heap (fun e => hxq e.symm)).trans (hb.block q hq)
  · obtain ⟨u, h1, h2, h3, h4⟩ := h.pend z hz
    have h4' : ((Nn z.1 ∨ some z.1 = v'.ownBlock) ∧ z.2.1 % 4 = 3) ∨ (∃ y ∈ R, y.1 = z.1 ∧ y.2.1 = z.2.1) := h4.imp (fun h => ⟨.inl h.1, h.2⟩) id
    exact ⟨u, hsame _ _ _ h1 (hxP z hz), hfor h2, (hfrz _ _ (cell_lt h1)).trans h3, h4'⟩
  · obtain ⟨u, h1, h2, h3⟩ := h.roots z hz
    by_cases he : z.1 = x.1 ∧ z.2.1 = x.2.1
    · obtain ⟨e1, e2⟩ := he
      rw [e1, e2] at h1 h3 ⊢
      rw [hc] at h1
      injection h1 with h1
      subst h1
      exact ⟨v', hcell, hcopy _ (hCF h2), (hfrz _ _ hxl).trans h3⟩
    · exact ⟨u, hsame _ _ _ h1 he, hCF h2, (hfrz _ _ (cell_lt h1)).trans h3⟩
  · have hs2 : (w1.setCell ⟨x.1, x.2.1, none⟩ v').heap.size = w1.heap.size := by simp [World.setCell]
    rcases hN with hN | hN
    · have := h.nn b hN
      exact ⟨this.1, by omega, this.2.2⟩
    · have := hn1 b hN
      exact ⟨by omega, by omega, fun e => by have e : b = q := Option.some.inj e; omega⟩
  · rcases hx with ⟨hN, _⟩ | hR
    · exact .inl (by have := (h.nn _ hN).1; omega)
    · exact .inr hR
/-- one more is to be copied -/
theorem PInv.push {w wr : World} {base : Nat} {Stb : Nat → Prop} {R : List Hole} {lv : Value} {P : List Hole} {x : Hole} {Nn : Nat → Prop} {v : Value} (h : PInv w wr base Stb R lv P Nn) (hx : Nn x.1 ∧ x.2.1 % 4 = 3) (hc : wr.cell? ⟨x.1, x.2.1, none⟩ = some v) (hF : Forest wr Stb x.2.2 v) (hfr : wr.frozen? ⟨x.1, x.2.1, none⟩ = false) (hd : ∀ z ∈ P, ¬ (z.1 = x.1 ∧ z.2.1 = x.2.1)) (hP : P.length ≤ 1000000) :
    ∃ lv' w9, (Builtin.append_ #[PPS, PPS] PPS #[lv, .slice (some ⟨wr.heap.size, 0, none⟩) 1 1]).run Tryz.prog (wr.alloc (.cells #[ptrV x] PPT)) = .ok lv' w9 ∧ PInv w w9 base Stb R lv' (P ++ [x]) Nn ∧ Upd (fun b => some b = lv.ownBlock) wr w9 := by
  obtain ⟨i0, hi, hz0, hz1, hz2⟩ := info_parts infoPP
  have hws := h.upd.size
  have hbb := h.hb
  have hsz : (wr.alloc (.cells #[ptrV x] PPT)).heap.size = wr.heap.size + 1 := by simp
  have ba := alloc_below wr (.cells #[ptrV x] PPT)
  obtain ⟨lv', w9, hr, ho, hg, _, hat⟩ := run_append_own_at (P := Tryz.prog) (wr.alloc (.cells #[ptrV x] PPT)) base PPS PPS PPT i0 _ 1 8 Tryz.underlying299 hi hz0 hz1 hz2 rfl (by decide) lv P.length (P.map ptrV) (h.row.alloc _) ⟨wr.heap.size, 0, none⟩ 1 1 [ptrV x] rfl
    (World.news_of_block (cs := #[ptrV x]) (t := PPT) (fr := (0, 0)) (heap_alloc_last wr _)) (fun u hu => by rw [List.mem_singleton.1 hu]; rfl) (by unfold maxLen; omega) (by omega) (by omega)
  rw [hsz] at hat
  have hup : Upd (fun b => some b = lv.ownBlock) wr w9 := ⟨hg.os.trans ba.os, hg.tape.trans ba.tape, hg.output.trans ba.output, Nat.le_trans ba.size hg.size, fun b h1 h2 => (hg.block b (by omega) h2).trans (ba.block b h1)⟩
  have hlb : ∀ b, some b = lv.ownBlock → base ≤ b ∧ b < wr.heap.size := fun b e => h.row.lt b e.symm
  have hnb : ∀ b, b < wr.heap.size → some b ≠ lv.ownBlock → some b ≠ lv'.ownBlock := fun b h1 h2 e => by
    rcases hat with e2 | e2
    · exact h2 (by rw [e, e2])
    · rw [e2] at e; injection e with e; omega
  have hold : ∀ b o u, wr.cell? ⟨b, o, none⟩ = some u → some b ≠ lv.ownBlock → w9.cell? ⟨b, o, none⟩ = some u ∧ w9.frozen? ⟨b, o, none⟩ = wr.frozen? ⟨b, o, none⟩ := fun b o u h1 h2 => by
    have hb := hup.block b (cell_lt h1) h2
    exact ⟨(World.cell?_of_block (a := ⟨b, o, none⟩) hb).trans h1, World.frozen?_of_block (a := ⟨b, o, none⟩) hb⟩
  have hstb : ∀ b, Stb b → ¬ some b = lv.ownBlock := fun b hS e => by have := (hlb b e).1; have := h.stb b hS; omega
  have hnn : ∀ b, Nn b → ¬ some b = lv.ownBlock := fun b hN => (h.nn b hN).2.2
  have hfor : ∀ {l : List E} {u : Value}, Forest wr Stb l u → Forest w9 Stb l u := fun h => h.keep (fun b hS hl => hup.block b hl (hstb b hS)) (fun _ h _ => h)
  have hrt : ∀ y ∈ R, some y.1 ≠ lv.ownBlock := fun y hy e => by have := (hlb _ e).1; have := (h.rblk y hy).1; omega
  refine ⟨lv', w9, hr, ⟨?_, fun z hz => ?_, fun z hz => ?_, ?_, h.rblk, fun b hN => ?_, h.stb, h.hb, h.upd.trans ⟨hup.os, hup.tape, hup.output, hup.size, fun b h1 h2 => hup.block b h1 (fun e => h2 0 (.inl (hlb b e).1)), fun b C t fr hc2 hx2 => ?_⟩⟩, hup⟩
  · rw [List.map_append, List.length_append, List.length_singleton]; exact ho
  · rcases List.mem_append.1 hz with hz | hz
    · obtain ⟨u, h1, h2, h3, h4⟩ := h.pend z hz
      have hzb : some z.1 ≠ lv.ownBlock := by
        rcases h4 with ⟨hN, _⟩ | ⟨y, hy, e1, _⟩
        · exact hnn _ hN
        · rw [← e1]; exact hrt y hy
      obtain ⟨k1, k2⟩ := hold _ _ _ h1 hzb
      exact ⟨u, k1, hfor h2, k2.trans h3, h4⟩
    · rw [List.mem_singleton.1 hz]
      obtain ⟨k1, k2⟩ := hold _ _ _ hc (hnn _ hx.1)
      exact ⟨v, k1, hfor hF, k2.trans hfr, .inl hx⟩
  · obtain ⟨u, h1, h2, h3⟩ := h.roots z hz
    obtain ⟨k1, k2⟩ := hold _ _ _ h1 (hrt z hz)
    exact ⟨u, k1, h2.keep (fun b hb hl => hup.block b hl (by rcases hb with hb | hb; exact hnn b hb; exact hstb b hb)) (fun _ h _ => h) (fun _ h _ => h), k2.trans h3⟩
  · rw [List.map_append]
    refine List.nodup_append.2 ⟨h.dist, by simp, fun a ha b hb e => ?_⟩
    obtain ⟨z, hz, rfl⟩ := List.mem_map.1 ha
    simp only [List.map_cons, List.map_nil, List.mem_singleton] at hb
    rw [hb] at e
    injection e with e1 e2
    exact hd z hz ⟨e1, e2⟩
  · have := h.nn b hN
    exact ⟨this.1, Nat.lt_of_lt_of_le this.2.1 hup.size, hnb b this.2.1 this.2.2⟩
  · have hbl := (Array.getElem?_eq_some_iff.1 hc2).1
    refine ⟨C, (hup.block b hbl (fun e => ?_)).trans hc2, rfl, fun _ _ => rfl⟩
    obtain ⟨o, ho2⟩ := hx2
    exact ho2 (.inl (hlb b e).1)
end Go.Proofs.YthkbchefjagbbaaGreatDoor.Line

namespace Go.Proofs.YthkbchefjagbbaaGreatDoor.Line
open Go.ChangeShapes Go.WideShapes Go.ChangeAt Go.RowKit
open Ex (E St)
set_option linter.unusedVariables false

/-- how much is still to be copied -/
def work (P : List Hole) : Nat := (P.map fun x => 1 + szL x.2.2).sum
theorem work_snoc (P : List Hole) (x : Hole) : work (P ++ [x]) = work P + (1 + szL x.2.2) := by simp [work]
theorem work_len (P : List Hole) : P.length ≤ work P := by
  induction P with
  | nil => exact Nat.zero_le _
  | cons x P ih =>
    have : work (x :: P) = (1 + szL x.2.2) + work P := by simp [work]
    rw [this, List.length_cons]; omega
theorem szL_len (l : List E) : l.length ≤ szL l := by
  induction l with
  | nil => exact Nat.zero_le _
  | cons x l ih => rw [szL_cons, List.length_cons]; omega
theorem work_app (P Q : List Hole) : work (P ++ Q) = work P + work Q := by simp [work]
theorem PInv.apart {w wr : World} {base : Nat} {Stb : Nat → Prop} {R : List Hole} {lv : Value} {P : List Hole} {Nn : Nat → Prop} {b : Nat} (h : PInv w wr base Stb R lv P Nn) (hb : Nn b ∨ ∃ y ∈ R, y.1 = b) : some b ≠ lv.ownBlock := fun e => by
  have hl := h.row.lt b e.symm
  rcases hb with hb | ⟨y, hy, rfl⟩
  · exact (h.nn b hb).2.2 e
  · have := (h.rblk y hy).1; omega
def pushed (g : Nat) (ys : List (E × Value)) (i : Nat) : List Hole := (List.range i).map fun j => (g, j * 4 + 3, (ys[j]?.map fun y => y.1.a).getD [])
theorem pushed_succ (g : Nat) (ys : List (E × Value)) (i : Nat) (h : i < ys.length) : pushed g ys (i + 1) = pushed g ys i ++ [(g, i * 4 + 3, ys[i].1.a)] := by
  unfold pushed
  rw [List.range_succ, List.map_append]
  simp [h]
theorem pushed_work (g : Nat) (ys : List (E × Value)) : ∀ i, i ≤ ys.length → work (pushed g ys i) = szL ((ys.map (·.1)).take i)
  | 0, _ => by simp [pushed, work, szL]
  | i + 1, h => by
    rw [pushed_succ g ys i h, work_snoc, pushed_work g ys i (by omega), szL_take _ i (by rw [List.length_map]; exact h)]
    simp
theorem pushed_mem {g : Nat} {ys : List (E × Value)} {i : Nat} {z : Hole} (h : z ∈ pushed g ys i) : ∃ j, j < i ∧ z.1 = g ∧ z.2.1 = j * 4 + 3 := by
  obtain ⟨j, hj, rfl⟩ := List.mem_map.1 h
  exact ⟨j, List.mem_range.1 hj, rfl, rfl⟩
theorem snoc_cases {α : Type} (P : List α) : P = [] ∨ ∃ Q x, P = Q ++ [x] := by
  rcases List.eq_nil_or_concat P with h | ⟨Q, x, h⟩
  · exact .inl h
  · exact .inr ⟨Q, x, by rw [h, List.concat_eq_append]⟩
/-- the inner loop: the copy lies at the place, its parts are to be copied next -/
def InPart (w wr : World) (base : Nat) (Stb : Nat → Prop) (R : List Hole) (lv : Value) (P : List Hole) (Nn : Nat → Prop) (x : Hole) (B : Nat) (v' : Value) (ys : List (E × Value)) : Prop :=
  PInv w wr base Stb R lv P Nn ∧ wr.cell? ⟨x.1, x.2.1, none⟩ = some v' ∧ wr.ownsRow B EXT 4 v' x.2.2.length (flatF ys) ∧ (∀ y ∈ ys, Forest wr Stb y.1.a y.2) ∧ (∀ b, some b = v'.ownBlock → Nn b) ∧ some x.1 ≠ lv.ownBlock
set_option maxHeartbeats 8000000 in
set_option maxRecDepth 100000 in
theorem ownParts_any (w : World) (base : Nat) (Stb : Nat → Prop) (R : List Hole) (lv : Value) (h : PInv w w base Stb R lv R (fun _ => False)) (hw : work R ≤ 900000) :
    Calls Tryz.prog 173 #[lv] w fun e w' => e = .returned (.tuple #[]) ∧ UpdC (fun b o => base ≤ b ∨ ∃ x ∈ R, x.1 = b ∧ x.2.1 = o) w w' ∧ ∀ x ∈ R, ∃ v', w'.cell? ⟨x.1, x.2.1, none⟩ = some v' ∧ Forest w' (fun b => Stb b ∨ w.heap.size ≤ b) x.2.2 v' := by
  have H0 : Hid (PInv w w base Stb R lv R (fun _ => False)) := hide h
  obtain ⟨la, lc, hlv⟩ : ∃ a c, lv = .slice a R.length c := by
    rcases h.row.2 with ⟨e, h5⟩ | ⟨g, cap, cur, e, _⟩
    · exact ⟨none, 0, by rw [e, h5]⟩
    · exact ⟨_, cap, e⟩
  subst hlv
  clear h
  go_enter Tryz.func173, Tryz.ntmps173
  go_wp2_with fail
  go_loopg [0] (work R) (fun k sv wr => ∃ lv P Nn, sv = lv ∧ work P ≤ k ∧ work P ≤ 900000 ∧ Hid (PInv w wr base Stb R lv P Nn))
  case atStart => exact ⟨_, R, _, rfl, Nat.le_refl _, hw, H0⟩
  case round =>
    generalize wr = wo at *
    obtain ⟨lv, P, Nn, hlv, hk, hk2, HI⟩ := hrel
    rcases snoc_cases P with hP | ⟨Q, x, hP⟩
    · subst hP
      obtain ⟨a, cap, hx⟩ : ∃ a cap, lv = .slice a 0 cap := by
        rcases (unhide HI).row.2 with ⟨hx, _⟩ | ⟨g, cap, cur, hx, _⟩
        · exact ⟨none, 0, hx⟩
        · exact ⟨_, cap, hx⟩
      subst hx
      subst hlv
      go_wp2
      go_end0
      refine ⟨rfl, (unhide HI).upd, fun x hx => ?_⟩
      obtain ⟨u, h1, h2, h3⟩ := (unhide HI).roots x hx
      exact ⟨u, h1, h2.forest (fun b hb => .inr ((unhide HI).nn b hb).1) (fun b hb => .inl hb)⟩
    · subst hP
      obtain ⟨q, cap, hx, hcap, hcell, hqb, hql⟩ := (unhide HI).top
      subst hx
      subst hlv
      have hlen := work_len (Q ++ [x])
      rw [List.length_append, List.length_singleton] at hlen
      obtain ⟨v, pc, pF, pf, pp⟩ := (unhide HI).pend x (by simp)
      obtain ⟨a, c, ys, hv, hs, hy, hyf, hone, haS⟩ := forest_news pF
      have hxl := cell_lt pc
      have hdist := (unhide HI).dist
      rw [List.map_append] at hdist
      have hxQ : ∀ z ∈ Q, ¬ (z.1 = x.1 ∧ z.2.1 = x.2.1) := fun z hz e => (List.nodup_append.1 hdist).2.2 (z.1, z.2.1) (List.mem_map.2 ⟨z, hz, rfl⟩) (x.1, x.2.1) (List.mem_singleton.2 rfl) (by rw [e.1, e.2])
      have hyl : ys.length = x.2.2.length := by rw [← hy, List.length_map]
      rw [work_snoc] at hk hk2 hlen
      have hsz := szL_len x.2.2
      have HOW := hide (ownX_any wo a x.2.2.length c (flatF ys) (by rw [flatF_length, hyl]) hs hone (by omega))
      have HPOP := hide (unhide HI).pop
      have HX := hide (And.intro pp (And.intro pF (And.intro hv (And.intro hs (And.intro hy (And.intro hyf (And.intro haS hxQ)))))))
      subst hv
      have hxq : ¬ x.1 = q := fun e => by
        rcases pp with ⟨h1, _⟩ | ⟨y, hy, h1, _⟩
        · exact ((unhide HI).nn _ h1).2.2 (by rw [e]; rfl)
        · have := ((unhide HI).rblk y hy).1; omega
      unfold ptrV at hcell
      have HPP : Hid (Nn x.1 ∨ ∃ y ∈ R, y.1 = x.1) := hide (pp.imp (fun h => h.1) (fun ⟨y, hy, h1, _⟩ => ⟨y, hy, h1⟩))
      have HQB : Hid (∀ z ∈ Q, z.1 < wo.heap.size) := hide (fun z hz => by
        obtain ⟨u, h1, _⟩ := (unhide HI).pend z (List.mem_append_left _ hz)
        exact cell_lt h1)
      clear HI pp pF hs hy hyf hone haS hxQ hdist
      generalize hql2 : Q.length = ql at *
      generalize hnl : x.2.2.length = nl at *
      have i1 : (ql : Int) ≤ cap := by omega
      have i2 : (0 : Int) ≤ ql := by omega
      have i3 : (ql : Int) < ql + 1 := by omega
      have i4 : IntKind.i64.wrap (ql : Int) = ql := by rw [IntKind.wrap_i64]; omega
      have i5 : (0 : Int) < (ql : Int) + 1 := by omega
      go_wp2_with fail
      refine (unhide HOW).mono ?_
      rintro e w1 ⟨v', rfl, ho1, hb1⟩
      have pc1 := (hb1.cell (p := ⟨x.1, x.2.1, none⟩) hxl).trans pc
      have pf1 := (hb1.frozen (p := ⟨x.1, x.2.1, none⟩) hxl).trans pf
      obtain ⟨va, vc, hvs, hva⟩ : ∃ va vc, v' = .slice va nl vc ∧ (0 < nl → ∃ g, va = some ⟨g, 0, none⟩ ∧ nl ≤ vc) := by
        rcases ho1.2 with ⟨e, h5⟩ | ⟨g, cp, cur, e, _, _, hcp, _⟩
        · exact ⟨none, 0, by rw [e, h5], fun h => by omega⟩
        · exact ⟨_, cp, e, fun _ => ⟨g, rfl, hcp⟩⟩
      obtain ⟨hp0, hp1, hp2⟩ := PInv.put (w := w) (base := base) (R := R) (q := q) (cap := cap) (P := Q) (Nn := Nn) (Stb := Stb) (wr := wo) (x := x) (by rw [hql2]; exact unhide HPOP) (unhide HX).2.2.2.2.2.2.2 (unhide HX).1 pc (unhide HX).2.1 hql (by rw [hnl]) (by rw [hnl]; exact (unhide HX).2.2.2.1) (unhide HX).2.2.2.2.1 (unhide HX).2.2.2.2.2.1 (by rw [hnl]; exact (unhide HX).2.2.2.2.2.2.1) (by rw [hnl]; exact ho1) hb1
      have HIN : Hid (InPart w (w1.setCell ⟨x.1, x.2.1, none⟩ v') base Stb R (.slice (some ⟨q, 0, none⟩) ql cap) (Q ++ pushed ((v'.ownBlock).getD 0) ys 0) (fun b => Nn b ∨ some b = v'.ownBlock) x wo.heap.size v' ys) := hide (by
        unfold InPart
        rw [hql2] at hp0
        refine ⟨by simpa [pushed] using hp0, hp1, hp2, fun y hy => (((unhide HX).2.2.2.2.2.1 y hy).keep (fun b hS hl => (set_heap ?_).trans (hb1.block b hl)) (fun _ h _ => h)), fun b e => .inr e, fun e => hxq (Option.some.inj e)⟩
        intro e
        subst e
        have hSb := hp0.stb _ hS
        rcases (unhide HX).1 with ⟨hN, _⟩ | ⟨y, hy2, e1, _⟩
        · have := (hp0.nn _ (.inl hN)).1; have := hp0.hb; omega
        · exact (hp0.rblk y hy2).2 (by rw [e1]; exact hS))
      have HVA := hide hva
      subst hvs
      have HJ := hide (And.intro hk (And.intro hk2 (And.intro hnl (unhide HX).2.2.2.2.1)))
      clear hp0 hp1 hp2 ho1 hb1 HPOP HX hva HOW pc hk hk2 hcell
      have hcc : (w1.setCell ⟨x.1, x.2.1, none⟩ (.slice va nl vc)).cell? ⟨x.1, x.2.1, none⟩ = some (.slice va nl vc) := (unhide HIN).2.1
      go_wp2_with fail
      generalize hW2 : w1.setCell ⟨x.1, x.2.1, none⟩ (.slice va nl vc) = W2 at *
      clear hW2
      go_loopw [0, 28] (fun lv i wr2 => ∃ lw i2, lv = lw ∧ i = .int .i64 (i2 : Nat) ∧ i2 ≤ nl ∧ Hid (InPart w wr2 base Stb R lw (Q ++ pushed ((Value.ownBlock (.slice va nl vc)).getD 0) ys i2) (fun b => Nn b ∨ some b = Value.ownBlock (.slice va nl vc)) x wo.heap.size (.slice va nl vc) ys)) (fun _ i _ => nl - (intOf i).toNat)
      case atStart => exact ⟨_, 0, rfl, rfl, Nat.zero_le _, HIN⟩
      case round =>
        obtain ⟨lw, i2, hlw, rfl, hi2, HI⟩ := hrel
        by_cases hlt : i2 < nl
        · obtain ⟨g, hva, hcp⟩ := unhide HVA (by omega)
          subst hva
          have hlw2 := hlw.symm
          subst hlw2
          obtain ⟨h1, h2, h3, h4, h5, -⟩ := unhide HI
          have hyl2 : i2 < ys.length := by omega
          obtain ⟨f0, f1, f2, f3⟩ := flatF_at ys i2 hyl2
          have hgB := (h3.lt g rfl)
          have hcg : wr.cell? ⟨g, i2 * 4 + 3, none⟩ = some ys[i2].2 := by
            rw [hnl] at h3
            rw [World.ownsRow.cellAt h3 _ (by omega)]; exact f3
          have hfg : wr.frozen? ⟨g, i2 * 4 + 3, none⟩ = false := by
            rw [hnl] at h3
            exact World.ownsRow.frozenAt h3 _
          have hPl : (Q ++ pushed ((Value.ownBlock (.slice (some ⟨g, 0, none⟩) nl vc)).getD 0) ys i2).length ≤ 1000000 := by
            have : (pushed ((Value.ownBlock (.slice (some ⟨g, 0, none⟩) nl vc)).getD 0) ys i2).length = i2 := by simp [pushed]
            rw [List.length_append, this, hql2]
            have h8 := (unhide HJ).2.1
            have h9 := work_len Q
            rw [hql2] at h9
            omega
          obtain ⟨lv', w9, hr9, hpi, hup⟩ := h1.push (x := (g, i2 * 4 + 3, ys[i2].1.a)) ⟨.inr rfl, by show (i2 * 4 + 3) % 4 = 3; omega⟩ hcg (h4 _ (List.getElem_mem hyl2)) hfg (fun z hz e => by
            rcases List.mem_append.1 hz with hz | hz
            · have := unhide HQB z hz; have e1 : z.1 = g := e.1; omega
            · obtain ⟨j, hj, _, e2⟩ := pushed_mem hz
              have e3 : z.2.1 = i2 * 4 + 3 := e.2
              omega) hPl
          have hgl : some g ≠ lw.ownBlock := h1.apart (.inl (.inr rfl))
          have hxl2 : some x.1 ≠ lw.ownBlock := h1.apart ((unhide HPP).imp (fun h => .inl h) id)
          have HIN2 : Hid (InPart w w9 base Stb R lv' (Q ++ pushed ((Value.ownBlock (.slice (some ⟨g, 0, none⟩) nl vc)).getD 0) ys (i2 + 1)) (fun b => Nn b ∨ some b = Value.ownBlock (.slice (some ⟨g, 0, none⟩) nl vc)) x wo.heap.size (.slice (some ⟨g, 0, none⟩) nl vc) ys) := hide (by
            refine ⟨?_, (World.cell?_of_block (a := ⟨x.1, x.2.1, none⟩) (hup.block x.1 (cell_lt h2) hxl2)).trans h2, ownsRow_of h3 (fun k hk => by
              have : g = k := Option.some.inj hk
              subst this
              exact hup.block g hgB.2 hgl), fun y hy => (h4 y hy).keep (fun b hS hl => hup.block b hl (fun e => by
                have := (h1.row.lt b e.symm).1; have := h1.stb b hS; omega)) (fun _ h _ => h), h5, hpi.apart ((unhide HPP).imp (fun h => .inl h) id)⟩
            rw [pushed_succ _ ys i2 hyl2, ← List.append_assoc]
            exact hpi)
          have HR9 := hide hr9
          obtain ⟨lwa, lwc, hlwv⟩ : ∃ a c, lw = .slice a (Q ++ pushed ((Value.ownBlock (.slice (some ⟨g, 0, none⟩) nl vc)).getD 0) ys i2).length c := by
            rcases h1.row.2 with ⟨e, h5⟩ | ⟨g, cap, cur, e, _⟩
            · exact ⟨none, 0, by rw [e, h5]⟩
            · exact ⟨_, cap, e⟩
          clear h1 h3 h4 h5 hcg hfg hpi hup f0 f1 f2 f3 HI hr9 hPl
          have j1 : (i2 : Int) < nl := by omega
          have j2 : (0 : Int) ≤ i2 := by omega
          have j3 : (i2 : Int) ≤ 900000 := by have := (unhide HJ).2.1; omega
          unfold ptrV at HR9
          go_wp2_with (at_builtin; refine wpList_append_runG PPS rfl _ _ rfl rfl _ _ rfl rfl _ _ (unhide HR9) ?_)
          go_roundw
          case rel => exact ⟨lv', i2 + 1, rfl, by go_num, by omega, HIN2⟩
          case measure => simp [intOf]; omega
        · have hin : i2 = nl := by omega
          subst hin
          have hlt2 : ¬ (i2 : Int) < i2 := by omega
          have hlw2 := hlw.symm
          subst hlw2
          go_wp2
          go_roundg (work Q + szL x.2.2)
          case measure => have := (unhide HJ).1; omega
          case rel =>
            have hwk : work (Q ++ pushed ((Value.ownBlock (.slice va i2 vc)).getD 0) ys i2) = work Q + szL x.2.2 := by
              rw [work_app, pushed_work _ ys i2 (by omega), (unhide HJ).2.2.2, List.take_of_length_le (by omega)]
            refine ⟨_, _, _, rfl, by omega, ?_, hide (unhide HI).1⟩
            rw [hwk]
            have := (unhide HJ).2.1; omega
end Go.Proofs.YthkbchefjagbbaaGreatDoor.Line

namespace Go.Proofs.YthkbchefjagbbaaGreatDoor.Line
open Go.ChangeShapes Go.WideShapes Go.ChangeAt Go.RowKit
open Ex (E St)
set_option linter.unusedVariables false

theorem nums_news {W : World} {S : Nat → Prop} {l : List Nat} {v : Value} (h : NumsS W S v l) : ∃ a c, v = .slice a l.length c ∧ SliceHas W a l.length (ints l) := by
  rcases h with ⟨rfl, a, c, rfl⟩ | ⟨b, off, cap, rfl, hS, hc, hm, h0, hcell⟩
  · exact ⟨a, c, rfl, .inl rfl⟩
  · refine ⟨_, cap, rfl, .inr ⟨b, off, rfl, fun j u hu => ?_⟩⟩
    have hj : j < l.length := by
      have := (List.getElem?_eq_some_iff.1 hu).1
      simpa [ints] using this
    rw [hcell j hj]
    simp only [ints, List.getElem?_map, List.getElem?_eq_getElem hj, Option.map_some] at hu
    exact hu
theorem items_news {W : World} {S : Nat → Prop} {m : List (List UInt8 × List Nat)} {v : Value} (h : ItemsS W S v m) : ∃ a c ys, v = .slice a m.length c ∧ SliceHas W a m.length (flatM ys) ∧ plainI ys = m ∧ (∀ y ∈ ys, NumsS W S y.2.2 y.2.1) ∧ (∀ u ∈ flatM ys, u.oneCell' = true) := by
  rcases h with ⟨rfl, a, c, rfl⟩ | ⟨b, off, cap, dv, rfl, hS, hc, hm, h0, hcell, hd⟩
  · exact ⟨a, c, [], rfl, .inl rfl, rfl, (fun y hy => by cases hy), (fun u hu => by cases hu)⟩
  · have hmem : ∀ y ∈ List.ofFn (fun i : Fin m.length => ((m[i].1, m[i].2, dv i) : Itm)), ∃ i, ∃ h : i < m.length, y = (m[i].1, m[i].2, dv i) := fun y hy => by
      obtain ⟨i, rfl⟩ := List.mem_ofFn.1 hy
      exact ⟨i.1, i.2, rfl⟩
    refine ⟨_, cap, List.ofFn (fun i : Fin m.length => ((m[i].1, m[i].2, dv i) : Itm)), rfl, .inr ⟨b, off, rfl, fun j u hu => ?_⟩, ?_, fun y hy => ?_, fun u hu => ?_⟩
    · have hj := (List.getElem?_eq_some_iff.1 hu).1
      rw [flatM_length, List.length_ofFn] at hj
      have hi : j / 2 < m.length := by omega
      obtain ⟨f0, f1⟩ := flatM_get (List.ofFn (fun i : Fin m.length => ((m[i].1, m[i].2, dv i) : Itm))) (j / 2) (by rw [List.length_ofFn]; exact hi)
      simp only [List.getElem_ofFn] at f0 f1
      obtain ⟨c0, c1⟩ := hcell (j / 2) hi
      have h2 : j % 2 = 0 ∨ j % 2 = 1 := by omega
      rcases h2 with h2 | h2
      · rw [show j = j / 2 * 2 by omega] at hu ⊢
        rw [f0] at hu; rw [← hu]; exact c0
      · rw [show j = j / 2 * 2 + 1 by omega] at hu ⊢
        rw [f1] at hu; rw [← hu]; exact c1
    · apply List.ext_getElem
      · simp [plainI]
      · intro i h1 h2
        simp [plainI]
    · obtain ⟨i, hi, rfl⟩ := hmem y hy
      exact hd i hi
    · obtain ⟨y, hy, hu⟩ := List.mem_flatMap.1 hu
      obtain ⟨i, hi, rfl⟩ := hmem y hy
      obtain ⟨a', c', e⟩ := (hd i hi).shape
      simp only [itC, List.mem_cons, List.not_mem_nil, or_false] at hu
      rw [e] at hu
      rcases hu with rfl | rfl <;> rfl
theorem flatM_set (ys : List Itm) (i : Nat) (h : i < ys.length) (u : Value) : (flatM ys).set (i * 2 + 1) u = flatM (ys.set i (ys[i].1, ys[i].2.1, u)) := by
  induction ys generalizing i with
  | nil => simp at h
  | cons y ys ih =>
    have e : flatM (y :: ys) = .string ⟨y.1.toArray⟩ :: y.2.2 :: flatM ys := rfl
    cases i with
    | zero => rfl
    | succ i =>
      have := ih i (by simpa using h)
      rw [e, show (i + 1) * 2 + 1 = i * 2 + 1 + 1 + 1 by omega, List.set_cons_succ, List.set_cons_succ, this]
      rfl
theorem plainI_set (ys : List Itm) (i : Nat) (h : i < ys.length) (u : Value) : plainI (ys.set i (ys[i].1, ys[i].2.1, u)) = plainI ys := by
  unfold plainI
  rw [List.map_set]
  apply List.ext_getElem
  · simp
  · intro j h1 h2
    rw [List.getElem_set]
    split
    · rename_i e; subst e; simp
    · simp
theorem nums_own {base : Nat} {W : World} {v : Value} {l : List Nat} (h : W.ownsRow base I64 1 v l.length (ints l)) : NumsS W (fun b => base ≤ b) v l := nums_of h
/-- a row of items, to be read -/
theorem items_read {W : World} {base : Nat} {S : Nat → Prop} {v : Value} {ys : List Itm} (h : W.ownsRow base ITT 2 v ys.length (flatM ys)) (hS : ∀ k, v.ownBlock = some k → S k) (hd : ∀ y ∈ ys, NumsS W S y.2.2 y.2.1) : ItemsS W S v (plainI ys) := by
  have hlen : (plainI ys).length = ys.length := List.length_map ..
  rcases h.2 with ⟨rfl, h5⟩ | ⟨g, cap, cur, hv, hg, hh, hc, hm, hs, ht⟩
  · exact .inl ⟨by rw [List.length_eq_zero_iff.1 h5]; rfl, none, 0, rfl⟩
  · by_cases h0 : ys.length = 0
    · exact .inl ⟨by rw [List.length_eq_zero_iff.1 h0]; rfl, some ⟨g, 0, none⟩, cap, by rw [hv, h0]⟩
    · subst hv
      refine .inr ⟨g, 0, cap, fun i => (ys[i]?.map (·.2.2)).getD .nilIface, by rw [hlen], hS g rfl, by omega, hm, by omega, fun i hi => ?_, fun i hi => ?_⟩
      · rw [hlen] at hi
        have f0 := flatM_get ys i hi
        have c0 := World.ownsRow.cellAt h (i * 2) (by omega)
        have c1 := World.ownsRow.cellAt h (i * 2 + 1) (by omega)
        simp only [Nat.zero_add, plainI, List.getElem_map, List.getElem?_eq_getElem hi, Option.map_some, Option.getD_some]
        exact ⟨c0.trans f0.1, c1.trans f0.2⟩
      · rw [hlen] at hi
        simp only [plainI, List.getElem_map, List.getElem?_eq_getElem hi, Option.map_some, Option.getD_some]
        exact hd _ (List.getElem_mem hi)
end Go.Proofs.YthkbchefjagbbaaGreatDoor.Line
