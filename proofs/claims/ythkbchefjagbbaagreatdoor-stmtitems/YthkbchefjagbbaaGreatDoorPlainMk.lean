/- StmtItems, plain: the items that sizes come to are declared, and read again; what is wrong behind them. -/
import Derived.Test.YthkbchefjagbbaaGreatDoorStIu
import Derived.Test.YthkbchefjagbbaaGreatDoorPlainLdA
namespace Go.Proofs.YthkbchefjagbbaaGreatDoor.Line
open Ex (E St)
set_option linter.unusedVariables false

def SmallM (M : List (List Nat)) : Prop := M.length ≤ 8 ∧ ∀ (i : Nat) (D : List Nat), M[i]? = some D → D.length ≤ 4 ∧ ∀ d ∈ D, d ≤ 65535
theorem mkM_ok {M : List (List Nat)} (h : SmallM M) : ∀ x ∈ mkM M, ItOk x ∧ SizeOk x := fun x hx => by
  obtain ⟨i, hi⟩ := List.getElem?_of_mem hx
  rw [mkM_at] at hi
  obtain ⟨D, hD, rfl⟩ := Option.map_eq_some_iff.1 hi
  have hil := (List.getElem?_eq_some_iff.1 hD).1
  have h8 := h.1
  obtain ⟨h1, h2⟩ := h.2 i D hD
  have hl : (upD D).length = D.length := List.length_map ..
  refine ⟨⟨v_name i (by omega), by show (upD D).length ≤ 5; omega, fun d hd => ?_⟩, by show (upD D).length ≤ 4; omega, fun d hd => ?_⟩
  · obtain ⟨e, he, rfl⟩ := List.mem_map.1 (show d ∈ D.map (· + 1) from hd)
    have := h2 e he
    omega
  · obtain ⟨e, he, rfl⟩ := List.mem_map.1 (show d ∈ D.map (· + 1) from hd)
    omega
theorem itemP_len {x : List UInt8 × List Nat} (h : ItOk x) : (itemP x).length ≤ 200 := by
  have h1 := item_text x
  obtain ⟨h2, h3⟩ := ok_item h
  have h4 := (text_clear (itemW x) h2).2
  rw [h1, List.length_append] at h4
  simp only [List.length_cons, List.length_nil] at h4
  have : (itemP x).length + 1 ≤ 21 * 12 := by
    have : 21 * (itemW x).length ≤ 21 * 12 := Nat.mul_le_mul_left _ h3
    omega
  have h5 := midA_end x
  rw [h5, List.length_append]
  have h6 := midA_len x.2 h.2.2 x.2.length (Nat.le_refl _)
  have h7 := h.2.1
  have h8 := h.1.2.2
  split
  · rw [List.length_append]; simp only [List.length_cons, List.length_nil]; omega
  · omega
/-- its text is read as it was -/
theorem mk_good (x : List UInt8 × List Nat) (m : List (List UInt8 × List Nat)) (hl : m.length ≤ 7) (h : ∀ y ∈ x :: m, ItOk y ∧ SizeOk y) :
    Lined (stText (.decl (x :: m))) (.decl (x :: m)) (declW x m).length .ok ∧ (wordsOf (stText (.decl (x :: m)))).length = (declW x m).length ∧ (stText (.decl (x :: m))).length ≤ 3000 :=
  decl_line x m (by omega) (h x List.mem_cons_self).1 (fun y hy => (h y (List.mem_cons_of_mem _ hy)).1) _ _ _ fun T hT => by
    have := decl_reads x m (h x List.mem_cons_self).2 (fun y hy => (h y (List.mem_cons_of_mem _ hy)).2) hT
    rwa [show T.length = (declW x m).length by rw [← List.length_map (f := Words.keyT), hT, List.length_map]] at this
def zZ : List UInt8 × List Nat := ([122], [0])
def zF : List UInt8 × List Nat := ([122], [1, 2, 3, 4, 5])
theorem zZ_ok : ItOk zZ := ⟨z_name, by decide, by decide⟩
theorem zF_ok : ItOk zF := ⟨z_name, by decide, by decide⟩
theorem mk_app (x z : List UInt8 × List Nat) (m : List (List UInt8 × List Nat)) (h : ∀ y ∈ x :: m, ItOk y ∧ SizeOk y) (hz : ItOk z) : ∀ y ∈ m ++ [z], ItOk y := fun y hy => by
  rcases List.mem_append.1 hy with hy | hy
  · exact (h y (List.mem_cons_of_mem _ hy)).1
  · rw [List.mem_singleton.1 hy]; exact hz
theorem mk_zero (x : List UInt8 × List Nat) (m : List (List UInt8 × List Nat)) (hl : m.length ≤ 7) (h : ∀ y ∈ x :: m, ItOk y ∧ SizeOk y) :
    Lined (stText (.decl (x :: m)) ++ [44, 32, 122, 40, 48, 41]) (.decl (x :: m ++ [(zZ.1, [0])])) ((declW x m).length + 2 + 1) (.leaf ((declW x m).length + 2 + 1) 1) := by
  have h1 := (decl_line x (m ++ [zZ]) (by rw [List.length_append]; simp; omega) (h x List.mem_cons_self).1 (mk_app x zZ m h zZ_ok) _ _ _ fun T hT => decl_bad x zZ m 1 1 [0] (h x List.mem_cons_self).2 (fun y hy => (h y (List.mem_cons_of_mem _ hy)).2) hT (fun q hq => dims_zero T q hq)).1
  rwa [more_line, show [44, 32] ++ itemP zZ = [44, 32, 122, 40, 48, 41] by kernel_rfl] at h1
theorem mk_five (x : List UInt8 × List Nat) (m : List (List UInt8 × List Nat)) (hl : m.length ≤ 7) (h : ∀ y ∈ x :: m, ItOk y ∧ SizeOk y) :
    Lined (stText (.decl (x :: m)) ++ [44, 32, 122, 40, 49, 44, 32, 50, 44, 32, 51, 44, 32, 52, 44, 32, 53, 41]) (.decl (x :: m ++ [(zF.1, [])])) ((declW x m).length + 2 + 8) (.leaf ((declW x m).length + 2 + 8) 4) := by
  have h1 := (decl_line x (m ++ [zF]) (by rw [List.length_append]; simp; omega) (h x List.mem_cons_self).1 (mk_app x zF m h zF_ok) _ _ _ fun T hT => decl_bad x zF m 8 4 [] (h x List.mem_cons_self).2 (fun y hy => (h y (List.mem_cons_of_mem _ hy)).2) hT (fun q hq => dims_five T q hq)).1
  rwa [more_line, show [44, 32] ++ itemP zF = [44, 32, 122, 40, 49, 44, 32, 50, 44, 32, 51, 44, 32, 52, 44, 32, 53, 41] by kernel_rfl] at h1
/-- its words, as the reference counts them -/
theorem mk_toks (x : List UInt8 × List Nat) (m : List (List UInt8 × List Nat)) (h : ∀ y ∈ x :: m, ItOk y ∧ SizeOk y) : ∃ T, Words.toks (stText (.decl (x :: m))) = (T, 0, 0) ∧ T.length = (declW x m).length := by
  obtain ⟨T, h1, h2⟩ := decl_toks x m (h x List.mem_cons_self).1.item (fun y hy => (h y (List.mem_cons_of_mem _ hy)).1.item)
  exact ⟨T, h1, by rw [← List.length_map (f := Words.keyT), h2, List.length_map]⟩
theorem outA_text (m : List (List UInt8 × List Nat)) : outA m m.length = stText (.decl m) := by
  unfold outA
  rw [List.take_length]
  rfl
end Go.Proofs.YthkbchefjagbbaaGreatDoor.Line
