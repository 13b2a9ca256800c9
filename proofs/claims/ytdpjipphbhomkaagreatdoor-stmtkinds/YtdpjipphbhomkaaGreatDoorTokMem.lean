/- Words in memory: a row of a call's own (OwnT), one that is only read (Tks); one more word behind it; the named result's block. -/
import Derived.Test.YtdpjipphbhomkaaGreatDoorMemB
import Derived.Test.YtdpjipphbhomkaaGreatDoorPlainTok
import Derived.Laws.OwnMore
import Derived.Deep.AppendLies
namespace Go.Proofs.YtdpjipphbhomkaaGreatDoor.Line
open Go.ChangeShapes Go.WideShapes Go.ChangeAt Go.RowKit
set_option linter.unusedVariables false

abbrev wWord : List UInt8 := [119, 111, 114, 100]
def tokV (t : Words.T) : List Value := [.int .i64 t.kind, .string ⟨t.text.toArray⟩, .int .i64 t.pos, .int .i64 t.n]
def flatT (l : List Words.T) : List Value := l.flatMap tokV
theorem flatT_length (l : List Words.T) : (flatT l).length = l.length * 4 := by
  induction l with
  | nil => rfl
  | cons t l ih => show (tokV t ++ flatT l).length = _; rw [List.length_append, ih, List.length_cons]; show 4 + l.length * 4 = _; omega
theorem flatT_snoc (l : List Words.T) (t : Words.T) : flatT (l ++ [t]) = flatT l ++ tokV t := by simp [flatT]
theorem flatT_at (l : List Words.T) : ∀ (i : Nat) (h : i < l.length), (flatT l)[i * 4]? = some (.int .i64 l[i].kind) ∧ (flatT l)[i * 4 + 1]? = some (.string ⟨l[i].text.toArray⟩) ∧ (flatT l)[i * 4 + 2]? = some (.int .i64 l[i].pos) ∧ (flatT l)[i * 4 + 3]? = some (.int .i64 l[i].n) := by
  induction l with
  | nil => intro i h; simp at h
  | cons t l ih =>
    intro i h
    have e : flatT (t :: l) = .int .i64 t.kind :: .string ⟨t.text.toArray⟩ :: .int .i64 t.pos :: .int .i64 t.n :: flatT l := rfl
    cases i with
    | zero => rw [e]; exact ⟨rfl, rfl, rfl, rfl⟩
    | succ i =>
      have := ih i (by simpa using h)
      rw [e]
      rw [show (i + 1) * 4 = i * 4 + 4 by omega, show i * 4 + 4 + 1 = (i * 4 + 1) + 4 by omega, show i * 4 + 4 + 2 = (i * 4 + 2) + 4 by omega, show i * 4 + 4 + 3 = (i * 4 + 3) + 4 by omega]
      simpa using this
/-- words of a call's own, of type T -/
def OwnT (T : TypeId) (base : Nat) (w : World) (v : Value) (l : List Words.T) : Prop := w.ownsRow base T 4 v l.length (flatT l)
/-- words that are only read -/
def Tks (w : World) (v : Value) (l : List Words.T) : Prop :=
  (∃ a cap, v = .slice a 0 cap ∧ l = []) ∨
  (∃ b off cap, v = .slice (some ⟨b, off, none⟩) l.length cap ∧ l.length ≤ cap ∧ ∀ i (h : i < l.length), w.cell? ⟨b, off + i * 4, none⟩ = some (.int .i64 l[i].kind) ∧ w.cell? ⟨b, off + i * 4 + 1, none⟩ = some (.string ⟨l[i].text.toArray⟩) ∧ w.cell? ⟨b, off + i * 4 + 2, none⟩ = some (.int .i64 l[i].pos) ∧ w.cell? ⟨b, off + i * 4 + 3, none⟩ = some (.int .i64 l[i].n))
theorem OwnT.nil (T : TypeId) (base : Nat) (w : World) : OwnT T base w (.slice none 0 0) [] := World.ownsRow_nil _ _ _ _
theorem ownsRow_below {base size n : Nat} {T : TypeId} {w w' : World} {v : Value} {xs : List Value} (h : w.ownsRow base T size v n xs) (hb : Below w.heap.size w w') : w'.ownsRow base T size v n xs := by
  obtain ⟨h1, h2⟩ := h
  refine ⟨h1, ?_⟩
  rcases h2 with h2 | ⟨g, cap, cur, hv, hg, hh, r⟩
  · exact .inl h2
  · refine .inr ⟨g, cap, cur, hv, hg, ?_, r⟩
    rw [hb.block g (by
      rcases Nat.lt_or_ge g w.heap.size with h | h
      · exact h
      · rw [Array.getElem?_eq_none h] at hh; cases hh)]
    exact hh
theorem OwnT.below {T : TypeId} {base : Nat} {w w' : World} {v : Value} {l : List Words.T} (h : OwnT T base w v l) (hb : Below w.heap.size w w') : OwnT T base w' v l := ownsRow_below h hb
theorem OwnT.tks {T : TypeId} {base : Nat} {w : World} {v : Value} {l : List Words.T} (h : OwnT T base w v l) : Tks w v l := by
  have h2' := h
  obtain ⟨h4, h5⟩ := h
  rcases h5 with ⟨rfl, h5⟩ | ⟨g, cap, cur, rfl, hg, hh, hc, r⟩
  · exact .inl ⟨none, 0, rfl, List.length_eq_zero_iff.1 h5⟩
  · refine .inr ⟨g, 0, cap, rfl, hc, fun i hi => ?_⟩
    obtain ⟨f0, f1, f2, f3⟩ := flatT_at l i hi
    have c0 := World.ownsRow.cellAt h2' (i * 4) (by omega)
    have c1 := World.ownsRow.cellAt h2' (i * 4 + 1) (by omega)
    have c2 := World.ownsRow.cellAt h2' (i * 4 + 2) (by omega)
    have c3 := World.ownsRow.cellAt h2' (i * 4 + 3) (by omega)
    simp only [Nat.zero_add]
    exact ⟨c0.trans f0, c1.trans f1, c2.trans f2, c3.trans f3⟩
theorem Tks.shape {w : World} {v : Value} {l : List Words.T} (h : Tks w v l) : ∃ a cap, v = .slice a l.length cap := by
  rcases h with ⟨a, cap, rfl, rfl⟩ | ⟨b, off, cap, rfl, _⟩
  · exact ⟨_, _, rfl⟩
  · exact ⟨_, _, rfl⟩
theorem Tks.below {w w' : World} {v : Value} {l : List Words.T} (h : Tks w v l) (hb : Below w.heap.size w w') : Tks w' v l := by
  rcases h with h | ⟨b, off, cap, rfl, hc, h⟩
  · exact .inl h
  · refine .inr ⟨b, off, cap, rfl, hc, fun i hi => ?_⟩
    obtain ⟨h0, h1, h2, h3⟩ := h i hi
    have hl := cell_lt h0
    exact ⟨by rw [hb.cell (p := ⟨b, off + i * 4, none⟩) hl]; exact h0, by rw [hb.cell (p := ⟨b, off + i * 4 + 1, none⟩) hl]; exact h1, by rw [hb.cell (p := ⟨b, off + i * 4 + 2, none⟩) hl]; exact h2, by rw [hb.cell (p := ⟨b, off + i * 4 + 3, none⟩) hl]; exact h3⟩
theorem Tks.drewN {w : World} {v : Value} {l : List Words.T} (h : Tks w v l) (n : Nat) : Tks (w.drewN n) v l := h.below (below_drewN (Below.refl _ _) n)
theorem infoRTok : (Tryz.prog.info? 87).map (fun i => (i.zero, i.size, i.bytes)) = some (some (.agg #[.int .i64 0, .string ⟨#[]⟩, .int .i64 0, .int .i64 0]), 4, 40) := by kernel_rfl
theorem infoTok : (Tryz.prog.info? 116).map (fun i => (i.zero, i.size, i.bytes)) = some (some (.agg #[.int .i64 0, .string ⟨#[]⟩, .int .i64 0, .int .i64 0]), 4, 40) := by kernel_rfl
/-- one word more (the reference's) -/
theorem append_rtok {base : Nat} {w : World} {s : Value} {l : List Words.T} (hs : OwnT 87 base w s l) (t : Words.T) (hb : base ≤ w.heap.size) (hl : l.length + 1 ≤ 1000000) :
    ∃ v' w', (Builtin.append_ #[63, 63] 63 #[s, .slice (some ⟨w.heap.size, 0, none⟩) 1 1]).run Tryz.prog (w.alloc (.cells #[.int .i64 t.kind, .string ⟨t.text.toArray⟩, .int .i64 t.pos, .int .i64 t.n] 87)) = .ok v' w' ∧ OwnT 87 base w' v' (l ++ [t]) ∧ (w.alloc (.cells #[.int .i64 t.kind, .string ⟨t.text.toArray⟩, .int .i64 t.pos, .int .i64 t.n] 87)).grownBy w' s.ownBlock := by
  obtain ⟨i0, hi, hz0, hz1, hz2⟩ := info_parts infoRTok
  obtain ⟨v', w', hr, ho, hgr, _⟩ := run_append_own (P := Tryz.prog) (w.alloc (.cells #[.int .i64 t.kind, .string ⟨t.text.toArray⟩, .int .i64 t.pos, .int .i64 t.n] 87)) base 63 63 87 i0 _ 4 40 Tryz.underlying63 hi hz0 hz1 hz2 rfl (by decide) s l.length (flatT l) (World.ownsRow.alloc hs _) ⟨w.heap.size, 0, none⟩ 1 1 (tokV t) rfl
    (World.news_of_block (cs := #[.int .i64 t.kind, .string ⟨t.text.toArray⟩, .int .i64 t.pos, .int .i64 t.n]) (t := 87) (fr := (0, 0)) (by show (w.heap.push _)[w.heap.size]? = _; exact Array.getElem?_push_size))
    (by intro u hu; simp [tokV] at hu; rcases hu with rfl | rfl | rfl | rfl <;> rfl) (by unfold maxLen; omega) (by omega) (by simp; omega)
  refine ⟨v', w', hr, ?_, hgr⟩
  unfold OwnT
  rw [flatT_snoc, List.length_append]
  exact ho
/-- an append of such words in a plain region, by its run -/
theorem wpList_append_runT {ops : Array Oper} {rest : List Oper} {o : Oper} {a : Act} {w : World} {Q : Exit → Act → World → Prop} (hgd : o.guard = none) (s x : Operand)
    (ho : o.op = .call { callee := .builtin .append, args := #[s, x], argTypes := #[63, 63] }) (hty : o.type = 63) (sv xv : Value) (hs : a.eval s = sv) (hx : a.eval x = xv) (v' : Value) (w' : World)
    (hr : (Builtin.append_ #[63, 63] 63 #[sv, xv]).run Tryz.prog w = .ok v' w') (h : wpList Tryz.prog ops Q rest (a.put o.dst v') w') : wpList Tryz.prog ops Q (o :: rest) a w := by
  refine wpList_plain hgd fun K hK => ?_
  unfold Oper.wp execOp
  simp only [ho, hty, resolve, invoke, builtin, Sem.run_bind, Sem.run_pure, Result.andThen_ok, List.map_toArray, List.map_cons, List.map_nil, hs, hx, hr]
  exact hK _ _ h
/-- the block of the named result, behind a call that wrote new memory alone -/
theorem res_cells {w w2 : World} (hB : Below (w.heap.size + 1) (w.alloc (.cells #[.slice none 0 0, .int .i64 0] 45)) w2) :
    w2.cell? ⟨w.heap.size, 0, none⟩ = some (.slice none 0 0) ∧ w2.cell? ⟨w.heap.size, 1, none⟩ = some (.int .i64 0) ∧ w2.frozen? ⟨w.heap.size, 0, none⟩ = false ∧ w2.frozen? ⟨w.heap.size, 1, none⟩ = false ∧ w.heap.size + 1 ≤ w2.heap.size ∧ Below w.heap.size w w2 := by
  refine ⟨?_, ?_, ?_, ?_, by have := hB.size; simpa using this, ((Below.refl _ _).alloc (Nat.le_refl _) _).trans (hB.mono (by omega))⟩
  · rw [hB.cell (p := ⟨w.heap.size, 0, none⟩) (by simp)]; simp
  · rw [hB.cell (p := ⟨w.heap.size, 1, none⟩) (by simp)]; simp
  · rw [hB.frozen (p := ⟨w.heap.size, 0, none⟩) (by simp)]; simp
  · rw [hB.frozen (p := ⟨w.heap.size, 1, none⟩) (by simp)]; simp
theorem told_mk {w w2 : World} {b k err : Nat} {word : List UInt8} {u u' : Value} (he : err ≠ 0) (hb : w.heap.size + 1 ≤ b) (h0 : w2.cell? ⟨b, 0, none⟩ = some (.string ⟨word.toArray⟩)) (h1 : w2.cell? ⟨b, 1, none⟩ = some (.int .i64 k)) :
    Told w.heap.size ((w2.setCell ⟨w.heap.size, 0, none⟩ u).setCell ⟨w.heap.size, 1, none⟩ u') (.agg #[.slice (some ⟨b, 0, none⟩) 1 1, .int .i64 err]) word k err := by
  have h : Told (w.heap.size + 1) w2 (.agg #[.slice (some ⟨b, 0, none⟩) 1 1, .int .i64 err]) word k err := .inr ⟨he, b, hb, rfl, h0, h1⟩
  exact ((h.setCell ⟨w.heap.size, 0, none⟩ (by simp) u).setCell ⟨w.heap.size, 1, none⟩ (by simp) u').mono (by omega)
end Go.Proofs.YtdpjipphbhomkaaGreatDoor.Line
