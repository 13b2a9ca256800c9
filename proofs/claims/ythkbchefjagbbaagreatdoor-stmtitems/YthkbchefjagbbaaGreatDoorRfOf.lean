/- The contract of the law's OfItems: the same names and rows of sizes, in a row of its own. -/
import Derived.Test.YthkbchefjagbbaaGreatDoorBaseAll
import Derived.Test.YthkbchefjagbbaaGreatDoorExMem
import Derived.Maps.AppendAt
import Derived.Deep.RegionLaw
namespace Go.Proofs.YthkbchefjagbbaaGreatDoor.Line
open Go.ChangeShapes Go.WideShapes Go.ChangeAt Go.RowKit
set_option linter.unusedVariables false

abbrev Itr : Type := List UInt8 × Option Addr × Nat × Nat
def itR (x : Itr) : List Value := [.string ⟨x.1.toArray⟩, .slice x.2.1 x.2.2.1 x.2.2.2]
def flatR (l : List Itr) : List Value := l.flatMap itR
theorem infoR : (Tryz.prog.info? 60).map (fun i => (i.zero, i.size, i.bytes)) = some (some (.agg #[.string ⟨#[]⟩, .slice none 0 0]), 2, 40) := by kernel_rfl
theorem append_r {base : Nat} {w : World} {v : Value} {l : List Itr} (x : Itr) (hs : w.ownsRow base 60 2 v l.length (flatR l)) (hb : base ≤ w.heap.size) (hl : l.length + 1 ≤ 1000000) :
    ∃ v' w', (Builtin.append_ #[51, 51] 51 #[v, .slice (some ⟨w.heap.size, 0, none⟩) 1 1]).run Tryz.prog (w.alloc (.cells #[.string ⟨x.1.toArray⟩, .slice x.2.1 x.2.2.1 x.2.2.2] 60)) = .ok v' w' ∧ w'.ownsRow base 60 2 v' (l ++ [x]).length (flatR (l ++ [x])) ∧ Below base w w' := by
  obtain ⟨i, hi, he⟩ := Option.map_eq_some_iff.1 infoR
  injection he with e1 e2
  injection e2 with e2 e3
  obtain ⟨v', w', hr, ho, hgr, _, _⟩ := run_append_own_at (P := Tryz.prog) (w := w.alloc (.cells #[.string ⟨x.1.toArray⟩, .slice x.2.1 x.2.2.1 x.2.2.2] 60)) base 51 51 60 i _ 2 40 Tryz.underlying51 hi e1 e2 e3 rfl (by decide) v l.length (flatR l) (World.ownsRow.alloc hs _) ⟨w.heap.size, 0, none⟩ 1 1 (itR x) rfl
    (World.news_of_block (cs := #[.string ⟨x.1.toArray⟩, .slice x.2.1 x.2.2.1 x.2.2.2]) (t := 60) (fr := (0, 0)) (by show (w.heap.push _)[w.heap.size]? = _; exact Array.getElem?_push_size))
    (by
      intro u hu
      simp only [itR, List.mem_cons, List.not_mem_nil, or_false] at hu
      rcases hu with rfl | rfl <;> rfl) (by unfold maxLen; omega) (by omega) (by simp; omega)
  refine ⟨v', w', hr, ?_, ((Below.refl _ _).alloc hb _).grown hgr (by simp; omega) (fun j hj => (World.ownsRow.lt hs j hj).1)⟩
  rw [show flatR (l ++ [x]) = flatR l ++ itR x from by simp [flatR], List.length_append]
  exact ho
theorem step_append35 {ops : Array Oper} {o : Oper} {a : Act} {w : World} {K : Act → World → Prop} {Q : Exit → Act → World → Prop} {P : Prop} (hgd : o.guard = none) (s x : Operand)
    (ho : o.op = .call { callee := .builtin .append, args := #[s, x], argTypes := #[51, 51] }) (hty : o.type = 51) (sv xv : Value) (hs : a.eval s = sv) (hx : a.eval x = xv) (v' : Value) (w' : World)
    (hr : (Builtin.append_ #[51, 51] 51 #[sv, xv]).run Tryz.prog w = .ok v' w') (h : K (a.put o.dst v') w') : if Region.wanted o (yielded ops a.tmps) = true then Oper.wp Tryz.prog o a w K Q else P := by
  have hw : Region.wanted o (yielded ops a.tmps) = true := by simp [Region.wanted, hgd]
  rw [if_pos hw]
  unfold Oper.wp execOp
  simp only [ho, hty, resolve, invoke, builtin, Sem.run_bind, Sem.run_pure, Result.andThen_ok, List.map_toArray, List.map_cons, List.map_nil, hs, hx, hr]
  exact h
/-- a row of items that is only read -/
structure InRow (w : World) (b : Nat) (L : List Itr) : Prop where
  lt : b < w.heap.size
  nm : ∀ j x, L[j]? = some x → w.cell? ⟨b, j * 2, none⟩ = some (.string ⟨x.1.toArray⟩) ∧ w.cell? ⟨b, j * 2 + 1, none⟩ = some (.slice x.2.1 x.2.2.1 x.2.2.2)
set_option maxHeartbeats 8000000 in
set_option maxRecDepth 100000 in
theorem ofItems_any (L : List Itr) (b cap : Nat) (w : World) (hr : InRow w b L) (hl : L.length ≤ 1000) :
    Calls Tryz.prog 67 #[.slice (some ⟨b, 0, none⟩) L.length cap] w fun e w' => ∃ v, e = .returned v ∧ w'.ownsRow w.heap.size 60 2 v L.length (flatR L) ∧ Below w.heap.size w w' := by
  have HR := hide hr
  obtain ⟨n, hn⟩ : ∃ n, L.length = n := ⟨_, rfl⟩
  have HN := hide hn
  rw [hn] at hl
  rw [hn]
  clear hr hn
  go_enter Tryz.func67, Tryz.ntmps67
  go_wp2_with fail
  go_loopw [3, 4] (fun s i wr => ∃ j : Nat, i = .int .i64 j ∧ j ≤ n ∧ Hid (wr.ownsRow w.heap.size 60 2 s (L.take j).length (flatR (L.take j)) ∧ Below w.heap.size w wr)) (fun _ i _ => n - (intOf i).toNat)
  case atStart => exact ⟨0, rfl, Nat.zero_le _, hide ⟨World.ownsRow_nil _ _ _ _, Below.refl _ _⟩⟩
  case round =>
    obtain ⟨j, rfl, hj, HI⟩ := hrel
    by_cases hlt : j < n
    · have hlt2 : (j : Int) < n := by omega
      have hjl : j < L.length := by rw [unhide HN]; exact hlt
      obtain ⟨x, hx⟩ : ∃ x, L[j]? = some x := ⟨_, List.getElem?_eq_getElem hjl⟩
      have hbw := (unhide HI).2
      obtain ⟨k1, k2⟩ := (unhide HR).nm j x hx
      have m1 := (hbw.cell (p := ⟨b, j * 2, none⟩) (unhide HR).lt).trans k1
      have m2 := (hbw.cell (p := ⟨b, j * 2 + 1, none⟩) (unhide HR).lt).trans k2
      have hdr : Below wr.heap.size wr wr.drew := below_drewN (Below.refl _ _) 1
      have htl : (L.take j).length + 1 ≤ 1000000 := by rw [List.length_take]; omega
      have hso := ownsRow_below (unhide HI).1 hdr
      obtain ⟨v', w9, hr9, ho9, hB9⟩ := append_r (w := wr.drew) x hso (by show w.heap.size ≤ wr.heap.size; exact hbw.size) htl
      have HF : Hid (w9.ownsRow w.heap.size 60 2 v' (L.take (j + 1)).length (flatR (L.take (j + 1))) ∧ Below w.heap.size w w9) := hide (by
        rw [List.take_add_one, hx]
        exact ⟨ho9, hbw.trans ((hdr.mono hbw.size).trans hB9)⟩)
      have HR9 := hide hr9
      clear hbw k1 k2 hdr hso hr9 ho9 hB9 htl hx HI
      go_wp2_with fail
      go_region_law (refine step_append35 rfl _ _ rfl rfl _ _ rfl rfl _ _ (unhide HR9) ?_)
      all_goals (
        go_wp2
        go_roundw
        case rel => exact ⟨j + 1, by go_num, by omega, HF⟩
        case measure => simp [intOf]; omega)
    · obtain rfl : n = j := by omega
      have hlt2 : ¬ (n : Int) < n := by omega
      have HF := hide (unhide HI)
      rw [show L.take n = L from List.take_of_length_le (by rw [unhide HN]; exact Nat.le_refl _), unhide HN] at HF
      clear HI
      go_wp2
      go_ret
      exact ⟨_, rfl, (unhide HF).1, (unhide HF).2⟩
end Go.Proofs.YthkbchefjagbbaaGreatDoor.Line
