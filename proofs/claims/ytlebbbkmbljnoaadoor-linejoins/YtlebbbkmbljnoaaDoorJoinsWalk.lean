/- The walk of furrowlaw2.LineJoins: true at any two rows of lines; nothing that was there has turned. -/
import Derived.Test.YtlebbbkmbljnoaaDoorSplitWalk
import Derived.Test.YtlebbbkmbljnoaaDoorPartsWalk
import Derived.Test.YtlebbbkmbljnoaaDoorPlainTwo
import Derived.Laws.OwnMore
namespace Go.Proofs.YtlebbbkmbljnoaaDoor.Line
open Go.ChangeShapes Go.WideShapes Go.ChangeAt Go.RowKit Plain
set_option linter.unusedVariables false

/-- a slice of strings that came in, whatever its address -/
def Arg (w : World) (o : Option Addr) (A : List (List UInt8)) : Prop :=
  ∀ i (h : i < A.length), ∃ b off, o = some ⟨b, off, none⟩ ∧ w.cell? ⟨b, off + i, none⟩ = some (.string ⟨(A[i]).toArray⟩)
theorem Arg.below {w w' : World} {o : Option Addr} {A : List (List UInt8)} (h : Arg w o A) (hb : Below w.heap.size w w') : Arg w' o A := fun i hi => by
  obtain ⟨b, off, e, hc⟩ := h i hi
  exact ⟨b, off, e, (hb.cell (p := ⟨b, off + i, none⟩) (cell_lt hc)).trans hc⟩

/-- one row behind another, in memory of the call's own -/
theorem append_rows {base base' : Nat} {w : World} {s x : Value} {ls ms : List (List UInt8)} (hs : Own base w s ls) (hx : Own base' w x ms) (hb : base ≤ w.heap.size) (hl : ls.length + ms.length ≤ 100000) :
    ∃ v' w', (Builtin.append_ #[23, 23] 23 #[s, x]).run Tryd.prog w = .ok v' w' ∧ Own base w' v' (ls ++ ms) ∧ w.grownBy w' s.ownBlock := by
  obtain ⟨i0, hi, hz0, hz1, hz2⟩ := info_parts info9
  obtain ⟨h1, h2⟩ := hx
  rcases h2 with ⟨rfl, h2⟩ | ⟨g, cap, cur, rfl, hg, hh, hc, hm, hsz, ht⟩
  · have : ms = [] := by simpa using h2
    subst this
    refine ⟨s, w, run_append_owned_none (P := Tryd.prog) (w := w) base 23 23 9 i0 1 Tryd.underlying23 hi s ls.length (strs ls) hs, by rw [List.append_nil]; exact hs, ⟨rfl, rfl, rfl, Nat.le_refl _, fun _ _ _ => rfl⟩⟩
  · have hx' : Own base' w (.slice (some ⟨g, 0, none⟩) ms.length cap) ms := ⟨h1, .inr ⟨g, cap, cur, rfl, hg, hh, hc, hm, hsz, ht⟩⟩
    obtain ⟨v', w', hr, ho, hgr, _⟩ := run_append_own (P := Tryd.prog) w base 23 23 9 i0 (.string ⟨#[]⟩) 1 16 Tryd.underlying23 hi hz0 hz1 hz2 rfl (by decide) s ls.length (strs ls) hs ⟨g, 0, none⟩ ms.length cap (strs ms) (by simpa using h1)
      (World.ownsRow.cells hx' rfl) (fun u hu => by
        unfold strs at hu
        obtain ⟨l, _, rfl⟩ := List.mem_map.1 hu
        rfl) (by unfold maxLen; omega) (by omega) hb
    refine ⟨v', w', hr, ?_, hgr⟩
    unfold Own
    unfold strs at *
    rw [List.map_append, List.length_append]
    exact ho

/-- an append of one slice of strings to another, where its guard says yes: by its run -/
theorem wpList_append_guard {ops : Array Oper} {rest : List Oper} {o : Oper} {a : Act} {w : World} {Q : Exit → Act → World → Prop} (hw : Region.wanted o (yielded ops a.tmps) = true) (s x : Operand)
    (ho : o.op = .call { callee := .builtin .append, args := #[s, x], argTypes := #[23, 23] }) (hty : o.type = 23) (sv xv : Value) (hs : a.eval s = sv) (hx : a.eval x = xv) (v' : Value) (w' : World)
    (hr : (Builtin.append_ #[23, 23] 23 #[sv, xv]).run Tryd.prog w = .ok v' w') (h : wpList Tryd.prog ops Q rest (a.put o.dst v') w') : wpList Tryd.prog ops Q (o :: rest) a w := by
  refine BigFrame.wpList_want hw fun K hK => ?_
  unfold Oper.wp execOp
  simp only [ho, hty, resolve, invoke, builtin, Sem.run_bind, Sem.run_pure, Result.andThen_ok, List.map_toArray, List.map_cons, List.map_nil, hs, hx, hr]
  exact hK _ _ h

theorem ends_succ (A : List (List UInt8)) (i : Nat) (h : i < A.length) : ends (A.take (i + 1)) = ends (A.take i) ++ A[i] ++ [10] := by
  rw [List.take_succ_eq_append_getElem h]
  unfold ends
  rw [List.map_append, List.flatten_append, List.append_assoc]
  show _ ++ ((A[i] ++ [10]) ++ []) = _
  rw [List.append_nil]
theorem flat_succ (A : List (List UInt8)) (i : Nat) (h : i < A.length) : (A.take (i + 1)).flatten = (A.take i).flatten ++ A[i] := by
  rw [List.take_succ_eq_append_getElem h, List.flatten_append]
  show _ ++ (A[i] ++ []) = _
  rw [List.append_nil]

set_option maxHeartbeats 4000000 in
theorem joins_many (o o' : Option Addr) (c c' : Nat) (n n' : Nat) (w : World) (h : 20 < n ∨ (¬ 20 < n ∧ 20 < n')) : Calls Tryd.prog 7 #[.slice o n c, .slice o' n' c'] w fun e w' => e = .returned (.bool true) ∧ Below w.heap.size w w' := by
  rcases h with h | ⟨h, h'⟩
  · go_enter Tryd.func7, Tryd.ntmps7
    go_wp2_with (go_at_call 8; refine (known_any _).mono ?_; rintro e w1 ⟨rfl, b1⟩)
    go_ret
    exact ⟨rfl, b1⟩
  · go_enter Tryd.func7, Tryd.ntmps7
    go_wp2_with (go_at_call 8; refine (known_any _).mono ?_; rintro e w1 ⟨rfl, b1⟩)
    go_ret
    exact ⟨rfl, b1⟩

set_option maxRecDepth 100000 in
set_option maxHeartbeats 4000000 in
theorem joins_few (o o' : Option Addr) (c c' : Nat) (A B : List (List UInt8)) (w : World) (hA : Arg w o A) (hB : Arg w o' B) (h : A.length ≤ 20) (h' : B.length ≤ 20) : Calls Tryd.prog 7 #[.slice o A.length c, .slice o' B.length c'] w fun e w' => e = .returned (.bool true) ∧ Below w.heap.size w w' := by
  have HA := hide hA
  have HB := hide hB
  clear hA hB
  go_enter Tryd.func7, Tryd.ntmps7
  go_wp2_with (go_at_call 8; refine (known_any _).mono ?_; rintro e w1 ⟨rfl, b1⟩)
  have HA1 := hide ((unhide HA).below b1)
  have HB1 := hide ((unhide HB).below b1)
  clear HA HB
  go_loop [5, 7] (fun s q => ∃ (i : Nat) (acc : List UInt8), i ≤ A.length ∧ q = .int .i64 i ∧ s = .string ⟨acc.toArray⟩ ∧ Hid (acc = ends (A.take i)) ∧ acc.length ≤ 101 * i) (fun _ q => A.length - (intOf q).toNat)
  case atStart => exact ⟨0, [], Nat.zero_le _, rfl, rfl, hide rfl, Nat.zero_le _⟩
  case round =>
    obtain ⟨i, acc, hi, rfl, rfl, HE, hal⟩ := hrel
    by_cases hlt : i < A.length
    · obtain ⟨b, off, rfl, hc⟩ := unhide HA1 i hlt
      have HS := hide (ends_succ A i hlt)
      generalize A[i] = x at *
      by_cases hx : 100 < x.length
      · go_wp2
        go_ret
        exact ⟨rfl, b1⟩
      · have e1 := cat2 acc x
        have e2 := cat2 (acc ++ x) [10]
        go_wp2
        go_round
        case rel => exact ⟨i + 1, acc ++ (x ++ [10]), by omega, by go_num, rfl, hide (by rw [unhide HS, ← HE.out, List.append_assoc]), by simp; omega⟩
        case measure => simp [intOf]; omega
    · obtain rfl : i = A.length := by omega
      go_wp2
      go_loop [6, 8] (fun s q => ∃ (j : Nat) (tcc : List UInt8), j ≤ B.length ∧ q = .int .i64 j ∧ s = .string ⟨tcc.toArray⟩ ∧ Hid (tcc = (B.take j).flatten) ∧ tcc.length ≤ 100 * j) (fun _ q => B.length - (intOf q).toNat)
      case atStart => exact ⟨0, [], Nat.zero_le _, rfl, rfl, hide rfl, Nat.zero_le _⟩
      case round =>
        obtain ⟨j, tcc, hj, rfl, rfl, HF, htl⟩ := hrel
        by_cases hjt : j < B.length
        · obtain ⟨b, off, rfl, hc⟩ := unhide HB1 j hjt
          have HS := hide (flat_succ B j hjt)
          generalize B[j] = x at *
          by_cases hx : 100 < x.length
          · go_wp2
            go_ret
            exact ⟨rfl, b1⟩
          · have e1 := cat2 tcc x
            go_wp2
            go_round
            case rel => exact ⟨j + 1, tcc ++ x, by omega, by go_num, rfl, hide (by rw [unhide HS, ← HF.out]), by simp; omega⟩
            case measure => simp [intOf]; omega
        · obtain rfl : j = B.length := by omega
          have hS : acc = ends A := by rw [HE.out, List.take_length]
          have hal2 : acc.length ≤ 2020 := by omega
          have htl2 : tcc.length ≤ 2000 := by omega
          have hje := join_err A tcc (by rw [← hS]; omega)
          have hjl := join_lines A tcc
          rw [← hS] at hje hjl
          have HJE := hide hje
          have HJL := hide hjl
          have HFL := hide (flatten_lines acc)
          have hn1 := lines_length_le acc
          have hn2 := lines_length_le tcc
          clear hS hje hjl HA1 HB1 HE HF
          have e3 := cat2 acc tcc
          have hst : (acc ++ tcc).length ≤ 5000 := by simp; omega
          by_cases hea : errS acc = 0
          · by_cases het : errS tcc = 0
            · have h3 := (unhide HJE).2 ⟨hea, het⟩
              have H1 := hide (fun w => split_ok acc w (by omega) hea)
              have H2 := hide (fun w => split_ok tcc w (by omega) het)
              have H3 := hide (fun w => split_ok (acc ++ tcc) w (by omega) h3)
              clear hea het h3
              go_wp2_with fail
              refine (unhide H1 _).mono ?_
              rintro e w2 ⟨v1, rfl, o1, b2⟩
              go_wp2_with fail
              refine (unhide H2 _).mono ?_
              rintro e w3 ⟨v2, rfl, o2, b3⟩
              go_wp2_with fail
              refine (unhide H3 _).mono ?_
              rintro e w4 ⟨v3, rfl, o3, b4⟩
              rw [unhide HJL] at o3
              have o1' := (o1.below b3).below b4
              have o2' := o2.below b4
              have K1 := hide o1'
              have K2 := hide o2'
              have K3 := hide o3
              clear o1 o2 o3 o1' o2'
              have os : Own w4.heap.size (w4.alloc (.cells #[] 9)) (.slice (some ⟨w4.heap.size, 0, none⟩) 0 0) [] := World.ownsRow_made w4 #[] 0 (Nat.le_refl _) (Nat.zero_le _) rfl
              obtain ⟨va, wa, hr1, oa, ga⟩ := append_rows os ((unhide K1).below (alloc_below _ _)) (by simp) (by simp; omega)
              have ba : Below w4.heap.size w4 wa := (alloc_below w4 _).grown ga (by simp) (fun k hk => (World.ownsRow.lt os k hk).1)
              have hsa := ba.size
              obtain ⟨vb, wb, hr2, ob, gb⟩ := append_rows oa ((unhide K2).below ba) hsa (by simp; omega)
              have bb : Below w4.heap.size w4 wb := ba.grown gb hsa (fun k hk => (World.ownsRow.lt oa k hk).1)
              rw [List.nil_append] at ob
              have HR1 := hide hr1
              have HR2 := hide hr2
              have HQ := hide (sameLines_eq v3 vb (lines acc ++ lines tcc) wb ((unhide K3).below bb).row ob.row (by simp; omega))
              have HJN := hide (fun n => join_any v1 (lines acc) (wb.drewN n) ((((unhide K1).below bb).row).drewN n) (by omega) (by rw [unhide HFL]; omega))
              clear os hr1 hr2 oa ob ga gb ba hsa
              go_wp2_with (first
                | (at_builtin; refine wpList_append_guard (by rfl) (.tmp 91) (.tmp 92) rfl rfl _ _ rfl rfl va wa (unhide HR1) ?_)
                | (at_builtin; refine wpList_append_guard (by rfl) (.tmp 93) (.tmp 94) rfl rfl _ _ rfl rfl vb wb (unhide HR2) ?_)
                | (go_at_call 12; refine (unhide HQ).mono ?_; rintro e w5 ⟨rfl, n5, rfl⟩)
                | (go_at_call 13; refine (unhide HJN _).mono ?_; rintro e w6 ⟨rfl, b6⟩))
              go_ret
              exact ⟨ret_bool (by rw [unhide HFL]; simp), bthen (below_drewN (bthen (bthen (bthen (bthen b1 b2) b3) b4) bb) n5) b6⟩
            · have h3 : errS (acc ++ tcc) ≠ 0 := fun h => het ((unhide HJE).1 h).2
              have H1 := hide (fun w => split_ok acc w (by omega) hea)
              have H2 := hide (fun w => split_bad tcc w (by omega) het)
              have H3 := hide (fun w => split_bad (acc ++ tcc) w (by omega) h3)
              clear hea het h3
              go_wp2_with fail
              refine (unhide H1 _).mono ?_
              rintro e w2 ⟨v1, rfl, _, b2⟩
              go_wp2_with fail
              refine (unhide H2 _).mono ?_
              rintro e w3 ⟨v2, p2, rfl, _, _, b3⟩
              go_wp2_with fail
              refine (unhide H3 _).mono ?_
              rintro e w4 ⟨v3, p3, rfl, _, _, b4⟩
              go_wp2
              go_ret
              exact ⟨rfl, bthen (bthen (bthen b1 b2) b3) b4⟩
          · have h3 : errS (acc ++ tcc) ≠ 0 := fun h => hea ((unhide HJE).1 h).1
            have H1 := hide (fun w => split_bad acc w (by omega) hea)
            have H2 := hide (fun w => split_any tcc w (by omega))
            have H3 := hide (fun w => split_bad (acc ++ tcc) w (by omega) h3)
            clear hea h3
            go_wp2_with fail
            refine (unhide H1 _).mono ?_
            rintro e w2 ⟨v1, p1, rfl, _, _, b2⟩
            go_wp2_with fail
            refine (unhide H2 _).mono ?_
            rintro e w3 ⟨v2, f2, rfl, _, _, b3⟩
            go_wp2_with fail
            refine (unhide H3 _).mono ?_
            rintro e w4 ⟨v3, p3, rfl, _, _, b4⟩
            go_wp2
            go_ret
            exact ⟨rfl, bthen (bthen (bthen b1 b2) b3) b4⟩

theorem lineJoins_any (o o' : Option Addr) (c c' : Nat) (A B : List (List UInt8)) (w : World) (hA : Arg w o A) (hB : Arg w o' B) : Calls Tryd.prog 7 #[.slice o A.length c, .slice o' B.length c'] w fun e w' => e = .returned (.bool true) ∧ Below w.heap.size w w' := by
  by_cases h : 20 < A.length
  · exact joins_many o o' c c' _ _ w (.inl h)
  · by_cases h' : 20 < B.length
    · exact joins_many o o' c c' _ _ w (.inr ⟨h, h'⟩)
    · exact joins_few o o' c c' A B w hA hB (by omega) (by omega)
end Go.Proofs.YtlebbbkmbljnoaaDoor.Line
