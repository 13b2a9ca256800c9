/- The contract of the law's To: the reference's words as the project's. -/
import Derived.Test.YtepnafnljfjeoaaGreatDoorTokA
import Derived.Deep.RegionHeldLaw
namespace Go.Proofs.YtepnafnljfjeoaaGreatDoor.Line
open Go.ChangeShapes Go.WideShapes Go.ChangeAt Go.RowKit
set_option linter.unusedVariables false

/-- one word more (the project's) -/
theorem append_ptok {base : Nat} {w : World} {s : Value} {l : List Words.T} (hs : OwnT 90 base w s l) (t : Words.T) (hb : base ≤ w.heap.size) (hl : l.length + 1 ≤ 1000000) :
    ∃ v' w', (Builtin.append_ #[46, 46] 46 #[s, .slice (some ⟨w.heap.size, 0, none⟩) 1 1]).run Tryz.prog (w.alloc (.cells #[.int .i64 t.kind, .string ⟨t.text.toArray⟩, .int .i64 t.pos, .int .i64 t.n] 90)) = .ok v' w' ∧ OwnT 90 base w' v' (l ++ [t]) ∧ (w.alloc (.cells #[.int .i64 t.kind, .string ⟨t.text.toArray⟩, .int .i64 t.pos, .int .i64 t.n] 90)).grownBy w' s.ownBlock := by
  obtain ⟨i0, hi, hz0, hz1, hz2⟩ := info_parts infoTok
  obtain ⟨v', w', hr, ho, hgr, _⟩ := run_append_own (P := Tryz.prog) (w.alloc (.cells #[.int .i64 t.kind, .string ⟨t.text.toArray⟩, .int .i64 t.pos, .int .i64 t.n] 90)) base 46 46 90 i0 _ 4 40 Tryz.underlying46 hi hz0 hz1 hz2 rfl (by decide) s l.length (flatT l) (World.ownsRow.alloc hs _) ⟨w.heap.size, 0, none⟩ 1 1 (tokV t) rfl
    (World.news_of_block (cs := #[.int .i64 t.kind, .string ⟨t.text.toArray⟩, .int .i64 t.pos, .int .i64 t.n]) (t := 90) (fr := (0, 0)) (by show (w.heap.push _)[w.heap.size]? = _; exact Array.getElem?_push_size))
    (by intro u hu; simp [tokV] at hu; rcases hu with rfl | rfl | rfl | rfl <;> rfl) (by unfold maxLen; omega) (by omega) (by simp; omega)
  refine ⟨v', w', hr, ?_, hgr⟩
  unfold OwnT
  rw [flatT_snoc, List.length_append]
  exact ho
/-- an append of words at a step of a region that draws, by its run -/
theorem step_append_runT {ops : Array Oper} {o : Oper} {a : Act} {w : World} {K : Act → World → Prop} {Q : Exit → Act → World → Prop} {P : Prop} (hgd : o.guard = none) (s x : Operand)
    (ho : o.op = .call { callee := .builtin .append, args := #[s, x], argTypes := #[46, 46] }) (hty : o.type = 46) (sv xv : Value) (hs : a.eval s = sv) (hx : a.eval x = xv) (v' : Value) (w' : World)
    (hr : (Builtin.append_ #[46, 46] 46 #[sv, xv]).run Tryz.prog w = .ok v' w') (h : K (a.put o.dst v') w') : if Region.wanted o (yielded ops a.tmps) = true then Oper.wp Tryz.prog o a w K Q else P := by
  have hw : Region.wanted o (yielded ops a.tmps) = true := by simp [Region.wanted, hgd]
  rw [if_pos hw]
  unfold Oper.wp execOp
  simp only [ho, hty, resolve, invoke, builtin, Sem.run_bind, Sem.run_pure, Result.andThen_ok, List.map_toArray, List.map_cons, List.map_nil, hs, hx, hr]
  exact h
set_option maxHeartbeats 8000000 in
set_option maxRecDepth 100000 in
theorem to_any (L : Value) (T : List Words.T) (w : World) (hT : Tks w L T) (hl : T.length ≤ 1000000) : Calls Tryz.prog 13 #[L] w fun e w' => ∃ u, e = .returned u ∧ OwnT 90 w.heap.size w' u T ∧ Below w.heap.size w w' := by
  obtain ⟨ta, tc, hL⟩ := hT.shape
  subst hL
  have HT := hide hT
  clear hT
  go_enter Tryz.func13, Tryz.ntmps13
  go_wp2_with fail
  go_loopw [3, 4] (fun u q wr => ∃ i : Nat, i ≤ T.length ∧ q = .int .i64 i ∧ Hid (OwnT 90 w.heap.size wr u (T.take i)) ∧ Hid (Below w.heap.size w wr)) (fun _ q _ => T.length - (intOf q).toNat)
  case atStart => exact ⟨0, Nat.zero_le _, rfl, hide (OwnT.nil _ _ _), hide (Below.refl _ _)⟩
  case round =>
    obtain ⟨i, hi, rfl, HO, HB⟩ := hrel
    obtain ⟨ua, uc, hu⟩ := (unhide HO).tks.shape
    subst hu
    generalize hln : (T.take i).length = ln at *
    by_cases hlt : i < T.length
    · rcases ((unhide HT).below (unhide HB)) with ⟨_, _, _, hnil⟩ | ⟨tb, off, cap, hval, hcap, hcells⟩
      · exact absurd hlt (by rw [hnil]; simp)
      injection hval with hv1 hv2 hv3
      subst hv1
      obtain ⟨d0, d1, d2, d3⟩ := hcells i hlt
      have hlt2 : (i : Int) < T.length := by omega
      have htw : tb < w.heap.size := by
        rcases unhide HT with ⟨_, _, _, hnil⟩ | ⟨tb2, off2, cap2, hval2, _, hcells2⟩
        · exact absurd hlt (by rw [hnil]; simp)
        · injection hval2 with h1
          injection h1 with h1
          injection h1 with h1 _
          subst h1
          exact cell_lt (hcells2 i hlt).1
      have hown2 : OwnT 90 w.heap.size wr.drew (.slice ua ln uc) (T.take i) := (unhide HO).below (Below.refl _ _).drew
      obtain ⟨v9, w9, hr9, ho9, hg9⟩ := append_ptok hown2 ⟨T[i].kind, T[i].text, T[i].pos, T[i].n⟩ (unhide HB).size (by rw [hln]; have := congrArg List.length (rfl : T.take i = T.take i); rw [List.length_take] at hln; omega)
      have hB9 : Below w.heap.size w w9 := (((unhide HB).drew).alloc (unhide HB).size _).grown hg9 (by simp; exact Nat.le_succ_of_le (unhide HB).size) (fun j hj => (World.ownsRow.lt hown2 j hj).1)
      have ho9' : OwnT 90 w.heap.size w9 v9 (T.take (i + 1)) := by rw [List.take_succ_eq_append_getElem hlt]; exact ho9
      obtain ⟨va9, vc9, hv9⟩ := ho9'.tks.shape
      generalize (T.take (i + 1)).length = ln9 at hv9
      subst hv9
      have HR9 : Hid ((Builtin.append_ #[46, 46] 46 #[.slice ua ln uc, .slice (some ⟨wr.heap.size, 0, none⟩) 1 1]).run Tryz.prog (wr.alloc (.cells #[.int .i64 T[i].kind, .string ⟨T[i].text.toArray⟩, .int .i64 T[i].pos, .int .i64 T[i].n] 90)).drew = .ok (.slice va9 ln9 vc9) w9) := hide hr9
      have hfar : ∀ o v, wr.cell? ⟨tb, o, none⟩ = some v → w9.cell? ⟨tb, o, none⟩ = some v := fun o v h => hg9.cell (((alloc_below wr.drew _).cell (p := ⟨tb, o, none⟩) (Nat.lt_of_lt_of_le htw (unhide HB).size)).trans h) (fun e => by have := (World.ownsRow.lt hown2 tb e.symm).1; omega)
      have e0 := hfar _ _ d0
      have e1 := hfar _ _ d1
      have e2 := hfar _ _ d2
      have e3 := hfar _ _ d3
      have H9 := hide (And.intro ho9' hB9)
      clear hcells hv2 hv3 hown2 hr9 ho9 hg9 hB9 ho9' hln hfar
      generalize T[i].kind = k0 at *
      generalize T[i].text = k1 at *
      generalize T[i].pos = k2 at *
      generalize T[i].n = k3 at *
      go_wp2_with fail
      go_region_held_law (fun W' => W'.cell? ⟨tb, off + i * 4, none⟩ = some (.int .i64 k0) ∧ W'.cell? ⟨tb, off + i * 4 + 1, none⟩ = some (.string ⟨k1.toArray⟩) ∧ W'.cell? ⟨tb, off + i * 4 + 2, none⟩ = some (.int .i64 k2) ∧ W'.cell? ⟨tb, off + i * 4 + 3, none⟩ = some (.int .i64 k3)) (go_keep)
        (refine step_append_runT rfl _ _ rfl rfl _ _ rfl rfl _ _ (unhide HR9) ?_)
      go_wp2
      go_roundw
      case rel => exact ⟨i + 1, by omega, by go_num, hide (unhide H9).1, hide (unhide H9).2⟩
      case measure => simp [intOf]; omega
    · have q1 : decide (i < T.length) = false := decide_eq_false hlt
      have HF : Hid (OwnT 90 w.heap.size wr (.slice ua ln uc) T) := hide (by have := unhide HO; rwa [List.take_of_length_le (by omega)] at this)
      clear hln
      go_wp2
      go_ret
      exact ⟨_, rfl, unhide HF, unhide HB⟩
end Go.Proofs.YtepnafnljfjeoaaGreatDoor.Line
