/- The contract of the project's Replace. -/
import Derived.Test.YtmdifoejacogpaaDoorLineD
import Derived.Test.YtmdifoejacogpaaDoorTokKnown
namespace Go.Proofs.YtmdifoejacogpaaDoor.Line
open Go.ChangeShapes Go.WideShapes Go.ChangeAt Go.RowKit
set_option linter.unusedVariables false

abbrev BT : TypeId := 70
theorem part3_any (s : List UInt8) (w : World) (h : s.length ≤ 65536) : Calls Tryd.prog 28 #[.string ⟨s.toArray⟩] w fun e w' => e = .returned (.tuple #[.string ⟨(parts3 s).1.toArray⟩, .string ⟨(parts3 s).2.1.toArray⟩, .string ⟨(parts3 s).2.2.toArray⟩]) ∧ ∃ n, w' = w.drewN n := part_any s w h
theorem str_cells (l : List UInt8) : Lib.strCells ⟨l.toArray⟩ = Lib.byteCells l := rfl
theorem tok_block {w : World} {b : Nat} {k p n : Nat} {t : List UInt8} (h : w.heap[b]? = some (.cells #[.int .i64 k, .string ⟨t.toArray⟩, .int .i64 p, .int .i64 n] 36 (0, 0))) : w.cell? ⟨b, 1, none⟩ = some (.string ⟨t.toArray⟩) ∧ w.cell? ⟨b, 2, none⟩ = some (.int .i64 p) := by
  constructor
  · rw [Lib.cell_of_heap h]; rfl
  · rw [Lib.cell_of_heap h]; rfl
set_option maxHeartbeats 8000000 in
set_option maxRecDepth 100000 in
theorem replace_spec : ReplaceSpec parts3 := by
  intro s name by_ w h1 h2 h3
  have HPT := hide (part3_any s w (by omega))
  have hPs := parts3_join s
  obtain ⟨ans, hans⟩ : ∃ a, replOf parts3 s name by_ = a := ⟨_, rfl⟩
  rw [hans]
  unfold replOf at hans
  have HANS := hide hans
  clear hans
  generalize (parts3 s).1 = body at *
  generalize (parts3 s).2.1 = note at *
  generalize (parts3 s).2.2 = end_ at *
  have hlen : body.length + note.length + end_.length = s.length := by rw [← hPs]; simp; omega
  have HS := hide hPs
  clear hPs
  have HLN := hide (fun W => line_any body W (by omega))
  have HGD := hide (toks_good body)
  have hcnt := toks_count body
  go_enter Tryd.func12, Tryd.ntmps12
  go_wp2_with fail
  refine (unhide HPT).mono ?_
  rintro e w1 ⟨rfl, n1, rfl⟩
  go_wp2_with fail
  refine (unhide HLN _).mono ?_
  rintro e w3 ⟨u3, g3, er, rfl, ho3, hs3, hn3, hb3⟩
  have hb3' : Below w.heap.size w w3 := (below_drewN (Below.refl _ _) n1).trans hb3
  have H3 := hide (And.intro ho3.tks hb3')
  obtain ⟨a3, c3, rfl⟩ := ho3.tks.shape
  clear ho3 hb3 hb3' HPT HLN
  by_cases her : ¬ (Words.toks body).2.1 = 0
  · have HA : Hid (s = ans) := hide (by have := unhide HANS; rwa [if_neg her] at this)
    rcases hs3 with ⟨h, _⟩ | ⟨_, b3, _, rfl, _⟩
    · subst h
      rcases hn3 with h | ⟨_, h⟩
      · exact absurd h.symm her
      · cases h
    clear her HANS HGD hn3
    go_wp2
    go_ret
    exact ⟨by have h := unhide HA; subst h; rfl, (unhide H3).2⟩
  replace her := Decidable.not_not.1 her
  have HA : Hid (Words.repl body name by_ 0 (Words.toks body).1 ++ note ++ end_ = ans) := hide (by have := unhide HANS; rwa [if_pos her] at this)
  obtain rfl := hn3.same (by rw [her]; decide)
  obtain rfl : g3 = .nilIface := by
    rcases hs3 with ⟨_, h⟩ | ⟨h, _⟩
    · exact h
    · exact absurd her h
  clear HANS hn3 hs3 her
  generalize (Words.toks body).1 = T at *
  have HB0 := hide (Lib.IsBuilderF.of (Lib.fresh_isBuilder BT 5 w3))
  have HW0 := hide (alloc_below w3 (.cells #[.pointer none, .slice none 0 0] BT))
  go_wp2_with fail
  go_loopw [13, 32] (fun y q wr => ∃ (i a b : Nat) (out : List UInt8), i ≤ T.length ∧ q = .int .i64 i ∧ y = .int .i64 a ∧ a ≤ b ∧ a ≤ body.length ∧ out.length ≤ i * 400 ∧ Hid (Lib.IsBuilderF BT 5 w3.heap.size w3.heap.size (Lib.byteCells out) wr) ∧ Hid (Below w3.heap.size w3 wr) ∧ w3.heap.size < wr.heap.size ∧ Hid (Words.Good body b (T.drop i)) ∧ Hid (out ++ Words.repl body name by_ a (T.drop i) = Words.repl body name by_ 0 T)) (fun _ q _ => T.length - (intOf q).toNat)
  case atStart => exact ⟨0, 0, 0, [], Nat.zero_le _, rfl, rfl, Nat.le_refl _, Nat.zero_le _, by simp, HB0, HW0, by simp, hide (by rw [List.drop_zero]; exact unhide HGD), hide (by simp)⟩
  case round =>
    obtain ⟨i, a, b, out, hi, rfl, rfl, hab, hal, hol, HBU, HBW, hsw, HGO, HEQ⟩ := hrel
    by_cases hlt : i < T.length
    · have hgo := unhide HGO
      have heq := unhide HEQ
      rw [List.drop_eq_getElem_cons hlt] at hgo heq
      obtain ⟨k1, k2, -, -, k5⟩ := hgo
      rcases ((unhide H3).1.below (unhide HBW)) with ⟨_, _, _, hnil⟩ | ⟨tb, off, cap, hval, hcap, hcells⟩
      · exact absurd hlt (by rw [hnil]; simp)
      injection hval with hv1 hv2 hv3
      subst hv1
      subst hv3
      obtain ⟨d0, d1, d2, d3⟩ := hcells i hlt
      have hlt2 : (i : Int) < T.length := by omega
      clear hcells hv2
      by_cases hc : T[i].kind = 1 ∧ T[i].text = name
      · have heq2 : (out ++ ((body.drop a).take (T[i].pos - a) ++ by_)) ++ Words.repl body name by_ (T[i].pos + name.length) (T.drop (i + 1)) = Words.repl body name by_ 0 T := by
          rw [← heq]
          show _ = out ++ (if T[i].kind = 1 ∧ T[i].text = name then (body.drop a).take (T[i].pos - a) ++ by_ ++ Words.repl body name by_ (T[i].pos + name.length) (T.drop (i + 1)) else Words.repl body name by_ a (T.drop (i + 1)))
          rw [if_pos hc]
          simp [List.append_assoc]
        rw [hc.1, show ((1 : Nat) : Int) = 1 from rfl] at d0
        rw [hc.2] at d1
        rw [hc.2] at k2 k5
        obtain ⟨ps, hps⟩ : ∃ ps, T[i].pos = ps := ⟨_, rfl⟩
        rw [hps] at d2 k1 k2 k5 heq2
        clear hps hc heq
        generalize T[i].n = nn at *
        obtain ⟨pc, hpc⟩ : ∃ pc, (body.drop a).take (ps - a) = pc := ⟨_, rfl⟩
        have hxe : (⟨s.toArray⟩ : ByteArray).extract a ps = ⟨pc.toArray⟩ := by
          rw [ext, ← hpc, ← unhide HS, List.append_assoc, List.drop_append_of_le_length hal, List.take_append_of_le_length (by rw [List.length_drop]; omega)]
        have lpc : pc.length ≤ 300 := by rw [← hpc, List.length_take, List.length_drop]; omega
        obtain ⟨o1, ho1⟩ : ∃ o1, out ++ pc = o1 := ⟨_, rfl⟩
        obtain ⟨o2, ho2⟩ : ∃ o2, o1 ++ by_ = o2 := ⟨_, rfl⟩
        have lo1 : o1.length ≤ i * 400 + 300 := by rw [← ho1, List.length_append]; omega
        have lo2 : o2.length ≤ (i + 1) * 400 := by rw [← ho2, List.length_append]; omega
        have HE2 : Hid (o2 ++ Words.repl body name by_ (ps + name.length) (T.drop (i + 1)) = Words.repl body name by_ 0 T) := hide (by rw [← heq2, ← ho2, ← ho1, hpc]; simp [List.append_assoc])
        have K5 := hide k5
        obtain ⟨en, hen⟩ : ∃ en, ps + name.length = en := ⟨_, rfl⟩
        have hee : (ps : Int) + name.length = en := by omega
        rw [hen] at HE2 K5 k2
        have q3 : (a : Int) ≤ ps := by omega
        have q4 : (ps : Int) ≤ s.length := by omega
        have q5 : i * 400 ≤ 120000 := by omega
        clear k5 heq2 hpc hen
        have hbu0 : Lib.IsBuilderF BT 5 w3.heap.size w3.heap.size (Lib.byteCells out) (wr.alloc (.cells #[.int .i64 1, .string ⟨name.toArray⟩, .int .i64 ps, .int .i64 nn] 36)) := (unhide HBU).elim (fun x => Or.inl (x.alloc _)) (fun x => Or.inr (x.alloc _))
        have hk0 : (wr.alloc (.cells #[.int .i64 1, .string ⟨name.toArray⟩, .int .i64 ps, .int .i64 nn] 36)).heap[wr.heap.size]? = some (.cells #[.int .i64 1, .string ⟨name.toArray⟩, .int .i64 ps, .int .i64 nn] 36 (0, 0)) := by show (wr.heap.push _)[wr.heap.size]? = _; exact Array.getElem?_push_size
        have hb0 : Below w3.heap.size w3 (wr.alloc (.cells #[.int .i64 1, .string ⟨name.toArray⟩, .int .i64 ps, .int .i64 nn] 36)) := (unhide HBW).trans ((alloc_below _ _).mono (Nat.le_of_lt hsw))
        have H0 := hide (And.intro hbu0 (And.intro hk0 hb0))
        have HWS := hide (fun W (h : Lib.IsBuilderF BT 5 w3.heap.size w3.heap.size (Lib.byteCells out) W) h2 => Builder_WriteString w3.heap.size w3.heap.size (Lib.byteCells out) ⟨pc.toArray⟩ W h (by rw [Lib.byteCells_length]; show out.length + pc.length ≤ _; omega) h2)
        have HWT := hide (fun W (h : Lib.IsBuilderF BT 5 w3.heap.size w3.heap.size (Lib.byteCells o1) W) h2 => Builder_WriteString w3.heap.size w3.heap.size (Lib.byteCells o1) ⟨by_.toArray⟩ W h (by rw [Lib.byteCells_length]; show o1.length + by_.length ≤ _; omega) h2)
        clear hbu0 hk0 hb0 HBU HBW HGD HB0 HW0
        go_wp2_with fail
        refine (unhide HWS _ (unhide H0).1 (unhide H0).2.2.size).mono ?_
        rintro ev w4 ⟨rfl, hbu4, hb4, ho4⟩
        have hk4 := ho4 wr.heap.size _ (unhide H0).2.1 (fun h => by injection h with h; omega) (fun c fz h => by injection h with _ h _; revert h; decide)
        rw [str_cells, ← Lib.byteCells_append, ho1] at hbu4
        have H4 := hide (And.intro (show Lib.IsBuilderF BT 5 w3.heap.size w3.heap.size (Lib.byteCells o1) w4 from .inr hbu4) (And.intro hk4 ((unhide H0).2.2.trans hb4)))
        clear hbu4 hk4 hb4 ho4 HWS H0
        go_wp2_with fail
        refine (unhide HWT _ (unhide H4).1 (unhide H4).2.2.size).mono ?_
        rintro ev w5 ⟨rfl, hbu5, hb5, ho5⟩
        have hk5 := ho5 wr.heap.size _ (unhide H4).2.1 (fun h => by injection h with h; omega) (fun c fz h => by injection h with _ h _; revert h; decide)
        rw [str_cells, ← Lib.byteCells_append, ho2] at hbu5
        have H5 := hide (And.intro (show Lib.IsBuilderF BT 5 w3.heap.size w3.heap.size (Lib.byteCells o2) w5 from .inr hbu5) (And.intro hk5 ((unhide H4).2.2.trans hb5)))
        have hlt5 : w3.heap.size < w5.heap.size := hbu5.lt
        obtain ⟨e1, e2⟩ := tok_block hk5
        clear hbu5 hk5 hb5 ho5 HWT H4
        go_wp2
        go_roundw
        case rel => exact ⟨i + 1, en, en, o2, by omega, by go_num, by first | rfl | go_num, Nat.le_refl _, k2, lo2, hide (unhide H5).1, hide (unhide H5).2.2, hlt5, K5, HE2⟩
        case measure => simp [intOf]; omega
      · have HE2 : Hid (out ++ Words.repl body name by_ a (T.drop (i + 1)) = Words.repl body name by_ 0 T) := hide (by
          rw [← heq]
          show _ = out ++ (if T[i].kind = 1 ∧ T[i].text = name then (body.drop a).take (T[i].pos - a) ++ by_ ++ Words.repl body name by_ (T[i].pos + name.length) (T.drop (i + 1)) else Words.repl body name by_ a (T.drop (i + 1)))
          rw [if_neg hc])
        have K5 := hide k5
        have hcase : ((T[i].kind : Int) == 1) = false ∨ (T[i].kind = 1 ∧ (T[i].text == name) = false) := by
          by_cases hk : T[i].kind = 1
          · exact .inr ⟨hk, beq_eq_false_iff_ne.2 (fun h => hc ⟨hk, h⟩)⟩
          · left; rw [beq_eq_false_iff_ne]; omega
        clear hc heq k5
        generalize T[i].kind = kd at *
        generalize T[i].text = tx at *
        generalize T[i].pos = ps at *
        generalize T[i].n = nn at *
        have HBA := hide (fun o => (unhide HBU).elim (fun x => Or.inl (x.alloc o)) (fun x => Or.inr (x.alloc o)) : ∀ o : Obj, Lib.IsBuilderF BT 5 w3.heap.size w3.heap.size (Lib.byteCells out) (wr.alloc o))
        rcases hcase with q1 | ⟨rfl, q2⟩
        all_goals (
          go_wp2
          go_roundw
          case rel => exact ⟨i + 1, a, ps + tx.length, out, by omega, by go_num, rfl, by omega, hal, by omega, hide (unhide HBA _), hide ((unhide HBW).trans ((alloc_below _ _).mono (Nat.le_of_lt hsw))), by simp; omega, K5, HE2⟩
          case measure => simp [intOf]; omega)
    · have HE2 : Hid (out ++ body.drop a = Words.repl body name by_ 0 T) := hide (by
        have := unhide HEQ
        rwa [List.drop_of_length_le (by omega)] at this)
      have hq : i * 400 ≤ 120000 := by omega
      obtain ⟨bd, hbd⟩ : ∃ bd, s.drop a = bd := ⟨_, rfl⟩
      have lbd : bd.length ≤ 300 := by rw [← hbd, List.length_drop]; omega
      have hxe : (⟨s.toArray⟩ : ByteArray).extract a s.length = ⟨bd.toArray⟩ := by rw [ext_end, hbd]
      obtain ⟨o1, ho1⟩ : ∃ o1, out ++ bd = o1 := ⟨_, rfl⟩
      have HO : Hid (o1 = ans) := hide (by
        rw [← ho1, ← unhide HA, ← unhide HE2, ← hbd, ← unhide HS, List.append_assoc body, List.drop_append_of_le_length hal]
        simp [List.append_assoc])
      have q3 : (a : Int) ≤ s.length := by omega
      have HWS := hide (fun W (h : Lib.IsBuilderF BT 5 w3.heap.size w3.heap.size (Lib.byteCells out) W) h2 => Builder_WriteString w3.heap.size w3.heap.size (Lib.byteCells out) ⟨bd.toArray⟩ W h (by rw [Lib.byteCells_length]; show out.length + bd.length ≤ _; omega) h2)
      have HST := hide (fun W h h2 => Builder_String_any w3.heap.size w3.heap.size o1 W h h2)
      clear hbd HGD HB0 HW0
      go_wp2_with fail
      refine (unhide HWS _ (unhide HBU) (unhide HBW).size).mono ?_
      rintro ev w4 ⟨rfl, hbu4, hb4, ho4⟩
      rw [str_cells, ← Lib.byteCells_append, ho1] at hbu4
      have H4 := hide (And.intro (show Lib.IsBuilderF BT 5 w3.heap.size w3.heap.size (Lib.byteCells o1) w4 from .inr hbu4) ((unhide HBW).trans hb4))
      clear hbu4 hb4 ho4 HWS ho1
      go_wp2_with fail
      refine (unhide HST _ (unhide H4).1 (unhide H4).2.size).mono ?_
      rintro ev w5 ⟨rfl, hbu5, hb5, ho5⟩
      have H5 := hide (bthen (unhide H3).2 ((unhide H4).2.trans hb5))
      clear hbu5 hb5 ho5 HST
      go_wp2
      go_ret
      exact ⟨by have h := unhide HO; subst h; rfl, unhide H5⟩
end Go.Proofs.YtmdifoejacogpaaDoor.Line
