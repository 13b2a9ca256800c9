/- The reference's Replace, and TokReplace, walked, over contracts of the project's Replace, of the reference's Parts and of known. -/
import Derived.Test.YtmdifoejacogpaaDoorTokSpec
import Derived.Test.YtmdifoejacogpaaDoorTokRef
namespace Go.Proofs.YtmdifoejacogpaaDoor.Line
open Go.ChangeShapes Go.WideShapes Go.ChangeAt Go.RowKit
set_option linter.unusedVariables false

/-- a line's body, note and end -/
abbrev Parts3 := List UInt8 → List UInt8 × List UInt8 × List UInt8
/-- what Replace answers -/
def replOf (P : Parts3) (s name by_ : List UInt8) : List UInt8 := if (Words.toks (P s).1).2.1 = 0 then Words.repl (P s).1 name by_ 0 (Words.toks (P s).1).1 ++ (P s).2.1 ++ (P s).2.2 else s
theorem replOf_self (P : Parts3) (hP : ∀ s, (P s).1 ++ (P s).2.1 ++ (P s).2.2 = s) (s name : List UInt8) : replOf P s name name = s := by
  unfold replOf
  split
  · rw [Words.repl_self _ name _ 0 0 (Nat.le_refl _) (toks_good _), List.drop_zero]
    exact hP s
  · rfl
def PartsSpec (P : Parts3) : Prop := ∀ (s : List UInt8) (w : World), s.length ≤ 65536 → Calls Tryd.prog 31 #[.string ⟨s.toArray⟩] w fun e w' => e = .returned (.tuple #[.string ⟨(P s).1.toArray⟩, .string ⟨(P s).2.1.toArray⟩, .string ⟨(P s).2.2.toArray⟩]) ∧ ∃ n, w' = w.drewN n
def ReplaceSpec (P : Parts3) : Prop := ∀ (s name by_ : List UInt8) (w : World), s.length ≤ 300 → name.length ≤ 40 → by_.length ≤ 40 → Calls Tryd.prog 12 #[.string ⟨s.toArray⟩, .string ⟨name.toArray⟩, .string ⟨by_.toArray⟩] w fun e w' => e = .returned (.string ⟨(replOf P s name by_).toArray⟩) ∧ Below w.heap.size w w'

set_option maxHeartbeats 8000000 in
set_option maxRecDepth 100000 in
theorem refReplace_any (P : Parts3) (hP : ∀ s, (P s).1 ++ (P s).2.1 ++ (P s).2.2 = s) (HPARTS : PartsSpec P) (s name by_ : List UInt8) (w : World) (h1 : s.length ≤ 300) (h2 : name.length ≤ 40) (h3 : by_.length ≤ 40) : Calls Tryd.prog 13 #[.string ⟨s.toArray⟩, .string ⟨name.toArray⟩, .string ⟨by_.toArray⟩] w fun e w' => e = .returned (.string ⟨(replOf P s name by_).toArray⟩) ∧ Below w.heap.size w w' := by
  have HPT := hide (HPARTS s w (by omega))
  have hPs := hP s
  obtain ⟨ans, hans⟩ : ∃ a, replOf P s name by_ = a := ⟨_, rfl⟩
  rw [hans]
  unfold replOf at hans
  have HANS := hide hans
  clear hans HPARTS hP
  generalize (P s).1 = body at *
  generalize (P s).2.1 = note at *
  generalize (P s).2.2 = end_ at *
  have hlen : body.length + note.length + end_.length = s.length := by rw [← hPs]; simp; omega
  clear hPs
  go_enter Tryd.func13, Tryd.ntmps13
  go_wp2_with fail
  refine (unhide HPT).mono ?_
  rintro e w1 ⟨rfl, n1, rfl⟩
  go_wp2_with fail
  refine (refToks_any body (by omega) _).mono ?_
  rintro e w3 ⟨u3, g3, rfl, ho3, ht3, hb3⟩
  obtain ⟨ga, gn, rfl⟩ := told_agg ht3
  have hb3' : Below w.heap.size w w3 := (below_drewN (Below.refl _ _) n1).trans hb3
  have ba := alloc_below w3 (.cells #[.slice ga gn gn, .int .i64 ((Words.toks body).2.1 : Int)] 31)
  have H3 := hide (And.intro (ho3.tks.below ba) (bthen hb3' ba))
  have HGD := hide (toks_good body)
  have hcnt := toks_count body
  obtain ⟨a3, c3, rfl⟩ := ho3.tks.shape
  clear ho3 ht3 hb3 hb3' ba
  by_cases her : ¬ (Words.toks body).2.1 = 0
  · have t1 : (((Words.toks body).2.1 : Int) != 0) = true := by rw [bne_iff_ne]; omega
    have t2 : ¬ ((Words.toks body).2.1 : Int) = 0 := by omega
    have HA : Hid (s = ans) := hide (by have := unhide HANS; rwa [if_neg her] at this)
    clear her HANS HGD
    generalize (Words.toks body).2.1 = er at *
    go_wp2
    go_ret
    exact ⟨by have h := unhide HA; subst h; rfl, (unhide H3).2⟩
  replace her := Decidable.not_not.1 her
  have HA : Hid (Words.repl body name by_ 0 (Words.toks body).1 ++ note ++ end_ = ans) := hide (by have := unhide HANS; rwa [if_pos her] at this)
  clear HANS
  rw [her] at H3 ⊢
  clear her
  generalize (Words.toks body).1 = T at *
  go_wp2_with fail
  generalize w3.alloc (.cells #[.slice ga gn gn, .int .i64 ((0 : Nat) : Int)] 31) = W0 at *
  go_loopw [12, 13, 14] (fun x y q wr => ∃ (i a b : Nat) (out : List UInt8), i ≤ T.length ∧ q = .int .i64 i ∧ y = .int .i64 a ∧ x = .string ⟨out.toArray⟩ ∧ a ≤ b ∧ a ≤ body.length ∧ out.length ≤ i * 400 ∧ wr = W0 ∧ Hid (Words.Good body b (T.drop i)) ∧ Hid (out ++ Words.repl body name by_ a (T.drop i) = Words.repl body name by_ 0 T)) (fun _ _ q _ => T.length - (intOf q).toNat)
  case atStart => exact ⟨0, 0, 0, [], Nat.zero_le _, rfl, rfl, rfl, Nat.le_refl _, Nat.zero_le _, by simp, rfl, hide (by rw [List.drop_zero]; exact unhide HGD), hide (by simp)⟩
  case round =>
    obtain ⟨i, a, b, out, hi, rfl, rfl, rfl, hab, hal, hol, hw, HGO, HEQ⟩ := hrel
    have hw := hw.symm
    subst hw
    by_cases hlt : i < T.length
    · have hgo := unhide HGO
      have heq := unhide HEQ
      rw [List.drop_eq_getElem_cons hlt] at hgo heq
      obtain ⟨k1, k2, -, -, k5⟩ := hgo
      rcases (unhide H3).1 with ⟨_, _, _, hnil⟩ | ⟨tb, off, cap, hval, hcap, hcells⟩
      · exact absurd hlt (by rw [hnil]; simp)
      injection hval with hv1 hv2 hv3
      subst hv1
      subst hv3
      obtain ⟨d0, d1, d2, -⟩ := hcells i hlt
      have hlt2 : (i : Int) < T.length := by omega
      clear hcells hv2
      by_cases hc : T[i].kind = 1 ∧ T[i].text = name
      · have heq2 : (out ++ ((body.drop a).take (T[i].pos - a) ++ by_)) ++ Words.repl body name by_ (T[i].pos + name.length) (T.drop (i + 1)) = Words.repl body name by_ 0 T := by
          rw [← heq]
          show _ = out ++ (if T[i].kind = 1 ∧ T[i].text = name then (body.drop a).take (T[i].pos - a) ++ by_ ++ Words.repl body name by_ (T[i].pos + name.length) (T.drop (i + 1)) else Words.repl body name by_ a (T.drop (i + 1)))
          rw [if_pos hc]
          simp [List.append_assoc]
        rw [hc.1] at d0
        rw [hc.2] at d1
        rw [hc.2] at k2 k5
        obtain ⟨ps, hps⟩ : ∃ ps, T[i].pos = ps := ⟨_, rfl⟩
        rw [hps] at d2 k1 k2 k5 heq2
        clear hps hc heq
        obtain ⟨pc, hpc⟩ : ∃ pc, (body.drop a).take (ps - a) = pc := ⟨_, rfl⟩
        have hxe : (⟨body.toArray⟩ : ByteArray).extract a ps = ⟨pc.toArray⟩ := by rw [ext, hpc]
        have lpc : pc.length ≤ 300 := by rw [← hpc, List.length_take, List.length_drop]; omega
        obtain ⟨o1, ho1⟩ : ∃ o1, out ++ pc = o1 := ⟨_, rfl⟩
        obtain ⟨o2, ho2⟩ : ∃ o2, o1 ++ by_ = o2 := ⟨_, rfl⟩
        have e1 : (⟨out.toArray⟩ : ByteArray) ++ ⟨pc.toArray⟩ = ⟨o1.toArray⟩ := by rw [cat2, ho1]
        have e2 : (⟨o1.toArray⟩ : ByteArray) ++ ⟨by_.toArray⟩ = ⟨o2.toArray⟩ := by rw [cat2, ho2]
        have lo1 : o1.length ≤ i * 400 + 300 := by rw [← ho1, List.length_append]; omega
        have lo2 : o2.length ≤ (i + 1) * 400 := by rw [← ho2, List.length_append]; omega
        have HE2 : Hid (o2 ++ Words.repl body name by_ (ps + name.length) (T.drop (i + 1)) = Words.repl body name by_ 0 T) := hide (by rw [← heq2, ← ho2, ← ho1, hpc]; simp [List.append_assoc])
        have K5 := hide k5
        obtain ⟨en, hen⟩ : ∃ en, ps + name.length = en := ⟨_, rfl⟩
        have hee : (ps : Int) + name.length = en := by omega
        rw [hen] at HE2 K5 k2
        have q3 : (a : Int) ≤ ps := by omega
        have q4 : (ps : Int) ≤ body.length := by omega
        have q5 : i * 400 ≤ 120000 := by omega
        clear k5 heq2 hpc ho1 ho2 hen
        go_wp2
        go_roundw
        case rel => exact ⟨i + 1, en, en, o2, by omega, by go_num, rfl, rfl, Nat.le_refl _, k2, lo2, trivial, K5, HE2⟩
        case measure => simp [intOf]; omega
      · have HE2 : Hid (out ++ Words.repl body name by_ a (T.drop (i + 1)) = Words.repl body name by_ 0 T) := hide (by
          rw [← heq]
          show _ = out ++ (if T[i].kind = 1 ∧ T[i].text = name then (body.drop a).take (T[i].pos - a) ++ by_ ++ Words.repl body name by_ (T[i].pos + name.length) (T.drop (i + 1)) else Words.repl body name by_ a (T.drop (i + 1)))
          rw [if_neg hc])
        have K5 := hide k5
        have hcase : ((T[i].kind : Int) == 1) = false ∨ (T[i].kind = 1 ∧ (T[i].text == name) = false) := by
          by_cases hk : T[i].kind = 1
          · exact .inr ⟨hk, beq_eq_false_iff_ne.2 (fun h => hc ⟨hk, h⟩)⟩
          · left; rw [beq_eq_false_iff_ne]; omega
        clear hc heq k5
        generalize T[i].kind = kd at *
        generalize T[i].text = tx at *
        generalize T[i].pos = ps at *
        rcases hcase with q1 | ⟨rfl, q2⟩
        all_goals (
          go_wp2
          go_roundw
          case rel => exact ⟨i + 1, a, ps + tx.length, out, by omega, by go_num, rfl, rfl, by omega, hal, by omega, trivial, K5, HE2⟩
          case measure => simp [intOf]; omega)
    · have HE2 : Hid (out ++ body.drop a = Words.repl body name by_ 0 T) := hide (by
        have := unhide HEQ
        rwa [List.drop_of_length_le (by omega)] at this)
      obtain ⟨o1, ho1⟩ : ∃ o1, out ++ body.drop a = o1 := ⟨_, rfl⟩
      obtain ⟨o2, ho2⟩ : ∃ o2, o1 ++ note = o2 := ⟨_, rfl⟩
      obtain ⟨o3, ho3⟩ : ∃ o3, o2 ++ end_ = o3 := ⟨_, rfl⟩
      have hq : i * 400 ≤ 120000 := by omega
      have lo1 : o1.length ≤ 130000 := by rw [← ho1, List.length_append, List.length_drop]; omega
      have lo2 : o2.length ≤ 131000 := by rw [← ho2, List.length_append]; omega
      obtain ⟨bd, hbd⟩ : ∃ bd, body.drop a = bd := ⟨_, rfl⟩
      have lbd : bd.length ≤ 300 := by rw [← hbd, List.length_drop]; omega
      have hxe : (⟨body.toArray⟩ : ByteArray).extract a body.length = ⟨bd.toArray⟩ := by rw [ext_end, hbd]
      have e1 : (⟨out.toArray⟩ : ByteArray) ++ ⟨bd.toArray⟩ = ⟨o1.toArray⟩ := by rw [cat2, ← hbd, ho1]
      have e2 : (⟨o1.toArray⟩ : ByteArray) ++ ⟨note.toArray⟩ = ⟨o2.toArray⟩ := by rw [cat2, ho2]
      have e3 : (⟨o2.toArray⟩ : ByteArray) ++ ⟨end_.toArray⟩ = ⟨o3.toArray⟩ := by rw [cat2, ho3]
      have HO : Hid (o3 = ans) := hide (by rw [← unhide HA, ← unhide HE2, ho1, ho2, ho3])
      have q3 : (a : Int) ≤ body.length := by omega
      clear ho1 ho2 ho3 hbd
      go_wp2
      go_ret
      exact ⟨by have h := unhide HO; subst h; rfl, (unhide H3).2⟩

set_option maxHeartbeats 4000000 in
theorem tokReplace_walk (P : Parts3) (hP : ∀ s, (P s).1 ++ (P s).2.1 ++ (P s).2.2 = s) (HPARTS : PartsSpec P) (HREPL : ReplaceSpec P) (HKNOWN : KnownSpec) (s name by_ : List UInt8) (w : World) (h1 : s.length ≤ 9223372036854775807) (h2 : name.length ≤ 9223372036854775807) (h3 : by_.length ≤ 9223372036854775807) : Calls Tryd.prog 4 #[.string ⟨s.toArray⟩, .string ⟨name.toArray⟩, .string ⟨by_.toArray⟩] w fun e w' => e = .returned (.bool true) ∧ Below w.heap.size w w' := by
  have HKN := hide (HKNOWN w)
  have HRP := hide HREPL
  have HRF := hide (refReplace_any P hP HPARTS)
  have HSELF := hide (replOf_self P hP s name)
  clear HKNOWN HREPL HPARTS hP
  by_cases g1 : 300 < s.length
  · have q1 : decide (300 < s.length) = true := decide_eq_true g1
    go_enter Tryd.func4, Tryd.ntmps4
    go_wp2_with fail
    refine (unhide HKN).mono ?_
    rintro e w1 ⟨rfl, hb1⟩
    have H1 := hide hb1
    clear hb1
    go_wp2
    go_ret
    exact ⟨rfl, unhide H1⟩
  have q1 : decide (300 < s.length) = false := decide_eq_false g1
  by_cases g2 : 40 < name.length
  · have q2 : decide (40 < name.length) = true := decide_eq_true g2
    go_enter Tryd.func4, Tryd.ntmps4
    go_wp2_with fail
    refine (unhide HKN).mono ?_
    rintro e w1 ⟨rfl, hb1⟩
    have H1 := hide hb1
    clear hb1
    go_wp2
    go_ret
    exact ⟨rfl, unhide H1⟩
  have q2 : decide (40 < name.length) = false := decide_eq_false g2
  by_cases g3 : 40 < by_.length
  · have q3 : decide (40 < by_.length) = true := decide_eq_true g3
    go_enter Tryd.func4, Tryd.ntmps4
    go_wp2_with fail
    refine (unhide HKN).mono ?_
    rintro e w1 ⟨rfl, hb1⟩
    have H1 := hide hb1
    clear hb1
    go_wp2
    go_ret
    exact ⟨rfl, unhide H1⟩
  have q3 : decide (40 < by_.length) = false := decide_eq_false g3
  go_enter Tryd.func4, Tryd.ntmps4
  go_wp2_with fail
  refine (unhide HKN).mono ?_
  rintro e w1 ⟨rfl, hb1⟩
  have H1 := hide hb1
  clear hb1
  go_wp2_with fail
  refine (unhide HRP s name by_ w1 (by omega) (by omega) (by omega)).mono ?_
  rintro e w2 ⟨rfl, hb2⟩
  have H2 := hide (bthen (unhide H1) hb2)
  clear hb2
  go_wp2_with fail
  refine (unhide HRF s name by_ w2 (by omega) (by omega) (by omega)).mono ?_
  rintro e w3 ⟨rfl, hb3⟩
  have H3 := hide (bthen (unhide H2) hb3)
  clear hb3
  generalize replOf P s name by_ = r at *
  go_wp2_with fail
  refine (unhide HRP s name name w3 (by omega) (by omega) (by omega)).mono ?_
  rintro e w4 ⟨rfl, hb4⟩
  have H4 := hide (bthen (unhide H3) hb4)
  clear hb4
  rw [unhide HSELF]
  go_wp2
  go_ret
  exact ⟨rfl, unhide H4⟩
end Go.Proofs.YtmdifoejacogpaaDoor.Line
