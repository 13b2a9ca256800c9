/- Contracts of the program's isBox and Range. -/
import Derived.Test.YtmbhamnkbpcljaaDoorLnAt
import Derived.BigQuiet
import Derived.Deep.QuietTactic
namespace Go.Proofs.YtmbhamnkbpcljaaDoor.Line
open Go.ChangeShapes Go.WideShapes Go.ChangeAt Go.RowKit
set_option linter.unusedVariables false

theorem boxP_len {n : Nat} {lo hi : List Int} (h : ¬ (lo.length = n ∧ hi.length = n)) : boxP n lo hi = false := by unfold boxP; rw [decide_eq_false h, Bool.false_and]
theorem boxP_out {n : Nat} {lo hi : List Int} (i : Nat) (h : i < n) (hg : ¬ lo.getD i 0 ≤ hi.getD i 0) : boxP n lo hi = false := by
  unfold boxP
  rw [Bool.and_eq_false_iff]
  right
  rw [List.all_eq_false]
  exact ⟨i, List.mem_range.2 h, by simpa using hg⟩
theorem boxP_in {n : Nat} {lo hi : List Int} (h1 : lo.length = n) (h2 : hi.length = n) (h : ∀ i, i < n → lo.getD i 0 ≤ hi.getD i 0) : boxP n lo hi = true := by
  unfold boxP
  rw [decide_eq_true ⟨h1, h2⟩, Bool.true_and, List.all_eq_true]
  exact fun i hi => decide_eq_true (h i (List.mem_range.1 hi))
theorem boxP_lens {n : Nat} {lo hi : List Int} (h : boxP n lo hi = true) : lo.length = n ∧ hi.length = n := by
  unfold boxP at h
  rw [Bool.and_eq_true] at h
  exact of_decide_eq_true h.1
theorem boxP_at {n : Nat} {lo hi : List Int} (h : boxP n lo hi = true) (i : Nat) (hi' : i < n) : lo.getD i 0 ≤ hi.getD i 0 := by
  unfold boxP at h
  rw [Bool.and_eq_true] at h
  exact of_decide_eq_true (List.all_eq_true.1 h.2 i (List.mem_range.2 hi'))
set_option maxHeartbeats 4000000 in
set_option maxRecDepth 100000 in
theorem isBox_any (w : World) (n : Nat) (lv hv : Value) (lo hi : List Int) (hl : Ints w lv lo) (hh : Ints w hv hi) (hn : n ≤ 1000) (h1 : lo.length ≤ 1000) (h2 : hi.length ≤ 1000) :
    Calls Tryd.prog 41 #[.int .i64 n, lv, hv] w fun e w' => e = .returned (.bool (boxP n lo hi)) ∧ w' = w := by
  obtain ⟨la, lc, rfl⟩ := hl.shape
  obtain ⟨ha, hc, rfl⟩ := hh.shape
  by_cases e1 : lo.length = n
  · by_cases e2 : hi.length = n
    · have HO := hide (And.intro hl hh)
      clear hl hh
      generalize hna : lo.length = n1 at *
      generalize hnb : hi.length = n2 at *
      subst e1
      subst e2
      have HLS := hide (And.intro hna hnb)
      clear hna hnb
      have heq : ((n2 : Int) != (n2 : Int)) = false := by simp
      go_enter Tryd.func41, Tryd.ntmps41
      go_wp2_with fail
      go_loopw [21] (fun x wr => ∃ (i : Nat), x = .int .i64 i ∧ i ≤ n2 ∧ Hid (∀ j, j < i → lo.getD j 0 ≤ hi.getD j 0) ∧ wr = w) (fun x _ => n2 - (intOf x).toNat)
      case atStart => exact ⟨0, rfl, Nat.zero_le _, hide (fun j hj => by omega), rfl⟩
      case round =>
        obtain ⟨i, rfl, hi', HJ, rfl⟩ := hrel
        by_cases hlt : i < n2
        · have hlt' : (i : Int) < (n2 : Int) := by omega
          have hn9 : n2 ≤ 9223372036854775807 := by omega
          have hi9 : i < 9223372036854775807 := by omega
          have hal := (unhide HLS).1
          have hxl := (unhide HLS).2
          have ha2 := (unhide HO).1
          have hb2 := (unhide HO).2
          rw [← hal] at ha2
          rw [← hxl] at hb2
          obtain ⟨lb, lo', lcap, hv1, hc1, hc2, hcl⟩ := ha2.at (by omega)
          injection hv1 with hv1 hv2 hv3
          subst hv1
          obtain ⟨db, do_, dcap, hv', hd1, hd2, hcd⟩ := hb2.at (by omega)
          injection hv' with hv1' hv2' hv3'
          subst hv1'
          have cl := hcl i (by omega)
          have cd := hcd i (by omega)
          obtain ⟨p, hp⟩ : ∃ p, p = lo.getD i 0 := ⟨_, rfl⟩
          obtain ⟨q, hq⟩ : ∃ q, q = hi.getD i 0 := ⟨_, rfl⟩
          rw [← getD_lt lo i (by omega), ← hp] at cl
          rw [← getD_lt hi i (by omega), ← hq] at cd
          have HPQ := hide (And.intro hp hq)
          clear hp hq hcl hcd hv2 hv3 hv2' hv3' hc1 hc2 hd1 hd2 ha2 hb2 hal hxl
          by_cases hg : q < p
          · have HF := hide (boxP_out (lo := lo) (hi := hi) i hlt (by rw [← (unhide HPQ).1, ← (unhide HPQ).2]; omega))
            go_wp2_with fail
            go_ret
            exact ⟨by rw [unhide HF]; rfl, rfl⟩
          · go_wp2_with fail
            go_roundw
            case rel => exact ⟨i + 1, by go_num, by omega, hide fun j hj => by
              rcases Nat.lt_or_ge j i with h | h
              · exact unhide HJ j h
              · have : j = i := by omega
                subst this
                rw [← (unhide HPQ).1, ← (unhide HPQ).2]
                omega, by first | trivial | rfl⟩
            case measure => simp [intOf]; omega
        · have hin : i = n2 := by omega
          subst hin
          have hlt' : ¬ (i : Int) < (i : Int) := by omega
          have HF := hide (boxP_in (unhide HLS).1 (unhide HLS).2 (unhide HJ))
          go_wp2_with fail
          go_ret
          exact ⟨by rw [unhide HF]; rfl, rfl⟩
    · have HF := hide (boxP_len (n := n) (lo := lo) (hi := hi) (by omega))
      have q1 : ((lo.length : Int) != (n : Int)) = false := by simp; omega
      have q2 : ((hi.length : Int) != (n : Int)) = true := by simp; omega
      clear hl hh h1 h2
      generalize lo.length = n1 at *
      generalize hi.length = n2 at *
      go_enter Tryd.func41, Tryd.ntmps41
      go_wp2_with fail
      go_ret
      exact ⟨by rw [unhide HF]; rfl, rfl⟩
  · have HF := hide (boxP_len (n := n) (lo := lo) (hi := hi) (by omega))
    have q1 : ((lo.length : Int) != (n : Int)) = true := by simp; omega
    clear hl hh h1 h2
    generalize lo.length = n1 at *
    generalize hi.length = n2 at *
    go_enter Tryd.func41, Tryd.ntmps41
    go_wp2_with fail
    go_ret
    exact ⟨by rw [unhide HF]; rfl, rfl⟩

/-- where two sums under one mind stand -/
def RgI (c x y : List Int) (i : Nat) (o : Bool) (s t : Int) : Prop := ∃ p q, o = (p || q) ∧ AtI c x i p s ∧ AtI c y i q t
theorem RgI.next {c x y : List Int} {i : Nat} {o : Bool} {s t : Int} (h : RgI c x y i o s t) (hc : i < c.length) (hx : i < x.length) (hy : i < y.length) (a b d : Int) (ha : a = c[i]) (hb : b = x[i]) (hd : d = y[i]) :
    RgI c x y (i + 1) ((((o || !fitO (a * b)) || !fitO (s + fitV (a * b))) || !fitO (a * d)) || !fitO (t + fitV (a * d))) (fitV (s + fitV (a * b))) (fitV (t + fitV (a * d))) := by
  obtain ⟨p, q, rfl, h1, h2⟩ := h
  exact ⟨_, _, by cases p <;> cases q <;> cases fitO (a * b) <;> cases fitO (s + fitV (a * b)) <;> cases fitO (a * d) <;> cases fitO (t + fitV (a * d)) <;> rfl, h1.next hc hx a b ha hb, h2.next hc hy a d ha hd⟩
theorem RgI.none {c x y : List Int} {i : Nat} {o : Bool} {s t : Int} (h : RgI c x y i o s t) (hc : i < c.length) (hx : i < x.length) (hy : i < y.length) (h0 : c[i] = 0) (hs : In64 s) (ht : In64 t) : RgI c x y (i + 1) o s t := by
  have h1 := h.next hc hx hy 0 _ _ h0.symm rfl rfl
  have e0 : fitV 0 = 0 := fitV_eq fitO_zero
  simp only [Int.zero_mul, e0, Int.add_zero, fitO_zero, fitO_iff.2 hs, fitO_iff.2 ht, Bool.not_true, Bool.or_false, fitV_eq (fitO_iff.2 hs), fitV_eq (fitO_iff.2 ht)] at h1
  exact h1
theorem RgI.fin {c x y : List Int} {i : Nat} {o : Bool} {s t : Int} (k : Int) (h : RgI c x y i o s t) (hc : c.length ≤ i) : (((o || !fitO (s + k)) || !fitO (t + k)) = false → atP c x k = some (fitV (s + k)) ∧ atP c y k = some (fitV (t + k))) ∧ (((o || !fitO (s + k)) || !fitO (t + k)) = true → atP c x k = Option.none ∨ atP c y k = Option.none) := by
  obtain ⟨p, q, rfl, h1, h2⟩ := h
  have f1 := h1.fin k hc
  have f2 := h2.fin k hc
  revert f1 f2
  generalize fitO (s + k) = u
  generalize fitO (t + k) = v
  intro f1 f2
  cases p <;> cases q <;> cases u <;> cases v <;> simp_all
theorem RgI.zero (c x y : List Int) : RgI c x y 0 false 0 0 := ⟨false, false, rfl, AtI.zero c x, AtI.zero c y⟩
theorem rngE_box {c lo hi : List Int} {k : Int} (h : boxP c.length lo hi = false) : rngE c lo hi k = 1 ∧ rngV c lo hi k = (0, 0) := by
  have : rngE c lo hi k = 1 := by unfold rngE; rw [if_pos h]
  exact ⟨this, by unfold rngV; rw [this, if_neg (by decide)]⟩
theorem rngE_some {c lo hi : List Int} {k u v : Int} (h : boxP c.length lo hi = true) (h1 : atP c (lowL c lo hi) k = some u) (h2 : atP c (lowL c hi lo) k = some v) : rngE c lo hi k = 0 ∧ rngV c lo hi k = (u, v) := by
  have : rngE c lo hi k = 0 := by unfold rngE; rw [if_neg (by rw [h]; decide), h1, h2]; rfl
  exact ⟨this, by unfold rngV; rw [this, if_pos rfl, h1, h2]; rfl⟩
theorem rngE_none {c lo hi : List Int} {k : Int} (h : boxP c.length lo hi = true) (h1 : atP c (lowL c lo hi) k = Option.none ∨ atP c (lowL c hi lo) k = Option.none) : rngE c lo hi k = 5 ∧ rngV c lo hi k = (0, 0) := by
  have : rngE c lo hi k = 5 := by
    unfold rngE; rw [if_neg (by rw [h]; decide)]
    rcases h1 with h1 | h1
    · rw [h1]; rfl
    · rw [h1]; simp
  exact ⟨this, by unfold rngV; rw [this, if_neg (by decide)]⟩
end Go.Proofs.YtmbhamnkbpcljaaDoor.Line
