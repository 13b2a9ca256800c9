/- The ten forms of a statement (plain), with blanks ahead and a note behind: what they are read as, by reckoning. -/
import Derived.Test.YtdpjipphbhomkaaGreatDoorStGaAll
namespace Go.Proofs.YtdpjipphbhomkaaGreatDoor.Line
open Ex (E St)
set_option linter.unusedVariables false

/-- are trees the same, by reckoning -/
def eqE : Nat → E → E → Bool
  | 0, _, _ => false
  | f + 1, .mk k n s a, .mk k' n' s' a' => decide (k = k') && decide (n = n') && decide (s = s') && decide (a.length = a'.length) && (a.zip a').all (fun p => eqE f p.1 p.2)
theorem eqE_ok : ∀ (f : Nat) (x y : E), eqE f x y = true → x = y := by
  intro f
  induction f with
  | zero => intro x y h; simp [eqE] at h
  | succ f ih =>
    intro x y h
    obtain ⟨k, n, s, a⟩ := x
    obtain ⟨k', n', s', a'⟩ := y
    simp only [eqE, Bool.and_eq_true, decide_eq_true_eq, List.all_eq_true] at h
    obtain ⟨⟨⟨⟨rfl, rfl⟩, rfl⟩, hl⟩, hz⟩ := h
    have ha : a = a' := List.ext_getElem hl fun i h1 h2 => ih _ _ (hz (a[i], a'[i]) (by
      rw [← List.getElem_zip (h := by rw [List.length_zip]; omega)]
      exact List.getElem_mem _))
    rw [ha]
def eqPS : PS → PS → Bool
  | .plain k, .plain k' => decide (k = k')
  | .decl m, .decl m' => decide (m = m')
  | .set x y, .set x' y' => eqE 9 x x' && eqE 9 y y'
  | .loop nm x y st, .loop nm' x' y' st' => decide (nm = nm') && eqE 9 x x' && eqE 9 y y' && decide (st = st')
  | .cond c x y, .cond c' x' y' => decide (c = c') && eqE 9 x x' && eqE 9 y y'
  | .rd x, .rd x' => eqE 9 x x'
  | .pr x, .pr x' => eqE 9 x x'
  | _, _ => false
theorem eqPS_ok (a b : PS) (h : eqPS a b = true) : a = b := by
  cases a <;> cases b <;> simp only [eqPS, Bool.and_eq_true, decide_eq_true_eq, Bool.false_eq_true] at h
  case plain.plain => rw [h]
  case decl.decl => rw [h]
  case set.set => rw [eqE_ok _ _ _ h.1, eqE_ok _ _ _ h.2]
  case loop.loop => rw [h.1.1.1, eqE_ok _ _ _ h.1.1.2, eqE_ok _ _ _ h.1.2, h.2]
  case cond.cond => rw [h.1.1, eqE_ok _ _ _ h.1.2, eqE_ok _ _ _ h.2]
  case rd.rd => rw [eqE_ok _ _ _ h]
  case pr.pr => rw [eqE_ok _ _ _ h]
/-- is a line read as ps, with nothing wrong -/
def linedB (s : List UInt8) (ps : PS) (p : Nat) : Bool :=
  decide (s.length ≤ 1000) && decide ((Plain.bodyOf s).length ≤ 1000) && decide ((Words.toks (Plain.bodyOf s)).2 = (0, 0)) && (wordsOf s).all (fun t => decide (t.n ≤ 9223372036854775807)) && decide ((wordsOf s).length ≤ 1000) && decide ((wordsOf s).length ≤ p) &&
  (match readF (wordsOf s) with | some (q, p', er) => eqPS q ps && decide (p' = p) && decide (er = .ok) | none => false)
theorem linedB_ok {s : List UInt8} {ps : PS} {p : Nat} (h : linedB s ps p = true) : Lined s ps p .ok ∧ (wordsOf s).length ≤ p := by
  unfold linedB at h
  simp only [Bool.and_eq_true, decide_eq_true_eq, List.all_eq_true] at h
  obtain ⟨⟨⟨⟨⟨⟨h1, h2⟩, h3⟩, h4⟩, h5⟩, h6⟩, h7⟩ := h
  split at h7
  · rename_i q p' er hr
    simp only [Bool.and_eq_true, decide_eq_true_eq] at h7
    obtain ⟨⟨h8, rfl⟩, rfl⟩ := h7
    have h9 := eqPS_ok _ _ h8
    subst h9
    exact ⟨⟨by omega, by omega, by show Words.toks (Plain.bodyOf s) = ((Words.toks (Plain.bodyOf s)).1, 0, 0); rw [← h3], fun t ht => h4 t ht, by omega, readF_ok hr⟩, h6⟩
  · cases h7
def kdT (k : Nat) : List UInt8 := match k with
  | 1 => [105, 110, 116, 101, 103, 101, 114, 32, 120]
  | 2 => [120, 32, 61, 32, 49]
  | 3 => [100, 111, 32, 105, 32, 61, 32, 49, 44, 32, 50]
  | 4 => [101, 110, 100, 32, 100, 111]
  | 5 => [105, 102, 32, 40, 120, 32, 60, 32, 49, 41, 32, 116, 104, 101, 110]
  | 6 => [101, 108, 115, 101]
  | 7 => [101, 110, 100, 32, 105, 102]
  | 8 => [114, 101, 97, 100, 32, 120]
  | 9 => [112, 114, 105, 110, 116, 32, 120]
  | _ => []
def kdP (k : Nat) : PS := match k with
  | 1 => .decl [([120], [])]
  | 2 => .set (.mk 2 0 [120] []) (.mk 1 1 [] [])
  | 3 => .loop [105] (.mk 1 1 [] []) (.mk 1 2 [] []) 1
  | 4 => .plain 4
  | 5 => .cond [60] (.mk 2 0 [120] []) (.mk 1 1 [] [])
  | 6 => .plain 6
  | 7 => .plain 7
  | 8 => .rd (.mk 2 0 [120] [])
  | 9 => .pr (.mk 2 0 [120] [])
  | _ => .plain 0
def kdN (k : Nat) : Nat := match k with
  | 1 => 2 | 2 => 3 | 3 => 6 | 4 => 2 | 5 => 7 | 6 => 1 | 7 => 2 | 8 => 2 | 9 => 2 | _ => 0
abbrev kdNote : List UInt8 := [32, 33, 32, 112, 114, 105, 110, 116, 32, 53]
def kdLine (k n : Nat) (note : Bool) : List UInt8 := (if note = true then (List.replicate n 32 ++ kdT k) ++ kdNote else List.replicate n 32 ++ kdT k) ++ [10]
set_option maxRecDepth 100000 in
theorem kd_all : ∀ k : Fin 10, ∀ n : Fin 20, ∀ b : Bool, linedB (kdLine k.val n.val b) (kdP k.val) (kdN k.val) = true := by decide +kernel
theorem kd_line (k n : Nat) (hk : k < 10) (hn : n < 20) (b : Bool) : Lined (kdLine k n b) (kdP k) (kdN k) .ok ∧ (wordsOf (kdLine k n b)).length ≤ kdN k := linedB_ok (kd_all ⟨k, hk⟩ ⟨n, hn⟩ b)
theorem kd_text : ∀ k : Fin 10, stText (kdP k.val) = kdT k.val ∧ kindN (kdP k.val) = k.val := by decide +kernel
theorem kd_x : OkX (.mk 2 0 [120] []) := okX_of (by decide +kernel) (by decide +kernel) (by decide +kernel)
theorem kd_1 : OkX (.mk 1 1 [] []) := okX_of (by decide +kernel) (by decide +kernel) (by decide +kernel)
theorem kd_2 : OkX (.mk 1 2 [] []) := okX_of (by decide +kernel) (by decide +kernel) (by decide +kernel)
theorem kd_ok (k : Nat) (hk : k < 10) : OkS (kdP k) := by
  match k, hk with
  | 0, _ => exact .inl rfl
  | 1, _ => exact ⟨by decide, fun x hx => by obtain rfl := List.mem_singleton.1 hx; exact ⟨by decide, by decide, by decide⟩, by decide, by decide +kernel⟩
  | 2, _ => exact ⟨kd_x, kd_1⟩
  | 3, _ => exact ⟨kd_1, kd_2, by decide, by decide, by decide⟩
  | 4, _ => exact .inr (.inl rfl)
  | 5, _ => exact ⟨kd_x, kd_1, by decide⟩
  | 6, _ => exact .inr (.inr (.inl rfl))
  | 7, _ => exact .inr (.inr (.inr rfl))
  | 8, _ => exact kd_x
  | 9, _ => exact kd_x
theorem kdT_len (k : Nat) : (kdT k).length ≤ 20 := by
  unfold kdT
  split <;> simp
end Go.Proofs.YtdpjipphbhomkaaGreatDoor.Line
