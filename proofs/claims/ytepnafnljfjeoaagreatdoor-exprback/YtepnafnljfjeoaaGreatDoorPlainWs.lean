/- Plain: what a tree is told as is its words one behind the other, and is read as just these words. -/
import Derived.Test.YtepnafnljfjeoaaGreatDoorPlainBk
import Derived.Test.YtepnafnljfjeoaaGreatDoorTxA
namespace Go.Proofs.YtepnafnljfjeoaaGreatDoor.Line
open Ex (E St)
open Words (T Wd textW FitsTo Soft keyT)
set_option linter.unusedVariables false

theorem decd (u : Nat) : Lib.decDigits u = Words.dec u := by
  induction u using Nat.strongRecOn with
  | ind u ih =>
    rw [Lib.decDigits]
    split
    · rename_i h
      unfold Words.dec
      by_cases h0 : u = 0
      · rw [if_pos h0, h0]; rfl
      · rw [if_neg h0, Words.digs_pos h0, show u / 10 = 0 by omega, Words.digs_zero, show u % 10 = u by omega]; rfl
    · rename_i h
      rw [ih (u / 10) (by omega)]
      unfold Words.dec
      rw [if_neg (show ¬ u = 0 by omega), if_neg (show ¬ u / 10 = 0 by omega), Words.digs_pos (n := u) (by omega)]
theorem dec_step' (n : Nat) (h : n ≤ Words.big) : Words.step (Words.dec n) = .tok 2 n (Words.dec n).length := by
  have ha : ∀ c ∈ Words.dec n, Words.digitB c = true := by
    unfold Words.dec
    split
    · intro c hc; rw [List.mem_singleton.1 hc]; rfl
    · exact Words.digs_all n
  have hne : Words.dec n ≠ [] := by
    unfold Words.dec
    split
    · simp
    · rename_i h2; rw [Words.digs_pos h2]; simp
  have hn : Words.num (Words.dec n) = n := by
    unfold Words.dec
    split
    · rename_i h; rw [h]; rfl
    · exact Words.num_digs n
  have hs := Words.step_digits (Words.dec n) hne ha
  rw [hn, if_neg (by omega)] at hs
  exact hs
theorem itoa_neg {n : Int} (h : n < 0) : Lib.itoa n = 45 :: Words.dec n.natAbs := by unfold Lib.itoa; rw [if_pos h, decd]
theorem itoa_pos {n : Int} (h : ¬ n < 0) : Lib.itoa n = Words.dec n.natAbs := by unfold Lib.itoa; rw [if_neg h, decd, show n.toNat = n.natAbs by omega]
/-- a name by itself is one word -/
theorem nm_step {s : List UInt8} (h : IsNm s) : Words.step s = .tok 1 0 s.length := by
  obtain ⟨t, h1, h2, h3, h4⟩ := h
  have hv := Words.scanAt_valid s 0 t (by rw [show (Words.scanAt s 0).1 = [t] from h1]; simp)
  unfold Words.Valid at hv
  rw [h4, h3] at hv
  have : t.n = 0 := by
    unfold Words.step at hv
    split at hv
    · cases hv
    · split at hv
      · split at hv
        · cases hv
        · injection hv with _ e _; exact e.symm
      · split at hv
        · split at hv
          · cases hv
          · split at hv
            · cases hv
            · injection hv with e _ _; exact absurd e (by decide)
        · split at hv
          · cases hv
          · injection hv with e _ _; exact absurd e (by decide)
  rw [this] at hv
  exact hv
abbrev pre (b : Bool) : List UInt8 := if b then [32] else []
theorem textW_cons (x : Wd) (L : List Wd) : textW (x :: L) = pre x.1 ++ (x.2.2.1 ++ textW L) := rfl
theorem brkT_eq (k : Int) (i : Nat) (kp : Int) : brkT k i kp = brkW k i kp := rfl
theorem numW_text (b : Bool) (n : Int) : textW (numW b n) = pre b ++ numT n := by
  unfold numW numT
  by_cases c1 : n = -9223372036854775808
  · rw [if_pos c1, if_pos c1]
    simp only [textW_cons]
    show pre b ++ ([40] ++ (pre false ++ ([45] ++ (pre false ++ (Words.dec 9223372036854775807 ++ (pre true ++ ([45] ++ (pre true ++ (Words.dec 1 ++ (pre false ++ [41])))))))))) = _
    rw [show Words.dec 9223372036854775807 = [57, 50, 50, 51, 51, 55, 50, 48, 51, 54, 56, 53, 52, 55, 55, 53, 56, 48, 55] by decide +kernel, show Words.dec 1 = [49] by decide +kernel]
    rfl
  · rw [if_neg c1, if_neg c1]
    by_cases c2 : n < 0
    · rw [if_pos c2, if_pos c2, itoa_neg c2]
      simp only [textW_cons]
      rfl
    · rw [if_neg c2, if_neg c2, itoa_pos c2]
      simp only [textW_cons]
      show pre b ++ (Words.dec n.natAbs ++ []) = _
      rw [List.append_nil]
theorem opd_text {k : Int} {i : Nat} {b : Bool} {y : E} (h : ∀ b, textW (wds b y) = pre b ++ textT y) : textW (opd k i b y) = pre b ++ (if brkT k i y.kind then [40] ++ textT y ++ [41] else textT y) := by
  unfold opd
  rw [brkT_eq]
  cases brkW k i y.kind with
  | true =>
    show textW (sg b 40 :: (wds false y ++ [sg false 41])) = pre b ++ ([40] ++ textT y ++ [41])
    rw [textW_cons, Words.textW_app, h]
    show pre b ++ ([40] ++ (([] ++ textT y) ++ ([] ++ [41]))) = _
    simp
  | false => exact h b
theorem wdsL_text {k : Int} (hk : k = 3 ∨ k = 5 ∨ k = 6 ∨ k = 7 ∨ k = 8) : ∀ (r : List E) (i : Nat), (∀ y ∈ r, ∀ b, textW (wds b y) = pre b ++ textT y) → textW (wdsL k (i + 1) true r) = textL k (i + 1) r
  | [], i, _ => by rw [wdsL_nil, textL]; rfl
  | y :: r, i, h => by
    rw [wdsL_cons, if_neg (by omega), textL, if_neg (by omega), Words.textW_app, Words.textW_app, opd_text (h y (by simp)), wdsL_text hk r (i + 1) (fun z hz => h z (by simp [hz]))]
    have : textW (sepW k) ++ pre true = betweenT k := by rcases hk with rfl | rfl | rfl | rfl | rfl <;> rfl
    rw [← this]
    simp
theorem wds_text : ∀ x : E, RX x → ∀ b, textW (wds b x) = pre b ++ textT x := by
  intro x h
  induction h with
  | num x hk hs ha =>
    intro b
    cases x with
    | mk k n nm a =>
      obtain rfl : k = 1 := hk
      obtain rfl : a = [] := ha
      rw [wds, if_pos rfl, numW_text, textT, textL]
      show pre b ++ numT n = pre b ++ (numT n ++ ([] ++ []))
      simp
  | var x hk hn hs ha =>
    intro b
    cases x with
    | mk k n nm a =>
      obtain rfl : k = 2 := hk
      obtain rfl : a = [] := ha
      rw [wds, if_neg (by decide), if_pos rfl, textT, textL, textW_cons]
      show pre b ++ (nm ++ []) = pre b ++ (nm ++ ([] ++ []))
      simp
  | elem x hk hn hs h1 h4 h ih =>
    intro b
    cases x with
    | mk k n nm a =>
      obtain rfl : k = 3 := hk
      obtain ⟨y, r, rfl⟩ : ∃ y r, a = y :: r := by cases a with | nil => simp [E.a] at h1 | cons y r => exact ⟨y, r, rfl⟩
      rw [wds, if_neg (by decide), if_neg (by decide), if_pos rfl, textW_cons, textW_cons, Words.textW_app, wdsL_cons, if_pos rfl, List.nil_append, Words.textW_app, opd_text (ih y (by simp [E.a])), wdsL_text (.inl rfl) r 0 (fun z hz => ih z (by simp [E.a, hz])), textT, textL, if_pos rfl]
      show pre b ++ (nm ++ (pre false ++ ([40] ++ ((pre false ++ _ ++ _) ++ (pre false ++ [41]))))) = pre b ++ ((nm ++ [40]) ++ (([] ++ (_ ++ _)) ++ [41]))
      simp [pre]
  | neg x hk hn hs h1 h ih =>
    intro b
    cases x with
    | mk k n nm a =>
      obtain rfl : k = 4 := hk
      obtain ⟨y, rfl⟩ := List.length_eq_one_iff.1 h1
      rw [wds, if_neg (by decide), if_neg (by decide), if_neg (by decide), if_pos rfl, textW_cons, wdsL_cons, if_pos rfl, wdsL_nil, List.nil_append, List.append_nil, opd_text (ih y (by simp [E.a])), textT, textL, if_pos rfl, textL]
      show pre b ++ ([45] ++ ([] ++ _)) = pre b ++ ([45] ++ (([] ++ (_ ++ [])) ++ []))
      simp
  | two x hk hn hs h1 h ih =>
    intro b
    cases x with
    | mk k n nm a =>
      match a, h1 with
      | [u, v], _ =>
        have hk : k = 5 ∨ k = 6 ∨ k = 7 ∨ k = 8 := hk
        have ha : aheadT k n nm = [] := by unfold aheadT; rw [if_neg (by omega), if_neg (by omega), if_neg (by omega), if_neg (by omega)]
        have hb : behindT k = [] := by unfold behindT; rw [if_neg (by omega)]
        rw [wds, if_neg (by omega), if_neg (by omega), if_neg (by omega), if_neg (by omega), wdsL_cons, if_pos rfl, List.nil_append, Words.textW_app, opd_text (ih u (by simp [E.a])), wdsL_text (.inr hk) [v] 0 (fun z hz => ih z (by simp [E.a] at hz ⊢; exact .inr hz)), textT, ha, hb]
        conv => rhs; rw [textL, if_pos rfl]
        simp
/-- numbers that fit -/
inductive NumX : E → Prop
  | mk (x : E) (h : -9223372036854775808 ≤ x.n ∧ x.n ≤ 9223372036854775807) (hs : ∀ z ∈ x.a, NumX z) : NumX x
theorem NumX.num {x : E} (h : NumX x) : -9223372036854775808 ≤ x.n ∧ x.n ≤ 9223372036854775807 := by cases h; assumption
theorem NumX.part {x : E} (h : NumX x) : ∀ z ∈ x.a, NumX z := by cases h; assumption
theorem soft_sg (c : UInt8) (hc : c = 40 ∨ c = 41 ∨ c = 44 ∨ c = 32) (r : List UInt8) : Soft (c :: r) := by rcases hc with rfl | rfl | rfl | rfl <;> exact Words.soft_cons _ r (by decide) (by decide)
theorem fit_sg {b : Bool} {c : UInt8} (hc : c = 43 ∨ c = 45 ∨ c = 42 ∨ c = 40 ∨ c = 41 ∨ c = 44) (r : List UInt8) : FitsTo [sg b c] r := ⟨Words.sign_app c hc _, trivial⟩
theorem fit_nb {b : Bool} {n : Nat} (hn : n ≤ 9223372036854775807) {r : List UInt8} (hr : Soft r) : FitsTo [nb b n] r := ⟨Words.soft_app (dec_step' n hn) hr, trivial⟩
theorem fit_numW (b : Bool) (n : Int) (h : -9223372036854775808 ≤ n ∧ n ≤ 9223372036854775807) {r : List UInt8} (hr : Soft r) : FitsTo (numW b n) r := by
  unfold numW
  split
  · exact ⟨Words.sign_app 40 (by simp) _, Words.sign_app 45 (by simp) _, Words.soft_app (dec_step' 9223372036854775807 (Nat.le_refl _)) (soft_sg 32 (by simp) _), Words.sign_app 45 (by simp) _, Words.soft_app (dec_step' 1 (by decide)) (soft_sg 41 (by simp) _), Words.sign_app 41 (by simp) _, trivial⟩
  · split
    · exact ⟨Words.sign_app 40 (by simp) _, Words.sign_app 45 (by simp) _, Words.soft_app (dec_step' _ (by unfold Words.big; omega)) (soft_sg 41 (by simp) _), Words.sign_app 41 (by simp) _, trivial⟩
    · exact fit_nb (by omega) hr
theorem opd_fits {k : Int} {i : Nat} {b : Bool} {y : E} (h : ∀ b r, Soft r → FitsTo (wds b y) r) {r : List UInt8} (hr : Soft r) : FitsTo (opd k i b y) r := by
  unfold opd
  split
  · exact ⟨Words.sign_app 40 (by simp) _, Words.fits_app (h false _ (soft_sg 41 (by simp) _)) ⟨Words.sign_app 41 (by simp) _, trivial⟩⟩
  · exact h b r hr
theorem soft_more' {k : Int} (hk : k = 3 ∨ k = 5 ∨ k = 6 ∨ k = 7 ∨ k = 8) (a : List E) (i : Nat) {r : List UInt8} (hr : Soft r) : Soft (textW (wdsL k (i + 1) true a) ++ r) := by
  cases a with
  | nil => rw [wdsL_nil]; exact hr
  | cons y a =>
    rw [wdsL_cons, if_neg (by omega), Words.textW_app]
    rcases hk with rfl | rfl | rfl | rfl | rfl
    · exact soft_sg 44 (by simp) _
    · exact soft_sg 32 (by simp) _
    · exact soft_sg 32 (by simp) _
    · exact soft_sg 32 (by simp) _
    · exact soft_sg 32 (by simp) _
theorem wdsL_fits {k : Int} (hk : k = 3 ∨ k = 5 ∨ k = 6 ∨ k = 7 ∨ k = 8) : ∀ (a : List E) (i : Nat) (r : List UInt8), Soft r → (∀ y ∈ a, RX y) → (∀ y ∈ a, ∀ b r, Soft r → FitsTo (wds b y) r) → FitsTo (wdsL k (i + 1) true a) r
  | [], i, r, _, _, _ => by rw [wdsL_nil]; trivial
  | y :: a, i, r, hr, hx, h => by
    have hs := soft_more' hk a (i + 1) hr
    rw [wdsL_cons, if_neg (by omega)]
    refine Words.fits_app ?_ (Words.fits_app (opd_fits (h y (by simp)) hs) (wdsL_fits hk a (i + 1) r hr (fun z hz => hx z (by simp [hz])) (fun z hz => h z (by simp [hz]))))
    have ht := opd_text (k := k) (i := i + 1) (b := true) (wds_text y (hx y (by simp)))
    rw [Words.textW_app, ht]
    rcases hk with rfl | rfl | rfl | rfl | rfl
    · exact fit_sg (by simp) _
    · exact fit_sg (by simp) _
    · exact fit_sg (by simp) _
    · exact fit_sg (by simp) _
    · exact ⟨rfl, trivial⟩
theorem wds_fits : ∀ x : E, RX x → NumX x → ∀ b r, Soft r → FitsTo (wds b x) r := by
  intro x h
  induction h with
  | num x hk hs ha =>
    intro hn b r hr
    cases x with
    | mk k n nm a =>
      obtain rfl : k = 1 := hk
      rw [wds, if_pos rfl]
      exact fit_numW b n hn.num hr
  | var x hk hn hs ha =>
    intro _ b r hr
    cases x with
    | mk k n nm a =>
      obtain rfl : k = 2 := hk
      rw [wds, if_neg (by decide), if_pos rfl]
      exact ⟨Words.soft_app (nm_step hs) hr, trivial⟩
  | elem x hk hn hs h1 h4 h ih =>
    intro hN b r hr
    cases x with
    | mk k n nm a =>
      obtain rfl : k = 3 := hk
      obtain ⟨y, a, rfl⟩ : ∃ y r, a = y :: r := by cases a with | nil => simp [E.a] at h1 | cons y r => exact ⟨y, r, rfl⟩
      have ihn : ∀ z ∈ y :: a, ∀ b r, Soft r → FitsTo (wds b z) r := fun z hz => ih z hz (hN.part z hz)
      rw [wds, if_neg (by decide), if_neg (by decide), if_pos rfl, wdsL_cons, if_pos rfl, List.nil_append]
      have hb := Words.sign_app 41 (by simp)
      refine ⟨Words.soft_app (nm_step hs) (soft_sg 40 (by simp) _), Words.sign_app 40 (by simp) _, ?_⟩
      rw [List.append_assoc]
      refine Words.fits_app (opd_fits (ihn y (by simp)) ?_) (Words.fits_app (wdsL_fits (.inl rfl) a 0 _ (soft_sg 41 (by simp) _) (fun z hz => h z (by simp [E.a, hz])) (fun z hz => ihn z (by simp [hz]))) ⟨hb _, trivial⟩)
      rw [Words.textW_app, List.append_assoc]
      exact soft_more' (.inl rfl) a 0 (soft_sg 41 (by simp) _)
  | neg x hk hn hs h1 h ih =>
    intro hN b r hr
    cases x with
    | mk k n nm a =>
      obtain rfl : k = 4 := hk
      obtain ⟨y, rfl⟩ := List.length_eq_one_iff.1 h1
      rw [wds, if_neg (by decide), if_neg (by decide), if_neg (by decide), if_pos rfl, wdsL_cons, if_pos rfl, wdsL_nil, List.nil_append, List.append_nil]
      exact ⟨Words.sign_app 45 (by simp) _, opd_fits (ih y (List.mem_singleton.2 rfl) (hN.part y (List.mem_singleton.2 rfl))) hr⟩
  | two x hk hn hs h1 h ih =>
    intro hN b r hr
    cases x with
    | mk k n nm a =>
      match a, h1 with
      | [u, v], _ =>
        have hk : k = 5 ∨ k = 6 ∨ k = 7 ∨ k = 8 := hk
        rw [wds, if_neg (by omega), if_neg (by omega), if_neg (by omega), if_neg (by omega), wdsL_cons, if_pos rfl, List.nil_append]
        exact Words.fits_app (opd_fits (ih u (by simp [E.a]) (hN.part u (by simp [E.a]))) (soft_more' (.inr hk) [v] 0 hr)) (wdsL_fits (.inr hk) [v] 0 r hr (fun z hz => h z (by simp [E.a] at hz ⊢; exact .inr hz)) (fun z hz => ih z (by simp [E.a] at hz ⊢; exact .inr hz) (hN.part z (by simp [E.a] at hz ⊢; exact .inr hz))))
/-- what a tree is told as, read as words and as an expression -/
theorem told_back {x : E} (hx : RX x) (hn : NumX x) : ∃ l, Words.toks (textT x) = (l, 0, 0) ∧ EE l 0 0 l.length (plainE x) := by
  have ht := wds_text x hx false
  obtain ⟨l, h1, h2⟩ := Words.toks_text (wds false x) (Words.fits_of (wds_fits x hx hn false [] Words.soft_nil))
  rw [show pre false = [] from rfl, List.nil_append] at ht
  rw [ht] at h1
  exact ⟨l, h1, reads_back hx h2⟩
end Go.Proofs.YtepnafnljfjeoaaGreatDoor.Line
