/- One contract of the statement reader over all kinds of statements: what its words are read as, and where that lies.
   What words are read as is one thing alone; and a reckoning that finds it.
   The contract of the project's stmt.Text, a kind a theorem.
   The contract of the project's stmt.Text at a declaration: items that a reading made, in words.
   Parse and Text at a line of which it is known what it is read as. -/
import Derived.Test.YtdpjipphbhomkaaGreatDoorStThree
import Derived.Test.YtdpjipphbhomkaaGreatDoorStOne
import Derived.Test.YtdpjipphbhomkaaGreatDoorRdLast
import Derived.Test.YtdpjipphbhomkaaGreatDoorTxAll
import Derived.Test.YtdpjipphbhomkaaGreatDoorStTxAll
import Derived.Deep.RegionHeld3
namespace Go.Proofs.YtdpjipphbhomkaaGreatDoor.Line
open Go.ChangeShapes Go.WideShapes Go.ChangeAt Go.RowKit
open Ex (E St)
set_option linter.unusedVariables false

/-- a statement, as plain data -/
inductive PS
  | plain (k : Nat)
  | decl (m : List (List UInt8 × List Nat))
  | set (x y : E)
  | loop (nm : List UInt8) (x y : E) (st : Int)
  | cond (c : List UInt8) (x y : E)
  | rd (x : E)
  | pr (y : E)
/-- the kind that the first words tell, the place behind them, what is wrong -/
def kindR (T : List Words.T) : Nat × Nat × SE :=
  if T.length = 0 then (0, 0, .ok)
  else if isNext T 0 .ok [105, 110, 116, 101, 103, 101, 114] = true then (1, 1, .ok)
  else if isNext T 0 .ok [100, 111] = true then (3, 1, .ok)
  else if isNext T 0 .ok [101, 110, 100] = true then
    (if isNext T 1 .ok [100, 111] = true then (4, 2, .ok) else (7, nextP (isNext T 1 .ok [105, 102]) 1, mustE (isNext T 1 .ok [105, 102]) .ok 1))
  else if isNext T 0 .ok [105, 102] = true then (5, 1, .ok)
  else if isNext T 0 .ok [101, 108, 115, 101] = true then (6, 1, .ok)
  else if isNext T 0 .ok [114, 101, 97, 100] = true then (8, 1, .ok)
  else if isNext T 0 .ok [112, 114, 105, 110, 116] = true then (9, 1, .ok)
  else (2, 0, .ok)
theorem kind_is {T : List Words.T} {L : Value} {rb : Nat} {w : World} (h : SR T L rb w 0 .ok) : KindIs T L rb w ((kindR T).1 : Int) (kindR T).2.1 (kindR T).2.2 := by
  intro W hW
  have h := h.below hW
  have nf : ∀ {b : Bool}, ¬ b = true → b = false := fun {b} h => by cases b <;> simp_all
  unfold kindR
  split
  · rename_i h0; exact kind_none T L rb W 0 .ok h h0
  rename_i h0
  have h0 : 0 < T.length := by omega
  split
  · rename_i q0; exact kind_integer T L rb W 0 .ok h h0 q0
  rename_i q0
  split
  · rename_i q1; exact kind_do T L rb W 0 .ok h h0 (nf q0) q1
  rename_i q1
  split
  · rename_i q2
    refine (kind_end T L rb W 0 .ok h h0 (nf q0) (nf q1) q2).mono ?_
    rintro e w' ⟨k, p', er', rfl, hs, hb, ⟨hd, rfl, rfl, rfl⟩ | ⟨hd, rfl, rfl, rfl⟩⟩
    · rw [if_pos hd]; exact ⟨rfl, hs, hb⟩
    · rw [if_neg (show ¬ isNext T 1 .ok [100, 111] = true from by rw [show isNext T 1 .ok [100, 111] = false from hd]; simp)]; exact ⟨rfl, hs, hb⟩
  rename_i q2
  split
  · rename_i q3; exact kind_if T L rb W 0 .ok h h0 (nf q0) (nf q1) (nf q2) q3
  rename_i q3
  split
  · rename_i q4; exact kind_else T L rb W 0 .ok h h0 (nf q0) (nf q1) (nf q2) (nf q3) q4
  rename_i q4
  split
  · rename_i q5; exact kind_read T L rb W 0 .ok h h0 (nf q0) (nf q1) (nf q2) (nf q3) (nf q4) q5
  rename_i q5
  split
  · rename_i q6; exact kind_print T L rb W 0 .ok h h0 (nf q0) (nf q1) (nf q2) (nf q3) (nf q4) (nf q5) q6
  rename_i q6
  exact kind_set T L rb W 0 .ok h h0 (nf q0) (nf q1) (nf q2) (nf q3) (nf q4) (nf q5) (nf q6)
theorem kind_cases (T : List Words.T) : (kindR T).1 = 0 ∨ (kindR T).1 = 1 ∨ (kindR T).1 = 2 ∨ (kindR T).1 = 3 ∨ (kindR T).1 = 4 ∨ (kindR T).1 = 5 ∨ (kindR T).1 = 6 ∨ (kindR T).1 = 7 ∨ (kindR T).1 = 8 ∨ (kindR T).1 = 9 := by
  unfold kindR
  repeat' split
  all_goals simp

/-- what the words T are read as, up to where, and what is wrong -/
def ReadsAs (T : List Words.T) : PS → Nat → SE → Prop
  | .plain k, p, er => kindR T = (k, p, er) ∧ (k = 0 ∨ k = 4 ∨ k = 6 ∨ k = 7)
  | .decl m, p, er => (kindR T).1 = 1 ∧ itemsR T (T.length + 1) [] (kindR T).2.1 (kindR T).2.2 = (m, p, er)
  | .set x y, p, er => (kindR T).1 = 2 ∧ SetR T (kindR T).2.1 (kindR T).2.2 x y p er
  | .loop nm x y st, p, er => (kindR T).1 = 3 ∧ DoR T (kindR T).2.1 (kindR T).2.2 nm x y st p er
  | .cond c x y, p, er => (kindR T).1 = 5 ∧ IfR T (kindR T).2.1 (kindR T).2.2 c x y p er
  | .rd x, p, er => (kindR T).1 = 8 ∧ TR T (kindR T).2.1 (kindR T).2.2 x p er
  | .pr y, p, er => (kindR T).1 = 9 ∧ XR T (kindR T).2.1 T.length (kindR T).2.2 y p er
/-- the 29 cells of a statement, its rows in blocks behind B -/
def Holds (B : Nat) (W : World) (cs : Array Value) : PS → Prop
  | .plain k => cs = stZ k
  | .decl m => ∃ v M, cs = (stZ 1).setIfInBounds 1 v ∧ (∃ a n c, v = .slice a n c) ∧ ItemsAt (B + 1) W v M ∧ plainI M = m
  | .set x y => ∃ a n c a' n' c', cs = setV 2 x (.slice a n c) y (.slice a' n' c') ∧ Forest W (fun b => B < b) x.a (.slice a n c) ∧ Forest W (fun b => B < b) y.a (.slice a' n' c')
  | .loop nm x y st => ∃ a n c a' n' c', cs = doV nm x (.slice a n c) y (.slice a' n' c') st ∧ Forest W (fun b => B < b) x.a (.slice a n c) ∧ Forest W (fun b => B < b) y.a (.slice a' n' c')
  | .cond o x y => ∃ a n c a' n' c', cs = ifV 5 o x (.slice a n c) y (.slice a' n' c') ∧ Forest W (fun b => B < b) x.a (.slice a n c) ∧ Forest W (fun b => B < b) y.a (.slice a' n' c')
  | .rd x => ∃ a n c, cs = toV 8 x (.slice a n c) ∧ Forest W (fun b => B < b) x.a (.slice a n c)
  | .pr y => ∃ a n c, cs = prV 9 y (.slice a n c) ∧ Forest W (fun b => B < b) y.a (.slice a n c)
theorem row_keep {base n size : Nat} {e : TypeId} {xs : List Value} {w w' : World} {v : Value} (h : w.ownsRow base e size v n xs) (hk : ∀ b, base ≤ b → b < w.heap.size → w'.heap[b]? = w.heap[b]?) : w'.ownsRow base e size v n xs := by
  obtain ⟨h1, h2⟩ := h
  refine ⟨h1, ?_⟩
  rcases h2 with h2 | ⟨g, cap, cur, hv, hg, hh, r⟩
  · exact .inl h2
  · refine .inr ⟨g, cap, cur, hv, hg, ?_, r⟩
    rw [hk g hg (by
      rcases Nat.lt_or_ge g w.heap.size with h | h
      · exact h
      · rw [Array.getElem?_eq_none h] at hh; cases hh)]
    exact hh
theorem ItemsAt.keep {base : Nat} {w w' : World} {v : Value} {m : List Itm} (h : ItemsAt base w v m) (hk : ∀ b, base ≤ b → b < w.heap.size → w'.heap[b]? = w.heap[b]?) : ItemsAt base w' v m := ⟨row_keep h.own hk, fun x hx => row_keep (h.dims x hx) hk⟩
theorem Holds.keep {B : Nat} {W W' : World} {cs : Array Value} {ps : PS} (h : Holds B W cs ps) (hk : ∀ b, B < b → b < W.heap.size → W'.heap[b]? = W.heap[b]?) : Holds B W' cs ps := by
  have hf : ∀ {l : List E} {v : Value}, Forest W (fun b => B < b) l v → Forest W' (fun b => B < b) l v := fun h => h.keep hk (fun _ h _ => h)
  cases ps with
  | plain k => exact h
  | decl m => obtain ⟨v, M, h1, h2, h3, h4⟩ := h; exact ⟨v, M, h1, h2, h3.keep hk, h4⟩
  | set x y => obtain ⟨a, n, c, a', n', c', h1, h2, h3⟩ := h; exact ⟨a, n, c, a', n', c', h1, hf h2, hf h3⟩
  | loop nm x y st => obtain ⟨a, n, c, a', n', c', h1, h2, h3⟩ := h; exact ⟨a, n, c, a', n', c', h1, hf h2, hf h3⟩
  | cond o x y => obtain ⟨a, n, c, a', n', c', h1, h2, h3⟩ := h; exact ⟨a, n, c, a', n', c', h1, hf h2, hf h3⟩
  | rd x => obtain ⟨a, n, c, h1, h2⟩ := h; exact ⟨a, n, c, h1, hf h2⟩
  | pr y => obtain ⟨a, n, c, h1, h2⟩ := h; exact ⟨a, n, c, h1, hf h2⟩
theorem Holds.below {B : Nat} {W W' : World} {cs : Array Value} {ps : PS} (h : Holds B W cs ps) (hb : Below W.heap.size W W') : Holds B W' cs ps := h.keep (fun b _ hl => hb.block b hl)
theorem stmt_all (HPARSE : ParseSpec) (HCOND : CondSpec) (T : List Words.T) (hN : NumOk T) (B : Nat) : StmtSpec T B (fun cs p er W => ∃ ps, ReadsAs T ps p er ∧ Holds B W cs ps) := by
  intro L rb w hB h hl h0 hlw hG
  subst hB
  have hk := kind_is h
  rcases kind_cases T with k | k | k | k | k | k | k | k | k | k
  case inl | inr.inr.inr.inr.inl | inr.inr.inr.inr.inr.inr.inl | inr.inr.inr.inr.inr.inr.inr.inl =>
    refine (stmt_plain ((kindR T).1 : Int) (by omega) T L rb w _ _ hl hlw hk).mono ?_
    rintro e w' ⟨rfl, hs, hb⟩
    exact ⟨_, _, _, rfl, rfl, stZ_one _, hs, hb, .plain (kindR T).1, ⟨rfl, by omega⟩, rfl⟩
  all_goals rw [k] at hk
  · refine (stmt_decl T L rb w _ _ hl hlw hN hk).mono ?_
    rintro e w' ⟨v, m, rfl, ⟨a, n, c, rfl⟩, hi, hp, hs, hb⟩
    exact ⟨_, _, _, rfl, rfl, by kernel_rfl, hs, hb, .decl _, ⟨k, rfl⟩, _, m, rfl, ⟨a, n, c, rfl⟩, hi, hp⟩
  · refine (stmt_set HPARSE T L rb w _ _ hl h0 hlw hG hk).mono ?_
    rintro e w' ⟨x, y, a, n, c, a', n', c', p', er', hr, rfl, hx, hy, hs, hb⟩
    exact ⟨_, _, _, rfl, rfl, by kernel_rfl, hs, hb, .set x y, ⟨k, hr⟩, a, n, c, a', n', c', rfl, hx, hy⟩
  · refine (stmt_do HPARSE T L rb w _ _ hl h0 hlw hN hG hk).mono ?_
    rintro e w' ⟨nm, x, y, st, a, n, c, a', n', c', p', er', hr, rfl, hx, hy, hs, hb⟩
    exact ⟨_, _, _, rfl, rfl, by kernel_rfl, hs, hb, .loop nm x y st, ⟨k, hr⟩, a, n, c, a', n', c', rfl, hx, hy⟩
  · refine (stmt_if HCOND T L rb w _ _ hl h0 hlw hG hk).mono ?_
    rintro e w' ⟨o, x, y, a, n, c, a', n', c', p', er', hr, rfl, hx, hy, hs, hb⟩
    exact ⟨_, _, _, rfl, rfl, by kernel_rfl, hs, hb, .cond o x y, ⟨k, hr⟩, a, n, c, a', n', c', rfl, hx, hy⟩
  · refine (stmt_read HPARSE T L rb w _ _ hl h0 hlw hG hk).mono ?_
    rintro e w' ⟨x, a, n, c, p', er', hr, rfl, hx, hs, hb⟩
    exact ⟨_, _, _, rfl, rfl, by kernel_rfl, hs, hb, .rd x, ⟨k, hr⟩, a, n, c, rfl, hx⟩
  · refine (stmt_print HPARSE T L rb w _ _ hl h0 hlw hG hk).mono ?_
    rintro e w' ⟨x, a, n, c, p', er', hr, rfl, hx, hs, hb⟩
    exact ⟨_, _, _, rfl, rfl, by kernel_rfl, hs, hb, .pr x, ⟨k, hr⟩, a, n, c, rfl, hx⟩

/-- Parse at a line whose words are right: what it is read as, or what is wrong -/
theorem parse_all (s : List UInt8) (T : List Words.T) (w : World) (hs : s.length ≤ 65536) (hT : Words.toks (Plain.bodyOf s) = (T, 0, 0)) (hTl : T.length ≤ 100000) (hN : NumOk T) (hbl : (Plain.bodyOf s).length ≤ 65536) (hG : Glob w) (hw0 : 0 < w.heap.size) :
    Calls Tryz.prog 8 #[.string ⟨s.toArray⟩] w fun e w' => ∃ B cs p er ps, w.heap.size < B ∧ ReadsAs T ps p er ∧ Holds B w' cs ps ∧ Below w.heap.size w w' ∧ ((endE T p er = .ok ∧ e = .returned (.tuple #[.agg cs, .nilIface])) ∨ (endE T p er ≠ .ok ∧ ∃ g, e = .returned (.tuple #[.agg (stZ 0), g]) ∧ Se (w.heap.size + 1) w' g (endE T p er))) := by
  refine (parse_of s T w hs hT hTl hbl hG hw0 (fun B cs p er W => ∃ ps, ReadsAs T ps p er ∧ Holds B W cs ps) (fun B cs p er W W' ⟨ps, h1, h2⟩ hk => ⟨ps, h1, h2.keep hk⟩) (fun B => stmt_all parse_spec cond_spec T hN B)).mono ?_
  rintro e w' ⟨B, cs, p, er, hB, ⟨ps, h1, h2⟩, h3, h4⟩
  exact ⟨B, cs, p, er, ps, hB, h1, h2, h3, h4⟩
end Go.Proofs.YtdpjipphbhomkaaGreatDoor.Line

namespace Go.Proofs.YtdpjipphbhomkaaGreatDoor.Line
open Ex (E St)
set_option linter.unusedVariables false

theorem XR.det {T : List Words.T} {p hi : Nat} {er : SE} {x x' : E} {p' p'' : Nat} {er' er'' : SE} (h : XR T p hi er x p' er') (h' : XR T p hi er x' p'' er'') : x = x' ∧ p' = p'' ∧ er' = er'' := by
  rcases h with ⟨a, rfl, rfl, rfl⟩ | ⟨a, x0, s, hr, rfl, rfl, rfl⟩
  · rcases h' with ⟨_, rfl, rfl, rfl⟩ | ⟨b, _⟩
    · exact ⟨rfl, rfl, rfl⟩
    · exact absurd b a
  · rcases h' with ⟨b, _⟩ | ⟨_, x1, s1, hr1, rfl, rfl, rfl⟩
    · exact absurd a b
    · have e := hr.det hr1
      injection e with e1 e2
      subst e1
      subst e2
      exact ⟨rfl, rfl, rfl⟩
theorem TR.det {T : List Words.T} {p : Nat} {er : SE} {x x' : E} {p' p'' : Nat} {er' er'' : SE} (h : TR T p er x p' er') (h' : TR T p er x' p'' er'') : x = x' ∧ p' = p'' ∧ er' = er'' := by
  rcases h with ⟨a, rfl, rfl, rfl⟩ | ⟨a, h⟩
  · rcases h' with ⟨_, rfl, rfl, rfl⟩ | ⟨b, _⟩
    · exact ⟨rfl, rfl, rfl⟩
    · rw [a] at b; cases b
  · rcases h' with ⟨b, _⟩ | ⟨_, h'⟩
    · rw [a] at b; cases b
    · exact h.det h'
theorem SetR.det {T : List Words.T} {p : Nat} {er : SE} {x x' y y' : E} {p' p'' : Nat} {er' er'' : SE} (h : SetR T p er x y p' er') (h' : SetR T p er x' y' p'' er'') : x = x' ∧ y = y' ∧ p' = p'' ∧ er' = er'' := by
  obtain ⟨p1, e1, pa, ea, h1, rfl, rfl, h2⟩ := h
  obtain ⟨q1, f1, qa, fa, k1, rfl, rfl, k2⟩ := h'
  obtain ⟨rfl, rfl, rfl⟩ := h1.det k1
  obtain ⟨rfl, rfl, rfl⟩ := h2.det k2
  exact ⟨rfl, rfl, rfl, rfl⟩
theorem DoR.det {T : List Words.T} {p : Nat} {er : SE} {nm nm' : List UInt8} {x x' y y' : E} {st st' : Int} {p' p'' : Nat} {er' er'' : SE} (h : DoR T p er nm x y st p' er') (h' : DoR T p er nm' x' y' st' p'' er'') : nm = nm' ∧ x = x' ∧ y = y' ∧ st = st' ∧ p' = p'' ∧ er' = er'' := by
  obtain ⟨rfl, p1, e1, pa, ea, p2, e2, pb, eb, p4, e4, rfl, rfl, rfl, rfl, h1, rfl, rfl, h2, h3⟩ := h
  obtain ⟨rfl, q1, f1, qa, fa, q2, f2, qb, fb, q4, f4, rfl, rfl, rfl, rfl, k1, rfl, rfl, k2, k3⟩ := h'
  obtain ⟨rfl, rfl, rfl⟩ := h1.det k1
  obtain ⟨rfl, rfl, rfl⟩ := h2.det k2
  rw [← k3] at h3
  injection h3 with a b
  injection b with b c
  exact ⟨rfl, rfl, rfl, a, b, c⟩
theorem CR.det {T : List Words.T} {p : Nat} {er : SE} {c c' : List UInt8} {x x' y y' : E} {p' p'' : Nat} {er' er'' : SE} (h : CR T p er c x y p' er') (h' : CR T p er c' x' y' p'' er'') : c = c' ∧ x = x' ∧ y = y' ∧ p' = p'' ∧ er' = er'' := by
  rcases h with ⟨a, rfl, rfl, rfl, rfl, rfl⟩ | ⟨a, s, hr, rfl, rfl⟩
  · rcases h' with ⟨_, rfl, rfl, rfl, rfl, rfl⟩ | ⟨b, _⟩
    · exact ⟨rfl, rfl, rfl, rfl, rfl⟩
    · exact absurd b a
  · rcases h' with ⟨b, _⟩ | ⟨_, s1, hr1, rfl, rfl⟩
    · exact absurd a b
    · obtain ⟨rfl, rfl, rfl, rfl⟩ := hr.det hr1
      exact ⟨rfl, rfl, rfl, rfl, rfl⟩
theorem IfR.det {T : List Words.T} {p : Nat} {er : SE} {c c' : List UInt8} {x x' y y' : E} {p' p'' : Nat} {er' er'' : SE} (h : IfR T p er c x y p' er') (h' : IfR T p er c' x' y' p'' er'') : c = c' ∧ x = x' ∧ y = y' ∧ p' = p'' ∧ er' = er'' := by
  obtain ⟨pa, ea, p1, e1, pb, eb, rfl, rfl, h1, rfl, rfl, rfl, rfl⟩ := h
  obtain ⟨qa, fa, q1, f1, qb, fb, rfl, rfl, k1, rfl, rfl, rfl, rfl⟩ := h'
  obtain ⟨rfl, rfl, rfl, rfl, rfl⟩ := h1.det k1
  exact ⟨rfl, rfl, rfl, rfl, rfl⟩
theorem ReadsAs.det {T : List Words.T} {ps ps' : PS} {p p' : Nat} {er er' : SE} (h : ReadsAs T ps p er) (h' : ReadsAs T ps' p' er') : ps = ps' ∧ p = p' ∧ er = er' := by
  cases ps with
  | plain k =>
    obtain ⟨h1, h2⟩ := h
    cases ps' with
    | plain k' =>
      obtain ⟨k1, k2⟩ := h'
      rw [h1] at k1
      injection k1 with a b
      injection b with b c
      subst a
      exact ⟨rfl, b, c⟩
    | decl m => obtain ⟨k1, _⟩ := h'; rw [h1] at k1; simp only at k1; omega
    | set x y => obtain ⟨k1, _⟩ := h'; rw [h1] at k1; simp only at k1; omega
    | loop nm x y st => obtain ⟨k1, _⟩ := h'; rw [h1] at k1; simp only at k1; omega
    | cond c x y => obtain ⟨k1, _⟩ := h'; rw [h1] at k1; simp only at k1; omega
    | rd x => obtain ⟨k1, _⟩ := h'; rw [h1] at k1; simp only at k1; omega
    | pr x => obtain ⟨k1, _⟩ := h'; rw [h1] at k1; simp only at k1; omega
  | decl m =>
    obtain ⟨h1, h2⟩ := h
    cases ps' with
    | plain k' => obtain ⟨k1, k2⟩ := h'; rw [k1] at h1; simp only at h1; omega
    | decl m' =>
      obtain ⟨k1, k2⟩ := h'
      rw [h2] at k2
      injection k2 with a b
      injection b with b c
      exact ⟨by rw [a], b, c⟩
    | set x y => obtain ⟨k1, _⟩ := h'; omega
    | loop nm x y st => obtain ⟨k1, _⟩ := h'; omega
    | cond c x y => obtain ⟨k1, _⟩ := h'; omega
    | rd x => obtain ⟨k1, _⟩ := h'; omega
    | pr x => obtain ⟨k1, _⟩ := h'; omega
  | set x y =>
    obtain ⟨h1, h2⟩ := h
    cases ps' with
    | plain k' => obtain ⟨k1, k2⟩ := h'; rw [k1] at h1; simp only at h1; omega
    | decl m' => obtain ⟨k1, _⟩ := h'; omega
    | set x' y' => obtain ⟨k1, k2⟩ := h'; obtain ⟨rfl, rfl, rfl, rfl⟩ := h2.det k2; exact ⟨rfl, rfl, rfl⟩
    | loop nm x y st => obtain ⟨k1, _⟩ := h'; omega
    | cond c x y => obtain ⟨k1, _⟩ := h'; omega
    | rd x => obtain ⟨k1, _⟩ := h'; omega
    | pr x => obtain ⟨k1, _⟩ := h'; omega
  | loop nm x y st =>
    obtain ⟨h1, h2⟩ := h
    cases ps' with
    | plain k' => obtain ⟨k1, k2⟩ := h'; rw [k1] at h1; simp only at h1; omega
    | decl m' => obtain ⟨k1, _⟩ := h'; omega
    | set x' y' => obtain ⟨k1, _⟩ := h'; omega
    | loop nm x y st => obtain ⟨k1, k2⟩ := h'; obtain ⟨rfl, rfl, rfl, rfl, rfl, rfl⟩ := h2.det k2; exact ⟨rfl, rfl, rfl⟩
    | cond c x y => obtain ⟨k1, _⟩ := h'; omega
    | rd x => obtain ⟨k1, _⟩ := h'; omega
    | pr x => obtain ⟨k1, _⟩ := h'; omega
  | cond c x y =>
    obtain ⟨h1, h2⟩ := h
    cases ps' with
    | plain k' => obtain ⟨k1, k2⟩ := h'; rw [k1] at h1; simp only at h1; omega
    | decl m' => obtain ⟨k1, _⟩ := h'; omega
    | set x' y' => obtain ⟨k1, _⟩ := h'; omega
    | loop nm x y st => obtain ⟨k1, _⟩ := h'; omega
    | cond c x y => obtain ⟨k1, k2⟩ := h'; obtain ⟨rfl, rfl, rfl, rfl, rfl⟩ := h2.det k2; exact ⟨rfl, rfl, rfl⟩
    | rd x => obtain ⟨k1, _⟩ := h'; omega
    | pr x => obtain ⟨k1, _⟩ := h'; omega
  | rd x =>
    obtain ⟨h1, h2⟩ := h
    cases ps' with
    | plain k' => obtain ⟨k1, k2⟩ := h'; rw [k1] at h1; simp only at h1; omega
    | decl m' => obtain ⟨k1, _⟩ := h'; omega
    | set x' y' => obtain ⟨k1, _⟩ := h'; omega
    | loop nm x y st => obtain ⟨k1, _⟩ := h'; omega
    | cond c x y => obtain ⟨k1, _⟩ := h'; omega
    | rd x => obtain ⟨k1, k2⟩ := h'; obtain ⟨rfl, rfl, rfl⟩ := h2.det k2; exact ⟨rfl, rfl, rfl⟩
    | pr x => obtain ⟨k1, _⟩ := h'; omega
  | pr x =>
    obtain ⟨h1, h2⟩ := h
    cases ps' with
    | plain k' => obtain ⟨k1, k2⟩ := h'; rw [k1] at h1; simp only at h1; omega
    | decl m' => obtain ⟨k1, _⟩ := h'; omega
    | set x' y' => obtain ⟨k1, _⟩ := h'; omega
    | loop nm x y st => obtain ⟨k1, _⟩ := h'; omega
    | cond c x y => obtain ⟨k1, _⟩ := h'; omega
    | rd x => obtain ⟨k1, _⟩ := h'; omega
    | pr x => obtain ⟨k1, k2⟩ := h'; obtain ⟨rfl, rfl, rfl⟩ := h2.det k2; exact ⟨rfl, rfl, rfl⟩

/-! ### reckoned -/
def xrF (T : List Words.T) (p hi : Nat) (er : SE) : Option (E × Nat × SE) :=
  if er = .ok then (match Ex.pExpr ((T.drop p).take (hi - p)) 200 0 s00 with | some (x0, s) => some (ansE x0 s, behP p s, behE p s) | none => none)
  else some (E.none, p, er)
theorem xrF_ok {T : List Words.T} {p hi : Nat} {er : SE} {x : E} {p' : Nat} {er' : SE} (h : xrF T p hi er = some (x, p', er')) : XR T p hi er x p' er' := by
  unfold xrF at h
  split at h
  · rename_i a
    split at h
    · rename_i x0 s hp
      injection h with h
      injection h with a1 h
      injection h with a2 a3
      exact .inr ⟨a, x0, s, ⟨200, hp⟩, a1.symm, a2.symm, a3.symm⟩
    · cases h
  · rename_i a
    injection h with h
    injection h with a1 h
    injection h with a2 a3
    exact .inl ⟨a, a1.symm, a2.symm, a3.symm⟩
def trF (T : List Words.T) (p : Nat) (er : SE) : Option (E × Nat × SE) := if isKind T p er 1 = true then xrF T p (tEnd T p) .ok else some (E.none, p, failE er p 2)
theorem trF_ok {T : List Words.T} {p : Nat} {er : SE} {x : E} {p' : Nat} {er' : SE} (h : trF T p er = some (x, p', er')) : TR T p er x p' er' := by
  unfold trF at h
  split at h
  · rename_i a; exact .inr ⟨a, xrF_ok h⟩
  · rename_i a
    injection h with h
    injection h with a1 h
    injection h with a2 a3
    exact .inl ⟨by cases hk : isKind T p er 1 <;> simp_all, a1.symm, a2.symm, a3.symm⟩
def setF (T : List Words.T) (p : Nat) (er : SE) : Option (PS × Nat × SE) := match trF T p er with
  | some (x, p1, e1) => (match xrF T (nextP (isNext T p1 e1 [61]) p1) T.length (mustE (isNext T p1 e1 [61]) e1 p1) with
    | some (y, p2, e2) => some (.set x y, p2, e2)
    | none => none)
  | none => none
def doF (T : List Words.T) (p : Nat) (er : SE) : Option (PS × Nat × SE) :=
  let p1 := nextP (isKind T p er 1) p
  let e1 := mustE (isKind T p er 1) er p
  match xrF T (nextP (isNext T p1 e1 [61]) p1) T.length (mustE (isNext T p1 e1 [61]) e1 p1) with
  | some (x, p2, e2) => (match xrF T (nextP (isNext T p2 e2 [44]) p2) T.length (mustE (isNext T p2 e2 [44]) e2 p2) with
    | some (y, p4, e4) => some (.loop (nameAt T p (isKind T p er 1)) x y (stepR T p4 e4).1, (stepR T p4 e4).2.1, (stepR T p4 e4).2.2)
    | none => none)
  | none => none
/-- a comparison, where nothing is wrong -/
def condF (T : List Words.T) : Option (List UInt8 × E × E × St) := match Ex.pExpr T 200 0 s00 with
  | some (x, s1) => if s1.err = 0 ∧ relAt T s1.pos = true then (match Ex.pExpr T 200 0 s1.next with
    | some (y, s3) => if s3.err = 0 then (match T[s1.pos]? with | some t => some (t.text, x, y, s3) | none => none) else none
    | none => none) else none
  | none => none
theorem condF_ok {T : List Words.T} {c : List UInt8} {x y : E} {s : St} (h : condF T = some (c, x, y, s)) : RCond T c x y s := by
  unfold condF at h
  split at h
  · rename_i x1 s1 h1
    split at h
    · rename_i ha
      split at h
      · rename_i y1 s3 h3
        split at h
        · rename_i hb
          split at h
          · rename_i t ht
            injection h with h
            injection h with a1 h
            injection h with a2 h
            injection h with a3 a4
            obtain ⟨hl, ht⟩ := List.getElem?_eq_some_iff.1 ht
            exact ⟨x1, s1, ⟨200, h1⟩, .inr (.inr ⟨ha.1, ha.2, y1, s3, ⟨200, h3⟩, .inr ⟨hb, a4.symm, ⟨hl, by rw [ht, a1]⟩, a2.symm, a3.symm⟩⟩)⟩
          · cases h
        · cases h
      · cases h
    · cases h
  · cases h
def ifF (T : List Words.T) (p : Nat) (er : SE) : Option (PS × Nat × SE) :=
  let pa := nextP (isNext T p er [40]) p
  let ea := mustE (isNext T p er [40]) er p
  if ea = .ok then (match condF ((T.drop pa).take (T.length - pa)) with
    | some (c, x, y, s) =>
      let pb := nextP (isNext T (behP pa s) (behE pa s) [41]) (behP pa s)
      let eb := mustE (isNext T (behP pa s) (behE pa s) [41]) (behE pa s) (behP pa s)
      some (.cond c x y, nextP (isNext T pb eb [116, 104, 101, 110]) pb, mustE (isNext T pb eb [116, 104, 101, 110]) eb pb)
    | none => none) else none
def readF (T : List Words.T) : Option (PS × Nat × SE) := match kindR T with
  | (0, p, er) => some (.plain 0, p, er)
  | (1, p, er) => some (.decl (itemsR T (T.length + 1) [] p er).1, (itemsR T (T.length + 1) [] p er).2.1, (itemsR T (T.length + 1) [] p er).2.2)
  | (2, p, er) => setF T p er
  | (3, p, er) => doF T p er
  | (4, p, er) => some (.plain 4, p, er)
  | (5, p, er) => ifF T p er
  | (6, p, er) => some (.plain 6, p, er)
  | (7, p, er) => some (.plain 7, p, er)
  | (8, p, er) => (match trF T p er with | some (x, p', er') => some (.rd x, p', er') | none => none)
  | (9, p, er) => (match xrF T p T.length er with | some (x, p', er') => some (.pr x, p', er') | none => none)
  | _ => none
theorem readF_ok {T : List Words.T} {ps : PS} {p : Nat} {er : SE} (h : readF T = some (ps, p, er)) : ReadsAs T ps p er := by
  unfold readF at h
  split at h
  · rename_i q e hk
    injection h with h; injection h with a h; injection h with b c; subst a b c
    exact ⟨hk, .inl rfl⟩
  · rename_i q e hk
    injection h with h; injection h with a h; injection h with b c; subst a b c
    exact ⟨by rw [hk], by rw [hk]⟩
  · rename_i q e hk
    unfold setF at h
    split at h
    · rename_i x p1 e1 h1
      split at h
      · rename_i y p2 e2 h2
        injection h with h; injection h with a h; injection h with b c; subst a b c
        refine ⟨by rw [hk], ?_⟩
        rw [hk]
        exact ⟨p1, e1, _, _, trF_ok h1, rfl, rfl, xrF_ok h2⟩
      · cases h
    · cases h
  · rename_i q e hk
    unfold doF at h
    simp only at h
    split at h
    · rename_i x p2 e2 h1
      split at h
      · rename_i y p4 e4 h2
        injection h with h; injection h with a h; injection h with b c; subst a b c
        refine ⟨by rw [hk], ?_⟩
        rw [hk]
        exact ⟨rfl, _, _, _, _, p2, e2, _, _, p4, e4, rfl, rfl, rfl, rfl, xrF_ok h1, rfl, rfl, xrF_ok h2, rfl⟩
      · cases h
    · cases h
  · rename_i q e hk
    injection h with h; injection h with a h; injection h with b c; subst a b c
    exact ⟨hk, .inr (.inl rfl)⟩
  · rename_i q e hk
    unfold ifF at h
    simp only at h
    split at h
    · rename_i he
      split at h
      · rename_i c x y s h1
        injection h with h; injection h with a h; injection h with b c; subst a b c
        refine ⟨by rw [hk], ?_⟩
        rw [hk]
        exact ⟨_, _, _, _, _, _, rfl, rfl, .inr ⟨he, s, condF_ok h1, rfl, rfl⟩, rfl, rfl, rfl, rfl⟩
      · cases h
    · cases h
  · rename_i q e hk
    injection h with h; injection h with a h; injection h with b c; subst a b c
    exact ⟨hk, .inr (.inr (.inl rfl))⟩
  · rename_i q e hk
    injection h with h; injection h with a h; injection h with b c; subst a b c
    exact ⟨hk, .inr (.inr (.inr rfl))⟩
  · rename_i q e hk
    split at h
    · rename_i x p' er' h1
      injection h with h; injection h with a h; injection h with b c; subst a b c
      refine ⟨by rw [hk], ?_⟩
      rw [hk]
      exact trF_ok h1
    · cases h
  · rename_i q e hk
    split at h
    · rename_i x p' er' h1
      injection h with h; injection h with a h; injection h with b c; subst a b c
      refine ⟨by rw [hk], ?_⟩
      rw [hk]
      exact xrF_ok h1
    · cases h
  · cases h
end Go.Proofs.YtdpjipphbhomkaaGreatDoor.Line

namespace Go.Proofs.YtdpjipphbhomkaaGreatDoor.Line
open Go.ChangeShapes Go.WideShapes Go.ChangeAt Go.RowKit
open Ex (E St)
set_option linter.unusedVariables false

set_option maxHeartbeats 4000000 in
set_option maxRecDepth 100000 in
theorem text_plain (k : Nat) (hk : k = 0 ∨ k = 4 ∨ k = 6 ∨ k = 7) (w : World) : Calls Tryz.prog 13 #[.agg (stZ k)] w fun e w' => e = .returned (.string ⟨(headT k).toArray⟩) ∧ Below w.heap.size w w' := by
  have ba := hide (alloc_below w (.cells (stZ k) STT))
  have HH := hide (fun W => head_any k (by omega) W)
  rcases hk with rfl | rfl | rfl | rfl <;> (
    go_enter Tryz.func13, Tryz.ntmps13
    go_wp2_with (go_at_call 34; refine (unhide HH _).mono ?_; rintro e w1 ⟨rfl, rfl⟩)
    go_ret
    exact ⟨rfl, unhide ba⟩)
set_option maxHeartbeats 4000000 in
set_option maxRecDepth 100000 in
theorem text_rd (x : E) (a : Option Addr) (n c : Nat) (S : Nat → Prop) (w : World) (hf : Forest w S x.a (.slice a n c)) (ho : OkE x) (ht : Tab w) (hw : wtE x ≤ 90000) (hl : (textT x).length ≤ 1000000) : Calls Tryz.prog 13 #[.agg (toV 8 x (.slice a n c))] w fun e w' => e = .returned (.string ⟨(headT 8 ++ textT x).toArray⟩) ∧ Below w.heap.size w w' := by
  have ba := alloc_below w (.cells (toV 8 x (.slice a n c)) STT)
  have HH : Hid (∀ W, Calls Tryz.prog 34 #[.int .i64 8] W fun e w' => e = .returned (.string ⟨(headT 8).toArray⟩) ∧ w' = W) := hide (fun W => head_any 8 (by decide) W)
  have HX := hide (text_any x (.slice a n c) S _ (hf.old ba) ho (ht.below ba) hw (by omega))
  have HB := hide ba
  have s1 : (⟨(headT 8).toArray⟩ : ByteArray) ++ ⟨(textT x).toArray⟩ = ⟨(headT 8 ++ textT x).toArray⟩ := cat2 _ _
  have hhl : (headT 8).length ≤ 10 := by decide
  clear ba hf ho ht hw
  generalize textT x = tx at *
  generalize headT 8 = hd at *
  generalize hTT : hd ++ tx = TT at *
  go_enter Tryz.func13, Tryz.ntmps13
  go_wp2_with fail
  refine (unhide HH _).mono ?_
  rintro e w1 ⟨rfl, rfl⟩
  go_wp2_with fail
  refine (unhide HX).mono ?_
  rintro e w2 ⟨rfl, hb2⟩
  have H2 := hide (bthen (unhide HB) hb2)
  clear hb2 HB
  go_wp2
  go_ret
  exact ⟨rfl, unhide H2⟩
set_option maxHeartbeats 4000000 in
set_option maxRecDepth 100000 in
theorem text_pr (x : E) (a : Option Addr) (n c : Nat) (S : Nat → Prop) (w : World) (hf : Forest w S x.a (.slice a n c)) (ho : OkE x) (ht : Tab w) (hw : wtE x ≤ 90000) (hl : (textT x).length ≤ 1000000) : Calls Tryz.prog 13 #[.agg (prV 9 x (.slice a n c))] w fun e w' => e = .returned (.string ⟨(headT 9 ++ textT x).toArray⟩) ∧ Below w.heap.size w w' := by
  have ba := alloc_below w (.cells (prV 9 x (.slice a n c)) STT)
  have HH : Hid (∀ W, Calls Tryz.prog 34 #[.int .i64 9] W fun e w' => e = .returned (.string ⟨(headT 9).toArray⟩) ∧ w' = W) := hide (fun W => head_any 9 (by decide) W)
  have HX := hide (text_any x (.slice a n c) S _ (hf.old ba) ho (ht.below ba) hw (by omega))
  have HB := hide ba
  have s1 : (⟨(headT 9).toArray⟩ : ByteArray) ++ ⟨(textT x).toArray⟩ = ⟨(headT 9 ++ textT x).toArray⟩ := cat2 _ _
  have hhl : (headT 9).length ≤ 10 := by decide
  clear ba hf ho ht hw
  generalize textT x = tx at *
  generalize headT 9 = hd at *
  generalize hTT : hd ++ tx = TT at *
  go_enter Tryz.func13, Tryz.ntmps13
  go_wp2_with fail
  refine (unhide HH _).mono ?_
  rintro e w1 ⟨rfl, rfl⟩
  go_wp2_with fail
  refine (unhide HX).mono ?_
  rintro e w2 ⟨rfl, hb2⟩
  have H2 := hide (bthen (unhide HB) hb2)
  clear hb2 HB
  go_wp2
  go_ret
  exact ⟨rfl, unhide H2⟩
set_option maxHeartbeats 4000000 in
set_option maxRecDepth 100000 in
theorem text_set (x y : E) (a a' : Option Addr) (n c n' c' : Nat) (S : Nat → Prop) (w : World) (hx : Forest w S x.a (.slice a n c)) (hy : Forest w S y.a (.slice a' n' c')) (ox : OkE x) (oy : OkE y) (ht : Tab w) (wx : wtE x ≤ 90000) (wy : wtE y ≤ 90000) (lx : (textT x).length ≤ 1000000) (ly : (textT y).length ≤ 1000000) : Calls Tryz.prog 13 #[.agg (setV 2 x (.slice a n c) y (.slice a' n' c'))] w fun e w' => e = .returned (.string ⟨(textT x ++ [32, 61, 32] ++ textT y).toArray⟩) ∧ Below w.heap.size w w' := by
  have ba := alloc_below w (.cells (setV 2 x (.slice a n c) y (.slice a' n' c')) STT)
  have HH : Hid (∀ W, Calls Tryz.prog 34 #[.int .i64 2] W fun e w' => e = .returned (.string ⟨#[]⟩) ∧ w' = W) := hide (fun W => head_any 2 (by decide) W)
  have HX := hide (text_any x (.slice a n c) S _ (hx.old ba) ox (ht.below ba) wx (by omega))
  have HY : Hid (∀ W, Below w.heap.size w W → Calls Tryz.prog 36 #[treeV y (.slice a' n' c')] W fun e w' => e = .returned (.string ⟨(textT y).toArray⟩) ∧ Below W.heap.size W w') := hide (fun W h => text_any y (.slice a' n' c') S W (hy.old h) oy (ht.below h) wy (by omega))
  have hbox : ∀ o, o < 29 → (w.alloc (.cells (setV 2 x (.slice a n c) y (.slice a' n' c')) STT)).cell? ⟨w.heap.size, o, none⟩ = (setV 2 x (.slice a n c) y (.slice a' n' c'))[o]? := fun o ho => by simp
  have HB := hide (And.intro ba (And.intro (hbox 6 (by decide)) (And.intro (hbox 7 (by decide)) (And.intro (hbox 8 (by decide)) (hbox 9 (by decide))))))
  have s0 : (⟨(textT x).toArray⟩ : ByteArray) ++ ⟨#[32, 61, 32]⟩ = ⟨(textT x ++ [32, 61, 32]).toArray⟩ := cat2 _ [32, 61, 32]
  have s1 : (⟨#[]⟩ : ByteArray) ++ ⟨(textT x ++ [32, 61, 32]).toArray⟩ = ⟨(textT x ++ [32, 61, 32]).toArray⟩ := cat2 [] _
  have s2 : (⟨(textT x ++ [32, 61, 32]).toArray⟩ : ByteArray) ++ ⟨(textT y).toArray⟩ = ⟨(textT x ++ [32, 61, 32] ++ textT y).toArray⟩ := cat2 _ _
  have l1 : (textT x ++ [32, 61, 32]).length ≤ 1000003 := by simp; omega
  clear ba hx hy ox oy ht wx wy hbox
  generalize textT x = tx at *
  generalize textT y = ty at *
  generalize hT1 : tx ++ [32, 61, 32] = T1 at *
  generalize hTT : T1 ++ ty = TT at *
  go_enter Tryz.func13, Tryz.ntmps13
  go_wp2_with fail
  refine (unhide HH _).mono ?_
  rintro e w1 ⟨rfl, rfl⟩
  go_wp2_with fail
  refine (unhide HX).mono ?_
  rintro e w2 ⟨rfl, hb2⟩
  have hlt : w.heap.size < (w.alloc (.cells (setV 2 x (.slice a n c) y (.slice a' n' c')) STT)).heap.size := by simp
  have hc : ∀ o, w2.cell? ⟨w.heap.size, o, none⟩ = (w.alloc (.cells (setV 2 x (.slice a n c) y (.slice a' n' c')) STT)).cell? ⟨w.heap.size, o, none⟩ := fun o => hb2.cell (p := ⟨w.heap.size, o, none⟩) hlt
  have m6 : w2.cell? ⟨w.heap.size, 6, none⟩ = some (.int .i64 y.kind) := (hc 6).trans (unhide HB).2.1
  have m7 : w2.cell? ⟨w.heap.size, 7, none⟩ = some (.int .i64 y.n) := (hc 7).trans (unhide HB).2.2.1
  have m8 : w2.cell? ⟨w.heap.size, 8, none⟩ = some (.string ⟨y.name.toArray⟩) := (hc 8).trans (unhide HB).2.2.2.1
  have m9 : w2.cell? ⟨w.heap.size, 9, none⟩ = some (.slice a' n' c') := (hc 9).trans (unhide HB).2.2.2.2
  have H2 := hide (bthen (unhide HB).1 hb2)
  clear hb2 HB hc hlt HX
  go_wp2_with fail
  refine (unhide HY _ (unhide H2)).mono ?_
  rintro e w3 ⟨rfl, hb3⟩
  have H3 := hide (bthen (unhide H2) hb3)
  clear hb3 H2 m6 m7 m8 m9
  go_wp2
  go_ret
  exact ⟨rfl, unhide H3⟩
set_option maxHeartbeats 4000000 in
set_option maxRecDepth 100000 in
theorem text_cond (o : List UInt8) (x y : E) (a a' : Option Addr) (n c n' c' : Nat) (S : Nat → Prop) (w : World) (hx : Forest w S x.a (.slice a n c)) (hy : Forest w S y.a (.slice a' n' c')) (ox : OkE x) (oy : OkE y) (ht : Tab w) (wx : wtE x ≤ 90000) (wy : wtE y ≤ 90000) (lx : (textT x).length ≤ 1000000) (ly : (textT y).length ≤ 1000000) (lo : o.length ≤ 1000) : Calls Tryz.prog 13 #[.agg (ifV 5 o x (.slice a n c) y (.slice a' n' c'))] w fun e w' => e = .returned (.string ⟨(headT 5 ++ (textT x ++ [32] ++ o ++ [32] ++ textT y ++ [41, 32, 116, 104, 101, 110])).toArray⟩) ∧ Below w.heap.size w w' := by
  have ba := alloc_below w (.cells (ifV 5 o x (.slice a n c) y (.slice a' n' c')) STT)
  have HH : Hid (∀ W, Calls Tryz.prog 34 #[.int .i64 5] W fun e w' => e = .returned (.string ⟨(headT 5).toArray⟩) ∧ w' = W) := hide (fun W => head_any 5 (by decide) W)
  have HX := hide (condText_any o x y (.slice a n c) (.slice a' n' c') S _ (hx.old ba) (hy.old ba) ox oy (ht.below ba) wx wy lx ly lo)
  have HB := hide ba
  have hhl : (headT 5).length ≤ 10 := by decide
  have l0 : (textT x ++ [32] ++ o ++ [32] ++ textT y).length ≤ 2002000 := by simp; omega
  clear ba hx hy ox oy ht wx wy lx ly lo
  generalize textT x ++ [32] ++ o ++ [32] ++ textT y = tx at *
  have s0 : (⟨tx.toArray⟩ : ByteArray) ++ ⟨#[41, 32, 116, 104, 101, 110]⟩ = ⟨(tx ++ [41, 32, 116, 104, 101, 110]).toArray⟩ := cat2 _ [41, 32, 116, 104, 101, 110]
  have s1 : (⟨(headT 5).toArray⟩ : ByteArray) ++ ⟨(tx ++ [41, 32, 116, 104, 101, 110]).toArray⟩ = ⟨(headT 5 ++ (tx ++ [41, 32, 116, 104, 101, 110])).toArray⟩ := cat2 _ _
  have l1 : (tx ++ [41, 32, 116, 104, 101, 110]).length ≤ 2002006 := by simp; omega
  generalize hT1 : tx ++ [41, 32, 116, 104, 101, 110] = T1 at *
  generalize headT 5 = hd at *
  generalize hTT : hd ++ T1 = TT at *
  go_enter Tryz.func13, Tryz.ntmps13
  go_wp2_with fail
  refine (unhide HH _).mono ?_
  rintro e w1 ⟨rfl, rfl⟩
  go_wp2_with fail
  refine (unhide HX).mono ?_
  rintro e w2 ⟨rfl, hb2⟩
  have H2 := hide (bthen (unhide HB) hb2)
  clear hb2 HB
  go_wp2
  go_ret
  exact ⟨rfl, unhide H2⟩
/-- ten cells of a box, and old memory, are kept by what writes new memory alone -/
theorem held10 {w W W' : World} {B : Nat} {v0 v1 v2 v3 v4 v5 v6 v7 v8 v9 : Value}
    (h : W.cell? ⟨B, 19, none⟩ = some v0 ∧ W.cell? ⟨B, 20, none⟩ = some v1 ∧ W.cell? ⟨B, 21, none⟩ = some v2 ∧ W.cell? ⟨B, 22, none⟩ = some v3 ∧ W.cell? ⟨B, 23, none⟩ = some v4 ∧ W.cell? ⟨B, 24, none⟩ = some v5 ∧ W.cell? ⟨B, 25, none⟩ = some v6 ∧ W.cell? ⟨B, 26, none⟩ = some v7 ∧ W.cell? ⟨B, 27, none⟩ = some v8 ∧ W.cell? ⟨B, 28, none⟩ = some v9 ∧ Hid (Below w.heap.size w W))
    (hb : Hid (Below W.heap.size W W')) :
    W'.cell? ⟨B, 19, none⟩ = some v0 ∧ W'.cell? ⟨B, 20, none⟩ = some v1 ∧ W'.cell? ⟨B, 21, none⟩ = some v2 ∧ W'.cell? ⟨B, 22, none⟩ = some v3 ∧ W'.cell? ⟨B, 23, none⟩ = some v4 ∧ W'.cell? ⟨B, 24, none⟩ = some v5 ∧ W'.cell? ⟨B, 25, none⟩ = some v6 ∧ W'.cell? ⟨B, 26, none⟩ = some v7 ∧ W'.cell? ⟨B, 27, none⟩ = some v8 ∧ W'.cell? ⟨B, 28, none⟩ = some v9 ∧ Hid (Below w.heap.size w W') := by
  obtain ⟨h0, h1, h2, h3, h4, h5, h6, h7, h8, h9, hx⟩ := h
  have hl := cell_lt h0
  have hc : ∀ o, W'.cell? ⟨B, o, none⟩ = W.cell? ⟨B, o, none⟩ := fun o => hb.cell (p := ⟨B, o, none⟩) hl
  exact ⟨(hc 19).trans h0, (hc 20).trans h1, (hc 21).trans h2, (hc 22).trans h3, (hc 23).trans h4, (hc 24).trans h5, (hc 25).trans h6, (hc 26).trans h7, (hc 27).trans h8, (hc 28).trans h9, hide (bthen (unhide hx) (unhide hb))⟩
set_option maxHeartbeats 8000000 in
set_option maxRecDepth 100000 in
theorem text_loop (nm : List UInt8) (x y : E) (st : Int) (a a' : Option Addr) (n c n' c' : Nat) (S : Nat → Prop) (w : World) (hx : Forest w S x.a (.slice a n c)) (hy : Forest w S y.a (.slice a' n' c')) (ox : OkE x) (oy : OkE y) (ht : Tab w) (wx : wtE x ≤ 90000) (wy : wtE y ≤ 90000) (lx : (textT x).length ≤ 1000000) (ly : (textT y).length ≤ 1000000) (ln : nm.length ≤ 1000) (hs0 : -9223372036854775808 ≤ st) (hs1 : st ≤ 9223372036854775807) : Calls Tryz.prog 13 #[.agg (doV nm x (.slice a n c) y (.slice a' n' c') st)] w fun e w' => e = .returned (.string ⟨(headT 3 ++ (nm ++ [32, 61, 32] ++ textT x ++ [44, 32] ++ textT y ++ stepT st)).toArray⟩) ∧ Below w.heap.size w w' := by
  have ba := alloc_below w (.cells (doV nm x (.slice a n c) y (.slice a' n' c') st) STT)
  have HH : Hid (∀ W, Calls Tryz.prog 34 #[.int .i64 3] W fun e w' => e = .returned (.string ⟨(headT 3).toArray⟩) ∧ w' = W) := hide (fun W => head_any 3 (by decide) W)
  have HX : Hid (∀ W, Hid (Below w.heap.size w W) → Calls Tryz.prog 36 #[treeV x (.slice a n c)] W fun e w' => e = .returned (.string ⟨(textT x).toArray⟩) ∧ Below W.heap.size W w') := hide (fun W h => text_any x (.slice a n c) S W (hx.old h) ox (ht.below h) wx (by omega))
  have HY : Hid (∀ W, Hid (Below w.heap.size w W) → Calls Tryz.prog 36 #[treeV y (.slice a' n' c')] W fun e w' => e = .returned (.string ⟨(textT y).toArray⟩) ∧ Below W.heap.size W w') := hide (fun W h => text_any y (.slice a' n' c') S W (hy.old h) oy (ht.below h) wy (by omega))
  have HZ : Hid (∀ W, Hid (Below w.heap.size w W) → Calls Tryz.prog 37 #[.int .i64 st] W fun e w' => e = .returned (.string ⟨(stepT st).toArray⟩) ∧ Below W.heap.size W w') := hide (fun W h => stepText_any st hs0 hs1 W (ht.below h))
  have lst : (stepT st).length ≤ 30 := by
    unfold stepT
    split
    · simp
    · have := Lib.itoa_length_le st hs0 hs1
      simp; omega
  have hbox : ∀ o, o < 29 → (w.alloc (.cells (doV nm x (.slice a n c) y (.slice a' n' c') st) STT)).cell? ⟨w.heap.size, o, none⟩ = (doV nm x (.slice a n c) y (.slice a' n' c') st)[o]? := fun o ho => by simp
  have m0 : (w.alloc (.cells (doV nm x (.slice a n c) y (.slice a' n' c') st) STT)).cell? ⟨w.heap.size, 19, none⟩ = some (.string ⟨nm.toArray⟩) := hbox 19 (by decide)
  have m1 : (w.alloc (.cells (doV nm x (.slice a n c) y (.slice a' n' c') st) STT)).cell? ⟨w.heap.size, 20, none⟩ = some (.int .i64 x.kind) := hbox 20 (by decide)
  have m2 : (w.alloc (.cells (doV nm x (.slice a n c) y (.slice a' n' c') st) STT)).cell? ⟨w.heap.size, 21, none⟩ = some (.int .i64 x.n) := hbox 21 (by decide)
  have m3 : (w.alloc (.cells (doV nm x (.slice a n c) y (.slice a' n' c') st) STT)).cell? ⟨w.heap.size, 22, none⟩ = some (.string ⟨x.name.toArray⟩) := hbox 22 (by decide)
  have m4 : (w.alloc (.cells (doV nm x (.slice a n c) y (.slice a' n' c') st) STT)).cell? ⟨w.heap.size, 23, none⟩ = some (.slice a n c) := hbox 23 (by decide)
  have m5 : (w.alloc (.cells (doV nm x (.slice a n c) y (.slice a' n' c') st) STT)).cell? ⟨w.heap.size, 24, none⟩ = some (.int .i64 y.kind) := hbox 24 (by decide)
  have m6 : (w.alloc (.cells (doV nm x (.slice a n c) y (.slice a' n' c') st) STT)).cell? ⟨w.heap.size, 25, none⟩ = some (.int .i64 y.n) := hbox 25 (by decide)
  have m7 : (w.alloc (.cells (doV nm x (.slice a n c) y (.slice a' n' c') st) STT)).cell? ⟨w.heap.size, 26, none⟩ = some (.string ⟨y.name.toArray⟩) := hbox 26 (by decide)
  have m8 : (w.alloc (.cells (doV nm x (.slice a n c) y (.slice a' n' c') st) STT)).cell? ⟨w.heap.size, 27, none⟩ = some (.slice a' n' c') := hbox 27 (by decide)
  have m9 : (w.alloc (.cells (doV nm x (.slice a n c) y (.slice a' n' c') st) STT)).cell? ⟨w.heap.size, 28, none⟩ = some (.int .i64 st) := hbox 28 (by decide)
  have HWB : Hid (Below w.heap.size w (w.alloc (.cells (doV nm x (.slice a n c) y (.slice a' n' c') st) STT))) := hide ba
  have HM := hide (And.intro m0 (And.intro m1 (And.intro m2 (And.intro m3 (And.intro m4 (And.intro m5 (And.intro m6 (And.intro m7 (And.intro m8 m9)))))))))
  have hhl : (headT 3).length ≤ 10 := by decide
  clear m0 m1 m2 m3 m4 m5 m6 m7 m8 m9 ba hx hy ox oy ht wx wy hbox hs0 hs1
  generalize textT x = tx at *
  generalize textT y = ty at *
  generalize stepT st = ts at *
  have s1 : (⟨nm.toArray⟩ : ByteArray) ++ ⟨#[32, 61, 32]⟩ = ⟨(nm ++ [32, 61, 32]).toArray⟩ := cat2 nm [32, 61, 32]
  have s2 : (⟨(nm ++ [32, 61, 32]).toArray⟩ : ByteArray) ++ ⟨tx.toArray⟩ = ⟨(nm ++ [32, 61, 32] ++ tx).toArray⟩ := cat2 _ _
  have s3 : (⟨(nm ++ [32, 61, 32] ++ tx).toArray⟩ : ByteArray) ++ ⟨#[44, 32]⟩ = ⟨(nm ++ [32, 61, 32] ++ tx ++ [44, 32]).toArray⟩ := cat2 _ [44, 32]
  have s4 : (⟨(nm ++ [32, 61, 32] ++ tx ++ [44, 32]).toArray⟩ : ByteArray) ++ ⟨ty.toArray⟩ = ⟨(nm ++ [32, 61, 32] ++ tx ++ [44, 32] ++ ty).toArray⟩ := cat2 _ _
  have s5 : (⟨(nm ++ [32, 61, 32] ++ tx ++ [44, 32] ++ ty).toArray⟩ : ByteArray) ++ ⟨ts.toArray⟩ = ⟨(nm ++ [32, 61, 32] ++ tx ++ [44, 32] ++ ty ++ ts).toArray⟩ := cat2 _ _
  have s6 : (⟨(headT 3).toArray⟩ : ByteArray) ++ ⟨(nm ++ [32, 61, 32] ++ tx ++ [44, 32] ++ ty ++ ts).toArray⟩ = ⟨(headT 3 ++ (nm ++ [32, 61, 32] ++ tx ++ [44, 32] ++ ty ++ ts)).toArray⟩ := cat2 _ _
  have l1 : (nm ++ [32, 61, 32]).length ≤ 1003 := by simp; omega
  have l2 : (nm ++ [32, 61, 32] ++ tx).length ≤ 1001003 := by simp; omega
  have l3 : (nm ++ [32, 61, 32] ++ tx ++ [44, 32]).length ≤ 1001005 := by simp; omega
  have l4 : (nm ++ [32, 61, 32] ++ tx ++ [44, 32] ++ ty).length ≤ 2001005 := by simp; omega
  have l5 : (nm ++ [32, 61, 32] ++ tx ++ [44, 32] ++ ty ++ ts).length ≤ 2001035 := by simp; omega
  generalize headT 3 = hd at *
  generalize hT1 : nm ++ [32, 61, 32] = T1 at s1 s2 s3 s4 s5 s6 l1 l2 l3 l4 l5
  generalize hT2 : T1 ++ tx = T2 at s2 s3 s4 s5 s6 l2 l3 l4 l5
  generalize hT3 : T2 ++ [44, 32] = T3 at s3 s4 s5 s6 l3 l4 l5
  generalize hT4 : T3 ++ ty = T4 at s4 s5 s6 l4 l5
  generalize hT5 : T4 ++ ts = T5 at s5 s6 l5
  clear hT1 hT2 hT3 hT4 hT5
  have HT : ∃ T6, T6 = hd ++ T5 := ⟨_, rfl⟩
  obtain ⟨TT, hTT⟩ := HT
  have HTT := hide hTT
  rw [← hTT] at s6
  clear hTT
  have b1 : ¬ 9223372036854775807 < nm.length + 3 := by omega
  have b2 : ¬ 9223372036854775807 < T1.length + tx.length := by omega
  have b3 : ¬ 9223372036854775807 < T2.length + 2 := by omega
  have b4 : ¬ 9223372036854775807 < T3.length + ty.length := by omega
  have b5 : ¬ 9223372036854775807 < T4.length + ts.length := by omega
  have b6 : ¬ 9223372036854775807 < hd.length + T5.length := by omega
  go_enter Tryz.func13, Tryz.ntmps13
  go_wp2_with fail
  refine (unhide HH _).mono ?_
  rintro e w1 ⟨rfl, rfl⟩
  go_wp2_with fail
  generalize (w.alloc (.cells (doV nm x (.slice a n c) y (.slice a' n' c') st) STT)) = W1 at *
  have HD : Hid (Below W1.heap.size W1 W1.drew) := hide (below_drewN (Below.refl _ _) 1)
  generalize hWS : w.heap.size = B0 at HM ⊢
  have HS0 := hide (And.intro (unhide HM).1 (And.intro (unhide HM).2.1 (And.intro (unhide HM).2.2.1 (And.intro (unhide HM).2.2.2.1 (And.intro (unhide HM).2.2.2.2.1 (And.intro (unhide HM).2.2.2.2.2.1 (And.intro (unhide HM).2.2.2.2.2.2.1 (And.intro (unhide HM).2.2.2.2.2.2.2.1 (And.intro (unhide HM).2.2.2.2.2.2.2.2.1 (And.intro (unhide HM).2.2.2.2.2.2.2.2.2 HWB))))))))))
  clear HH HM hWS HWB
  go_region_held3 (fun W => W.cell? ⟨B0, 19, none⟩ = some (.string ⟨nm.toArray⟩) ∧ W.cell? ⟨B0, 20, none⟩ = some (.int .i64 x.kind) ∧ W.cell? ⟨B0, 21, none⟩ = some (.int .i64 x.n) ∧ W.cell? ⟨B0, 22, none⟩ = some (.string ⟨x.name.toArray⟩) ∧ W.cell? ⟨B0, 23, none⟩ = some (.slice a n c) ∧ W.cell? ⟨B0, 24, none⟩ = some (.int .i64 y.kind) ∧ W.cell? ⟨B0, 25, none⟩ = some (.int .i64 y.n) ∧ W.cell? ⟨B0, 26, none⟩ = some (.string ⟨y.name.toArray⟩) ∧ W.cell? ⟨B0, 27, none⟩ = some (.slice a' n' c') ∧ W.cell? ⟨B0, 28, none⟩ = some (.int .i64 st) ∧ Hid (Below w.heap.size w W))
    (first | exact held10 (unhide HS0) HD | exact held10 (by assumption) (by assumption))
    (first
    | (go_at_call 36; with_reducible refine (unhide HX _ (by go_split_ands; assumption)).mono ?_; rintro ev w5 ⟨rfl, hb5⟩; replace hb5 := hide hb5; dsimp only)
    | (go_at_call 36; with_reducible refine (unhide HY _ (by go_split_ands; assumption)).mono ?_; rintro ev w6 ⟨rfl, hb6⟩; replace hb6 := hide hb6; dsimp only)
    | (go_at_call 37; with_reducible refine (unhide HZ _ (by go_split_ands; assumption)).mono ?_; rintro ev w7 ⟨rfl, hb7⟩; replace hb7 := hide hb7; dsimp only))
  all_goals (
    go_wp2
    go_ret
    exact ⟨ret_str (unhide HTT), by go_split_ands; exact unhide (by assumption)⟩)
end Go.Proofs.YtdpjipphbhomkaaGreatDoor.Line

namespace Go.Proofs.YtdpjipphbhomkaaGreatDoor.Line
open Go.ChangeShapes Go.WideShapes Go.ChangeAt Go.RowKit
open Ex (E St)
set_option linter.unusedVariables false

def slA (v : Value) : Option Addr := match v with | .slice a _ _ => a | _ => none
def slC (v : Value) : Nat := match v with | .slice _ _ c => c | _ => 0
def intsI (l : List Nat) : List Int := l.map fun (n : Nat) => (n : Int)
def convI (x : Itm) : List UInt8 × List Int × Option Addr × Nat := (x.1, intsI x.2.1, slA x.2.2, slC x.2.2)
/-- an item in words -/
def itemP (x : List UInt8 × List Nat) : List UInt8 := x.1 ++ dimsT (intsI x.2)
def OkItem (x : List UInt8 × List Nat) : Prop := (∀ n ∈ x.2, n ≤ 9223372036854775807) ∧ x.2.length ≤ 4 ∧ x.1.length ≤ 1000
theorem flatM_at : ∀ (M : List Itm) (j : Nat) (x : Itm), M[j]? = some x → (flatM M)[j * 2]? = some (.string ⟨x.1.toArray⟩) ∧ (flatM M)[j * 2 + 1]? = some x.2.2 := by
  intro M
  induction M with
  | nil => intro j x h; simp at h
  | cons t M ih =>
    intro j x h
    cases j with
    | zero =>
      have h : t = x := by simpa using h
      subst h
      exact ⟨rfl, rfl⟩
    | succ j =>
      have h : M[j]? = some x := by simpa using h
      have h2 := ih j x h
      rw [show (j + 1) * 2 = j * 2 + 1 + 1 from by omega]
      exact h2
theorem joinT_four (D : List Int) (h4 : D.length ≤ 4) (hf : ∀ x ∈ D, -9223372036854775808 ≤ x ∧ x ≤ 9223372036854775807) : (joinT D).length ≤ 1000 := by
  have hi : ∀ x ∈ D, (Lib.itoa x).length ≤ 21 := fun x hx => Lib.itoa_length_le x (hf x hx).1 (hf x hx).2
  match D, h4, hi with
  | [], _, _ => simp [joinT, Lib.join]
  | [a], _, hi => have := hi a (by simp); simp [joinT, Lib.join]; omega
  | [a, b], _, hi => have := hi a (by simp); have := hi b (by simp); simp [joinT, Lib.join]; omega
  | [a, b, c], _, hi => have := hi a (by simp); have := hi b (by simp); have := hi c (by simp); simp [joinT, Lib.join]; omega
  | [a, b, c, d], _, hi => have := hi a (by simp); have := hi b (by simp); have := hi c (by simp); have := hi d (by simp); simp [joinT, Lib.join]; omega
theorem numRow_of {base : Nat} {w : World} {v : Value} {l : List Nat} (h : OwnN base w v l) : (intsI l = [] ∧ ∃ a cap, Value.slice (slA v) (intsI l).length (slC v) = .slice a 0 cap) ∨ (∃ b o cap, Value.slice (slA v) (intsI l).length (slC v) = .slice (some ⟨b, o, none⟩) (intsI l).length cap ∧ NumRow w b o (intsI l)) := by
  have hll : (intsI l).length = l.length := List.length_map ..
  rcases h.2 with ⟨rfl, h5⟩ | ⟨g, cap, cur, rfl, hg, hh, r⟩
  · have hl : l = [] := List.length_eq_zero_iff.1 h5
    subst hl
    exact .inl ⟨rfl, _, _, rfl⟩
  · refine .inr ⟨g, 0, cap, rfl, ?_, fun j x hx => ?_⟩
    · rcases Nat.lt_or_ge g w.heap.size with h | h
      · exact h
      · rw [Array.getElem?_eq_none h] at hh; cases hh
    · have hj : j < l.length := by
        rcases Nat.lt_or_ge j l.length with h | h
        · exact h
        · rw [List.getElem?_eq_none (by omega)] at hx; cases hx
      rw [Nat.zero_add, World.ownsRow.cellAt h j (by omega)]
      unfold intsI at hx
      unfold ints
      rw [List.getElem?_map] at hx ⊢
      rw [List.getElem?_eq_getElem hj] at hx ⊢
      injection hx with hx
      subst hx
      rfl
theorem ownN_shape {base : Nat} {w : World} {v : Value} {l : List Nat} (h : OwnN base w v l) : v = .slice (slA v) (intsI l).length (slC v) := by
  obtain ⟨a, cap, rfl⟩ := h.shape
  rw [show (intsI l).length = l.length from List.length_map ..]
  rfl
theorem itRow_of {base : Nat} {w : World} {v : Value} {M : List Itm} (h : ItemsAt base w v M) (hM : M ≠ []) (hok : ∀ x ∈ plainI M, OkItem x) : ∃ b cap, v = .slice (some ⟨b, 0, none⟩) (M.map convI).length cap ∧ ItRow w b 0 (M.map convI) := by
  have ho := h.own
  unfold OwnM at ho
  rw [List.length_map]
  rcases ho.2 with ⟨_, h5⟩ | ⟨g, cap, cur, rfl, hg, hh, r⟩
  · exact absurd (List.length_eq_zero_iff.1 h5) hM
  · refine ⟨g, cap, rfl, ?_, fun j y hy => ?_⟩
    · rcases Nat.lt_or_ge g w.heap.size with h | h
      · exact h
      · rw [Array.getElem?_eq_none h] at hh; cases hh
    · rw [List.getElem?_map] at hy
      cases hx : M[j]? with
      | none => rw [hx] at hy; cases hy
      | some x =>
        rw [hx] at hy
        injection hy with hy
        subst hy
        obtain ⟨hl, hxe⟩ := List.getElem?_eq_some_iff.1 hx
        obtain ⟨f1, f2⟩ := flatM_at M j x hx
        have hmem : x ∈ M := hxe ▸ List.getElem_mem hl
        have hd := h.dims x hmem
        obtain ⟨o1, o2, o3⟩ := hok (x.1, x.2.1) (List.mem_map.2 ⟨x, hmem, rfl⟩)
        have hf : ∀ y ∈ (convI x).2.1, -9223372036854775808 ≤ y ∧ y ≤ 9223372036854775807 := fun y hy => by
          obtain ⟨n, hn, rfl⟩ := List.mem_map.1 hy
          have := o1 n hn
          exact ⟨by omega, by omega⟩
        have hll : (convI x).2.1.length = x.2.1.length := List.length_map ..
        refine ⟨?_, ?_, numRow_of hd, hf, by rw [hll]; exact Nat.le_trans o2 (by decide), Nat.le_trans (joinT_four _ (by rw [hll]; exact o2) hf) (by decide), Nat.le_trans o3 (by decide)⟩
        · rw [Nat.zero_add, World.ownsRow.cellAt ho (j * 2) (by omega)]; exact f1
        · rw [Nat.zero_add, World.ownsRow.cellAt ho (j * 2 + 1) (by omega), f2, ownN_shape hd]; rfl
theorem plain_conv (M : List Itm) : (M.map convI).map itemT = (plainI M).map itemP := by
  unfold plainI
  rw [List.map_map, List.map_map]
  rfl
set_option maxHeartbeats 4000000 in
set_option maxRecDepth 100000 in
theorem text_decl (m : List (List UInt8 × List Nat)) (v : Value) (M : List Itm) (base : Nat) (w : World) (h : ItemsAt base w v M) (hm : plainI M = m) (hne : m ≠ []) (hok : ∀ x ∈ m, OkItem x) (hl : m.length ≤ 1000000) (hj : (Lib.join (m.map itemP) [44, 32]).length ≤ 1000000) (ht : Tab w) :
    Calls Tryz.prog 13 #[.agg ((stZ 1).setIfInBounds 1 v)] w fun e w' => e = .returned (.string ⟨(headT 1 ++ Lib.join (m.map itemP) [44, 32]).toArray⟩) ∧ Below w.heap.size w w' := by
  subst hm
  obtain ⟨b, cap, hv, hr⟩ := itRow_of h (fun e => by subst e; exact hne rfl) hok
  rw [← plain_conv] at hj ⊢
  have hl2 : (M.map convI).length ≤ 1000000 := by rw [List.length_map]; unfold plainI at hl; rw [List.length_map] at hl; exact hl
  subst hv
  clear h hok hne hl
  generalize M.map convI = MM at *
  generalize hn : MM.length = n at *
  have ba := alloc_below w (.cells ((stZ 1).setIfInBounds 1 (.slice (some ⟨b, 0, none⟩) n cap)) STT)
  have HH : Hid (∀ W, Calls Tryz.prog 34 #[.int .i64 1] W fun e w' => e = .returned (.string ⟨(headT 1).toArray⟩) ∧ w' = W) := hide (fun W => head_any 1 (by decide) W)
  have HX := hide (itemsText_any MM b 0 cap _ (hr.below ba) (by omega) (by omega) (ht.below ba))
  rw [hn] at HX
  have HB := hide ba
  have s1 : (⟨(headT 1).toArray⟩ : ByteArray) ++ ⟨(Lib.join (MM.map itemT) [44, 32]).toArray⟩ = ⟨(headT 1 ++ Lib.join (MM.map itemT) [44, 32]).toArray⟩ := cat2 _ _
  have hhl : (headT 1).length ≤ 10 := by decide
  clear ba hr ht hn hl2
  generalize Lib.join (MM.map itemT) [44, 32] = tx at *
  generalize headT 1 = hd at *
  generalize hTT : hd ++ tx = TT at *
  show Calls Tryz.prog 13 #[.agg #[.int .i64 1, .slice (some ⟨b, 0, none⟩) n cap, .int .i64 0, .int .i64 0, .string ⟨#[]⟩, .slice none 0 0, .int .i64 0, .int .i64 0, .string ⟨#[]⟩, .slice none 0 0, .string ⟨#[]⟩, .int .i64 0, .int .i64 0, .string ⟨#[]⟩, .slice none 0 0, .int .i64 0, .int .i64 0, .string ⟨#[]⟩, .slice none 0 0, .string ⟨#[]⟩, .int .i64 0, .int .i64 0, .string ⟨#[]⟩, .slice none 0 0, .int .i64 0, .int .i64 0, .string ⟨#[]⟩, .slice none 0 0, .int .i64 0]] w _
  go_enter Tryz.func13, Tryz.ntmps13
  go_wp2_with fail
  refine (unhide HH _).mono ?_
  rintro e w1 ⟨rfl, rfl⟩
  go_wp2_with fail
  refine (unhide HX).mono ?_
  rintro e w2 ⟨rfl, hb2⟩
  have H2 := hide (bthen (unhide HB) hb2)
  clear hb2 HB
  go_wp2
  go_ret
  exact ⟨rfl, unhide H2⟩
end Go.Proofs.YtdpjipphbhomkaaGreatDoor.Line

namespace Go.Proofs.YtdpjipphbhomkaaGreatDoor.Line
open Go.ChangeShapes Go.WideShapes Go.ChangeAt Go.RowKit
open Ex (E St)
set_option linter.unusedVariables false

/-- the words of a line -/
abbrev wordsOf (s : List UInt8) : List Words.T := (Words.toks (Plain.bodyOf s)).1
/-- what is known of a line: its words are right, it is read as ps, up to p, with er -/
structure Lined (s : List UInt8) (ps : PS) (p : Nat) (er : SE) : Prop where
  len : s.length ≤ 65536
  body : (Plain.bodyOf s).length ≤ 65536
  toks : Words.toks (Plain.bodyOf s) = (wordsOf s, 0, 0)
  nums : NumOk (wordsOf s)
  many : (wordsOf s).length ≤ 100000
  reads : ReadsAs (wordsOf s) ps p er
theorem parse_good {s : List UInt8} {ps : PS} {p : Nat} (h : Lined s ps p .ok) (hp : (wordsOf s).length ≤ p) (w : World) (hG : Glob w) (hw0 : 0 < w.heap.size) :
    Calls Tryz.prog 8 #[.string ⟨s.toArray⟩] w fun e w' => ∃ B cs, w.heap.size < B ∧ Holds B w' cs ps ∧ Below w.heap.size w w' ∧ e = .returned (.tuple #[.agg cs, .nilIface]) := by
  refine (parse_all s (wordsOf s) w h.len h.toks h.many h.nums h.body hG hw0).mono ?_
  rintro e w' ⟨B, cs, p', er', ps', hB, hr, hh, hb, he⟩
  obtain ⟨rfl, rfl, rfl⟩ := hr.det h.reads
  have hE : endE (wordsOf s) p' .ok = .ok := if_neg (by omega)
  rcases he with ⟨_, rfl⟩ | ⟨hn, _⟩
  · exact ⟨B, cs, hB, hh, hb, rfl⟩
  · exact absurd hE hn
theorem parse_fail {s : List UInt8} {ps : PS} {p : Nat} {er : SE} (h : Lined s ps p er) (e0 : SE) (he0 : endE (wordsOf s) p er = e0) (hne : e0 ≠ .ok) (w : World) (hG : Glob w) (hw0 : 0 < w.heap.size) :
    Calls Tryz.prog 8 #[.string ⟨s.toArray⟩] w fun e w' => ∃ g, Se (w.heap.size + 1) w' g e0 ∧ Below w.heap.size w w' ∧ e = .returned (.tuple #[.agg (stZ 0), g]) := by
  subst he0
  refine (parse_all s (wordsOf s) w h.len h.toks h.many h.nums h.body hG hw0).mono ?_
  rintro e w' ⟨B, cs, p', er', ps', hB, hr, hh, hb, he⟩
  obtain ⟨rfl, rfl, rfl⟩ := hr.det h.reads
  rcases he with ⟨hk, _⟩ | ⟨_, g, rfl, hs⟩
  · exact absurd hk hne
  · exact ⟨g, hs, hb, rfl⟩

/-- a statement in words -/
def stText : PS → List UInt8
  | .plain k => headT k
  | .decl m => headT 1 ++ Lib.join (m.map itemP) [44, 32]
  | .set x y => textT x ++ [32, 61, 32] ++ textT y
  | .loop nm x y st => headT 3 ++ (nm ++ [32, 61, 32] ++ textT x ++ [44, 32] ++ textT y ++ stepT st)
  | .cond o x y => headT 5 ++ (textT x ++ [32] ++ o ++ [32] ++ textT y ++ [41, 32, 116, 104, 101, 110])
  | .rd x => headT 8 ++ textT x
  | .pr y => headT 9 ++ textT y
def OkX (x : E) : Prop := OkE x ∧ wtE x ≤ 90000 ∧ (textT x).length ≤ 1000000
/-- a statement that may be told -/
def OkS : PS → Prop
  | .plain k => k = 0 ∨ k = 4 ∨ k = 6 ∨ k = 7
  | .decl m => m ≠ [] ∧ (∀ x ∈ m, OkItem x) ∧ m.length ≤ 1000000 ∧ (Lib.join (m.map itemP) [44, 32]).length ≤ 1000000
  | .set x y => OkX x ∧ OkX y
  | .loop nm x y st => OkX x ∧ OkX y ∧ nm.length ≤ 1000 ∧ -9223372036854775808 ≤ st ∧ st ≤ 9223372036854775807
  | .cond o x y => OkX x ∧ OkX y ∧ o.length ≤ 1000
  | .rd x => OkX x
  | .pr y => OkX y
theorem text_all {B : Nat} {cs : Array Value} {ps : PS} {w : World} (h : Holds B w cs ps) (ho : OkS ps) (ht : Tab w) : Calls Tryz.prog 13 #[.agg cs] w fun e w' => e = .returned (.string ⟨(stText ps).toArray⟩) ∧ Below w.heap.size w w' := by
  cases ps with
  | plain k => subst h; exact text_plain k ho w
  | decl m => obtain ⟨v, M, rfl, _, hi, hm⟩ := h; exact text_decl m v M _ w hi hm ho.1 ho.2.1 ho.2.2.1 ho.2.2.2 ht
  | set x y => obtain ⟨a, n, c, a', n', c', rfl, hx, hy⟩ := h; exact text_set x y a a' n c n' c' _ w hx hy ho.1.1 ho.2.1 ht ho.1.2.1 ho.2.2.1 ho.1.2.2 ho.2.2.2
  | loop nm x y st => obtain ⟨a, n, c, a', n', c', rfl, hx, hy⟩ := h; exact text_loop nm x y st a a' n c n' c' _ w hx hy ho.1.1 ho.2.1.1 ht ho.1.2.1 ho.2.1.2.1 ho.1.2.2 ho.2.1.2.2 ho.2.2.1 ho.2.2.2.1 ho.2.2.2.2
  | cond o x y => obtain ⟨a, n, c, a', n', c', rfl, hx, hy⟩ := h; exact text_cond o x y a a' n c n' c' _ w hx hy ho.1.1 ho.2.1.1 ht ho.1.2.1 ho.2.1.2.1 ho.1.2.2 ho.2.1.2.2 ho.2.2
  | rd x => obtain ⟨a, n, c, rfl, hx⟩ := h; exact text_rd x a n c _ w hx ho.1 ht ho.2.1 ho.2.2
  | pr x => obtain ⟨a, n, c, rfl, hx⟩ := h; exact text_pr x a n c _ w hx ho.1 ht ho.2.1 ho.2.2
/-- cells of a statement that is held -/
theorem Holds.size {B : Nat} {cs : Array Value} {ps : PS} {w : World} (h : Holds B w cs ps) : cs.size = 29 ∧ cs.all (·.oneCell') = true := by
  cases ps with
  | plain k => subst h; exact ⟨rfl, stZ_one _⟩
  | decl m => obtain ⟨v, M, rfl, ⟨a, n, c, rfl⟩, hi, hm⟩ := h; exact ⟨rfl, by kernel_rfl⟩
  | set x y => obtain ⟨a, n, c, a', n', c', rfl, hx, hy⟩ := h; exact ⟨rfl, by kernel_rfl⟩
  | loop nm x y st => obtain ⟨a, n, c, a', n', c', rfl, hx, hy⟩ := h; exact ⟨rfl, by kernel_rfl⟩
  | cond o x y => obtain ⟨a, n, c, a', n', c', rfl, hx, hy⟩ := h; exact ⟨rfl, by kernel_rfl⟩
  | rd x => obtain ⟨a, n, c, rfl, hx⟩ := h; exact ⟨rfl, by kernel_rfl⟩
  | pr x => obtain ⟨a, n, c, rfl, hx⟩ := h; exact ⟨rfl, by kernel_rfl⟩
def kindN : PS → Nat
  | .plain k => k
  | .decl _ => 1
  | .set _ _ => 2
  | .loop _ _ _ _ => 3
  | .cond _ _ _ => 5
  | .rd _ => 8
  | .pr _ => 9
theorem Holds.kind {B : Nat} {cs : Array Value} {ps : PS} {w : World} (h : Holds B w cs ps) : cs[0]? = some (.int .i64 (kindN ps)) := by
  cases ps with
  | plain k => subst h; rfl
  | decl m => obtain ⟨v, M, rfl, ⟨a, n, c, rfl⟩, hi, hm⟩ := h; rfl
  | set x y => obtain ⟨a, n, c, a', n', c', rfl, hx, hy⟩ := h; rfl
  | loop nm x y st => obtain ⟨a, n, c, a', n', c', rfl, hx, hy⟩ := h; rfl
  | cond o x y => obtain ⟨a, n, c, a', n', c', rfl, hx, hy⟩ := h; rfl
  | rd x => obtain ⟨a, n, c, rfl, hx⟩ := h; rfl
  | pr x => obtain ⟨a, n, c, rfl, hx⟩ := h; rfl
theorem Holds.step {B : Nat} {cs : Array Value} {nm : List UInt8} {x y : E} {st : Int} {w : World} (h : Holds B w cs (.loop nm x y st)) : cs[28]? = some (.int .i64 st) := by
  obtain ⟨a, n, c, a', n', c', rfl, hx, hy⟩ := h; rfl
theorem okX_of {x : E} (h : okB 9 x = true) (hw : wtE x ≤ 90000) (hl : (textT x).length ≤ 1000000) : OkX x := ⟨okB_ok 9 x h, hw, hl⟩
/-- a load of a whole statement where its guard says yes -/
theorem wpList_loadRowG {ops : Array Oper} {rest : List Oper} {op : Oper} {a : Act} {w : World} {Q : Exit → Act → World → Prop} (hw : Region.wanted op (yielded ops a.tmps) = true) (x : Operand) (ho : op.op = .load STT x) (g : Nat) (c : Array Value)
    (hx : a.eval x = .pointer (some ⟨g, 0, none⟩)) (hs : StAt w g c)
    (h : wpList Tryz.prog ops Q rest (a.put op.dst (.agg c)) w) : wpList Tryz.prog ops Q (op :: rest) a w :=
  BigFrame.wpList_want hw fun _ hK => wp_load_row STT x ho g hx STT c (0, 0) _ hs.1 Tryz.underlying30 rfl (by rw [hs.2]; exact infoS) (hK _ _ h)
end Go.Proofs.YtdpjipphbhomkaaGreatDoor.Line
