/- One contract of the statement reader over all kinds of statements: what its words are read as, and where that lies.
   What words are read as is one thing alone; and a reckoning that finds it.
   Parse at a line of which it is known what it is read as.
   Is a line read as a statement: by reckoning.
   A statement as one record of all its fields (FS), and its 29 cells in memory, to be read alone (HoldsF); what keeps them.
   Parse at any line: what it is read as, or what is wrong with it, in memory.
   Blocks as plain data: nodes, the way in which lines become blocks (Bl), what all lines become. -/
import Derived.Test.YthkbchefjagbbaaGreatDoorStCondA
import Derived.Test.YthkbchefjagbbaaGreatDoorStTgA
import Derived.Test.YthkbchefjagbbaaGreatDoorStParA
import Derived.Test.YthkbchefjagbbaaGreatDoorStFnAll
import Derived.Test.YthkbchefjagbbaaGreatDoorRdLast
namespace Go.Proofs.YthkbchefjagbbaaGreatDoor.Line
open Go.ChangeShapes Go.WideShapes Go.ChangeAt Go.RowKit
open Ex (E St)
set_option linter.unusedVariables false

/-- a statement, as plain data -/
inductive PS
  | plain (k : Nat)
  | decl (m : List (List UInt8 × List Nat))
  | set (x y : E)
  | loop (nm : List UInt8) (x y : E) (st : Int)
  | cond (c : List UInt8) (x y : E)
  | rd (x : E)
  | pr (y : E)
/-- the kind that the first words tell, the place behind them, what is wrong -/
def kindR (T : List Words.T) : Nat × Nat × SE :=
  if T.length = 0 then (0, 0, .ok)
  else if isNext T 0 .ok [105, 110, 116, 101, 103, 101, 114] = true then (1, 1, .ok)
  else if isNext T 0 .ok [100, 111] = true then (3, 1, .ok)
  else if isNext T 0 .ok [101, 110, 100] = true then
    (if isNext T 1 .ok [100, 111] = true then (4, 2, .ok) else (7, nextP (isNext T 1 .ok [105, 102]) 1, mustE (isNext T 1 .ok [105, 102]) .ok 1))
  else if isNext T 0 .ok [105, 102] = true then (5, 1, .ok)
  else if isNext T 0 .ok [101, 108, 115, 101] = true then (6, 1, .ok)
  else if isNext T 0 .ok [114, 101, 97, 100] = true then (8, 1, .ok)
  else if isNext T 0 .ok [112, 114, 105, 110, 116] = true then (9, 1, .ok)
  else (2, 0, .ok)
theorem kind_is {T : List Words.T} {L : Value} {rb : Nat} {w : World} (h : SR T L rb w 0 .ok) : KindIs T L rb w ((kindR T).1 : Int) (kindR T).2.1 (kindR T).2.2 := by
  intro W hW
  have h := h.below hW
  have nf : ∀ {b : Bool}, ¬ b = true → b = false := fun {b} h => by cases b <;> simp_all
  unfold kindR
  split
  · rename_i h0; exact kind_none T L rb W 0 .ok h h0
  rename_i h0
  have h0 : 0 < T.length := by omega
  split
  · rename_i q0; exact kind_integer T L rb W 0 .ok h h0 q0
  rename_i q0
  split
  · rename_i q1; exact kind_do T L rb W 0 .ok h h0 (nf q0) q1
  rename_i q1
  split
  · rename_i q2
    refine (kind_end T L rb W 0 .ok h h0 (nf q0) (nf q1) q2).mono ?_
    rintro e w' ⟨k, p', er', rfl, hs, hb, ⟨hd, rfl, rfl, rfl⟩ | ⟨hd, rfl, rfl, rfl⟩⟩
    · rw [if_pos hd]; exact ⟨rfl, hs, hb⟩
    · rw [if_neg (show ¬ isNext T 1 .ok [100, 111] = true from by rw [show isNext T 1 .ok [100, 111] = false from hd]; simp)]; exact ⟨rfl, hs, hb⟩
  rename_i q2
  split
  · rename_i q3; exact kind_if T L rb W 0 .ok h h0 (nf q0) (nf q1) (nf q2) q3
  rename_i q3
  split
  · rename_i q4; exact kind_else T L rb W 0 .ok h h0 (nf q0) (nf q1) (nf q2) (nf q3) q4
  rename_i q4
  split
  · rename_i q5; exact kind_read T L rb W 0 .ok h h0 (nf q0) (nf q1) (nf q2) (nf q3) (nf q4) q5
  rename_i q5
  split
  · rename_i q6; exact kind_print T L rb W 0 .ok h h0 (nf q0) (nf q1) (nf q2) (nf q3) (nf q4) (nf q5) q6
  rename_i q6
  exact kind_set T L rb W 0 .ok h h0 (nf q0) (nf q1) (nf q2) (nf q3) (nf q4) (nf q5) (nf q6)
theorem kind_cases (T : List Words.T) : (kindR T).1 = 0 ∨ (kindR T).1 = 1 ∨ (kindR T).1 = 2 ∨ (kindR T).1 = 3 ∨ (kindR T).1 = 4 ∨ (kindR T).1 = 5 ∨ (kindR T).1 = 6 ∨ (kindR T).1 = 7 ∨ (kindR T).1 = 8 ∨ (kindR T).1 = 9 := by
  unfold kindR
  repeat' split
  all_goals simp

/-- what the words T are read as, up to where, and what is wrong -/
def ReadsAs (T : List Words.T) : PS → Nat → SE → Prop
  | .plain k, p, er => kindR T = (k, p, er) ∧ (k = 0 ∨ k = 4 ∨ k = 6 ∨ k = 7)
  | .decl m, p, er => (kindR T).1 = 1 ∧ itemsR T (T.length + 1) [] (kindR T).2.1 (kindR T).2.2 = (m, p, er)
  | .set x y, p, er => (kindR T).1 = 2 ∧ SetR T (kindR T).2.1 (kindR T).2.2 x y p er
  | .loop nm x y st, p, er => (kindR T).1 = 3 ∧ DoR T (kindR T).2.1 (kindR T).2.2 nm x y st p er
  | .cond c x y, p, er => (kindR T).1 = 5 ∧ IfR T (kindR T).2.1 (kindR T).2.2 c x y p er
  | .rd x, p, er => (kindR T).1 = 8 ∧ TR T (kindR T).2.1 (kindR T).2.2 x p er
  | .pr y, p, er => (kindR T).1 = 9 ∧ XR T (kindR T).2.1 T.length (kindR T).2.2 y p er
/-- the 29 cells of a statement, its rows in blocks behind B -/
def Holds (B : Nat) (W : World) (cs : Array Value) : PS → Prop
  | .plain k => cs = stZ k
  | .decl m => ∃ v M, cs = (stZ 1).setIfInBounds 1 v ∧ (∃ a n c, v = .slice a n c) ∧ ItemsAt (B + 1) W v M ∧ plainI M = m
  | .set x y => ∃ a n c a' n' c', cs = setV 2 x (.slice a n c) y (.slice a' n' c') ∧ Forest W (fun b => B < b) x.a (.slice a n c) ∧ Forest W (fun b => B < b) y.a (.slice a' n' c')
  | .loop nm x y st => ∃ a n c a' n' c', cs = doV nm x (.slice a n c) y (.slice a' n' c') st ∧ Forest W (fun b => B < b) x.a (.slice a n c) ∧ Forest W (fun b => B < b) y.a (.slice a' n' c')
  | .cond o x y => ∃ a n c a' n' c', cs = ifV 5 o x (.slice a n c) y (.slice a' n' c') ∧ Forest W (fun b => B < b) x.a (.slice a n c) ∧ Forest W (fun b => B < b) y.a (.slice a' n' c')
  | .rd x => ∃ a n c, cs = toV 8 x (.slice a n c) ∧ Forest W (fun b => B < b) x.a (.slice a n c)
  | .pr y => ∃ a n c, cs = prV 9 y (.slice a n c) ∧ Forest W (fun b => B < b) y.a (.slice a n c)
theorem row_keep {base n size : Nat} {e : TypeId} {xs : List Value} {w w' : World} {v : Value} (h : w.ownsRow base e size v n xs) (hk : ∀ b, base ≤ b → b < w.heap.size → w'.heap[b]? = w.heap[b]?) : w'.ownsRow base e size v n xs := by
  obtain ⟨h1, h2⟩ := h
  refine ⟨h1, ?_⟩
  rcases h2 with h2 | ⟨g, cap, cur, hv, hg, hh, r⟩
  · exact .inl h2
  · refine .inr ⟨g, cap, cur, hv, hg, ?_, r⟩
    rw [hk g hg (by
      rcases Nat.lt_or_ge g w.heap.size with h | h
      · exact h
      · rw [Array.getElem?_eq_none h] at hh; cases hh)]
    exact hh
theorem ItemsAt.keep {base : Nat} {w w' : World} {v : Value} {m : List Itm} (h : ItemsAt base w v m) (hk : ∀ b, base ≤ b → b < w.heap.size → w'.heap[b]? = w.heap[b]?) : ItemsAt base w' v m := ⟨row_keep h.own hk, fun x hx => row_keep (h.dims x hx) hk⟩
theorem Holds.keep {B : Nat} {W W' : World} {cs : Array Value} {ps : PS} (h : Holds B W cs ps) (hk : ∀ b, B < b → b < W.heap.size → W'.heap[b]? = W.heap[b]?) : Holds B W' cs ps := by
  have hf : ∀ {l : List E} {v : Value}, Forest W (fun b => B < b) l v → Forest W' (fun b => B < b) l v := fun h => h.keep hk (fun _ h _ => h)
  cases ps with
  | plain k => exact h
  | decl m => obtain ⟨v, M, h1, h2, h3, h4⟩ := h; exact ⟨v, M, h1, h2, h3.keep hk, h4⟩
  | set x y => obtain ⟨a, n, c, a', n', c', h1, h2, h3⟩ := h; exact ⟨a, n, c, a', n', c', h1, hf h2, hf h3⟩
  | loop nm x y st => obtain ⟨a, n, c, a', n', c', h1, h2, h3⟩ := h; exact ⟨a, n, c, a', n', c', h1, hf h2, hf h3⟩
  | cond o x y => obtain ⟨a, n, c, a', n', c', h1, h2, h3⟩ := h; exact ⟨a, n, c, a', n', c', h1, hf h2, hf h3⟩
  | rd x => obtain ⟨a, n, c, h1, h2⟩ := h; exact ⟨a, n, c, h1, hf h2⟩
  | pr y => obtain ⟨a, n, c, h1, h2⟩ := h; exact ⟨a, n, c, h1, hf h2⟩
theorem Holds.below {B : Nat} {W W' : World} {cs : Array Value} {ps : PS} (h : Holds B W cs ps) (hb : Below W.heap.size W W') : Holds B W' cs ps := h.keep (fun b _ hl => hb.block b hl)
theorem stmt_all (HPARSE : ParseSpec) (HCOND : CondSpec) (T : List Words.T) (hN : NumOk T) (B : Nat) : StmtSpec T B (fun cs p er W => ∃ ps, ReadsAs T ps p er ∧ Holds B W cs ps) := by
  intro L rb w hB h hl h0 hlw hG
  subst hB
  have hk := kind_is h
  rcases kind_cases T with k | k | k | k | k | k | k | k | k | k
  case inl | inr.inr.inr.inr.inl | inr.inr.inr.inr.inr.inr.inl | inr.inr.inr.inr.inr.inr.inr.inl =>
    refine (stmt_plain ((kindR T).1 : Int) (by omega) T L rb w _ _ hl hlw hk).mono ?_
    rintro e w' ⟨rfl, hs, hb⟩
    exact ⟨_, _, _, rfl, rfl, stZ_one _, hs, hb, .plain (kindR T).1, ⟨rfl, by omega⟩, rfl⟩
  all_goals rw [k] at hk
  · refine (stmt_decl T L rb w _ _ hl hlw hN hk).mono ?_
    rintro e w' ⟨v, m, rfl, ⟨a, n, c, rfl⟩, hi, hp, hs, hb⟩
    exact ⟨_, _, _, rfl, rfl, by kernel_rfl, hs, hb, .decl _, ⟨k, rfl⟩, _, m, rfl, ⟨a, n, c, rfl⟩, hi, hp⟩
  · refine (stmt_set HPARSE T L rb w _ _ hl h0 hlw hG hk).mono ?_
    rintro e w' ⟨x, y, a, n, c, a', n', c', p', er', hr, rfl, hx, hy, hs, hb⟩
    exact ⟨_, _, _, rfl, rfl, by kernel_rfl, hs, hb, .set x y, ⟨k, hr⟩, a, n, c, a', n', c', rfl, hx, hy⟩
  · refine (stmt_do HPARSE T L rb w _ _ hl h0 hlw hN hG hk).mono ?_
    rintro e w' ⟨nm, x, y, st, a, n, c, a', n', c', p', er', hr, rfl, hx, hy, hs, hb⟩
    exact ⟨_, _, _, rfl, rfl, by kernel_rfl, hs, hb, .loop nm x y st, ⟨k, hr⟩, a, n, c, a', n', c', rfl, hx, hy⟩
  · refine (stmt_if HCOND T L rb w _ _ hl h0 hlw hG hk).mono ?_
    rintro e w' ⟨o, x, y, a, n, c, a', n', c', p', er', hr, rfl, hx, hy, hs, hb⟩
    exact ⟨_, _, _, rfl, rfl, by kernel_rfl, hs, hb, .cond o x y, ⟨k, hr⟩, a, n, c, a', n', c', rfl, hx, hy⟩
  · refine (stmt_read HPARSE T L rb w _ _ hl h0 hlw hG hk).mono ?_
    rintro e w' ⟨x, a, n, c, p', er', hr, rfl, hx, hs, hb⟩
    exact ⟨_, _, _, rfl, rfl, by kernel_rfl, hs, hb, .rd x, ⟨k, hr⟩, a, n, c, rfl, hx⟩
  · refine (stmt_print HPARSE T L rb w _ _ hl h0 hlw hG hk).mono ?_
    rintro e w' ⟨x, a, n, c, p', er', hr, rfl, hx, hs, hb⟩
    exact ⟨_, _, _, rfl, rfl, by kernel_rfl, hs, hb, .pr x, ⟨k, hr⟩, a, n, c, rfl, hx⟩

/-- Parse at a line whose words are right: what it is read as, or what is wrong -/
theorem parse_all (s : List UInt8) (T : List Words.T) (w : World) (hs : s.length ≤ 65536) (hT : Words.toks (Plain.bodyOf s) = (T, 0, 0)) (hTl : T.length ≤ 100000) (hN : NumOk T) (hbl : (Plain.bodyOf s).length ≤ 65536) (hG : Glob w) (hw0 : 0 < w.heap.size) :
    Calls Tryz.prog 24 #[.string ⟨s.toArray⟩] w fun e w' => ∃ B cs p er ps, w.heap.size < B ∧ ReadsAs T ps p er ∧ Holds B w' cs ps ∧ Below w.heap.size w w' ∧ ((endE T p er = .ok ∧ e = .returned (.tuple #[.agg cs, .nilIface])) ∨ (endE T p er ≠ .ok ∧ ∃ g, e = .returned (.tuple #[.agg (stZ 0), g]) ∧ Se (w.heap.size + 1) w' g (endE T p er))) := by
  refine (parse_of s T w hs hT hTl hbl hG hw0 (fun B cs p er W => ∃ ps, ReadsAs T ps p er ∧ Holds B W cs ps) (fun B cs p er W W' ⟨ps, h1, h2⟩ hk => ⟨ps, h1, h2.keep hk⟩) (fun B => stmt_all parse_spec cond_spec T hN B)).mono ?_
  rintro e w' ⟨B, cs, p, er, hB, ⟨ps, h1, h2⟩, h3, h4⟩
  exact ⟨B, cs, p, er, ps, hB, h1, h2, h3, h4⟩
end Go.Proofs.YthkbchefjagbbaaGreatDoor.Line

namespace Go.Proofs.YthkbchefjagbbaaGreatDoor.Line
open Ex (E St)
set_option linter.unusedVariables false

theorem XR.det {T : List Words.T} {p hi : Nat} {er : SE} {x x' : E} {p' p'' : Nat} {er' er'' : SE} (h : XR T p hi er x p' er') (h' : XR T p hi er x' p'' er'') : x = x' ∧ p' = p'' ∧ er' = er'' := by
  rcases h with ⟨a, rfl, rfl, rfl⟩ | ⟨a, x0, s, hr, rfl, rfl, rfl⟩
  · rcases h' with ⟨_, rfl, rfl, rfl⟩ | ⟨b, _⟩
    · exact ⟨rfl, rfl, rfl⟩
    · exact absurd b a
  · rcases h' with ⟨b, _⟩ | ⟨_, x1, s1, hr1, rfl, rfl, rfl⟩
    · exact absurd a b
    · have e := hr.det hr1
      injection e with e1 e2
      subst e1
      subst e2
      exact ⟨rfl, rfl, rfl⟩
theorem TR.det {T : List Words.T} {p : Nat} {er : SE} {x x' : E} {p' p'' : Nat} {er' er'' : SE} (h : TR T p er x p' er') (h' : TR T p er x' p'' er'') : x = x' ∧ p' = p'' ∧ er' = er'' := by
  rcases h with ⟨a, rfl, rfl, rfl⟩ | ⟨a, h⟩
  · rcases h' with ⟨_, rfl, rfl, rfl⟩ | ⟨b, _⟩
    · exact ⟨rfl, rfl, rfl⟩
    · rw [a] at b; cases b
  · rcases h' with ⟨b, _⟩ | ⟨_, h'⟩
    · rw [a] at b; cases b
    · exact h.det h'
theorem SetR.det {T : List Words.T} {p : Nat} {er : SE} {x x' y y' : E} {p' p'' : Nat} {er' er'' : SE} (h : SetR T p er x y p' er') (h' : SetR T p er x' y' p'' er'') : x = x' ∧ y = y' ∧ p' = p'' ∧ er' = er'' := by
  obtain ⟨p1, e1, pa, ea, h1, rfl, rfl, h2⟩ := h
  obtain ⟨q1, f1, qa, fa, k1, rfl, rfl, k2⟩ := h'
  obtain ⟨rfl, rfl, rfl⟩ := h1.det k1
  obtain ⟨rfl, rfl, rfl⟩ := h2.det k2
  exact ⟨rfl, rfl, rfl, rfl⟩
theorem DoR.det {T : List Words.T} {p : Nat} {er : SE} {nm nm' : List UInt8} {x x' y y' : E} {st st' : Int} {p' p'' : Nat} {er' er'' : SE} (h : DoR T p er nm x y st p' er') (h' : DoR T p er nm' x' y' st' p'' er'') : nm = nm' ∧ x = x' ∧ y = y' ∧ st = st' ∧ p' = p'' ∧ er' = er'' := by
  obtain ⟨rfl, p1, e1, pa, ea, p2, e2, pb, eb, p4, e4, rfl, rfl, rfl, rfl, h1, rfl, rfl, h2, h3⟩ := h
  obtain ⟨rfl, q1, f1, qa, fa, q2, f2, qb, fb, q4, f4, rfl, rfl, rfl, rfl, k1, rfl, rfl, k2, k3⟩ := h'
  obtain ⟨rfl, rfl, rfl⟩ := h1.det k1
  obtain ⟨rfl, rfl, rfl⟩ := h2.det k2
  rw [← k3] at h3
  injection h3 with a b
  injection b with b c
  exact ⟨rfl, rfl, rfl, a, b, c⟩
theorem CR.det {T : List Words.T} {p : Nat} {er : SE} {c c' : List UInt8} {x x' y y' : E} {p' p'' : Nat} {er' er'' : SE} (h : CR T p er c x y p' er') (h' : CR T p er c' x' y' p'' er'') : c = c' ∧ x = x' ∧ y = y' ∧ p' = p'' ∧ er' = er'' := by
  rcases h with ⟨a, rfl, rfl, rfl, rfl, rfl⟩ | ⟨a, s, hr, rfl, rfl⟩
  · rcases h' with ⟨_, rfl, rfl, rfl, rfl, rfl⟩ | ⟨b, _⟩
    · exact ⟨rfl, rfl, rfl, rfl, rfl⟩
    · exact absurd b a
  · rcases h' with ⟨b, _⟩ | ⟨_, s1, hr1, rfl, rfl⟩
    · exact absurd a b
    · obtain ⟨rfl, rfl, rfl, rfl⟩ := hr.det hr1
      exact ⟨rfl, rfl, rfl, rfl, rfl⟩
theorem IfR.det {T : List Words.T} {p : Nat} {er : SE} {c c' : List UInt8} {x x' y y' : E} {p' p'' : Nat} {er' er'' : SE} (h : IfR T p er c x y p' er') (h' : IfR T p er c' x' y' p'' er'') : c = c' ∧ x = x' ∧ y = y' ∧ p' = p'' ∧ er' = er'' := by
  obtain ⟨pa, ea, p1, e1, pb, eb, rfl, rfl, h1, rfl, rfl, rfl, rfl⟩ := h
  obtain ⟨qa, fa, q1, f1, qb, fb, rfl, rfl, k1, rfl, rfl, rfl, rfl⟩ := h'
  obtain ⟨rfl, rfl, rfl, rfl, rfl⟩ := h1.det k1
  exact ⟨rfl, rfl, rfl, rfl, rfl⟩
theorem ReadsAs.det {T : List Words.T} {ps ps' : PS} {p p' : Nat} {er er' : SE} (h : ReadsAs T ps p er) (h' : ReadsAs T ps' p' er') : ps = ps' ∧ p = p' ∧ er = er' := by
  cases ps with
  | plain k =>
    obtain ⟨h1, h2⟩ := h
    cases ps' with
    | plain k' =>
      obtain ⟨k1, k2⟩ := h'
      rw [h1] at k1
      injection k1 with a b
      injection b with b c
      subst a
      exact ⟨rfl, b, c⟩
    | decl m => obtain ⟨k1, _⟩ := h'; rw [h1] at k1; simp only at k1; omega
    | set x y => obtain ⟨k1, _⟩ := h'; rw [h1] at k1; simp only at k1; omega
    | loop nm x y st => obtain ⟨k1, _⟩ := h'; rw [h1] at k1; simp only at k1; omega
    | cond c x y => obtain ⟨k1, _⟩ := h'; rw [h1] at k1; simp only at k1; omega
    | rd x => obtain ⟨k1, _⟩ := h'; rw [h1] at k1; simp only at k1; omega
    | pr x => obtain ⟨k1, _⟩ := h'; rw [h1] at k1; simp only at k1; omega
  | decl m =>
    obtain ⟨h1, h2⟩ := h
    cases ps' with
    | plain k' => obtain ⟨k1, k2⟩ := h'; rw [k1] at h1; simp only at h1; omega
    | decl m' =>
      obtain ⟨k1, k2⟩ := h'
      rw [h2] at k2
      injection k2 with a b
      injection b with b c
      exact ⟨by rw [a], b, c⟩
    | set x y => obtain ⟨k1, _⟩ := h'; omega
    | loop nm x y st => obtain ⟨k1, _⟩ := h'; omega
    | cond c x y => obtain ⟨k1, _⟩ := h'; omega
    | rd x => obtain ⟨k1, _⟩ := h'; omega
    | pr x => obtain ⟨k1, _⟩ := h'; omega
  | set x y =>
    obtain ⟨h1, h2⟩ := h
    cases ps' with
    | plain k' => obtain ⟨k1, k2⟩ := h'; rw [k1] at h1; simp only at h1; omega
    | decl m' => obtain ⟨k1, _⟩ := h'; omega
    | set x' y' => obtain ⟨k1, k2⟩ := h'; obtain ⟨rfl, rfl, rfl, rfl⟩ := h2.det k2; exact ⟨rfl, rfl, rfl⟩
    | loop nm x y st => obtain ⟨k1, _⟩ := h'; omega
    | cond c x y => obtain ⟨k1, _⟩ := h'; omega
    | rd x => obtain ⟨k1, _⟩ := h'; omega
    | pr x => obtain ⟨k1, _⟩ := h'; omega
  | loop nm x y st =>
    obtain ⟨h1, h2⟩ := h
    cases ps' with
    | plain k' => obtain ⟨k1, k2⟩ := h'; rw [k1] at h1; simp only at h1; omega
    | decl m' => obtain ⟨k1, _⟩ := h'; omega
    | set x' y' => obtain ⟨k1, _⟩ := h'; omega
    | loop nm x y st => obtain ⟨k1, k2⟩ := h'; obtain ⟨rfl, rfl, rfl, rfl, rfl, rfl⟩ := h2.det k2; exact ⟨rfl, rfl, rfl⟩
    | cond c x y => obtain ⟨k1, _⟩ := h'; omega
    | rd x => obtain ⟨k1, _⟩ := h'; omega
    | pr x => obtain ⟨k1, _⟩ := h'; omega
  | cond c x y =>
    obtain ⟨h1, h2⟩ := h
    cases ps' with
    | plain k' => obtain ⟨k1, k2⟩ := h'; rw [k1] at h1; simp only at h1; omega
    | decl m' => obtain ⟨k1, _⟩ := h'; omega
    | set x' y' => obtain ⟨k1, _⟩ := h'; omega
    | loop nm x y st => obtain ⟨k1, _⟩ := h'; omega
    | cond c x y => obtain ⟨k1, k2⟩ := h'; obtain ⟨rfl, rfl, rfl, rfl, rfl⟩ := h2.det k2; exact ⟨rfl, rfl, rfl⟩
    | rd x => obtain ⟨k1, _⟩ := h'; omega
    | pr x => obtain ⟨k1, _⟩ := h'; omega
  | rd x =>
    obtain ⟨h1, h2⟩ := h
    cases ps' with
    | plain k' => obtain ⟨k1, k2⟩ := h'; rw [k1] at h1; simp only at h1; omega
    | decl m' => obtain ⟨k1, _⟩ := h'; omega
    | set x' y' => obtain ⟨k1, _⟩ := h'; omega
    | loop nm x y st => obtain ⟨k1, _⟩ := h'; omega
    | cond c x y => obtain ⟨k1, _⟩ := h'; omega
    | rd x => obtain ⟨k1, k2⟩ := h'; obtain ⟨rfl, rfl, rfl⟩ := h2.det k2; exact ⟨rfl, rfl, rfl⟩
    | pr x => obtain ⟨k1, _⟩ := h'; omega
  | pr x =>
    obtain ⟨h1, h2⟩ := h
    cases ps' with
    | plain k' => obtain ⟨k1, k2⟩ := h'; rw [k1] at h1; simp only at h1; omega
    | decl m' => obtain ⟨k1, _⟩ := h'; omega
    | set x' y' => obtain ⟨k1, _⟩ := h'; omega
    | loop nm x y st => obtain ⟨k1, _⟩ := h'; omega
    | cond c x y => obtain ⟨k1, _⟩ := h'; omega
    | rd x => obtain ⟨k1, _⟩ := h'; omega
    | pr x => obtain ⟨k1, k2⟩ := h'; obtain ⟨rfl, rfl, rfl⟩ := h2.det k2; exact ⟨rfl, rfl, rfl⟩

/-! ### reckoned -/
def xrF (T : List Words.T) (p hi : Nat) (er : SE) : Option (E × Nat × SE) :=
  if er = .ok then (match Ex.pExpr ((T.drop p).take (hi - p)) 200 0 s00 with | some (x0, s) => some (ansE x0 s, behP p s, behE p s) | none => none)
  else some (E.none, p, er)
theorem xrF_ok {T : List Words.T} {p hi : Nat} {er : SE} {x : E} {p' : Nat} {er' : SE} (h : xrF T p hi er = some (x, p', er')) : XR T p hi er x p' er' := by
  unfold xrF at h
  split at h
  · rename_i a
    split at h
    · rename_i x0 s hp
      injection h with h
      injection h with a1 h
      injection h with a2 a3
      exact .inr ⟨a, x0, s, ⟨200, hp⟩, a1.symm, a2.symm, a3.symm⟩
    · cases h
  · rename_i a
    injection h with h
    injection h with a1 h
    injection h with a2 a3
    exact .inl ⟨a, a1.symm, a2.symm, a3.symm⟩
def trF (T : List Words.T) (p : Nat) (er : SE) : Option (E × Nat × SE) := if isKind T p er 1 = true then xrF T p (tEnd T p) .ok else some (E.none, p, failE er p 2)
theorem trF_ok {T : List Words.T} {p : Nat} {er : SE} {x : E} {p' : Nat} {er' : SE} (h : trF T p er = some (x, p', er')) : TR T p er x p' er' := by
  unfold trF at h
  split at h
  · rename_i a; exact .inr ⟨a, xrF_ok h⟩
  · rename_i a
    injection h with h
    injection h with a1 h
    injection h with a2 a3
    exact .inl ⟨by cases hk : isKind T p er 1 <;> simp_all, a1.symm, a2.symm, a3.symm⟩
def setF (T : List Words.T) (p : Nat) (er : SE) : Option (PS × Nat × SE) := match trF T p er with
  | some (x, p1, e1) => (match xrF T (nextP (isNext T p1 e1 [61]) p1) T.length (mustE (isNext T p1 e1 [61]) e1 p1) with
    | some (y, p2, e2) => some (.set x y, p2, e2)
    | none => none)
  | none => none
def doF (T : List Words.T) (p : Nat) (er : SE) : Option (PS × Nat × SE) :=
  let p1 := nextP (isKind T p er 1) p
  let e1 := mustE (isKind T p er 1) er p
  match xrF T (nextP (isNext T p1 e1 [61]) p1) T.length (mustE (isNext T p1 e1 [61]) e1 p1) with
  | some (x, p2, e2) => (match xrF T (nextP (isNext T p2 e2 [44]) p2) T.length (mustE (isNext T p2 e2 [44]) e2 p2) with
    | some (y, p4, e4) => some (.loop (nameAt T p (isKind T p er 1)) x y (stepR T p4 e4).1, (stepR T p4 e4).2.1, (stepR T p4 e4).2.2)
    | none => none)
  | none => none
/-- a comparison, where nothing is wrong -/
def condF (T : List Words.T) : Option (List UInt8 × E × E × St) := match Ex.pExpr T 200 0 s00 with
  | some (x, s1) => if s1.err = 0 ∧ relAt T s1.pos = true then (match Ex.pExpr T 200 0 s1.next with
    | some (y, s3) => if s3.err = 0 then (match T[s1.pos]? with | some t => some (t.text, x, y, s3) | none => none) else none
    | none => none) else none
  | none => none
theorem condF_ok {T : List Words.T} {c : List UInt8} {x y : E} {s : St} (h : condF T = some (c, x, y, s)) : RCond T c x y s := by
  unfold condF at h
  split at h
  · rename_i x1 s1 h1
    split at h
    · rename_i ha
      split at h
      · rename_i y1 s3 h3
        split at h
        · rename_i hb
          split at h
          · rename_i t ht
            injection h with h
            injection h with a1 h
            injection h with a2 h
            injection h with a3 a4
            obtain ⟨hl, ht⟩ := List.getElem?_eq_some_iff.1 ht
            exact ⟨x1, s1, ⟨200, h1⟩, .inr (.inr ⟨ha.1, ha.2, y1, s3, ⟨200, h3⟩, .inr ⟨hb, a4.symm, ⟨hl, by rw [ht, a1]⟩, a2.symm, a3.symm⟩⟩)⟩
          · cases h
        · cases h
      · cases h
    · cases h
  · cases h
def ifF (T : List Words.T) (p : Nat) (er : SE) : Option (PS × Nat × SE) :=
  let pa := nextP (isNext T p er [40]) p
  let ea := mustE (isNext T p er [40]) er p
  if ea = .ok then (match condF ((T.drop pa).take (T.length - pa)) with
    | some (c, x, y, s) =>
      let pb := nextP (isNext T (behP pa s) (behE pa s) [41]) (behP pa s)
      let eb := mustE (isNext T (behP pa s) (behE pa s) [41]) (behE pa s) (behP pa s)
      some (.cond c x y, nextP (isNext T pb eb [116, 104, 101, 110]) pb, mustE (isNext T pb eb [116, 104, 101, 110]) eb pb)
    | none => none) else none
def readF (T : List Words.T) : Option (PS × Nat × SE) := match kindR T with
  | (0, p, er) => some (.plain 0, p, er)
  | (1, p, er) => some (.decl (itemsR T (T.length + 1) [] p er).1, (itemsR T (T.length + 1) [] p er).2.1, (itemsR T (T.length + 1) [] p er).2.2)
  | (2, p, er) => setF T p er
  | (3, p, er) => doF T p er
  | (4, p, er) => some (.plain 4, p, er)
  | (5, p, er) => ifF T p er
  | (6, p, er) => some (.plain 6, p, er)
  | (7, p, er) => some (.plain 7, p, er)
  | (8, p, er) => (match trF T p er with | some (x, p', er') => some (.rd x, p', er') | none => none)
  | (9, p, er) => (match xrF T p T.length er with | some (x, p', er') => some (.pr x, p', er') | none => none)
  | _ => none
theorem readF_ok {T : List Words.T} {ps : PS} {p : Nat} {er : SE} (h : readF T = some (ps, p, er)) : ReadsAs T ps p er := by
  unfold readF at h
  split at h
  · rename_i q e hk
    injection h with h; injection h with a h; injection h with b c; subst a b c
    exact ⟨hk, .inl rfl⟩
  · rename_i q e hk
    injection h with h; injection h with a h; injection h with b c; subst a b c
    exact ⟨by rw [hk], by rw [hk]⟩
  · rename_i q e hk
    unfold setF at h
    split at h
    · rename_i x p1 e1 h1
      split at h
      · rename_i y p2 e2 h2
        injection h with h; injection h with a h; injection h with b c; subst a b c
        refine ⟨by rw [hk], ?_⟩
        rw [hk]
        exact ⟨p1, e1, _, _, trF_ok h1, rfl, rfl, xrF_ok h2⟩
      · cases h
    · cases h
  · rename_i q e hk
    unfold doF at h
    simp only at h
    split at h
    · rename_i x p2 e2 h1
      split at h
      · rename_i y p4 e4 h2
        injection h with h; injection h with a h; injection h with b c; subst a b c
        refine ⟨by rw [hk], ?_⟩
        rw [hk]
        exact ⟨rfl, _, _, _, _, p2, e2, _, _, p4, e4, rfl, rfl, rfl, rfl, xrF_ok h1, rfl, rfl, xrF_ok h2, rfl⟩
      · cases h
    · cases h
  · rename_i q e hk
    injection h with h; injection h with a h; injection h with b c; subst a b c
    exact ⟨hk, .inr (.inl rfl)⟩
  · rename_i q e hk
    unfold ifF at h
    simp only at h
    split at h
    · rename_i he
      split at h
      · rename_i c x y s h1
        injection h with h; injection h with a h; injection h with b c; subst a b c
        refine ⟨by rw [hk], ?_⟩
        rw [hk]
        exact ⟨_, _, _, _, _, _, rfl, rfl, .inr ⟨he, s, condF_ok h1, rfl, rfl⟩, rfl, rfl, rfl, rfl⟩
      · cases h
    · cases h
  · rename_i q e hk
    injection h with h; injection h with a h; injection h with b c; subst a b c
    exact ⟨hk, .inr (.inr (.inl rfl))⟩
  · rename_i q e hk
    injection h with h; injection h with a h; injection h with b c; subst a b c
    exact ⟨hk, .inr (.inr (.inr rfl))⟩
  · rename_i q e hk
    split at h
    · rename_i x p' er' h1
      injection h with h; injection h with a h; injection h with b c; subst a b c
      refine ⟨by rw [hk], ?_⟩
      rw [hk]
      exact trF_ok h1
    · cases h
  · rename_i q e hk
    split at h
    · rename_i x p' er' h1
      injection h with h; injection h with a h; injection h with b c; subst a b c
      refine ⟨by rw [hk], ?_⟩
      rw [hk]
      exact xrF_ok h1
    · cases h
  · cases h
end Go.Proofs.YthkbchefjagbbaaGreatDoor.Line

namespace Go.Proofs.YthkbchefjagbbaaGreatDoor.Line
open Go.ChangeShapes Go.WideShapes Go.ChangeAt Go.RowKit
open Ex (E St)
set_option linter.unusedVariables false

/-- the words of a line -/
abbrev wordsOf (s : List UInt8) : List Words.T := (Words.toks (Plain.bodyOf s)).1
/-- what is known of a line: its words are right, it is read as ps, up to p, with er -/
structure Lined (s : List UInt8) (ps : PS) (p : Nat) (er : SE) : Prop where
  len : s.length ≤ 65536
  body : (Plain.bodyOf s).length ≤ 65536
  toks : Words.toks (Plain.bodyOf s) = (wordsOf s, 0, 0)
  nums : NumOk (wordsOf s)
  many : (wordsOf s).length ≤ 100000
  reads : ReadsAs (wordsOf s) ps p er
theorem parse_good {s : List UInt8} {ps : PS} {p : Nat} (h : Lined s ps p .ok) (hp : (wordsOf s).length ≤ p) (w : World) (hG : Glob w) (hw0 : 0 < w.heap.size) :
    Calls Tryz.prog 24 #[.string ⟨s.toArray⟩] w fun e w' => ∃ B cs, w.heap.size < B ∧ Holds B w' cs ps ∧ Below w.heap.size w w' ∧ e = .returned (.tuple #[.agg cs, .nilIface]) := by
  refine (parse_all s (wordsOf s) w h.len h.toks h.many h.nums h.body hG hw0).mono ?_
  rintro e w' ⟨B, cs, p', er', ps', hB, hr, hh, hb, he⟩
  obtain ⟨rfl, rfl, rfl⟩ := hr.det h.reads
  have hE : endE (wordsOf s) p' .ok = .ok := if_neg (by omega)
  rcases he with ⟨_, rfl⟩ | ⟨hn, _⟩
  · exact ⟨B, cs, hB, hh, hb, rfl⟩
  · exact absurd hE hn
theorem parse_fail {s : List UInt8} {ps : PS} {p : Nat} {er : SE} (h : Lined s ps p er) (e0 : SE) (he0 : endE (wordsOf s) p er = e0) (hne : e0 ≠ .ok) (w : World) (hG : Glob w) (hw0 : 0 < w.heap.size) :
    Calls Tryz.prog 24 #[.string ⟨s.toArray⟩] w fun e w' => ∃ g, Se (w.heap.size + 1) w' g e0 ∧ Below w.heap.size w w' ∧ e = .returned (.tuple #[.agg (stZ 0), g]) := by
  subst he0
  refine (parse_all s (wordsOf s) w h.len h.toks h.many h.nums h.body hG hw0).mono ?_
  rintro e w' ⟨B, cs, p', er', ps', hB, hr, hh, hb, he⟩
  obtain ⟨rfl, rfl, rfl⟩ := hr.det h.reads
  rcases he with ⟨hk, _⟩ | ⟨_, g, rfl, hs⟩
  · exact absurd hk hne
  · exact ⟨g, hs, hb, rfl⟩

/-- cells of a statement that is held -/
theorem Holds.size {B : Nat} {cs : Array Value} {ps : PS} {w : World} (h : Holds B w cs ps) : cs.size = 29 ∧ cs.all (·.oneCell') = true := by
  cases ps with
  | plain k => subst h; exact ⟨rfl, stZ_one _⟩
  | decl m => obtain ⟨v, M, rfl, ⟨a, n, c, rfl⟩, hi, hm⟩ := h; exact ⟨rfl, by kernel_rfl⟩
  | set x y => obtain ⟨a, n, c, a', n', c', rfl, hx, hy⟩ := h; exact ⟨rfl, by kernel_rfl⟩
  | loop nm x y st => obtain ⟨a, n, c, a', n', c', rfl, hx, hy⟩ := h; exact ⟨rfl, by kernel_rfl⟩
  | cond o x y => obtain ⟨a, n, c, a', n', c', rfl, hx, hy⟩ := h; exact ⟨rfl, by kernel_rfl⟩
  | rd x => obtain ⟨a, n, c, rfl, hx⟩ := h; exact ⟨rfl, by kernel_rfl⟩
  | pr x => obtain ⟨a, n, c, rfl, hx⟩ := h; exact ⟨rfl, by kernel_rfl⟩
def kindN : PS → Nat
  | .plain k => k
  | .decl _ => 1
  | .set _ _ => 2
  | .loop _ _ _ _ => 3
  | .cond _ _ _ => 5
  | .rd _ => 8
  | .pr _ => 9
theorem Holds.kind {B : Nat} {cs : Array Value} {ps : PS} {w : World} (h : Holds B w cs ps) : cs[0]? = some (.int .i64 (kindN ps)) := by
  cases ps with
  | plain k => subst h; rfl
  | decl m => obtain ⟨v, M, rfl, ⟨a, n, c, rfl⟩, hi, hm⟩ := h; rfl
  | set x y => obtain ⟨a, n, c, a', n', c', rfl, hx, hy⟩ := h; rfl
  | loop nm x y st => obtain ⟨a, n, c, a', n', c', rfl, hx, hy⟩ := h; rfl
  | cond o x y => obtain ⟨a, n, c, a', n', c', rfl, hx, hy⟩ := h; rfl
  | rd x => obtain ⟨a, n, c, rfl, hx⟩ := h; rfl
  | pr x => obtain ⟨a, n, c, rfl, hx⟩ := h; rfl
theorem Holds.step {B : Nat} {cs : Array Value} {nm : List UInt8} {x y : E} {st : Int} {w : World} (h : Holds B w cs (.loop nm x y st)) : cs[28]? = some (.int .i64 st) := by
  obtain ⟨a, n, c, a', n', c', rfl, hx, hy⟩ := h; rfl
/-- what a line is read as, where nothing is wrong with it -/
def LineIs (s : List UInt8) (ps : PS) : Prop := ∃ p, Lined s ps p .ok ∧ (wordsOf s).length ≤ p
theorem LineIs.det {s : List UInt8} {ps ps' : PS} (h : LineIs s ps) (h' : LineIs s ps') : ps = ps' := by
  obtain ⟨p, h1, _⟩ := h
  obtain ⟨p', h2, _⟩ := h'
  exact (h1.reads.det h2.reads).1
/-- what is wrong with a line whose words are right -/
def Wrong (s : List UInt8) (e : SE) : Prop := ∃ ps p er, Lined s ps p er ∧ endE (wordsOf s) p er = e ∧ e ≠ .ok
end Go.Proofs.YthkbchefjagbbaaGreatDoor.Line

namespace Go.Proofs.YthkbchefjagbbaaGreatDoor.Line
open Ex (E St)
set_option linter.unusedVariables false

/-- are trees the same, by reckoning -/
def eqE : Nat → E → E → Bool
  | 0, _, _ => false
  | f + 1, .mk k n s a, .mk k' n' s' a' => decide (k = k') && decide (n = n') && decide (s = s') && decide (a.length = a'.length) && (a.zip a').all (fun p => eqE f p.1 p.2)
theorem eqE_ok : ∀ (f : Nat) (x y : E), eqE f x y = true → x = y := by
  intro f
  induction f with
  | zero => intro x y h; simp [eqE] at h
  | succ f ih =>
    intro x y h
    obtain ⟨k, n, s, a⟩ := x
    obtain ⟨k', n', s', a'⟩ := y
    simp only [eqE, Bool.and_eq_true, decide_eq_true_eq, List.all_eq_true] at h
    obtain ⟨⟨⟨⟨rfl, rfl⟩, rfl⟩, hl⟩, hz⟩ := h
    have ha : a = a' := List.ext_getElem hl fun i h1 h2 => ih _ _ (hz (a[i], a'[i]) (by
      rw [← List.getElem_zip (h := by rw [List.length_zip]; omega)]
      exact List.getElem_mem _))
    rw [ha]
def eqPS : PS → PS → Bool
  | .plain k, .plain k' => decide (k = k')
  | .decl m, .decl m' => decide (m = m')
  | .set x y, .set x' y' => eqE 9 x x' && eqE 9 y y'
  | .loop nm x y st, .loop nm' x' y' st' => decide (nm = nm') && eqE 9 x x' && eqE 9 y y' && decide (st = st')
  | .cond c x y, .cond c' x' y' => decide (c = c') && eqE 9 x x' && eqE 9 y y'
  | .rd x, .rd x' => eqE 9 x x'
  | .pr x, .pr x' => eqE 9 x x'
  | _, _ => false
theorem eqPS_ok (a b : PS) (h : eqPS a b = true) : a = b := by
  cases a <;> cases b <;> simp only [eqPS, Bool.and_eq_true, decide_eq_true_eq, Bool.false_eq_true] at h
  case plain.plain => rw [h]
  case decl.decl => rw [h]
  case set.set => rw [eqE_ok _ _ _ h.1, eqE_ok _ _ _ h.2]
  case loop.loop => rw [h.1.1.1, eqE_ok _ _ _ h.1.1.2, eqE_ok _ _ _ h.1.2, h.2]
  case cond.cond => rw [h.1.1, eqE_ok _ _ _ h.1.2, eqE_ok _ _ _ h.2]
  case rd.rd => rw [eqE_ok _ _ _ h]
  case pr.pr => rw [eqE_ok _ _ _ h]
/-- is a line read as ps, with nothing wrong -/
def linedB (s : List UInt8) (ps : PS) (p : Nat) : Bool :=
  decide (s.length ≤ 1000) && decide ((Plain.bodyOf s).length ≤ 1000) && decide ((Words.toks (Plain.bodyOf s)).2 = (0, 0)) && (wordsOf s).all (fun t => decide (t.n ≤ 9223372036854775807)) && decide ((wordsOf s).length ≤ 1000) && decide ((wordsOf s).length ≤ p) &&
  (match readF (wordsOf s) with | some (q, p', er) => eqPS q ps && decide (p' = p) && decide (er = .ok) | none => false)
theorem linedB_ok {s : List UInt8} {ps : PS} {p : Nat} (h : linedB s ps p = true) : Lined s ps p .ok ∧ (wordsOf s).length ≤ p := by
  unfold linedB at h
  simp only [Bool.and_eq_true, decide_eq_true_eq, List.all_eq_true] at h
  obtain ⟨⟨⟨⟨⟨⟨h1, h2⟩, h3⟩, h4⟩, h5⟩, h6⟩, h7⟩ := h
  split at h7
  · rename_i q p' er hr
    simp only [Bool.and_eq_true, decide_eq_true_eq] at h7
    obtain ⟨⟨h8, rfl⟩, rfl⟩ := h7
    have h9 := eqPS_ok _ _ h8
    subst h9
    exact ⟨⟨by omega, by omega, by show Words.toks (Plain.bodyOf s) = ((Words.toks (Plain.bodyOf s)).1, 0, 0); rw [← h3], fun t ht => h4 t ht, by omega, readF_ok hr⟩, h6⟩
  · cases h7
end Go.Proofs.YthkbchefjagbbaaGreatDoor.Line

namespace Go.Proofs.YthkbchefjagbbaaGreatDoor.Line
open Go.ChangeShapes Go.WideShapes Go.ChangeAt Go.RowKit
open Ex (E St)
set_option linter.unusedVariables false

/-- all fields of a statement -/
structure FS where
  kind : Nat
  items : List (List UInt8 × List Nat)
  tgt : E
  e : E
  op : List UInt8
  ca : E
  cb : E
  name : List UInt8
  lo : E
  hi : E
  step : Int
def FS.zero (k : Nat) : FS := ⟨k, [], E.none, E.none, [], E.none, E.none, [], E.none, E.none, 0⟩
def PS.full : PS → FS
  | .plain k => FS.zero k
  | .decl m => { FS.zero 1 with items := m }
  | .set x y => { FS.zero 2 with tgt := x, e := y }
  | .loop nm x y st => { FS.zero 3 with name := nm, lo := x, hi := y, step := st }
  | .cond o x y => { FS.zero 5 with op := o, ca := x, cb := y }
  | .rd x => { FS.zero 8 with tgt := x }
  | .pr y => { FS.zero 9 with e := y }
theorem full_kind (ps : PS) : ps.full.kind = kindN ps := by cases ps <;> rfl
/-- numbers in memory, in blocks of S -/
def NumsS (W : World) (S : Nat → Prop) (v : Value) (l : List Nat) : Prop :=
  (l = [] ∧ ∃ a c, v = .slice a 0 c) ∨ (∃ b off cap, v = .slice (some ⟨b, off, none⟩) l.length cap ∧ S b ∧ l.length ≤ cap ∧ cap ≤ maxLen ∧ 0 < l.length ∧ ∀ i (h : i < l.length), W.cell? ⟨b, off + i, none⟩ = some (.int .i64 l[i]))
theorem NumsS.shape {W : World} {S : Nat → Prop} {v : Value} {l : List Nat} (h : NumsS W S v l) : ∃ a cap, v = .slice a l.length cap := by
  rcases h with ⟨rfl, a, c, rfl⟩ | ⟨b, off, cap, rfl, _⟩
  · exact ⟨a, c, rfl⟩
  · exact ⟨_, _, rfl⟩
theorem NumsS.keep {W W' : World} {S S' : Nat → Prop} {v : Value} {l : List Nat} (h : NumsS W S v l) (hk : ∀ b, S b → b < W.heap.size → W'.heap[b]? = W.heap[b]?) (hs : ∀ b, S b → b < W.heap.size → S' b) : NumsS W' S' v l := by
  rcases h with h | ⟨b, off, cap, hv, hS, h1, h2, h3, hc⟩
  · exact .inl h
  · have hlt : b < W.heap.size := cell_lt (hc 0 h3)
    exact .inr ⟨b, off, cap, hv, hs b hS hlt, h1, h2, h3, fun i hi => (World.cell?_of_block (a := ⟨b, off + i, none⟩) (hk b hS hlt)).trans (hc i hi)⟩
/-- items in memory, in blocks of S -/
def ItemsS (W : World) (S : Nat → Prop) (v : Value) (m : List (List UInt8 × List Nat)) : Prop :=
  (m = [] ∧ ∃ a c, v = .slice a 0 c) ∨ (∃ (b off cap : Nat) (dv : Nat → Value), v = .slice (some ⟨b, off, none⟩) m.length cap ∧ S b ∧ m.length ≤ cap ∧ cap ≤ maxLen ∧ 0 < m.length ∧ (∀ i (h : i < m.length), W.cell? ⟨b, off + i * 2, none⟩ = some (.string ⟨m[i].1.toArray⟩) ∧ W.cell? ⟨b, off + i * 2 + 1, none⟩ = some (dv i)) ∧ ∀ i (h : i < m.length), NumsS W S (dv i) m[i].2)
theorem ItemsS.shape {W : World} {S : Nat → Prop} {v : Value} {m : List (List UInt8 × List Nat)} (h : ItemsS W S v m) : ∃ a cap, v = .slice a m.length cap := by
  rcases h with ⟨rfl, a, c, rfl⟩ | ⟨b, off, cap, dv, rfl, _⟩
  · exact ⟨a, c, rfl⟩
  · exact ⟨_, _, rfl⟩
theorem ItemsS.keep {W W' : World} {S S' : Nat → Prop} {v : Value} {m : List (List UInt8 × List Nat)} (h : ItemsS W S v m) (hk : ∀ b, S b → b < W.heap.size → W'.heap[b]? = W.heap[b]?) (hs : ∀ b, S b → b < W.heap.size → S' b) : ItemsS W' S' v m := by
  rcases h with h | ⟨b, off, cap, dv, hv, hS, h1, h2, h3, hc, hd⟩
  · exact .inl h
  · have hlt : b < W.heap.size := cell_lt (hc 0 h3).1
    have hb := hk b hS hlt
    exact .inr ⟨b, off, cap, dv, hv, hs b hS hlt, h1, h2, h3, fun i hi => ⟨(World.cell?_of_block (a := ⟨b, off + i * 2, none⟩) hb).trans (hc i hi).1, (World.cell?_of_block (a := ⟨b, off + i * 2 + 1, none⟩) hb).trans (hc i hi).2⟩, fun i hi => (hd i hi).keep hk hs⟩
/-- the cells of a statement -/
abbrev fsV (f : FS) (iv tv ev av bv lv hv : Value) : Array Value := #[.int .i64 f.kind, iv, .int .i64 f.tgt.kind, .int .i64 f.tgt.n, .string ⟨f.tgt.name.toArray⟩, tv, .int .i64 f.e.kind, .int .i64 f.e.n, .string ⟨f.e.name.toArray⟩, ev, .string ⟨f.op.toArray⟩, .int .i64 f.ca.kind, .int .i64 f.ca.n, .string ⟨f.ca.name.toArray⟩, av, .int .i64 f.cb.kind, .int .i64 f.cb.n, .string ⟨f.cb.name.toArray⟩, bv, .string ⟨f.name.toArray⟩, .int .i64 f.lo.kind, .int .i64 f.lo.n, .string ⟨f.lo.name.toArray⟩, lv, .int .i64 f.hi.kind, .int .i64 f.hi.n, .string ⟨f.hi.name.toArray⟩, hv, .int .i64 f.step]
structure HoldsF (S : Nat → Prop) (W : World) (cs : Array Value) (f : FS) : Prop where
  ex : ∃ iv tv ev av bv lv hv, cs = fsV f iv tv ev av bv lv hv ∧ ItemsS W S iv f.items ∧ Forest W S f.tgt.a tv ∧ Forest W S f.e.a ev ∧ Forest W S f.ca.a av ∧ Forest W S f.cb.a bv ∧ Forest W S f.lo.a lv ∧ Forest W S f.hi.a hv
theorem HoldsF.keep {S S' : Nat → Prop} {W W' : World} {cs : Array Value} {f : FS} (h : HoldsF S W cs f) (hk : ∀ b, S b → b < W.heap.size → W'.heap[b]? = W.heap[b]?) (hs : ∀ b, S b → b < W.heap.size → S' b) : HoldsF S' W' cs f := by
  obtain ⟨iv, tv, ev, av, bv, lv, hv, h0, h1, h2, h3, h4, h5, h6, h7⟩ := h.ex
  exact ⟨iv, tv, ev, av, bv, lv, hv, h0, h1.keep hk hs, h2.keep hk hs, h3.keep hk hs, h4.keep hk hs, h5.keep hk hs, h6.keep hk hs, h7.keep hk hs⟩
theorem HoldsF.size {S : Nat → Prop} {W : World} {cs : Array Value} {f : FS} (h : HoldsF S W cs f) : cs.size = 29 ∧ cs.all (·.oneCell') = true := by
  obtain ⟨iv, tv, ev, av, bv, lv, hv, rfl, h1, h2, h3, h4, h5, h6, h7⟩ := h.ex
  obtain ⟨a1, c1, rfl⟩ := h1.shape
  obtain ⟨a2, c2, rfl⟩ := h2.shape
  obtain ⟨a3, c3, rfl⟩ := h3.shape
  obtain ⟨a4, c4, rfl⟩ := h4.shape
  obtain ⟨a5, c5, rfl⟩ := h5.shape
  obtain ⟨a6, c6, rfl⟩ := h6.shape
  obtain ⟨a7, c7, rfl⟩ := h7.shape
  exact ⟨rfl, by kernel_rfl⟩
theorem HoldsF.kind {S : Nat → Prop} {W : World} {cs : Array Value} {f : FS} (h : HoldsF S W cs f) : cs[0]? = some (.int .i64 f.kind) := by
  obtain ⟨iv, tv, ev, av, bv, lv, hv, rfl, _⟩ := h.ex
  rfl
theorem nums_of {base : Nat} {W : World} {v : Value} {l : List Nat} (h : OwnN base W v l) : NumsS W (fun b => base ≤ b) v l := by
  rcases h.2 with ⟨rfl, h5⟩ | ⟨g, cap, cur, hv, hg, hh, hc, hm, hs, ht⟩
  · exact .inl ⟨List.length_eq_zero_iff.1 h5, none, 0, rfl⟩
  · by_cases h0 : l.length = 0
    · exact .inl ⟨List.length_eq_zero_iff.1 h0, some ⟨g, 0, none⟩, cap, by rw [hv, h0]⟩
    · subst hv
      refine .inr ⟨g, 0, cap, rfl, hg, hc, hm, by omega, fun i hi => ?_⟩
      rw [Nat.zero_add, World.ownsRow.cellAt h i (by omega)]
      simp [ints, hi]
theorem flatM_get : ∀ (M : List Itm) (j : Nat) (h : j < M.length), (flatM M)[j * 2]? = some (.string ⟨M[j].1.toArray⟩) ∧ (flatM M)[j * 2 + 1]? = some M[j].2.2
  | [], j, h => by simp at h
  | t :: M, 0, h => ⟨rfl, rfl⟩
  | t :: M, j + 1, h => by
    have := flatM_get M j (by simpa using h)
    have e : flatM (t :: M) = .string ⟨t.1.toArray⟩ :: t.2.2 :: flatM M := rfl
    rw [e, show (j + 1) * 2 = j * 2 + 2 by omega, show j * 2 + 2 + 1 = (j * 2 + 1) + 2 by omega]
    simpa using this
theorem items_of {base : Nat} {W : World} {v : Value} {M : List Itm} (h : ItemsAt base W v M) : ItemsS W (fun b => base ≤ b) v (plainI M) := by
  have hlen : (plainI M).length = M.length := List.length_map ..
  rcases h.own.2 with ⟨rfl, h5⟩ | ⟨g, cap, cur, hv, hg, hh, hc, hm, hs, ht⟩
  · exact .inl ⟨by rw [List.length_eq_zero_iff.1 h5]; rfl, none, 0, rfl⟩
  · by_cases h0 : M.length = 0
    · exact .inl ⟨by rw [List.length_eq_zero_iff.1 h0]; rfl, some ⟨g, 0, none⟩, cap, by rw [hv, h0]⟩
    · have hown := h.own
      subst hv
      refine .inr ⟨g, 0, cap, fun i => (M[i]?.map (·.2.2)).getD .nilIface, by rw [hlen], hg, by omega, hm, by omega, fun i hi => ?_, fun i hi => ?_⟩
      · rw [hlen] at hi
        have f0 := flatM_get M i hi
        have c0 := World.ownsRow.cellAt hown (i * 2) (by omega)
        have c1 := World.ownsRow.cellAt hown (i * 2 + 1) (by omega)
        simp only [Nat.zero_add, plainI, List.getElem_map, List.getElem?_eq_getElem hi, Option.map_some, Option.getD_some]
        exact ⟨c0.trans f0.1, c1.trans f0.2⟩
      · rw [hlen] at hi
        simp only [plainI, List.getElem_map, List.getElem?_eq_getElem hi, Option.map_some, Option.getD_some]
        exact nums_of (h.dims _ (List.getElem_mem hi))
/-- a statement that a call has made -/
theorem holds_full {B : Nat} {W : World} {cs : Array Value} {ps : PS} (h : Holds B W cs ps) : HoldsF (fun b => B < b) W cs ps.full := by
  have nilI : ∀ S, ItemsS W S (.slice none 0 0) [] := fun S => .inl ⟨rfl, none, 0, rfl⟩
  have nilF : ∀ S, Forest W S [] (.slice none 0 0) := fun S => .nil _ _
  cases ps with
  | plain k => subst h; exact ⟨_, _, _, _, _, _, _, rfl, nilI _, nilF _, nilF _, nilF _, nilF _, nilF _, nilF _⟩
  | decl m =>
    obtain ⟨v, M, rfl, ⟨a, n, c, rfl⟩, hi, rfl⟩ := h
    exact ⟨_, _, _, _, _, _, _, rfl, (items_of hi).keep (fun _ _ _ => rfl) (fun b h _ => h), nilF _, nilF _, nilF _, nilF _, nilF _, nilF _⟩
  | set x y => obtain ⟨a, n, c, a', n', c', rfl, hx, hy⟩ := h; exact ⟨_, _, _, _, _, _, _, rfl, nilI _, hx, hy, nilF _, nilF _, nilF _, nilF _⟩
  | loop nm x y st => obtain ⟨a, n, c, a', n', c', rfl, hx, hy⟩ := h; exact ⟨_, _, _, _, _, _, _, rfl, nilI _, nilF _, nilF _, nilF _, nilF _, hx, hy⟩
  | cond o x y => obtain ⟨a, n, c, a', n', c', rfl, hx, hy⟩ := h; exact ⟨_, _, _, _, _, _, _, rfl, nilI _, nilF _, nilF _, hx, hy, nilF _, nilF _⟩
  | rd x => obtain ⟨a, n, c, rfl, hx⟩ := h; exact ⟨_, _, _, _, _, _, _, rfl, nilI _, hx, nilF _, nilF _, nilF _, nilF _, nilF _⟩
  | pr x => obtain ⟨a, n, c, rfl, hx⟩ := h; exact ⟨_, _, _, _, _, _, _, rfl, nilI _, nilF _, hx, nilF _, nilF _, nilF _, nilF _⟩
end Go.Proofs.YthkbchefjagbbaaGreatDoor.Line

namespace Go.Proofs.YthkbchefjagbbaaGreatDoor.Words
theorem step_num {s : List UInt8} {kd n k : Nat} (h : step s = .tok kd n k) : n ≤ big := by
  unfold step at h
  split at h
  · cases h
  · split at h
    · split at h
      · cases h
      · injection h with _ h _; omega
    · split at h
      · split at h
        · cases h
        · rename_i hb
          split at h
          · cases h
          · injection h with _ h _; omega
      · split at h
        · cases h
        · injection h with _ h _; omega
theorem scanAt_nums (s : List UInt8) : ∀ i, ∀ t ∈ (scanAt s i).1, t.n ≤ big := by
  refine scanAt_ind s _ (fun i h => ?_) (fun i h hs ih => ?_) (fun i e o h hs => ?_) (fun i kd n k h hs ih => ?_)
  · rw [scanAt_end s i h]; intro t ht; cases ht
  · rw [scanAt_blank h hs]; exact ih
  · rw [scanAt_bad h hs]; intro t ht; cases ht
  · rw [scanAt_tok h hs]
    unfold also
    split
    · intro t ht
      rcases List.mem_cons.1 ht with rfl | h2
      · exact step_num hs
      · exact ih t h2
    · intro t ht; cases ht
theorem scanAt_many (s : List UInt8) : ∀ i, (scanAt s i).1.length ≤ s.length - i := by
  refine scanAt_ind s _ (fun i h => ?_) (fun i h hs ih => ?_) (fun i e o h hs => ?_) (fun i kd n k h hs ih => ?_)
  · rw [scanAt_end s i h]; exact Nat.zero_le _
  · rw [scanAt_blank h hs]; omega
  · rw [scanAt_bad h hs]; exact Nat.zero_le _
  · rw [scanAt_tok h hs]
    have hk := step_len hs
    rw [List.length_drop] at hk
    unfold also
    split
    · rw [List.length_append, List.length_singleton]; omega
    · exact Nat.zero_le _
end Go.Proofs.YthkbchefjagbbaaGreatDoor.Words
namespace Go.Proofs.YthkbchefjagbbaaGreatDoor.Line
open Go.ChangeShapes Go.WideShapes Go.ChangeAt Go.RowKit
open Ex (E St)
set_option linter.unusedVariables false

theorem body_len (s : List UInt8) : (Plain.bodyOf s).length ≤ s.length := by
  have h := congrArg List.length (Plain.parts_join s)
  rw [List.length_append, List.length_append] at h
  omega
theorem nums_ok (s : List UInt8) : NumOk (Words.toks s).1 := fun t ht => Words.scanAt_nums s 0 t ht
theorem words_many (s : List UInt8) : (Words.toks s).1.length ≤ s.length := Words.scanAt_many s 0
/-- a line whose words are right is read as something -/
theorem lined_of {s : List UInt8} (hs : s.length ≤ 65536) (h0 : (Words.toks (Plain.bodyOf s)).2.1 = 0) {ps : PS} {p : Nat} {er : SE} (hr : ReadsAs (wordsOf s) ps p er) : Lined s ps p er := by
  have hb := body_len s
  have hm := words_many (Plain.bodyOf s)
  exact ⟨hs, by omega, Prod.ext rfl (Prod.ext h0 ((Words.scanAt_form (Plain.bodyOf s) 0).1 h0)), nums_ok _, by show (Words.toks _).1.length ≤ _; omega, hr⟩
/-- what is wrong with a line: its words are right, or not -/
inductive LE
  | se (e : SE)
  | word (k err : Nat)
def Bad1 (s : List UInt8) : LE → Prop
  | .se e => Wrong s e
  | .word k err => ∃ er, er ≠ 0 ∧ err ≠ 0 ∧ Words.toks (Plain.bodyOf s) = ([], er, k) ∧ Words.Near er err
/-- such an error in memory, in blocks from B on -/
def LeAt (B : Nat) (w : World) (g : Value) : LE → Prop
  | .se e => e ≠ .ok ∧ Se B w g e
  | .word k err => err ≠ 0 ∧ ∃ b g2, B ≤ b ∧ g = .iface FPT (.pointer (some ⟨b, 0, none⟩)) ∧ (w.cell? ⟨b, 0, none⟩ = some (.string ⟨wStmt.toArray⟩) ∧ w.cell? ⟨b, 1, none⟩ = some (.int .i64 0) ∧ w.cell? ⟨b, 2, none⟩ = some g2) ∧ Says B w g2 wWord k err
theorem LeAt.shape {B : Nat} {w : World} {g : Value} {e : LE} (h : LeAt B w g e) : ∃ b, g = .iface FPT (.pointer (some ⟨b, 0, none⟩)) := by
  cases e with
  | se e =>
    rcases h.2.shape with ⟨h1, _⟩ | ⟨_, h1⟩
    · exact absurd h1 h.1
    · exact h1
  | word k err => obtain ⟨_, b, g2, _, h1, _⟩ := h; exact ⟨b, h1⟩
theorem LeAt.keep {B : Nat} {w w' : World} {g : Value} {e : LE} (h : LeAt B w g e) (hk : ∀ b, B ≤ b → b < w.heap.size → w'.heap[b]? = w.heap[b]?) : LeAt B w' g e := by
  cases e with
  | se e => exact ⟨h.1, h.2.keep hk⟩
  | word k err =>
    obtain ⟨h0, b, g2, hB, hg, ⟨h1, h2, h3⟩, hs⟩ := h
    have hc : ∀ o, w'.cell? ⟨b, o, none⟩ = w.cell? ⟨b, o, none⟩ := fun o => World.cell?_of_block (a := ⟨b, o, none⟩) (hk b hB (cell_lt h1))
    refine ⟨h0, b, g2, hB, hg, ⟨(hc 0).trans h1, (hc 1).trans h2, (hc 2).trans h3⟩, ?_⟩
    rcases hs with hs | ⟨k0, q, k1, k2, k3, k4, k5⟩
    · exact .inl hs
    · have hq : ∀ o, w'.cell? ⟨q, o, none⟩ = w.cell? ⟨q, o, none⟩ := fun o => World.cell?_of_block (a := ⟨q, o, none⟩) (hk q k1 (cell_lt k3))
      exact .inr ⟨k0, q, k1, k2, (hq 0).trans k3, (hq 1).trans k4, (hq 2).trans k5⟩
theorem LeAt.mono {B B' : Nat} {w : World} {g : Value} {e : LE} (h : LeAt B w g e) (hB : B' ≤ B) : LeAt B' w g e := by
  cases e with
  | se e => exact ⟨h.1, seMono h.2 hB⟩
  | word k err =>
    obtain ⟨h0, b, g2, hb, hg, hc, hs⟩ := h
    refine ⟨h0, b, g2, Nat.le_trans hB hb, hg, hc, ?_⟩
    rcases hs with hs | ⟨k0, q, k1, k2⟩
    · exact .inl hs
    · exact .inr ⟨k0, q, Nat.le_trans hB k1, k2⟩
theorem near_ne {e e' : Nat} (h : Words.Near e e') (h0 : e ≠ 0) : e' ≠ 0 := by
  unfold Words.Near at h
  omega
theorem parse_line (s : List UInt8) (hs : s.length ≤ 65536) (w : World) (hG : Glob w) (hw0 : 0 < w.heap.size) :
    Calls Tryz.prog 24 #[.string ⟨s.toArray⟩] w fun e w' => Below w.heap.size w w' ∧ ((∃ B cs ps, w.heap.size < B ∧ LineIs s ps ∧ Holds B w' cs ps ∧ e = .returned (.tuple #[.agg cs, .nilIface])) ∨ (∃ g le, Bad1 s le ∧ LeAt (w.heap.size + 1) w' g le ∧ e = .returned (.tuple #[.agg (stZ 0), g]))) := by
  have hb := body_len s
  have hm := words_many (Plain.bodyOf s)
  by_cases h0 : (Words.toks (Plain.bodyOf s)).2.1 = 0
  · have ht : Words.toks (Plain.bodyOf s) = (wordsOf s, 0, 0) := Prod.ext rfl (Prod.ext h0 ((Words.scanAt_form (Plain.bodyOf s) 0).1 h0))
    refine (parse_all s (wordsOf s) w hs ht (by show (Words.toks _).1.length ≤ _; omega) (nums_ok _) (by omega) hG hw0).mono ?_
    rintro e w' ⟨B, cs, p, er, ps, hB, hr, hh, hbl, he⟩
    refine ⟨hbl, ?_⟩
    rcases he with ⟨hk, rfl⟩ | ⟨hn, g, rfl, hg⟩
    · refine .inl ⟨B, cs, ps, hB, ⟨p, lined_of hs h0 ?_, ?_⟩, hh, rfl⟩
      · unfold endE at hk
        split at hk
        · unfold failE at hk
          split at hk
          · cases hk
          · rename_i h1; exact absurd hk h1
        · subst hk; exact hr
      · unfold endE at hk
        split at hk
        · unfold failE at hk
          split at hk
          · cases hk
          · rename_i h1; exact absurd hk h1
        · omega
    · exact .inr ⟨g, .se (endE (wordsOf s) p er), ⟨ps, p, er, lined_of hs h0 hr, rfl, hn⟩, ⟨hn, hg⟩, rfl⟩
  · have hT : Words.toks (Plain.bodyOf s) = ([], (Words.toks (Plain.bodyOf s)).2.1, (Words.toks (Plain.bodyOf s)).2.2) := Prod.ext ((Words.scanAt_form (Plain.bodyOf s) 0).2 h0) rfl
    refine (parse_tok s [] _ _ w hs hT h0 (by omega) hG hw0).mono ?_
    rintro e w' ⟨b, g, err, hn, hbb, rfl, c0, c1, c2, hsay, hbl⟩
    have hne := near_ne hn h0
    refine ⟨hbl, .inr ⟨_, .word (Words.toks (Plain.bodyOf s)).2.2 err, ⟨_, h0, hne, hT, hn⟩, ⟨hne, b, g, hbb, rfl, ⟨c0, c1, c2⟩, hsay⟩, rfl⟩⟩
end Go.Proofs.YthkbchefjagbbaaGreatDoor.Line

namespace Go.Proofs.YthkbchefjagbbaaGreatDoor.Line
open Ex (E St)
set_option linter.unusedVariables false

/-- a node, as plain data -/
inductive PN
  | mk (line en : Nat) (ps : PS) (body els : List PN) (mid : Int)
namespace PN
def line : PN → Nat | mk a _ _ _ _ _ => a
def en : PN → Nat | mk _ a _ _ _ _ => a
def ps : PN → PS | mk _ _ a _ _ _ => a
def body : PN → List PN | mk _ _ _ a _ _ => a
def els : PN → List PN | mk _ _ _ _ a _ => a
def mid : PN → Int | mk _ _ _ _ _ a => a
theorem eta (n : PN) : PN.mk n.line n.en n.ps n.body n.els n.mid = n := by cases n; rfl
def leaf (i : Nat) (ps : PS) : PN := .mk i i ps [] [] (-1)
/-- another one put into an open one -/
def putIn (r n : PN) : PN := if r.mid < 0 then .mk r.line r.en r.ps (r.body ++ [n]) r.els r.mid else .mk r.line r.en r.ps r.body (r.els ++ [n]) r.mid
def setMid (r : PN) (i : Nat) : PN := .mk r.line r.en r.ps r.body r.els i
def setEn (r : PN) (i : Nat) : PN := .mk r.line i r.ps r.body r.els r.mid
end PN
/-- what is done, what is open (the innermost first) -/
structure Bl where
  done : List PN
  opn : List PN
namespace Bl
def start : Bl := ⟨[], []⟩
def add (b : Bl) (n : PN) : Bl := match b.opn with
  | [] => ⟨b.done ++ [n], []⟩
  | r :: rest => ⟨b.done, r.putIn n :: rest⟩
def close (b : Bl) (k i : Nat) : Except Nat Bl := match b.opn with
  | [] => .error 12
  | r :: rest => if kindN r.ps = k then .ok (Bl.add ⟨b.done, rest⟩ (r.setEn i)) else .error 12
def middle (b : Bl) (i : Nat) : Except Nat Bl := match b.opn with
  | [] => .error 12
  | r :: rest => if kindN r.ps = 5 ∧ r.mid < 0 then .ok ⟨b.done, r.setMid i :: rest⟩ else .error 12
def begin (b : Bl) (n : PN) : Except Nat Bl := if b.opn.length = 8 then .error 4 else .ok ⟨b.done, n :: b.opn⟩
def atHead (b : Bl) : Bool := b.opn.isEmpty && (match b.done.getLast? with | none => true | some n => kindN n.ps == 1)
/-- one line more -/
def take (b : Bl) (i : Nat) (ps : PS) : Except Nat Bl :=
  if kindN ps = 0 then .ok b
  else if kindN ps = 3 ∨ kindN ps = 5 then b.begin (PN.leaf i ps)
  else if kindN ps = 6 then b.middle i
  else if kindN ps = 4 then b.close 3 i
  else if kindN ps = 7 then b.close 5 i
  else if kindN ps = 1 ∧ b.atHead = false then .error 2
  else .ok (b.add (PN.leaf i ps))
end Bl
/-- lines become blocks: what is done so far, or which line is wrong, and how -/
inductive TE
  | line (e : LE)
  | own (err : Nat)
inductive Grows : List (List UInt8) → Nat → Bl → Bl → Prop
  | nil (i : Nat) (b : Bl) : Grows [] i b b
  | cons {s : List UInt8} {L : List (List UInt8)} {i : Nat} {b b1 b2 : Bl} {ps : PS} (hr : LineIs s ps) (ht : b.take i ps = .ok b1) (h : Grows L (i + 1) b1 b2) : Grows (s :: L) i b b2
/-- lines up to the first wrong one -/
inductive Fails : List (List UInt8) → Nat → Bl → Nat → TE → Prop
  | read {s : List UInt8} {L : List (List UInt8)} {i : Nat} {b : Bl} {e : LE} (hr : Bad1 s e) : Fails (s :: L) i b i (.line e)
  | own {s : List UInt8} {L : List (List UInt8)} {i : Nat} {b : Bl} {ps : PS} {e : Nat} (hr : LineIs s ps) (ht : b.take i ps = .error e) : Fails (s :: L) i b i (.own e)
  | later {s : List UInt8} {L : List (List UInt8)} {i j : Nat} {b b1 : Bl} {ps : PS} {e : TE} (hr : LineIs s ps) (ht : b.take i ps = .ok b1) (h : Fails L (i + 1) b1 j e) : Fails (s :: L) i b j e
theorem Grows.snoc {L : List (List UInt8)} {s : List UInt8} {i : Nat} {b b1 b2 : Bl} {ps : PS} (h : Grows L i b b1) (hr : LineIs s ps) (ht : b1.take (i + L.length) ps = .ok b2) : Grows (L ++ [s]) i b b2 := by
  induction h with
  | nil i b => exact .cons hr ht (.nil _ _)
  | cons hr0 ht0 h ih => exact .cons hr0 ht0 (ih (by rw [show _ + 1 + _ = _ + (_ + 1) from Nat.add_right_comm ..]; exact ht))
theorem Grows.fails {L M : List (List UInt8)} {i j : Nat} {b b1 : Bl} {e : TE} (h : Grows L i b b1) (hf : Fails M (i + L.length) b1 j e) : Fails (L ++ M) i b j e := by
  induction h with
  | nil i b => exact hf
  | cons hr0 ht0 h ih => exact .later hr0 ht0 (ih (by rw [show _ + 1 + _ = _ + (_ + 1) from Nat.add_right_comm ..]; exact hf))
theorem Grows.app {L M : List (List UInt8)} {i : Nat} {b b1 b2 : Bl} (h : Grows L i b b1) (hf : Grows M (i + L.length) b1 b2) : Grows (L ++ M) i b b2 := by
  induction h with
  | nil i b => exact hf
  | cons hr0 ht0 h ih => exact .cons hr0 ht0 (ih (by rw [show _ + 1 + _ = _ + (_ + 1) from Nat.add_right_comm ..]; exact hf))
theorem Grows.det {L : List (List UInt8)} {i : Nat} {b b1 b2 : Bl} (h : Grows L i b b1) (h' : Grows L i b b2) : b1 = b2 := by
  induction h with
  | nil i b => cases h'; rfl
  | cons hr ht h ih =>
    cases h' with
    | cons hr' ht' h' =>
      obtain rfl := hr.det hr'
      rw [ht] at ht'
      injection ht' with e
      subst e
      exact ih h'
end Go.Proofs.YthkbchefjagbbaaGreatDoor.Line
