/- What is left to be worked out, in memory; the contract of eval.ahead. -/
import Derived.Test.YtomnbidppkpfiaaDoorEvVal
import Derived.Laws.MakeOwn
namespace Go.Proofs.YtomnbidppkpfiaaDoor.Line
open Go.ChangeShapes Go.WideShapes Go.ChangeAt Go.RowKit
open Ex (E)
open Ev (Sy Res)
set_option linter.unusedVariables false

abbrev TKE : TypeId := 93
abbrev TKS : TypeId := 90
theorem infoTk : (Tryd.prog.info? TKE).map (fun i => (i.zero, i.size, i.bytes)) = some (some (.agg #[.pointer none, .bool false]), 2, 16) := by kernel_rfl
/-- a tree, where it lies, where its parts lie; are its parts known? -/
structure Ent where
  b : Nat
  o : Nat
  sx : Value
  x : E
  k : Bool
def Ent.tk (t : Ent) : Ev.Tk := (t.x, t.k)
def entC (t : Ent) : List Value := [.pointer (some ⟨t.b, t.o, none⟩), .bool t.k]
def flatQ (K : List Ent) : List Value := K.flatMap entC
theorem flatQ_length (K : List Ent) : (flatQ K).length = K.length * 2 := by
  induction K with
  | nil => rfl
  | cons t l ih => show (entC t ++ flatQ l).length = _; rw [List.length_append, ih, List.length_cons]; show 2 + l.length * 2 = _; omega
theorem flatQ_append (l m : List Ent) : flatQ (l ++ m) = flatQ l ++ flatQ m := by simp [flatQ]
theorem flatQ_rev (x : Ent) (K : List Ent) : flatQ (x :: K).reverse = flatQ K.reverse ++ entC x := by
  rw [List.reverse_cons, flatQ_append]; simp [flatQ]
theorem flatQ_rev_len (K : List Ent) : (flatQ K.reverse).length = K.length * 2 := by rw [flatQ_length, List.length_reverse]
/-- the list of what is left, a row of a call's own, the next one last -/
def Left (base : Nat) (w : World) (v : Value) (K : List Ent) : Prop := w.ownsRow base TKE 2 v K.length (flatQ K.reverse)
theorem Left.shape {base : Nat} {w : World} {v : Value} {K : List Ent} (h : Left base w v K) : ∃ a cap, v = .slice a K.length cap := by
  rcases h.2 with ⟨rfl, h5⟩ | ⟨g, cap, cur, rfl, _⟩
  · exact ⟨none, 0, by rw [h5]⟩
  · exact ⟨_, _, rfl⟩
/-- it lies there -/
structure EntOk (w : World) (t : Ent) : Prop where
  at_ : At w t.b t.o t.x t.sx
  parts : Forest w (fun _ => True) t.x.a t.sx
theorem EntOk.below {w w' : World} {t : Ent} (h : EntOk w t) (hb : Below w.heap.size w w') : EntOk w' t := ⟨h.at_.below hb, h.parts.old hb⟩
/-- nothing of the old memory has turned but the row that v had; the row is where it was, or new -/
structure Oth (w w' : World) (v v' : Value) : Prop where
  grown : w.grownBy w' v.ownBlock
  own : v'.ownBlock = v.ownBlock ∨ ∃ k, w.heap.size ≤ k ∧ v'.ownBlock = some k
theorem grown_below {w w' : World} {r : Option Nat} (h : Below w.heap.size w w') : w.grownBy w' r := ⟨h.os, h.tape, h.output, h.size, fun b hb _ => h.block b hb⟩
theorem Oth.refl (w : World) (v : Value) : Oth w w v v := ⟨grown_below (Below.refl _ _), .inl rfl⟩
theorem Oth.of {w w' : World} {v : Value} (h : Below w.heap.size w w') : Oth w w' v v := ⟨grown_below h, .inl rfl⟩
theorem Oth.trans {a b c : World} {u v x : Value} (h : Oth a b u v) (k : Oth b c v x) : Oth a c u x := by
  have hs := h.grown.size
  have ks := k.grown.size
  refine ⟨⟨k.grown.os.trans h.grown.os, k.grown.tape.trans h.grown.tape, k.grown.output.trans h.grown.output, by omega, fun i hi hne => ?_⟩, ?_⟩
  · refine (k.grown.block i (by omega) (fun e => ?_)).trans (h.grown.block i hi hne)
    rcases h.own with e2 | ⟨j, hj, e2⟩
    · exact hne (e.trans e2)
    · rw [e2] at e
      have := Option.some.inj e
      omega
  · rcases k.own with e | ⟨j, hj, e⟩
    · rcases h.own with e2 | ⟨j, hj, e2⟩
      · exact .inl (e.trans e2)
      · exact .inr ⟨j, hj, e.trans e2⟩
    · exact .inr ⟨j, by omega, e⟩
theorem Oth.below {base : Nat} {w w' : World} {v v' : Value} (h : Oth w w' v v') (hv : ∀ k, v.ownBlock = some k → base ≤ k) (hb : base ≤ w.heap.size) : Below base w w' := (Below.refl _ _).grown h.grown hb (fun j hj => hv j hj)
/-- one more is left -/
theorem append_ent {base : Nat} {w : World} {v : Value} {K : List Ent} (hs : Left base w v K) (hb : base ≤ w.heap.size) (hl : K.length + 1 ≤ 1000000) (t : Ent) (hk : t.k = false) :
    ∃ v' w', (Builtin.append_ #[TKS, TKS] TKS #[v, .slice (some ⟨w.heap.size, 0, none⟩) 1 1]).run Tryd.prog (w.alloc (.cells #[.pointer (some ⟨t.b, t.o, none⟩), .bool false] TKE)) = .ok v' w' ∧ Left base w' v' (t :: K) ∧ Oth w w' v v' := by
  obtain ⟨i0, hi, hz0, hz1, hz2⟩ := info_parts infoTk
  obtain ⟨v', w', hr, ho, hgr, _, hat⟩ := run_append_own_at (P := Tryd.prog) (w.alloc (.cells #[.pointer (some ⟨t.b, t.o, none⟩), .bool false] TKE)) base TKS TKS TKE i0 _ 2 16 Tryd.underlying90 hi hz0 hz1 hz2 rfl (by decide) v K.length (flatQ K.reverse) (World.ownsRow.alloc hs _) ⟨w.heap.size, 0, none⟩ 1 1 [.pointer (some ⟨t.b, t.o, none⟩), .bool false] rfl
    (World.news_of_block (cs := #[.pointer (some ⟨t.b, t.o, none⟩), .bool false]) (t := TKE) (fr := (0, 0)) (by show (w.heap.push _)[w.heap.size]? = _; exact Array.getElem?_push_size))
    (by intro u hu; simp only [List.mem_cons, List.not_mem_nil, or_false] at hu; rcases hu with rfl | rfl <;> rfl) (by unfold maxLen; omega) (by omega) (by simp; omega)
  refine ⟨v', w', hr, ?_, ⟨⟨hgr.os, hgr.tape, hgr.output, by have := hgr.size; simp at this; omega, fun b hb hne => (hgr.block b (by simp; omega) hne).trans ((alloc_below w _).block b hb)⟩, ?_⟩⟩
  · unfold Left
    rw [flatQ_rev, List.length_cons, entC, hk]
    exact ho
  · rcases hat with e | e
    · exact .inl e
    · exact .inr ⟨_, by simp, e⟩
/-- the trees of a row, from tree i on -/
def ents (b off : Nat) (sl : Nat → Value) : Nat → List E → List Ent
  | _, [] => []
  | i, x :: r => ⟨b, off + i * 4, sl i, x, false⟩ :: ents b off sl (i + 1) r
theorem ents_drop (b off : Nat) (sl : Nat → Value) (l : List E) (i : Nat) (h : i < l.length) : ents b off sl i (l.drop i) = ⟨b, off + i * 4, sl i, l[i], false⟩ :: ents b off sl (i + 1) (l.drop (i + 1)) := by
  rw [List.drop_eq_getElem_cons h]; rfl
theorem ents_tk (b off : Nat) (sl : Nat → Value) : ∀ (l : List E) (i : Nat), (ents b off sl i l).map Ent.tk = Ev.fresh l
  | [], i => rfl
  | x :: r, i => by
    show Ent.tk _ :: (ents b off sl (i + 1) r).map Ent.tk = (x, false) :: Ev.fresh r
    rw [ents_tk b off sl r (i + 1)]; rfl
theorem ents_len (b off : Nat) (sl : Nat → Value) : ∀ (l : List E) (i : Nat), (ents b off sl i l).length = l.length
  | [], i => rfl
  | x :: r, i => by
    show (ents b off sl (i + 1) r).length + 1 = r.length + 1
    rw [ents_len b off sl r (i + 1)]
theorem ents_ok {w : World} {b off : Nat} {sl : Nat → Value} {l : List E} (hc : ∀ i (h : i < l.length), w.cell? ⟨b, off + i * 4, none⟩ = some (.int .i64 l[i].kind) ∧ w.cell? ⟨b, off + i * 4 + 1, none⟩ = some (.int .i64 l[i].n) ∧ w.cell? ⟨b, off + i * 4 + 2, none⟩ = some (.string ⟨l[i].name.toArray⟩) ∧ w.cell? ⟨b, off + i * 4 + 3, none⟩ = some (sl i)) (hf : ∀ i (h : i < l.length), Forest w (fun _ => True) l[i].a (sl i)) : ∀ (n i : Nat), i + n = l.length → ∀ t ∈ ents b off sl i (l.drop i), EntOk w t := by
  intro n
  induction n with
  | zero =>
    intro i hi t ht
    rw [List.drop_of_length_le (by omega)] at ht
    cases ht
  | succ n ih =>
    intro i hi t ht
    rw [ents_drop b off sl l i (by omega)] at ht
    rcases List.mem_cons.1 ht with rfl | ht
    · obtain ⟨h0, h1, h2, h3⟩ := hc i (by omega)
      exact ⟨⟨h0, h1, h2, h3⟩, hf i (by omega)⟩
    · exact ih (i + 1) (by omega) t ht
set_option maxHeartbeats 8000000 in
set_option maxRecDepth 100000 in
theorem ahead_any (w w0 : World) (base : Nat) (v : Value) (K : List Ent) (lv : Value) (l : List E) (hv : Left base w v K) (hb : base ≤ w.heap.size) (hl : Forest w0 (fun _ => True) l lv) (hn : l.length ≤ 100000) (hK : K.length ≤ 100000) :
    Calls Tryd.prog 30 #[v, lv] w fun e w' => ∃ v' es, e = .returned v' ∧ Left base w' v' (es ++ K) ∧ es.map Ent.tk = Ev.fresh l ∧ (∀ t ∈ es, EntOk w0 t) ∧ Oth w w' v v' := by
  by_cases h0 : l.length = 0
  · obtain rfl : l = [] := List.length_eq_zero_iff.1 h0
    obtain ⟨va, vc, rfl⟩ := hv.shape
    obtain ⟨la, lc, rfl⟩ := hl.shape
    have HV := hide hv
    clear hv hl
    generalize hKn : K.length = kn at *
    go_enter Tryd.func30, Tryd.ntmps30
    go_wp2_with fail
    go_loopw [0, 5] (fun u i wr => u = .slice va kn vc ∧ i = .int .i64 (-1) ∧ wr = w) (fun _ _ _ => 0)
    case atStart => exact ⟨rfl, rfl, rfl⟩
    case round =>
      obtain ⟨rfl, rfl, rfl⟩ := hrel
      go_wp2
      go_ret
      exact ⟨_, [], rfl, unhide HV, rfl, (fun t ht => by cases ht), Oth.refl _ _⟩
  · obtain ⟨b, off, cap, sl, rfl, hcap, hmax, hcell, hfor⟩ := hl.at (by omega)
    have HEO := hide (ents_ok hcell hfor l.length 0 (by omega))
    obtain ⟨va, vc, rfl⟩ := hv.shape
    have HV := hide hv
    clear hv hl hcell hfor
    generalize hln : l.length = n at *
    generalize hKn : K.length = kn at *
    go_enter Tryd.func30, Tryd.ntmps30
    go_wp2_with fail
    go_loopw [0, 5] (fun u i wr => ∃ (j : Nat), i = .int .i64 ((j : Int) - 1) ∧ j ≤ n ∧ Hid (Left base wr u (ents b off sl j (l.drop j) ++ K)) ∧ Hid (Oth w wr (.slice va kn vc) u)) (fun _ i _ => (intOf i + 1).toNat)
    case atStart => exact ⟨n, rfl, Nat.le_refl _, hide (by rw [List.drop_of_length_le (by omega)]; exact unhide HV), hide (Oth.refl _ _)⟩
    case round =>
      obtain ⟨j, rfl, hj, HL, HO⟩ := hrel
      by_cases hj0 : j = 0
      · subst hj0
        obtain ⟨ua, uc, rfl⟩ := (unhide HL).shape
        generalize hmm : (ents b off sl 0 (List.drop 0 l) ++ K).length = mm at *
        go_wp2_with fail
        go_ret
        refine ⟨_, _, rfl, unhide HL, ?_, ?_, unhide HO⟩
        · rw [List.drop_zero]; exact ents_tk b off sl l 0
        · exact unhide HEO
      · obtain ⟨i, rfl⟩ : ∃ i, j = i + 1 := ⟨j - 1, by omega⟩
        have hi : i < l.length := by omega
        have hed := ents_drop b off sl l i hi
        have hbs : base ≤ wr.heap.size := by have := (unhide HO).grown.size; omega
        have hlen : (ents b off sl (i + 1) (l.drop (i + 1)) ++ K).length + 1 ≤ 1000000 := by rw [List.length_append, ents_len, List.length_drop]; omega
        obtain ⟨v9, w9, hr9, hL9, hO9⟩ := append_ent (unhide HL) hbs hlen ⟨b, off + i * 4, sl i, l[i], false⟩ rfl
        have HL9 := hide hL9
        have HO9 := hide ((unhide HO).trans hO9)
        have HED := hide hed
        have hi1 : (i : Int) < n := by omega
        have e1 : ((i + 1 : Nat) : Int) - 1 = i := by omega
        obtain ⟨ua, uc, rfl⟩ := (unhide HL).shape
        clear hL9 hO9 hed hlen
        generalize hmm : (ents b off sl (i + 1) (List.drop (i + 1) l) ++ K).length = mm at *
        dsimp only at hr9
        rw [e1]
        go_wp2_with (at_builtin; refine wpList_append_runG TKS rfl _ _ rfl rfl _ _ rfl rfl _ w9 hr9 ?_)
        go_roundw
        case rel => exact ⟨i, rfl, by omega, hide (by rw [unhide HED]; exact unhide HL9), HO9⟩
        case measure => simp [intOf]
end Go.Proofs.YtomnbidppkpfiaaDoor.Line
