/- How Text tells a tree (plain); the contracts of frame, bracketed.
   Pieces of a text in memory; the contract of appendPieces.
   What the pieces of a tree tell is what the tree tells; their weights.
   The contract of slices.Reverse over a part of a row of pieces.
   In the midst of Text: the pieces that are left, the Builder, what has been told.
   The contract of the project's Text.
   The contract of the project's CondText. -/
import Derived.Test.YtepnafnljfjeoaaGreatDoorShelfF
import Derived.Test.YtepnafnljfjeoaaGreatDoorRdMemA
import Derived.Test.YtepnafnljfjeoaaGreatDoorLineAll
import Derived.Deep.LoopGhost
import Derived.Test.YtepnafnljfjeoaaGreatDoorExRef
import Derived.Deep.RegionHeld3
namespace Go.Proofs.YtepnafnljfjeoaaGreatDoor.Line
open Go.ChangeShapes Go.WideShapes Go.ChangeAt Go.RowKit
open Ex (E St)
set_option linter.unusedVariables false

def aheadT (k n : Int) (nm : List UInt8) : List UInt8 := if k = 1 then numT n else if k = 3 then nm ++ [40] else if k = 2 then nm else if k = 4 then [45] else []
def betweenT (k : Int) : List UInt8 := if k = 3 then [44, 32] else if k = 5 then [32, 43, 32] else if k = 6 then [32, 45, 32] else if k = 7 then [32, 42, 32] else if k = 8 then [32, 47, 32] else []
def behindT (k : Int) : List UInt8 := if k = 3 then [41] else []
def brkT (k : Int) (i : Nat) (kp : Int) : Bool := if Ex.bindOf k = 0 ∨ Ex.bindOf kp = 0 then false else if i = 0 then decide (Ex.bindOf kp < Ex.bindOf k) else decide (Ex.bindOf kp ≤ Ex.bindOf k) || decide (kp = 4)
mutual
def textT : E → List UInt8
  | .mk k n nm a => aheadT k n nm ++ (textL k 0 a ++ behindT k)
def textL (k : Int) : Nat → List E → List UInt8
  | _, [] => []
  | i, y :: r => (if i = 0 then [] else betweenT k) ++ ((if brkT k i y.kind then [40] ++ textT y ++ [41] else textT y) ++ textL k (i + 1) r)
end
/-- a tree's own cells, at an address -/
structure At (w : World) (b o : Nat) (x : E) (sx : Value) : Prop where
  c0 : w.cell? ⟨b, o, none⟩ = some (.int .i64 x.kind)
  c1 : w.cell? ⟨b, o + 1, none⟩ = some (.int .i64 x.n)
  c2 : w.cell? ⟨b, o + 2, none⟩ = some (.string ⟨x.name.toArray⟩)
  c3 : w.cell? ⟨b, o + 3, none⟩ = some sx
def Okn (x : E) : Prop := -9223372036854775808 ≤ x.n ∧ x.n ≤ 9223372036854775807 ∧ x.name.length ≤ 1000000
set_option maxHeartbeats 4000000 in
set_option maxRecDepth 100000 in
theorem frame_any (w : World) (b o : Nat) (x : E) (sx : Value) (h : At w b o x sx) (hx : Okn x) (ht : Tab w) :
    Calls Tryz.prog 49 #[.pointer (some ⟨b, o, none⟩)] w fun e w' => e = .returned (.tuple #[.string ⟨(aheadT x.kind x.n x.name).toArray⟩, .string ⟨(betweenT x.kind).toArray⟩, .string ⟨(behindT x.kind).toArray⟩]) ∧ Below w.heap.size w w' := by
  obtain ⟨c0, c1, c2, c3⟩ := h
  obtain ⟨h0, h1, h2⟩ := hx
  have HN := hide (numberT_any x.n h0 h1 w ht)
  clear ht
  unfold aheadT betweenT behindT
  generalize x.kind = k at *
  generalize x.n = n at *
  generalize x.name = nm at *
  by_cases k1 : k = 1
  · subst k1
    go_enter Tryz.func49, Tryz.ntmps49
    go_wp2_with fail
    refine (unhide HN).mono ?_
    rintro e w' ⟨rfl, hb⟩
    go_wp2
    exact bodyPost_ret (v := .tuple #[.string ⟨(numT n).toArray⟩, .string ⟨#[]⟩, .string ⟨#[]⟩]) (by simp [results, Tryz.results49, go_sem]) rfl ⟨rfl, hb⟩
  by_cases k3 : k = 3
  · subst k3
    have hs : (⟨nm.toArray⟩ : ByteArray) ++ ⟨#[40]⟩ = ⟨(nm ++ [40]).toArray⟩ := cat2 nm [40]
    go_enter Tryz.func49, Tryz.ntmps49
    go_wp2
    exact bodyPost_ret (v := .tuple #[.string ⟨(nm ++ [40]).toArray⟩, .string ⟨#[44, 32]⟩, .string ⟨#[41]⟩]) (by simp [results, Tryz.results49, go_sem]) rfl ⟨rfl, Below.refl _ _⟩
  by_cases k2 : k = 2
  · subst k2
    have hs : (⟨nm.toArray⟩ : ByteArray) ++ ⟨#[]⟩ = ⟨nm.toArray⟩ := by have := cat2 nm []; rwa [List.append_nil] at this
    go_enter Tryz.func49, Tryz.ntmps49
    go_wp2
    exact bodyPost_ret (v := .tuple #[.string ⟨nm.toArray⟩, .string ⟨#[]⟩, .string ⟨#[]⟩]) (by simp [results, Tryz.results49, go_sem]) rfl ⟨rfl, Below.refl _ _⟩
  by_cases k4 : k = 4
  · subst k4
    go_enter Tryz.func49, Tryz.ntmps49
    go_wp2
    exact bodyPost_ret (v := .tuple #[.string ⟨#[45]⟩, .string ⟨#[]⟩, .string ⟨#[]⟩]) (by simp [results, Tryz.results49, go_sem]) rfl ⟨rfl, Below.refl _ _⟩
  by_cases k5 : k = 5
  · subst k5
    go_enter Tryz.func49, Tryz.ntmps49
    go_wp2
    exact bodyPost_ret (v := .tuple #[.string ⟨#[]⟩, .string ⟨#[32, 43, 32]⟩, .string ⟨#[]⟩]) (by simp [results, Tryz.results49, go_sem]) rfl ⟨rfl, Below.refl _ _⟩
  by_cases k6 : k = 6
  · subst k6
    go_enter Tryz.func49, Tryz.ntmps49
    go_wp2
    exact bodyPost_ret (v := .tuple #[.string ⟨#[]⟩, .string ⟨#[32, 45, 32]⟩, .string ⟨#[]⟩]) (by simp [results, Tryz.results49, go_sem]) rfl ⟨rfl, Below.refl _ _⟩
  by_cases k7 : k = 7
  · subst k7
    go_enter Tryz.func49, Tryz.ntmps49
    go_wp2
    exact bodyPost_ret (v := .tuple #[.string ⟨#[]⟩, .string ⟨#[32, 42, 32]⟩, .string ⟨#[]⟩]) (by simp [results, Tryz.results49, go_sem]) rfl ⟨rfl, Below.refl _ _⟩
  by_cases k8 : k = 8
  · subst k8
    go_enter Tryz.func49, Tryz.ntmps49
    go_wp2
    exact bodyPost_ret (v := .tuple #[.string ⟨#[]⟩, .string ⟨#[32, 47, 32]⟩, .string ⟨#[]⟩]) (by simp [results, Tryz.results49, go_sem]) rfl ⟨rfl, Below.refl _ _⟩
  · rw [if_neg k1, if_neg k3, if_neg k2, if_neg k4, if_neg k3, if_neg k5, if_neg k6, if_neg k7, if_neg k8, if_neg k3]
    have q1 : (k == 1) = false := beq_eq_false_iff_ne.2 k1
    have q2 : (k == 2) = false := beq_eq_false_iff_ne.2 k2
    have q3 : (k == 3) = false := beq_eq_false_iff_ne.2 k3
    have q4 : (k == 4) = false := beq_eq_false_iff_ne.2 k4
    have q5 : (k == 5) = false := beq_eq_false_iff_ne.2 k5
    have q6 : (k == 6) = false := beq_eq_false_iff_ne.2 k6
    have q7 : (k == 7) = false := beq_eq_false_iff_ne.2 k7
    have q8 : (k == 8) = false := beq_eq_false_iff_ne.2 k8
    clear k1 k2 k3 k4 k5 k6 k7 k8
    go_enter Tryz.func49, Tryz.ntmps49
    go_wp2
    exact bodyPost_ret (v := .tuple #[.string ⟨#[]⟩, .string ⟨#[]⟩, .string ⟨#[]⟩]) (by simp [results, Tryz.results49, go_sem]) rfl ⟨rfl, Below.refl _ _⟩
set_option maxHeartbeats 4000000 in
set_option maxRecDepth 100000 in
theorem brk_any (w : World) (b o pb po pc i : Nat) (x y : E) (n : Nat) (h : At w b o x (.slice (some ⟨pb, po, none⟩) n pc)) (hy : w.cell? ⟨pb, po + i * 4, none⟩ = some (.int .i64 y.kind)) (hi : i < n) (hn : n ≤ 1000000) (hc : n ≤ pc) :
    Calls Tryz.prog 50 #[.pointer (some ⟨b, o, none⟩), .int .i64 i] w fun e w' => e = .returned (.bool (brkT x.kind i y.kind)) ∧ ∃ m, w' = w.drewN m := by
  obtain ⟨c0, -, -, c3⟩ := h
  have HA : Hid (∀ m, Calls Tryz.prog 71 #[.int .i64 x.kind] (w.drewN m) fun e w' => e = .returned (.int .i64 (Ex.bindOf x.kind)) ∧ w' = w.drewN m) := hide (fun m => binds_any _ _)
  have HB : Hid (∀ m, Calls Tryz.prog 71 #[.int .i64 y.kind] (w.drewN m) fun e w' => e = .returned (.int .i64 (Ex.bindOf y.kind)) ∧ w' = w.drewN m) := hide (fun m => binds_any _ _)
  have hi2 : (i : Int) < n := by omega
  unfold brkT
  generalize hA : Ex.bindOf x.kind = A at *
  generalize hB : Ex.bindOf y.kind = B at *
  generalize x.kind = k at *
  generalize y.kind = kp at *
  clear hA hB
  by_cases a0 : A = 0
  · rw [if_pos (.inl a0)]
    subst a0
    go_enter Tryz.func50, Tryz.ntmps50
    go_wp2_with fail
    go_quiet (first | (go_at_call_of 71 k; refine Calls.quiet_of_same (unhide HA _)) | (go_at_call_of 71 kp; refine Calls.quiet_of_same (unhide HB _)))
    go_wp2
    go_ret
    exact ⟨rfl, _, rfl⟩
  · have qa : ((A : Int) == 0) = false := by rw [beq_eq_false_iff_ne]; omega
    by_cases b0 : B = 0
    · rw [if_pos (.inr b0)]
      subst b0
      clear a0
      go_enter Tryz.func50, Tryz.ntmps50
      go_wp2_with fail
      go_quiet (first | (go_at_call_of 71 k; refine Calls.quiet_of_same (unhide HA _)) | (go_at_call_of 71 kp; refine Calls.quiet_of_same (unhide HB _)))
      go_wp2
      go_ret
      exact ⟨rfl, _, rfl⟩
    · rw [if_neg (by simp [a0, b0])]
      have qb : ((B : Int) == 0) = false := by rw [beq_eq_false_iff_ne]; omega
      clear a0 b0
      by_cases i0 : i = 0
      · rw [if_pos i0]
        subst i0
        rw [Nat.zero_mul, Nat.add_zero] at hy
        go_enter Tryz.func50, Tryz.ntmps50
        go_wp2_with fail
        go_quiet (first | (go_at_call_of 71 k; refine Calls.quiet_of_same (unhide HA _)) | (go_at_call_of 71 kp; refine Calls.quiet_of_same (unhide HB _)))
        go_wp2
        go_ret
        exact ⟨rfl, _, rfl⟩
      · rw [if_neg i0]
        have qi : ((i : Int) == 0) = false := by rw [beq_eq_false_iff_ne]; omega
        clear i0
        by_cases le : B ≤ A
        · have ql : decide (B ≤ A) = true := decide_eq_true le
          rw [ql]
          go_enter Tryz.func50, Tryz.ntmps50
          go_wp2_with fail
          go_quiet (first | (go_at_call_of 71 k; refine Calls.quiet_of_same (unhide HA _)) | (go_at_call_of 71 kp; refine Calls.quiet_of_same (unhide HB _)))
          go_wp2
          go_ret
          exact ⟨rfl, _, rfl⟩
        · have ql : decide (B ≤ A) = false := decide_eq_false le
          rw [ql]
          by_cases k4 : kp = 4
          · subst k4
            go_enter Tryz.func50, Tryz.ntmps50
            go_wp2_with fail
            go_quiet (first | (go_at_call_of 71 k; refine Calls.quiet_of_same (unhide HA _)) | (go_at_call 71; refine Calls.quiet_of_same (unhide HB _)))
            go_wp2
            go_ret
            exact ⟨rfl, _, rfl⟩
          · have q4 : (kp == 4) = false := beq_eq_false_iff_ne.2 k4
            rw [decide_eq_false k4]
            clear k4
            go_enter Tryz.func50, Tryz.ntmps50
            go_wp2_with fail
            go_quiet (first | (go_at_call_of 71 k; refine Calls.quiet_of_same (unhide HA _)) | (go_at_call_of 71 kp; refine Calls.quiet_of_same (unhide HB _)))
            go_wp2
            go_ret
            exact ⟨rfl, _, rfl⟩
end Go.Proofs.YtepnafnljfjeoaaGreatDoor.Line

namespace Go.Proofs.YtepnafnljfjeoaaGreatDoor.Line
open Go.ChangeShapes Go.WideShapes Go.ChangeAt Go.RowKit
open Ex (E St)
set_option linter.unusedVariables false

/-- a text, or where a tree lies -/
abbrev Pc : Type := List UInt8 × Option Addr
abbrev PCE : TypeId := 70
abbrev PCS : TypeId := 71
theorem infoPc : (Tryz.prog.info? PCE).map (fun i => (i.zero, i.size, i.bytes)) = some (some (.agg #[.string ⟨#[]⟩, .pointer none]), 2, 24) := by kernel_rfl
def pcC (p : Pc) : List Value := [.string ⟨p.1.toArray⟩, .pointer p.2]
def flatP (l : List Pc) : List Value := l.flatMap pcC
theorem flatP_length (l : List Pc) : (flatP l).length = l.length * 2 := by
  induction l with
  | nil => rfl
  | cons t l ih => show (pcC t ++ flatP l).length = _; rw [List.length_append, ih, List.length_cons]; show 2 + l.length * 2 = _; omega
theorem flatP_append (l m : List Pc) : flatP (l ++ m) = flatP l ++ flatP m := by simp [flatP]
def OwnP (base : Nat) (w : World) (v : Value) (l : List Pc) : Prop := w.ownsRow base PCE 2 v l.length (flatP l)
theorem OwnP.below {base : Nat} {w w' : World} {v : Value} {l : List Pc} (h : OwnP base w v l) (hb : Below w.heap.size w w') : OwnP base w' v l := ownsRow_below h hb
theorem OwnP.shape {base : Nat} {w : World} {v : Value} {l : List Pc} (h : OwnP base w v l) : ∃ a cap, v = .slice a l.length cap := by
  rcases h.2 with ⟨rfl, h5⟩ | ⟨g, cap, cur, rfl, _⟩
  · exact ⟨none, 0, by rw [h5]⟩
  · exact ⟨_, _, rfl⟩
/-- nothing of the old memory has turned but the row that v had; the row is where it was, or new -/
structure Oth (w w' : World) (v v' : Value) : Prop where
  keep : ∀ b, b < w.heap.size → some b ≠ v.ownBlock → w'.heap[b]? = w.heap[b]?
  own : v'.ownBlock = v.ownBlock ∨ ∃ k, w.heap.size ≤ k ∧ v'.ownBlock = some k
  size : w.heap.size ≤ w'.heap.size
theorem Oth.of {w w' : World} {v : Value} (h : Below w.heap.size w w') : Oth w w' v v := ⟨fun b hb _ => h.block b hb, .inl rfl, h.size⟩
theorem Oth.trans {a b c : World} {u v x : Value} (h : Oth a b u v) (k : Oth b c v x) : Oth a c u x := by
  have hs := h.size
  have ks := k.size
  refine ⟨fun i hi hne => ?_, ?_, by omega⟩
  · refine (k.keep i (by omega) (fun e => ?_)).trans (h.keep i hi hne)
    rcases h.own with e2 | ⟨j, hj, e2⟩
    · exact hne (e.trans e2)
    · rw [e2] at e
      have := Option.some.inj e
      omega
  · rcases k.own with e | ⟨j, hj, e⟩
    · rcases h.own with e2 | ⟨j, hj, e2⟩
      · exact .inl (e.trans e2)
      · exact .inr ⟨j, hj, e.trans e2⟩
    · exact .inr ⟨j, by omega, e⟩
/-- pieces more -/
theorem append_pcs {base : Nat} {w : World} {v : Value} {l m : List Pc} (hs : OwnP base w v l) (hb : base ≤ w.heap.size) (hl : l.length + m.length ≤ 1000000) :
    ∃ v' w', (Builtin.append_ #[PCS, PCS] PCS #[v, .slice (some ⟨w.heap.size, 0, none⟩) m.length m.length]).run Tryz.prog (w.alloc (.cells (flatP m).toArray PCE)) = .ok v' w' ∧ OwnP base w' v' (l ++ m) ∧ Below base w w' ∧ Oth w w' v v' := by
  obtain ⟨i0, hi, hz0, hz1, hz2⟩ := info_parts infoPc
  obtain ⟨v', w', hr, ho, hgr, _, hat⟩ := run_append_own_at (P := Tryz.prog) (w.alloc (.cells (flatP m).toArray PCE)) base PCS PCS PCE i0 _ 2 24 Tryz.underlying71 hi hz0 hz1 hz2 rfl (by decide) v l.length (flatP l) (World.ownsRow.alloc hs _) ⟨w.heap.size, 0, none⟩ m.length m.length (flatP m) (flatP_length m)
    (World.news_of_block (cs := (flatP m).toArray) (t := PCE) (fr := (0, 0)) (by show (w.heap.push _)[w.heap.size]? = _; exact Array.getElem?_push_size))
    (by
      intro u hu
      unfold flatP at hu
      obtain ⟨t, -, ht⟩ := List.mem_flatMap.1 hu
      simp only [pcC, List.mem_cons, List.not_mem_nil, or_false] at ht
      rcases ht with rfl | rfl <;> rfl) (by unfold maxLen; omega) (by omega) (by simp; omega)
  refine ⟨v', w', hr, ?_, ((Below.refl _ _).alloc hb _).grown hgr (by simp; omega) (fun j hj => (World.ownsRow.lt hs j hj).1), ⟨fun b hb hne => (hgr.block b (by simp; omega) hne).trans ((alloc_below w _).block b hb), ?_, by have := hgr.size; simp at this; omega⟩⟩
  rotate_left
  · rcases hat with e | e
    · exact .inl e
    · exact .inr ⟨_, by simp, e⟩
  unfold OwnP
  rw [flatP_append, List.length_append]
  exact ho
theorem wpList_append_runC {ops : Array Oper} {rest : List Oper} {o : Oper} {a : Act} {w : World} {Q : Exit → Act → World → Prop} (hgd : o.guard = none) (s x : Operand)
    (ho : o.op = .call { callee := .builtin .append, args := #[s, x], argTypes := #[PCS, PCS] }) (hty : o.type = PCS) (sv xv : Value) (hs : a.eval s = sv) (hx : a.eval x = xv) (v' : Value) (w' : World)
    (hr : (Builtin.append_ #[PCS, PCS] PCS #[sv, xv]).run Tryz.prog w = .ok v' w') (h : wpList Tryz.prog ops Q rest (a.put o.dst v') w') : wpList Tryz.prog ops Q (o :: rest) a w := by
  refine wpList_plain hgd fun K hK => ?_
  unfold Oper.wp execOp
  simp only [ho, hty, resolve, invoke, builtin, Sem.run_bind, Sem.run_pure, Result.andThen_ok, List.map_toArray, List.map_cons, List.map_nil, hs, hx, hr]
  exact hK _ _ h
/-- the pieces of a tree's parts, from part i on -/
def pcsL (k : Int) (pb po : Nat) : Nat → List E → List Pc
  | _, [] => []
  | i, y :: r => (if i = 0 then [] else [(betweenT k, none)]) ++ ((if brkT k i y.kind then [([40], none), ([], some ⟨pb, po + i * 4, none⟩), ([41], none)] else [([], some ⟨pb, po + i * 4, none⟩)]) ++ pcsL k pb po (i + 1) r)
def pcsE (x : E) (pb po : Nat) : List Pc := (aheadT x.kind x.n x.name, none) :: (pcsL x.kind pb po 0 x.a ++ [(behindT x.kind, none)])
theorem pcsL_drop (k : Int) (pb po i : Nat) (a : List E) (h : i < a.length) : pcsL k pb po i (a.drop i) = (if i = 0 then [] else [(betweenT k, none)]) ++ ((if brkT k i a[i].kind then [([40], none), ([], some ⟨pb, po + i * 4, none⟩), ([41], none)] else [([], some ⟨pb, po + i * 4, none⟩)]) ++ pcsL k pb po (i + 1) (a.drop (i + 1))) := by
  rw [List.drop_eq_getElem_cons h]
  rfl
theorem At.below {base : Nat} {w w' : World} {b o : Nat} {x : E} {sx : Value} (h : At w b o x sx) (hb : Below base w w') (hl : b < base) : At w' b o x sx :=
  ⟨(hb.cell (p := ⟨b, o, none⟩) hl).trans h.c0, (hb.cell (p := ⟨b, o + 1, none⟩) hl).trans h.c1, (hb.cell (p := ⟨b, o + 2, none⟩) hl).trans h.c2, (hb.cell (p := ⟨b, o + 3, none⟩) hl).trans h.c3⟩
set_option maxHeartbeats 8000000 in
set_option maxRecDepth 100000 in
theorem pieces_any (w : World) (b o pb po base : Nat) (x : E) (n : Nat) (hnn : x.a.length = n) (sa : Option Addr) (sc : Nat) (v : Value) (l : List Pc) (h : At w b o x (.slice sa n sc)) (hx : Okn x) (ht : Tab w) (hk : ∀ i (hi : i < x.a.length), sa = some ⟨pb, po, none⟩ ∧ n ≤ sc ∧ w.cell? ⟨pb, po + i * 4, none⟩ = some (.int .i64 x.a[i].kind)) (hbb : b < base) (hpb : pb < base) (hB : base ≤ w.heap.size) (hv : OwnP base w v l) (hn : n ≤ 1000) (hl : l.length ≤ 100000) :
    Calls Tryz.prog 26 #[v, .pointer (some ⟨b, o, none⟩)] w fun e w' => ∃ v', e = .returned v' ∧ OwnP base w' v' (l ++ pcsE x pb po) ∧ Below base w w' ∧ Oth w w' v v' := by
  have HF := hide (frame_any w b o x _ h hx ht)
  obtain ⟨va, vc, hvs⟩ := hv.shape
  subst hvs
  have HV := hide hv
  have HH := hide (And.intro h hk)
  clear h hk hv ht hx
  generalize hA : aheadT x.kind x.n x.name = A at *
  generalize hBt : betweenT x.kind = Bt at *
  generalize hBh : behindT x.kind = Bh at *
  have HE : Hid (pcsE x pb po = (A, none) :: (pcsL x.kind pb po 0 x.a ++ [(Bh, none)])) := hide (by unfold pcsE; rw [hA, hBh])
  have HBT := hide hBt
  clear hA hBt hBh
  generalize hll : l.length = ll at *
  go_enter Tryz.func26, Tryz.ntmps26
  go_wp2_with fail
  refine (unhide HF).mono ?_
  rintro ev w1 ⟨rfl, hb1⟩
  have hv1 := (unhide HV).below hb1
  have hB1 : Below base w w1 := hb1.mono hB
  have hs1 := hb1.size
  obtain ⟨v2, w2, hr2, ho2, hb2, hq2⟩ := append_pcs (m := [(A, none)]) hv1 (by omega) (by simp; omega)
  obtain ⟨a2, c2, hv2⟩ := ho2.shape
  simp only [flatP, List.flatMap_cons, List.flatMap_nil, pcC, List.append_nil, List.length_singleton] at hr2
  have hl2 : (l ++ [(A, none)]).length = ll + 1 := by rw [List.length_append, hll]; rfl
  rw [hl2] at hv2
  subst hv2
  have HO2 := hide (And.intro ho2 (hB1.trans hb2))
  have HT2 := hide ((Oth.of hb1).trans hq2)
  have hc3 := ((unhide HH).1.below (hB1.trans hb2) hbb).c3
  have hs2 : base ≤ w2.heap.size := by have := hb2.size; omega
  clear ho2 hb2 hv1 hb1 hB1 HF hq2
  go_wp2_with (at_builtin; refine wpList_append_runC rfl _ _ rfl rfl _ _ rfl rfl _ w2 hr2 ?_)
  go_loopw [0, 26] (fun u i wr => ∃ (j : Nat) (done : List Pc), i = .int .i64 j ∧ j ≤ n ∧ done.length ≤ ll + 1 + 4 * j ∧ base ≤ wr.heap.size ∧ Hid (OwnP base wr u done ∧ Below base w wr) ∧ Hid (Oth w wr (.slice va ll vc) u) ∧ Hid (done ++ pcsL x.kind pb po j (x.a.drop j) = l ++ ((A, none) :: pcsL x.kind pb po 0 x.a))) (fun _ i _ => n - (intOf i).toNat)
  case atStart => exact ⟨0, l ++ [(A, none)], rfl, Nat.zero_le _, by rw [hl2]; omega, hs2, HO2, HT2, hide (by rw [List.drop_zero, List.append_assoc]; rfl)⟩
  case round =>
    obtain ⟨j, done, rfl, hj, hdl, hsr, HO, HTT, HEQ⟩ := hrel
    obtain ⟨ua, uc, hus⟩ := (unhide HO).1.shape
    subst hus
    generalize hdn : done.length = dn at *
    by_cases hlt : j < n
    · have hja : j < x.a.length := by omega
      have hlt2 : (j : Int) < n := by omega
      have q1 : decide (j < n) = true := decide_eq_true hlt
      obtain ⟨hsa, hsc, hky⟩ := (unhide HH).2 j hja
      subst hsa
      by_cases hj0 : j = 0
      · have q2 : decide (0 < j) = false := decide_eq_false (by omega)
        have HB3 := (unhide HO).2
        have HP3 := (unhide HO).1
        have OT3 := unhide HTT
        have hs3 := hsr
        have HDN := hdn
        have hA3 := (unhide HH).1.below HB3 hbb
        have hy3 := (HB3.cell (p := ⟨pb, po + j * 4, none⟩) hpb).trans hky
        have hal := alloc_below wr (.cells #[.string ⟨#[]⟩, .pointer (some ⟨pb, po + j * 4, none⟩)] PCE)
        have hz3 : (wr.alloc (.cells #[.string ⟨#[]⟩, .pointer (some ⟨pb, po + j * 4, none⟩)] PCE)).heap.size = wr.heap.size + 1 := by simp
        have HBR := hide (brk_any (wr.alloc (.cells #[.string ⟨#[]⟩, .pointer (some ⟨pb, po + j * 4, none⟩)] PCE)) b o pb po sc j x x.a[j] n (hA3.below hal (by omega)) ((hal.cell (p := ⟨pb, po + j * 4, none⟩) (by show pb < _; omega)).trans hy3) hlt (by omega) hsc)
        have k0 : (wr.alloc (.cells #[.string ⟨#[]⟩, .pointer (some ⟨pb, po + j * 4, none⟩)] PCE)).cell? ⟨wr.heap.size, 0, none⟩ = some (.string ⟨#[]⟩) := by simp
        have k1 : (wr.alloc (.cells #[.string ⟨#[]⟩, .pointer (some ⟨pb, po + j * 4, none⟩)] PCE)).cell? ⟨wr.heap.size, 1, none⟩ = some (.pointer (some ⟨pb, po + j * 4, none⟩)) := by simp
        have HO4 := hide (And.intro (HP3.below hal) (HB3.trans (hal.mono hs3)))
        have HT4 := hide (OT3.trans (Oth.of hal))
        have hc3 := hA3.c3
        clear hal hA3 hy3
        cases hbk : brkT x.kind j x.a[j].kind
        · rw [hbk] at HBR
          have HEN := hide (pcsL_drop x.kind pb po j x.a hja)
          rw [hbk] at HEN
          have HJ0 := hide hj0
          clear hbk HB3 HP3 OT3 hky hj0
          go_wp2_with fail
          refine (unhide HBR).mono ?_
          rintro ev w5 ⟨rfl, m5, rfl⟩
          have k0' : ((wr.alloc (.cells #[.string ⟨#[]⟩, .pointer (some ⟨pb, po + j * 4, none⟩)] PCE)).drewN m5).cell? ⟨wr.heap.size, 0, none⟩ = some (.string ⟨#[]⟩) := k0
          have k1' : ((wr.alloc (.cells #[.string ⟨#[]⟩, .pointer (some ⟨pb, po + j * 4, none⟩)] PCE)).drewN m5).cell? ⟨wr.heap.size, 1, none⟩ = some (.pointer (some ⟨pb, po + j * 4, none⟩)) := k1
          have hd5 := below_drewN (Below.refl (wr.alloc (.cells #[.string ⟨#[]⟩, .pointer (some ⟨pb, po + j * 4, none⟩)] PCE)).heap.size (wr.alloc (.cells #[.string ⟨#[]⟩, .pointer (some ⟨pb, po + j * 4, none⟩)] PCE))) m5
          have HO5 := hide (And.intro ((unhide HO4).1.below hd5) ((unhide HO4).2.trans (hd5.mono (by omega))))
          have HT5 := hide ((unhide HT4).trans (Oth.of hd5))
          have hs5 : base ≤ ((wr.alloc (.cells #[.string ⟨#[]⟩, .pointer (some ⟨pb, po + j * 4, none⟩)] PCE)).drewN m5).heap.size := by have := hd5.size; omega
          clear k0 k1 hd5 HBR HO4 HT4
          generalize (wr.alloc (.cells #[.string ⟨#[]⟩, .pointer (some ⟨pb, po + j * 4, none⟩)] PCE)).drewN m5 = w5 at *
          obtain ⟨v9, w9, hr9, ho9, hb9, hq9⟩ := append_pcs (m := [([], some ⟨pb, po + j * 4, none⟩)]) (unhide HO5).1 hs5 (by simp; omega)
          simp only [flatP, List.flatMap_cons, List.flatMap_nil, pcC, List.append_nil, List.length_cons, List.length_nil, Nat.zero_add] at hr9
          have HO9 := hide (And.intro ho9 ((unhide HO5).2.trans hb9))
          have HT9 := hide ((unhide HT5).trans hq9)
          have hl9 : (done ++ ([([], some ⟨pb, po + j * 4, none⟩)] : List Pc)).length ≤ ll + 1 + 4 * (j + 1) := by simp; omega
          have hs9 : base ≤ w9.heap.size := by have := hb9.size; omega
          have HE9 : Hid (done ++ ([([], some ⟨pb, po + j * 4, none⟩)] : List Pc) ++ pcsL x.kind pb po (j + 1) (x.a.drop (j + 1)) = l ++ ((A, none) :: pcsL x.kind pb po 0 x.a)) := hide (by rw [← unhide HEQ, unhide HEN]; simp [unhide HJ0])
          obtain ⟨a9, c9, hv9⟩ := ho9.shape
          generalize hn9 : (List.length _) = n9 at hv9
          subst hv9
          clear ho9 hb9 HO5 hn9 hq9 HT5
          go_wp2_with (at_builtin; refine wpList_append_runC rfl _ _ rfl rfl _ _ rfl rfl _ w9 hr9 ?_)
          go_roundw
          case rel => exact ⟨j + 1, _, by go_num, by omega, hl9, hs9, HO9, HT9, HE9⟩
          case measure => simp [intOf]; omega
        · rw [hbk] at HBR
          have HEN := hide (pcsL_drop x.kind pb po j x.a hja)
          rw [hbk] at HEN
          have HJ0 := hide hj0
          clear hbk HB3 HP3 OT3 hky hj0
          go_wp2_with fail
          refine (unhide HBR).mono ?_
          rintro ev w5 ⟨rfl, m5, rfl⟩
          have k0' : ((wr.alloc (.cells #[.string ⟨#[]⟩, .pointer (some ⟨pb, po + j * 4, none⟩)] PCE)).drewN m5).cell? ⟨wr.heap.size, 0, none⟩ = some (.string ⟨#[]⟩) := k0
          have k1' : ((wr.alloc (.cells #[.string ⟨#[]⟩, .pointer (some ⟨pb, po + j * 4, none⟩)] PCE)).drewN m5).cell? ⟨wr.heap.size, 1, none⟩ = some (.pointer (some ⟨pb, po + j * 4, none⟩)) := k1
          have hd5 := below_drewN (Below.refl (wr.alloc (.cells #[.string ⟨#[]⟩, .pointer (some ⟨pb, po + j * 4, none⟩)] PCE)).heap.size (wr.alloc (.cells #[.string ⟨#[]⟩, .pointer (some ⟨pb, po + j * 4, none⟩)] PCE))) m5
          have HO5 := hide (And.intro ((unhide HO4).1.below hd5) ((unhide HO4).2.trans (hd5.mono (by omega))))
          have HT5 := hide ((unhide HT4).trans (Oth.of hd5))
          have hs5 : base ≤ ((wr.alloc (.cells #[.string ⟨#[]⟩, .pointer (some ⟨pb, po + j * 4, none⟩)] PCE)).drewN m5).heap.size := by have := hd5.size; omega
          clear k0 k1 hd5 HBR HO4 HT4
          generalize (wr.alloc (.cells #[.string ⟨#[]⟩, .pointer (some ⟨pb, po + j * 4, none⟩)] PCE)).drewN m5 = w5 at *
          obtain ⟨v9, w9, hr9, ho9, hb9, hq9⟩ := append_pcs (m := [([40], none), ([], some ⟨pb, po + j * 4, none⟩), ([41], none)]) (unhide HO5).1 hs5 (by simp; omega)
          simp only [flatP, List.flatMap_cons, List.flatMap_nil, pcC, List.append_nil, List.cons_append, List.nil_append, List.length_cons, List.length_nil, Nat.zero_add, Nat.reduceAdd] at hr9
          have HO9 := hide (And.intro ho9 ((unhide HO5).2.trans hb9))
          have HT9 := hide ((unhide HT5).trans hq9)
          have hl9 : (done ++ ([([40], none), ([], some ⟨pb, po + j * 4, none⟩), ([41], none)] : List Pc)).length ≤ ll + 1 + 4 * (j + 1) := by simp; omega
          have hs9 : base ≤ w9.heap.size := by have := hb9.size; omega
          have HE9 : Hid (done ++ ([([40], none), ([], some ⟨pb, po + j * 4, none⟩), ([41], none)] : List Pc) ++ pcsL x.kind pb po (j + 1) (x.a.drop (j + 1)) = l ++ ((A, none) :: pcsL x.kind pb po 0 x.a)) := hide (by rw [← unhide HEQ, unhide HEN]; simp [unhide HJ0])
          obtain ⟨a9, c9, hv9⟩ := ho9.shape
          generalize hn9 : (List.length _) = n9 at hv9
          subst hv9
          clear ho9 hb9 HO5 hn9 hq9 HT5
          go_wp2_with (at_builtin; refine wpList_append_runC rfl _ _ rfl rfl _ _ rfl rfl _ w9 hr9 ?_)
          go_roundw
          case rel => exact ⟨j + 1, _, by go_num, by omega, hl9, hs9, HO9, HT9, HE9⟩
          case measure => simp [intOf]; omega
      · have q2 : decide (0 < j) = true := decide_eq_true (by omega)
        obtain ⟨v3, w3, hr3, ho3, hb3, hq3⟩ := append_pcs (m := [(Bt, none)]) (unhide HO).1 hsr (by simp; omega)
        simp only [flatP, List.flatMap_cons, List.flatMap_nil, pcC, List.append_nil, List.length_singleton] at hr3
        have HB3 := (unhide HO).2.trans hb3
        have HP3 := ho3
        have OT3 := (unhide HTT).trans hq3
        have hs3 : base ≤ w3.heap.size := by have := hb3.size; omega
        have HDN : (done ++ [(Bt, (none : Option Addr))]).length = dn + 1 := by rw [List.length_append, hdn]; rfl
        obtain ⟨a3, c3, hv3⟩ := ho3.shape
        rw [HDN] at hv3
        subst hv3
        clear ho3 hb3 hq3
        have hA3 := (unhide HH).1.below HB3 hbb
        have hy3 := (HB3.cell (p := ⟨pb, po + j * 4, none⟩) hpb).trans hky
        have hal := alloc_below w3 (.cells #[.string ⟨#[]⟩, .pointer (some ⟨pb, po + j * 4, none⟩)] PCE)
        have hz3 : (w3.alloc (.cells #[.string ⟨#[]⟩, .pointer (some ⟨pb, po + j * 4, none⟩)] PCE)).heap.size = w3.heap.size + 1 := by simp
        have HBR := hide (brk_any (w3.alloc (.cells #[.string ⟨#[]⟩, .pointer (some ⟨pb, po + j * 4, none⟩)] PCE)) b o pb po sc j x x.a[j] n (hA3.below hal (by omega)) ((hal.cell (p := ⟨pb, po + j * 4, none⟩) (by show pb < _; omega)).trans hy3) hlt (by omega) hsc)
        have k0 : (w3.alloc (.cells #[.string ⟨#[]⟩, .pointer (some ⟨pb, po + j * 4, none⟩)] PCE)).cell? ⟨w3.heap.size, 0, none⟩ = some (.string ⟨#[]⟩) := by simp
        have k1 : (w3.alloc (.cells #[.string ⟨#[]⟩, .pointer (some ⟨pb, po + j * 4, none⟩)] PCE)).cell? ⟨w3.heap.size, 1, none⟩ = some (.pointer (some ⟨pb, po + j * 4, none⟩)) := by simp
        have HO4 := hide (And.intro (HP3.below hal) (HB3.trans (hal.mono hs3)))
        have HT4 := hide (OT3.trans (Oth.of hal))
        have hc3 := hA3.c3
        clear hal hA3 hy3
        cases hbk : brkT x.kind j x.a[j].kind
        · rw [hbk] at HBR
          have HEN := hide (pcsL_drop x.kind pb po j x.a hja)
          rw [hbk] at HEN
          have HJ0 := hide hj0
          clear hbk HB3 HP3 OT3 hky hj0
          go_wp2_with (at_builtin; refine wpList_append_runC rfl _ _ rfl rfl _ _ rfl rfl _ w3 hr3 ?_)
          refine (unhide HBR).mono ?_
          rintro ev w5 ⟨rfl, m5, rfl⟩
          have k0' : ((w3.alloc (.cells #[.string ⟨#[]⟩, .pointer (some ⟨pb, po + j * 4, none⟩)] PCE)).drewN m5).cell? ⟨w3.heap.size, 0, none⟩ = some (.string ⟨#[]⟩) := k0
          have k1' : ((w3.alloc (.cells #[.string ⟨#[]⟩, .pointer (some ⟨pb, po + j * 4, none⟩)] PCE)).drewN m5).cell? ⟨w3.heap.size, 1, none⟩ = some (.pointer (some ⟨pb, po + j * 4, none⟩)) := k1
          have hd5 := below_drewN (Below.refl (w3.alloc (.cells #[.string ⟨#[]⟩, .pointer (some ⟨pb, po + j * 4, none⟩)] PCE)).heap.size (w3.alloc (.cells #[.string ⟨#[]⟩, .pointer (some ⟨pb, po + j * 4, none⟩)] PCE))) m5
          have HO5 := hide (And.intro ((unhide HO4).1.below hd5) ((unhide HO4).2.trans (hd5.mono (by omega))))
          have HT5 := hide ((unhide HT4).trans (Oth.of hd5))
          have hs5 : base ≤ ((w3.alloc (.cells #[.string ⟨#[]⟩, .pointer (some ⟨pb, po + j * 4, none⟩)] PCE)).drewN m5).heap.size := by have := hd5.size; omega
          clear k0 k1 hd5 HBR HO4 HT4
          generalize (w3.alloc (.cells #[.string ⟨#[]⟩, .pointer (some ⟨pb, po + j * 4, none⟩)] PCE)).drewN m5 = w5 at *
          obtain ⟨v9, w9, hr9, ho9, hb9, hq9⟩ := append_pcs (m := [([], some ⟨pb, po + j * 4, none⟩)]) (unhide HO5).1 hs5 (by simp; omega)
          simp only [flatP, List.flatMap_cons, List.flatMap_nil, pcC, List.append_nil, List.length_cons, List.length_nil, Nat.zero_add] at hr9
          have HO9 := hide (And.intro ho9 ((unhide HO5).2.trans hb9))
          have HT9 := hide ((unhide HT5).trans hq9)
          have hl9 : ((done ++ [(Bt, none)]) ++ ([([], some ⟨pb, po + j * 4, none⟩)] : List Pc)).length ≤ ll + 1 + 4 * (j + 1) := by simp; omega
          have hs9 : base ≤ w9.heap.size := by have := hb9.size; omega
          have HE9 : Hid ((done ++ [(Bt, none)]) ++ ([([], some ⟨pb, po + j * 4, none⟩)] : List Pc) ++ pcsL x.kind pb po (j + 1) (x.a.drop (j + 1)) = l ++ ((A, none) :: pcsL x.kind pb po 0 x.a)) := hide (by rw [← unhide HEQ, unhide HEN]; simp [unhide HJ0, unhide HBT])
          obtain ⟨a9, c9, hv9⟩ := ho9.shape
          generalize hn9 : (List.length _) = n9 at hv9
          subst hv9
          clear ho9 hb9 HO5 hn9 hq9 HT5
          go_wp2_with (at_builtin; refine wpList_append_runC rfl _ _ rfl rfl _ _ rfl rfl _ w9 hr9 ?_)
          go_roundw
          case rel => exact ⟨j + 1, _, by go_num, by omega, hl9, hs9, HO9, HT9, HE9⟩
          case measure => simp [intOf]; omega
        · rw [hbk] at HBR
          have HEN := hide (pcsL_drop x.kind pb po j x.a hja)
          rw [hbk] at HEN
          have HJ0 := hide hj0
          clear hbk HB3 HP3 OT3 hky hj0
          go_wp2_with (at_builtin; refine wpList_append_runC rfl _ _ rfl rfl _ _ rfl rfl _ w3 hr3 ?_)
          refine (unhide HBR).mono ?_
          rintro ev w5 ⟨rfl, m5, rfl⟩
          have k0' : ((w3.alloc (.cells #[.string ⟨#[]⟩, .pointer (some ⟨pb, po + j * 4, none⟩)] PCE)).drewN m5).cell? ⟨w3.heap.size, 0, none⟩ = some (.string ⟨#[]⟩) := k0
          have k1' : ((w3.alloc (.cells #[.string ⟨#[]⟩, .pointer (some ⟨pb, po + j * 4, none⟩)] PCE)).drewN m5).cell? ⟨w3.heap.size, 1, none⟩ = some (.pointer (some ⟨pb, po + j * 4, none⟩)) := k1
          have hd5 := below_drewN (Below.refl (w3.alloc (.cells #[.string ⟨#[]⟩, .pointer (some ⟨pb, po + j * 4, none⟩)] PCE)).heap.size (w3.alloc (.cells #[.string ⟨#[]⟩, .pointer (some ⟨pb, po + j * 4, none⟩)] PCE))) m5
          have HO5 := hide (And.intro ((unhide HO4).1.below hd5) ((unhide HO4).2.trans (hd5.mono (by omega))))
          have HT5 := hide ((unhide HT4).trans (Oth.of hd5))
          have hs5 : base ≤ ((w3.alloc (.cells #[.string ⟨#[]⟩, .pointer (some ⟨pb, po + j * 4, none⟩)] PCE)).drewN m5).heap.size := by have := hd5.size; omega
          clear k0 k1 hd5 HBR HO4 HT4
          generalize (w3.alloc (.cells #[.string ⟨#[]⟩, .pointer (some ⟨pb, po + j * 4, none⟩)] PCE)).drewN m5 = w5 at *
          obtain ⟨v9, w9, hr9, ho9, hb9, hq9⟩ := append_pcs (m := [([40], none), ([], some ⟨pb, po + j * 4, none⟩), ([41], none)]) (unhide HO5).1 hs5 (by simp; omega)
          simp only [flatP, List.flatMap_cons, List.flatMap_nil, pcC, List.append_nil, List.cons_append, List.nil_append, List.length_cons, List.length_nil, Nat.zero_add, Nat.reduceAdd] at hr9
          have HO9 := hide (And.intro ho9 ((unhide HO5).2.trans hb9))
          have HT9 := hide ((unhide HT5).trans hq9)
          have hl9 : ((done ++ [(Bt, none)]) ++ ([([40], none), ([], some ⟨pb, po + j * 4, none⟩), ([41], none)] : List Pc)).length ≤ ll + 1 + 4 * (j + 1) := by simp; omega
          have hs9 : base ≤ w9.heap.size := by have := hb9.size; omega
          have HE9 : Hid ((done ++ [(Bt, none)]) ++ ([([40], none), ([], some ⟨pb, po + j * 4, none⟩), ([41], none)] : List Pc) ++ pcsL x.kind pb po (j + 1) (x.a.drop (j + 1)) = l ++ ((A, none) :: pcsL x.kind pb po 0 x.a)) := hide (by rw [← unhide HEQ, unhide HEN]; simp [unhide HJ0, unhide HBT])
          obtain ⟨a9, c9, hv9⟩ := ho9.shape
          generalize hn9 : (List.length _) = n9 at hv9
          subst hv9
          clear ho9 hb9 HO5 hn9 hq9 HT5
          go_wp2_with (at_builtin; refine wpList_append_runC rfl _ _ rfl rfl _ _ rfl rfl _ w9 hr9 ?_)
          go_roundw
          case rel => exact ⟨j + 1, _, by go_num, by omega, hl9, hs9, HO9, HT9, HE9⟩
          case measure => simp [intOf]; omega
    · have q1 : decide (j < n) = false := decide_eq_false hlt
      obtain ⟨v9, w9, hr9, ho9, hb9, hq9⟩ := append_pcs (m := [(Bh, none)]) (unhide HO).1 hsr (by simp; omega)
      simp only [flatP, List.flatMap_cons, List.flatMap_nil, pcC, List.append_nil, List.length_singleton] at hr9
      have HO9 := hide (And.intro ho9 ((unhide HO).2.trans hb9))
      have HT9 := hide ((unhide HTT).trans hq9)
      clear ho9 hb9 hq9
      go_wp2_with (at_builtin; refine wpList_append_runC rfl _ _ rfl rfl _ _ rfl rfl _ w9 hr9 ?_)
      go_ret
      refine ⟨v9, rfl, ?_, (unhide HO9).2, unhide HT9⟩
      have h1 := unhide HEQ
      rw [List.drop_of_length_le (by omega)] at h1
      have h2 : done = l ++ ((A, none) :: pcsL x.kind pb po 0 x.a) := by rw [← h1]; simp [pcsL]
      have h3 := (unhide HO9).1
      rw [h2] at h3
      rw [unhide HE]
      simpa using h3
end Go.Proofs.YtepnafnljfjeoaaGreatDoor.Line

namespace Go.Proofs.YtepnafnljfjeoaaGreatDoor.Line
open Ex (E St)
set_option linter.unusedVariables false

mutual
def wtE : E → Nat
  | .mk _ _ _ a => 3 + wtL a
def wtL : List E → Nat
  | [] => 0
  | y :: r => wtE y + 3 + wtL r
end
/-- a tree that may be told: its numbers fit, its names and rows are short, everywhere -/
inductive OkE : E → Prop
  | mk (x : E) (h : Okn x) (hl : x.a.length ≤ 1000) (hs : ∀ y ∈ x.a, OkE y) : OkE x
theorem OkE.num {x : E} (h : OkE x) : Okn x := by cases h; assumption
theorem OkE.len {x : E} (h : OkE x) : x.a.length ≤ 1000 := by cases h; assumption
theorem OkE.part {x : E} (h : OkE x) : ∀ y ∈ x.a, OkE y := by cases h; assumption
/-- a tree at an address, all of it below block B -/
structure TreeAt (w : World) (B : Nat) (p : Addr) (x : E) : Prop where
  ex : ∃ b o sx, p = ⟨b, o, none⟩ ∧ b < B ∧ At w b o x sx ∧ Forest w (fun b => b < B) x.a sx
theorem TreeAt.below {w w' : World} {B : Nat} {p : Addr} {x : E} (h : TreeAt w B p x) (hb : ∀ b, b < B → w'.heap[b]? = w.heap[b]?) : TreeAt w' B p x := by
  obtain ⟨b, o, sx, rfl, hl, ha, hf⟩ := h.ex
  have hc : ∀ q, w'.cell? ⟨b, q, none⟩ = w.cell? ⟨b, q, none⟩ := fun q => World.cell?_of_block (a := ⟨b, q, none⟩) (hb b hl)
  exact ⟨b, o, sx, rfl, hl, ⟨(hc _).trans ha.c0, (hc _).trans ha.c1, (hc _).trans ha.c2, (hc _).trans ha.c3⟩, hf.keep (fun b hs _ => hb b hs) (fun _ h _ => h)⟩
/-- what a piece tells, and its weight -/
inductive Pm (w : World) (B : Nat) : Pc → List UInt8 → Nat → Prop
  | txt (s : List UInt8) : Pm w B (s, none) s 1
  | tree (p : Addr) (x : E) (h : TreeAt w B p x) (ho : OkE x) : Pm w B ([], some p) (textT x) (wtE x)
theorem Pm.keep {w w' : World} {B : Nat} {p : Pc} {s : List UInt8} {k : Nat} (h : Pm w B p s k) (hb : ∀ b, b < B → w'.heap[b]? = w.heap[b]?) : Pm w' B p s k := by
  cases h with
  | txt => exact .txt _
  | tree p x h ho => exact .tree p x (h.below hb) ho
theorem wtE_pos (x : E) : 1 ≤ wtE x := by cases x; simp only [wtE]; omega
/-- pieces, what they tell one behind the other, their weights' sum -/
inductive Pms (w : World) (B : Nat) : List Pc → List UInt8 → Nat → Prop
  | nil : Pms w B [] [] 0
  | cons (p : Pc) (s : List UInt8) (k : Nat) (l : List Pc) (t : List UInt8) (n : Nat) (h : Pm w B p s k) (hl : Pms w B l t n) : Pms w B (p :: l) (s ++ t) (k + n)
theorem Pms.keep {w w' : World} {B : Nat} {l : List Pc} {s : List UInt8} {k : Nat} (h : Pms w B l s k) (hb : ∀ b, b < B → w'.heap[b]? = w.heap[b]?) : Pms w' B l s k := by
  induction h with
  | nil => exact .nil
  | cons p s k l t n h hl ih => exact .cons p s k l t n (h.keep hb) ih
theorem Pms.append {w : World} {B : Nat} {l m : List Pc} {s t : List UInt8} {j k : Nat} (h : Pms w B l s j) (hm : Pms w B m t k) : Pms w B (l ++ m) (s ++ t) (j + k) := by
  induction h with
  | nil => simpa using hm
  | cons p s k l t n h hl ih =>
    have := Pms.cons p s k _ _ _ h ih
    rw [List.append_assoc, Nat.add_assoc]
    exact this
theorem Pms.len {w : World} {B : Nat} {l : List Pc} {s : List UInt8} {k : Nat} (h : Pms w B l s k) : l.length ≤ k := by
  induction h with
  | nil => exact Nat.le_refl _
  | cons p s k l t n h hl ih =>
    have : 1 ≤ k := by
      cases h with
      | txt => exact Nat.le_refl _
      | tree p x h ho => exact wtE_pos x
    rw [List.length_cons]
    omega
/-- the pieces of a tree's parts -/
theorem pms_parts {w : World} {B : Nat} {k : Int} {pb po : Nat} : ∀ (a : List E) (i : Nat), (∀ j (h : j < a.length), TreeAt w B ⟨pb, po + (i + j) * 4, none⟩ a[j] ∧ OkE a[j]) → ∃ n, Pms w B (pcsL k pb po i a) (textL k i a) n ∧ n ≤ wtL a := by
  intro a
  induction a with
  | nil => intro i _; exact ⟨0, .nil, Nat.le_refl _⟩
  | cons y r ih =>
    intro i h
    obtain ⟨n, hn, hl⟩ := ih (i + 1) (fun j hj => by
      have := h (j + 1) (by simpa using hj)
      rw [show i + (j + 1) = i + 1 + j by omega] at this
      simpa using this)
    have h0 := h 0 (by simp)
    rw [Nat.add_zero] at h0
    have hy : Pm w B ([], some ⟨pb, po + i * 4, none⟩) (textT y) (wtE y) := .tree _ y h0.1 h0.2
    have hb : ∃ m, Pms w B (if i = 0 then [] else [(betweenT k, none)]) (if i = 0 then [] else betweenT k) m ∧ m ≤ 1 := by
      by_cases hi : i = 0
      · rw [if_pos hi, if_pos hi]; exact ⟨0, .nil, by omega⟩
      · rw [if_neg hi, if_neg hi]
        have := Pms.cons (w := w) (B := B) _ _ _ _ _ _ (.txt (betweenT k)) .nil
        rw [List.append_nil] at this
        exact ⟨_, this, by omega⟩
    have hm : ∃ m, Pms w B (if brkT k i y.kind then [([40], none), ([], some ⟨pb, po + i * 4, none⟩), ([41], none)] else [([], some ⟨pb, po + i * 4, none⟩)]) (if brkT k i y.kind then [40] ++ textT y ++ [41] else textT y) m ∧ m ≤ wtE y + 2 := by
      cases brkT k i y.kind
      · have := Pms.cons _ _ _ _ _ _ hy .nil
        rw [List.append_nil] at this
        exact ⟨_, this, by omega⟩
      · have := Pms.cons (w := w) (B := B) _ _ _ _ _ _ (.txt [40]) (.cons _ _ _ _ _ _ hy (.cons _ _ _ _ _ _ (.txt [41]) .nil))
        refine ⟨1 + (wtE y + (1 + 0)), ?_, by omega⟩
        simpa using this
    obtain ⟨m1, g1, l1⟩ := hb
    obtain ⟨m2, g2, l2⟩ := hm
    refine ⟨m1 + (m2 + n), ?_, ?_⟩
    · rw [pcsL, textL]
      exact g1.append (g2.append hn)
    · rw [wtL]
      omega
theorem pms_tree {w : World} {B : Nat} {pb po : Nat} (x : E) (h : ∀ j (hj : j < x.a.length), TreeAt w B ⟨pb, po + j * 4, none⟩ x.a[j] ∧ OkE x.a[j]) : ∃ n, Pms w B (pcsE x pb po) (textT x) n ∧ n < wtE x := by
  obtain ⟨n, hn, hl⟩ := pms_parts (k := x.kind) (pb := pb) (po := po) x.a 0 (fun j hj => by rw [Nat.zero_add]; exact h j hj)
  have := Pms.cons (w := w) (B := B) _ _ _ _ _ _ (.txt (aheadT x.kind x.n x.name)) (hn.append (.cons _ _ _ _ _ _ (.txt (behindT x.kind)) .nil))
  refine ⟨1 + (n + (1 + 0)), ?_, ?_⟩
  · unfold pcsE
    cases x
    simpa [textT, E.kind, E.n, E.name, E.a] using this
  · cases x
    simp only [wtE, E.a] at hl ⊢
    omega
end Go.Proofs.YtepnafnljfjeoaaGreatDoor.Line

namespace Go.Proofs.YtepnafnljfjeoaaGreatDoor.Line
open Go.ChangeShapes Go.WideShapes Go.ChangeAt Go.RowKit
open Ex (E St)
set_option linter.unusedVariables false

theorem flatP_set (l : List Pc) : ∀ (i : Nat) (h : i < l.length) (p : Pc), flatP (l.set i p) = ((flatP l).set (i * 2) (.string ⟨p.1.toArray⟩)).set (i * 2 + 1) (.pointer p.2) := by
  induction l with
  | nil => intro i h; simp at h
  | cons t l ih =>
    intro i h p
    have e : ∀ (t : Pc) (l : List Pc), flatP (t :: l) = .string ⟨t.1.toArray⟩ :: .pointer t.2 :: flatP l := fun _ _ => rfl
    cases i with
    | zero => rw [List.set_cons_zero, e, e]; rfl
    | succ i =>
      rw [List.set_cons_succ, e, e, ih i (by simpa using h) p, show (i + 1) * 2 = i * 2 + 1 + 1 by omega]
      rfl
theorem flatP_at (l : List Pc) : ∀ (i : Nat) (h : i < l.length), (flatP l)[i * 2]? = some (.string ⟨l[i].1.toArray⟩) ∧ (flatP l)[i * 2 + 1]? = some (.pointer l[i].2) := by
  induction l with
  | nil => intro i h; simp at h
  | cons t l ih =>
    intro i h
    have e : flatP (t :: l) = .string ⟨t.1.toArray⟩ :: .pointer t.2 :: flatP l := rfl
    cases i with
    | zero => rw [e]; exact ⟨rfl, rfl⟩
    | succ i =>
      have := ih i (by simpa using h)
      rw [e, show (i + 1) * 2 = i * 2 + 1 + 1 by omega]
      simpa using this
/-- the first k and the last k have changed their places -/
def swp (M : List Pc) (k : Nat) : List Pc := (List.range M.length).map fun i => if i < k ∨ M.length - k ≤ i then M.getD (M.length - 1 - i) ([], none) else M.getD i ([], none)
theorem swp_length (M : List Pc) (k : Nat) : (swp M k).length = M.length := by simp [swp]
theorem swp_at (M : List Pc) (k i : Nat) (h : i < M.length) : (swp M k)[i]? = some (if i < k ∨ M.length - k ≤ i then M.getD (M.length - 1 - i) ([], none) else M.getD i ([], none)) := by simp [swp, h]
theorem swp_zero (M : List Pc) : swp M 0 = M := by
  apply List.ext_getElem?
  intro i
  by_cases h : i < M.length
  · rw [swp_at M 0 i h, if_neg (by omega)]
    simp [List.getD, h]
  · rw [List.getElem?_eq_none (by rw [swp_length]; omega), List.getElem?_eq_none (by omega)]
theorem swp_end (M : List Pc) (k : Nat) (h : M.length ≤ 2 * k + 1) : swp M k = M.reverse := by
  apply List.ext_getElem?
  intro i
  by_cases hi : i < M.length
  · rw [swp_at M k i hi, List.getElem?_reverse hi]
    by_cases hc : i < k ∨ M.length - k ≤ i
    · rw [if_pos hc]
      simp [List.getD, show M.length - 1 - i < M.length by omega]
    · rw [if_neg hc]
      have : M.length - 1 - i = i := by omega
      rw [this]
      simp [List.getD, hi]
  · rw [List.getElem?_eq_none (by rw [swp_length]; omega), List.getElem?_eq_none (by simp; omega)]
theorem swp_step (M : List Pc) (k : Nat) (h : 2 * k + 1 < M.length) : ((swp M k).set k (M.getD (M.length - 1 - k) ([], none))).set (M.length - 1 - k) (M.getD k ([], none)) = swp M (k + 1) := by
  apply List.ext_getElem?
  intro i
  by_cases hi : i < M.length
  · rw [List.getElem?_set, List.getElem?_set, List.length_set, swp_length, swp_at M (k + 1) i hi, swp_at M k i hi]
    by_cases e1 : M.length - 1 - k = i
    · rw [if_pos e1, if_pos (by omega), if_pos (by omega)]
      have : M.length - 1 - i = k := by omega
      rw [this]
    · rw [if_neg e1]
      by_cases e2 : k = i
      · rw [if_pos e2, if_pos (by omega), if_pos (by omega), e2]
      · rw [if_neg e2]
        by_cases hc : i < k ∨ M.length - k ≤ i
        · rw [if_pos hc, if_pos (by omega)]
        · rw [if_neg hc, if_neg (by omega)]
  · rw [List.getElem?_eq_none (by simp [swp_length]; omega), List.getElem?_eq_none (by rw [swp_length]; omega)]
theorem swp_get (M : List Pc) (k : Nat) (h : 2 * k + 1 < M.length) : (swp M k)[k]? = some (M.getD k ([], none)) ∧ (swp M k)[M.length - 1 - k]? = some (M.getD (M.length - 1 - k) ([], none)) := by
  rw [swp_at M k k (by omega), swp_at M k _ (by omega), if_neg (by omega), if_neg (by omega)]
  exact ⟨rfl, rfl⟩
theorem grown_trans {a b c : World} {r : Option Nat} (h : a.grownBy b r) (k : b.grownBy c r) : a.grownBy c r := ⟨k.os.trans h.os, k.tape.trans h.tape, k.output.trans h.output, Nat.le_trans h.size k.size, fun i hi hne => (k.block i (Nat.lt_of_lt_of_le hi h.size) hne).trans (h.block i hi hne)⟩
theorem grown_drew (w : World) (r : Option Nat) : w.grownBy w.drew r := ⟨rfl, rfl, rfl, Nat.le_refl _, fun _ _ _ => rfl⟩
/-- one piece of a row is set -/
theorem OwnP.put {base g cap : Nat} {w : World} {l : List Pc} {n : Nat} (hn : l.length = n) (h : w.ownsRow base PCE 2 (.slice (some ⟨g, 0, none⟩) n cap) n (flatP l)) (i : Nat) (hi : i < l.length) (p : Pc) : ((w.setCell ⟨g, i * 2, none⟩ (.string ⟨p.1.toArray⟩)).setCell ⟨g, i * 2 + 1, none⟩ (.pointer p.2)).ownsRow base PCE 2 (.slice (some ⟨g, 0, none⟩) n cap) n (flatP (l.set i p)) ∧ w.grownBy ((w.setCell ⟨g, i * 2, none⟩ (.string ⟨p.1.toArray⟩)).setCell ⟨g, i * 2 + 1, none⟩ (.pointer p.2)) (some g) := by
  have h1 := h.stored (i * 2) (.string ⟨p.1.toArray⟩)
  have h2 := h1.1.stored (i * 2 + 1) (.pointer p.2)
  rw [flatP_set l i hi p]
  exact ⟨h2.1, grown_trans h1.2 h2.2⟩
theorem at_worldR {F : World → Prop} {Q : Exit → Act → World → Prop} {x : Exit} {a : Act} {W : World} (h : F W) (k : ∀ W, F W → Q x a W) : Q x a W := k W h
set_option maxHeartbeats 8000000 in
set_option maxRecDepth 100000 in
theorem reverse_any (w : World) (base g cap c : Nat) (D M : List Pc) (h : OwnP base w (.slice (some ⟨g, 0, none⟩) (D ++ M).length cap) (D ++ M)) (hd : D.length ≤ 1000000) (hm : M.length ≤ 1000000) (hc : M.length ≤ c) :
    Calls Tryz.prog 27 #[.slice (some ⟨g, D.length * 2, none⟩) M.length c] w fun e w' => e = .returned (.tuple #[]) ∧ OwnP base w' (.slice (some ⟨g, 0, none⟩) (D ++ M).length cap) (D ++ M.reverse) ∧ w.grownBy w' (some g) := by
  have hlen : ∀ k, (D ++ swp M k).length = (D ++ M).length := fun k => by rw [List.length_append, List.length_append, swp_length]
  have HO : Hid (w.ownsRow base PCE 2 (.slice (some ⟨g, 0, none⟩) (D ++ M).length cap) (D ++ M).length (flatP (D ++ swp M 0)) ∧ w.grownBy w (some g)) := hide ⟨by rw [swp_zero]; exact h, World.grownBy.refl _ _⟩
  have HL := hide hlen
  have HFIN : Hid (∀ k w', M.length ≤ 2 * k + 1 → w'.ownsRow base PCE 2 (.slice (some ⟨g, 0, none⟩) (D ++ M).length cap) (D ++ M).length (flatP (D ++ swp M k)) → OwnP base w' (.slice (some ⟨g, 0, none⟩) (D ++ M).length cap) (D ++ M.reverse)) := hide (fun k w' hk h => by
    rw [swp_end M k hk] at h
    unfold OwnP
    rw [show (D ++ M.reverse).length = (D ++ M).length by simp]
    exact h)
  clear h hlen
  generalize hdl : D.length = dl at *
  generalize hn : M.length = n at *
  go_enter Tryz.func27, Tryz.ntmps27
  go_wp2_with fail
  go_loopw [2, 3] (fun u v wr => ∃ k : Nat, u = .int .i64 k ∧ v = .int .i64 ((n : Int) - 1 - k) ∧ 2 * k ≤ n ∧ Hid (wr.ownsRow base PCE 2 (.slice (some ⟨g, 0, none⟩) (D ++ M).length cap) (D ++ M).length (flatP (D ++ swp M k)) ∧ w.grownBy wr (some g))) (fun u _ _ => n - (intOf u).toNat)
  case atStart => exact ⟨0, rfl, by go_num, by omega, HO⟩
  case round =>
    obtain ⟨k, rfl, hv, hk, HR⟩ := hrel
    by_cases hlt : 2 * k + 1 < n
    · obtain ⟨J, hJ⟩ : ∃ J : Nat, J = n - 1 - k := ⟨_, rfl⟩
      have hJ2 : (n : Int) - 1 - k = J := by omega
      rw [hJ2] at hv
      subst hv
      have hkn : k < n := by omega
      have hJn : J < n := by omega
      have hJk : ¬ J = k := by omega
      have hg1 := swp_get M k (by omega)
      have hJe : M.length - 1 - k = J := by omega
      rw [hJe] at hg1
      have hst := swp_step M k (by omega)
      rw [hJe] at hst
      generalize hx : M.getD k ([], none) = x at *
      generalize hy : M.getD J ([], none) = y at *
      have hL : (D ++ swp M k).length = (D ++ M).length := unhide HL k
      have hDM : (D ++ M).length = dl + n := by rw [List.length_append, hdl, hn]
      have ek : (D ++ swp M k)[dl + k]? = some x := by rw [List.getElem?_append_right (by omega), hdl, Nat.add_sub_cancel_left]; exact hg1.1
      have eJ : (D ++ swp M k)[dl + J]? = some y := by rw [List.getElem?_append_right (by omega), hdl, Nat.add_sub_cancel_left]; exact hg1.2
      have hcx := flatP_at (D ++ swp M k) (dl + k) (by omega)
      have hcy := flatP_at (D ++ swp M k) (dl + J) (by omega)
      rw [(List.getElem?_eq_some_iff.1 ek).2, Nat.add_mul] at hcx
      rw [(List.getElem?_eq_some_iff.1 eJ).2, Nat.add_mul] at hcy
      have row := (unhide HR).1
      have t0 := (World.ownsRow.cellAt row (dl * 2 + k * 2) (by rw [hDM]; omega)).trans hcx.1
      have t1 := (World.ownsRow.cellAt row (dl * 2 + k * 2 + 1) (by rw [hDM]; omega)).trans hcx.2
      have t2 := (World.ownsRow.cellAt row (dl * 2 + J * 2) (by rw [hDM]; omega)).trans hcy.1
      have t3 := (World.ownsRow.cellAt row (dl * 2 + J * 2 + 1) (by rw [hDM]; omega)).trans hcy.2
      have z0 := World.ownsRow.frozenAt row (dl * 2 + k * 2)
      have z1 := World.ownsRow.frozenAt row (dl * 2 + k * 2 + 1)
      have z2 := World.ownsRow.frozenAt row (dl * 2 + J * 2)
      have z3 := World.ownsRow.frozenAt row (dl * 2 + J * 2 + 1)
      have HA : Hid (∀ W : World, (W = (((wr.setCell ⟨g, dl * 2 + k * 2, none⟩ (.string ⟨y.1.toArray⟩)).setCell ⟨g, dl * 2 + k * 2 + 1, none⟩ (.pointer y.2)).setCell ⟨g, dl * 2 + J * 2, none⟩ (.string ⟨x.1.toArray⟩)).setCell ⟨g, dl * 2 + J * 2 + 1, none⟩ (.pointer x.2) ∨ W = (((wr.setCell ⟨g, dl * 2 + J * 2, none⟩ (.string ⟨x.1.toArray⟩)).setCell ⟨g, dl * 2 + J * 2 + 1, none⟩ (.pointer x.2)).setCell ⟨g, dl * 2 + k * 2, none⟩ (.string ⟨y.1.toArray⟩)).setCell ⟨g, dl * 2 + k * 2 + 1, none⟩ (.pointer y.2)) → W.ownsRow base PCE 2 (.slice (some ⟨g, 0, none⟩) (D ++ M).length cap) (D ++ M).length (flatP (D ++ swp M (k + 1))) ∧ w.grownBy W (some g)) := hide (by
        intro W hW
        have hset : ∀ (S : List Pc) (i : Nat) (q : Pc), (D ++ S).set (dl + i) q = D ++ S.set i q := fun S i q => by rw [List.set_append_right _ _ (by omega), hdl, Nat.add_sub_cancel_left]
        rcases hW with rfl | rfl
        · have p1 := OwnP.put hL row (dl + k) (by omega) y
          have p2 := OwnP.put (by rw [List.length_set]; exact hL) p1.1 (dl + J) (by rw [List.length_set]; omega) x
          rw [hset, hset, hst] at p2
          rw [Nat.add_mul] at p1
          rw [Nat.add_mul, Nat.add_mul] at p2
          exact ⟨p2.1, grown_trans (unhide HR).2 (grown_trans p1.2 p2.2)⟩
        · have p1 := OwnP.put hL row (dl + J) (by omega) x
          have p2 := OwnP.put (by rw [List.length_set]; exact hL) p1.1 (dl + k) (by rw [List.length_set]; omega) y
          rw [hset, hset, List.set_comm _ _ hJk, hst] at p2
          rw [Nat.add_mul] at p1
          rw [Nat.add_mul, Nat.add_mul] at p2
          exact ⟨p2.1, grown_trans (unhide HR).2 (grown_trans p1.2 p2.2)⟩)
      have hk2 : (k : Int) < n := by omega
      have hJ3 : (J : Int) < n := by omega
      have q1 : decide (k < J) = true := decide_eq_true (by omega)
      have q1' : k < J := by omega
      have n1 : ¬ k = J := by omega
      have n2 : ¬ J * 2 = k * 2 + 1 := by omega
      have n3 : ¬ k * 2 = J * 2 + 1 := by omega
      have n4 : ¬ J * 2 + 1 = k * 2 := by omega
      have n5 : ¬ k * 2 + 1 = J * 2 := by omega
      have n6 : ¬ dl * 2 + J * 2 = dl * 2 + k * 2 + 1 := by omega
      have n7 : ¬ dl * 2 + k * 2 = dl * 2 + J * 2 + 1 := by omega
      have n8 : ¬ dl * 2 + J * 2 + 1 = dl * 2 + k * 2 := by omega
      have n9 : ¬ dl * 2 + k * 2 + 1 = dl * 2 + J * 2 := by omega
      have HJ := hide hJ
      clear row hcx hcy ek eJ hst hg1 hL hDM hx hy hJ hJ2 hJe hdl hn
      obtain ⟨x1, x2⟩ := x
      obtain ⟨y1, y2⟩ := y
      dsimp only at t0 t1 t2 t3 HA
      have HA1 := hide (unhide HA ((((wr.setCell ⟨g, dl * 2 + k * 2, none⟩ (.string ⟨y1.toArray⟩)).setCell ⟨g, dl * 2 + k * 2 + 1, none⟩ (.pointer y2)).setCell ⟨g, dl * 2 + J * 2, none⟩ (.string ⟨x1.toArray⟩)).setCell ⟨g, dl * 2 + J * 2 + 1, none⟩ (.pointer x2)) (Or.inl rfl))
      go_wp2_with fail
      go_region
      refine at_worldR (F := fun W => W.ownsRow base PCE 2 (.slice (some ⟨g, 0, none⟩) (D ++ M).length cap) (D ++ M).length (flatP (D ++ swp M (k + 1))) ∧ w.grownBy W (some g)) ⟨(unhide HA1).1.drew, grown_trans (unhide HA1).2 (grown_drew _ (some g))⟩ ?_
      intro W HW
      have HW2 := hide HW
      clear HW t0 t1 t2 t3 z0 z1 z2 z3 n1 n2 n3 n4 n5 n6 n7 n8 n9 hJk
      go_wp2
      go_roundw
      case rel =>
        have hJ := unhide HJ
        exact ⟨k + 1, by go_num, by go_num, by omega, HW2⟩
      case measure => simp [intOf]; omega
    · subst hv
      have q1 : decide ((k : Int) < (n : Int) - 1 - k) = false := decide_eq_false (by omega)
      have HE := hide (unhide HFIN k wr (by omega) (unhide HR).1)
      go_wp2
      go_end0
      exact ⟨rfl, unhide HE, (unhide HR).2⟩
end Go.Proofs.YtepnafnljfjeoaaGreatDoor.Line

namespace Go.Proofs.YtepnafnljfjeoaaGreatDoor.Line
open Go.ChangeShapes Go.WideShapes Go.ChangeAt Go.RowKit
open Ex (E St)
set_option linter.unusedVariables false

abbrev BTy : TypeId := 67
/-- a Builder stays where all blocks stay that hold no pieces -/
theorem builder_keep {B b : Nat} {bs : List Value} {w w' : World} (h : Lib.IsBuilderF BTy 5 B b bs w) (hk : ∀ (k : Nat) (o : Obj), w.heap[k]? = some o → (∀ c fz, o ≠ .cells c PCE fz) → w'.heap[k]? = some o) : Lib.IsBuilderF BTy 5 B b bs w' := by
  have key : ∀ p, Lib.BuilderAtF BTy 5 B b p bs w → Lib.BuilderAtF BTy 5 B b p bs w' := by
    rintro p ⟨hB, v, hb, ho, hne⟩
    refine ⟨hB, v, hk _ _ hb (fun c fz e => by injection e with _ e2; exact absurd e2 (by decide)), ⟨ho.1, ?_⟩, hne⟩
    rcases ho.2 with h2 | ⟨g, cap, cur, fz, hv, hg, hh, r⟩
    · exact .inl h2
    · exact .inr ⟨g, cap, cur, fz, hv, hg, hk _ _ hh (fun c fz e => by injection e with _ e2; exact absurd e2 (by decide)), r⟩
  exact h.elim (fun h => .inl (key _ h)) (fun h => .inr (key _ h))
/-- the block of a row of pieces holds pieces -/
theorem OwnP.holds {base : Nat} {w : World} {v : Value} {l : List Pc} (h : OwnP base w v l) {k : Nat} (hk : v.ownBlock = some k) : ∃ c, w.heap[k]? = some (.cells c PCE (0, 0)) := by
  rcases h.2 with ⟨rfl, _⟩ | ⟨g, cap, cur, rfl, hg, hh, r⟩
  · cases hk
  · have : g = k := Option.some.inj hk
    subst this
    exact ⟨cur, hh⟩
theorem OwnP.other {base : Nat} {w : World} {v : Value} {l : List Pc} (h : OwnP base w v l) {k : Nat} {o : Obj} (hh : w.heap[k]? = some o) (ho : ∀ c fz, o ≠ .cells c PCE fz) : some k ≠ v.ownBlock := fun e => by
  obtain ⟨c, hc⟩ := h.holds e.symm
  rw [hc] at hh
  exact ho c (0, 0) (Option.some.inj hh).symm
/-- a row of pieces stays where blocks that hold pieces stay -/
theorem OwnP.stay {base : Nat} {w w' : World} {v : Value} {l : List Pc} (h : OwnP base w v l) (hk : ∀ (k : Nat) (o : Obj), w.heap[k]? = some o → v.ownBlock = some k → w'.heap[k]? = some o) : OwnP base w' v l := by
  refine ⟨h.1, ?_⟩
  rcases h.2 with h2 | ⟨g, cap, cur, hv, hg, hh, r⟩
  · exact .inl h2
  · exact .inr ⟨g, cap, cur, hv, hg, hk _ _ hh (by rw [hv]; rfl), r⟩
/-- the last piece is taken off -/
theorem OwnP.pop {base : Nat} {w : World} {v : Value} {D : List Pc} {p : Pc} (h : OwnP base w v (D ++ [p])) : ∃ g cap, v = .slice (some ⟨g, 0, none⟩) (D.length + 1) cap ∧ D.length + 1 ≤ cap ∧ base ≤ g ∧ g < w.heap.size ∧ w.cell? ⟨g, D.length * 2, none⟩ = some (.string ⟨p.1.toArray⟩) ∧ w.cell? ⟨g, D.length * 2 + 1, none⟩ = some (.pointer p.2) ∧ OwnP base w (.slice (some ⟨g, 0, none⟩) D.length cap) D := by
  have h' := h
  unfold OwnP at h'
  rw [List.length_append, List.length_singleton] at h'
  rcases h'.2 with ⟨_, h5⟩ | ⟨g, cap, cur, rfl, hg, hh, hc, hm, hcs, ht⟩
  · simp at h5
  · have hat := flatP_at (D ++ [p]) D.length (by simp)
    simp only [List.getElem_append_right (Nat.le_refl _), Nat.sub_self, List.getElem_singleton] at hat
    refine ⟨g, cap, rfl, hc, hg, (Array.getElem?_eq_some_iff.1 hh).1, (World.ownsRow.cellAt h' _ (by omega)).trans hat.1, (World.ownsRow.cellAt h' _ (by omega)).trans hat.2, flatP_length D, .inr ⟨g, cap, cur, rfl, hg, hh, by omega, hm, hcs, ?_⟩⟩
    rw [flatP_append] at ht
    have := congrArg (List.take (D.length * 2)) ht
    rw [List.take_take, Nat.min_eq_left (by omega)] at this
    rw [this, ← flatP_length D, List.take_left]
structure MidT (w : World) (x : E) (wr : World) (v : Value) (l : List Pc) (out s : List UInt8) (k : Nat) : Prop where
  own : OwnP (w.heap.size + 1 + 1) wr v l
  pms : Pms wr (w.heap.size + 1) l.reverse s k
  txt : out ++ s = textT x
  bld : Lib.IsBuilderF BTy 5 (w.heap.size + 1) (w.heap.size + 1) (Lib.byteCells out) wr
  old : Below w.heap.size w wr
  tab : Tab wr
  sz : w.heap.size + 1 + 1 ≤ wr.heap.size
  t3 : 3 < w.heap.size
theorem MidT.below {w : World} {x : E} {wr w2 : World} {v : Value} {l : List Pc} {out s : List UInt8} {k : Nat} (h : MidT w x wr v l out s k) (hb : Below wr.heap.size wr w2) : MidT w x w2 v l out s k := by
  have hs := h.sz
  have hs2 := hb.size
  exact ⟨h.own.below hb, h.pms.keep (fun b hl => hb.block b (by omega)), h.txt, builder_keep h.bld (fun k o hh _ => (hb.block k (Array.getElem?_eq_some_iff.1 hh).1).trans hh), bthen h.old hb, h.tab.below hb, by omega, h.t3⟩
/-- a text has been written -/
theorem MidT.wrote {w : World} {x : E} {wr w2 : World} {v v1 : Value} {D : List Pc} {out s s0 : List UInt8} {k : Nat} (h : MidT w x wr v (D ++ [(s0, none)]) out s k) (h1 : OwnP (w.heap.size + 1 + 1) wr v1 D) (hb : Lib.IsBuilderF BTy 5 (w.heap.size + 1) (w.heap.size + 1) (Lib.byteCells (out ++ s0)) w2) (hB : Below (w.heap.size + 1) wr w2) (hO : Lib.OthersKept 5 (some (w.heap.size + 1)) wr w2) : ∃ s' k', k' < k ∧ MidT w x w2 v1 D (out ++ s0) s' k' := by
  have hp := h.pms
  rw [List.reverse_append] at hp
  have hs := h.sz
  have hs2 := hB.size
  have htab : Tab w2 := by
    obtain ⟨t, f, ht⟩ := h.tab
    exact ⟨t, f, (hB.block 3 (Nat.lt_succ_of_lt h.t3)).trans ht⟩
  cases hp with
  | cons _ _ k1 _ t n hm hl =>
    cases hm with
    | txt =>
      refine ⟨t, n, by omega, ?_, hl.keep (fun b hb => hB.block b hb), ?_, hb, h.old.trans (hB.mono (by omega)), htab, by omega, h.t3⟩
      · exact h1.stay (fun k o hh hk => hO k o hh (fun e => by have := (World.ownsRow.lt h1 k hk).1; have := Option.some.inj e; omega) (fun c fz e => by
          obtain ⟨c2, hc2⟩ := h1.holds hk
          rw [hc2] at hh
          have := Option.some.inj hh
          rw [e] at this
          injection this with _ e2
          exact absurd e2 (by decide)))
      · rw [List.append_assoc]; exact h.txt
/-- a tree's own cells, its row, its parts -/
theorem TreeAt.open {w : World} {B : Nat} {p : Addr} {y : E} (h : TreeAt w B p y) (hB : 0 < B) : ∃ b o sa sc pb po, p = ⟨b, o, none⟩ ∧ b < B ∧ pb < B ∧ At w b o y (.slice sa y.a.length sc) ∧ (∀ i (hi : i < y.a.length), sa = some ⟨pb, po, none⟩ ∧ y.a.length ≤ sc ∧ w.cell? ⟨pb, po + i * 4, none⟩ = some (.int .i64 y.a[i].kind)) ∧ (∀ i (hi : i < y.a.length), TreeAt w B ⟨pb, po + i * 4, none⟩ y.a[i]) := by
  obtain ⟨b, o, sx, rfl, hl, ha, hf⟩ := h.ex
  generalize hl2 : y.a = a at *
  cases hf with
  | nil sa cap => exact ⟨b, o, sa, cap, 0, 0, rfl, hl, hB, ha, fun i hi => absurd hi (by simp), fun i hi => absurd hi (by simp)⟩
  | row _ pb po cap sl hS hcap hmax hc hf => exact ⟨b, o, _, cap, pb, po, rfl, hl, hS, ha, fun i hi => ⟨rfl, hcap, (hc i hi).1⟩, fun i hi => ⟨pb, po + i * 4, sl i, rfl, hS, ⟨(hc i hi).1, (hc i hi).2.1, (hc i hi).2.2.1, (hc i hi).2.2.2⟩, hf i hi⟩⟩
/-- a tree has been taken apart -/
theorem MidT.parted {w : World} {x y : E} {wr w3 w4 : World} {v v1 v3 : Value} {D : List Pc} {p : Addr} {out s : List UInt8} {k pb po g3 : Nat} (h : MidT w x wr v (D ++ [([], some p)]) out s k) (t : List UInt8) (n1 : Nat) (hst : s = textT y ++ t) (hkn : k = wtE y + n1) (hl : Pms wr (w.heap.size + 1) D.reverse t n1) (hp : ∀ j (hj : j < y.a.length), TreeAt wr (w.heap.size + 1) ⟨pb, po + j * 4, none⟩ y.a[j] ∧ OkE y.a[j])
    (h1 : OwnP (w.heap.size + 1 + 1) wr v1 D) (hB : Below (w.heap.size + 1 + 1) wr w3) (hO : Oth wr w3 v1 v3) (h3 : OwnP (w.heap.size + 1 + 1) w3 v3 (D ++ pcsE y pb po)) (hg : v3.ownBlock = some g3) (h4 : OwnP (w.heap.size + 1 + 1) w4 v3 (D ++ (pcsE y pb po).reverse)) (hG : w3.grownBy w4 (some g3)) : ∃ k', k' < k ∧ MidT w x w4 v3 (D ++ (pcsE y pb po).reverse) out s k' := by
  have hs := h.sz
  have hs3 := hB.size
  have hs4 := hG.size
  have hg3 := (World.ownsRow.lt h3 g3 hg).1
  have hw4 : ∀ b, b < w.heap.size + 1 + 1 → w4.heap[b]? = wr.heap[b]? := fun b hb => (hG.block b (by omega) (fun e => by have := Option.some.inj e; omega)).trans (hB.block b hb)
  obtain ⟨n, hn, hlt⟩ := pms_tree (w := wr) (B := w.heap.size + 1) (pb := pb) (po := po) y hp
  refine ⟨n + n1, by omega, h4, ?_, h.txt, ?_, ?_, ?_, by omega, h.t3⟩
  · rw [List.reverse_append, List.reverse_reverse, hst]
    exact (hn.append hl).keep (fun b hb => hw4 b (by omega))
  · refine builder_keep h.bld (fun k o hh ho => ?_)
    have hk := (Array.getElem?_eq_some_iff.1 hh).1
    have e3 := (hO.keep k hk (h1.other hh ho)).trans hh
    exact (hG.block k (by have := hO.size; omega) (fun e => h3.other e3 ho (by rw [hg]; exact e))).trans e3
  · have : Below w.heap.size wr w4 := ⟨hG.os.trans hB.os, hG.tape.trans hB.tape, hG.output.trans hB.output, by omega, fun b hb => hw4 b (by omega)⟩
    exact h.old.trans this
  · obtain ⟨t, f, ht⟩ := h.tab
    exact ⟨t, f, (hw4 3 (by have := h.t3; omega)).trans ht⟩
theorem midT_start {w : World} {x : E} {sx : Value} {S : Nat → Prop} (hf : Forest w S x.a sx) (ho : OkE x) (ht : Tab w) : MidT w x (((w.alloc (.cells #[.int .i64 x.kind, .int .i64 x.n, .string ⟨x.name.toArray⟩, sx] PET)).alloc (.cells #[.pointer none, .slice none 0 0] BTy)).alloc (.cells #[.string ⟨#[]⟩, .pointer (some ⟨w.heap.size, 0, none⟩)] PCE)) (.slice (some ⟨w.heap.size + 1 + 1, 0, none⟩) 1 1) [([], some ⟨w.heap.size, 0, none⟩)] [] (textT x) (wtE x) := by
  have hb1 := alloc_below w (.cells #[.int .i64 x.kind, .int .i64 x.n, .string ⟨x.name.toArray⟩, sx] PET)
  have hz1 : (w.alloc (.cells #[.int .i64 x.kind, .int .i64 x.n, .string ⟨x.name.toArray⟩, sx] PET)).heap.size = w.heap.size + 1 := by simp
  have hbx := box_new w x sx PET
  generalize (w.alloc (.cells #[.int .i64 x.kind, .int .i64 x.n, .string ⟨x.name.toArray⟩, sx] PET)) = w1 at *
  have hb2 := alloc_below w1 (.cells #[.pointer none, .slice none 0 0] BTy)
  have hz2 : (w1.alloc (.cells #[.pointer none, .slice none 0 0] BTy)).heap.size = w1.heap.size + 1 := by simp
  have hbld := Lib.IsBuilderF.of (Lib.fresh_isBuilder BTy 5 w1)
  generalize (w1.alloc (.cells #[.pointer none, .slice none 0 0] BTy)) = w2 at *
  have hb3 := alloc_below w2 (.cells #[.string ⟨#[]⟩, .pointer (some ⟨w.heap.size, 0, none⟩)] PCE)
  have hz3 : (w2.alloc (.cells #[.string ⟨#[]⟩, .pointer (some ⟨w.heap.size, 0, none⟩)] PCE)).heap.size = w2.heap.size + 1 := by simp
  have hown := World.ownsRow_lit (e := PCE) (size := 2) (base := w.heap.size + 1 + 1) w2 #[.string ⟨#[]⟩, .pointer (some ⟨w.heap.size, 0, none⟩)] 1 (by omega) (by decide) rfl
  rw [hz2, hz1] at hown
  rw [hz1] at hbld
  have hb13 := bthen hb2 hb3
  have hbw := bthen hb1 hb13
  have t3 : 3 < w.heap.size := by obtain ⟨t, f, h⟩ := ht; exact (Array.getElem?_eq_some_iff.1 h).1
  have hA := hbx.keep (hb13.block _ hbx.lt) hb13.size
  have hF : Forest (w2.alloc (.cells #[.string ⟨#[]⟩, .pointer (some ⟨w.heap.size, 0, none⟩)] PCE)) (fun b => b < w.heap.size + 1) x.a sx := (hf.mono (S' := fun b => b < w.heap.size + 1) (fun b _ hl => by omega)).old hbw
  have htree : TreeAt (w2.alloc (.cells #[.string ⟨#[]⟩, .pointer (some ⟨w.heap.size, 0, none⟩)] PCE)) (w.heap.size + 1) ⟨w.heap.size, 0, none⟩ x := ⟨w.heap.size, 0, sx, rfl, by omega, ⟨hA.c0, hA.c1, hA.c2, hA.c3⟩, hF⟩
  refine ⟨hown, ?_, rfl, builder_keep hbld (fun k o hh _ => (hb3.block k (Array.getElem?_eq_some_iff.1 hh).1).trans hh), hbw, ht.below hbw, by omega, t3⟩
  have := Pms.cons _ _ _ _ _ _ (.tree _ x htree ho) .nil
  rw [List.append_nil] at this
  exact this
end Go.Proofs.YtepnafnljfjeoaaGreatDoor.Line

namespace Go.Proofs.YtepnafnljfjeoaaGreatDoor.Line
open Go.ChangeShapes Go.WideShapes Go.ChangeAt Go.RowKit
open Ex (E St)
set_option linter.unusedVariables false

set_option maxHeartbeats 8000000 in
set_option maxRecDepth 100000 in
theorem text_any (x : E) (sx : Value) (S : Nat → Prop) (w : World) (hf : Forest w S x.a sx) (ho : OkE x) (ht : Tab w) (hw : wtE x ≤ 90000) (hlen : (textT x).length ≤ 1000000000) : Calls Tryz.prog 8 #[treeV x sx] w fun e w' => e = .returned (.string ⟨(textT x).toArray⟩) ∧ Below w.heap.size w w' := by
  have HM := hide (midT_start hf ho ht)
  obtain ⟨xa, xc, hsx⟩ := hf.shape
  generalize hxl : x.a.length = xl at *
  subst hsx
  clear hf ho ht hxl
  go_enter Tryz.func8, Tryz.ntmps8
  go_wp2_with fail
  generalize (((w.alloc (.cells #[.int .i64 x.kind, .int .i64 x.n, .string ⟨x.name.toArray⟩, .slice xa xl xc] PET)).alloc (.cells #[.pointer none, .slice none 0 0] BTy)).alloc (.cells #[.string ⟨#[]⟩, .pointer (some ⟨w.heap.size, 0, none⟩)] PCE)) = W0 at *
  go_loopg [4] (wtE x) (fun k v wr => k ≤ 90000 ∧ ∃ (l : List Pc) (out s : List UInt8), Hid (MidT w x wr v l out s k))
  case atStart => exact ⟨hw, _, _, _, HM⟩
  case round =>
    obtain ⟨hgk, l, out, s, HMM⟩ := hrel
    rcases List.eq_nil_or_concat l with rfl | ⟨D, pc, hl⟩
    · obtain ⟨va, vc, hv⟩ := (unhide HMM).own.shape
      rw [List.length_nil] at hv
      subst hv
      have hs0 : s = [] := by
        have := (unhide HMM).pms
        rw [List.reverse_nil] at this
        cases this
        rfl
      have hout : out = textT x := by have := (unhide HMM).txt; rw [hs0, List.append_nil] at this; exact this
      have HST := hide (Builder_String_any (w.heap.size + 1) (w.heap.size + 1) out wr (unhide HMM).bld (by have := (unhide HMM).sz; omega))
      have HOU := hide hout
      clear hs0 hout
      go_wp2_with fail
      refine (unhide HST).mono ?_
      rintro ev w9 ⟨rfl, -, hb9, -⟩
      go_wp2
      go_ret
      exact ⟨ret_str (unhide HOU), (unhide HMM).old.trans (hb9.mono (by omega))⟩
    · rw [List.concat_eq_append] at hl
      subst hl
      obtain ⟨g, cap, hv, hcap, hg1, hg2, t0, t1, hpop⟩ := (unhide HMM).own.pop
      subst hv
      have hln : D.length + 1 ≤ gk := by have := (unhide HMM).pms.len; simpa using this
      have hHM : Hid (Pms wr (w.heap.size + 1) (pc :: D.reverse) s gk) := hide (by have := (unhide HMM).pms; rwa [List.reverse_append] at this)
      have HPOP := hide hpop
      clear hpop
      obtain ⟨ps, pp⟩ := pc
      dsimp only at t0 t1
      cases pp with
      | none =>
        have HM1 := hide ((unhide HMM).below (alloc_below wr (.cells #[.string ⟨ps.toArray⟩, .pointer none] PCE)))
        have hol : out.length + ps.length ≤ 1000000000 := by
          have h1 := congrArg List.length (unhide HMM).txt
          have h2 := unhide hHM
          generalize hsr : s = sr at h2
          cases h2 with
          | cons _ s1 k1 _ t n1 hm hl =>
            cases hm with
            | txt => rw [hsr, List.length_append, List.length_append] at h1; omega
        have HWS := hide (Builder_WriteString (w.heap.size + 1) (w.heap.size + 1) (Lib.byteCells out) ⟨ps.toArray⟩ _ (unhide HM1).bld (by rw [Lib.byteCells_length]; show out.length + ps.length ≤ _; omega) (by have := (unhide HM1).sz; omega))
        have HP1 := hide ((unhide HPOP).below (alloc_below wr (.cells #[.string ⟨ps.toArray⟩, .pointer none] PCE)))
        have hcap2 : (D.length : Int) + 1 ≤ cap := by omega
        clear hHM
        generalize hdl : D.length = n at *
        go_wp2_with fail
        refine (unhide HWS).mono ?_
        rintro ev w4 ⟨rfl, hbu, hb4, hk4⟩
        have hcells : Lib.byteCells out ++ Lib.strCells ⟨ps.toArray⟩ = Lib.byteCells (out ++ ps) := by simp [Lib.byteCells, Lib.strCells]
        rw [hcells] at hbu
        obtain ⟨s', k', hk', hM'⟩ := (unhide HM1).wrote (v1 := .slice (some ⟨g, 0, none⟩) n cap) (unhide HP1) (.inr hbu) hb4 hk4
        have HM' := hide hM'
        clear hM' hbu hb4 hk4 HWS HP1
        go_wp2
        go_roundg k'
        case measure => exact hk'
        case rel => exact ⟨by omega, _, _, _, HM'⟩
      | some p =>
        obtain ⟨y, t, n1, hps, htr, hoy, hst, hkn, hlr⟩ : ∃ y t n1, ps = [] ∧ TreeAt wr (w.heap.size + 1) p y ∧ OkE y ∧ s = textT y ++ t ∧ gk = wtE y + n1 ∧ Pms wr (w.heap.size + 1) D.reverse t n1 := by
          have h2 := unhide hHM
          generalize hsr : s = sr at h2
          generalize hgr : gk = gr at h2
          cases h2 with
          | cons _ s1 k1 _ t n1 hm hl =>
            cases hm with
            | tree _ y h ho => exact ⟨y, t, n1, rfl, h, ho, rfl, rfl, hl⟩
        subst hps
        obtain ⟨b, o, sa, sc, pb, po, hpe, hbl, hpbl, hat, hrow, hparts⟩ := htr.open (by omega)
        subst hpe
        have hal := alloc_below wr (.cells #[.string ⟨#[]⟩, .pointer (some ⟨b, o, none⟩)] PCE)
        have HM1 := hide ((unhide HMM).below hal)
        have hsz := (unhide HMM).sz
        have hP1 := (unhide HPOP).below hal
        have HPC := hide (pieces_any _ b o pb po (w.heap.size + 1 + 1) y y.a.length rfl sa sc (.slice (some ⟨g, 0, none⟩) D.length cap) D (hat.below hal (by omega)) hoy.num (unhide HM1).tab (fun i hi => ⟨(hrow i hi).1, (hrow i hi).2.1, (hal.cell (p := ⟨pb, po + i * 4, none⟩) (by show pb < _; omega)).trans (hrow i hi).2.2⟩) (by omega) (by omega) (by have := hal.size; omega) hP1 hoy.len (by omega))
        have HPT : Hid (∀ w3 w4 v3 g3, Below (w.heap.size + 1 + 1) (wr.alloc (.cells #[.string ⟨#[]⟩, .pointer (some ⟨b, o, none⟩)] PCE)) w3 → Oth (wr.alloc (.cells #[.string ⟨#[]⟩, .pointer (some ⟨b, o, none⟩)] PCE)) w3 (.slice (some ⟨g, 0, none⟩) D.length cap) v3 → OwnP (w.heap.size + 1 + 1) w3 v3 (D ++ pcsE y pb po) → v3.ownBlock = some g3 → OwnP (w.heap.size + 1 + 1) w4 v3 (D ++ (pcsE y pb po).reverse) → w3.grownBy w4 (some g3) → ∃ k', k' < gk ∧ MidT w x w4 v3 (D ++ (pcsE y pb po).reverse) out s k') := hide (fun w3 w4 v3 g3 a1 a2 a3 a4 a5 a6 => (unhide HM1).parted t n1 hst hkn (hlr.keep (fun b hb => hal.block b (by omega))) (fun j hj => ⟨(hparts j hj).below (fun b hb => hal.block b (by omega)), hoy.part _ (List.getElem_mem hj)⟩) hP1 a1 a2 a3 a4 a5 a6)
        have hpn : Hid (∃ m, Pms wr (w.heap.size + 1) (pcsE y pb po) (textT y) m ∧ m < wtE y) := hide (pms_tree y (fun j hj => ⟨hparts j hj, hoy.part _ (List.getElem_mem hj)⟩))
        have hpcl : (pcsE y pb po).length ≤ 90000 := by obtain ⟨m, h1, h2⟩ := unhide hpn; have := h1.len; omega
        have hpc2 : 1 ≤ (pcsE y pb po).length := by unfold pcsE; simp
        have hcap2 : (D.length : Int) + 1 ≤ cap := by omega
        clear hHM hat hrow hparts htr hoy hst hkn hlr hP1 hal hpn HM1
        generalize hpcs : pcsE y pb po = PC at *
        go_wp2_with fail
        refine (unhide HPC).mono ?_
        rintro ev w3 ⟨v3, rfl, h3, hb3, hq3⟩
        obtain ⟨g3, c3, hv3, hgc⟩ : ∃ g3 c3, v3 = .slice (some ⟨g3, 0, none⟩) (D ++ PC).length c3 ∧ (D ++ PC).length ≤ c3 := by
          rcases h3.2 with ⟨_, h5⟩ | ⟨g3, cap3, cur, hv, _, _, hc3, _⟩
          · rw [List.length_append] at h5; omega
          · exact ⟨g3, cap3, hv, hc3⟩
        subst hv3
        have HREV := hide (reverse_any w3 (w.heap.size + 1 + 1) g3 c3 (c3 - D.length) D PC h3 (by omega) (by omega) (by rw [List.length_append] at hgc; omega))
        have HPT3 := hide (fun w4 => unhide HPT w3 w4 _ g3 hb3 hq3 h3 rfl)
        rw [List.length_append] at hgc
        have hc1 : ¬ c3 = D.length := by omega
        have hc2 : D.length ≤ (D ++ PC).length := by rw [List.length_append]; omega
        have hc4 : (D.length : Int) ≤ ((D ++ PC).length : Nat) := by omega
        have hc5 : (D ++ PC).length - D.length = PC.length := by rw [List.length_append]; omega
        have hc6 : (D ++ PC).length ≤ 200000 := by rw [List.length_append]; omega
        have hc7 : (D ++ PC).length ≤ c3 := by rw [List.length_append]; exact hgc
        clear h3 hb3 hq3 HPC HPT
        generalize hN : (D ++ PC).length = N at *
        generalize hdl : D.length = n at *
        go_wp2_with fail
        refine (unhide HREV).mono ?_
        rintro ev w4 ⟨rfl, ho4, hg4⟩
        obtain ⟨k', hk', hM'⟩ := unhide HPT3 w4 ho4 hg4
        have HM' := hide hM'
        clear hM' ho4 hg4 HREV HPT3
        go_wp2
        go_roundg k'
        case measure => exact hk'
        case rel => exact ⟨by omega, _, _, _, HM'⟩
end Go.Proofs.YtepnafnljfjeoaaGreatDoor.Line

namespace Go.Proofs.YtepnafnljfjeoaaGreatDoor.Line
open Go.ChangeShapes Go.WideShapes Go.ChangeAt Go.RowKit
open Ex (E St)
set_option linter.unusedVariables false

/-- nine cells of a box, and old memory, are kept by what writes new memory alone -/
theorem held9 {w W W' : World} {B : Nat} {v0 v1 v2 v3 v4 v5 v6 v7 v8 : Value}
    (h : W.cell? ⟨B, 0, none⟩ = some v0 ∧ W.cell? ⟨B, 1, none⟩ = some v1 ∧ W.cell? ⟨B, 2, none⟩ = some v2 ∧ W.cell? ⟨B, 3, none⟩ = some v3 ∧ W.cell? ⟨B, 4, none⟩ = some v4 ∧ W.cell? ⟨B, 5, none⟩ = some v5 ∧ W.cell? ⟨B, 6, none⟩ = some v6 ∧ W.cell? ⟨B, 7, none⟩ = some v7 ∧ W.cell? ⟨B, 8, none⟩ = some v8 ∧ Hid (Below w.heap.size w W))
    (hb : Hid (Below W.heap.size W W')) :
    W'.cell? ⟨B, 0, none⟩ = some v0 ∧ W'.cell? ⟨B, 1, none⟩ = some v1 ∧ W'.cell? ⟨B, 2, none⟩ = some v2 ∧ W'.cell? ⟨B, 3, none⟩ = some v3 ∧ W'.cell? ⟨B, 4, none⟩ = some v4 ∧ W'.cell? ⟨B, 5, none⟩ = some v5 ∧ W'.cell? ⟨B, 6, none⟩ = some v6 ∧ W'.cell? ⟨B, 7, none⟩ = some v7 ∧ W'.cell? ⟨B, 8, none⟩ = some v8 ∧ Hid (Below w.heap.size w W') := by
  obtain ⟨h0, h1, h2, h3, h4, h5, h6, h7, h8, h9⟩ := h
  have hl := cell_lt h0
  have hc : ∀ o, W'.cell? ⟨B, o, none⟩ = W.cell? ⟨B, o, none⟩ := fun o => hb.cell (p := ⟨B, o, none⟩) hl
  exact ⟨(hc 0).trans h0, (hc 1).trans h1, (hc 2).trans h2, (hc 3).trans h3, (hc 4).trans h4, (hc 5).trans h5, (hc 6).trans h6, (hc 7).trans h7, (hc 8).trans h8, hide (bthen (unhide h9) (unhide hb))⟩

set_option maxHeartbeats 8000000 in
set_option maxRecDepth 100000 in
theorem condText_any (op : List UInt8) (x y : E) (sx sy : Value) (S : Nat → Prop) (w : World) (hx : Forest w S x.a sx) (hy : Forest w S y.a sy) (ox : OkE x) (oy : OkE y) (ht : Tab w) (wx : wtE x ≤ 90000) (wy : wtE y ≤ 90000) (lx : (textT x).length ≤ 1000000) (ly : (textT y).length ≤ 1000000) (lo : op.length ≤ 1000) :
    Calls Tryz.prog 21 #[condV op x sx y sy] w fun e w' => e = .returned (.string ⟨(textT x ++ [32] ++ op ++ [32] ++ textT y).toArray⟩) ∧ Below w.heap.size w w' := by
  have hb0 := alloc_below w (.cells #[.string ⟨op.toArray⟩, .int .i64 x.kind, .int .i64 x.n, .string ⟨x.name.toArray⟩, sx, .int .i64 y.kind, .int .i64 y.n, .string ⟨y.name.toArray⟩, sy] 55)
  have hB0 := boxC_new w op x sx y sy 55
  have HX : Hid (∀ W, Hid (Below w.heap.size w W) → Calls Tryz.prog 8 #[treeV x sx] W fun e w' => e = .returned (.string ⟨(textT x).toArray⟩) ∧ Below W.heap.size W w') := hide (fun W h => text_any x sx S W (hx.old h) ox (ht.below h) wx (by omega))
  have HY : Hid (∀ W, Hid (Below w.heap.size w W) → Calls Tryz.prog 8 #[treeV y sy] W fun e w' => e = .returned (.string ⟨(textT y).toArray⟩) ∧ Below W.heap.size W w') := hide (fun W h => text_any y sy S W (hy.old h) oy (ht.below h) wy (by omega))
  obtain ⟨xa, xc, hsx⟩ := hx.shape
  obtain ⟨ya, yc, hsy⟩ := hy.shape
  generalize hxl : x.a.length = xl at *
  generalize hyl : y.a.length = yl at *
  subst hsx hsy
  have HB := hide (And.intro hb0 hB0)
  clear hx hy ox oy ht hb0 hB0 hxl hyl wx wy
  generalize textT x = tx at *
  generalize textT y = ty at *
  go_enter Tryz.func21, Tryz.ntmps21
  go_wp2_with fail
  have hWB := (unhide HB).1
  obtain ⟨m0, m1, m2, m3, m4, m5, m6, m7, m8, -, -, -, -, -, -, -, -, -, hHl⟩ := (unhide HB).2
  generalize (w.alloc (.cells #[.string ⟨op.toArray⟩, .int .i64 x.kind, .int .i64 x.n, .string ⟨x.name.toArray⟩, .slice xa xl xc, .int .i64 y.kind, .int .i64 y.n, .string ⟨y.name.toArray⟩, .slice ya yl yc] 55)) = W1 at *
  have HWB : Hid (Below w.heap.size w W1) := hide hWB
  have HD : Hid (Below W1.heap.size W1 W1.drew) := hide (below_drewN (Below.refl _ _) 1)
  have s1 : (⟨tx.toArray⟩ : ByteArray) ++ ⟨#[32]⟩ = ⟨(tx ++ [32]).toArray⟩ := cat2 tx [32]
  have s2 : (⟨(tx ++ [32]).toArray⟩ : ByteArray) ++ ⟨op.toArray⟩ = ⟨(tx ++ [32] ++ op).toArray⟩ := cat2 _ _
  have s3 : (⟨(tx ++ [32] ++ op).toArray⟩ : ByteArray) ++ ⟨#[32]⟩ = ⟨(tx ++ [32] ++ op ++ [32]).toArray⟩ := cat2 _ [32]
  have s4 : (⟨(tx ++ [32] ++ op ++ [32]).toArray⟩ : ByteArray) ++ ⟨ty.toArray⟩ = ⟨(tx ++ [32] ++ op ++ [32] ++ ty).toArray⟩ := cat2 _ _
  have l1 : (tx ++ [32]).length ≤ 1000001 := by simp; omega
  have l2 : (tx ++ [32] ++ op).length ≤ 1001001 := by simp; omega
  have l3 : (tx ++ [32] ++ op ++ [32]).length ≤ 1001002 := by simp; omega
  have HT : ∃ T4, T4 = tx ++ [32] ++ op ++ [32] ++ ty := ⟨_, rfl⟩
  obtain ⟨TT, hTT⟩ := HT
  have HTT := hide hTT
  rw [← hTT] at s4
  clear hTT
  generalize hT1 : tx ++ [32] = T1 at s1 s2 s3 s4 l1 l2 l3
  generalize hT2 : T1 ++ op = T2 at s2 s3 s4 l2 l3
  generalize hT3 : T2 ++ [32] = T3 at s3 s4 l3
  clear HB hWB hT1 hT2 hT3
  have b1 : ¬ 9223372036854775807 < tx.length + 1 := by omega
  have b2 : ¬ 9223372036854775807 < T1.length + op.length := by omega
  have b3 : ¬ 9223372036854775807 < T2.length + 1 := by omega
  have b4 : ¬ 9223372036854775807 < T3.length + ty.length := by omega
  generalize hWS : w.heap.size = B0 at m0 m1 m2 m3 m4 m5 m6 m7 m8 ⊢
  clear hWS hHl
  have HS0 := hide (And.intro m0 (And.intro m1 (And.intro m2 (And.intro m3 (And.intro m4 (And.intro m5 (And.intro m6 (And.intro m7 (And.intro m8 HWB)))))))))
  clear m0 m1 m2 m3 m4 m5 m6 m7 m8
  go_region_held3 (fun W => W.cell? ⟨B0, 0, none⟩ = some (.string ⟨op.toArray⟩) ∧ W.cell? ⟨B0, 1, none⟩ = some (.int .i64 x.kind) ∧ W.cell? ⟨B0, 2, none⟩ = some (.int .i64 x.n) ∧ W.cell? ⟨B0, 3, none⟩ = some (.string ⟨x.name.toArray⟩) ∧ W.cell? ⟨B0, 4, none⟩ = some (.slice xa xl xc) ∧ W.cell? ⟨B0, 5, none⟩ = some (.int .i64 y.kind) ∧ W.cell? ⟨B0, 6, none⟩ = some (.int .i64 y.n) ∧ W.cell? ⟨B0, 7, none⟩ = some (.string ⟨y.name.toArray⟩) ∧ W.cell? ⟨B0, 8, none⟩ = some (.slice ya yl yc) ∧ Hid (Below w.heap.size w W))
    (first | exact held9 (unhide HS0) HD | exact held9 (by assumption) (by assumption))
    (first
    | (go_at_call 8; with_reducible refine (unhide HX _ (by go_split_ands; assumption)).mono ?_; rintro ev w5 ⟨rfl, hb5⟩; replace hb5 := hide hb5; dsimp only)
    | (go_at_call 8; with_reducible refine (unhide HY _ (by go_split_ands; assumption)).mono ?_; rintro ev w6 ⟨rfl, hb6⟩; replace hb6 := hide hb6; dsimp only))
  all_goals (
    go_wp2
    go_ret
    exact ⟨ret_str (unhide HTT), by go_split_ands; exact unhide (by assumption)⟩)
end Go.Proofs.YtepnafnljfjeoaaGreatDoor.Line
