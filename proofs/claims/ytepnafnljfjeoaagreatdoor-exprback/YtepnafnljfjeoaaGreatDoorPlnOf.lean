/- The contract of the law's plain. -/
import Derived.Test.YtepnafnljfjeoaaGreatDoorEvRight
import Derived.Test.YtepnafnljfjeoaaGreatDoorPlainWs
import Derived.Deep.RegionLaw
namespace Go.Proofs.YtepnafnljfjeoaaGreatDoor.Line
open Go.ChangeShapes Go.WideShapes Go.ChangeAt Go.RowKit
open Ex (E St)
set_option linter.unusedVariables false

abbrev zE : Array Value := #[.int .i64 0, .int .i64 0, .string ⟨#[]⟩, .slice none 0 0]
abbrev PlOk (x : E) : Prop := ∀ (w : World) (S : Nat → Prop) (sx : Value), Forest w S x.a sx → Calls Tryz.prog 15 #[treeV x sx] w fun e w' => ∃ sy, e = .returned (treeV (plainE x) sy) ∧ Forest w' (fun b => w.heap.size ≤ b) (plainE x).a sy ∧ Below w.heap.size w w'
/-- in the midst of plain -/
structure MidP (w : World) (S : Nat → Prop) (x : E) (sx : Value) (wr : World) (i : Nat) (v : Value) (l : List (E × Value)) : Prop where
  box1 : Box wr w.heap.size x sx
  box2 : Box wr (w.heap.size + 1) E.none (.slice none 0 0)
  box3 : Box wr (w.heap.size + 2) x v
  own : OwnF ET (w.heap.size + 3) wr (fun b => w.heap.size + 3 ≤ b) v l
  row : l.map (·.1) = (x.a.map plainE).take i
  old : Below w.heap.size w wr
  sz : w.heap.size + 3 ≤ wr.heap.size
theorem MidP.step {w : World} {S : Nat → Prop} {x : E} {sx : Value} {wr w' : World} {i : Nat} {v : Value} {l : List (E × Value)} (h : MidP w S x sx wr i v l) (hb : Below wr.heap.size wr w') : MidP w S x sx w' i v l :=
  ⟨h.box1.keep (hb.block _ h.box1.lt) hb.size, h.box2.keep (hb.block _ h.box2.lt) hb.size, h.box3.keep (hb.block _ h.box3.lt) hb.size, h.own.old hb, h.row, bthen h.old hb, by have := hb.size; have := h.sz; omega⟩
theorem MidP.more {w : World} {S : Nat → Prop} {x : E} {sx : Value} {wr : World} {i : Nat} {v : Value} {l : List (E × Value)} (h : MidP w S x sx wr i v l) (hi : i < x.a.length) (hl : x.a.length ≤ 1000) {sy : Value} {B : Nat} (hy : Forest wr (fun b => B ≤ b) (plainE x.a[i]).a sy) (hB : w.heap.size + 3 ≤ B) (hv : ∀ k, v.ownBlock = some k → k < B) :
    ∃ v' w', (Builtin.append_ #[ETS, ETS] ETS #[v, .slice (some ⟨wr.heap.size, 0, none⟩) 1 1]).run Tryz.prog (wr.alloc (.cells #[.int .i64 (plainE x.a[i]).kind, .int .i64 (plainE x.a[i]).n, .string ⟨(plainE x.a[i]).name.toArray⟩, sy] ET)) = .ok v' w' ∧ (w'.cell? ⟨w.heap.size + 2, 3, none⟩ = some v ∧ w'.frozen? ⟨w.heap.size + 2, 3, none⟩ = false) ∧ MidP w S x sx (w'.setCell ⟨w.heap.size + 2, 3, none⟩ v') (i + 1) v' (l ++ [(plainE x.a[i], sy)]) ∧ ∃ a n c, v' = .slice a n c := by
  have hsz := h.sz
  have hll : l.length = i := by have := congrArg List.length h.row; rw [List.length_map, List.length_take, List.length_map] at this; omega
  obtain ⟨v', w', hr, ho, hg, hat⟩ := append_tree infoRE Tryz.underlying28 h.own (hy.mono (S' := fun b => w.heap.size + 3 ≤ b ∧ some b ≠ v.ownBlock) (fun b hs _ => ⟨by omega, fun e => by have := hv b e.symm; omega⟩)) hsz (by omega)
  have hown : ∀ k, v.ownBlock = some k → w.heap.size + 3 ≤ k := fun k hk => (h.own.row.lt k hk).1
  have hkeep : ∀ b, b < w.heap.size + 3 → w'.heap[b]? = wr.heap[b]? := fun b hb => (hg.block b (by simp; omega) (fun e => by have := hown b e.symm; omega)).trans ((alloc_below wr _).block b (by omega))
  have hz' : wr.heap.size ≤ w'.heap.size := by have := hg.size; simp at this; omega
  have hb3 := h.box3.keep (hkeep _ (by omega)) hz'
  have hset : ∀ b, b ≠ w.heap.size + 2 → (w'.setCell ⟨w.heap.size + 2, 3, none⟩ v').heap[b]? = w'.heap[b]? := fun b hb => Below.heap_setCell _ _ _ _ hb
  have hzs : (w'.setCell ⟨w.heap.size + 2, 3, none⟩ v').heap.size = w'.heap.size := by simp [World.setCell]
  obtain ⟨va, vc, hva⟩ := ho.shape
  refine ⟨v', w', hr, ⟨hb3.c3, hb3.f3⟩, ⟨?_, ?_, box_set3 hb3 v', ?_, ?_, ?_, by omega⟩, ⟨va, _, vc, hva⟩⟩
  · exact (h.box1.keep (hkeep _ (by omega)) hz').keep (hset _ (by omega)) (by omega)
  · exact (h.box2.keep (hkeep _ (by omega)) hz').keep (hset _ (by omega)) (by omega)
  · exact ho.keep (fun k hk => hset k (by have := (ho.row.lt k hk).1; omega)) (fun b hs _ => hset b (by omega)) (fun _ h _ => h)
  · rw [List.map_append, h.row, List.take_succ_eq_append_getElem (by rw [List.length_map]; exact hi), List.getElem_map]; rfl
  · refine ⟨hg.os.trans h.old.os, hg.tape.trans h.old.tape, hg.output.trans h.old.output, by have := h.old.size; omega, fun k hk => ?_⟩
    exact ((hset k (by omega)).trans (hkeep k (by omega))).trans (h.old.block k hk)
set_option maxHeartbeats 8000000 in
set_option maxRecDepth 100000 in
theorem plain_other (x : E) (hk : x.kind ≠ 1) (hp : plainE x = .mk x.kind x.n x.name (x.a.map plainE)) (ih : ∀ y ∈ x.a, PlOk y) (hsm : Ex.Sm x) : PlOk x := by
  intro w S sx hx
  have HPX := hide hp
  clear hp
  have hk1 : (x.kind == 1) = false := by simp [hk]
  have hln := hsm.len
  obtain ⟨xa, xc, hsx⟩ := hx.shape
  have b1 := alloc_below w (.cells #[.int .i64 x.kind, .int .i64 x.n, .string ⟨x.name.toArray⟩, sx] ET)
  have b2 := alloc_below (w.alloc (.cells #[.int .i64 x.kind, .int .i64 x.n, .string ⟨x.name.toArray⟩, sx] ET)) (.cells zE ET)
  have b3 := alloc_below ((w.alloc (.cells #[.int .i64 x.kind, .int .i64 x.n, .string ⟨x.name.toArray⟩, sx] ET)).alloc (.cells zE ET)) (.cells #[.int .i64 x.kind, .int .i64 x.n, .string ⟨x.name.toArray⟩, .slice none 0 0] ET)
  have z1 : (w.alloc (.cells #[.int .i64 x.kind, .int .i64 x.n, .string ⟨x.name.toArray⟩, sx] ET)).heap.size = w.heap.size + 1 := by simp
  have z2 : ((w.alloc (.cells #[.int .i64 x.kind, .int .i64 x.n, .string ⟨x.name.toArray⟩, sx] ET)).alloc (.cells zE ET)).heap.size = w.heap.size + 2 := by simp
  have HM : Hid (MidP w S x sx (((w.alloc (.cells #[.int .i64 x.kind, .int .i64 x.n, .string ⟨x.name.toArray⟩, sx] ET)).alloc (.cells zE ET)).alloc (.cells #[.int .i64 x.kind, .int .i64 x.n, .string ⟨x.name.toArray⟩, .slice none 0 0] ET)) 0 (.slice none 0 0) []) := hide (by
    have k1 := ((box_new w x sx ET).keep (b2.block _ (by omega)) b2.size).keep (b3.block _ (by omega)) b3.size
    have k2 := box_new (w.alloc (.cells #[.int .i64 x.kind, .int .i64 x.n, .string ⟨x.name.toArray⟩, sx] ET)) E.none (.slice none 0 0) ET
    rw [z1] at k2
    have k3 := box_new ((w.alloc (.cells #[.int .i64 x.kind, .int .i64 x.n, .string ⟨x.name.toArray⟩, sx] ET)).alloc (.cells zE ET)) x (.slice none 0 0) ET
    rw [z2] at k3
    exact ⟨k1, k2.keep (b3.block _ (by omega)) b3.size, k3, OwnF.nil _ _ _ _, by simp, bthen (bthen b1 b2) b3, by simp⟩)
  have HX := hide hx
  have IH := hide ih
  have HSM := hide hsm
  generalize hn : x.a.length = n at *
  subst hsx
  have HN := hide hn
  clear b1 b2 b3 z1 z2 hx ih hsm hn
  go_enter Tryz.func15, Tryz.ntmps15
  go_wp2_with fail
  generalize (((w.alloc (.cells #[.int .i64 x.kind, .int .i64 x.n, .string ⟨x.name.toArray⟩, .slice xa n xc] ET)).alloc (.cells zE ET)).alloc (.cells #[.int .i64 x.kind, .int .i64 x.n, .string ⟨x.name.toArray⟩, .slice none 0 0] ET)) = W3 at *
  go_loopw [4] (fun q wr => ∃ (i : Nat) (v : Value) (l : List (E × Value)), i ≤ n ∧ q = .int .i64 i ∧ Hid (MidP w S x (.slice xa n xc) wr i v l)) (fun q _ => n - (intOf q).toNat)
  case atStart => exact ⟨0, _, _, Nat.zero_le _, rfl, HM⟩
  case round =>
    obtain ⟨i, v, l, hi, rfl, HMM⟩ := hrel
    obtain ⟨a0, a1, a2, a3, -, -, -, -, -⟩ := (unhide HMM).box1
    obtain ⟨c0, c1, c2, c3, f0, f1, f2, f3, hg3⟩ := (unhide HMM).box3
    by_cases hlt : i < n
    · have hlt' : i < x.a.length := by rw [unhide HN]; exact hlt
      obtain ⟨bx, ox, cx, fx, hvx, hcx, hmx, hcellx, hforx⟩ := ((unhide HX).old (unhide HMM).old).at (by omega)
      injection hvx with hvx1 hvx2 hvx3
      subst hvx1
      obtain ⟨d0, d1, d2, d3⟩ := hcellx i hlt'
      have hsx := hforx i hlt'
      obtain ⟨ua, uc, hua⟩ := hsx.shape
      have HCA : Hid (∀ m, Calls Tryz.prog 15 #[treeV (x.a[i]) (fx i)] (wr.drewN m) fun e w' => ∃ sy, e = .returned (treeV (plainE x.a[i]) sy) ∧ Forest w' (fun b => wr.heap.size ≤ b) (plainE x.a[i]).a sy ∧ Below wr.heap.size wr w') := hide (fun m => by
        refine (unhide IH _ (List.getElem_mem hlt') (wr.drewN m) S (fx i) (hsx.old (below_drewN (Below.refl _ _) m))).mono ?_
        rintro e w' ⟨sy, h1, h2, h3⟩
        exact ⟨sy, h1, h2, (below_drewN (Below.refl _ _) m).trans h3⟩)
      rw [hua] at d3 HCA
      obtain ⟨va, vc, hva⟩ := (unhide HMM).own.shape
      generalize hll : l.length = ll at hva
      subst hva
      have HMO : Hid (∀ w5 sy, Forest w5 (fun b => wr.heap.size ≤ b) (plainE x.a[i]).a sy → Below wr.heap.size wr w5 → ∃ v' w', (Builtin.append_ #[ETS, ETS] ETS #[.slice va ll vc, .slice (some ⟨w5.heap.size, 0, none⟩) 1 1]).run Tryz.prog (w5.alloc (.cells #[.int .i64 (plainE x.a[i]).kind, .int .i64 (plainE x.a[i]).n, .string ⟨(plainE x.a[i]).name.toArray⟩, sy] ET)) = .ok v' w' ∧ (w'.cell? ⟨w.heap.size + 2, 3, none⟩ = some (.slice va ll vc) ∧ w'.frozen? ⟨w.heap.size + 2, 3, none⟩ = false) ∧ MidP w S x (.slice (some ⟨bx, ox, none⟩) n xc) (w'.setCell ⟨w.heap.size + 2, 3, none⟩ v') (i + 1) v' (l ++ [(plainE x.a[i], sy)]) ∧ ∃ a n c, v' = .slice a n c) := hide (fun w5 sy hf hb => ((unhide HMM).step hb).more hlt' (by rw [unhide HN]; exact hln) hf (unhide HMM).sz (fun k hk => ((unhide HMM).own.row.lt k hk).2))
      clear hcellx hforx hsx hua hvx2 hvx3 hcx hmx hll
      have hlt2 : (i : Int) < n := by omega
      have hp3 : w.heap.size + 2 < wr.heap.size := hg3
      generalize x.a[i].a.length = m2 at *
      go_wp2_with fail
      go_region_law (first
        | (go_simp; go_at_call 15; refine (unhide HCA _).mono ?_; rintro ev w5 ⟨sy, rfl, hf5, hb5⟩; obtain ⟨v9, w9, hr9, ⟨hc9, hf9⟩, hM9, va9, vn9, vc9, hv9⟩ := unhide HMO w5 sy hf5 hb5; obtain ⟨la5, lc5, hsl⟩ := hf5.shape; generalize hln5 : (plainE x.a[i]).a.length = ln5 at hsl; subst hsl; subst hv9; clear hln5; have k3 := (hb5.cell (p := ⟨w.heap.size + 2, 3, none⟩) hp3).trans c3; have hp5 : w.heap.size + 2 < w5.heap.size := Nat.lt_of_lt_of_le hp3 hb5.size; have k4 : (w5.alloc (.cells #[.int .i64 (plainE x.a[i]).kind, .int .i64 (plainE x.a[i]).n, .string ⟨(plainE x.a[i]).name.toArray⟩, .slice la5 ln5 lc5] ET)).cell? ⟨w.heap.size + 2, 3, none⟩ = some (.slice va ll vc) := ((alloc_below w5 _).cell (p := ⟨w.heap.size + 2, 3, none⟩) hp5).trans k3; have HM9 := hide hM9; have HR9 := hide hr9; clear hf5 hb5 hM9 hr9; dsimp only)
        | (refine step_append_runE rfl _ _ rfl rfl _ _ rfl rfl _ _ (unhide HR9) ?_))
      all_goals (
        go_wp2
        go_roundw
        case rel => exact ⟨i + 1, _, _, by omega, by go_num, HM9⟩
        case measure => simp [intOf]; omega)
    · have q1 : decide (i < n) = false := decide_eq_false hlt
      obtain ⟨e0, e1, e2, e3, z0, z1, z2, z3, hg2⟩ := (unhide HMM).box2
      have HF : Hid (Forest wr (fun b => w.heap.size + 3 ≤ b) (x.a.map plainE) v) := hide (by
        have := (unhide HMM).own.forest (fun k hk => ((unhide HMM).own.row.lt k hk).1)
        rwa [(unhide HMM).row, List.take_of_length_le (by rw [List.length_map]; have := unhide HN; omega)] at this)
      obtain ⟨va, vc, hva⟩ := (unhide HF).shape
      have hva2 : v = .slice va n vc := by rw [hva, List.length_map, unhide HN]
      clear hva
      subst hva2
      go_wp2
      refine bodyPost_ret (v := treeV x (.slice va n vc)) (by simp [results, Tryz.results15, go_sem, e0, e1, e2, e3]) rfl ⟨_, by rw [unhide HPX]; rfl, ?_, ?_⟩
      · rw [unhide HPX]
        exact (unhide HF).keep (fun b hs _ => heap_set4 _ _ _ _ _ _ _ (by omega)) (fun b hs _ => by omega)
      · have ho := (unhide HMM).old
        exact (((ho.setCell (p := ⟨w.heap.size + 1, 0, none⟩) (Nat.le_succ _) _).setCell (p := ⟨w.heap.size + 1, 1, none⟩) (Nat.le_succ _) _).setCell (p := ⟨w.heap.size + 1, 2, none⟩) (Nat.le_succ _) _).setCell (p := ⟨w.heap.size + 1, 3, none⟩) (Nat.le_succ _) _
set_option maxHeartbeats 8000000 in
set_option maxRecDepth 100000 in
theorem plain_pos (x : E) (hk : x.kind = 1) (hn0 : 0 ≤ x.n) (hp : plainE x = .mk x.kind x.n x.name (x.a.map plainE)) (ih : ∀ y ∈ x.a, PlOk y) (hsm : Ex.Sm x) : PlOk x := by
  intro w S sx hx
  have HPX := hide hp
  clear hp
  have hk1 : (x.kind == 1) = true := by simp [hk]
  clear hk
  have hn1 : (x.n == -9223372036854775808) = false := by simp; omega
  have hn2 : ¬ x.n < 0 := by omega
  have hln := hsm.len
  obtain ⟨xa, xc, hsx⟩ := hx.shape
  have b1 := alloc_below w (.cells #[.int .i64 x.kind, .int .i64 x.n, .string ⟨x.name.toArray⟩, sx] ET)
  have b2 := alloc_below (w.alloc (.cells #[.int .i64 x.kind, .int .i64 x.n, .string ⟨x.name.toArray⟩, sx] ET)) (.cells zE ET)
  have b3 := alloc_below ((w.alloc (.cells #[.int .i64 x.kind, .int .i64 x.n, .string ⟨x.name.toArray⟩, sx] ET)).alloc (.cells zE ET)) (.cells #[.int .i64 x.kind, .int .i64 x.n, .string ⟨x.name.toArray⟩, .slice none 0 0] ET)
  have z1 : (w.alloc (.cells #[.int .i64 x.kind, .int .i64 x.n, .string ⟨x.name.toArray⟩, sx] ET)).heap.size = w.heap.size + 1 := by simp
  have z2 : ((w.alloc (.cells #[.int .i64 x.kind, .int .i64 x.n, .string ⟨x.name.toArray⟩, sx] ET)).alloc (.cells zE ET)).heap.size = w.heap.size + 2 := by simp
  have HM : Hid (MidP w S x sx (((w.alloc (.cells #[.int .i64 x.kind, .int .i64 x.n, .string ⟨x.name.toArray⟩, sx] ET)).alloc (.cells zE ET)).alloc (.cells #[.int .i64 x.kind, .int .i64 x.n, .string ⟨x.name.toArray⟩, .slice none 0 0] ET)) 0 (.slice none 0 0) []) := hide (by
    have k1 := ((box_new w x sx ET).keep (b2.block _ (by omega)) b2.size).keep (b3.block _ (by omega)) b3.size
    have k2 := box_new (w.alloc (.cells #[.int .i64 x.kind, .int .i64 x.n, .string ⟨x.name.toArray⟩, sx] ET)) E.none (.slice none 0 0) ET
    rw [z1] at k2
    have k3 := box_new ((w.alloc (.cells #[.int .i64 x.kind, .int .i64 x.n, .string ⟨x.name.toArray⟩, sx] ET)).alloc (.cells zE ET)) x (.slice none 0 0) ET
    rw [z2] at k3
    exact ⟨k1, k2.keep (b3.block _ (by omega)) b3.size, k3, OwnF.nil _ _ _ _, by simp, bthen (bthen b1 b2) b3, by simp⟩)
  have HX := hide hx
  have IH := hide ih
  have HSM := hide hsm
  generalize hn : x.a.length = n at *
  subst hsx
  have HN := hide hn
  clear b1 b2 b3 z1 z2 hx ih hsm hn
  go_enter Tryz.func15, Tryz.ntmps15
  go_wp2_with fail
  generalize (((w.alloc (.cells #[.int .i64 x.kind, .int .i64 x.n, .string ⟨x.name.toArray⟩, .slice xa n xc] ET)).alloc (.cells zE ET)).alloc (.cells #[.int .i64 x.kind, .int .i64 x.n, .string ⟨x.name.toArray⟩, .slice none 0 0] ET)) = W3 at *
  go_loopw [4] (fun q wr => ∃ (i : Nat) (v : Value) (l : List (E × Value)), i ≤ n ∧ q = .int .i64 i ∧ Hid (MidP w S x (.slice xa n xc) wr i v l)) (fun q _ => n - (intOf q).toNat)
  case atStart => exact ⟨0, _, _, Nat.zero_le _, rfl, HM⟩
  case round =>
    obtain ⟨i, v, l, hi, rfl, HMM⟩ := hrel
    obtain ⟨a0, a1, a2, a3, -, -, -, -, -⟩ := (unhide HMM).box1
    obtain ⟨c0, c1, c2, c3, f0, f1, f2, f3, hg3⟩ := (unhide HMM).box3
    by_cases hlt : i < n
    · have hlt' : i < x.a.length := by rw [unhide HN]; exact hlt
      obtain ⟨bx, ox, cx, fx, hvx, hcx, hmx, hcellx, hforx⟩ := ((unhide HX).old (unhide HMM).old).at (by omega)
      injection hvx with hvx1 hvx2 hvx3
      subst hvx1
      obtain ⟨d0, d1, d2, d3⟩ := hcellx i hlt'
      have hsx := hforx i hlt'
      obtain ⟨ua, uc, hua⟩ := hsx.shape
      have HCA : Hid (∀ m, Calls Tryz.prog 15 #[treeV (x.a[i]) (fx i)] (wr.drewN m) fun e w' => ∃ sy, e = .returned (treeV (plainE x.a[i]) sy) ∧ Forest w' (fun b => wr.heap.size ≤ b) (plainE x.a[i]).a sy ∧ Below wr.heap.size wr w') := hide (fun m => by
        refine (unhide IH _ (List.getElem_mem hlt') (wr.drewN m) S (fx i) (hsx.old (below_drewN (Below.refl _ _) m))).mono ?_
        rintro e w' ⟨sy, h1, h2, h3⟩
        exact ⟨sy, h1, h2, (below_drewN (Below.refl _ _) m).trans h3⟩)
      rw [hua] at d3 HCA
      obtain ⟨va, vc, hva⟩ := (unhide HMM).own.shape
      generalize hll : l.length = ll at hva
      subst hva
      have HMO : Hid (∀ w5 sy, Forest w5 (fun b => wr.heap.size ≤ b) (plainE x.a[i]).a sy → Below wr.heap.size wr w5 → ∃ v' w', (Builtin.append_ #[ETS, ETS] ETS #[.slice va ll vc, .slice (some ⟨w5.heap.size, 0, none⟩) 1 1]).run Tryz.prog (w5.alloc (.cells #[.int .i64 (plainE x.a[i]).kind, .int .i64 (plainE x.a[i]).n, .string ⟨(plainE x.a[i]).name.toArray⟩, sy] ET)) = .ok v' w' ∧ (w'.cell? ⟨w.heap.size + 2, 3, none⟩ = some (.slice va ll vc) ∧ w'.frozen? ⟨w.heap.size + 2, 3, none⟩ = false) ∧ MidP w S x (.slice (some ⟨bx, ox, none⟩) n xc) (w'.setCell ⟨w.heap.size + 2, 3, none⟩ v') (i + 1) v' (l ++ [(plainE x.a[i], sy)]) ∧ ∃ a n c, v' = .slice a n c) := hide (fun w5 sy hf hb => ((unhide HMM).step hb).more hlt' (by rw [unhide HN]; exact hln) hf (unhide HMM).sz (fun k hk => ((unhide HMM).own.row.lt k hk).2))
      clear hcellx hforx hsx hua hvx2 hvx3 hcx hmx hll
      have hlt2 : (i : Int) < n := by omega
      have hp3 : w.heap.size + 2 < wr.heap.size := hg3
      generalize x.a[i].a.length = m2 at *
      go_wp2_with fail
      go_region_law (first
        | (go_simp; go_at_call 15; refine (unhide HCA _).mono ?_; rintro ev w5 ⟨sy, rfl, hf5, hb5⟩; obtain ⟨v9, w9, hr9, ⟨hc9, hf9⟩, hM9, va9, vn9, vc9, hv9⟩ := unhide HMO w5 sy hf5 hb5; obtain ⟨la5, lc5, hsl⟩ := hf5.shape; generalize hln5 : (plainE x.a[i]).a.length = ln5 at hsl; subst hsl; subst hv9; clear hln5; have k3 := (hb5.cell (p := ⟨w.heap.size + 2, 3, none⟩) hp3).trans c3; have hp5 : w.heap.size + 2 < w5.heap.size := Nat.lt_of_lt_of_le hp3 hb5.size; have k4 : (w5.alloc (.cells #[.int .i64 (plainE x.a[i]).kind, .int .i64 (plainE x.a[i]).n, .string ⟨(plainE x.a[i]).name.toArray⟩, .slice la5 ln5 lc5] ET)).cell? ⟨w.heap.size + 2, 3, none⟩ = some (.slice va ll vc) := ((alloc_below w5 _).cell (p := ⟨w.heap.size + 2, 3, none⟩) hp5).trans k3; have HM9 := hide hM9; have HR9 := hide hr9; clear hf5 hb5 hM9 hr9; dsimp only)
        | (refine step_append_runE rfl _ _ rfl rfl _ _ rfl rfl _ _ (unhide HR9) ?_))
      all_goals (
        go_wp2
        go_roundw
        case rel => exact ⟨i + 1, _, _, by omega, by go_num, HM9⟩
        case measure => simp [intOf]; omega)
    · have q1 : decide (i < n) = false := decide_eq_false hlt
      obtain ⟨e0, e1, e2, e3, z0, z1, z2, z3, hg2⟩ := (unhide HMM).box2
      have HF : Hid (Forest wr (fun b => w.heap.size + 3 ≤ b) (x.a.map plainE) v) := hide (by
        have := (unhide HMM).own.forest (fun k hk => ((unhide HMM).own.row.lt k hk).1)
        rwa [(unhide HMM).row, List.take_of_length_le (by rw [List.length_map]; have := unhide HN; omega)] at this)
      obtain ⟨va, vc, hva⟩ := (unhide HF).shape
      have hva2 : v = .slice va n vc := by rw [hva, List.length_map, unhide HN]
      clear hva
      subst hva2
      go_wp2
      refine bodyPost_ret (v := treeV x (.slice va n vc)) (by simp [results, Tryz.results15, go_sem, e0, e1, e2, e3]) rfl ⟨_, by rw [unhide HPX]; rfl, ?_, ?_⟩
      · rw [unhide HPX]
        exact (unhide HF).keep (fun b hs _ => heap_set4 _ _ _ _ _ _ _ (by omega)) (fun b hs _ => by omega)
      · have ho := (unhide HMM).old
        exact (((ho.setCell (p := ⟨w.heap.size + 1, 0, none⟩) (Nat.le_succ _) _).setCell (p := ⟨w.heap.size + 1, 1, none⟩) (Nat.le_succ _) _).setCell (p := ⟨w.heap.size + 1, 2, none⟩) (Nat.le_succ _) _).setCell (p := ⟨w.heap.size + 1, 3, none⟩) (Nat.le_succ _) _
set_option maxHeartbeats 4000000 in
set_option maxRecDepth 100000 in
theorem plain_neg (n : Int) (hn : n < 0) (h1 : -9223372036854775808 < n) : PlOk (.mk 1 n [] []) := by
  intro w S sx hx
  have hp : plainE (.mk 1 n [] []) = .mk 4 0 [] [.mk 1 (-n) [] []] := by rw [plainE, if_neg (fun h => by omega), if_pos ⟨rfl, hn⟩]
  rw [hp]
  obtain ⟨xa, xc, rfl⟩ := hx.shape
  have b1 := alloc_below w (.cells #[.int .i64 1, .int .i64 n, .string ⟨#[]⟩, .slice xa 0 xc] ET)
  have b2 := alloc_below (w.alloc (.cells #[.int .i64 1, .int .i64 n, .string ⟨#[]⟩, .slice xa 0 xc] ET)) (.cells zE ET)
  have hn1 : (n == -9223372036854775808) = false := by simp; omega
  have HZ := hide (show wrap64 (-n) = -n by unfold wrap64; omega)
  clear hx hp h1
  show Calls Tryz.prog 15 #[.agg #[.int .i64 1, .int .i64 n, .string ⟨#[]⟩, .slice xa 0 xc]] w _
  go_enter Tryz.func15, Tryz.ntmps15
  go_wp2_with fail
  rw [unhide HZ]
  have hz2 : ((w.alloc (.cells #[.int .i64 1, .int .i64 n, .string ⟨#[]⟩, .slice xa 0 xc] ET)).alloc (.cells #[.int .i64 4, .int .i64 0, .string ⟨#[]⟩, .slice (some ⟨w.heap.size + 1 + 1, 0, none⟩) 1 1] ET)).heap.size = w.heap.size + 1 + 1 := by simp
  have hf := forest_one (w := (w.alloc (.cells #[.int .i64 1, .int .i64 n, .string ⟨#[]⟩, .slice xa 0 xc] ET)).alloc (.cells #[.int .i64 4, .int .i64 0, .string ⟨#[]⟩, .slice (some ⟨w.heap.size + 1 + 1, 0, none⟩) 1 1] ET)) (S := fun b => w.heap.size ≤ b) (x := .mk 1 (-n) [] []) (t := ET) (.nil none 0) (by rw [hz2]; omega)
  rw [hz2] at hf
  refine bodyPost_ret (v := .agg #[.int .i64 4, .int .i64 0, .string ⟨#[]⟩, .slice (some ⟨w.heap.size + 1 + 1, 0, none⟩) 1 1]) (by simp [results, Tryz.results15, go_sem]) rfl ⟨_, rfl, hf, ?_⟩
  exact bthen (alloc_below w _) (bthen (alloc_below _ _) (alloc_below _ _))
set_option maxHeartbeats 4000000 in
set_option maxRecDepth 100000 in
theorem plain_least : PlOk (.mk 1 (-9223372036854775808) [] []) := by
  intro w S sx hx
  have hp : plainE (.mk 1 (-9223372036854775808) [] []) = .mk 6 0 [] [.mk 4 0 [] [.mk 1 9223372036854775807 [] []], .mk 1 1 [] []] := by rw [plainE, if_pos ⟨rfl, rfl⟩]
  rw [hp]
  obtain ⟨xa, xc, rfl⟩ := hx.shape
  have b12 := bthen (alloc_below w (.cells #[.int .i64 1, .int .i64 (-9223372036854775808), .string ⟨#[]⟩, .slice xa 0 xc] ET)) (alloc_below (w.alloc (.cells #[.int .i64 1, .int .i64 (-9223372036854775808), .string ⟨#[]⟩, .slice xa 0 xc] ET)) (.cells zE ET))
  have g0 : ((w.alloc (.cells #[.int .i64 1, .int .i64 (-9223372036854775808), .string ⟨#[]⟩, .slice xa 0 xc] ET)).alloc (.cells zE ET)).cell? ⟨w.heap.size + 1, 0, none⟩ = some (.int .i64 0) := by simp
  have g1 : ((w.alloc (.cells #[.int .i64 1, .int .i64 (-9223372036854775808), .string ⟨#[]⟩, .slice xa 0 xc] ET)).alloc (.cells zE ET)).cell? ⟨w.heap.size + 1, 1, none⟩ = some (.int .i64 0) := by simp
  have g2 : ((w.alloc (.cells #[.int .i64 1, .int .i64 (-9223372036854775808), .string ⟨#[]⟩, .slice xa 0 xc] ET)).alloc (.cells zE ET)).cell? ⟨w.heap.size + 1, 2, none⟩ = some (.string ⟨#[]⟩) := by simp
  have g3 : ((w.alloc (.cells #[.int .i64 1, .int .i64 (-9223372036854775808), .string ⟨#[]⟩, .slice xa 0 xc] ET)).alloc (.cells zE ET)).cell? ⟨w.heap.size + 1, 3, none⟩ = some (.slice none 0 0) := by simp
  have gf : ∀ o, ((w.alloc (.cells #[.int .i64 1, .int .i64 (-9223372036854775808), .string ⟨#[]⟩, .slice xa 0 xc] ET)).alloc (.cells zE ET)).frozen? ⟨w.heap.size + 1, o, none⟩ = false := fun o => by simp
  have HC := hide (plain_neg (-9223372036854775807) (by decide) (by decide) ((w.alloc (.cells #[.int .i64 1, .int .i64 (-9223372036854775808), .string ⟨#[]⟩, .slice xa 0 xc] ET)).alloc (.cells zE ET)) S (.slice none 0 0) (.nil none 0))
  have HB := hide b12
  clear hx hp b12
  show Calls Tryz.prog 15 #[.agg #[.int .i64 1, .int .i64 (-9223372036854775808), .string ⟨#[]⟩, .slice xa 0 xc]] w _
  go_enter Tryz.func15, Tryz.ntmps15
  go_wp2_with fail
  refine (unhide HC).mono ?_
  rintro ev w3 ⟨sy, rfl, hf, hb⟩
  have hp4 : plainE (.mk 1 (-9223372036854775807) [] []) = .mk 4 0 [] [.mk 1 9223372036854775807 [] []] := by rw [plainE, if_neg (fun h => absurd h.2 (by decide)), if_pos ⟨rfl, by decide⟩]; rfl
  rw [hp4] at hf ⊢
  obtain ⟨ya, yc, hys⟩ := hf.shape
  have hys2 : sy = .slice ya 1 yc := hys
  subst hys2
  have r0 := (hb.cell (p := ⟨w.heap.size + 1, 0, none⟩) (by simp)).trans g0
  have r1 := (hb.cell (p := ⟨w.heap.size + 1, 1, none⟩) (by simp)).trans g1
  have r2 := (hb.cell (p := ⟨w.heap.size + 1, 2, none⟩) (by simp)).trans g2
  have r3 := (hb.cell (p := ⟨w.heap.size + 1, 3, none⟩) (by simp)).trans g3
  have rf : ∀ o, w3.frozen? ⟨w.heap.size + 1, o, none⟩ = false := fun o => (hb.frozen (p := ⟨w.heap.size + 1, o, none⟩) (by simp)).trans (gf o)
  have hs3 := hb.size
  have HB2 := hide (bthen (unhide HB) hb)
  have HF := hide hf
  clear g0 g1 g2 g3 gf hys hf hp4 hb HC
  have hlt : w.heap.size + 1 < w3.heap.size := by simp at hs3; omega
  clear hs3
  show (match Ending.returned (.agg #[.int .i64 4, .int .i64 0, .string ⟨#[]⟩, .slice ya 1 yc]), w3 with | _, _ => _)
  go_wp2_with fail
  have hsz2 : ((w.alloc (.cells #[.int .i64 1, .int .i64 (-9223372036854775808), .string ⟨#[]⟩, .slice xa 0 xc] ET)).alloc (.cells zE ET)).heap.size = w.heap.size + 2 := by simp
  have hWX : ((((w3.setCell ⟨w.heap.size + 1, 0, none⟩ (.int .i64 6)).setCell ⟨w.heap.size + 1, 1, none⟩ (.int .i64 0)).setCell ⟨w.heap.size + 1, 2, none⟩ (.string ⟨#[]⟩)).setCell ⟨w.heap.size + 1, 3, none⟩ (.slice (some ⟨w3.heap.size, 0, none⟩) 2 2)).heap.size = w3.heap.size := by simp [World.setCell]
  have hf := unhide HF
  rw [hsz2] at hf
  have f1 : Forest ((((w3.setCell ⟨w.heap.size + 1, 0, none⟩ (.int .i64 6)).setCell ⟨w.heap.size + 1, 1, none⟩ (.int .i64 0)).setCell ⟨w.heap.size + 1, 2, none⟩ (.string ⟨#[]⟩)).setCell ⟨w.heap.size + 1, 3, none⟩ (.slice (some ⟨w3.heap.size, 0, none⟩) 2 2)) (fun b => w.heap.size ≤ b) [.mk 1 9223372036854775807 [] []] (.slice ya 1 yc) := Forest.keep hf (fun b hs _ => heap_set4 _ _ _ _ _ _ _ (by omega)) (fun b hs _ => by omega)
  have f2 := forest_two (w := ((((w3.setCell ⟨w.heap.size + 1, 0, none⟩ (.int .i64 6)).setCell ⟨w.heap.size + 1, 1, none⟩ (.int .i64 0)).setCell ⟨w.heap.size + 1, 2, none⟩ (.string ⟨#[]⟩)).setCell ⟨w.heap.size + 1, 3, none⟩ (.slice (some ⟨w3.heap.size, 0, none⟩) 2 2))) (S := fun b => w.heap.size ≤ b) (x := .mk 4 0 [] [.mk 1 9223372036854775807 [] []]) (y := .mk 1 1 [] []) (t := ET) f1 (.nil none 0) (by rw [hWX]; omega)
  rw [hWX] at f2
  have kc : ∀ (o : Obj) (i : Nat) (v : Value), ((((w3.setCell ⟨w.heap.size + 1, 0, none⟩ (.int .i64 6)).setCell ⟨w.heap.size + 1, 1, none⟩ (.int .i64 0)).setCell ⟨w.heap.size + 1, 2, none⟩ (.string ⟨#[]⟩)).setCell ⟨w.heap.size + 1, 3, none⟩ (.slice (some ⟨w3.heap.size, 0, none⟩) 2 2)).cell? ⟨w.heap.size + 1, i, none⟩ = some v → (((((w3.setCell ⟨w.heap.size + 1, 0, none⟩ (.int .i64 6)).setCell ⟨w.heap.size + 1, 1, none⟩ (.int .i64 0)).setCell ⟨w.heap.size + 1, 2, none⟩ (.string ⟨#[]⟩)).setCell ⟨w.heap.size + 1, 3, none⟩ (.slice (some ⟨w3.heap.size, 0, none⟩) 2 2)).alloc o).cell? ⟨w.heap.size + 1, i, none⟩ = some v := fun o i v h => ((alloc_below _ o).cell (p := ⟨w.heap.size + 1, i, none⟩) (by rw [hWX]; exact hlt)).trans h
  have k0 := fun o => kc o 0 (.int .i64 6) (by simp [go_sem, r0])
  have k1 := fun o => kc o 1 (.int .i64 0) (by simp [go_sem, r1])
  have k2 := fun o => kc o 2 (.string ⟨#[]⟩) (by simp [go_sem, r2])
  have k3 := fun o => kc o 3 (.slice (some ⟨w3.heap.size, 0, none⟩) 2 2) (by simp [go_sem, r3])
  refine bodyPost_ret (v := .agg #[.int .i64 6, .int .i64 0, .string ⟨#[]⟩, .slice (some ⟨w3.heap.size, 0, none⟩) 2 2]) (by simp [results, Tryz.results15, go_sem, k0, k1, k2, k3]) rfl ⟨_, rfl, f2, ?_⟩
  have ho := unhide HB2
  exact bthen ((((ho.setCell (p := ⟨w.heap.size + 1, 0, none⟩) (Nat.le_succ _) _).setCell (p := ⟨w.heap.size + 1, 1, none⟩) (Nat.le_succ _) _).setCell (p := ⟨w.heap.size + 1, 2, none⟩) (Nat.le_succ _) _).setCell (p := ⟨w.heap.size + 1, 3, none⟩) (Nat.le_succ _) _) (alloc_below _ _)
theorem rx_sm : ∀ x : E, RX x → Ex.Sm x := by
  intro x h
  induction h with
  | num x hk hs ha => exact .mk x (by rw [ha]; decide) (fun y hy => by rw [ha] at hy; cases hy)
  | var x hk hn hs ha => exact .mk x (by rw [ha]; decide) (fun y hy => by rw [ha] at hy; cases hy)
  | elem x hk hn hs h1 h4 h ih => exact .mk x (by omega) ih
  | neg x hk hn hs h1 h ih => exact .mk x (by omega) ih
  | two x hk hn hs h1 h ih => exact .mk x (by omega) ih
/-- the law's plain, at any right tree -/
theorem plain_any : ∀ x : E, RX x → NumX x → PlOk x := by
  intro x h
  have hx := h
  induction h with
  | num x hk hs ha =>
    intro hn
    cases x with
    | mk k n nm a =>
      obtain rfl : k = 1 := hk
      obtain rfl : nm = [] := hs
      obtain rfl : a = [] := ha
      have hb := hn.num
      by_cases c1 : n = -9223372036854775808
      · subst c1; exact plain_least
      · by_cases c2 : n < 0
        · exact plain_neg n c2 (by have := hb.1; simp only [E.n] at this; omega)
        · exact plain_pos _ rfl (by show 0 ≤ n; omega) (by rw [plainE, if_neg (fun h => c1 h.2), if_neg (fun h => c2 h.2), plainL]; rfl) (fun y hy => by cases hy) (rx_sm _ hx)
  | var x hk hn hs ha => exact fun _ => plain_other x (by omega) (by cases x; rw [plain_mk (by show _ ≠ _; simp only [E.kind] at hk; omega), plainL_map]; rfl) (fun y hy => by rw [ha] at hy; cases hy) (rx_sm _ hx)
  | elem x hk hn hs h1 h4 h ih => exact fun hN => plain_other x (by omega) (by cases x; rw [plain_mk (by show _ ≠ _; simp only [E.kind] at hk; omega), plainL_map]; rfl) (fun y hy => ih y hy (h y hy) (hN.part y hy)) (rx_sm _ hx)
  | neg x hk hn hs h1 h ih => exact fun hN => plain_other x (by omega) (by cases x; rw [plain_mk (by show _ ≠ _; simp only [E.kind] at hk; omega), plainL_map]; rfl) (fun y hy => ih y hy (h y hy) (hN.part y hy)) (rx_sm _ hx)
  | two x hk hn hs h1 h ih => exact fun hN => plain_other x (by omega) (by cases x; rw [plain_mk (by show _ ≠ _; simp only [E.kind] at hk; omega), plainL_map]; rfl) (fun y hy => ih y hy (h y hy) (hN.part y hy)) (rx_sm _ hx)
end Go.Proofs.YtepnafnljfjeoaaGreatDoor.Line
