/- The contracts of sema.own and of a Table's Find. -/
import Derived.Test.YtomnbidppkpfiaaDoorEvTab
namespace Go.Proofs.YtomnbidppkpfiaaDoor.Line
open Go.ChangeShapes Go.WideShapes Go.ChangeAt Go.RowKit
open Ex (E)
open Ev (Sy Res)
set_option linter.unusedVariables false

theorem own_keep {base n size : Nat} {t : TypeId} {w w' : World} {v : Value} {xs : List Value} (h : w.ownsRow base t size v n xs) (hk : ∀ k, v.ownBlock = some k → w'.heap[k]? = w.heap[k]?) : w'.ownsRow base t size v n xs := by
  refine ⟨h.1, ?_⟩
  rcases h.2 with h2 | ⟨g, cap, cur, hv, hg, hh, r⟩
  · exact .inl h2
  · exact .inr ⟨g, cap, cur, hv, hg, (hk g (by rw [hv]; rfl)).trans hh, r⟩
theorem ownI_run (w : World) (v : Value) (l : List Int) (h : Ints w v l) (hn : l.length ≤ 1000000) : ∃ v' w', (Builtin.append_ #[25, 25] 25 #[.slice none 0 0, v]).run Tryd.prog w = .ok v' w' ∧ (∀ W : World, (∀ b, w.heap.size ≤ b → b < w'.heap.size → W.heap[b]? = w'.heap[b]?) → Ints W v' l) ∧ Below w.heap.size w w' := by
  obtain ⟨i0, hi, hz0, hz1, hz2⟩ := info_parts infoZ
  by_cases h0 : l.length = 0
  · obtain rfl : l = [] := List.length_eq_zero_iff.1 h0
    obtain ⟨a, cap, rfl⟩ := h.shape
    refine ⟨.slice none 0 0, w, ?_, fun W _ => Ints.nil W, Below.refl _ _⟩
    cases a <;> simp [Builtin.append_, run_underlying Tryd.underlying25, sizeOf, typeInfo, hi, Builtin.lenOf, Builtin.firstCells, loadCells, loadCellsFrom]
  · obtain ⟨b, off, cap, rfl, hc, hm, hcell⟩ := h.at (by omega)
    obtain ⟨v', w', hrun, ho, hg, _, _⟩ := run_append_own_at (P := Tryd.prog) w w.heap.size 25 25 2 i0 _ 1 8 Tryd.underlying25 hi hz0 hz1 hz2 rfl (by decide) (.slice none 0 0) 0 [] (World.ownsRow_nil _ _ _ _) ⟨b, off, none⟩ l.length cap (l.map (Value.int .i64)) (by simp) (fun j u hu => by
      have hj : j < l.length := by
        rcases Nat.lt_or_ge j l.length with h | h
        · exact h
        · rw [List.getElem?_eq_none (by simpa using h)] at hu; cases hu
      have e : u = .int .i64 l[j] := by simpa [hj] using hu.symm
      rw [e, Addr.add_mid]; exact hcell j hj) (fun u hu => by obtain ⟨z, -, rfl⟩ := List.mem_map.1 hu; rfl) (by unfold maxLen; omega) (by omega) (Nat.le_refl _)
    rw [Nat.zero_add, List.nil_append] at ho
    exact ⟨v', w', hrun, fun W hW => own_ints (own_keep ho (fun k hk => hW k (ho.lt k hk).1 (ho.lt k hk).2)), ⟨hg.os, hg.tape, hg.output, hg.size, fun q hq => hg.block q hq (fun e => by cases e)⟩⟩
set_option maxHeartbeats 1000000 in
theorem own_any (w : World) (v : Value) (l : List Int) (h : Ints w v l) (hn : l.length ≤ 1000000) :
    Calls Tryd.prog 50 #[v] w fun e w' => ∃ v', e = .returned v' ∧ (∀ W : World, (∀ b, w.heap.size ≤ b → b < w'.heap.size → W.heap[b]? = w'.heap[b]?) → Ints W v' l) ∧ Below w.heap.size w w' := by
  obtain ⟨v', w', hr, ho, hb⟩ := ownI_run w v l h hn
  obtain ⟨a, cap, rfl⟩ := h.shape
  have HR := hide hr
  have HO := hide (And.intro ho hb)
  clear hr ho hb
  go_enter Tryd.func50, Tryd.ntmps50
  go_wp2_with (at_builtin; refine wpList_append_runG 25 rfl _ _ rfl rfl _ _ rfl rfl _ _ (unhide HR) ?_)
  go_ret
  exact ⟨v', rfl, unhide HO⟩
theorem box2_keep {w wr : World} {z0 z1 : Value} {t : TypeId} (hb : Below (w.alloc (.cells #[z0, z1] t)).heap.size (w.alloc (.cells #[z0, z1] t)) wr) : wr.cell? ⟨w.heap.size, 0, none⟩ = some z0 ∧ wr.cell? ⟨w.heap.size, 1, none⟩ = some z1 := by
  have h0 : (w.alloc (.cells #[z0, z1] t)).heap.size = w.heap.size + 1 := by simp
  exact ⟨(hb.cell (p := ⟨w.heap.size, 0, none⟩) (show w.heap.size < _ by omega)).trans (by simp), (hb.cell (p := ⟨w.heap.size, 1, none⟩) (show w.heap.size < _ by omega)).trans (by simp)⟩
/-- where Find stands -/
structure FnM (w wr : World) (sv : Value) (c : Int) (T : List Sy) : Prop where
  t0 : wr.cell? ⟨w.heap.size, 0, none⟩ = some sv
  t1 : wr.cell? ⟨w.heap.size, 1, none⟩ = some (.int .i64 c)
  r0 : wr.cell? ⟨w.heap.size + 1, 0, none⟩ = some (.string ⟨#[]⟩)
  r1 : wr.cell? ⟨w.heap.size + 1, 1, none⟩ = some (.slice none 0 0)
  r2 : wr.cell? ⟨w.heap.size + 1, 2, none⟩ = some (.int .i64 0)
  r3 : wr.cell? ⟨w.heap.size + 1, 3, none⟩ = some (.int .i64 0)
  f0 : wr.frozen? ⟨w.heap.size + 1, 0, none⟩ = false
  f1 : wr.frozen? ⟨w.heap.size + 1, 1, none⟩ = false
  f2 : wr.frozen? ⟨w.heap.size + 1, 2, none⟩ = false
  f3 : wr.frozen? ⟨w.heap.size + 1, 3, none⟩ = false
  syms : Syms wr sv T
  old : Below w.heap.size w wr
  sz : w.heap.size + 2 ≤ wr.heap.size
theorem FnM.below {w wr w2 : World} {sv : Value} {c : Int} {T : List Sy} (h : FnM w wr sv c T) (hb : Below wr.heap.size wr w2) : FnM w w2 sv c T := by
  have hs := h.sz
  have hc : ∀ {b o : Nat} {v : Value}, wr.cell? ⟨b, o, none⟩ = some v → w2.cell? ⟨b, o, none⟩ = some v := fun {b o v} h => (hb.cell (p := ⟨b, o, none⟩) (cell_lt h)).trans h
  have hf : ∀ o, w2.frozen? ⟨w.heap.size + 1, o, none⟩ = wr.frozen? ⟨w.heap.size + 1, o, none⟩ := fun o => hb.frozen (p := ⟨w.heap.size + 1, o, none⟩) (show w.heap.size + 1 < _ by omega)
  exact ⟨hc h.t0, hc h.t1, hc h.r0, hc h.r1, hc h.r2, hc h.r3, (hf 0).trans h.f0, (hf 1).trans h.f1, (hf 2).trans h.f2, (hf 3).trans h.f3, h.syms.below hb, bthen h.old hb, by have := hb.size; omega⟩
theorem fnM_start {w : World} {sv : Value} {c : Int} {T : List Sy} (h : Syms w sv T) (t1 t2 : TypeId) : FnM w ((w.alloc (.cells #[sv, .int .i64 c] t1)).alloc (.cells #[.string ⟨#[]⟩, .slice none 0 0, .int .i64 0, .int .i64 0] t2)) sv c T := by
  have hb : Below w.heap.size w ((w.alloc (.cells #[sv, .int .i64 c] t1)).alloc (.cells #[.string ⟨#[]⟩, .slice none 0 0, .int .i64 0, .int .i64 0] t2)) := ((Below.refl _ _).alloc (Nat.le_refl _) _).alloc (by simp) _
  refine ⟨?_, ?_, ?_, ?_, ?_, ?_, ?_, ?_, ?_, ?_, h.below hb, hb, by simp⟩ <;> simp [go_sem]
theorem heap_set5 (w : World) (a1 a2 a3 a4 a5 : Addr) (u1 u2 u3 u4 u5 : Value) (b : Nat) (h1 : b ≠ a1.block) (h2 : b ≠ a2.block) (h3 : b ≠ a3.block) (h4 : b ≠ a4.block) (h5 : b ≠ a5.block) : (((((w.setCell a1 u1).setCell a2 u2).setCell a3 u3).setCell a4 u4).setCell a5 u5).heap[b]? = w.heap[b]? := by
  rw [Below.heap_setCell _ _ _ _ h5, Below.heap_setCell _ _ _ _ h4, Below.heap_setCell _ _ _ _ h3, Below.heap_setCell _ _ _ _ h2, Below.heap_setCell _ _ _ _ h1]
theorem find_drop (T : List Sy) (name : List UInt8) (k : Nat) (h : k < T.length) : Ev.find (T.drop k) name = if T[k].name = name then some T[k] else Ev.find (T.drop (k + 1)) name := by
  rw [List.drop_eq_getElem_cons h, Ev.find]
abbrev TbT : TypeId := 46
abbrev SyT : TypeId := 70
theorem beq_of_ne {a b : List UInt8} (h : a ≠ b) : (a == b) = false := beq_eq_false_iff_ne.2 h
set_option maxHeartbeats 8000000 in
set_option maxRecDepth 100000 in
theorem find_any (w : World) (sv : Value) (c : Int) (T : List Sy) (name : List UInt8) (hs : Syms w sv T) (hd : ∀ x ∈ T, x.dims.length ≤ 1000) :
    Calls Tryd.prog 38 #[.agg #[sv, .int .i64 c], .string ⟨name.toArray⟩] w fun e w' => ∃ dv, e = .returned (.tuple #[symV ((Ev.find T name).getD Ev.zSy) dv, .bool (Ev.find T name).isSome]) ∧ Ints w' dv ((Ev.find T name).getD Ev.zSy).dims ∧ Below w.heap.size w w' := by
  have HM := hide (fnM_start (c := c) hs TbT SyT)
  have hln : T.length ≤ 9223372036854775807 := by obtain ⟨_, cap, _, h2, h3, _⟩ := hs; unfold maxLen at h3; omega
  obtain ⟨sa, sc, rfl⟩ := hs.shape
  have HD := hide hd
  clear hs hd
  generalize hn : T.length = n at *
  have HN := hide hn
  clear hn
  go_enter Tryd.func38, Tryd.ntmps38
  go_wp2_with fail
  generalize ((w.alloc (.cells #[.slice sa n sc, .int .i64 c] TbT)).alloc (.cells #[.string ⟨#[]⟩, .slice none 0 0, .int .i64 0, .int .i64 0] SyT)) = W2 at *
  go_loopw [11] (fun q wr => ∃ i : Nat, i ≤ n ∧ q = .int .i64 i ∧ Hid (FnM w wr (.slice sa n sc) c T) ∧ Hid (Ev.find T name = Ev.find (T.drop i) name)) (fun q _ => n - (intOf q).toNat)
  case atStart => exact ⟨0, Nat.zero_le _, rfl, HM, hide (by rw [List.drop_zero])⟩
  case round =>
    obtain ⟨i, hi, rfl, HMM, HF⟩ := hrel
    by_cases hlt : i < n
    · have hlt' : i < T.length := by rw [unhide HN]; exact hlt
      obtain ⟨b, off, cap, dv, hv, hcap, hmax, hcell⟩ := (unhide HMM).syms.at (by omega)
      injection hv with hv1 hv2 hv3
      subst hv1 hv3
      obtain ⟨⟨c0, c1, c2, c3⟩, hI⟩ := hcell i hlt'
      have hfd := find_drop T name i hlt'
      have hdl := unhide HD _ (List.getElem_mem hlt')
      have hlt2 : (i : Int) < n := by omega
      clear hcell hv2
      generalize T[i] = x at *
      obtain ⟨da, dc, hda⟩ := hI.shape
      have HI := hide hI
      clear hI
      generalize hdn : x.dims.length = dn at *
      rw [hda] at c1 HI
      by_cases hx : x.name = name
      · rw [if_pos hx] at hfd
        subst hx
        have HFN := hide ((unhide HF).trans hfd)
        clear hfd
        have ha := alloc_below wr (.cells #[.string ⟨x.name.toArray⟩, .slice da dn dc, .int .i64 x.at_, .int .i64 x.size] SyT)
        have HOW := hide (own_any _ _ _ ((unhide HI).below ha) (by omega))
        have HM2 := hide ((unhide HMM).below ha)
        clear ha
        go_wp2_with fail
        refine (unhide HOW).mono ?_
        rintro ev w5 ⟨v5, rfl, hi5, hb5⟩
        obtain ⟨va, vc, hv5⟩ := (hi5 w5 (fun _ _ _ => rfl)).shape
        obtain ⟨r0, r1, r2, r3, f0, f1, f2, f3, ho, hz⟩ : (w5.cell? ⟨w.heap.size + 1, 0, none⟩ = some (.string ⟨#[]⟩)) ∧ (w5.cell? ⟨w.heap.size + 1, 1, none⟩ = some (.slice none 0 0)) ∧ (w5.cell? ⟨w.heap.size + 1, 2, none⟩ = some (.int .i64 0)) ∧ (w5.cell? ⟨w.heap.size + 1, 3, none⟩ = some (.int .i64 0)) ∧ w5.frozen? ⟨w.heap.size + 1, 0, none⟩ = false ∧ w5.frozen? ⟨w.heap.size + 1, 1, none⟩ = false ∧ w5.frozen? ⟨w.heap.size + 1, 2, none⟩ = false ∧ w5.frozen? ⟨w.heap.size + 1, 3, none⟩ = false ∧ Below w.heap.size w w5 ∧ w.heap.size + 2 ≤ w5.heap.size := by
          have := (unhide HM2).below hb5
          exact ⟨this.r0, this.r1, this.r2, this.r3, this.f0, this.f1, this.f2, this.f3, this.old, this.sz⟩
        have hsr := (unhide HMM).sz
        obtain ⟨x0, x1, x2, x3, g0, g1, g2, g3⟩ : w5.cell? ⟨wr.heap.size, 0, none⟩ = some (.string ⟨x.name.toArray⟩) ∧ w5.cell? ⟨wr.heap.size, 1, none⟩ = some (.slice da dn dc) ∧ w5.cell? ⟨wr.heap.size, 2, none⟩ = some (.int .i64 x.at_) ∧ w5.cell? ⟨wr.heap.size, 3, none⟩ = some (.int .i64 x.size) ∧ w5.frozen? ⟨wr.heap.size, 0, none⟩ = false ∧ w5.frozen? ⟨wr.heap.size, 1, none⟩ = false ∧ w5.frozen? ⟨wr.heap.size, 2, none⟩ = false ∧ w5.frozen? ⟨wr.heap.size, 3, none⟩ = false := by
          have hl : wr.heap.size < (wr.alloc (.cells #[.string ⟨x.name.toArray⟩, .slice da dn dc, .int .i64 x.at_, .int .i64 x.size] SyT)).heap.size := by simp
          refine ⟨?_, ?_, ?_, ?_, ?_, ?_, ?_, ?_⟩
          · exact (hb5.cell (p := ⟨wr.heap.size, 0, none⟩) hl).trans (by simp)
          · exact (hb5.cell (p := ⟨wr.heap.size, 1, none⟩) hl).trans (by simp)
          · exact (hb5.cell (p := ⟨wr.heap.size, 2, none⟩) hl).trans (by simp)
          · exact (hb5.cell (p := ⟨wr.heap.size, 3, none⟩) hl).trans (by simp)
          · exact (hb5.frozen (p := ⟨wr.heap.size, 0, none⟩) hl).trans (by simp)
          · exact (hb5.frozen (p := ⟨wr.heap.size, 1, none⟩) hl).trans (by simp)
          · exact (hb5.frozen (p := ⟨wr.heap.size, 2, none⟩) hl).trans (by simp)
          · exact (hb5.frozen (p := ⟨wr.heap.size, 3, none⟩) hl).trans (by simp)
        have HO5 := hide (And.intro hi5 ho)
        have hws : (wr.alloc (.cells #[.string ⟨x.name.toArray⟩, .slice da dn dc, .int .i64 x.at_, .int .i64 x.size] SyT)).heap.size = wr.heap.size + 1 := by simp
        clear hi5 hb5 ho HOW HM2
        have hne : ¬ w.heap.size + 1 = wr.heap.size := by omega
        have hne2 : ¬ wr.heap.size = w.heap.size + 1 := by omega
        subst hv5
        go_wp2_with fail
        have hf : Ev.find T x.name = some x := unhide HFN
        refine bodyPost_ret (v := .tuple #[symV x (.slice va dn vc), .bool true]) (by simp [results, Tryd.results38, go_sem, r0, r1, r2, r3]) rfl ⟨_, by rw [hf]; rfl, ?_, ?_⟩
        · rw [hf]
          show Ints _ (.slice va dn vc) x.dims
          rw [← hdn]
          refine (unhide HO5).1 _ (fun b hb hl => ?_)
          rw [hws] at hb
          exact heap_set5 _ _ _ _ _ _ _ _ _ _ _ _ (by show b ≠ wr.heap.size; omega) (by show b ≠ w.heap.size + 1; omega) (by show b ≠ w.heap.size + 1; omega) (by show b ≠ w.heap.size + 1; omega) (by show b ≠ w.heap.size + 1; omega)
        · exact ((((((unhide HO5).2.setCell (p := ⟨wr.heap.size, 1, none⟩) (by show w.heap.size ≤ wr.heap.size; omega) _).setCell (p := ⟨w.heap.size + 1, 0, none⟩) (Nat.le_succ _) _).setCell (p := ⟨w.heap.size + 1, 1, none⟩) (Nat.le_succ _) _).setCell (p := ⟨w.heap.size + 1, 2, none⟩) (Nat.le_succ _) _).setCell (p := ⟨w.heap.size + 1, 3, none⟩) (Nat.le_succ _) _)
      · have hxb := beq_of_ne hx
        rw [if_neg hx] at hfd
        have HFN := hide ((unhide HF).trans hfd)
        have HX := hide hx
        clear hx hfd
        have HM2 := hide ((unhide HMM).below (alloc_below wr (.cells #[.string ⟨x.name.toArray⟩, .slice da dn dc, .int .i64 x.at_, .int .i64 x.size] SyT)))
        go_wp2_with fail
        go_roundw
        case rel => exact ⟨i + 1, by omega, by go_num, HM2, HFN⟩
        case measure => simp [intOf]; omega
    · have hnone : Ev.find T name = none := by rw [unhide HF, List.drop_of_length_le (by have := unhide HN; omega)]; rfl
      obtain ⟨-, -, r0, r1, r2, r3, f0, f1, f2, f3, -, ho, hz⟩ := unhide HMM
      have HO := hide ho
      clear ho
      go_wp2_with fail
      refine bodyPost_ret (v := .tuple #[symV Ev.zSy (.slice none 0 0), .bool false]) (by simp [results, Tryd.results38, go_sem, Ev.zSy, r0, r1, r2, r3]) rfl ⟨_, by rw [hnone]; rfl, by rw [hnone]; exact Ints.nil _, ?_⟩
      exact (((((unhide HO).setCell (p := ⟨w.heap.size + 1, 0, none⟩) (Nat.le_succ _) _).setCell (p := ⟨w.heap.size + 1, 1, none⟩) (Nat.le_succ _) _).setCell (p := ⟨w.heap.size + 1, 2, none⟩) (Nat.le_succ _) _).setCell (p := ⟨w.heap.size + 1, 3, none⟩) (Nat.le_succ _) _)
end Go.Proofs.YtomnbidppkpfiaaDoor.Line
