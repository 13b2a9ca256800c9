/- The contract of the reference's Find. -/
import Derived.Test.YtomnbidppkpfiaaDoorEvAdd
namespace Go.Proofs.YtomnbidppkpfiaaDoor.Line
open Go.ChangeShapes Go.WideShapes Go.ChangeAt Go.RowKit
open Ex (E)
open Ev (Sy Res)
set_option linter.unusedVariables false

theorem rfM_start {w : World} {sv : Value} {c : Int} {T : List Sy} (h : Syms w sv T) (t1 t2 : TypeId) : FnM w ((w.alloc (.cells #[sv, .int .i64 c] t1)).alloc (.cells #[.string ⟨#[]⟩, .slice none 0 0, .int .i64 0, .int .i64 0] t2)) sv c T := fnM_start h t1 t2
theorem dims_of {w : World} {dv : Value} {x : Sy} (h : Ints w dv x.dims) : ∃ a c, dv = .slice a x.dims.length c := h.shape
set_option maxHeartbeats 8000000 in
set_option maxRecDepth 100000 in
theorem rfind_any (w : World) (sv : Value) (c : Int) (T : List Sy) (name : List UInt8) (hs : Syms w sv T) :
    Calls Tryd.prog 22 #[.agg #[sv, .int .i64 c], .string ⟨name.toArray⟩] w fun e w' => ∃ dv, e = .returned (.tuple #[symV ((Ev.find T name).getD Ev.zSy) dv, .bool (Ev.find T name).isSome]) ∧ Ints w' dv ((Ev.find T name).getD Ev.zSy).dims ∧ Below w.heap.size w w' := by
  have HM := hide (fnM_start (c := c) hs RTb RSy)
  have HS := hide hs
  have hln : T.length ≤ 9223372036854775807 := by obtain ⟨_, cap, _, h2, h3, _⟩ := hs; unfold maxLen at h3; omega
  obtain ⟨sa, sc, rfl⟩ := hs.shape
  clear hs
  generalize hn : T.length = n at *
  have HN := hide hn
  clear hn
  go_enter Tryd.func22, Tryd.ntmps22
  go_wp2_with fail
  generalize ((w.alloc (.cells #[.slice sa n sc, .int .i64 c] RTb)).alloc (.cells #[.string ⟨#[]⟩, .slice none 0 0, .int .i64 0, .int .i64 0] RSy)) = W2 at *
  go_loopw [6] (fun q wr => ∃ i : Nat, i ≤ n ∧ q = .int .i64 i ∧ Hid (FnM w wr (.slice sa n sc) c T) ∧ Hid (Ev.find T name = Ev.find (T.drop i) name)) (fun q _ => n - (intOf q).toNat)
  case atStart => exact ⟨0, Nat.zero_le _, rfl, HM, hide (by rw [List.drop_zero])⟩
  case round =>
    obtain ⟨i, hi, rfl, HMM, HF⟩ := hrel
    obtain ⟨t0, -, r0, r1, r2, r3, f0, f1, f2, f3, -, ho, hz⟩ := unhide HMM
    have HO := hide ho
    clear ho
    by_cases hlt : i < n
    · have hlt' : i < T.length := by rw [unhide HN]; exact hlt
      obtain ⟨b, off, cap, dv, hv, hcap, hmax, hcell⟩ := (unhide HMM).syms.at (by omega)
      injection hv with hv1 hv2 hv3
      subst hv1 hv3
      obtain ⟨⟨c0, c1, c2, c3⟩, hI⟩ := hcell i hlt'
      have hfd := find_drop T name i hlt'
      have hlt2 : (i : Int) < n := by omega
      have HW : Hid (∃ dw, Ints w dw T[i].dims ∧ dw = dv i) := hide (by
        obtain ⟨b', off', cap', dv', hv', _, _, hcell'⟩ := (unhide HS).at (by omega)
        injection hv' with e1 e2 e3
        injection e1 with e1
        injection e1 with e1 e4
        subst e1 e4
        obtain ⟨⟨_, c1', _, _⟩, hI'⟩ := hcell' i hlt'
        refine ⟨dv' i, hI', ?_⟩
        have := ((unhide HO).cell (p := ⟨b, off + i * 4 + 1, none⟩) (cell_lt c1')).trans c1'
        rw [c1] at this
        exact (Option.some.inj this).symm)
      clear hcell hv2
      generalize T[i] = x at *
      obtain ⟨da, dc, hda⟩ := hI.shape
      clear hI
      generalize hdn : x.dims.length = dn at *
      rw [hda] at c1
      by_cases hx : x.name = name
      · rw [if_pos hx] at hfd
        subst hx
        have HFN := hide ((unhide HF).trans hfd)
        clear hfd
        go_wp2_with fail
        have hf : Ev.find T x.name = some x := unhide HFN
        refine bodyPost_ret (v := .tuple #[symV x (.slice da dn dc), .bool true]) (by simp [results, Tryd.results22, go_sem, r0, r1, r2, r3]) rfl ⟨_, by rw [hf]; rfl, ?_, ?_⟩
        · rw [hf]
          obtain ⟨dw, h1, h2⟩ := unhide HW
          rw [hda] at h2
          subst h2
          exact h1.below (((((unhide HO).setCell (p := ⟨w.heap.size + 1, 0, none⟩) (Nat.le_succ _) _).setCell (p := ⟨w.heap.size + 1, 1, none⟩) (Nat.le_succ _) _).setCell (p := ⟨w.heap.size + 1, 2, none⟩) (Nat.le_succ _) _).setCell (p := ⟨w.heap.size + 1, 3, none⟩) (Nat.le_succ _) _)
        · exact (((((unhide HO).setCell (p := ⟨w.heap.size + 1, 0, none⟩) (Nat.le_succ _) _).setCell (p := ⟨w.heap.size + 1, 1, none⟩) (Nat.le_succ _) _).setCell (p := ⟨w.heap.size + 1, 2, none⟩) (Nat.le_succ _) _).setCell (p := ⟨w.heap.size + 1, 3, none⟩) (Nat.le_succ _) _)
      · have hxb := beq_of_ne hx
        rw [if_neg hx] at hfd
        have HFN := hide ((unhide HF).trans hfd)
        have HX := hide hx
        clear hx hfd
        go_wp2_with fail
        go_roundw
        case rel => exact ⟨i + 1, by omega, by go_num, HMM, HFN⟩
        case measure => simp [intOf]; omega
    · have hnone : Ev.find T name = none := by rw [unhide HF, List.drop_of_length_le (by have := unhide HN; omega)]; rfl
      go_wp2_with fail
      refine bodyPost_ret (v := .tuple #[symV Ev.zSy (.slice none 0 0), .bool false]) (by simp [results, Tryd.results22, go_sem, Ev.zSy, r0, r1, r2, r3]) rfl ⟨_, by rw [hnone]; rfl, by rw [hnone]; exact Ints.nil _, ?_⟩
      exact (((((unhide HO).setCell (p := ⟨w.heap.size + 1, 0, none⟩) (Nat.le_succ _) _).setCell (p := ⟨w.heap.size + 1, 1, none⟩) (Nat.le_succ _) _).setCell (p := ⟨w.heap.size + 1, 2, none⟩) (Nat.le_succ _) _).setCell (p := ⟨w.heap.size + 1, 3, none⟩) (Nat.le_succ _) _)
end Go.Proofs.YtomnbidppkpfiaaDoor.Line
