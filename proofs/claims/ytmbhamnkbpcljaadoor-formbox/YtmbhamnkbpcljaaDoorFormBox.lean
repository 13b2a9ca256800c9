/- FormBox at all arguments answers true and changes nothing: the row, and the tied card. No condition on the arguments beyond the row s own. -/
import Derived.Test.YtmbhamnkbpcljaaDoorLaidL
import Derived.Test.YtmbhamnkbpcljaaDoorLnFB
import Derived.Test.YtmbhamnkbpcljaaDoorLnArgK
import Derived.Test.YtmbhamnkbpcljaaDoorLnKn
import Derived.Test.YtmbhamnkbpcljaaDoorTrodN
namespace Go.Proofs.YtmbhamnkbpcljaaDoor.formBox
open Go.ChangeShapes Go.WideShapes Go.ChangeAt Go.RowKit Go.ChangeMaps

set_option maxRecDepth 100000 in
theorem lifted (os : Os) (started : os.Started) (H : Type) (enc : TypeId × Value → H) :
    ReturnsInHanded {} Tryd.checked os 6 .any (fun w args => (Rows.formBoxSpec.pre enc Tryd.prog Tryd.f6 [] false w args ∧ laidMetH Tryd.prog Rows.formBoxRow.laid w) ∧ sizedMet enc Tryd.prog Tryd.f6 (OpenSpec.ofChange Rows.formBoxSpec) false w args)
      (Rows.formBoxSpec.post enc Tryd.prog Tryd.f6 false true false false) := by
  refine returnsInHanded_of_change_and (C := Tryd.checked) (X := fun w _ => laidMetH Tryd.prog Rows.formBoxRow.laid w) (fun _ _ _ hh h => h.of_heap hh) Laid.own started (by kernel_rfl) Tryd.func6
    (ChangeSpec.witness_shaped (enc := enc) (C := Tryd.checked) (os := os) (X := fun w _ => laidMetH Tryd.prog Rows.formBoxRow.laid w) false (World.layVars Tryd.prog { World.holding Tryd.prog os ⟨#[], #[], []⟩ with heap := (World.holding Tryd.prog os ⟨#[], #[], []⟩).heap.modify 0 Laid.setHandle } Laid.plainList) #[.slice none 0 0, .int .i16 0, .slice none 0 0, .slice none 0 0] 8 (Laid.world_os os)
      (Laid.shaped os) (by kernel_rfl) (by kernel_rfl) (by kernel_rfl) (Laid.met os _)) ?_
  intro W base args ds gs before hval0 hW _ _ hL _
  have hval : ∀ (j : Nat) t v, Tryd.f6.params[j]? = some t → args[j]? = some v → Value.okWide Tryd.prog W .any base t v := hval0
  have hW' := hW
  obtain ⟨p, q, hA0, hV, rfl, _, _⟩ := hW
  have hA : DataW.TrodAll enc Tryd.prog W 0 (fun _ => true) true Tryd.f6.params.toList args.toList ds p := hA0
  rw [Tryd.params6] at hA hval
  obtain ⟨v0, v1, v2, v3, d0, d1, d2, d3, p0, p1, p2, p3, rfl, rfl, rfl, h0, h1, h2, h3⟩ := Line.trodAll_fourR hA
  obtain ⟨rfl, rfl⟩ := trodVars_none hV
  have lt0 := Line.trod_lt h0
  obtain ⟨l0, r0, b0⟩ := Line.arg_i8s (hval 0 61 v0 rfl rfl) h0
  obtain ⟨x1, rfl, rfl, rfl, w1⟩ := open_int Tryd.underlying62 (hval 1 62 v1 rfl rfl) h1
  have b1 := bounds_i16 w1
  have lt2 := Line.trod_lt h2
  obtain ⟨l2, r2, b2⟩ := Line.arg_i8s (hval 2 61 v2 rfl rfl) h2
  have lt3 := Line.trod_lt h3
  obtain ⟨l3, r3, b3⟩ := Line.arg_u8s (hval 3 63 v3 rfl rfl) h3
  simp only [List.append_nil, List.nil_append] at hW'
  have hG : Line.Glob W := Laid.handle hL
  have hT : Line.Tab W := Laid.tab hL
  refine (Line.formBox_walk W v0 v2 v3 l0 l2 l3 x1 (Line.known_any W hG hT) r0 r2 r3 b0 b2 b3 b1).mono fun e W' ⟨he, hb⟩ => ?_
  subst he
  exact ⟨_, rfl, _, _, _, [], _, [], hW', trodAll_mk1 (shut_bool Tryd.underlying4 _), Line.trodAll_mk4 (Below.trod Line.laidOut (by kernel_rfl) (of_decide_eq_true (by kernel_rfl)) h0 hb lt0) (shut_int Tryd.underlying62 w1) (Below.trod Line.laidOut (by kernel_rfl) (of_decide_eq_true (by kernel_rfl)) h2 hb lt2) (Below.trod Line.laidOut (by kernel_rfl) (of_decide_eq_true (by kernel_rfl)) h3 hb lt3), rfl, hb.frame _, fun h => by cases h⟩

theorem holds : Rows.FormBoxSaid :=
  OpenClaim.holds_of_wide 6 Tryd.f6 rfl rfl rfl rfl rfl rfl rfl ⟨rfl, rfl, rfl, rfl, rfl⟩ rfl rfl rfl rfl rfl (by kernel_rfl) Tryd.func6 (by kernel_rfl)
    (of_decide_eq_true (by kernel_rfl)) (by unfold Func.isWrapper; first | (rw [if_pos (by decide +kernel)]; kernel_rfl) | (rw [if_neg (by decide +kernel)]; exact ⟨rfl, rfl⟩))
    (fun os started H enc _ => lifted os started H enc)
theorem plain (f : FuncId) (fn : Func) (hf : Tryd.pinned.checked.prog.funcNamed Rows.formBoxRow.func = some f) (hfn : Tryd.pinned.checked.prog.funcs[f]? = some fn) :
    true = Tryd.pinned.checked.prog.looks [] ∧ ∀ (j : Nat) t, fn.params[j]? = some t → Tryd.pinned.checked.prog.wantsStandIn t = false := by
  obtain rfl : f = 6 := Option.some.inj ((show Tryd.prog.funcNamed Rows.formBoxRow.func = some 6 by kernel_rfl).symm.trans hf) |>.symm
  obtain rfl : fn = Tryd.f6 := (Option.some.inj (Tryd.func6.symm.trans hfn)).symm
  refine ⟨by kernel_rfl, fun j t ht => ?_⟩
  rw [Tryd.params6] at ht
  have hm : t ∈ [61, 62, 61, 63] := by simpa using Array.mem_of_getElem? ht
  have hall : ([61, 62, 61, 63].all fun u => !Tryd.prog.wantsStandIn u) = true := by kernel_rfl
  exact (show Tryd.prog.wantsStandIn t = false by simpa using List.all_eq_true.1 hall t hm)
theorem card_holds : Rows.FormBoxCardSaid :=
  Claim7.holds_tied_plain_at .later [] _ _ _ _ holds (fun _ h => by cases h) (by kernel_rfl) (fun _ h => by cases h) formBox_row_tie rfl ⟨rfl, rfl⟩ (by kernel_rfl) rfl plain (by kernel_rfl)
end Go.Proofs.YtmbhamnkbpcljaaDoor.formBox

namespace Go.Proofs.YtmbhamnkbpcljaaDoor
theorem formBox_holds : Rows.FormBoxCardSaid := formBox.card_holds
end Go.Proofs.YtmbhamnkbpcljaaDoor
