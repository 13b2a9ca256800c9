/- FormRing at all arguments answers true and changes nothing: the row, and the tied card. No condition on the arguments beyond the row s own. -/
import Derived.Test.YtmbhamnkbpcljaaDoorLaidL
import Derived.Test.YtmbhamnkbpcljaaDoorLnFR
import Derived.Test.YtmbhamnkbpcljaaDoorLnArgK
import Derived.Test.YtmbhamnkbpcljaaDoorLnKn
import Derived.Test.YtmbhamnkbpcljaaDoorTrodN
namespace Go.Proofs.YtmbhamnkbpcljaaDoor.formRing
open Go.ChangeShapes Go.WideShapes Go.ChangeAt Go.RowKit Go.ChangeMaps

set_option maxRecDepth 100000 in
theorem lifted (os : Os) (started : os.Started) (H : Type) (enc : TypeId × Value → H) :
    ReturnsInHanded {} Tryd.checked os 7 .any (fun w args => (Rows.formRingSpec.pre enc Tryd.prog Tryd.f7 [] false w args ∧ laidMetH Tryd.prog Rows.formRingRow.laid w) ∧ sizedMet enc Tryd.prog Tryd.f7 (OpenSpec.ofChange Rows.formRingSpec) false w args)
      (Rows.formRingSpec.post enc Tryd.prog Tryd.f7 false true false false) := by
  refine returnsInHanded_of_change_and (C := Tryd.checked) (X := fun w _ => laidMetH Tryd.prog Rows.formRingRow.laid w) (fun _ _ _ hh h => h.of_heap hh) Laid.own started (by kernel_rfl) Tryd.func7
    (ChangeSpec.witness_shaped (enc := enc) (C := Tryd.checked) (os := os) (X := fun w _ => laidMetH Tryd.prog Rows.formRingRow.laid w) false (World.layVars Tryd.prog { World.holding Tryd.prog os ⟨#[], #[], []⟩ with heap := (World.holding Tryd.prog os ⟨#[], #[], []⟩).heap.modify 0 Laid.setHandle } Laid.plainList) #[.slice none 0 0, .slice none 0 0, .int .i16 0, .int .i16 0, .int .i16 0, .slice none 0 0] 8 (Laid.world_os os)
      (Laid.shaped os) (by kernel_rfl) (by kernel_rfl) (by kernel_rfl) (Laid.met os _)) ?_
  intro W base args ds gs before hval0 hW _ _ hL _
  have hval : ∀ (j : Nat) t v, Tryd.f7.params[j]? = some t → args[j]? = some v → Value.okWide Tryd.prog W .any base t v := hval0
  have hW' := hW
  obtain ⟨p, q, hA0, hV, rfl, _, _⟩ := hW
  have hA : DataW.TrodAll enc Tryd.prog W 0 (fun _ => true) true Tryd.f7.params.toList args.toList ds p := hA0
  rw [Tryd.params7] at hA hval
  obtain ⟨v0, v1, v2, v3, v4, v5, d0, d1, d2, d3, d4, d5, p0, p1, p2, p3, p4, p5, rfl, rfl, rfl, h0, h1, h2, h3, h4, h5⟩ := Line.trodAll_six hA
  obtain ⟨rfl, rfl⟩ := trodVars_none hV
  have lt0 := Line.trod_lt h0
  obtain ⟨l0, r0, b0⟩ := Line.arg_i16s (hval 0 66 v0 rfl rfl) h0
  have lt1 := Line.trod_lt h1
  obtain ⟨l1, r1, b1⟩ := Line.arg_i16s (hval 1 66 v1 rfl rfl) h1
  obtain ⟨x2, rfl, rfl, rfl, w2⟩ := open_int Tryd.underlying62 (hval 2 62 v2 rfl rfl) h2
  have b2 := bounds_i16 w2
  obtain ⟨x3, rfl, rfl, rfl, w3⟩ := open_int Tryd.underlying62 (hval 3 62 v3 rfl rfl) h3
  have b3 := bounds_i16 w3
  obtain ⟨x4, rfl, rfl, rfl, w4⟩ := open_int Tryd.underlying62 (hval 4 62 v4 rfl rfl) h4
  have b4 := bounds_i16 w4
  have lt5 := Line.trod_lt h5
  obtain ⟨l5, r5, b5⟩ := Line.arg_i16s (hval 5 66 v5 rfl rfl) h5
  simp only [List.append_nil, List.nil_append] at hW'
  have hG : Line.Glob W := Laid.handle hL
  have hT : Line.Tab W := Laid.tab hL
  refine (Line.formRing_walk W v0 v1 v5 l0 l1 l5 x2 x3 x4 (Line.known_any W hG hT) r0 r1 r5 b0 b1 b5 b2 b3 b4).mono fun e W' ⟨he, hb⟩ => ?_
  subst he
  exact ⟨_, rfl, _, _, _, [], _, [], hW', trodAll_mk1 (shut_bool Tryd.underlying4 _), Line.trodAll_mk6 (Below.trod Line.laidOut (by kernel_rfl) (of_decide_eq_true (by kernel_rfl)) h0 hb lt0) (Below.trod Line.laidOut (by kernel_rfl) (of_decide_eq_true (by kernel_rfl)) h1 hb lt1) (shut_int Tryd.underlying62 w2) (shut_int Tryd.underlying62 w3) (shut_int Tryd.underlying62 w4) (Below.trod Line.laidOut (by kernel_rfl) (of_decide_eq_true (by kernel_rfl)) h5 hb lt5), rfl, hb.frame _, fun h => by cases h⟩

theorem holds : Rows.FormRingSaid :=
  OpenClaim.holds_of_wide 7 Tryd.f7 rfl rfl rfl rfl rfl rfl rfl ⟨rfl, rfl, rfl, rfl, rfl⟩ rfl rfl rfl rfl rfl (by kernel_rfl) Tryd.func7 (by kernel_rfl)
    (of_decide_eq_true (by kernel_rfl)) (by unfold Func.isWrapper; first | (rw [if_pos (by decide +kernel)]; kernel_rfl) | (rw [if_neg (by decide +kernel)]; exact ⟨rfl, rfl⟩))
    (fun os started H enc _ => lifted os started H enc)
theorem plain (f : FuncId) (fn : Func) (hf : Tryd.pinned.checked.prog.funcNamed Rows.formRingRow.func = some f) (hfn : Tryd.pinned.checked.prog.funcs[f]? = some fn) :
    true = Tryd.pinned.checked.prog.looks [] ∧ ∀ (j : Nat) t, fn.params[j]? = some t → Tryd.pinned.checked.prog.wantsStandIn t = false := by
  obtain rfl : f = 7 := Option.some.inj ((show Tryd.prog.funcNamed Rows.formRingRow.func = some 7 by kernel_rfl).symm.trans hf) |>.symm
  obtain rfl : fn = Tryd.f7 := (Option.some.inj (Tryd.func7.symm.trans hfn)).symm
  refine ⟨by kernel_rfl, fun j t ht => ?_⟩
  rw [Tryd.params7] at ht
  have hm : t ∈ [66, 66, 62, 62, 62, 66] := by simpa using Array.mem_of_getElem? ht
  have hall : ([66, 66, 62, 62, 62, 66].all fun u => !Tryd.prog.wantsStandIn u) = true := by kernel_rfl
  exact (show Tryd.prog.wantsStandIn t = false by simpa using List.all_eq_true.1 hall t hm)
theorem card_holds : Rows.FormRingCardSaid :=
  Claim7.holds_tied_plain_at .later [] _ _ _ _ holds (fun _ h => by cases h) (by kernel_rfl) (fun _ h => by cases h) formRing_row_tie rfl ⟨rfl, rfl⟩ (by kernel_rfl) rfl plain (by kernel_rfl)
end Go.Proofs.YtmbhamnkbpcljaaDoor.formRing

namespace Go.Proofs.YtmbhamnkbpcljaaDoor
theorem formRing_holds : Rows.FormRingCardSaid := formRing.card_holds
end Go.Proofs.YtmbhamnkbpcljaaDoor
