/- EditBack, walked: at all lines and all edits it answers true. -/
import Derived.Test.YtcfbigkmhboepaaDoorKnownD
import Derived.Test.YtcfbigkmhboepaaDoorPlainMore
import Derived.Test.YtcfbigkmhboepaaDoorFew
namespace Go.Proofs.YtcfbigkmhboepaaDoor.Line
open Go.ChangeShapes Go.WideShapes Go.ChangeAt Go.RowKit
set_option linter.unusedVariables false

/-- what is led back and forth -/
theorem back_facts {L : List (List UInt8)} {E : List RawE} (h1 : L.length ≤ 40) (h2 : E.length ≤ 20) (h3 : ∀ i (h : i < E.length), E[i].n.length ≤ 20) (hok : (Edits.errE (L.length : Int) E).1 = 0) :
    ∃ (M : List (List UInt8)) (K J : List RawE), made L E = M ∧ M.length ≤ 1000000 ∧ backs L E = K ∧ K.length ≤ 1000000 ∧ Edits.errE (M.length : Int) K = (0, 0) ∧ made M K = L ∧ backs M K = J ∧ J.length ≤ 1000000 ∧ Edits.errE (L.length : Int) J = (0, 0) ∧ made L J = M := by
  obtain ⟨hV, _⟩ := Edits.vld_of L.length E (noBad _ E (by omega) hok)
  have hbk : ∀ (X : List (List UInt8)) (F : List (Edits.Ed (List UInt8))) a p, (Edits.bk X a p F).length = F.length := by
    intro X F
    induction F with
    | nil => intro a p; rfl
    | cons e es ih => intro a p; show (_ :: Edits.bk X e.t _ es).length = _; rw [List.length_cons, ih]; rfl
  have e1 : made L E = Edits.ap L 0 (E.map Edits.nat) := if_pos hok
  have e2 : backs L E = (Edits.bk L 0 0 (E.map Edits.nat)).map raw := if_pos hok
  have v2 := Edits.back_vld L _ hV
  have l2 := Edits.back_leads L _ hV
  have v3 : Edits.Vld L.length 0 (Edits.bk (Edits.ap L 0 (E.map Edits.nat)) 0 0 (Edits.bk L 0 0 (E.map Edits.nat))) := by
    have := Edits.back_vld _ _ v2
    rwa [l2] at this
  refine ⟨_, _, _, e1, ?_, e2, ?_, errE_raw _ v2, ?_, backs_raw _ _ v2, ?_, errE_raw _ v3, ?_⟩
  · rw [← e1]; exact made_len (by omega) h2 h3
  · rw [List.length_map, hbk, List.length_map]; omega
  · rw [made_raw _ _ v2, l2]
  · rw [List.length_map, hbk, hbk, List.length_map]; omega
  · rw [made_raw _ _ v3, Edits.forth_again L _ hV]

set_option maxHeartbeats 4000000 in
theorem editBack_any (u v : Value) (L : List (List UInt8)) (E : List RawE) (w : World) (hu : Row w u L) (hv : Eds w v E) (hA : L.length ≤ 9223372036854775807) (hB : E.length ≤ 9223372036854775807) (hG : Glob w) : Calls Tryd.prog 4 #[u, v] w fun e w' => e = .returned (.bool true) ∧ Below w.heap.size w w' := by
  have HU := hide hu
  have HV := hide hv
  have HG := hide hG
  obtain ⟨o, c, rfl, -⟩ := hu.arg
  obtain ⟨o', c', rfl⟩ := hv.shape
  clear hu hv hG
  go_enter Tryd.func4, Tryd.ntmps4
  go_wp2_with fail
  refine (known_any w (unhide HG)).mono ?_
  rintro e w1 ⟨rfl, hb1⟩
  have hU1 := (unhide HU).below hb1
  have hV1 := (unhide HV).below hb1
  have hG1 := (unhide HG).below hb1
  have H1 := hide (And.intro hU1 (And.intro hV1 (And.intro hG1 hb1)))
  have HF := hide (few_any o L.length c _ E w1 hV1 hA hB)
  clear hU1 hV1 hG1 hb1 HU HV HG
  by_cases hf0 : fewB L.length E = false
  · rw [hf0] at HF
    clear hf0
    go_wp2_with fail
    refine (unhide HF).mono ?_
    rintro e w2 ⟨rfl, rfl⟩
    go_wp2
    go_ret
    exact ⟨rfl, (unhide H1).2.2.2⟩
  have hf : fewB L.length E = true := by simpa using hf0
  clear hf0
  rw [hf] at HF
  obtain ⟨f1, f2, f3⟩ := fewB_yes hf
  clear hf
  have HF3 := hide f3
  clear f3
  go_wp2_with fail
  refine (unhide HF).mono ?_
  rintro e w2 ⟨rfl, rfl⟩
  clear HF
  go_wp2_with fail
  obtain ⟨hU1, hV1, hG1, hb1⟩ := unhide H1
  refine (apply_any _ _ L E _ hG1 hU1 hV1 (by omega) (by omega) (made_len (by omega) f2 (unhide HF3))).mono ?_
  rintro e w3 ⟨y, g, rfl, hy, hs, hb3⟩
  by_cases hok : ¬ (Edits.errE (L.length : Int) E).1 = 0
  · have hm0 : made L E = [] := if_neg hok
    rw [hm0] at hy
    rcases hs with ⟨h, _⟩ | ⟨_, b, _, rfl, _⟩
    · exact absurd h hok
    obtain ⟨a3, c3, rfl⟩ := hy.shape
    have H3 := hide (bthen hb1 hb3)
    clear hU1 hV1 hG1 hb1 H1 hb3 hy hm0 HF3 hok
    go_wp2
    go_ret
    exact ⟨rfl, unhide H3⟩
  replace hok := Decidable.not_not.1 hok
  obtain rfl := hs.ok hok
  obtain ⟨M, K, J, e1, e2, e3, e4, e5, e6, e7, e8, e9, e10⟩ := back_facts f1 f2 (unhide HF3) hok
  rw [e1] at hy
  obtain ⟨a3, c3, rfl⟩ := hy.shape
  have HE := hide (And.intro e1 (And.intro e2 (And.intro e3 (And.intro e4 (And.intro e5 (And.intro e6 (And.intro e7 (And.intro e8 (And.intro e9 e10)))))))))
  clear e1 e2 e3 e4 e5 e6 e7 e8 e9 e10
  have HOK := hide hok
  have H3 := hide (And.intro (hU1.below hb3) (And.intro (hV1.below hb3) (And.intro (hG1.below hb3) (And.intro hy.row (bthen hb1 hb3)))))
  clear hU1 hV1 hG1 hb1 H1 hb3 hy hs hok
  go_wp2_with fail
  obtain ⟨hU3, hV3, hG3, hM3, hB3⟩ := unhide H3
  refine (back_any _ _ L E _ hG3 hU3 hV3 (by omega) (by omega) (by rw [(unhide HE).1]; exact (unhide HE).2.1)).mono ?_
  rintro e w4 ⟨y, g, rfl, hy, hs, hb4⟩
  obtain rfl := hs.ok (unhide HOK)
  rw [(unhide HE).2.2.1] at hy
  obtain ⟨a4, c4, rfl⟩ := hy.eds.shape
  have H4 := hide (And.intro (hU3.below hb4) (And.intro (hG3.below hb4) (And.intro (hM3.below hb4) (And.intro hy.eds (bthen hB3 hb4)))))
  clear hU3 hV3 hG3 hM3 hB3 H3 hb4 hy hs
  go_wp2_with fail
  obtain ⟨hU4, hG4, hM4, hK4, hB4⟩ := unhide H4
  obtain ⟨e1, e2, e3, e4, e5, e6, e7, e8, e9, e10⟩ := unhide HE
  refine (apply_any _ _ M K _ hG4 hM4 hK4 e4 e2 (by rw [e6]; omega)).mono ?_
  rintro e w5 ⟨y, g, rfl, hy, hs, hb5⟩
  obtain rfl := hs.ok (by rw [e5])
  rw [e6] at hy
  obtain ⟨a5, c5, rfl⟩ := hy.shape
  have H5 := hide (And.intro (hU4.below hb5) (And.intro (hG4.below hb5) (And.intro (hM4.below hb5) (And.intro (hK4.below hb5) (And.intro hy.row (bthen hB4 hb5))))))
  clear hU4 hG4 hM4 hK4 hB4 H4 hb5 hy hs e1 e2 e3 e4 e5 e6 e7 e8 e9 e10
  go_wp2_with fail
  obtain ⟨hU5, hG5, hM5, hK5, hC5, hB5⟩ := unhide H5
  obtain ⟨e1, e2, e3, e4, e5, e6, e7, e8, e9, e10⟩ := unhide HE
  refine (back_any _ _ M K _ hG5 hM5 hK5 e4 e2 (by rw [e6]; omega)).mono ?_
  rintro e w6 ⟨y, g, rfl, hy, hs, hb6⟩
  obtain rfl := hs.ok (by rw [e5])
  rw [e7] at hy
  obtain ⟨a6, c6, rfl⟩ := hy.eds.shape
  have H6 := hide (And.intro (hU5.below hb6) (And.intro (hG5.below hb6) (And.intro (hM5.below hb6) (And.intro (hC5.below hb6) (And.intro hy.eds (bthen hB5 hb6))))))
  clear hU5 hG5 hM5 hK5 hC5 hB5 H5 hb6 hy hs e1 e2 e3 e4 e5 e6 e7 e8 e9 e10
  go_wp2_with fail
  obtain ⟨hU6, hG6, hM6, hC6, hD6, hB6⟩ := unhide H6
  obtain ⟨e1, e2, e3, e4, e5, e6, e7, e8, e9, e10⟩ := unhide HE
  refine (apply_any _ _ L J _ hG6 hC6 hD6 e8 (by omega) (by rw [e10]; exact e2)).mono ?_
  rintro e w7 ⟨y, g, rfl, hy, hs, hb7⟩
  obtain rfl := hs.ok (by rw [e9])
  rw [e10] at hy
  obtain ⟨a7, c7, rfl⟩ := hy.shape
  have H7 := hide (And.intro (hU6.below hb7) (And.intro (hM6.below hb7) (And.intro (hC6.below hb7) (And.intro hy.row (bthen hB6 hb7)))))
  clear hU6 hG6 hM6 hC6 hD6 hB6 H6 hb7 hy hs e1 e2 e3 e4 e5 e6 e7 e8 e9 e10
  go_wp2_with fail
  obtain ⟨hU7, hM7, hC7, hN7, hB7⟩ := unhide H7
  refine (sameLines_eq _ _ L _ hC7 hU7 (by omega)).mono ?_
  rintro e w8 ⟨rfl, n8, rfl⟩
  have H8 := hide (And.intro (hM7.drewN n8) (And.intro (hN7.drewN n8) (below_drewN hB7 n8)))
  clear hU7 hM7 hC7 hN7 hB7 H7
  go_wp2_with fail
  obtain ⟨hM8, hN8, hB8⟩ := unhide H8
  refine (sameLines_eq _ _ M _ hN8 hM8 (by have := (unhide HE).2.1; omega)).mono ?_
  rintro e w9 ⟨rfl, n9, rfl⟩
  have H9 := hide (below_drewN hB8 n9)
  clear hM8 hN8 hB8 H8
  go_wp2
  go_ret
  exact ⟨rfl, by have := unhide H9; rwa [World.drewN_drewN] at this⟩
end Go.Proofs.YtcfbigkmhboepaaDoor.Line
