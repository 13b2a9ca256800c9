/- The law's known of blocks: its lines, by reckoning.
   The law's known of blocks, walked.
   What the laws of blocks do to rows of lines: one more line, two more. -/
import Derived.Test.YthkbchefjagbbaaGreatDoorTrFindA
import Derived.Test.YthkbchefjagbbaaGreatDoorSplitA
import Derived.Test.YthkbchefjagbbaaGreatDoorBaseAll
import Derived.Test.YthkbchefjagbbaaGreatDoorTellsA
namespace Go.Proofs.YthkbchefjagbbaaGreatDoor.Line
open Ex (E St)
open Plain (errS rowS wordS atS)
set_option linter.unusedVariables false

def knQ : List LP := [([105, 110, 116, 101, 103, 101, 114, 32, 120, 10], .decl [([120], [])]), ([100, 111, 32, 120, 32, 61, 32, 49, 44, 32, 50, 10], .loop [120] (.mk 1 1 [] []) (.mk 1 2 [] []) 1), ([10], .plain 0), ([105, 102, 32, 40, 120, 32, 60, 32, 50, 41, 32, 116, 104, 101, 110, 10], .cond [60] (.mk 2 0 [120] []) (.mk 1 2 [] [])), ([112, 114, 105, 110, 116, 32, 120, 10], .pr (.mk 2 0 [120] [])), ([101, 108, 115, 101, 10], .plain 6), ([101, 110, 100, 32, 105, 102, 10], .plain 7), ([101, 110, 100, 32, 100, 111, 10], .plain 4)]
def knT : List UInt8 := [105, 110, 116, 101, 103, 101, 114, 32, 120, 10, 100, 111, 32, 120, 32, 61, 32, 49, 44, 32, 50, 10, 10, 105, 102, 32, 40, 120, 32, 60, 32, 50, 41, 32, 116, 104, 101, 110, 10, 112, 114, 105, 110, 116, 32, 120, 10, 101, 108, 115, 101, 10, 101, 110, 100, 32, 105, 102, 10, 101, 110, 100, 32, 100, 111, 10]
def knL1 : List PN := [.mk 0 0 (.decl [([120], [])]) [] [] (-1), .mk 1 7 (.loop [120] (.mk 1 1 [] []) (.mk 1 2 [] []) 1) [.mk 3 6 (.cond [60] (.mk 2 0 [120] []) (.mk 1 2 [] [])) [.mk 4 4 (.pr (.mk 2 0 [120] [])) [] [] (-1)] [] 5] [] (-1)]
theorem kn_err : errS knT = 0 := by kernel_rfl
theorem kn_row : rowS knT = knQ.map (·.1) := by kernel_rfl
theorem kn_lines : ∀ q ∈ knQ, LineIs q.1 q.2 := fun q hq => by
  simp only [knQ, List.mem_cons, List.not_mem_nil, or_false] at hq
  rcases hq with rfl | rfl | rfl | rfl | rfl | rfl | rfl | rfl
  · exact line_of 2 (by kernel_rfl)
  · exact line_of 6 (by kernel_rfl)
  · exact line_of 0 (by kernel_rfl)
  · exact line_of 7 (by kernel_rfl)
  · exact line_of 2 (by kernel_rfl)
  · exact line_of 1 (by kernel_rfl)
  · exact line_of 2 (by kernel_rfl)
  · exact line_of 2 (by kernel_rfl)
theorem kn_run : runQ knQ 0 Bl.start = .ok ⟨knL1, []⟩ := by kernel_rfl
theorem kn_grows : Grows (rowS knT) 0 Bl.start ⟨knL1, []⟩ := by rw [kn_row]; exact runQ_ok knQ 0 _ _ kn_lines kn_run
def kn2Q : List LP := [([100, 111, 32, 120, 32, 61, 32, 49, 44, 32, 50, 10], .loop [120] (.mk 1 1 [] []) (.mk 1 2 [] []) 1), ([101, 108, 115, 101, 10], .plain 6)]
def kn3Q : List LP := [([100, 111, 32, 120, 32, 61, 32, 49, 44, 32, 50, 10], .loop [120] (.mk 1 1 [] []) (.mk 1 2 [] []) 1)]
theorem kn2_lines : ∀ q ∈ kn2Q, LineIs q.1 q.2 := fun q hq => by
  simp only [kn2Q, List.mem_cons, List.not_mem_nil, or_false] at hq
  rcases hq with rfl | rfl
  · exact kn_lines _ (by simp [knQ])
  · exact kn_lines _ (by simp [knQ])
theorem kn2_fails : Fails (kn2Q.map (·.1)) 0 Bl.start 1 (.own 12) := runQ_bad kn2Q 0 _ _ _ kn2_lines (by kernel_rfl)
theorem kn3_grows : Grows (kn3Q.map (·.1)) 0 Bl.start ⟨[], [PN.leaf 0 (.loop [120] (.mk 1 1 [] []) (.mk 1 2 [] []) 1)]⟩ := runQ_ok kn3Q 0 _ _ (fun q hq => kn2_lines q (by
  simp only [kn3Q, List.mem_singleton] at hq
  subst hq
  simp [kn2Q])) (by kernel_rfl)
theorem kn_pre : preL knL1 0 = [(.mk 0 0 (.decl [([120], [])]) [] [] (-1), 0), (.mk 1 7 (.loop [120] (.mk 1 1 [] []) (.mk 1 2 [] []) 1) [.mk 3 6 (.cond [60] (.mk 2 0 [120] []) (.mk 1 2 [] [])) [.mk 4 4 (.pr (.mk 2 0 [120] [])) [] [] (-1)] [] 5] [] (-1), 0), (.mk 3 6 (.cond [60] (.mk 2 0 [120] []) (.mk 1 2 [] [])) [.mk 4 4 (.pr (.mk 2 0 [120] [])) [] [] (-1)] [] 5, 1), (.mk 4 4 (.pr (.mk 2 0 [120] [])) [] [] (-1), 2)] := by
  unfold knL1
  simp [preL_cons, preL_nil, PN.body, PN.els]
theorem kn_sz : szP.szPs knL1 = 8 := by rw [← pre_len knL1 0, kn_pre]; rfl
theorem fit_small (f : FS) (h1 : f.items.length ≤ 100000) (h2 : ∀ x ∈ f.items, x.2.length ≤ 100000) (h3 : szF f ≤ 100000) : FitF f := ⟨h1, h2, h3⟩
theorem fit_x : FitF (PS.decl [([120], [])]).full := ⟨by decide, fun x hx => by
  rw [List.mem_singleton.1 hx]; decide, by simp [szF, PS.full, FS.zero, E.none, E.a, szL]⟩
theorem kn_fit : FitN.FitNs knL1 := (fit_grows kn_grows (fun s hs ps hl => by
  rw [kn_row] at hs
  obtain ⟨q, hq, rfl⟩ := List.mem_map.1 hs
  obtain rfl := (kn_lines q hq).det hl
  simp only [knQ, List.mem_cons, List.not_mem_nil, or_false] at hq
  rcases hq with rfl | rfl | rfl | rfl | rfl | rfl | rfl | rfl
  · exact fit_x
  all_goals exact ⟨by decide, fun x hx => by simp [PS.full, FS.zero] at hx, by simp [szF, PS.full, FS.zero, E.none, E.a, szL]⟩) ⟨trivial, trivial⟩).1
end Go.Proofs.YthkbchefjagbbaaGreatDoor.Line

namespace Go.Proofs.YthkbchefjagbbaaGreatDoor.Line
open Go.ChangeShapes Go.WideShapes Go.ChangeAt Go.RowKit
open Ex (E St)
open Plain (errS rowS wordS atS)
set_option linter.unusedVariables false

theorem parseT_ok {B : Nat} {s : List UInt8} {e : Ending} {w' : World} {b : Bl} (h : ParsePost B s e w') (h0 : errS s = 0) (hg : Grows (rowS s) 0 Bl.start b) (ho : b.opn = []) : ∃ nv lv, e = .returned (.tuple #[nv, lv, .nilIface]) ∧ Nodes w' (fun q => B ≤ q) b.done nv ∧ Own B w' lv (rowS s) := by
  rcases h with ⟨b', nv, lv, h1, h2, h3, h4, h5, h6⟩ | ⟨f, h1, _⟩ | ⟨i, te, g, _, hw, _, _⟩
  · obtain rfl := hg.det h2
    exact ⟨nv, lv, h4, h5, h6⟩
  · exact (h1 h0).elim
  · rcases hw with hf | ⟨b', r, rest, h1, h2, _⟩
    · exact (grows_fails hg hf).elim
    · obtain rfl := hg.det h1
      rw [ho] at h2; cases h2
/-- what known looks at -/
def KC (W : World) (b off b2 off2 : Nat) (va : Value) : Prop := W.cell? ⟨b, off + 34 + 31, none⟩ = some va ∧ W.cell? ⟨b, off + 34 + 1, none⟩ = some (.int .i64 7) ∧ W.cell? ⟨b, off + 34 + 33, none⟩ = some (.int .i64 (-1)) ∧ W.cell? ⟨b2, off2 + 33, none⟩ = some (.int .i64 5) ∧ W.cell? ⟨b2, off2 + 1, none⟩ = some (.int .i64 6)
theorem KC.below {W W' : World} {b off b2 off2 : Nat} {va : Value} (h : KC W b off b2 off2 va) (hb : Below W.heap.size W W') : KC W' b off b2 off2 va := by
  obtain ⟨h1, h2, h3, h4, h5⟩ := h
  have k : ∀ b o v, W.cell? ⟨b, o, none⟩ = some v → W'.cell? ⟨b, o, none⟩ = some v := fun b o v h => (hb.cell (p := ⟨b, o, none⟩) (cell_lt h)).trans h
  exact ⟨k _ _ _ h1, k _ _ _ h2, k _ _ _ h3, k _ _ _ h4, k _ _ _ h5⟩
theorem kc_of {W : World} {S : Nat → Prop} {v : Value} (h : Nodes W S knL1 v) : ∃ b off cap b2 off2 cap2, v = .slice (some ⟨b, off, none⟩) 2 cap ∧ 2 ≤ cap ∧ 1 ≤ cap2 ∧ KC W b off b2 off2 (.slice (some ⟨b2, off2, none⟩) 1 cap2) := by
  generalize hl : knL1 = l at h
  cases h with
  | nil => cases hl
  | row _ b off cap cs hS hcap hmax hl0 hc h1 h2 hb he =>
    subst hl
    have hb1 := hb 1 (by decide)
    have r1 := hc 1 (by decide)
    have e1 := h1 1 (by decide)
    have z1 := (h2 1 (by decide)).size.1
    obtain ⟨k0, k1, k2, k31, k32, k33⟩ := (nc_at z1).1 r1
    generalize hl2 : (knL1[1]'(by decide)).body = l2 at hb1
    generalize hbv : (cs 1).bv = bv at hb1 k31
    cases hb1 with
    | nil => cases hl2
    | row _ b2 off2 cap2 cs2 hS2 hcap2 hmax2 hl02 hc2 h12 h22 hb2 he2 =>
      subst hl2
      have r2 := hc2 0 (by decide)
      have e2 := h12 0 (by decide)
      have z2 := (h22 0 (by decide)).size.1
      obtain ⟨m0, m1, m2, m31, m32, m33⟩ := (nc_at z2).1 r2
      refine ⟨b, off, cap, b2, off2, cap2, rfl, hcap, hcap2, ?_, ?_, ?_, ?_, ?_⟩
      · exact k31
      · have := k1; rw [e1.2.1] at this; exact this
      · have := k33; rw [e1.2.2] at this; exact this
      · have := m33; rw [e2.2.2, Nat.zero_mul] at this; exact this
      · have := m1; rw [e2.2.1, Nat.zero_mul] at this; exact this
theorem row_lit1 (w : World) (a : List UInt8) (t : TypeId) : Row (w.alloc (.cells #[.string ⟨a.toArray⟩] t)) (.slice (some ⟨w.heap.size, 0, none⟩) 1 1) [a] := by
  have hB : (w.alloc (.cells #[.string ⟨a.toArray⟩] t)).heap[w.heap.size]? = some (.cells #[.string ⟨a.toArray⟩] t (0, 0)) := heap_alloc_new w _
  refine .inr ⟨w.heap.size, 0, 1, rfl, Nat.le_refl _, fun i hi => ?_⟩
  have : i = 0 := by simpa using hi
  subst this
  unfold World.cell?; rw [hB]; rfl
theorem row_lit2 (w : World) (a b : List UInt8) (t : TypeId) : Row (w.alloc (.cells #[.string ⟨a.toArray⟩, .string ⟨b.toArray⟩] t)) (.slice (some ⟨w.heap.size, 0, none⟩) 2 2) [a, b] := by
  have hB : (w.alloc (.cells #[.string ⟨a.toArray⟩, .string ⟨b.toArray⟩] t)).heap[w.heap.size]? = some (.cells #[.string ⟨a.toArray⟩, .string ⟨b.toArray⟩] t (0, 0)) := heap_alloc_new w _
  refine .inr ⟨w.heap.size, 0, 2, rfl, Nat.le_refl _, fun i hi => ?_⟩
  have : i = 0 ∨ i = 1 := by have : i < 2 := hi; omega
  rcases this with rfl | rfl <;> (unfold World.cell?; rw [hB]; rfl)
theorem kn_find {B : Nat} {S : Nat → Prop} {e : Ending} {w' : World} (h : FindPost B knL1 4 S e w') : ∃ n c, e = .returned (.tuple #[.agg c.cells.toArray, .bool true]) ∧ Node1 w' (fun b => S b ∨ B ≤ b) c n ∧ n.ps.full.kind = 9 := by
  rcases h with ⟨front, n, d, rest, c, hp, hf, hl, he, hn⟩ | ⟨hno, _⟩
  · refine ⟨n, c, he, hn, ?_⟩
    have hm : (n, d) ∈ preL knL1 0 := by rw [hp]; simp
    rw [kn_pre] at hm
    simp only [List.mem_cons, List.not_mem_nil, or_false, Prod.mk.injEq] at hm
    rcases hm with ⟨rfl, _⟩ | ⟨rfl, _⟩ | ⟨rfl, _⟩ | ⟨rfl, _⟩
    · cases hl
    · cases hl
    · cases hl
    · rfl
  · exact (hno (.mk 4 4 (.pr (.mk 2 0 [120] [])) [] [] (-1), 2) (by rw [kn_pre]; simp) rfl).elim
set_option maxRecDepth 100000 in
theorem kn_walk (w : World) (C : Array Value) (v : Value) (S : Nat → Prop) (hn : Nodes w S knL1 v) :
    Calls Tryz.prog 33 #[v, .func (.func 74) #[] #[.pointer (some ⟨w.heap.size + 1, 0, none⟩), .pointer (some ⟨w.heap.size + 2, 0, none⟩)]] (((w.alloc (.cells C NDT)).alloc (.cells #[.int .i64 0] 3)).alloc (.cells #[.int .i64 0] 3)) fun e w' => e = .returned (.bool true) ∧ Below w.heap.size w w' ∧ (∀ o u, C[o]? = some u → w'.cell? ⟨w.heap.size, o, none⟩ = some u) ∧ w'.cell? ⟨w.heap.size + 1, 0, none⟩ = some (.int .i64 4) ∧ w'.cell? ⟨w.heap.size + 2, 0, none⟩ = some (.int .i64 2) := by
  let W1 : World := w.alloc (.cells C NDT)
  let W2 : World := W1.alloc (.cells #[.int .i64 0] 3)
  let W3 : World := W2.alloc (.cells #[.int .i64 0] 3)
  show Calls _ _ _ W3 _
  have s1 : W1.heap.size = w.heap.size + 1 := by show (w.alloc _).heap.size = _; simp
  have s2 : W2.heap.size = w.heap.size + 2 := by show (W1.alloc _).heap.size = _; simp; omega
  have s3 : W3.heap.size = w.heap.size + 3 := by show (W2.alloc _).heap.size = _; simp; omega
  have ba1 : Below w.heap.size w W1 := alloc_below w _
  have ba2 : Below W1.heap.size W1 W2 := alloc_below W1 _
  have ba3 : Below W2.heap.size W2 W3 := alloc_below W2 _
  have hB0 : W3.heap[w.heap.size]? = some (.cells C NDT (0, 0)) := (ba3.block _ (by omega)).trans ((ba2.block _ (by omega)).trans (heap_alloc_new w _))
  have hB1 : W3.heap[w.heap.size + 1]? = some (.cells #[.int .i64 0] 3 (0, 0)) := (ba3.block _ (by omega)).trans (by rw [← s1]; exact heap_alloc_new W1 _)
  have hB2 : W3.heap[w.heap.size + 2]? = some (.cells #[.int .i64 0] 3 (0, 0)) := by rw [← s2]; exact heap_alloc_new W2 _
  have hc1 : W3.cell? ⟨w.heap.size + 1, 0, none⟩ = some (.int .i64 0) := by unfold World.cell?; rw [hB1]; rfl
  have hf1 : W3.frozen? ⟨w.heap.size + 1, 0, none⟩ = false := by unfold World.frozen?; rw [hB1]; rfl
  have hc2 : W3.cell? ⟨w.heap.size + 2, 0, none⟩ = some (.int .i64 0) := by unfold World.cell?; rw [hB2]; rfl
  have hf2 : W3.frozen? ⟨w.heap.size + 2, 0, none⟩ = false := by unfold World.frozen?; rw [hB2]; rfl
  have bw : Below w.heap.size w W3 := bthen (bthen ba1 ba2) ba3
  have hN : Nodes W3 (fun b => S b ∧ b < w.heap.size) knL1 v := hn.keep (fun b _ hl => bw.block b hl) (fun b hb hl => ⟨hb, hl⟩)
  clear_value W3
  refine (walkC_any (F := 74) (A0 := fun b => b ≤ w.heap.size) W3 knL1 (fun S => vis_kn (w.heap.size + 1) (w.heap.size + 2) (preL knL1 0) S) v hN (fun b hb => by omega) (fun b hb _ => by have := hb.2; omega) ⟨by omega, by omega, by omega, hc1, hf1, hc2, hf2⟩ (by rw [kn_pre]; decide) kn_fit (by rw [kn_sz]; omega)).mono ?_
  rintro e w' ⟨hu, ⟨rfl, A, hJ⟩ | ⟨_, A, vis, rest, _, hx⟩⟩
  · have h1 := hJ.cell1
    have h2 := hJ.cell2
    rw [kn_pre] at h1 h2
    refine ⟨rfl, upd_below bw hu (fun b hb hx => hx (by omega)), fun o u ho => ?_, h1, h2⟩
    have : w'.heap[w.heap.size]? = W3.heap[w.heap.size]? := hu.block _ (by omega) (fun hx => hx (Nat.le_refl _))
    unfold World.cell?
    rw [this, hB0]; exact ho
  · exact hx.elim
set_option maxHeartbeats 16000000 in
set_option maxRecDepth 100000 in
theorem known7_any (w : World) (hG : Glob w) : Calls Tryz.prog 30 #[] w fun e w' => e = .returned (.bool true) ∧ Below w.heap.size w w' := by
  have HP := hide (parseT_any knT w (by decide) hG (fun _ => by rw [kn_row]; exact ⟨fun r hr => by
    obtain ⟨q, hq, rfl⟩ := List.mem_map.1 hr
    simp only [knQ, List.mem_cons, List.not_mem_nil, or_false] at hq
    rcases hq with rfl | rfl | rfl | rfl | rfl | rfl | rfl | rfl <;> decide, by decide⟩))
  have HG := hide hG
  clear hG
  go_enter Tryz.func30, Tryz.ntmps30
  go_wp2_with fail
  refine (unhide HP).mono ?_
  rintro e w1 ⟨hb1, hp1⟩
  obtain ⟨nv, lv, rfl, hn1, ho1⟩ := parseT_ok hp1 kn_err kn_grows rfl
  obtain ⟨la, lc, rfl⟩ : ∃ a c, lv = .slice a 8 c := by
    obtain ⟨a, c, e⟩ := ho1.shape
    exact ⟨a, c, by rw [e, kn_row]; rfl⟩
  obtain ⟨b, off, cap, b2, off2, cap2, rfl, hcap, hcap2, hkc⟩ := kc_of hn1
  have HK1 := hide (And.intro hb1 (And.intro hn1 hkc))
  clear hb1 hp1 hn1 ho1 hkc HP
  have HO2 := hide (of_tree (kn2Q.map (·.1)) _ _ (row_lit2 w1 [100, 111, 32, 120, 32, 61, 32, 49, 44, 32, 50, 10] [101, 108, 115, 101, 10] 9) (by decide) (by decide) ((unhide HG).below ((unhide HK1).1.alloc (unhide HK1).1.size _)))
  go_wp2_with fail
  refine (unhide HO2).mono ?_
  rintro e w2 ⟨hb2, hp2⟩
  obtain ⟨g2, rfl, hs2⟩ := of_own hp2 kn2_fails
  have HB2 : Hid (Below w1.heap.size w1 w2) := hide (bthen (alloc_below w1 _) hb2)
  have HS2 := hide hs2
  clear hb2 hp2 hs2 HO2
  have HO3 := hide (of_tree (kn3Q.map (·.1)) _ _ (row_lit1 w2 [100, 111, 32, 120, 32, 61, 32, 49, 44, 32, 50, 10] 9) (by decide) (by decide) ((unhide HG).below ((bthen (unhide HK1).1 (unhide HB2)).alloc (bthen (unhide HK1).1 (unhide HB2)).size _)))
  go_wp2_with fail
  refine (unhide HO3).mono ?_
  rintro e w3 ⟨hb3, hp3⟩
  obtain ⟨g3, rfl, hs3⟩ := of_open hp3 kn3_grows rfl
  have HB3 : Hid (Below w1.heap.size w1 w3) := hide (bthen (bthen (unhide HB2) (alloc_below w2 _)) hb3)
  have HS3 := hide (And.intro ((unhide HS2).below (bthen (alloc_below w2 _) hb3)) hs3)
  clear hb3 hp3 hs3 HO3 HS2
  have hk3 := (unhide HK1).2.2.below (unhide HB3)
  obtain ⟨k1, k2, k3, k4, k5⟩ := hk3
  have HK3 := hide (And.intro k1 (And.intro k2 (And.intro k3 (And.intro k4 k5))))
  have hnd3 : Nodes w3 (fun q => w.heap.size ≤ q ∧ q < w3.heap.size) knL1 (.slice (some ⟨b, off, none⟩) 2 cap) := (unhide HK1).2.1.keep (fun q _ hl => (unhide HB3).block q hl) (fun q hq hl => ⟨hq, by have := (unhide HB3).size; omega⟩)
  have HFI := hide (find_any w3 _ knL1 _ 4 hnd3 (by rw [kn_pre]; decide) kn_fit (by rw [kn_sz]; omega))
  have HN3 := hide hnd3
  clear hnd3
  go_wp2_with fail
  refine (unhide HFI).mono ?_
  rintro e w4 ⟨hfp, hb4⟩
  obtain ⟨n, c, rfl, hn4, hnk⟩ := kn_find hfp
  have HB4 := hide (And.intro hb4 hn4)
  have hk4 := (unhide HK1).2.2.below (bthen (unhide HB3) hb4)
  have hcl := NC.len hn4.st.size.1
  have hone := all_oneCell_toArray hn4.one
  have hc2 : c.cells[2]? = some (.int .i64 9) := by
    obtain ⟨_, _, q2, _⟩ := cells_at c hn4.st.size.1
    rw [q2, hn4.st.kind, hnk]; rfl
  clear hfp hb4 hn4 hnk HFI k1 k2 k3 k4 k5 HK3
  go_wp2_with (first | (refine wpListN_storeNew rfl _ _ rfl _ _ w4.heap.size rfl rfl rfl rfl (by simpa using hcl) hone ?_))
  refine (kn_walk w4 c.cells.toArray _ _ ((unhide HN3).old (unhide HB4).1)).mono ?_
  rintro e w8 ⟨rfl, hb8, hn8, hc8, hd8⟩
  have m2 : w8.cell? ⟨w4.heap.size, 2, none⟩ = some (.int .i64 9) := hn8 2 _ (by simpa using hc2)
  have HB8 : Hid (Below w3.heap.size w3 w8) := hide (bthen (unhide HB4).1 hb8)
  obtain ⟨k1, k2, k3, k4, k5⟩ := hk4.below hb8
  have HCT := hide (count_any w8 _ knL1 _ ((unhide HN3).old (unhide HB8)) (by rw [kn_pre]; decide))
  clear hb8 hn8 hk4
  go_wp2_with fail
  refine (unhide HCT).mono ?_
  rintro e w9 ⟨rfl, hb9⟩
  rw [kn_pre]
  have HB9 : Hid (Below w3.heap.size w3 w9) := hide (bthen (unhide HB8) hb9)
  clear hb9 HCT k1 k2 k3 k4 k5 m2 hc8 hd8
  have HA1 := hide (at_any [108, 105, 110, 101] 1 12 w9)
  go_wp2_with fail
  refine (unhide HA1).mono ?_
  rintro e w10 ⟨tb, rfl, htb, ht0, ht1, hb10⟩
  have HB10 : Hid (Below w3.heap.size w3 w10) := hide (bthen (unhide HB9) hb10)
  have HT1 := hide (tells_any (B' := 0) w10 g2 _ _ _ _ ((unhide HG).below (bthen (unhide HK1).1 (bthen (unhide HB3) (unhide HB10)))) ((unhide HS3).1.below (unhide HB10)) (.inr ⟨by decide, tb, Nat.zero_le _, rfl, ht0, ht1⟩))
  clear hb10 ht0 ht1
  go_wp2_with fail
  refine (unhide HT1).mono ?_
  rintro e w11 ⟨rfl, hb11⟩
  have HB11 : Hid (Below w3.heap.size w3 w11) := hide (bthen (unhide HB10) hb11)
  clear hb11
  have HA2 := hide (at_any [108, 105, 110, 101] 0 11 w11)
  go_wp2_with fail
  refine (unhide HA2).mono ?_
  rintro e w12 ⟨tb2, rfl, htb2, ht0, ht1, hb12⟩
  have HB12 : Hid (Below w3.heap.size w3 w12) := hide (bthen (unhide HB11) hb12)
  have HT2 := hide (tells_any (B' := 0) w12 g3 _ _ _ _ ((unhide HG).below (bthen (unhide HK1).1 (bthen (unhide HB3) (unhide HB12)))) ((unhide HS3).2.below (unhide HB12)) (.inr ⟨by decide, tb2, Nat.zero_le _, rfl, ht0, ht1⟩))
  clear hb12 ht0 ht1
  go_wp2_with fail
  refine (unhide HT2).mono ?_
  rintro e w13 ⟨rfl, hb13⟩
  have HB13 : Hid (Below w.heap.size w w13) := hide (bthen (unhide HK1).1 (bthen (unhide HB3) (bthen (unhide HB12) hb13)))
  clear hb13
  go_wp2
  go_ret
  exact ⟨rfl, unhide HB13⟩
end Go.Proofs.YthkbchefjagbbaaGreatDoor.Line

namespace Go.Proofs.YthkbchefjagbbaaGreatDoor.Line
open Go.ChangeShapes Go.WideShapes Go.ChangeAt Go.RowKit
open Ex (E St)
set_option linter.unusedVariables false

abbrev SGT : TypeId := 9
abbrev SGS : TypeId := 78
theorem infoSG : (Tryz.prog.info? SGT).map (fun i => (i.zero, i.size, i.bytes)) = some (some (.string ⟨#[]⟩), 1, 16) := by kernel_rfl
theorem pushS {base : Nat} {w : World} {v : Value} {ls : List (List UInt8)} (hs : Own base w v ls) (hb : base ≤ w.heap.size) (L : List (List UInt8)) (hl : ls.length + L.length ≤ 100000) :
    ∃ v' w', (Builtin.append_ #[SGS, SGS] SGS #[v, .slice (some ⟨w.heap.size, 0, none⟩) L.length L.length]).run Tryz.prog (w.alloc (.cells (strs L).toArray SGT)) = .ok v' w' ∧ Own base w' v' (ls ++ L) ∧ Below base w w' := by
  obtain ⟨i0, hi, hz0, hz1, hz2⟩ := info_parts infoSG
  have hL : (strs L).length = L.length := by simp [strs]
  have ba := alloc_below w (.cells (strs L).toArray SGT)
  have hbs := ba.size
  obtain ⟨v', w', hr, ho, hg, _, _⟩ := run_append_own_at (P := Tryz.prog) (w.alloc (.cells (strs L).toArray SGT)) base SGS SGS SGT i0 _ 1 16 Tryz.underlying78 hi hz0 hz1 hz2 rfl (by decide) v ls.length (strs ls) (World.ownsRow.alloc hs _) ⟨w.heap.size, 0, none⟩ L.length L.length (strs L) (by simp [strs])
    (World.news_of_block (cs := (strs L).toArray) (t := SGT) (fr := (0, 0)) (heap_alloc_last w _)) (fun u hu => by obtain ⟨z, _, rfl⟩ := List.mem_map.1 hu; rfl) (by unfold maxLen; omega) (by omega) (by omega)
  refine ⟨v', w', hr, ?_, ⟨hg.os.trans ba.os, hg.tape.trans ba.tape, hg.output.trans ba.output, Nat.le_trans ba.size hg.size, fun b hlt => (hg.block b (by have := ba.size; omega) (fun e => by
    have := (World.ownsRow.lt hs b e.symm).1; omega)).trans (ba.block b (by omega))⟩⟩
  unfold Own
  rw [List.length_append, show strs (ls ++ L) = strs ls ++ strs L by simp [strs]]
  exact ho
theorem push1 {base : Nat} {w : World} {v : Value} {ls : List (List UInt8)} (hs : Own base w v ls) (hb : base ≤ w.heap.size) (a : List UInt8) (hl : ls.length + 1 ≤ 100000) :
    ∃ v' w', (Builtin.append_ #[SGS, SGS] SGS #[v, .slice (some ⟨w.heap.size, 0, none⟩) 1 1]).run Tryz.prog (w.alloc (.cells #[.string ⟨a.toArray⟩] SGT)) = .ok v' w' ∧ Own base w' v' (ls ++ [a]) ∧ Below base w w' := pushS hs hb [a] hl
theorem push2 {base : Nat} {w : World} {v : Value} {ls : List (List UInt8)} (hs : Own base w v ls) (hb : base ≤ w.heap.size) (a b : List UInt8) (hl : ls.length + 2 ≤ 100000) :
    ∃ v' w', (Builtin.append_ #[SGS, SGS] SGS #[v, .slice (some ⟨w.heap.size, 0, none⟩) 2 2]).run Tryz.prog (w.alloc (.cells #[.string ⟨a.toArray⟩, .string ⟨b.toArray⟩] SGT)) = .ok v' w' ∧ Own base w' v' (ls ++ [a, b]) ∧ Below base w w' := pushS hs hb [a, b] hl
theorem own_shape {base : Nat} {w : World} {v : Value} {ls : List (List UInt8)} (h : Own base w v ls) : ∃ a c, v = .slice a ls.length c := h.shape
end Go.Proofs.YthkbchefjagbbaaGreatDoor.Line
