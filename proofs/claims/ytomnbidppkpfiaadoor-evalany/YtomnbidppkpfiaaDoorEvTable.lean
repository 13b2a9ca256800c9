/- The contract of the law's Table. -/
import Derived.Test.YtomnbidppkpfiaaDoorEvAdd
namespace Go.Proofs.YtomnbidppkpfiaaDoor.Line
open Go.ChangeShapes Go.WideShapes Go.ChangeAt Go.RowKit
open Ex (E)
open Ev (Sy Res)
set_option linter.unusedVariables false

def nm5 : Nat → List UInt8
  | 0 => [120]
  | 1 => [121]
  | 2 => [110]
  | 3 => [105]
  | _ => [106]
/-- the names that draws go by, and where their Dims lie -/
def tabL (N : Nat) (B : Nat) (n : Int) (i : Nat) : List SyV := [(⟨[97], [n], 0, n⟩, .slice (some ⟨N + 2, 0, none⟩) 1 1), (⟨[98], [3, 2], n, 6⟩, .slice (some ⟨B, 0, none⟩) 2 2)] ++ (List.range i).map fun (k : Nat) => ((⟨nm5 k, [], n + 6 + k, 1⟩ : Sy), Value.slice none 0 0)
theorem tabL_succ (N B : Nat) (n : Int) (i : Nat) : tabL N B n (i + 1) = tabL N B n i ++ [(⟨nm5 i, [], n + 6 + i, 1⟩, .slice none 0 0)] := by
  unfold tabL
  rw [List.range_succ, List.map_append, List.append_assoc]
  rfl
theorem tabL_len (N B : Nat) (n : Int) (i : Nat) : (tabL N B n i).length = i + 2 := by unfold tabL; simp
/-- the names themselves -/
def tabN (n : Int) : List Sy := [⟨[97], [n], 0, n⟩, ⟨[98], [3, 2], n, 6⟩, ⟨[120], [], n + 6, 1⟩, ⟨[121], [], n + 7, 1⟩, ⟨[110], [], n + 8, 1⟩, ⟨[105], [], n + 9, 1⟩, ⟨[106], [], n + 10, 1⟩]
theorem tabL_tabN (N B : Nat) (n : Int) : (tabL N B n 5).map (·.1) = tabN n := by
  have e : List.range 5 = [0, 1, 2, 3, 4] := rfl
  unfold tabL tabN
  rw [e]
  simp [nm5]
  omega
/-- two rows of numbers lie there -/
structure Dim2 (w W : World) (B : Nat) (n : Int) : Prop where
  c0 : W.cell? ⟨w.heap.size + 2, 0, none⟩ = some (.int .i64 n)
  d0 : W.cell? ⟨B, 0, none⟩ = some (.int .i64 3)
  d1 : W.cell? ⟨B, 1, none⟩ = some (.int .i64 2)
theorem tabL_dims {w W : World} {B : Nat} {n : Int} (h : Dim2 w W B n) (i : Nat) : ∀ p ∈ tabL w.heap.size B n i, Ints W p.2 p.1.dims := by
  intro p hp
  unfold tabL at hp
  rcases List.mem_append.1 hp with hp | hp
  · rcases List.mem_cons.1 hp with rfl | hp
    · refine ⟨_, 1, rfl, Nat.le_refl _, by decide, .inr ⟨_, 0, rfl, fun j hj => ?_⟩⟩
      obtain rfl : j = 0 := by simpa using hj
      exact h.c0
    · rw [List.mem_singleton.1 hp]
      refine ⟨_, 2, rfl, Nat.le_refl _, by decide, .inr ⟨_, 0, rfl, fun j hj => ?_⟩⟩
      have : j = 0 ∨ j = 1 := by simp at hj; omega
      rcases this with rfl | rfl
      · exact h.d0
      · exact h.d1
  · obtain ⟨k, -, rfl⟩ := List.mem_map.1 hp
    exact Ints.nil W
/-- the boxes of Table -/
structure TB (w wr : World) (sv : Value) (c : Int) : Prop where
  t0 : wr.cell? ⟨w.heap.size + 1, 0, none⟩ = some sv
  t1 : wr.cell? ⟨w.heap.size + 1, 1, none⟩ = some (.int .i64 c)
  f0 : wr.frozen? ⟨w.heap.size + 1, 0, none⟩ = false
  f1 : wr.frozen? ⟨w.heap.size + 1, 1, none⟩ = false
  r0 : wr.cell? ⟨w.heap.size, 0, none⟩ = some (.slice none 0 0)
  r1 : wr.cell? ⟨w.heap.size, 1, none⟩ = some (.int .i64 0)
  g0 : wr.frozen? ⟨w.heap.size, 0, none⟩ = false
  g1 : wr.frozen? ⟨w.heap.size, 1, none⟩ = false
  old : Below w.heap.size w wr
  sz : w.heap.size + 2 ≤ wr.heap.size
theorem TB.below {w wr w2 : World} {sv : Value} {c : Int} (h : TB w wr sv c) (hb : Below wr.heap.size wr w2) : TB w w2 sv c := by
  have hs := h.sz
  have hc : ∀ {b o : Nat} {v : Value}, wr.cell? ⟨b, o, none⟩ = some v → w2.cell? ⟨b, o, none⟩ = some v := fun {b o v} h => (hb.cell (p := ⟨b, o, none⟩) (cell_lt h)).trans h
  have hf : ∀ b o, b < wr.heap.size → w2.frozen? ⟨b, o, none⟩ = wr.frozen? ⟨b, o, none⟩ := fun b o h => hb.frozen (p := ⟨b, o, none⟩) h
  exact ⟨hc h.t0, hc h.t1, (hf _ _ (by omega)).trans h.f0, (hf _ _ (by omega)).trans h.f1, hc h.r0, hc h.r1, (hf _ _ (by omega)).trans h.g0, (hf _ _ (by omega)).trans h.g1, bthen h.old hb, by have := hb.size; omega⟩
theorem TB.store {w wr : World} {sv : Value} {c : Int} (h : TB w wr sv c) (sv' : Value) (c' : Int) : TB w ((wr.setCell ⟨w.heap.size + 1, 0, none⟩ sv').setCell ⟨w.heap.size + 1, 1, none⟩ (.int .i64 c')) sv' c' := by
  obtain ⟨t0, t1, f0, f1, r0, r1, g0, g1, ho, hz⟩ := h
  refine ⟨by simp [go_sem, t0], by simp [go_sem, t1], by simp [go_sem, f0], by simp [go_sem, f1], by simp [go_sem, r0], by simp [go_sem, r1], by simp [go_sem, g0], by simp [go_sem, g1], (ho.setCell (p := ⟨w.heap.size + 1, 0, none⟩) (Nat.le_succ _) _).setCell (p := ⟨w.heap.size + 1, 1, none⟩) (Nat.le_succ _) _, by simp [World.setCell]; omega⟩
theorem set2_other (w : World) (N : Nat) (u v : Value) {b : Nat} (h : b ≠ N) : ((w.setCell ⟨N, 0, none⟩ u).setCell ⟨N, 1, none⟩ v).heap[b]? = w.heap[b]? := by
  rw [Below.heap_setCell _ _ _ _ (show b ≠ N from h), Below.heap_setCell _ _ _ _ (show b ≠ N from h)]
theorem set2_cell (w : World) (N : Nat) (u v : Value) {b o : Nat} (h : b ≠ N) : ((w.setCell ⟨N, 0, none⟩ u).setCell ⟨N, 1, none⟩ v).cell? ⟨b, o, none⟩ = w.cell? ⟨b, o, none⟩ := World.cell?_of_block (a := ⟨b, o, none⟩) (set2_other w N u v h)
/-- where Table stands -/
structure TM (w wr : World) (B : Nat) (n : Int) (i : Nat) (sv : Value) : Prop where
  box : TB w wr sv (n + 6 + i)
  dim : Dim2 w wr B n
  row : OwnSy RSy (w.heap.size + 2) wr sv (tabL w.heap.size B n i)
  bz : w.heap.size + 2 ≤ B
theorem Dim2.below {w W W' : World} {B : Nat} {n : Int} (h : Dim2 w W B n) (hb : Below W.heap.size W W') : Dim2 w W' B n :=
  ⟨(hb.cell (p := ⟨w.heap.size + 2, 0, none⟩) (cell_lt h.c0)).trans h.c0, (hb.cell (p := ⟨B, 0, none⟩) (cell_lt h.d0)).trans h.d0, (hb.cell (p := ⟨B, 1, none⟩) (cell_lt h.d1)).trans h.d1⟩
theorem TM.below {w wr w2 : World} {B : Nat} {n : Int} {i : Nat} {sv : Value} (h : TM w wr B n i sv) (hb : Below wr.heap.size wr w2) : TM w w2 B n i sv :=
  ⟨h.box.below hb, h.dim.below hb, below_own h.row hb, h.bz⟩
/-- one name more: add is called, and what it answers is stored -/
theorem row_cells {t : TypeId} {base : Nat} {w : World} {v : Value} {L : List SyV} (h : OwnSy t base w v L) : L.map (·.1) ≠ [] → ∃ b off cap, v = .slice (some ⟨b, off, none⟩) (L.map (·.1)).length cap ∧ ∀ j u, (flatS L)[j]? = some u → w.cell? ⟨b, off + j, none⟩ = some u := by
  intro hne
  have h' : w.ownsRow base t 4 v L.length (flatS L) := h
  rcases h'.2 with ⟨_, h5⟩ | ⟨g, cap, cur, rfl, hg, hh, hc, hm, r⟩
  · rw [List.length_eq_zero_iff.1 h5] at hne; exact absurd rfl hne
  · refine ⟨g, 0, cap, by rw [List.length_map], fun j u hu => ?_⟩
    have := World.ownsRow.cells h' rfl j u hu
    rw [Addr.add_mid] at this
    exact this
theorem TM.add {w wr : World} {B : Nat} {n : Int} {i : Nat} {sv : Value} (h : TM w wr B n i sv) (hn1 : 1 ≤ n) (hn : n ≤ 1000) (hi : i < 5) :
    Calls Tryd.prog 19 #[.agg #[sv, .int .i64 (n + 6 + i)], .string ⟨(nm5 i).toArray⟩, .slice none 0 0, .int .i64 1] wr fun e w' => ∃ sv', e = .returned (.agg #[sv', .int .i64 (n + 6 + i + 1)]) ∧ Below wr.heap.size wr w' ∧ TM w ((w'.setCell ⟨w.heap.size + 1, 0, none⟩ sv').setCell ⟨w.heap.size + 1, 1, none⟩ (.int .i64 (n + 6 + i + 1))) B n (i + 1) sv' := by
  have hd := tabL_dims h.dim i
  refine (add_any wr sv (n + 6 + i) _ (nm5 i) (.slice none 0 0) [] 1 (tabL w.heap.size B n i) rfl hd (row_cells h.row) (h.row.syms hd) (by rw [List.length_map, tabL_len]; omega) (Ints.nil _) (by omega) (by omega) (by omega) (by omega)).mono ?_
  rintro e w' ⟨sv', rfl, ho, hb⟩
  have h' := h.below hb
  have hz := h.box.sz
  refine ⟨sv', rfl, hb, ⟨?_, ?_, ?_, h.bz⟩⟩
  · have := h'.box.store sv' (n + 6 + i + 1)
    rw [show n + 6 + ((i + 1 : Nat) : Int) = n + 6 + i + 1 by omega]
    exact this
  · have hbz := h.bz
    exact ⟨(set2_cell _ _ _ _ (by omega)).trans h'.dim.c0, (set2_cell _ _ _ _ (by omega)).trans h'.dim.d0, (set2_cell _ _ _ _ (by omega)).trans h'.dim.d1⟩
  · rw [tabL_succ]
    refine World.ownsRow.mono (own_keep ho (fun k hk => set2_other _ _ _ _ ?_)) hz
    have := (ho.lt k hk).1
    omega
set_option maxHeartbeats 8000000 in
set_option maxRecDepth 100000 in
theorem table_any (n : Int) (w : World) (h1 : 1 ≤ n) (h2 : n ≤ 1000) :
    Calls Tryd.prog 5 #[.int .i64 n] w fun e w' => ∃ sv, e = .returned (.agg #[sv, .int .i64 (n + 11)]) ∧ Syms w' sv (tabN n) ∧ Below w.heap.size w w' := by
  have hb2 : Below w.heap.size w (((w.alloc (.cells #[.slice none 0 0, .int .i64 0] RTb)).alloc (.cells #[.slice none 0 0, .int .i64 0] RTb)).alloc (.cells #[.int .i64 n] INT)) := (((Below.refl _ _).alloc (Nat.le_refl _) _).alloc (by simp) _).alloc (by simp; omega) _
  have hTB : TB w (((w.alloc (.cells #[.slice none 0 0, .int .i64 0] RTb)).alloc (.cells #[.slice none 0 0, .int .i64 0] RTb)).alloc (.cells #[.int .i64 n] INT)) (.slice none 0 0) 0 := ⟨by simp [go_sem], by simp [go_sem], by simp [go_sem], by simp [go_sem], by simp [go_sem], by simp [go_sem], by simp [go_sem], by simp [go_sem], hb2, by simp⟩
  have hc0 : (((w.alloc (.cells #[.slice none 0 0, .int .i64 0] RTb)).alloc (.cells #[.slice none 0 0, .int .i64 0] RTb)).alloc (.cells #[.int .i64 n] INT)).cell? ⟨w.heap.size + 2, 0, none⟩ = some (.int .i64 n) := by simp [go_sem]
  have hI : Ints (((w.alloc (.cells #[.slice none 0 0, .int .i64 0] RTb)).alloc (.cells #[.slice none 0 0, .int .i64 0] RTb)).alloc (.cells #[.int .i64 n] INT)) (.slice (some ⟨w.heap.size + 2, 0, none⟩) 1 1) [n] := ⟨_, 1, rfl, Nat.le_refl _, by decide, .inr ⟨_, 0, rfl, fun j hj => by
    obtain rfl : j = 0 := by simpa using hj
    exact hc0⟩⟩
  have HA := hide (add_any _ (.slice none 0 0) 0 [] [97] (.slice (some ⟨w.heap.size + 2, 0, none⟩) 1 1) [n] n [] rfl (fun p hp => by cases hp) (fun h => absurd rfl h) ⟨none, 0, rfl, Nat.le_refl _, by decide, .inl rfl⟩ (by simp) hI (by omega) (by omega) (by omega) (by omega))
  have HTB := hide hTB
  have HC0 := hide hc0
  clear hTB hc0 hI hb2
  go_enter Tryd.func5, Tryd.ntmps5
  go_wp2_with fail
  generalize (((w.alloc (.cells #[.slice none 0 0, .int .i64 0] RTb)).alloc (.cells #[.slice none 0 0, .int .i64 0] RTb)).alloc (.cells #[.int .i64 n] INT)) = W0 at *
  refine (unhide HA).mono ?_
  rintro ev w1 ⟨sv1, rfl, ho1, hb1⟩
  rw [Int.zero_add, List.nil_append] at *
  have hB1 := (unhide HTB).below hb1
  have hz0 := (unhide HTB).sz
  obtain ⟨t0, t1, f0, f1, -, -, -, -, -, hz1⟩ := hB1
  have HB1 := hide (((unhide HTB).below hb1).store sv1 n)
  have hc1 := (hb1.cell (p := ⟨w.heap.size + 2, 0, none⟩) (cell_lt (unhide HC0))).trans (unhide HC0)
  have HC1 := hide ((set2_cell w1 (w.heap.size + 1) sv1 (.int .i64 n) (show w.heap.size + 2 ≠ w.heap.size + 1 by omega)).trans hc1)
  have HO1 : Hid (OwnSy RSy (w.heap.size + 2) ((w1.setCell ⟨w.heap.size + 1, 0, none⟩ sv1).setCell ⟨w.heap.size + 1, 1, none⟩ (.int .i64 n)) sv1 [(⟨[97], [n], 0, n⟩, .slice (some ⟨w.heap.size + 2, 0, none⟩) 1 1)]) := hide (World.ownsRow.mono (own_keep ho1 (fun k hk => set2_other _ _ _ _ (by have := (ho1.lt k hk).1; omega))) hz0)
  obtain ⟨va1, vc1, hv1⟩ : ∃ a c, sv1 = .slice a 1 c := ho1.shape
  subst hv1
  clear ho1 hb1 hc1 HA HTB HC0
  go_wp2_with fail
  have hws : ((w1.setCell ⟨w.heap.size + 1, 0, none⟩ (.slice va1 1 vc1)).setCell ⟨w.heap.size + 1, 1, none⟩ (.int .i64 n)).heap.size = w1.heap.size := by simp [World.setCell]
  generalize ((w1.setCell ⟨w.heap.size + 1, 0, none⟩ (.slice va1 1 vc1)).setCell ⟨w.heap.size + 1, 1, none⟩ (.int .i64 n)) = W1 at *
  have al := alloc_below W1 (.cells #[.int .i64 3, .int .i64 2] INT)
  have hd0 : (W1.alloc (.cells #[.int .i64 3, .int .i64 2] INT)).cell? ⟨w1.heap.size, 0, none⟩ = some (.int .i64 3) := by rw [← hws]; simp
  have hd1 : (W1.alloc (.cells #[.int .i64 3, .int .i64 2] INT)).cell? ⟨w1.heap.size, 1, none⟩ = some (.int .i64 2) := by rw [← hws]; simp
  have hD : Dim2 w (W1.alloc (.cells #[.int .i64 3, .int .i64 2] INT)) w1.heap.size n := ⟨(al.cell (p := ⟨w.heap.size + 2, 0, none⟩) (cell_lt (unhide HC1))).trans (unhide HC1), hd0, hd1⟩
  have hI1 : ∀ p ∈ [((⟨[97], [n], 0, n⟩ : Sy), Value.slice (some ⟨w.heap.size + 2, 0, none⟩) 1 1)], Ints (W1.alloc (.cells #[.int .i64 3, .int .i64 2] INT)) p.2 p.1.dims := fun p hp => tabL_dims hD 0 p (by unfold tabL; rw [List.mem_singleton.1 hp]; simp)
  have hI2 : Ints (W1.alloc (.cells #[.int .i64 3, .int .i64 2] INT)) (.slice (some ⟨w1.heap.size, 0, none⟩) 2 2) [3, 2] := tabL_dims hD 0 ((⟨[98], [3, 2], n, 6⟩ : Sy), Value.slice (some ⟨w1.heap.size, 0, none⟩) 2 2) (by unfold tabL; simp)
  have ho1 : OwnSy RSy (w.heap.size + 2) (W1.alloc (.cells #[.int .i64 3, .int .i64 2] INT)) _ _ := below_own (unhide HO1) al
  have HA2 := hide (add_any _ (.slice va1 1 vc1) n [(⟨[97], [n], 0, n⟩ : Sy)] [98] (.slice (some ⟨w1.heap.size, 0, none⟩) 2 2) [3, 2] 6 [((⟨[97], [n], 0, n⟩ : Sy), Value.slice (some ⟨w.heap.size + 2, 0, none⟩) 1 1)] rfl hI1 (row_cells ho1) (ho1.syms hI1) (by simp) hI2 (by omega) (by omega) (by omega) (by omega))
  have hB1 := (unhide HB1).below al
  have HB1a := hide hB1
  have HD := hide hD
  have hzz := hB1.sz
  have hw1 : w.heap.size + 2 ≤ w1.heap.size := hz1
  clear al hd0 hd1 hD hI1 hI2 ho1 hB1 HB1 HC1 HO1 hws
  generalize (W1.alloc (.cells #[.int .i64 3, .int .i64 2] INT)) = W2 at *
  refine (unhide HA2).mono ?_
  rintro ev w2 ⟨sv2, rfl, ho2, hb2⟩
  obtain ⟨u0, u1, fu0, fu1, -, -, -, -, -, hz2⟩ := (unhide HB1a).below hb2
  have HM2 : Hid (TM w ((w2.setCell ⟨w.heap.size + 1, 0, none⟩ sv2).setCell ⟨w.heap.size + 1, 1, none⟩ (.int .i64 (n + 6))) w1.heap.size n 0 sv2) := hide (by
    have hb := ((unhide HB1a).below hb2).store sv2 (n + 6)
    have hd := (unhide HD).below hb2
    refine ⟨?_, ⟨(set2_cell _ _ _ _ (by omega)).trans hd.c0, (set2_cell _ _ _ _ (by omega)).trans hd.d0, (set2_cell _ _ _ _ (by omega)).trans hd.d1⟩, ?_, hw1⟩
    · rw [show n + 6 + ((0 : Nat) : Int) = n + 6 by omega]; exact hb
    · exact World.ownsRow.mono (own_keep ho2 (fun k hk => set2_other _ _ _ _ (by have := (ho2.lt k hk).1; omega))) hzz)
  obtain ⟨va2, vc2, hv2⟩ : ∃ a c, sv2 = .slice a 2 c := ho2.shape
  subst hv2
  clear ho2 hb2 HA2 HB1a HD t0 t1 f0 f1
  go_wp2_with fail
  have hws : ((w2.setCell ⟨w.heap.size + 1, 0, none⟩ (.slice va2 2 vc2)).setCell ⟨w.heap.size + 1, 1, none⟩ (.int .i64 (n + 6))).heap.size = w2.heap.size := by simp [World.setCell]
  generalize ((w2.setCell ⟨w.heap.size + 1, 0, none⟩ (.slice va2 2 vc2)).setCell ⟨w.heap.size + 1, 1, none⟩ (.int .i64 (n + 6))) = W3 at *
  have al := alloc_below W3 (.cells #[.string ⟨#[120]⟩, .string ⟨#[121]⟩, .string ⟨#[110]⟩, .string ⟨#[105]⟩, .string ⟨#[106]⟩] 9)
  have HM3 := hide ((unhide HM2).below al)
  have HST : Hid (∀ k, k < 5 → (W3.alloc (.cells #[.string ⟨#[120]⟩, .string ⟨#[121]⟩, .string ⟨#[110]⟩, .string ⟨#[105]⟩, .string ⟨#[106]⟩] 9)).cell? ⟨w2.heap.size, k, none⟩ = some (.string ⟨(nm5 k).toArray⟩)) := hide (fun k hk => by
    rw [← hws]
    have : k = 0 ∨ k = 1 ∨ k = 2 ∨ k = 3 ∨ k = 4 := by omega
    rcases this with rfl | rfl | rfl | rfl | rfl <;> simp [nm5])
  have hlb : w.heap.size + 2 ≤ w2.heap.size := hz2
  clear al hws HM2 u0 u1 fu0 fu1
  generalize (W3.alloc (.cells #[.string ⟨#[120]⟩, .string ⟨#[121]⟩, .string ⟨#[110]⟩, .string ⟨#[105]⟩, .string ⟨#[106]⟩] 9)) = W4 at *
  generalize w2.heap.size = lb at *
  go_loopw [5] (fun q wr => ∃ (i : Nat) (sv : Value), i ≤ 5 ∧ q = .int .i64 i ∧ Hid (TM w wr w1.heap.size n i sv) ∧ Hid (∀ k, k < 5 → wr.cell? ⟨lb, k, none⟩ = some (.string ⟨(nm5 k).toArray⟩))) (fun q _ => 5 - (intOf q).toNat)
  case atStart => exact ⟨0, _, by omega, rfl, HM3, HST⟩
  case round =>
    obtain ⟨i, sv, hi, rfl, HMM, HSS⟩ := hrel
    obtain ⟨sa, sc, hsv⟩ : ∃ a c, sv = .slice a (i + 2) c := by
      obtain ⟨a, c, h⟩ := (unhide HMM).row.shape
      rw [tabL_len] at h
      exact ⟨a, c, h⟩
    subst hsv
    obtain ⟨t0, t1, f0, f1, r0, r1, g0, g1, ho, hz⟩ := (unhide HMM).box
    by_cases hlt : i < 5
    · have hstr := unhide HSS i hlt
      have hlt2 : (i : Int) < 5 := by omega
      have HA3 := hide (((unhide HMM).below (below_drewN (Below.refl _ _) 1)).add h1 h2 hlt)
      have HOD := hide ho
      clear ho
      go_wp2_with fail
      refine wp_regionE (fun W => W.cell? ⟨w.heap.size + 1, 0, none⟩ = some (.slice sa (i + 2) sc) ∧ W.cell? ⟨w.heap.size + 1, 1, none⟩ = some (.int .i64 (n + 6 + i)) ∧ W.cell? ⟨lb, i, none⟩ = some (.string ⟨(nm5 i).toArray⟩)) (fun j => decide (j < 6)) (by kernel_rfl) ⟨t0, t1, hstr⟩ (fun hS => ?_)
      refine anyE_take 0 (v := ?_) rfl (by kernel_rfl) (by kernel_rfl) (by kernel_rfl) (by kernel_rfl) (fun _ _ _ h => h) hS (Or.inl ⟨by rfl, ?_⟩) ?_
      rotate_left
      · intro w' hS'
        obtain ⟨e1, e2, e3⟩ := hS'
        go_simp
        try with_reducible rfl
      try simp only [List.getElem_toArray, List.getElem_cons_zero, Act.put, List.setIfInBounds_toArray, List.set_cons_zero, List.set_cons_succ]
      refine anyE_take 1 (v := ?_) rfl (by kernel_rfl) (by kernel_rfl) (by kernel_rfl) (by kernel_rfl) (fun _ _ _ h => h) hS (Or.inl ⟨by rfl, ?_⟩) ?_
      rotate_left
      · intro w' hS'
        obtain ⟨e1, e2, e3⟩ := hS'
        go_simp
        try with_reducible rfl
      try simp only [List.getElem_toArray, List.getElem_cons_succ, List.getElem_cons_zero, Act.put, List.setIfInBounds_toArray, List.set_cons_zero, List.set_cons_succ]
      refine anyE_take 2 (v := ?_) rfl (by kernel_rfl) (by kernel_rfl) (by kernel_rfl) (by kernel_rfl) (fun _ _ _ h => h) hS (Or.inl ⟨by rfl, ?_⟩) ?_
      rotate_left
      · intro w' hS'
        obtain ⟨e1, e2, e3⟩ := hS'
        go_simp
        try with_reducible rfl
      try simp only [List.getElem_toArray, List.getElem_cons_succ, List.getElem_cons_zero, Act.put, List.setIfInBounds_toArray, List.set_cons_zero, List.set_cons_succ]
      refine anyE_take 3 (v := ?_) rfl (by kernel_rfl) (by kernel_rfl) (by kernel_rfl) (by kernel_rfl) (fun _ _ _ h => h) hS (Or.inl ⟨by rfl, ?_⟩) ?_
      rotate_left
      · intro w' hS'
        obtain ⟨e1, e2, e3⟩ := hS'
        go_simp
        try with_reducible rfl
      try simp only [List.getElem_toArray, List.getElem_cons_succ, List.getElem_cons_zero, Act.put, List.setIfInBounds_toArray, List.set_cons_zero, List.set_cons_succ]
      refine anyE_take 4 (v := ?_) rfl (by kernel_rfl) (by kernel_rfl) (by kernel_rfl) (by kernel_rfl) (fun _ _ _ h => h) hS (Or.inl ⟨by rfl, ?_⟩) ?_
      rotate_left
      · intro w' hS'
        obtain ⟨e1, e2, e3⟩ := hS'
        go_simp
        try with_reducible rfl
      try simp only [List.getElem_toArray, List.getElem_cons_succ, List.getElem_cons_zero, Act.put, List.setIfInBounds_toArray, List.set_cons_zero, List.set_cons_succ]
      refine anyE_ready [5] (by kernel_rfl) (by simp) (ReadyE.cons rfl (fun K' hK => ?_) ReadyE.nil)
      go_simp
      go_at_call 19
      refine (unhide HA3).mono ?_
      rintro ev w5 ⟨sv5, rfl, hb5, hm5⟩
      have hS5 : w5.cell? ⟨w.heap.size + 1, 0, none⟩ = some (.slice sa (i + 2) sc) ∧ w5.cell? ⟨w.heap.size + 1, 1, none⟩ = some (.int .i64 (n + 6 + i)) ∧ w5.cell? ⟨lb, i, none⟩ = some (.string ⟨(nm5 i).toArray⟩) := ⟨(hb5.cell (p := ⟨w.heap.size + 1, 0, none⟩) (cell_lt hS.1)).trans hS.1, (hb5.cell (p := ⟨w.heap.size + 1, 1, none⟩) (cell_lt hS.2.1)).trans hS.2.1, (hb5.cell (p := ⟨lb, i, none⟩) (cell_lt hS.2.2)).trans hS.2.2⟩
      have HB5 := hide ((below_drewN (Below.refl wr.heap.size wr) 1).trans hb5)
      have HM5 := hide hm5
      have HS5 := hide hS5
      obtain ⟨va5, vc5, hv5⟩ : ∃ a c, sv5 = .slice a (i + 1 + 2) c := by
        obtain ⟨a, c, h⟩ := hm5.row.shape
        rw [tabL_len] at h
        exact ⟨a, c, h⟩
      subst hv5
      clear hb5 hm5 hS5
      dsimp only
      try go_simp
      refine hK _ _ (fun _ => unhide HS5) ?_
      clear hK K'
      try simp only [List.getElem_toArray, List.getElem_cons_succ, List.getElem_cons_zero, Act.put, List.setIfInBounds_toArray, List.set_cons_zero, List.set_cons_succ]
      obtain ⟨y0, y1, -⟩ := unhide HS5
      have yf0 : w5.frozen? ⟨w.heap.size + 1, 0, none⟩ = false := ((unhide HB5).frozen (p := ⟨w.heap.size + 1, 0, none⟩) (cell_lt t0)).trans f0
      have yf1 : w5.frozen? ⟨w.heap.size + 1, 1, none⟩ = false := ((unhide HB5).frozen (p := ⟨w.heap.size + 1, 1, none⟩) (cell_lt t0)).trans f1
      clear hS
      refine anyE_ready [6] (by kernel_rfl) (by simp) (ReadyE.cons rfl (fun K' hK => ?_) ReadyE.nil)
      go_simp
      refine hK _ _ (fun h => absurd h (by decide)) ?_
      clear hK K'
      try simp only [List.getElem_toArray, List.getElem_cons_succ, List.getElem_cons_zero, Act.put, List.setIfInBounds_toArray, List.set_cons_zero, List.set_cons_succ]
      refine anyE_done (by kernel_rfl) ?_ _
      go_wp2_with fail
      go_roundw
      case rel =>
        refine ⟨i + 1, _, by omega, by go_num, HM5, hide (fun k hk => ?_)⟩
        exact (set2_cell _ _ _ _ (by omega)).trans (((unhide HB5).cell (p := ⟨lb, k, none⟩) (cell_lt (unhide HSS k hk))).trans (unhide HSS k hk))
      case measure => simp [intOf]; omega
    · obtain rfl : i = 5 := by omega
      have HRW := hide (unhide HMM).row
      have HDM := hide (unhide HMM).dim
      have HOD := hide ho
      have h5 : n + 6 + ((5 : Nat) : Int) = n + 11 := by omega
      rw [h5] at t1
      clear ho h5 HMM
      go_wp2_with fail
      refine bodyPost_ret (v := .agg #[.slice sa 7 sc, .int .i64 (n + 11)]) (by simp [results, Tryd.results5, go_sem, r0, r1]) rfl ⟨_, rfl, ?_, ((unhide HOD).setCell (p := ⟨w.heap.size, 0, none⟩) (Nat.le_refl _) _).setCell (p := ⟨w.heap.size, 1, none⟩) (Nat.le_refl _) _⟩
      have hd : Dim2 w ((wr.setCell ⟨w.heap.size, 0, none⟩ (.slice sa 7 sc)).setCell ⟨w.heap.size, 1, none⟩ (.int .i64 (n + 11))) w1.heap.size n := ⟨(set2_cell _ _ _ _ (by omega)).trans (unhide HDM).c0, (set2_cell _ _ _ _ (by omega)).trans (unhide HDM).d0, (set2_cell _ _ _ _ (by omega)).trans (unhide HDM).d1⟩
      have hr : OwnSy RSy (w.heap.size + 2) ((wr.setCell ⟨w.heap.size, 0, none⟩ (.slice sa 7 sc)).setCell ⟨w.heap.size, 1, none⟩ (.int .i64 (n + 11))) (.slice sa 7 sc) (tabL w.heap.size w1.heap.size n 5) := own_keep (unhide HRW) (fun k hk => set2_other _ _ _ _ (by have := ((unhide HRW).lt k hk).1; omega))
      have := hr.syms (tabL_dims hd 5)
      rw [tabL_tabN] at this
      exact this
end Go.Proofs.YtomnbidppkpfiaaDoor.Line
