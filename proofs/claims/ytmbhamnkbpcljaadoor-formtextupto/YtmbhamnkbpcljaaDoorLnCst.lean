/- Contracts of Const and Index, the program's and the reference's. -/
import Derived.Test.YtmbhamnkbpcljaaDoorLnFn
import Derived.Test.YtmbhamnkbpcljaaDoorLnPl2
namespace Go.Proofs.YtmbhamnkbpcljaaDoor.Line
open Go.ChangeShapes Go.WideShapes Go.ChangeAt Go.RowKit
set_option linter.unusedVariables false

def idxL (n : Nat) (i : Int) : List Int := if 0 ≤ i ∧ i < (n : Int) then (List.replicate n 0).set i.toNat 1 else List.replicate n 0
theorem idxL_len (n : Nat) (i : Int) : (idxL n i).length = n := by unfold idxL; split <;> simp
theorem size_ac (w : World) (o : Obj) : (w.alloc o).heap.size = w.heap.size + 1 := by simp
theorem const_any (m k : Int) (w : World) (hl : -9223372036854775808 ≤ m) (hm : m ≤ 1000) : Calls Tryd.prog 23 #[.int .i64 m, .int .i64 k] w fun e w' => ∃ q, e = .returned (formV (.slice (some ⟨q, 0, none⟩) m.toNat m.toNat) k) ∧ Wr w' q (List.replicate m.toNat 0) ∧ w.heap.size ≤ q ∧ Below w.heap.size w w' := by
  have hn : m.toNat ≤ 1000 := by omega
  obtain ⟨Z, hmk⟩ := make_wr m.toNat (by omega)
  have hrun := fun W => (hmk W).1
  have HMK := hide fun W => (hmk W).2
  clear hmk
  by_cases h0 : m < 0
  · have hz : m.toNat = 0 := by omega
    rw [hz] at hrun HMK ⊢
    have hrun0 : ∀ W : World, (Instr.makeSlice 22 (.int .i64 0) (.int .i64 0)).run Tryd.prog W = .ok (.slice (some ⟨W.heap.size, 0, none⟩) 0 0) (W.alloc (.cells Z 2)) := hrun
    clear hn hz hrun
    go_enter Tryd.func23, Tryd.ntmps23
    go_wp2_with fail
    exact bodyPost_ret (v := formV (.slice (some ⟨w.heap.size + 1, 0, none⟩) 0 0) k) (by simp [results, Tryd.results23, go_sem]) rfl ⟨_, rfl, by have h := unhide HMK (w.alloc (.cells #[.slice (some ⟨w.heap.size + 1, 0, none⟩) 0 0, .int .i64 k] FmT)); rw [size_ac] at h; exact h, Nat.le_succ _, bthen (alloc_below _ _) (alloc_below _ _)⟩
  · obtain ⟨n, rfl⟩ := Int.eq_ofNat_of_zero_le (by omega : 0 ≤ m)
    rw [Int.toNat_natCast] at hrun HMK ⊢
    have h0' : ¬ (n : Int) < 0 := by omega
    have h1' : ¬ (2147483647 : Int) < (n : Int) := by omega
    clear hn h0
    go_enter Tryd.func23, Tryd.ntmps23
    go_wp2_with fail
    exact bodyPost_ret (v := formV (.slice (some ⟨w.heap.size + 1, 0, none⟩) n n) k) (by simp [results, Tryd.results23, go_sem]) rfl ⟨_, rfl, by have h := unhide HMK (w.alloc (.cells #[.slice (some ⟨w.heap.size + 1, 0, none⟩) n n, .int .i64 k] FmT)); rw [size_ac] at h; exact h, Nat.le_succ _, bthen (alloc_below _ _) (alloc_below _ _)⟩
theorem constR_any (m k : Int) (w : World) (hl : -9223372036854775808 ≤ m) (hm : m ≤ 1000) : Calls Tryd.prog 24 #[.int .i64 m, .int .i64 k] w fun e w' => ∃ q, e = .returned (formV (.slice (some ⟨q, 0, none⟩) m.toNat m.toNat) k) ∧ Wr w' q (List.replicate m.toNat 0) ∧ w.heap.size ≤ q ∧ Below w.heap.size w w' := by
  have hn : m.toNat ≤ 1000 := by omega
  obtain ⟨Z, hmk⟩ := make_wr m.toNat (by omega)
  have hrun := fun W => (hmk W).1
  have HMK := hide fun W => (hmk W).2
  clear hmk
  by_cases h0 : m < 0
  · have hz : m.toNat = 0 := by omega
    rw [hz] at hrun HMK ⊢
    have hrun0 : ∀ W : World, (Instr.makeSlice 22 (.int .i64 0) (.int .i64 0)).run Tryd.prog W = .ok (.slice (some ⟨W.heap.size, 0, none⟩) 0 0) (W.alloc (.cells Z 2)) := hrun
    clear hn hz hrun
    go_enter Tryd.func24, Tryd.ntmps24
    go_wp2_with fail
    exact bodyPost_ret (v := formV (.slice (some ⟨w.heap.size + 1, 0, none⟩) 0 0) k) (by simp [results, Tryd.results24, go_sem]) rfl ⟨_, rfl, by have h := unhide HMK (w.alloc (.cells #[.slice (some ⟨w.heap.size + 1, 0, none⟩) 0 0, .int .i64 k] RfT)); rw [size_ac] at h; exact h, Nat.le_succ _, bthen (alloc_below _ _) (alloc_below _ _)⟩
  · obtain ⟨n, rfl⟩ := Int.eq_ofNat_of_zero_le (by omega : 0 ≤ m)
    rw [Int.toNat_natCast] at hrun HMK ⊢
    have h0' : ¬ (n : Int) < 0 := by omega
    have h1' : ¬ (2147483647 : Int) < (n : Int) := by omega
    clear hn h0
    go_enter Tryd.func24, Tryd.ntmps24
    go_wp2_with fail
    exact bodyPost_ret (v := formV (.slice (some ⟨w.heap.size + 1, 0, none⟩) n n) k) (by simp [results, Tryd.results24, go_sem]) rfl ⟨_, rfl, by have h := unhide HMK (w.alloc (.cells #[.slice (some ⟨w.heap.size + 1, 0, none⟩) n n, .int .i64 k] RfT)); rw [size_ac] at h; exact h, Nat.le_succ _, bthen (alloc_below _ _) (alloc_below _ _)⟩
set_option maxHeartbeats 4000000 in
theorem index_any (m i : Int) (w : World) (hl : -9223372036854775808 ≤ m) (hm : m ≤ 1000) (hi : -9223372036854775808 ≤ i) (hj : i ≤ 9223372036854775807) : Calls Tryd.prog 25 #[.int .i64 m, .int .i64 i] w fun e w' => ∃ q, e = .returned (formV (.slice (some ⟨q, 0, none⟩) m.toNat m.toNat) 0) ∧ Wr w' q (idxL m.toNat i) ∧ w.heap.size ≤ q ∧ Below w.heap.size w w' := by
  have HC := hide (const_any m 0)
  have hn : m.toNat ≤ 1000 := by omega
  have HBX := hide (Bx.new w (.slice none 0 0) (.int .i64 0) FmT)
  go_enter Tryd.func25, Tryd.ntmps25
  go_wp2_with fail
  refine (unhide HC _ hl hm).mono ?_
  rintro e w2 ⟨q, rfl, hwr, hq, hb⟩
  clear HC
  generalize hnn : m.toNat = n at *
  have hq1 : w.heap.size + 1 ≤ q := by simpa using hq
  obtain ⟨z0, z1, z2, z3, z4⟩ := (unhide HBX).keep hb
  have HWR := hide hwr
  have HB2 := hide (bthen (alloc_below w _) hb)
  have HX2 := hide (Bx.mk z0 z1 z2 z3 z4)
  have HY2 := hide (Bx.new w2 (.slice (some ⟨q, 0, none⟩) n n) (.int .i64 0) FmT)
  have hq2 : q ≠ w2.heap.size := Nat.ne_of_lt hwr.lt
  have hq3 : q < w2.heap.size := hwr.lt
  have hw2 : w.heap.size < w2.heap.size := z4
  clear hb hwr hq HBX hl hm z0 z1 z2 z3 z4
  by_cases h0 : 0 ≤ i
  · obtain ⟨j, rfl⟩ := Int.eq_ofNat_of_zero_le h0
    by_cases h1 : j < n
    · have h1' : (j : Int) < (n : Int) := by omega
      have h0' : (0 : Int) ≤ (j : Int) := by omega
      have hI : Hid (idxL n (j : Int) = (List.replicate n 0).set j 1) := hide (by unfold idxL; rw [if_pos ⟨h0', h1'⟩, Int.toNat_natCast])
      have hn9 : n ≤ 9223372036854775807 := by omega
      have cq := (unhide HWR).at j (by rw [List.length_replicate]; exact h1)
      have fq := (unhide HWR).free j
      have HWR2 := hide ((((unhide HWR).set j (by rw [List.length_replicate]; exact h1) 1).other ⟨w.heap.size, 0, none⟩ (by show w.heap.size ≠ q; omega) (.slice (some ⟨q, 0, none⟩) n n)).other ⟨w.heap.size, 1, none⟩ (by show w.heap.size ≠ q; omega) (.int .i64 0))
      have HB3 := hide ((((unhide HB2).setCell (p := ⟨q, j, none⟩) (by show w.heap.size ≤ q; omega) (.int .i64 1)).setCell (p := ⟨w.heap.size, 0, none⟩) (Nat.le_refl _) (.slice (some ⟨q, 0, none⟩) n n)).setCell (p := ⟨w.heap.size, 1, none⟩) (Nat.le_refl _) (.int .i64 0))
      obtain ⟨z0, z1, z2, z3, z4⟩ := unhide HX2
      obtain ⟨y0, y1, y2, y3, y4⟩ := unhide HY2
      have k0 : ∀ u, ((w2.alloc (.cells #[.slice (some ⟨q, 0, none⟩) n n, .int .i64 0] FmT)).setCell ⟨q, j, none⟩ u).cell? ⟨w2.heap.size, 0, none⟩ = some (.slice (some ⟨q, 0, none⟩) n n) := fun u => (World.cell?_of_block (a := ⟨w2.heap.size, 0, none⟩) (Below.heap_setCell _ _ _ _ (Ne.symm hq2))).trans y0
      have k1 : ∀ u, ((w2.alloc (.cells #[.slice (some ⟨q, 0, none⟩) n n, .int .i64 0] FmT)).setCell ⟨q, j, none⟩ u).cell? ⟨w2.heap.size, 1, none⟩ = some (.int .i64 0) := fun u => (World.cell?_of_block (a := ⟨w2.heap.size, 1, none⟩) (Below.heap_setCell _ _ _ _ (Ne.symm hq2))).trans y1
      go_wp2_with fail
      have HFZ := ((((Bx.mk z0 z1 z2 z3 z4).other ⟨q, j, none⟩ (by show q ≠ w.heap.size; omega) (.int .i64 1)).set0 (.slice (some ⟨q, 0, none⟩) n n)).set1 (.int .i64 0)).keep (alloc_below _ (.cells #[.slice (some ⟨q, 0, none⟩) n n, .int .i64 0] FmT))
      exact bodyPost_ret (v := formV (.slice (some ⟨q, 0, none⟩) n n) 0) (by simp [results, Tryd.results25, go_sem, HFZ.c0, HFZ.c1]) rfl ⟨q, by first | rfl | rw [hnn], by first | (rw [unhide hI]; exact (unhide HWR2).keep (alloc_below _ _)) | (rw [hnn, unhide hI]; exact (unhide HWR2).keep (alloc_below _ _)), by omega, bthen (unhide HB3) (alloc_below _ _)⟩
    · have h1' : ¬ (j : Int) < (n : Int) := by omega
      have h0' : (0 : Int) ≤ (j : Int) := by omega
      have hI : Hid (idxL n (j : Int) = List.replicate n 0) := hide (by unfold idxL; rw [if_neg (by omega)])
      have HWR2 := hide (((unhide HWR).other ⟨w.heap.size, 0, none⟩ (by show w.heap.size ≠ q; omega) (.slice (some ⟨q, 0, none⟩) n n)).other ⟨w.heap.size, 1, none⟩ (by show w.heap.size ≠ q; omega) (.int .i64 0))
      have HB3 := hide (((unhide HB2).setCell (p := ⟨w.heap.size, 0, none⟩) (Nat.le_refl _) (.slice (some ⟨q, 0, none⟩) n n)).setCell (p := ⟨w.heap.size, 1, none⟩) (Nat.le_refl _) (.int .i64 0))
      obtain ⟨z0, z1, z2, z3, z4⟩ := unhide HX2
      go_wp2_with fail
      have HFZ := (((Bx.mk z0 z1 z2 z3 z4).set0 (.slice (some ⟨q, 0, none⟩) n n)).set1 (.int .i64 0)).keep (alloc_below _ (.cells #[.slice (some ⟨q, 0, none⟩) n n, .int .i64 0] FmT))
      exact bodyPost_ret (v := formV (.slice (some ⟨q, 0, none⟩) n n) 0) (by simp [results, Tryd.results25, go_sem, HFZ.c0, HFZ.c1]) rfl ⟨q, by first | rfl | rw [hnn], by first | (rw [unhide hI]; exact (unhide HWR2).keep (alloc_below _ _)) | (rw [hnn, unhide hI]; exact (unhide HWR2).keep (alloc_below _ _)), by omega, bthen (unhide HB3) (alloc_below _ _)⟩
  · have h0' : ¬ (0 : Int) ≤ i := h0
    have hI : Hid (idxL n i = List.replicate n 0) := hide (by unfold idxL; rw [if_neg (by omega)])
    have HWR2 := hide (((unhide HWR).other ⟨w.heap.size, 0, none⟩ (by show w.heap.size ≠ q; omega) (.slice (some ⟨q, 0, none⟩) n n)).other ⟨w.heap.size, 1, none⟩ (by show w.heap.size ≠ q; omega) (.int .i64 0))
    have HB3 := hide (((unhide HB2).setCell (p := ⟨w.heap.size, 0, none⟩) (Nat.le_refl _) (.slice (some ⟨q, 0, none⟩) n n)).setCell (p := ⟨w.heap.size, 1, none⟩) (Nat.le_refl _) (.int .i64 0))
    obtain ⟨z0, z1, z2, z3, z4⟩ := unhide HX2
    go_wp2_with fail
    have HFZ := (((Bx.mk z0 z1 z2 z3 z4).set0 (.slice (some ⟨q, 0, none⟩) n n)).set1 (.int .i64 0)).keep (alloc_below _ (.cells #[.slice (some ⟨q, 0, none⟩) n n, .int .i64 0] FmT))
    exact bodyPost_ret (v := formV (.slice (some ⟨q, 0, none⟩) n n) 0) (by simp [results, Tryd.results25, go_sem, HFZ.c0, HFZ.c1]) rfl ⟨q, by first | rfl | rw [hnn], by first | (rw [unhide hI]; exact (unhide HWR2).keep (alloc_below _ _)) | (rw [hnn, unhide hI]; exact (unhide HWR2).keep (alloc_below _ _)), by omega, bthen (unhide HB3) (alloc_below _ _)⟩
set_option maxHeartbeats 4000000 in
theorem indexR_any (m i : Int) (w : World) (hl : -9223372036854775808 ≤ m) (hm : m ≤ 1000) (hi : -9223372036854775808 ≤ i) (hj : i ≤ 9223372036854775807) : Calls Tryd.prog 26 #[.int .i64 m, .int .i64 i] w fun e w' => ∃ q, e = .returned (formV (.slice (some ⟨q, 0, none⟩) m.toNat m.toNat) 0) ∧ Wr w' q (idxL m.toNat i) ∧ w.heap.size ≤ q ∧ Below w.heap.size w w' := by
  have HC := hide (constR_any m 0)
  have hn : m.toNat ≤ 1000 := by omega
  have HBX := hide (Bx.new w (.slice none 0 0) (.int .i64 0) RfT)
  go_enter Tryd.func26, Tryd.ntmps26
  go_wp2_with fail
  refine (unhide HC _ hl hm).mono ?_
  rintro e w2 ⟨q, rfl, hwr, hq, hb⟩
  clear HC
  generalize hnn : m.toNat = n at *
  have hq1 : w.heap.size + 1 ≤ q := by simpa using hq
  obtain ⟨z0, z1, z2, z3, z4⟩ := (unhide HBX).keep hb
  have HWR := hide hwr
  have HB2 := hide (bthen (alloc_below w _) hb)
  have HX2 := hide (Bx.mk z0 z1 z2 z3 z4)
  have HY2 := hide (Bx.new w2 (.slice (some ⟨q, 0, none⟩) n n) (.int .i64 0) RfT)
  have hq2 : q ≠ w2.heap.size := Nat.ne_of_lt hwr.lt
  have hq3 : q < w2.heap.size := hwr.lt
  have hw2 : w.heap.size < w2.heap.size := z4
  clear hb hwr hq HBX hl hm z0 z1 z2 z3 z4
  by_cases h0 : 0 ≤ i
  · obtain ⟨j, rfl⟩ := Int.eq_ofNat_of_zero_le h0
    by_cases h1 : j < n
    · have h1' : (j : Int) < (n : Int) := by omega
      have h0' : (0 : Int) ≤ (j : Int) := by omega
      have hI : Hid (idxL n (j : Int) = (List.replicate n 0).set j 1) := hide (by unfold idxL; rw [if_pos ⟨h0', h1'⟩, Int.toNat_natCast])
      have hn9 : n ≤ 9223372036854775807 := by omega
      have cq := (unhide HWR).at j (by rw [List.length_replicate]; exact h1)
      have fq := (unhide HWR).free j
      have HWR2 := hide ((((unhide HWR).set j (by rw [List.length_replicate]; exact h1) 1).other ⟨w.heap.size, 0, none⟩ (by show w.heap.size ≠ q; omega) (.slice (some ⟨q, 0, none⟩) n n)).other ⟨w.heap.size, 1, none⟩ (by show w.heap.size ≠ q; omega) (.int .i64 0))
      have HB3 := hide ((((unhide HB2).setCell (p := ⟨q, j, none⟩) (by show w.heap.size ≤ q; omega) (.int .i64 1)).setCell (p := ⟨w.heap.size, 0, none⟩) (Nat.le_refl _) (.slice (some ⟨q, 0, none⟩) n n)).setCell (p := ⟨w.heap.size, 1, none⟩) (Nat.le_refl _) (.int .i64 0))
      obtain ⟨z0, z1, z2, z3, z4⟩ := unhide HX2
      obtain ⟨y0, y1, y2, y3, y4⟩ := unhide HY2
      have k0 : ∀ u, ((w2.alloc (.cells #[.slice (some ⟨q, 0, none⟩) n n, .int .i64 0] RfT)).setCell ⟨q, j, none⟩ u).cell? ⟨w2.heap.size, 0, none⟩ = some (.slice (some ⟨q, 0, none⟩) n n) := fun u => (World.cell?_of_block (a := ⟨w2.heap.size, 0, none⟩) (Below.heap_setCell _ _ _ _ (Ne.symm hq2))).trans y0
      have k1 : ∀ u, ((w2.alloc (.cells #[.slice (some ⟨q, 0, none⟩) n n, .int .i64 0] RfT)).setCell ⟨q, j, none⟩ u).cell? ⟨w2.heap.size, 1, none⟩ = some (.int .i64 0) := fun u => (World.cell?_of_block (a := ⟨w2.heap.size, 1, none⟩) (Below.heap_setCell _ _ _ _ (Ne.symm hq2))).trans y1
      go_wp2_with fail
      have HFZ := ((((Bx.mk z0 z1 z2 z3 z4).other ⟨q, j, none⟩ (by show q ≠ w.heap.size; omega) (.int .i64 1)).set0 (.slice (some ⟨q, 0, none⟩) n n)).set1 (.int .i64 0)).keep (alloc_below _ (.cells #[.slice (some ⟨q, 0, none⟩) n n, .int .i64 0] RfT))
      exact bodyPost_ret (v := formV (.slice (some ⟨q, 0, none⟩) n n) 0) (by simp [results, Tryd.results26, go_sem, HFZ.c0, HFZ.c1]) rfl ⟨q, by first | rfl | rw [hnn], by first | (rw [unhide hI]; exact (unhide HWR2).keep (alloc_below _ _)) | (rw [hnn, unhide hI]; exact (unhide HWR2).keep (alloc_below _ _)), by omega, bthen (unhide HB3) (alloc_below _ _)⟩
    · have h1' : ¬ (j : Int) < (n : Int) := by omega
      have h0' : (0 : Int) ≤ (j : Int) := by omega
      have hI : Hid (idxL n (j : Int) = List.replicate n 0) := hide (by unfold idxL; rw [if_neg (by omega)])
      have HWR2 := hide (((unhide HWR).other ⟨w.heap.size, 0, none⟩ (by show w.heap.size ≠ q; omega) (.slice (some ⟨q, 0, none⟩) n n)).other ⟨w.heap.size, 1, none⟩ (by show w.heap.size ≠ q; omega) (.int .i64 0))
      have HB3 := hide (((unhide HB2).setCell (p := ⟨w.heap.size, 0, none⟩) (Nat.le_refl _) (.slice (some ⟨q, 0, none⟩) n n)).setCell (p := ⟨w.heap.size, 1, none⟩) (Nat.le_refl _) (.int .i64 0))
      obtain ⟨z0, z1, z2, z3, z4⟩ := unhide HX2
      go_wp2_with fail
      have HFZ := (((Bx.mk z0 z1 z2 z3 z4).set0 (.slice (some ⟨q, 0, none⟩) n n)).set1 (.int .i64 0)).keep (alloc_below _ (.cells #[.slice (some ⟨q, 0, none⟩) n n, .int .i64 0] RfT))
      exact bodyPost_ret (v := formV (.slice (some ⟨q, 0, none⟩) n n) 0) (by simp [results, Tryd.results26, go_sem, HFZ.c0, HFZ.c1]) rfl ⟨q, by first | rfl | rw [hnn], by first | (rw [unhide hI]; exact (unhide HWR2).keep (alloc_below _ _)) | (rw [hnn, unhide hI]; exact (unhide HWR2).keep (alloc_below _ _)), by omega, bthen (unhide HB3) (alloc_below _ _)⟩
  · have h0' : ¬ (0 : Int) ≤ i := h0
    have hI : Hid (idxL n i = List.replicate n 0) := hide (by unfold idxL; rw [if_neg (by omega)])
    have HWR2 := hide (((unhide HWR).other ⟨w.heap.size, 0, none⟩ (by show w.heap.size ≠ q; omega) (.slice (some ⟨q, 0, none⟩) n n)).other ⟨w.heap.size, 1, none⟩ (by show w.heap.size ≠ q; omega) (.int .i64 0))
    have HB3 := hide (((unhide HB2).setCell (p := ⟨w.heap.size, 0, none⟩) (Nat.le_refl _) (.slice (some ⟨q, 0, none⟩) n n)).setCell (p := ⟨w.heap.size, 1, none⟩) (Nat.le_refl _) (.int .i64 0))
    obtain ⟨z0, z1, z2, z3, z4⟩ := unhide HX2
    go_wp2_with fail
    have HFZ := (((Bx.mk z0 z1 z2 z3 z4).set0 (.slice (some ⟨q, 0, none⟩) n n)).set1 (.int .i64 0)).keep (alloc_below _ (.cells #[.slice (some ⟨q, 0, none⟩) n n, .int .i64 0] RfT))
    exact bodyPost_ret (v := formV (.slice (some ⟨q, 0, none⟩) n n) 0) (by simp [results, Tryd.results26, go_sem, HFZ.c0, HFZ.c1]) rfl ⟨q, by first | rfl | rw [hnn], by first | (rw [unhide hI]; exact (unhide HWR2).keep (alloc_below _ _)) | (rw [hnn, unhide hI]; exact (unhide HWR2).keep (alloc_below _ _)), by omega, bthen (unhide HB3) (alloc_below _ _)⟩
end Go.Proofs.YtmbhamnkbpcljaaDoor.Line
