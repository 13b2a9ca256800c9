/- The contract of the project's reader: nest. -/
import Derived.Test.YtdpjipphbhomkaaGreatDoorRdPush
import Derived.Deep.RegionLaw
namespace Go.Proofs.YtdpjipphbhomkaaGreatDoor.Line
open Go.ChangeShapes Go.WideShapes Go.ChangeAt Go.RowKit
open Ex (E St)
set_option linter.unusedVariables false

theorem ownF_nil' (t : TypeId) (base : Nat) (w : World) (S : Nat → Prop) : OwnF t base w S (.slice none 0 0) [] := OwnF.nil _ _ _ _
theorem heap_drew (w : World) (b : Nat) : w.drew.heap[b]? = w.heap[b]? := rfl
theorem size_drew (w : World) : w.drew.heap.size = w.heap.size := rfl
theorem alloc_new (w : World) (a : Array Value) (t : TypeId) : (w.alloc (.cells a t)).heap[w.heap.size]? = some (.cells a t (0, 0)) := heap_alloc_new w _
set_option maxHeartbeats 8000000 in
set_option maxRecDepth 100000 in
theorem nest_any (L : Value) (w : World) (base rb : Nat) (X : Nat → Prop) (pos d : Nat) (v : Value) (K : List (E × Value)) (hi : Nat) (k : Int) (hR : Rd w base rb X L pos d v K hi) (hp1 : pos ≤ 1000000) (hk : k = 0 ∨ k = 4) (hd : d ≤ 20) :
    Calls Tryz.prog 160 #[.pointer (some ⟨rb, 0, none⟩), .int .i64 k] w fun e w' => (d = 20 ∧ e = .returned (.iface 93 (.int .i64 4)) ∧ w' = w) ∨ (d ≠ 20 ∧ e = .returned .nilIface ∧ ∃ v' hi', Rd w' base rb X L (pos + 1) (d + 1) v' ((.mk k 0 [] [], .slice none 0 0) :: K) hi' ∧ Kept rb base X w w') := by
  have HR := hide hR
  have hkl := hR.kl
  have h1 := hR.c1
  have h2 := hR.c2
  have h3 := hR.c3
  have f1 := hR.fr 1
  have f2 := hR.fr 2
  have f3 := hR.fr 3
  have hrl : rb < w.heap.size := by have := hR.lt; have := hR.bs; omega
  by_cases h20 : d = 20
  · subst h20
    have h3' : w.cell? ⟨rb, 3, none⟩ = some (.int .i64 20) := h3
    clear h3 hR
    go_enter Tryz.func160, Tryz.ntmps160
    go_wp2
    go_ret
    exact .inl ⟨trivial, rfl, rfl⟩
  · have q1 : ((d : Int) == 20) = false := by rw [beq_eq_false_iff_ne]; omega
    obtain ⟨va, vc, hv⟩ := hR.shape
    subst hv
    have hUb : ∀ b, b ≠ rb → ((w.setCell ⟨rb, 3, none⟩ (.int .i64 ((d : Int) + 1))).setCell ⟨rb, 1, none⟩ (.int .i64 ((pos : Int) + 1))).drew.heap[b]? = w.heap[b]? := fun b hb => (heap_drew _ b).trans ((Below.heap_setCell _ _ _ _ (show b ≠ rb from hb)).trans (Below.heap_setCell _ _ _ _ (show b ≠ rb from hb)))
    have hUs : ((w.setCell ⟨rb, 3, none⟩ (.int .i64 ((d : Int) + 1))).setCell ⟨rb, 1, none⟩ (.int .i64 ((pos : Int) + 1))).drew.heap.size = w.heap.size := (size_drew _).trans (by simp [World.setCell])
    have hz := alloc_new ((w.setCell ⟨rb, 3, none⟩ (.int .i64 ((d : Int) + 1))).setCell ⟨rb, 1, none⟩ (.int .i64 ((pos : Int) + 1))).drew zeroE PET
    rw [hUs] at hz
    have hA := alloc_below ((w.setCell ⟨rb, 3, none⟩ (.int .i64 ((d : Int) + 1))).setCell ⟨rb, 1, none⟩ (.int .i64 ((pos : Int) + 1))).drew (.cells zeroE PET)
    rw [hUs] at hA
    have hcc : ∀ o, (((w.setCell ⟨rb, 3, none⟩ (.int .i64 ((d : Int) + 1))).setCell ⟨rb, 1, none⟩ (.int .i64 ((pos : Int) + 1))).drew.alloc (.cells zeroE PET)).cell? ⟨rb, o, none⟩ = ((w.setCell ⟨rb, 3, none⟩ (.int .i64 ((d : Int) + 1))).setCell ⟨rb, 1, none⟩ (.int .i64 ((pos : Int) + 1))).cell? ⟨rb, o, none⟩ := fun o => World.cell?_of_block (a := ⟨rb, o, none⟩) ((hA.block rb hrl).trans (heap_drew _ rb))
    have hcf : ∀ o, (((w.setCell ⟨rb, 3, none⟩ (.int .i64 ((d : Int) + 1))).setCell ⟨rb, 1, none⟩ (.int .i64 ((pos : Int) + 1))).drew.alloc (.cells zeroE PET)).frozen? ⟨rb, o, none⟩ = false := fun o => (World.frozen?_of_block (a := ⟨rb, o, none⟩) ((hA.block rb hrl).trans (heap_drew _ rb))).trans (by simp [go_sem, hR.fr o])
    have hcnt : d + 1 = cnt (((.mk k 0 [] [] : E), .slice none 0 0) :: K) := by
      have hc2 : (E.mk k 0 [] []).kind = 0 ∨ (E.mk k 0 [] []).kind = 4 := hk
      simp only [cnt]
      rw [if_pos hc2, hR.dp]
      omega
    obtain ⟨g9, c9, w9, hr9, hne9, hne9', z2, zf, ⟨y0, y1, y2, y3⟩, xf, hfin⟩ := push_mem (W := ((w.setCell ⟨rb, 3, none⟩ (.int .i64 ((d : Int) + 1))).setCell ⟨rb, 1, none⟩ (.int .i64 ((pos : Int) + 1))).drew.alloc (.cells zeroE PET)) (z := w.heap.size) (pos' := pos + 1) (d' := d + 1) (m := hi) (y := .mk k 0 [] []) (yv := .slice none 0 0) (ps := []) hR rfl rfl rfl (by have := hA.size; omega) (fun b hb hne => (hA.block b hb).trans (hUb b hne)) hz ((hcc 0).trans (by simp [go_sem, hR.c0])) ((hcc 1).trans (by simp [go_sem, h1])) ((hcc 2).trans (by simp [go_sem, h2])) ((hcc 3).trans (by simp [go_sem, h3])) hcf (Nat.le_refl _) (by have := hA.size; have := hR.hi_le; omega) rfl (OwnF.nil _ _ _ _) (fun k hk => by cases hk) hcnt (by omega) (by simp [E.a]) (by omega)
    have x0 := xf (K.length * 4)
    have x1 := xf (K.length * 4 + 1)
    have x2 := xf (K.length * 4 + 2)
    have x3 := xf (K.length * 4 + 3)
    have HR9 := hide hr9
    have HFI := hide hfin
    clear hR hfin hr9 xf hcc hcf hA hz hUs hUb hcnt
    generalize hn : K.length = n at *
    have hnn : (n : Int) < n + 1 := by omega
    go_enter Tryz.func160, Tryz.ntmps160
    go_wp2_with fail
    go_region_law (refine step_append_runP rfl _ _ rfl rfl _ _ rfl rfl _ _ (unhide HR9) ?_)
    all_goals (
      go_wp2
      go_ret
      first
        | exact .inr ⟨h20, rfl, _, _, (unhide HFI _ (.inl rfl)).1, (unhide HFI _ (.inl rfl)).2.1⟩
        | exact .inr ⟨h20, rfl, _, _, (unhide HFI _ (.inr rfl)).1, (unhide HFI _ (.inr rfl)).2.1⟩)
end Go.Proofs.YtdpjipphbhomkaaGreatDoor.Line
