/- The contract of the project's reader: comma. -/
import Derived.Test.YtdpjipphbhomkaaGreatDoorRdComma
namespace Go.Proofs.YtdpjipphbhomkaaGreatDoor.Line
open Go.ChangeShapes Go.WideShapes Go.ChangeAt Go.RowKit
open Ex (E St)
set_option linter.unusedVariables false

theorem at_world {F : World → Prop} {Q : Exit → Act → World → Prop} {x : Exit} {a : Act} {W : World} (h : F W) (k : ∀ W, F W → Q x a W) : Q x a W := k W h
theorem Rd.moveI {w : World} {base rb : Nat} {X : Nat → Prop} {L : Value} {pos d : Nat} {v : Value} {K : List (E × Value)} {hi : Nat} (h : Rd w base rb X L pos d v K hi) : Rd (w.setCell ⟨rb, 1, none⟩ (.int .i64 ((pos : Int) + 1))) base rb X L (pos + 1) d v K hi := h.move 1
theorem Kept.rb {rb base : Nat} {X : Nat → Prop} {a w : World} (h : Kept rb base X a w) (o : Nat) (u : Value) : Kept rb base X a (w.setCell ⟨rb, o, none⟩ u) := h.by rfl rfl rfl (by simp [World.setCell]) (fun b _ hr _ => Below.heap_setCell _ _ _ _ (show b ≠ rb from hr))
def CommaPost (L : Value) (w : World) (base rb : Nat) (X : Nat → Prop) (p d : Nat) (y x : E) (K : List (E × Value)) (e : Ending) (w' : World) : Prop :=
  (y.kind ≠ 3 ∧ e = .returned (.iface 93 (.int .i64 2)) ∧ w'.cell? ⟨rb, 1, none⟩ = some (.int .i64 p) ∧ Kept rb base X w w') ∨
  (y.kind = 3 ∧ y.a.length + 1 = 4 ∧ e = .returned (.iface 93 (.int .i64 4)) ∧ w'.cell? ⟨rb, 1, none⟩ = some (.int .i64 p) ∧ Kept rb base X w w') ∨
  (y.kind = 3 ∧ y.a.length + 1 ≠ 4 ∧ e = .returned .nilIface ∧ ∃ v' yv' hi', Rd w' base rb X L (p + 1) d v' ((y.plus x, yv') :: K) hi' ∧ Kept rb base X w w')
set_option maxHeartbeats 8000000 in
set_option maxRecDepth 100000 in
theorem comma_any (L : Value) (w : World) (base rb : Nat) (X : Nat → Prop) (p d : Nat) (v : Value) (y : E × Value) (K : List (E × Value)) (hi : Nat) (x : E) (sx : Value) (hR : Rd w base rb X L p d v (y :: K) hi) (hx : Forest w (fun b => hi ≤ b ∧ ¬ (some b = v.ownBlock ∨ X b)) x.a sx) (hp1 : p ≤ 1000000) :
    Calls Tryz.prog 164 #[.pointer (some ⟨rb, 0, none⟩), treeV x sx] w fun e w' => CommaPost L w base rb X p d y.1 x K e w' := by
  obtain ⟨y, yv⟩ := y
  obtain ⟨g, cap, m, ps, rfl, hcap, hmax, hg1, hg2, hgX, ⟨t0, t1, t2, t3⟩, htf, hmh, hbm, hya, hyp, hyb, hstk⟩ := hR.top
  have hal := hR.al _ List.mem_cons_self
  have hkl := hR.kl
  have hrl : rb < w.heap.size := by have := hR.lt; have := hR.bs; omega
  obtain ⟨xa, xc, hsx⟩ := hx.shape
  obtain ⟨ya, yc, hyv⟩ := hyp.shape
  dsimp only at t0 t1 t2 t3 hyv hal hya hyp hyb ⊢
  have hpl : ps.length = y.a.length := by rw [hya, List.length_map]
  subst hsx hyv
  simp only [List.length_cons] at hkl
  have h1 := hR.c1
  have h2 := hR.c2
  have f1 := hR.fr 1
  have f3 := htf (K.length * 4 + 3)
  have hcap2 : (K.length : Int) + 1 ≤ cap := by omega
  have HAB : Hid (∀ n, Below w.heap.size w ((w.alloc (.cells #[.int .i64 x.kind, .int .i64 x.n, .string ⟨x.name.toArray⟩, .slice xa x.a.length xc] PET)).drewN n)) := hide (fun n => below_drewN (alloc_below w _) n)
  by_cases k3 : y.kind = 3
  · rw [k3] at t0
    by_cases k4 : y.a.length + 1 = 4
    · have hpl3 : (ps.length : Int) = 3 := by omega
      have hpl3n : ps.length = 3 := by omega
      rw [hpl3n] at t3
      have HFI : Hid (∀ n, ((w.alloc (.cells #[.int .i64 x.kind, .int .i64 x.n, .string ⟨x.name.toArray⟩, .slice xa x.a.length xc] PET)).drewN n).cell? ⟨rb, 1, none⟩ = some (.int .i64 p)) := hide (fun n => ((unhide HAB n).cell (p := ⟨rb, 1, none⟩) hrl).trans h1)
      clear hR hx hyp hyb hstk hya hpl hpl3 hpl3n
      generalize hxl : x.a.length = xl at *
      generalize hn : K.length = n at *
      go_enter Tryz.func164, Tryz.ntmps164
      go_wp2_with fail
      go_quiet (fail)
      go_wp2
      go_ret
      exact .inr (.inl ⟨k3, k4, rfl, unhide HFI _, Kept.of (unhide HAB _)⟩)
    · have hpl3 : ((ps.length : Int) + 1 == 4) = false := by rw [beq_eq_false_iff_ne]; omega
      have hpl1 : (ps.length : Int) ≤ 3 := by omega
      have HCM := hide (And.intro hR (And.intro hx (And.intro hya (And.intro hyp (And.intro hyb hstk)))))
      have hB0 := box_new w x (.slice xa x.a.length xc) PET
      have HB0 := hide hB0
      have hzb : (w.alloc (.cells #[.int .i64 x.kind, .int .i64 x.n, .string ⟨x.name.toArray⟩, .slice xa x.a.length xc] PET)).heap.size = w.heap.size + 1 := by simp
      have HZB := hide hzb
      clear hR hx hyp hyb hstk hya hpl hB0 hzb
      generalize hxl : x.a.length = xl at *
      generalize hn : K.length = n at *
      generalize hpl : ps.length = pl at *
      go_enter Tryz.func164, Tryz.ntmps164
      go_wp2_with fail
      go_quiet (fail)
      go_upto_region 6 with (fail)
      have hB5 : Box ((w.alloc (.cells #[.int .i64 x.kind, .int .i64 x.n, .string ⟨x.name.toArray⟩, .slice xa xl xc] PET)).drewN nq) w.heap.size x (.slice xa xl xc) := (unhide HB0).keep rfl (Nat.le_refl _)
      have hW5 := unhide HAB nq
      have hs5 : ((w.alloc (.cells #[.int .i64 x.kind, .int .i64 x.n, .string ⟨x.name.toArray⟩, .slice xa xl xc] PET)).drewN nq).heap.size = w.heap.size + 1 := unhide HZB
      generalize (w.alloc (.cells #[.int .i64 x.kind, .int .i64 x.n, .string ⟨x.name.toArray⟩, .slice xa xl xc] PET)).drewN nq = W5 at *
      have hA := alloc_below W5.drew (.cells zeroE PET)
      have hz := alloc_new W5.drew zeroE PET
      rw [size_drew] at hA hz
      have hWz : Below w.heap.size w (W5.drew.alloc (.cells zeroE PET)) := bthen hW5 (w2 := W5.drew.alloc (.cells zeroE PET)) ((⟨rfl, rfl, rfl, Nat.le_refl _, fun _ _ => rfl⟩ : Below W5.heap.size W5 W5.drew).trans hA)
      subst hxl hn hpl
      obtain ⟨h9, c9, w9, hr9, hne9, hne9', z3, zf, ⟨y0, y1, y2, y3⟩, xf, hfin⟩ := comma_mem (W := W5.drew.alloc (.cells zeroE PET)) (z := W5.heap.size) (unhide HCM).1 (unhide HCM).2.1 (unhide HCM).2.2.1 (unhide HCM).2.2.2.1 (unhide HCM).2.2.2.2.1 (unhide HCM).2.2.2.2.2 hmh hWz hz (by omega)
      rw [hs5] at hr9
      obtain ⟨b0, b1, b2, b3, -, -, -, -, hbl⟩ := hB5
      have s3 := (hW5.cell (p := ⟨g, K.length * 4 + 3, none⟩) hg2).trans t3
      have hgW : g < W5.heap.size := by omega
      have x0 := xf (ps.length * 4)
      have x1 := xf (ps.length * 4 + 1)
      have x2 := xf (ps.length * 4 + 2)
      have x3 := xf (ps.length * 4 + 3)
      have HR9 := hide hr9
      have HFI := hide hfin
      clear hr9 hfin xf hA hz hWz t0 t1 t2 t3 h1 h2 HCM HAB HB0 HZB
      generalize hxl : x.a.length = xl at *
      generalize hn : K.length = n at *
      generalize hpl : ps.length = pl at *
      have hnn : (pl : Int) < pl + 1 := by omega
      go_region_law (refine step_append_runP rfl _ _ rfl rfl _ _ rfl rfl _ _ (unhide HR9) ?_)
      all_goals (
        refine at_world (F := fun W => Rd W base rb X L p d (.slice (some ⟨g, 0, none⟩) (n + 1) cap) ((y.plus x, .slice (some ⟨h9, 0, none⟩) (pl + 1) c9) :: K) W.heap.size ∧ Kept rb base X w W) (unhide HFI _ ?_) ?_
        · first | exact .inl (by with_reducible rfl) | exact .inr (by with_reducible rfl)
        intro Wf hWf
        have HRF := hide hWf
        have q1 := hWf.1.c1
        have q2 := hWf.1.fr 1
        clear hWf y0 y1 y2 y3 x0 x1 x2 x3 z3 zf
        go_wp2
        go_ret
        exact .inr (.inr ⟨k3, k4, rfl, _, _, _, (unhide HRF).1.moveI, (unhide HRF).2.rb _ _⟩))
  · have k3n : (y.kind == 3) = false := beq_eq_false_iff_ne.2 k3
    have k3m : (y.kind != 3) = true := by simp [bne, k3n]
    have HFI : Hid (∀ n, ((w.alloc (.cells #[.int .i64 x.kind, .int .i64 x.n, .string ⟨x.name.toArray⟩, .slice xa x.a.length xc] PET)).drewN n).cell? ⟨rb, 1, none⟩ = some (.int .i64 p)) := hide (fun n => ((unhide HAB n).cell (p := ⟨rb, 1, none⟩) hrl).trans h1)
    clear hR hx hyp hyb hstk hya hpl
    generalize hxl : x.a.length = xl at *
    generalize hn : K.length = n at *
    generalize ps.length = pl at *
    go_enter Tryz.func164, Tryz.ntmps164
    go_wp2_with fail
    go_quiet (fail)
    go_wp2
    go_ret
    exact .inl ⟨k3, rfl, unhide HFI _, Kept.of (unhide HAB _)⟩
end Go.Proofs.YtdpjipphbhomkaaGreatDoor.Line
