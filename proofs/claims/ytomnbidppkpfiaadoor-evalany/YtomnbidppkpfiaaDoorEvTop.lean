/- The contracts of eval.Eval, Place, Holds. -/
import Derived.Test.YtomnbidppkpfiaaDoorEvVs
import Derived.Test.YtomnbidppkpfiaaDoorPlainEz
namespace Go.Proofs.YtomnbidppkpfiaaDoor.Line
open Go.ChangeShapes Go.WideShapes Go.ChangeAt Go.RowKit
open Ex (E)
open Ev (Sy Res)
set_option linter.unusedVariables false

abbrev PET : TypeId := 24
theorem box_new (w : World) (x : E) (sx : Value) (t : TypeId) : At (w.alloc (.cells #[.int .i64 x.kind, .int .i64 x.n, .string ⟨x.name.toArray⟩, sx] t)) w.heap.size 0 x sx := ⟨by simp, by simp, by simp, by simp⟩
theorem ev_one (T : List Sy) (s : List Int) (x : E) : Ev.evs T s [x] = if (Ev.ev T s x).err ≠ 0 then .inl (Ev.ev T s x) else .inr [(Ev.ev T s x).v] := by
  rw [Ev.evs, Ev.evs]
theorem ev_ok (T : List Sy) (s : List Int) (x : E) : (Ev.ev T s x).err ≠ 0 → (Ev.ev T s x).v = 0 := Ev.ev_zero T s x
theorem vls_mono {R : Sum Res (List Int)} {w W w' : World} {dv f : Value} (h : VlsOk R W w' dv f) (hz : w.heap.size ≤ W.heap.size) : VlsOk R w w' dv f := by
  cases R with
  | inl r => exact ⟨h.1, h.2.1, says_mono h.2.2 hz⟩
  | inr m => exact h
/-- values, in a world behind -/
theorem values_at (w W : World) (hb : Below w.heap.size w W) (sv : Value) (c : Int) (T : List Sy) (stv : Value) (s : List Int) (lv : Value) (l : List E) (hs : Syms w sv T) (ht : Ev.Fine T) (hst : Ints w stv s) (hsl : s.length ≤ 1000000) (hl : Forest W (fun _ => True) l lv) (hn : 2 * Ev.szs l ≤ 90000) (hln : l.length ≤ 90000) :
    Calls Tryd.prog 23 #[.agg #[sv, .int .i64 c], stv, lv] W fun e w' => ∃ dv f, e = .returned (.tuple #[dv, f]) ∧ VlsOk (Ev.evs T s l) w w' dv f ∧ Below w.heap.size w w' := by
  refine (values_any W sv c T stv s lv l (hs.below hb) ht (hst.below hb) hsl hl hn hln).mono ?_
  rintro e w' ⟨dv, f, h1, h2, h3⟩
  exact ⟨dv, f, h1, vls_mono h2 hb.size, bthen hb h3⟩
set_option maxHeartbeats 8000000 in
set_option maxRecDepth 100000 in
theorem eval_any (w : World) (sv : Value) (c : Int) (T : List Sy) (stv : Value) (s : List Int) (x : E) (sx : Value) (hs : Syms w sv T) (ht : Ev.Fine T) (hst : Ints w stv s) (hsl : s.length ≤ 1000000) (hx : Forest w (fun _ => True) x.a sx) (hn : 2 * Ev.sz x ≤ 90000) :
    Calls Tryd.prog 11 #[.agg #[sv, .int .i64 c], stv, treeV x sx] w fun e w' => ∃ f, e = .returned (.tuple #[.int .i64 (Ev.ev T s x).v, f]) ∧ Says w.heap.size w' f (Ev.ev T s x).word (Ev.ev T s x).at_ (Ev.ev T s x).err ∧ Below w.heap.size w w' := by
  have a1 := alloc_below w (.cells #[sv, .int .i64 c] TbT)
  have a2 := alloc_below (w.alloc (.cells #[sv, .int .i64 c] TbT)) (.cells #[.int .i64 x.kind, .int .i64 x.n, .string ⟨x.name.toArray⟩, sx] PET)
  have b2 := bthen a1 a2
  have hf1 := forest_one (t := PET) (hx.old b2) trivial
  have a3 := alloc_below ((w.alloc (.cells #[sv, .int .i64 c] TbT)).alloc (.cells #[.int .i64 x.kind, .int .i64 x.n, .string ⟨x.name.toArray⟩, sx] PET)) (.cells #[.int .i64 x.kind, .int .i64 x.n, .string ⟨x.name.toArray⟩, sx] PET)
  have b3 := bthen b2 a3
  have HV := hide (values_at w _ b3 sv c T stv s _ [x] hs ht hst hsl hf1 (by rw [Ev.szs, Ev.szs]; omega) (by simp))
  have hz : ((w.alloc (.cells #[sv, .int .i64 c] TbT)).alloc (.cells #[.int .i64 x.kind, .int .i64 x.n, .string ⟨x.name.toArray⟩, sx] PET)).heap.size = w.heap.size + 2 := by simp
  rw [hz] at HV
  have HR := hide (ev_one T s x)
  have HZ := hide (ev_ok T s x)
  obtain ⟨sa, sc, rfl⟩ := hs.shape
  obtain ⟨ta, tc, rfl⟩ := hst.shape
  obtain ⟨xa, xc, rfl⟩ := hx.shape
  clear a1 a2 a3 b2 b3 hf1 hs ht hst hx hz
  generalize Ev.evs T s [x] = RR at *
  generalize Ev.ev T s x = R at *
  generalize hTn : T.length = tn at *
  generalize hsn : s.length = sn at *
  generalize hxn : x.a.length = xn at *
  go_enter Tryd.func11, Tryd.ntmps11
  go_wp2_with fail
  refine (unhide HV).mono ?_
  rintro ev w5 ⟨dv, f, rfl, hvl, hb5⟩
  have HB5 := hide hb5
  clear hb5
  by_cases he : R.err = 0
  · have hRR : RR = .inr [R.v] := by rw [unhide HR, if_neg (by omega)]
    rw [hRR] at hvl
    obtain ⟨rfl, hi⟩ := hvl
    obtain ⟨ib, io, ic, rfl, h1, h2, hcl⟩ := hi.at (by simp)
    have c0 := hcl 0 (by simp)
    rw [List.length_singleton] at h1 ⊢
    simp only [Nat.add_zero, List.getElem_singleton] at c0
    have HE := hide he
    clear hcl hi hRR he
    go_wp2_with fail
    go_ret2
    exact ⟨_, rfl, .inl ⟨unhide HE, rfl⟩, unhide HB5⟩
  · have hRR : RR = .inl R := by rw [unhide HR, if_pos he]
    rw [hRR] at hvl
    obtain ⟨rfl, h0, hsy⟩ := hvl
    have HS := hide hsy
    rcases hsy with ⟨h9, _⟩ | ⟨_, bb, _, rfl, _, _, _⟩
    · exact absurd h9 he
    have hv0 := unhide HZ he
    have HV0 := hide hv0
    clear hv0 hRR
    go_wp2_with fail
    go_ret2
    exact ⟨_, by rw [unhide HV0]; rfl, unhide HS, unhide HB5⟩
/-- what Place answers -/
def placeP (T : List Sy) (s : List Int) (x : E) : Res := match Ev.evs T s (Ev.parts x) with | .inl r => r | .inr l => Ev.cellP T x.name l
theorem place_inl {T : List Sy} {s : List Int} {x : E} {r : Res} (h : Ev.evs T s (Ev.parts x) = .inl r) : placeP T s x = r := by unfold placeP; rw [h]
theorem place_inr {T : List Sy} {s : List Int} {x : E} {l : List Int} (h : Ev.evs T s (Ev.parts x) = .inr l) : placeP T s x = Ev.cellP T x.name l := by unfold placeP; rw [h]
theorem evs_zero (T : List Sy) (s : List Int) : ∀ (l : List E) (r : Res), Ev.evs T s l = .inl r → r.v = 0
  | [], r, h => by rw [Ev.evs] at h; cases h
  | x :: q, r, h => by
    rw [Ev.evs] at h
    split at h
    · rename_i h2; injection h with h; subst h; exact Ev.ev_zero T s x h2
    · split at h
      · rename_i h2; injection h with h; subst h; exact evs_zero T s q _ h2
      · cases h
set_option maxHeartbeats 8000000 in
set_option maxRecDepth 100000 in
theorem place_any (w : World) (sv : Value) (c : Int) (T : List Sy) (stv : Value) (s : List Int) (x : E) (sx : Value) (hs : Syms w sv T) (ht : Ev.Fine T) (hst : Ints w stv s) (hsl : s.length ≤ 1000000) (hx : Forest w (fun _ => True) x.a sx) (hn : 2 * Ev.sz x ≤ 90000) :
    Calls Tryd.prog 15 #[.agg #[sv, .int .i64 c], stv, treeV x sx] w fun e w' => ∃ f, e = .returned (.tuple #[.int .i64 (placeP T s x).v, f]) ∧ Says w.heap.size w' f (placeP T s x).word (placeP T s x).at_ (placeP T s x).err ∧ Below w.heap.size w w' := by
  have a1 := alloc_below w (.cells #[sv, .int .i64 c] TbT)
  have hbx := box_new (w.alloc (.cells #[sv, .int .i64 c] TbT)) x sx PET
  have a2 := alloc_below (w.alloc (.cells #[sv, .int .i64 c] TbT)) (.cells #[.int .i64 x.kind, .int .i64 x.n, .string ⟨x.name.toArray⟩, sx] PET)
  have z1 : (w.alloc (.cells #[sv, .int .i64 c] TbT)).heap.size = w.heap.size + 1 := by simp
  rw [z1] at hbx
  have b2 := bthen a1 a2
  have k0 : ((w.alloc (.cells #[sv, .int .i64 c] TbT)).alloc (.cells #[.int .i64 x.kind, .int .i64 x.n, .string ⟨x.name.toArray⟩, sx] PET)).cell? ⟨w.heap.size, 0, none⟩ = some sv := (a2.cell (p := ⟨w.heap.size, 0, none⟩) (by show w.heap.size < _; omega)).trans (by simp)
  have k1 : ((w.alloc (.cells #[sv, .int .i64 c] TbT)).alloc (.cells #[.int .i64 x.kind, .int .i64 x.n, .string ⟨x.name.toArray⟩, sx] PET)).cell? ⟨w.heap.size, 1, none⟩ = some (.int .i64 c) := (a2.cell (p := ⟨w.heap.size, 1, none⟩) (by show w.heap.size < _; omega)).trans (by simp)
  have hpf := partV_forest hx
  have hpz : 2 * Ev.szs (Ev.parts x) ≤ 90000 := by have := Ev.szs_parts x; omega
  have hpl : (Ev.parts x).length ≤ 90000 := by have := Ev.szs_len (Ev.parts x); omega
  generalize hW2 : (w.alloc (.cells #[sv, .int .i64 c] TbT)).alloc (.cells #[.int .i64 x.kind, .int .i64 x.n, .string ⟨x.name.toArray⟩, sx] PET) = W2 at *
  have d1 := below_drewN b2 1
  have HPT := hide (parts_any W2.drew (w.heap.size + 1) 0 x sx (hbx.below (below_drewN (Below.refl _ _) 1)))
  have hvv := values_any W2.drew sv c T stv s (partV x sx) (Ev.parts x) (hs.below d1) ht (hst.below d1) hsl (hpf.old d1) hpz hpl
  have HV : Hid (Calls Tryd.prog 23 #[.agg #[sv, .int .i64 c], stv, partV x sx] W2.drew fun e w' => ∃ dv f, e = .returned (.tuple #[dv, f]) ∧ VlsOk (Ev.evs T s (Ev.parts x)) w w' dv f ∧ Below w.heap.size w w' ∧ Below W2.heap.size W2 w') := hide (hvv.mono (by
    rintro e w' ⟨dv, f, h1, h2, h3⟩
    exact ⟨dv, f, h1, vls_mono h2 d1.size, bthen d1 h3, (below_drewN (Below.refl _ _) 1).trans h3⟩))
  have HBX : Hid (∀ w5, Below W2.heap.size W2 w5 → w5.cell? ⟨w.heap.size, 0, none⟩ = W2.cell? ⟨w.heap.size, 0, none⟩ ∧ w5.cell? ⟨w.heap.size, 1, none⟩ = W2.cell? ⟨w.heap.size, 1, none⟩) := hide (fun w5 h => ⟨h.cell (p := ⟨w.heap.size, 0, none⟩) (cell_lt k0), h.cell (p := ⟨w.heap.size, 1, none⟩) (cell_lt k1)⟩)
  have HNM : Hid (∀ w5, Below W2.heap.size W2 w5 → w5.cell? ⟨w.heap.size + 1, 2, none⟩ = some (.string ⟨x.name.toArray⟩)) := hide (fun w5 h => (h.cell (p := ⟨w.heap.size + 1, 2, none⟩) (cell_lt hbx.c2)).trans hbx.c2)
  have HCL : Hid (∀ w5 dv l, Below w.heap.size w w5 → Ints w5 dv l → l.length ≤ 1000000 → Calls Tryd.prog 27 #[.agg #[sv, .int .i64 c], .string ⟨x.name.toArray⟩, dv] w5 fun e w' => ∃ f, e = .returned (.tuple #[.int .i64 (Ev.cellP T x.name l).v, f]) ∧ Says w.heap.size w' f (Ev.cellP T x.name l).word (Ev.cellP T x.name l).at_ (Ev.cellP T x.name l).err ∧ Below w.heap.size w w') := hide (fun w5 dv l h1 h2 h3 => by
    refine (cell_any w5 sv c T x.name dv l (hs.below h1) ht h2 h3).mono ?_
    rintro e w' ⟨f, q1, q2, q3⟩
    exact ⟨f, q1, says_mono q2 h1.size, bthen h1 q3⟩)
  have HT0 := hide k0
  have HT1 := hide k1
  have HEL := hide (Ev.evs_len T s (Ev.parts x))
  have HIL := hide (fun r => place_inl (T := T) (s := s) (x := x) (r := r))
  have HIR := hide (fun l => place_inr (T := T) (s := s) (x := x) (l := l))
  have HEZ := hide (evs_zero T s (Ev.parts x))
  have HW2 := hide hW2
  obtain ⟨pa, pc, hpv⟩ := hpf.shape
  rw [hpv] at HPT HV
  obtain ⟨sa, sc, rfl⟩ := hs.shape
  obtain ⟨ta, tc, rfl⟩ := hst.shape
  obtain ⟨xa, xc, rfl⟩ := hx.shape
  clear hvv a1 a2 b2 d1 k0 k1 hs ht hst hx hbx hpf hpz hW2 hpv z1
  generalize Ev.evs T s (Ev.parts x) = RR at *
  generalize placeP T s x = R at *
  generalize hTn : T.length = tn at *
  generalize hsn : s.length = sn at *
  generalize hxn : x.a.length = xn at *
  generalize hpn : (Ev.parts x).length = pn at *
  go_enter Tryd.func15, Tryd.ntmps15
  go_wp2_with fail
  rw [unhide HW2]
  refine wp_regionE (fun W => W.cell? ⟨w.heap.size, 0, none⟩ = some (.slice sa tn sc) ∧ W.cell? ⟨w.heap.size, 1, none⟩ = some (.int .i64 c)) (fun j => decide (j < 9)) (by kernel_rfl) ⟨unhide HT0, unhide HT1⟩ (fun hS => ?_)
  refine anyE_take 0 (v := ?_) rfl (by kernel_rfl) (by kernel_rfl) (by kernel_rfl) (by kernel_rfl) (fun _ _ _ h => h) hS (Or.inl ⟨by rfl, ?_⟩) ?_
  rotate_left
  · intro w' hS'
    obtain ⟨e1, e2⟩ := hS'
    go_simp
    try with_reducible rfl
  try simp only [List.getElem_toArray, List.getElem_cons_zero, Act.put, List.setIfInBounds_toArray, List.set_cons_zero, List.set_cons_succ]
  refine anyE_take 1 (v := ?_) rfl (by kernel_rfl) (by kernel_rfl) (by kernel_rfl) (by kernel_rfl) (fun _ _ _ h => h) hS (Or.inl ⟨by rfl, ?_⟩) ?_
  rotate_left
  · intro w' hS'
    obtain ⟨e1, e2⟩ := hS'
    go_simp
    try with_reducible rfl
  try simp only [List.getElem_toArray, List.getElem_cons_succ, List.getElem_cons_zero, Act.put, List.setIfInBounds_toArray, List.set_cons_zero, List.set_cons_succ]
  refine anyE_ready [2] (by kernel_rfl) (by simp) (ReadyE.cons rfl (fun K' hK => ?_) ReadyE.nil)
  go_simp
  go_at_call 26
  refine (unhide HPT).mono ?_
  rintro ev w9 ⟨rfl, hw9⟩
  have hw9 := hw9.symm
  subst hw9
  dsimp only
  try go_simp
  refine hK _ _ (fun _ => hS) ?_
  clear hK K'
  try simp only [List.getElem_toArray, List.getElem_cons_succ, List.getElem_cons_zero, Act.put, List.setIfInBounds_toArray, List.set_cons_zero, List.set_cons_succ]
  refine anyE_ready [3] (by kernel_rfl) (by simp) (ReadyE.cons rfl (fun K' hK => ?_) ReadyE.nil)
  go_simp
  go_at_call 23
  refine (unhide HV).mono ?_
  rintro ev w5 ⟨dv, f, rfl, hvl, hb5, hk5⟩
  have hS5 : w5.cell? ⟨w.heap.size, 0, none⟩ = some (.slice sa tn sc) ∧ w5.cell? ⟨w.heap.size, 1, none⟩ = some (.int .i64 c) := ⟨((unhide HBX w5 hk5).1).trans (unhide HT0), ((unhide HBX w5 hk5).2).trans (unhide HT1)⟩
  have HV5 := hide hvl
  have HB5 := hide hb5
  have HK5 := hide hk5
  have HS5 := hide hS5
  clear hvl hb5 hS5 hk5
  dsimp only
  try go_simp
  refine hK _ _ (fun _ => unhide HS5) ?_
  clear hK K'
  try simp only [List.getElem_toArray, List.getElem_cons_succ, List.getElem_cons_zero, Act.put, List.setIfInBounds_toArray, List.set_cons_zero, List.set_cons_succ]
  clear hS
  have hS := unhide HS5
  refine anyE_take 4 (v := ?_) rfl (by kernel_rfl) (by kernel_rfl) (by kernel_rfl) (by kernel_rfl) (fun _ _ _ h => h) hS (Or.inl ⟨by rfl, ?_⟩) ?_
  rotate_left
  · intro w' hS'
    obtain ⟨e1, e2⟩ := hS'
    go_simp
    try with_reducible rfl
  try simp only [List.getElem_toArray, List.getElem_cons_succ, List.getElem_cons_zero, Act.put, List.setIfInBounds_toArray, List.set_cons_zero, List.set_cons_succ]
  refine anyE_take 5 (v := ?_) rfl (by kernel_rfl) (by kernel_rfl) (by kernel_rfl) (by kernel_rfl) (fun _ _ _ h => h) hS (Or.inl ⟨by rfl, ?_⟩) ?_
  rotate_left
  · intro w' hS'
    obtain ⟨e1, e2⟩ := hS'
    go_simp
    try with_reducible rfl
  try simp only [List.getElem_toArray, List.getElem_cons_succ, List.getElem_cons_zero, Act.put, List.setIfInBounds_toArray, List.set_cons_zero, List.set_cons_succ]
  refine anyE_take 6 (v := ?_) rfl (by kernel_rfl) (by kernel_rfl) (by kernel_rfl) (by kernel_rfl) (fun _ _ _ h => h) hS (Or.inl ⟨by rfl, ?_⟩) ?_
  rotate_left
  · intro w' hS'
    obtain ⟨e1, e2⟩ := hS'
    go_simp
    try with_reducible rfl
  try simp only [List.getElem_toArray, List.getElem_cons_succ, List.getElem_cons_zero, Act.put, List.setIfInBounds_toArray, List.set_cons_zero, List.set_cons_succ]
  refine anyE_take 7 (v := ?_) rfl (by kernel_rfl) (by kernel_rfl) (by kernel_rfl) (by kernel_rfl) (fun _ _ _ h => h) hS (Or.inl ⟨by rfl, ?_⟩) ?_
  rotate_left
  · intro w' hS'
    obtain ⟨e1, e2⟩ := hS'
    go_simp
    try with_reducible rfl
  try simp only [List.getElem_toArray, List.getElem_cons_succ, List.getElem_cons_zero, Act.put, List.setIfInBounds_toArray, List.set_cons_zero, List.set_cons_succ]
  refine anyE_take 8 (v := ?_) rfl (by kernel_rfl) (by kernel_rfl) (by kernel_rfl) (by kernel_rfl) (fun _ _ _ h => h) hS (Or.inl ⟨by rfl, ?_⟩) ?_
  rotate_left
  · intro w' hS'
    obtain ⟨e1, e2⟩ := hS'
    go_simp
    try with_reducible rfl
  try simp only [List.getElem_toArray, List.getElem_cons_succ, List.getElem_cons_zero, Act.put, List.setIfInBounds_toArray, List.set_cons_zero, List.set_cons_succ]
  refine anyE_done (by kernel_rfl) ?_ _
  clear hS HS5 HPT HV
  have t0 := ((unhide HBX) w5 (unhide HK5)).1.trans (unhide HT0)
  have t1 := ((unhide HBX) w5 (unhide HK5)).2.trans (unhide HT1)
  have t2 := unhide HNM w5 (unhide HK5)
  have hvl := unhide HV5
  cases hRR : RR with
  | inl r =>
    rw [hRR] at hvl
    obtain ⟨rfl, h0, hsy⟩ := hvl
    have hR := unhide HIL r hRR
    have HR := hide hR
    have HRZ := hide (unhide HEZ r hRR)
    have HS := hide hsy
    clear hR hRR
    rcases hsy with ⟨h9, _⟩ | ⟨_, bb, _, rfl, _, _, _⟩
    · exact absurd h9 h0
    go_wp2_with fail
    go_ret2
    exact ⟨_, by rw [unhide HR, unhide HRZ]; rfl, by rw [unhide HR]; exact unhide HS, unhide HB5⟩
  | inr l =>
    rw [hRR] at hvl
    obtain ⟨rfl, hi⟩ := hvl
    have HR := hide (unhide HIR l hRR)
    have hll := unhide HEL l hRR
    have HC := hide (unhide HCL w5 dv l (unhide HB5) hi (by omega))
    obtain ⟨la, lc, rfl⟩ := hi.shape
    clear hRR hll
    generalize hln : l.length = ln at *
    clear hln
    go_wp2_with fail
    refine (unhide HC).mono ?_
    rintro ev w6 ⟨f6, rfl, hf6, hb6⟩
    have HF6 := hide hf6
    have HB6 := hide hb6
    clear hf6 hb6
    go_wp2_with fail
    go_ret2
    exact ⟨_, by rw [unhide HR]; rfl, by rw [unhide HR]; exact unhide HF6, unhide HB6⟩
end Go.Proofs.YtomnbidppkpfiaaDoor.Line
